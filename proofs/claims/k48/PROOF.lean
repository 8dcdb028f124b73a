import PyProof.Rows.All
import Wide.All
import OpenK.AllK
import Wide.FinOn
import Lean
import PyProof.EqAt
import PyProof.EqKinds
import PyProof.TupleCall
import PyProof.P3Eq
import PyProof.P3In
import PyProof.NeData
import PyProof.FitsBits
import PySem.Challenge.RW_leadtimes_k48_whole_turned_about
noncomputable section
set_option compiler.extract_closed false
set_option Elab.async false
set_option linter.all false
set_option maxRecDepth 100000
namespace L2
open PySem PySem.Spec PyProof.Rows
abbrev Key := Sum Int Str
noncomputable def keyIs : Key → Value → Bool
 | .inl k, v => Value.isInt k v
 | .inr x, v => Value.isStrOf x v
noncomputable def keyH (w : World) : Key → Int
 | .inl k => hashInt k
 | .inr x => hashStr w x
theorem dW : ∀ {k : Key} {v : Value}, keyIs k v = true → (∃ i t, k = Sum.inl i ∧ v = Value.int i t) ∨ (∃ x t, k = Sum.inr x ∧ v = Value.str x t)
 | .inl i, v, h => by
  obtain ⟨t, e⟩ := Value.isInt_shape (k := i) (v := v) h
  exact .inl ⟨i, t, rfl, e⟩
 | .inr x, v, h => by
  obtain ⟨t, e⟩ := Value.isStrOf_shape (x := x) (v := v) h
  exact .inr ⟨x, t, rfl, e⟩
theorem key_ll (a b : Int) : decide ((Sum.inl a : Key) = Sum.inl b) = (a == b) := by
 by_cases e : a = b
 ·subst e; simp
 ·have h : ¬ (Sum.inl a : Key) = Sum.inl b := fun q => e (Sum.inl.inj q)
  rw [decide_eq_false h]
  exact (beq_eq_false_iff_ne.mpr e).symm
theorem key_rr (a b : Str) : decide ((Sum.inr a : Key) = Sum.inr b) = decide (a = b) := by
 by_cases e : a = b
 ·subst e; simp
 ·have h : ¬ (Sum.inr a : Key) = Sum.inr b := fun q => e (Sum.inr.inj q)
  rw [decide_eq_false h, decide_eq_false e]
theorem key_lr (a : Int) (b : Str) : decide ((Sum.inl a : Key) = Sum.inr b) = false := decide_eq_false (fun q => nomatch q)
theorem key_rl (a : Str) (b : Int) : decide ((Sum.inr a : Key) = Sum.inl b) = false := decide_eq_false (fun q => nomatch q)
noncomputable def mixKind (prog : Program) (w : World) : PySem.KeyKind prog w Key where
 is := keyIs
 hash := keyH w
 inj := fun v a b ha hb => by
  rcases dW ha with ⟨i, t, rfl, rfl⟩ | ⟨x, t, rfl, rfl⟩
  ·rcases dW hb with ⟨j, u, rfl, e⟩ | ⟨y, u, rfl, e⟩
   ·injection e with e1 _; rw [e1]
   ·exact nomatch e
  ·rcases dW hb with ⟨j, u, rfl, e⟩ | ⟨y, u, rfl, e⟩
   ·exact nomatch e
   ·injection e with e1 _; rw [e1]
 byValue := fun k v h => by
  rcases dW h with ⟨i, t, rfl, rfl⟩ | ⟨x, t, rfl, rfl⟩ <;> rfl
 pyHash := fun hv h => by
  rcases dW hv with ⟨i, t, rfl, rfl⟩ | ⟨x, t, rfl, rfl⟩
  ·exact wpAny_pyHash_int h
  ·exact wpAny_pyHash_str h
 eqBool := fun hu hv h => by
  rcases dW hu with ⟨i, t, rfl, rfl⟩ | ⟨x, t, rfl, rfl⟩
  ·rcases dW hv with ⟨j, u, rfl, rfl⟩ | ⟨y, u, rfl, rfl⟩
   ·rw [key_ll] at h; exact wpAny_eqBool_int h
   ·rw [key_lr] at h; exact SeqAt.EqAt.int_str i t y u _ _ _ _ h
  ·rcases dW hv with ⟨j, u, rfl, rfl⟩ | ⟨y, u, rfl, rfl⟩
   ·rw [key_rl] at h; exact SeqAt.EqAt.str_int x t j u _ _ _ _ h
   ·rw [key_rr] at h; exact wpAny_eqBool_str h
 «strs» := fun k x t v h => by
  rcases dW h with ⟨i, u, rfl, e⟩ | ⟨y, u, rfl, e⟩
  ·exact nomatch e
  ·injection e with e1 _
   subst e1
   cases v <;> rfl
end L2
namespace L2
open PySem PySem.Spec PyProof.Rows
inductive V where
 | non | bl (b : Bool) | int (i : Int) | str (x : Str) | byt (b : Array UInt8) | flt (b : UInt64) | ref (a : Addr) | ty (n : String)
 deriving DecidableEq
noncomputable def RelV : V → Value → Prop
 | .non, u => u = Value.none
 | .bl b, u => u = Value.bool b
 | .int i, u => ∃ t, u = Value.int i t
 | .str x, u => ∃ t, u = Value.str x t
 | .byt b, u => ∃ t, u = Value.bytes b t
 | .flt b, u => ∃ t, u = Value.float b t
 | .ref a, u => u = Value.ref a
 | .ty n, u => u = Value.type n
abbrev Vals : List V → List Value → Prop := Paired RelV
theorem Vals.length {xs : List V} {us : List Value} (r : Vals xs us) : xs.length = us.length := Paired.length r
theorem Vals.get : ∀ {xs : List V} {us : List Value} {i : Nat} {x : V}, Vals xs us → xs[i]? = some x → ∃ u, us[i]? = some u ∧ RelV x u
 | _, _, _, _, .nil, e => by simp at e
 | _, _, 0, _, .cons r _, e => by simp at e; subst e; exact ⟨_, rfl, r⟩
 | _, _, i + 1, x, .cons _ t, e => by
  obtain ⟨u, h1, h2⟩ := Vals.get (i := i) (x := x) t (by simpa using e)
  exact ⟨u, by simpa using h1, h2⟩
theorem Vals.set {x : V} {u : Value} (r : RelV x u) : ∀ {xs : List V} {us : List Value} (i : Nat), Vals xs us → Vals (xs.set i x) (us.set i u)
 | _, _, _, .nil => .nil
 | _, _, 0, .cons _ t => .cons r t
 | _, _, i + 1, .cons q t => .cons q (Vals.set r i t)
theorem Vals.append : ∀ {xs ys : List V} {us ws : List Value}, Vals xs us → Vals ys ws → Vals (xs ++ ys) (us ++ ws) := by
 intro xs ys us ws h q
 induction h with
 | nil => exact q
 | cons r t ih => exact .cons r ih
theorem Vals.take : ∀ {xs : List V} {us : List Value} (n : Nat), Vals xs us → Vals (xs.take n) (us.take n)
 | _, _, 0, _ => .nil
 | _, _, _ + 1, .nil => .nil
 | _, _, n + 1, .cons r t => .cons r (Vals.take n t)
theorem Vals.drop : ∀ {xs : List V} {us : List Value} (n : Nat), Vals xs us → Vals (xs.drop n) (us.drop n)
 | _, _, 0, r => r
 | _, _, _ + 1, .nil => .nil
 | _, _, n + 1, .cons _ t => Vals.drop n t
theorem Vals.none_of : ∀ {xs : List V} {us : List Value} {i : Nat}, Vals xs us → xs[i]? = none → us[i]? = none := fun {xs us i} r e => by
 have h1 := r.length
 have h2 : xs.length ≤ i := List.getElem?_eq_none_iff.mp e
 exact List.getElem?_eq_none_iff.mpr (by omega)
noncomputable def RelO : Option V → Option Value → Prop
 | some v, some u => RelV v u
 | none, none => True
 | _, _ => False
noncomputable def KV {κ : Type} : List (κ × V) → List (κ × Value) → Prop := Paired fun (p : κ × V) (q : κ × Value) => p.1 = q.1 ∧ RelV p.2 q.2
noncomputable def kV : Key → V
 | .inl i => .int i
 | .inr x => .str x
inductive HO where
 | lst (xs : List V)
 | tup (xs : List V)
 | dK (kvs : List (Key × V)) | dT (kvs : List (List Key × V))
 | set (S : Int → Bool) (n : Nat)
 | ins (C dx : Addr) (fs : List (Str × V))
 | own (x : Addr)
 | xd (fs : List (Str × V))
 | met (f x : Addr)
 | rng (lo hi : Int)
 | frz (o : Obj) (u : HO)
 | tbl (ps : Array Value)
 | ext (φ : Heap → Prop)
abbrev Hp := Addr → Option HO
noncomputable def upd (H : Hp) (a : Addr) (o : HO) : Hp := fun b => if b = a then some o else H b
theorem bM {H : Hp} {a : Addr} {o : HO} : upd H a o a = some o := by unfold upd; rw [if_pos rfl]
theorem aY {H : Hp} {a b : Addr} {o : HO} (h : b ≠ a) : upd H a o b = H b := by unfold upd; rw [if_neg h]
theorem ne_of {H : Hp} {a b : Addr} {o u : HO} (h : H a = some o) (h' : H b = some u) (d : o ≠ u) : a ≠ b := by
 intro e; subst e; rw [h] at h'; exact d (Option.some.inj h')
theorem aZ {H : Hp} {a b : Addr} {o : HO} (h : H a = some o) (h' : H b = none) : a ≠ b := by
 intro e; subst e; rw [h] at h'; cases h'
section
variable (P : Program) (w : World)
noncomputable def ObjOk (H : Hp) (h : Heap) (a : Addr) : HO → Prop
 | .lst xs => xs.length ≤ sizeLine ∧ ∃ (its : List Value) (n : Nat), Vals xs its ∧ h.get? a = some { cls := .type "list", data := .seq its.toArray n }
 | .tup xs => xs.length ≤ sizeLine ∧ ∃ its : List Value, Vals xs its ∧ IsTup h a its.toArray
 | .dK kvs => kvs.length ≤ sizeLine ∧ (a == sysModules) = false ∧ ∃ vs, KV kvs vs ∧ h.DictOf (mixKind P w) a vs
 | .dT kvs => kvs.length ≤ sizeLine ∧ (a == sysModules) = false ∧ ∃ xs : List (List Key × Addr × Value),
   Paired (fun (p : List Key × V) (q : List Key × Addr × Value) => p.1 = q.1 ∧ H q.2.1 = some (.tup (p.1.map kV)) ∧ RelV p.2 q.2.2) kvs xs ∧
   ∃ o es ep, h.get? a = some o ∧ o.ExactDict ∧ o.data = .dict es ep ∧ es.toList = xs.map (entryOfKey (tupleKind (mixKind P w))) ∧ (xs.map (·.1)).Nodup
 | .set S n => h.SetOf (intKind P w) a S n
 | .ins C dx fs => H dx = some (.own a) ∧ fs.length ≤ 1000 ∧ dx ≠ a ∧ h.get? a = some (PySem.W.instObj C dx) ∧
   ∃ mA, h.Ns1 dx mA ∧ (∀ f, RelO (fs.lookup f) (mA f)) ∧ PySem.Within mA (fs.map (·.1))
 | .own _ => ∃ o, h.get? a = some o
 | .xd fs => ∃ mA, h.Ns1 a mA ∧ ∀ f, RelO (fs.lookup f) (mA f)
 | .rng lo hi => ∃ t u v, h.get? a = some { cls := .type "range", data := .fields #[.int lo t, .int hi u, .int 1 v] }
 | .frz o u => h.get? a = some o ∧ ObjOk H h a u
 | .tbl ps => h.get? a = some { cls := .none, data := .fields ps }
 | .met f x => h.get? a = some (PySem.W.methodObj (.ref f) (.ref x))
 | .ext φ => φ h ∧ (∃ o, h.get? a = some o) ∧ ∀ h1 h2 : Heap, φ h1 → (∀ o, h1.get? a = some o → h2.get? a = some o) → φ h2
noncomputable def HOk (H : Hp) (h : Heap) : Prop := ∀ a o, H a = some o → ObjOk P w H h a o
end
section
variable {P : Program} {w : World} {H H' : Hp} {h h' : Heap} {a : Addr} {o : HO}
theorem ObjOk.lt (x : ObjOk P w H h a o) : a < h.objs.size := by
 cases o with
 | lst xs => obtain ⟨_, _, _, _, e⟩ := x; exact Heap.lt_size e
 | tup xs => obtain ⟨_, _, _, p⟩ := x; exact p.lt
 | dK kvs => obtain ⟨_, _, _, _, o, _, _, e, _⟩ := x; exact Heap.lt_size e
 | dT kvs => obtain ⟨_, _, _, _, o, _, _, e, _⟩ := x; exact Heap.lt_size e
 | set S n => obtain ⟨o, _, _, _, e, _⟩ := x; exact Heap.lt_size e
 | ins C dx fs => obtain ⟨_, _, _, e, _⟩ := x; exact Heap.lt_size e
 | own y => obtain ⟨_, e⟩ := x; exact Heap.lt_size e
 | xd fs => obtain ⟨_, ⟨_, _, _, e, _⟩, _⟩ := x; exact Heap.lt_size e
 | rng lo hi => obtain ⟨_, _, _, e⟩ := x; exact Heap.lt_size e
 | frz ob u => obtain ⟨e, _⟩ := x; exact Heap.lt_size e
 | tbl ps => exact Heap.lt_size (show h.get? a = some _ from x)
 | met f y => exact Heap.lt_size (show h.get? a = some _ from x)
 | ext φ => obtain ⟨_, ⟨_, e⟩, _⟩ := x; exact Heap.lt_size e
theorem Paired.mapP {α β : Type} {F G : α → β → Prop} : ∀ {l₁ : List α} {l₂ : List β}, Paired F l₁ l₂ → (∀ a b, F a b → G a b) → Paired G l₁ l₂ := by
 intro l₁ l₂ h f
 induction h with
 | nil => exact .nil
 | cons r t ih => exact .cons (f _ _ r) ih
theorem Paired.imp' {α β : Type} {F G : α → β → Prop} (f : ∀ a b, F a b → G a b) {l₁ : List α} {l₂ : List β} (r : Paired F l₁ l₂) : Paired G l₁ l₂ := Paired.mapP r f
theorem ObjOk.stay (x : ObjOk P w H h a o) (k : ∀ b u, (b = a ∨ H b = some (.own a)) → h.get? b = some u → h'.get? b = some u)
  (ho : ∀ b, H b = some (.own a) → H' b = some (.own a)) (ht : ∀ b xs, H b = some (.tup xs) → H' b = some (.tup xs)) : ObjOk P w H' h' a o := by
 induction o with
 | lst xs => obtain ⟨z, its, n, r, e⟩ := x; exact ⟨z, its, n, r, k _ _ (.inl rfl) e⟩
 | tup xs => obtain ⟨z, its, r, ob, e, c⟩ := x; exact ⟨z, its, r, ob, k _ _ (.inl rfl) e, c⟩
 | dK kvs => obtain ⟨z, y, vs, r, ob, es, ep, e, c⟩ := x; exact ⟨z, y, vs, r, ob, es, ep, k _ _ (.inl rfl) e, c⟩
 | dT kvs =>
  obtain ⟨z, y, xs, r, ob, es, ep, e, c⟩ := x
  exact ⟨z, y, xs, Paired.mapP r fun p q z => ⟨z.1, ht _ _ z.2.1, z.2.2⟩, ob, es, ep, k _ _ (.inl rfl) e, c⟩
 | set S n => obtain ⟨ob, es, ep, t, e, c⟩ := x; exact ⟨ob, es, ep, t, k _ _ (.inl rfl) e, c⟩
 | ins C dx fs =>
  obtain ⟨d, z, ne, e, mA, ⟨od, es, ep, e2, c⟩, r⟩ := x
  exact ⟨ho _ d, z, ne, k _ _ (.inl rfl) e, mA, ⟨od, es, ep, k _ _ (.inr d) e2, c⟩, r⟩
 | own y => obtain ⟨ob, e⟩ := x; exact ⟨ob, k _ _ (.inl rfl) e⟩
 | xd fs => obtain ⟨mA, ⟨od, es, ep, e, c⟩, r⟩ := x; exact ⟨mA, ⟨od, es, ep, k _ _ (.inl rfl) e, c⟩, r⟩
 | rng lo hi => obtain ⟨t, u, v, e⟩ := x; exact ⟨t, u, v, k _ _ (.inl rfl) e⟩
 | frz ob u ih => obtain ⟨e, q⟩ := x; exact ⟨k _ _ (.inl rfl) e, ih q⟩
 | tbl ps =>
  have e : h.get? a = some { cls := .none, data := .fields ps } := x
  show h'.get? a = some { cls := .none, data := .fields ps }
  exact k a _ (.inl rfl) e
 | met f y =>
  have e : h.get? a = some (PySem.W.methodObj (.ref f) (.ref y)) := x
  show h'.get? a = some (PySem.W.methodObj (.ref f) (.ref y))
  exact k a _ (.inl rfl) e
 | ext φ => obtain ⟨p, ⟨o, e⟩, st⟩ := x; exact ⟨st _ _ p fun o q => k _ _ (.inl rfl) q, ⟨o, k _ _ (.inl rfl) e⟩, st⟩
theorem HOk.lt (x : HOk P w H h) (e : H a = some o) : a < h.objs.size := (x a o e).lt
theorem HOk.fresh (x : HOk P w H h) (e : h.objs.size ≤ a) : H a = none := by
 cases q : H a with
 | none => rfl
 | some u => exact absurd (Nat.lt_of_lt_of_le (x.lt q) e) (Nat.lt_irrefl _)
theorem HOk.kept (x : HOk P w H h) (k : ∀ b u, h.get? b = some u → h'.get? b = some u) : HOk P w H h' := fun a o e =>
 (x a o e).stay (fun b u _ q => k b u q) (fun _ q => q) fun _ _ q => q
theorem HOk.laid (x : HOk P w H h) (k : ∀ b u, h.get? b = some u → h'.get? b = some u) (hp : h.objs.size ≤ a) (new : ObjOk P w (upd H a o) h' a o) : HOk P w (upd H a o) h' := fun b u e => by
 have hn := x.fresh hp
 by_cases hb : b = a
 ·subst hb; rw [bM] at e; cases e; exact new
 ·rw [aY hb] at e
  exact (x b u e).stay (fun c v _ q => k c v q) (fun c q => by rw [aY (aZ q hn)]; exact q) fun c xs q => by rw [aY (aZ q hn)]; exact q
end
noncomputable def Rd (H : Hp) (a : Addr) (u : HO) : Prop := H a = some u ∨ ∃ o, H a = some (.frz o u)
theorem Rd.of {H : Hp} {a : Addr} {u : HO} (h : H a = some u) : Rd H a u := .inl h
theorem Rd.ok {P : Program} {w : World} {H : Hp} {h : Heap} {a : Addr} {u : HO} (r : Rd H a u) (x : HOk P w H h) : ObjOk P w H h a u := by
 rcases r with r | ⟨o, r⟩
 ·exact x a u r
 ·obtain ⟨_, q⟩ := x a _ r
  exact q
noncomputable def Mut : Option HO → Prop
 | some (.lst _) => True
 | some (.dK _) => True
 | some (.dT _) => True
 | some (.set _ _) => True
 | some (.ins _ _ _) => True
 | some (.ext _) => True
 | _ => False
section
variable {P : Program} {w : World} {H : Hp} {h h' : Heap} {x e : Addr} {o' : HO}
theorem HOk.write (ok : HOk P w H h) (mu : Mut (H x)) (he : e = x ∨ H e = some (.own x)) (k : ∀ b u, b ≠ e → h.get? b = some u → h'.get? b = some u) (heo : ∃ u, h'.get? e = some u)
  (new : ObjOk P w (upd H x o') h' x o') : HOk P w (upd H x o') h' := fun b u q => by
 have nown : ∀ c y, H c = some (.own y) → c ≠ x := fun c y r z => by subst z; rw [r] at mu; exact mu
 have ntup : ∀ c xs, H c = some (.tup xs) → c ≠ x := fun c xs r z => by subst z; rw [r] at mu; exact mu
 by_cases hb : b = x
 ·subst hb; rw [bM] at q; cases q; exact new
 ·rw [aY hb] at q
  by_cases hbe : b = e
  ·have q' : H b = some (.own x) := by
    rcases he with z | z
    ·exact absurd (hbe.trans z) hb
    ·rw [hbe]; exact z
   rw [q] at q'; cases q'
   obtain ⟨v, hv⟩ := heo
   exact ⟨v, by rw [hbe]; exact hv⟩
  ·refine (ok b u q).stay (fun c v hc r => k c v ?_ r) (fun c r => by rw [aY (nown c b r)]; exact r) fun c xs r => by rw [aY (ntup c xs r)]; exact r
   rcases hc with rfl | hc
   ·exact hbe
   ·rintro rfl
    rcases he with z | z
    ·exact nown c b hc z
    ·rw [hc] at z; cases z; exact hb rfl
end
structure Un (fs ex : List Addr) (H H' : Hp) (h h' : Heap) : Prop where
 keep : ∀ b o, h.get? b = some o → H b = none → b ∉ fs → b ∉ ex → h'.get? b = some o
 slot : ∀ b o, h.get? b = some o → H b = none → b ∈ fs → b ∉ ex → ∃ sl, h'.get? b = some { o with slots := sl }
 free : ∀ b o, h.get? b = some o → H b = none → b ∉ ex → H' b = none
 there : ∀ b o, h.get? b = some o → b ∉ ex → ∃ o', h'.get? b = some o'
 tups : ∀ b xs, H b = some (.tup xs) → H' b = some (.tup xs)
 frzs : ∀ b o u, H b = some (.frz o u) → H' b = some (.frz o u)
 tbls : ∀ b ps, H b = some (.tbl ps) → ∃ more, H' b = some (.tbl (ps ++ more))
section
variable {fs fs' ex ex' : List Addr} {H H1 H2 : Hp} {h h1 h2 h' : Heap} {a x e : Addr} {o : HO}
theorem Un.any (u : Un fs ex H H1 h h1) {b : Addr} {ob : Obj} (q : h.get? b = some ob) (n : H b = none) (hx : b ∉ ex) : ∃ sl, h1.get? b = some { ob with slots := sl } := by
 by_cases hb : b ∈ fs
 ·exact u.slot b ob q n hb hx
 ·exact ⟨ob.slots, u.keep b ob q n hb hx⟩
theorem Un.trans (a : Un fs ex H H1 h h1) (b : Un fs ex H1 H2 h1 h2) : Un fs ex H H2 h h2 where
 keep := fun c ob q n hc hx => b.keep c ob (a.keep c ob q n hc hx) (a.free c ob q n hx) hc hx
 slot := fun c ob q n hc hx => by
  obtain ⟨sl, e1⟩ := a.slot c ob q n hc hx
  obtain ⟨sl', e2⟩ := b.slot c _ e1 (a.free c ob q n hx) hc hx
  exact ⟨sl', e2⟩
 free := fun c ob q n hx => by
  obtain ⟨o', e1⟩ := a.there c ob q hx
  exact b.free c o' e1 (a.free c ob q n hx) hx
 there := fun c ob q hx => by
  obtain ⟨o', e1⟩ := a.there c ob q hx
  exact b.there c o' e1 hx
 tups := fun c xs q => b.tups c xs (a.tups c xs q)
 frzs := fun c ob xs q => b.frzs c ob xs (a.frzs c ob xs q)
 tbls := fun c ps q => by
  obtain ⟨m1, e1⟩ := a.tbls c ps q
  obtain ⟨m2, e2⟩ := b.tbls c _ e1
  exact ⟨m1 ++ m2, by rw [e2, Array.append_assoc]⟩
theorem Un.kept (k : ∀ b u, h.get? b = some u → h'.get? b = some u) : Un fs ex H H h h' :=
 ⟨fun b ob q _ _ _ => k b ob q, fun b ob q _ _ _ => ⟨ob.slots, k b ob q⟩, fun _ _ _ n _ => n, fun b ob q _ => ⟨ob, k b ob q⟩, fun _ _ q => q, fun _ _ _ q => q, fun _ ps q => ⟨#[], by rw [q]; simp⟩⟩
theorem Un.refl : Un fs ex H H h h := Un.kept fun _ _ q => q
theorem Un.laid (k : ∀ b u, h.get? b = some u → h'.get? b = some u) (hp : h.objs.size ≤ a) (hn : H a = none) : Un fs ex H (upd H a o) h h' where
 keep := fun b u q _ _ _ => k b u q
 slot := fun b u q _ _ _ => ⟨u.slots, k b u q⟩
 free := fun b u q n _ => by rw [aY (Nat.ne_of_lt (Nat.lt_of_lt_of_le (Heap.lt_size q) hp))]; exact n
 there := fun b u q _ => ⟨u, k b u q⟩
 tups := fun b xs q => by rw [aY (aZ q hn)]; exact q
 frzs := fun b u xs q => by rw [aY (aZ q hn)]; exact q
 tbls := fun b ps q => ⟨#[], by rw [aY (aZ q hn), q]; simp⟩
theorem Un.write (mu : Mut (H x)) (he : e = x ∨ H e = some (.own x)) (k : ∀ b u, b ≠ e → h.get? b = some u → h'.get? b = some u) (heo : ∃ u, h'.get? e = some u) : Un fs ex H (upd H x o) h h' := by
 have hx : ∀ b, H b = none → b ≠ x := fun b n z => by subst z; rw [n] at mu; exact mu
 have hb : ∀ b, H b = none → b ≠ e := fun b n z => by
  subst z
  rcases he with r | r
  ·exact hx b n r
  ·rw [n] at r; cases r
 have hm : ∀ b u, H b = some u → ¬ Mut (some u) → b ≠ x := fun b u q nm z => by subst z; rw [q] at mu; exact nm mu
 refine ⟨fun b u q n _ _ => k b u (hb b n) q, fun b u q n _ _ => ⟨u.slots, k b u (hb b n) q⟩, fun b u q n _ => by rw [aY (hx b n)]; exact n, fun b u q _ => ?_,
  fun b xs q => by rw [aY (hm b _ q fun z => z)]; exact q, fun b u xs q => by rw [aY (hm b _ q fun z => z)]; exact q, fun b ps q => ⟨#[], by rw [aY (hm b _ q fun z => z), q]; simp⟩⟩
 by_cases hbe : b = e
 ·subst hbe; exact heo
 ·exact ⟨u, k b u hbe q⟩
theorem Un.mono (u : Un fs ex H H1 h h1) (hs : ∀ b ∈ fs, b ∈ fs') (hx : ∀ b ∈ ex, b ∈ ex') : Un fs' ex' H H1 h h1 :=
 ⟨fun b ob q n hb he => u.keep b ob q n (fun z => hb (hs b z)) fun z => he (hx b z), fun _ _ q n _ he => u.any q n fun z => he (hx _ z), fun b ob q n he => u.free b ob q n fun z => he (hx b z), fun b ob q he => u.there b ob q fun z => he (hx b z), u.tups, u.frzs, u.tbls⟩
end
noncomputable def trk (h : Heap) (H : Hp) : List Addr := (List.range h.objs.size).filter fun a => (H a).isSome
noncomputable def hidT (h : Heap) (H : Hp) : Heap := PySem.W.hideAll h (trk h H)
theorem hidT_size (h : Heap) (H : Hp) : (hidT h H).objs.size = h.objs.size := PySem.W.hideAll_size _ _
theorem hidT_get {h : Heap} {H : Hp} {b : Addr} {o : Obj} (e : h.get? b = some o) (n : H b = none) : (hidT h H).get? b = some o :=
 PySem.W.hideAll_get _ e fun hm => by
  have q : (H b).isSome = true := (List.mem_filter.mp hm).2
  rw [n] at q; simp at q
theorem of_hidT {h : Heap} {H : Hp} {b : Addr} {o : Obj} (e : (hidT h H).get? b = some o) : h.get? b = some o ∧ H b = none := by
 have e' : h.get? b = some o := PySem.W.of_hideAll (trk h H) e
 refine ⟨e', ?_⟩
 cases q : H b with
 | none => rfl
 | some x =>
  have hm : b ∈ trk h H := List.mem_filter.mpr ⟨List.mem_range.mpr (Heap.lt_size e'), by simp [q]⟩
  have z : (hidT h H).get? b = none := PySem.W.hideAll_none (trk h H) hm
  rw [z] at e; cases e
noncomputable def allNews (g h : Heap) (L : Addr) : List (Addr × Obj) := (List.range h.objs.size).filterMap fun a => if a = L ∨ (g.get? a).isSome = true then none else (h.get? a).map fun o => (a, o)
noncomputable def rest (g h : Heap) (L d : Addr) : List (Addr × Obj) := (allNews g h L).filter fun p => decide (p.1 ≠ d)
end L2
namespace L2
open PySem PySem.Spec PyProof.Rows
structure Mod (K : PySem.W.Frag) (mg : Str → Option Value) (base : Heap) : Prop where
 kin : K.In base
 glob : base.Ns mainGlobals mg
 blt : ∃ mb, base.Ns builtinsNs mb ∧ ∀ x : Str, x ≠ "__name__" → mb x = bootBuiltins x
 nolimit : base.NoLimit
structure Cx where
 prog : Program
 w : World
 K : PySem.W.Frag
 mg : Str → Option Value
 base : Heap
 A : Around
 N : List Str
 s₀ : Shared
 H₀ : Hp
 env : Env
 outer : List Env
 stack : List Env
 ex : List Addr
 fn : Str → Bool
 calm : Bool
 pn : List (Addr × Obj)
 xe : Value → Shared → Prop
noncomputable def frs (l : List Env) : List Addr := l.filterMap (·.frame)
abbrev Cx.fs (X : Cx) : List Addr := frs X.outer
noncomputable def Vis (sc : Scope) (x : Str) : Prop := sc.names.lookup x = some .local ∨ sc.names.lookup x = some .cell ∨ sc.names.lookup x = some .free
noncomputable def Loc (sc : Scope) (x : Str) : Prop := sc.names.lookup x = some .local ∨ sc.names.lookup x = some .cell
noncomputable def Look (env : Env) (h : Heap) (m : Str → Option Value) (x : Str) (u : Value) : Prop :=
 (env.kindOf x = some .local ∧ m x = some u) ∨ ((env.kindOf x = some .cell ∨ env.kindOf x = some .free) ∧ ∃ c, env.cells.lookup x = some c ∧ h.IsCell c (some u))
structure Cx.Ok (X : Cx) : Prop where
 mod : Mod X.K X.mg X.base
 kind : X.env.scope.kind = .function
 glob : X.env.globals = mainGlobals
 blt : X.env.builtins = builtinsNs
 above : X.s₀.heap.objs.size ≤ X.env.locals
 inj : ∀ x y c, X.env.cells.lookup x = some c → X.env.cells.lookup y = some c → x = y
 has : ∀ x, (X.env.kindOf x = some .cell ∨ X.env.kindOf x = some .free) → ∃ c, X.env.cells.lookup x = some c
 cab : ∀ x c, X.fn x = true → X.env.cells.lookup x = some c → X.s₀.heap.objs.size ≤ c
 hd : X.calm = true → X.A.handled = none
 frames : X.A.frames = some X.stack
 stk : X.stack = X.outer ∨ (X.stack = X.env :: X.outer ∧ X.env.frame = some X.env.locals)
 exf : ∀ b ∈ X.ex, b ≠ X.env.locals ∧ ∀ x c, X.env.cells.lookup x = some c → c ≠ b
 bs : ∀ b o, X.base.get? b = some o → X.s₀.heap.get? b = some o ∧ X.H₀ b = none
 bsz : X.base.objs.size ≤ X.s₀.heap.objs.size
 noex : ∀ b o, X.base.get? b = some o → b ∉ X.ex
 exfs : ∀ b ∈ X.ex, b ∉ X.fs
 funs : X.s₀.heap.FunFrames X.base X.outer
 frf : ∀ b ∈ X.fs, X.H₀ b = none
structure Inv (X : Cx) (pins : List (Addr × Obj)) (σ : List (Option V)) (H : Hp) (s : Shared) : Prop where
 ok : X.Ok
 os : s.os = X.s₀.os
 bare : AllBare s.gens
 base : Un X.fs X.ex X.H₀ H X.s₀.heap s.heap
 loc : ∃ m, s.heap.Ns X.env.locals m ∧ ∀ (i : Nat) (x : Str) (v : V), X.N[i]? = some x → σ[i]? = some (some v) → Vis X.env.scope x → ∃ u, RelV v u ∧ Look X.env s.heap m x u
 cell : ∀ x c, X.env.cells.lookup x = some c → ∃ v, s.heap.IsCell c v
 free : H X.env.locals = none
 freeC : ∀ x c, X.env.cells.lookup x = some c → H c = none
 pin : ∀ p ∈ X.pn ++ pins, s.heap.get? p.1 = some p.2 ∧ H p.1 = none ∧ p.1 ≠ X.env.locals ∧ p.1 ∉ X.fs ∧ ∀ v, p.2.data ≠ .cell v
 hok : HOk X.prog X.w H s.heap
 len : σ.length = X.N.length
section
variable {X : Cx} {pins : List (Addr × Obj)} {σ : List (Option V)} {H H' : Hp} {s : Shared} {h' : Heap}
theorem Cx.Ok.nofr (ok : X.Ok) {b : Addr} {o : Obj} (e : X.base.get? b = some o) : b ∉ X.fs := fun hb => by
 have := (ok.funs.mem hb).1
 rw [e] at this; cases this
theorem Inv.bs (I : Inv X pins σ H s) : ∀ b o, X.base.get? b = some o → s.heap.get? b = some o ∧ H b = none := fun b o e =>
 ⟨I.base.keep b o (I.ok.bs b o e).1 (I.ok.bs b o e).2 (I.ok.nofr e) (I.ok.noex b o e), I.base.free b o (I.ok.bs b o e).1 (I.ok.bs b o e).2 (I.ok.noex b o e)⟩
theorem Inv.bk (I : Inv X pins σ H s) : ∀ b o, X.base.get? b = some o → s.heap.get? b = some o := fun b o e => (I.bs b o e).1
theorem Inv.mod (I : Inv X pins σ H s) : Mod X.K X.mg X.base := I.ok.mod
theorem Inv.kIn (I : Inv X pins σ H s) : X.K.In s.heap := I.ok.mod.kin.keeps I.bk
theorem Inv.nolimit (I : Inv X pins σ H s) : s.heap.NoLimit := I.ok.mod.nolimit.keeps I.bk
theorem Inv.fr (I : Inv X pins σ H s) : ∃ m, Fr X.base X.env.locals s.heap m :=
 let ⟨m, hn, _⟩ := I.loc
 ⟨m, hn, I.bk, Nat.le_trans I.ok.bsz I.ok.above⟩
theorem Inv.lt (I : Inv X pins σ H s) : X.env.locals < s.heap.objs.size := let ⟨_, hn, _⟩ := I.loc; hn.lt
theorem Inv.sz (I : Inv X pins σ H s) : X.s₀.heap.objs.size ≤ s.heap.objs.size := Nat.le_trans I.ok.above (Nat.le_of_lt I.lt)
theorem Inv.nofs (I : Inv X pins σ H s) {a : Addr} (h : s.heap.objs.size ≤ a) : a ∉ X.fs := fun hb => by
 obtain ⟨_, o, ho, _⟩ := I.ok.funs.mem hb
 exact absurd (Nat.lt_of_lt_of_le (Heap.lt_size ho) (Nat.le_trans I.sz h)) (Nat.lt_irrefl _)
theorem Inv.cne (I : Inv X pins σ H s) : ∀ x c, X.env.cells.lookup x = some c → c ≠ X.env.locals := fun x c e z => by
 obtain ⟨v, o, ho, hd⟩ := I.cell x c e
 obtain ⟨m, ⟨o', es, ep, ho', hd', _⟩, _⟩ := I.loc
 rw [z, ho'] at ho; cases ho; rw [hd'] at hd; cases hd
theorem Inv.funs (I : Inv X pins σ H s) : s.heap.FunFrames X.base X.outer := by
 have all : ∀ (l : List Env), (∀ b ∈ frs l, b ∈ X.fs) → X.s₀.heap.FunFrames X.base l → s.heap.FunFrames X.base l := by
  intro l
  induction l with
  | nil => intro _ _; trivial
  | cons env r ih =>
   intro hs hl
   obtain ⟨hk, ⟨L, o, hf, hn, ho, hd⟩, hr⟩ := hl
   have hL : L ∈ X.fs := hs L (by unfold frs; rw [List.filterMap_cons, hf]; exact List.mem_cons_self)
   obtain ⟨sl, e⟩ := I.base.slot L o ho (I.ok.frf L hL) hL fun z => I.ok.exfs L z hL
   exact ⟨hk, ⟨L, _, hf, hn, e, hd⟩, ih (fun b hb => hs b (by unfold frs; rw [List.filterMap_cons, hf]; exact List.mem_cons_of_mem _ hb)) hr⟩
 exact all X.outer (fun _ hb => hb) I.ok.funs
theorem Inv.stack (I : Inv X pins σ H s) : s.heap.FunFrames X.base X.stack := by
 rcases I.ok.stk with e | ⟨e, hf⟩
 ·rw [e]; exact I.funs
 ·rw [e]
  obtain ⟨m, hn, _⟩ := I.loc
  refine .cons (by rw [I.ok.kind]; decide) hf hn ?_ I.funs
  exact Heap.get?_none_of_le (Nat.le_trans I.ok.bsz I.ok.above)
theorem Inv.stkSub (I : Inv X pins σ H s) : ∀ b ∈ frs X.stack, b ∈ X.env.locals :: X.fs := fun b hb => by
 rcases I.ok.stk with e | ⟨e, hf⟩
 ·rw [e] at hb; exact List.mem_cons_of_mem _ hb
 ·rw [e] at hb
  unfold frs at hb
  rw [List.filterMap_cons, hf] at hb
  exact hb
theorem Inv.stkFree (I : Inv X pins σ H s) : ∀ b ∈ frs X.stack, H b = none := fun b hb => by
 rcases List.mem_cons.mp (I.stkSub b hb) with e | hb
 ·rw [e]; exact I.free
 ·obtain ⟨_, o, ho, _⟩ := I.ok.funs.mem hb
  exact I.base.free b o ho (I.ok.frf b hb) fun z => I.ok.exfs b z hb
theorem Inv.step {g' : Array GenState} {t' : Nat} {d' : Drawn} {ch : List Addr} (I : Inv X pins σ H s)
  (hch : ∀ b ∈ ch, (b ∈ X.ex ∨ X.s₀.heap.objs.size ≤ b) ∧ b ≠ X.env.locals ∧ (∀ x c, X.env.cells.lookup x = some c → c ≠ b) ∧ ∀ p ∈ X.pn ++ pins, p.1 ≠ b)
  (keep : ∀ b o, b ≠ X.env.locals → b ∉ X.fs → b ∉ ch → s.heap.get? b = some o → H b = none → h'.get? b = some o)
  (slot : ∀ b o, b ≠ X.env.locals → b ∈ X.fs → b ∉ ch → s.heap.get? b = some o → H b = none → ∃ sl, h'.get? b = some { o with slots := sl }) (free : ∀ b o, b ∉ ch → s.heap.get? b = some o → H b = none → H' b = none)
  (there : ∀ b o, b ∉ ch → s.heap.get? b = some o → ∃ o', h'.get? b = some o')
  (tups : ∀ b xs, H b = some (.tup xs) → H' b = some (.tup xs)) (frzs : ∀ b o u, H b = some (.frz o u) → H' b = some (.frz o u)) (tbls : ∀ b ps, H b = some (.tbl ps) → ∃ more, H' b = some (.tbl (ps ++ more)))
  (ns : ∀ m, s.heap.Ns X.env.locals m → h'.Ns X.env.locals m) (hok : HOk X.prog X.w H' h') (hg : AllBare g') :
  Inv X pins σ H' { s with heap := h', gens := g', drawn := d', toks := t' } := by
 have neL : ∀ b o, X.s₀.heap.get? b = some o → b ≠ X.env.locals := fun b o e => Nat.ne_of_lt (Nat.lt_of_lt_of_le (Heap.lt_size e) I.ok.above)
 have neC : ∀ b o, X.s₀.heap.get? b = some o → b ∉ X.ex → b ∉ ch := fun b o e hx hb => by
  rcases (hch b hb).1 with z | z
  ·exact hx z
  ·exact absurd (Nat.lt_of_lt_of_le (Heap.lt_size e) z) (Nat.lt_irrefl _)
 have cellK : ∀ x c, X.env.cells.lookup x = some c → ∀ v, s.heap.IsCell c v → h'.IsCell c v := fun x c e v ⟨o, ho, hd⟩ => by
  have nch : c ∉ ch := fun z => (hch c z).2.2.1 x c e rfl
  by_cases hc : c ∈ X.fs
  ·obtain ⟨sl, q⟩ := slot c o (I.cne x c e) hc nch ho (I.freeC x c e)
   exact ⟨_, q, hd⟩
  ·exact ⟨o, keep c o (I.cne x c e) hc nch ho (I.freeC x c e), hd⟩
 refine ⟨I.ok, I.os, hg, ⟨fun b o e n hb hx => ?_, fun b o e n hb hx => ?_, fun b o e n hx => ?_, fun b o e hx => ?_, fun b xs e => tups b xs (I.base.tups b xs e), fun b o xs e => frzs b o xs (I.base.frzs b o xs e), fun b ps e => ?_⟩, ?_, fun x c e => ?_, ?_, fun x c e => ?_, fun p hp => ?_, hok, I.len⟩
 ·exact keep b o (neL b o e) hb (neC b o e hx) (I.base.keep b o e n hb hx) (I.base.free b o e n hx)
 ·obtain ⟨sl, e1⟩ := I.base.slot b o e n hb hx
  obtain ⟨sl', e2⟩ := slot b _ (neL b o e) hb (neC b o e hx) e1 (I.base.free b o e n hx)
  exact ⟨sl', e2⟩
 ·obtain ⟨o', e1⟩ := I.base.there b o e hx
  exact free b o' (neC b o e hx) e1 (I.base.free b o e n hx)
 ·obtain ⟨o', e1⟩ := I.base.there b o e hx
  exact there b o' (neC b o e hx) e1
 ·obtain ⟨m1, e1⟩ := I.base.tbls b ps e
  obtain ⟨m2, e2⟩ := tbls b _ e1
  exact ⟨m1 ++ m2, by rw [e2, Array.append_assoc]⟩
 ·obtain ⟨m, hn, hl⟩ := I.loc
  refine ⟨m, ns m hn, fun i x v e1 e2 e3 => ?_⟩
  obtain ⟨u, r, l⟩ := hl i x v e1 e2 e3
  refine ⟨u, r, ?_⟩
  rcases l with l | ⟨k, c, e, z⟩
  ·exact .inl l
  ·exact .inr ⟨k, c, e, cellK x c e _ z⟩
 ·obtain ⟨v, z⟩ := I.cell x c e
  exact ⟨v, cellK x c e v z⟩
 ·obtain ⟨m, ⟨o, _, _, ho, _⟩, _⟩ := I.loc
  exact free _ o (fun z => (hch _ z).2.1 rfl) ho I.free
 ·obtain ⟨v, o, ho, hd⟩ := I.cell x c e
  exact free c o (fun z => (hch c z).2.2.1 x c e rfl) ho (I.freeC x c e)
 ·obtain ⟨e, n, ne, nf, d⟩ := I.pin p hp
  have nch : p.1 ∉ ch := fun z => (hch p.1 z).2.2.2 p hp rfl
  exact ⟨keep p.1 p.2 ne nf nch e n, free p.1 p.2 nch e n, ne, nf, d⟩
theorem Inv.un {t' : Nat} (I : Inv X pins σ H s) (u : Un X.fs [] H H' s.heap h') (hok : HOk X.prog X.w H' h') : Inv X pins σ H' { s with heap := h', toks := t' } := by
 obtain ⟨m, ⟨o, es, ep, ho, r⟩, _⟩ := id I.loc
 obtain ⟨sl, hL⟩ := u.any ho I.free (by simp)
 exact I.step (g' := s.gens) (d' := s.drawn) (ch := []) (fun _ z => nomatch z) (fun b o _ hb _ e n => u.keep b o e n hb (by simp)) (fun b o _ hb _ e n => u.slot b o e n hb (by simp)) (fun b o _ e n => u.free b o e n (by simp)) (fun b o _ e => u.there b o e (by simp)) u.tups u.frzs u.tbls (fun m' hm => by
  obtain ⟨o', es', ep', ho', r'⟩ := hm
  rw [ho] at ho'; cases ho'
  exact ⟨_, es', ep', hL, r'⟩) hok I.bare
theorem Inv.call {g' : Array GenState} {t' : Nat} {d' : Drawn} {ch : List Addr} (I : Inv X pins σ H s) (u : Un (frs X.stack) ch H H' s.heap h') (hok : HOk X.prog X.w H' h') (hg : AllBare g')
  (hch : ∀ b ∈ ch, (b ∈ X.ex ∨ X.s₀.heap.objs.size ≤ b) ∧ b ≠ X.env.locals ∧ (∀ x c, X.env.cells.lookup x = some c → c ≠ b) ∧ ∀ p ∈ X.pn ++ pins, p.1 ≠ b) :
  Inv X pins σ H' { s with heap := h', gens := g', drawn := d', toks := t' } := by
 obtain ⟨m, ⟨o, es, ep, ho, r⟩, _⟩ := id I.loc
 obtain ⟨sl, hL⟩ := u.any ho I.free fun z => (hch _ z).2.1 rfl
 exact I.step (ch := ch) hch (fun b o hL hb hc e n => u.keep b o e n (fun z => (List.mem_cons.mp (I.stkSub b z)).elim hL hb) hc) (fun b o _ _ hc e n => u.any e n hc) (fun b o hc e n => u.free b o e n hc) (fun b o hc e => u.there b o e hc) u.tups u.frzs u.tbls (fun m' hm => by
  obtain ⟨o', es', ep', ho', r'⟩ := hm
  rw [ho] at ho'; cases ho'
  exact ⟨_, es', ep', hL, r'⟩) hok hg
theorem Inv.turned {t' : Nat} {it : Addr} (I : Inv X pins σ H s) (k : ∀ b o, b ≠ it → s.heap.get? b = some o → h'.get? b = some o) (hn : H it = none) (hL : it ≠ X.env.locals)
  (h1 : it ∈ X.ex ∨ X.s₀.heap.objs.size ≤ it) (h2 : ∀ x c, X.env.cells.lookup x = some c → c ≠ it) (h3 : ∀ p ∈ X.pn ++ pins, p.1 ≠ it) : Inv X pins σ H { s with heap := h', toks := t' } := by
 have nit : ∀ b u, H b = some u → b ≠ it := fun b u e z => by rw [z, hn] at e; cases e
 refine I.step (g' := s.gens) (d' := s.drawn) (ch := [it]) (fun b hb => ?_) (fun b o _ _ hc e _ => k b o (fun z => hc (by simp [z])) e) (fun b o _ _ hc e _ => ⟨o.slots, k b o (fun z => hc (by simp [z])) e⟩) (fun _ _ _ _ n => n)
  (fun b o hc e => ⟨o, k b o (fun z => hc (by simp [z])) e⟩) (fun _ _ e => e) (fun _ _ _ e => e) (fun b ps e => ⟨#[], by rw [e]; simp⟩) (fun m hm => ?_) (fun b u e => ?_) I.bare
 ·have e : b = it := by simpa using hb
  subst e
  exact ⟨h1, hL, h2, h3⟩
 ·obtain ⟨o, es, ep, ho, r⟩ := hm
  exact ⟨o, es, ep, k _ o (Ne.symm hL) ho, r⟩
 ·refine (I.hok b u e).stay (fun c v hc q => k c v ?_ q) (fun _ q => q) fun _ _ q => q
  rcases hc with z | z
  ·rw [z]; exact nit b u e
  ·exact nit c _ z
theorem Inv.tok (I : Inv X pins σ H s) (t : Nat) : Inv X pins σ H { s with toks := t } := I.un (h' := s.heap) (t' := t) Un.refl I.hok
theorem Inv.kept {t' : Nat} (I : Inv X pins σ H s) (k : ∀ b u, s.heap.get? b = some u → h'.get? b = some u) : Inv X pins σ H { s with heap := h', toks := t' } := I.un (Un.kept k) (I.hok.kept k)
theorem Inv.laid {a : Addr} {o : HO} {t' : Nat} (I : Inv X pins σ H s) (k : ∀ b u, s.heap.get? b = some u → h'.get? b = some u) (hp : s.heap.objs.size ≤ a) (new : ObjOk X.prog X.w (upd H a o) h' a o) :
  Inv X pins σ (upd H a o) { s with heap := h', toks := t' } := I.un (Un.laid k hp (I.hok.fresh hp)) (I.hok.laid k hp new)
theorem Inv.write {x e : Addr} {o : HO} {t' : Nat} (I : Inv X pins σ H s) (mu : Mut (H x)) (he : e = x ∨ H e = some (.own x)) (k : ∀ b u, b ≠ e → s.heap.get? b = some u → h'.get? b = some u) (heo : ∃ u, h'.get? e = some u)
  (new : ObjOk X.prog X.w (upd H x o) h' x o) : Inv X pins σ (upd H x o) { s with heap := h', toks := t' } := I.un (Un.write mu he k heo) (I.hok.write mu he k heo new)
theorem Inv.weak {σ' : List (Option V)} (I : Inv X pins σ H s) (hl : σ'.length = σ.length) (w : ∀ (i : Nat) v, σ'[i]? = some (some v) → σ[i]? = some (some v)) : Inv X pins σ' H s :=
 ⟨I.ok, I.os, I.bare, I.base, let ⟨m, hn, hl'⟩ := I.loc; ⟨m, hn, fun i x v e1 e2 e3 => hl' i x v e1 (w i v e2) e3⟩, I.cell, I.free, I.freeC, I.pin, I.hok, hl.trans I.len⟩
theorem Inv.pins_of {pins' : List (Addr × Obj)} (I : Inv X pins σ H s) (h : ∀ p ∈ pins', s.heap.get? p.1 = some p.2 ∧ H p.1 = none ∧ p.1 ≠ X.env.locals ∧ p.1 ∉ X.fs ∧ ∀ v, p.2.data ≠ .cell v) : Inv X pins' σ H s :=
 ⟨I.ok, I.os, I.bare, I.base, I.loc, I.cell, I.free, I.freeC, fun p hp => (List.mem_append.mp hp).elim (fun z => I.pin p (List.mem_append_left _ z)) (h p), I.hok, I.len⟩
theorem vY {N : List Str} (hN : N.Nodup) {i j : Nat} {x : Str} (a : N[i]? = some x) (b : N[j]? = some x) : i = j := by
 obtain ⟨h1, e1⟩ := List.getElem?_eq_some_iff.mp a
 obtain ⟨h2, e2⟩ := List.getElem?_eq_some_iff.mp b
 exact (List.getElem_inj hN).mp (e1.trans e2.symm)
theorem store_ok2 {M : Model} {A : Around} {E : Value → Shared → Prop} {i : Nat} {x : Str} {v : V} {u : Value} {Q : Unit → Shared → Prop} (I : Inv X pins σ H s) (hN : X.N.Nodup) (hi : X.N[i]? = some x) (hx : Loc X.env.scope x) (r : RelV v u)
  (h : ∀ s', Inv X pins (σ.set i (some v)) H s' → (∃ a, Heap.SameBut a s.heap s'.heap ∧ (a = X.env.locals ∨ X.env.cells.lookup x = some a)) → Q () s') (hf : X.fn x = true ∨ X.env.scope.names.lookup x = some .local := by first | exact .inl rfl | exact .inr rfl | assumption) : wpAny M A (storeName X.env x u) Q E s := by
 obtain ⟨m, hn, hl⟩ := id I.loc
 have hcls : (X.env.scope.kind == .class || (X.env.scope.kind == .module && X.env.locals != X.env.globals)) = false := by rw [I.ok.kind]; rfl
 have hiσ : i < σ.length := by rw [I.len]; exact (List.getElem?_eq_some_iff.mp hi).1
 have cne := I.cne
 have tracked : ∀ {a : Addr} {h' : Heap}, (∃ o, s.heap.get? a = some o ∧ H a = none) → Heap.SameBut a s.heap h' → HOk X.prog X.w H h' := fun {a h'} ha hs b ob e => by
  obtain ⟨_, _, hfree⟩ := ha
  refine (I.hok b ob e).stay (fun c w' hc q => (hs.2 c ?_).trans q) (fun _ q => q) fun _ _ q => q
  rintro rfl
  rcases hc with rfl | hc
  ·rw [hfree] at e; cases e
  ·rw [hfree] at hc; cases hc
 rcases hx with hk | hk
 ·refine wpAny_storeName_local hk hn (fun h' hn' hs => ?_) hcls
  obtain ⟨oL, _, _, hoL, _⟩ := id hn
  refine h _ ⟨I.ok, I.os, I.bare, ⟨fun b o e n hb hx => ?_, fun b o e n hb hx => ?_, I.base.free, fun b o e hx => ?_, I.base.tups, I.base.frzs, I.base.tbls⟩, ⟨_, hn', fun j y v' e1 e2 e3 => ?_⟩, fun y c e => ?_, I.free, I.freeC, fun p hp => ?_, tracked ⟨oL, hoL, I.free⟩ hs, by simpa using I.len⟩ ⟨_, hs, .inl rfl⟩
  ·exact (hs.2 b (Nat.ne_of_lt (Nat.lt_of_lt_of_le (Heap.lt_size e) I.ok.above))).trans (I.base.keep b o e n hb hx)
  ·obtain ⟨sl, e1⟩ := I.base.slot b o e n hb hx
   exact ⟨sl, (hs.2 b (Nat.ne_of_lt (Nat.lt_of_lt_of_le (Heap.lt_size e) I.ok.above))).trans e1⟩
  ·obtain ⟨o', e1⟩ := I.base.there b o e hx
   exact ⟨o', (hs.2 b (Nat.ne_of_lt (Nat.lt_of_lt_of_le (Heap.lt_size e) I.ok.above))).trans e1⟩
  ·by_cases hj : j = i
   ·subst hj
    rw [hi] at e1; cases e1
    rw [List.getElem?_set_self hiσ] at e2
    cases e2
    exact ⟨u, r, .inl ⟨hk, by simp⟩⟩
   ·rw [List.getElem?_set_ne (Ne.symm hj)] at e2
    obtain ⟨u', r', q⟩ := hl j y v' e1 e2 e3
    refine ⟨u', r', ?_⟩
    rcases q with ⟨k, e⟩ | ⟨k, c, e, z⟩
    ·refine .inl ⟨k, ?_⟩
     have : y ≠ x := fun e => hj (vY hN e1 (e ▸ hi))
     simp [this, e]
    ·exact .inr ⟨k, c, e, z.sameBut hs (cne y c e)⟩
  ·obtain ⟨w', z⟩ := I.cell y c e
   exact ⟨w', z.sameBut hs (cne y c e)⟩
  ·obtain ⟨e, n, ne, nf, d⟩ := I.pin p hp
   exact ⟨(hs.2 p.1 ne).trans e, n, ne, nf, d⟩
 ·have hfn : X.fn x = true := by
   rcases hf with z | z
   ·exact z
   ·rw [z] at hk; cases hk
  obtain ⟨c, hc⟩ := I.ok.has x (.inl hk)
  obtain ⟨w', z⟩ := I.cell x c hc
  refine wpAny_storeName_cell I.ok.kind hk hc z (fun h' hc' hs => ?_)
  obtain ⟨oc, hoc, hocd⟩ := id z
  refine h { s with heap := h' } ⟨I.ok, I.os, I.bare, ⟨fun b o e n hb hx => ?_, fun b o e n hb hx => ?_, I.base.free, fun b o e hx => ?_, I.base.tups, I.base.frzs, I.base.tbls⟩, ⟨m, hn.sameBut hs (Ne.symm (cne x c hc)), fun j y v' e1 e2 e3 => ?_⟩, fun y c' e => ?_, I.free, I.freeC, fun p hp => ?_, tracked ⟨oc, hoc, I.freeC x c hc⟩ hs, by simpa using I.len⟩ ⟨c, hs, .inr hc⟩
  ·exact (hs.2 b (Nat.ne_of_lt (Nat.lt_of_lt_of_le (Heap.lt_size e) (I.ok.cab x c hfn hc)))).trans (I.base.keep b o e n hb hx)
  ·obtain ⟨sl, e1⟩ := I.base.slot b o e n hb hx
   exact ⟨sl, (hs.2 b (Nat.ne_of_lt (Nat.lt_of_lt_of_le (Heap.lt_size e) (I.ok.cab x c hfn hc)))).trans e1⟩
  ·obtain ⟨o', e1⟩ := I.base.there b o e hx
   exact ⟨o', (hs.2 b (Nat.ne_of_lt (Nat.lt_of_lt_of_le (Heap.lt_size e) (I.ok.cab x c hfn hc)))).trans e1⟩
  ·by_cases hj : j = i
   ·subst hj
    rw [hi] at e1; cases e1
    rw [List.getElem?_set_self hiσ] at e2
    cases e2
    exact ⟨u, r, .inr ⟨.inl hk, c, hc, hc'⟩⟩
   ·rw [List.getElem?_set_ne (Ne.symm hj)] at e2
    obtain ⟨u', r', q⟩ := hl j y v' e1 e2 e3
    refine ⟨u', r', ?_⟩
    rcases q with q | ⟨k, c', e, z'⟩
    ·exact .inl q
    ·refine .inr ⟨k, c', e, z'.sameBut hs ?_⟩
     rintro rfl
     exact hj (vY hN e1 (I.ok.inj _ _ _ e hc ▸ hi))
  ·by_cases hcc : c' = c
   ·subst hcc; exact ⟨_, hc'⟩
   ·obtain ⟨w2, z2⟩ := I.cell y c' e
    exact ⟨w2, z2.sameBut hs hcc⟩
  ·obtain ⟨e, n, ne, nf, d⟩ := I.pin p hp
   refine ⟨(hs.2 p.1 ?_).trans e, n, ne, nf, d⟩
   intro q
   rw [q, hoc] at e
   have q' : oc = p.2 := Option.some.inj e
   exact d w' (by rw [← q']; exact hocd)
theorem sO {M : Model} {A : Around} {E : Value → Shared → Prop} {i : Nat} {x : Str} {v : V} {u : Value} {Q : Unit → Shared → Prop} (I : Inv X pins σ H s) (hN : X.N.Nodup) (hi : X.N[i]? = some x) (hx : Loc X.env.scope x) (r : RelV v u)
  (h : ∀ s', Inv X pins (σ.set i (some v)) H s' → Q () s') (hf : X.fn x = true ∨ X.env.scope.names.lookup x = some .local := by first | exact .inl rfl | exact .inr rfl | assumption) : wpAny M A (storeName X.env x u) Q E s :=
 store_ok2 I hN hi hx r (fun s' I' _ => h s' I') hf
theorem Inv.call' {s' : Shared} {ch : List Addr} (I : Inv X pins σ H s) (ho : s'.os = s.os) (u : Un (frs X.stack) ch H H' s.heap s'.heap) (hok : HOk X.prog X.w H' s'.heap) (hg : AllBare s'.gens)
  (hch : ∀ b ∈ ch, (b ∈ X.ex ∨ X.s₀.heap.objs.size ≤ b) ∧ b ≠ X.env.locals ∧ (∀ x c, X.env.cells.lookup x = some c → c ≠ b) ∧ ∀ p ∈ X.pn ++ pins, p.1 ≠ b) : Inv X pins σ H' s' := by
 obtain ⟨h', g', d', t', o'⟩ := s'
 have e : o' = s.os := ho
 subst e
 exact I.call (g' := g') (t' := t') (d' := d') u hok hg hch
end
abbrev XK := Value → Option Addr → Hp → Prop
abbrev St := List (Option V)
abbrev VK := V → Hp → Prop
abbrev TE := St → Hp → VK → Prop
abbrev TT := St → Hp → (Bool → Hp → Prop) → Prop
abbrev TA := St → Hp → (List V → Hp → Prop) → Prop
structure Ends where
 nx : St → Hp → Prop
 rt : VK
 bk : St → Hp → Prop := fun _ _ => False
 ct : St → Hp → Prop := fun _ _ => False
abbrev TS := Ends → St → Hp → Prop
noncomputable def EP (X : Cx) (pins : List (Addr × Obj)) (σ : St) (Q : VK) (u : Value) (s' : Shared) : Prop := ∃ v H', Inv X pins σ H' s' ∧ RelV v u ∧ Q v H'
noncomputable def TP (X : Cx) (pins : List (Addr × Obj)) (σ : St) (Q : Bool → Hp → Prop) (b : Bool) (s' : Shared) : Prop := ∃ H', Inv X pins σ H' s' ∧ Q b H'
noncomputable def AP (X : Cx) (pins : List (Addr × Obj)) (σ : St) (Q : List V → Hp → Prop) (us : List Value) (s' : Shared) : Prop := ∃ vs H', Inv X pins σ H' s' ∧ Vals vs us ∧ Q vs H'
noncomputable def SP (X : Cx) (pins : List (Addr × Obj)) (D : Ends) (f : Flow) (s' : Shared) : Prop :=
 match f with
 | .next => ∃ σ' H', Inv X pins σ' H' s' ∧ D.nx σ' H'
 | .brk => ∃ σ' H', Inv X pins σ' H' s' ∧ D.bk σ' H'
 | .cont => ∃ σ' H', Inv X pins σ' H' s' ∧ D.ct σ' H'
 | .ret u => ∃ v σ' H', Inv X pins σ' H' s' ∧ RelV v u ∧ D.rt v H'
noncomputable def PE (X : Cx) (e : Expr) (t : TE) : Prop :=
 ∀ (pins : List (Addr × Obj)) (s : Shared) (σ : St) (H : Hp) (Q : VK), Inv X pins σ H s → t σ H Q → wpAny (model X.prog X.w) X.A (eval e X.env) (EP X pins σ Q) X.xe s
noncomputable def PT (X : Cx) (e : Expr) (t : TT) : Prop :=
 ∀ (pins : List (Addr × Obj)) (s : Shared) (σ : St) (H : Hp) (Q : Bool → Hp → Prop), Inv X pins σ H s → t σ H Q → wpAny (model X.prog X.w) X.A (isTrue e X.env (eval e X.env)) (TP X pins σ Q) X.xe s
noncomputable def PW (X : Cx) (e : Expr) (t : TT) : Prop :=
 ∀ (whole : Sem Value) (pins : List (Addr × Obj)) (s : Shared) (σ : St) (H : Hp) (Q : Bool → Hp → Prop), Inv X pins σ H s → t σ H Q → wpAny (model X.prog X.w) X.A (isTrue e X.env whole) (TP X pins σ Q) X.xe s
theorem PW.pt {X : Cx} {e : Expr} {t : TT} (h : PW X e t) : PT X e t := h _
noncomputable def PA (X : Cx) (es : List Expr) (t : TA) : Prop :=
 ∀ (pos : Pos) (pins : List (Addr × Obj)) (s : Shared) (σ : St) (H : Hp) (Q : List V → Hp → Prop), Inv X pins σ H s → t σ H Q → wpAny (model X.prog X.w) X.A (spliced (backTo pos (starEach es X.env))) (AP X pins σ Q) X.xe s
noncomputable def PS (X : Cx) (st : Stmt) (t : TS) : Prop :=
 ∀ (pins : List (Addr × Obj)) (s : Shared) (σ : St) (H : Hp) (D : Ends), Inv X pins σ H s → t D σ H → wpAny (model X.prog X.w) X.A (exec st X.env) (SP X pins D) X.xe s
noncomputable def PSs (X : Cx) (st : List Stmt) (t : TS) : Prop :=
 ∀ (pins : List (Addr × Obj)) (s : Shared) (σ : St) (H : Hp) (D : Ends), Inv X pins σ H s → t D σ H → wpAny (model X.prog X.w) X.A (execs st X.env) (SP X pins D) X.xe s
theorem thn {α : Type} {t : Sem α} {Q Q' : α → Shared → Prop} {M : Model} {A : Around} {E : Value → Shared → Prop} {s : Shared} (h : wpAny M A t Q E s) (hQ : ∀ a s, Q a s → Q' a s) : wpAny M A t Q' E s := wpAny_mono h hQ fun _ _ x => x
end L2
namespace L2
open PySem PySem.Spec PyProof.Rows
section
variable {X : Cx}
noncomputable def tVar (i : Nat) : TE := fun σ H Q => ∃ v, σ[i]? = some (some v) ∧ Q v H
noncomputable def tC (v : V) : TE := fun _ H Q => Q v H
theorem pe_var {i : Nat} {x : Str} {pos : Pos} (hN : X.N[i]? = some x) (hv : Vis X.env.scope x) (hd : (x == ("__debug__" : Str)) = false := by decide) (hcd : (x == ("__classdict__" : Str)) = false := by decide) : PE X (.Name x pos) (tVar i) := by
 intro pins s σ H Q I h
 obtain ⟨v, e, h⟩ := h
 obtain ⟨m, hn, hl⟩ := I.loc
 obtain ⟨u, r, l⟩ := hl i x v hN e hv
 have fin : EP X pins σ Q u s := ⟨v, H, I, r, h⟩
 rcases l with ⟨hk, hm⟩ | ⟨hk, c, hc, hcell⟩
 ·exact wpAny_Name (wpAny_loadName_local I.ok.kind hk hn hm fin) hd
 ·rcases hk with hk | hk
  ·exact wpAny_Name (wpAny_loadName_cell I.ok.kind hk hc hcell fin) hd
  ·exact wpAny_Name (wpAny_loadName_free I.ok.kind hk hc hcell fin hcd) hd
theorem aD {i j pos} : PE X (.Constant (.int i) j pos) (tC (.int i)) := fun _ _ _ H _ I h => wpAny_Constant_int ⟨.int i, H, I.tok _, ⟨_, rfl⟩, h⟩
theorem pe_bl {b j pos} : PE X (.Constant (.bool b) j pos) (tC (.bl b)) := fun _ _ _ H _ I h => Constant_bool ⟨.bl b, H, I, rfl, h⟩
theorem gD {j pos} : PE X (.Constant .none j pos) (tC .non) := fun _ _ _ H _ I h => Constant_none ⟨.non, H, I, rfl, h⟩
theorem pe_str {x j pos} : PE X (.Constant (.str x) j pos) (tC (.str x)) := fun _ _ _ H _ I h => Calls.Constant_str ⟨.str x, H, I.tok _, ⟨_, rfl⟩, h⟩
noncomputable def Gl (X : Cx) (x : Str) : Prop := X.env.kindOf x = some .globalImplicit
theorem ld_glob {E : Value → Shared → Prop} {pins : List (Addr × Obj)} {s : Shared} {σ : St} {H : Hp} {x : Str} {u : Value} {pos : Pos} {Q : Value → Shared → Prop} (I : Inv X pins σ H s) (hg : Gl X x) (hm : X.mg x = some u) (h : Q u s)
  (hd : (x == ("__debug__" : Str)) = false := by decide) : wpAny (model X.prog X.w) X.A (eval (.Name x pos) X.env) Q E s :=
 Calls.Name_function_global I.ok.kind hg (Calls.loadGlobal_global (by rw [I.ok.glob]; exact I.mod.glob.keeps I.bk) hm h) hd
theorem wL {E : Value → Shared → Prop} {pins : List (Addr × Obj)} {s : Shared} {σ : St} {H : Hp} {x : Str} {u : Value} {pos : Pos} {Q : Value → Shared → Prop} (I : Inv X pins σ H s) (hg : Gl X x) (hm : X.mg x = none) (hv : bootBuiltins x = some u) (h : Q u s)
  (hn : x ≠ "__name__" := by decide) (hd : (x == ("__debug__" : Str)) = false := by decide) : wpAny (model X.prog X.w) X.A (eval (.Name x pos) X.env) Q E s := by
 obtain ⟨mb, h1, h2⟩ := I.mod.blt
 exact Calls.Name_function_global I.ok.kind hg (Calls.loadGlobal_builtin (by rw [I.ok.glob]; exact I.mod.glob.keeps I.bk) hm (by rw [I.ok.blt]; exact h1.keeps I.bk) ((h2 x hn).trans hv) h) hd
theorem pe_bltn {x : Str} {v : V} {u : Value} {pos : Pos} (hg : Gl X x) (hm : X.mg x = none) (hv : bootBuiltins x = some u) (r : RelV v u) (hn : x ≠ "__name__" := by decide) (hd : (x == ("__debug__" : Str)) = false := by decide) : PE X (.Name x pos) (tC v) :=
 fun _ _ _ H _ I h => wL I hg hm hv ⟨v, H, I, r, h⟩ hn hd
variable {a b : Expr} {ta tb : TE} {pos : Pos}
noncomputable def tB (t : TE) : TT := fun σ H Q => t σ H fun x H1 => ∃ c, x = .bl c ∧ Q c H1
theorem fG {e : Expr} {t : TE} (h : PE X e t) (he : ∀ whole, isTrue e X.env whole = (do let v ← whole; standAt e.pos; holding [v] (truthy v)) := by intro _; rfl) : PT X e (tB t) := by
 intro pins s σ H Q I hw
 refine isTrue_plain (thn (h pins s σ H _ I hw) fun v s1 ⟨x, H1, I1, r1, q1⟩ => ?_) (he _)
 obtain ⟨d, rfl, q⟩ := q1
 cases r1
 exact wpAny_truthy_bool ⟨H1, I1, q⟩
variable {tA tB' : TT} {rest : List Expr}
noncomputable def tAnd (t u : TT) : TT := fun σ H Q => t σ H fun c H1 => if c = true then u σ H1 Q else Q false H1
noncomputable def tOr (t u : TT) : TT := fun σ H Q => t σ H fun c H1 => if c = true then Q true H1 else u σ H1 Q
noncomputable def tNot (t : TT) : TT := fun σ H Q => t σ H fun c H1 => Q (!c) H1
theorem lF (ha : PT X a tA) : PW X (.BoolOp .And [a] pos) tA := by
 intro wh pins s σ H Q I h
 refine isTrue_and (thn (ha pins s σ H Q I h) fun c s1 e => ?_)
 cases c with
 | true => exact isTrue_and_nil e
 | false => exact e
theorem pw_or1 (ha : PT X a tA) : PW X (.BoolOp .Or [a] pos) tA := by
 intro wh pins s σ H Q I h
 refine isTrue_or (thn (ha pins s σ H Q I h) fun c s1 e => ?_)
 cases c with
 | false => exact isTrue_or_nil e
 | true => exact e
theorem qK (ha : PT X a tA) (hb : PW X (.BoolOp .And (b :: rest) pos) tB') : PW X (.BoolOp .And (a :: b :: rest) pos) (tAnd tA tB') := by
 intro wh pins s σ H Q I h
 refine isTrue_and (thn (ha pins s σ H _ I h) fun c s1 ⟨H1, I1, q1⟩ => ?_)
 cases c with
 | true => exact hb wh pins s1 σ H1 Q I1 q1
 | false => exact ⟨H1, I1, q1⟩
theorem pw_or (ha : PT X a tA) (hb : PW X (.BoolOp .Or (b :: rest) pos) tB') : PW X (.BoolOp .Or (a :: b :: rest) pos) (tOr tA tB') := by
 intro wh pins s σ H Q I h
 refine isTrue_or (thn (ha pins s σ H _ I h) fun c s1 ⟨H1, I1, q1⟩ => ?_)
 cases c with
 | true => exact ⟨H1, I1, q1⟩
 | false => exact hb wh pins s1 σ H1 Q I1 q1
theorem oG (ha : PT X a tA) : PT X (.UnaryOp .Not a pos) (tNot tA) := by
 intro pins s σ H Q I h
 exact isTrue_not (ha pins s σ H (fun c H1 => Q (!c) H1) I h)
noncomputable def tAndV (ta tb : TE) : TE := fun σ H Q => ta σ H fun x H1 => ∃ c, x = .bl c ∧ if c = true then tb σ H1 Q else Q (.bl false) H1
noncomputable def tOrV (ta tb : TE) : TE := fun σ H Q => ta σ H fun x H1 => ∃ c, x = .bl c ∧ if c = true then Q (.bl true) H1 else tb σ H1 Q
noncomputable def tNotV (ta : TE) : TE := fun σ H Q => ta σ H fun x H1 => ∃ c, x = .bl c ∧ Q (.bl (!c)) H1
theorem pe_one {op} {t : TE} (h : PE X a t) : PE X (.BoolOp op [a] pos) t := fun pins s σ H Q I hw => BoolOp_one (h pins s σ H Q I hw)
theorem pe_and (ha : PE X a ta) (hb : PE X (.BoolOp .And (b :: rest) pos) tb) : PE X (.BoolOp .And (a :: b :: rest) pos) (tAndV ta tb) := by
 intro pins s σ H Q I h
 refine BoolOp_and (thn (ha pins s σ H _ I h) fun v s1 ⟨x, H1, I1, r1, q1⟩ => ?_)
 obtain ⟨c, rfl, q1⟩ := q1
 cases r1
 refine wpAny_truthy_bool ?_
 cases c with
 | true => exact hb pins s1 σ H1 Q I1 q1
 | false => exact ⟨.bl false, H1, I1, rfl, q1⟩
theorem pe_or (ha : PE X a ta) (hb : PE X (.BoolOp .Or (b :: rest) pos) tb) : PE X (.BoolOp .Or (a :: b :: rest) pos) (tOrV ta tb) := by
 intro pins s σ H Q I h
 refine BoolOp_or (thn (ha pins s σ H _ I h) fun v s1 ⟨x, H1, I1, r1, q1⟩ => ?_)
 obtain ⟨c, rfl, q1⟩ := q1
 cases r1
 refine wpAny_truthy_bool ?_
 cases c with
 | false => exact hb pins s1 σ H1 Q I1 q1
 | true => exact ⟨.bl true, H1, I1, rfl, q1⟩
theorem pe_not (ha : PE X a ta) : PE X (.UnaryOp .Not a pos) (tNotV ta) := by
 intro pins s σ H Q I h
 refine UnaryOp_ (thn (ha pins s σ H _ I h) fun v s1 ⟨x, H1, I1, r1, q1⟩ => ?_)
 obtain ⟨c, rfl, q1⟩ := q1
 cases r1
 exact not_of (wpAny_truthy_bool ⟨.bl (!c), H1, I1, rfl, q1⟩)
noncomputable def tIf (t : TT) (ta tb : TE) : TE := fun σ H Q => t σ H fun c H1 => if c = true then ta σ H1 Q else tb σ H1 Q
theorem pe_ifExp {c : Expr} (hc : PT X c tA) (ha : PE X a ta) (hb : PE X b tb) : PE X (.IfExp c a b pos) (tIf tA ta tb) := by
 intro pins s σ H Q I h
 refine wpAny_IfExp (thn (hc pins s σ H _ I h) fun d s1 ⟨H1, I1, q1⟩ => ?_)
 cases d with
 | true => exact ha pins s1 σ H1 Q I1 q1
 | false => exact hb pins s1 σ H1 Q I1 q1
end
end L2
namespace L2
open PySem PySem.Spec PyProof.Rows
noncomputable def SqL (K : PySem.W.Frag) (H : Hp) (a : Addr) (xs : List V) : Prop :=
 Rd H a (.lst xs) ∨
  ∃ (o : Obj) (its : Array Value) (n : Nat), K.lookup a = some o ∧ o.cls = .type "list" ∧ o.dict = none ∧ o.data = .seq its n ∧ its.size ≤ sizeLine ∧ Vals xs its.toList
noncomputable def SqT (K : PySem.W.Frag) (H : Hp) (a : Addr) (xs : List V) : Prop :=
 Rd H a (.tup xs) ∨
  ∃ (o : Obj) (its : Array Value) (n : Nat), K.lookup a = some o ∧ o.cls = .type "tuple" ∧ o.data = .seq its n ∧ its.size ≤ sizeLine ∧ Vals xs its.toList
noncomputable def absV : Value → Option V
 | .none => some .non
 | .bool b => some (.bl b)
 | .int i _ => some (.int i)
 | .str x _ => some (.str x)
 | .bytes b _ => some (.byt b)
 | .float b _ => some (.flt b)
 | .ref a => some (.ref a)
 | .type n => some (.ty n)
 | _ => none
theorem RelV.abs {x : V} {u : Value} (r : RelV x u) : absV u = some x := by
 cases x with
 | non => cases r; rfl
 | bl _ => cases r; rfl
 | int _ => obtain ⟨t, rfl⟩ := r; rfl
 | str _ => obtain ⟨t, rfl⟩ := r; rfl
 | byt _ => obtain ⟨t, rfl⟩ := r; rfl
 | flt _ => obtain ⟨t, rfl⟩ := r; rfl
 | ref _ => cases r; rfl
 | ty _ => cases r; rfl
theorem RelV.inj {x y : V} {u : Value} (r : RelV x u) (q : RelV y u) : x = y := Option.some.inj (r.abs.symm.trans q.abs)
theorem Vals.inj : ∀ {xs ys : List V} {us : List Value}, Vals xs us → Vals ys us → xs = ys := by
 intro xs ys us h
 induction h generalizing ys with
 | nil => intro q; cases q; rfl
 | cons r t ih => intro q; cases q with | cons r' t' => rw [r.inj r', ih t']
section
variable {X : Cx} {pins : List (Addr × Obj)} {σ : St} {H : Hp} {s : Shared} {a : Addr} {xs ys : List V}
theorem SqL.of {K : PySem.W.Frag} (h : H a = some (.lst xs)) : SqL K H a xs := .inl (.inl h)
theorem SqT.of {K : PySem.W.Frag} (h : H a = some (.tup xs)) : SqT K H a xs := .inl (.inl h)
theorem Inv.list (I : Inv X pins σ H s) (h : SqL X.K H a xs) : ∃ its : List Value, Vals xs its ∧ PlainL s.heap a its.toArray ∧ xs.length ≤ sizeLine := by
 rcases h with h | ⟨o, its, n, hk, hc, hd, hs, hz, r⟩
 ·obtain ⟨z, its, n, r, e⟩ := h.ok I.hok
  exact ⟨its, r, ⟨_, n, e, rfl, rfl, rfl⟩, z⟩
 ·refine ⟨its.toList, r, ⟨o, n, I.kIn a o hk, hc, hd, by simpa using hs⟩, ?_⟩
  have e := r.length
  simp only [Array.length_toList] at e
  omega
theorem Inv.tuple (I : Inv X pins σ H s) (h : SqT X.K H a xs) : ∃ its : List Value, Vals xs its ∧ IsTup s.heap a its.toArray ∧ xs.length ≤ sizeLine := by
 rcases h with h | ⟨o, its, n, hk, hc, hs, hz, r⟩
 ·obtain ⟨z, its, r, p⟩ := h.ok I.hok
  exact ⟨its, r, p, z⟩
 ·refine ⟨its.toList, r, ⟨o, I.kIn a o hk, hc, n, by simpa using hs⟩, ?_⟩
  have e := r.length
  simp only [Array.length_toList] at e
  omega
theorem Inv.list_inj (I : Inv X pins σ H s) (h : SqL X.K H a xs) (h' : SqL X.K H a ys) : xs = ys := by
 obtain ⟨its, r, ⟨o, n, e, _, _, d⟩, _⟩ := I.list h
 obtain ⟨its', r', ⟨o', n', e', _, _, d'⟩, _⟩ := I.list h'
 rw [e] at e'; cases e'
 rw [d] at d'
 injection d' with d1 _
 have : its = its' := by simpa using congrArg Array.toList d1
 subst this
 exact r.inj r'
theorem Inv.tuple_inj (I : Inv X pins σ H s) (h : SqT X.K H a xs) (h' : SqT X.K H a ys) : xs = ys := by
 obtain ⟨its, r, ⟨o, e, _, n, d⟩, _⟩ := I.tuple h
 obtain ⟨its', r', ⟨o', e', _, n', d'⟩, _⟩ := I.tuple h'
 rw [e] at e'; cases e'
 rw [d] at d'
 injection d' with d1 _
 have : its = its' := by simpa using congrArg Array.toList d1
 subst this
 exact r.inj r'
end
abbrev Cx.wish (X : Cx) (E : Value → Shared → Prop) : Cx := { X with xe := E }
abbrev Cx.nox (X : Cx) : Cx := X.wish fun _ _ => False
theorem Cx.Ok.wish {X : Cx} (ok : X.Ok) (E : Value → Shared → Prop) : (X.wish E).Ok :=
 ⟨ok.mod, ok.kind, ok.glob, ok.blt, ok.above, ok.inj, ok.has, ok.cab, ok.hd, ok.frames, ok.stk, ok.exf, ok.bs, ok.bsz, ok.noex, ok.exfs, ok.funs, ok.frf⟩
theorem Cx.Ok.unwish {X : Cx} {E : Value → Shared → Prop} (ok : (X.wish E).Ok) : X.Ok :=
 ⟨ok.mod, ok.kind, ok.glob, ok.blt, ok.above, ok.inj, ok.has, ok.cab, ok.hd, ok.frames, ok.stk, ok.exf, ok.bs, ok.bsz, ok.noex, ok.exfs, ok.funs, ok.frf⟩
section
variable {X : Cx} {pins : List (Addr × Obj)} {σ : St} {H : Hp} {s : Shared} {E : Value → Shared → Prop}
theorem Inv.wish (I : Inv X pins σ H s) (E : Value → Shared → Prop) : Inv (X.wish E) pins σ H s := ⟨I.ok.wish E, I.os, I.bare, I.base, I.loc, I.cell, I.free, I.freeC, I.pin, I.hok, I.len⟩
theorem Inv.unwish (I : Inv (X.wish E) pins σ H s) : Inv X pins σ H s := ⟨I.ok.unwish, I.os, I.bare, I.base, I.loc, I.cell, I.free, I.freeC, I.pin, I.hok, I.len⟩
theorem SP.unwish {D : Ends} {f : Flow} {s' : Shared} (h : SP (X.wish E) pins D f s') : SP X pins D f s' := by
 cases f with
 | next => obtain ⟨σ', H', I, q⟩ := h; exact ⟨σ', H', I.unwish, q⟩
 | brk => obtain ⟨σ', H', I, q⟩ := h; exact ⟨σ', H', I.unwish, q⟩
 | cont => obtain ⟨σ', H', I, q⟩ := h; exact ⟨σ', H', I.unwish, q⟩
 | ret u => obtain ⟨v, σ', H', I, r, q⟩ := h; exact ⟨v, σ', H', I.unwish, r, q⟩
theorem PE.nox {e : Expr} {t : TE} (h : PE X.nox e t) : PE X e t := fun pins s σ H Q I hw =>
 wpAny_mono (h pins s σ H Q (I.wish _) hw) (fun _ _ ⟨v, H', I', r, q⟩ => ⟨v, H', I'.unwish, r, q⟩) fun _ _ z => False.elim z
theorem PT.nox {e : Expr} {t : TT} (h : PT X.nox e t) : PT X e t := fun pins s σ H Q I hw =>
 wpAny_mono (h pins s σ H Q (I.wish _) hw) (fun _ _ ⟨H', I', q⟩ => ⟨H', I'.unwish, q⟩) fun _ _ z => False.elim z
theorem PSs.nox {st : List Stmt} {t : TS} (h : PSs X.nox st t) : PSs X st t := fun pins s σ H D I hw =>
 wpAny_mono (h pins s σ H D (I.wish _) hw) (fun _ _ q => q.unwish) fun _ _ z => False.elim z
end
section
variable {X : Cx} {st : Stmt} {rest : List Stmt} {t u : TS} {e : Expr} {te : TE} {pos : Pos}
noncomputable def tNext : TS := fun D σ H => D.nx σ H
noncomputable def tSeq (t u : TS) : TS := fun D σ H => t { D with nx := u D } σ H
theorem bW : PSs X [] tNext := fun _ _ σ H _ I h => wpAny_execs_nil ⟨σ, H, I, h⟩
theorem aG (h1 : PS X st t) (h2 : PSs X rest u) : PSs X (st :: rest) (tSeq t u) := by
 intro pins s σ H D I h
 refine wpAny_execs_cons (thn (h1 pins s σ H { D with nx := u D } I h) fun f s1 q => ?_)
 cases f with
 | next =>
  obtain ⟨σ', H', I', q⟩ := q
  exact h2 pins s1 σ' H' D I' q
 | ret v => exact q
 | brk => exact q
 | cont => exact q
theorem aN (h1 : PS X st t) : PSs X [st] t := by
 intro pins s σ H D I h
 refine wpAny_execs_cons (thn (h1 pins s σ H D I h) fun f s1 q => ?_)
 cases f with
 | next => exact wpAny_execs_nil q
 | ret v => exact q
 | brk => exact q
 | cont => exact q
theorem Inv.quiet {pins : List (Addr × Obj)} {σ : St} {H : Hp} {s : Shared} (I : Inv X pins σ H s) : interactive X.env = false := by simp [interactive, I.ok.kind]
noncomputable def tDrop (te : TE) : TS := fun D σ H => te σ H fun _ H1 => D.nx σ H1
theorem rW (he : PE X e te) (hs : swapsWith e none pos.line X.env = pure false := by rfl) : PS X (.Expr e pos) (tDrop te) := by
 intro pins s σ H D I h
 exact wpAny_Expr_any (thn (he pins s σ H _ I h) fun v s1 ⟨x, H1, I1, r1, q1⟩ => ⟨σ, H1, I1, q1⟩) I.quiet hs
noncomputable def tRet (te : TE) : TS := fun D σ H => te σ H D.rt
theorem bG (he : PE X e te) : PS X (.Return (some e) pos) (tRet te) := by
 intro pins s σ H D I h
 exact wpAny_Return_some (thn (he pins s σ H _ I h) fun v s1 ⟨x, H1, I1, r1, q1⟩ => ⟨x, σ, H1, I1, r1, q1⟩)
noncomputable def tIfS (c : TT) (t u : TS) : TS := fun D σ H => c σ H fun b H1 => if b = true then t D σ H1 else u D σ H1
theorem dH {c : Expr} {a b : List Stmt} {tc : TT} (hc : PT X c tc) (ha : PSs X a t) (hb : PSs X b u) : PS X (.If c a b pos) (tIfS tc t u) := by
 intro pins s σ H D I h
 refine wpAny_If (thn (hc pins s σ H _ I h) fun d s1 ⟨H1, I1, q1⟩ => ?_)
 cases d with
 | true => exact ha pins s1 σ H1 D I1 q1
 | false => exact hb pins s1 σ H1 D I1 q1
noncomputable def tNever : TS := fun _ _ _ => False
theorem ps_never : PS X st tNever := fun _ _ _ _ _ _ h => h.elim
end
abbrev TG := V → St → Hp → (St → Hp → Prop) → Prop
abbrev TGs := List V → St → Hp → (St → Hp → Prop) → Prop
noncomputable def PG (X : Cx) (target : Expr) (t : TG) : Prop :=
 ∀ (pins : List (Addr × Obj)) (s : Shared) (σ : St) (H : Hp) (v : V) (u : Value) (Q : St → Hp → Prop), Inv X pins σ H s → RelV v u → t v σ H Q →
  wpAny (model X.prog X.w) X.A (assign target X.env u) (fun _ s' => ∃ σ' H', Inv X pins σ' H' s' ∧ Q σ' H') X.xe s
noncomputable def PGs (X : Cx) (ts : List Expr) (t : TGs) : Prop :=
 ∀ (pins : List (Addr × Obj)) (s : Shared) (σ : St) (H : Hp) (vs : List V) (us : List Value) (Q : St → Hp → Prop), Inv X pins σ H s → Vals vs us → t vs σ H Q →
  wpAny (model X.prog X.w) X.A (assignInOrder ((assignEach ts X.env).map (·.2)) us) (fun _ s' => ∃ σ' H', Inv X pins σ' H' s' ∧ Q σ' H') X.xe s
abbrev TSet := V → V → V → Hp → (Hp → Prop) → Prop
noncomputable def PSet (X : Cx) (t : TSet) : Prop :=
 ∀ (pins : List (Addr × Obj)) (s : Shared) (σ : St) (H : Hp) (o i v : V) (ov iv u : Value) (Q : Hp → Prop), Inv X pins σ H s → RelV o ov → RelV i iv → RelV v u → t o i v H Q →
  wpAny (model X.prog X.w) X.A (setItem ov iv u) (fun _ s' => ∃ H', Inv X pins σ H' s' ∧ Q H') X.xe s
abbrev TIp := V → V → Hp → VK → Prop
noncomputable def PIp (X : Cx) (op : Operator) (t : TIp) : Prop :=
 ∀ (pins : List (Addr × Obj)) (s : Shared) (σ : St) (H : Hp) (x y : V) (v u : Value) (Q : VK), Inv X pins σ H s → RelV x v → RelV y u → t x y H Q →
  wpAny (model X.prog X.w) X.A (inplaceOp op v u) (EP X pins σ Q) X.xe s
section
variable {X : Cx} {pos : Pos}
noncomputable def gName (i : Nat) : TG := fun v σ H Q => Q (σ.set i (some v)) H
theorem bR {i : Nat} {x : Str} (hN : X.N.Nodup) (hi : X.N[i]? = some x) (hx : Loc X.env.scope x) (hf : X.fn x = true ∨ X.env.scope.names.lookup x = some .local := by first | exact .inl rfl | exact .inr rfl | assumption) : PG X (.Name x pos) (gName i) := by
 intro pins s σ H v u Q I r h
 exact wpAny_assign_Name (sO I hN hi hx r (fun s' I' => ⟨_, H, I', h⟩) hf)
noncomputable def gNil : TGs := fun vs σ H Q => vs = [] ∧ Q σ H
noncomputable def gCons (t : TG) (u : TGs) : TGs := fun vs σ H Q => ∃ v r, vs = v :: r ∧ t v σ H fun σ' H' => u r σ' H' Q
theorem nU : PGs X [] gNil := by
 intro pins s σ H vs us Q I r h
 obtain ⟨e, h⟩ := h
 subst e
 cases r
 exact assignInOrder_nil ⟨σ, H, I, h⟩
theorem cP {e : Expr} {es : List Expr} {t : TG} {u : TGs} (h1 : PG X e t) (h2 : PGs X es u)
  (hs : (assignEach (e :: es) X.env).map (·.2) = assign e X.env :: (assignEach es X.env).map (·.2) := by rfl) : PGs X (e :: es) (gCons t u) := by
 intro pins s σ H vs us Q I r h
 obtain ⟨v, vr, e1, h⟩ := h
 subst e1
 cases r with
 | cons r rr =>
  rw [hs]
  refine assignInOrder_cons (thn (h1 pins s σ H _ _ _ I r h) fun _ s1 ⟨σ1, H1, I1, q1⟩ => ?_)
  exact h2 pins s1 σ1 H1 _ _ Q I1 rr q1
noncomputable def gTup (K : PySem.W.Frag) (n : Nat) (t : TGs) : TG := fun v σ H Q => ∃ a xs, v = .ref a ∧ SqT K H a xs ∧ xs.length = n ∧ t xs σ H Q
theorem tX {es : List Expr} {k : Nat} {t : TGs} {n : Nat} (hc : X.calm = true) (h : PGs X es t)
  (hn : (assignEach es X.env).length = n := by rfl) (hst : (assignEach es X.env).findIdx? (·.1) = none := by rfl) : PG X (.Tuple es k pos) (gTup X.K n t) := by
 intro pins s σ H v u Q I r hw
 obtain ⟨a, xs, e1, hq, hl, hw⟩ := hw
 subst e1
 cases r
 obtain ⟨its, rv, ht, hz⟩ := I.tuple hq
 refine assign_Tuple_tuple (I.ok.hd hc) ht (by simp [hn, ← hl, rv.length]) hst fun h' hx => ?_
 have I1 : Inv X pins σ H { s with heap := h' } := I.kept (t' := s.toks) fun b o e => hx b o (Nat.ne_of_lt (Heap.lt_size e)) e
 exact h pins _ σ H xs _ Q I1 (by simpa using rv) hw
noncomputable def gSub (to ti : TE) (t : TSet) : TG := fun v σ H Q => to σ H fun o H1 => ti σ H1 fun i H2 => t o i v H2 fun H3 => Q σ H3
theorem pg_sub {o i : Expr} {to ti : TE} {t : TSet} (ho : PE X o to) (hi : PE X i ti) (hs : PSet X t)
  (ha : ∀ v, assign (.Subscript o i pos) X.env v = (do
   let ov ← holding [v] (eval o X.env)
   let iv ← holding [v, ov] (eval i X.env)
   standAt pos
   holding [v, ov, iv] (setItem ov iv v)
   release [v, ov, iv] []) := by intro _; rfl) : PG X (.Subscript o i pos) (gSub to ti t) := by
 intro pins s σ H v u Q I r h
 rw [ha]
 refine wpAny_bind (wpAny_holding (thn (ho pins s σ H _ I h) fun ov s1 ⟨x, H1, I1, r1, q1⟩ => ?_))
 refine wpAny_bind (wpAny_holding (thn (hi pins s1 σ H1 _ I1 q1) fun iv s2 ⟨y, H2, I2, r2, q2⟩ => ?_))
 refine wpAny_bind (wpAny_standAt (wpAny_bind (wpAny_holding (thn (hs pins s2 σ H2 x y v ov iv u _ I2 r1 r2 r q2) fun _ s3 ⟨H3, I3, q3⟩ => ?_))))
 exact wpAny_release ⟨σ, H3, I3, q3⟩
noncomputable def tAsg (te : TE) (g : TG) : TS := fun D σ H => te σ H fun x H1 => g x σ H1 D.nx
theorem ps_asg {tg e : Expr} {te : TE} {g : TG} (he : PE X e te) (hg : PG X tg g) (hs : swapsWithSole [tg] e pos.line X.env = pure false := by rfl) (hw : swappedStores [tg] e X.env = pure none := by rfl)
  (h1 : (assignEach [tg] X.env).map (·.2) = [assign tg X.env] := by rfl) : PS X (.Assign [tg] e pos) (tAsg te g) := by
 intro pins s σ H D I h
 refine wpAny_Assign_stores (thn (he pins s σ H _ I h) fun v s1 ⟨x, H1, I1, r1, q1⟩ => ?_) hs hw
 rw [h1]
 exact thn (hg pins s1 σ H1 x v _ I1 r1 q1) fun _ s2 q => q
theorem bB {i : Nat} {x : Str} {e : Expr} {te : TE} {pos' : Pos} (hN : X.N.Nodup) (hi : X.N[i]? = some x) (hx : Loc X.env.scope x) (he : PE X e te) (hs : swapsWith e (some (.Name x pos')) pos.line X.env = pure false := by rfl) (hf : X.fn x = true ∨ X.env.scope.names.lookup x = some .local := by first | exact .inl rfl | exact .inr rfl | assumption) :
  PS X (.Assign [.Name x pos'] e pos) (tAsg te (gName i)) := by
 intro pins s σ H D I h
 refine wpAny_Assign_Name (thn (he pins s σ H _ I h) fun v s1 ⟨y, H1, I1, r1, q1⟩ => ?_) hs
 exact sO I1 hN hi hx r1 (fun s2 I2 => ⟨_, H1, I2, q1⟩) hf
noncomputable def tPar (i j : Nat) (ta : TA) : TS := fun D σ H => ta σ H fun vs H1 => ∃ v w, vs = [v, w] ∧ D.nx ((σ.set i (some v)).set j (some w)) H1
theorem ps_par {i j : Nat} {x y : Str} {a b : Expr} {ta : TA} {px py pt : Pos} {kt k2 pt2} (hc : X.calm = true) (hN : X.N.Nodup) (hi : X.N[i]? = some x) (hj : X.N[j]? = some y) (hij : i ≠ j)
  (hx : X.env.scope.names.lookup x = some .local) (hy : X.env.scope.names.lookup y = some .local) (ha : PA X [a, b] ta)
  (hw : swappedStores [.Tuple [.Name x px, .Name y py] kt pt] (.Tuple [a, b] k2 pt2) X.env = pure (some [x, y]))
  (hs : swapsWithSole [.Tuple [.Name x px, .Name y py] kt pt] (.Tuple [a, b] k2 pt2) pos.line X.env = pure false := by rfl) :
  PS X (.Assign [.Tuple [.Name x px, .Name y py] kt pt] (.Tuple [a, b] k2 pt2) pos) (tPar i j ta) := by
 intro pins s σ H D I h
 rw [exec_Assign_arm]
 refine wpAny_bind (wpAny_standAt ?_)
 rw [hs]
 refine wpAny_bind (wpAny_pure ?_)
 rw [if_neg (by decide)]
 refine wpAny_bind (Tuple_ (thn (ha _ pins s σ H _ I h) fun us s1 ⟨vs, H1, I1, r1, q1⟩ => ?_))
 obtain ⟨v, w, e1, q1⟩ := q1
 subst e1
 obtain ⟨u1, u2, rfl, rv, rw'⟩ : ∃ u1 u2, us = [u1, u2] ∧ RelV v u1 ∧ RelV w u2 := by
  cases r1 with
  | cons p q =>
   cases q with
   | cons p' q' =>
    cases q'
    exact ⟨_, _, rfl, p, p'⟩
 refine wpAny_newObj_type ?_ (by show 2 ≤ sizeLine; decide)
 have I2 : Inv X pins σ H1 { s1 with heap := s1.heap.push { cls := .type "tuple", data := .seq [u1, u2].toArray } } := I1.kept (t' := s1.toks) fun b o e => Heap.get?_push_of_some _ e
 rw [hw]
 refine wpAny_bind (wpAny_pure ?_)
 show wpAny (model X.prog X.w) X.A (do rule "assign.swapped-stores"; let items ← unpackItems (.ref s1.heap.objs.size) 2 none; assignInOrder [fun v => bindName X.env y v, fun v => bindName X.env x v] items.reverse; pure Flow.next) _ _ _
 refine wpAny_bind (wpAny_rule (wpAny_bind (unpackItems_tuple (items := #[u1, u2]) (I.ok.hd hc) (IsTup.new s1.heap _) fun h' hx' => ?_)))
 have I3 := I2.kept (h' := h') (t' := s1.toks) fun b o e => hx' b o (Nat.ne_of_lt (Heap.lt_size e)) e
 show wpAny _ _ (assignInOrder [fun v => bindName X.env y v, fun v => bindName X.env x v] [u2, u1] >>= fun _ => pure Flow.next) _ _ _
 refine wpAny_bind (assignInOrder_cons (wpAny_bindName (sO I3 hN hj (.inl hy) rw' (fun s2 I4 => ?_) (.inr hy))))
 refine assignInOrder_cons (wpAny_bindName (sO I4 hN hi (.inl hx) rv (fun s3 I5 => assignInOrder_nil (wpAny_pure ?_)) (.inr hx)))
 rw [List.set_comm _ _ (Ne.symm hij)] at I5
 exact ⟨_, H1, I5, q1⟩
noncomputable def tAug (i : Nat) (te : TE) (ti : TIp) : TS := fun D σ H => ∃ x, σ[i]? = some (some x) ∧ te σ H fun y H1 => ti x y H1 fun z H2 => D.nx (σ.set i (some z)) H2
theorem ps_aug {i : Nat} {x : Str} {e : Expr} {te : TE} {op : Operator} {ti : TIp} {pos' : Pos} (hN : X.N.Nodup) (hi : X.N[i]? = some x) (hx : Loc X.env.scope x) (he : PE X e te) (ho : PIp X op ti) (hf : X.fn x = true ∨ X.env.scope.names.lookup x = some .local := by first | exact .inl rfl | exact .inr rfl | assumption) :
  PS X (.AugAssign (.Name x pos') op e pos) (tAug i te ti) := by
 intro pins s σ H D I h
 obtain ⟨v, e1, h⟩ := h
 obtain ⟨m, hn, hl⟩ := I.loc
 have vis : Vis X.env.scope x := by rcases hx with k | k; exact .inl k; exact .inr (.inl k)
 obtain ⟨u, r, l⟩ := hl i x v hi e1 vis
 refine wpAny_AugAssign_Name ?_
 have go : wpAny (model X.prog X.w) X.A (eval e X.env) (fun w s₂ => wpAny (model X.prog X.w) X.A (inplaceOp op u w) (fun r s₃ => wpAny (model X.prog X.w) X.A (storeName X.env x r) (fun _ => SP X pins D .next) X.xe s₃) X.xe s₂) X.xe s := by
  refine thn (he pins s σ H _ I h) fun w s1 ⟨y, H1, I1, r1, q1⟩ => ?_
  refine thn (ho pins s1 σ H1 v y u w _ I1 r r1 q1) fun z s2 ⟨zv, H2, I2, r2, q2⟩ => ?_
  exact sO I2 hN hi hx r2 (fun s3 I3 => ⟨_, H2, I3, q2⟩) hf
 rcases l with ⟨hk, hm⟩ | ⟨hk, c, hc, hcell⟩
 ·exact wpAny_loadName_local I.ok.kind hk hn hm go
 ·rcases hk with hk | hk
  ·exact wpAny_loadName_cell I.ok.kind hk hc hcell go
  ·rcases hx with k | k
   ·have : X.env.scope.names.lookup x = some .free := hk
    rw [k] at this; cases this
   ·have : X.env.scope.names.lookup x = some .free := hk
    rw [k] at this; cases this
noncomputable def ipI (f : Int → Int → Int) : TIp := fun x y H Q => ∃ i j, x = .int i ∧ y = .int j ∧ Q (.int (f i j)) H
theorem ip_add : PIp X .Add (ipI fun i j => i + j) := by
 intro pins s σ H x y v u Q I r1 r2 h
 obtain ⟨i, j, e1, e2, q⟩ := h
 subst e1; subst e2
 obtain ⟨t, rfl⟩ := r1
 obtain ⟨t', rfl⟩ := r2
 exact iadd_int ⟨.int _, H, I.tok _, ⟨_, rfl⟩, q⟩
theorem ip_sub : PIp X .Sub (ipI fun i j => i - j) := by
 intro pins s σ H x y v u Q I r1 r2 h
 obtain ⟨i, j, e1, e2, q⟩ := h
 subst e1; subst e2
 obtain ⟨t, rfl⟩ := r1
 obtain ⟨t', rfl⟩ := r2
 exact isub_int ⟨.int _, H, I.tok _, ⟨_, rfl⟩, q⟩
end
section
variable {X : Cx} {pos : Pos}
noncomputable def tWhile (c : TT) (tb : TS) : TS := fun D σ H => ∃ W : Nat → St → Hp → Prop, (∃ m, W m σ H) ∧ ∀ m σ H, W m σ H →
 c σ H fun b H1 => if b = true then ∃ N : St → Hp → Prop, (∀ σ' H', N σ' H' → ∃ m', m' < m ∧ W m' σ' H') ∧ tb { D with nx := N, ct := N, bk := D.nx } σ H1 else D.nx σ H1
theorem wA {c : Expr} {body : List Stmt} {tc : TT} {tb : TS} (hp : PassesOwn (model X.prog X.w) X.A X.env X.xe) (hc : PT X c tc) (hb : PSs X body tb) : PS X (.While c body [] pos) (tWhile tc tb) := by
 intro pins s σ H D I h
 obtain ⟨W, ⟨m0, w0⟩, turn⟩ := h
 refine wpAny_While (codeAny_whileLoop (fun n s' => ∃ σ' H', Inv X pins σ' H' s' ∧ W n σ' H') ?_ m0 ⟨σ, H, I, w0⟩)
 rintro n s1 ⟨σ1, H1, I1, w1⟩
 refine wpAny_passesOwn hp (thn (hc pins s1 σ1 H1 _ I1 (turn n σ1 H1 w1)) fun b s2 ⟨H2, I2, q2⟩ => ?_)
 cases b with
 | true =>
  obtain ⟨N, hN, q2⟩ := q2
  rw [if_pos rfl]
  refine wpAny_passesOwn hp (thn (hb pins s2 σ1 H2 _ I2 q2) fun f s3 q3 => ?_)
  cases f with
  | next =>
   obtain ⟨σ3, H3, I3, n3⟩ := q3
   obtain ⟨m', hm, w3⟩ := hN σ3 H3 n3
   exact ⟨m', hm, σ3, H3, I3, w3⟩
  | cont =>
   obtain ⟨σ3, H3, I3, n3⟩ := q3
   obtain ⟨m', hm, w3⟩ := hN σ3 H3 n3
   exact ⟨m', hm, σ3, H3, I3, w3⟩
  | brk => exact q3
  | ret v => exact q3
 | false =>
  rw [if_neg Bool.false_ne_true]
  exact wpAny_execs_nil ⟨σ1, H2, I2, q2⟩
end
structure It where
 go : Nat → Hp → Prop
 yld : Nat → Hp → V → Hp → Prop
 stop : Nat → Hp → Prop
noncomputable def FpOk (X : Cx) (pins : List (Addr × Obj)) (H : Hp) (b : Addr) : Prop :=
 H b = none ∧ b ≠ X.env.locals ∧ b ∉ X.fs ∧ (b ∈ X.ex ∨ X.s₀.heap.objs.size ≤ b) ∧ (∀ x c, X.env.cells.lookup x = some c → c ≠ b) ∧ ∀ p ∈ X.pn ++ pins, p.1 ≠ b
theorem Inv.fpOk {X : Cx} {pins : List (Addr × Obj)} {σ : St} {H H' : Hp} {s : Shared} {b : Addr} (I : Inv X pins σ H s) (hb : s.heap.objs.size ≤ b) (hn : H' b = none) : FpOk X pins H' b := by
 refine ⟨hn, Nat.ne_of_gt (Nat.lt_of_lt_of_le I.lt hb), I.nofs hb, .inr (Nat.le_trans I.sz hb), fun x c e z => ?_, fun p hp z => ?_⟩
 ·obtain ⟨v, q⟩ := I.cell x c e
  exact absurd (Nat.lt_of_lt_of_le q.lt (by rw [z]; exact hb)) (Nat.lt_irrefl _)
 ·exact absurd (Nat.lt_of_lt_of_le (Heap.lt_size (I.pin p hp).1) (by rw [z]; exact hb)) (Nat.lt_irrefl _)
structure Turn (P : Program) (w : World) (K : PySem.W.Frag) (tg : Expr) (J : It) (fp : List Addr) (it : Addr) (tn : Nat → Heap → Prop) : Prop where
 mem : it ∈ fp
 obj : ∀ i h, tn i h → ∀ b ∈ fp, ∃ o, h.get? b = some o ∧ ∀ v, o.data ≠ .cell v
 keep : ∀ i h h', tn i h → (∀ b ∈ fp, ∀ o, h.get? b = some o → h'.get? b = some o) → tn i h'
 item : ∀ (X : Cx), X.prog = P → X.w = w → X.K = K → X.calm = true → ∀ (i : Nat) (pins : List (Addr × Obj)) (s : Shared) (σ : St) (H : Hp) (E : Value → Shared → Prop), Inv X pins σ H s → (∀ b ∈ fp, FpOk X pins H b) → tn i s.heap → J.go i H →
  wpAny (model P w) X.A (pyNext (.ref it)) (fun r s1 => ∃ u, r = some u ∧
   wpAny (model P w) X.A (letOwnedTupleGo tg (.ref it) u) (fun _ s2 => ∃ x H', Inv X pins σ H' s2 ∧ RelV x u ∧ J.yld i H x H' ∧ tn (i + 1) s2.heap ∧ ∀ b ∈ fp, H' b = none) E s1) E s
 done : ∀ (X : Cx), X.prog = P → X.w = w → X.K = K → X.calm = true → ∀ (i : Nat) (pins : List (Addr × Obj)) (s : Shared) (σ : St) (H : Hp) (E : Value → Shared → Prop), Inv X pins σ H s → (∀ b ∈ fp, FpOk X pins H b) → tn i s.heap → J.stop i H →
  wpAny (model P w) X.A (pyNext (.ref it)) (fun r s1 => r = none ∧ Inv X pins σ H s1) E s
 self : ∀ (A : Around) (i : Nat) (s : Shared) (Q : Value → Shared → Prop) (E : Value → Shared → Prop), tn i s.heap → Q (.ref it) s → wpAny (model P w) A (pyIter (.ref it)) Q E s
abbrev TI := St → Hp → (It → Hp → Prop) → Prop
noncomputable def PIE (X : Cx) (pins : List (Addr × Obj)) (σ : St) (tg : Expr) (R : It → Hp → Prop) (itv : Value) (s2 : Shared) : Prop :=
 ∃ (it : Addr) (fp : List Addr) (tn : Nat → Heap → Prop) (J : It) (H' : Hp), itv = .ref it ∧ Inv X pins σ H' s2 ∧ Turn X.prog X.w X.K tg J fp it tn ∧ tn 0 s2.heap ∧ (∀ b ∈ fp, FpOk X pins H' b) ∧ R J H'
noncomputable def PI (X : Cx) (tg iter : Expr) (wi : TI) : Prop :=
 ∀ (pins : List (Addr × Obj)) (s : Shared) (σ : St) (H : Hp) (R : It → Hp → Prop), Inv X pins σ H s → wi σ H R →
  wpAny (model X.prog X.w) X.A (eval iter X.env) (fun v s1 => wpAny (model X.prog X.w) X.A (pyIter v) (PIE X pins σ tg R) X.xe s1) X.xe s
theorem go_of {M : Model} {A : Around} {E : Value → Shared → Prop} {s : Shared} {tg : Expr} {it : Addr} {u : Value} {o : Obj} {n : String} {vs : Array Value} {Q : Unit → Shared → Prop} (ho : s.heap.get? it = some o) (hc : o.cls = .type n) (hd : o.data = .fields vs)
    (hn : ["enumerate", "zip", "dict_itemiterator", "dict_reverseitemiterator", "odict_iterator", "itertools.zip_longest", "itertools.pairwise"].contains n = false) (hQ : Q () s) : wpAny M A (letOwnedTupleGo tg (.ref it) u) Q E s := by
  unfold letOwnedTupleGo
  cases tg <;> first
    | exact wpAny_pure hQ
    | (cases u <;> first
        | exact wpAny_pure hQ
        | (refine wpAny_bind (wpAny_load ho ?_)
           rw [hc, hd]
           show wpAny M A (if (["enumerate", "zip", "dict_itemiterator", "dict_reverseitemiterator", "odict_iterator", "itertools.zip_longest", "itertools.pairwise"].contains n && vs[0]? == some (rawInt _)) = true then _ else _) Q E s
           rw [if_neg (by intro h; rw [hn, Bool.false_and] at h; cases h)]
           exact wpAny_pure hQ))
noncomputable def Itl (K : PySem.W.Frag) (a : Addr) : It :=
 ⟨fun i H => ∃ xs x, SqL K H a xs ∧ xs[i]? = some x, fun i H x H' => H' = H ∧ ∀ xs, SqL K H a xs → xs[i]? = some x, fun i H => ∃ xs, SqL K H a xs ∧ xs.length ≤ i⟩
noncomputable def Itt (K : PySem.W.Frag) (a : Addr) : It :=
 ⟨fun i H => ∃ xs x, SqT K H a xs ∧ xs[i]? = some x, fun i H x H' => H' = H ∧ ∀ xs, SqT K H a xs → xs[i]? = some x, fun i H => ∃ xs, SqT K H a xs ∧ xs.length ≤ i⟩
noncomputable def Itr (lo : Int) (n : Nat) : It := ⟨fun i _ => i < n, fun i H x H' => H' = H ∧ x = .int (lo + i), fun i _ => n ≤ i⟩
theorem turn_list {P : Program} {w : World} {K : PySem.W.Frag} {tg : Expr} (a it : Addr) : Turn P w K tg (Itl K a) [it] it (fun i h => h.IsListIter it a i) where
 mem := by simp
 obj := fun i h st b hb => by
  have e : b = it := by simpa using hb
  subst e
  obtain ⟨o, e, c, d⟩ := st
  exact ⟨o, e, fun v z => by rw [d] at z; cases z⟩
 keep := fun i h h' st k => st.at fun o e => k it (by simp) o e
 item := by
  intro X hP hw hK hc i pins s σ H E I hf st hg
  subst hP hw hK
  obtain ⟨xs, x, hq, hx⟩ := hg
  obtain ⟨its, rv, p, hz⟩ := I.list hq
  obtain ⟨u, hu, ru⟩ := rv.get hx
  obtain ⟨f0, f1, f2, f3, f4, f5⟩ := hf it (by simp)
  refine wpAny_pyNext_list_item st p.isList (x := u) (by simpa using hu) fun h' st' sb => ?_
  have I1 : Inv X pins σ H { s with heap := h' } := I.turned (t' := s.toks) (fun b o hb e => (sb.2 b hb).trans e) f0 f1 f3 f4 f5
  obtain ⟨o, e, c, d⟩ := id st'
  exact ⟨u, rfl, go_of (s := { s with heap := h' }) e c d (by decide) ⟨x, H, I1, ru, ⟨rfl, fun ys hy => by rw [I.list_inj hy hq]; exact hx⟩, st', fun b hb => (hf b hb).1⟩⟩
 done := by
  intro X hP hw hK hc i pins s σ H E I hf st hg
  subst hP hw hK
  obtain ⟨xs, hq, hx⟩ := hg
  obtain ⟨its, rv, p, hz⟩ := I.list hq
  obtain ⟨f0, f1, f2, f3, f4, f5⟩ := hf it (by simp)
  have hl := rv.length
  exact wpAny_pyNext_list_end (I.ok.hd hc) st p.isList (by simp; omega) fun h' eb => ⟨rfl, I.turned (t' := s.toks) (fun b o hb e => eb b o hb e) f0 f1 f3 f4 f5⟩
 self := fun _ _ _ _ _ st h => wpAny_pyIter_listiter st h
theorem turn_tuple {P : Program} {w : World} {K : PySem.W.Frag} {tg : Expr} (a it : Addr) : Turn P w K tg (Itt K a) [it] it (fun i h => h.IsTupleIter it a i) where
 mem := by simp
 obj := fun i h st b hb => by
  have e : b = it := by simpa using hb
  subst e
  obtain ⟨o, e, c, d⟩ := st
  exact ⟨o, e, fun v z => by rw [d] at z; cases z⟩
 keep := fun i h h' st k => st.at fun o e => k it (by simp) o e
 item := by
  intro X hP hw hK hc i pins s σ H E I hf st hg
  subst hP hw hK
  obtain ⟨xs, x, hq, hx⟩ := hg
  obtain ⟨its, rv, p, hz⟩ := I.tuple hq
  obtain ⟨u, hu, ru⟩ := rv.get hx
  obtain ⟨f0, f1, f2, f3, f4, f5⟩ := hf it (by simp)
  refine wpAny_pyNext_tuple_item st (show s.heap.IsTuple a its.toArray from p) (x := u) (by simpa using hu) fun h' st' sb => ?_
  have I1 : Inv X pins σ H { s with heap := h' } := I.turned (t' := s.toks) (fun b o hb e => (sb.2 b hb).trans e) f0 f1 f3 f4 f5
  obtain ⟨o, e, c, d⟩ := id st'
  exact ⟨u, rfl, go_of (s := { s with heap := h' }) e c d (by decide) ⟨x, H, I1, ru, ⟨rfl, fun ys hy => by rw [I.tuple_inj hy hq]; exact hx⟩, st', fun b hb => (hf b hb).1⟩⟩
 done := by
  intro X hP hw hK hc i pins s σ H E I hf st hg
  subst hP hw hK
  obtain ⟨xs, hq, hx⟩ := hg
  obtain ⟨its, rv, p, hz⟩ := I.tuple hq
  obtain ⟨f0, f1, f2, f3, f4, f5⟩ := hf it (by simp)
  have hl := rv.length
  exact wpAny_pyNext_tuple_end (I.ok.hd hc) st (show s.heap.IsTuple a its.toArray from p) (by simp; omega) fun h' eb => ⟨rfl, I.turned (t' := s.toks) (fun b o hb e => eb b o hb e) f0 f1 f3 f4 f5⟩
 self := fun _ _ _ _ _ st h => wpAny_pyIter_tupleiter st h
theorem turn_range {P : Program} {w : World} {K : PySem.W.Frag} {tg : Expr} (it : Addr) (lo : Int) (n : Nat) : Turn P w K tg (Itr lo n) [it] it (fun i h => IsRangeIter h it (lo + (i : Nat) * 1) ((n : Int) - (i : Nat)) 1) where
 mem := by simp
 obj := fun i h st b hb => by
  have e : b = it := by simpa using hb
  subst e
  exact ⟨_, st, fun v z => by
   have z' : Data.fields _ = Data.cell v := z
   cases z'⟩
 keep := fun i h h' st k => k it (by simp) _ st
 item := by
  intro X hP hw hK hc i pins s σ H E I hf st hg
  subst hP hw hK
  obtain ⟨f0, f1, f2, f3, f4, f5⟩ := hf it (by simp)
  have W := Walks.range (prog := X.prog) (w := X.w) (I.ok.hd hc) it lo 1 n
  refine W.item i s _ _ hg st fun v h' tk hv st' kk => ?_
  obtain ⟨t, rfl⟩ := hv
  have I1 : Inv X pins σ H { s with heap := h', toks := tk } := I.turned (fun b o hb e => kk b o (by simpa using hb) e) f0 f1 f3 f4 f5
  refine ⟨_, rfl, go_of (s := { s with heap := h', toks := tk }) (n := "range_iterator") st' rfl rfl (by decide) ⟨.int (lo + i), H, I1, ⟨t, ?_⟩, ⟨rfl, rfl⟩, st', fun b hb => (hf b hb).1⟩⟩
  rw [Int.mul_one]
 done := by
  intro X hP hw hK hc i pins s σ H E I hf st hg
  subst hP hw hK
  obtain ⟨f0, f1, f2, f3, f4, f5⟩ := hf it (by simp)
  exact wpAny_pyNext_range_end (I.ok.hd hc) st (by have : n ≤ i := hg; omega) fun h' eb => ⟨rfl, I.turned (t' := s.toks) (fun b o hb e => eb b o hb e) f0 f1 f3 f4 f5⟩
 self := fun _ _ _ _ _ st h => wpAny_pyIter_rangeiter st h
end L2
namespace L2
open PySem PySem.Spec PyProof.Rows
section
variable {X : Cx} {tg : Expr}
noncomputable def iList (K : PySem.W.Frag) (tl : TE) : TI := fun σ H R => tl σ H fun x H1 => ∃ a, x = .ref a ∧ (∃ xs, SqL K H1 a xs) ∧ R (Itl K a) H1
noncomputable def iTup (K : PySem.W.Frag) (tl : TE) : TI := fun σ H R => tl σ H fun x H1 => ∃ a, x = .ref a ∧ (∃ xs, SqT K H1 a xs) ∧ R (Itt K a) H1
theorem dN {l : Expr} {tl : TE} (hl : PE X l tl) : PI X tg l (iList X.K tl) := by
 intro pins s σ H R I h
 refine thn (hl pins s σ H _ I h) fun v s1 ⟨x, H1, I1, r1, q1⟩ => ?_
 obtain ⟨a, e, ⟨xs, hq⟩, q⟩ := q1
 subst e
 cases r1
 obtain ⟨its, rv, p, hz⟩ := I1.list hq
 refine wpAny_pyIter_list p.isList ?_
 refine ⟨s1.heap.objs.size, [s1.heap.objs.size], _, _, H1, rfl, I1.kept (t' := s1.toks) fun b o e => Heap.get?_push_of_some _ e, turn_list a _, ⟨_, Heap.get?_push_size _ rfl, rfl, rfl⟩, fun b hb => ?_, q⟩
 have e : b = s1.heap.objs.size := by simpa using hb
 subst e
 exact I1.fpOk (Nat.le_refl _) (I1.hok.fresh (Nat.le_refl _))
theorem pi_tup {l : Expr} {tl : TE} (hl : PE X l tl) : PI X tg l (iTup X.K tl) := by
 intro pins s σ H R I h
 refine thn (hl pins s σ H _ I h) fun v s1 ⟨x, H1, I1, r1, q1⟩ => ?_
 obtain ⟨a, e, ⟨xs, hq⟩, q⟩ := q1
 subst e
 cases r1
 obtain ⟨its, rv, p, hz⟩ := I1.tuple hq
 refine wpAny_pyIter_tuple (show s1.heap.IsTuple a its.toArray from p) ?_
 refine ⟨s1.heap.objs.size, [s1.heap.objs.size], _, _, H1, rfl, I1.kept (t' := s1.toks) fun b o e => Heap.get?_push_of_some _ e, turn_tuple a _, ⟨_, Heap.get?_push_size _ rfl, rfl, rfl⟩, fun b hb => ?_, q⟩
 have e : b = s1.heap.objs.size := by simpa using hb
 subst e
 exact I1.fpOk (Nat.le_refl _) (I1.hok.fresh (Nat.le_refl _))
theorem range_it {pins : List (Addr × Obj)} {σ : St} {H : Hp} {s : Shared} {R : It → Hp → Prop} {E : Value → Shared → Prop} {lo hi : Int} {t u v : Tok} {tk : Nat} (I : Inv X pins σ H s) (h1 : -(2 ^ 62) ≤ lo) (h2 : lo < 2 ^ 62) (h3 : -(2 ^ 62) ≤ hi) (h4 : hi < 2 ^ 62)
  (q : R (Itr lo (hi - lo).toNat) H) : wpAny (model X.prog X.w) X.A (pyIter (.ref s.heap.objs.size)) (PIE X pins σ tg R) E { s with heap := s.heap.push { cls := .type "range", data := .fields #[.int lo t, .int hi u, .int 1 v] }, toks := tk } := by
 refine wpAny_pyIter_range (IsRange.new ..) (small_one h1 h2 h3 h4) ?_
 have I1 : Inv X pins σ H { s with heap := s.heap.push { cls := .type "range", data := .fields #[.int lo t, .int hi u, .int 1 v] }, toks := tk } := I.kept fun b o e => Heap.get?_push_of_some _ e
 refine ⟨(s.heap.push { cls := .type "range", data := .fields #[.int lo t, .int hi u, .int 1 v] }).objs.size, [(s.heap.push { cls := .type "range", data := .fields #[.int lo t, .int hi u, .int 1 v] }).objs.size], _, _, H, rfl,
  I1.kept (t' := tk) fun b o e => Heap.get?_push_of_some _ e, turn_range _ lo (hi - lo).toNat, ?_, fun b hb => ?_, q⟩
 ·have e1 : lo + ((0 : Nat) : Int) * 1 = lo := by simp
  have e2 : (((hi - lo).toNat : Nat) : Int) - ((0 : Nat) : Int) = Builtin.Range.rangeSize lo hi 1 := by rw [rangeSize_one]; split <;> omega
  show IsRangeIter _ _ (lo + ((0 : Nat) : Int) * 1) ((((hi - lo).toNat : Nat) : Int) - ((0 : Nat) : Int)) 1
  rw [e1, e2]
  exact Heap.get?_push_size _ rfl
 ·have e : b = (s.heap.push { cls := .type "range", data := .fields #[.int lo t, .int hi u, .int 1 v] }).objs.size := by simpa using hb
  subst e
  exact I1.fpOk (Nat.le_refl _) (I1.hok.fresh (Nat.le_refl _))
noncomputable def iRng1 (ta : TA) : TI := fun σ H R => ta σ H fun vs H1 => ∃ j : Int, vs = [.int j] ∧ -(2 ^ 62) ≤ j ∧ j < 2 ^ 62 ∧ R (Itr 0 j.toNat) H1
theorem gQ {a : Expr} {ta : TA} {p pos : Pos} (hg : Gl X "range") (hm : X.mg "range" = none) (ha : PA X [a] ta) (hs : starEach [a] X.env = [(false, eval a X.env)] := by rfl) : PI X tg (.Call (.Name "range" p) [a] [] pos) (iRng1 ta) := by
 intro pins s σ H R I h
 refine Call_ (wL I hg hm boot_range (PyProof.Rows.callWith_type1 (thn (ha pos pins s σ H _ I h) fun us s1 ⟨vs, H1, I1, r1, q1⟩ => ?_) hs rfl))
 obtain ⟨j, e, q1, q2, q⟩ := q1
 subst e
 cases r1 with
 | cons r rr =>
  cases rr
  obtain ⟨t, rfl⟩ := r
  exact call_range_1 (range_it I1 (by omega) (by omega) q1 q2 (by simpa using q))
noncomputable def tFor (wi : TI) (g : TG) (tb : TS) : TS := fun D σ H => wi σ H fun J H1 => ∃ W : Nat → Nat → St → Hp → Prop, (∃ m, W 0 m σ H1) ∧ ∀ i m σ H, W i m σ H →
 (J.stop i H ∧ D.nx σ H) ∨ (J.go i H ∧ ∃ N : St → Hp → Prop, (∀ σ' H', N σ' H' → ∃ m', m' < m ∧ W (i + 1) m' σ' H') ∧ ∀ x H', J.yld i H x H' → g x σ H' fun σ2 H2 => tb { D with nx := N, ct := N, bk := D.nx } σ2 H2)
noncomputable def pinsAt (fp : List Addr) (h : Heap) : List (Addr × Obj) := fp.filterMap fun b => (h.get? b).map fun o => (b, o)
theorem pX {fp : List Addr} {h : Heap} {b : Addr} {o : Obj} (hb : b ∈ fp) (e : h.get? b = some o) : (b, o) ∈ pinsAt fp h := List.mem_filterMap.mpr ⟨b, hb, by rw [e]; rfl⟩
theorem of_pinsAt {fp : List Addr} {h : Heap} {p : Addr × Obj} (hp : p ∈ pinsAt fp h) : p.1 ∈ fp ∧ h.get? p.1 = some p.2 := by
 obtain ⟨b, hb, e⟩ := List.mem_filterMap.mp hp
 cases q : h.get? b with
 | none => rw [q] at e; cases e
 | some o =>
  rw [q] at e
  have e' : (b, o) = p := Option.some.inj e
  subst e'
  exact ⟨hb, q⟩
theorem Inv.pinned {pins : List (Addr × Obj)} {σ : St} {H : Hp} {s : Shared} {fp : List Addr} (I : Inv X pins σ H s) (hf : ∀ b ∈ fp, FpOk X pins H b) (ho : ∀ b ∈ fp, ∃ o, s.heap.get? b = some o ∧ ∀ v, o.data ≠ .cell v) : Inv X (pins ++ pinsAt fp s.heap) σ H s :=
 I.pins_of fun p hp => (List.mem_append.mp hp).elim (fun z => I.pin p (List.mem_append_right _ z)) fun z => by
  obtain ⟨hb, e⟩ := of_pinsAt z
  obtain ⟨f0, f1, f2, _⟩ := hf p.1 hb
  obtain ⟨o, e', d⟩ := ho p.1 hb
  rw [e] at e'; cases e'
  exact ⟨e, f0, f1, f2, d⟩
theorem Inv.unpinned {pins pl : List (Addr × Obj)} {σ : St} {H : Hp} {s : Shared} (I : Inv X (pins ++ pl) σ H s) : Inv X pins σ H s := I.pins_of fun p hp => I.pin p (List.mem_append_right _ (List.mem_append_left _ hp))
theorem iW {iter : Expr} {body : List Stmt} {wi : TI} {g : TG} {tb : TS} {pos : Pos} (hp : PassesOwn (model X.prog X.w) X.A X.env X.xe) (hc : X.calm = true) (hi : PI X tg iter wi) (hg : PG X tg g) (hb : PSs X body tb)
  (hs : ∀ x, foldedSetIterable iter X.env x = pure x := by intro _; rfl) : PS X (.For tg iter body [] pos) (tFor wi g tb) := by
 intro pins s σ H D I h
 refine wpAny_For (thn (hi pins s σ H _ I h) fun v s1 h1 => thn h1 fun itv s2 h2 => ?_) hs
 obtain ⟨it, fp, tn, J, H2, e, I2, T, st2, f2, W, ⟨m0, w0⟩, turn⟩ := h2
 subst e
 have stat : ∀ {H' : Hp}, (∀ b ∈ fp, H' b = none) → ∀ b ∈ fp, FpOk X pins H' b := fun hn b hb => ⟨hn b hb, (f2 b hb).2⟩
 refine codeAny_forLoop_any (fun n s' => ∃ i σ' H', Inv X pins σ' H' s' ∧ tn i s'.heap ∧ (∀ b ∈ fp, H' b = none) ∧ W i n σ' H') ?_ m0 ⟨0, σ, H2, I2, st2, fun b hb => (f2 b hb).1, w0⟩
 rintro n s3 ⟨i, σ3, H3, I3, st3, fr3, w3⟩
 rcases turn i n σ3 H3 w3 with ⟨stop, qn⟩ | ⟨go, N, hN, step⟩
 ·refine wpAny_passesOwn hp (thn (T.done X rfl rfl rfl hc i pins s3 σ3 H3 X.xe I3 (stat fr3) st3 stop) fun r s4 ⟨hr, I4⟩ => ?_)
  subst hr
  exact wpAny_execs_nil ⟨σ3, H3, I4, qn⟩
 ·refine wpAny_passesOwn hp (thn (T.item X rfl rfl rfl hc i pins s3 σ3 H3 X.xe I3 (stat fr3) st3 go) fun r s4 ⟨u, hr, h4⟩ => ?_)
  subst hr
  refine wpAny_passesOwn hp (thn h4 fun _ s5 ⟨x, H5, I5, r5, y5, st5, fr5⟩ => ?_)
  have I5' := I5.pinned (stat fr5) (T.obj _ _ st5)
  refine wpAny_passesOwn hp (thn (hg _ s5 σ3 H5 x u _ I5' r5 (step x H5 y5)) fun _ s6 ⟨σ6, H6, I6, q6⟩ => ?_)
  refine wpAny_passesOwn hp (thn (hb _ s6 σ6 H6 _ I6 q6) fun f s7 q7 => ?_)
  have again : ∀ {σ7 : St} {H7 : Hp}, Inv X (pins ++ pinsAt fp s5.heap) σ7 H7 s7 → N σ7 H7 → ∃ m, m < n ∧ ∃ i σ' H', Inv X pins σ' H' s7 ∧ tn i s7.heap ∧ (∀ b ∈ fp, H' b = none) ∧ W i m σ' H' := fun {σ7 H7} I7 n7 => by
   obtain ⟨m', hm, w7⟩ := hN σ7 H7 n7
   refine ⟨m', hm, i + 1, σ7, H7, I7.unpinned, T.keep _ _ _ st5 fun b hb o e => (I7.pin (b, o) (List.mem_append_right _ (List.mem_append_right _ (pX hb e)))).1, fun b hb => ?_, w7⟩
   obtain ⟨o, e, d⟩ := T.obj _ _ st5 b hb
   exact (I7.pin (b, o) (List.mem_append_right _ (List.mem_append_right _ (pX hb e)))).2.1
  cases f with
  | next => obtain ⟨σ7, H7, I7, n7⟩ := q7; exact again I7 n7
  | cont => obtain ⟨σ7, H7, I7, n7⟩ := q7; exact again I7 n7
  | brk => obtain ⟨σ7, H7, I7, q7⟩ := q7; exact ⟨σ7, H7, I7.unpinned, q7⟩
  | ret v => obtain ⟨x7, σ7, H7, I7, r7, q7⟩ := q7; exact ⟨x7, σ7, H7, I7.unpinned, r7, q7⟩
end
end L2
namespace L2
open PySem PySem.Spec PyProof.Rows
abbrev R2 := V → V → Hp → VK → Prop
noncomputable def OpR (X : Cx) (f : Value → Value → Sem Value) (r : R2) : Prop :=
 ∀ (pins : List (Addr × Obj)) (s : Shared) (σ : St) (H : Hp) (x y : V) (v u : Value) (Q : VK), Inv X pins σ H s → RelV x v → RelV y u → r x y H Q →
  wpAny (model X.prog X.w) X.A (f v u) (EP X pins σ Q) X.xe s
noncomputable def UnR (X : Cx) (f : Value → Sem Value) (r : V → Hp → VK → Prop) : Prop :=
 ∀ (pins : List (Addr × Obj)) (s : Shared) (σ : St) (H : Hp) (x : V) (v : Value) (Q : VK), Inv X pins σ H s → RelV x v → r x H Q →
  wpAny (model X.prog X.w) X.A (f v) (EP X pins σ Q) X.xe s
noncomputable def CallR (X : Cx) (f : Value) (r : List V → Hp → VK → Prop) : Prop :=
 ∀ (pins : List (Addr × Obj)) (s : Shared) (σ : St) (H : Hp) (xs : List V) (us : List Value) (Q : VK), Inv X pins σ H s → Vals xs us → r xs H Q →
  wpAny (model X.prog X.w) X.A (call f us) (EP X pins σ Q) X.xe s
noncomputable def tOp (r : R2) (ta tb : TE) : TE := fun σ H Q => ta σ H fun x H1 => tb σ H1 fun y H2 => r x y H2 Q
noncomputable def tUn (r : V → Hp → VK → Prop) (ta : TE) : TE := fun σ H Q => ta σ H fun x H1 => r x H1 Q
noncomputable def rI (C : Int → Int → Prop) (g : Int → Int → V) : R2 := fun x y H Q => ∃ i j, x = .int i ∧ y = .int j ∧ C i j ∧ Q (g i j) H
noncomputable def rI0 (g : Int → Int → V) : R2 := fun x y H Q => ∃ i j, x = .int i ∧ y = .int j ∧ Q (g i j) H
noncomputable def rU (g : Int → V) : V → Hp → VK → Prop := fun x H Q => ∃ i, x = .int i ∧ Q (g i) H
section
variable {X : Cx} {a b c : Expr} {ta tb tc : TE} {pos : Pos}
theorem binT (ha : PE X a ta) (hb : PE X b tb) {pins : List (Addr × Obj)} {s : Shared} {σ : St} {H : Hp} {R : V → V → Hp → Prop} (I : Inv X pins σ H s)
  (h : ta σ H fun x H1 => tb σ H1 fun y H2 => R x y H2) {Q : Value → Shared → Prop} {f : Value → Value → Sem Value}
  (hf : ∀ v u s2 x y H2, Inv X pins σ H2 s2 → RelV x v → RelV y u → R x y H2 → wpAny (model X.prog X.w) X.A (f v u) Q X.xe s2) :
  wpAny (model X.prog X.w) X.A (eval a X.env) (fun v s₁ => wpAny (model X.prog X.w) X.A (eval b X.env) (fun u s₂ => wpAny (model X.prog X.w) X.A (f v u) Q X.xe s₂) X.xe s₁) X.xe s := by
 refine thn (ha pins s σ H _ I h) fun v s1 ⟨x, H1, I1, r1, q1⟩ => ?_
 refine thn (hb pins s1 σ H1 _ I1 q1) fun u s2 ⟨y, H2, I2, r2, q2⟩ => ?_
 exact hf v u s2 x y H2 I2 r1 r2 q2
theorem bI {op : Operator} {r : R2} (ho : OpR X (binaryOp op) r) (ha : PE X a ta) (hb : PE X b tb) : PE X (.BinOp a op b pos) (tOp r ta tb) := by
 intro pins s σ H Q I h
 exact wpAny_BinOp (binT ha hb I h fun v u s2 x y H2 I2 rx ry q => ho pins s2 σ H2 x y v u Q I2 rx ry q)
theorem pe_un {op : UnaryOp} {r : V → Hp → VK → Prop} (ho : UnR X (unaryOp op) r) (ha : PE X a ta) : PE X (.UnaryOp op a pos) (tUn r ta) := by
 intro pins s σ H Q I h
 exact UnaryOp_ (thn (ha pins s σ H _ I h) fun v s1 ⟨x, H1, I1, r1, q1⟩ => ho pins s1 σ H1 x v Q I1 r1 q1)
theorem opI {f : Value → Value → Sem Value} {C : Int → Int → Prop} {g : Int → Int → Int}
  (rule : ∀ (i j : Int) (t u : Tok) (s : Shared) (Q : Value → Shared → Prop) (E : Value → Shared → Prop), C i j → Q (.int (g i j) s.toks) { s with toks := s.toks + 1 } → wpAny (model X.prog X.w) X.A (f (.int i t) (.int j u)) Q E s) :
  OpR X f (rI C fun i j => .int (g i j)) := by
 intro pins s σ H x y v u Q I rx ry h
 obtain ⟨i, j, rfl, rfl, hc, q⟩ := h
 obtain ⟨t, rfl⟩ := rx
 obtain ⟨t', rfl⟩ := ry
 exact rule i j t t' s _ _ hc ⟨.int (g i j), H, I.tok _, ⟨_, rfl⟩, q⟩
theorem opI0 {f : Value → Value → Sem Value} {g : Int → Int → Int}
  (rule : ∀ (i j : Int) (t u : Tok) (s : Shared) (Q : Value → Shared → Prop) (E : Value → Shared → Prop), Q (.int (g i j) s.toks) { s with toks := s.toks + 1 } → wpAny (model X.prog X.w) X.A (f (.int i t) (.int j u)) Q E s) :
  OpR X f (rI0 fun i j => .int (g i j)) := by
 intro pins s σ H x y v u Q I rx ry h
 obtain ⟨i, j, rfl, rfl, q⟩ := h
 obtain ⟨t, rfl⟩ := rx
 obtain ⟨t', rfl⟩ := ry
 exact rule i j t t' s _ _ ⟨.int (g i j), H, I.tok _, ⟨_, rfl⟩, q⟩
theorem opB0 {f : Value → Value → Sem Value} {g : Int → Int → Bool}
  (rule : ∀ (i j : Int) (t u : Tok) (s : Shared) (Q : Value → Shared → Prop) (E : Value → Shared → Prop), Q (.bool (g i j)) s → wpAny (model X.prog X.w) X.A (f (.int i t) (.int j u)) Q E s) :
  OpR X f (rI0 fun i j => .bl (g i j)) := by
 intro pins s σ H x y v u Q I rx ry h
 obtain ⟨i, j, rfl, rfl, q⟩ := h
 obtain ⟨t, rfl⟩ := rx
 obtain ⟨t', rfl⟩ := ry
 exact rule i j t t' s _ _ ⟨.bl (g i j), H, I, rfl, q⟩
noncomputable def CDiv (i j : Int) : Prop := 0 < j ∧ j < 1073741824
noncomputable def CPow (i j : Int) : Prop := 0 ≤ j ∧ j ≤ 1000000 ∧ i.natAbs < 2 ^ 64
noncomputable def CMul (i j : Int) : Prop := (-(2 ^ 64) < i ∧ i < 2 ^ 64) ∨ (-(2 ^ 64) < j ∧ j < 2 ^ 64)
theorem CMul.ok {i j : Int} (h : CMul i j) : IntMulOk i j := by
 rcases h with ⟨h1, h2⟩ | ⟨h1, h2⟩
 ·exact .of_left (intBits_le_64 h1 h2)
 ·exact .of_right (intBits_le_64 h1 h2)
theorem lX : OpR X (binaryOp .Add) (rI0 fun i j => .int (i + j)) := opI0 fun _ _ _ _ _ _ _ q => add_int q
theorem dU : OpR X (binaryOp .Sub) (rI0 fun i j => .int (i - j)) := opI0 fun _ _ _ _ _ _ _ q => sub_int q
theorem op_mul : OpR X (binaryOp .Mult) (rI CMul fun i j => .int (i * j)) := opI fun _ _ _ _ _ _ _ hc q => mul_int q hc.ok
theorem op_fdiv : OpR X (binaryOp .FloorDiv) (rI CDiv fun i j => .int (i / j)) := opI fun i j _ _ _ _ _ hc q => by
 have h1 : (0 : Int) < j := hc.1
 have h2 : j < 1073741824 := hc.2
 exact floordiv_int (by omega) (by rw [Int.fdiv_eq_ediv_of_nonneg i (by omega)]; exact q) (.inl (PyProof.noPylong_small (by omega)))
theorem sW : OpR X (binaryOp .Mod) (rI (fun _ j => 0 < j) fun i j => .int (i % j)) := opI fun i j _ _ _ _ _ hc q => by
 have h1 : (0 : Int) < j := hc
 exact mod_int' (by omega) (by rw [Int.fmod_eq_emod_of_nonneg i (by omega)]; exact q)
theorem op_pow : OpR X (binaryOp .Pow) (rI CPow fun i j => .int (i ^ j.toNat)) := opI fun _ _ _ _ _ _ _ hc q => pow_int_small hc.1 hc.2.1 hc.2.2 q
theorem unI {f : Value → Sem Value} {g : Int → Int}
  (rule : ∀ (i : Int) (t : Tok) (s : Shared) (Q : Value → Shared → Prop) (E : Value → Shared → Prop), Q (.int (g i) s.toks) { s with toks := s.toks + 1 } → wpAny (model X.prog X.w) X.A (f (.int i t)) Q E s) :
  UnR X f (rU fun i => .int (g i)) := by
 intro pins s σ H x v Q I rx h
 obtain ⟨i, rfl, q⟩ := h
 obtain ⟨t, rfl⟩ := rx
 exact rule i t s _ _ ⟨.int (g i), H, I.tok _, ⟨_, rfl⟩, q⟩
theorem yP : UnR X (unaryOp .USub) (rU fun i => .int (-i)) := unI fun _ _ _ _ _ q => neg_int q
end
noncomputable def scal : V → V → Bool
 | .non, .non => true | .non, .int _ => true | .int _, .non => true | .non, .bl _ => true | .bl _, .non => true | .non, .str _ => true | .str _, .non => true
 | .int _, .int _ => true | .bl _, .bl _ => true | .str _, .str _ => true | .byt _, .byt _ => true
 | .int _, .str _ => true | .str _, .int _ => true | .bl _, .str _ => true | .str _, .bl _ => true
 | _, _ => false
noncomputable def rEq : R2 := fun x y H Q => scal x y = true ∧ Q (.bl (decide (x = y))) H
theorem dec_int {i j : Int} : decide (V.int i = V.int j) = (i == j) := by
 rw [Bool.eq_iff_iff]
 simp
theorem dec_bl {i j : Bool} : decide (V.bl i = V.bl j) = (i == j) := by
 rw [Bool.eq_iff_iff]
 simp
theorem dec_str {i j : Str} : decide (V.str i = V.str j) = (i == j) := by
 rw [Bool.eq_iff_iff]
 simp
theorem dec_byt {i j : Array UInt8} : decide (V.byt i = V.byt j) = (i.toList == j.toList) := by
 rw [Bool.eq_iff_iff]
 cases i
 cases j
 simp
section
variable {X : Cx} {a b c : Expr} {ta tb tc : TE} {pos : Pos}
theorem iY {pins : List (Addr × Obj)} {σ : St} {H : Hp} {s : Shared} {Q : VK} {k k' : Bool} (I : Inv X pins σ H s) (q : Q (.bl k) H) (e : k = k') : EP X pins σ Q (.bool k') s := by
 subst e
 exact ⟨.bl k, H, I, rfl, q⟩
theorem op_eq : OpR X (compareOp .Eq) rEq := by
 intro pins s σ H x y v u Q I rx ry h
 obtain ⟨hs, q⟩ := h
 cases x with
 | non =>
  cases rx
  cases y with
  | non => cases ry; exact PySem.EqNone.eq_none_none (iY I q (by simp))
  | bl j => cases ry; exact PySem.EqNone.eq_none_bool (iY I q (by simp))
  | int j => obtain ⟨t', rfl⟩ := ry; exact PySem.EqNone.eq_none_int (iY I q (by simp))
  | str j => obtain ⟨t', rfl⟩ := ry; exact PySem.EqNone.eq_none_str (iY I q (by simp))
  | _ => exact absurd (show false = true from hs) Bool.false_ne_true
 | bl i =>
  cases rx
  cases y with
  | non => cases ry; exact PySem.EqNone.eq_bool_none (iY I q (by simp))
  | bl j => cases ry; exact eq_bool (iY I q dec_bl)
  | str j => obtain ⟨t', rfl⟩ := ry; exact PySem.EqMixed.eq_bool_str (iY I q (by simp))
  | _ => exact absurd (show false = true from hs) Bool.false_ne_true
 | int i =>
  obtain ⟨t, rfl⟩ := rx
  cases y with
  | non => cases ry; exact PySem.EqNone.eq_int_none (iY I q (by simp))
  | int j => obtain ⟨t', rfl⟩ := ry; exact eq_int (iY I q dec_int)
  | str j => obtain ⟨t', rfl⟩ := ry; exact PySem.EqMixed.eq_int_str (iY I q (by simp))
  | _ => exact absurd (show false = true from hs) Bool.false_ne_true
 | str i =>
  obtain ⟨t, rfl⟩ := rx
  cases y with
  | non => cases ry; exact PySem.EqNone.eq_str_none (iY I q (by simp))
  | bl j => cases ry; exact PySem.EqMixed.eq_str_bool (iY I q (by simp))
  | int j => obtain ⟨t', rfl⟩ := ry; exact PySem.EqMixed.eq_str_int (iY I q (by simp))
  | str j => obtain ⟨t', rfl⟩ := ry; exact eq_str (iY I q dec_str)
  | _ => exact absurd (show false = true from hs) Bool.false_ne_true
 | byt i =>
  obtain ⟨t, rfl⟩ := rx
  cases y with
  | byt j => obtain ⟨t', rfl⟩ := ry; exact PySem.W.eq_bytes (iY I q dec_byt)
  | _ => exact absurd (show false = true from hs) Bool.false_ne_true
 | _ => cases y <;> exact absurd (show false = true from hs) Bool.false_ne_true
theorem uV : OpR X (compareOp .Lt) (rI0 fun i j => .bl (decide (i < j))) := opB0 fun _ _ _ _ _ _ _ q => lt_int q
theorem op_le : OpR X (compareOp .LtE) (rI0 fun i j => .bl (decide (i ≤ j))) := opB0 fun _ _ _ _ _ _ _ q => le_int q
theorem op_gt : OpR X (compareOp .Gt) (rI0 fun i j => .bl (decide (j < i))) := opB0 fun _ _ _ _ _ _ _ q => gt_int q
theorem op_ge : OpR X (compareOp .GtE) (rI0 fun i j => .bl (decide (j ≤ i))) := opB0 fun _ _ _ _ _ _ _ q => ge_int q
theorem wR : OpR X (compareOp .Is) (fun x y H Q => y = .non ∧ Q (.bl (decide (x = .non))) H) := by
 intro pins s σ H x y v u Q I rx ry h
 obtain ⟨rfl, q⟩ := h
 cases ry
 refine is_none_gen (iY I q ?_)
 cases x <;> first
  | (cases rx; rfl)
  | (obtain ⟨t, rfl⟩ := rx; rfl)
theorem xW : OpR X (compareOp .IsNot) (fun x y H Q => y = .non ∧ Q (.bl (!decide (x = .non))) H) := by
 intro pins s σ H x y v u Q I rx ry h
 obtain ⟨rfl, q⟩ := h
 cases ry
 refine isnot_none_gen (iY I q ?_)
 cases x <;> first
  | (cases rx; rfl)
  | (obtain ⟨t, rfl⟩ := rx; rfl)
theorem OpR.or {f : Value → Value → Sem Value} {r r' : R2} (h : OpR X f r) (h' : OpR X f r') : OpR X f (fun x y H Q => r x y H Q ∨ r' x y H Q) := by
 intro pins s σ H x y v u Q I rx ry q
 rcases q with q | q
 ·exact h pins s σ H x y v u Q I rx ry q
 ·exact h' pins s σ H x y v u Q I rx ry q
theorem bV (b : Expr) {op : CmpOp} (h : op ≠ .In := by decide) (h2 : op ≠ .NotIn := by decide) : behindInMarks op b = false := by
 have e1 : (op == CmpOp.In) = false := by cases op <;> first | rfl | exact absurd rfl h
 have e2 : (op == CmpOp.NotIn) = false := by cases op <;> first | rfl | exact absurd rfl h2
 cases b <;> simp [behindInMarks, e1, e2]
theorem j7 {op : CmpOp} {r : R2} (ho : OpR X (compareOp op) r) (ha : PE X a ta) (hb : PE X b tb) (hm : behindInMarks op b = false) : PE X (.Compare a [op] [b] pos) (tOp r ta tb) := by
 intro pins s σ H Q I h
 exact wpAny_Compare1 (binT ha hb I h fun v u s2 x y H2 I2 rx ry q => ho pins s2 σ H2 x y v u Q I2 rx ry q) hm
noncomputable def tTest (t : TE) : TT := fun σ H Q => t σ H fun x H' => ∃ k, x = .bl k ∧ Q k H'
theorem bL {op : CmpOp} {r : R2} (ho : OpR X (compareOp op) r) (ha : PE X a ta) (hb : PE X b tb) (hm : behindInMarks op b = false) : PT X (.Compare a [op] [b] pos) (tTest (tOp r ta tb)) := by
 intro pins s σ H Q I h
 refine wpAny_isTrue_Compare1 (thn (ha pins s σ H _ I h) fun v s1 ⟨x, H1, I1, r1, q1⟩ => thn (hb pins s1 σ H1 _ I1 q1) fun u s2 ⟨y, H2, I2, r2, q2⟩ =>
  thn (ho pins s2 σ H2 x y v u _ I2 r1 r2 q2) fun c s3 ⟨z, H3, I3, r3, k, e, q3⟩ => ?_) hm
 subst e
 cases r3
 exact wpAny_truthy_bool ⟨H3, I3, q3⟩
noncomputable def tChain (r r' : R2) (ta tb tc : TE) : TE := fun σ H Q => ta σ H fun x H1 => tb σ H1 fun y H2 => r x y H2 fun z H3 => ∃ k, z = .bl k ∧
 (if k = true then tc σ H3 fun w' H4 => r' y w' H4 Q else Q (.bl false) H3)
theorem pe_chain {op op' : CmpOp} {r r' : R2} (ho : OpR X (compareOp op) r) (ho' : OpR X (compareOp op') r') (ha : PE X a ta) (hb : PE X b tb) (hc : PE X c tc)
  (hm : lastMarks [op, op'] [b, c] = false := by with_unfolding_all rfl) : PE X (.Compare a [op, op'] [b, c] pos) (tChain r r' ta tb tc) := by
 intro pins s σ H Q I h
 refine Compare_chain (thn (ha pins s σ H _ I h) fun v s1 ⟨x, H1, I1, r1, q1⟩ => chain_link (thn (hb pins s1 σ H1 _ I1 q1) fun u s2 ⟨y, H2, I2, r2, q2⟩ =>
  thn (ho pins s2 σ H2 x y v u _ I2 r1 r2 q2) fun d s3 ⟨z, H3, I3, r3, k, e, q3⟩ => ?_)) hm
 subst e
 cases r3
 refine wpAny_truthy_bool ?_
 cases k with
 | false => exact ite_ff ⟨.bl false, H3, I3, rfl, q3⟩
 | true => exact ite_tt (chain_last (thn (hc pins s3 σ H3 _ I3 q3) fun w' s4 ⟨z', H4, I4, r4, q4⟩ => ho' pins s4 σ H4 y z' u w' Q I4 r2 r4 q4))
theorem line63 : (sizeLine : Nat) < 2 ^ 63 := by rw [sizeLine_eq]; decide
theorem vals1 {x : V} {us : List Value} (r : Vals [x] us) : ∃ u, us = [u] ∧ RelV x u := by
 cases r with
 | cons r1 r2 => cases r2; exact ⟨_, rfl, r1⟩
theorem vals2 {x y : V} {us : List Value} (r : Vals [x, y] us) : ∃ u w', us = [u, w'] ∧ RelV x u ∧ RelV y w' := by
 cases r with
 | cons r1 r2 =>
  cases r2 with
  | cons r3 r4 => cases r4; exact ⟨_, _, rfl, r1, r3⟩
theorem sI : CallR X (.builtin "abs") (fun xs H Q => ∃ i, xs = [.int i] ∧ Q (.int (if i < 0 then -i else i)) H) := by
 intro pins s σ H xs us Q I r h
 obtain ⟨i, rfl, q⟩ := h
 obtain ⟨u, rfl, t, rfl⟩ := vals1 r
 exact call_abs_int fun u tk => ⟨.int (if i < 0 then -i else i), H, I.tok _, ⟨_, rfl⟩, q⟩
theorem call_int1 : CallR X (.type "int") (fun xs H Q => (∃ i, xs = [.int i] ∧ Q (.int i) H) ∨ ∃ k, xs = [.bl k] ∧ Q (.int (if k then 1 else 0)) H) := by
 intro pins s σ H xs us Q I r h
 rcases h with ⟨i, rfl, q⟩ | ⟨k, rfl, q⟩
 ·obtain ⟨u, rfl, t, rfl⟩ := vals1 r
  exact call_int_int ⟨.int i, H, I, ⟨_, rfl⟩, q⟩
 ·obtain ⟨u, rfl, r1⟩ := vals1 r
  cases r1
  exact call_int_bool ⟨.int (if k then 1 else 0), H, I.tok _, ⟨_, rfl⟩, q⟩
end
end L2
namespace L2
open PySem PySem.Spec PyProof.Rows
structure ObjM (h : Heap) (x dx C : Addr) (mA : Str → Option Value) : Prop where
 obj : h.get? x = some (PySem.W.instObj C dx)
 ns : h.Ns1 dx mA
 ne : dx ≠ x
theorem lookIn_ns {h : Heap} {dx : Addr} {mA : Str → Option Value} (n : h.Ns1 dx mA) : ∃ od, h.get? dx = some od ∧ ∀ name, PySem.W.lookIn name od = some (mA name) := by
 obtain ⟨o, es, ep, ho, hd, hk, _, hm⟩ := n
 refine ⟨o, ho, fun name => ?_⟩
 have e := hm name
 unfold nsFind findBy at e
 rw [← Array.find?_toList] at e
 unfold PySem.W.lookIn
 rw [hd]
 dsimp only
 split
 ·rename_i y q
  rw [q] at e
  exact congrArg some e
 ·rename_i q
  rw [q] at e
  have a : es.toList.any (·.refKey) = false := by
   rw [List.any_eq_false]
   intro y hy
   obtain ⟨z, t, hkey⟩ := hk y (Array.mem_toList_iff.mp hy)
   simp [DictEntry.refKey, hkey]
  have a' : ¬ es.toList.any (·.refKey) = true := by rw [a]; exact Bool.false_ne_true
  rw [if_neg a']
  exact congrArg some e
theorem ObjM.look {h : Heap} {x dx C : Addr} {mA : Str → Option Value} (I : ObjM h x dx C mA) : ∃ od, PySem.W.InstAt h x (PySem.W.instObj C dx) C (some od) ∧ ∀ name, PySem.W.lookIn name od = some (mA name) :=
 let ⟨od, ho, hl⟩ := lookIn_ns I.ns
 ⟨od, ⟨I.obj, rfl, rfl, ho⟩, hl⟩
section
variable {prog : Program} {w : World} {A : Around} {E : Value → Shared → Prop} {s : Shared} {K : PySem.W.Frag} {x dx C f : Addr} {mA : Str → Option Value} {name : Str} {v : Value}
end
theorem RelO.none_of {o : Option Value} (r : RelO none o) : o = none := by
 cases o with
 | none => rfl
 | some u => exact (show False from r).elim
section
variable {P : Program} {w : World} {H H' : Hp} {h h' : Heap} {a C dx : Addr} {fs fs' : List (Str × V)}
theorem ins_get (hok : HOk P w H h) (e : H a = some (.ins C dx fs)) : ∃ mA, ObjM h a dx C mA ∧ (∀ f, RelO (fs.lookup f) (mA f)) ∧ PySem.Within mA (fs.map (·.1)) ∧ fs.length ≤ 1000 ∧ H dx = some (.own a) := by
 obtain ⟨d, z, ne, ob, mA, n, r, q⟩ := (show ObjOk P w H h a (.ins C dx fs) from hok a _ e)
 exact ⟨mA, ⟨ob, n, ne⟩, r, q, z, d⟩
end
structure Cls (K : PySem.W.Frag) (C : Addr) : Prop where
 pg : PySem.W.plainGet K C Str.empty = true
 hd : PySem.W.hasDictIn K C = true
 po : PySem.W.plainOver K C = true
 sa : PySem.W.findIn K (.ref C) "__setattr__" = some (some (.builtin "object.__setattr__"))
theorem Cls.get {K : PySem.W.Frag} {C : Addr} (c : Cls K C) (f : Str) : PySem.W.plainGet K C f = true := c.pg
structure Con (K : PySem.W.Frag) (C : Addr) (f : Str) (v : V) (u : Value) : Prop where
 at_ : PySem.W.findIn K (.ref C) f = some (some u)
 rel : RelV v u
 get : PySem.W.specialIn K u "__get__" = some none
 cp : PySem.W.copiedNames.contains f = false
structure Meth (K : PySem.W.Frag) (C : Addr) (m : Str) (f : Addr) : Prop where
 at_ : PySem.W.findIn K (.ref C) m = some (some (.ref f))
 fn : PySem.W.isFn K (.ref f) = true
 kp : PySem.W.keepIn K (.ref f) = true
section
variable {X : Cx} {pins : List (Addr × Obj)} {σ : St} {H : Hp} {s : Shared} {a C dx : Addr} {fs : List (Str × V)} {f : Str} {v : V} {A : Around} {E : Value → Shared → Prop}
end
section
variable {X : Cx} {o e value : Expr} {f : Str} {pos pos' tpos : Pos} {ta tv : TE}
end
section
variable {X : Cx} {pins : List (Addr × Obj)} {σ : St} {H : Hp} {s : Shared} {A : Around} {E : Value → Shared → Prop} {Q : Value → Shared → Prop} {c : Value} {b : Bool}
inductive TyOf (K : PySem.W.Frag) (H : Hp) : V → Value → Prop where
 | non : TyOf K H .non (.type "NoneType")
 | bl (x : Bool) : TyOf K H (.bl x) (.type "bool")
 | int (i : Int) : TyOf K H (.int i) (.type "int")
 | str (x : Str) : TyOf K H (.str x) (.type "str")
 | flt (x : UInt64) : TyOf K H (.flt x) (.type "float")
 | lst {a : Addr} {xs : List V} (e : H a = some (.lst xs)) : TyOf K H (.ref a) (.type "list")
 | frz {a : Addr} {o : Obj} {xs : List V} (e : H a = some (.frz o (.lst xs))) : TyOf K H (.ref a) (.type "list")
 | tup {a : Addr} {xs : List V} (e : H a = some (.tup xs)) : TyOf K H (.ref a) (.type "tuple")
 | dK {a : Addr} {kvs : List (Key × V)} (e : H a = some (.dK kvs)) : TyOf K H (.ref a) (.type "dict")
 | dT {a : Addr} {kvs : List (List Key × V)} (e : H a = some (.dT kvs)) : TyOf K H (.ref a) (.type "dict")
 | ins {a C dx : Addr} {fs : List (Str × V)} (e : H a = some (.ins C dx fs)) (cl : Cls K C) (ha : PySem.W.findIn K (.ref C) "__class__" = some (some (.builtin "object.__class__")))
   (hn : PySem.W.specialIn K (.builtin "object.__class__") "__get__" = some (some (.builtin "getset_descriptor.__get__"))) (htk : PySem.W.takesIn K (.builtin "object.__class__") = some true)
   (hm : PySem.W.mroIn K C (.type "object") = some true) : TyOf K H (.ref a) (.ref C)
theorem isinst_ok {x : V} {u t : Value} (I : Inv X pins σ H s) (rx : RelV x u) (ty : TyOf X.K H x t) (e : PySem.W.kitOne X.K t c = some b) (h : ∀ tk, Q (.bool b) { s with toks := tk }) :
  wpAny (model X.prog X.w) A (call (.builtin "isinstance") [u, c]) Q E s := by
 cases ty with
 | non => cases (show u = Value.none from rx); exact PySem.W.kia_one PySem.W.kitx_none I.kIn True.intro e (fun z => nomatch z) h
 | bl y => cases (show u = Value.bool y from rx); exact PySem.W.kia_one PySem.W.kitx_bool I.kIn True.intro e (fun z => nomatch z) h
 | int i => obtain ⟨t, q⟩ := (show ∃ t, u = Value.int i t from rx); cases q; exact PySem.W.kia_one PySem.W.kitx_int I.kIn True.intro e (fun z => nomatch z) h
 | str y => obtain ⟨t, q⟩ := (show ∃ t, u = Value.str y t from rx); cases q; exact PySem.W.kia_one PySem.W.kitx_str I.kIn True.intro e (fun z => nomatch z) h
 | flt y => obtain ⟨t, q⟩ := (show ∃ t, u = Value.float y t from rx); cases q; exact PySem.W.kia_one PySem.W.kitx_float I.kIn True.intro e (fun z => nomatch z) h
 | @lst a xs ea =>
  cases (show u = Value.ref a from rx)
  obtain ⟨_, _, n, _, h1⟩ := (show ObjOk X.prog X.w H s.heap a (.lst xs) from I.hok a _ ea)
  exact PySem.W.kia_one PySem.W.kitx_list I.kIn ⟨_, h1, rfl⟩ e (fun z => nomatch z) h
 | @frz a ob xs ea =>
  cases (show u = Value.ref a from rx)
  obtain ⟨_, _, _, n, _, h1⟩ := (show ObjOk X.prog X.w H s.heap a (.frz ob (.lst xs)) from I.hok a _ ea)
  exact PySem.W.kia_one PySem.W.kitx_list I.kIn ⟨_, h1, rfl⟩ e (fun z => nomatch z) h
 | @tup a xs ea =>
  cases (show u = Value.ref a from rx)
  obtain ⟨_, _, _, p⟩ := (show ObjOk X.prog X.w H s.heap a (.tup xs) from I.hok a _ ea)
  obtain ⟨o, h1, h2, _⟩ := p
  exact PySem.W.kia_one PySem.W.kitx_tuple I.kIn ⟨o, h1, h2⟩ e (fun z => nomatch z) h
 | @dK a kvs ea =>
  cases (show u = Value.ref a from rx)
  obtain ⟨_, _, vs, _, p⟩ := (show ObjOk X.prog X.w H s.heap a (.dK kvs) from I.hok a _ ea)
  obtain ⟨o, es, ep, h1, h2, _⟩ := p
  exact PySem.W.kia_one PySem.W.kitx_dict I.kIn ⟨o, h1, h2.1⟩ e (fun z => nomatch z) h
 | @dT a kvs ea =>
  cases (show u = Value.ref a from rx)
  obtain ⟨_, _, xs, _, o, es, ep, h1, h2, _⟩ := (show ObjOk X.prog X.w H s.heap a (.dT kvs) from I.hok a _ ea)
  exact PySem.W.kia_one PySem.W.kitx_dict I.kIn ⟨o, h1, h2.1⟩ e (fun z => nomatch z) h
 | @ins a C dx fs ea cl ha hn htk hm =>
  cases (show u = Value.ref a from rx)
  obtain ⟨mA, O, _⟩ := ins_get I.hok ea
  obtain ⟨od, J, _⟩ := O.look
  exact PySem.W.kia_one (PySem.W.kitx_own (cl.get _) cl.hd ha hn htk hm) I.kIn J e (fun z => nomatch z) h
end
end L2
namespace L2
open PySem PySem.Spec PyProof.Rows
structure Room (k : Nat) (A : Around) : Prop where
 hd : A.handled = none
 dp : A.depth + 3 * k + 5 < recursionLimit
 un : A.units + 16 * k + 200 < cLine
theorem Room.mono {j k : Nat} {A : Around} (r : Room k A) (h : j ≤ k) : Room j A := ⟨r.hd, by have := r.dp; omega, by have := r.un; omega⟩
theorem Room.deeper {k : Nat} {A : Around} (r : Room (k + 1) A) (env : Env) : Room k (A.deeper env) :=
 ⟨r.hd, by have := r.dp; show A.depth + 1 + 3 * k + 5 < _; omega, by have := r.un; show A.units + 3 + 16 * k + 200 < _; omega⟩
theorem Room.in1 {k : Nat} {A : Around} (r : Room (k + 1) A) : Room k A.in1 :=
 ⟨r.hd, by have := r.dp; show A.depth + 3 * k + 5 < _; omega, by have := r.un; show A.units + 1 + 16 * k + 200 < _; omega⟩
theorem Room.depth {k : Nat} {A : Around} (r : Room k A) : A.depth < recursionLimit := by have := r.dp; omega
theorem Room.units {k : Nat} {A : Around} (r : Room k A) : A.units + 64 < cLine := by have := r.un; omega
noncomputable def vP : TA := fun _ H Q => Q [] H
noncomputable def fY (ta : TE) (tr : TA) : TA := fun σ H Q => ta σ H fun x H1 => tr σ H1 fun xs H2 => Q (x :: xs) H2
section
variable {X : Cx} {e : Expr} {es : List Expr} {te : TE} {t : TA} {pos : Pos}
theorem aF : PA X [] vP := fun _ _ _ _ H Q I h => Calls.spliced_nil ⟨[], H, I, .nil, h⟩
theorem aA (ha : PE X e te) (hr : PA X es t) (hs : starEach (e :: es) X.env = (false, eval e X.env) :: starEach es X.env := by rfl) : PA X (e :: es) (fY te t) := by
 intro pos pins s σ H Q I h
 rw [hs]
 show wpAny _ _ (spliced ((false, eval e X.env) :: backTo pos (starEach es X.env))) _ _ s
 refine Calls.spliced_cons (thn (ha pins s σ H _ I h) fun u s1 ⟨x, H1, I1, r1, q1⟩ => ?_)
 exact thn (hr pos pins s1 σ H1 _ I1 q1) fun us s2 ⟨xs, H2, I2, r2, q2⟩ => ⟨x :: xs, H2, I2, .cons r1 r2, q2⟩
noncomputable def tTup (t : TA) : TE := fun σ H Q => t σ H fun xs H1 => xs.length ≤ sizeLine ∧ ∀ p, H1 p = none → Q (.ref p) (upd H1 p (.tup xs))
noncomputable def tLst (t : TA) : TE := fun σ H Q => t σ H fun xs H1 => xs.length ≤ sizeLine ∧ ∀ p, H1 p = none → Q (.ref p) (upd H1 p (.lst xs))
theorem cW {x1} (h : PA X es t) : PE X (.Tuple es x1 pos) (tTup t) := by
 intro pins s σ H Q I hq
 refine wpAny_Tuple_spliced (thn (h pos pins s σ H _ I hq) fun us s1 ⟨xs, H1, I1, r, z, q⟩ => ⟨by rw [← r.length]; exact z, ?_⟩)
 have hf : H1 s1.heap.objs.size = none := I1.hok.fresh (Nat.le_refl _)
 refine ⟨.ref s1.heap.objs.size, upd H1 s1.heap.objs.size (.tup xs), I1.laid (t' := s1.toks) (fun b u e => Heap.get?_push_of_some _ e) (Nat.le_refl _) ?_, rfl, q _ hf⟩
 exact ⟨z, us, r, ⟨_, Heap.get?_push_size _ rfl, rfl, _, rfl⟩⟩
theorem iI (h : PA X es t) : PE X (.List es pos) (tLst t) := by
 intro pins s σ H Q I hq
 refine wpAny_List_spliced (thn (h pos pins s σ H _ I hq) fun us s1 ⟨xs, H1, I1, r, z, q⟩ => ⟨by rw [← r.length]; exact z, ?_⟩)
 have hf : H1 s1.heap.objs.size = none := I1.hok.fresh (Nat.le_refl _)
 refine ⟨.ref s1.heap.objs.size, upd H1 s1.heap.objs.size (.lst xs), I1.laid (t' := s1.toks) (fun b u e => Heap.get?_push_of_some _ e) (Nat.le_refl _) ?_, rfl, q _ hf⟩
 exact ⟨z, us, 0, r, Heap.get?_push_size _ rfl⟩
end
abbrev Sp := List V → Hp → VK → XK → Prop
abbrev CXT := List Env → Hp → Shared → XK → Value → Shared → Prop
structure Env0 (P : Program) (w : World) (K : PySem.W.Frag) (mg : Str → Option Value) (base : Heap) (A : Around) (outer : List Env) (s : Shared) (H : Hp) : Prop where
 frames : A.frames = some outer
 mod : Mod K mg base
 bs : ∀ b o, base.get? b = some o → s.heap.get? b = some o ∧ H b = none
 bsz : base.objs.size ≤ s.heap.objs.size
 funs : s.heap.FunFrames base outer
 frf : ∀ b ∈ frs outer, H b = none
 hok : HOk P w H s.heap
 bare : AllBare s.gens
noncomputable def CE (outer : List Env) (P : Program) (w : World) (H : Hp) (s : Shared) (Q : VK) (u : Value) (s' : Shared) : Prop :=
 ∃ v H', s'.os = s.os ∧ AllBare s'.gens ∧ Un (frs outer) [] H H' s.heap s'.heap ∧ HOk P w H' s'.heap ∧ RelV v u ∧ Q v H'
noncomputable def CR (CX : CXT) (outer : List Env) (P : Program) (w : World) (H : Hp) (s : Shared) (Q : VK) (E : XK) (r : Result) (s' : Shared) : Prop :=
 match r with
 | .ok (.ret u) => CE outer P w H s Q u s'
 | .ok _ => False
 | .error e => CX outer H s E e s'
structure FnOk (P : Program) (w : World) (K : PySem.W.Frag) (mg : Str → Option Value) (base : Heap) (CX : CXT) (k : Nat) (f : Addr) (fd : FuncData) (ps : List Str) (sp : Sp) : Prop where
 len : ∀ vs H Q E, sp vs H Q E → vs.length = ps.length
 run : ∀ (A : Around) (outer : List Env) (s : Shared) (H : Hp) (args : Args) (us : List Value) (vs : List V) (Q : VK) (E : XK), Room k A → Env0 P w K mg base A outer s H → BindsTo s fd args (ps.zip us) → Vals vs us → sp vs H Q E →
  codeAny (model P w) A (.call (.ref f) args) (CR CX outer P w H s Q E) s
theorem FnOk.mono {P : Program} {w : World} {K : PySem.W.Frag} {mg : Str → Option Value} {base : Heap} {CX : CXT} {j k : Nat} {f : Addr} {fd : FuncData} {ps : List Str} {sp : Sp} (F : FnOk P w K mg base CX j f fd ps sp) (h : j ≤ k) :
  FnOk P w K mg base CX k f fd ps sp := ⟨F.len, fun A outer s H args us vs Q E hr => F.run A outer s H args us vs Q E (hr.mono h)⟩
theorem FnOk.imp {P : Program} {w : World} {K : PySem.W.Frag} {mg : Str → Option Value} {base : Heap} {CX : CXT} {k : Nat} {f : Addr} {fd : FuncData} {ps : List Str} {sp sp' : Sp} (F : FnOk P w K mg base CX k f fd ps sp)
  (h : ∀ vs H Q E, sp' vs H Q E → sp vs H Q E) : FnOk P w K mg base CX k f fd ps sp' :=
 ⟨fun vs H Q E q => F.len vs H Q E (h _ _ _ _ q), fun A outer s H args us vs Q E hr he hb hv hs => F.run A outer s H args us vs Q E hr he hb hv (h _ _ _ _ hs)⟩
theorem Env0.in1 {P : Program} {w : World} {K : PySem.W.Frag} {mg : Str → Option Value} {base : Heap} {A : Around} {outer : List Env} {s : Shared} {H : Hp} (e : Env0 P w K mg base A outer s H) :
  Env0 P w K mg base A.in1 outer s H := ⟨e.frames, e.mod, e.bs, e.bsz, e.funs, e.frf, e.hok, e.bare⟩
section
variable {X : Cx} {pins : List (Addr × Obj)} {σ : St} {H : Hp} {s s' : Shared}
theorem Inv.env0 (I : Inv X pins σ H s) : Env0 X.prog X.w X.K X.mg X.base X.A X.stack s H :=
 ⟨I.ok.frames, I.ok.mod, I.bs, Nat.le_trans I.ok.bsz I.sz, I.stack, I.stkFree, I.hok, I.bare⟩
theorem Inv.after {Q : VK} {u : Value} (I : Inv X pins σ H s) (h : CE X.stack X.prog X.w H s Q u s') : EP X pins σ Q u s' := by
 obtain ⟨v, H', os, bare, un, hok, r, q⟩ := h
 obtain ⟨hh, g, d, t, os'⟩ := s'
 obtain rfl : os' = s.os := os
 exact ⟨v, H', I.call (h' := hh) (g' := g) (d' := d) (t' := t) (ch := []) un hok bare (fun b z => absurd z (by simp)), r, q⟩
end
noncomputable def tCall (sp : Sp) (dvs : List V) (E : XK) (t : TA) : TE := fun σ H Q => t σ H fun vs H1 => sp (vs ++ dvs) H1 Q E
noncomputable def Binds (K : PySem.W.Frag) (fd : FuncData) (ps : List Str) (ds : List Value) : Prop :=
 ∀ (s : Shared) (us : List Value), K.In s.heap → (us ++ ds).length = ps.length → BindsTo s fd ⟨us, []⟩ (ps.zip (us ++ ds))
theorem Binds.all {K : PySem.W.Frag} {fd : FuncData} {ps : List Str} (h : ∀ us : List Value, us.length = ps.length → bindArgs fd ⟨us, []⟩ = pure (ps.zip us)) : Binds K fd ps [] := fun s us _ hl => by
 rw [List.append_nil] at hl ⊢
 exact .of_eq (h us hl)
noncomputable def Passes (CX : CXT) (X : Cx) (E : XK) : Prop := ∀ (pins : List (Addr × Obj)) (σ : St) (H : Hp) (s : Shared) (e : Value) (s' : Shared), Inv X pins σ H s → CX X.stack H s E e s' → X.xe e s'
section
variable {X : Cx} {CX : CXT} {k : Nat} {f C : Addr} {fd : FuncData} {ps : List Str} {sp : Sp} {dvs : List V} {ds : List Value} {E : XK} {x m : Str} {p pos apos : Pos} {e o : Expr} {es : List Expr} {ta : TE} {t : TA}
theorem run_fn {pins : List (Addr × Obj)} {σ : St} {H : Hp} {s : Shared} {Q : VK} {us : List Value} {vs : List V} (F : FnOk X.prog X.w X.K X.mg X.base CX k f fd ps sp) (hr : Room k X.A) (hb : Binds X.K fd ps ds) (hd : Vals dvs ds) (hx : Passes CX X E)
  (I : Inv X pins σ H s) (r : Vals vs us) (h : sp (vs ++ dvs) H Q E) : wpAny (model X.prog X.w) X.A (call (.ref f) us) (EP X pins σ Q) X.xe s := by
 have r2 : Vals (vs ++ dvs) (us ++ ds) := r.append hd
 have hl : (us ++ ds).length = ps.length := by rw [← r2.length]; exact F.len _ _ _ _ h
 refine wpAny_call (codeAny_mono (F.run X.A X.stack s H ⟨us, []⟩ (us ++ ds) (vs ++ dvs) Q E hr I.env0 (hb s us I.kIn hl) r2 h) fun r s' hq => ?_)
 cases r with
 | error e => exact hx pins σ H s e s' I hq
 | ok fl =>
  cases fl with
  | ret u => exact I.after hq
  | next => exact False.elim hq
  | brk => exact False.elim hq
  | cont => exact False.elim hq
theorem pe_call (F : FnOk X.prog X.w X.K X.mg X.base CX k f fd ps sp) (hr : Room k X.A) (hg : Gl X x) (hm : X.mg x = some (.ref f)) (hk : PySem.W.keepIn X.K (.ref f) = true) (hb : Binds X.K fd ps ds) (hd : Vals dvs ds) (hx : Passes CX X E)
  (ha : PA X (e :: es) t) (hdb : (x == ("__debug__" : Str)) = false := by decide) (he : starEach (e :: es) X.env = (false, eval e X.env) :: starEach es X.env := by rfl) (hpl : (backTo pos (starEach es X.env)).any (·.1) = false := by rfl) :
  PE X (.Call (.Name x p) (e :: es) [] pos) (tCall sp dvs E t) := by
 intro pins s σ H Q I h
 refine wpAny_Call_Name_kw (ld_glob I hg hm ?_ hdb)
 refine PySem.W.callWith_K (h₀ := X.base) I.ok.mod.kin hk (thn (ha pos pins s σ H _ I h) fun us s1 ⟨vs, H1, I1, r, q⟩ => ⟨I1.kIn, ?_⟩) he hpl
 exact run_fn F hr hb hd hx I1 r q
structure Mk (K : PySem.W.Frag) (C f : Addr) : Prop where
 makes : PySem.W.makesIn K C = true
 init : PySem.W.findIn K (.ref C) "__init__" = some (some (.ref f))
 fn : PySem.W.isFn K (.ref f) = true
 kp : PySem.W.keepIn K (.ref C) = true
end
section
variable {X : Cx} {CX : CXT} {k : Nat} {f C : Addr} {fd : FuncData} {ps ks : List Str} {sp : Sp} {E : XK} {x m : Str} {p pos apos kpos : Pos} {e o : Expr} {es : List Expr} {kws : List Keyword} {te ta : TE} {t tk : TA} {nm : Option Str}
structure KBinds (K : PySem.W.Frag) (fd : FuncData) (ps ks : List Str) (g : List Value → List Value → List Value) (gV : List V → List V → List V) : Prop where
 to : ∀ (s : Shared) (us ws : List Value), K.In s.heap → (g us ws).length = ps.length → BindsTo s fd ⟨us, ks.zip ws⟩ (ps.zip (g us ws))
 rel : ∀ {vs : List V} {us : List Value} {zs : List V} {ws : List Value}, Vals vs us → Vals zs ws → Vals (gV vs zs) (g us ws)
variable {g : List Value → List Value → List Value} {gV : List V → List V → List V}
end
structure FnScope (N P : List Str) (sc : Scope) : Prop where
 kind : sc.kind = .function
 co : sc.isCoroutine = false
 gen : sc.isGenerator = false
 nd : N.Nodup
 pre : N.take P.length = P
 par : ∀ x ∈ P, sc.names.lookup x = some .local ∨ sc.names.lookup x = some .cell
 nofree : ∀ y ∈ sc.names, y.2 ≠ .free
theorem bindL_out {kindOf : Str → Option NameKind} {x : Str} : ∀ {binds : List (Str × Value)} {m : Str → Option Value}, (∀ v, (x, v) ∉ binds) → bindL kindOf binds m x = m x
 | [], _, _ => rfl
 | (n, v) :: r, m, h => by
  unfold bindL
  rw [bindL_out fun w hw => h w (List.mem_cons_of_mem _ hw)]
  split
  ·have : x ≠ n := by rintro rfl; exact h v List.mem_cons_self
   simp [this]
  ·rfl
theorem bindC_out {kindOf : Str → Option NameKind} {x : Str} : ∀ {binds : List (Str × Value)} {m : Str → Option Value}, (∀ v, (x, v) ∉ binds) → bindC kindOf binds m x = m x
 | [], _, _ => rfl
 | (n, v) :: r, m, h => by
  unfold bindC
  rw [bindC_out fun w hw => h w (List.mem_cons_of_mem _ hw)]
  split
  ·rfl
  ·have : x ≠ n := by rintro rfl; exact h v List.mem_cons_self
   simp [this]
theorem bindL_get {kindOf : Str → Option NameKind} {x : Str} {v : Value} : ∀ {P : List Str} {vs : List Value} {i : Nat} {m : Str → Option Value}, P.Nodup → P[i]? = some x → vs[i]? = some v → kindOf x = some .local →
  bindL kindOf (P.zip vs) m x = some v
 | [], _, _, _, _, h, _, _ => by simp at h
 | _ :: _, [], _, _, _, _, h, _ => by simp at h
 | p :: P, w :: vs, 0, m, nd, h1, h2, hk => by
  simp at h1 h2; subst h1; subst h2
  show bindL kindOf ((p, w) :: P.zip vs) m p = _
  unfold bindL
  rw [bindL_out fun v hv => (List.nodup_cons.mp nd).1 (List.of_mem_zip hv).1, if_pos hk]
  simp
 | p :: P, w :: vs, i + 1, m, nd, h1, h2, hk => by
  show bindL kindOf ((p, w) :: P.zip vs) m x = _
  unfold bindL
  exact bindL_get (i := i) (List.nodup_cons.mp nd).2 (by simpa using h1) (by simpa using h2) hk
theorem bindC_get {kindOf : Str → Option NameKind} {x : Str} {v : Value} : ∀ {P : List Str} {vs : List Value} {i : Nat} {m : Str → Option Value}, P.Nodup → P[i]? = some x → vs[i]? = some v → kindOf x ≠ some .local →
  bindC kindOf (P.zip vs) m x = some v
 | [], _, _, _, _, h, _, _ => by simp at h
 | _ :: _, [], _, _, _, _, h, _ => by simp at h
 | p :: P, w :: vs, 0, m, nd, h1, h2, hk => by
  simp at h1 h2; subst h1; subst h2
  show bindC kindOf ((p, w) :: P.zip vs) m p = _
  unfold bindC
  rw [bindC_out fun v hv => (List.nodup_cons.mp nd).1 (List.of_mem_zip hv).1, if_neg hk]
  simp
 | p :: P, w :: vs, i + 1, m, nd, h1, h2, hk => by
  show bindC kindOf ((p, w) :: P.zip vs) m x = _
  unfold bindC
  exact bindC_get (i := i) (List.nodup_cons.mp nd).2 (by simpa using h1) (by simpa using h2) hk
noncomputable def start (N : List Str) (vs : List V) : St := vs.map some ++ List.replicate (N.length - vs.length) none
noncomputable def cxOf (CX : CXT) (P : Program) (w : World) (K : PySem.W.Frag) (mg : Str → Option Value) (base : Heap) (N : List Str) (qual : Str) (scope : Scope) (f : Addr) (cd : Value) (A : Around) (outer : List Env) (s : Shared) (H : Hp) (E : XK) : Cx where
 prog := P
 w := w
 K := K
 mg := mg
 base := base
 A := A.deeper (envOfC qual scope s.heap.objs.size f cd)
 N := N
 s₀ := s
 H₀ := H
 env := envOfC qual scope s.heap.objs.size f cd
 outer := outer
 stack := envOfC qual scope s.heap.objs.size f cd :: outer
 ex := []
 calm := true
 fn := fun _ => true
 pn := []
 xe := fun e s' => wpAny (model P w) (A.deeper (envOfC qual scope s.heap.objs.size f cd)) (leaving (envOfC qual scope s.heap.objs.size f cd) e) (fun _ s'' => CX outer H s E e s'') (fun e' s'' => CX outer H s E e' s'') s'
theorem cell_has {sc : Scope} {n : Nat} {x : Str} (h : sc.names.lookup x = some .cell) : ∃ c, (cellsFrom n sc.names []).lookup x = some c := by
 have q := PySem.W.cellsFrom_some sc.names n [] (.inl h)
 exact Option.isSome_iff_exists.mp q
theorem inv_start {CX : CXT} {P : Program} {w : World} {K : PySem.W.Frag} {mg : Str → Option Value} {base : Heap} {N ps : List Str} {qual : Str} {scope : Scope} {f : Addr} {cd : Value} {A : Around} {outer : List Env} {s s1 : Shared} {H : Hp} {E : XK} {us : List Value} {vs : List V}
  (S : FnScope N ps scope) (hd : A.handled = none) (e0 : Env0 P w K mg base A outer s H) (hl : vs.length = ps.length) (r : Vals vs us)
  (x : InCallC s s.heap.objs.size (bindL (envOfC qual scope s.heap.objs.size f cd).kindOf (ps.zip us) fun _ => none) (cellsFrom (s.heap.objs.size + 1) scope.names []) (bindC (envOfC qual scope s.heap.objs.size f cd).kindOf (ps.zip us) fun _ => none) s1) :
  Inv (cxOf CX P w K mg base N qual scope f cd A outer s H E) [] (start N vs) H s1 := by
 have hpl : ps.length ≤ N.length := by have := congrArg List.length S.pre; rw [List.length_take] at this; omega
 obtain ⟨h1, tk, rfl, hk⟩ := x.done
 have noA : ∀ b : Addr, b ∉ (cxOf CX P w K mg base N qual scope f cd A outer s H E).ex := fun b z => absurd (show b ∈ ([] : List Addr) from z) (by simp)
 refine ⟨⟨e0.mod, S.kind, rfl, rfl, Nat.le_refl _, fun y z c h1 h2 => ?_, fun y hy => ?_, fun y c _ h => ?_, fun _ => hd, Around.frames_deeper e0.frames, .inr ⟨rfl, rfl⟩, fun b z => absurd z (noA b), e0.bs, e0.bsz, fun b _ _ => noA b, fun b z => absurd z (noA b), e0.funs, e0.frf⟩,
  rfl, e0.bare, Un.kept hk, ⟨_, x.toInCall.ns, fun i y v h1 h2 h3 => ?_⟩, fun y c h => ⟨_, x.cell y c h⟩, e0.hok.fresh (Nat.le_refl _), fun y c h => ?_, fun p hp => absurd (show p ∈ ([] : List (Addr × Obj)) from hp) (by simp), e0.hok.kept hk, ?_⟩
 ·exact name_of_addr x.apart (PySem.mem_of_lookup h1) (PySem.mem_of_lookup h2)
 ·have hy : scope.names.lookup y = some .cell ∨ scope.names.lookup y = some .free := hy
  rcases hy with hy | hy
  ·exact cell_has hy
  ·exact absurd rfl (S.nofree _ (PySem.mem_of_lookup hy))
 ·exact Nat.le_of_lt (x.above y c (PySem.mem_of_lookup h))
 ·have hi : i < vs.length := by
   unfold start at h2
   by_cases hi : i < vs.length
   ·exact hi
   ·rw [List.getElem?_append_right (by simpa using hi)] at h2
    rw [List.getElem?_replicate] at h2
    split at h2 <;> cases h2
  have ha : vs[i]? = some v := by
   unfold start at h2
   rw [List.getElem?_append_left (by simpa using hi), List.getElem?_map] at h2
   cases e : vs[i]? with
   | none => rw [e] at h2; cases h2
   | some a => rw [e] at h2; cases h2; rfl
  obtain ⟨u, hu, rv⟩ := r.get ha
  have hp : ps[i]? = some y := by
   rw [← S.pre, List.getElem?_take_of_lt (by omega)]; exact h1
  have ndP : ps.Nodup := by rw [← S.pre]; exact S.nd.sublist (List.take_sublist _ _)
  refine ⟨u, rv, ?_⟩
  rcases S.par y (List.mem_of_getElem? hp) with k | k
  ·exact .inl ⟨k, bindL_get ndP hp hu k⟩
  ·obtain ⟨c, e⟩ := cell_has (n := s.heap.objs.size + 1) k
   refine .inr ⟨.inl k, c, e, ?_⟩
   have q := x.cell y c e
   rw [bindC_get ndP hp hu (by show scope.names.lookup y ≠ _; rw [k]; decide)] at q
   exact q
 ·exact e0.hok.fresh (Nat.le_of_lt (x.above y c (PySem.mem_of_lookup h)))
 ·unfold start
  show _ = N.length
  rw [List.length_append, List.length_map, List.length_replicate]
  omega
theorem fn_of {CX : CXT} {P : Program} {w : World} {K : PySem.W.Frag} {mg : Str → Option Value} {base : Heap} {k : Nat} {f : Addr} {name qual : Str} {params : Arguments} {body : List Stmt} {scope : Scope} {dV kV doc pm cdv ct oc : Value} {an od : Option Addr}
  {osl : Array (Option Value)} {N ps : List Str} {sp : Sp} (lk : K.lookup f = some ⟨oc, od, .func (PySem.W.fnOf name qual params body scope dV kV doc pm an cdv ct), osl⟩) (hcd : PySem.W.codeIn K cdv qual = true) (S : FnScope N ps scope)
  (len : ∀ vs H Q E, sp vs H Q E → vs.length = ps.length)
  (hbody : ∀ (A : Around) (outer : List Env) (s : Shared) (H : Hp) (vs : List V) (Q : VK) (E : XK), Room k (A.deeper (envOfC qual scope s.heap.objs.size f cdv)) → sp vs H Q E →
   ∃ t, PSs (cxOf CX P w K mg base N qual scope f cdv A outer s H E) body t ∧ t { nx := fun _ H' => Q .non H', rt := Q } (start N vs) H) :
  FnOk P w K mg base CX (k + 1) f (PySem.W.fnOf name qual params body scope dV kV doc pm an cdv ct) ps sp := by
 refine ⟨len, fun A outer s H args us vs Q E hr e0 hb r hsp => ?_⟩
 have hl := len _ _ _ _ hsp
 have KX : K.In s.heap := e0.mod.kin.keeps fun b o e => (e0.bs b o e).1
 have lim : s.heap.NoLimit := e0.mod.nolimit.keeps fun b o e => (e0.bs b o e).1
 have hkind : ∀ y ∈ ps.zip us, scope.names.lookup y.1 = some .local ∨ (scope.names.lookup y.1 = some .cell ∧ ((cellsFrom (s.heap.objs.size + 1) scope.names []).lookup y.1).isSome = true) := fun ⟨n, v⟩ hy => by
  rcases S.par n (List.of_mem_zip hy).1 with q | q
  ·exact .inl q
  ·exact .inr ⟨q, PySem.W.cellsFrom_some _ _ _ (.inl q)⟩
 refine codeAny_call_function hr.depth (KX _ _ lk) rfl S.co S.gen rfl (PySem.W.codeRec_of KX hcd) (hb _ _ _ _ ?_)
 refine wpAny_newFunctionEnv_cells S.kind hkind fun env he s1 x => ?_
 subst he
 refine ⟨lim.keeps x.toInCall.keep, codeAny_func ?_⟩
 obtain ⟨t, ht, hq⟩ := hbody A outer s H vs Q E (hr.deeper _) hsp
 have I : Inv (cxOf CX P w K mg base N qual scope f cdv A outer s H E) [] (start N vs) H s1 := inv_start S hr.hd e0 hl r x
 refine wpAny_mono (ht [] s1 (start N vs) H _ I hq) (fun fl s' hs => ?_) fun e s' hs => hs
 have fin : ∀ {σ' : St} {H' : Hp} {v : V} {u : Value}, Inv (cxOf CX P w K mg base N qual scope f cdv A outer s H E) [] σ' H' s' → RelV v u → Q v H' → CE outer P w H s Q u s' :=
  fun {σ' H' v u} J rv q => ⟨v, H', J.os, J.bare, J.base, J.hok, rv, q⟩
 cases fl with
 | ret u =>
  obtain ⟨v, σ', H', J, rv, q⟩ := hs
  exact fin J rv q
 | next =>
  obtain ⟨σ', H', J, q⟩ := hs
  exact fin (v := V.non) (u := Value.none) J rfl q
 | brk =>
  obtain ⟨_, _, _, q⟩ := hs
  exact False.elim q
 | cont =>
  obtain ⟨_, _, _, q⟩ := hs
  exact False.elim q
end L2
namespace L2
open PySem PySem.Spec PyProof.Rows
section
variable {X : Cx} {x : Str} {p pos : Pos} {e : Expr} {es : List Expr} {t : TA} {id T : String} {r : List V → Hp → VK → Prop}
noncomputable def tCB (r : List V → Hp → VK → Prop) (t : TA) : TE := fun σ H Q => t σ H fun vs H1 => r vs H1 Q
theorem cA (hc : CallR X (.builtin id) r) (hg : Gl X x) (hm : X.mg x = none) (hv : bootBuiltins x = some (.builtin id)) (ha : PA X (e :: es) t) (hn : x ≠ "__name__" := by decide) (hdb : (x == ("__debug__" : Str)) = false := by decide)
  (he : starEach (e :: es) X.env = (false, eval e X.env) :: starEach es X.env := by rfl) (hpl : (backTo pos (starEach es X.env)).any (·.1) = false := by rfl) : PE X (.Call (.Name x p) (e :: es) [] pos) (tCB r t) := by
 intro pins s σ H Q I h
 refine wpAny_Call_Name_kw (wL I hg hm hv ?_ hn hdb)
 exact PyProof.Rows.callWith_builtin1 (thn (ha pos pins s σ H _ I h) fun us s1 ⟨vs, H1, I1, r1, q1⟩ => hc pins s1 σ H1 vs us Q I1 r1 q1) he hpl
theorem pB (hc : CallR X (.type T) r) (hg : Gl X x) (hm : X.mg x = none) (hv : bootBuiltins x = some (.type T)) (ha : PA X (e :: es) t) (hn : x ≠ "__name__" := by decide) (hdb : (x == ("__debug__" : Str)) = false := by decide)
  (he : starEach (e :: es) X.env = (false, eval e X.env) :: starEach es X.env := by rfl) (hpl : (backTo pos (starEach es X.env)).any (·.1) = false := by rfl) : PE X (.Call (.Name x p) (e :: es) [] pos) (tCB r t) := by
 intro pins s σ H Q I h
 refine wpAny_Call_Name_kw (wL I hg hm hv ?_ hn hdb)
 exact PyProof.Rows.callWith_type1 (thn (ha pos pins s σ H _ I h) fun us s1 ⟨vs, H1, I1, r1, q1⟩ => hc pins s1 σ H1 vs us Q I1 r1 q1) he hpl
end
end L2
namespace HT
open PySem PyProof.Rows
section
open PySem.SeqAt
open PySem.AutoSeq1 (wpAny_loadPart')
open PySem.MeetsSeq PySem.MeetsSeq2 PySem.MeetsSeq3
end
section
variable {prog : Program} {w : World} {A : Around} {E : Value → Shared → Prop} {s : Shared}
noncomputable def sIx (n d : Nat) : Option Int → Nat
 | none => d
 | some v => if v < 0 then (v + (n : Int)).toNat else min v.toNat n
end
end HT
namespace L2
open PySem PySem.Spec PyProof.Rows
abbrev TO := St → Hp → (Option Int → Hp → Prop) → Prop
noncomputable def PO (X : Cx) (e : Option Expr) (t : TO) : Prop :=
 ∀ (pins : List (Addr × Obj)) (s : Shared) (σ : St) (H : Hp) (Q : Option Int → Hp → Prop), Inv X pins σ H s → t σ H Q →
  wpAny (model X.prog X.w) X.A (evalPart e X.env) (fun u s' => ∃ o H', Inv X pins σ H' s' ∧ IsPart u o ∧ Q o H') X.xe s
noncomputable def tNoPart : TO := fun _ H Q => Q none H
noncomputable def tPart (t : TE) : TO := fun σ H Q => t σ H fun x H1 => ∃ i, x = .int i ∧ Q (some i) H1
section
variable {X : Cx} {e : Expr} {te : TE} {lo hi : Option Expr} {tl th : TO} {pos p2 : Pos}
theorem po_none : PO X none tNoPart := by
 intro pins s σ H Q I h
 rw [evalPart_none]
 exact wpAny_pure ⟨none, H, I, .none, h⟩
theorem po_some (h : PE X e te) : PO X (some e) (tPart te) := by
 intro pins s σ H Q I hw
 rw [evalPart_some]
 refine thn (h pins s σ H _ I hw) fun u s1 ⟨x, H1, I1, r1, q1⟩ => ?_
 obtain ⟨i, rfl, q⟩ := q1
 obtain ⟨t, rfl⟩ := r1
 exact ⟨some i, H1, I1, .int i t, q⟩
noncomputable def SlR (X : Cx) (r : V → Option Int → Option Int → Hp → VK → Prop) : Prop :=
 ∀ (pins : List (Addr × Obj)) (s : Shared) (σ : St) (H : Hp) (x : V) (v vl vu : Value) (lo hi : Option Int) (sl : Addr) (Q : VK), Inv X pins σ H s → RelV x v → s.heap.IsSliceOf sl vl vu .none → IsPart vl lo → IsPart vu hi → r x lo hi H Q →
  ∃ T id, typeLookup (.type T) "__getitem__" = pure (some (.builtin id)) ∧ s.TypeIs v T ∧ wpAny (model X.prog X.w) X.A (getItem v (.ref sl)) (EP X pins σ Q) X.xe s
theorem SlR.or {r r' : V → Option Int → Option Int → Hp → VK → Prop} (h : SlR X r) (h' : SlR X r') : SlR X (fun x lo hi H Q => r x lo hi H Q ∨ r' x lo hi H Q) := by
 intro pins s σ H x v vl vu lo hi sl Q I rx hs pl pu q
 rcases q with q | q
 ·exact h pins s σ H x v vl vu lo hi sl Q I rx hs pl pu q
 ·exact h' pins s σ H x v vl vu lo hi sl Q I rx hs pl pu q
noncomputable def tSl (r : V → Option Int → Option Int → Hp → VK → Prop) (te : TE) (tl th : TO) : TE := fun σ H Q => te σ H fun x H1 => tl σ H1 fun l H2 => th σ H2 fun u H3 => r x l u H3 Q
theorem pe_slice {r : V → Option Int → Option Int → Hp → VK → Prop} (hr : SlR X r) (he : PE X e te) (hl : PO X lo tl) (hu : PO X hi th) : PE X (.Subscript e (.Slice lo hi none p2) pos) (tSl r te tl th) := by
 intro pins s σ H Q I h
 refine Subscript_ (thn (he pins s σ H _ I h) fun v s1 ⟨x, H1, I1, r1, q1⟩ => ?_)
 refine wpAny_Slice (thn (hl pins s1 σ H1 _ I1 q1) fun vl s2 ⟨l, H2, I2, pl, q2⟩ => thn (hu pins s2 σ H2 _ I2 q2) fun vu s3 ⟨u, H3, I3, pu, q3⟩ => ?_)
 rw [evalPart_none]
 refine wpAny_pure ?_
 have I4 : Inv X pins σ H3 { s3 with heap := s3.heap.push { cls := .type "slice", data := .fields #[vl, vu, .none] } } := I3.kept (t' := s3.toks) fun b ob q => Heap.get?_push_of_some _ q
 obtain ⟨T, id, hT, ht, hg⟩ := hr pins { s3 with heap := s3.heap.push { cls := .type "slice", data := .fields #[vl, vu, .none] } } σ H3 x v vl vu l u s3.heap.objs.size Q I4 r1 (Heap.IsSliceOf.new ..) pl pu q3
 show wpAny (model X.prog X.w) X.A (subscriptTail e (.Slice lo hi none p2) v (.ref s3.heap.objs.size)) (EP X pins σ Q) X.xe { s3 with heap := s3.heap.push { cls := .type "slice", data := .fields #[vl, vu, .none] } }
 exact tail_any (ops := [.ref s3.heap.objs.size, v]) ht hT hg (by with_unfolding_all rfl)
noncomputable def cutV (xs : List V) (lo hi : Option Int) : List V := (xs.drop (HT.sIx xs.length 0 lo)).take (HT.sIx xs.length xs.length hi - HT.sIx xs.length 0 lo)
theorem cutV_length (xs : List V) (lo hi : Option Int) : (cutV xs lo hi).length ≤ xs.length := by
 unfold cutV
 rw [List.length_take, List.length_drop]
 omega
end
end L2
namespace L2
open PySem PySem.Spec PyProof.Rows
noncomputable def ixN (n : Nat) (i : Int) : Option Nat := if 0 ≤ i then (if i < n then some i.toNat else none) else if -(n : Int) ≤ i then some (i + n).toNat else none
noncomputable def atI {α : Type} (xs : List α) (i : Int) : Option α := (ixN xs.length i).bind fun j => xs[j]?
theorem ixN_seq {n : Nat} {i : Int} {j : Nat} (h : ixN n i = some j) : seqIndex? i n = some j ∧ j < n ∧ -(n : Int) ≤ i ∧ i < n := by
 unfold ixN at h
 by_cases h0 : 0 ≤ i
 ·rw [if_pos h0] at h
  by_cases h1 : i < n
  ·rw [if_pos h1] at h
   have e : i.toNat = j := Option.some.inj h
   exact ⟨by rw [seqIndex_of h0 h1, e], by omega, by omega, h1⟩
  ·rw [if_neg h1] at h; cases h
 ·rw [if_neg h0] at h
  by_cases h1 : -(n : Int) ≤ i
  ·rw [if_pos h1] at h
   have e : (i + n).toNat = j := Option.some.inj h
   exact ⟨by rw [seqIndex_neg (by omega) h1, e], by omega, h1, by omega⟩
  ·rw [if_neg h1] at h; cases h
theorem atI_get {α : Type} {xs : List α} {i : Int} {v : α} (h : atI xs i = some v) : ∃ j, seqIndex? i xs.length = some j ∧ xs[j]? = some v ∧ j < xs.length ∧ -(xs.length : Int) ≤ i ∧ i < xs.length := by
 unfold atI at h
 cases e : ixN xs.length i with
 | none => rw [e] at h; cases h
 | some j =>
  rw [e] at h
  obtain ⟨h1, h2, h3, h4⟩ := ixN_seq e
  exact ⟨j, h1, h, h2, h3, h4⟩
theorem atI_nat {α : Type} {xs : List α} {j : Nat} {v : α} (h : xs[j]? = some v) : atI xs (j : Int) = some v := by
 have hj : j < xs.length := (List.getElem?_eq_some_iff.mp h).1
 have e : ixN xs.length (j : Int) = some j := by
  unfold ixN
  rw [if_pos (by omega), if_pos (by omega)]; simp
 unfold atI; rw [e]; exact h
noncomputable def PlainIx (b : Expr) : Prop := ∀ o i, subscripted b false o i = operate [o, i] (getItem o i)
noncomputable def IxR (X : Cx) (r : R2) : Prop :=
 ∀ (value slice : Expr) (pins : List (Addr × Obj)) (s : Shared) (σ : St) (H : Hp) (x y : V) (v u : Value) (Q : VK), Inv X pins σ H s → RelV x v → RelV y u → r x y H Q →
  subscripted slice false v u = operate [v, u] (getItem v u) → wpAny (model X.prog X.w) X.A (subscriptTail value slice v u) (EP X pins σ Q) X.xe s
noncomputable def MtR (X : Cx) (id : String) (r : V → List V → Hp → VK → Prop) : Prop :=
 ∀ (pins : List (Addr × Obj)) (s : Shared) (σ : St) (H : Hp) (x : V) (xs : List V) (v : Value) (us : List Value) (Q : VK), Inv X pins σ H s → RelV x v → Vals xs us → r x xs H Q →
  wpAny (model X.prog X.w) X.A (call (.builtin id) (v :: us)) (EP X pins σ Q) X.xe s
section
variable {X : Cx} {a b : Expr} {ta tb : TE} {pos : Pos}
theorem IxR.or {r r' : R2} (h : IxR X r) (h' : IxR X r') : IxR X (fun x y H Q => r x y H Q ∨ r' x y H Q) := by
 intro value slice pins s σ H x y v u Q I rx ry q hs
 rcases q with q | q
 ·exact h value slice pins s σ H x y v u Q I rx ry q hs
 ·exact h' value slice pins s σ H x y v u Q I rx ry q hs
theorem MtR.or {id : String} {r r' : V → List V → Hp → VK → Prop} (h : MtR X id r) (h' : MtR X id r') : MtR X id (fun x xs H Q => r x xs H Q ∨ r' x xs H Q) := by
 intro pins s σ H x xs v us Q I rx rs q
 rcases q with q | q
 ·exact h pins s σ H x xs v us Q I rx rs q
 ·exact h' pins s σ H x xs v us Q I rx rs q
theorem aV {r : R2} (hr : IxR X r) (ha : PE X a ta) (hb : PE X b tb) (hs : PlainIx b) : PE X (.Subscript a b pos) (tOp r ta tb) := by
 intro pins s σ H Q I h
 exact Subscript_ (binT ha hb I h fun v u s2 x y H2 I2 rx ry q => hr a b pins s2 σ H2 x y v u Q I2 rx ry q (hs _ _))
noncomputable def rIxL (K : PySem.W.Frag) : R2 := fun x y H Q => ∃ p xs i v, x = .ref p ∧ y = .int i ∧ SqL K H p xs ∧ atI xs i = some v ∧ Q v H
noncomputable def rIxT (K : PySem.W.Frag) : R2 := fun x y H Q => ∃ p xs i v, x = .ref p ∧ y = .int i ∧ SqT K H p xs ∧ atI xs i = some v ∧ Q v H
noncomputable def rIxS : R2 := fun x y H Q => ∃ z i c, x = .str z ∧ y = .int i ∧ z.length ≤ sizeLine ∧ atI z.cps.toList i = some c ∧ Q (.str ⟨#[c]⟩) H
theorem ix_list : IxR X (rIxL X.K) := by
 intro value slice pins s σ H x y v u Q I rx ry h hs
 obtain ⟨p, xs, i, z, rfl, rfl, hq, he, q⟩ := h
 cases rx
 obtain ⟨t, rfl⟩ := ry
 obtain ⟨its, r, pl, hz⟩ := I.list hq
 obtain ⟨j, h1, h2, h3, h4, h5⟩ := atI_get he
 obtain ⟨w, ew, rw'⟩ := r.get h2
 have hl := r.length
 have hn := line63
 have fin : EP X pins σ Q w s := ⟨z, H, I, rw', q⟩
 by_cases h0 : 0 ≤ i
 ·have hj : i.toNat = j := by
   rw [seqIndex_of h0 h5] at h1
   exact Option.some.inj h1
  exact item_listR pl.isList h0 (by omega) (by rw [hj]; simpa using ew) fin hs
 ·have hj : (i + (its.toArray.size : Int)).toNat = j := by
   rw [seqIndex_neg (by omega) h4] at h1
   rw [List.size_toArray, ← hl]
   exact Option.some.inj h1
  exact subscriptTail_builtinR (x := w) pl.isList.typeIs slot_list_getitem.lookup
   (wpAny_getItem_list_neg (Q := fun r s' => r = w ∧ EP X pins σ Q r s') pl.isList (by omega) (by rw [List.size_toArray] <;> omega) (by omega) (by rw [hj]; simpa using ew) ⟨rfl, fin⟩) hs
theorem ix_tup : IxR X (rIxT X.K) := by
 intro value slice pins s σ H x y v u Q I rx ry h hs
 obtain ⟨p, xs, i, z, rfl, rfl, hq, he, q⟩ := h
 cases rx
 obtain ⟨t, rfl⟩ := ry
 obtain ⟨its, r, pl, hz⟩ := I.tuple hq
 obtain ⟨j, h1, h2, h3, h4, h5⟩ := atI_get he
 obtain ⟨w, ew, rw'⟩ := r.get h2
 have hl := r.length
 have hn := line63
 have fin : EP X pins σ Q w s := ⟨z, H, I, rw', q⟩
 exact subscriptTail_builtinR (x := w) pl.typeIs slot_tuple_getitem.lookup
  (getItem_tuple (j := j) (Q := fun r s' => r = w ∧ EP X pins σ Q r s') pl (by omega) (by omega) (by rw [List.size_toArray, ← hl]; exact h1) (by simpa using ew) ⟨rfl, fin⟩) hs
theorem ix_str : IxR X rIxS := by
 intro value slice pins s σ H x y v u Q I rx ry h hs
 obtain ⟨z, i, c, rfl, rfl, hz, he, q⟩ := h
 obtain ⟨t, rfl⟩ := rx
 obtain ⟨t', rfl⟩ := ry
 obtain ⟨j, h1, h2, h3, h4, h5⟩ := atI_get he
 have hl : z.cps.toList.length = z.length := by simp [Str.length]
 rw [hl] at h1 h4 h5
 have hn := line63
 exact tail_any (typeIs_str s z t) slot_str_getitem.lookup (getItem_str (c := c) (by
  have e1 : decide (i < -(2 ^ 63 : Int)) = false := decide_eq_false (by omega)
  have e2 : decide (i ≥ 2 ^ 63) = false := decide_eq_false (by omega)
  rw [e1, e2, Bool.or_false]) (by rw [h1]; simpa using h2) ⟨.str ⟨#[c]⟩, H, I.tok _, ⟨_, rfl⟩, q⟩) hs
noncomputable def rIx (K : PySem.W.Frag) : R2 := fun x y H Q => rIxL K x y H Q ∨ rIxT K x y H Q ∨ rIxS x y H Q
theorem aL : IxR X (rIx X.K) := ix_list.or (ix_tup.or ix_str)
theorem mapSeq_set (its : List Value) (n j : Nat) (u : Value) : Obj.mapSeq (·.setIfInBounds j u) { cls := .type "list", data := .seq its.toArray n } = { cls := .type "list", data := .seq (its.set j u).toArray n } := by
 simp [Obj.mapSeq]
theorem Inv.lst {pins : List (Addr × Obj)} {σ : St} {H : Hp} {s : Shared} {p : Addr} {xs : List V} (I : Inv X pins σ H s) (h : H p = some (.lst xs)) :
  ∃ (its : List Value) (n : Nat), Vals xs its ∧ s.heap.get? p = some { cls := .type "list", data := .seq its.toArray n } ∧ xs.length ≤ sizeLine := by
 obtain ⟨z, its, n, r, e⟩ := I.hok p _ h
 exact ⟨its, n, r, e, z⟩
theorem Inv.lstUpd {pins : List (Addr × Obj)} {σ : St} {H : Hp} {s : Shared} {p : Addr} {xs ys : List V} {its its' : List Value} {n n' : Nat} {f : Obj → Obj} (I : Inv X pins σ H s) (h : H p = some (.lst xs))
  (ho : s.heap.get? p = some { cls := .type "list", data := .seq its.toArray n }) (hf : f { cls := .type "list", data := .seq its.toArray n } = { cls := .type "list", data := .seq its'.toArray n' }) (r : Vals ys its') (hz : ys.length ≤ sizeLine) (t : Nat) :
  Inv X pins σ (upd H p (.lst ys)) { s with heap := s.heap.update p f, toks := t } := by
 have e : (s.heap.update p f).get? p = some { cls := .type "list", data := .seq its'.toArray n' } := by
  rw [Heap.get?_update_self f ho (by rw [hf] <;> rfl), hf]
 refine I.write (x := p) (e := p) (by rw [h]; trivial) (.inl rfl) (fun b u hb q => (Heap.get?_update_other _ _ (Ne.symm hb)).trans q) ⟨_, e⟩ ?_
 exact ⟨hz, its', n', r, e⟩
noncomputable def rSetL : V → V → V → Hp → (Hp → Prop) → Prop := fun o i v H Q => ∃ p xs k j, o = .ref p ∧ i = .int k ∧ H p = some (.lst xs) ∧ ixN xs.length k = some j ∧ Q (upd H p (.lst (xs.set j v)))
theorem set_list : PSet X rSetL := by
 intro pins s σ H o i v ov iv u Q I ro ri rv h
 obtain ⟨p, xs, k, j, rfl, rfl, hp, hj, q⟩ := h
 cases ro
 obtain ⟨t, rfl⟩ := ri
 obtain ⟨its, n, r, ho, hz⟩ := I.lst hp
 obtain ⟨h1, h2, h3, h4⟩ := ixN_seq hj
 have hl := r.length
 have hn := line63
 have I' : Inv X pins σ (upd H p (.lst (xs.set j v))) { s with heap := s.heap.update p (Obj.mapSeq (·.setIfInBounds j u)) } :=
  I.lstUpd hp ho (mapSeq_set its n j u) (r.set rv j) (by rw [List.length_set]; exact hz) s.toks
 by_cases h0 : 0 ≤ k
 ·have hk : k.toNat = j := by
   rw [seqIndex_of h0 h4] at h1
   exact Option.some.inj h1
  exact PySem.W.ki_setAt ho h0 (by omega) (by rw [List.size_toArray, ← hl]; exact h4) (by rw [hk]; exact ⟨_, I', q⟩)
 ·have hk : (k + (its.toArray.size : Int)).toNat = j := by
   rw [seqIndex_neg (by omega) h3] at h1
   rw [List.size_toArray, ← hl]
   exact Option.some.inj h1
  exact PySem.W.ki_setBack ho (by omega) (by rw [List.size_toArray, ← hl]; exact h3) (by omega) (by rw [hk]; exact ⟨_, I', q⟩)
theorem slice_bounds (lo hi : Option Int) (n : Nat) : (sliceBounds lo hi none n).1 = ((HT.sIx n 0 lo : Nat) : Int) ∧ (sliceBounds lo hi none n).2.1 = ((HT.sIx n n hi : Nat) : Int) ∧ (sliceBounds lo hi none n).2.2 = 1 := by
 refine ⟨?_, ?_, rfl⟩
 ·cases lo with
  | none => simp [sliceBounds, HT.sIx]
  | some i =>
   simp only [sliceBounds, HT.sIx, Option.getD_none, show (1 : Int) > 0 by decide, if_true]
   by_cases h : i < 0
   ·simp only [h, if_true] <;> omega
   ·simp only [h, if_false] <;> omega
 ·cases hi with
  | none => simp [sliceBounds, HT.sIx]
  | some i =>
   simp only [sliceBounds, HT.sIx, Option.getD_none, show (1 : Int) > 0 by decide, if_true]
   by_cases h : i < 0
   ·simp only [h, if_true] <;> omega
   ·simp only [h, if_false] <;> omega
theorem slicePick_cut (its : List Value) (lo hi : Option Int) : slicePick its.toArray lo hi none = ((its.drop (HT.sIx its.length 0 lo)).take (HT.sIx its.length its.length hi - HT.sIx its.length 0 lo)).toArray := by
 obtain ⟨h1, h2, h3⟩ := slice_bounds lo hi its.toArray.size
 unfold slicePick
 rw [h1, h2, h3]
 simp only [sliceRange_one, pick_run, List.size_toArray] <;> rfl
noncomputable def rSlL (K : PySem.W.Frag) : V → Option Int → Option Int → Hp → VK → Prop := fun x lo hi H Q => ∃ a xs, x = .ref a ∧ SqL K H a xs ∧ ∀ p, H p = none → Q (.ref p) (upd H p (.lst (cutV xs lo hi)))
theorem sl_list : SlR X (rSlL X.K) := by
 intro pins s σ H x v vl vu lo hi sl Q I rx hs pl pu h
 obtain ⟨a, xs, rfl, hx, q⟩ := h
 cases rx
 obtain ⟨its, r, ht, hz⟩ := I.list hx
 have hlen := r.length
 refine ⟨"list", _, slot_list_getitem.lookup, ht.isList.typeIs, ?_⟩
 refine wpAny_getItem_list_slice ht.isList hs pl pu .none (by simp) ?_ (by rw [List.size_toArray] <;> omega)
 rw [slicePick_cut, ← hlen]
 refine ⟨.ref s.heap.objs.size, _, I.laid (t' := s.toks) (o := .lst (cutV xs lo hi)) (fun b ob q => Heap.get?_push_of_some _ q) (Nat.le_refl _) ?_, rfl, q _ (I.hok.fresh (Nat.le_refl _))⟩
 exact ⟨Nat.le_trans (cutV_length xs lo hi) hz, _, 0, (r.drop (HT.sIx xs.length 0 lo)).take (HT.sIx xs.length xs.length hi - HT.sIx xs.length 0 lo), Heap.get?_push_size _ rfl⟩
theorem bN : CallR X (.builtin "len") (fun xs H Q => ∃ p ys, xs = [.ref p] ∧ (SqL X.K H p ys ∨ SqT X.K H p ys) ∧ Q (.int ys.length) H) := by
 intro pins s σ H xs us Q I r h
 obtain ⟨p, ys, rfl, hq, q⟩ := h
 obtain ⟨u, rfl, rx⟩ := vals1 r
 cases rx
 have hn := line63
 rcases hq with hq | hq
 ·obtain ⟨its, r', pl, hz⟩ := I.list hq
  have hlen := r'.length
  exact Calls.call_len_list pl.isList (by simp only [List.size_toArray] <;> omega) ⟨.int ys.length, H, I.tok _, ⟨s.toks + 1, by rw [List.size_toArray, hlen]⟩, q⟩
 ·obtain ⟨its, r', pl, hz⟩ := I.tuple hq
  have hlen := r'.length
  exact len_tuple pl (by simp only [List.size_toArray] <;> omega) ⟨.int ys.length, H, I.tok _, ⟨s.toks + 1, by rw [List.size_toArray, hlen]⟩, q⟩
theorem CallR.or {f : Value} {r r' : List V → Hp → VK → Prop} (h : CallR X f r) (h' : CallR X f r') : CallR X f (fun xs H Q => r xs H Q ∨ r' xs H Q) := by
 intro pins s σ H xs us Q I rs q
 rcases q with q | q
 ·exact h pins s σ H xs us Q I rs q
 ·exact h' pins s σ H xs us Q I rs q
noncomputable def tyV (K : PySem.W.Frag) (T : String) (x : V) (H : Hp) : Prop := match x with
 | .str _ => T = "str"
 | .int _ => T = "int"
 | .ref p => (T = "list" ∧ ∃ xs, SqL K H p xs) ∨ (T = "tuple" ∧ ∃ o, K.lookup p = some o ∧ o.cls = .type "tuple" ∧ o.dict = none) ∨
   (T = "dict" ∧ ((∃ kvs, H p = some (.dK kvs)) ∨ ∃ kvs, H p = some (.dT kvs))) ∨ (T = "set" ∧ ∃ S n, H p = some (.set S n))
 | _ => False
theorem tyV_is {pins : List (Addr × Obj)} {σ : St} {H : Hp} {s : Shared} {T : String} {x : V} {v : Value} (I : Inv X pins σ H s) (r : RelV x v) (ty : tyV X.K T x H) :
  s.TypeIs v T ∧ ∀ a, v = .ref a → ∃ ob, s.heap.get? a = some ob ∧ ob.dict = none := by
 cases x with
 | str z =>
  obtain ⟨t, rfl⟩ := r
  cases (show T = "str" from ty)
  exact ⟨typeIs_str s z t, fun _ e => nomatch e⟩
 | int i =>
  obtain ⟨t, rfl⟩ := r
  cases (show T = "int" from ty)
  exact ⟨typeIs_int s i t, fun _ e => nomatch e⟩
 | ref p =>
  cases r
  rcases ty with ⟨rfl, xs, hq⟩ | ⟨rfl, o, hk, hc, hd⟩ | ⟨rfl, hk⟩ | ⟨rfl, S, n, hk⟩
  ·obtain ⟨its, _, pl, _⟩ := I.list hq
   refine ⟨pl.isList.typeIs, fun a e => ?_⟩
   cases e
   obtain ⟨o, n, e, c, hd, _⟩ := pl
   exact ⟨o, e, hd⟩
  ·refine ⟨⟨o, I.kIn p o hk, hc⟩, fun a e => ?_⟩
   cases e
   exact ⟨o, I.kIn _ o hk, hd⟩
  ·have z : ∃ o, s.heap.get? p = some o ∧ o.ExactDict := by
    rcases hk with ⟨kvs, hk⟩ | ⟨kvs, hk⟩
    ·obtain ⟨_, _, _, _, o, _, _, e, ex, _⟩ := I.hok p _ hk
     exact ⟨o, e, ex⟩
    ·obtain ⟨_, _, _, _, o, _, _, e, ex, _⟩ := I.hok p _ hk
     exact ⟨o, e, ex⟩
   obtain ⟨o, e, ex⟩ := z
   refine ⟨⟨o, e, ex.1⟩, fun a e2 => ?_⟩
   cases e2
   exact ⟨o, e, ex.2.1⟩
  ·obtain ⟨o, _, _, _, e, ex, _⟩ := I.hok p _ hk
   refine ⟨⟨o, e, ex.1⟩, fun a e2 => ?_⟩
   cases e2
   exact ⟨o, e, ex.2.1⟩
 | _ => exact False.elim ty
noncomputable def tBM (K : PySem.W.Frag) (T : String) (r : V → List V → Hp → VK → Prop) (to : TE) (t : TA) : TE := fun σ H Q => to σ H fun x H1 => tyV K T x H1 ∧ t σ H1 fun xs H2 => r x xs H2 Q
variable {o e : Expr} {es : List Expr} {to : TE} {t : TA} {name : Str} {apos cpos : Pos} {T id : String} {r : V → List V → Hp → VK → Prop}
theorem pe_bm (pa : PlainAttrs T) (slot : Slot T name id) (hty : typeOf (.builtin id) = pure (.type "method_descriptor")) (hm : MtR X id r) (ho : PE X o to) (ha : PA X (e :: es) t)
  (hbase : attributeBase o name X.env (eval o X.env) = eval o X.env := by rfl)
  (hfew : ((backTo cpos (starEach (e :: es) X.env)).all (fun x => !x.1) && (backToKw cpos (keywordEach [] X.env)).all (fun x => x.1.isSome)
   && decide ((e :: es).length + ([] : List Keyword).length + (if ([] : List Keyword).isEmpty then 0 else 1) < 30)) = true := by rfl)
  (hline : (apos.endLine == cpos.line) = true := by rfl) (hs : starEach (e :: es) X.env = (false, eval e X.env) :: starEach es X.env := by rfl) (hplain : (backTo cpos (starEach es X.env)).any (·.1) = false := by rfl) :
  PE X (.Call (.Attribute o name apos) (e :: es) [] cpos) (tBM X.K T r to t) := by
 intro pins s σ H Q I h
 refine wpAny_Call_method_late hbase hfew hline rfl (thn (ho pins s σ H _ I h) fun v s1 ⟨x, H1, I1, r1, ty, q1⟩ => ?_)
 obtain ⟨h1, h2⟩ := tyV_is I1 r1 ty
 refine ⟨T, id, pa, slot, hty, h1, h2, ?_⟩
 have hA := ha cpos pins s1 σ H1 _ I1 q1
 rw [hs] at hA ⊢
 refine Calls.callWith_builtin (by show (false || (backTo cpos (starEach es X.env)).any (·.1)) = false; rw [hplain] <;> rfl) (Calls.evalArgs_plain ?_)
 exact thn hA fun us s2 ⟨vs, H2, I2, r2, q2⟩ => hm pins s2 σ H2 x vs v us Q I2 r1 r2 q2
end
end L2
namespace L2
open PySem PySem.Spec PyProof.Rows
noncomputable def MtM (X : Cx) (id : String) (r : V → List V → Hp → VK → Prop) : Prop :=
 ∀ (pins : List (Addr × Obj)) (s : Shared) (σ : St) (H : Hp) (x : V) (xs : List V) (v : Value) (us : List Value) (Q : VK), Inv X pins σ H s → RelV x v → Vals xs us → r x xs H Q →
  wpAny (model X.prog X.w) X.A (call (.builtin id) (v :: us)) (EP X pins σ Q) X.xe s
theorem Vals.one : ∀ {x : V} {us : List Value}, Vals [x] us → ∃ u, us = [u] ∧ RelV x u := by
 intro x us h
 cases h with
 | cons r t => cases t; exact ⟨_, rfl, r⟩
theorem Vals.two : ∀ {x y : V} {us : List Value}, Vals [x, y] us → ∃ u v, us = [u, v] ∧ RelV x u ∧ RelV y v := by
 intro x y us h
 cases h with
 | cons r t =>
  obtain ⟨v, rfl, q⟩ := Vals.one t
  exact ⟨_, _, rfl, r, q⟩
theorem Vals.zero : ∀ {us : List Value}, Vals [] us → us = []
 | _, .nil => rfl
theorem Vals.reverse {xs : List V} {us : List Value} (h : Vals xs us) : Vals xs.reverse us.reverse := by
 induction h with
 | nil => exact .nil
 | cons r t ih => rw [List.reverse_cons, List.reverse_cons]; exact Vals.append ih (.cons r .nil)
section
variable {X : Cx} {pins : List (Addr × Obj)} {σ : St} {H : Hp} {s : Shared} {l b : Addr} {xs ys zs : List V}
theorem Inv.lset {its its' : List Value} {n : Nat} {f : Array Value → Array Value} {t' : Nat} (I : Inv X pins σ H s) (hH : H l = some (.lst xs))
  (e : s.heap.get? l = some { cls := .type "list", data := .seq its.toArray n }) (hf : f its.toArray = its'.toArray) (hv : Vals ys its') (hz : ys.length ≤ sizeLine) :
  Inv X pins σ (upd H l (.lst ys)) { s with heap := s.heap.update l (Obj.mapSeq f), toks := t' } := by
 have q := PySem.IsL.update e f
 rw [hf] at q
 refine I.write (x := l) (e := l) (by rw [hH]; exact trivial) (.inl rfl) (fun b' u hb hu => (Heap.get?_update_other s.heap (Obj.mapSeq f) (Ne.symm hb)).trans hu) ⟨_, q⟩ ?_
 exact ⟨hz, its', _, hv, q⟩
theorem Inv.lnew {its : List Value} {t' : Nat} (I : Inv X pins σ H s) (hv : Vals ys its) (hz : ys.length ≤ sizeLine) :
  Inv X pins σ (upd H s.heap.objs.size (.lst ys)) { s with heap := s.heap.push { cls := .type "list", data := .seq its.toArray }, toks := t' } :=
 I.laid (fun _ _ q => Heap.get?_push_of_some _ q) (Nat.le_refl _) ⟨hz, its, 0, hv, Heap.get?_push_size _ rfl⟩
theorem Inv.fresh (I : Inv X pins σ H s) : H s.heap.objs.size = none := I.hok.fresh (Nat.le_refl _)
theorem Inv.lstM (I : Inv X pins σ H s) (hH : H l = some (.lst xs)) : xs.length ≤ sizeLine ∧ ∃ (its : List Value) (n : Nat), Vals xs its ∧ xs.length = its.length ∧ s.heap.get? l = some { cls := .type "list", data := .seq its.toArray n } := by
 obtain ⟨z, its, n, r, e⟩ := I.hok l _ hH
 exact ⟨z, its, n, r, r.length, e⟩
end
section
variable {X : Cx}
noncomputable def rAppend : V → List V → Hp → VK → Prop := fun x vs H Q => ∃ l xs y, x = .ref l ∧ vs = [y] ∧ H l = some (.lst xs) ∧ xs.length < sizeLine ∧ Q .non (upd H l (.lst (xs ++ [y])))
theorem sZ : MtM X "list.append" rAppend := by
 intro pins s σ H x vs v us Q I rx rv h
 obtain ⟨l, xs, y, rfl, rfl, hH, hz, q⟩ := h
 cases rx
 obtain ⟨u, rfl, ru⟩ := rv.one
 obtain ⟨z, its, n, r, hl, e⟩ := I.lstM hH
 refine call_meets F.slot_list_append ⟨_, e, rfl⟩ F.entry_list_append (F.args_list_append_2 _ _) (PySem.list_append l its.toArray n u (by rw [List.size_toArray]; omega)) ⟨e, ?_⟩
 refine ⟨.non, _, I.lset (its' := its ++ [u]) hH e (by simp) (r.append (.cons ru .nil)) ?_, rfl, q⟩
 rw [List.length_append, List.length_singleton]
 omega
noncomputable def rCat : R2 := fun x y H Q => ∃ l b xs zs, x = .ref l ∧ y = .ref b ∧ H l = some (.lst xs) ∧ H b = some (.lst zs) ∧ xs.length + zs.length ≤ sizeLine ∧ ∀ p, H p = none → Q (.ref p) (upd H p (.lst (xs ++ zs)))
theorem op_cat : OpR X (binaryOp .Add) rCat := by
 intro pins s σ H x y v u Q I rx ry h
 obtain ⟨l, b, xs, zs, rfl, rfl, hH, hB, hz, q⟩ := h
 cases rx
 cases ry
 obtain ⟨z, its, n, r, hl, e⟩ := I.lstM hH
 obtain ⟨z2, its2, n2, r2, hl2, e2⟩ := I.lstM hB
 refine PySem.P.add_list e e2 ?_ (by rw [List.size_toArray, List.size_toArray]; omega)
 have ea : its.toArray ++ its2.toArray = (its ++ its2).toArray := by simp
 rw [ea]
 exact ⟨.ref _, _, I.lnew (t' := s.toks) (r.append r2) (by rw [List.length_append]; omega), rfl, q _ I.fresh⟩
end
section
variable {prog : Program} {w : World} {A : Around} {E : Value → Shared → Prop} {s : Shared}
end
section
variable {X : Cx}
end
end L2
namespace Att
open PySem PySem.W PySem.Calls PyProof.Rows
theorem wV {P : Params} {h : Heap} : ∀ (ns : List Int) (vs : List Value), WellAll P h vs (ns.map WData.int) → IntsAre vs ns := by
 intro ns
 induction ns with
 | nil =>
  intro vs w
  rw [List.map_nil] at w
  cases w
  exact .nil
 | cons n ns ih =>
  intro vs w
  rw [List.map_cons] at w
  cases w with
  | cons a b =>
   cases a
   exact .cons _ _ (ih _ b)
theorem script_of {l : OpenLaw} {n : Nat} (hn : l.most = some n) {P : Params} {h : Heap} {args : List WData} {vals : List Value}
  (hpre : l.row.toRowW.claim.pre args = true) (hwl : WellAll P h vals args) :
  ∃ a vs ns, vals = [Value.ref a] ∧ args = [WData.list (ns.map WData.int)] ∧ h.get? a = some { cls := .type "list", data := .seq vs.toArray } ∧ IntsAre vs ns ∧ ns.length ≤ n := by
 have hsh : WShape.hasAll [] args [.list .int] = true := (pre_splitW hpre).1
 have hc : l.pre.holds [] { args := args } = true := (pre_splitW hpre).2
 obtain ⟨d, r, rfl, h1, h2⟩ := hasAllW_cons hsh
 obtain rfl := hasAllW_nil h2
 obtain ⟨xs, rfl, h3⟩ := hasW_list h1
 obtain ⟨ns, rfl⟩ := items_int h3
 have hlen : ns.length ≤ n := by
  unfold OpenLaw.pre at hc
  have h4 : (WTm.not (.lt (.lit (.int (n : Int))) (.len (.arg 0)))).holds [] { args := [.list (ns.map .int)] } = true := by
   have h4 := (holds_andW hc).1
   rw [hn] at h4
   exact h4
  have h5 := condW_of h4 (w_not (w_lt w_lit (w_len_list (w_arg rfl))))
  rw [List.length_map] at h5
  refine Nat.le_of_not_lt fun q => ?_
  have q' : (n : Int) < ((ns.length : Nat) : Int) := by omega
  first
   | (rw [decide_eq_true q'] at h5; exact absurd h5 (by decide))
   | (simp at h5; omega)
 cases hwl with
 | cons w1 w2 =>
  cases w2
  cases w1 with
  | list ho hall => exact ⟨_, _, ns, rfl, rfl, ho, wV ns _ hall, hlen⟩
theorem post_true (l : OpenLaw) (args : List WData) : l.row.toRowW.claim.post args (.bool true) args = true :=
 postW_of (r := l.row.toRowW) (X := (true == true))
  (show WShape.has [] (.bool true) .bool = true by first | rfl | decide | simp [WShape.has, WShape.arms, WShape.armsAll])
  (show (WTm.eq .res (.lit (.bool true))).value [] { args := args, res := some (.bool true), after := args } = some (.bool (true == true)) from w_eq_bool (w_res rfl) w_lit) rfl
theorem attach_call {l : OpenLaw} {n : Nat} {q : Program} {loose : List Str} {XP : (Str → Option Value) → Heap → Prop} {YP : World → Heap → Prop} {d : DefRec}
  (hn : l.most = some n) (hdf : d.params.defaults = [])
  (call : ∀ (w : World) (s₀ s₁ : Shared) (mg mb : Str → Option Value) (fa : Addr) (o : Obj) (pm cd doc : Value) (a : Addr) (vs : List Value) (ns : List Int),
   Ground q loose [] XP w s₀ mg mb s₁.heap → YP w s₁.heap →
   s₁.heap.get? fa = some o → o.data = .func (docDef d.name d.params d.body d.scope pm cd doc) → s₁.heap.CodeRec cd d.name → mg d.name = some (.ref fa) →
   s₁.heap.get? a = some { cls := .type "list", data := .seq vs.toArray } → IntsAre vs ns → ns.length ≤ n → s₁.gens = #[] →
   codeAny (model l.prog w) callerA (.call (.ref fa) ⟨[.ref a], []⟩) (fun r s' => r = .ok (.ret (.bool true)) ∧ OldK s₁.heap s'.heap ∧ s'.os = s₁.os ∧ AllBare s'.gens) s₁) :
  WalkO q loose XP YP l.row.toRowW d [] (fun f vs => PySem.call f vs) := by
 intro w s₀ s₁ mg mb G Y fa o pm cd doc dV kV ho hd hcd hD hmg hg args vals as hpre hlay hrd hwl hlo
 obtain rfl : dV = .none := Dflts.none hD hdf
 obtain rfl : kV = .none := Dflts.noKw hD
 obtain ⟨a, vs, ns, rfl, rfl, hobj, hints, hlen⟩ := script_of hn hpre hwl
 refine enter_call (codeAny_mono (call w s₀ s₁ mg mb fa o pm cd doc a vs ns G Y ho (fd_plain hd) hcd hmg hobj hints hlen hg) fun r s' hq => ?_)
 obtain ⟨rfl, h2, h3, h4⟩ := hq
 exact ⟨.inl ⟨.bool true, .bool true, [], rfl, fun _ => rfl, .bool true, post_true l _, fun _ => ⟨List.Pairwise.nil, fun _ hm => (nomatch hm)⟩⟩, h2, h3, h4⟩
section
variable {prog : Program} {w : World} {A : Around} {E : Value → Shared → Prop} {s : Shared} {K : Frag}
end
end Att
namespace L2
open PySem PySem.Spec PyProof.Rows
theorem vals_ints : ∀ {vs : List Value} {ns : List Int}, IntsAre vs ns → Vals (ns.map V.int) vs := by
 intro vs ns h
 induction h with
 | nil => exact .nil
 | cons n t h ih => exact .cons ⟨t, rfl⟩ ih
noncomputable def Only (H : Hp) : Prop := ∀ b, H b = none ∨ ∃ o xs, H b = some (.frz o (.lst xs))
theorem law_call {P : Program} {w : World} {K : PySem.W.Frag} {mg mb : Str → Option Value} {CX : CXT} {k : Nat} {fa a : Addr} {fd : FuncData} {x : Str} {sp : Sp} {s₁ : Shared} {vs : List Value} {ns : List Int}
  (KX : K.In s₁.heap) (hns : s₁.heap.Ns mainGlobals mg) (hb : s₁.heap.Ns builtinsNs mb) (hbb : ∀ x : Str, x ≠ "__name__" → mb x = bootBuiltins x) (hlim : s₁.heap.NoLimit) (hg : s₁.gens = #[])
  (ha : s₁.heap.get? a = some { cls := .type "list", data := .seq vs.toArray }) (hi : IntsAre vs ns) (hl : ns.length ≤ sizeLine) (hr : Room k callerA)
  (F : ∀ base : Heap, K.In base → base.Ns mainGlobals mg → FnOk P w K mg base CX k fa fd [x] sp) (hbind : ∀ (s : Shared) (u : Value), BindsTo s fd ⟨[u], []⟩ [(x, u)])
  (hsp : ∀ H : Hp, Only H → SqL K H a (ns.map V.int) → sp [.ref a] H (fun v _ => v = .bl true) fun _ _ _ => False)
  (hCX : ∀ H e s', CX [] H s₁ (fun _ _ _ => False) e s' → False) :
  codeAny (model P w) callerA (.call (.ref fa) ⟨[.ref a], []⟩) (fun r s' => r = .ok (.ret (.bool true)) ∧ OldK s₁.heap s'.heap ∧ s'.os = s₁.os ∧ AllBare s'.gens) s₁ := by
 have rv := vals_ints hi
 have lenV := hi.length
 have core : ∀ H : Hp, Only H → SqL K H a (ns.map V.int) → HOk P w H s₁.heap → (∀ b, H b ≠ none → b = a) → (H a ≠ none → K.lookup a = none) →
   codeAny (model P w) callerA (.call (.ref fa) ⟨[.ref a], []⟩) (fun r s' => r = .ok (.ret (.bool true)) ∧ OldK s₁.heap s'.heap ∧ s'.os = s₁.os ∧ AllBare s'.gens) s₁ := by
  intro H hO hS hok hA hK
  have base_of : ∀ {b : Addr} {o : Obj}, s₁.heap.get? b = some o → H b = none → (hidT s₁.heap H).get? b = some o := fun e n => hidT_get e n
  have noA : ∀ {b : Addr} {o : Obj} {es : Array DictEntry} {ep : Nat}, s₁.heap.get? b = some o → o.data = .dict es ep → H b = none := fun {b o es ep} e d => by
   cases q : H b with
   | none => rfl
   | some u =>
    have e' : b = a := hA b (by rw [q]; simp)
    subst e'
    rw [ha] at e; cases e
    have d' : Data.seq vs.toArray _ = Data.dict es ep := d
    cases d'
  have nsK : ∀ {b : Addr} {m : Str → Option Value}, s₁.heap.Ns b m → (hidT s₁.heap H).Ns b m := fun {b m} ⟨o, es, ep, e, d, r⟩ => ⟨o, es, ep, base_of e (noA e d), d, r⟩
  have hKb : K.In (hidT s₁.heap H) := fun b o e => base_of (KX b o e) (by
   cases q : H b with
   | none => rfl
   | some u =>
    have e' : b = a := hA b (by rw [q]; simp)
    subst e'
    rw [hK (by rw [q]; simp)] at e; cases e)
  have hM : Mod K mg (hidT s₁.heap H) := ⟨hKb, nsK hns, ⟨mb, nsK hb, hbb⟩, let ⟨mc, h1, h2⟩ := hlim; ⟨mc, nsK h1, h2⟩⟩
  have e0 : Env0 P w K mg (hidT s₁.heap H) callerA [] s₁ H := ⟨rfl, hM, fun b o e => of_hidT e, Nat.le_of_eq (hidT_size _ _), trivial, fun b hb => absurd (show b ∈ ([] : List Addr) from hb) (by simp), hok, .of_eq hg⟩
  refine codeAny_mono ((F _ hKb (nsK hns)).run callerA [] s₁ H ⟨[.ref a], []⟩ [.ref a] [.ref a] _ _ hr e0 (hbind s₁ (.ref a)) (.cons rfl .nil) (hsp H hO hS)) fun r s' h => ?_
  cases r with
  | error e => exact (hCX H e s' h).elim
  | ok fl =>
   cases fl with
   | next => exact False.elim h
   | brk => exact False.elim h
   | cont => exact False.elim h
   | ret u =>
    obtain ⟨v, H', os, bare, un, hok', r', q⟩ := h
    have q' : v = .bl true := q
    subst q'
    obtain rfl : u = Value.bool true := r'
    refine ⟨rfl, OldK.of_keep fun b o e => ?_, os, bare⟩
    cases q : H b with
    | none => exact un.keep b o e q (by intro z; exact absurd (show b ∈ ([] : List Addr) from z) (by simp)) (by simp)
    | some u =>
     rcases hO b with z | ⟨ob, xs, z⟩
     ·rw [q] at z; cases z
     ·have z2 := un.frzs b ob _ z
      obtain ⟨e1, _⟩ := hok b _ z
      obtain ⟨e2, _⟩ := hok' b _ z2
      rw [e] at e1; cases e1
      exact e2
 cases hk : K.lookup a with
 | some o =>
  have e := KX a o hk
  rw [ha] at e
  cases e
  refine core (fun _ => none) (fun _ => .inl rfl) (.inr ⟨_, vs.toArray, _, hk, rfl, rfl, rfl, by rw [List.size_toArray, lenV]; exact hl, by simpa using rv⟩) (fun b u z => by have z' : (none : Option HO) = some u := z; cases z') (fun b z => absurd rfl z) fun z => absurd rfl z
 | none =>
  refine core (fun b => if b = a then some (.frz { cls := .type "list", data := .seq vs.toArray } (.lst (ns.map V.int))) else none) (fun b => ?_) (.inl (.inr ⟨{ cls := .type "list", data := .seq vs.toArray }, if_pos rfl⟩)) (fun b u z => ?_) (fun b z => ?_) fun _ => hk
  ·by_cases hb : b = a
   ·exact .inr ⟨_, _, if_pos hb⟩
   ·exact .inl (if_neg hb)
  ·by_cases hb : b = a
   ·have z' := (if_pos hb).symm.trans z
    cases z'
    subst hb
    exact ⟨ha, by rw [List.length_map]; exact hl, vs, _, rv, ha⟩
   ·have z' := (if_neg hb).symm.trans z
    cases z'
  ·by_cases hb : b = a
   ·exact hb
   ·exact absurd (if_neg hb) z
end L2
namespace L2
open PySem PySem.Spec PyProof.Rows
theorem walk_of {l : PySem.W.OpenLaw} {n k : Nat} {q : Program} {loose : List Str} {XP : (Str → Option Value) → Heap → Prop} {YP : World → Heap → Prop} {d : DefRec} {K : Params → PySem.W.Frag} {CX : World → CXT} {sp : World → Sp} {x : Str}
  (hn : l.most = some n) (hn2 : n ≤ sizeLine) (hdf : d.params.defaults = []) (hr : Room k callerA)
  (hY : ∀ (w : World) (h : Heap), YP w h → (K w.params).In h)
  (F : ∀ (w : World) (mg : Str → Option Value) (fa : Addr) (h : Heap), (K w.params).In h → h.Ns mainGlobals mg → mg d.name = some (.ref fa) →
   ∃ fd : FuncData, (∀ (s : Shared) (u : Value), BindsTo s fd ⟨[u], []⟩ [(x, u)]) ∧
    ∀ base : Heap, (K w.params).In base → base.Ns mainGlobals mg → FnOk l.prog w (K w.params) mg base (CX w) k fa fd [x] (sp w))
  (hsp : ∀ (w : World) (H : Hp) (a : Addr) (ns : List Int), ns.length ≤ n → Only H → SqL (K w.params) H a (ns.map V.int) → sp w [.ref a] H (fun v _ => v = .bl true) fun _ _ _ => False)
  (hCX : ∀ (w : World) (H : Hp) (s : Shared) (e : Value) (s' : Shared), CX w [] H s (fun _ _ _ => False) e s' → False) :
  PySem.W.WalkO q loose XP YP l.row.toRowW d [] (fun f vs => PySem.call f vs) := by
 refine Att.attach_call hn hdf fun w s₀ s₁ mg mb fa o pm cd doc a vs ns G Y ho hd hcd hmg hobj hints hlen hg => ?_
 have KX := hY w _ Y
 obtain ⟨fd, hb, hF⟩ := F w mg fa _ KX G.T.g hmg
 exact law_call KX G.T.g G.T.b G.T.builtins G.T.nolimit hg hobj hints (Nat.le_trans hlen hn2) hr hF hb (fun H hO hS => hsp w H a ns hlen hO hS) fun H e s' => hCX w H s₁ e s'
end L2
namespace L2
open PySem PySem.Spec PyProof.Rows
noncomputable def xG (s : Stmt) : Arguments := match s with
 | .FunctionDef _ a _ _ _ _ _ _ _ _ => a
 | _ => { posonlyargs := [], args := [], vararg := none, kwonlyargs := [], kw_defaults := [], kwarg := none, defaults := [] }
noncomputable def qZ (s : Stmt) : List Stmt := match s with
 | .FunctionDef _ _ b _ _ _ _ _ _ _ => b
 | _ => []
noncomputable def aR (s : Stmt) : Scope := match s with
 | .FunctionDef _ _ _ _ _ _ sc _ _ _ => sc
 | _ => { kind := .function, names := [], isGenerator := false, isCoroutine := false }
abbrev CX0 : CXT := fun _ _ _ _ _ _ => False
abbrev E0 : XK := fun _ _ _ => False
theorem pass0 {X : Cx} : Passes CX0 X E0 := fun _ _ _ _ _ _ _ h => h.elim
structure Fun (K : PySem.W.Frag) (x qual : Str) (st : Stmt) (f : Addr) (fd : FuncData) : Prop where
 ex : ∃ (oc : Value) (od : Option Addr) (kV doc pm : Value) (an : Option Addr) (cdv ct : Value) (osl : Array (Option Value)),
  fd = PySem.W.fnOf x qual (xG st) (qZ st) (aR st) .none kV doc pm an cdv ct ∧ K.lookup f = some ⟨oc, od, .func fd, osl⟩ ∧ PySem.W.codeIn K cdv qual = true
 kp : PySem.W.keepIn K (.ref f) = true
section
variable {P : Program} {w : World} {K : PySem.W.Frag} {mg : Str → Option Value} {base : Heap}
theorem Fun.ok {x qual : Str} {st : Stmt} {f : Addr} {fd : FuncData} {N ps : List Str} {k : Nat} {sp : Sp} (F : Fun K x qual st f fd) (S : FnScope N ps (aR st)) (len : ∀ vs H Q E, sp vs H Q E → vs.length = ps.length)
  (hbody : ∀ (cdv : Value) (A : Around) (outer : List Env) (s : Shared) (H : Hp) (vs : List V) (Q : VK) (E : XK), Room k (A.deeper (envOfC qual (aR st) s.heap.objs.size f cdv)) → sp vs H Q E →
   ∃ t, PSs (cxOf CX0 P w K mg base N qual (aR st) f cdv A outer s H E).nox (qZ st) t ∧ t { nx := fun _ H' => Q .non H', rt := Q } (start N vs) H) : FnOk P w K mg base CX0 (k + 1) f fd ps sp := by
 obtain ⟨oc, od, kV, doc, pm, an, cdv, ct, osl, rfl, lk, hcd⟩ := F.ex
 refine fn_of lk hcd S len fun A outer s H vs Q E hr hsp => ?_
 obtain ⟨t, h, q⟩ := hbody cdv A outer s H vs Q E hr hsp
 exact ⟨t, h.nox, q⟩
theorem Fun.binds {x qual : Str} {st : Stmt} {f : Addr} {fd : FuncData} {ps : List Str} (F : Fun K x qual st f fd)
  (h : ∀ (kV doc pm : Value) (an : Option Addr) (cdv ct : Value) (us : List Value), us.length = ps.length → bindArgs (PySem.W.fnOf x qual (xG st) (qZ st) (aR st) .none kV doc pm an cdv ct) ⟨us, []⟩ = pure (ps.zip us)) : Binds K fd ps [] := by
 obtain ⟨oc, od, kV, doc, pm, an, cdv, ct, osl, rfl, lk, hcd⟩ := F.ex
 exact .all (h kV doc pm an cdv ct)
theorem fun_mk {x qual : Str} {st : Stmt} {f : Addr} {oc : Value} {od an : Option Addr} {osl : Array (Option Value)} {kV doc pm cdv ct : Value} (l : K.lookup f = some ⟨oc, od, .func (PySem.W.fnOf x qual (xG st) (qZ st) (aR st) .none kV doc pm an cdv ct), osl⟩)
  (c : PySem.W.codeIn K cdv qual = true) (k : PySem.W.keepIn K (.ref f) = true) : Fun K x qual st f (PySem.W.fnOf x qual (xG st) (qZ st) (aR st) .none kV doc pm an cdv ct) := ⟨⟨oc, od, kV, doc, pm, an, cdv, ct, osl, rfl, l, c⟩, k⟩
end
theorem oY {n : Nat} (h : n ≤ 1000) : n < sizeLine := Nat.lt_of_le_of_lt h (by decide)
section
variable {X : Cx}
theorem pv (i : Nat) {x : Str} {pos : Pos} (hN : X.N[i]? = some x := by rfl) (hv : Vis X.env.scope x := by first | exact Or.inl rfl | exact Or.inr (Or.inl rfl) | exact Or.inr (Or.inr rfl)) (hd : (x == ("__debug__" : Str)) = false := by decide)
  (hcd : (x == ("__classdict__" : Str)) = false := by decide) : PE X (.Name x pos) (tVar i) := pe_var hN hv hd hcd
end
theorem vD {A B : Prop} (h : B) : if false = true then A else B := by
 rw [if_neg Bool.false_ne_true]
 exact h
theorem wH {A B : Prop} (h : A) : if true = true then A else B := by
 rw [if_pos rfl]
 exact h
theorem iteNS {c A B : Prop} [Decidable c] (hc : c) (h : B) : if (!decide c) = true then A else B := by
 rw [decide_eq_true hc]
 exact vD h
noncomputable def Same (H H' : Hp) : Prop := ∀ b o, H b = some o → H' b = some o
theorem Same.refl (H : Hp) : Same H H := fun _ _ h => h
theorem Same.trans {H H1 H2 : Hp} (a : Same H H1) (b : Same H1 H2) : Same H H2 := fun c o h => b c o (a c o h)
theorem Same.free {H H' : Hp} (e : Same H H') {l : Addr} (h : H' l = Option.none) : H l = Option.none := by
 cases q : H l with
 | none => rfl
 | some o =>
  rw [e l o q] at h
  cases h
theorem Same.seq {K : PySem.W.Frag} {H H' : Hp} {a : Addr} {xs : List V} (e : Same H H') (h : SqL K H a xs) : SqL K H' a xs := by
 rcases h with (h | ⟨o, h⟩) | h
 ·exact .inl (.inl (e _ _ h))
 ·exact .inl (.inr ⟨o, e _ _ h⟩)
 ·exact .inr h
end L2
set_option maxHeartbeats 4000000
namespace LT
theorem dG (a : Rat) : (a.den : Int) ≠ 0 := by have := a.den_nz; omega
theorem uL (a : Rat) : (0 : Int) < a.den := by have := a.den_nz; omega
theorem add_eq (a b : Rat) : Rat.divInt (a.num * b.den + b.num * a.den) (a.den * b.den) = a + b := by
 rw [← Rat.divInt_add_divInt _ _ (dG a) (dG b), Rat.num_divInt_den, Rat.num_divInt_den]
theorem sub_eq (a b : Rat) : Rat.divInt (a.num * b.den - b.num * a.den) (a.den * b.den) = a - b := by
 rw [Rat.sub_eq_add_neg, ← add_eq a (-b), Rat.neg_num, Rat.neg_den, Int.neg_mul, Int.sub_eq_add_neg]
theorem mul_eq (a b : Rat) : Rat.divInt (a.num * b.num) (a.den * b.den) = a * b := by
 rw [← Rat.divInt_mul_divInt, Rat.num_divInt_den, Rat.num_divInt_den]
theorem num_ne {b : Rat} (h : b ≠ 0) : b.num ≠ 0 := fun e => h (by rw [← Rat.num_divInt_den b, e, Rat.zero_divInt])
theorem inv_eq {b : Rat} (h : b ≠ 0) : Rat.divInt b.den b.num = b⁻¹ := by
 have e : b * Rat.divInt b.den b.num = 1 := by
  conv => lhs; arg 1; rw [← Rat.num_divInt_den b]
  rw [Rat.divInt_mul_divInt, Int.mul_comm b.num]
  exact Rat.divInt_self' (Int.mul_ne_zero (dG b) (num_ne h))
 grind
theorem div_eq (a : Rat) {b : Rat} (h : b ≠ 0) : Rat.divInt (a.num * b.den) (a.den * b.num) = a / b := by
 rw [← Rat.divInt_mul_divInt, Rat.num_divInt_den, inv_eq h, Rat.div_def]
theorem lt_eq (a b : Rat) : decide (a.num * b.den < b.num * a.den) = decide (a < b) := by
 rw [decide_eq_decide, Rat.lt_iff]
theorem fd (t : Int) (g : Nat) : t.fdiv (g : Int) = t / (g : Int) := Int.fdiv_eq_ediv_of_nonneg t (by omega)
theorem pI {t b : Int} (h : 0 < b) : t.fdiv (Int.gcd t b : Nat) = (Rat.divInt t b).num ∧ b.fdiv (Int.gcd t b : Nat) = ((Rat.divInt t b).den : Int) := by
 rw [Rat.num_divInt, Rat.den_divInt, fd, fd, if_neg (by omega), Int.sign_eq_one_of_pos h, Int.one_mul, Int.gcd_comm b t]
 refine ⟨rfl, ?_⟩
 obtain ⟨n, rfl⟩ : ∃ n : Nat, b = (n : Int) := ⟨b.toNat, by omega⟩
 rw [← Int.natCast_ediv, Int.natAbs_natCast]
theorem norm_neg {t b : Int} (h : b < 0) : t.fdiv (-(Int.gcd t b : Nat)) = (Rat.divInt t b).num ∧ b.fdiv (-(Int.gcd t b : Nat)) = ((Rat.divInt t b).den : Int) := by
 have h1 := pI (t := -t) (b := -b) (by omega)
 have e : Rat.divInt (-t) (-b) = Rat.divInt t b := by
  have := Rat.divInt_mul_right (n := t) (d := b) (a := -1) (by decide)
  rw [← this]; congr 1 <;> omega
 rw [e, Int.gcd_neg, Int.neg_gcd] at h1
 rw [← h1.1, ← h1.2]
 constructor
 ·rw [← Int.neg_neg t, Int.neg_fdiv_neg]; simp
 ·rw [← Int.neg_neg b, Int.neg_fdiv_neg]; simp
theorem gcd_step {d r : Int} (hd : 0 ≤ d) (h : 0 < r) : Int.gcd r (d % r) = Int.gcd d r := by
 obtain ⟨m, rfl⟩ : ∃ n : Nat, d = (n : Int) := ⟨d.toNat, by omega⟩
 obtain ⟨n, rfl⟩ : ∃ n : Nat, r = (n : Int) := ⟨r.toNat, by omega⟩
 rw [← Int.natCast_emod]
 show Nat.gcd n (m % n) = Nat.gcd m n
 rw [Nat.gcd_comm n, ← Nat.gcd_rec, Nat.gcd_comm]
theorem gcd_end {d : Int} (h : 0 ≤ d) : (Int.gcd d 0 : Int) = d := by
 rw [Int.gcd_zero_right]; omega
theorem abs_nn (i : Int) : 0 ≤ (if i < 0 then -i else i) := by split <;> omega
theorem abs_gcd (i j : Int) : Int.gcd (if i < 0 then -i else i) (if j < 0 then -j else j) = Int.gcd i j := by
 split <;> split <;> simp only [Int.gcd_neg, Int.neg_gcd]
noncomputable def Bt (k : Nat) (i : Int) : Prop := i.natAbs < 2 ^ k
noncomputable def Sz (k : Nat) (q : Rat) : Prop := Bt k q.num ∧ Bt k q.den
theorem Bt.mono {k m : Nat} {i : Int} (h : Bt k i) (l : k ≤ m) : Bt m i := Nat.lt_of_lt_of_le h (Nat.pow_le_pow_right (by decide) l)
theorem Sz.mono {k m : Nat} {q : Rat} (h : Sz k q) (l : k ≤ m) : Sz m q := ⟨h.1.mono l, h.2.mono l⟩
theorem Bt.mul {k m : Nat} {i j : Int} (h : Bt k i) (g : Bt m j) : Bt (k + m) (i * j) := by
 unfold Bt at *; rw [Int.natAbs_mul, Nat.pow_add]
 exact Nat.mul_lt_mul'' h g
theorem Bt.add {k : Nat} {i j : Int} (h : Bt k i) (g : Bt k j) : Bt (k + 1) (i + j) := by
 unfold Bt at *; have := Int.natAbs_add_le i j; rw [Nat.pow_succ]; omega
theorem Bt.neg {k : Nat} {i : Int} (h : Bt k i) : Bt k (-i) := by unfold Bt at *; omega
theorem Bt.sub {k : Nat} {i j : Int} (h : Bt k i) (g : Bt k j) : Bt (k + 1) (i - j) := by
 rw [Int.sub_eq_add_neg]; exact h.add g.neg
theorem Bt.ediv {k : Nat} {i : Int} (h : Bt k i) (g : Nat) : Bt k (i / (g : Int)) := by
 unfold Bt at *
 exact Nat.lt_of_le_of_lt (by exact Int.natAbs_ediv_le_natAbs _ _) h
theorem Sz.divInt {k : Nat} {t b : Int} (h : Bt k t) (g : Bt k b) (h0 : b ≠ 0) : Sz k (Rat.divInt t b) := by
 rcases Int.lt_or_gt_of_ne h0 with hb | hb
 ·have e : Rat.divInt (-t) (-b) = Rat.divInt t b := by
   have := Rat.divInt_mul_right (n := t) (d := b) (a := -1) (by decide)
   rw [← this]; congr 1 <;> omega
  rw [← e]
  have n := pI (t := -t) (b := -b) (by omega)
  rw [fd, fd] at n
  exact ⟨by rw [← n.1]; exact h.neg.ediv _, by rw [← n.2]; exact g.neg.ediv _⟩
 ·have n := pI (t := t) (b := b) hb
  rw [fd, fd] at n
  exact ⟨by rw [← n.1]; exact h.ediv _, by rw [← n.2]; exact g.ediv _⟩
theorem Sz.add {k m : Nat} {a b : Rat} (h : Sz k a) (g : Sz m b) : Sz (k + m + 1) (a + b) := by
 rw [← add_eq]
 refine Sz.divInt (Bt.add (h.1.mul g.2) ?_) ((h.2.mul g.2).mono (by omega)) (Int.mul_ne_zero (dG a) (dG b))
 exact (g.1.mul h.2).mono (by omega)
theorem Sz.sub {k m : Nat} {a b : Rat} (h : Sz k a) (g : Sz m b) : Sz (k + m + 1) (a - b) := by
 rw [← sub_eq]
 refine Sz.divInt (Bt.sub (h.1.mul g.2) ?_) ((h.2.mul g.2).mono (by omega)) (Int.mul_ne_zero (dG a) (dG b))
 exact (g.1.mul h.2).mono (by omega)
theorem Sz.mul {k m : Nat} {a b : Rat} (h : Sz k a) (g : Sz m b) : Sz (k + m) (a * b) := by
 rw [← mul_eq]
 exact Sz.divInt (h.1.mul g.1) (h.2.mul g.2) (Int.mul_ne_zero (dG a) (dG b))
theorem Sz.div {k m : Nat} {a b : Rat} (h : Sz k a) (g : Sz m b) (b0 : b ≠ 0) : Sz (k + m) (a / b) := by
 rw [← div_eq a b0]
 exact Sz.divInt (h.1.mul g.2) (h.2.mul g.1) (Int.mul_ne_zero (dG a) (num_ne b0))
end LT
namespace LT
theorem numq (q : Rat) : (q.num : Rat) = q * ((q.den : Int) : Rat) := by
 have h : ((q.den : Int) : Rat) ≠ 0 := by
  have := dG q
  exact fun e => this (by exact_mod_cast e)
 have e := Rat.num_divInt_den q
 rw [Rat.divInt_eq_div] at e
 grind
theorem dI {t b : Int} {q : Rat} (hb : b ≠ 0) (h : (t : Rat) = q * (b : Rat)) : Rat.divInt t b = q := by
 have h0 : (b : Rat) ≠ 0 := fun e => hb (by exact_mod_cast e)
 rw [Rat.divInt_eq_div, h]
 grind
theorem spot3 (s m t : Rat) : Rat.divInt (s.num * m.den * t.den + m.num * t.num * s.den) (s.den * m.den * t.den) = s + m * t := by
 refine dI (Int.mul_ne_zero (Int.mul_ne_zero (dG s) (dG m)) (dG t)) ?_
 simp only [Rat.intCast_add, Rat.intCast_mul]
 rw [numq s, numq m, numq t]
 grind
theorem bt60 {i : Int} (h1 : -1152921504606846976 < i) (h2 : i < 1152921504606846976) : Bt 60 i := by
 show i.natAbs < 2 ^ 60
 have : (2 : Nat) ^ 60 = 1152921504606846976 := by decide
 omega
theorem sz_int {k : Nat} {i : Int} (h : Bt k i) (hk : 1 ≤ k) : Sz k (i : Rat) := by
 refine ⟨by rw [Rat.num_intCast]; exact h, ?_⟩
 rw [Rat.den_intCast]
 exact Nat.lt_of_lt_of_le (by decide : (1 : Nat) < 2 ^ 1) (Nat.pow_le_pow_right (by decide) hk)
end LT
namespace LT
noncomputable def pm (s : Int) (a b : Rat) : Rat := a + (s : Rat) * b
theorem bt_sign {s : Int} (h : s = 1 ∨ s = -1) : Bt 1 s := by
 show s.natAbs < 2 ^ 1
 omega
end LT
namespace L2
open PySem PySem.Spec PyProof.Rows
mutual
inductive Dt (H : Hp) : V → PyData → Prop
 | non : Dt H .non .none
 | bl (b : Bool) : Dt H (.bl b) (.bool b)
 | int (i : Int) : Dt H (.int i) (.int i)
 | str (x : Str) : Dt H (.str x) (.str x)
 | tup {p : Addr} {xs : List V} {ds : List PyData} : H p = some (.tup xs) → Dts H xs ds → Dt H (.ref p) (.tuple ds)
 | lst {p : Addr} {xs : List V} {ds : List PyData} : H p = some (.lst xs) → Dts H xs ds → Dt H (.ref p) (.list ds)
inductive Dts (H : Hp) : List V → List PyData → Prop
 | nil : Dts H [] []
 | cons {x : V} {xs : List V} {d : PyData} {ds : List PyData} : Dt H x d → Dts H xs ds → Dts H (x :: xs) (d :: ds)
end
mutual
theorem Dt.reads {P : Program} {w : World} {H : Hp} {h : Heap} (ok : HOk P w H h) : ∀ (d : PyData) (x : V) (v : Value), Dt H x d → RelV x v → ∃ as, Reads h v d as
 | .none, _, _, e, r => by cases e; cases r; exact ⟨_, .none⟩
 | .bool _, _, _, e, r => by cases e; cases r; exact ⟨_, .bool _⟩
 | .int _, _, _, e, r => by cases e; obtain ⟨t, rfl⟩ := r; exact ⟨_, .int _ _⟩
 | .str _, _, _, e, r => by cases e; obtain ⟨t, rfl⟩ := r; exact ⟨_, .str _ _⟩
 | .list ds, _, _, e, r => by
  cases e with
  | @lst p xs _ hp rs =>
   cases r
   obtain ⟨_, its, n, r', hg⟩ := (show ObjOk P w H h p (.lst xs) from ok p _ hp)
   obtain ⟨as, q⟩ := Dts.reads ok ds xs its rs r'
   exact ⟨_, .list hg rfl rfl (by simpa using q)⟩
 | .tuple ds, _, _, e, r => by
  cases e with
  | @tup p xs _ hp rs =>
   cases r
   obtain ⟨_, its, r', o, h1, h2, n, h3⟩ := (show ObjOk P w H h p (.tup xs) from ok p _ hp)
   obtain ⟨as, q⟩ := Dts.reads ok ds xs its rs r'
   exact ⟨_, .tuple h1 h2 h3 (by simpa using q)⟩
 | .dict _, _, _, e, _ => by cases e
theorem Dts.reads {P : Program} {w : World} {H : Hp} {h : Heap} (ok : HOk P w H h) : ∀ (ds : List PyData) (xs : List V) (vs : List Value), Dts H xs ds → Vals xs vs → ∃ as, ReadsAll h vs ds as
 | [], _, _, e, r => by cases e; cases r; exact ⟨_, .nil⟩
 | d :: ds, _, _, e, r => by
  cases e with
  | cons e1 e2 =>
   cases r with
   | cons r1 r2 =>
    obtain ⟨as, q1⟩ := Dt.reads ok d _ _ e1 r1
    obtain ⟨bs, q2⟩ := Dts.reads ok ds _ _ e2 r2
    exact ⟨_, .cons q1 q2⟩
end
mutual
theorem Dt.same {H H' : Hp} (g : Same H H') : ∀ (d : PyData) (x : V), Dt H x d → Dt H' x d
 | .none, _, e => by cases e; exact .non
 | .bool _, _, e => by cases e; exact .bl _
 | .int _, _, e => by cases e; exact .int _
 | .str _, _, e => by cases e; exact .str _
 | .list ds, _, e => by
  cases e with
  | lst hp rs => exact .lst (g _ _ hp) (Dts.same g ds _ rs)
 | .tuple ds, _, e => by
  cases e with
  | tup hp rs => exact .tup (g _ _ hp) (Dts.same g ds _ rs)
 | .dict _, _, e => by cases e
theorem Dts.same {H H' : Hp} (g : Same H H') : ∀ (ds : List PyData) (xs : List V), Dts H xs ds → Dts H' xs ds
 | [], _, e => by cases e; exact .nil
 | d :: ds, _, e => by
  cases e with
  | cons e1 e2 => exact .cons (Dt.same g d _ e1) (Dts.same g ds _ e2)
end
mutual
noncomputable def zK : PyData → Bool
 | .list _ => false
 | .tuple ds => oH ds
 | _ => true
noncomputable def oH : List PyData → Bool
 | [] => true
 | d :: ds => zK d && oH ds
end
noncomputable def SameT (H H' : Hp) : Prop := ∀ b xs, H b = some (.tup xs) → H' b = some (.tup xs)
noncomputable def SameX (x : Addr) (H H' : Hp) : Prop := ∀ b o, b ≠ x → H b = some o → H' b = some o
theorem SameX.refl (x : Addr) (H : Hp) : SameX x H H := fun _ _ _ e => e
theorem SameX.trans {x : Addr} {H H1 H2 : Hp} (a : SameX x H H1) (b : SameX x H1 H2) : SameX x H H2 := fun c o n e => b c o n (a c o n e)
theorem Same.x {x : Addr} {H H' : Hp} (g : Same H H') : SameX x H H' := fun b o _ e => g b o e
theorem SameX.t {x : Addr} {H H' : Hp} {ys : List V} (g : SameX x H H') (h : H x = some (.lst ys)) : SameT H H' := fun b xs e => g b _ (ne_of e h (by intro z; cases z)) e
theorem Same.t {H H' : Hp} (g : Same H H') : SameT H H' := fun b _ e => g b _ e
theorem SameT.trans {H H1 H2 : Hp} (a : SameT H H1) (b : SameT H1 H2) : SameT H H2 := fun c o e => b c o (a c o e)
theorem mY {H : Hp} {p : Addr} (h : H p = none) (o : HO) : Same H (upd H p o) := fun b u q => by rw [aY (aZ q h)]; exact q
theorem gW {H : Hp} {p : Addr} (o : HO) : SameX p H (upd H p o) := fun b u n q => by rw [aY n]; exact q
theorem SameX.seq {K : PySem.W.Frag} {H H' : Hp} {x a : Addr} {xs : List V} (e : SameX x H H') (n : a ≠ x) (h : SqL K H a xs) : SqL K H' a xs := by
 rcases h with (h | ⟨o, h⟩) | h
 ·exact .inl (.inl (e _ _ n h))
 ·exact .inl (.inr ⟨o, e _ _ n h⟩)
 ·exact .inr h
structure Good (d : PyData) : Prop where
 lay : d.canLay0 = true
 dep : d.depth ≤ 60
section
variable {X : Cx}
theorem roomD {u a b : Nat} (h : u + 64 < cLine) (ha : a ≤ 60) : u + min a b < cLine := by
 have : min a b ≤ a := Nat.min_le_left _ _
 omega
noncomputable def rEqD : R2 := fun x y H Q => ∃ dx dy, Dt H x dx ∧ Dt H y dy ∧ Good dx ∧ Good dy ∧ Q (.bl (PyData.eqv dx dy)) H
noncomputable def rNeD : R2 := fun x y H Q => ∃ dx dy, Dt H x dx ∧ Dt H y dy ∧ Good dx ∧ Good dy ∧ Q (.bl (!PyData.eqv dx dy)) H
theorem lZ (hu : X.A.units + 64 < cLine) : OpR X (compareOp .Eq) rEqD := by
 intro pins s σ H x y v u Q I rx ry h
 obtain ⟨dx, dy, ex, ey, gx, gy, q⟩ := h
 obtain ⟨as, r1⟩ := Dt.reads I.hok dx x v ex rx
 obtain ⟨bs, r2⟩ := Dt.reads I.hok dy y u ey ry
 exact SeqAt.compareEq_reads r1 r2 gx.lay gy.lay (roomD hu gx.dep) ⟨.bl _, H, I, rfl, q⟩
theorem qI (hu : X.A.units + 64 < cLine) : OpR X (compareOp .NotEq) rNeD := by
 intro pins s σ H x y v u Q I rx ry h
 obtain ⟨dx, dy, ex, ey, gx, gy, q⟩ := h
 obtain ⟨as, r1⟩ := Dt.reads I.hok dx x v ex rx
 obtain ⟨bs, r2⟩ := Dt.reads I.hok dy y u ey ry
 exact SeqAt.compareNe_reads r1 r2 gx.lay gy.lay (roomD hu gx.dep) ⟨.bl _, H, I, rfl, q⟩
theorem bZ : OpR X (binaryOp .Mult) (rI IntMulOk fun i j => .int (i * j)) := opI fun _ _ _ _ _ _ _ hc q => mul_int q hc
noncomputable def CDivX (_ j : Int) : Prop := j ≠ 0 ∧ LT.Bt 9000 j
theorem noPy {i j : Int} (h : CDivX i j) : Builtin.divisionGoesByPylong i j = false := by
 refine PyProof.noPylong_of_log2 ((Nat.log2_lt ?_).mpr h.2)
 have := h.1
 omega
theorem vX : OpR X (binaryOp .FloorDiv) (rI CDivX fun i j => .int (i.fdiv j)) := opI fun _ _ _ _ _ _ _ hc q => floordiv_int hc.1 q (.inl (noPy hc))
theorem bits_le {k : Nat} {i : Int} (h : LT.Bt k i) : Builtin.Int.intBits i ≤ k := by
 unfold Builtin.Int.intBits
 split
 ·exact Nat.zero_le _
 ·rename_i h0
  have : i.natAbs ≠ 0 := by
   intro e
   exact h0 (by simpa using e)
  exact (Nat.log2_lt this).mpr h
theorem mulB {k m : Nat} {i j : Int} (h : LT.Bt k i) (g : LT.Bt m j) (hk : k ≤ 1048576 := by decide) (hm : m ≤ 1048576 := by decide) : IntMulOk i j :=
 IntMulOk.of_bits (Nat.le_trans (bits_le h) hk) (Nat.le_trans (bits_le g) hm)
theorem uE {a b v : Int} {j j' : Nat} {p p' pos : Pos} (h : a ^ b.toNat = v) (hc : CPow a b) : PE X (.BinOp (.Constant (.int a) j p) .Pow (.Constant (.int b) j' p') pos) (tC (.int v)) := by
 intro pins s σ H Q I hq
 subst h
 exact bI op_pow aD aD pins s σ H Q I ⟨_, _, rfl, rfl, hc, hq⟩
theorem CMul_mod {x c y : Int} (h : 0 < c) (h2 : c < 2 ^ 64) : CMul (x % c) y := by
 have h3 := Int.emod_nonneg x (b := c) (by omega)
 have h4 := Int.emod_lt_of_pos x h
 exact .inl ⟨by omega, by omega⟩
noncomputable def clsV : V → Option Value
 | .ty n => some (.type n)
 | .ref a => some (.ref a)
 | _ => none
noncomputable def rIsi (K : PySem.W.Frag) : List V → Hp → VK → Prop := fun xs H Q => ∃ x c cv t b, xs = [x, c] ∧ clsV c = some cv ∧ TyOf K H x t ∧ PySem.W.kitOne K t cv = some b ∧ Q (.bl b) H
theorem call_isi : CallR X (.builtin "isinstance") (rIsi X.K) := by
 intro pins s σ H xs us Q I r h
 obtain ⟨x, c, cv, t, b, rfl, ec, ty, e, q⟩ := h
 obtain ⟨u, v, rfl, rx, rc⟩ := vals2 r
 have ev : v = cv := by
  cases c <;> first
   | (cases ec; exact rc)
   | cases ec
 subst ev
 exact isinst_ok I rx ty e fun tk => ⟨.bl b, H, I.tok tk, rfl, q⟩
structure Cal (P : Program) (w : World) (K : PySem.W.Frag) (mg : Str → Option Value) (base : Heap) (k : Nat) (x : Str) (ps : List Str) (sp : Sp) : Prop where
 ex : ∃ (f : Addr) (fd : FuncData), FnOk P w K mg base CX0 k f fd ps sp ∧ mg x = some (.ref f) ∧ PySem.W.keepIn K (.ref f) = true ∧ Binds K fd ps []
variable {j k : Nat} {x : Str} {ps : List Str} {sp : Sp} {e : Expr} {es : List Expr} {t : TA} {p pos : Pos}
theorem aH (c : Cal X.prog X.w X.K X.mg X.base j x ps sp) (hr : Room k X.A) (hg : Gl X x) (ha : PA X (e :: es) t) (hjk : j ≤ k := by decide)
  (hdb : (x == ("__debug__" : Str)) = false := by decide) (he : starEach (e :: es) X.env = (false, eval e X.env) :: starEach es X.env := by rfl) (hpl : (backTo pos (starEach es X.env)).any (·.1) = false := by rfl) :
  PE X (.Call (.Name x p) (e :: es) [] pos) (tCall sp [] E0 t) := by
 obtain ⟨f, fd, F, hm, hk, hb⟩ := c.ex
 exact pe_call F (hr.mono hjk) hg hm hk hb .nil pass0 ha hdb he hpl
end
structure Bl (K : PySem.W.Frag) (mg : Str → Option Value) : Prop where
 len_ : mg "len" = none
 abs_ : mg "abs" = none
 range_ : mg "range" = none
 isinstance_ : mg "isinstance" = none
 int_ : mg "int" = none
 bool_ : mg "bool" = none
 tuple_ : mg "tuple" = none
 max_ : mg "max" = none
 min_ : mg "min" = none
 list_ : mg "list" = none
 all_ : mg "all" = none
 any_ : mg "any" = none
 sorted_ : mg "sorted" = none
 zip_ : mg "zip" = none
 set_ : mg "set" = none
 sum_ : mg "sum" = none
 str_ : mg "str" = none
 enumerate_ : mg "enumerate" = none
 kib : PySem.W.kitOne K (.type "int") (.type "bool") = some false
 kbi : PySem.W.kitOne K (.type "bool") (.type "int") = some true
theorem kit_same (K : PySem.W.Frag) (t : Value) : PySem.W.kitOne K t t = some true := by
 unfold PySem.W.kitOne
 rw [if_pos (beq_self_eq_true t)]
end L2
namespace L2
open PySem PySem.Spec PyProof.Rows LT
theorem iteD1 {c A B : Prop} [Decidable c] (h : c) (a : A) : if decide c = true then A else B := by rw [decide_eq_true h]; exact wH a
theorem iteD0 {c A B : Prop} [Decidable c] (h : ¬ c) (b : B) : if decide c = true then A else B := by rw [decide_eq_false h]; exact vD b
theorem iteN1 {c A B : Prop} [Decidable c] (h : ¬ c) (a : A) : if (!decide c) = true then A else B := by rw [decide_eq_false h]; exact wH a
theorem gO {c A B : Prop} [Decidable c] (h1 : c → A) (h2 : ¬ c → B) : if decide c = true then A else B := by
 by_cases h : c
 ·exact iteD1 h (h1 h)
 ·exact iteD0 h (h2 h)
theorem iteN2 {c A B : Prop} [Decidable c] (h1 : ¬ c → A) (h2 : c → B) : if (!decide c) = true then A else B := by
 by_cases h : c
 ·exact iteNS h (h2 h)
 ·exact iteN1 h (h1 h)
theorem eq_of_int {i j : Int} (h : V.int i = V.int j) : i = j := V.int.inj h
theorem eY {n : Nat} (h : n ≤ 1000) : n ≤ sizeLine := Nat.le_of_lt (oY h)
theorem small_b {n : Nat} (h : Nat.ble n 1000 = true) : n ≤ sizeLine := eY (Nat.le_of_ble_eq_true h)
noncomputable def cG (q : Rat) : PyData := .tuple [.int q.num, .int (q.den : Int)]
theorem tE (q : Rat) : Good (cG q) := ⟨rfl, by show 1 ≤ 60; decide⟩
theorem Dt.num {H : Hp} {p : Addr} {q : Rat} (h : H p = some (.tup [.int q.num, .int (q.den : Int)])) : Dt H (.ref p) (cG q) := .tup h (.cons (.int _) (.cons (.int _) .nil))
theorem z7 (a b : Rat) : PyData.eqv (cG a) (cG b) = decide (a = b) := by
 show ((a.num == b.num) && (((a.den : Int) == (b.den : Int)) && true)) = decide (a = b)
 rw [Bool.and_true]
 by_cases e : a = b
 ·subst e; simp
 ·rw [decide_eq_false e]
  refine Bool.eq_false_iff.mpr fun h => e ?_
  rw [Bool.and_eq_true] at h
  have h1 : a.num = b.num := beq_iff_eq.mp h.1
  have h2 : (a.den : Int) = (b.den : Int) := beq_iff_eq.mp h.2
  exact Rat.ext h1 (by omega)
noncomputable def gG (l : Rat × Rat) : PyData := .tuple [cG l.1, cG l.2]
theorem tR (l : Rat × Rat) : Good (gG l) := ⟨rfl, by show 2 ≤ 60; decide⟩
theorem Dt.line {H : Hp} {p : Addr} {a b : V} {l : Rat × Rat} (h : H p = some (.tup [a, b])) (ha : Dt H a (cG l.1)) (hb : Dt H b (cG l.2)) : Dt H (.ref p) (gG l) := .tup h (.cons ha (.cons hb .nil))
theorem eqv_line (a b : Rat × Rat) : PyData.eqv (gG a) (gG b) = decide (a = b) := by
 show (PyData.eqv (cG a.1) (cG b.1) && (PyData.eqv (cG a.2) (cG b.2) && true)) = decide (a = b)
 rw [Bool.and_true, z7, z7]
 obtain ⟨a1, a2⟩ := a
 obtain ⟨b1, b2⟩ := b
 by_cases e : a1 = b1 <;> by_cases f : a2 = b2 <;> simp [e, f]
noncomputable def Pen (K : PySem.W.Frag) (pen a : Addr) (ns : List Int) (H : Hp) : Prop := ∃ z k : Int, 0 ≤ z ∧ 0 ≤ k ∧ H pen = some (.lst [.ref a, .int z, .int k]) ∧ SqL K H a (ns.map V.int)
theorem Pen.lst {K : PySem.W.Frag} {pen a : Addr} {ns : List Int} {H : Hp} (h : Pen K pen a ns H) : ∃ ys, H pen = some (.lst ys) := let ⟨_, _, _, _, e, _⟩ := h; ⟨_, e⟩
theorem Pen.same {K : PySem.W.Frag} {pen a : Addr} {ns : List Int} {H H' : Hp} (h : Pen K pen a ns H) (g : Same H H') : Pen K pen a ns H' :=
 let ⟨z, k, h1, h2, h3, h4⟩ := h; ⟨z, k, h1, h2, g _ _ h3, g.seq h4⟩
theorem Pen.t {K : PySem.W.Frag} {pen a : Addr} {ns : List Int} {H H' : Hp} (h : Pen K pen a ns H) (g : SameX pen H H') : SameT H H' := let ⟨_, e⟩ := h.lst; g.t e
noncomputable def spLaw (K : PySem.W.Frag) : Sp := fun vs H Q _ => ∃ (a : Addr) (ns : List Int), vs = [.ref a] ∧ SqL K H a (ns.map V.int) ∧ ns.length ≤ 63 ∧ ∀ H', Q (.bl true) H'
theorem gcd_bt {k : Nat} {t b : Int} (h : Bt k b) (h0 : b ≠ 0) : Bt k (Int.gcd t b : Nat) := by
 unfold Bt at *
 refine Nat.lt_of_le_of_lt ?_ h
 show Int.gcd t b ≤ b.natAbs
 exact Nat.le_of_dvd (by omega) (Nat.gcd_dvd_right _ _)
theorem gcd_ne {t b : Int} (h0 : b ≠ 0) : ((Int.gcd t b : Nat) : Int) ≠ 0 := by
 have := Int.gcd_pos_of_ne_zero_right t h0
 omega
end L2
namespace L2.VS
open PySem PySem.Spec PyProof.Rows
abbrev D := PyData
structure Bx where
 P : V → List Addr → Hp → Hp → Prop
 mono : ∀ {v fp G G' H}, Same G G' → P v fp G H → P v fp G' H
 loc : ∀ {v fp G H H'}, (∀ b ∈ fp, H' b = H b) → P v fp G H → P v fp G H'
 dom : ∀ {v fp G H}, P v fp G H → ∀ b ∈ fp, ∃ o, H b = some o
 uniq : ∀ {v fp fp' G H}, P v fp G H → P v fp' G H → fp = fp'
 nt : ∀ {v fp G H}, P v fp G H → ∀ b ∈ fp, ∀ xs, H b = some (.tup xs) → ∃ q ∈ fp, V.ref q ∈ xs ∧ ∃ vs, H q = some (.lst vs)
 view : Option D
 vok : ∀ {v fp G H G' d}, P v fp G H → view = some d → Same G G' → (∀ b ∈ fp, G' b = H b) → Dt G' v d
structure Pb where
 P : V → Hp → Prop
 mono : ∀ {v G G'}, Same G G' → P v G → P v G'
inductive Sl where
 | no | val (d : D) | own (ds : List D) | pen | con (p : Addr) | box (B : Bx) | pub (B : Pb)
abbrev En := List Sl
inductive Rv where
 | val (d : D) | own (ds : List D) | box (B : Bx)
noncomputable def Rv.d : Rv → D
 | .val d => d
 | .own ds => .list ds
 | .box B => B.view.getD .none
noncomputable def Rv.sl : Rv → Sl
 | .val d => .val d
 | .own ds => .own ds
 | .box B => .box B
inductive Fl where
 | nx (Γ : En) | rt (r : Rv) | bk (Γ : En) | ct (Γ : En)
variable {P0 : Addr → Hp → Prop}
structure Fra (P0 : Addr → Hp → Prop) where
 H0 : Hp
 G0 : Hp
 pen : Option Addr
 stab : ∀ p, pen = some p → ∀ H H', (∀ b o, H0 b = some o → H' b = H b) → P0 p H → P0 p H'
 pin : ∀ p, pen = some p → ∀ H, P0 p H → ∃ o, H p = some o
 pin0 : ∀ p, pen = some p → ∃ o, H0 p = some o
 pg : ∀ p, pen = some p → G0 p = none
noncomputable def Fra.PI (F : Fra P0) (H : Hp) : Prop := ∀ p, F.pen = some p → P0 p H
theorem Fra.stab' (F : Fra P0) : ∀ H H', (∀ b o, F.H0 b = some o → H' b = H b) → F.PI H → F.PI H' := fun H H' h pi p e => F.stab p e H H' h (pi p e)
structure Rf (F : Fra P0) (G H : Hp) : Prop where
 sub : Same G H
 g0 : ∀ b o, F.H0 b = some o → G b = F.G0 b
 h0 : ∀ b o, F.H0 b = some o → F.pen ≠ some b → H b = some o
 pn : F.PI H
noncomputable def SlF (F : Fra P0) (G H : Hp) (x : Option (Option V)) (fp : List Addr) : Sl → Prop
 | .no => fp = []
 | .val d => fp = [] ∧ ∃ v, x = some (some v) ∧ Dt G v d
 | .own ds => ∃ p vs, fp = [p] ∧ x = some (some (.ref p)) ∧ F.H0 p = none ∧ G p = none ∧ H p = some (.lst vs) ∧ Dts G vs ds
 | .pen => fp = [] ∧ ∃ p, x = some (some (.ref p)) ∧ F.pen = some p
 | .con p => fp = [] ∧ x = some (some (.ref p))
 | .pub B => fp = [] ∧ ∃ v, x = some (some v) ∧ B.P v G
 | .box B => ∃ v, x = some (some v) ∧ B.P v fp G H ∧ ∀ b ∈ fp, F.H0 b = none ∧ G b = none
noncomputable def SlOk (F : Fra P0) (G H : Hp) (x : Option (Option V)) : Sl → Prop
 | .no => True
 | .val d => ∃ v, x = some (some v) ∧ Dt G v d
 | .own ds => ∃ p vs, x = some (some (.ref p)) ∧ F.H0 p = none ∧ G p = none ∧ H p = some (.lst vs) ∧ Dts G vs ds
 | .pen => ∃ p, x = some (some (.ref p)) ∧ F.pen = some p
 | .con p => x = some (some (.ref p))
 | .pub B => ∃ v, x = some (some v) ∧ B.P v G
 | .box B => ∃ v fp, x = some (some v) ∧ B.P v fp G H ∧ ∀ b ∈ fp, F.H0 b = none ∧ G b = none
theorem SlF.ok {F : Fra P0} {G H : Hp} {x : Option (Option V)} {fp : List Addr} : ∀ {s : Sl}, SlF F G H x fp s → SlOk F G H x s
 | .no, _ => trivial
 | .val _, h => h.2
 | .own _, h => let ⟨p, vs, _, r⟩ := h; ⟨p, vs, r⟩
 | .pen, h => h.2
 | .con _, h => h.2
 | .pub _, h => h.2
 | .box _, h => let ⟨v, r⟩ := h; ⟨v, fp, r⟩
theorem SlF.mine {F : Fra P0} {G H : Hp} {x : Option (Option V)} {fp : List Addr} {b : Addr} (hb : b ∈ fp) : ∀ {s : Sl}, SlF F G H x fp s → F.H0 b = none ∧ G b = none ∧ ∃ o, H b = some o
 | .no, h => by rw [show fp = [] from h] at hb; cases hb
 | .val _, h => by rw [h.1] at hb; cases hb
 | .own _, h => by
  obtain ⟨p, vs, e, _, h1, h2, h3, _⟩ := h
  rw [e] at hb
  rw [List.mem_singleton.mp hb]
  exact ⟨h1, h2, _, h3⟩
 | .pen, h => by rw [h.1] at hb; cases hb
 | .con _, h => by rw [h.1] at hb; cases hb
 | .pub _, h => by rw [h.1] at hb; cases hb
 | .box B, h => by
  obtain ⟨v, _, h2, h3⟩ := h
  exact ⟨(h3 b hb).1, (h3 b hb).2, B.dom h2 b hb⟩
theorem SlF.go {F : Fra P0} {G H G' H' : Hp} {x : Option (Option V)} {fp : List Addr} (g : Same G G') (k : ∀ b ∈ fp, G' b = none ∧ H' b = H b) : ∀ {s : Sl}, SlF F G H x fp s → SlF F G' H' x fp s
 | .no, h => h
 | .val _, h => let ⟨e, v, e1, d1⟩ := h; ⟨e, v, e1, Dt.same g _ _ d1⟩
 | .own _, h => by
  obtain ⟨p, vs, e, e1, e2, e3, e4, e5⟩ := h
  have := k p (by rw [e]; exact List.mem_singleton.mpr rfl)
  exact ⟨p, vs, e, e1, e2, this.1, this.2.trans e4, Dts.same g _ _ e5⟩
 | .pen, h => h
 | .con _, h => h
 | .pub B, h => let ⟨e, v, e1, d1⟩ := h; ⟨e, v, e1, B.mono g d1⟩
 | .box B, h => by
  obtain ⟨v, h1, h2, h3⟩ := h
  exact ⟨v, h1, B.loc (fun b hb => (k b hb).2) (B.mono g h2), fun b hb => ⟨(h3 b hb).1, (k b hb).1⟩⟩
structure R (F : Fra P0) (Γ : En) (σ : St) (G H : Hp) : Prop where
 fr : Rf F G H
 len : Γ.length = σ.length
 fps : ∃ fps : Nat → List Addr, (∀ (i : Nat) s, Γ[i]? = some s → SlF F G H σ[i]? (fps i) s) ∧ ∀ (i j : Nat) (s t : Sl), Γ[i]? = some s → Γ[j]? = some t → i ≠ j → ∀ b ∈ fps i, b ∉ fps j
theorem R.sl {F : Fra P0} {Γ : En} {σ : St} {G H : Hp} (r : R F Γ σ G H) (i : Nat) (s : Sl) (e : Γ[i]? = some s) : SlOk F G H σ[i]? s :=
 let ⟨_, h, _⟩ := r.fps; (h i s e).ok
theorem R.ap {F : Fra P0} {Γ : En} {σ : St} {G H : Hp} (r : R F Γ σ G H) (i j : Nat) (x y : List D) (hij : i ≠ j) (ei : Γ[i]? = some (.own x)) (ej : Γ[j]? = some (.own y)) : σ[i]? ≠ σ[j]? := by
 obtain ⟨fps, h1, h2⟩ := r.fps
 obtain ⟨p, vs, e, e1, _⟩ := h1 i _ ei
 obtain ⟨q, ws, f, f1, _⟩ := h1 j _ ej
 intro z
 rw [e1, f1] at z
 cases z
 exact h2 i j _ _ ei ej hij p (by rw [e]; exact List.mem_singleton.mpr rfl) (by rw [f]; exact List.mem_singleton.mpr rfl)
theorem R.of {F : Fra P0} {Γ : En} {σ : St} {G H : Hp} (fr : Rf F G H) (len : Γ.length = σ.length) (sl : ∀ (i : Nat) s, Γ[i]? = some s → SlOk F G H σ[i]? s) (nb : ∀ (i : Nat) B, Γ[i]? ≠ some (.box B))
  (ap : ∀ (i j : Nat) x y, i ≠ j → Γ[i]? = some (.own x) → Γ[j]? = some (.own y) → σ[i]? ≠ σ[j]?) : R F Γ σ G H := by
 refine ⟨fr, len, fun i => match Γ[i]?, σ[i]? with | some (.own _), some (some (.ref p)) => [p] | _, _ => [], fun i s e => ?_, fun i j s t ei ej hij b hb hc => ?_⟩
 ·have h := sl i s e
  cases s with
  | no => simp only [e]; rfl
  | val d => simp only [e]; exact ⟨rfl, h⟩
  | own ds =>
   obtain ⟨p, vs, e1, r⟩ := h
   simp only [e, e1]
   exact ⟨p, vs, rfl, rfl, r⟩
  | pen => simp only [e]; exact ⟨rfl, h⟩
  | con q => simp only [e]; exact ⟨rfl, h⟩
  | pub B => simp only [e]; exact ⟨rfl, h⟩
  | box B => exact absurd e (nb i B)
 ·simp only [ei] at hb
  simp only [ej] at hc
  cases s with
  | own x =>
   cases t with
   | own y =>
    split at hb
    ·rename_i p _ e1
     split at hc
     ·rename_i q _ e2
      have e1 := List.mem_singleton.mp hb
      have e2 := List.mem_singleton.mp hc
      exact ap i j x y hij ei ej (by simp_all)
     ·cases hc
    ·cases hb
   | _ => simp at hc
  | _ => simp at hb
section
variable {F : Fra P0} {Γ : En} {σ : St} {G H G' H' : Hp} {p : Addr} {o : HO}
theorem Rf.dom (h : Rf F G H) {b : Addr} (e : F.H0 b = some o) : ∃ o', H b = some o' := by
 by_cases hb : F.pen = some b
 ·exact F.pin b hb H (h.pn b hb)
 ·exact ⟨o, h.h0 b o e hb⟩
theorem Rf.fresh (h : Rf F G H) (hp : H p = none) : F.H0 p = none := by
 cases e : F.H0 p with
 | none => rfl
 | some o =>
  obtain ⟨o', e'⟩ := h.dom e
  rw [hp] at e'; cases e'
theorem Rf.gfresh (h : Rf F G H) (hp : H p = none) : G p = none := h.sub.free hp
theorem Rf.pub (h : Rf F G H) (hp : H p = none) : Rf F (upd G p o) (upd H p o) := by
 have hf := h.fresh hp
 have hn : ∀ b u, F.H0 b = some u → b ≠ p := fun b u e z => by rw [z, hf] at e; cases e
 refine ⟨fun b u e => ?_, fun b u e => ?_, fun b u e hb => ?_, F.stab' H _ (fun b u e => aY (hn b u e)) h.pn⟩
 ·by_cases hb : b = p
  ·subst hb; rw [bM] at e; cases e; exact bM
  ·rw [aY hb] at e ⊢; exact h.sub b u e
 ·rw [aY (hn b u e)]; exact h.g0 b u e
 ·rw [aY (hn b u e)]; exact h.h0 b u e hb
theorem Rf.priv (h : Rf F G H) (hp : F.H0 p = none) (hg : G p = none) : Rf F G (upd H p o) := by
 have hn : ∀ b u, F.H0 b = some u → b ≠ p := fun b u e z => by rw [z, hp] at e; cases e
 refine ⟨fun b u e => ?_, h.g0, fun b u e hb => ?_, F.stab' H _ (fun b u e => aY (hn b u e)) h.pn⟩
 ·rw [aY (aZ e hg)]; exact h.sub b u e
 ·rw [aY (hn b u e)]; exact h.h0 b u e hb
theorem Rf.give (h : Rf F G H) (hp : F.H0 p = none) (hH : H p = some o) : Rf F (upd G p o) H := by
 have hn : ∀ b u, F.H0 b = some u → b ≠ p := fun b u e z => by rw [z, hp] at e; cases e
 refine ⟨fun b u e => ?_, fun b u e => ?_, h.h0, h.pn⟩
 ·by_cases hb : b = p
  ·subst hb; rw [bM] at e; cases e; exact hH
  ·rw [aY hb] at e; exact h.sub b u e
 ·rw [aY (hn b u e)]; exact h.g0 b u e
noncomputable def R.Has (_ : R F Γ σ G H) (b : Addr) : Prop := ∃ (i : Nat) (s : Sl) (fp : List Addr), Γ[i]? = some s ∧ SlF F G H σ[i]? fp s ∧ b ∈ fp
theorem R.keep (r : R F Γ σ G H) (f : Rf F G' H') (g : Same G G')
  (k : ∀ b o, r.Has b → F.H0 b = none → G b = none → H b = some o → G' b = none ∧ H' b = some o) : R F Γ σ G' H' := by
 obtain ⟨fps, h1, h2⟩ := r.fps
 refine ⟨f, r.len, fps, fun i s e => (h1 i s e).go g fun b hb => ?_, h2⟩
 obtain ⟨m1, m2, o, m3⟩ := (h1 i s e).mine hb
 obtain ⟨k1, k2⟩ := k b o ⟨i, s, fps i, e, h1 i s e, hb⟩ m1 m2 m3
 exact ⟨k1, k2.trans m3.symm⟩
theorem R.new (r : R F Γ σ G H) (hp : H p = none) : R F Γ σ (upd G p o) (upd H p o) := by
 refine r.keep (r.fr.pub hp) (mY (r.fr.gfresh hp) o) fun q u _ _ g h => ?_
 have hq : q ≠ p := aZ h hp
 rw [aY hq, aY hq]
 exact ⟨g, h⟩
theorem R.newP (r : R F Γ σ G H) (hp : H p = none) : R F Γ σ G (upd H p o) := by
 refine r.keep (r.fr.priv (r.fr.fresh hp) (r.fr.gfresh hp)) (Same.refl _) fun q u _ _ g h => ?_
 have hq : q ≠ p := aZ h hp
 rw [aY hq]
 exact ⟨g, h⟩
noncomputable def RvO (F : Fra P0) (G H : Hp) (r : V) : Rv → Prop
 | .val d => Dt G r d
 | .own ds => ∃ p vs, r = .ref p ∧ F.H0 p = none ∧ G p = none ∧ H p = some (.lst vs) ∧ Dts G vs ds
 | .box B => ∃ fp, B.P r fp G H ∧ ∀ b ∈ fp, F.H0 b = none ∧ G b = none
noncomputable def Apart (F : Fra P0) (Γ : En) (σ : St) (G H : Hp) (r : V) : Rv → Prop
 | .val _ => True
 | .own _ => ∀ (i : Nat) s fp, Γ[i]? = some s → SlF F G H σ[i]? fp s → ∀ p, r = .ref p → p ∉ fp
 | .box B => ∀ (i : Nat) s fp f, Γ[i]? = some s → SlF F G H σ[i]? fp s → B.P r f G H → ∀ b ∈ f, b ∉ fp
theorem R.give (r : R F Γ σ G H) {v : V} {ds : List D} (h : RvO F G H v (.own ds)) (ha : Apart F Γ σ G H v (.own ds)) : ∃ G', Same G G' ∧ R F Γ σ G' H ∧ Dt G' v (.list ds) := by
 obtain ⟨p, vs, rfl, e1, e2, e3, e4⟩ := h
 have g := mY e2 (.lst vs)
 refine ⟨upd G p (.lst vs), g, r.keep (r.fr.give e1 e3) g fun q u hq _ eg eh => ⟨?_, eh⟩, .lst bM (Dts.same g _ _ e4)⟩
 have hqp : q ≠ p := fun z => by
  obtain ⟨i, s, fp, a1, a2, a3⟩ := hq
  rw [z] at a3
  exact ha i s fp a1 a2 p rfl a3
 rw [aY hqp]
 exact eg
theorem R.giveB (r : R F Γ σ G H) {v : V} {B : Bx} {d : D} (h : RvO F G H v (.box B)) (ha : Apart F Γ σ G H v (.box B)) (hv : B.view = some d) : ∃ G', Same G G' ∧ R F Γ σ G' H ∧ Dt G' v d := by
 obtain ⟨fp, e1, e2⟩ := h
 have g : Same G (fun b => if b ∈ fp then H b else G b) := fun b o e => by
  show (if b ∈ fp then H b else G b) = some o
  rw [if_neg (fun z => by rw [(e2 b z).2] at e; cases e)]
  exact e
 refine ⟨fun b => if b ∈ fp then H b else G b, g, r.keep ⟨fun b o e => ?_, fun b o e => ?_, r.fr.h0, r.fr.pn⟩ g fun q u hq _ eg eh => ⟨?_, eh⟩, B.vok e1 hv g fun b hb => if_pos hb⟩
 ·have e : (if b ∈ fp then H b else G b) = some o := e
  split at e
  ·exact e
  ·exact r.fr.sub b o e
 ·show (if b ∈ fp then H b else G b) = _
  rw [if_neg (fun z => by rw [(e2 b z).1] at e; cases e)]
  exact r.fr.g0 b o e
 ·obtain ⟨i, s, f, a1, a2, a3⟩ := hq
  show (if q ∈ fp then H q else G q) = none
  rw [if_neg fun z => ha i s f fp a1 a2 e1 q z a3]
  exact eg
theorem R.set (r : R F Γ σ G H) {i : Nat} {v : V} {rv : Rv} (h : RvO F G H v rv) (ha : Apart F Γ σ G H v rv) : R F (Γ.set i rv.sl) (σ.set i (some v)) G H := by
 obtain ⟨fps, h1, h2⟩ := r.fps
 obtain ⟨fp, hf, hd⟩ : ∃ fp, SlF F G H (some (some v)) fp rv.sl ∧ ∀ (j : Nat) s, Γ[j]? = some s → ∀ b ∈ fp, b ∉ fps j := by
  cases rv with
  | val d => exact ⟨[], ⟨rfl, v, rfl, h⟩, fun j s _ b hb => nomatch hb⟩
  | own ds =>
   obtain ⟨p, vs, rfl, q⟩ := h
   exact ⟨[p], ⟨p, vs, rfl, rfl, q⟩, fun j s ej b hb => by rw [List.mem_singleton.mp hb]; exact ha j s (fps j) ej (h1 j s ej) p rfl⟩
  | box B =>
   obtain ⟨fp, q1, q2⟩ := h
   exact ⟨fp, ⟨v, rfl, q1, q2⟩, fun j s ej b hb => ha j s (fps j) fp ej (h1 j s ej) q1 b hb⟩
 have lt : ∀ {m : Nat} {z}, (Γ.set i rv.sl)[m]? = some z → m < Γ.length := fun e => by
  have := (List.getElem?_eq_some_iff.mp e).1
  simpa using this
 have old : ∀ {m : Nat} {z}, m ≠ i → (Γ.set i rv.sl)[m]? = some z → Γ[m]? = some z := fun hm e => by rw [List.getElem?_set_ne (Ne.symm hm)] at e; exact e
 refine ⟨r.fr, by rw [List.length_set, List.length_set]; exact r.len, fun j => if j = i then fp else fps j, fun j s e => ?_, fun j k s t ej ek hjk b hb hc => ?_⟩
 ·dsimp only
  by_cases hj : j = i
  ·subst hj
   have hi := lt e
   rw [List.getElem?_set_self hi] at e
   rw [if_pos rfl, List.getElem?_set_self (by rw [← r.len]; exact hi)]
   cases e
   exact hf
  ·rw [if_neg hj, List.getElem?_set_ne (Ne.symm hj)]
   exact h1 j s (old hj e)
 ·dsimp only at hb hc
  by_cases hj : j = i
  ·have hk : k ≠ i := fun z => hjk (hj.trans z.symm)
   rw [if_pos hj] at hb
   rw [if_neg hk] at hc
   exact hd k t (old hk ek) b hb hc
  ·rw [if_neg hj] at hb
   by_cases hk : k = i
   ·rw [if_pos hk] at hc
    exact hd j s (old hj ej) b hc hb
   ·rw [if_neg hk] at hc
    exact h2 j k s t (old hj ej) (old hk ek) hjk b hb hc
theorem R.setV (r : R F Γ σ G H) {i : Nat} {v : V} {d : D} (h : Dt G v d) : R F (Γ.set i (.val d)) (σ.set i (some v)) G H := r.set (rv := .val d) h trivial
theorem R.drop (r : R F Γ σ G H) (i : Nat) : R F (Γ.set i .no) σ G H := by
 obtain ⟨fps, h1, h2⟩ := r.fps
 have back : ∀ {m z}, m ≠ i → (Γ.set i .no)[m]? = some z → Γ[m]? = some z := fun {m z} hm e => by rw [List.getElem?_set_ne (Ne.symm hm)] at e; exact e
 refine ⟨r.fr, by rw [List.length_set]; exact r.len, fun j => if j = i then [] else fps j, fun j s e => ?_, fun j k s t ej ek hjk b hb hc => ?_⟩
 ·dsimp only
  by_cases hj : j = i
  ·subst hj
   have hi : j < Γ.length := by
    have := (List.getElem?_eq_some_iff.mp e).1
    simpa using this
   rw [List.getElem?_set_self hi] at e
   cases e
   rw [if_pos rfl]
   rfl
  ·rw [if_neg hj]
   exact h1 j s (back hj e)
 ·dsimp only at hb hc
  by_cases hj : j = i
  ·rw [if_pos hj] at hb; cases hb
  ·rw [if_neg hj] at hb
   by_cases hk : k = i
   ·rw [if_pos hk] at hc; cases hc
   ·rw [if_neg hk] at hc
    exact h2 j k s t (back hj ej) (back hk ek) hjk b hb hc
theorem R.writeF (r : R F Γ σ G H) {i : Nat} {s0 s1 : Sl} {H' : Hp} (e : Γ[i]? = some s0) (fr : Rf F G H') (h : ∀ fp, SlF F G H σ[i]? fp s0 → ∃ fp', SlF F G H' σ[i]? fp' s1 ∧ (∀ b, b ∉ fp → (∃ o, H b = some o) → H' b = H b ∧ b ∉ fp')) : R F (Γ.set i s1) σ G H' := by
 obtain ⟨fps, h1, h2⟩ := r.fps
 obtain ⟨fp', w1, w2⟩ := h (fps i) (h1 i s0 e)
 have hi : i < Γ.length := (List.getElem?_eq_some_iff.mp e).1
 have back : ∀ {m z}, m ≠ i → (Γ.set i s1)[m]? = some z → Γ[m]? = some z := fun {m z} hm e => by rw [List.getElem?_set_ne (Ne.symm hm)] at e; exact e
 have away : ∀ {j : Nat} {s : Sl}, j ≠ i → Γ[j]? = some s → ∀ b ∈ fps j, H' b = H b ∧ b ∉ fp' := fun hj ej b hb =>
  w2 b (fun z => h2 _ i _ s0 ej e hj b hb z) ((h1 _ _ ej).mine hb).2.2
 refine ⟨fr, by rw [List.length_set]; exact r.len, fun j => if j = i then fp' else fps j, fun j s ej => ?_, fun j k s t ej ek hjk b hb hc => ?_⟩
 ·dsimp only
  by_cases hj : j = i
  ·subst hj
   rw [List.getElem?_set_self hi] at ej
   cases ej
   rw [if_pos rfl]
   exact w1
  ·rw [if_neg hj]
   have e0 := back hj ej
   exact (h1 j s e0).go (Same.refl _) fun b hb => ⟨((h1 j s e0).mine hb).2.1, (away hj e0 b hb).1⟩
 ·dsimp only at hb hc
  by_cases hj : j = i
  ·have hk : k ≠ i := fun z => hjk (hj.trans z.symm)
   rw [if_pos hj] at hb
   rw [if_neg hk] at hc
   exact (away hk (back hk ek) b hc).2 hb
  ·rw [if_neg hj] at hb
   by_cases hk : k = i
   ·rw [if_pos hk] at hc
    exact (away hj (back hj ej) b hb).2 hc
   ·rw [if_neg hk] at hc
    exact h2 j k s t (back hj ej) (back hk ek) hjk b hb hc
theorem R.write (r : R F Γ σ G H) {i : Nat} {ds es : List D} {p : Addr} {ws : List V} (e : Γ[i]? = some (.own ds)) (ep : σ[i]? = some (some (.ref p))) (hw : Dts G ws es) : R F (Γ.set i (.own es)) σ G (upd H p (.lst ws)) := by
 obtain ⟨p', vs, e1, e2, e3, e4, e5⟩ := r.sl i _ e
 rw [ep] at e1; cases e1
 refine r.writeF e (r.fr.priv e2 e3) fun fp h => ?_
 obtain ⟨q, us, f0, f1, f2, f3, f4, f5⟩ := h
 rw [ep] at f1; cases f1
 refine ⟨[p], ⟨p, ws, rfl, ep, e2, e3, bM, hw⟩, fun b hb _ => ?_⟩
 have hbp : b ≠ p := fun z => hb (by rw [f0, z]; exact List.mem_singleton.mpr rfl)
 exact ⟨aY hbp, fun z => hbp (List.mem_singleton.mp z)⟩
end
abbrev ME := En → (D → En → Prop) → Prop
abbrev MO := En → (Rv → En → Prop) → Prop
abbrev MT := En → (Bool → En → Prop) → Prop
abbrev MA := En → (List Sl → En → Prop) → Prop
abbrev MD := En → (List D → En → Prop) → Prop
abbrev MG := D → En → (En → Prop) → Prop
abbrev MGs := List D → En → (En → Prop) → Prop
abbrev MS := En → (Fl → Prop) → Prop
abbrev Fm := List Sl → (Rv → Prop) → Prop
noncomputable def VT (P0 : Addr → Hp → Prop) (t : TE) (m : ME) : Prop := ∀ (F : Fra P0) (Γ : En) (σ : St) (G H : Hp) (Q : VK) (Qm : D → En → Prop), R F Γ σ G H → m Γ Qm →
 (∀ d Γ' r G' H', Qm d Γ' → Same G G' → R F Γ' σ G' H' → Dt G' r d → Q r H') → t σ H Q
noncomputable def VO (P0 : Addr → Hp → Prop) (t : TE) (m : MO) : Prop := ∀ (F : Fra P0) (Γ : En) (σ : St) (G H : Hp) (Q : VK) (Qm : Rv → En → Prop), R F Γ σ G H → m Γ Qm →
 (∀ rv Γ' r G' H', Qm rv Γ' → Same G G' → R F Γ' σ G' H' → RvO F G' H' r rv → Apart F Γ' σ G' H' r rv → Q r H') → t σ H Q
noncomputable def VTT (P0 : Addr → Hp → Prop) (t : TT) (m : MT) : Prop := ∀ (F : Fra P0) (Γ : En) (σ : St) (G H : Hp) (Q : Bool → Hp → Prop) (Qm : Bool → En → Prop), R F Γ σ G H → m Γ Qm →
 (∀ b Γ' G' H', Qm b Γ' → Same G G' → R F Γ' σ G' H' → Q b H') → t σ H Q
noncomputable def VD (P0 : Addr → Hp → Prop) (t : TA) (m : MD) : Prop := ∀ (F : Fra P0) (Γ : En) (σ : St) (G H : Hp) (Q : List V → Hp → Prop) (Qm : List D → En → Prop), R F Γ σ G H → m Γ Qm →
 (∀ ds Γ' rs G' H', Qm ds Γ' → Same G G' → R F Γ' σ G' H' → Dts G' rs ds → Q rs H') → t σ H Q
noncomputable def ArgOk (F : Fra P0) (G : Hp) (r : V) : Sl → Prop
 | .val d => Dt G r d
 | .pen => ∃ p, r = .ref p ∧ F.pen = some p
 | .con p => r = .ref p
 | _ => False
noncomputable def VA (P0 : Addr → Hp → Prop) (t : TA) (m : MA) : Prop := ∀ (F : Fra P0) (Γ : En) (σ : St) (G H : Hp) (Q : List V → Hp → Prop) (Qm : List Sl → En → Prop), R F Γ σ G H → m Γ Qm →
 (∀ as Γ' rs G' H', Qm as Γ' → Same G G' → R F Γ' σ G' H' → Paired (ArgOk F G') rs as → Q rs H') → t σ H Q
noncomputable def VG (P0 : Addr → Hp → Prop) (A : Nat → Bool) (g : TG) (m : MG) : Prop := ∀ (F : Fra P0) (Γ : En) (σ : St) (G H : Hp) (v : V) (d : D) (Q : St → Hp → Prop) (Qm : En → Prop), R F Γ σ G H → Dt G v d → m d Γ Qm →
 (∀ Γ' σ', Qm Γ' → R F Γ' σ' G H → (∀ i, A i = false → σ'[i]? = σ[i]?) → Q σ' H) → g v σ H Q
noncomputable def VGs (P0 : Addr → Hp → Prop) (A : Nat → Bool) (g : TGs) (m : MGs) : Prop := ∀ (F : Fra P0) (Γ : En) (σ : St) (G H : Hp) (vs : List V) (ds : List D) (Q : St → Hp → Prop) (Qm : En → Prop), R F Γ σ G H → Dts G vs ds → m ds Γ Qm →
 (∀ Γ' σ', Qm Γ' → R F Γ' σ' G H → (∀ i, A i = false → σ'[i]? = σ[i]?) → Q σ' H) → g vs σ H Q
noncomputable def Post (F : Fra P0) (A : Nat → Bool) (σ0 : St) (G : Hp) (E : Ends) : Fl → Prop
 | .nx Γ => ∀ σ G' H', Same G G' → R F Γ σ G' H' → (∀ i, A i = false → σ[i]? = σ0[i]?) → E.nx σ H'
 | .rt rv => ∀ r G' H', Same G G' → Rf F G' H' → RvO F G' H' r rv → E.rt r H'
 | .bk Γ => ∀ σ G' H', Same G G' → R F Γ σ G' H' → (∀ i, A i = false → σ[i]? = σ0[i]?) → E.bk σ H'
 | .ct Γ => ∀ σ G' H', Same G G' → R F Γ σ G' H' → (∀ i, A i = false → σ[i]? = σ0[i]?) → E.ct σ H'
noncomputable def VSA (P0 : Addr → Hp → Prop) (A : Nat → Bool) (t : TS) (m : MS) : Prop := ∀ (F : Fra P0) (Γ : En) (σ : St) (G H : Hp) (E : Ends) (Qm : Fl → Prop), R F Γ σ G H → m Γ Qm → (∀ fl, Qm fl → Post F A σ G E fl) → t E σ H
abbrev aAll : Nat → Bool := fun _ => true
abbrev VS (P0 : Addr → Hp → Prop) (t : TS) (m : MS) : Prop := VSA P0 aAll t m
theorem Post.same {F : Fra P0} {A : Nat → Bool} {σ0 σ1 : St} {G G' : Hp} {E : Ends} (g : Same G G') (hσ : ∀ i, A i = false → σ1[i]? = σ0[i]?) : ∀ {fl : Fl}, Post F A σ0 G E fl → Post F A σ1 G' E fl
 | .nx _, h => fun σ G2 H2 s r e => h σ G2 H2 (g.trans s) r fun i hi => (e i hi).trans (hσ i hi)
 | .rt _, h => fun r G2 H2 s => h r G2 H2 (g.trans s)
 | .bk _, h => fun σ G2 H2 s r e => h σ G2 H2 (g.trans s) r fun i hi => (e i hi).trans (hσ i hi)
 | .ct _, h => fun σ G2 H2 s r e => h σ G2 H2 (g.trans s) r fun i hi => (e i hi).trans (hσ i hi)
noncomputable def SsX (P0 : Addr → Hp → Prop) (X : Cx) (sts : List Stmt) (m : MS) : Prop := ∃ t, PSs X sts t ∧ VS P0 t m
end L2.VS
namespace L2.VS
open PySem PySem.Spec PyProof.Rows
variable {P0 : Addr → Hp → Prop}
theorem _root_.L2.Dts.get {G : Hp} : ∀ {vs : List V} {ds : List D} {i : Nat} {d : D}, Dts G vs ds → ds[i]? = some d → ∃ v, vs[i]? = some v ∧ Dt G v d
 := by
  intro vs ds i d h e
  induction ds generalizing vs i with
  | nil => cases e
  | cons x ds ih =>
    cases h with
    | cons a b =>
      cases i with
      | zero => cases e; exact ⟨_, rfl, a⟩
      | succ i =>
        have q := ih b (show ds[i]? = some d from e)
        exact q
theorem _root_.L2.Dts.len {G : Hp} : ∀ {vs : List V} {ds : List D}, Dts G vs ds → vs.length = ds.length
 := by
  intro vs ds h
  induction ds generalizing vs with
  | nil => cases h; rfl
  | cons x ds ih => cases h with | cons a b => exact congrArg Nat.succ (ih b)
theorem _root_.L2.Dts.app {G : Hp} : ∀ {vs ws : List V} {ds es : List D}, Dts G vs ds → Dts G ws es → Dts G (vs ++ ws) (ds ++ es)
 := by
  intro vs ws ds es h g
  induction ds generalizing vs with
  | nil => cases h; exact g
  | cons x ds ih => cases h with | cons a b => exact .cons a (ih b)
theorem _root_.L2.Dts.drp {G : Hp} : ∀ {vs : List V} {ds : List D} (n : Nat), Dts G vs ds → Dts G (vs.drop n) (ds.drop n)
 | _, _, 0, h => h
 | _, _, _ + 1, .nil => .nil
 | _, _, n + 1, .cons _ b => Dts.drp n b
theorem _root_.L2.Dts.tak {G : Hp} : ∀ {vs : List V} {ds : List D} (n : Nat), Dts G vs ds → Dts G (vs.take n) (ds.take n)
 | _, _, 0, _ => .nil
 | _, _, _ + 1, .nil => .nil
 | _, _, n + 1, .cons a b => .cons a (Dts.tak n b)
noncomputable def oQ (o : Option D) (k : D → Prop) : Prop := match o with
 | some d => k d
 | none => False
theorem oQ_out {o : Option D} {k : D → Prop} (h : oQ o k) : ∃ d, o = some d ∧ k d := by
 cases o with
 | none => exact h.elim
 | some d => exact ⟨d, rfl, h⟩
noncomputable def mC (d : D) : ME := fun Γ Q => Q d Γ
noncomputable def aM (i : Nat) : ME := fun Γ Q => match Γ[i]? with
 | some (.val d) => Q d Γ
 | _ => False
noncomputable def mI0 (g : Int → Int → D) (ma mb : ME) : ME := fun Γ Q => ma Γ fun x Γ1 => mb Γ1 fun y Γ2 => match x, y with
 | .int i, .int j => Q (g i j) Γ2
 | _, _ => False
noncomputable def mI (C : Int → Int → Prop) (g : Int → Int → D) (ma mb : ME) : ME := fun Γ Q => ma Γ fun x Γ1 => mb Γ1 fun y Γ2 => match x, y with
 | .int i, .int j => C i j ∧ Q (g i j) Γ2
 | _, _ => False
noncomputable def mU (g : Int → D) (ma : ME) : ME := fun Γ Q => ma Γ fun x Γ1 => match x with
 | .int i => Q (g i) Γ1
 | _ => False
noncomputable def mEq (ma mb : ME) : ME := fun Γ Q => ma Γ fun x Γ1 => mb Γ1 fun y Γ2 => Good x ∧ Good y ∧ Q (.bool (PyData.eqv x y)) Γ2
noncomputable def mNe (ma mb : ME) : ME := fun Γ Q => ma Γ fun x Γ1 => mb Γ1 fun y Γ2 => Good x ∧ Good y ∧ Q (.bool (!PyData.eqv x y)) Γ2
noncomputable def isN : D → Bool
 | .none => true
 | _ => false
noncomputable def mIsN (ma : ME) : ME := fun Γ Q => ma Γ fun x Γ1 => Q (.bool (isN x)) Γ1
noncomputable def mNotN (ma : ME) : ME := fun Γ Q => ma Γ fun x Γ1 => Q (.bool (!isN x)) Γ1
noncomputable def mAndV (ma mb : ME) : ME := fun Γ Q => ma Γ fun x Γ1 => match x with
 | .bool c => if c = true then mb Γ1 Q else Q (.bool false) Γ1
 | _ => False
noncomputable def mOrV (ma mb : ME) : ME := fun Γ Q => ma Γ fun x Γ1 => match x with
 | .bool c => if c = true then Q (.bool true) Γ1 else mb Γ1 Q
 | _ => False
noncomputable def mNotV (ma : ME) : ME := fun Γ Q => ma Γ fun x Γ1 => match x with
 | .bool c => Q (.bool (!c)) Γ1
 | _ => False
noncomputable def fO (ma : ME) : MT := fun Γ Q => ma Γ fun x Γ1 => match x with
 | .bool c => Q c Γ1
 | _ => False
noncomputable def mAnd (ma mb : MT) : MT := fun Γ Q => ma Γ fun c Γ1 => if c = true then mb Γ1 Q else Q false Γ1
noncomputable def mOr (ma mb : MT) : MT := fun Γ Q => ma Γ fun c Γ1 => if c = true then Q true Γ1 else mb Γ1 Q
noncomputable def mNot (ma : MT) : MT := fun Γ Q => ma Γ fun c Γ1 => Q (!c) Γ1
noncomputable def mIfE (mc : MT) (ma mb : ME) : ME := fun Γ Q => mc Γ fun c Γ1 => if c = true then ma Γ1 Q else mb Γ1 Q
noncomputable def mIfO (mc : MT) (ma mb : MO) : MO := fun Γ Q => mc Γ fun c Γ1 => if c = true then ma Γ1 Q else mb Γ1 Q
noncomputable def gH : MD := fun Γ Q => Q [] Γ
noncomputable def bK (ma : ME) (mr : MD) : MD := fun Γ Q => ma Γ fun x Γ1 => mr Γ1 fun xs Γ2 => Q (x :: xs) Γ2
noncomputable def cD : MA := fun Γ Q => Q [] Γ
noncomputable def bA (ma : ME) (mr : MA) : MA := fun Γ Q => ma Γ fun x Γ1 => mr Γ1 fun xs Γ2 => Q (.val x :: xs) Γ2
noncomputable def qG (i : Nat) (mr : MA) : MA := fun Γ Q => match Γ[i]? with
 | some .pen => mr Γ fun xs Γ2 => Q (.pen :: xs) Γ2
 | _ => False
noncomputable def qP (md : MD) : ME := fun Γ Q => md Γ fun ds Γ1 => ds.length ≤ 1000 ∧ Q (.tuple ds) Γ1
noncomputable def mLst (md : MD) : MO := fun Γ Q => md Γ fun ds Γ1 => ds.length ≤ 1000 ∧ Q (.own ds) Γ1
noncomputable def ixD : D → D → Option D
 | .tuple ds, .int i => atI ds i
 | .list ds, .int i => atI ds i
 | _, _ => none
noncomputable def mIx (ma mb : ME) : ME := fun Γ Q => ma Γ fun x Γ1 => mb Γ1 fun y Γ2 => oQ (ixD x y) fun d => Q d Γ2
noncomputable def nbQ : Rv → Prop → Prop
 | .box B, p => B.view.isSome = true ∧ p
 | _, p => p
noncomputable def cC (mo : MO) : ME := fun Γ Q => mo Γ fun rv Γ1 => nbQ rv (Q rv.d Γ1)
noncomputable def cM (m : ME) : MO := fun Γ Q => m Γ fun d Γ1 => Q (.val d) Γ1
noncomputable def yL (i : Nat) : MO := fun Γ Q => match Γ[i]? with
 | some (.val d) => Q (.val d) Γ
 | some (.own ds) => Q (.own ds) (Γ.set i .no)
 | some (.box B) => Q (.box B) (Γ.set i .no)
 | _ => False
noncomputable def b7 (n : Nat) (f : Fm) (ma : MA) : MO := fun Γ Q => ma Γ fun as Γ1 => as.length = n ∧ f as fun rv => Q rv Γ1
noncomputable def lenD : D → Option D
 | .tuple ds => some (.int ds.length)
 | .list ds => some (.int ds.length)
 | _ => none
noncomputable def mLen (ma : ME) : ME := fun Γ Q => ma Γ fun x Γ1 => oQ (lenD x) fun d => Q d Γ1
noncomputable def xR : D → Option (List D)
 | .tuple ds => some ds
 | .list ds => some ds
 | _ => none
noncomputable def mListOf (ma : ME) : MO := fun Γ Q => ma Γ fun x Γ1 => match xR x with
 | some ds => Q (.own ds) Γ1
 | none => False
noncomputable def cutD (xs : List D) (lo hi : Option Int) : List D := (xs.drop (HT.sIx xs.length 0 lo)).take (HT.sIx xs.length xs.length hi - HT.sIx xs.length 0 lo)
abbrev MP := En → (Option Int → En → Prop) → Prop
noncomputable def pNo : MP := fun Γ Q => Q none Γ
noncomputable def pSo (m : ME) : MP := fun Γ Q => m Γ fun x Γ1 => match x with
 | .int i => Q (some i) Γ1
 | _ => False
noncomputable def mSlL (ma : ME) (ml mh : MP) : MO := fun Γ Q => ma Γ fun x Γ1 => ml Γ1 fun lo Γ2 => mh Γ2 fun hi Γ3 => match x with
 | .list ds => Q (.own (cutD ds lo hi)) Γ3
 | _ => False
noncomputable def mCat (ma mb : ME) : MO := fun Γ Q => ma Γ fun x Γ1 => mb Γ1 fun y Γ2 => match x, y with
 | .list ds, .list es => ds.length + es.length ≤ 1000 ∧ Q (.own (ds ++ es)) Γ2
 | _, _ => False
noncomputable def VP (P0 : Addr → Hp → Prop) (t : TO) (m : MP) : Prop := ∀ (F : Fra P0) (Γ : En) (σ : St) (G H : Hp) (Q : Option Int → Hp → Prop) (Qm : Option Int → En → Prop), R F Γ σ G H → m Γ Qm →
 (∀ d Γ' G' H', Qm d Γ' → Same G G' → R F Γ' σ G' H' → Q d H') → t σ H Q
section
variable {ta tb tc : TE} {ma mb : ME} {tA tB' : TT} {mA mB : MT} {K : PySem.W.Frag}
theorem vt_c {v : V} {d : D} (h : ∀ G, Dt G v d) : VT P0 (tC v) (mC d) := fun _ _ _ G _ _ _ r m k => k _ _ _ _ _ m (Same.refl _) r (h G)
theorem aB {i : Nat} : VT P0 (tVar i) (aM i) := by
 intro F Γ σ G H Q Qm r m k
 unfold aM at m
 split at m
 ·rename_i d e
  obtain ⟨v, e1, d1⟩ := r.sl i _ e
  exact ⟨v, e1, k _ _ _ _ _ m (Same.refl _) r d1⟩
 ·exact m.elim
theorem vt_2 {r2 : R2} {m2 : D → D → (D → Prop) → Prop} (ha : VT P0 ta ma) (hb : VT P0 tb mb)
  (h : ∀ (F : Fra P0) (Γ : En) (σ : St) (G H : Hp) (x y : V) (d e : D) (Q : VK) (Qm : D → Prop), R F Γ σ G H → Dt G x d → Dt G y e → m2 d e Qm → (∀ u r G' H', Qm u → Same G G' → R F Γ σ G' H' → Dt G' r u → Q r H') → r2 x y H Q) :
  VT P0 (tOp r2 ta tb) (fun Γ Q => ma Γ fun x Γ1 => mb Γ1 fun y Γ2 => m2 x y fun d => Q d Γ2) := by
 intro F Γ σ G H Q Qm r m k
 refine ha F Γ σ G H _ _ r m fun d Γ1 x G1 H1 m1 s1 r1 d1 => ?_
 refine hb F Γ1 σ G1 H1 _ _ r1 m1 fun e Γ2 y G2 H2 m2 s2 r2 d2 => ?_
 exact h F Γ2 σ G2 H2 x y d e _ _ r2 (Dt.same s2 _ _ d1) d2 m2 fun u w G3 H3 q s3 r3 d3 => k _ _ _ _ _ q ((s1.trans s2).trans s3) r3 d3
theorem vt_i0 {gv : Int → Int → V} {g : Int → Int → D} (hg : ∀ G i j, Dt G (gv i j) (g i j)) (ha : VT P0 ta ma) (hb : VT P0 tb mb) : VT P0 (tOp (rI0 gv) ta tb) (mI0 g ma mb) := by
 refine vt_2 (m2 := fun x y Q => match x, y with | .int i, .int j => Q (g i j) | _, _ => False) ha hb fun F Γ σ G H x y d e Q Qm r d1 d2 m k => ?_
 split at m
 ·cases d1; cases d2
  exact ⟨_, _, rfl, rfl, k _ _ _ _ m (Same.refl _) r (hg _ _ _)⟩
 ·exact m.elim
theorem vt_i {C : Int → Int → Prop} {gv : Int → Int → V} {g : Int → Int → D} (hg : ∀ G i j, Dt G (gv i j) (g i j)) (ha : VT P0 ta ma) (hb : VT P0 tb mb) : VT P0 (tOp (rI C gv) ta tb) (mI C g ma mb) := by
 refine vt_2 (m2 := fun x y Q => match x, y with | .int i, .int j => C i j ∧ Q (g i j) | _, _ => False) ha hb fun F Γ σ G H x y d e Q Qm r d1 d2 m k => ?_
 split at m
 ·cases d1; cases d2
  exact ⟨_, _, rfl, rfl, m.1, k _ _ _ _ m.2 (Same.refl _) r (hg _ _ _)⟩
 ·exact m.elim
theorem vt_u {gv : Int → V} {g : Int → D} (hg : ∀ G i, Dt G (gv i) (g i)) (ha : VT P0 ta ma) : VT P0 (tUn (rU gv) ta) (mU g ma) := by
 intro F Γ σ G H Q Qm r m k
 refine ha F Γ σ G H _ _ r m fun d Γ1 x G1 H1 m1 s1 r1 d1 => ?_
 split at m1
 ·cases d1
  exact ⟨_, rfl, k _ _ _ _ _ m1 s1 r1 (hg _ _)⟩
 ·exact m1.elim
theorem uB (ha : VT P0 ta ma) (hb : VT P0 tb mb) : VT P0 (tOp rEqD ta tb) (mEq ma mb) := by
 refine vt_2 (m2 := fun x y Q => Good x ∧ Good y ∧ Q (.bool (PyData.eqv x y))) ha hb fun F Γ σ G H x y d e Q Qm r d1 d2 m k => ?_
 exact ⟨d, e, Dt.same r.fr.sub _ _ d1, Dt.same r.fr.sub _ _ d2, m.1, m.2.1, k _ _ _ _ m.2.2 (Same.refl _) r (.bl _)⟩
theorem vt_ne (ha : VT P0 ta ma) (hb : VT P0 tb mb) : VT P0 (tOp rNeD ta tb) (mNe ma mb) := by
 refine vt_2 (m2 := fun x y Q => Good x ∧ Good y ∧ Q (.bool (!PyData.eqv x y))) ha hb fun F Γ σ G H x y d e Q Qm r d1 d2 m k => ?_
 exact ⟨d, e, Dt.same r.fr.sub _ _ d1, Dt.same r.fr.sub _ _ d2, m.1, m.2.1, k _ _ _ _ m.2.2 (Same.refl _) r (.bl _)⟩
theorem isN_of {G : Hp} {x : V} {d : D} (h : Dt G x d) : decide (x = V.non) = isN d := by
 cases h <;> first | rfl | exact decide_eq_false (by intro z; cases z)
theorem xH (ha : VT P0 ta ma) : VT P0 (tOp (fun x y H Q => y = .non ∧ Q (.bl (decide (x = .non))) H) ta (tC .non)) (mIsN ma) := by
 intro F Γ σ G H Q Qm r m k
 refine ha F Γ σ G H _ _ r m fun d Γ1 x G1 H1 m1 s1 r1 d1 => ⟨rfl, ?_⟩
 rw [isN_of d1]
 exact k _ _ _ _ _ m1 s1 r1 (.bl _)
theorem yU (ha : VT P0 ta ma) : VT P0 (tOp (fun x y H Q => y = .non ∧ Q (.bl (!decide (x = .non))) H) ta (tC .non)) (mNotN ma) := by
 intro F Γ σ G H Q Qm r m k
 refine ha F Γ σ G H _ _ r m fun d Γ1 x G1 H1 m1 s1 r1 d1 => ⟨rfl, ?_⟩
 rw [isN_of d1]
 exact k _ _ _ _ _ m1 s1 r1 (.bl _)
theorem vt_and (ha : VT P0 ta ma) (hb : VT P0 tb mb) : VT P0 (tAndV ta tb) (mAndV ma mb) := by
 intro F Γ σ G H Q Qm r m k
 refine ha F Γ σ G H _ _ r m fun d Γ1 x G1 H1 m1 s1 r1 d1 => ?_
 split at m1
 ·rename_i c
  cases d1
  refine ⟨c, rfl, ?_⟩
  cases c with
  | true => exact wH (hb F Γ1 σ G1 H1 _ _ r1 m1 fun e Γ2 y G2 H2 m2 s2 r2 d2 => k _ _ _ _ _ m2 (s1.trans s2) r2 d2)
  | false => exact vD (k _ _ _ _ _ m1 s1 r1 (.bl _))
 ·exact m1.elim
theorem vt_or (ha : VT P0 ta ma) (hb : VT P0 tb mb) : VT P0 (tOrV ta tb) (mOrV ma mb) := by
 intro F Γ σ G H Q Qm r m k
 refine ha F Γ σ G H _ _ r m fun d Γ1 x G1 H1 m1 s1 r1 d1 => ?_
 split at m1
 ·rename_i c
  cases d1
  refine ⟨c, rfl, ?_⟩
  cases c with
  | true => exact wH (k _ _ _ _ _ m1 s1 r1 (.bl _))
  | false => exact vD (hb F Γ1 σ G1 H1 _ _ r1 m1 fun e Γ2 y G2 H2 m2 s2 r2 d2 => k _ _ _ _ _ m2 (s1.trans s2) r2 d2)
 ·exact m1.elim
theorem vt_not (ha : VT P0 ta ma) : VT P0 (tNotV ta) (mNotV ma) := by
 intro F Γ σ G H Q Qm r m k
 refine ha F Γ σ G H _ _ r m fun d Γ1 x G1 H1 m1 s1 r1 d1 => ?_
 split at m1
 ·cases d1
  exact ⟨_, rfl, k _ _ _ _ _ m1 s1 r1 (.bl _)⟩
 ·exact m1.elim
theorem bT (ha : VT P0 ta ma) : VTT P0 (tTest ta) (fO ma) := by
 intro F Γ σ G H Q Qm r m k
 refine ha F Γ σ G H _ _ r m fun d Γ1 x G1 H1 m1 s1 r1 d1 => ?_
 split at m1
 ·cases d1
  exact ⟨_, rfl, k _ _ _ _ m1 s1 r1⟩
 ·exact m1.elim
theorem jP (ha : VT P0 ta ma) : VTT P0 (tB ta) (fO ma) := bT ha
theorem nO (ha : VTT P0 tA mA) (hb : VTT P0 tB' mB) : VTT P0 (tAnd tA tB') (mAnd mA mB) := by
 intro F Γ σ G H Q Qm r m k
 refine ha F Γ σ G H _ _ r m fun c Γ1 G1 H1 m1 s1 r1 => ?_
 cases c with
 | true => exact wH (hb F Γ1 σ G1 H1 _ _ r1 m1 fun e Γ2 G2 H2 m2 s2 r2 => k _ _ _ _ m2 (s1.trans s2) r2)
 | false => exact vD (k _ _ _ _ m1 s1 r1)
theorem v9 (ha : VTT P0 tA mA) (hb : VTT P0 tB' mB) : VTT P0 (tOr tA tB') (mOr mA mB) := by
 intro F Γ σ G H Q Qm r m k
 refine ha F Γ σ G H _ _ r m fun c Γ1 G1 H1 m1 s1 r1 => ?_
 cases c with
 | true => exact wH (k _ _ _ _ m1 s1 r1)
 | false => exact vD (hb F Γ1 σ G1 H1 _ _ r1 m1 fun e Γ2 G2 H2 m2 s2 r2 => k _ _ _ _ m2 (s1.trans s2) r2)
theorem j8 (ha : VTT P0 tA mA) : VTT P0 (tNot tA) (mNot mA) := by
 intro F Γ σ G H Q Qm r m k
 exact ha F Γ σ G H _ _ r m fun c Γ1 G1 H1 m1 s1 r1 => k _ _ _ _ m1 s1 r1
theorem vt_ifE (hc : VTT P0 tA mA) (ha : VT P0 ta ma) (hb : VT P0 tb mb) : VT P0 (tIf tA ta tb) (mIfE mA ma mb) := by
 intro F Γ σ G H Q Qm r m k
 refine hc F Γ σ G H _ _ r m fun c Γ1 G1 H1 m1 s1 r1 => ?_
 cases c with
 | true => exact wH (ha F Γ1 σ G1 H1 _ _ r1 m1 fun e Γ2 y G2 H2 m2 s2 r2 d2 => k _ _ _ _ _ m2 (s1.trans s2) r2 d2)
 | false => exact vD (hb F Γ1 σ G1 H1 _ _ r1 m1 fun e Γ2 y G2 H2 m2 s2 r2 d2 => k _ _ _ _ _ m2 (s1.trans s2) r2 d2)
theorem vo_ifE {oa ob : MO} (hc : VTT P0 tA mA) (ha : VO P0 ta oa) (hb : VO P0 tb ob) : VO P0 (tIf tA ta tb) (mIfO mA oa ob) := by
 intro F Γ σ G H Q Qm r m k
 refine hc F Γ σ G H _ _ r m fun c Γ1 G1 H1 m1 s1 r1 => ?_
 cases c with
 | true => exact wH (ha F Γ1 σ G1 H1 _ _ r1 m1 fun e Γ2 y G2 H2 m2 s2 r2 d2 a2 => k _ _ _ _ _ m2 (s1.trans s2) r2 d2 a2)
 | false => exact vD (hb F Γ1 σ G1 H1 _ _ r1 m1 fun e Γ2 y G2 H2 m2 s2 r2 d2 a2 => k _ _ _ _ _ m2 (s1.trans s2) r2 d2 a2)
theorem bQ : VD P0 vP gH := fun _ _ _ _ _ _ _ r m k => k _ _ _ _ _ m (Same.refl _) r .nil
theorem aQ {tr : TA} {mr : MD} (ha : VT P0 ta ma) (hr : VD P0 tr mr) : VD P0 (fY ta tr) (bK ma mr) := by
 intro F Γ σ G H Q Qm r m k
 refine ha F Γ σ G H _ _ r m fun d Γ1 x G1 H1 m1 s1 r1 d1 => ?_
 exact hr F Γ1 σ G1 H1 _ _ r1 m1 fun e Γ2 y G2 H2 m2 s2 r2 d2 => k _ _ _ _ _ m2 (s1.trans s2) r2 (.cons (Dt.same s2 _ _ d1) d2)
theorem ArgOk.same {F : Fra P0} {G G' : Hp} (g : Same G G') {r : V} : ∀ {s : Sl}, ArgOk F G r s → ArgOk F G' r s
 | .val _, h => Dt.same g _ _ h
 | .pen, h => h
 | .con _, h => h
 | .pub _, h => h.elim
 | .no, h => h.elim
 | .own _, h => h.elim
 | .box _, h => h.elim
theorem aP : VA P0 vP cD := fun _ _ _ _ _ _ _ r m k => k _ _ _ _ _ m (Same.refl _) r .nil
theorem aC {tr : TA} {mr : MA} (ha : VT P0 ta ma) (hr : VA P0 tr mr) : VA P0 (fY ta tr) (bA ma mr) := by
 intro F Γ σ G H Q Qm r m k
 refine ha F Γ σ G H _ _ r m fun d Γ1 x G1 H1 m1 s1 r1 d1 => ?_
 exact hr F Γ1 σ G1 H1 _ _ r1 m1 fun e Γ2 y G2 H2 m2 s2 r2 d2 => k _ _ _ _ _ m2 (s1.trans s2) r2 (.cons (Dt.same s2 _ _ d1) d2)
theorem dC {i : Nat} {tr : TA} {mr : MA} (hr : VA P0 tr mr) : VA P0 (fY (tVar i) tr) (qG i mr) := by
 intro F Γ σ G H Q Qm r m k
 unfold qG at m
 split at m
 ·rename_i e
  obtain ⟨p, e1, e2⟩ := r.sl i _ e
  exact ⟨_, e1, hr F Γ σ G H _ _ r m fun as Γ2 y G2 H2 m2 s2 r2 d2 => k _ _ _ _ _ m2 s2 r2 (.cons ⟨p, rfl, e2⟩ d2)⟩
 ·exact m.elim
theorem cZ {t : TA} {md : MD} (h : VD P0 t md) : VT P0 (tTup t) (qP md) := by
 intro F Γ σ G H Q Qm r m k
 refine h F Γ σ G H _ _ r m fun ds Γ1 xs G1 H1 m1 s1 r1 d1 => ⟨eY (by rw [d1.len]; exact m1.1), fun p hp => ?_⟩
 have g := mY (r1.fr.gfresh hp) (.tup xs)
 exact k _ _ _ _ _ m1.2 (s1.trans g) (r1.new hp) (.tup bM (Dts.same g _ _ d1))
theorem SlF.det {F : Fra P0} {G H : Hp} {x : Option (Option V)} {fp fp' : List Addr} : ∀ {s : Sl}, SlF F G H x fp s → SlF F G H x fp' s → fp = fp'
 | .no, h, g => (show fp = [] from h).trans (show fp' = [] from g).symm
 | .val _, h, g => h.1.trans g.1.symm
 | .pen, h, g => h.1.trans g.1.symm
 | .con _, h, g => h.1.trans g.1.symm
 | .pub _, h, g => h.1.trans g.1.symm
 | .own _, h, g => by
  obtain ⟨p, vs, e, e1, _⟩ := h
  obtain ⟨q, ws, f, f1, _⟩ := g
  rw [e1] at f1; cases f1
  rw [e, f]
 | .box B, h, g => by
  obtain ⟨v, e1, e2, _⟩ := h
  obtain ⟨v', f1, f2, _⟩ := g
  rw [e1] at f1; cases f1
  exact B.uniq e2 f2
theorem R.before {F : Fra P0} {Γ : En} {σ : St} {G H G' H' : Hp} (r : R F Γ σ G H) (g : Same G G') (k : ∀ b o, F.H0 b = none → G b = none → H b = some o → G' b = none ∧ H' b = some o) {i : Nat} {s : Sl} {fp : List Addr} (e : Γ[i]? = some s) (h : SlF F G' H' σ[i]? fp s) : ∀ b ∈ fp, ∃ o, H b = some o := by
 obtain ⟨fps, h1, h2⟩ := r.fps
 have h0 := h1 i s e
 have h3 : SlF F G' H' σ[i]? (fps i) s := h0.go g fun b hb => by
  obtain ⟨m1, m2, o, m3⟩ := h0.mine hb
  obtain ⟨k1, k2⟩ := k b o m1 m2 m3
  exact ⟨k1, k2.trans m3.symm⟩
 rw [h.det h3]
 exact fun b hb => (h0.mine hb).2.2
theorem Apart.new {F : Fra P0} {Γ : En} {σ : St} {G H G' H' : Hp} (r : R F Γ σ G H) {p : Addr} (hp : H p = none) {ds : List D} (g : Same G G') (k : ∀ b o, F.H0 b = none → G b = none → H b = some o → G' b = none ∧ H' b = some o) : Apart F Γ σ G' H' (.ref p) (.own ds) := by
 intro i s fp e h q eq hq
 cases eq
 obtain ⟨o, eo⟩ := r.before g k e h p hq
 rw [hp] at eo; cases eo
theorem Apart.newB {F : Fra P0} {Γ : En} {σ : St} {G H G' H' : Hp} (r : R F Γ σ G H) {v : V} {B : Bx} (hp : ∀ fp, B.P v fp G' H' → ∀ b ∈ fp, H b = none) (g : Same G G') (k : ∀ b o, F.H0 b = none → G b = none → H b = some o → G' b = none ∧ H' b = some o) : Apart F Γ σ G' H' v (.box B) := by
 intro i s fp f e h hf b hb hc
 obtain ⟨o, eo⟩ := r.before g k e h b hc
 rw [hp f hf b hb] at eo; cases eo
theorem mZ {F : Fra P0} {Γ : En} {σ : St} {G H : Hp} (r : R F Γ σ G H) {p : Addr} {xs : List V} {ds : List D} (hp : H p = none) (d : Dts G xs ds) :
  R F Γ σ G (upd H p (.lst xs)) ∧ RvO F G (upd H p (.lst xs)) (.ref p) (.own ds) ∧ Apart F Γ σ G (upd H p (.lst xs)) (.ref p) (.own ds) :=
 ⟨r.newP hp, ⟨p, xs, rfl, r.fr.fresh hp, r.fr.gfresh hp, bM, d⟩, Apart.new r hp (Same.refl _) fun b o _ g e => ⟨g, by rw [aY (aZ e hp)]; exact e⟩⟩
theorem jA {t : TA} {md : MD} (h : VD P0 t md) : VO P0 (tLst t) (mLst md) := by
 intro F Γ σ G H Q Qm r m k
 refine h F Γ σ G H _ _ r m fun ds Γ1 xs G1 H1 m1 s1 r1 d1 => ⟨eY (by rw [d1.len]; exact m1.1), fun p hp => ?_⟩
 obtain ⟨a, b, c⟩ := mZ r1 hp d1
 exact k _ _ _ _ _ m1.2 s1 a b c
theorem aO {mo : MO} (h : VO P0 ta mo) : VT P0 ta (cC mo) := by
 intro F Γ σ G H Q Qm r m k
 refine h F Γ σ G H _ _ r m fun rv Γ1 x G1 H1 m1 s1 r1 d1 a1 => ?_
 cases rv with
 | val d => exact k _ _ _ _ _ m1 s1 r1 d1
 | own ds =>
  obtain ⟨G2, s2, r2, d2⟩ := r1.give d1 a1
  exact k _ _ _ _ _ m1 (s1.trans s2) r2 d2
 | box B =>
  obtain ⟨hv, m1⟩ := m1
  obtain ⟨d, hd⟩ := Option.isSome_iff_exists.mp hv
  obtain ⟨G2, s2, r2, d2⟩ := r1.giveB d1 a1 hd
  have m1 : Qm (B.view.getD .none) Γ1 := m1
  rw [hd] at m1
  exact k _ _ _ _ _ m1 (s1.trans s2) r2 d2
theorem aW (h : VT P0 ta ma) : VO P0 ta (cM ma) := by
 intro F Γ σ G H Q Qm r m k
 exact h F Γ σ G H _ _ r m fun d Γ1 x G1 H1 m1 s1 r1 d1 => k _ _ _ _ _ m1 s1 r1 d1 trivial
theorem R.apart {F : Fra P0} {Γ : En} {σ : St} {G H : Hp} (r : R F Γ σ G H) {i j : Nat} {s t : Sl} {fp fq : List Addr} (hij : i ≠ j) (ei : Γ[i]? = some s) (ej : Γ[j]? = some t) (hi : SlF F G H σ[i]? fp s) (hj : SlF F G H σ[j]? fq t) : ∀ b ∈ fp, b ∉ fq := by
 obtain ⟨fps, h1, h2⟩ := r.fps
 rw [hi.det (h1 i s ei), hj.det (h1 j t ej)]
 exact h2 i j s t ei ej hij
theorem yR {i : Nat} : VO P0 (tVar i) (yL i) := by
 intro F Γ σ G H Q Qm r m k
 have other : ∀ {j : Nat} {s s0 : Sl} {fp fq : List Addr}, Γ[i]? = some s0 → SlF F G H σ[i]? fp s0 → (Γ.set i .no)[j]? = some s → SlF F G H σ[j]? fq s → ∀ b ∈ fp, b ∉ fq := by
  intro j s s0 fp fq e h ej hj b hb hc
  by_cases hij : i = j
  ·subst hij
   have hi : i < Γ.length := (List.getElem?_eq_some_iff.mp e).1
   rw [List.getElem?_set_self hi] at ej
   cases ej
   rw [show fq = [] from hj] at hc; cases hc
  ·rw [List.getElem?_set_ne hij] at ej
   exact r.apart hij e ej h hj b hb hc
 unfold yL at m
 split at m
 ·rename_i d e
  obtain ⟨v, e1, d1⟩ := r.sl i _ e
  exact ⟨v, e1, k _ _ _ _ _ m (Same.refl _) r d1 trivial⟩
 ·rename_i ds e
  obtain ⟨p, vs, e1, e2⟩ := r.sl i _ e
  refine ⟨_, e1, k _ _ _ _ _ m (Same.refl _) (r.drop i) ⟨p, vs, rfl, e2⟩ fun j s fp ej hj q eq hq => ?_⟩
  cases eq
  exact other e (fp := [p]) ⟨p, vs, rfl, e1, e2⟩ ej hj p (List.mem_singleton.mpr rfl) hq
 ·rename_i B e
  obtain ⟨v, fp, e1, e2, e3⟩ := r.sl i _ e
  refine ⟨_, e1, k _ _ _ _ _ m (Same.refl _) (r.drop i) ⟨fp, e2, e3⟩ fun j s fq f ej hj hf b hb => ?_⟩
  rw [B.uniq hf e2] at hb
  exact other e (fp := fp) ⟨v, e1, e2, e3⟩ ej hj b hb
 ·exact m.elim
theorem aX (ha : VT P0 ta ma) (hb : VT P0 tb mb) : VT P0 (tOp (rIx K) ta tb) (mIx ma mb) := by
 refine vt_2 (m2 := fun x y Q => oQ (ixD x y) Q) ha hb fun F Γ σ G H x y d e Q Qm r d1 d2 m k => ?_
 obtain ⟨u, hu, q⟩ := oQ_out m
 unfold ixD at hu
 split at hu
 ·rename_i ds i
  cases d2
  cases d1 with
  | @tup p xs _ hp rs =>
   obtain ⟨j, h1, h2⟩ : ∃ j, ixN ds.length i = some j ∧ ds[j]? = some u := by
    unfold atI at hu
    cases e : ixN ds.length i with
    | none => rw [e] at hu; cases hu
    | some j => rw [e] at hu; exact ⟨j, rfl, hu⟩
   obtain ⟨v, hv, dv⟩ := Dts.get rs h2
   refine .inr (.inl ⟨p, xs, i, v, rfl, rfl, SqT.of (r.fr.sub _ _ hp), ?_, k _ _ _ _ q (Same.refl _) r dv⟩)
   unfold atI
   rw [rs.len, h1]
   exact hv
 ·rename_i ds i
  cases d2
  cases d1 with
  | @lst p xs _ hp rs =>
   obtain ⟨j, h1, h2⟩ : ∃ j, ixN ds.length i = some j ∧ ds[j]? = some u := by
    unfold atI at hu
    cases e : ixN ds.length i with
    | none => rw [e] at hu; cases hu
    | some j => rw [e] at hu; exact ⟨j, rfl, hu⟩
   obtain ⟨v, hv, dv⟩ := Dts.get rs h2
   refine .inl ⟨p, xs, i, v, rfl, rfl, SqL.of (r.fr.sub _ _ hp), ?_, k _ _ _ _ q (Same.refl _) r dv⟩
   unfold atI
   rw [rs.len, h1]
   exact hv
 ·cases hu
theorem vt_cb1 {rr : List V → Hp → VK → Prop} {m1 : D → (D → Prop) → Prop} (ha : VT P0 ta ma)
  (h : ∀ (F : Fra P0) (Γ : En) (σ : St) (G H : Hp) (x : V) (d : D) (Q : VK) (Qm : D → Prop), R F Γ σ G H → Dt G x d → m1 d Qm → (∀ u r G' H', Qm u → Same G G' → R F Γ σ G' H' → Dt G' r u → Q r H') → rr [x] H Q) :
  VT P0 (tCB rr (fY ta vP)) (fun Γ Q => ma Γ fun x Γ1 => m1 x fun d => Q d Γ1) := by
 intro F Γ σ G H Q Qm r m k
 refine ha F Γ σ G H _ _ r m fun d Γ1 x G1 H1 m1 s1 r1 d1 => ?_
 exact h F Γ1 σ G1 H1 x d _ _ r1 d1 m1 fun u w G3 H3 q s3 r3 d3 => k _ _ _ _ _ q (s1.trans s3) r3 d3
theorem j6 (ha : VT P0 ta ma) : VT P0 (tCB (fun xs H Q => ∃ p ys, xs = [.ref p] ∧ (SqL K H p ys ∨ SqT K H p ys) ∧ Q (.int ys.length) H) (fY ta vP)) (mLen ma) := by
 refine vt_cb1 (m1 := fun x Q => oQ (lenD x) Q) ha fun F Γ σ G H x d Q Qm r d1 m k => ?_
 obtain ⟨u, hu, q⟩ := oQ_out m
 unfold lenD at hu
 split at hu
 ·cases hu
  cases d1 with
  | @tup p xs _ hp rs => exact ⟨p, xs, rfl, .inr (SqT.of (r.fr.sub _ _ hp)), by rw [rs.len]; exact k _ _ _ _ q (Same.refl _) r (.int _)⟩
 ·cases hu
  cases d1 with
  | @lst p xs _ hp rs => exact ⟨p, xs, rfl, .inl (SqL.of (r.fr.sub _ _ hp)), by rw [rs.len]; exact k _ _ _ _ q (Same.refl _) r (.int _)⟩
 ·cases hu
noncomputable def mAbs (ma : ME) : ME := fun Γ Q => ma Γ fun x Γ1 => match x with
 | .int i => Q (.int (if i < 0 then -i else i)) Γ1
 | _ => False
theorem vt_abs (ha : VT P0 ta ma) : VT P0 (tCB (fun xs H Q => ∃ i, xs = [.int i] ∧ Q (.int (if i < 0 then -i else i)) H) (fY ta vP)) (mAbs ma) := by
 refine vt_cb1 (m1 := fun x Q => match x with | .int i => Q (.int (if i < 0 then -i else i)) | _ => False) ha fun F Γ σ G H x d Q Qm r d1 m k => ?_
 split at m
 ·cases d1
  exact ⟨_, rfl, k _ _ _ _ m (Same.refl _) r (.int _)⟩
 ·exact m.elim
noncomputable def mInt1 (ma : ME) : ME := fun Γ Q => ma Γ fun x Γ1 => match x with
 | .int i => Q (.int i) Γ1
 | .bool b => Q (.int (if b then 1 else 0)) Γ1
 | _ => False
theorem vt_int1 (ha : VT P0 ta ma) : VT P0 (tCB (fun xs H Q => (∃ i, xs = [.int i] ∧ Q (.int i) H) ∨ ∃ k, xs = [.bl k] ∧ Q (.int (if k then 1 else 0)) H) (fY ta vP)) (mInt1 ma) := by
 refine vt_cb1 (m1 := fun x Q => match x with | .int i => Q (.int i) | .bool b => Q (.int (if b then 1 else 0)) | _ => False) ha fun F Γ σ G H x d Q Qm r d1 m k => ?_
 split at m
 ·cases d1
  exact .inl ⟨_, rfl, k _ _ _ _ m (Same.refl _) r (.int _)⟩
 ·cases d1
  exact .inr ⟨_, rfl, k _ _ _ _ m (Same.refl _) r (.int _)⟩
 ·exact m.elim
noncomputable def m2I (g : Int → Int → Int) (ma mb : ME) : ME := fun Γ Q => ma Γ fun x Γ1 => mb Γ1 fun y Γ2 => match x, y with
 | .int i, .int j => Q (.int (g i j)) Γ2
 | _, _ => False
theorem vp_no : VP P0 tNoPart pNo := fun _ _ _ _ _ _ _ r m k => k _ _ _ _ m (Same.refl _) r
theorem vp_so (ha : VT P0 ta ma) : VP P0 (tPart ta) (pSo ma) := by
 intro F Γ σ G H Q Qm r m k
 refine ha F Γ σ G H _ _ r m fun d Γ1 x G1 H1 m1 s1 r1 d1 => ?_
 split at m1
 ·cases d1
  exact ⟨_, rfl, k _ _ _ _ m1 s1 r1⟩
 ·exact m1.elim
theorem _root_.L2.Dts.cut {G : Hp} {vs : List V} {ds : List D} (h : Dts G vs ds) (lo hi : Option Int) : Dts G (cutV vs lo hi) (cutD ds lo hi) := by
 unfold cutV cutD
 rw [h.len]
 exact Dts.tak _ (Dts.drp _ h)
theorem vo_slL {tl th : TO} {ml mh : MP} (ha : VT P0 ta ma) (hl : VP P0 tl ml) (hh : VP P0 th mh) : VO P0 (tSl (rSlL K) ta tl th) (mSlL ma ml mh) := by
 intro F Γ σ G H Q Qm r m k
 refine ha F Γ σ G H _ _ r m fun d Γ1 x G1 H1 m1 s1 r1 d1 => ?_
 refine hl F Γ1 σ G1 H1 _ _ r1 m1 fun lo Γ2 G2 H2 m2 s2 r2 => ?_
 refine hh F Γ2 σ G2 H2 _ _ r2 m2 fun hi Γ3 G3 H3 m3 s3 r3 => ?_
 split at m3
 ·have d1 := Dt.same (s2.trans s3) _ _ d1
  cases d1 with
  | @lst p xs _ hp rs =>
   refine ⟨p, xs, rfl, SqL.of (r3.fr.sub _ _ hp), fun l hl => ?_⟩
   obtain ⟨a, b, c⟩ := mZ r3 hl (rs.cut lo hi)
   exact k _ _ _ _ _ m3 ((s1.trans s2).trans s3) a b c
 ·exact m3.elim
theorem vo_cat (ha : VT P0 ta ma) (hb : VT P0 tb mb) : VO P0 (tOp rCat ta tb) (mCat ma mb) := by
 intro F Γ σ G H Q Qm r m k
 refine ha F Γ σ G H _ _ r m fun d Γ1 x G1 H1 m1 s1 r1 d1 => ?_
 refine hb F Γ1 σ G1 H1 _ _ r1 m1 fun e Γ2 y G2 H2 m2 s2 r2 d2 => ?_
 have d1 := Dt.same s2 _ _ d1
 split at m2
 ·cases d1 with
  | @lst p xs _ hp rs =>
   cases d2 with
   | @lst q ys _ hq ss =>
    refine ⟨p, q, xs, ys, rfl, rfl, r2.fr.sub _ _ hp, r2.fr.sub _ _ hq, eY (by rw [rs.len, ss.len]; exact m2.1), fun l hl => ?_⟩
    obtain ⟨a, b, c⟩ := mZ r2 hl (rs.app ss)
    exact k _ _ _ _ _ m2.2 (s1.trans s2) a b c
 ·exact m2.elim
noncomputable def spM (P0 : Addr → Hp → Prop) (n : Nat) (f : Fm) : Sp := fun vs H Q _ => ∃ (F : Fra P0) (as : List Sl) (Qm : Rv → Prop), F.H0 = H ∧ Rf F F.G0 H ∧ Paired (ArgOk F F.G0) vs as ∧ as.length = n ∧ f as Qm ∧
 ∀ rv r G' H', Qm rv → Rf F G' H' → RvO F G' H' r rv → Q r H'
noncomputable def Fra.sub (F : Fra P0) {G H : Hp} (r : Rf F G H) : Fra P0 where
 H0 := H
 G0 := G
 pen := F.pen
 stab := fun p e H1 H2 h => F.stab p e H1 H2 fun b o e => let ⟨o', e'⟩ := r.dom e; h b o' e'
 pin := F.pin
 pin0 := fun p e => F.pin p e H (r.pn p e)
 pg := fun p e => by
  obtain ⟨o, e0⟩ := F.pin0 p e
  rw [r.g0 p o e0]
  exact F.pg p e
theorem Fra.subRf (F : Fra P0) {G H : Hp} (r : Rf F G H) : Rf (F.sub r) G H := ⟨r.sub, fun _ _ _ => rfl, fun _ _ e _ => e, r.pn⟩
theorem Rf.back {F : Fra P0} {G H G' H' : Hp} (r : Rf F G H) (h : Rf (F.sub r) G' H') : Rf F G' H' ∧ Same G G' := by
 refine ⟨⟨h.sub, fun b o e => ?_, fun b o e hb => ?_, h.pn⟩, fun b o e => ?_⟩
 ·obtain ⟨o', e'⟩ := r.dom e
  exact (h.g0 b o' e').trans (r.g0 b o e)
 ·exact h.h0 b o (r.h0 b o e hb) hb
 ·exact (h.g0 b o (r.sub b o e)).trans e
theorem Fra.pen_ne (F : Fra P0) {p : Addr} (h : F.H0 p = none) : F.pen ≠ some p := fun e => by
 obtain ⟨o, e0⟩ := F.pin0 p e
 rw [h] at e0; cases e0
theorem R.after {F : Fra P0} {Γ : En} {σ : St} {G H G' H' : Hp} (r : R F Γ σ G H) (h : Rf (F.sub r.fr) G' H') : R F Γ σ G' H' ∧ Same G G' := by
 obtain ⟨a, b⟩ := r.fr.back h
 refine ⟨r.keep a b fun p u _ e1 e2 e3 => ⟨(h.g0 p _ e3).trans e2, h.h0 p _ e3 (F.pen_ne e1)⟩, b⟩
theorem aK {n : Nat} {f : Fm} {t : TA} {m : MA} {E : XK} (h : VA P0 t m) : VO P0 (tCall (spM P0 n f) [] E t) (b7 n f m) := by
 intro F Γ σ G H Q Qm r hm k
 refine h F Γ σ G H _ _ r hm fun as Γ1 rs G1 H1 m1 s1 r1 d1 => ?_
 refine ⟨F.sub r1.fr, as, fun rv => Qm rv Γ1, rfl, F.subRf r1.fr, ?_, m1.1, m1.2, fun rv v G2 H2 q f2 v2 => ?_⟩
 ·rw [List.append_nil]
  exact Paired.imp' (fun a s h => by cases s <;> exact h) d1
 ·obtain ⟨r2, s2⟩ := r1.after f2
  refine k _ _ _ _ _ q (s1.trans s2) r2 ?_ ?_
  ·cases rv with
   | val d => exact v2
   | own ds =>
    obtain ⟨p, vs, e, e1, e2, e3, e4⟩ := v2
    exact ⟨p, vs, e, r1.fr.fresh e1, e2, e3, e4⟩
   | box B =>
    obtain ⟨fp, e1, e2⟩ := v2
    exact ⟨fp, e1, fun b hb => ⟨r1.fr.fresh (e2 b hb).1, (e2 b hb).2⟩⟩
  ·have kp : ∀ b o, F.H0 b = none → G1 b = none → H1 b = some o → G2 b = none ∧ H2 b = some o := fun b o h1 h2 h3 => ⟨(f2.g0 b _ h3).trans h2, f2.h0 b _ h3 (F.pen_ne h1)⟩
   cases rv with
   | val d => trivial
   | own ds =>
    obtain ⟨p, vs, rfl, e1, e2, e3, e4⟩ := v2
    exact Apart.new r1 e1 s2 kp
   | box B =>
    obtain ⟨fp, e1, e2⟩ := v2
    exact Apart.newB r1 (fun f hf b hb => by rw [B.uniq hf e1] at hb; exact (e2 b hb).1) s2 kp
end
end L2.VS
namespace L2.VS
open PySem PySem.Spec PyProof.Rows
variable {P0 : Addr → Hp → Prop} {A : Nat → Bool}
noncomputable def gN (i : Nat) : MG := fun d Γ Q => Q (Γ.set i (.val d))
noncomputable def z9 : MGs := fun ds Γ Q => match ds with
 | [] => Q Γ
 | _ => False
noncomputable def fV (g : MG) (gs : MGs) : MGs := fun ds Γ Q => match ds with
 | d :: r => g d Γ fun Γ1 => gs r Γ1 Q
 | [] => False
noncomputable def gT (n : Nat) (gs : MGs) : MG := fun d Γ Q => match d with
 | .tuple ds => ds.length = n ∧ gs ds Γ Q
 | _ => False
theorem uK {i : Nat} {v : Option V} {σ : St} (hA : A i = true) : ∀ j, A j = false → (σ.set i v)[j]? = σ[j]? := fun j hj => List.getElem?_set_ne (fun z => by rw [z, hj] at hA; cases hA)
theorem bU {i : Nat} (hA : A i = true := by rfl) : VG P0 A (gName i) (gN i) := fun _ _ _ _ _ _ _ _ _ r h m k => k _ _ m (r.setV h) (uK hA)
theorem nH : VGs P0 A gNil z9 := by
 intro F Γ σ G H vs ds Q Qm r h m k
 cases h with
 | nil => exact ⟨rfl, k _ _ m r fun _ _ => rfl⟩
 | cons _ _ => exact m.elim
theorem cQ {g : TG} {gs : TGs} {m : MG} {ms : MGs} (h1 : VG P0 A g m) (h2 : VGs P0 A gs ms) : VGs P0 A (gCons g gs) (fV m ms) := by
 intro F Γ σ G H vs ds Q Qm r h hm k
 cases h with
 | nil => exact hm.elim
 | cons a b => exact ⟨_, _, rfl, h1 F Γ σ G H _ _ _ _ r a hm fun Γ1 σ1 m1 r1 e1 => h2 F Γ1 σ1 G H _ _ _ _ r1 b m1 fun Γ2 σ2 m2 r2 e2 => k _ _ m2 r2 fun i hi => (e2 i hi).trans (e1 i hi)⟩
theorem tG {K : PySem.W.Frag} {n : Nat} {gs : TGs} {ms : MGs} (h : VGs P0 A gs ms) : VG P0 A (gTup K n gs) (gT n ms) := by
 intro F Γ σ G H v d Q Qm r hd m k
 unfold gT at m
 split at m
 ·cases hd with
  | @tup p xs _ hp rs => exact ⟨p, xs, rfl, SqT.of (r.fr.sub _ _ hp), by rw [rs.len]; exact m.1, h F Γ σ G H _ _ _ _ r rs m.2 k⟩
 ·exact m.elim
noncomputable def Walk (P0 : Addr → Hp → Prop) (J : It) (G0 : Hp) (ds : List D) : Prop := ∀ (F : Fra P0) (Γ : En) (σ : St) (G H : Hp), Same G0 G → R F Γ σ G H →
 (∀ i d, ds[i]? = some d → J.go i H ∧ ∀ x H', J.yld i H x H' → ∃ G', Same G G' ∧ R F Γ σ G' H' ∧ Dt G' x d) ∧ J.stop ds.length H
noncomputable def VI (P0 : Addr → Hp → Prop) (wi : TI) (m : MD) : Prop := ∀ (F : Fra P0) (Γ : En) (σ : St) (G H : Hp) (Q : It → Hp → Prop) (Qm : List D → En → Prop), R F Γ σ G H → m Γ Qm →
 (∀ ds Γ' J G' H', Qm ds Γ' → Same G G' → R F Γ' σ G' H' → Walk P0 J G' ds → Q J H') → wi σ H Q
noncomputable def zB (ma : ME) : MD := fun Γ Q => ma Γ fun x Γ1 => match x with
 | .list ds => Q ds Γ1
 | _ => False
noncomputable def mItT (ma : ME) : MD := fun Γ Q => ma Γ fun x Γ1 => match x with
 | .tuple ds => Q ds Γ1
 | _ => False
noncomputable def iG (lo : Int) (n : Nat) : List D := (List.range n).map fun (k : Nat) => PyData.int (lo + k)
noncomputable def yH (md : MD) : MD := fun Γ Q => md Γ fun ds Γ1 => match ds with
 | [.int j] => -(2 ^ 62) ≤ j ∧ j < 2 ^ 62 ∧ Q (iG 0 j.toNat) Γ1
 | _ => False
noncomputable def mRng2 (md : MD) : MD := fun Γ Q => md Γ fun ds Γ1 => match ds with
 | [.int i, .int j] => (-(2 ^ 62) ≤ i ∧ i < 2 ^ 62 ∧ -(2 ^ 62) ≤ j ∧ j < 2 ^ 62) ∧ Q (iG i (j - i).toNat) Γ1
 | _ => False
theorem dM {K : PySem.W.Frag} {ta : TE} {ma : ME} (ha : VT P0 ta ma) : VI P0 (iList K ta) (zB ma) := by
 intro F Γ σ G H Q Qm r m k
 refine ha F Γ σ G H _ _ r m fun d Γ1 x G1 H1 m1 s1 r1 d1 => ?_
 split at m1
 ·cases d1 with
  | @lst p xs ds hp rs =>
   refine ⟨p, rfl, ⟨xs, SqL.of (r1.fr.sub _ _ hp)⟩, k _ _ _ _ _ m1 s1 r1 fun F2 Γ2 σ2 G2 H2 s2 r2 => ⟨fun i d e => ?_, ?_⟩⟩
   ·have hq : H2 p = some (.lst xs) := r2.fr.sub _ _ (s2 _ _ hp)
    obtain ⟨v, ev, dv⟩ := Dts.get rs e
    refine ⟨⟨xs, v, SqL.of hq, ev⟩, fun y H3 hy => ⟨G2, Same.refl _, ?_⟩⟩
    obtain ⟨rfl, hy⟩ := hy
    have := hy xs (SqL.of hq)
    rw [ev] at this
    cases this
    exact ⟨r2, Dt.same s2 _ _ dv⟩
   ·exact ⟨xs, SqL.of (r2.fr.sub _ _ (s2 _ _ hp)), by rw [rs.len]; exact Nat.le_refl _⟩
 ·exact m1.elim
theorem vi_tup {K : PySem.W.Frag} {ta : TE} {ma : ME} (ha : VT P0 ta ma) : VI P0 (iTup K ta) (mItT ma) := by
 intro F Γ σ G H Q Qm r m k
 refine ha F Γ σ G H _ _ r m fun d Γ1 x G1 H1 m1 s1 r1 d1 => ?_
 split at m1
 ·cases d1 with
  | @tup p xs ds hp rs =>
   refine ⟨p, rfl, ⟨xs, SqT.of (r1.fr.sub _ _ hp)⟩, k _ _ _ _ _ m1 s1 r1 fun F2 Γ2 σ2 G2 H2 s2 r2 => ⟨fun i d e => ?_, ?_⟩⟩
   ·have hq : H2 p = some (.tup xs) := r2.fr.sub _ _ (s2 _ _ hp)
    obtain ⟨v, ev, dv⟩ := Dts.get rs e
    refine ⟨⟨xs, v, SqT.of hq, ev⟩, fun y H3 hy => ⟨G2, Same.refl _, ?_⟩⟩
    obtain ⟨rfl, hy⟩ := hy
    have := hy xs (SqT.of hq)
    rw [ev] at this
    cases this
    exact ⟨r2, Dt.same s2 _ _ dv⟩
   ·exact ⟨xs, SqT.of (r2.fr.sub _ _ (s2 _ _ hp)), by rw [rs.len]; exact Nat.le_refl _⟩
 ·exact m1.elim
theorem walk_range {G : Hp} (lo : Int) (n : Nat) : Walk P0 (Itr lo n) G (iG lo n) := by
 intro F Γ σ G2 H2 _ r
 have hl : (iG lo n).length = n := by simp [iG]
 refine ⟨fun i d e => ?_, by rw [hl]; exact Nat.le_refl _⟩
 have hi : i < n := by have := (List.getElem?_eq_some_iff.mp e).1; omega
 refine ⟨hi, fun x H' hy => ?_⟩
 obtain ⟨rfl, rfl⟩ := hy
 refine ⟨G2, Same.refl _, r, ?_⟩
 unfold iG at e
 rw [List.getElem?_map, List.getElem?_range hi] at e
 cases e
 exact .int _
theorem mV {t : TA} {md : MD} (h : VD P0 t md) : VI P0 (iRng1 t) (yH md) := by
 intro F Γ σ G H Q Qm r m k
 refine h F Γ σ G H _ _ r m fun ds Γ1 xs G1 H1 m1 s1 r1 d1 => ?_
 split at m1
 ·rename_i j
  cases d1 with
  | cons a b =>
   cases a; cases b
   exact ⟨j, rfl, m1.1, m1.2.1, k _ _ _ _ _ m1.2.2 s1 r1 (walk_range _ _)⟩
 ·exact m1.elim
noncomputable def mNx : MS := fun Γ Q => Q (.nx Γ)
noncomputable def cH (a b : MS) : MS := fun Γ Q => a Γ fun fl => match fl with
 | .nx Γ1 => b Γ1 Q
 | fl => Q fl
noncomputable def mDrop (m : ME) : MS := fun Γ Q => m Γ fun _ Γ1 => Q (.nx Γ1)
noncomputable def dX (i : Nat) (m : MO) : MS := fun Γ Q => m Γ fun rv Γ1 => Q (.nx (Γ1.set i rv.sl))
noncomputable def mAsg (m : ME) (g : MG) : MS := fun Γ Q => m Γ fun d Γ1 => g d Γ1 fun Γ2 => Q (.nx Γ2)
noncomputable def mPar (i j : Nat) (m : MD) : MS := fun Γ Q => m Γ fun ds Γ1 => match ds with
 | [d, e] => Q (.nx ((Γ1.set i (.val d)).set j (.val e)))
 | _ => False
noncomputable def eX (m : MO) : MS := fun Γ Q => m Γ fun rv _ => Q (.rt rv)
noncomputable def mRetN : MS := fun _ Q => Q (.rt (.val .none))
noncomputable def mIf (c : MT) (a b : MS) : MS := fun Γ Q => c Γ fun k Γ1 => if k = true then a Γ1 Q else b Γ1 Q
noncomputable def mNever : MS := fun _ _ => False
noncomputable def forL (g : MG) (b : MS) : List D → En → (Fl → Prop) → Prop
 | [], Γ, Q => Q (.nx Γ)
 | d :: ds, Γ, Q => g d Γ fun Γ1 => b Γ1 fun fl => match fl with
  | .nx Γ2 => forL g b ds Γ2 Q
  | .ct Γ2 => forL g b ds Γ2 Q
  | .bk Γ2 => Q (.nx Γ2)
  | .rt rv => Q (.rt rv)
noncomputable def mFor (mi : MD) (g : MG) (b : MS) : MS := fun Γ Q => mi Γ fun ds Γ1 => forL g b ds Γ1 Q
noncomputable def mWhile (c : MT) (b : MS) : MS := fun Γ Q => ∃ W : Nat → En → Prop, (∃ n, W n Γ) ∧ ∀ n Γ, W n Γ → c Γ fun k Γ1 => if k = true then b Γ1 fun fl => match fl with
  | .nx Γ2 => ∃ n', n' < n ∧ W n' Γ2
  | .ct Γ2 => ∃ n', n' < n ∧ W n' Γ2
  | .bk Γ2 => Q (.nx Γ2)
  | .rt rv => Q (.rt rv)
 else Q (.nx Γ1)
noncomputable def rP (i : Nat) (m : ME) : MS := fun Γ Q => match Γ[i]? with
 | some (.own _) => m Γ fun d Γ1 => match Γ1[i]? with
  | some (.own ds) => ds.length < 1000 ∧ Q (.nx (Γ1.set i (.own (ds ++ [d]))))
  | _ => False
 | _ => False
noncomputable def mClear (i : Nat) : MS := fun Γ Q => match Γ[i]? with
 | some (.own _) => Q (.nx (Γ.set i (.own [])))
 | _ => False
noncomputable def mPubS (i : Nat) (m : MS) : MS := fun Γ Q => match Γ[i]? with
 | some (.own ds) => m (Γ.set i (.val (.list ds))) Q
 | _ => m Γ Q
theorem dY : VSA P0 A tNext mNx := fun _ _ _ _ _ _ _ r m k => k _ m _ _ _ (Same.refl _) r fun _ _ => rfl
theorem vs_never : VSA P0 A tNever mNever := fun _ _ _ _ _ _ _ _ m _ => m.elim
theorem aU {t u : TS} {a b : MS} (ha : VSA P0 A t a) (hb : VSA P0 A u b) : VSA P0 A (tSeq t u) (cH a b) := by
 intro F Γ σ G H E Qm r m k
 refine ha F Γ σ G H _ _ r m fun fl q => ?_
 cases fl with
 | nx Γ1 => exact fun σ1 G1 H1 s1 r1 e1 => hb F Γ1 σ1 G1 H1 E Qm r1 q fun fl q => (k fl q).same s1 e1
 | rt rv => exact k _ q
 | bk Γ1 => exact k _ q
 | ct Γ1 => exact k _ q
theorem bF {i : Nat} {t : TE} {m : MO} (h : VO P0 t m) (hA : A i = true := by rfl) : VSA P0 A (tAsg t (gName i)) (dX i m) := by
 intro F Γ σ G H E Qm r hm k
 exact h F Γ σ G H _ _ r hm fun rv Γ1 x G1 H1 m1 s1 r1 d1 a1 => k _ m1 _ _ _ s1 (r1.set d1 a1) (uK hA)
theorem vs_asg {t : TE} {g : TG} {m : ME} {mg : MG} (h : VT P0 t m) (hg : VG P0 A g mg) : VSA P0 A (tAsg t g) (mAsg m mg) := by
 intro F Γ σ G H E Qm r hm k
 exact h F Γ σ G H _ _ r hm fun d Γ1 x G1 H1 m1 s1 r1 d1 => hg F Γ1 σ G1 H1 x d _ _ r1 d1 m1 fun Γ2 σ2 m2 r2 e2 => k _ m2 _ _ _ s1 r2 e2
theorem vs_par {i j : Nat} {t : TA} {m : MD} (h : VD P0 t m) (hA : A i = true := by rfl) (hB : A j = true := by rfl) : VSA P0 A (tPar i j t) (mPar i j m) := by
 intro F Γ σ G H E Qm r hm k
 refine h F Γ σ G H _ _ r hm fun ds Γ1 x G1 H1 m1 s1 r1 d1 => ?_
 split at m1
 ·cases d1 with
  | cons a b =>
   cases b with
   | cons b c =>
    cases c
    exact ⟨_, _, rfl, k _ m1 _ _ _ s1 ((r1.setV a).setV b) fun q hq => (uK hB q hq).trans (uK hA q hq)⟩
 ·exact m1.elim
theorem bH {t : TE} {m : MO} (h : VO P0 t m) : VSA P0 A (tRet t) (eX m) := by
 intro F Γ σ G H E Qm r hm k
 exact h F Γ σ G H _ _ r hm fun rv Γ1 x G1 H1 m1 s1 r1 d1 _ => k _ m1 _ _ _ s1 r1.fr d1
theorem dZ {c : TT} {t u : TS} {mc : MT} {a b : MS} (hc : VTT P0 c mc) (ha : VSA P0 A t a) (hb : VSA P0 A u b) : VSA P0 A (tIfS c t u) (mIf mc a b) := by
 intro F Γ σ G H E Qm r m k
 refine hc F Γ σ G H _ _ r m fun k1 Γ1 G1 H1 m1 s1 r1 => ?_
 cases k1 with
 | true => exact wH (ha F Γ1 σ G1 H1 E Qm r1 m1 fun fl q => (k fl q).same s1 fun _ _ => rfl)
 | false => exact vD (hb F Γ1 σ G1 H1 E Qm r1 m1 fun fl q => (k fl q).same s1 fun _ _ => rfl)
theorem wB {c : TT} {t : TS} {mc : MT} {b : MS} (hc : VTT P0 c mc) (hb : VSA P0 A t b) : VSA P0 A (tWhile c t) (mWhile mc b) := by
 intro F Γ σ G H E Qm r m k
 obtain ⟨W, ⟨n0, w0⟩, turn⟩ := m
 refine ⟨fun n σ1 H1 => ∃ Γ1 G1, Same G G1 ∧ R F Γ1 σ1 G1 H1 ∧ W n Γ1 ∧ ∀ i, A i = false → σ1[i]? = σ[i]?, ⟨n0, Γ, G, Same.refl _, r, w0, fun _ _ => rfl⟩, ?_⟩
 rintro n σ1 H1 ⟨Γ1, G1, s1, r1, w1, e1⟩
 refine hc F Γ1 σ1 G1 H1 _ _ r1 (turn n Γ1 w1) fun k2 Γ2 G2 H2 m2 s2 r2 => ?_
 cases k2 with
 | true =>
  refine wH ⟨_, fun _ _ h => h, ?_⟩
  refine hb F Γ2 σ1 G2 H2 _ _ r2 m2 fun fl q => ?_
  cases fl with
  | nx Γ3 =>
   obtain ⟨n', hn, w3⟩ := q
   exact fun σ3 G3 H3 s3 r3 e3 => ⟨n', hn, Γ3, G3, (s1.trans s2).trans s3, r3, w3, fun i hi => (e3 i hi).trans (e1 i hi)⟩
  | ct Γ3 =>
   obtain ⟨n', hn, w3⟩ := q
   exact fun σ3 G3 H3 s3 r3 e3 => ⟨n', hn, Γ3, G3, (s1.trans s2).trans s3, r3, w3, fun i hi => (e3 i hi).trans (e1 i hi)⟩
  | bk Γ3 => exact fun σ3 G3 H3 s3 r3 e3 => k _ q _ _ _ ((s1.trans s2).trans s3) r3 fun i hi => (e3 i hi).trans (e1 i hi)
  | rt rv => exact fun v G3 H3 s3 r3 => k _ q _ _ _ ((s1.trans s2).trans s3) r3
 | false => exact vD (k _ m2 _ _ _ (s1.trans s2) r2 e1)
theorem j4 {wi : TI} {g : TG} {t : TS} {mi : MD} {mg : MG} {b : MS} (hi : VI P0 wi mi) (hg : VG P0 A g mg) (hb : VSA P0 A t b) : VSA P0 A (tFor wi g t) (mFor mi mg b) := by
 intro F Γ σ G H E Qm r m k
 refine hi F Γ σ G H _ _ r m fun ds Γ1 J G1 H1 m1 s1 r1 wk => ?_
 refine ⟨fun i n σ2 H2 => n = ds.length - i ∧ i ≤ ds.length ∧ ∃ Γ2 G2, Same G1 G2 ∧ R F Γ2 σ2 G2 H2 ∧ forL mg b (ds.drop i) Γ2 Qm ∧ ∀ i, A i = false → σ2[i]? = σ[i]?, ⟨ds.length, by simp, Nat.zero_le _, Γ1, G1, Same.refl _, r1, m1, fun _ _ => rfl⟩, ?_⟩
 rintro i n σ2 H2 ⟨rfl, hle, Γ2, G2, s2, r2, m2, e2⟩
 obtain ⟨go, stop⟩ := wk F Γ2 σ2 G2 H2 s2 r2
 by_cases hlt : i < ds.length
 ·refine .inr ⟨(go i ds[i] (by simp [hlt])).1, fun σ' H' => ds.length - (i + 1) < ds.length - i ∧ i + 1 ≤ ds.length ∧ ∃ Γ3 G3, Same G1 G3 ∧ R F Γ3 σ' G3 H' ∧ forL mg b (ds.drop (i + 1)) Γ3 Qm ∧ ∀ i, A i = false → σ'[i]? = σ[i]?, fun σ' H' h => ⟨_, h.1, rfl, h.2⟩, fun x H' hy => ?_⟩
  obtain ⟨G3, s3, r3, d3⟩ := (go i ds[i] (by simp [hlt])).2 x H' hy
  rw [List.drop_eq_getElem_cons hlt] at m2
  refine hg F Γ2 σ2 G3 H' x _ _ _ r3 d3 m2 fun Γ4 σ4 m4 r4 e4 => ?_
  refine hb F Γ4 σ4 G3 H' _ _ r4 m4 fun fl q => ?_
  cases fl with
  | nx Γ5 => exact fun σ5 G5 H5 s5 r5 e5 => ⟨by omega, hlt, Γ5, G5, (s2.trans s3).trans s5, r5, q, fun i hi => ((e5 i hi).trans (e4 i hi)).trans (e2 i hi)⟩
  | ct Γ5 => exact fun σ5 G5 H5 s5 r5 e5 => ⟨by omega, hlt, Γ5, G5, (s2.trans s3).trans s5, r5, q, fun i hi => ((e5 i hi).trans (e4 i hi)).trans (e2 i hi)⟩
  | bk Γ5 => exact fun σ5 G5 H5 s5 r5 e5 => k _ q _ _ _ ((s1.trans s2).trans (s3.trans s5)) r5 fun i hi => ((e5 i hi).trans (e4 i hi)).trans (e2 i hi)
  | rt rv => exact fun v G5 H5 s5 r5 => k _ q _ _ _ ((s1.trans s2).trans (s3.trans s5)) r5
 ·have e : i = ds.length := by omega
  subst e
  rw [List.drop_length] at m2
  exact .inl ⟨stop, k _ m2 _ _ _ (s1.trans s2) r2 e2⟩
theorem wO {K : PySem.W.Frag} {i : Nat} {t : TE} {m : ME} (h : VT P0 t m) : VSA P0 A (tDrop (tBM K "list" rAppend (tVar i) (fY t vP))) (rP i m) := by
 intro F Γ σ G H E Qm r hm k
 unfold rP at hm
 split at hm
 ·rename_i ds0 e0
  obtain ⟨p, vs, e1, e2, e3, e4, e5⟩ := r.sl i _ e0
  refine ⟨_, e1, .inl ⟨rfl, _, SqL.of e4⟩, ?_⟩
  refine h F Γ σ G H _ _ r hm fun d Γ1 x G1 H1 m1 s1 r1 d1 => ?_
  split at m1
  ·rename_i ds e
   obtain ⟨p', ws, f1, f2, f3, f4, f5⟩ := r1.sl i _ e
   rw [e1] at f1; cases f1
   refine ⟨p, ws, x, rfl, rfl, f4, oY (by rw [f5.len]; exact Nat.le_of_lt m1.1), ?_⟩
   exact k _ m1.2 _ _ _ s1 (r1.write e e1 (f5.app (.cons d1 .nil))) fun _ _ => rfl
  ·exact m1.elim
 ·exact hm.elim
theorem R.pub1 {F : Fra P0} {Γ : En} {σ : St} {G H : Hp} (r : R F Γ σ G H) {i : Nat} {ds : List D} (e : Γ[i]? = some (.own ds)) : ∃ G', Same G G' ∧ R F (Γ.set i (.val (.list ds))) σ G' H := by
 obtain ⟨p, vs, e1, e2, e3, e4, e5⟩ := r.sl i _ e
 have hap : Apart F (Γ.set i .no) σ G H (.ref p) (.own ds) := fun j s fp ej hj q eq hq => by
  cases eq
  by_cases hji : i = j
  ·subst hji
   have hi : i < Γ.length := (List.getElem?_eq_some_iff.mp e).1
   rw [List.getElem?_set_self hi] at ej
   cases ej
   rw [show fp = [] from hj] at hq; cases hq
  ·rw [List.getElem?_set_ne hji] at ej
   exact r.apart hji e ej (fp := [p]) ⟨p, vs, rfl, e1, e2, e3, e4, e5⟩ hj p (List.mem_singleton.mpr rfl) hq
 obtain ⟨G', s, r', d'⟩ := (r.drop i).give (ds := ds) ⟨p, vs, rfl, e2, e3, e4, e5⟩ hap
 refine ⟨G', s, ?_⟩
 have q := r'.setV (i := i) d'
 rw [List.set_set] at q
 have hs : σ.set i (some (.ref p)) = σ := by
  apply List.ext_getElem?
  intro j
  by_cases hj : i = j
  ·subst hj
   have hi : i < σ.length := (List.getElem?_eq_some_iff.mp e1).1
   rw [List.getElem?_set_self hi, e1]
  ·rw [List.getElem?_set_ne hj]
 rw [hs] at q
 exact q
theorem vs_pub {i : Nat} {t : TS} {m : MS} (h : VSA P0 A t m) : VSA P0 A t (mPubS i m) := by
 intro F Γ σ G H E Qm r hm k
 unfold mPubS at hm
 split at hm
 ·rename_i ds e
  obtain ⟨G', s, r'⟩ := r.pub1 e
  exact h F _ σ G' H E Qm r' hm fun fl q => (k fl q).same s fun _ _ => rfl
 ·exact h F Γ σ G H E Qm r hm k
noncomputable def mFn (n : Nat) (b : MS) : Fm := fun as Q => b (as ++ List.replicate n .no) fun fl => match fl with
 | .rt rv => Q rv
 | .nx _ => Q (.val .none)
 | _ => False
theorem fn_start {n k : Nat} {N : List Str} {t : TS} {b : MS} (h : VS P0 t b) (hN : N.length = n + k) {vs : List V} {H : Hp} {Q : VK} {E : XK} (hs : spM P0 n (mFn k b) vs H Q E) :
  t { nx := fun _ H' => Q .non H', rt := Q } (start N vs) H := by
 obtain ⟨F, as, Qm, rfl, rf, pr, hl, hm, q⟩ := hs
 have hlen : vs.length = as.length := Paired.length pr
 have get : ∀ {vs : List V} {as : List Sl} {i : Nat} {s : Sl}, Paired (ArgOk F F.G0) vs as → as[i]? = some s → ∃ v, vs[i]? = some v ∧ ArgOk F F.G0 v s := by
  intro vs as i s pr
  induction pr generalizing i with
  | nil => intro e; simp at e
  | cons a b ih =>
   cases i with
   | zero => intro e; simp at e; subst e; exact ⟨_, rfl, a⟩
   | succ i => intro e; simpa using ih (i := i) (by simpa using e)
 have at_ : ∀ {i : Nat} {s : Sl}, (as ++ List.replicate k Sl.no)[i]? = some s → s ≠ .no → ∃ v, (start N vs)[i]? = some (some v) ∧ ArgOk F F.G0 v s := by
  intro i s e hne
  by_cases hi : i < as.length
  ·rw [List.getElem?_append_left hi] at e
   obtain ⟨v, ev, av⟩ := get pr e
   refine ⟨v, ?_, av⟩
   unfold start
   rw [List.getElem?_append_left (by rw [List.length_map]; omega), List.getElem?_map, ev]
   rfl
  ·rw [List.getElem?_append_right (by omega), List.getElem?_replicate] at e
   split at e
   ·cases e; exact absurd rfl hne
   ·cases e
 have r : R F (as ++ List.replicate k .no) (start N vs) F.G0 F.H0 := by
  refine R.of rf ?_ (fun i s e => ?_) (fun i B e => ?_) (fun i j x y _ e _ => ?_)
  ·unfold start
   simp only [List.length_append, List.length_replicate, List.length_map]
   omega
  ·cases s with
   | no => trivial
   | val d =>
    obtain ⟨v, ev, av⟩ := at_ e (by intro z; cases z)
    exact ⟨v, ev, av⟩
   | own ds =>
    obtain ⟨v, ev, av⟩ := at_ e (by intro z; cases z)
    exact av.elim
   | pen =>
    obtain ⟨v, ev, p, rfl, ep⟩ := at_ e (by intro z; cases z)
    exact ⟨p, ev, ep⟩
   | con q =>
    obtain ⟨v, ev, av⟩ := at_ e (by intro z; cases z)
    have av : v = .ref q := av
    rw [av] at ev
    exact ev
   | pub B =>
    obtain ⟨v, ev, av⟩ := at_ e (by intro z; cases z)
    exact av.elim
   | box B =>
    obtain ⟨v, ev, av⟩ := at_ e (by intro z; cases z)
    exact av.elim
  ·obtain ⟨v, ev, av⟩ := at_ e (by intro z; cases z)
   exact av.elim
  ·obtain ⟨v, ev, av⟩ := at_ e (by intro z; cases z)
   exact av.elim
 refine h F _ _ _ _ _ _ r hm fun fl hq => ?_
 cases fl with
 | nx Γ => exact fun σ G' H' _ r' _ => q _ _ _ _ hq r'.fr .non
 | rt rv => exact fun v G' H' _ f' v' => q _ _ _ _ hq f' v'
 | bk Γ => exact hq.elim
 | ct Γ => exact hq.elim
theorem spM_len {n : Nat} {f : Fm} {ps : List Str} (h : ps.length = n) : ∀ vs H Q E, spM P0 n f vs H Q E → vs.length = ps.length := by
 rintro vs H Q E ⟨F, as, Qm, _, _, pr, hl, _⟩
 rw [Paired.length pr, hl, h]
theorem _root_.L2.Fun.okV {P : Program} {w : World} {K : PySem.W.Frag} {mg : Str → Option Value} {base : Heap} {x qual : Str} {st : Stmt} {f : Addr} {fd : FuncData} {N ps : List Str} {k n j : Nat} {b : MS}
  (F : Fun K x qual st f fd) (S : FnScope N ps (aR st)) (hn : ps.length = n) (hN : N.length = n + j)
  (hbody : ∀ (cdv : Value) (A : Around) (outer : List Env) (s : Shared) (H : Hp) (E : XK), Room k (A.deeper (envOfC qual (aR st) s.heap.objs.size f cdv)) →
   SsX P0 (cxOf CX0 P w K mg base N qual (aR st) f cdv A outer s H E).nox (qZ st) b) : FnOk P w K mg base CX0 (k + 1) f fd ps (spM P0 n (mFn j b)) := by
 refine F.ok S (spM_len hn) fun cdv A outer s H vs Q E hr hs => ?_
 obtain ⟨t, h1, h2⟩ := hbody cdv A outer s H E hr
 exact ⟨t, h1, fn_start h2 hN hs⟩
end L2.VS
namespace L2.VS
open PySem PySem.Spec PyProof.Rows
variable {P0 : Addr → Hp → Prop}
noncomputable def oM : D → String
 | .none => "NoneType"
 | .bool _ => "bool"
 | .int _ => "int"
 | .str _ => "str"
 | .list _ => "list"
 | .tuple _ => "tuple"
 | .dict _ => "dict"
noncomputable def subT (a b : String) : Bool := a == b || (a == "bool" && b == "int")
noncomputable def tyL : List String := ["NoneType", "bool", "int", "str", "list", "tuple"]
noncomputable def Kit (K : PySem.W.Frag) : Prop := ∀ a ∈ tyL, ∀ b ∈ tyL, PySem.W.kitOne K (.type a) (.type b) = some (subT a b)
theorem Kit.mk' {K : PySem.W.Frag} (h : ∀ a ∈ tyL, ∀ b ∈ tyL, (a == b) = false → PySem.W.kitOne K (.type a) (.type b) = some (a == "bool" && b == "int")) : Kit K := by
 intro a ha b hb
 by_cases e : a = b
 ·subst e
  rw [kit_same]
  simp [subT]
 ·have e' : (a == b) = false := by simpa using e
  rw [h a ha b hb e']
  simp [subT, e']
theorem tyOf_of {K : PySem.W.Frag} {H : Hp} {x : V} {d : D} (h : Dt H x d) : TyOf K H x (.type (oM d)) ∧ oM d ∈ tyL := by
 cases h with
 | non => exact ⟨.non, by simp [oM, tyL]⟩
 | bl b => exact ⟨.bl b, by simp [oM, tyL]⟩
 | int i => exact ⟨.int i, by simp [oM, tyL]⟩
 | str x => exact ⟨.str x, by simp [oM, tyL]⟩
 | tup hp _ => exact ⟨.tup hp, by simp [oM, tyL]⟩
 | lst hp _ => exact ⟨.lst hp, by simp [oM, tyL]⟩
noncomputable def mIsi (n : String) (ma : ME) : ME := fun Γ Q => ma Γ fun x Γ1 => Q (.bool (subT (oM x) n)) Γ1
theorem vt_isi {K : PySem.W.Frag} {n : String} {ta : TE} {ma : ME} (hk : Kit K) (hn : n ∈ tyL) (ha : VT P0 ta ma) : VT P0 (tCB (rIsi K) (fY ta (fY (tC (.ty n)) vP))) (mIsi n ma) := by
 intro F Γ σ G H Q Qm r m k
 refine ha F Γ σ G H _ _ r m fun d Γ1 x G1 H1 m1 s1 r1 d1 => ?_
 obtain ⟨h1, h2⟩ := tyOf_of (K := K) (Dt.same r1.fr.sub _ _ d1)
 exact ⟨x, .ty n, .type n, _, _, rfl, rfl, h1, hk _ h2 _ hn, k _ _ _ _ _ m1 s1 r1 (.bl _)⟩
section
variable {X : Cx}
structure Goods (ds : List D) : Prop where
 lay : PyData.canLayAll0 ds = true
 dep : PyData.depthAll ds ≤ 59
noncomputable def rInD (neg : Bool) : R2 := fun x y H Q => ∃ dx ds, Dt H x dx ∧ (Dt H y (.list ds) ∨ Dt H y (.tuple ds)) ∧ Good dx ∧ Goods ds ∧ Q (.bl (if neg then !(ds.any fun e => PyData.eqv e dx) else ds.any fun e => PyData.eqv e dx)) H
theorem roomI {u a b : Nat} (h : u + 64 < cLine) (ha : a ≤ 59) : u + 1 + min a b < cLine := by
 have : min a b ≤ a := Nat.min_le_left _ _
 omega
theorem op_inD (hu : X.A.units + 64 < cLine) : OpR X (compareOp .In) (rInD false) := by
 intro pins s σ H x y v u Q I rx ry h
 obtain ⟨dx, ds, ex, ey, gx, gs, q⟩ := h
 obtain ⟨as, r1⟩ := Dt.reads I.hok dx x v ex rx
 rcases ey with ey | ey
 ·obtain ⟨bs, r2⟩ := Dt.reads I.hok _ y u ey ry
  exact SeqAt.in_list_reads r2 r1 gs.lay gx.lay (roomI hu gs.dep) ⟨.bl _, H, I, rfl, q⟩
 ·obtain ⟨bs, r2⟩ := Dt.reads I.hok _ y u ey ry
  exact SeqAt.in_tuple_reads r2 r1 gs.lay gx.lay (roomI hu gs.dep) ⟨.bl _, H, I, rfl, q⟩
theorem op_notInD (hu : X.A.units + 64 < cLine) : OpR X (compareOp .NotIn) (rInD true) := by
 intro pins s σ H x y v u Q I rx ry h
 obtain ⟨dx, ds, ex, ey, gx, gs, q⟩ := h
 obtain ⟨as, r1⟩ := Dt.reads I.hok dx x v ex rx
 rcases ey with ey | ey
 ·obtain ⟨bs, r2⟩ := Dt.reads I.hok _ y u ey ry
  exact SeqAt.notIn_list_reads r2 r1 gs.lay gx.lay (roomI hu gs.dep) ⟨.bl _, H, I, rfl, q⟩
 ·obtain ⟨bs, r2⟩ := Dt.reads I.hok _ y u ey ry
  exact SeqAt.notIn_tuple_reads r2 r1 gs.lay gx.lay (roomI hu gs.dep) ⟨.bl _, H, I, rfl, q⟩
noncomputable def mIn (neg : Bool) (ma mb : ME) : ME := fun Γ Q => ma Γ fun x Γ1 => mb Γ1 fun y Γ2 => match xR y with
 | some ds => Good x ∧ Goods ds ∧ Q (.bool (if neg then !(ds.any fun e => PyData.eqv e x) else ds.any fun e => PyData.eqv e x)) Γ2
 | none => False
theorem vt_in {neg : Bool} {ta tb : TE} {ma mb : ME} (ha : VT P0 ta ma) (hb : VT P0 tb mb) : VT P0 (tOp (rInD neg) ta tb) (mIn neg ma mb) := by
 refine vt_2 (m2 := fun x y Q => match xR y with | some ds => Good x ∧ Goods ds ∧ Q (.bool (if neg then !(ds.any fun e => PyData.eqv e x) else ds.any fun e => PyData.eqv e x)) | none => False) ha hb fun F Γ σ G H x y d e Q Qm r d1 d2 m k => ?_
 split at m
 ·rename_i ds hds
  refine ⟨d, ds, Dt.same r.fr.sub _ _ d1, ?_, m.1, m.2.1, k _ _ _ _ m.2.2 (Same.refl _) r (.bl _)⟩
  have d2 := Dt.same r.fr.sub _ _ d2
  cases d2 <;> simp only [xR] at hds <;> try (cases hds)
  ·exact .inr (.tup (by assumption) (by assumption))
  ·exact .inl (.lst (by assumption) (by assumption))
 ·exact m.elim
end
noncomputable def SameU (H H' : Hp) : Prop := ∀ b xs, H b = some (.tup xs) → H' b = some (.tup xs) ∨ ∃ q vs, V.ref q ∈ xs ∧ H q = some (.lst vs)
theorem no_ref {H : Hp} {q : Addr} {vs : List V} (hq : H q = some (.lst vs)) : ∀ (ds : List D) (xs : List V), oH ds = true → Dts H xs ds → V.ref q ∉ xs
 | [], xs, _, e, h => by cases e; cases h
 | d :: ds, xs, z, e, h => by
  have z' : zK d = true ∧ oH ds = true := by simpa [oH] using z
  cases e with
  | cons e1 e2 =>
   rcases List.mem_cons.mp h with e | e
   ·subst e
    cases e1 with
    | tup hp _ => rw [hq] at hp; cases hp
    | lst hp _ => exact absurd z'.1 (by simp [zK])
   ·exact no_ref hq ds _ z'.2 e2 e
mutual
theorem Dt.sameU {H H' : Hp} (g : SameU H H') : ∀ (d : PyData) (x : V), zK d = true → Dt H x d → Dt H' x d
 | .none, _, _, e => by cases e; exact .non
 | .bool _, _, _, e => by cases e; exact .bl _
 | .int _, _, _, e => by cases e; exact .int _
 | .str _, _, _, e => by cases e; exact .str _
 | .list _, _, z, _ => absurd z (by simp [zK])
 | .tuple ds, _, z, e => by
  have z' : oH ds = true := by simpa [zK] using z
  cases e with
  | tup hp rs =>
   rcases g _ _ hp with h | ⟨q, vs, h1, h2⟩
   ·exact .tup h (Dts.sameU g ds _ z' rs)
   ·exact absurd h1 (no_ref h2 ds _ z' rs)
 | .dict _, _, _, e => by cases e
theorem Dts.sameU {H H' : Hp} (g : SameU H H') : ∀ (ds : List PyData) (xs : List V), oH ds = true → Dts H xs ds → Dts H' xs ds
 | [], _, _, e => by cases e; exact .nil
 | d :: ds, _, z, e => by
  have z' : zK d = true ∧ oH ds = true := by simpa [oH] using z
  cases e with
  | cons e1 e2 => exact .cons (Dt.sameU g d _ z'.1 e1) (Dts.sameU g ds _ z'.2 e2)
end
noncomputable def zE : En → En := List.map fun s => match s with
 | .own ds => .val (.list ds)
 | .box B => match B.view with
  | some d => .val d
  | none => .no
 | s => s
noncomputable def mPeek (m : ME) : ME := fun Γ Q => m (zE Γ) fun d Γ1 => zK d = true ∧ Γ1 = zE Γ ∧ Q d Γ
noncomputable def xZ (m : MT) : MT := fun Γ Q => m (zE Γ) fun b Γ1 => Γ1 = zE Γ ∧ Q b Γ
noncomputable def mPeekO (m : MO) : MO := fun Γ Q => m (zE Γ) fun rv Γ1 => oH (match rv with | .val d => [d] | .own ds => ds | .box _ => [.list []]) = true ∧ Γ1 = zE Γ ∧ Q rv Γ
noncomputable def OwnA (F : Fra P0) (Γ : En) (σ : St) (G H : Hp) (b : Addr) : Prop := ∃ (i : Nat) (s : Sl) (fp : List Addr), Γ[i]? = some s ∧ SlF F G H σ[i]? fp s ∧ b ∈ fp
section
variable {F : Fra P0} {Γ : En} {σ : St} {G H : Hp}
open Classical in
noncomputable def gPub (F : Fra P0) (Γ : En) (σ : St) (G H : Hp) : Hp := fun b => if OwnA F Γ σ G H b then H b else G b
noncomputable def uH (F : Fra P0) (Γ : En) (σ : St) (G H : Hp) (G1 : Hp) : Hp := fun b => open Classical in if OwnA F Γ σ G H b then none else G1 b
theorem OwnA.at {b : Addr} (h : OwnA F Γ σ G H b) : F.H0 b = none ∧ G b = none ∧ ∃ o, H b = some o := by
 obtain ⟨i, s, fp, _, e, hb⟩ := h
 exact e.mine hb
theorem OwnA.tup {b : Addr} (h : OwnA F Γ σ G H b) {xs : List V} (e : H b = some (.tup xs)) : ∃ q vs, V.ref q ∈ xs ∧ OwnA F Γ σ G H q ∧ H q = some (.lst vs) := by
 obtain ⟨i, s, fp, e0, e1, hb⟩ := h
 cases s with
 | no => rw [show fp = [] from e1] at hb; cases hb
 | val d => rw [e1.1] at hb; cases hb
 | pen => rw [e1.1] at hb; cases hb
 | con q => rw [e1.1] at hb; cases hb
 | pub B => rw [e1.1] at hb; cases hb
 | own ds =>
  obtain ⟨p, vs, f0, _, _, _, f3, _⟩ := e1
  rw [f0] at hb
  rw [List.mem_singleton.mp hb, f3] at e
  cases e
 | box B =>
  have e1' := e1
  obtain ⟨v, _, h2, _⟩ := e1
  obtain ⟨q, q1, q2, vs, q3⟩ := B.nt h2 b hb xs e
  exact ⟨q, vs, q2, ⟨i, _, fp, e0, e1', q1⟩, q3⟩
theorem R.pubAll (r : R F Γ σ G H) : Same G (gPub F Γ σ G H) ∧ R F (zE Γ) σ (gPub F Γ σ G H) H := by
 have g : Same G (gPub F Γ σ G H) := fun b o e => by
  unfold gPub
  by_cases h : OwnA F Γ σ G H b
  ·have := h.at.2.1
   rw [e] at this; cases this
  ·rw [if_neg h]; exact e
 have nob : ∀ (i : Nat) s, (zE Γ)[i]? = some s → (∀ x, s ≠ .own x) ∧ ∀ B, s ≠ .box B := by
  intro i s e
  unfold zE at e
  rw [List.getElem?_map] at e
  cases e0 : Γ[i]? with
  | none => rw [e0] at e; cases e
  | some s0 =>
   rw [e0] at e
   cases s0 with
   | box B =>
    have e : (match B.view with | some d => Sl.val d | none => Sl.no) = s := Option.some.inj e
    cases hv : B.view with
    | none => rw [hv] at e; subst e; exact ⟨fun x z => (nomatch z), fun x z => (nomatch z)⟩
    | some d => rw [hv] at e; subst e; exact ⟨fun x z => (nomatch z), fun x z => (nomatch z)⟩
   | _ => cases e; exact ⟨fun x z => (nomatch z), fun x z => (nomatch z)⟩
 refine ⟨g, R.of ⟨fun b o e => ?_, fun b o e => ?_, r.fr.h0, r.fr.pn⟩ ?_ (fun i s e => ?_) (fun i B e => (nob i _ e).2 B rfl) (fun i j x y _ e => ((nob i _ e).1 x rfl).elim)⟩
 ·unfold gPub at e
  split at e
  ·exact e
  ·exact r.fr.sub b o e
 ·have h : ¬ OwnA F Γ σ G H b := fun h => by
   have := h.at.1
   rw [e] at this; cases this
  unfold gPub
  rw [if_neg h]
  exact r.fr.g0 b o e
 ·unfold zE
  rw [List.length_map]
  exact r.len
 ·unfold zE at e
  rw [List.getElem?_map] at e
  cases e0 : Γ[i]? with
  | none => rw [e0] at e; cases e
  | some s0 =>
   rw [e0] at e
   have h := r.sl i s0 e0
   cases s0 with
   | no => cases e; trivial
   | val d => cases e; obtain ⟨v, e1, d1⟩ := h; exact ⟨v, e1, Dt.same g _ _ d1⟩
   | own ds =>
    cases e
    obtain ⟨p, vs, e1, e2, e3, e4, e5⟩ := h
    refine ⟨_, e1, .lst ?_ (Dts.same g _ _ e5)⟩
    unfold gPub
    rw [if_pos ⟨i, _, [p], e0, ⟨p, vs, rfl, e1, e2, e3, e4, e5⟩, List.mem_singleton.mpr rfl⟩]
    exact e4
   | pen => cases e; exact h
   | con q => cases e; exact h
   | pub B => cases e; obtain ⟨v, e1, e2⟩ := h; exact ⟨v, e1, B.mono g e2⟩
   | box B =>
    have e : (match B.view with | some d => Sl.val d | none => Sl.no) = s := Option.some.inj e
    obtain ⟨v, fp, e1, e2, e3⟩ := h
    cases hv : B.view with
    | none => rw [hv] at e; subst e; trivial
    | some d =>
     rw [hv] at e
     subst e
     refine ⟨v, e1, B.vok e2 hv g fun b hb => ?_⟩
     unfold gPub
     rw [if_pos ⟨i, _, fp, e0, ⟨v, e1, e2, e3⟩, hb⟩]
theorem R.backG (r : R F Γ σ G H) {G1 H1 : Hp} (s : Same (gPub F Γ σ G H) G1) (f1 : Rf F G1 H1) :
  (∀ b, OwnA F Γ σ G H b → G1 b = H b ∧ H1 b = H b) ∧ Same G (uH F Γ σ G H G1) ∧ Rf F (uH F Γ σ G H G1) H1 ∧ SameU G1 (uH F Γ σ G H G1) := by
 have s0 := (r.pubAll).1
 have own : ∀ b, OwnA F Γ σ G H b → G1 b = H b ∧ H1 b = H b := fun b h => by
  obtain ⟨_, _, o, e⟩ := h.at
  have q : gPub F Γ σ G H b = H b := by unfold gPub; rw [if_pos h]
  rw [e] at q ⊢
  exact ⟨s b _ q, f1.sub b _ (s b _ q)⟩
 have g : Same G (uH F Γ σ G H G1) := fun b o e => by
  have h : ¬ OwnA F Γ σ G H b := fun h => by
   have := h.at.2.1
   rw [e] at this; cases this
  unfold uH
  rw [if_neg h]
  exact s b o (s0 b o e)
 refine ⟨own, g, ⟨fun b o e => ?_, fun b o e => ?_, f1.h0, f1.pn⟩, fun b xs e => ?_⟩
 ·unfold uH at e
  split at e
  ·cases e
  ·exact f1.sub b o e
 ·have h : ¬ OwnA F Γ σ G H b := fun h => by
   have := h.at.1
   rw [e] at this; cases this
  unfold uH
  rw [if_neg h]
  exact f1.g0 b o e
 ·by_cases h : OwnA F Γ σ G H b
  ·have e' : H b = some (.tup xs) := by rw [← (own b h).1]; exact e
   obtain ⟨q, vs, q1, q2, q3⟩ := h.tup e'
   exact .inr ⟨q, vs, q1, by rw [(own q q2).1]; exact q3⟩
  ·refine .inl ?_
   unfold uH
   rw [if_neg h]
   exact e
theorem gBack_own {G1 : Hp} {b : Addr} (h : OwnA F Γ σ G H b) : uH F Γ σ G H G1 b = none := by
 unfold uH
 rw [if_pos h]
theorem R.back (r : R F Γ σ G H) {G' H' : Hp} (s : Same (gPub F Γ σ G H) G') (r' : R F (zE Γ) σ G' H') : Same G (uH F Γ σ G H G') ∧ R F Γ σ (uH F Γ σ G H G') H' ∧ SameU G' (uH F Γ σ G H G') := by
 obtain ⟨own, g, f, t⟩ := r.backG s r'.fr
 obtain ⟨fps, h1, h2⟩ := r.fps
 refine ⟨g, ⟨f, r.len, fps, fun i sl e => (h1 i sl e).go g fun b hb => ?_, h2⟩, t⟩
 have ho : OwnA F Γ σ G H b := ⟨i, sl, fps i, e, h1 i sl e, hb⟩
 exact ⟨gBack_own ho, (own b ho).2⟩
end
theorem vt_peek {t : TE} {m : ME} (h : VT P0 t m) : VT P0 t (mPeek m) := by
 intro F Γ σ G H Q Qm r hm k
 obtain ⟨s0, r0⟩ := r.pubAll
 refine h F _ σ _ H _ _ r0 hm fun d Γ1 x G1 H1 m1 s1 r1 d1 => ?_
 obtain ⟨hd, rfl, q⟩ := m1
 obtain ⟨s2, r2, t2⟩ := r.back s1 r1
 exact k _ _ _ _ _ q s2 r2 (Dt.sameU t2 _ _ hd d1)
theorem t8 {t : TT} {m : MT} (h : VTT P0 t m) : VTT P0 t (xZ m) := by
 intro F Γ σ G H Q Qm r hm k
 obtain ⟨s0, r0⟩ := r.pubAll
 refine h F _ σ _ H _ _ r0 hm fun b Γ1 G1 H1 m1 s1 r1 => ?_
 obtain ⟨rfl, q⟩ := m1
 obtain ⟨s2, r2, t2⟩ := r.back s1 r1
 exact k _ _ _ _ q s2 r2
section
variable {ta tb : TE} {ma mb : ME}
abbrev mAdd := mI0 fun i j => PyData.int (i + j)
abbrev u5 := mI0 fun i j => PyData.int (i - j)
abbrev mH := mI IntMulOk fun i j => PyData.int (i * j)
abbrev mDivX := mI CDivX fun i j => PyData.int (i.fdiv j)
abbrev mMod := mI (fun _ j => 0 < j) fun i j => PyData.int (i % j)
abbrev mNeg := mU fun i => PyData.int (-i)
abbrev mLt := mI0 fun i j => PyData.bool (decide (i < j))
abbrev mGt := mI0 fun i j => PyData.bool (decide (j < i))
abbrev mGe := mI0 fun i j => PyData.bool (decide (j ≤ i))
theorem v5 (ha : VT P0 ta ma) (hb : VT P0 tb mb) : VT P0 (tOp (rI0 fun i j => .int (i + j)) ta tb) (mAdd ma mb) := vt_i0 (fun _ _ _ => .int _) ha hb
theorem dO (ha : VT P0 ta ma) (hb : VT P0 tb mb) : VT P0 (tOp (rI0 fun i j => .int (i - j)) ta tb) (u5 ma mb) := vt_i0 (fun _ _ _ => .int _) ha hb
theorem cI (ha : VT P0 ta ma) (hb : VT P0 tb mb) : VT P0 (tOp (rI IntMulOk fun i j => .int (i * j)) ta tb) (mH ma mb) := vt_i (fun _ _ _ => .int _) ha hb
theorem vt_divX (ha : VT P0 ta ma) (hb : VT P0 tb mb) : VT P0 (tOp (rI CDivX fun i j => .int (i.fdiv j)) ta tb) (mDivX ma mb) := vt_i (fun _ _ _ => .int _) ha hb
theorem vt_mod (ha : VT P0 ta ma) (hb : VT P0 tb mb) : VT P0 (tOp (rI (fun _ j => 0 < j) fun i j => .int (i % j)) ta tb) (mMod ma mb) := vt_i (fun _ _ _ => .int _) ha hb
theorem yZ (ha : VT P0 ta ma) : VT P0 (tUn (rU fun i => .int (-i)) ta) (mNeg ma) := vt_u (fun _ _ => .int _) ha
theorem yS (ha : VT P0 ta ma) (hb : VT P0 tb mb) : VT P0 (tOp (rI0 fun i j => .bl (decide (i < j))) ta tb) (mLt ma mb) := vt_i0 (fun _ _ _ => .bl _) ha hb
theorem vt_gt (ha : VT P0 ta ma) (hb : VT P0 tb mb) : VT P0 (tOp (rI0 fun i j => .bl (decide (j < i))) ta tb) (mGt ma mb) := vt_i0 (fun _ _ _ => .bl _) ha hb
theorem vt_ge (ha : VT P0 ta ma) (hb : VT P0 tb mb) : VT P0 (tOp (rI0 fun i j => .bl (decide (j ≤ i))) ta tb) (mGe ma mb) := vt_i0 (fun _ _ _ => .bl _) ha hb
theorem aJ {i : Int} : VT P0 (tC (.int i)) (mC (.int i)) := vt_c fun _ => .int i
theorem zG {b : Bool} : VT P0 (tC (.bl b)) (mC (.bool b)) := vt_c fun _ => .bl b
theorem vt_str {s : Str} : VT P0 (tC (.str s)) (mC (.str s)) := vt_c fun _ => .str s
theorem uW : VT P0 (tC .non) (mC .none) := vt_c fun _ => .non
end
end L2.VS
namespace L2.VS
open PySem PySem.Spec PyProof.Rows
noncomputable def mTake : Fm := fun as Q => match as with
 | [.pen, .val (.int m)] => 0 < m ∧ m < 1073741824 ∧ ∀ r : Int, 0 ≤ r → r < m → Q (.val (.int r))
 | _ => False
noncomputable def nG : Fl → Prop := fun fl => fl = .rt (.val (.bool true))
end L2.VS
namespace L2.VS
open PySem PySem.Spec PyProof.Rows LT
section
variable {Γ : En} {i j n : Nat} {d e x y : D} {ma mb : ME} {oa ob : MO} {ta tb : MT} {md : MD} {aa : MA} {sa sb : MS} {g : MG} {gs : MGs} {mp mq : MP}
theorem i_seq {Q : Fl → Prop} (h : sa Γ fun fl => match fl with | .nx Γ1 => sb Γ1 Q | fl => Q fl) : cH sa sb Γ Q := h
theorem i_nx {Q : Fl → Prop} (h : Q (.nx Γ)) : mNx Γ Q := h
theorem i_drop {Q : Fl → Prop} (h : ma Γ fun _ Γ1 => Q (.nx Γ1)) : mDrop ma Γ Q := h
theorem i_set {Q : Fl → Prop} (h : oa Γ fun rv Γ1 => Q (.nx (Γ1.set i rv.sl))) : dX i oa Γ Q := h
theorem i_asg {Q : Fl → Prop} (h : ma Γ fun d Γ1 => g d Γ1 fun Γ2 => Q (.nx Γ2)) : mAsg ma g Γ Q := h
theorem i_par {Q : Fl → Prop} (h : md Γ fun ds Γ1 => match ds with | [d, e] => Q (.nx ((Γ1.set i (.val d)).set j (.val e))) | _ => False) : mPar i j md Γ Q := h
theorem i_ret {Q : Fl → Prop} (h : oa Γ fun rv _ => Q (.rt rv)) : eX oa Γ Q := h
theorem i_retN {Q : Fl → Prop} (h : Q (.rt (.val .none))) : mRetN Γ Q := h
theorem i_if {Q : Fl → Prop} (h : ta Γ fun k Γ1 => if k = true then sa Γ1 Q else sb Γ1 Q) : mIf ta sa sb Γ Q := h
theorem i_for {Q : Fl → Prop} (h : md Γ fun ds Γ1 => forL g sa ds Γ1 Q) : mFor md g sa Γ Q := h
noncomputable def appK (i : Nat) (d : D) (Γ1 : En) (Q : Fl → Prop) : Prop := match Γ1[i]? with
 | some (.own ds) => ds.length < 1000 ∧ Q (.nx (Γ1.set i (.own (ds ++ [d]))))
 | _ => False
theorem i_append {Q : Fl → Prop} {ds : List D} (h0 : Γ[i]? = some (.own ds)) (h : ma Γ fun d Γ1 => appK i d Γ1 Q) : rP i ma Γ Q := by
 unfold rP
 rw [h0]
 exact h
theorem i_appK {Q : Fl → Prop} {Γ1 : En} {ds : List D} (h0 : Γ1[i]? = some (.own ds)) (h1 : ds.length < 1000) (h : Q (.nx (Γ1.set i (.own (ds ++ [d]))))) : appK i d Γ1 Q := by
 unfold appK
 rw [h0]
 exact ⟨h1, h⟩
theorem i_clear {Q : Fl → Prop} {ds : List D} (h0 : Γ[i]? = some (.own ds)) (h : Q (.nx (Γ.set i (.own [])))) : mClear i Γ Q := by
 unfold mClear
 rw [h0]
 exact h
theorem i_pubS {Q : Fl → Prop} {ds : List D} (h0 : Γ[i]? = some (.own ds)) (h : sa (Γ.set i (.val (.list ds))) Q) : mPubS i sa Γ Q := by
 unfold mPubS
 rw [h0]
 exact h
theorem i_pubS0 {Q : Fl → Prop} (h0 : Γ[i]? = some (.val d)) (h : sa Γ Q) : mPubS i sa Γ Q := by
 unfold mPubS
 rw [h0]
 exact h
theorem i_c {Q : D → En → Prop} (h : Q d Γ) : mC d Γ Q := h
theorem i_var {Q : D → En → Prop} (h0 : Γ[i]? = some (.val d)) (h : Q d Γ) : aM i Γ Q := by
 unfold aM
 rw [h0]
 exact h
theorem i_I0 {f : Int → Int → D} {Q : D → En → Prop} (h : ma Γ fun x Γ1 => mb Γ1 fun y Γ2 => match x, y with | .int i, .int j => Q (f i j) Γ2 | _, _ => False) : mI0 f ma mb Γ Q := h
theorem i_I {C : Int → Int → Prop} {f : Int → Int → D} {Q : D → En → Prop} (h : ma Γ fun x Γ1 => mb Γ1 fun y Γ2 => match x, y with | .int i, .int j => C i j ∧ Q (f i j) Γ2 | _, _ => False) : mI C f ma mb Γ Q := h
theorem i_U {f : Int → D} {Q : D → En → Prop} (h : ma Γ fun x Γ1 => match x with | .int i => Q (f i) Γ1 | _ => False) : mU f ma Γ Q := h
theorem i_abs {Q : D → En → Prop} (h : ma Γ fun x Γ1 => match x with | .int i => Q (.int (if i < 0 then -i else i)) Γ1 | _ => False) : mAbs ma Γ Q := h
theorem i_int1 {Q : D → En → Prop} (h : ma Γ fun x Γ1 => match x with | .int i => Q (.int i) Γ1 | .bool b => Q (.int (if b then 1 else 0)) Γ1 | _ => False) : mInt1 ma Γ Q := h
theorem i_2I {f : Int → Int → Int} {Q : D → En → Prop} (h : ma Γ fun x Γ1 => mb Γ1 fun y Γ2 => match x, y with | .int i, .int j => Q (.int (f i j)) Γ2 | _, _ => False) : m2I f ma mb Γ Q := h
theorem i_eq {Q : D → En → Prop} (h : ma Γ fun x Γ1 => mb Γ1 fun y Γ2 => Good x ∧ Good y ∧ Q (.bool (PyData.eqv x y)) Γ2) : mEq ma mb Γ Q := h
theorem i_ne {Q : D → En → Prop} (h : ma Γ fun x Γ1 => mb Γ1 fun y Γ2 => Good x ∧ Good y ∧ Q (.bool (!PyData.eqv x y)) Γ2) : mNe ma mb Γ Q := h
theorem i_isN {Q : D → En → Prop} (h : ma Γ fun x Γ1 => Q (.bool (isN x)) Γ1) : mIsN ma Γ Q := h
theorem i_notN {Q : D → En → Prop} (h : ma Γ fun x Γ1 => Q (.bool (!isN x)) Γ1) : mNotN ma Γ Q := h
theorem i_andV {Q : D → En → Prop} (h : ma Γ fun x Γ1 => match x with | .bool c => if c = true then mb Γ1 Q else Q (.bool false) Γ1 | _ => False) : mAndV ma mb Γ Q := h
theorem i_orV {Q : D → En → Prop} (h : ma Γ fun x Γ1 => match x with | .bool c => if c = true then Q (.bool true) Γ1 else mb Γ1 Q | _ => False) : mOrV ma mb Γ Q := h
theorem i_notV {Q : D → En → Prop} (h : ma Γ fun x Γ1 => match x with | .bool c => Q (.bool (!c)) Γ1 | _ => False) : mNotV ma Γ Q := h
theorem i_tst {Q : Bool → En → Prop} (h : ma Γ fun x Γ1 => match x with | .bool c => Q c Γ1 | _ => False) : fO ma Γ Q := h
theorem i_and {Q : Bool → En → Prop} (h : ta Γ fun c Γ1 => if c = true then tb Γ1 Q else Q false Γ1) : mAnd ta tb Γ Q := h
theorem i_or {Q : Bool → En → Prop} (h : ta Γ fun c Γ1 => if c = true then Q true Γ1 else tb Γ1 Q) : mOr ta tb Γ Q := h
theorem i_not {Q : Bool → En → Prop} (h : ta Γ fun c Γ1 => Q (!c) Γ1) : mNot ta Γ Q := h
theorem i_ifE {Q : D → En → Prop} (h : ta Γ fun c Γ1 => if c = true then ma Γ1 Q else mb Γ1 Q) : mIfE ta ma mb Γ Q := h
theorem i_ifO {Q : Rv → En → Prop} (h : ta Γ fun c Γ1 => if c = true then oa Γ1 Q else ob Γ1 Q) : mIfO ta oa ob Γ Q := h
theorem i_nil {Q : List D → En → Prop} (h : Q [] Γ) : gH Γ Q := h
theorem i_cons {Q : List D → En → Prop} (h : ma Γ fun x Γ1 => md Γ1 fun xs Γ2 => Q (x :: xs) Γ2) : bK ma md Γ Q := h
theorem i_anil {Q : List Sl → En → Prop} (h : Q [] Γ) : cD Γ Q := h
theorem i_aval {Q : List Sl → En → Prop} (h : ma Γ fun x Γ1 => aa Γ1 fun xs Γ2 => Q (.val x :: xs) Γ2) : bA ma aa Γ Q := h
theorem i_apen {Q : List Sl → En → Prop} (h0 : Γ[i]? = some .pen) (h : aa Γ fun xs Γ2 => Q (.pen :: xs) Γ2) : qG i aa Γ Q := by
 unfold qG
 rw [h0]
 exact h
theorem i_tup {Q : D → En → Prop} (h : md Γ fun ds Γ1 => ds.length ≤ 1000 ∧ Q (.tuple ds) Γ1) : qP md Γ Q := h
theorem i_lst {Q : Rv → En → Prop} (h : md Γ fun ds Γ1 => ds.length ≤ 1000 ∧ Q (.own ds) Γ1) : mLst md Γ Q := h
theorem i_ix {Q : D → En → Prop} (h : ma Γ fun x Γ1 => mb Γ1 fun y Γ2 => oQ (ixD x y) fun d => Q d Γ2) : mIx ma mb Γ Q := h
theorem i_len {Q : D → En → Prop} (h : ma Γ fun x Γ1 => oQ (lenD x) fun d => Q d Γ1) : mLen ma Γ Q := h
theorem i_isi {s : String} {Q : D → En → Prop} (h : ma Γ fun x Γ1 => Q (.bool (subT (oM x) s)) Γ1) : mIsi s ma Γ Q := h
theorem i_pub {Q : D → En → Prop} (h : oa Γ fun rv Γ1 => nbQ rv (Q rv.d Γ1)) : cC oa Γ Q := h
theorem i_val {Q : Rv → En → Prop} (h : ma Γ fun d Γ1 => Q (.val d) Γ1) : cM ma Γ Q := h
theorem i_move {Q : Rv → En → Prop} {ds : List D} (h0 : Γ[i]? = some (.own ds)) (h : Q (.own ds) (Γ.set i .no)) : yL i Γ Q := by
 unfold yL
 rw [h0]
 exact h
theorem i_moveV {Q : Rv → En → Prop} (h0 : Γ[i]? = some (.val d)) (h : Q (.val d) Γ) : yL i Γ Q := by
 unfold yL
 rw [h0]
 exact h
theorem i_call {f : Fm} {Q : Rv → En → Prop} (h : aa Γ fun as Γ1 => as.length = n ∧ f as fun rv => Q rv Γ1) : b7 n f aa Γ Q := h
theorem i_listOf {Q : Rv → En → Prop} (h : ma Γ fun x Γ1 => match xR x with | some ds => Q (.own ds) Γ1 | none => False) : mListOf ma Γ Q := h
theorem i_slL {Q : Rv → En → Prop} (h : ma Γ fun x Γ1 => mp Γ1 fun lo Γ2 => mq Γ2 fun hi Γ3 => match x with | .list ds => Q (.own (cutD ds lo hi)) Γ3 | _ => False) : mSlL ma mp mq Γ Q := h
theorem i_pNo {Q : Option Int → En → Prop} (h : Q none Γ) : pNo Γ Q := h
theorem i_pSo {Q : Option Int → En → Prop} (h : ma Γ fun x Γ1 => match x with | .int i => Q (some i) Γ1 | _ => False) : pSo ma Γ Q := h
theorem i_cat {Q : Rv → En → Prop} (h : ma Γ fun x Γ1 => mb Γ1 fun y Γ2 => match x, y with | .list ds, .list es => ds.length + es.length ≤ 1000 ∧ Q (.own (ds ++ es)) Γ2 | _, _ => False) : mCat ma mb Γ Q := h
theorem i_in {neg : Bool} {Q : D → En → Prop} (h : ma Γ fun x Γ1 => mb Γ1 fun y Γ2 => match xR y with | some ds => Good x ∧ Goods ds ∧ Q (.bool (if neg then !(ds.any fun e => PyData.eqv e x) else ds.any fun e => PyData.eqv e x)) Γ2 | none => False) : mIn neg ma mb Γ Q := h
theorem i_peek {Q : D → En → Prop} (h : ma (zE Γ) fun d Γ1 => zK d = true ∧ Γ1 = zE Γ ∧ Q d Γ) : mPeek ma Γ Q := h
theorem i_peekT {Q : Bool → En → Prop} (h : ta (zE Γ) fun b Γ1 => Γ1 = zE Γ ∧ Q b Γ) : xZ ta Γ Q := h
theorem i_peekO {Q : Rv → En → Prop} (h : oa (zE Γ) fun rv Γ1 => oH (match rv with | .val d => [d] | .own ds => ds | .box _ => [.list []]) = true ∧ Γ1 = zE Γ ∧ Q rv Γ) : mPeekO oa Γ Q := h
theorem i_itL {Q : List D → En → Prop} (h : ma Γ fun x Γ1 => match x with | .list ds => Q ds Γ1 | _ => False) : zB ma Γ Q := h
theorem i_itT {Q : List D → En → Prop} (h : ma Γ fun x Γ1 => match x with | .tuple ds => Q ds Γ1 | _ => False) : mItT ma Γ Q := h
theorem i_rng1 {Q : List D → En → Prop} (h : md Γ fun ds Γ1 => match ds with | [.int j] => -(2 ^ 62) ≤ j ∧ j < 2 ^ 62 ∧ Q (iG 0 j.toNat) Γ1 | _ => False) : yH md Γ Q := h
theorem i_rng2 {Q : List D → En → Prop} (h : md Γ fun ds Γ1 => match ds with | [.int i, .int j] => (-(2 ^ 62) ≤ i ∧ i < 2 ^ 62 ∧ -(2 ^ 62) ≤ j ∧ j < 2 ^ 62) ∧ Q (iG i (j - i).toNat) Γ1 | _ => False) : mRng2 md Γ Q := h
theorem i_gN {Q : En → Prop} (h : Q (Γ.set i (.val d))) : gN i d Γ Q := h
theorem i_gT {Q : En → Prop} {ds : List D} (hl : ds.length = n) (h : gs ds Γ Q) : gT n gs (.tuple ds) Γ Q := ⟨hl, h⟩
theorem i_gsNil {Q : En → Prop} (h : Q Γ) : z9 [] Γ Q := h
theorem i_gsCons {Q : En → Prop} {ds : List D} (h : g d Γ fun Γ1 => gs ds Γ1 Q) : fV g gs (d :: ds) Γ Q := h
theorem kY {k : Nat} {as : List Sl} {Q : Rv → Prop} (h : sa (as ++ List.replicate k .no) fun fl => match fl with | .rt rv => Q rv | .nx _ => Q (.val .none) | _ => False) : mFn k sa as Q := h
theorem dB {o : Option D} {k : D → Prop} (h0 : o = some d) (h : k d) : oQ o k := by rw [h0]; exact h
theorem eZ {m : Int} {Q : Rv → Prop} (h1 : 0 < m) (h2 : m < 1073741824) (h : ∀ r : Int, 0 ≤ r → r < m → Q (.val (.int r))) : mTake [.pen, .val (.int m)] Q := ⟨h1, h2, h⟩
structure KOk (I : En → Prop) (Q K : Fl → Prop) : Prop where
 nx : ∀ Γ, I Γ → K (.nx Γ)
 ct : ∀ Γ, I Γ → K (.ct Γ)
 bk : ∀ Γ, Q (.nx Γ) → K (.bk Γ)
 rt : ∀ rv, Q (.rt rv) → K (.rt rv)
theorem mW {ds : List D} {Q : Fl → Prop} (I : Nat → En → Prop) (h0 : I 0 Γ) (hs : ∀ i d Γ K, ds[i]? = some d → I i Γ → KOk (I (i + 1)) Q K → g d Γ fun Γ1 => sa Γ1 K) (he : ∀ Γ, I ds.length Γ → Q (.nx Γ)) : forL g sa ds Γ Q := by
 have aux : ∀ (es : List D) (k : Nat) (Γ : En), (∀ i d, es[i]? = some d → ds[k + i]? = some d) → k + es.length = ds.length → I k Γ → forL g sa es Γ Q := by
  intro es
  induction es with
  | nil => intro k Γ _ hl hi; exact he Γ (by rw [← hl]; simpa using hi)
  | cons d es ih =>
   intro k Γ hd hl hi
   have next : ∀ Γ2, I (k + 1) Γ2 → forL g sa es Γ2 Q := fun Γ2 h3 => ih (k + 1) Γ2 (fun i e he' => by
    have := hd (i + 1) e (by simpa using he')
    rw [show k + 1 + i = k + (i + 1) by omega]; exact this) (by rw [← hl, List.length_cons]; omega) h3
   exact hs k d Γ _ (by simpa using hd 0 d rfl) hi ⟨next, next, fun _ h => h, fun _ h => h⟩
 exact aux ds 0 Γ (fun i d h => by simpa using h) (by simp) h0
theorem gY {lo : Int} {n : Nat} {Q : Fl → Prop} (I : Nat → En → Prop) (h0 : I 0 Γ) (hs : ∀ i Γ K, i < n → I i Γ → KOk (I (i + 1)) Q K → g (.int (lo + i)) Γ fun Γ1 => sa Γ1 K) (he : ∀ Γ, I n Γ → Q (.nx Γ)) : forL g sa (iG lo n) Γ Q := by
 have hl : (iG lo n).length = n := by simp [iG]
 refine mW I h0 (fun i d Γ K e hi hk => ?_) (by rw [hl]; exact he)
 have hi' : i < n := by have := (List.getElem?_eq_some_iff.mp e).1; omega
 unfold iG at e
 rw [List.getElem?_map, List.getElem?_range hi'] at e
 cases e
 exact hs i Γ K hi' hi hk
theorem t7 {Q : Fl → Prop} (I : Nat → En → Prop) (m0 : Nat) (h0 : I m0 Γ) (hs : ∀ m Γ, I m Γ → ta Γ fun k Γ1 => if k = true then sa Γ1 fun fl => match fl with
  | .nx Γ2 => ∃ n', n' < m ∧ I n' Γ2
  | .ct Γ2 => ∃ n', n' < m ∧ I n' Γ2
  | .bk Γ2 => Q (.nx Γ2)
  | .rt rv => Q (.rt rv)
 else Q (.nx Γ1)) : mWhile ta sa Γ Q := ⟨I, ⟨m0, h0⟩, hs⟩
end
theorem iteNT {A B : Prop} (h : B) : if (!true) = true then A else B := vD h
theorem iteNF {A B : Prop} (h : A) : if (!false) = true then A else B := wH h
theorem good_int (i : Int) : Good (.int i) := ⟨rfl, by show 0 ≤ 60; decide⟩
theorem good_bool (b : Bool) : Good (.bool b) := ⟨rfl, by show 0 ≤ 60; decide⟩
theorem good_none : Good .none := ⟨rfl, by show 0 ≤ 60; decide⟩
theorem eqv_int (i j : Int) : PyData.eqv (.int i) (.int j) = decide (i = j) := by
 show (i == j) = _
 exact Bool.beq_eq_decide_eq i j
theorem eqv_bool (i j : Bool) : PyData.eqv (.bool i) (.bool j) = decide (i = j) := by
 show (i == j) = _
 exact Bool.beq_eq_decide_eq i j
section
variable {P : D → Prop} {Γ : En} {Q : D → En → Prop}
end
noncomputable def Gd (n : Nat) (d : D) : Prop := d.canLay0 = true ∧ d.depth ≤ n
theorem Gd.good {n : Nat} {d : D} (h : Gd n d) (hn : n ≤ 60 := by decide) : Good d := ⟨h.1, Nat.le_trans h.2 hn⟩
theorem Gd.mono {n m : Nat} {d : D} (h : Gd n d) (hn : n ≤ m := by decide) : Gd m d := ⟨h.1, Nat.le_trans h.2 hn⟩
theorem gds {n : Nat} : ∀ {ds : List D}, (∀ d ∈ ds, Gd n d) → PyData.canLayAll0 ds = true ∧ PyData.depthAll ds ≤ n
 | [], _ => ⟨rfl, Nat.zero_le _⟩
 | d :: ds, h => by
  have h1 := h d List.mem_cons_self
  have h2 := gds (ds := ds) fun e he => h e (List.mem_cons_of_mem _ he)
  refine ⟨by show (d.canLay0 && PyData.canLayAll0 ds) = true; rw [h1.1, h2.1]; rfl, ?_⟩
  show max d.depth (PyData.depthAll ds) ≤ n
  exact Nat.max_le.mpr ⟨h1.2, h2.2⟩
theorem gd_tup {n : Nat} {ds : List D} (h : ∀ d ∈ ds, Gd n d) : Gd (n + 1) (.tuple ds) := ⟨(gds h).1, Nat.succ_le_succ (gds h).2⟩
theorem qJ {n : Nat} {ds : List D} (h : ∀ d ∈ ds, Gd n d) : Gd (n + 1) (.list ds) := ⟨(gds h).1, Nat.succ_le_succ (gds h).2⟩
theorem gd_goods {n : Nat} {ds : List D} (h : ∀ d ∈ ds, Gd n d) (hn : n ≤ 59 := by decide) : Goods ds := ⟨(gds h).1, Nat.le_trans (gds h).2 hn⟩
theorem iZ (i : Int) : Gd 0 (.int i) := ⟨rfl, Nat.le_refl _⟩
theorem gd_none : Gd 0 .none := ⟨rfl, Nat.le_refl _⟩
theorem gd_str (s : Str) (h : (PyData.str s).canLay0 = true := by decide +kernel) : Gd 0 (.str s) := ⟨h, Nat.le_refl _⟩
theorem good_str (s : Str) (h : (PyData.str s).canLay0 = true := by decide +kernel) : Good (.str s) := (gd_str s h).good
theorem wM (q : Rat) : Gd 1 (cG q) := gd_tup (n := 0) fun d h => by
 rcases List.mem_cons.mp h with rfl | h
 ·exact iZ _
 ·rw [List.mem_singleton.mp h]; exact iZ _
theorem gd_line (l : Rat × Rat) : Gd 2 (gG l) := gd_tup (n := 1) fun d h => by
 rcases List.mem_cons.mp h with rfl | h
 ·exact wM _
 ·rw [List.mem_singleton.mp h]; exact wM _
theorem gd_2 {n : Nat} {a b : D} (ha : Gd n a) (hb : Gd n b) : Gd (n + 1) (.tuple [a, b]) := gd_tup fun d h => by
 rcases List.mem_cons.mp h with rfl | h
 ·exact ha
 ·rw [List.mem_singleton.mp h]; exact hb
theorem nZ {d : D} (h : Good d) : PyData.eqv d d = true := SeqAt.eqv_refl d h.lay
theorem isT {d : D} {n : String} {A B : Prop} (h : subT (oM d) n = true) (a : A) : if subT (oM d) n = true then A else B := by rw [h]; exact wH a
theorem isF {d : D} {n : String} {A B : Prop} (h : subT (oM d) n = false) (b : B) : if subT (oM d) n = true then A else B := by rw [h]; exact vD b
theorem isNT {d : D} {n : String} {A B : Prop} (h : subT (oM d) n = true) (b : B) : if (!subT (oM d) n) = true then A else B := by rw [h]; exact vD b
theorem isNF {d : D} {n : String} {A B : Prop} (h : subT (oM d) n = false) (a : A) : if (!subT (oM d) n) = true then A else B := by rw [h]; exact wH a
theorem ix_num0 (q : Rat) : ixD (cG q) (.int 0) = some (.int q.num) := rfl
theorem ix_num1 (q : Rat) : ixD (cG q) (.int 1) = some (.int (q.den : Int)) := rfl
theorem ix_line0 (l : Rat × Rat) : ixD (gG l) (.int 0) = some (cG l.1) := rfl
theorem ix_line1 (l : Rat × Rat) : ixD (gG l) (.int 1) = some (cG l.2) := rfl
end L2.VS
namespace L2
open PySem PySem.Spec PyProof.Rows
noncomputable def clGo (env : Env) : List (Str × NameKind) → List (Str × Addr) → List (Str × Addr)
 | [], cs => cs
 | (n, k) :: r, cs => if (k == .free) = true then clGo env r ((n, (env.cells.lookup n).getD 0) :: cs) else clGo env r cs
theorem clos_go {env : Env} : ∀ (names : List (Str × NameKind)) (cs : List (Str × Addr)), (∀ y ∈ names, y.2 = .free → ∃ c, env.cells.lookup y.1 = some c) →
  (forIn names cs fun (x : Str × NameKind) (r : List (Str × Addr)) => (do
   if (x.2 == NameKind.free) = true then do
    let a ← cellOf env x.1
    pure (ForInStep.yield ((x.1, a) :: r))
   else pure (ForInStep.yield r) : Sem (ForInStep (List (Str × Addr))))) = pure (clGo env names cs)
 | [], cs, _ => rfl
 | (n, k) :: r, cs, h => by
  have ih := fun cs => clos_go (env := env) r cs fun y hy => h y (List.mem_cons_of_mem _ hy)
  rw [List.forIn_cons]
  unfold clGo
  by_cases hk : (k == NameKind.free) = true
  ·obtain ⟨c, hc⟩ := h (n, k) List.mem_cons_self (by simpa using hk)
   have hc' : env.cells.lookup n = some c := hc
   have e : cellOf env n = pure c := by unfold cellOf; rw [hc']
   simp only [hk, if_true, e, hc', Option.getD_some]
   simp only [pure_bind]
   exact ih _
  ·have hk' : (k == NameKind.free) = false := by simpa using hk
   simp only [hk', Bool.false_eq_true, if_false, pure_bind]
   exact ih _
theorem clos_of {scope : Scope} {env : Env} (h : ∀ y ∈ scope.names, y.2 = .free → ∃ c, env.cells.lookup y.1 = some c) : closureFor scope env = pure (clGo env scope.names []) := by
 have e := clos_go (env := env) scope.names [] h
 unfold closureFor
 rw [← e]
 simp only [bind_pure]
theorem sS {env : Env} : ∀ (names : List (Str × NameKind)) (cs : List (Str × Addr)), (∀ y ∈ names, y.2 = .free → ∃ c, env.cells.lookup y.1 = some c) → (∀ x c, cs.lookup x = some c → env.cells.lookup x = some c) →
  ∀ x c, (clGo env names cs).lookup x = some c → env.cells.lookup x = some c
 | [], cs, _, h => h
 | (n, k) :: r, cs, hf, h => by
  have ih := fun cs => sS (env := env) r cs fun y hy => hf y (List.mem_cons_of_mem _ hy)
  unfold clGo
  by_cases hk : (k == NameKind.free) = true
  ·rw [if_pos hk]
   obtain ⟨c0, hc⟩ := hf (n, k) List.mem_cons_self (by simpa using hk)
   have hc' : env.cells.lookup n = some c0 := hc
   refine ih _ fun x c e => ?_
   rw [List.lookup_cons] at e
   cases hx : x == n with
   | true =>
    rw [hx, hc'] at e
    have : x = n := by simpa using hx
    rw [this, hc']
    exact e
   | false => rw [hx] at e; exact h x c e
  ·rw [if_neg hk]
   exact ih _ h
theorem wF {env : Env} : ∀ (names : List (Str × NameKind)) (cs : List (Str × Addr)) (x : Str), ((∃ k, (x, k) ∈ names ∧ k = .free) ∨ (cs.lookup x).isSome = true) → ((clGo env names cs).lookup x).isSome = true
 | [], cs, x, h => by
  rcases h with ⟨k, hm, _⟩ | h
  ·cases hm
  ·exact h
 | (n, k) :: r, cs, x, h => by
  unfold clGo
  by_cases hk : (k == NameKind.free) = true
  ·rw [if_pos hk]
   refine wF r _ x ?_
   by_cases hx : x = n
   ·right
    rw [List.lookup_cons, hx]
    simp
   ·rcases h with ⟨k', hm, hf⟩ | h
    ·rcases List.mem_cons.mp hm with e | hm
     ·cases e; exact absurd rfl hx
     ·exact .inl ⟨k', hm, hf⟩
    ·right
     rw [List.lookup_cons]
     have : (x == n) = false := by simpa using hx
     rw [this]
     exact h
  ·rw [if_neg hk]
   refine wF r _ x ?_
   rcases h with ⟨k', hm, hf⟩ | h
   ·rcases List.mem_cons.mp hm with e | hm
    ·cases e; subst hf; exact absurd rfl hk
    ·exact .inl ⟨k', hm, hf⟩
   ·exact .inr h
theorem oU {env : Env} : ∀ {names : List (Str × NameKind)} {x : Str}, (∀ y ∈ names, y.2 ≠ .cell) →
    ((names.map fun (n, k) => if (k == NameKind.free && env.scope.kind == .function && env.kindOf n == some .cell) then (n, NameKind.cell) else (n, k)).lookup x = some .cell ∨
     (names.map fun (n, k) => if (k == NameKind.free && env.scope.kind == .function && env.kindOf n == some .cell) then (n, NameKind.cell) else (n, k)).lookup x = some .free) → (x, NameKind.free) ∈ names
  | [], _, _, h => by simp at h
  | (n, k) :: r, x, hc, h => by
    have ih := @oU env r x (fun y hy => hc y (List.mem_cons_of_mem _ hy))
    have hk : k ≠ .cell := hc (n, k) List.mem_cons_self
    rw [List.map_cons] at h
    by_cases hf : (k == NameKind.free && env.scope.kind == .function && env.kindOf n == some .cell) = true
    · have kf : k = .free := by
        have := (Bool.and_eq_true _ _ ▸ hf : _ ∧ _).1
        have := (Bool.and_eq_true _ _ ▸ this : _ ∧ _).1
        simpa using this
      simp only [hf, if_true] at h
      rw [List.lookup_cons] at h
      cases hx : x == n with
      | true =>
        have : x = n := by simpa using hx
        subst this; subst kf
        exact List.mem_cons_self
      | false => rw [hx] at h; exact List.mem_cons_of_mem _ (ih h)
    · simp only [hf, Bool.false_eq_true, if_false] at h
      rw [List.lookup_cons] at h
      cases hx : x == n with
      | true =>
        have : x = n := by simpa using hx
        subst this
        rw [hx] at h
        rcases h with h | h
        · exact absurd (Option.some.inj h) hk
        · have : k = .free := Option.some.inj h
          subst this
          exact List.mem_cons_self
      | false => rw [hx] at h; exact List.mem_cons_of_mem _ (ih h)
noncomputable def jY (X : Cx) (N : List Str) (scope : Scope) (C : Addr) (s₀ : Shared) (H₀ : Hp) (ex : List Addr) : Cx where
 prog := X.prog
 w := X.w
 K := X.K
 mg := X.mg
 base := X.base
 A := X.A
 N := N
 s₀ := s₀
 H₀ := H₀
 env := compEnvC scope (clGo X.env scope.names []) C X.env
 outer := X.stack
 stack := X.stack
 ex := ex
 fn := fun _ => false
 calm := X.calm
 pn := []
 xe := fun _ _ => False
noncomputable def blk (nt : Nat) (fv : List Nat) (σ : St) : St := List.replicate nt none ++ fv.map fun j => (σ[j]?).getD none
noncomputable def tComp (nt : Nat) (fv : List Nat) (wi : TI) (g : TG) (ti : TT) (te : TE) : TE := fun σ H Q => wi σ H fun J H1 => ∃ W : Nat → Nat → List V → Hp → Prop, (∃ m, W 0 m [] H1) ∧ ∀ i m ys H, W i m ys H →
 (J.stop i H ∧ ys.length ≤ sizeLine ∧ ∀ p, H p = none → Q (.ref p) (upd H p (.lst ys))) ∨
 (J.go i H ∧ ys.length ≤ sizeLine ∧ ∀ x H', J.yld i H x H' → g x (blk nt fv σ) H' fun σ2 H2 => (∀ i, nt ≤ i → σ2[i]? = (blk nt fv σ)[i]?) ∧ ti σ2 H2 fun b H3 => if b = true then te σ2 H3 fun v H4 => ∃ m', m' < m ∧ W (i + 1) m' (ys ++ [v]) H4 else ∃ m', m' < m ∧ W (i + 1) m' ys H3)
noncomputable def PTs (X : Cx) (cs : List Expr) (t : TT) : Prop :=
 ∀ (pins : List (Addr × Obj)) (s : Shared) (σ : St) (H : Hp) (Q : Bool → Hp → Prop), Inv X pins σ H s → t σ H Q →
  wpAny (model X.prog X.w) X.A (forIn cs true fun c r => if r = true then do let ok ← isTrue c X.env (eval c X.env); pure (ForInStep.yield ok) else pure (ForInStep.yield r)) (TP X pins σ Q) X.xe s
noncomputable def tTrue : TT := fun _ H Q => Q true H
theorem jV {X : Cx} : PTs X [] tTrue := fun _ _ _ H _ I h => wpAny_tests_nil ⟨H, I, h⟩
theorem pts_one {X : Cx} {c : Expr} {t : TT} (h : PT X c t) : PTs X [c] t := fun pins s σ H Q I hq => wpAny_tests_one (h pins s σ H Q I hq)
structure BlkOk (X : Cx) (N : List Str) (scope : Scope) (nt : Nat) (fv : List Nat) : Prop where
 kind : scope.kind = .function
 ncell : ∀ y ∈ scope.names, y.2 ≠ .cell
 names : ∀ y ∈ scope.names, y.2 = .local → scope.names.lookup y.1 = some .local
 free : ∀ y ∈ scope.names, y.2 = .free → X.env.kindOf y.1 = some .cell
 len : N.length = nt + fv.length
 fv : ∀ i x, N[nt + i]? = some x → ∃ j, fv[i]? = some j ∧ X.N[j]? = some x ∧ X.env.kindOf x = some .cell ∧ (relabel scope X.env).names.lookup x = some .cell
section
variable {X : Cx} {N : List Str} {scope : Scope} {nt : Nat} {fv : List Nat} {pins : List (Addr × Obj)} {σ : St} {H : Hp} {s : Shared}
theorem BlkOk.cells (B : BlkOk X N scope nt fv) (I : Inv X pins σ H s) : ∀ y ∈ scope.names, y.2 = .free → ∃ c, X.env.cells.lookup y.1 = some c := fun y hy hf => I.ok.has y.1 (.inl (B.free y hy hf))
theorem blk_ok (B : BlkOk X N scope nt fv) (I : Inv X pins σ H s) {C : Addr} {fp : List Addr} (hC : s.heap.objs.size ≤ C) (hf : ∀ b ∈ fp, FpOk X pins H b) (hlt : ∀ b ∈ fp, b < s.heap.objs.size) :
  (jY X N scope C s H fp).Ok := by
 have sub : ∀ x c, (clGo X.env scope.names []).lookup x = some c → X.env.cells.lookup x = some c := sS _ _ (B.cells I) (fun x c e => by simp at e)
 refine ⟨I.ok.mod, B.kind, I.ok.glob, I.ok.blt, hC, fun x y c e1 e2 => I.ok.inj x y c (sub x c e1) (sub y c e2), fun x hx => ?_, fun x c h => absurd h (by show ¬ (false = true); decide), I.ok.hd, I.ok.frames, .inl rfl, fun b hb => ⟨?_, fun x c e => ?_⟩, I.bs, Nat.le_trans I.ok.bsz I.sz, fun b o e hb => ?_, fun b hb z => ?_, I.stack, I.stkFree⟩
 ·have hm : (x, NameKind.free) ∈ scope.names := oU B.ncell hx
  exact Option.isSome_iff_exists.mp (wF scope.names [] x (.inl ⟨_, hm, rfl⟩))
 ·exact Nat.ne_of_lt (Nat.lt_of_lt_of_le (hlt b hb) hC)
 ·exact (hf b hb).2.2.2.2.1 x c (sub x c e)
 ·rcases (hf b hb).2.2.2.1 with z | z
  ·exact I.ok.noex b o e z
  ·exact absurd (Nat.lt_of_lt_of_le (Heap.lt_size e) (Nat.le_trans I.ok.bsz z)) (Nat.lt_irrefl _)
 ·rcases List.mem_cons.mp (I.stkSub b z) with z | z
  ·exact (hf b hb).2.1 z
  ·exact (hf b hb).2.2.1 z
theorem blk_inv (B : BlkOk X N scope nt fv) (I : Inv X pins σ H s) {C : Addr} {fp : List Addr} (hC : s.heap.objs.size ≤ C) (hf : ∀ b ∈ fp, FpOk X pins H b) (hlt : ∀ b ∈ fp, b < s.heap.objs.size) {h' : Heap} {tk : Nat}
  (k : ∀ b o, s.heap.get? b = some o → h'.get? b = some o) (hn : ∃ m, h'.Ns C m) : Inv (jY X N scope C s H fp) [] (blk nt fv σ) H { s with heap := h', toks := tk } := by
 have sub : ∀ x c, (clGo X.env scope.names []).lookup x = some c → X.env.cells.lookup x = some c := sS _ _ (B.cells I) (fun x c e => by simp at e)
 obtain ⟨m, hn⟩ := hn
 refine ⟨blk_ok B I hC hf hlt, rfl, I.bare, Un.kept k, ⟨m, hn, fun i x v e1 e2 e3 => ?_⟩, fun x c e => ?_, I.hok.fresh hC, fun x c e => I.freeC x c (sub x c e), fun p hp => (nomatch hp), I.hok.kept k, ?_⟩
 ·have hi : nt ≤ i := by
   refine Nat.le_of_not_lt fun hlt => ?_
   unfold blk at e2
   rw [List.getElem?_append_left (by simpa using hlt), List.getElem?_replicate] at e2
   split at e2 <;> cases e2
  obtain ⟨j, hj⟩ : ∃ j, i = nt + j := ⟨i - nt, by omega⟩
  subst hj
  obtain ⟨o, f1, f2, f3, f4⟩ := B.fv j x e1
  unfold blk at e2
  rw [List.getElem?_append_right (by simp), List.length_replicate, Nat.add_sub_cancel_left, List.getElem?_map, f1] at e2
  have e2' : (σ[o]?).getD none = some v := Option.some.inj e2
  have e4 : σ[o]? = some (some v) := by
   cases q : σ[o]? with
   | none => rw [q] at e2'; cases e2'
   | some z => rw [q] at e2'; exact congrArg some e2'
  obtain ⟨m0, hn0, hl⟩ := I.loc
  obtain ⟨u, ru, lk⟩ := hl o x v f2 e4 (.inr (.inl f3))
  refine ⟨u, ru, .inr ⟨.inl f4, ?_⟩⟩
  rcases lk with ⟨z, _⟩ | ⟨_, c, hc, hcell⟩
  ·rw [f3] at z; cases z
  ·have hm : (x, NameKind.free) ∈ scope.names := oU B.ncell (.inl f4)
   obtain ⟨c', hc'⟩ := Option.isSome_iff_exists.mp (wF (env := X.env) scope.names [] x (.inl ⟨_, hm, rfl⟩))
   have := sub x c' hc'
   rw [hc] at this
   cases this
   obtain ⟨oc, h1, h2⟩ := hcell
   exact ⟨c, hc', oc, k c oc h1, h2⟩
 ·obtain ⟨v, oc, h1, h2⟩ := I.cell x c (sub x c e)
  exact ⟨v, oc, k c oc h1, h2⟩
 ·show (blk nt fv σ).length = N.length
  unfold blk
  rw [List.length_append, List.length_replicate, List.length_map]
  exact B.len.symm
end
section
variable {prog : Program} {w : World} {A : Around} {R : Result → Shared → Prop} {s : Shared}
theorem compLoop_any {elt target iter : Expr} {ifs : List Expr} {scope : Scope} {pos : Pos} {it acc : Value} {env : Env} (I : Nat → Shared → Prop)
  (turn : ∀ n s, I n s → wpAny (model prog w) A (pyNext it) (fun r s₁ => match r with
   | none => R (.ok .next) s₁
   | some v => wpAny (model prog w) A (letOwnedTupleGo target it v) (fun _ s₁' => wpAny (model prog w) A (assign target env v) (fun _ s₂ =>
     wpAny (model prog w) A (forIn ifs true fun c r => if r = true then do let ok ← isTrue c env (eval c env); pure (ForInStep.yield ok) else pure (ForInStep.yield r)) (fun ok s₃ =>
      if ok = true then wpAny (model prog w) A (eval elt env) (fun x s₄ =>
       wpAny (model prog w) A (call (.builtin "list.append") [acc, x]) (fun _ s₅ => ∃ m, m < n ∧ I m s₅) (fun _ _ => False) s₄) (fun _ _ => False) s₃
      else ∃ m, m < n ∧ I m s₃) (fun _ _ => False) s₂) (fun _ _ => False) s₁') (fun _ _ => False) s₁) (fun _ _ => False) s)
  (n : Nat) (h : I n s) :
  codeAny (model prog w) A (.compLoop (.ListComp elt [⟨target, iter, ifs, 0⟩] scope pos) 0 it acc env) R s := by
 refine codeAny_loop rfl I (fun n s hI => ?_) n h
 show wpAny _ A ((compTurn (.ListComp elt [⟨target, iter, ifs, 0⟩] scope pos) 0 it acc env).onRaise (fun x => do noteFrame x env; theTreesLotGoes x)) _ _ s
 refine wpAny_noted ?_
 rw [compTurn_list]
 refine wpAny_bind (wpAny_standAt (wpAny_bind (wpAny_mono (turn n s hI) (fun r s₁ h₁ => ?_) fun _ _ f => f.elim)))
 cases r with
 | none => exact wpAny_pure h₁
 | some v =>
  refine wpAny_bind (wpAny_mono h₁ (fun _ s₁' h₁' => ?_) fun _ _ f => f.elim)
  refine wpAny_bind (wpAny_mono h₁' (fun _ s₂ h₂ => wpAny_bind (wpAny_mono h₂ (fun ok s₃ h₃ => ?_) fun _ _ f => f.elim)) fun _ _ f => f.elim)
  cases ok with
  | false => exact wpAny_pure ⟨rfl, h₃⟩
  | true =>
   exact wpAny_bind (wpAny_bind (wpAny_mono h₃ (fun x s₄ h₄ => wpAny_bind (wpAny_mono h₄ (fun _ s₅ h₅ => wpAny_pure (wpAny_pure ⟨rfl, h₅⟩)) fun _ _ f => f.elim)) fun _ _ f => f.elim))
end
end L2
namespace L2
open PySem PySem.Spec PyProof.Rows
section
variable {X : Cx} {N : List Str} {scope : Scope} {nt : Nat} {fv : List Nat} {elt tg iter : Expr} {ifs : List Expr} {wi : TI} {g : TG} {ti : TT} {te : TE} {pos : Pos}
noncomputable def xX (its : List Value) (n : Nat) : Obj := { cls := .type "list", dict := none, data := .seq its.toArray n }
theorem comp_run (hc : X.calm = true) (B : BlkOk X N scope nt fv)
  (hg : ∀ C s₀ H₀ ex, PG (jY X N scope C s₀ H₀ ex) tg g) (ht : ∀ C s₀ H₀ ex, PTs (jY X N scope C s₀ H₀ ex) ifs ti) (he : ∀ C s₀ H₀ ex, PE (jY X N scope C s₀ H₀ ex) elt te)
  {pins : List (Addr × Obj)} {σ : St} {s2 : Shared} {H2 : Hp} {it : Addr} {fp : List Addr} {tn : Nat → Heap → Prop} {J : It} (I2 : Inv X pins σ H2 s2) (T : Turn X.prog X.w X.K tg J fp it tn) (st2 : tn 0 s2.heap) (f2 : ∀ b ∈ fp, FpOk X pins H2 b)
  {W : Nat → Nat → List V → Hp → Prop} {m0 : Nat} (w0 : W 0 m0 [] H2) {Q : VK}
  (turn : ∀ i m ys H, W i m ys H → (J.stop i H ∧ ys.length ≤ sizeLine ∧ ∀ p, H p = none → Q (.ref p) (upd H p (.lst ys))) ∨
   (J.go i H ∧ ys.length ≤ sizeLine ∧ ∀ x H', J.yld i H x H' → g x (blk nt fv σ) H' fun σ2 H2 => (∀ i, nt ≤ i → σ2[i]? = (blk nt fv σ)[i]?) ∧ ti σ2 H2 fun b H3 => if b = true then te σ2 H3 fun v H4 => ∃ m', m' < m ∧ W (i + 1) m' (ys ++ [v]) H4 else ∃ m', m' < m ∧ W (i + 1) m' ys H3))
  {RR : Value → Addr → Result → Shared → Prop}
  (hR : ∀ D C s', s2.heap.objs.size ≤ C → (∃ m, s'.heap.Ns C m) → (∀ h', Heap.SameBut C s'.heap h' → ∃ H', Inv X pins σ H' { s' with heap := h' } ∧ H' C = none ∧ Q (.ref D) H') → RR (.ref D) C (.ok .next) s') :
  wpAny (model X.prog X.w) X.A (newList []) (fun acc s₃ => wpAny (model X.prog X.w) X.A (newFunctionEnv scope X.env.globals (clGo X.env scope.names []) [] X.env.qual none .none (some X.env)) (fun cenv s₄ =>
   codeAny (model X.prog X.w) X.A (.compStart (.ListComp elt [⟨tg, iter, ifs, 0⟩] scope pos) 0 (.ref it) acc { cenv with scope := relabel scope X.env }) (RR acc cenv.locals) s₄) X.xe s₃) X.xe s2 := by
 refine wpAny_newObj_type (wpAny_newFunctionEnv B.ncell (by intro y hy; simp at hy) (fun h₁ hns₁ hsb₁ => ?_) B.kind)
 dsimp only at hns₁ hsb₁ ⊢
 generalize hH2 : s2.heap.push { cls := .type "list", dict := none, data := .seq ([] : List Value).toArray } = Hh at hns₁ hsb₁ ⊢
 have hC : Hh.objs.size = s2.heap.objs.size + 1 := by rw [← hH2, Heap.size_push]
 have hDC : s2.heap.objs.size ≠ Hh.objs.size := by rw [hC]; exact Nat.ne_of_lt (Nat.lt_succ_self _)
 have hCle : s2.heap.objs.size ≤ Hh.objs.size := by rw [hC]; exact Nat.le_succ _
 have below : ∀ b, b < s2.heap.objs.size → b ≠ Hh.objs.size ∧ b ≠ s2.heap.objs.size := fun b hb => ⟨by rw [hC]; exact Nat.ne_of_lt (Nat.lt_succ_of_lt hb), Nat.ne_of_lt hb⟩
 have old : ∀ b o, s2.heap.get? b = some o → h₁.get? b = some o := fun b o e => hsb₁.extBut b o (below b (Heap.lt_size e)).1 (Heap.get?_push_of_some _ (hH2 ▸ Heap.get?_push_of_some _ e))
 have hacc : h₁.get? s2.heap.objs.size = some (xX [] 0) := hsb₁.extBut _ _ hDC (Heap.get?_push_of_some _ (hH2 ▸ Heap.get?_push_size _ rfl))
 have flt : ∀ b ∈ fp, b < s2.heap.objs.size := fun b hb => by obtain ⟨o, e, _⟩ := T.obj 0 _ st2 b hb; exact Heap.lt_size e
 have fresh : ∀ a, s2.heap.objs.size ≤ a → s2.heap.get? a = none := fun a ha => by
  cases e : s2.heap.get? a with
  | none => rfl
  | some o' => exact absurd (Heap.lt_size e) (Nat.not_lt.mpr ha)
 have ftk : ∀ {H' : Hp} {pl : List (Addr × Obj)}, (∀ b ∈ fp, H' b = none) → (∀ p ∈ pl, p.1 ∉ fp) → ∀ b ∈ fp, FpOk (jY X N scope Hh.objs.size s2 H2 fp) pl H' b := fun {H' pl} hn hp b hb =>
  ⟨hn b hb, (below b (flt b hb)).1, fun z => by
   rcases List.mem_cons.mp (I2.stkSub b z) with z | z
   ·exact (f2 b hb).2.1 z
   ·exact (f2 b hb).2.2.1 z, .inl hb, fun x c e => (f2 b hb).2.2.2.2.1 x c (sS _ _ (B.cells I2) (fun x c e => by simp at e) x c e), fun p hp' z => hp p hp' (z ▸ hb)⟩
 have Dfp : s2.heap.objs.size ∉ fp := fun hm => Nat.lt_irrefl _ (flt _ hm)
 have Dfs : s2.heap.objs.size ∉ frs X.stack := fun z => by
  rcases List.mem_cons.mp (I2.stkSub _ z) with z | z
  ·exact Nat.lt_irrefl _ (z ▸ I2.lt)
  ·exact I2.nofs (Nat.le_refl _) z
 have Dcell : ∀ x c, (clGo X.env scope.names []).lookup x = some c → c ≠ s2.heap.objs.size := fun x c e z => by
  obtain ⟨v, q⟩ := I2.cell x c (sS _ _ (B.cells I2) (fun x c e => by simp at e) x c e)
  exact Nat.lt_irrefl _ (z ▸ q.lt)
 have Iblk : Inv (jY X N scope Hh.objs.size s2 H2 fp) [] (blk nt fv σ) H2 { s2 with heap := h₁, toks := s2.toks + ([] : List (Str × Value)).length } := blk_inv B I2 hCle f2 flt old ⟨_, hns₁⟩
 have pinD : ∀ {s' : Shared} {H' : Hp} {σ' : St} {its : List Value} {n : Nat} {pl : List (Addr × Obj)}, Inv (jY X N scope Hh.objs.size s2 H2 fp) pl σ' H' s' → s'.heap.get? s2.heap.objs.size = some (xX its n) → H' s2.heap.objs.size = none →
   Inv (jY X N scope Hh.objs.size s2 H2 fp) [(s2.heap.objs.size, xX its n)] σ' H' s' := fun I e hn => I.pins_of fun p hp => by
  rw [List.mem_singleton.mp hp]
  exact ⟨e, hn, hDC, Dfs, fun v z => by cases z⟩
 have loop : ∀ s₃ : Shared, s₃ = { s2 with heap := h₁, toks := s2.toks + ([] : List (Str × Value)).length } →
   codeAny (model X.prog X.w) X.A (.compLoop (.ListComp elt [⟨tg, iter, ifs, 0⟩] scope pos) 0 (.ref it) (.ref s2.heap.objs.size) (compEnvC scope (clGo X.env scope.names []) Hh.objs.size X.env)) (RR (.ref s2.heap.objs.size) Hh.objs.size) s₃ := by
  rintro s₃ rfl
  refine compLoop_any (fun n s' => ∃ i ys its k H', Inv (jY X N scope Hh.objs.size s2 H2 fp) [(s2.heap.objs.size, xX its k)] (blk nt fv σ) H' s' ∧ tn i s'.heap ∧ (∀ b ∈ fp, H' b = none) ∧ W i n ys H' ∧ Vals ys its) ?_ m0
   ⟨0, [], [], 0, H2, pinD Iblk hacc (I2.hok.fresh (Nat.le_refl _)), T.keep _ _ _ st2 fun b _ o e => old b o e, fun b hb => (f2 b hb).1, w0, .nil⟩
  rintro n s' ⟨i, ys, its, k, H', I', st', fr', w', vs'⟩
  obtain ⟨pd, pn, _, _, _⟩ := I'.pin (s2.heap.objs.size, xX its k) (by exact List.mem_cons_self)
  have pfp : ∀ {o : Obj}, ∀ p ∈ [(s2.heap.objs.size, o)], p.1 ∉ fp := fun p hp => by rw [List.mem_singleton.mp hp]; exact Dfp
  rcases turn i n ys H' w' with ⟨stop, hz, q⟩ | ⟨go, hz, step⟩
  ·refine wpAny_mono (T.done (jY X N scope Hh.objs.size s2 H2 fp) rfl rfl rfl hc i _ s' _ H' (fun _ _ => False) I' (ftk fr' pfp) st' stop) (fun r s1 ⟨hr, I1⟩ => ?_) fun _ _ f => f
   subst hr
   obtain ⟨pd1, pn1, _, _, _⟩ := I1.pin (s2.heap.objs.size, xX its k) (by exact List.mem_cons_self)
   obtain ⟨m, hm, _⟩ := I1.loc
   refine hR _ _ s1 hCle ⟨m, hm⟩ fun h' sb => ⟨upd H' s2.heap.objs.size (.lst ys), ?_, by rw [aY (Ne.symm hDC)]; exact I1.free, q _ pn1⟩
   have keepT : ∀ b u, H' b = some u → b ≠ Hh.objs.size := fun b u e z => by
    have e0 : H' Hh.objs.size = none := I1.free
    rw [z, e0] at e
    cases e
   have kept : ∀ b o, b ≠ Hh.objs.size → s1.heap.get? b = some o → h'.get? b = some o := fun b o hb e => sb.extBut b o hb e
   have un := I1.base
   refine I2.call' (s' := { s1 with heap := h' }) (ch := fp) I1.os ⟨fun b o e hn hb hx => ?_, fun b o e hn hb hx => ?_, fun b o e hn hx => ?_, fun b o e hx => ?_, fun b xs e => ?_, fun b o u e => ?_, fun b ps e => ?_⟩ ?_ I1.bare fun b hb => ?_
   ·exact kept b o (below b (Heap.lt_size e)).1 (un.keep b o e hn hb hx)
   ·obtain ⟨sl, e1⟩ := un.slot b o e hn hb hx
    exact ⟨sl, kept b _ (below b (Heap.lt_size e)).1 e1⟩
   ·rw [aY (below b (Heap.lt_size e)).2]
    exact un.free b o e hn hx
   ·obtain ⟨o', e1⟩ := un.there b o e hx
    exact ⟨o', kept b o' (below b (Heap.lt_size e)).1 e1⟩
   ·have e1 := un.tups b xs e
    rw [aY (aZ e1 pn1)]
    exact e1
   ·have e1 := un.frzs b o u e
    rw [aY (aZ e1 pn1)]
    exact e1
   ·obtain ⟨mo, e1⟩ := un.tbls b ps e
    exact ⟨mo, by rw [aY (aZ e1 pn1)]; exact e1⟩
   ·intro b u e
    by_cases hb : b = s2.heap.objs.size
    ·subst hb
     rw [bM] at e
     cases e
     exact ⟨hz, its, k, vs', kept _ _ hDC pd1⟩
    ·rw [aY hb] at e
     refine (I1.hok b u e).stay (fun c v hc' q' => kept c v ?_ q') (fun c q' => by rw [aY (aZ q' pn1)]; exact q') fun c xs q' => by rw [aY (aZ q' pn1)]; exact q'
     rcases hc' with z | z
     ·rw [z]; exact keepT b u e
     ·exact keepT c _ z
   ·exact ⟨(f2 b hb).2.2.2.1, (f2 b hb).2.1, (f2 b hb).2.2.2.2.1, (f2 b hb).2.2.2.2.2⟩
  ·refine wpAny_mono (T.item (jY X N scope Hh.objs.size s2 H2 fp) rfl rfl rfl hc i _ s' _ H' (fun _ _ => False) I' (ftk fr' pfp) st' go) (fun r s3 ⟨u, hr, h3⟩ => ?_) fun _ _ f => f
   subst hr
   refine wpAny_mono h3 (fun _ s4 ⟨x, H4, I4, r4, y4, st4, fr4⟩ => ?_) fun _ _ f => f
   have I4' := I4.pinned (ftk fr4 pfp) (T.obj _ _ st4)
   refine wpAny_mono (hg Hh.objs.size s2 H2 fp _ s4 _ H4 x u _ I4' r4 (step x H4 y4)) (fun _ s5 ⟨σ5, H5, I5, x5, q5⟩ => ?_) fun _ _ f => f
   refine wpAny_mono (ht Hh.objs.size s2 H2 fp _ s5 σ5 H5 _ I5 q5) (fun b s6 ⟨H6, I6, q6⟩ => ?_) fun _ _ f => f
   have weak : ∀ {s' : Shared} {H' : Hp} {pl : List (Addr × Obj)}, Inv (jY X N scope Hh.objs.size s2 H2 fp) pl σ5 H' s' → Inv (jY X N scope Hh.objs.size s2 H2 fp) pl (blk nt fv σ) H' s' := by
    intro s' H' pl I
    refine I.weak ((blk_inv B I2 hCle f2 flt old ⟨_, hns₁⟩ (tk := 0)).len.trans I.len.symm) fun j v e => ?_
    by_cases hj : nt ≤ j
    ·rw [x5 j hj]; exact e
    ·unfold blk at e
     rw [List.getElem?_append_left (by simpa using hj), List.getElem?_replicate] at e
     split at e <;> cases e
   have pnew : ∀ {s' : Shared} {H' : Hp} {σ' : St}, Inv (jY X N scope Hh.objs.size s2 H2 fp) ([(s2.heap.objs.size, xX its k)] ++ pinsAt fp s4.heap) σ' H' s' →
     s'.heap.get? s2.heap.objs.size = some (xX its k) ∧ H' s2.heap.objs.size = none ∧ tn (i + 1) s'.heap ∧ ∀ b ∈ fp, H' b = none := fun {s' H' σ'} I => by
    obtain ⟨p1, p2, _⟩ := I.pin (s2.heap.objs.size, xX its k) (by exact List.mem_cons_self)
    refine ⟨p1, p2, T.keep _ _ _ st4 fun b hb o e => (I.pin (b, o) (List.mem_append_right _ (List.mem_append_right _ (pX hb e)))).1, fun b hb => ?_⟩
    obtain ⟨o, e, d⟩ := T.obj _ _ st4 b hb
    exact (I.pin (b, o) (List.mem_append_right _ (List.mem_append_right _ (pX hb e)))).2.1
   cases b with
   | false =>
    obtain ⟨m', hm, w6⟩ := q6
    obtain ⟨p1, p2, p3, p4⟩ := pnew I6
    exact ⟨m', hm, i + 1, ys, its, k, H6, weak (pinD I6 p1 p2), p3, p4, w6, vs'⟩
   | true =>
    refine wpAny_mono (he Hh.objs.size s2 H2 fp _ s6 σ5 H6 _ I6 q6) (fun v s7 ⟨y, H7, I7, r7, q7⟩ => ?_) fun _ _ f => f
    obtain ⟨m', hm, w7⟩ := q7
    obtain ⟨p1, p2, p3, p4⟩ := pnew I7
    have hl := vs'.length
    refine wpAny_list_append_plain (l := s2.heap.objs.size) (items := its.toArray) ⟨k, p1⟩ (fun h8 pl8 sb8 => ?_) (by rw [List.size_toArray]; omega)
    obtain ⟨k8, e8⟩ := pl8
    have e8' : h8.get? s2.heap.objs.size = some (xX (its ++ [v]) k8) := by
     rw [e8]
     unfold xX
     simp
    have I7' := (weak I7).pins_of (pins' := []) fun p hp => (nomatch hp)
    have I8 : Inv (jY X N scope Hh.objs.size s2 H2 fp) [] (blk nt fv σ) H7 { s7 with heap := h8 } := I7'.turned (t' := s7.toks) (it := s2.heap.objs.size) (fun b o hb e => (sb8.2 b hb).trans e) p2 hDC (.inr (Nat.le_refl _)) Dcell (fun p hp => (nomatch hp))
    exact ⟨m', hm, i + 1, ys ++ [y], its ++ [v], k8, H7, pinD I8 e8' p2, T.keep _ _ _ p3 fun b hb o e => (sb8.2 b (fun z => Dfp (z ▸ hb))).trans e, p4, w7, vs'.append (.cons r7 .nil)⟩
 exact codeAny_compStart_list (loop _ rfl) (T.self X.A 0 _ _ _ (T.keep _ _ _ st2 fun b _ o e => old b o e) (loop _ rfl))
theorem fL (hc : X.calm = true) (B : BlkOk X N scope nt fv) (hi : PI X tg iter wi)
  (hg : ∀ C s₀ H₀ ex, PG (jY X N scope C s₀ H₀ ex) tg g) (ht : ∀ C s₀ H₀ ex, PTs (jY X N scope C s₀ H₀ ex) ifs ti) (he : ∀ C s₀ H₀ ex, PE (jY X N scope C s₀ H₀ ex) elt te)
  (hs : ∀ x, foldedSetIterable iter X.env x = pure x := by intro _; rfl) : PE X (.ListComp elt [⟨tg, iter, ifs, 0⟩] scope pos) (tComp nt fv wi g ti te) := by
 intro pins s σ H Q I h
 rw [eval_ListComp]
 refine wpAny_comprehension_free (use := none) rfl hs (clos_of (B.cells I)) B.kind B.names (thn (hi pins s σ H _ I h) fun xv s1 h1 => thn h1 fun itv s2 h2 => ?_)
 obtain ⟨it, fp, tn, J, H2, rfl, I2, T, st2, f2, W, ⟨m0, w0⟩, turn⟩ := h2
 refine comp_run hc B hg ht he I2 T st2 f2 w0 turn (RR := fun acc C => compPost (model X.prog X.w) X.A X.xe none (EP X pins σ Q) acc C) fun D C s' hC hn hq => ?_
 obtain ⟨m, hm⟩ := hn
 refine ⟨m, hm, fun h' sb => ?_⟩
 obtain ⟨H', I', _, q'⟩ := hq h' sb
 exact ⟨.ref D, H', I', rfl, q'⟩
theorem ps_setC {i : Nat} {x : Str} {pos' spos : Pos} (hN : X.N.Nodup) (hi' : X.N[i]? = some x) (hx : X.env.scope.names.lookup x = some .local) (hc : X.calm = true) (B : BlkOk X N scope nt fv) (hi : PI X tg iter wi)
  (hg : ∀ C s₀ H₀ ex, PG (jY X N scope C s₀ H₀ ex) tg g) (ht : ∀ C s₀ H₀ ex, PTs (jY X N scope C s₀ H₀ ex) ifs ti) (he : ∀ C s₀ H₀ ex, PE (jY X N scope C s₀ H₀ ex) elt te)
  (hsw : swapsWith (.ListComp elt [⟨tg, iter, ifs, 0⟩] scope pos) (some (.Name x pos')) spos.line X.env = pure true := by rfl)
  (hs : ∀ x, foldedSetIterable iter X.env x = pure x := by intro _; rfl) : PS X (.Assign [.Name x pos'] (.ListComp elt [⟨tg, iter, ifs, 0⟩] scope pos) spos) (tAsg (tComp nt fv wi g ti te) (gName i)) := by
 intro pins s σ H D I h
 rw [exec_Assign_Name_used _ _ _ _ hsw]
 refine wpAny_bind (wpAny_standAt (wpAny_bind ?_))
 show wpAny _ X.A (do let _ ← comprehension (.ListComp elt [⟨tg, iter, ifs, 0⟩] scope pos) scope X.env _ (newList []) false (eval iter X.env) (some (assign (.Name x pos') X.env))) _ _ s
 refine wpAny_bind (wpAny_mono (wpAny_comprehension_free (use := some (assign (.Name x pos') X.env)) (Q := fun _ s' => SP X pins D .next s') rfl hs (clos_of (B.cells I)) B.kind B.names
  (thn (hi pins s σ H _ I h) fun xv s1 h1 => thn h1 fun itv s2 h2 => ?_)) (fun _ s' h' => wpAny_pure (wpAny_pure h')) fun _ _ e => e)
 obtain ⟨it, fp, tn, J, H2, rfl, I2, T, st2, f2, W, ⟨m0, w0⟩, turn⟩ := h2
 refine comp_run (Q := fun v H1 => gName i v σ H1 D.nx) hc B hg ht he I2 T st2 f2 w0 turn (RR := fun acc C => compPost (model X.prog X.w) X.A X.xe (some (assign (.Name x pos') X.env)) (fun _ s' => SP X pins D .next s') acc C) fun L C s' hC hn hq => ?_
 obtain ⟨m, hm⟩ := hn
 obtain ⟨H', I', hC', q'⟩ := hq s'.heap (Heap.SameBut.refl ..)
 have hCL : C ≠ X.env.locals := fun z => by
  have := I2.lt
  rw [← z] at this
  exact Nat.lt_irrefl _ (Nat.lt_of_lt_of_le this hC)
 have Ccell : ∀ y c, X.env.cells.lookup y = some c → c ≠ C := fun y c e z => by
  obtain ⟨v, qc⟩ := I2.cell y c e
  exact Nat.lt_irrefl _ (Nat.lt_of_lt_of_le (z ▸ qc.lt) hC)
 show wpAny _ X.A (assign (.Name x pos') X.env (.ref L)) _ _ s'
 refine wpAny_assign_Name (store_ok2 (v := .ref L) I' hN hi' (.inl hx) rfl (fun s'' I'' sb'' => ?_) (.inr hx))
 obtain ⟨a, sb, ha⟩ := sb''
 have haC : C ≠ a := by
  rcases ha with z | z
  ·rw [z]; exact hCL
  ·exact (Ccell x a z).symm
 refine ⟨m, hm.sameBut sb haC, fun h' sb' => ?_⟩
 refine ⟨_, H', I''.turned (t' := s''.toks) (it := C) (fun b o hb e => (sb'.2 b hb).trans e) hC' hCL (.inr (Nat.le_trans I2.sz hC)) Ccell fun p hp z => ?_, q'⟩
 have e := (I2.pin p hp).1
 exact Nat.lt_irrefl _ (Nat.lt_of_lt_of_le (z ▸ Heap.lt_size e) hC)
end
end L2
namespace L2
open PySem PySem.Spec PyProof.Rows
noncomputable def relS (scope osc : Scope) : List (Str × NameKind) := scope.names.map fun (n, k) => if (k == .free && osc.kind == .function && osc.names.lookup n == some .cell) then (n, .cell) else (n, k)
noncomputable def blkC (osc : Scope) (ON N : List Str) (scope : Scope) (nt : Nat) (fv : List Nat) : Bool :=
 scope.kind == .function && scope.names.all (fun y => y.2 != .cell) && scope.names.all (fun y => y.2 != .local || scope.names.lookup y.1 == some .local) &&
 scope.names.all (fun y => y.2 != .free || osc.names.lookup y.1 == some .cell) && N.length == nt + fv.length &&
 (List.range fv.length).all fun i => match N[nt + i]?, fv[i]? with
  | some x, some j => ON[j]? == some x && osc.names.lookup x == some .cell && (relS scope osc).lookup x == some .cell
  | _, _ => false
theorem jM {X : Cx} {osc : Scope} {ON N : List Str} {scope : Scope} {nt : Nat} {fv : List Nat} (h : blkC osc ON N scope nt fv = true) (e1 : X.env.scope = osc := by rfl) (e2 : X.N = ON := by rfl) : BlkOk X N scope nt fv := by
 subst e1 e2
 unfold blkC at h
 simp only [Bool.and_eq_true, List.all_eq_true, Bool.or_eq_true, bne_iff_ne, ne_eq, beq_iff_eq] at h
 obtain ⟨⟨⟨⟨⟨h1, h2⟩, h3⟩, h4⟩, h5⟩, h6⟩ := h
 refine ⟨h1, h2, fun y hy e => ?_, fun y hy e => ?_, h5, fun i x e => ?_⟩
 ·rcases h3 y hy with z | z
  ·exact absurd e z
  ·exact z
 ·rcases h4 y hy with z | z
  ·exact absurd e z
  ·exact z
 ·have hi : i < fv.length := by
   have := (List.getElem?_eq_some_iff.mp e).1
   omega
  have q := h6 i (List.mem_range.mpr hi)
  rw [e, List.getElem?_eq_getElem hi] at q
  simp only [Bool.and_eq_true, beq_iff_eq] at q
  obtain ⟨⟨q1, q2⟩, q3⟩ := q
  exact ⟨fv[i], List.getElem?_eq_getElem hi, q1, q2, q3⟩
end L2
namespace L2.VS
open PySem PySem.Spec PyProof.Rows
variable {P0 : Addr → Hp → Prop}
noncomputable def jQ : MT := fun Γ Q => Q true Γ
theorem iD : VTT P0 tTrue jQ := fun _ _ _ _ _ _ _ r m k => k _ _ _ _ m (Same.refl _) r
noncomputable def blkS : Option Sl → Sl
 | some (.val d) => .val d
 | some .pen => .pen
 | some (.pub B) => .pub B
 | _ => .no
noncomputable def blkE (nt : Nat) (fv : List Nat) (Γ : En) : En := List.replicate nt .no ++ fv.map fun j => blkS Γ[j]?
noncomputable def compL (g : MG) (t : MT) (e : ME) (Γb : En) : List D → List D → (List D → Prop) → Prop
 | [], acc, Q => Q acc
 | d :: ds, acc, Q => g d Γb fun Γ1 => t Γ1 fun b Γ2 => if b = true then e Γ2 fun v _ => compL g t e Γb ds (acc ++ [v]) Q else compL g t e Γb ds acc Q
noncomputable def pD (nt : Nat) (fv : List Nat) (mi : MD) (g : MG) (t : MT) (e : ME) : MO := fun Γ Q => mi Γ fun ds Γ1 => ds.length ≤ 1000 ∧ compL g t e (blkE nt fv Γ1) ds [] fun out => Q (.own out) Γ1
theorem blk_R {F : Fra P0} {Γ : En} {σ : St} {G H G' H' : Hp} {nt : Nat} {fv : List Nat} (r : R F Γ σ G H) (rf : Rf (F.sub r.fr) G' H') (s : Same G G') : R (F.sub r.fr) (blkE nt fv Γ) (blk nt fv σ) G' H' := by
 have at_ : ∀ {i : Nat} {sl : Sl}, (blkE nt fv Γ)[i]? = some sl → sl ≠ .no → ∃ (j : Nat) (s0 : Sl), Γ[j]? = some s0 ∧ sl = blkS (some s0) ∧ (blk nt fv σ)[i]? = some ((σ[j]?).getD none) := by
  intro i sl e hn
  unfold blkE at e
  by_cases hi : i < nt
  ·rw [List.getElem?_append_left (by simpa using hi), List.getElem?_replicate] at e
   rw [if_pos hi] at e
   cases e
   exact absurd rfl hn
  ·rw [List.getElem?_append_right (by simpa using hi), List.length_replicate, List.getElem?_map] at e
   cases ej : fv[i - nt]? with
   | none => rw [ej] at e; cases e
   | some j =>
    rw [ej] at e
    have e' : blkS Γ[j]? = sl := Option.some.inj e
    cases es : Γ[j]? with
    | none => rw [es] at e'; exact absurd e'.symm hn
    | some s0 =>
     rw [es] at e'
     refine ⟨j, s0, es, e'.symm, ?_⟩
     unfold blk
     rw [List.getElem?_append_right (by simpa using hi), List.length_replicate, List.getElem?_map, ej]
     rfl
 refine R.of rf (by simp [blkE, blk]) (fun i sl e => ?_) (fun i B e => ?_) (fun i j x y _ e => ?_)
 ·cases sl with
  | no => trivial
  | val d =>
   obtain ⟨j, s0, h1, h2, h3⟩ := at_ e (by intro z; cases z)
   cases s0 with
   | val d0 =>
    cases h2
    obtain ⟨v, e1, d1⟩ := r.sl j _ h1
    rw [e1] at h3
    exact ⟨v, h3, Dt.same s _ _ d1⟩
   | _ => cases h2
  | own ds =>
   obtain ⟨j, s0, h1, h2, h3⟩ := at_ e (by intro z; cases z)
   cases s0 <;> cases h2
  | pen =>
   obtain ⟨j, s0, h1, h2, h3⟩ := at_ e (by intro z; cases z)
   cases s0 with
   | pen =>
    obtain ⟨p, e1, e2⟩ := r.sl j _ h1
    rw [e1] at h3
    exact ⟨p, h3, e2⟩
   | _ => cases h2
  | con q =>
   obtain ⟨j, s0, h1, h2, h3⟩ := at_ e (by intro z; cases z)
   cases s0 <;> cases h2
  | pub B =>
   obtain ⟨j, s0, h1, h2, h3⟩ := at_ e (by intro z; cases z)
   cases s0 with
   | pub B' =>
    cases h2
    obtain ⟨v, e1, e2⟩ := r.sl j _ h1
    rw [e1] at h3
    exact ⟨v, h3, B.mono s e2⟩
   | _ => cases h2
  | box B =>
   obtain ⟨j, s0, h1, h2, h3⟩ := at_ e (by intro z; cases z)
   cases s0 <;> cases h2
 ·obtain ⟨j, s0, h1, h2, h3⟩ := at_ e (by intro z; cases z)
  cases s0 <;> cases h2
 ·obtain ⟨j, s0, h1, h2, h3⟩ := at_ e (by intro z; cases z)
  cases s0 <;> cases h2
theorem gB {nt : Nat} {fv : List Nat} {wi : TI} {g : TG} {ti : TT} {te : TE} {mi : MD} {mg : MG} {mt : MT} {me : ME} (hi : VI P0 wi mi) (hg : VG P0 (fun i => decide (i < nt)) g mg) (ht : VTT P0 ti mt) (he : VT P0 te me) :
  VO P0 (tComp nt fv wi g ti te) (pD nt fv mi mg mt me) := by
 intro F Γ σ G H Q Qm r m k
 refine hi F Γ σ G H _ _ r m fun ds Γ1 J G1 H1 m1 s1 r1 wk => ?_
 obtain ⟨hsz, m1⟩ := m1
 refine ⟨fun i n ys H2 => n = ds.length - i ∧ i ≤ ds.length ∧ ys.length ≤ i ∧ ∃ G2 out, Rf (F.sub r1.fr) G2 H2 ∧ Same G1 G2 ∧ Dts G2 ys out ∧ compL mg mt me (blkE nt fv Γ1) (ds.drop i) out fun out => Qm (.own out) Γ1,
  ⟨ds.length, by simp, Nat.zero_le _, Nat.zero_le _, G1, [], F.subRf r1.fr, Same.refl _, .nil, by simpa using m1⟩, ?_⟩
 rintro i n ys H2 ⟨rfl, hle, hy, G2, out, rf2, s2, d2, m2⟩
 have rb := blk_R (nt := nt) (fv := fv) r1 rf2 s2
 obtain ⟨go, stop⟩ := wk (F.sub r1.fr) _ _ G2 H2 s2 rb
 have small : ys.length ≤ sizeLine := eY (by omega)
 by_cases hlt : i < ds.length
 ·refine .inr ⟨(go i ds[i] (by simp [hlt])).1, small, fun x H' hyl => ?_⟩
  obtain ⟨G3, s3, r3, d3⟩ := (go i ds[i] (by simp [hlt])).2 x H' hyl
  rw [List.drop_eq_getElem_cons hlt] at m2
  refine hg (F.sub r1.fr) _ _ G3 H' x _ _ _ r3 d3 m2 fun Γ4 σ4 m4 r4 e4 => ⟨fun j hj => e4 j (decide_eq_false (by omega)), ?_⟩
  refine ht (F.sub r1.fr) _ _ G3 H' _ _ r4 m4 fun b Γ5 G5 H5 m5 s5 r5 => ?_
  cases b with
  | true =>
   refine wH (he (F.sub r1.fr) _ _ G5 H5 _ _ r5 m5 fun d Γ6 v G6 H6 m6 s6 r6 d6 => ?_)
   refine ⟨ds.length - (i + 1), by omega, rfl, hlt, by rw [List.length_append, List.length_singleton]; omega, G6, out ++ [d], r6.fr, ((s2.trans s3).trans s5).trans s6, ?_, m6⟩
   exact (Dts.same ((s3.trans s5).trans s6) _ _ d2).app (.cons d6 .nil)
  | false =>
   refine vD ?_
   exact ⟨ds.length - (i + 1), by omega, rfl, hlt, by omega, G5, out, r5.fr, (s2.trans s3).trans s5, Dts.same (s3.trans s5) _ _ d2, m5⟩
 ·have e : i = ds.length := by omega
  subst e
  rw [List.drop_length] at m2
  refine .inl ⟨stop, small, fun p hp => ?_⟩
  obtain ⟨r7, s7⟩ := r1.after rf2
  obtain ⟨a, b, c⟩ := mZ r7 hp d2
  exact k _ _ _ _ _ m2 (s1.trans s7) a b c
theorem i_comp {nt : Nat} {fv : List Nat} {mi : MD} {mg : MG} {mt : MT} {me : ME} {Γ : En} {Q : Rv → En → Prop} (h : mi Γ fun ds Γ1 => ds.length ≤ 1000 ∧ compL mg mt me (blkE nt fv Γ1) ds [] fun out => Q (.own out) Γ1) : pD nt fv mi mg mt me Γ Q := h
theorem fD {α : Type} {mg : MG} {mt : MT} {me : ME} {Γb : En} (p : α → Bool) (f : α → D) (enc : α → D) : ∀ (xs : List α) (acc : List D) (Q : List D → Prop),
  (∀ x ∈ xs, ∀ (K : List D → Prop) (k : D → Prop) (k0 : Prop), (p x = true → k (f x)) → (p x = false → k0) → mg (enc x) Γb fun Γ1 => mt Γ1 fun b Γ2 => if b = true then me Γ2 fun v _ => k v else k0) →
  Q (acc ++ (xs.filter p).map f) → compL mg mt me Γb (xs.map enc) acc Q
 | [], acc, Q, _, q => by simpa [compL] using q
 | x :: xs, acc, Q, h, q => by
  show mg (enc x) Γb fun Γ1 => mt Γ1 fun b Γ2 => if b = true then me Γ2 fun v _ => compL mg mt me Γb (xs.map enc) (acc ++ [v]) Q else compL mg mt me Γb (xs.map enc) acc Q
  refine h x List.mem_cons_self Q (fun v => compL mg mt me Γb (xs.map enc) (acc ++ [v]) Q) _ (fun hp => ?_) fun hp => ?_
  ·refine fD p f enc xs _ Q (fun y hy => h y (List.mem_cons_of_mem _ hy)) ?_
   simpa [List.filter_cons, hp, List.append_assoc] using q
  ·refine fD p f enc xs _ Q (fun y hy => h y (List.mem_cons_of_mem _ hy)) ?_
   simpa [List.filter_cons, hp] using q
end L2.VS
namespace L2
open PySem PySem.Spec PyProof.Rows
section
variable {X : Cx}
noncomputable def insAt (n : Nat) (x : Int) : Nat := if x < 0 then (x + (n : Int)).toNat else min x.toNat n
noncomputable def vC {α : Type} (xs : List α) (x : Int) (y : α) : List α := xs.take (insAt xs.length x) ++ y :: xs.drop (insAt xs.length x)
theorem insL_len {α : Type} (xs : List α) (x : Int) (y : α) : (vC xs x y).length = xs.length + 1 := by
 unfold vC
 rw [List.length_append, List.length_cons, List.length_take, List.length_drop]
 omega
theorem Vals.ins {xs : List V} {us : List Value} (r : Vals xs us) (x : Int) {y : V} {u : Value} (h : RelV y u) : Vals (vC xs x y) (vC us x u) := by
 unfold vC
 rw [r.length]
 exact (r.take _).append (.cons h (r.drop _))
noncomputable def rInsert : V → List V → Hp → VK → Prop := fun x vs H Q => ∃ l xs i y, x = .ref l ∧ vs = [.int i, y] ∧ H l = some (.lst xs) ∧ -(2 ^ 63) ≤ i ∧ i < 2 ^ 63 ∧ xs.length < sizeLine ∧ Q .non (upd H l (.lst (vC xs i y)))
theorem yJ : MtM X "list.insert" rInsert := by
 intro pins s σ H x vs v us Q I rx rv h
 obtain ⟨l, xs, i, y, rfl, rfl, hH, h1, h2, hz, q⟩ := h
 cases rx
 obtain ⟨u0, u, rfl, ru0, ru⟩ := rv.two
 obtain ⟨t, rfl⟩ := ru0
 obtain ⟨z, its, n, r, hl, e⟩ := I.lstM hH
 have hf : Builtin.List.listFitsIndex i = true := by
  unfold Builtin.List.listFitsIndex
  rw [Bool.and_eq_true]
  exact ⟨decide_eq_true h1, decide_eq_true h2⟩
 refine call_meets F.slot_list_insert ⟨_, e, rfl⟩ F.entry_list_insert (F.args_list_insert_3 _ _ _) (PySem.AutoSeq1.list_insert_list_int_val_1 l its.toArray n i t u (by simp [hf]) (by rw [List.size_toArray]; omega)) ⟨e, ?_⟩
 refine ⟨.non, _, I.lset (its' := vC its i u) hH e ?_ (r.ins i ru) ?_, rfl, q⟩
 ·show (its.toArray.extract 0 (if i < 0 then (i + (its.toArray.size : Int)).toNat else min i.toNat its.toArray.size)).push u ++ its.toArray.extract (if i < 0 then (i + (its.toArray.size : Int)).toNat else min i.toNat its.toArray.size) = (vC its i u).toArray
  rw [List.size_toArray]
  unfold vC insAt
  generalize (if i < 0 then (i + (its.length : Int)).toNat else min i.toNat its.length) = k
  apply Array.toList_inj.mp
  simp
  exact List.take_of_length_le (by simp)
 ·rw [insL_len]
  omega
noncomputable def rE {α : Type} (ix : List Nat) (xs : List α) : List α := ix.filterMap fun i => xs[i]?
theorem Vals.pick {xs : List V} {us : List Value} (r : Vals xs us) : ∀ ix : List Nat, Vals (rE ix xs) (rE ix us)
 | [] => .nil
 | i :: ix => by
  have ih := Vals.pick r ix
  unfold rE at *
  rw [List.filterMap_cons, List.filterMap_cons]
  cases e : xs[i]? with
  | none => rw [r.none_of e]; exact ih
  | some x =>
   obtain ⟨u, hu, ru⟩ := r.get e
   rw [hu]
   exact .cons ru ih
noncomputable def qH (n : Nat) (st : Int) : List Nat := let b := sliceBounds none none (some st) n; sliceRange b.1 b.2.1 b.2.2
theorem qO (its : List Value) (st : Int) : slicePick its.toArray none none (some st) = (rE (qH its.length st) its).toArray := by
 unfold slicePick rE qH
 simp
noncomputable def rStep (K : PySem.W.Frag) : R2 := fun x y H Q => ∃ a xs st, x = .ref a ∧ y = .int st ∧ st ≠ 0 ∧ SqL K H a xs ∧ ∀ p, H p = none → Q (.ref p) (upd H p (.lst (rE (qH xs.length st) xs)))
theorem pe_step {e es : Expr} {te ts : TE} {pos p2 : Pos} (he : PE X e te) (hs : PE X es ts) : PE X (.Subscript e (.Slice none none (some es) p2) pos) (tOp (rStep X.K) te ts) := by
 intro pins s σ H Q I h
 refine Subscript_ (thn (he pins s σ H _ I h) fun v s1 ⟨x, H1, I1, r1, q1⟩ => ?_)
 refine wpAny_Slice ?_
 rw [evalPart_none]
 refine wpAny_pure (wpAny_pure ?_)
 rw [evalPart_some]
 refine thn (hs pins s1 σ H1 _ I1 q1) fun vs s3 ⟨y, H3, I3, r3, q3⟩ => ?_
 obtain ⟨a, xs, st, rfl, rfl, h0, hx, q⟩ := q3
 cases r1
 obtain ⟨t, rfl⟩ := r3
 have I4 : Inv X pins σ H3 { s3 with heap := s3.heap.push { cls := .type "slice", data := .fields #[.none, .none, .int st t] } } := I3.kept (t' := s3.toks) fun b ob q => Heap.get?_push_of_some _ q
 obtain ⟨its, r, ht, hz⟩ := I4.list hx
 have hlen := r.length
 show wpAny (model X.prog X.w) X.A (subscriptTail e (.Slice none none (some es) p2) (.ref a) (.ref s3.heap.objs.size)) (EP X pins σ Q) X.xe { s3 with heap := s3.heap.push { cls := .type "slice", data := .fields #[.none, .none, .int st t] } }
 refine tail_any (ops := [.ref a, .ref s3.heap.objs.size]) ht.isList.typeIs slot_list_getitem.lookup ?_ (by with_unfolding_all rfl)
 refine wpAny_getItem_list_slice (sl := s3.heap.objs.size) (lo := none) (hi := none) (st := some st) ht.isList (Heap.IsSliceOf.new ..) .none .none (.int st t) (by simpa using h0) ?_ (by rw [List.size_toArray] <;> omega)
 rw [qO, ← hlen]
 have hle : (rE (qH xs.length st) xs).length ≤ xs.length := by
  have := slicePick_size_le its.toArray none none (some st)
  rw [qO, List.size_toArray, List.size_toArray, ← hlen] at this
  rw [(r.pick _).length]
  exact this
 refine ⟨.ref _, _, I4.laid (t' := s3.toks) (o := .lst (rE (qH xs.length st) xs)) (fun b ob q => Heap.get?_push_of_some _ q) (Nat.le_refl _) ?_, rfl, q _ (I4.hok.fresh (Nat.le_refl _))⟩
 exact ⟨Nat.le_trans hle hz, _, 0, r.pick _, Heap.get?_push_size _ rfl⟩
end
end L2
namespace L2.VS
open PySem PySem.Spec PyProof.Rows
variable {P0 : Addr → Hp → Prop}
theorem _root_.L2.Dts.ins {G : Hp} {vs : List V} {ds : List D} (r : Dts G vs ds) (x : Int) {y : V} {d : D} (h : Dt G y d) : Dts G (vC vs x y) (vC ds x d) := by
 unfold vC
 rw [r.len]
 exact (r.tak _).app (.cons h (r.drp _))
theorem _root_.L2.Dts.pick {G : Hp} {vs : List V} {ds : List D} (r : Dts G vs ds) : ∀ ix : List Nat, Dts G (rE ix vs) (rE ix ds)
 | [] => .nil
 | i :: ix => by
  have ih := Dts.pick r ix
  unfold rE at *
  rw [List.filterMap_cons, List.filterMap_cons]
  cases e : ds[i]? with
  | none =>
   have : vs[i]? = none := by
    rw [List.getElem?_eq_none_iff] at e ⊢
    rw [r.len]; exact e
   rw [this]
   exact ih
  | some d =>
   obtain ⟨v, hv, dv⟩ := Dts.get r e
   rw [hv]
   exact .cons dv ih
noncomputable def insK (i : Nat) (x : D) (d : D) (Γ1 : En) (Q : Fl → Prop) : Prop := match Γ1[i]?, x with
 | some (.own ds), .int k => -(2 ^ 63) ≤ k ∧ k < 2 ^ 63 ∧ ds.length < 1000 ∧ Q (.nx (Γ1.set i (.own (vC ds k d))))
 | _, _ => False
noncomputable def rJ (i : Nat) (ma mb : ME) : MS := fun Γ Q => match Γ[i]? with
 | some (.own _) => ma Γ fun x Γ1 => mb Γ1 fun d Γ2 => insK i x d Γ2 Q
 | _ => False
theorem xK {K : PySem.W.Frag} {i : Nat} {ta tb : TE} {ma mb : ME} (ha : VT P0 ta ma) (hb : VT P0 tb mb) {A : Nat → Bool} : VSA P0 A (tDrop (tBM K "list" rInsert (tVar i) (fY ta (fY tb vP)))) (rJ i ma mb) := by
 intro F Γ σ G H E Qm r hm k
 unfold rJ at hm
 split at hm
 ·rename_i ds0 e0
  obtain ⟨p, vs, e1, e2, e3, e4, e5⟩ := r.sl i _ e0
  refine ⟨_, e1, .inl ⟨rfl, _, SqL.of e4⟩, ?_⟩
  refine ha F Γ σ G H _ _ r hm fun c Γ1 y G1 H1 m1 s1 r1 d1 => ?_
  refine hb F Γ1 σ G1 H1 _ _ r1 m1 fun d Γ2 x G2 H2 m2 s2 r2 d2 => ?_
  unfold insK at m2
  split at m2
  ·rename_i ds j e
   cases d1
   obtain ⟨p', ws, f1, f2, f3, f4, f5⟩ := r2.sl i _ e
   rw [e1] at f1; cases f1
   refine ⟨p, ws, j, x, rfl, rfl, f4, m2.1, m2.2.1, oY (by rw [f5.len]; exact Nat.le_of_lt m2.2.2.1), ?_⟩
   exact k _ m2.2.2.2 _ _ _ (s1.trans s2) (r2.write e e1 (f5.ins j d2)) fun _ _ => rfl
  ·exact m2.elim
 ·exact hm.elim
noncomputable def mStep (ma mb : ME) : MO := fun Γ Q => ma Γ fun x Γ1 => mb Γ1 fun y Γ2 => match x, y with
 | .list ds, .int st => st ≠ 0 ∧ Q (.own (rE (qH ds.length st) ds)) Γ2
 | _, _ => False
theorem vo_step {K : PySem.W.Frag} {ta tb : TE} {ma mb : ME} (ha : VT P0 ta ma) (hb : VT P0 tb mb) : VO P0 (tOp (rStep K) ta tb) (mStep ma mb) := by
 intro F Γ σ G H Q Qm r m k
 refine ha F Γ σ G H _ _ r m fun d Γ1 x G1 H1 m1 s1 r1 d1 => ?_
 refine hb F Γ1 σ G1 H1 _ _ r1 m1 fun e Γ2 y G2 H2 m2 s2 r2 d2 => ?_
 have d1 := Dt.same s2 _ _ d1
 split at m2
 ·cases d2
  cases d1 with
  | @lst p xs _ hp rs =>
   refine ⟨p, xs, _, rfl, rfl, m2.1, SqL.of (r2.fr.sub _ _ hp), fun l hl => ?_⟩
   rw [rs.len]
   obtain ⟨a, b, c⟩ := mZ r2 hl (rs.pick (qH _ _))
   exact k _ _ _ _ _ m2.2 (s1.trans s2) a b c
 ·exact m2.elim
theorem i_insert {i : Nat} {ma mb : ME} {Γ : En} {Q : Fl → Prop} {ds : List D} (h0 : Γ[i]? = some (.own ds)) (h : ma Γ fun x Γ1 => mb Γ1 fun d Γ2 => insK i x d Γ2 Q) : rJ i ma mb Γ Q := by
 unfold rJ
 rw [h0]
 exact h
theorem i_insK {i : Nat} {j : Int} {d : D} {Γ : En} {Q : Fl → Prop} {ds : List D} (h0 : Γ[i]? = some (.own ds)) (h1 : -(2 ^ 63) ≤ j) (h2 : j < 2 ^ 63) (h3 : ds.length < 1000) (h : Q (.nx (Γ.set i (.own (vC ds j d))))) : insK i (.int j) d Γ Q := by
 unfold insK
 rw [h0]
 exact ⟨h1, h2, h3, h⟩
theorem i_step {ma mb : ME} {Γ : En} {Q : Rv → En → Prop} (h : ma Γ fun x Γ1 => mb Γ1 fun y Γ2 => match x, y with | .list ds, .int st => st ≠ 0 ∧ Q (.own (rE (qH ds.length st) ds)) Γ2 | _, _ => False) : mStep ma mb Γ Q := h
end L2.VS
namespace L2
open PySem PySem.Spec PyProof.Rows
section
variable {X : Cx}
noncomputable def bAt (ys : List V) (i : Nat) : Bool := match ys[i]? with
 | some (.bl b) => b
 | _ => false
noncomputable def isBl : V → Bool
 | .bl _ => true
 | _ => false
theorem truth_bl {A : Around} {ys : List V} {its : List Value} (r : Vals ys its) (hb : ys.all isBl = true) : TruthOf X.prog X.w A (fun i v => its.toArray[i]? = some v) (bAt ys) := by
 intro i v s Q E hP hq
 have hv : its[i]? = some v := by simpa using hP
 have hi : i < ys.length := by
  have := (List.getElem?_eq_some_iff.mp hv).1
  rw [r.length]; exact this
 obtain ⟨u, hu, ru⟩ := r.get (List.getElem?_eq_getElem hi)
 rw [hv] at hu
 cases hu
 have hbl := List.all_eq_true.mp hb ys[i] (List.getElem_mem hi)
 unfold bAt at hq
 rw [List.getElem?_eq_getElem hi] at hq
 cases e : ys[i] with
 | bl b =>
  rw [e] at ru hq
  cases ru
  exact wpAny_truthy_bool hq
 | _ => rw [e] at hbl; cases hbl
theorem range_all (ys : List V) (bs : List Bool) (h : ys = bs.map V.bl) : (List.range ys.length).all (bAt ys) = bs.all id := by
 subst h
 rw [Bool.eq_iff_iff, List.all_eq_true, List.all_eq_true]
 constructor
 ·intro h b hb
  obtain ⟨i, hi, e⟩ := List.mem_iff_getElem.mp hb
  have q := h i (List.mem_range.mpr (by simpa using hi))
  unfold bAt at q
  rw [List.getElem?_map, List.getElem?_eq_getElem hi, e] at q
  exact q
 ·intro h i hi
  have hi' : i < bs.length := by simpa using List.mem_range.mp hi
  unfold bAt
  rw [List.getElem?_map, List.getElem?_eq_getElem hi']
  exact h _ (List.getElem_mem hi')
theorem all_bl (bs : List Bool) : (bs.map V.bl).all isBl = true := by simp [isBl]
theorem consume (hc : X.calm = true) {pins : List (Addr × Obj)} {σ : St} {H : Hp} {s : Shared} {p : Addr} {bs : List Bool} {f : (Nat → Bool) → List Nat → Bool} {Q : Value → Shared → Prop} (I : Inv X pins σ H s) (hx : SqL X.K H p (bs.map V.bl))
  (h : ∀ s', Inv X pins σ H s' → Q (.bool (f (bAt (bs.map V.bl)) (List.range (bs.map V.bl).length))) s') :
  wpAny (model X.prog X.w) X.A.in1 (pyIter (.ref p)) (fun it s₂ => ∃ I fp wr n P St tr, it = .ref I ∧ Walks X.prog X.w X.A.in1 I fp wr n P St ∧ St 0 s₂.heap ∧ TruthOf X.prog X.w X.A.in1 P tr ∧
   ∀ h' tk, (∀ b o, b ∉ wr → s₂.heap.get? b = some o → h'.get? b = some o) → Q (.bool (f tr (List.range n))) { s₂ with heap := h', toks := tk }) X.xe s := by
 obtain ⟨its, r, ht, hz⟩ := I.list hx
 have hlt : p < s.heap.objs.size := by
  obtain ⟨o, ho, _⟩ := ht.isList
  exact Heap.lt_size ho
 refine wpAny_pyIter_list ht.isList ?_
 refine ⟨s.heap.objs.size, _, _, _, _, _, bAt (bs.map V.bl), rfl, Walks.list (A := X.A.in1) (show X.A.in1.handled = none from I.ok.hd hc) s.heap.objs.size p (Nat.ne_of_lt hlt) its.toArray, ⟨⟨_, Heap.get?_push_size _ rfl, rfl, rfl⟩, ?_⟩, truth_bl r (all_bl bs), fun h' tk hk => ?_⟩
 ·obtain ⟨o, ho, q⟩ := ht.isList
  exact ⟨o, Heap.get?_push_of_some _ ho, q⟩
 ·have hl : its.toArray.size = (bs.map V.bl).length := by rw [List.size_toArray]; exact r.length.symm
  rw [hl]
  refine h _ (I.kept (h' := h') (t' := tk) fun b o e => hk b o (by simp; exact Nat.ne_of_lt (Heap.lt_size e)) (Heap.get?_push_of_some _ e))
theorem call_allL (hc : X.calm = true) : CallR X (.builtin "all") (fun xs H Q => ∃ (p : Addr) (bs : List Bool), xs = [.ref p] ∧ SqL X.K H p (bs.map V.bl) ∧ Q (.bl (bs.all id)) H) := by
 intro pins s σ H xs us Q I r h
 obtain ⟨p, bs, rfl, hx, q⟩ := h
 obtain ⟨u, rfl, ru⟩ := vals1 r
 cases ru
 exact call_all_walk (consume (f := fun tr l => l.all tr) hc I hx fun s' I' => ⟨.bl _, H, I', rfl, by rw [range_all _ bs rfl]; exact q⟩)
end
end L2
namespace L2.VS
open PySem PySem.Spec PyProof.Rows
variable {P0 : Addr → Hp → Prop}
noncomputable def sG : List D → Option (List Bool)
 | [] => some []
 | .bool b :: ds => (sG ds).map (b :: ·)
 | _ :: _ => none
theorem boolsD_map (bs : List Bool) : sG (bs.map PyData.bool) = some bs := by
 induction bs with
 | nil => rfl
 | cons b bs ih => show (sG (bs.map PyData.bool)).map (b :: ·) = _; rw [ih]; rfl
theorem bools_vals {G : Hp} : ∀ {vs : List V} {ds : List D} {bs : List Bool}, Dts G vs ds → sG ds = some bs → vs = bs.map V.bl
 | _, _, _, .nil, e => by cases e; rfl
 | _, d :: ds, bs, .cons a b, e => by
  cases a with
  | bl c =>
   show _
   have e' : (sG ds).map (c :: ·) = some bs := e
   cases e2 : sG ds with
   | none => rw [e2] at e'; cases e'
   | some cs =>
    rw [e2] at e'
    cases e'
    rw [bools_vals b e2]
    rfl
  | _ => cases e
noncomputable def mBs (f : List Bool → Bool) (ma : ME) : ME := fun Γ Q => ma Γ fun x Γ1 => match x with
 | .list ds => (match sG ds with
  | some bs => Q (.bool (f bs)) Γ1
  | none => False)
 | _ => False
abbrev mAll := mBs fun bs => bs.all id
theorem vt_bs {K : PySem.W.Frag} {f : List Bool → Bool} {ta : TE} {ma : ME} (ha : VT P0 ta ma) : VT P0 (tCB (fun xs H Q => ∃ (p : Addr) (bs : List Bool), xs = [.ref p] ∧ SqL K H p (bs.map V.bl) ∧ Q (.bl (f bs)) H) (fY ta vP)) (mBs f ma) := by
 intro F Γ σ G H Q Qm r m k
 refine ha F Γ σ G H _ _ r m fun d Γ1 x G1 H1 m1 s1 r1 d1 => ?_
 split at m1
 ·split at m1
  ·rename_i bs e
   cases d1 with
   | @lst p xs _ hp rs =>
    refine ⟨p, bs, rfl, SqL.of ?_, k _ _ _ _ _ m1 s1 r1 (.bl _)⟩
    rw [← bools_vals rs e]
    exact r1.fr.sub _ _ hp
  ·exact m1.elim
 ·exact m1.elim
theorem vt_all {K : PySem.W.Frag} {ta : TE} {ma : ME} (ha : VT P0 ta ma) : VT P0 (tCB (fun xs H Q => ∃ (p : Addr) (bs : List Bool), xs = [.ref p] ∧ SqL K H p (bs.map V.bl) ∧ Q (.bl (bs.all id)) H) (fY ta vP)) (mAll ma) := vt_bs ha
noncomputable def mChain (p p' : Int → Int → Bool) (ma mb mc : ME) : ME := fun Γ Q => ma Γ fun x Γ1 => mb Γ1 fun y Γ2 => match x, y with
 | .int i, .int j => if p i j = true then mc Γ2 fun z Γ3 => (match z with
   | .int l => Q (.bool (p' j l)) Γ3
   | _ => False) else Q (.bool false) Γ2
 | _, _ => False
theorem vt_chain {p p' : Int → Int → Bool} {ta tb tc : TE} {ma mb mc : ME} (ha : VT P0 ta ma) (hb : VT P0 tb mb) (hc : VT P0 tc mc) :
  VT P0 (tChain (rI0 fun i j => .bl (p i j)) (rI0 fun i j => .bl (p' i j)) ta tb tc) (mChain p p' ma mb mc) := by
 intro F Γ σ G H Q Qm r m k
 refine ha F Γ σ G H _ _ r m fun d Γ1 x G1 H1 m1 s1 r1 d1 => ?_
 refine hb F Γ1 σ G1 H1 _ _ r1 m1 fun e Γ2 y G2 H2 m2 s2 r2 d2 => ?_
 split at m2
 ·cases d1; cases d2
  rename_i i j
  refine ⟨i, j, rfl, rfl, p i j, rfl, ?_⟩
  cases hp : p i j with
  | true =>
   rw [hp] at m2
   refine wH (hc F Γ2 σ G2 H2 _ _ r2 m2 fun z Γ3 w G3 H3 m3 s3 r3 d3 => ?_)
   split at m3
   ·cases d3
    exact ⟨_, _, rfl, rfl, k _ _ _ _ _ m3 ((s1.trans s2).trans s3) r3 (.bl _)⟩
   ·exact m3.elim
  | false =>
   rw [hp] at m2
   exact vD (k _ _ _ _ _ m2 (s1.trans s2) r2 (.bl _))
 ·exact m2.elim
theorem i_bs {f : List Bool → Bool} {ma : ME} {Γ : En} {Q : D → En → Prop} (h : ma Γ fun x Γ1 => match x with | .list ds => (match sG ds with | some bs => Q (.bool (f bs)) Γ1 | none => False) | _ => False) : mBs f ma Γ Q := h
theorem i_chain {p p' : Int → Int → Bool} {ma mb mc : ME} {Γ : En} {Q : D → En → Prop} (h : ma Γ fun x Γ1 => mb Γ1 fun y Γ2 => match x, y with
 | .int i, .int j => if p i j = true then mc Γ2 fun z Γ3 => (match z with
   | .int l => Q (.bool (p' j l)) Γ3
   | _ => False) else Q (.bool false) Γ2
 | _, _ => False) : mChain p p' ma mb mc Γ Q := h
end L2.VS
namespace L2.VS
open PySem PySem.Spec PyProof.Rows
variable {P0 : Addr → Hp → Prop}
noncomputable def tameS : Option Sl → Sl
 | some (.val d) => if zK d = true then .val d else .no
 | some (.own es) => if oH es = true then .own es else .no
 | some .pen => .pen
 | _ => .no
noncomputable def backE (as : List Nat) (Γ Γ1 : En) : En := (List.range Γ.length).map fun j => if as.contains j = true then tameS Γ1[j]? else (Γ[j]?).getD .no
noncomputable def mPeekS (as : List Nat) (m : MS) : MS := fun Γ Q => m (zE Γ) fun fl => match fl with
 | .nx Γ1 => Γ1.length = Γ.length ∧ Q (.nx (backE as Γ Γ1))
 | .bk Γ1 => Γ1.length = Γ.length ∧ Q (.bk (backE as Γ Γ1))
 | .ct Γ1 => Γ1.length = Γ.length ∧ Q (.ct (backE as Γ Γ1))
 | .rt rv => Q (.rt rv)
theorem i_peekS {as : List Nat} {m : MS} {Γ : En} {Q : Fl → Prop} (h : m (zE Γ) fun fl => match fl with
 | .nx Γ1 => Γ1.length = Γ.length ∧ Q (.nx (backE as Γ Γ1))
 | .bk Γ1 => Γ1.length = Γ.length ∧ Q (.bk (backE as Γ Γ1))
 | .ct Γ1 => Γ1.length = Γ.length ∧ Q (.ct (backE as Γ Γ1))
 | .rt rv => Q (.rt rv)) : mPeekS as m Γ Q := h
end L2.VS
namespace L2.VS
open PySem PySem.Spec PyProof.Rows
noncomputable def Pen2 (K : PySem.W.Frag) (pen a : Addr) (ns : List Int) (H : Hp) : Prop := ∃ z k : Int, 0 ≤ z ∧ 0 ≤ k ∧ H pen = some (.lst [.int z, .int k, .ref a]) ∧ SqL K H a (ns.map V.int)
theorem penS2 {K : PySem.W.Frag} {pen a : Addr} {ns : List Int} {z k : Int} {H H' : Hp} (hp : H pen = some (.lst [.int z, .int k, .ref a])) (h : SqL K H a (ns.map V.int)) (e : SameX pen H H') : SqL K H' a (ns.map V.int) := by
 rcases h with (h | ⟨o, h⟩) | h
 ·refine .inl (.inl (e _ _ ?_ h))
  rintro rfl
  rw [hp] at h
  injection h with h
  injection h with h
  have h2 : ([V.int z, V.int k, V.ref a] : List V)[2]? = (ns.map V.int)[2]? := by rw [h]
  rw [List.getElem?_map] at h2
  cases e2 : ns[2]? with
  | none => rw [e2] at h2; cases h2
  | some n => rw [e2] at h2; cases h2
 ·refine .inl (.inr ⟨o, e _ _ ?_ h⟩)
  rintro rfl
  rw [hp] at h
  cases h
 ·exact .inr h
noncomputable def spTake2 (K : PySem.W.Frag) : Sp := fun vs H Q _ => ∃ pen a ns, ∃ m : Int, vs = [.ref pen, .int m] ∧ Pen2 K pen a ns H ∧ 0 < m ∧ m < 1073741824 ∧ ∀ (r : Int) H', 0 ≤ r → r < m → Pen2 K pen a ns H' → SameX pen H H' → Q (.int r) H'
noncomputable def b8 (K : PySem.W.Frag) (a : Addr) (ns : List Int) : Addr → Hp → Prop := fun p H => Pen2 K p a ns H
theorem take_of2 {K : PySem.W.Frag} {a : Addr} {ns : List Int} : ∀ vs H Q E, spM (b8 K a ns) 2 mTake vs H Q E → spTake2 K vs H Q E := by
 rintro vs H Q E ⟨F, as, Qm, rfl, rf, pr, hl, hm, q⟩
 unfold mTake at hm
 split at hm
 ·rename_i m
  cases pr with
  | cons a1 b1 =>
   cases b1 with
   | cons a2 b2 =>
    cases b2
    obtain ⟨p, rfl, ep⟩ := a1
    have a2 : Dt F.G0 _ (.int m) := a2
    cases a2
    refine ⟨p, a, ns, m, rfl, rf.pn p ep, hm.1, hm.2.1, fun r H' h1 h2 hp hx => ?_⟩
    refine q _ _ F.G0 H' (hm.2.2 r h1 h2) ⟨fun b o e => hx b o (fun z => ?_) (rf.sub b o e), fun _ _ _ => rfl, fun b o e hb => hx b o (fun z => hb (by rw [z]; exact ep)) e, fun p' ep' => ?_⟩ (.int _)
    ·rw [z, F.pg p ep] at e; cases e
    ·rw [ep] at ep'; cases ep'; exact hp
 ·exact hm.elim
theorem pen_stab2 {K : PySem.W.Frag} {a : Addr} {ns : List Int} {pen : Addr} {H0 : Hp} (h0 : ∃ o, H0 pen = some o) (hS : SqL K H0 a (ns.map V.int)) : ∀ H H', (∀ b o, H0 b = some o → H' b = H b) → b8 K a ns pen H → b8 K a ns pen H' := by
 rintro H H' h ⟨z, k, hz, hk, e, s⟩
 obtain ⟨o, e0⟩ := h0
 refine ⟨z, k, hz, hk, (h pen o e0).trans e, ?_⟩
 rcases hS with (q | ⟨ob, q⟩) | q
 ·have ea := h a _ q
  rcases s with (s | ⟨ob', s⟩) | s
  ·exact .inl (.inl (ea.trans s))
  ·exact .inl (.inr ⟨ob', ea.trans s⟩)
  ·exact .inr s
 ·have ea := h a _ q
  rcases s with (s | ⟨ob', s⟩) | s
  ·exact .inl (.inl (ea.trans s))
  ·exact .inl (.inr ⟨ob', ea.trans s⟩)
  ·exact .inr s
 ·exact .inr q
theorem law_go2 {K : PySem.W.Frag} {a : Addr} {ns : List Int} {k : Nat} {t : TS} {b : MS} {H : Hp} {pen : Addr} {Q : VK} {nx : St → Hp → Prop} (h : VS (b8 K a ns) t b) (hp : H pen = none) (hS : SqL K H a (ns.map V.int))
    (hb : b (.no :: .pen :: List.replicate k .no) nG) (q : ∀ H', Q (.bl true) H') :
    t { nx := nx, rt := Q } (some (.ref a) :: some (.ref pen) :: List.replicate k none) (upd H pen (.lst [.int 0, .int 0, .ref a])) := by
  have g := mY hp (.lst [.int 0, .int 0, .ref a])
  have hS' := g.seq hS
  let F : Fra (b8 K a ns) :=
    { H0 := upd H pen (.lst [.int 0, .int 0, .ref a])
      G0 := fun _ => none
      pen := some pen
      stab := fun p e => by cases e; exact pen_stab2 ⟨_, bM⟩ hS'
      pin := fun p e H1 h1 => by obtain ⟨z, k, _, _, e1, _⟩ := h1; exact ⟨_, e1⟩
      pin0 := fun p e => by cases e; exact ⟨_, bM⟩
      pg := fun _ _ => rfl }
  refine h F (.no :: .pen :: List.replicate k .no) _ F.G0 _ _ nG (R.of ⟨fun b o e => (nomatch e), fun _ _ _ => rfl, fun _ _ e _ => e, fun p e => ?_⟩ ?_ (fun i s e => ?_) (fun i B e => ?_) (fun i j x y _ e => ?_)) hb fun fl e => ?_
  · cases e
    exact ⟨0, 0, by decide, by decide, bM, hS'⟩
  · simp
  · match i with
    | 0 => cases e; trivial
    | 1 => cases e; exact ⟨pen, rfl, rfl⟩
    | i + 2 =>
      have e' : (List.replicate k Sl.no)[i]? = some s := by simpa using e
      rw [List.getElem?_replicate] at e'
      split at e'
      · cases e'; trivial
      · cases e'
  · match i with
    | 0 => cases e
    | 1 => cases e
    | i + 2 =>
      have e' : (List.replicate k Sl.no)[i]? = some (.box B) := by simpa using e
      rw [List.getElem?_replicate] at e'
      split at e'
      · cases e'
      · cases e'
  · match i with
    | 0 => cases e
    | 1 => cases e
    | i + 2 =>
      have e' : (List.replicate k Sl.no)[i]? = some (.own x) := by simpa using e
      rw [List.getElem?_replicate] at e'
      split at e'
      · cases e'
      · cases e'
  · unfold nG at e
    subst e
    intro r G' H' _ _ hr
    have hr : Dt G' r (.bool true) := hr
    cases hr
    exact q H'
theorem law_body2 {K : PySem.W.Frag} {a : Addr} {ns : List Int} {k : Nat} {b : MS} {H : Hp} {Q : VK} {nx : St → Hp → Prop} {X : Cx} {st : Stmt} {rest : List Stmt} {N : List Str}
  (h1 : PS X st (tAsg (tLst (fY (tC (.int 0)) (fY (tC (.int 0)) (fY (tVar 0) vP)))) (gName 1))) (h2 : ∃ t, PSs X rest t ∧ VS (b8 K a ns) t b) (hN : N.length = k + 2) (hS : SqL K H a (ns.map V.int))
  (hb : b (.no :: .pen :: List.replicate k .no) nG) (q : ∀ H', Q (.bl true) H') : ∃ t, PSs X (st :: rest) t ∧ t { nx := nx, rt := Q } (start N [.ref a]) H := by
 obtain ⟨t, h2, h3⟩ := h2
 refine ⟨_, aG h1 h2, ?_⟩
 have e : start N [.ref a] = some (.ref a) :: none :: List.replicate k none := by
  unfold start
  rw [hN]
  rfl
 rw [e]
 refine ⟨_, rfl, small_b rfl, fun pen hp => ?_⟩
 exact law_go2 (t := t) h3 hp hS hb q
end L2.VS
namespace L2.VS
open PySem PySem.Spec PyProof.Rows
variable {P0 : Addr → Hp → Prop} {K : PySem.W.Frag}
noncomputable def mSlT (ma : ME) (ml mh : MP) : ME := fun Γ Q => ma Γ fun x Γ1 => ml Γ1 fun lo Γ2 => mh Γ2 fun hi Γ3 => match x with
 | .tuple ds => ¬ (HT.sIx ds.length 0 lo = 0 ∧ HT.sIx ds.length ds.length hi = ds.length) ∧ Q (.tuple (cutD ds lo hi)) Γ3
 | _ => False
noncomputable def mCatT (ma mb : ME) : ME := fun Γ Q => ma Γ fun x Γ1 => mb Γ1 fun y Γ2 => match x, y with
 | .tuple ds, .tuple es => ds ≠ [] ∧ es ≠ [] ∧ ds.length + es.length ≤ 1000 ∧ Q (.tuple (ds ++ es)) Γ2
 | _, _ => False
theorem i_slT {ma : ME} {ml mh : MP} {Γ : En} {Q : D → En → Prop} (h : ma Γ fun x Γ1 => ml Γ1 fun lo Γ2 => mh Γ2 fun hi Γ3 => match x with | .tuple ds => ¬ (HT.sIx ds.length 0 lo = 0 ∧ HT.sIx ds.length ds.length hi = ds.length) ∧ Q (.tuple (cutD ds lo hi)) Γ3 | _ => False) : mSlT ma ml mh Γ Q := h
theorem i_catT {ma mb : ME} {Γ : En} {Q : D → En → Prop} (h : ma Γ fun x Γ1 => mb Γ1 fun y Γ2 => match x, y with | .tuple ds, .tuple es => ds ≠ [] ∧ es ≠ [] ∧ ds.length + es.length ≤ 1000 ∧ Q (.tuple (ds ++ es)) Γ2 | _, _ => False) : mCatT ma mb Γ Q := h
end L2.VS
namespace LT
abbrev Ln := Rat × Rat
noncomputable def pl (l : Ln) (t : Rat) : Rat := l.1 + l.2 * t
noncomputable def mt (l k : Ln) : Rat := (k.1 - l.1) / (l.2 - k.2)
theorem pl_sub {l k : Ln} (h : l.2 ≠ k.2) (t : Rat) : pl l t - pl k t = (l.2 - k.2) * (t - mt l k) := by
 unfold pl mt
 have e := Rat.div_mul_cancel (a := k.1 - l.1) (b := l.2 - k.2) (by grind)
 generalize (k.1 - l.1) / (l.2 - k.2) = m at *
 grind
theorem u6 {l k : Ln} (h : l.2 ≠ k.2) : mt k l = mt l k := by
 unfold mt
 have e := Rat.div_mul_cancel (a := k.1 - l.1) (b := l.2 - k.2) (by grind)
 have e' := Rat.div_mul_cancel (a := l.1 - k.1) (b := k.2 - l.2) (by grind)
 generalize (k.1 - l.1) / (l.2 - k.2) = m at *
 generalize (l.1 - k.1) / (k.2 - l.2) = n at *
 have : (l.2 - k.2) * (m - n) = 0 := by grind
 rcases Rat.mul_eq_zero.mp this with z | z <;> grind
theorem mt_iff {l k : Ln} (h : l.2 ≠ k.2) {t : Rat} : pl l t = pl k t ↔ t = mt l k := by
 have e := pl_sub h t
 constructor
 ·intro z
  have : (l.2 - k.2) * (t - mt l k) = 0 := by grind
  rcases Rat.mul_eq_zero.mp this with z | z <;> grind
 ·intro z
  rw [z] at e ⊢
  grind
noncomputable def ahB (l k : Ln) (i j : Int) (t : Rat) : Bool := if pl l t = pl k t then (if l.2 = k.2 then decide (i < j) else decide (k.2 < l.2)) else decide (pl k t < pl l t)
theorem ah_lt {l k : Ln} {i j : Int} {t : Rat} (h : l.2 ≠ k.2) (ht : t < mt l k) : ahB l k i j t = decide (l.2 < k.2) := by
 have e := pl_sub h t
 have n : pl l t ≠ pl k t := fun z => by have := (mt_iff h).mp z; grind
 unfold ahB
 rw [if_neg n, decide_eq_decide]
 have hm : 0 < mt l k - t := by grind
 constructor
 ·intro z
  apply Classical.byContradiction
  intro c
  have := Rat.mul_pos (a := l.2 - k.2) (b := mt l k - t) (by grind) hm
  grind
 ·intro z
  have := Rat.mul_pos (a := k.2 - l.2) (b := mt l k - t) (by grind) hm
  grind
theorem ah_ge {l k : Ln} {i j : Int} {t : Rat} (h : l.2 ≠ k.2) (ht : mt l k ≤ t) : ahB l k i j t = decide (k.2 < l.2) := by
 have e := pl_sub h t
 unfold ahB
 by_cases hq : pl l t = pl k t
 ·rw [if_pos hq, if_neg h]
 ·have hm : 0 < t - mt l k := by
   have : t ≠ mt l k := fun z => hq ((mt_iff h).mpr z)
   grind
  rw [if_neg hq, decide_eq_decide]
  constructor
  ·intro z
   apply Classical.byContradiction
   intro c
   have := Rat.mul_pos (a := k.2 - l.2) (b := t - mt l k) (by grind) hm
   grind
  ·intro z
   have := Rat.mul_pos (a := l.2 - k.2) (b := t - mt l k) (by grind) hm
   grind
theorem z6 {l k : Ln} {i j : Int} {t : Rat} (h : l.2 = k.2) : ahB l k i j t = if l.1 = k.1 then decide (i < j) else decide (k.1 < l.1) := by
 unfold ahB pl
 rw [h]
 by_cases c : l.1 = k.1
 ·rw [if_pos (by rw [c]), if_pos rfl, if_pos c]
 ·rw [if_neg (by grind), if_neg c, decide_eq_decide]
  grind
noncomputable def nxC (l k : Ln) (t : Rat) : Option Rat := if l.2 = k.2 then none else if t < mt l k then some (mt l k) else none
theorem nxC_symm (l k : Ln) (t : Rat) : nxC k l t = nxC l k t := by
 unfold nxC
 by_cases h : l.2 = k.2
 ·rw [if_pos h, if_pos h.symm]
 ·rw [if_neg h, if_neg (Ne.symm h), u6 h]
theorem nxC_none {l k : Ln} {i j : Int} {t p : Rat} (h : nxC l k t = none) (hp : t < p) : ahB l k i j p = ahB l k i j t := by
 unfold nxC at h
 by_cases hs : l.2 = k.2
 ·rw [z6 hs, z6 hs]
 ·rw [if_neg hs] at h
  by_cases ht : t < mt l k
  ·rw [if_pos ht] at h; cases h
  ·rw [ah_ge hs (by grind), ah_ge hs (by grind)]
theorem vW {l k : Ln} {t m : Rat} (h : nxC l k t = some m) : l.2 ≠ k.2 ∧ t < m ∧ m = mt l k := by
 unfold nxC at h
 by_cases hs : l.2 = k.2
 ·rw [if_pos hs] at h; cases h
 ·rw [if_neg hs] at h
  by_cases ht : t < mt l k
  ·rw [if_pos ht] at h; cases h; exact ⟨hs, ht, rfl⟩
  ·rw [if_neg ht] at h; cases h
theorem nxC_at {l k : Ln} {i j : Int} {t m : Rat} (h : nxC l k t = some m) : ahB l k i j m = !ahB l k i j t := by
 obtain ⟨hs, ht, rfl⟩ := vW h
 rw [ah_ge hs (by grind), ah_lt hs ht]
 by_cases c : k.2 < l.2
 ·rw [decide_eq_true c, decide_eq_false (by grind)]; rfl
 ·rw [decide_eq_false c, decide_eq_true (by grind)]; rfl
theorem nxC_mid {l k : Ln} {i j : Int} {t m p : Rat} (h : nxC l k t = some m) (hp : p < m) : ahB l k i j p = ahB l k i j t := by
 obtain ⟨hs, ht, rfl⟩ := vW h
 rw [ah_lt hs hp, ah_lt hs ht]
noncomputable def mtO (l k : Ln) : Option Rat := if l.2 = k.2 then none else some (mt l k)
end LT
namespace LT
theorem uN {l k : Ln} {i j : Int} {t : Rat} : ahB l k i j t = true ↔ pl k t < pl l t ∨ (pl l t = pl k t ∧ (k.2 < l.2 ∨ (l.2 = k.2 ∧ i < j))) := by
 unfold ahB
 by_cases h1 : pl l t = pl k t
 ·rw [if_pos h1]
  by_cases h2 : l.2 = k.2
  ·rw [if_pos h2, decide_eq_true_eq]; grind
  ·rw [if_neg h2, decide_eq_true_eq]; grind
 ·rw [if_neg h1, decide_eq_true_eq]; grind
theorem ahB_trans {l k m : Ln} {i j n : Int} {t : Rat} (h1 : ahB l k i j t = true) (h2 : ahB k m j n t = true) : ahB l m i n t = true := by
 rw [uN] at *
 grind
theorem ahB_asymm {l k : Ln} {i j : Int} {t : Rat} (h1 : ahB l k i j t = true) : ahB k l j i t = false := by
 cases h : ahB k l j i t with
 | false => rfl
 | true =>
  rw [uN] at *
  grind
theorem ahB_total {l k : Ln} {i j : Int} {t : Rat} (h : i ≠ j) : ahB l k i j t = true ∨ ahB k l j i t = true := by
 rw [uN, uN]
 grind
noncomputable def ahN (ls : List Ln) (t : Rat) (i j : Nat) : Bool := match ls[i]?, ls[j]? with
 | some l, some k => ahB l k i j t
 | _, _ => false
theorem gC {ls : List Ln} {t : Rat} {i j : Nat} {l k : Ln} (h1 : ls[i]? = some l) (h2 : ls[j]? = some k) : ahN ls t i j = ahB l k i j t := by unfold ahN; rw [h1, h2]
structure Strict (a : Nat → Nat → Bool) (n : Nat) : Prop where
 asymm : ∀ i j, i < n → j < n → a i j = true → a j i = false
 trans : ∀ i j k, i < n → j < n → k < n → a i j = true → a j k = true → a i k = true
 total : ∀ i j, i < n → j < n → i ≠ j → a i j = true ∨ a j i = true
theorem Strict.irr {a : Nat → Nat → Bool} {n i : Nat} (h : Strict a n) (hi : i < n) : a i i = false := by
 cases e : a i i with
 | false => rfl
 | true => rw [h.asymm i i hi hi e] at e; cases e
theorem Strict.flip {a : Nat → Nat → Bool} {n i j : Nat} (h : Strict a n) (hi : i < n) (hj : j < n) (hij : i ≠ j) : a j i = !a i j := by
 cases e : a i j with
 | true => rw [h.asymm i j hi hj e]; rfl
 | false =>
  rcases h.total i j hi hj hij with z | z
  ·rw [e] at z; cases z
  ·rw [z]; rfl
theorem cL (ls : List Ln) (t : Rat) : Strict (ahN ls t) ls.length := by
 refine ⟨fun i j hi hj h => ?_, fun i j k hi hj hk h1 h2 => ?_, fun i j hi hj hij => ?_⟩
 ·rw [gC (List.getElem?_eq_getElem hi) (List.getElem?_eq_getElem hj)] at h
  rw [gC (List.getElem?_eq_getElem hj) (List.getElem?_eq_getElem hi)]
  exact ahB_asymm h
 ·rw [gC (List.getElem?_eq_getElem hi) (List.getElem?_eq_getElem hj)] at h1
  rw [gC (List.getElem?_eq_getElem hj) (List.getElem?_eq_getElem hk)] at h2
  rw [gC (List.getElem?_eq_getElem hi) (List.getElem?_eq_getElem hk)]
  exact ahB_trans h1 h2
 ·rw [gC (List.getElem?_eq_getElem hi) (List.getElem?_eq_getElem hj), gC (List.getElem?_eq_getElem hj) (List.getElem?_eq_getElem hi)]
  exact ahB_total (by omega)
abbrev Srt (a : Nat → Nat → Bool) (xs : List Nat) : Prop := xs.Pairwise fun x y => a x y = true
theorem srt_unique {a : Nat → Nat → Bool} {n : Nat} (h : Strict a n) : ∀ {xs ys : List Nat}, (∀ x ∈ xs, x < n) → Srt a xs → Srt a ys → (∀ x, x ∈ xs ↔ x ∈ ys) → xs = ys
 | [], [], _, _, _, _ => rfl
 | [], y :: ys, _, _, _, e => absurd ((e y).mpr List.mem_cons_self) (by simp)
 | x :: xs, [], _, _, _, e => absurd ((e x).mp List.mem_cons_self) (by simp)
 | x :: xs, y :: ys, hn, h1, h2, e => by
  have hx := hn x List.mem_cons_self
  have hy := hn y ((e y).mpr List.mem_cons_self)
  obtain ⟨p1, q1⟩ := List.pairwise_cons.mp h1
  obtain ⟨p2, q2⟩ := List.pairwise_cons.mp h2
  have exy : x = y := by
   rcases List.mem_cons.mp ((e x).mp List.mem_cons_self) with z | z
   ·exact z
   ·rcases List.mem_cons.mp ((e y).mpr List.mem_cons_self) with z2 | z2
    ·exact z2.symm
    ·have := h.asymm x y hx hy (p1 y z2)
     rw [p2 x z] at this; cases this
  subst exy
  have nx : ∀ z, z ∈ xs → z ≠ x := fun z hz c => by
   have := p1 z hz
   rw [c, h.irr hx] at this; cases this
  have ny : ∀ z, z ∈ ys → z ≠ x := fun z hz c => by
   have := p2 z hz
   rw [c, h.irr hx] at this; cases this
  rw [srt_unique h (fun z hz => hn z (List.mem_cons_of_mem _ hz)) q1 q2 fun z => ?_]
  constructor
  ·intro hz
   rcases List.mem_cons.mp ((e z).mp (List.mem_cons_of_mem _ hz)) with c | c
   ·exact absurd c (nx z hz)
   ·exact c
  ·intro hz
   rcases List.mem_cons.mp ((e z).mpr (List.mem_cons_of_mem _ hz)) with c | c
   ·exact absurd c (ny z hz)
   ·exact c
noncomputable def cO (a : Nat → Nat → Bool) (xs : List Nat) (k : Nat) : List Nat := ((xs.filter fun o => !a k o) ++ [k]) ++ xs.filter fun o => a k o
noncomputable def nW (a : Nat → Nat → Bool) : Nat → List Nat
 | 0 => []
 | n + 1 => cO a (nW a n) n
noncomputable def ord (ls : List Ln) (t : Rat) : List Nat := nW (ahN ls t) ls.length
theorem vQ {α : Type} (p : α → Bool) : ∀ xs : List α, (xs.filter fun o => !p o).length + (xs.filter fun o => p o).length = xs.length
 | [] => rfl
 | x :: xs => by
  have := vQ p xs
  cases h : p x <;> simp [h] <;> omega
theorem xQ (a : Nat → Nat → Bool) : ∀ n, (nW a n).length = n
 | 0 => rfl
 | n + 1 => by
  have h := xQ a n
  have e := vQ (fun o => a n o) (nW a n)
  show (cO a (nW a n) n).length = n + 1
  unfold cO
  simp only [List.length_append, List.length_singleton]
  omega
theorem sY (a : Nat → Nat → Bool) : ∀ n i, i ∈ nW a n ↔ i < n
 | 0, i => by simp [nW]
 | n + 1, i => by
  have h := sY a n i
  show i ∈ cO a (nW a n) n ↔ _
  unfold cO
  simp only [List.mem_append, List.mem_filter, List.mem_singleton, h]
  cases a n i <;> simp <;> omega
theorem wX {a : Nat → Nat → Bool} {n k : Nat} {xs : List Nat} (h : Strict a n) (hk : k < n) (hx : ∀ x ∈ xs, x < n ∧ x ≠ k) (hs : Srt a xs) : Srt a (cO a xs k) := by
 unfold cO Srt
 have front : ∀ x ∈ xs.filter (fun o => !a k o), a x k = true := fun x m => by
  obtain ⟨m1, m2⟩ := List.mem_filter.mp m
  obtain ⟨b1, b2⟩ := hx x m1
  rw [h.flip hk b1 (Ne.symm b2)]
  exact m2
 have back : ∀ x ∈ xs.filter (fun o => a k o), a k x = true := fun x m => (List.mem_filter.mp m).2
 have lt1 : ∀ x ∈ xs.filter (fun o => !a k o), x < n := fun x m => (hx x (List.mem_filter.mp m).1).1
 have lt2 : ∀ x ∈ xs.filter (fun o => a k o), x < n := fun x m => (hx x (List.mem_filter.mp m).1).1
 rw [List.pairwise_append]
 refine ⟨?_, hs.filter _, fun x m y m2 => ?_⟩
 ·rw [List.pairwise_append]
  refine ⟨hs.filter _, List.pairwise_singleton _ _, fun x m y m2 => ?_⟩
  rw [List.mem_singleton.mp m2]
  exact front x m
 ·rcases List.mem_append.mp m with m | m
  ·exact h.trans x k y (lt1 x m) hk (lt2 y m2) (front x m) (back y m2)
  ·rw [List.mem_singleton.mp m]
   exact back y m2
theorem ordTo_srt {a : Nat → Nat → Bool} {n : Nat} (h : Strict a n) : ∀ m, m ≤ n → Srt a (nW a m)
 | 0, _ => List.Pairwise.nil
 | m + 1, hm => wX h hm (fun x hx => by have := (sY a m x).mp hx; omega) (ordTo_srt h m (by omega))
theorem lE (ls : List Ln) (t : Rat) : Srt (ahN ls t) (ord ls t) := ordTo_srt (cL ls t) _ (Nat.le_refl _)
theorem eU (ls : List Ln) (t : Rat) (i : Nat) : i ∈ ord ls t ↔ i < ls.length := sY _ _ _
theorem lH (ls : List Ln) (t : Rat) : (ord ls t).length = ls.length := xQ _ _
theorem ord_of {ls : List Ln} {t : Rat} {xs : List Nat} (h1 : Srt (ahN ls t) xs) (h2 : ∀ i, i ∈ xs ↔ i < ls.length) : xs = ord ls t :=
 srt_unique (cL ls t) (fun x hx => (h2 x).mp hx) h1 (lE ls t) fun x => by rw [h2, eU]
theorem filt_take {a : Nat → Nat → Bool} {n k : Nat} : ∀ {xs : List Nat}, Strict a n → k < n → (∀ x ∈ xs, x < n ∧ x ≠ k) → Srt a xs →
  xs.take (xs.filter fun o => !a k o).length = xs.filter (fun o => !a k o) ∧ xs.drop (xs.filter fun o => !a k o).length = xs.filter (fun o => a k o)
 | [], _, _, _, _ => ⟨rfl, rfl⟩
 | x :: xs, h, hk, hx, hs => by
  obtain ⟨p1, q1⟩ := List.pairwise_cons.mp hs
  obtain ⟨b1, b2⟩ := hx x List.mem_cons_self
  have ih := filt_take (xs := xs) h hk (fun y hy => hx y (List.mem_cons_of_mem _ hy)) q1
  cases e : a k x with
  | false => simp only [List.filter_cons, e, Bool.not_false, if_true, List.length_cons, List.take_succ_cons, List.drop_succ_cons, ih.1, ih.2, Bool.false_eq_true, if_false]; exact ⟨trivial, trivial⟩
  | true =>
   have all : ∀ y ∈ xs, a k y = true := fun y hy => h.trans k x y hk b1 (hx y (List.mem_cons_of_mem _ hy)).1 e (p1 y hy)
   have f0 : xs.filter (fun o => !a k o) = [] := by
    rw [List.filter_eq_nil_iff]
    intro y hy
    rw [all y hy]; simp
   have f1 : xs.filter (fun o => a k o) = xs := List.filter_eq_self.mpr all
   simp only [List.filter_cons, e, Bool.not_true, Bool.false_eq_true, if_false, f0, f1, if_true]
   exact ⟨rfl, rfl⟩
end LT
namespace LT
noncomputable def Leads (ls : List Ln) (t : Rat) (i : Nat) : Prop := i < ls.length ∧ ∀ j, j < ls.length → j ≠ i → ahN ls t i j = true
theorem Leads.unique {ls : List Ln} {t : Rat} {i j : Nat} (h : Leads ls t i) (g : Leads ls t j) : i = j := by
 apply Classical.byContradiction
 intro c
 have h1 := h.2 j g.1 (Ne.symm c)
 have h2 := g.2 i h.1 c
 rw [(cL ls t).asymm i j h.1 g.1 h1] at h2
 cases h2
noncomputable def iH (ls : List Ln) (t : Rat) : Nat → Nat
 | 0 => 0
 | n + 1 => if ahN ls t (n + 1) (iH ls t n) = true then n + 1 else iH ls t n
noncomputable def fM (ls : List Ln) (t : Rat) : Nat := iH ls t (ls.length - 1)
theorem xM (ls : List Ln) (t : Rat) : ∀ n, iH ls t n ≤ n
 | 0 => Nat.le_refl _
 | n + 1 => by
  have ih := xM ls t n
  have e : iH ls t (n + 1) = if ahN ls t (n + 1) (iH ls t n) = true then n + 1 else iH ls t n := rfl
  rw [e]
  split <;> omega
theorem leadTo_ah (ls : List Ln) (t : Rat) : ∀ n, n < ls.length → ∀ j, j ≤ n → j ≠ iH ls t n → ahN ls t (iH ls t n) j = true
 | 0, _, j, hj, hn => absurd (show j = iH ls t 0 by show j = 0; omega) hn
 | n + 1, hl, j, hj, hn => by
  have ih := leadTo_ah ls t n (by omega)
  have le := xM ls t n
  have st := cL ls t
  have e : iH ls t (n + 1) = if ahN ls t (n + 1) (iH ls t n) = true then n + 1 else iH ls t n := rfl
  rw [e] at hn ⊢
  by_cases c : ahN ls t (n + 1) (iH ls t n) = true
  ·rw [if_pos c] at hn ⊢
   by_cases d : j = iH ls t n
   ·rw [d]; exact c
   ·exact st.trans _ (iH ls t n) _ hl (by omega) (by omega) c (ih j (by omega) d)
  ·rw [if_neg c] at hn ⊢
   by_cases d : j = n + 1
   ·rw [d, st.flip hl (show iH ls t n < ls.length by omega) (by omega)]
    cases h : ahN ls t (n + 1) (iH ls t n) with
    | true => exact absurd h c
    | false => rfl
   ·exact ih j (by omega) hn
theorem rD {ls : List Ln} (h : ls ≠ []) (t : Rat) : Leads ls t (fM ls t) := by
 have hl := List.length_pos_iff.mpr h
 have le := xM ls t (ls.length - 1)
 refine ⟨by unfold fM; omega, fun j hj hn => leadTo_ah ls t (ls.length - 1) (by omega) j (by omega) hn⟩
theorem Leads.eq {ls : List Ln} {t : Rat} {i : Nat} (h : Leads ls t i) : i = fM ls t := h.unique (rD (by rintro rfl; exact absurd h.1 (by simp)) t)
noncomputable def MeetIn (ls : List Ln) (a b : Rat) : Prop := ∃ (i j : Nat) (l k : Ln), ls[i]? = some l ∧ ls[j]? = some k ∧ l.2 ≠ k.2 ∧ a < mt l k ∧ mt l k ≤ b
theorem wQ {ls : List Ln} {a b : Rat} (hab : a ≤ b) (h : ¬ MeetIn ls a b) (i j : Nat) : ahN ls b i j = ahN ls a i j := by
 unfold ahN
 cases hi : ls[i]? with
 | none => rfl
 | some l =>
  cases hj : ls[j]? with
  | none => rfl
  | some k =>
   show ahB l k i j b = ahB l k i j a
   by_cases hs : l.2 = k.2
   ·rw [z6 hs, z6 hs]
   ·by_cases h1 : mt l k ≤ a
    ·rw [ah_ge hs h1, ah_ge hs (by grind)]
    ·by_cases h2 : b < mt l k
     ·rw [ah_lt hs h2, ah_lt hs (by grind)]
     ·exact absurd ⟨i, j, l, k, hi, hj, hs, by grind, by grind⟩ h
theorem Leads.const {ls : List Ln} {a b : Rat} {i : Nat} (hab : a ≤ b) (h : ¬ MeetIn ls a b) : Leads ls a i ↔ Leads ls b i := by
 unfold Leads
 constructor
 ·exact fun g => ⟨g.1, fun j hj hn => by rw [wQ hab h]; exact g.2 j hj hn⟩
 ·exact fun g => ⟨g.1, fun j hj hn => by rw [← wQ hab h]; exact g.2 j hj hn⟩
noncomputable def Fr (lo : Option Rat) (t : Rat) : Prop := match lo with
 | none => True
 | some s => s ≤ t
noncomputable def Bf (lo : Option Rat) (t : Rat) : Prop := match lo with
 | none => True
 | some s => s < t
noncomputable def RowFrom (ls : List Ln) (lo : Option Rat) (r : Nat) : List (Nat × Rat) → Prop
 | [] => ∀ t, Fr lo t → Leads ls t r
 | p :: rest => Bf lo p.2 ∧ p.1 ≠ r ∧ (∀ t, Fr lo t → t < p.2 → Leads ls t r) ∧ RowFrom ls (some p.2) p.1 rest
theorem RowFrom.at {ls : List Ln} {s : Rat} {r : Nat} : ∀ {rest : List (Nat × Rat)}, RowFrom ls (some s) r rest → Leads ls s r
 | [], h => h s (show s ≤ s by grind)
 | p :: rest, h => h.2.2.1 s (show s ≤ s by grind) h.1
theorem RowFrom.unique {ls : List Ln} : ∀ {xs ys : List (Nat × Rat)} {lo : Option Rat} {r : Nat}, RowFrom ls lo r xs → RowFrom ls lo r ys → xs = ys
 | [], [], _, _, _, _ => rfl
 | [], p :: ys, lo, r, h, g => by
  have h1 := h p.2 (by have := g.1; cases lo with | none => trivial | some s => exact (show s ≤ p.2 by have : s < p.2 := this; grind))
  exact absurd (g.2.2.2.at.unique h1) g.2.1
 | p :: xs, [], lo, r, h, g => by
  have h1 := g p.2 (by have := h.1; cases lo with | none => trivial | some s => exact (show s ≤ p.2 by have : s < p.2 := this; grind))
  exact absurd (h.2.2.2.at.unique h1) h.2.1
 | p :: xs, q :: ys, lo, r, h, g => by
  have hp : Fr lo p.2 := by have := h.1; cases lo with | none => trivial | some s => exact (show s ≤ p.2 by have : s < p.2 := this; grind)
  have hq : Fr lo q.2 := by have := g.1; cases lo with | none => trivial | some s => exact (show s ≤ q.2 by have : s < q.2 := this; grind)
  have e : p.2 = q.2 := by
   apply Classical.byContradiction
   intro c
   by_cases d : p.2 < q.2
   ·exact absurd (h.2.2.2.at.unique (g.2.2.1 p.2 hp d)) h.2.1
   ·exact absurd (g.2.2.2.at.unique (h.2.2.1 q.2 hq (by grind))) g.2.1
  have h2 := h.2.2.2
  rw [e] at h2
  have e1 : p.1 = q.1 := h2.at.unique g.2.2.2.at
  rw [e1] at h2
  have e2 := RowFrom.unique h2 g.2.2.2
  rw [e2, show p = q from Prod.ext e1 e]
theorem RowFrom.first {ls : List Ln} {lo : Option Rat} {r1 r2 : Nat} {xs ys : List (Nat × Rat)} (h : RowFrom ls lo r1 xs) (g : RowFrom ls lo r2 ys) : r1 = r2 := by
 cases lo with
 | some s => exact h.at.unique g.at
 | none =>
  have early : ∀ {r : Nat} {zs : List (Nat × Rat)}, RowFrom ls none r zs → ∃ u, ∀ t, t < u → Leads ls t r := fun {r zs} k => by
   cases zs with
   | nil => exact ⟨0, fun t _ => k t trivial⟩
   | cons p zs => exact ⟨p.2, fun t ht => k.2.2.1 t trivial ht⟩
  obtain ⟨u, hu⟩ := early h
  obtain ⟨v, hv⟩ := early g
  by_cases c : u ≤ v
  ·exact (hu (u - 1) (by grind)).unique (hv (u - 1) (by grind))
  ·exact (hu (v - 1) (by grind)).unique (hv (v - 1) (by grind))
noncomputable def oN (ls : List Ln) (last : Nat) : List Rat → List (Nat × Rat)
 | [] => []
 | t :: ts => if fM ls t = last then oN ls last ts else (fM ls t, t) :: oN ls (fM ls t) ts
theorem yF {ls : List Ln} (hne : ls ≠ []) : ∀ (ts : List Rat) (lo mb : Option Rat) (last : Nat), ts.Pairwise (· < ·) → (∀ s ∈ ts, Bf lo s) → (∀ s ∈ ts, Bf mb s) →
  (∀ t, Fr lo t → (∀ s ∈ ts, t < s) → Leads ls t last) → (∀ s, (∃ (i j : Nat) (l k : Ln), ls[i]? = some l ∧ ls[j]? = some k ∧ l.2 ≠ k.2 ∧ mt l k = s) → Bf mb s → s ∈ ts) → RowFrom ls lo last (oN ls last ts)
 | [], lo, mb, last, _, _, _, h, _ => fun t ht => h t ht fun _ hs => (nomatch hs)
 | t :: ts, lo, mb, last, hp, hb, hb2, h, hm => by
  obtain ⟨p1, p2⟩ := List.pairwise_cons.mp hp
  have hbt := hb t List.mem_cons_self
  have hbt2 := hb2 t List.mem_cons_self
  have up : ∀ s, Bf (some t) s → Bf mb s := fun s hs => by
   have hs : t < s := hs
   cases mb with
   | none => trivial
   | some s0 => exact (show s0 < s by have : s0 < t := hbt2; grind)
  have hm' : ∀ s, (∃ (i j : Nat) (l k : Ln), ls[i]? = some l ∧ ls[j]? = some k ∧ l.2 ≠ k.2 ∧ mt l k = s) → Bf (some t) s → s ∈ ts := fun s hs hb' => by
   rcases List.mem_cons.mp (hm s hs (up s hb')) with c | c
   ·have : t < s := hb'; grind
   ·exact c
  have next : ∀ u, t ≤ u → (∀ s ∈ ts, u < s) → Leads ls u (fM ls t) := fun u hu hs => by
   refine (Leads.const hu ?_).mp (rD hne t)
   rintro ⟨i, j, l, k, e1, e2, e3, e4, e5⟩
   have := hs _ (hm' (mt l k) ⟨i, j, l, k, e1, e2, e3, rfl⟩ e4)
   grind
  have before : ∀ u, Fr lo u → u < t → Leads ls u last := fun u hu ht => h u hu fun s hs => by
   rcases List.mem_cons.mp hs with c | c
   ·rw [c]; exact ht
   ·have := p1 s c; grind
  show RowFrom ls lo last (if fM ls t = last then _ else _)
  by_cases c : fM ls t = last
  ·rw [if_pos c]
   refine yF hne ts lo (some t) last p2 (fun s hs => hb s (List.mem_cons_of_mem _ hs)) (fun s hs => p1 s hs) (fun u hu hs => ?_) hm'
   by_cases d : u < t
   ·exact before u hu d
   ·rw [← c]; exact next u (by grind) hs
  ·rw [if_neg c]
   exact ⟨hbt, c, before, yF hne ts (some t) (some t) (fM ls t) p2 (fun s hs => p1 s hs) (fun s hs => p1 s hs) (fun u hu hs => next u hu hs) hm'⟩
end LT
namespace LT
theorem ahN_lt {ls : List Ln} {t : Rat} {i j : Nat} (h : ahN ls t i j = true) : ∃ l k, ls[i]? = some l ∧ ls[j]? = some k ∧ ahB l k i j t = true := by
 unfold ahN at h
 cases e1 : ls[i]? with
 | none => rw [e1] at h; cases h
 | some l =>
  cases e2 : ls[j]? with
  | none => rw [e1, e2] at h; cases h
  | some k => rw [e1, e2] at h; exact ⟨l, k, rfl, rfl, h⟩
theorem Fr.of_bf {lo : Option Rat} {s : Rat} (h : Bf lo s) : Fr lo s := by
 cases lo with
 | none => trivial
 | some a => exact (show a ≤ s by have : a < s := h; grind)
end LT
namespace LT
noncomputable def nxN (ls : List Ln) (t : Rat) (i j : Nat) : Option Rat := match ls[i]?, ls[j]? with
 | some l, some k => nxC l k t
 | _, _ => none
theorem xU {ls : List Ln} {t : Rat} {i j : Nat} {l k : Ln} (h1 : ls[i]? = some l) (h2 : ls[j]? = some k) : nxN ls t i j = nxC l k t := by unfold nxN; rw [h1, h2]
noncomputable def Adj (xs : List Nat) (a b : Nat) : Prop := ∃ n : Nat, xs[n]? = some a ∧ xs[n + 1]? = some b
theorem srt_adj {a : Nat → Nat → Bool} {xs : List Nat} (h : Srt a xs) {i j : Nat} (g : Adj xs i j) : a i j = true := by
 obtain ⟨n, e1, e2⟩ := g
 obtain ⟨h1, rfl⟩ := List.getElem?_eq_some_iff.mp e1
 obtain ⟨h2, rfl⟩ := List.getElem?_eq_some_iff.mp e2
 exact (List.pairwise_iff_getElem.mp h) n (n + 1) h1 h2 (by omega)
theorem srt_of_adj {a : Nat → Nat → Bool} {n : Nat} (h : Strict a n) : ∀ {xs : List Nat}, (∀ x ∈ xs, x < n) → (∀ i j, Adj xs i j → a i j = true) → Srt a xs
 | [], _, _ => List.Pairwise.nil
 | [x], _, _ => List.pairwise_singleton _ _
 | x :: y :: xs, hx, g => by
  have ih := srt_of_adj h (xs := y :: xs) (fun z hz => hx z (List.mem_cons_of_mem _ hz)) fun i j ⟨m, e1, e2⟩ => g i j ⟨m + 1, by simpa using e1, by simpa using e2⟩
  have h0 := g x y ⟨0, rfl, rfl⟩
  refine List.pairwise_cons.mpr ⟨fun z hz => ?_, ih⟩
  rcases List.mem_cons.mp hz with c | c
  ·rw [c]; exact h0
  ·exact h.trans x y z (hx x (by simp)) (hx y (by simp)) (hx z (List.mem_cons_of_mem _ hz)) h0 ((List.pairwise_cons.mp ih).1 z c)
theorem ahN_stays {ls : List Ln} {t v : Rat} {i j : Nat} (htv : t ≤ v) (h : ∀ u, nxN ls t i j = some u → v < u) : ahN ls v i j = ahN ls t i j := by
 cases e1 : ls[i]? with
 | none => unfold ahN; rw [e1]
 | some l =>
  cases e2 : ls[j]? with
  | none => unfold ahN; rw [e1, e2]
  | some k =>
   rw [gC e1 e2, gC e1 e2]
   rw [xU e1 e2] at h
   cases hc : nxC l k t with
   | none =>
    by_cases c : t = v
    ·rw [c]
    ·exact nxC_none hc (by grind)
   | some u => exact nxC_mid hc (h u hc)
theorem ord_stays {ls : List Ln} {t v : Rat} (htv : t ≤ v) (h : ∀ a b, Adj (ord ls t) a b → ∀ u, nxN ls t a b = some u → v < u) : ord ls v = ord ls t := by
 refine (ord_of (srt_of_adj (cL ls v) (fun x hx => (eU ls t x).mp hx) fun i j g => ?_) (eU ls t)).symm
 rw [ahN_stays htv (h i j g)]
 exact srt_adj (lE ls t) g
theorem ord_turns {ls : List Ln} {t u : Rat} {a b : Nat} (g : Adj (ord ls t) a b) (h : nxN ls t a b = some u) : ord ls u ≠ ord ls t := by
 intro e
 have h1 := srt_adj (lE ls t) g
 have h2 := srt_adj (lE ls u) (e ▸ g)
 obtain ⟨l, k, e1, e2, _⟩ := ahN_lt h1
 rw [gC e1 e2] at h1 h2
 rw [xU e1 e2] at h
 rw [nxC_at h, h1] at h2
 cases h2
end LT
namespace LT
noncomputable def RowOf (f : Rat → Nat) (lo : Option Rat) (r : Nat) : List (Nat × Rat) → Prop
 | [] => ∀ t, Fr lo t → f t = r
 | p :: rest => Bf lo p.2 ∧ p.1 ≠ r ∧ (∀ t, Fr lo t → t < p.2 → f t = r) ∧ RowOf f (some p.2) p.1 rest
theorem RowOf.at {f : Rat → Nat} {s : Rat} {r : Nat} : ∀ {rest : List (Nat × Rat)}, RowOf f (some s) r rest → f s = r
 | [], h => h s (show s ≤ s by grind)
 | p :: rest, h => h.2.2.1 s (show s ≤ s by grind) h.1
theorem RowOf.unique {f : Rat → Nat} : ∀ {xs ys : List (Nat × Rat)} {lo : Option Rat} {r : Nat}, RowOf f lo r xs → RowOf f lo r ys → xs = ys
 | [], [], _, _, _, _ => rfl
 | [], p :: ys, lo, r, h, g => absurd (g.2.2.2.at.symm.trans (h p.2 (Fr.of_bf g.1))) g.2.1
 | p :: xs, [], lo, r, h, g => absurd (h.2.2.2.at.symm.trans (g p.2 (Fr.of_bf h.1))) h.2.1
 | p :: xs, q :: ys, lo, r, h, g => by
  have e : p.2 = q.2 := by
   apply Classical.byContradiction
   intro c
   by_cases d : p.2 < q.2
   ·exact absurd (h.2.2.2.at.symm.trans (g.2.2.1 p.2 (Fr.of_bf h.1) d)) h.2.1
   ·exact absurd (g.2.2.2.at.symm.trans (h.2.2.1 q.2 (Fr.of_bf g.1) (by grind))) g.2.1
  have h2 := h.2.2.2
  rw [e] at h2
  have e1 : p.1 = q.1 := h2.at.symm.trans g.2.2.2.at
  rw [e1] at h2
  rw [RowOf.unique h2 g.2.2.2, show p = q from Prod.ext e1 e]
theorem RowOf.first {f : Rat → Nat} {lo : Option Rat} {r1 r2 : Nat} {xs ys : List (Nat × Rat)} (h : RowOf f lo r1 xs) (g : RowOf f lo r2 ys) : r1 = r2 := by
 cases lo with
 | some s => exact h.at.symm.trans g.at
 | none =>
  have early : ∀ {r : Nat} {zs : List (Nat × Rat)}, RowOf f none r zs → ∃ u, ∀ t, t < u → f t = r := fun {r zs} k => by
   cases zs with
   | nil => exact ⟨0, fun t _ => k t trivial⟩
   | cons p zs => exact ⟨p.2, fun t ht => k.2.2.1 t trivial ht⟩
  obtain ⟨u, hu⟩ := early h
  obtain ⟨v, hv⟩ := early g
  by_cases c : u ≤ v
  ·exact (hu (u - 1) (by grind)).symm.trans (hv (u - 1) (by grind))
  ·exact (hu (v - 1) (by grind)).symm.trans (hv (v - 1) (by grind))
noncomputable def cY (f : Rat → Nat) (last : Nat) : List Rat → List (Nat × Rat)
 | [] => []
 | t :: ts => if f t = last then cY f last ts else (f t, t) :: cY f (f t) ts
theorem uP {f : Rat → Nat} {M : Rat → Prop} (hc : ∀ a b, a ≤ b → (∀ s, M s → ¬ (a < s ∧ s ≤ b)) → f b = f a) : ∀ (ts : List Rat) (lo mb : Option Rat) (last : Nat), ts.Pairwise (· < ·) → (∀ s ∈ ts, Bf lo s) → (∀ s ∈ ts, Bf mb s) →
  (∀ t, Fr lo t → (∀ s ∈ ts, t < s) → f t = last) → (∀ s, M s → Bf mb s → s ∈ ts) → RowOf f lo last (cY f last ts)
 | [], lo, mb, last, _, _, _, h, _ => fun t ht => h t ht fun _ hs => (nomatch hs)
 | t :: ts, lo, mb, last, hp, hb, hb2, h, hm => by
  obtain ⟨p1, p2⟩ := List.pairwise_cons.mp hp
  have hbt := hb t List.mem_cons_self
  have hbt2 := hb2 t List.mem_cons_self
  have hm' : ∀ s, M s → Bf (some t) s → s ∈ ts := fun s hs hb' => by
   have hts : t < s := hb'
   rcases List.mem_cons.mp (hm s hs (by cases mb with | none => trivial | some s0 => exact (show s0 < s by have : s0 < t := hbt2; grind))) with c | c
   ·grind
   ·exact c
  have next : ∀ u, t ≤ u → (∀ s ∈ ts, u < s) → f u = f t := fun u hu hs => hc t u hu fun s hM hh => by
   have := hs _ (hm' s hM hh.1)
   grind
  have before : ∀ u, Fr lo u → u < t → f u = last := fun u hu ht => h u hu fun s hs => by
   rcases List.mem_cons.mp hs with c | c
   ·rw [c]; exact ht
   ·have := p1 s c; grind
  show RowOf f lo last (if f t = last then _ else _)
  by_cases c : f t = last
  ·rw [if_pos c]
   refine uP hc ts lo (some t) last p2 (fun s hs => hb s (List.mem_cons_of_mem _ hs)) (fun s hs => p1 s hs) (fun u hu hs => ?_) hm'
   by_cases d : u < t
   ·exact before u hu d
   ·rw [← c]; exact next u (by grind) hs
  ·rw [if_neg c]
   exact ⟨hbt, c, before, uP hc ts (some t) (some t) (f t) p2 (fun s hs => p1 s hs) (fun s hs => p1 s hs) (fun u hu hs => next u hu hs) hm'⟩
theorem ord_const {ls : List Ln} {a b : Rat} (hab : a ≤ b) (h : ¬ MeetIn ls a b) : ord ls b = ord ls a := by
 unfold ord
 rw [show ahN ls b = ahN ls a from funext fun i => funext fun j => wQ hab h i j]
noncomputable def rkN (ls : List Ln) (k : Nat) (t : Rat) : Nat := (ord ls t).getD k 0
theorem z8 {ls : List Ln} {k : Nat} {a b : Rat} (hab : a ≤ b) (h : ¬ MeetIn ls a b) : rkN ls k b = rkN ls k a := by unfold rkN; rw [ord_const hab h]
end LT
namespace LT
noncomputable def ordL (a : Nat → Nat → Bool) (rs : List Nat) : List Nat := rs.foldl (cO a) []
theorem ordStep_mem {a : Nat → Nat → Bool} {xs : List Nat} {k x : Nat} : x ∈ cO a xs k ↔ x ∈ xs ∨ x = k := by
 unfold cO
 simp only [List.mem_append, List.mem_filter, List.mem_singleton]
 cases a k x <;> simp [or_comm]
theorem ordStep_len {a : Nat → Nat → Bool} {xs : List Nat} {k : Nat} : (cO a xs k).length = xs.length + 1 := by
 have e := vQ (fun o => a k o) xs
 unfold cO
 simp only [List.length_append, List.length_singleton]
 omega
theorem ordL_snoc (a : Nat → Nat → Bool) (rs : List Nat) (k : Nat) : ordL a (rs ++ [k]) = cO a (ordL a rs) k := by unfold ordL; rw [List.foldl_append]; rfl
theorem foldl_mem {a : Nat → Nat → Bool} : ∀ (rs acc : List Nat) (x : Nat), x ∈ rs.foldl (cO a) acc ↔ x ∈ acc ∨ x ∈ rs
 | [], acc, x => by simp
 | r :: rs, acc, x => by
  show x ∈ rs.foldl (cO a) (cO a acc r) ↔ _
  rw [foldl_mem rs, ordStep_mem, List.mem_cons]
  grind
theorem ordL_mem {a : Nat → Nat → Bool} {rs : List Nat} {x : Nat} : x ∈ ordL a rs ↔ x ∈ rs := by unfold ordL; rw [foldl_mem]; simp
theorem foldl_len {a : Nat → Nat → Bool} : ∀ (rs acc : List Nat), (rs.foldl (cO a) acc).length = acc.length + rs.length
 | [], acc => rfl
 | r :: rs, acc => by
  show (rs.foldl (cO a) (cO a acc r)).length = _
  rw [foldl_len rs, ordStep_len, List.length_cons]
  omega
theorem ordL_len {a : Nat → Nat → Bool} {rs : List Nat} : (ordL a rs).length = rs.length := by unfold ordL; rw [foldl_len]; simp
theorem foldl_srt {a : Nat → Nat → Bool} {n : Nat} (h : Strict a n) : ∀ (rs acc : List Nat), (∀ x ∈ rs, x < n) → (∀ x ∈ acc, x < n) → rs.Nodup → (∀ x ∈ acc, x ∉ rs) → Srt a acc → Srt a (rs.foldl (cO a) acc)
 | [], acc, _, _, _, _, hs => hs
 | r :: rs, acc, h1, h2, h3, h4, hs => by
  obtain ⟨n1, n2⟩ := List.nodup_cons.mp h3
  have hr := h1 r List.mem_cons_self
  refine foldl_srt h rs (cO a acc r) (fun x hx => h1 x (List.mem_cons_of_mem _ hx)) (fun x hx => ?_) n2 (fun x hx hm => ?_) (wX h hr (fun x hx => ⟨h2 x hx, fun e => h4 x hx (by rw [e]; exact List.mem_cons_self)⟩) hs)
  ·rcases ordStep_mem.mp hx with z | z
   ·exact h2 x z
   ·rw [z]; exact hr
  ·rcases ordStep_mem.mp hx with z | z
   ·exact h4 x z (List.mem_cons_of_mem _ hm)
   ·exact n1 (by rw [← z]; exact hm)
theorem ordL_srt {a : Nat → Nat → Bool} {n : Nat} {rs : List Nat} (h : Strict a n) (h1 : ∀ x ∈ rs, x < n) (h2 : rs.Nodup) : Srt a (ordL a rs) :=
 foldl_srt h rs [] h1 (fun x hx => nomatch hx) h2 (fun x hx => nomatch hx) List.Pairwise.nil
theorem ordL_range (a : Nat → Nat → Bool) : ∀ n, ordL a (List.range n) = nW a n
 | 0 => rfl
 | n + 1 => by rw [List.range_succ, ordL_snoc, ordL_range a n]; rfl
end LT
namespace L2
open PySem PySem.Spec PyProof.Rows
theorem vals_of : ∀ {xs : List V} {us : List Value}, xs.length = us.length → (∀ (i : Nat) x u, xs[i]? = some x → us[i]? = some u → RelV x u) → Vals xs us
 | [], [], _, _ => .nil
 | x :: xs, u :: us, hl, h => .cons (h 0 x u rfl rfl) (vals_of (by simpa using hl) fun i y w e1 e2 => h (i + 1) y w (by simpa using e1) (by simpa using e2))
noncomputable def tO (lo : Int) (n : Nat) : List V := (List.range n).map fun (k : Nat) => V.int (lo + k)
theorem rangeV_len (lo : Int) (n : Nat) : (tO lo n).length = n := by unfold tO; rw [List.length_map, List.length_range]
section
variable {X : Cx}
noncomputable def rRng1 : List V → Hp → VK → Prop := fun xs H Q => ∃ j : Int, xs = [.int j] ∧ ∀ r, H r = none → Q (.ref r) (upd H r (.rng 0 j))
theorem call_range1R : CallR X (.type "range") rRng1 := by
 intro pins s σ H xs us Q I r h
 obtain ⟨j, rfl, q⟩ := h
 obtain ⟨u, rfl, rx⟩ := vals1 r
 obtain ⟨t, rfl⟩ := rx
 refine call_range_1 ?_
 exact ⟨.ref s.heap.objs.size, _, I.laid (o := .rng 0 j) (fun b o e => Heap.get?_push_of_some _ e) (Nat.le_refl _) (show ObjOk X.prog X.w _ _ _ (.rng 0 j) from ⟨_, _, _, Heap.get?_push_size _ rfl⟩), rfl, q _ (I.hok.fresh (Nat.le_refl _))⟩
noncomputable def rListRng : List V → Hp → VK → Prop := fun xs H Q => ∃ p lo hi, xs = [.ref p] ∧ H p = some (.rng lo hi) ∧ (-(2 ^ 62) ≤ lo ∧ lo < 2 ^ 62 ∧ -(2 ^ 62) ≤ hi ∧ hi < 2 ^ 62) ∧ (hi - lo).toNat ≤ 1000 ∧
 ∀ l, H l = none → Q (.ref l) (upd H l (.lst (tO lo (hi - lo).toNat)))
theorem call_list_rng (hc : X.calm = true) : CallR X (.type "list") rListRng := by
 intro pins s σ H xs us Q I r h
 obtain ⟨p, lo, hi, rfl, hp, ⟨b1, b2, b3, b4⟩, hn, q⟩ := h
 obtain ⟨u, rfl, rx⟩ := vals1 r
 cases rx
 obtain ⟨t, u, v, hr⟩ := I.hok p _ hp
 have hsz : Builtin.Range.rangeSize lo hi 1 = ((hi - lo).toNat : Int) := by rw [rangeSize_one]; split <;> omega
 refine call_list_range (I.ok.hd hc) hr (small_one b1 b2 b3 b4) hsz (by omega) fun h' tk acc' c' kp e it => ?_
 have hl : (tO lo (hi - lo).toNat).length = acc'.toList.length := by rw [rangeV_len, Array.length_toList]; exact it.1.symm
 have hv : Vals (tO lo (hi - lo).toNat) acc'.toList := by
  refine vals_of hl fun i x w e1 e2 => ?_
  obtain ⟨t', ew⟩ := it.2 i w (by simpa using e2)
  unfold tO at e1
  rw [List.getElem?_map] at e1
  cases e3 : (List.range (hi - lo).toNat)[i]? with
  | none => rw [e3] at e1; cases e1
  | some k =>
   rw [e3] at e1
   cases e1
   have hk : k = i := by
    obtain ⟨hlt, e4⟩ := List.getElem?_eq_some_iff.mp e3
    rw [List.getElem_range] at e4
    exact e4.symm
   subst hk
   exact ⟨t', by rw [ew, Int.mul_one]⟩
 exact ⟨.ref s.heap.objs.size, _, I.laid kp (Nat.le_refl _) (show ObjOk X.prog X.w _ h' _ (.lst (tO lo (hi - lo).toNat)) from ⟨eY (by rw [rangeV_len]; exact hn), acc'.toList, c', hv, by simpa using e⟩), rfl, q _ (I.hok.fresh (Nat.le_refl _))⟩
end
end L2
namespace L2.VS
open PySem PySem.Spec PyProof.Rows
variable {P0 : Addr → Hp → Prop} {A : Nat → Bool}
noncomputable def mAug (i : Nat) (f : Int → Int → Int) (m : ME) : MS := fun Γ Q => match Γ[i]? with
 | some (.val (.int a)) => m Γ fun d Γ1 => match d with
  | .int b => Q (.nx (Γ1.set i (.val (.int (f a b)))))
  | _ => False
 | _ => False
theorem vs_aug {i : Nat} {f : Int → Int → Int} {t : TE} {m : ME} (h : VT P0 t m) (hA : A i = true := by rfl) : VSA P0 A (tAug i t (ipI f)) (mAug i f m) := by
 intro F Γ σ G H E Qm r hm k
 unfold mAug at hm
 split at hm
 ·rename_i a e
  obtain ⟨v, e1, d1⟩ := r.sl i _ e
  cases d1
  refine ⟨_, e1, h F Γ σ G H _ _ r hm fun d Γ1 x G1 H1 m1 s1 r1 d1 => ?_⟩
  split at m1
  ·cases d1
   exact ⟨_, _, rfl, rfl, k _ m1 _ _ _ s1 (r1.setV (.int _)) (uK hA)⟩
  ·exact m1.elim
 ·exact hm.elim
abbrev fAdd : Int → Int → Int := fun i j => i + j
abbrev fSub : Int → Int → Int := fun i j => i - j
theorem i_aug {i : Nat} {f : Int → Int → Int} {m : ME} {Γ : En} {a : Int} {Q : Fl → Prop} (h0 : Γ[i]? = some (.val (.int a))) (h : m Γ fun d Γ1 => match d with | .int b => Q (.nx (Γ1.set i (.val (.int (f a b))))) | _ => False) : mAug i f m Γ Q := by
 unfold mAug
 rw [h0]
 exact h
theorem dts_range {G : Hp} (lo : Int) (n : Nat) : Dts G (tO lo n) (iG lo n) := by
 unfold tO iG
 generalize List.range n = xs
 induction xs with
 | nil => exact .nil
 | cons x xs ih => exact .cons (.int _) ih
noncomputable def mListRng (ma : ME) : MO := fun Γ Q => ma Γ fun x Γ1 => match x with
 | .int j => (0 ≤ j ∧ j ≤ 1000) ∧ Q (.own (iG 0 j.toNat)) Γ1
 | _ => False
theorem vo_listRng {ta : TE} {ma : ME} (ha : VT P0 ta ma) : VO P0 (tCB rListRng (fY (tCB rRng1 (fY ta vP)) vP)) (mListRng ma) := by
 intro F Γ σ G H Q Qm r m k
 refine ha F Γ σ G H _ _ r m fun d Γ1 x G1 H1 m1 s1 r1 d1 => ?_
 split at m1
 ·rename_i j
  cases d1
  obtain ⟨⟨h1, h2⟩, m1⟩ := m1
  refine ⟨j, rfl, fun p hp => ?_⟩
  have r2 := r1.newP (o := .rng 0 j) hp
  refine ⟨p, 0, j, rfl, bM, ⟨by omega, by omega, by omega, by omega⟩, by omega, fun l hl => ?_⟩
  have e : (j - 0).toNat = j.toNat := by omega
  rw [e]
  obtain ⟨a, b, c⟩ := mZ r2 hl (dts_range 0 j.toNat)
  exact k _ _ _ _ _ m1 s1 a b c
 ·exact m1.elim
theorem i_listRng {ma : ME} {Γ : En} {Q : Rv → En → Prop} (h : ma Γ fun x Γ1 => match x with | .int j => (0 ≤ j ∧ j ≤ 1000) ∧ Q (.own (iG 0 j.toNat)) Γ1 | _ => False) : mListRng ma Γ Q := h
end L2.VS
namespace L2.VS
open PySem PySem.Spec PyProof.Rows
end L2.VS
namespace PySem
open Sem (wp)
namespace F
theorem zip_no_len : typeLookup (.type "zip") "__len__" = pure none := by rw [typeLookup_type, builtinLookup_eq_fast]; kernel_rfl
theorem zip_no_hint : typeLookup (.type "zip") "__length_hint__" = pure none := by rw [typeLookup_type, builtinLookup_eq_fast]; kernel_rfl
end F
set_option hygiene false in
local macro_rules | `(tactic| walk_at "zr") => `(tactic| (
 simp only [Bool.false_eq_true, if_false, List.forIn_toArray, List.forIn_cons, List.forIn_nil]
 refine wpAny_bind (wpAny_bind (wpAny_bind (wpAny_holding ?_)))
 show wpAny _ _ (Builtin.SmallTypes.nextOf (.ref i1) >>= _) _ _ _
 refine wpAny_bind (wpAny_nextOf_list_item (h1.extBut hs₀.extBut D.i1z) (hl1.extBut hs₀.extBut D.l1z) hx fun h₂ h1₂ hs₂ => wpAny_pure ?_)
 refine wpAny_pure ?_
 refine wpAny_bind (wpAny_bind (wpAny_holding ?_))
 show wpAny _ _ (Builtin.SmallTypes.nextOf (.ref i2) >>= _) _ _ _
 refine wpAny_bind (wpAny_nextOf_list_item ((h2.extBut hs₀.extBut D.i2z).extBut hs₂.extBut D.i12.symm) ((hl2.extBut hs₀.extBut D.l2z).extBut hs₂.extBut D.l2i1) hy fun h₄ h2₄ hs₄ => wpAny_pure ?_)
 refine wpAny_pure (wpAny_pure ?_)
 show wpAny _ _ (newTuple [x, y] >>= _) _ _ _
 refine wpAny_bind (wpAny_newTuple (wpAny_pure ⟨_, rfl, ?_⟩))
 replace hs₂ : Heap.SameBut i1 h₀ h₂ := hs₂
 replace hs₄ : Heap.SameBut i2 h₂ h₄ := hs₄
 have hsz : h₄.objs.size = hp.objs.size := by rw [hs₄.1, hs₂.1, hs₀.1]
 show Q (.ref h₄.objs.size) ⟨h₄.push { cls := .type "tuple", data := .seq #[x, y] }, g, d, tk, os⟩
 have hz₄ : lO h₄ z TI TO (rawInt T) (.bool true) := hs₄.extBut _ _ D.i2z.symm (hs₂.extBut _ _ D.i1z.symm hz₀)
 have hT₄ : IsPair (h₄.push { cls := .type "tuple", data := .seq #[x, y] }) h₄.objs.size x y := Heap.get?_push_size _ rfl
 rw [hsz] at hT₄ ⊢
 exact hQ _ (Heap.get?_push_of_some _ hz₄) ((h1₂.extBut hs₄.extBut D.i12).at fun o e => Heap.get?_push_of_some _ e) (h2₄.at fun o e => Heap.get?_push_of_some _ e) hT₄ (by rw [Heap.size_push, hsz])
  fun c o c1 c2 c3 e => Heap.get?_push_of_some _ (hs₄.extBut _ _ c3 (hs₂.extBut _ _ c2 (hs₀.extBut _ _ c1 e)))))
set_option hygiene false in
local macro_rules | `(tactic| walk_at "ze") => `(tactic| (
 simp only [Bool.false_eq_true, if_false, List.forIn_toArray, List.forIn_cons, List.forIn_nil]
 refine wpAny_bind (wpAny_bind (wpAny_bind (wpAny_holding ?_)))
 show wpAny _ _ (Builtin.SmallTypes.nextOf (.ref i1) >>= _) _ _ _
 cases hx : xs[k1]? with
 | none =>
  refine wpAny_bind (wpAny_nextOf_list_end hh (h1.extBut hs₀.extBut D.i1z) (hl1.extBut hs₀.extBut D.l1z) hx fun h₂ e hs₂ he => ?_)
  exact hE h₂ e (fun c o c1 c2 c3 x => hs₂ _ _ c2 (hs₀.extBut _ _ c1 x)) he
 | some x =>
  have hy : ys[k2]? = none := by rcases hend with h | h; rw [hx] at h; cases h; exact h
  refine wpAny_bind (wpAny_nextOf_list_item (h1.extBut hs₀.extBut D.i1z) (hl1.extBut hs₀.extBut D.l1z) hx fun h₂ h1₂ hs₂ => wpAny_pure ?_)
  refine wpAny_pure ?_
  refine wpAny_bind (wpAny_bind (wpAny_holding ?_))
  show wpAny _ _ (Builtin.SmallTypes.nextOf (.ref i2) >>= _) _ _ _
  refine wpAny_bind (wpAny_nextOf_list_end hh ((h2.extBut hs₀.extBut D.i2z).extBut hs₂.extBut D.i12.symm) ((hl2.extBut hs₀.extBut D.l2z).extBut hs₂.extBut D.l2i1) hy fun h₄ e hs₄ he => ?_)
  exact hE h₄ e (fun c o c1 c2 c3 x => hs₄ _ _ c3 (hs₂.extBut _ _ c2 (hs₀.extBut _ _ c1 x))) he))
abbrev lO (h : Heap) (z TI TO : Addr) (f0 f1 : Value) : Prop :=
 h.get? z = some { cls := .type "zip", dict := none, data := .fields #[f0, f1, .bool false, .ref TI, .ref TO], slots := #[] }
section
variable {prog : Program} {w : World} {A : Around} {E : Value → Shared → Prop} {s : Shared}
theorem lU {a : Addr} {Q : Option Obj → Shared → Prop} (h : Q (s.heap.get? a) s) : wpAny (model prog w) A (loadIfAlive a) Q E s := by
 intro Γ p hΓ
 show wp _ _ (.loadIfAlive a .pure) _ _ _ _
 rw [Sem.wp_loadIfAlive]
 exact wpAny_pure (M := model prog w) (A := A) (E := E) h Γ p hΓ
theorem zip_next_later {z TI TO i1 i2 l1 l2 T : Addr} {k1 k2 : Nat} {xs ys : Array Value} {x y : Value} {b1 : Bool} {oT : Obj} {Q : Value → Shared → Prop} (D : ZipApart z TI TO i1 i2 l1 l2)
  (hz : lO s.heap z TI TO (rawInt T) (.bool b1)) (hT : s.heap.get? T = some oT) (hTI : IsPair s.heap TI (.ref i1) (.ref i2))
  (h1 : s.heap.IsListIter i1 l1 k1) (h2 : s.heap.IsListIter i2 l2 k2) (hl1 : s.heap.IsList l1 xs) (hl2 : s.heap.IsList l2 ys) (hx : xs[k1]? = some x) (hy : ys[k2]? = some y)
  (hQ : ∀ h', lO h' z TI TO (rawInt T) (.bool true) → h'.IsListIter i1 l1 (k1 + 1) → h'.IsListIter i2 l2 (k2 + 1) → IsPair h' s.heap.objs.size x y → h'.objs.size = s.heap.objs.size + 1 →
   (∀ c o, c ≠ z → c ≠ i1 → c ≠ i2 → s.heap.get? c = some o → h'.get? c = some o) → Q (.ref s.heap.objs.size) { s with heap := h' }) :
  wpAny (model prog w) A (Builtin.«zip.__next__» ⟨[.ref z], []⟩) (fun fin s' => ∃ v, fin = .done (.ret v) ∧ Q v s') E s := by
 obtain ⟨hp, g, d, tk, os⟩ := s
 show wpAny _ _ (field (.ref z) 2 >>= _) _ _ _
 refine wpAny_bind (wpAny_field hz rfl (x := .bool false) rfl ?_)
 show wpAny _ _ (field (.ref z) 3 >>= _) _ _ _
 refine wpAny_bind (wpAny_field hz rfl (x := .ref TI) rfl ?_)
 refine wpAny_bind (wpAny_seqItems hTI rfl ?_)
 show wpAny _ _ (Builtin.SmallTypes.ownedTupleIsFree (.ref z) >>= _) _ _ _
 refine wpAny_bind ?_
 unfold Builtin.SmallTypes.ownedTupleIsFree
 refine wpAny_bind (wpAny_field hz rfl (x := rawInt T) rfl ?_)
 simp only [rawInt]
 refine wpAny_bind (lU ?_)
 simp only [Int.toNat_natCast, hT, Option.isNone_some, Bool.false_eq_true, if_false]
 refine wpAny_bind (wpAny_field hz rfl (x := .bool b1) rfl ?_)
 cases b1
 ·rw [if_pos (by decide)]
  refine wpAny_bind (wpAny_setField_rec hz (by simp) fun h₀ hz₀ hs₀ => wpAny_pure ?_)
  replace hz₀ : lO h₀ z TI TO (rawInt T) (.bool true) := hz₀
  replace hs₀ : Heap.SameBut z hp h₀ := hs₀
  walk_at "zr"
 ·rw [if_neg (by decide)]
  refine wpAny_pure ?_
  obtain ⟨h₀, e₀⟩ : ∃ h₀, h₀ = hp := ⟨_, rfl⟩
  have hz₀ : lO h₀ z TI TO (rawInt T) (.bool true) := by rw [e₀]; exact hz
  have hs₀ : Heap.SameBut z hp h₀ := by rw [e₀]; exact ⟨rfl, fun _ _ => rfl⟩
  show wpAny _ _ _ _ _ ⟨hp, g, d, tk, os⟩
  rw [show (⟨hp, g, d, tk, os⟩ : Shared) = ⟨h₀, g, d, tk, os⟩ by rw [e₀]]
  walk_at "zr"
theorem zip_end_later {z TI TO i1 i2 l1 l2 T : Addr} {k1 k2 : Nat} {xs ys : Array Value} {b1 : Bool} {oT : Obj} {Q : Fin → Shared → Prop} (hh : A.handled = none) (D : ZipApart z TI TO i1 i2 l1 l2)
  (hz : lO s.heap z TI TO (rawInt T) (.bool b1)) (hT : s.heap.get? T = some oT) (hTI : IsPair s.heap TI (.ref i1) (.ref i2))
  (h1 : s.heap.IsListIter i1 l1 k1) (h2 : s.heap.IsListIter i2 l2 k2) (hl1 : s.heap.IsList l1 xs) (hl2 : s.heap.IsList l2 ys) (hend : xs[k1]? = none ∨ ys[k2]? = none)
  (hE : ∀ h' e, (∀ c o, c ≠ z → c ≠ i1 → c ≠ i2 → s.heap.get? c = some o → h'.get? c = some o) → (∃ o, h'.get? e = some o ∧ o.cls = .type "StopIteration") → E (.ref e) { s with heap := h' }) :
  wpAny (model prog w) A (Builtin.«zip.__next__» ⟨[.ref z], []⟩) Q E s := by
 obtain ⟨hp, g, d, tk, os⟩ := s
 show wpAny _ _ (field (.ref z) 2 >>= _) _ _ _
 refine wpAny_bind (wpAny_field hz rfl (x := .bool false) rfl ?_)
 show wpAny _ _ (field (.ref z) 3 >>= _) _ _ _
 refine wpAny_bind (wpAny_field hz rfl (x := .ref TI) rfl ?_)
 refine wpAny_bind (wpAny_seqItems hTI rfl ?_)
 show wpAny _ _ (Builtin.SmallTypes.ownedTupleIsFree (.ref z) >>= _) _ _ _
 refine wpAny_bind ?_
 unfold Builtin.SmallTypes.ownedTupleIsFree
 refine wpAny_bind (wpAny_field hz rfl (x := rawInt T) rfl ?_)
 simp only [rawInt]
 refine wpAny_bind (lU ?_)
 simp only [Int.toNat_natCast, hT, Option.isNone_some, Bool.false_eq_true, if_false]
 refine wpAny_bind (wpAny_field hz rfl (x := .bool b1) rfl ?_)
 cases b1
 ·rw [if_pos (by decide)]
  refine wpAny_bind (wpAny_setField_rec hz (by simp) fun h₀ hz₀ hs₀ => wpAny_pure ?_)
  replace hz₀ : lO h₀ z TI TO (rawInt T) (.bool true) := hz₀
  replace hs₀ : Heap.SameBut z hp h₀ := hs₀
  walk_at "ze"
 ·rw [if_neg (by decide)]
  refine wpAny_pure ?_
  obtain ⟨h₀, e₀⟩ : ∃ h₀, h₀ = hp := ⟨_, rfl⟩
  have hz₀ : lO h₀ z TI TO (rawInt T) (.bool true) := by rw [e₀]; exact hz
  have hs₀ : Heap.SameBut z hp h₀ := by rw [e₀]; exact ⟨rfl, fun _ _ => rfl⟩
  show wpAny _ _ _ _ _ ⟨hp, g, d, tk, os⟩
  rw [show (⟨hp, g, d, tk, os⟩ : Shared) = ⟨h₀, g, d, tk, os⟩ by rw [e₀]]
  walk_at "ze"
theorem vN {z TI TO i1 i2 l1 l2 T : Addr} {k1 k2 : Nat} {xs ys : Array Value} {x y : Value} {b1 : Bool} {oT : Obj} {Q : Option Value → Shared → Prop} (D : ZipApart z TI TO i1 i2 l1 l2)
  (hz : lO s.heap z TI TO (rawInt T) (.bool b1)) (hT : s.heap.get? T = some oT) (hTI : IsPair s.heap TI (.ref i1) (.ref i2))
  (h1 : s.heap.IsListIter i1 l1 k1) (h2 : s.heap.IsListIter i2 l2 k2) (hl1 : s.heap.IsList l1 xs) (hl2 : s.heap.IsList l2 ys) (hx : xs[k1]? = some x) (hy : ys[k2]? = some y)
  (hQ : ∀ h', lO h' z TI TO (rawInt T) (.bool true) → h'.IsListIter i1 l1 (k1 + 1) → h'.IsListIter i2 l2 (k2 + 1) → IsPair h' s.heap.objs.size x y → h'.objs.size = s.heap.objs.size + 1 →
   (∀ c o, c ≠ z → c ≠ i1 → c ≠ i2 → s.heap.get? c = some o → h'.get? c = some o) → Q (some (.ref s.heap.objs.size)) { s with heap := h' }) :
  wpAny (model prog w) A (pyNext (.ref z)) Q E s := by
 have hT' : s.TypeIs (.ref z) "zip" := ⟨_, hz, rfl⟩
 unfold pyNext
 exact wpAny_bind (wpAny_attempt (wpAny_callSpecial?_slot (name := Str.ofString "__next__") hT' F.slot_zip_next
  (wpAny_call_entry F.slot_zip_next hT' F.entry_zip_next
   (zip_next_later D hz hT hTI h1 h2 hl1 hl2 hx hy fun h' a1 a3 a4 a5 a6 a7 => wpAny_pure (hQ h' a1 a3 a4 a5 a6 a7)) (F.args_zip_next_1 _))))
theorem zA {z TI TO i1 i2 l1 l2 T : Addr} {k1 k2 : Nat} {xs ys : Array Value} {b1 : Bool} {oT : Obj} {Q : Option Value → Shared → Prop} (hh : A.handled = none) (D : ZipApart z TI TO i1 i2 l1 l2)
  (hz : lO s.heap z TI TO (rawInt T) (.bool b1)) (hT : s.heap.get? T = some oT) (hTI : IsPair s.heap TI (.ref i1) (.ref i2))
  (h1 : s.heap.IsListIter i1 l1 k1) (h2 : s.heap.IsListIter i2 l2 k2) (hl1 : s.heap.IsList l1 xs) (hl2 : s.heap.IsList l2 ys) (hend : xs[k1]? = none ∨ ys[k2]? = none)
  (hQ : ∀ h', (∀ c o, c ≠ z → c ≠ i1 → c ≠ i2 → s.heap.get? c = some o → h'.get? c = some o) → Q none { s with heap := h' }) : wpAny (model prog w) A (pyNext (.ref z)) Q E s := by
 have hT' : s.TypeIs (.ref z) "zip" := ⟨_, hz, rfl⟩
 unfold pyNext
 refine wpAny_bind (wpAny_attempt (wpAny_callSpecial?_slot (name := Str.ofString "__next__") hT' F.slot_zip_next
  (wpAny_call_entry F.slot_zip_next hT' F.entry_zip_next (zip_end_later hh D hz hT hTI h1 h2 hl1 hl2 hend fun h' e hk he => ?_) (F.args_zip_next_1 _))))
 obtain ⟨o, ho, hc⟩ := he
 refine wpAny_bind (wpAny_isInstance (T := "StopIteration") (b := true) ⟨o, ho, hc⟩ isSubtype_stop ?_)
 exact wpAny_pure (hQ _ hk)
end
end PySem
namespace PySem
open Sem (wp)
structure ZAt (N z TI TO i1 i2 l1 l2 : Addr) (xs ys : Array Value) (i : Nat) (h : Heap) : Prop where
 tI : IsPair h TI (.ref i1) (.ref i2)
 it1 : h.IsListIter i1 l1 i
 it2 : h.IsListIter i2 l2 i
 li1 : h.IsList l1 xs
 li2 : h.IsList l2 ys
 zz : (i = 0 ∧ IsZip h z TI TO .none ∧ ∃ a b, IsPair h TO a b) ∨ ∃ T b1 oT, lO h z TI TO (rawInt (T : Addr)) (.bool b1) ∧ h.get? T = some oT ∧ N ≤ T
noncomputable def AccZ (N : Nat) (xs ys : Array Value) (i : Nat) (h : Heap) (acc : Array Value) : Prop :=
 acc.size = i ∧ ∀ (j : Nat) v, acc[j]? = some v → ∃ (T : Addr) (x y : Value), v = .ref T ∧ N ≤ T ∧ xs[j]? = some x ∧ ys[j]? = some y ∧ IsPair h T x y
theorem AccZ.up {N : Nat} {xs ys : Array Value} {i : Nat} {h h' : Heap} {acc : Array Value} (a : AccZ N xs ys i h acc) (k : ∀ b o, N ≤ b → h.get? b = some o → h'.get? b = some o) : AccZ N xs ys i h' acc :=
 ⟨a.1, fun j v e => let ⟨T, x, y, e1, e2, e3, e4, e5⟩ := a.2 j v e; ⟨T, x, y, e1, e2, e3, e4, k _ _ e2 e5⟩⟩
theorem AccZ.push {N : Nat} {xs ys : Array Value} {i : Nat} {h : Heap} {acc : Array Value} {T : Addr} {x y : Value} (a : AccZ N xs ys i h acc) (hT : N ≤ T) (hx : xs[i]? = some x) (hy : ys[i]? = some y) (hp : IsPair h T x y) : AccZ N xs ys (i + 1) h (acc.push (.ref T)) := by
 refine ⟨by rw [Array.size_push, a.1], fun j v hj => ?_⟩
 rw [Array.getElem?_push] at hj
 split at hj
 ·rename_i e; rw [a.1] at e; cases hj; rw [e]; exact ⟨T, x, y, rfl, hT, hx, hy, hp⟩
 ·exact a.2 j v hj
theorem agt {N b c : Nat} (h1 : c < N) (h2 : N ≤ b) : b ≠ c := Nat.ne_of_gt (Nat.lt_of_lt_of_le h1 h2)
section
variable {prog : Program} {w : World} {A : Around} {R : Result → Shared → Prop}
theorem tL (hh : A.handled = none) {N z TI TO i1 i2 l1 l2 S : Addr} {xs ys : Array Value} (D : ZipApart z TI TO i1 i2 l1 l2) (n1 : z < N) (n2 : TI < N) (n3 : TO < N) (n4 : i1 < N) (n5 : i2 < N) (n6 : l1 < N) (n7 : l2 < N) (n8 : S < N)
  (s1 : S ≠ z) (s2 : S ≠ TI) (s3 : S ≠ TO) (s4 : S ≠ i1) (s5 : S ≠ i2) (s6 : S ≠ l1) (s7 : S ≠ l2) (res : Value) (hn : min xs.size ys.size ≤ sizeLine) :
  ∀ (k i : Nat) (s : Shared) (acc : Array Value) (c : Nat), min xs.size ys.size - i = k → i ≤ min xs.size ys.size → N ≤ s.heap.objs.size → ZAt N z TI TO i1 i2 l1 l2 xs ys i s.heap →
  s.heap.get? S = some { cls := .type "list", dict := none, data := .seq acc c, slots := #[] } → AccZ N xs ys i s.heap acc →
  (∀ h' acc' c', (∀ b o, b < N → b ∉ [S, z, TO, i1, i2] → s.heap.get? b = some o → h'.get? b = some o) → h'.get? S = some { cls := .type "list", dict := none, data := .seq acc' c', slots := #[] } →
   AccZ N xs ys (min xs.size ys.size) h' acc' → R (.ok (.ret res)) { s with heap := h' }) →
  codeAny (model prog w) A (.builtin "list.extend.loop" ⟨[.ref S, .ref z, res], []⟩) R s := by
 intro k
 induction k with
 | zero =>
  intro i s acc c hk hi hsz Z hS hacc hR
  have hin : i = min xs.size ys.size := by omega
  subst hin
  have hend : xs[min xs.size ys.size]? = none ∨ ys[min xs.size ys.size]? = none := by
   rcases Nat.le_total xs.size ys.size with h | h
   ·exact .inl (by rw [Nat.min_eq_left h]; exact Array.getElem?_eq_none (Nat.le_refl _))
   ·exact .inr (by rw [Nat.min_eq_right h]; exact Array.getElem?_eq_none (Nat.le_refl _))
  refine codeAny_builtin F.entry_extend_loop ?_
  rw [Around.under_plainId F.plain_extend_loop _]
  show wpAny _ A.in1 (pyNext (.ref z) >>= _) _ _ s
  refine wpAny_bind ?_
  rcases Z.zz with ⟨e0, hz, a, b, hTO⟩ | ⟨T, b1, oT, hz, hT, hNT⟩
  ·refine wpAny_pyNext_zip_end (A := A.in1) hh D hz Z.tI hTO Z.it1 Z.it2 Z.li1 Z.li2 hend fun h' kp => wpAny_pure (hR h' acc c (fun b o hb hm e => ?_) (kp _ _ s1 s3 s4 s5 hS) (hacc.up fun b o hb e => ?_))
   ·exact kp b o (fun z => hm (by simp [z])) (fun z => hm (by simp [z])) (fun z => hm (by simp [z])) (fun z => hm (by simp [z])) e
   ·exact kp b o (agt n1 hb) (agt n3 hb) (agt n4 hb) (agt n5 hb) e
  ·refine zA (A := A.in1) hh D hz hT Z.tI Z.it1 Z.it2 Z.li1 Z.li2 hend fun h' kp => wpAny_pure (hR h' acc c (fun b o hb hm e => ?_) (kp _ _ s1 s4 s5 hS) (hacc.up fun b o hb e => ?_))
   ·exact kp b o (fun z => hm (by simp [z])) (fun z => hm (by simp [z])) (fun z => hm (by simp [z])) e
   ·exact kp b o (agt n1 hb) (agt n4 hb) (agt n5 hb) e
 | succ k ih =>
  intro i s acc c hk hi hsz Z hS hacc hR
  have hlt : i < min xs.size ys.size := by omega
  have hix : i < xs.size := Nat.lt_of_lt_of_le hlt (Nat.min_le_left ..)
  have hiy : i < ys.size := Nat.lt_of_lt_of_le hlt (Nat.min_le_right ..)
  have ex := Array.getElem?_eq_getElem hix
  have ey := Array.getElem?_eq_getElem hiy
  refine codeAny_builtin F.entry_extend_loop ?_
  rw [Around.under_plainId F.plain_extend_loop _]
  show wpAny _ A.in1 (pyNext (.ref z) >>= _) _ _ s
  refine wpAny_bind ?_
  have next : ∀ (h' : Heap) (T : Addr) (b1 : Bool) (oT : Obj), lO h' z TI TO (rawInt T) (.bool b1) → h'.get? T = some oT → N ≤ T → h'.IsListIter i1 l1 (i + 1) → h'.IsListIter i2 l2 (i + 1) → IsPair h' s.heap.objs.size xs[i] ys[i] → h'.objs.size = s.heap.objs.size + 1 →
    (∀ c o, c ≠ z → c ≠ TO → c ≠ i1 → c ≠ i2 → s.heap.get? c = some o → h'.get? c = some o) →
    wpAny (model prog w) A.in1 (updateSeq S (·.push (.ref s.heap.objs.size)) >>= fun _ => again (.builtin "list.extend.loop" ⟨[.ref S, .ref z, res], []⟩)) (fun fin s' => match fin with | .done f => R (.ok f) s' | .again c' => c'.quiet = true ∧ codeAny (model prog w) A c' R s') (fun e s' => R (.error e) s') { s with heap := h' } := by
   intro h' T b1 oT hz hT hNT it1 it2 hp hsz' kp
   have hS' := kp _ _ s1 s3 s4 s5 hS
   refine wpAny_bind ?_
   have oth : ∀ b o, b ≠ S → h'.get? b = some o → (h'.update S (Obj.mapSeq (·.push (.ref s.heap.objs.size)))).get? b = some o := fun b o hb e => (Heap.get?_update_other _ _ (Ne.symm hb)).trans e
   refine wpAny_updateSeq hS' rfl (wpAny_pure ⟨plainId_quiet F.plain_extend_loop _, ih (i + 1) _ (acc.push (.ref s.heap.objs.size)) _ (by omega) hlt ?_ ⟨?_, ?_, ?_, ?_, ?_, ?_⟩ (Heap.get?_update_self _ hS' rfl) ?_ fun h'' acc' c' kp2 hS2 hacc2 => ?_⟩)
    (by rw [hacc.1]; omega) (by show (acc.push _).size ≤ sizeLine + 1; rw [Array.size_push, hacc.1]; omega)
   ·show N ≤ (h'.update S _).objs.size
    rw [Heap.size_update, hsz']; exact Nat.le_succ_of_le hsz
   ·exact oth _ _ (Ne.symm s2) (kp _ _ D.TIz D.TITO D.TIi1 D.TIi2 Z.tI)
   ·exact it1.at fun o e => oth _ o (Ne.symm s4) e
   ·exact it2.at fun o e => oth _ o (Ne.symm s5) e
   ·exact Z.li1.at fun o e => oth _ o (Ne.symm s6) (kp _ o D.l1z D.l1TO D.l1i1 D.l1i2 e)
   ·exact Z.li2.at fun o e => oth _ o (Ne.symm s7) (kp _ o D.l2z D.l2TO D.l2i1 D.l2i2 e)
   ·exact .inr ⟨T, b1, oT, oth _ _ (Ne.symm s1) hz, oth _ _ (agt n8 hNT) hT, hNT⟩
   ·exact AccZ.push (hacc.up fun b o hb e => oth _ _ (agt n8 hb) (kp _ _ (agt n1 hb) (agt n3 hb) (agt n4 hb) (agt n5 hb) e)) hsz ex ey (oth _ _ (agt n8 hsz) hp)
   ·refine hR h'' acc' c' (fun b o hb hm e => kp2 b o hb hm (oth b o (fun z => hm (by simp [z])) ?_)) hS2 hacc2
    exact kp b o (fun z => hm (by simp [z])) (fun z => hm (by simp [z])) (fun z => hm (by simp [z])) (fun z => hm (by simp [z])) e
  rcases Z.zz with ⟨e0, hz, a, b, hTO⟩ | ⟨T, b1, oT, hz, hT, hNT⟩
  ·refine wpAny_pyNext_zip_item (A := A.in1) D hz Z.tI hTO Z.it1 Z.it2 Z.li1 Z.li2 ex ey fun h' a1 a2 a3 a4 a5 a6 kp => ?_
   exact next h' s.heap.objs.size false _ a1 a5 hsz a3 a4 a5 a6 kp
  ·refine vN (A := A.in1) D hz hT Z.tI Z.it1 Z.it2 Z.li1 Z.li2 ex ey fun h' a1 a3 a4 a5 a6 kp => ?_
   exact next h' T true oT a1 (kp _ _ (agt n1 hNT) (agt n4 hNT) (agt n5 hNT) hT) hNT a3 a4 a5 a6 fun c o c1 _ c3 c4 e => kp c o c1 c3 c4 e
end
section
variable {prog : Program} {w : World} {A : Around} {E : Value → Shared → Prop} {s : Shared}
theorem call_list_zip {Q : Value → Shared → Prop} {z TI TO i1 i2 l1 l2 : Addr} {xs ys : Array Value} {a b : Value} (hh : A.handled = none) (D : ZipApart z TI TO i1 i2 l1 l2)
  (hz : IsZip s.heap z TI TO .none) (hTI : IsPair s.heap TI (.ref i1) (.ref i2)) (hTO : IsPair s.heap TO a b) (h1 : s.heap.IsListIter i1 l1 0) (h2 : s.heap.IsListIter i2 l2 0) (hl1 : s.heap.IsList l1 xs) (hl2 : s.heap.IsList l2 ys) (hn : min xs.size ys.size ≤ sizeLine)
  (hQ : ∀ h' acc' c', (∀ b o, b ∉ [z, TO, i1, i2] → s.heap.get? b = some o → h'.get? b = some o) → h'.get? s.heap.objs.size = some { cls := .type "list", dict := none, data := .seq acc' c', slots := #[] } →
   AccZ (s.heap.objs.size + 1) xs ys (min xs.size ys.size) h' acc' → Q (.ref s.heap.objs.size) { s with heap := h' }) :
  wpAny (model prog w) A (call (.type "list") [.ref z]) Q E s := by
 refine callType_codes (Q₁ := fun obj s₁ => obj = .ref s.heap.objs.size ∧ s₁ = { s with heap := s.heap.push { cls := .type "list", data := .seq #[] } }) F.called_list (F.typeCall_list_1 _) F.entry_list_init
  (code_list_new _ ⟨rfl, rfl⟩) fun obj s₁ h₁ => ?_
 obtain ⟨rfl, rfl⟩ := h₁
 have hS : (s.heap.push { cls := .type "list", data := .seq #[] }).get? s.heap.objs.size = some { cls := .type "list", data := .seq #[] } := Heap.get?_push_size _ rfl
 refine ⟨⟨_, hS, rfl⟩, F.args_list_init_2 _ _, ?_⟩
 generalize hSe : s.heap.objs.size = S at *
 have lt : ∀ {c o}, s.heap.get? c = some o → c < S := fun e => by rw [← hSe]; exact Heap.lt_size e
 have lz := lt hz
 have lTI := lt hTI
 have lTO := lt hTO
 have li1 : i1 < S := by obtain ⟨_, e, _⟩ := h1; exact lt e
 have li2 : i2 < S := by obtain ⟨_, e, _⟩ := h2; exact lt e
 have ll1 : l1 < S := by obtain ⟨_, e, _⟩ := hl1; exact lt e
 have ll2 : l2 < S := by obtain ⟨_, e, _⟩ := hl2; exact lt e
 show wpAny _ _ (do let old ← Builtin.List.listItems (.ref S); Builtin.List.listUpdate (.ref S) (fun _ => #[]); letGo old.toList.reverse; Builtin.List.listExtendWith (.ref S) (.ref z) .none) _ _ _
 refine wpAny_bind ?_
 unfold Builtin.List.listItems
 refine wpAny_bind (wpAny_seqItems hS rfl (wpAny_pure ?_))
 show wpAny _ _ (updateSeq S (fun _ => #[]) >>= fun _ => letGo (#[] : Array Value).toList.reverse >>= fun _ => Builtin.List.listExtendWith (.ref S) (.ref z) .none) _ _ _
 refine wpAny_bind (wpAny_updateSeq hS rfl ?_)
 have hS₂ := Heap.get?_update_self (Obj.mapSeq (fun _ => (#[] : Array Value))) hS rfl
 have up₂ : ∀ b o, s.heap.get? b = some o → ((s.heap.push { cls := .type "list", data := .seq #[] }).update S (Obj.mapSeq (fun _ => (#[] : Array Value)))).get? b = some o :=
  fun b o e => (Heap.get?_update_other _ _ (Nat.ne_of_gt (lt e))).trans (Heap.get?_push_of_some _ e)
 have sz₂ : ((s.heap.push { cls := .type "list", data := .seq #[] }).update S (Obj.mapSeq (fun _ => (#[] : Array Value)))).objs.size = S + 1 := by rw [Heap.size_update, Heap.size_push, hSe]
 generalize (s.heap.push { cls := .type "list", data := .seq #[] }).update S (Obj.mapSeq (fun _ => (#[] : Array Value))) = hp at *
 refine wpAny_bind (wpAny_letGo ?_)
 have hT : (({ s with heap := hp } : Shared)).TypeIs (.ref z) "zip" := ⟨_, up₂ _ _ hz, rfl⟩
 unfold Builtin.List.listExtendWith
 refine wpAny_bind (wpAny_typeOf hT ?_)
 have g1 : Builtin.List.listSameRef (.ref S) (.ref z) = false := by simp [Builtin.List.listSameRef]; exact Nat.ne_of_gt lz
 have g2 : (Value.type "zip" == Value.type "list") = false := by decide
 have g3 : (Value.type "zip" == Value.type "tuple") = false := by decide
 simp only [g1, g2, g3, Bool.or_false, Bool.false_eq_true, if_false]
 refine wpAny_bind (wpAny_pyIter_zip (up₂ _ _ hz) ?_)
 refine wpAny_bind (wpAny_holding ?_)
 unfold Builtin.List.listLengthHint
 refine wpAny_bind (wpAny_specialOf hT F.zip_no_len ?_)
 show wpAny _ _ (specialOf (Value.ref z) (Str.ofString "__length_hint__") >>= _) _ _ _
 refine wpAny_bind (wpAny_specialOf hT F.zip_no_hint ?_)
 refine wpAny_pure ?_
 show wpAny _ _ (rule "list.extend.makes-room" >>= fun _ => Builtin.List.listTouch (.ref S) >>= fun _ =>
  again (.builtin "list.extend.loop" ⟨[.ref S, .ref z, .none], []⟩)) _ _ _
 refine wpAny_bind (wpAny_rule ?_)
 refine wpAny_bind ?_
 show wpAny _ _ (updateSeq S (·.push .none) >>= fun _ => updateSeq S (·.pop)) _ _ _
 refine wpAny_bind (wpAny_updateSeq hS₂ rfl ?_)
 have hS₃ := Heap.get?_update_self (Obj.mapSeq (·.push Value.none)) hS₂ rfl
 refine wpAny_updateSeq hS₃ rfl ?_
 have hS₄ := Heap.get?_update_self (Obj.mapSeq (·.pop)) hS₃ rfl
 have up₄ : ∀ b o, s.heap.get? b = some o → ((hp.update S (Obj.mapSeq (·.push Value.none))).update S (Obj.mapSeq (·.pop))).get? b = some o :=
  fun b o e => (Heap.get?_update_other _ _ (Nat.ne_of_gt (lt e))).trans ((Heap.get?_update_other _ _ (Nat.ne_of_gt (lt e))).trans (up₂ b o e))
 have sz₄ : ((hp.update S (Obj.mapSeq (·.push Value.none))).update S (Obj.mapSeq (·.pop))).objs.size = S + 1 := by rw [Heap.size_update, Heap.size_update, sz₂]
 refine wpAny_pure ⟨plainId_quiet F.plain_extend_loop _, tL (A := A.in1) hh (N := S + 1) (S := S) (xs := xs) (ys := ys) D (Nat.lt_succ_of_lt lz) (Nat.lt_succ_of_lt lTI) (Nat.lt_succ_of_lt lTO) (Nat.lt_succ_of_lt li1) (Nat.lt_succ_of_lt li2) (Nat.lt_succ_of_lt ll1) (Nat.lt_succ_of_lt ll2) (Nat.lt_succ_self _) (Nat.ne_of_gt lz) (Nat.ne_of_gt lTI) (Nat.ne_of_gt lTO) (Nat.ne_of_gt li1) (Nat.ne_of_gt li2) (Nat.ne_of_gt ll1) (Nat.ne_of_gt ll2) .none hn _ 0 _ _ _ rfl (Nat.zero_le _) (by show S + 1 ≤ _; rw [sz₄]; exact Nat.le_refl _) ⟨up₄ _ _ hTI, h1.at fun o e => up₄ _ o e, h2.at fun o e => up₄ _ o e, hl1.at fun o e => up₄ _ o e, hl2.at fun o e => up₄ _ o e, .inl ⟨rfl, up₄ _ _ hz, _, _, up₄ _ _ hTO⟩⟩ hS₄ ⟨rfl, fun j v e => by simp at e⟩ fun h' acc' c' kp e1 e2 => ?_⟩
 exact ⟨rfl, hQ h' acc' c' (fun b o hm e => kp b o (Nat.lt_succ_of_lt (lt e)) (fun h => by
  rcases List.mem_cons.mp h with z | z
  ·exact absurd (lt e) (by rw [z]; exact Nat.lt_irrefl _)
  ·exact hm z) (up₄ b o e)) e1 e2⟩
end
end PySem
namespace L2
open PySem PySem.Spec PyProof.Rows
theorem relV_inj : ∀ {v v' : V} {u : Value}, RelV v u → RelV v' u → v = v' := by
 intro v v' u h h'
 have go : ∀ {v : V} {u : Value}, RelV v u → v = (match u with | .none => V.non | .bool b => .bl b | .int i _ => .int i | .str x _ => .str x | .bytes b _ => .byt b | .float b _ => .flt b | .ref a => .ref a | .type n => .ty n | _ => .non) := by
  intro v u h
  cases v <;> first
   | (cases h; rfl)
   | (obtain ⟨t, rfl⟩ := h; rfl)
 rw [go h, ← go h']
section
variable {X : Cx} {pins : List (Addr × Obj)} {σ : List (Option V)} {H : Hp} {s : Shared}
theorem Inv.laidN {H2 : Hp} {h' : Heap} {t' : Nat} (I : Inv X pins σ H s) (k : ∀ b u, s.heap.get? b = some u → h'.get? b = some u) (lo : ∀ b, b < s.heap.objs.size → H2 b = H b)
  (new : ∀ b o, s.heap.objs.size ≤ b → H2 b = some o → ObjOk X.prog X.w H2 h' b o) : Inv X pins σ H2 { s with heap := h', toks := t' } := by
 refine I.un ⟨fun b u q _ _ _ => k b u q, fun b u q _ _ _ => ⟨u.slots, k b u q⟩, fun b u q n _ => (lo b (Heap.lt_size q)).trans n, fun b u q _ => ⟨u, k b u q⟩, fun b xs q => (lo b (I.hok.lt q)).trans q, fun b u xs q => (lo b (I.hok.lt q)).trans q, fun b ps q => ⟨#[], by rw [lo b (I.hok.lt q), q]; simp⟩⟩ fun b o e => ?_
 by_cases hb : b < s.heap.objs.size
 ·rw [lo b hb] at e
  exact (I.hok b o e).stay (fun c v _ q => k c v q) (fun c q => (lo c (I.hok.lt q)).trans q) fun c xs q => (lo c (I.hok.lt q)).trans q
 ·exact new b o (Nat.le_of_not_lt hb) e
noncomputable def tLZ (K : PySem.W.Frag) (ta : TA) : TE := fun σ H Q => ta σ H fun vs H1 => ∃ p q xs ys, vs = [.ref p, .ref q] ∧ SqL K H1 p xs ∧ SqL K H1 q ys ∧
 ∀ (l : Addr) (H2 : Hp) (us : List V), H1 l = none → Same H1 H2 → H2 l = some (.lst us) → Paired (fun (v : V) (z : V × V) => ∃ T, v = .ref T ∧ H1 T = none ∧ T ≠ l ∧ H2 T = some (.tup [z.1, z.2])) us (xs.zip ys) → Q (.ref l) H2
theorem paired_of {α β : Type} {P : α → β → Prop} : ∀ {xs : List α} {us : List β}, xs.length = us.length → (∀ (i : Nat) x u, xs[i]? = some x → us[i]? = some u → P x u) → Paired P xs us
 | [], [], _, _ => .nil
 | x :: xs, u :: us, hl, h => .cons (h 0 x u rfl rfl) (paired_of (by simpa using hl) fun i y w e1 e2 => h (i + 1) y w (by simpa using e1) (by simpa using e2))
theorem Vals.at {xs : List V} {us : List Value} (h : Vals xs us) {i : Nat} {u : Value} (e : us[i]? = some u) : ∃ x, xs[i]? = some x ∧ RelV x u := by
 induction h generalizing i with
 | nil => simp at e
 | @cons x w xs us hx _ ih =>
  cases i with
  | zero => simp at e; subst e; exact ⟨x, rfl, hx⟩
  | succ i => simpa using ih (by simpa using e)
open Classical in
theorem listZip_end {h0 h' : Heap} {N : Nat} {xs ys : List V} {ix iy : List Value} {acc : Array Value} {c' : Nat} {Q : VK} {l : Addr} (I : Inv X pins σ H s) (kp : ∀ b u, s.heap.get? b = some u → h'.get? b = some u) (rx : Vals xs ix) (ry : Vals ys iy) (hl : s.heap.objs.size ≤ l)
  (e1 : h'.get? l = some { cls := .type "list", dict := none, data := .seq acc c', slots := #[] }) (e2 : AccZ (l + 1) ix.toArray iy.toArray (min ix.toArray.size iy.toArray.size) h' acc) (hz : xs.length ≤ sizeLine)
  (k : ∀ (l : Addr) (H2 : Hp) (us : List V), H l = none → Same H H2 → H2 l = some (.lst us) → Paired (fun (v : V) (z : V × V) => ∃ T, v = .ref T ∧ H T = none ∧ T ≠ l ∧ H2 T = some (.tup [z.1, z.2])) us (xs.zip ys) → Q (.ref l) H2) :
  EP X pins σ Q (.ref l) { s with heap := h' } := by
 obtain ⟨hs, ha⟩ := e2
 let Pr : Addr → V × V → Prop := fun b z => ∃ ux uy, l + 1 ≤ b ∧ IsPair h' b ux uy ∧ RelV z.1 ux ∧ RelV z.2 uy ∧ ∃ j : Nat, acc[j]? = some (Value.ref b)
 have prU : ∀ b z z', Pr b z → Pr b z' → z = z' := by
  rintro b ⟨z1, z2⟩ ⟨z3, z4⟩ ⟨ux, uy, _, p1, p2, p3, _⟩ ⟨vx, vy, _, q1, q2, q3, _⟩
  have e := p1.symm.trans q1
  simp only [Option.some.injEq, Obj.mk.injEq, Data.seq.injEq, Array.mk.injEq, List.cons.injEq, and_true, true_and] at e
  obtain ⟨rfl, rfl⟩ := e
  have e1 : z1 = z3 := relV_inj p2 q2
  have e2 : z2 = z4 := relV_inj p3 q3
  rw [e1, e2]
 let us : List V := (acc.toList).map fun u => match u with | .ref T => V.ref T | _ => V.non
 let H2 : Hp := fun b => if b = l then some (.lst us) else if hb : ∃ z, Pr b z then some (.tup [(choose hb).1, (choose hb).2]) else H b
 have h2P : ∀ b z, b ≠ l → Pr b z → H2 b = some (.tup [z.1, z.2]) := fun b z hb hz => by
  have hx : ∃ z, Pr b z := ⟨z, hz⟩
  show (if b = l then _ else if hb : ∃ z, Pr b z then _ else _) = _
  rw [if_neg hb, dif_pos hx, prU b _ z (choose_spec hx) hz]
 have h2l : H2 l = some (.lst us) := by show (if l = l then _ else _) = _; rw [if_pos rfl]
 have lo : ∀ b, b < s.heap.objs.size → H2 b = H b := fun b hb => by
  have n1 : b ≠ l := Nat.ne_of_lt (Nat.lt_of_lt_of_le hb hl)
  have n2 : ¬ ∃ z, Pr b z := fun ⟨z, ux, uy, hN, _⟩ => absurd (Nat.lt_of_lt_of_le hb (Nat.le_trans hl (Nat.le_of_succ_le hN))) (Nat.lt_irrefl _)
  show (if b = l then _ else if hb : ∃ z, Pr b z then _ else _) = _
  rw [if_neg n1, dif_neg n2]
 have hxl := rx.length
 have hyl := ry.length
 have hmin : min ix.toArray.size iy.toArray.size ≤ xs.length := by rw [hxl]; simpa using Nat.min_le_left _ _
 have vus : Vals us acc.toList := by
  refine vals_of (by simp [us]) fun i x u e3 e4 => ?_
  obtain ⟨T, ux, uy, e5, _⟩ := ha i u (by simpa using e4)
  have e6 : us[i]? = some (V.ref T) := by
   simp only [us]
   rw [List.getElem?_map, e4, e5]; rfl
  rw [e6] at e3; cases e3
  rw [e5]; exact rfl
 refine ⟨.ref l, H2, I.laidN (t' := s.toks) kp lo fun b o hb eb => ?_, rfl, k l H2 us (I.hok.fresh hl) (fun b o e => (lo b (I.hok.lt e)).trans e) h2l ?_⟩
 ·have eb : (if b = l then some (HO.lst us) else if hb : ∃ z, Pr b z then some (HO.tup [(choose hb).1, (choose hb).2]) else H b) = some o := eb
  by_cases n1 : b = l
  ·rw [if_pos n1] at eb
   cases eb
   subst n1
   refine ⟨?_, acc.toList, c', vus, by simpa using e1⟩
   rw [vus.length, Array.length_toList, hs]
   exact Nat.le_trans hmin hz
  ·rw [if_neg n1] at eb
   split at eb
   ·rename_i hx
    cases eb
    obtain ⟨ux, uy, _, p1, p2, p3, _⟩ := choose_spec hx
    exact ⟨eY (by show 2 ≤ 1000; decide), [ux, uy], .cons p2 (.cons p3 .nil), ⟨_, p1, rfl, _, rfl⟩⟩
   ·rw [I.hok.fresh hb] at eb; cases eb
 ·have hlen : us.length = (xs.zip ys).length := by
   rw [vus.length, Array.length_toList, hs, List.length_zip, hxl, hyl]; simp
  refine paired_of hlen fun i v z e3 e4 => ?_
  have hi : i < acc.size := by
   have := (List.getElem?_eq_some_iff.mp e3).1
   rw [vus.length, Array.length_toList] at this
   exact this
  have e5 : acc[i]? = some acc[i] := Array.getElem?_eq_getElem hi
  obtain ⟨T, ux, uy, e6, hT, g1, g2, g3⟩ := ha i _ e5
  have e7 : us[i]? = some (V.ref T) := by
   simp only [us]
   rw [List.getElem?_map, Array.getElem?_toList, e5, e6]; rfl
  rw [e7] at e3; cases e3
  obtain ⟨x, ex, rx'⟩ := Vals.at rx (i := i) (u := ux) (by simpa using g1)
  obtain ⟨y, ey, ry'⟩ := Vals.at ry (i := i) (u := uy) (by simpa using g2)
  have ez : z = (x, y) := by
   rw [List.getElem?_zip_eq_some] at e4
   obtain ⟨f1, f2⟩ := e4
   rw [ex] at f1; rw [ey] at f2
   cases f1; cases f2; rfl
  subst ez
  have hTl : T ≠ l := Nat.ne_of_gt hT
  exact ⟨T, rfl, I.hok.fresh (Nat.le_trans hl (Nat.le_of_succ_le hT)), hTl, h2P T (x, y) hTl ⟨ux, uy, hT, g3, rx', ry', i, by rw [e5, e6]⟩⟩
theorem pe_listZip {a b : Expr} {ta : TA} {p p2 pos pos2 : Pos} (hc : X.calm = true) (hg1 : Gl X "list") (hm1 : X.mg "list" = none) (hg2 : Gl X "zip") (hm2 : X.mg "zip" = none) (ha : PA X [a, b] ta)
  (he : starEach [.Call (.Name "zip" p2) [a, b] [] pos2] X.env = [(false, eval (.Call (.Name "zip" p2) [a, b] [] pos2) X.env)] := by rfl)
  (he2 : starEach [a, b] X.env = (false, eval a X.env) :: starEach [b] X.env := by rfl) (hpl2 : (backTo pos2 (starEach [b] X.env)).any (·.1) = false := by rfl) :
  PE X (.Call (.Name "list" p) [.Call (.Name "zip" p2) [a, b] [] pos2] [] pos) (tLZ X.K ta) := by
 intro pins s σ H Q I h
 refine wpAny_Call_Name_kw (wL I hg1 hm1 boot_list ?_ (by decide) (by decide))
 refine PyProof.Rows.callWith_type1 (rest := []) ?_ he rfl
 rw [he]
 refine Calls.spliced_cons ?_
 refine wpAny_Call_Name_kw (wL I hg2 hm2 boot_zip ?_ (by decide) (by decide))
 refine PyProof.Rows.callWith_type1 (thn (ha pos2 pins s σ H _ I h) fun us s1 ⟨vs, H1, I1, r1, p, q, xs, ys, e, hp, hq, k⟩ => ?_) he2 hpl2
 subst e
 cases r1 with
 | cons ra rb =>
  cases rb with
  | cons rb rc =>
   cases rc
   cases ra
   cases rb
   obtain ⟨ix, rx, px, zx⟩ := I1.list hp
   obtain ⟨iy, ry, py, zy⟩ := I1.list hq
   refine call_zip_2 px.isList py.isList fun h' hz hTI hTO i1 i2 sz kp => ?_
   refine Calls.spliced_nil ?_
   have lp : p < s1.heap.objs.size := by obtain ⟨o, e, _⟩ := px.isList; exact Heap.lt_size e
   have lq : q < s1.heap.objs.size := by obtain ⟨o, e, _⟩ := py.isList; exact Heap.lt_size e
   have ap : ∀ {b : Addr} (n : Nat), b < s1.heap.objs.size → b ≠ s1.heap.objs.size + n := fun n hb => Nat.ne_of_lt (Nat.lt_of_lt_of_le hb (Nat.le_add_right _ _))
   have ne : ∀ (m n : Nat), m ≠ n → s1.heap.objs.size + m ≠ s1.heap.objs.size + n := fun m n h e => h (Nat.add_left_cancel e)
   have D : ZipApart (s1.heap.objs.size + 4) (s1.heap.objs.size + 2) (s1.heap.objs.size + 3) (s1.heap.objs.size + 0) (s1.heap.objs.size + 1) p q :=
    ⟨ne _ _ (by decide), ne _ _ (by decide), ne _ _ (by decide), ne _ _ (by decide), ne _ _ (by decide), ne _ _ (by decide), ne _ _ (by decide), ne _ _ (by decide), ne _ _ (by decide), ne _ _ (by decide), ap _ lp, ap _ lp, ap _ lp, ap _ lp, ap _ lq, ap _ lq, ap _ lq, ap _ lq⟩
   have hmn : min ix.toArray.size iy.toArray.size ≤ sizeLine := Nat.le_trans (Nat.min_le_left _ _) (by rw [List.size_toArray, ← rx.length]; exact zx)
   refine call_list_zip (I.ok.hd hc) D hz hTI hTO i1 i2 (px.isList.at fun o e => kp _ o e) (py.isList.at fun o e => kp _ o e) hmn fun h'' acc c kp2 e1 e2 => ?_
   have hsz : s1.heap.objs.size ≤ h'.objs.size := by rw [sz]; exact Nat.le_add_right _ _
   have kp3 : ∀ b u, s1.heap.get? b = some u → h''.get? b = some u := fun b u e => kp2 b u (fun hm => by
    have lb := Heap.lt_size e
    simp only [List.mem_cons, List.not_mem_nil, or_false] at hm
    rcases hm with z | z | z | z
    ·exact ap _ lb z
    ·exact ap _ lb z
    ·exact ap 0 lb z
    ·exact ap _ lb z) (kp b u e)
   show EP X pins σ Q _ { s1 with heap := h'' }
   exact listZip_end (s := s1) (h0 := h') (N := 0) I1 kp3 rx ry hsz e1 e2 zx k
end
end L2
namespace L2.VS
open PySem PySem.Spec PyProof.Rows
variable {P0 : Addr → Hp → Prop} {K : PySem.W.Frag}
noncomputable def zipD (ds es : List D) : List D := (ds.zip es).map fun p => .tuple [p.1, p.2]
noncomputable def mListZip (ma mb : ME) : MO := fun Γ Q => ma Γ fun x Γ1 => mb Γ1 fun y Γ2 => match x, y with
 | .list ds, .list es => Q (.own (zipD ds es)) Γ2
 | _, _ => False
theorem _root_.L2.Dts.zip {G : Hp} : ∀ {xs ys : List V} {ds es : List D}, Dts G xs ds → Dts G ys es → Paired (fun (z : V × V) (e : D × D) => Dt G z.1 e.1 ∧ Dt G z.2 e.2) (xs.zip ys) (ds.zip es) := by
 intro xs ys ds es h g
 induction ds generalizing xs ys es with
 | nil => cases h; exact .nil
 | cons x ds ih =>
  cases h with
  | cons a b =>
   cases es with
   | nil => cases g; exact .nil
   | cons y es => cases g with | cons c d => exact .cons ⟨a, c⟩ (ih b d)
open Classical in
theorem vo_listZip {ta tb : TE} {ma mb : ME} (ha : VT P0 ta ma) (hb : VT P0 tb mb) : VO P0 (tLZ K (fY ta (fY tb vP))) (mListZip ma mb) := by
 intro F Γ σ G H Q Qm r m k
 refine ha F Γ σ G H _ _ r m fun d Γ1 x G1 H1 m1 s1 r1 d1 => ?_
 refine hb F Γ1 σ G1 H1 _ _ r1 m1 fun e Γ2 y G2 H2 m2 s2 r2 d2 => ?_
 have d1 := Dt.same s2 _ _ d1
 split at m2
 ·rename_i ds0 es0 _
  cases d1 with
  | @lst p xs _ hp rs =>
   cases d2 with
   | @lst q ys _ hq ss =>
    refine ⟨p, q, xs, ys, rfl, SqL.of (r2.fr.sub _ _ hp), SqL.of (r2.fr.sub _ _ hq), fun l H3 us hl sm el pr => ?_⟩
    let G3 : Hp := fun b => if G2 b = none then (if V.ref b ∈ us then H3 b else none) else G2 b
    have fresh : ∀ b, V.ref b ∈ us → H2 b = none ∧ b ≠ l := by
     intro b hb
     have : ∀ {us : List V} {zs : List (V × V)}, Paired (fun (v : V) (z : V × V) => ∃ T, v = .ref T ∧ H2 T = none ∧ T ≠ l ∧ H3 T = some (.tup [z.1, z.2])) us zs → V.ref b ∈ us → H2 b = none ∧ b ≠ l := by
      intro us zs h
      induction h with
      | nil => intro h; cases h
      | cons h1 _ ih =>
       intro h
       rcases List.mem_cons.mp h with e | e
       ·obtain ⟨T, e1, e2, e3, _⟩ := h1
        rw [← e] at e1
        cases e1
        exact ⟨e2, e3⟩
       ·exact ih e
     exact this pr hb
    have g : Same G2 G3 := fun b o e => by
     show (if G2 b = none then _ else _) = _
     rw [if_neg (by rw [e]; intro z; cases z)]
     exact e
    have sub : Same G3 H3 := fun b o e => by
     have e : (if G2 b = none then (if V.ref b ∈ us then H3 b else none) else G2 b) = some o := e
     split at e
     ·split at e
      ·exact e
      ·cases e
     ·exact sm _ _ (r2.fr.sub _ _ e)
    have off : ∀ b, H2 b ≠ none → G3 b = G2 b := fun b hb => by
     show (if G2 b = none then (if V.ref b ∈ us then H3 b else none) else G2 b) = _
     split
     ·rename_i e
      rw [if_neg fun h => hb (fresh b h).1, e]
     ·rfl
    have f : Rf F G3 H3 := ⟨sub, fun b o e => by
      obtain ⟨o', e'⟩ := r2.fr.dom e
      rw [off b (by rw [e']; intro z; cases z)]
      exact r2.fr.g0 b o e, fun b o e hb => sm _ _ (r2.fr.h0 b o e hb), F.stab' H2 _ (fun b u e => by
      obtain ⟨o', e'⟩ := r2.fr.dom e
      rw [e']
      exact sm _ _ e') r2.fr.pn⟩
    have kp : ∀ b o, F.H0 b = none → G2 b = none → H2 b = some o → G3 b = none ∧ H3 b = some o := fun b o _ e1 e2 => ⟨by rw [off b (by rw [e2]; intro z; cases z)]; exact e1, sm _ _ e2⟩
    have r3 : R F Γ2 σ G3 H3 := r2.keep f g fun b o _ e0 e1 e2 => kp b o e0 e1 e2
    have dus : Dts G3 us (zipD ds0 es0) := by
     have go : ∀ {us' : List V} {zs : List (V × V)} {es : List (D × D)}, (∀ v ∈ us', v ∈ us) → Paired (fun (v : V) (z : V × V) => ∃ T, v = .ref T ∧ H2 T = none ∧ T ≠ l ∧ H3 T = some (.tup [z.1, z.2])) us' zs → Paired (fun (z : V × V) (e : D × D) => Dt G2 z.1 e.1 ∧ Dt G2 z.2 e.2) zs es → Dts G3 us' (es.map fun p => .tuple [p.1, p.2]) := by
      intro us' zs es hin h
      induction h generalizing es with
      | nil => intro h2; cases h2; exact .nil
      | cons h1 _ ih =>
       intro h2
       cases h2 with
       | cons h3 h4 =>
        obtain ⟨T, rfl, e2, e3, e4⟩ := h1
        refine .cons (.tup ?_ (.cons (Dt.same g _ _ h3.1) (.cons (Dt.same g _ _ h3.2) .nil))) (ih (fun v hv => hin v (List.mem_cons_of_mem _ hv)) h4)
        show (if G2 T = none then (if V.ref T ∈ us then H3 T else none) else G2 T) = _
        rw [if_pos (r2.fr.gfresh e2), if_pos (hin _ List.mem_cons_self)]
        exact e4
     exact go (fun _ h => h) pr (rs.zip ss)
    have hl3 : G3 l = none := by
     show (if G2 l = none then (if V.ref l ∈ us then H3 l else none) else G2 l) = _
     rw [if_pos (r2.fr.gfresh hl), if_neg fun h => (fresh l h).2 rfl]
    exact k _ _ _ _ _ m2 ((s1.trans s2).trans g) r3 ⟨l, us, rfl, r2.fr.fresh hl, hl3, el, dus⟩ (Apart.new r2 hl g kp)
 ·exact m2.elim
theorem i_listZip {ma mb : ME} {Γ : En} {Q : Rv → En → Prop} (h : ma Γ fun x Γ1 => mb Γ1 fun y Γ2 => match x, y with | .list ds, .list es => Q (.own (zipD ds es)) Γ2 | _, _ => False) : mListZip ma mb Γ Q := h
end L2.VS
namespace L2
open PySem PySem.Spec PyProof.Rows
section
variable {X : Cx} {pins : List (Addr × Obj)} {σ : List (Option V)} {H : Hp} {s : Shared}
theorem Inv.turnedL {h' : Heap} {t' : Nat} {ch : List Addr} {T : Addr} {o : HO} (I : Inv X pins σ H s) (k : ∀ b u, b ∉ ch → s.heap.get? b = some u → h'.get? b = some u) (hch : ∀ b ∈ ch, FpOk X pins H b) (hT : s.heap.objs.size ≤ T)
  (new : ObjOk X.prog X.w (upd H T o) h' T o) : Inv X pins σ (upd H T o) { s with heap := h', toks := t' } := by
 have hn := I.hok.fresh hT
 have nch : ∀ b u, H b = some u → b ∉ ch := fun b u e z => by rw [(hch b z).1] at e; cases e
 refine I.step (g' := s.gens) (d' := s.drawn) (ch := ch) (fun b hb => ⟨(hch b hb).2.2.2.1, (hch b hb).2.1, (hch b hb).2.2.2.2.1, (hch b hb).2.2.2.2.2⟩) (fun b o _ _ hc e _ => k b o hc e) (fun b o _ _ hc e _ => ⟨o.slots, k b o hc e⟩)
  (fun b u _ e n => by rw [aY (Nat.ne_of_lt (Nat.lt_of_lt_of_le (Heap.lt_size e) hT))]; exact n) (fun b o hc e => ⟨o, k b o hc e⟩) (fun b xs q => by rw [aY (aZ q hn)]; exact q) (fun b u xs q => by rw [aY (aZ q hn)]; exact q)
  (fun b ps q => ⟨#[], by rw [aY (aZ q hn), q]; simp⟩) (fun m hm => ?_) (fun b u e => ?_) I.bare
 ·obtain ⟨o, es, ep, ho, r⟩ := hm
  exact ⟨o, es, ep, k _ o (fun z => (hch _ z).2.1 rfl) ho, r⟩
 ·by_cases hb : b = T
  ·subst hb; rw [bM] at e; cases e; exact new
  ·rw [aY hb] at e
   refine (I.hok b u e).stay (fun c v hc q => k c v ?_ q) (fun c q => by rw [aY (aZ q hn)]; exact q) fun c xs q => by rw [aY (aZ q hn)]; exact q
   rcases hc with z | z
   ·rw [z]; exact nch b u e
   ·exact nch c _ z
theorem Inv.turnedC {h' : Heap} {t' : Nat} {ch : List Addr} (I : Inv X pins σ H s) (k : ∀ b u, b ∉ ch → s.heap.get? b = some u → h'.get? b = some u) (hch : ∀ b ∈ ch, FpOk X pins H b) : Inv X pins σ H { s with heap := h', toks := t' } := by
 have nch : ∀ b u, H b = some u → b ∉ ch := fun b u e z => by rw [(hch b z).1] at e; cases e
 refine I.step (g' := s.gens) (d' := s.drawn) (ch := ch) (fun b hb => ⟨(hch b hb).2.2.2.1, (hch b hb).2.1, (hch b hb).2.2.2.2.1, (hch b hb).2.2.2.2.2⟩) (fun b o _ _ hc e _ => k b o hc e) (fun b o _ _ hc e _ => ⟨o.slots, k b o hc e⟩)
  (fun b u _ e n => n) (fun b o hc e => ⟨o, k b o hc e⟩) (fun b xs q => q) (fun b u xs q => q) (fun b ps q => ⟨#[], by rw [q]; simp⟩) (fun m hm => ?_) (fun b u e => ?_) I.bare
 ·obtain ⟨o, es, ep, ho, r⟩ := hm
  exact ⟨o, es, ep, k _ o (fun z => (hch _ z).2.1 rfl) ho, r⟩
 ·refine (I.hok b u e).stay (fun c v hc q => k c v ?_ q) (fun _ q => q) fun _ _ q => q
  rcases hc with z | z
  ·rw [z]; exact nch b u e
  ·exact nch c _ z
end
noncomputable def Ite (K : PySem.W.Frag) (a : Addr) : It :=
  ⟨fun i H => ∃ xs x, SqL K H a xs ∧ xs[i]? = some x,
   fun i H v H' => ∃ T x, v = .ref T ∧ H T = none ∧ H' = upd H T (.tup [.int (i : Int), x]) ∧ ∀ xs, SqL K H a xs → xs[i]? = some x,
   fun i H => ∃ xs, SqL K H a xs ∧ xs.length ≤ i⟩
theorem turn_enum {P : Program} {w : World} {K : PySem.W.Frag} {elts : List Expr} {cx} {tp : Pos} {e it a : Addr} (hne : e ≠ it) : Turn P w K (.Tuple elts cx tp) (Ite K a) [e, it] e
  (fun i h => (∃ old, IsEnum h e it (i : Int) old) ∧ h.IsListIter it a i) where
 mem := by simp
 obj := fun i h st c hc => by
  obtain ⟨⟨old, he⟩, ⟨o1, e1, c1, d1⟩⟩ := st
  simp only [List.mem_cons, List.not_mem_nil, or_false] at hc
  rcases hc with rfl | rfl
  ·exact ⟨_, he, fun v z => by cases z⟩
  ·exact ⟨o1, e1, fun v z => by rw [d1] at z; cases z⟩
 keep := fun i h h' st k => by
  obtain ⟨⟨old, he⟩, h1⟩ := st
  exact ⟨⟨old, k e (by simp) _ he⟩, h1.at fun o q => k it (by simp) o q⟩
 item := by
  intro X hP hw hK hc i pins s σ H E I hf st hg
  subst hP hw hK
  obtain ⟨xs, x, qx, ex⟩ := hg
  obtain ⟨ix, rx, px, zx⟩ := I.list qx
  obtain ⟨ux, gx, rux⟩ := rx.get ex
  obtain ⟨⟨old, he⟩, h1⟩ := st
  refine wpAny_pyNext_enum_item he h1 px.isList (x := ux) (by simpa using gx) hne fun h' a1 a2 a3 a4 kp => ?_
  refine ⟨_, rfl, wpAny_letOwnedTupleGo_enum a1 fun h'' he' hs' => ?_⟩
  have hs' : Heap.SameBut e h' h'' := hs'
  have nT : s.heap.objs.size ≠ e := Nat.ne_of_gt (Heap.lt_size he)
  have hT : h''.get? s.heap.objs.size = some { cls := .type "tuple", data := .seq #[.int i s.toks, ux] } := hs'.extBut _ _ nT a3
  have I2 : Inv X pins σ (upd H s.heap.objs.size (.tup [.int (i : Int), x])) { s with heap := h'', toks := s.toks + 1 } := I.turnedL (t' := s.toks + 1) (ch := [e, it])
   (fun c o hc q => hs'.extBut _ _ (fun q => hc (by simp [q])) (kp c o (fun q => hc (by simp [q])) (fun q => hc (by simp [q])) q))
   hf (Nat.le_refl _) ⟨eY (by show 2 ≤ 1000; decide), [.int i s.toks, ux], .cons ⟨_, rfl⟩ (.cons rux .nil), ⟨_, hT, rfl, _, rfl⟩⟩
  have fr := I.hok.fresh (Nat.le_refl s.heap.objs.size)
  refine ⟨.ref s.heap.objs.size, _, I2, rfl, ⟨_, x, rfl, fr, rfl, fun xs' q1 => by rw [I.list_inj q1 qx]; exact ex⟩, ⟨⟨_, by rw [Int.natCast_add]; exact he'⟩, a2.extBut hs'.extBut (Ne.symm hne)⟩, fun c hc => ?_⟩
  have lt : c < s.heap.objs.size := by
   simp only [List.mem_cons, List.not_mem_nil, or_false] at hc
   rcases hc with rfl | rfl
   ·exact Heap.lt_size he
   ·obtain ⟨_, q, _⟩ := h1; exact Heap.lt_size q
  rw [aY (Nat.ne_of_lt lt)]
  exact (hf c hc).1
 done := by
  intro X hP hw hK hc i pins s σ H E I hf st hg
  subst hP hw hK
  obtain ⟨xs, qx, hle⟩ := hg
  obtain ⟨ix, rx, px, zx⟩ := I.list qx
  obtain ⟨⟨old, he⟩, h1⟩ := st
  have lx := rx.length
  refine wpAny_pyNext_enum_end (I.ok.hd hc) he h1 px.isList (by simp; omega) fun h' kp => ⟨rfl, I.turnedC (t' := s.toks) (ch := [e, it]) (fun c o hc q => ?_) hf⟩
  exact kp c o (fun q => hc (by simp [q])) q
 self := fun _ _ _ _ _ st h => wpAny_pyIter_enum st.1.choose_spec h
section
variable {X : Cx}
noncomputable def iEnum (K : PySem.W.Frag) (ta : TA) : TI := fun σ H R => ta σ H fun vs H1 => ∃ p xs, vs = [.ref p] ∧ SqL K H1 p xs ∧ R (Ite K p) H1
theorem pi_enum {a : Expr} {ta : TA} {p pos tp : Pos} {elts : List Expr} {cx} (hg : Gl X "enumerate") (hm : X.mg "enumerate" = none) (ha : PA X [a] ta) (hs : starEach [a] X.env = [(false, eval a X.env)] := by rfl) :
  PI X (.Tuple elts cx tp) (.Call (.Name "enumerate" p) [a] [] pos) (iEnum X.K ta) := by
 intro pins s σ H R I h
 refine wpAny_Call_Name_kw (wL I hg hm boot_enumerate ?_ (by decide) (by decide))
 refine PyProof.Rows.callWith_type1 (rest := []) (thn (ha pos pins s σ H _ I h) fun us s1 ⟨vs, H1, I1, r1, p, xs, e, hp, k⟩ => ?_) hs rfl
 subst e
 cases r1 with
 | cons ra rc =>
  cases rc
  cases ra
  obtain ⟨ix, rx, px, zx⟩ := I1.list hp
  refine call_enumerate_list px.isList fun h' he hit sz kp => ?_
  refine wpAny_pyIter_enum he ?_
  have I2 : Inv X pins σ H1 { s1 with heap := h' } := I1.kept (t' := s1.toks) kp
  refine ⟨_, [s1.heap.objs.size + 1, s1.heap.objs.size], _, _, H1, rfl, I2, turn_enum (Nat.ne_of_gt (Nat.lt_succ_self _)), ⟨⟨_, he⟩, hit⟩, fun c hc => ?_, k⟩
  have hle : s1.heap.objs.size ≤ c := by
   simp only [List.mem_cons, List.not_mem_nil, or_false] at hc
   rcases hc with rfl | rfl
   ·exact Nat.le_succ _
   ·exact Nat.le_refl _
  exact I1.fpOk hle (I1.hok.fresh hle)
end
end L2
namespace L2.VS
open PySem PySem.Spec PyProof.Rows
variable {P0 : Addr → Hp → Prop} {K : PySem.W.Frag}
noncomputable def mItZ (ma mb : ME) : MD := fun Γ Q => ma Γ fun x Γ1 => mb Γ1 fun y Γ2 => match x, y with
 | .list ds, .list es => Q (zipD ds es) Γ2
 | _, _ => False
noncomputable def zR (ds : List D) : List D := (List.range ds.length).map fun (i : Nat) => PyData.tuple [.int (i : Int), ds.getD i .none]
noncomputable def mItE (ma : ME) : MD := fun Γ Q => ma Γ fun x Γ1 => match x with
 | .list ds => Q (zR ds) Γ1
 | _ => False
theorem vi_enum {ta : TE} {ma : ME} (ha : VT P0 ta ma) : VI P0 (iEnum K (fY ta vP)) (mItE ma) := by
 intro F Γ σ G H Q Qm r m k
 refine ha F Γ σ G H _ _ r m fun d Γ1 x G1 H1 m1 s1 r1 d1 => ?_
 split at m1
 ·rename_i ds
  cases d1 with
  | @lst p xs _ hp rs =>
   refine ⟨p, xs, rfl, SqL.of (r1.fr.sub _ _ hp), k _ _ _ _ _ m1 s1 r1 fun F3 Γ3 σ3 G3 H3 s3 r3 => ⟨fun i d e => ?_, ?_⟩⟩
   ·have hp3 := SqL.of (K := K) (r3.fr.sub _ _ (s3 _ _ hp))
    have hi : i < ds.length := by
     have := (List.getElem?_eq_some_iff.mp e).1
     unfold zR at this
     simpa using this
    have ed : d = .tuple [.int (i : Int), ds[i]] := by
     unfold zR at e
     rw [List.getElem?_map, List.getElem?_range hi] at e
     cases e
     simp [List.getD_eq_getElem?_getD, List.getElem?_eq_getElem hi]
    subst ed
    obtain ⟨v1, g1, dv1⟩ := Dts.get rs (List.getElem?_eq_getElem hi)
    refine ⟨⟨xs, v1, hp3, g1⟩, fun v H4 hy => ?_⟩
    obtain ⟨T, x', rfl, hT, rfl, hx⟩ := hy
    have h1 := hx xs hp3
    rw [g1] at h1; cases h1
    have g := mY (r3.fr.gfresh hT) (.tup [.int (i : Int), v1])
    exact ⟨_, g, r3.new hT, .tup bM (.cons (.int _) (.cons (Dt.same (s3.trans g) _ _ dv1) .nil))⟩
   ·refine ⟨xs, SqL.of (r3.fr.sub _ _ (s3 _ _ hp)), ?_⟩
    have l1 := rs.len
    have l3 : (zR ds).length = ds.length := by unfold zR; rw [List.length_map, List.length_range]
    rw [l3, l1]
    exact Nat.le_refl _
 ·exact m1.elim
theorem i_itZ {ma mb : ME} {Γ : En} {Q : List D → En → Prop} (h : ma Γ fun x Γ1 => mb Γ1 fun y Γ2 => match x, y with | .list ds, .list es => Q (zipD ds es) Γ2 | _, _ => False) : mItZ ma mb Γ Q := h
theorem i_itE {ma : ME} {Γ : En} {Q : List D → En → Prop} (h : ma Γ fun x Γ1 => match x with | .list ds => Q (zR ds) Γ1 | _ => False) : mItE ma Γ Q := h
end L2.VS
namespace L2.VS
open PySem PySem.Spec PyProof.Rows
variable {P0 : Addr → Hp → Prop} {A : Nat → Bool}
noncomputable def bTup (ds : List D) (d : D) : Bx where
 P v fp G H := ∃ p q x vs, v = .ref p ∧ fp = [p, q] ∧ p ≠ q ∧ H p = some (.tup [.ref q, x]) ∧ H q = some (.lst vs) ∧ Dt G x d ∧ Dts G vs ds
 mono g h := by
  obtain ⟨p, q, x, vs, h1, h2, h3, h4, h5, h6, h7⟩ := h
  exact ⟨p, q, x, vs, h1, h2, h3, h4, h5, Dt.same g _ _ h6, Dts.same g _ _ h7⟩
 loc k h := by
  obtain ⟨p, q, x, vs, h1, h2, h3, h4, h5, h6, h7⟩ := h
  subst h2
  exact ⟨p, q, x, vs, h1, rfl, h3, (k p (by simp)).trans h4, (k q (by simp)).trans h5, h6, h7⟩
 dom h b hb := by
  obtain ⟨p, q, x, vs, h1, h2, h3, h4, h5, h6, h7⟩ := h
  subst h2
  rcases List.mem_cons.mp hb with e | e
  ·rw [e]; exact ⟨_, h4⟩
  ·rw [List.mem_singleton.mp e]; exact ⟨_, h5⟩
 uniq h g := by
  obtain ⟨p, q, x, vs, h1, h2, h3, h4, h5, h6, h7⟩ := h
  obtain ⟨p', q', x', vs', g1, g2, g3, g4, g5, g6, g7⟩ := g
  rw [h1] at g1; cases g1
  rw [h4] at g4; cases g4
  rw [h2, g2]
 nt h b hb xs e := by
  obtain ⟨p, q, x, vs, h1, h2, h3, h4, h5, h6, h7⟩ := h
  subst h2
  rcases List.mem_cons.mp hb with z | z
  ·rw [z, h4] at e; cases e
   exact ⟨q, by simp, by simp, vs, h5⟩
  ·rw [List.mem_singleton.mp z, h5] at e; cases e
 view := some (.tuple [.list ds, d])
 vok h hv g k := by
  obtain ⟨p, q, x, vs, h1, h2, h3, h4, h5, h6, h7⟩ := h
  cases hv
  subst h1 h2
  exact .tup ((k p (by simp)).trans h4) (.cons (.lst ((k q (by simp)).trans h5) (Dts.same g _ _ h7)) (.cons (Dt.same g _ _ h6) .nil))
noncomputable def mTupB (i : Nat) (mb : ME) : MO := fun Γ Q => match Γ[i]? with
 | some (.own _) => mb Γ fun d Γ1 => match Γ1[i]? with
  | some (.own ds) => Q (.box (bTup ds d)) (Γ1.set i .no)
  | _ => False
 | _ => False
theorem vo_tupB {i : Nat} {tb : TE} {mb : ME} (hb : VT P0 tb mb) : VO P0 (tTup (fY (tVar i) (fY tb vP))) (mTupB i mb) := by
 intro F Γ σ G H Q Qm r m k
 unfold mTupB at m
 split at m
 ·rename_i ds0 e0
  obtain ⟨q, vs0, e1, _⟩ := r.sl i _ e0
  refine ⟨_, e1, ?_⟩
  refine hb F Γ σ G H _ _ r m fun d Γ1 x G1 H1 m1 s1 r1 d1 => ?_
  split at m1
  ·rename_i ds e
   obtain ⟨q', vs, f1, f2, f3, f4, f5⟩ := r1.sl i _ e
   rw [e1] at f1; cases f1
   refine ⟨eY (by show 2 ≤ 1000; decide), fun p hp => ?_⟩
   have hpq : p ≠ q := fun z => by rw [z, f4] at hp; cases hp
   have hl : i < Γ1.length := (List.getElem?_eq_some_iff.mp e).1
   have r2 : R F (Γ1.set i .no) σ G1 (upd H1 p (.tup [.ref q, x])) := (r1.newP hp).drop i
   have hP : (bTup ds d).P (.ref p) [p, q] G1 (upd H1 p (.tup [.ref q, x])) := ⟨p, q, x, vs, rfl, rfl, hpq, bM, by rw [aY (Ne.symm hpq)]; exact f4, d1, f5⟩
   refine k _ _ _ _ _ m1 s1 r2 ⟨[p, q], hP, fun b hb => ?_⟩ fun j s fp f ej hj hf b hb hc => ?_
   ·rcases List.mem_cons.mp hb with z | z
    ·rw [z]; exact ⟨r1.fr.fresh hp, r1.fr.gfresh hp⟩
    ·rw [List.mem_singleton.mp z]; exact ⟨f2, f3⟩
   ·rw [(bTup ds d).uniq hf hP] at hb
    by_cases hij : i = j
    ·subst hij
     rw [List.getElem?_set_self hl] at ej
     cases ej
     rw [show fp = [] from hj] at hc; cases hc
    ·rw [List.getElem?_set_ne hij] at ej
     rcases List.mem_cons.mp hb with z | z
     ·obtain ⟨o, eo⟩ := r1.before (Same.refl _) (fun c o _ g eh => ⟨g, by rw [aY (aZ eh hp)]; exact eh⟩) ej hj b hc
      rw [z, hp] at eo; cases eo
     ·rw [List.mem_singleton.mp z] at hc
      exact (r1.newP hp).apart hij e ej (fp := [q]) ⟨q, vs, rfl, e1, f2, f3, by rw [aY (Ne.symm hpq)]; exact f4, f5⟩ hj q (by simp) hc
  ·exact m1.elim
 ·exact m.elim
theorem i_tupB {i : Nat} {mb : ME} {Γ : En} {Q : Rv → En → Prop} {ds : List D} (h0 : Γ[i]? = some (.own ds)) (h : mb Γ fun d Γ1 => match Γ1[i]? with | some (.own ds) => Q (.box (bTup ds d)) (Γ1.set i .no) | _ => False) : mTupB i mb Γ Q := by
 unfold mTupB
 rw [h0]
 exact h
end L2.VS
namespace PySem
open Sem (wp)
open AutoSeq1 (wpAny_loadPart')
noncomputable def DicE (h : Heap) (d : Addr) (es : Array DictEntry) (ep : Nat) : Prop := ∃ o, h.get? d = some o ∧ o.ExactDict ∧ o.data = .dict es ep
theorem DicE.up {h h' : Heap} {d : Addr} {es : Array DictEntry} {ep : Nat} (x : DicE h d es ep) (k : ∀ o, h.get? d = some o → h'.get? d = some o) : DicE h' d es ep := let ⟨o, e, r⟩ := x; ⟨o, k _ e, r⟩
theorem DicE.ty {s : Shared} {d : Addr} {es : Array DictEntry} {ep : Nat} (x : DicE s.heap d es ep) : s.TypeIs (.ref d) "dict" := let ⟨o, e, c, _⟩ := x; ⟨o, e, c.1⟩
section
variable {prog : Program} {w : World} {A : Around} {E : Value → Shared → Prop} {s : Shared} {d it : Addr} {es : Array DictEntry} {ep : Nat}
theorem dicE_iter {Q : Value → Shared → Prop} (hd : (d == sysModules) = false) (x : DicE s.heap d es ep)
  (q : Q (.ref s.heap.objs.size) { s with heap := s.heap.push { cls := .type "dict_keyiterator", data := .fields #[.ref d, .int 0 0, .int es.size 0, .int ep 0] } }) : wpAny (model prog w) A (pyIter (.ref d)) Q E s := by
 obtain ⟨o, e, c, z⟩ := id x
 refine wpAny_pyIter_slot x.ty F.slot_dict_iter (wpAny_call_entry F.slot_dict_iter x.ty F.entry_dict_iter ?g (F.args_dict_iter_1 _)); case g =>
 unfold Builtin.«dict.__iter__» Builtin.Dict.dictSlotNone; refine wpAny_bind (wpAny_bind (wpAny_notOrdered_dict x.ty ?_)); show wpAny _ _ (pure (Value.ref d)) _ _ s; refine wpAny_pure ?_
 show wpAny _ _ (Builtin.Dict.showsAll d >>= _) _ _ s; unfold Builtin.Dict.showsAll; rw [if_neg (by rw [hd]; exact Bool.false_ne_true)]
 refine wpAny_bind (wpAny_pure (wpAny_bind (wpAny_dictEntries e z (wpAny_bind (wpAny_dictEpoch e z ?_)))))
 refine wpAny_bind (wpAny_newObj_type (wpAny_pure ⟨_, rfl, "dict_keyiterator", _, ⟨_, Heap.get?_push_size _ rfl, rfl⟩, F.slot_dict_keyiterator_next.lookup, ?_⟩)); simpa [rawInt] using q
theorem dicE_next {Q : Option Value → Shared → Prop} {i : Nat} {e : DictEntry} (hit : s.heap.IsKeyIter it d i es.size ep) (x : DicE s.heap d es ep) (he : es[i]? = some e)
  (q : ∀ h', h'.IsKeyIter it d (i + 1) es.size ep → Heap.SameBut it s.heap h' → Q (some e.key) { s with heap := h' }) : wpAny (model prog w) A (pyNext (.ref it)) Q E s := by
 obtain ⟨o, ho, hc, hd⟩ := id hit
 obtain ⟨od, hod, -, hdd⟩ := id x
 unfold pyNext; refine wpAny_bind (wpAny_attempt (wpAny_callSpecial?_slot (name := Str.ofString "__next__") hit.typeIs F.slot_dict_keyiterator_next (wpAny_call_entry F.slot_dict_keyiterator_next hit.typeIs F.entry_dict_keyiterator_next ?g (F.args_dict_keyiterator_next_1 _)))); case g =>
 refine wpAny_bind (wpAny_pure (wpAny_bind (wpAny_bind ?_)))
 first | refine wpAny_bind (wpAny_typeNameOfWhole_keyiter hit.typeIs (wpAny_pure (wpAny_bind (wpAny_fieldsOf ho hd ?_)))) | refine wpAny_bind (wpAny_typeNameOf_keyiter hit.typeIs (wpAny_pure (wpAny_bind (wpAny_fieldsOf ho hd ?_))))
 simp only [show Builtin.Dict_items.ownsTuple "dict_keyiterator" = false by decide, Bool.false_eq_true, if_false]
 show wpAny _ _ (if (Value.ref d == Value.none) = true then _ else _) _ _ s; rw [if_neg (show ¬ ((Value.ref d == Value.none) = true) from Bool.false_ne_true)]
 refine wpAny_bind (wpAny_pure (wpAny_bind (wpAny_dictEntries hod hdd ?_))); rw [if_neg (by simp)]
 refine wpAny_bind (wpAny_pure (wpAny_bind (wpAny_dictEpoch hod hdd ?_))); rw [if_neg (by simp)]
 refine wpAny_pure ?_
 simp only [show ¬ ((i : Int) < 0) from by omega, if_false, Int.toNat_natCast, he]
 refine wpAny_bind ?_
 first | refine wpAny_bind (wpAny_typeNameOfWhole_keyiter hit.typeIs (wpAny_pure (wpAny_bind (wpAny_isOneOf_keyiter hit.typeIs ?_)))) | refine wpAny_bind (wpAny_typeNameOf_keyiter hit.typeIs (wpAny_pure (wpAny_bind (wpAny_isOneOf_keyiter hit.typeIs ?_))))
 show wpAny _ _ (setField (.ref it) 1 (rawInt ((i : Int) + 1)) >>= _) _ _ s; refine wpAny_bind (wpAny_setField ho hd (by simp) ?_)
 have h2 : (s.heap.update it (Obj.mapFields (·.setIfInBounds 1 (rawInt ((i : Int) + 1))))).IsKeyIter it d (i + 1) es.size ep := ⟨_, Heap.get?_update_self _ ho (Obj.isFreed_of_fields (Obj.data_mapFields hd _)), (Obj.cls_mapFields ..).trans hc, by rw [Obj.data_mapFields hd]; simp [rawInt]⟩
 refine wpAny_bind (wpAny_holding (wpAny_bind (wpAny_isOneOf_keyiter (s := { s with heap := s.heap.update it (Obj.mapFields (·.setIfInBounds 1 (rawInt ((i : Int) + 1)))) }) h2.typeIs ?_)))
 show wpAny _ _ (pure e.key) _ _ _; exact wpAny_pure (wpAny_pure ⟨_, rfl, wpAny_pure (q _ h2 (Heap.SameBut.update ..))⟩)
theorem dicE_end {Q : Option Value → Shared → Prop} (hh : A.handled = none) (hit : s.heap.IsKeyIter it d es.size es.size ep) (x : DicE s.heap d es ep)
  (q : ∀ h', Heap.ExtBut it s.heap h' → Q none { s with heap := h' }) : wpAny (model prog w) A (pyNext (.ref it)) Q E s := by
 obtain ⟨o, ho, hc, hd⟩ := id hit
 obtain ⟨od, hod, -, hdd⟩ := id x
 unfold pyNext; refine wpAny_bind (wpAny_attempt (wpAny_callSpecial?_slot (name := Str.ofString "__next__") hit.typeIs F.slot_dict_keyiterator_next (wpAny_call_entry F.slot_dict_keyiterator_next hit.typeIs F.entry_dict_keyiterator_next ?g (F.args_dict_keyiterator_next_1 _)))); case g =>
 refine wpAny_bind (wpAny_pure (wpAny_bind (wpAny_bind ?_)))
 first | refine wpAny_bind (wpAny_typeNameOfWhole_keyiter hit.typeIs (wpAny_pure (wpAny_bind (wpAny_fieldsOf ho hd ?_)))) | refine wpAny_bind (wpAny_typeNameOf_keyiter hit.typeIs (wpAny_pure (wpAny_bind (wpAny_fieldsOf ho hd ?_))))
 simp only [show Builtin.Dict_items.ownsTuple "dict_keyiterator" = false by decide, Bool.false_eq_true, if_false]
 show wpAny _ _ (if (Value.ref d == Value.none) = true then _ else _) _ _ s; rw [if_neg (show ¬ ((Value.ref d == Value.none) = true) from Bool.false_ne_true)]
 refine wpAny_bind (wpAny_pure (wpAny_bind (wpAny_dictEntries hod hdd ?_))); rw [if_neg (by simp)]
 refine wpAny_bind (wpAny_pure (wpAny_bind (wpAny_dictEpoch hod hdd ?_))); rw [if_neg (by simp)]
 refine wpAny_pure ?_
 simp only [show ¬ ((es.size : Int) < 0) from by omega, if_false, Int.toNat_natCast, Array.getElem?_eq_none (Nat.le_refl _)]
 refine wpAny_bind ?_
 first | refine wpAny_bind (wpAny_typeNameOfWhole_keyiter hit.typeIs (wpAny_pure ?g)) | refine wpAny_bind (wpAny_typeNameOf_keyiter hit.typeIs (wpAny_pure ?g))
 case g =>
 show wpAny _ _ (setField (.ref it) 0 .none >>= _) _ _ s; refine wpAny_bind (wpAny_setField ho hd (by simp) ?_)
 show wpAny _ _ (newExc (.type "StopIteration") [] >>= _) _ _ _; refine wpAny_bind ?_; simp only [newExc, newTuple]
 refine wpAny_bind (wpAny_newObj_type (wpAny_bind (m := firstArgMember _ _) (wpAny_of_eq (a := Value.none) (by first | rfl | (simp only [firstArgMember]; rfl)) (wpAny_newObj_type ?g2 (by size_fits)))) (by size_fits)); case g2 =>
 simp only [raiseNew]; refine wpAny_bind (wpAny_handled ?_); rw [show A.in1.handled = none from hh]
 refine wpAny_bind (wpAny_pure (wpAny_throw ?g3)); case g3 =>
 refine wpAny_bind (wpAny_isInstance (T := "StopIteration") (b := true) ⟨_, Heap.get?_push_size _ rfl, rfl⟩ isSubtype_stop (wpAny_pure (q _ (((Heap.SameBut.update ..).extBut.push _).push _))))
theorem Walks.dicE (hh : A.handled = none) (I d : Addr) (hne : d ≠ I) (es : Array DictEntry) (ep : Nat) :
  Walks prog w A I [I, d] [I] es.size (fun i v => ∃ e, es[i]? = some e ∧ v = e.key) (fun i h => h.IsKeyIter I d i es.size ep ∧ DicE h d es ep) where
 sub := fun b hb => by simp at hb; simp [hb]
 frame := fun _ _ _ st hk => ⟨st.1.at fun o e => hk I (by simp) o e, st.2.up fun o e => hk d (by simp) o e⟩
 item := fun i s Q E hi st hQ => by
  refine dicE_next st.1 st.2 (Array.getElem?_eq_getElem hi) fun h' t' z => ?_
  exact hQ _ h' s.toks ⟨_, Array.getElem?_eq_getElem hi, rfl⟩ ⟨t', st.2.up fun o e => z.extBut d o hne e⟩ fun b o hb e => z.extBut b o (fun h => hb (by simp [h])) e
 done := fun s Q E st hQ => dicE_end hh st.1 st.2 fun h' z => hQ h' s.toks fun b o hb e => z b o (fun h => hb (by simp [h])) e
 self := fun _ _ _ _ st hQ => wpAny_pyIter_keyiter st.1 hQ
theorem dicE_hint {Q : Bool → Shared → Prop} (x : DicE s.heap d es ep) (h : Q false s) : wpAny (model prog w) A (Builtin.List.listLengthHint (.ref d)) Q E s := by
 unfold Builtin.List.listLengthHint
 refine wpAny_bind (wpAny_specialOf x.ty F.slot_dict_len.lookup ?_); generalize hid : ("dict.__len__" : String) = id0
 wp_delta
 rw [show splitId id0 = some ("dict", "__len__") from by subst hid; decide +kernel]; subst hid
 refine wpAny_bind (wpAny_isInstance (T := "dict") (b := true) x.ty (by rw [isSubtype_type]; kernel_rfl) ?_)
 refine wpAny_ite_split (fun hab => absurd hab (by decide)) (fun _ => wpAny_ite_split (fun _ => wpAny_bind (wpAny_typeOf x.ty (wpAny_pure h))) (fun hab => absurd (by decide +kernel) hab))
theorem dicE_extend {R : Result → Shared → Prop} (hh : A.handled = none) (hd : (d == sysModules) = false) (x : DicE s.heap d es ep) (hlen : es.size ≤ 2 ^ 24) (S : Addr) (res : Value) (c₀ : Nat)
  (hS : s.heap.get? S = some { cls := .type "list", data := .seq #[] c₀ })
  (hR : ∀ h' tk acc' c', (∀ b o, b ≠ S → s.heap.get? b = some o → h'.get? b = some o) → h'.get? S = some { cls := .type "list", dict := none, data := .seq acc' c', slots := #[] } →
   ItemsOf (fun i v => ∃ e, es[i]? = some e ∧ v = e.key) acc' es.size → R (.ok (.ret res)) { s with heap := h', toks := tk }) :
  wpAny (model prog w) A.in1 (Builtin.List.listExtendWith (.ref S) (.ref d) res)
   (fun fin s' => match fin with | .done f => R (.ok f) s' | .again c' => c'.quiet = true ∧ codeAny (model prog w) A c' R s') (fun e s' => R (.error e) s') s := by
 have hSd : S ≠ d := fun e => by
  obtain ⟨o, ho, hc, _⟩ := x
  rw [← e, hS] at ho; cases ho
  exact absurd (show Value.type "list" = Value.type "dict" from hc.1) (by decide)
 have hdlt : d < s.heap.objs.size := by obtain ⟨o, ho, _⟩ := x; exact Heap.lt_size ho
 have hSI : S ≠ s.heap.objs.size := Nat.ne_of_lt (Heap.lt_size hS)
 have hSf : S ∉ [s.heap.objs.size, d] := fun hm => by
  rcases List.mem_cons.mp hm with z | z
  ·exact hSI z
  ·exact hSd (List.mem_singleton.mp z)
 have W := (Walks.dicE (prog := prog) (w := w) (A := A.in1) hh s.heap.objs.size d (Nat.ne_of_lt hdlt) es ep).toS
 have key : ∀ (h : Heap) (c₁ tk : Nat), h.IsKeyIter s.heap.objs.size d 0 es.size ep → (∀ b o, b ≠ S → s.heap.get? b = some o → h.get? b = some o) →
   h.get? S = some { cls := .type "list", data := .seq #[] c₁ } → codeAny (model prog w) A (.builtin "list.extend.loop" ⟨[.ref S, .ref s.heap.objs.size, res], []⟩) R { s with heap := h, toks := tk } := by
  intro h c₁ tk hit hk hS₁
  refine codeAny_extend_loopS W (by rw [sizeLine_eq]; omega) S hSf res es.size 0 _ #[] c₁ rfl (Nat.zero_le _) ⟨hit, x.up fun o e => hk d o (Ne.symm hSd) e⟩ hS₁ (ItemsOf.nil _) fun s' acc' c' hm hS' hacc => ?_
  rw [Moved.eq_with hm]
  refine hR s'.heap s'.toks acc' c' (fun b o hb e => hm.heap b o (fun z => ?_) (hk b o hb e)) hS' hacc
  rcases List.mem_cons.mp z with e' | z
  ·exact hb e'
  ·exact absurd (Heap.lt_size e) (by rw [List.mem_singleton.mp z]; exact Nat.lt_irrefl _)
 unfold Builtin.List.listExtendWith; refine wpAny_bind (wpAny_typeOf x.ty ?_)
 simp only [show Builtin.List.listSameRef (.ref S) (.ref d) = false by simp [Builtin.List.listSameRef, hSd], show (Value.type "dict" == Value.type "list") = false by decide, show (Value.type "dict" == Value.type "tuple") = false by decide, Bool.or_false, Bool.false_eq_true, if_false]
 refine wpAny_bind (dicE_iter hd x (wpAny_bind (wpAny_holding (dicE_hint (x.up fun o e => Heap.get?_push_of_some _ e) ?_))))
 have hit₁ : (s.heap.push { cls := .type "dict_keyiterator", data := .fields #[.ref d, .int 0 0, .int es.size 0, .int ep 0] }).IsKeyIter s.heap.objs.size d 0 es.size ep := ⟨_, Heap.get?_push_size _ rfl, rfl, rfl⟩
 have hS₁ := Heap.get?_push_of_some { cls := .type "dict_keyiterator", data := .fields #[.ref d, .int 0 0, .int es.size 0, .int ep 0] } hS
 refine wpAny_ite_split (fun _ => wpAny_bind (wpAny_rule (wpAny_bind ?g))) (fun _ => wpAny_pure ⟨plainId_quiet F.plain_extend_loop _, key _ c₀ _ hit₁ (fun b o _ e => Heap.get?_push_of_some _ e) hS₁⟩); case g =>
 show wpAny _ _ (updateSeq S (·.push .none) >>= fun _ => updateSeq S (·.pop)) _ _ _; refine wpAny_bind (wpAny_updateSeq hS₁ rfl ?_)
 have hS₂ := Heap.get?_update_self (Obj.mapSeq (·.push Value.none)) hS₁ rfl; refine wpAny_updateSeq (hz := by seq_fits) hS₂ rfl ?_
 have hS₃ := Heap.get?_update_self (Obj.mapSeq (·.pop)) hS₂ rfl; refine wpAny_pure ⟨plainId_quiet F.plain_extend_loop _, key _ _ _ ?_ (fun b o hb e => ?_) hS₃⟩
 ·exact hit₁.at fun o e => (Heap.get?_update_other _ _ hSI).trans ((Heap.get?_update_other _ _ hSI).trans e)
 ·exact (Heap.get?_update_other _ _ (Ne.symm hb)).trans ((Heap.get?_update_other _ _ (Ne.symm hb)).trans (Heap.get?_push_of_some _ e))
theorem zT {R : Result → Shared → Prop} (hh : A.handled = none) (hd : (d == sysModules) = false) (x : DicE s.heap d es ep) (hlen : es.size ≤ 2 ^ 24) (S : Addr) (hS : s.heap.get? S = some { cls := .type "list", data := .seq #[] })
  (hR : ∀ h' tk acc' c', (∀ b o, b ≠ S → s.heap.get? b = some o → h'.get? b = some o) → h'.get? S = some { cls := .type "list", dict := none, data := .seq acc' c', slots := #[] } →
   ItemsOf (fun i v => ∃ e, es[i]? = some e ∧ v = e.key) acc' es.size → R (.ok (.ret .none)) { s with heap := h', toks := tk }) :
  wpAny (model prog w) A.in1 (Builtin.«list.__init__» ⟨[.ref S, .ref d], []⟩)
   (fun fin s' => match fin with | .done f => R (.ok f) s' | .again c' => c'.quiet = true ∧ codeAny (model prog w) A c' R s') (fun e s' => R (.error e) s') s := by
 have hSd : S ≠ d := fun e => by
  obtain ⟨o, ho, hc, _⟩ := x
  rw [← e, hS] at ho; cases ho
  exact absurd (show Value.type "list" = Value.type "dict" from hc.1) (by decide)
 show wpAny _ _ (do let old ← Builtin.List.listItems (.ref S); Builtin.List.listUpdate (.ref S) (fun _ => #[]); letGo old.toList.reverse; Builtin.List.listExtendWith (.ref S) (.ref d) .none) _ _ s
 unfold Builtin.List.listItems; refine wpAny_bind (wpAny_bind (wpAny_seqItems hS rfl (wpAny_pure ?_)))
 show wpAny _ _ (updateSeq S (fun _ => #[]) >>= fun _ => letGo (#[] : Array Value).toList.reverse >>= fun _ => Builtin.List.listExtendWith (.ref S) (.ref d) .none) _ _ s
 have oth : ∀ b o, b ≠ S → s.heap.get? b = some o → (s.heap.update S (Obj.mapSeq (fun _ => (#[] : Array Value)))).get? b = some o := fun b o hb e => (Heap.get?_update_other _ _ (Ne.symm hb)).trans e
 refine wpAny_bind (wpAny_updateSeq hS rfl (wpAny_bind (wpAny_letGo (dicE_extend hh hd (x.up fun o e => oth d o (Ne.symm hSd) e) hlen S .none _ (Heap.get?_update_self (Obj.mapSeq (fun _ => (#[] : Array Value))) hS rfl) fun h' tk acc' c' hk hS' hacc => ?_))))
 exact hR h' tk acc' c' (fun b o hb e => hk b o hb (oth b o hb e)) hS' hacc
theorem dicE_list {Q : Value → Shared → Prop} (hh : A.handled = none) (hd : (d == sysModules) = false) (x : DicE s.heap d es ep) (hlen : es.size ≤ 2 ^ 24)
  (hQ : ∀ h' tk acc' c', (∀ b o, s.heap.get? b = some o → h'.get? b = some o) →
   h'.get? s.heap.objs.size = some { cls := .type "list", dict := none, data := .seq acc' c', slots := #[] } → ItemsOf (fun i v => ∃ e, es[i]? = some e ∧ v = e.key) acc' es.size → Q (.ref s.heap.objs.size) { s with heap := h', toks := tk }) :
  wpAny (model prog w) A (call (.type "list") [.ref d]) Q E s := by
 refine callType_codes (Q₁ := fun obj s₁ => obj = .ref s.heap.objs.size ∧ s₁ = { s with heap := s.heap.push { cls := .type "list", data := .seq #[] } }) F.called_list (F.typeCall_list_1 _) F.entry_list_init (code_list_new _ ⟨rfl, rfl⟩) fun obj s₁ h₁ => ?_
 obtain ⟨rfl, rfl⟩ := h₁
 have hS : (s.heap.push { cls := .type "list", data := .seq #[] }).get? s.heap.objs.size = some { cls := .type "list", data := .seq #[] } := Heap.get?_push_size _ rfl
 refine ⟨⟨_, hS, rfl⟩, F.args_list_init_2 _ _, zT (A := A.in1) hh hd (x.up fun o e => Heap.get?_push_of_some _ e) hlen _ hS fun h' tk acc' c' hk hS' hacc => ?_⟩
 exact ⟨rfl, hQ h' tk acc' c' (fun b o e => hk b o (Nat.ne_of_lt (Heap.lt_size e)) (Heap.get?_push_of_some _ e)) hS' hacc⟩
end
section
variable {prog : Program} {w : World} {K : Type} [DecidableEq K] {knd : HeapKind prog w K} {A : Around} {E : Value → Shared → Prop} {s : Shared}
theorem dicH_default {d a : Addr} {xs : List (K × Addr × Value)} {k : K} {v : Value} {Q : Value → Shared → Prop} (hu : knd.room A) (hkey : knd.is s.heap k a) (hm : s.heap.DictOfH knd d xs) (hz : xs.length ≤ sizeLine)
  (old : ∀ (j : Nat) (p : Addr × Value), xs[j]? = some (k, p) → Q p.2 { s with toks := s.toks + knd.draws k })
  (new : (∀ (j : Nat) (p : Addr × Value), xs[j]? ≠ some (k, p)) → ∀ h' es ep, (∃ o, h'.get? d = some o ∧ o.ExactDict ∧ o.data = .dict es ep ∧ es.toList = (xs ++ [(k, a, v)]).map (entryOfKey knd)) → Heap.SameBut d s.heap h' → Q v { s with heap := h', toks := s.toks + knd.draws k }) :
  wpAny (model prog w) A (dictSetDefault d (.ref a) v) Q E s := by
 obtain ⟨o, es, ep, ho, hc, hd, he, his, hn⟩ := hm
 unfold dictSetDefault; try with_reducible refine wpAny_holding ?_
 refine wpAny_bind (knd.pyHash hu hkey (wpAny_bind (wpAny_dictFind_heap (s := { s with toks := s.toks + knd.draws k }) hu hkey ho hd he his hn (fun no => ?_) fun j p hj => ?_)))
 ·refine wpAny_bind (wpAny_rule (wpAny_bind (wpAny_updateDictKeys (hz := by have e := size_of_entries he; omega) (s := { s with toks := s.toks + knd.draws k }) ho hd (wpAny_pure (new no _ _ (ep + 1) ⟨_, Heap.get?_update_self _ ho (Obj.isFreed_of_dict (Obj.data_mapDictKeys hd _)), hc.mapDictKeys _, Obj.data_mapDictKeys hd _, ?_⟩ (Heap.SameBut.update ..))))))
  simp [he, entryOfKey]
 ·refine wpAny_bind (wpAny_dictEntries (s := { s with toks := s.toks + knd.draws k }) ho hd ?_); rw [entry_at he j, hj]
  exact wpAny_bind (wpAny_rule (wpAny_pure (old j p hj)))
theorem yV {d a : Addr} {xs : List (K × Addr × Value)} {k : K} {v : Value} {Q : Value → Shared → Prop} (hu : knd.room A.in1) (hkey : knd.is s.heap k a) (hds : (d == sysModules) = false) (hm : s.heap.DictOfH knd d xs) (hz : xs.length ≤ sizeLine)
  (old : ∀ (j : Nat) (p : Addr × Value), xs[j]? = some (k, p) → Q p.2 { s with toks := s.toks + knd.draws k })
  (new : (∀ (j : Nat) (p : Addr × Value), xs[j]? ≠ some (k, p)) → ∀ h' es ep, (∃ o, h'.get? d = some o ∧ o.ExactDict ∧ o.data = .dict es ep ∧ es.toList = (xs ++ [(k, a, v)]).map (entryOfKey knd)) → Heap.SameBut d s.heap h' → Q v { s with heap := h', toks := s.toks + knd.draws k }) :
  wpAny (model prog w) A (call (.builtin "dict.setdefault") [.ref d, .ref a, v]) Q E s := by
 refine wpAny_call_entry F.slot_dict_setdefault hm.typeIs F.entry_dict_setdefault ?_ (F.args_dict_setdefault_3 _ _ _)
 unfold Builtin.«dict.setdefault» Builtin.Dict.keyAndDefault; refine wpAny_bind (wpAny_bind (wpAny_notOrdered_dict hm.typeIs ?_))
 show wpAny _ _ (pure (d, Value.ref a, some v)) _ _ s; refine wpAny_pure ?_
 show wpAny _ _ (if (d == sysModules) = true then _ else (dictSetDefault d (.ref a) v >>= _)) _ _ s; rw [if_neg (by rw [hds]; exact Bool.false_ne_true)]
 exact wpAny_bind (dicH_default hu hkey hm hz (fun j p hj => wpAny_pure ⟨_, rfl, old j p hj⟩) fun no h' es ep e z => wpAny_pure ⟨_, rfl, new no h' es ep e z⟩)
end
end PySem
namespace L2
open PySem PySem.Spec PyProof.Rows
noncomputable def kEnt (x : List Int × Addr × Addr) : DictEntry := ⟨reduceHash (Builtin.Tuple.tupleHashOf (x.1.map hashInt)), .ref x.2.1, .ref x.2.2⟩
noncomputable def DicX (d : Addr) (xs : List (List Int × Addr × Addr)) (ep : Nat) : HO := .ext fun h => DicE h d (xs.map kEnt).toArray ep
section
variable {P : Program} {w : World} {H : Hp} {h : Heap} {p : Addr} {xs : List (List Int × Addr × Addr)} {ep : Nat}
theorem rN (ok : HOk P w H h) (e : H p = some (DicX p xs ep)) : DicE h p (xs.map kEnt).toArray ep := (ok p _ e).1
theorem dicX_ok (x : DicE h p (xs.map kEnt).toArray ep) : ObjOk P w H h p (DicX p xs ep) :=
 ⟨x, let ⟨o, e, _⟩ := x; ⟨o, e⟩, fun _ _ y k => y.up k⟩
theorem ints_items : ∀ {ks : List Int} {us : List Value}, Vals (ks.map V.int) us → ItemsAre (intKind P w) ks us := by
 intro ks us h
 induction ks generalizing us with
 | nil => cases h; exact .nil
 | cons k ks ih =>
  cases h with
  | cons r t =>
   obtain ⟨tk, rfl⟩ := r
   exact .cons (intKind_is _ _ _ _) (ih t)
theorem vR {ks : List Int} {a : Addr} (ok : HOk P w H h) (e : H a = some (.tup (ks.map V.int))) : IsTupleKey (intKind P w) h ks a := by
 obtain ⟨_, its, r, o, h1, h2, n, h3⟩ := (show ObjOk P w H h a (.tup (ks.map V.int)) from ok a _ e)
 exact ⟨o, its.toArray, n, h1, h2, h3, by simpa using ints_items r⟩
theorem exHeap : ∀ n : Nat, ∃ h : Heap, h.objs.size = n
 | 0 => ⟨{ objs := #[] }, rfl⟩
 | n + 1 => let ⟨h, e⟩ := exHeap n; ⟨h.push { cls := .type "dict", data := .dict #[] }, by rw [Heap.size_push, e]⟩
theorem DicX.inj {ys : List (List Int × Addr × Addr)} {ep' : Nat} (e : DicX p xs ep = DicX p ys ep') : xs.map kEnt = ys.map kEnt := by
 obtain ⟨h0, hs⟩ := exHeap p
 unfold DicX at e
 have q := congrFun (HO.ext.inj e) (h0.push { cls := .type "dict", data := .dict (xs.map kEnt).toArray ep })
 have g : (h0.push { cls := .type "dict", data := .dict (xs.map kEnt).toArray ep }).get? p = some { cls := .type "dict", data := .dict (xs.map kEnt).toArray ep } := by rw [← hs]; exact Heap.get?_push_size _ rfl
 obtain ⟨o, h1, h2, h3⟩ := q.mp ⟨_, g, ⟨rfl, rfl, rfl⟩, rfl⟩
 rw [g] at h1; cases h1
 injection h3 with h4 _
 exact congrArg Array.toList h4
end
section
variable {X : Cx}
noncomputable def tDNewX : TE := fun _ H Q => ∀ p, H p = none → (p == sysModules) = false → Q (.ref p) (upd H p (DicX p [] 0))
theorem pe_dnewX {pos : Pos} : PE X (.Dict [] [] pos) tDNewX := by
 intro pins s σ H Q I h
 have big : sysModules < s.heap.objs.size := Nat.lt_trans (by decide) (show mainGlobals < s.heap.objs.size from (I.mod.glob.keeps I.bk).lt)
 refine wpAny_Dict_empty ⟨.ref s.heap.objs.size, _, I.laid (a := s.heap.objs.size) (o := DicX s.heap.objs.size [] 0) (t' := s.toks) (fun _ _ q => Heap.get?_push_of_some _ q) (Nat.le_refl _)
  (dicX_ok ⟨_, Heap.get?_push_size _ rfl, ⟨rfl, rfl, rfl⟩, rfl⟩), rfl, h _ (I.hok.fresh (Nat.le_refl _)) (beq_eq_false_iff_ne.mpr (Ne.symm (Nat.ne_of_lt big)))⟩
noncomputable def rSetD : V → List V → Hp → VK → Prop := fun x vs H Q => ∃ p xs ep b k l, x = .ref p ∧ vs = [.ref b, .ref l] ∧ (p == sysModules) = false ∧ H p = some (DicX p xs ep) ∧ (xs.map (·.1)).Nodup ∧
 (∀ y ∈ xs, H y.2.1 = some (.tup (y.1.map V.int))) ∧ H b = some (.tup (k.map V.int)) ∧ xs.length ≤ 1000 ∧
 (∀ (j : Nat) c q, xs[j]? = some (k, c, q) → Q (.ref q) H) ∧ ((∀ y ∈ xs, y.1 ≠ k) → ∀ ep', Q (.ref l) (upd H p (DicX p (xs ++ [(k, b, l)]) ep')))
theorem mt_setD (hu : X.A.units + 64 < cLine) : MtM X "dict.setdefault" rSetD := by
 intro pins s σ H x vs v us Q I rx rv h
 obtain ⟨p, xs, ep, b, k, l, rfl, rfl, hp, e, nd, hk, hb, hz, old, new⟩ := h
 cases rx
 obtain ⟨u1, u2, rfl, r1, r2⟩ := rv.two
 cases r1
 cases r2
 obtain ⟨o, ho, hc, hd⟩ := rN I.hok e
 have hm : s.heap.DictOfH (tupleKind (intKind X.prog X.w)) p (xs.map fun y => (y.1, y.2.1, Value.ref y.2.2)) := by
  refine ⟨o, _, ep, ho, hc, hd, by rw [List.map_map]; rfl, fun y hy => ?_, by rw [List.map_map]; exact nd⟩
  obtain ⟨z, hz, rfl⟩ := List.mem_map.mp hy
  exact vR I.hok (hk z hz)
 refine yV (knd := tupleKind (intKind X.prog X.w)) (show X.A.in1.units < cLine from by show X.A.units + 1 < cLine; omega) (vR I.hok hb) hp hm (by rw [List.length_map]; exact eY hz) (fun j q hj => ?_) fun no h' es' ep' hx' sb => ?_
 ·rw [List.getElem?_map] at hj
  cases ej : xs[j]? with
  | none => rw [ej] at hj; cases hj
  | some y =>
   rw [ej] at hj
   obtain ⟨y1, y2, y3⟩ := y
   cases hj
   exact ⟨.ref y3, H, I.tok _, rfl, old j y2 y3 ej⟩
 ·obtain ⟨o', g1, g2, g3, g4⟩ := hx'
  refine ⟨.ref l, _, I.write (x := p) (e := p) (by rw [e]; exact True.intro) (.inl rfl) (fun c u hc q => sb.extBut c u hc q) ⟨_, g1⟩ (dicX_ok (ep := ep') ⟨o', g1, g2, ?_⟩), rfl, new (fun y hy hyk => ?_) ep'⟩
  ·rw [g3]
   congr 1
   apply Array.toList_inj.mp
   rw [g4, List.map_append, List.map_append, List.map_map]
   rfl
  ·obtain ⟨j, hj⟩ := List.getElem?_of_mem hy
   refine no j (y.2.1, Value.ref y.2.2) ?_
   rw [List.getElem?_map, hj, ← hyk]
   rfl
noncomputable def tBMD (r : V → List V → Hp → VK → Prop) (to : TE) (t : TA) : TE := fun σ H Q => to σ H fun x H1 => (∃ p xs ep, x = .ref p ∧ H1 p = some (DicX p xs ep)) ∧ t σ H1 fun xs H2 => r x xs H2 Q
variable {o e : Expr} {es : List Expr} {to : TE} {t : TA} {name : Str} {apos cpos : Pos} {id : String} {r : V → List V → Hp → VK → Prop}
theorem pe_bmD (slot : Slot "dict" name id) (hty : typeOf (.builtin id) = pure (.type "method_descriptor")) (hm : MtM X id r) (ho : PE X o to) (ha : PA X (e :: es) t)
  (hbase : attributeBase o name X.env (eval o X.env) = eval o X.env := by rfl)
  (hfew : ((backTo cpos (starEach (e :: es) X.env)).all (fun x => !x.1) && (backToKw cpos (keywordEach [] X.env)).all (fun x => x.1.isSome)
   && decide ((e :: es).length + ([] : List Keyword).length + (if ([] : List Keyword).isEmpty then 0 else 1) < 30)) = true := by rfl)
  (hline : (apos.endLine == cpos.line) = true := by rfl) (hs : starEach (e :: es) X.env = (false, eval e X.env) :: starEach es X.env := by rfl) (hplain : (backTo cpos (starEach es X.env)).any (·.1) = false := by rfl) :
  PE X (.Call (.Attribute o name apos) (e :: es) [] cpos) (tBMD r to t) := by
 intro pins s σ H Q I h
 refine wpAny_Call_method_late hbase hfew hline rfl (thn (ho pins s σ H _ I h) fun v s1 ⟨x, H1, I1, r1, ⟨p, xs, n, ex, ep⟩, q1⟩ => ?_)
 subst ex
 cases r1
 have d := rN I1.hok ep
 have d' := d
 obtain ⟨ob, h1, h2, h3⟩ := d'
 refine ⟨"dict", id, PySem.F.plainAttrs_dict, slot, hty, d.ty, fun a z => ?_, ?_⟩
 ·cases z
  exact ⟨ob, h1, h2.2.1⟩
 have hA := ha cpos pins s1 σ H1 _ I1 q1
 rw [hs] at hA ⊢
 refine Calls.callWith_builtin (by show (false || (backTo cpos (starEach es X.env)).any (·.1)) = false; rw [hplain] <;> rfl) (Calls.evalArgs_plain ?_)
 exact thn hA fun us s2 ⟨vs, H2, I2, r2, q2⟩ => hm pins s2 σ H2 (.ref p) vs (.ref p) us Q I2 rfl r2 q2
noncomputable def rListD : List V → Hp → VK → Prop := fun vs H Q => ∃ p xs ep, vs = [.ref p] ∧ (p == sysModules) = false ∧ H p = some (DicX p xs ep) ∧ xs.length ≤ 1000 ∧ ∀ l, H l = none → Q (.ref l) (upd H l (.lst (xs.map fun y => V.ref y.2.1)))
theorem call_listD (hc : X.calm = true) : CallR X (.type "list") rListD := by
 intro pins s σ H xs us Q I r h
 obtain ⟨p, ys, ep, rfl, hp, e, hz, q⟩ := h
 obtain ⟨u, rfl, rx⟩ := vals1 r
 cases rx
 have d := rN I.hok e
 have hsz : (ys.map kEnt).toArray.size = ys.length := by rw [List.size_toArray, List.length_map]
 refine dicE_list (I.ok.hd hc) hp d (by omega) fun h' tk acc' c' kp e' it => ?_
 have hl : (ys.map fun y => V.ref y.2.1).length = acc'.toList.length := by rw [List.length_map, ← hsz, ← it.1]; simp
 have hv : Vals (ys.map fun y => V.ref y.2.1) acc'.toList := by
  refine vals_of hl fun i x w e1 e2 => ?_
  obtain ⟨en, z1, z2⟩ := it.2 i w (by simpa using e2)
  rw [← Array.getElem?_toList, List.getElem?_map] at z1
  rw [List.getElem?_map] at e1
  cases e3 : ys[i]? with
  | none => rw [e3] at e1; cases e1
  | some y =>
   rw [e3] at e1 z1
   cases e1
   cases z1
   exact z2
 exact ⟨.ref s.heap.objs.size, _, I.laid kp (Nat.le_refl _) (show ObjOk X.prog X.w _ h' _ (.lst (ys.map fun y => V.ref y.2.1)) from ⟨eY (by rw [List.length_map]; exact hz), acc'.toList, c', hv, by simpa using e'⟩), rfl, q _ (I.hok.fresh (Nat.le_refl _))⟩
end
end L2
namespace L2.VS
open PySem PySem.Spec PyProof.Rows
variable {P0 : Addr → Hp → Prop} {A : Nat → Bool}
noncomputable def keyD (k : List Int) : D := .tuple (k.map .int)
theorem ints_back {G : Hp} : ∀ {k : List Int} {vs : List V}, Dts G vs (k.map .int) → vs = k.map V.int := by
 intro k vs h
 induction k generalizing vs with
 | nil => cases h; rfl
 | cons n k ih =>
  cases h with
  | cons a b =>
   cases a
   rw [ih b]; rfl
theorem key_back {G : Hp} {v : V} {k : List Int} (h : Dt G v (keyD k)) : ∃ b, v = .ref b ∧ G b = some (.tup (k.map V.int)) := by
 cases h with
 | tup hp rs => rw [ints_back rs] at hp; exact ⟨_, rfl, hp⟩
theorem ints_dts {G : Hp} : ∀ (k : List Int), Dts G (k.map V.int) (k.map .int)
 | [] => .nil
 | n :: k => .cons (.int n) (ints_dts k)
noncomputable def DicRel (G H : Hp) (xs : List (List Int × Addr × Addr)) (kds : List (List Int × List D)) : Prop :=
 xs.length = kds.length ∧ ∀ (j : Nat) x kd, xs[j]? = some x → kds[j]? = some kd → x.1 = kd.1 ∧ G x.2.1 = some (.tup (x.1.map V.int)) ∧ ∃ vs, H x.2.2 = some (.lst vs) ∧ Dts G vs kd.2
theorem DicRel.at {G H : Hp} {xs : List (List Int × Addr × Addr)} {kds : List (List Int × List D)} (h : DicRel G H xs kds) {j : Nat} {x : List Int × Addr × Addr} (e : xs[j]? = some x) : ∃ kd, kds[j]? = some kd ∧ x.1 = kd.1 ∧ G x.2.1 = some (.tup (x.1.map V.int)) ∧ ∃ vs, H x.2.2 = some (.lst vs) ∧ Dts G vs kd.2 := by
 have hj : j < kds.length := by rw [← h.1]; exact (List.getElem?_eq_some_iff.mp e).1
 exact ⟨_, List.getElem?_eq_getElem hj, h.2 j x _ e (List.getElem?_eq_getElem hj)⟩
theorem DicRel.keys {G H : Hp} {xs : List (List Int × Addr × Addr)} {kds : List (List Int × List D)} (h : DicRel G H xs kds) : xs.map (·.1) = kds.map (·.1) := by
 refine List.ext_getElem? fun j => ?_
 rw [List.getElem?_map, List.getElem?_map]
 cases e : xs[j]? with
 | none =>
  rw [List.getElem?_eq_none_iff] at e
  rw [List.getElem?_eq_none_iff.mpr (by rw [← h.1]; exact e)]; rfl
 | some x =>
  obtain ⟨kd, e1, e2, _⟩ := h.at e
  rw [e1]; exact congrArg some e2
theorem DicRel.mem {G H : Hp} {xs : List (List Int × Addr × Addr)} {kds : List (List Int × List D)} (h : DicRel G H xs kds) {x : List Int × Addr × Addr} (hx : x ∈ xs) : G x.2.1 = some (.tup (x.1.map V.int)) ∧ ∃ vs, H x.2.2 = some (.lst vs) := by
 obtain ⟨j, e⟩ := List.getElem?_of_mem hx
 obtain ⟨kd, _, _, e3, vs, e4, _⟩ := h.at e
 exact ⟨e3, vs, e4⟩
theorem DicRel.go {G H G' H' : Hp} {xs : List (List Int × Addr × Addr)} {kds : List (List Int × List D)} (h : DicRel G H xs kds) (g : Same G G') (k : ∀ b ∈ xs.map (·.2.2), H' b = H b) : DicRel G' H' xs kds := by
 refine ⟨h.1, fun j x kd e1 e2 => ?_⟩
 obtain ⟨a, b, vs, c, d⟩ := h.2 j x kd e1 e2
 exact ⟨a, g _ _ b, vs, (k _ (List.mem_map.mpr ⟨x, List.mem_of_getElem? e1, rfl⟩)).trans c, Dts.same g _ _ d⟩
noncomputable def wK (kds : List (List Int × List D)) : Bx where
 P v fp G H := ∃ p xs, v = .ref p ∧ fp = p :: xs.map (·.2.2) ∧ (p == sysModules) = false ∧ (∃ ep, H p = some (DicX p xs ep)) ∧ (xs.map (·.1)).Nodup ∧ (xs.map (·.2.2)).Nodup ∧ DicRel G H xs kds
 mono g h := by
  obtain ⟨p, xs, h1, h2, h3, h4, h5, h6, h7⟩ := h
  exact ⟨p, xs, h1, h2, h3, h4, h5, h6, h7.go g fun _ _ => rfl⟩
 loc k h := by
  obtain ⟨p, xs, h1, h2, h3, h4, h5, h6, h7⟩ := h
  subst h2
  obtain ⟨ep, h4⟩ := h4
  exact ⟨p, xs, h1, rfl, h3, ⟨ep, (k p List.mem_cons_self).trans h4⟩, h5, h6, h7.go (Same.refl _) fun b hb => k b (List.mem_cons_of_mem _ hb)⟩
 dom h b hb := by
  obtain ⟨p, xs, h1, h2, h3, h4, h5, h6, h7⟩ := h
  subst h2
  rcases List.mem_cons.mp hb with e | e
  ·rw [e]; obtain ⟨ep, h4⟩ := h4; exact ⟨_, h4⟩
  ·obtain ⟨x, hx, rfl⟩ := List.mem_map.mp e
   obtain ⟨_, vs, z⟩ := h7.mem hx
   exact ⟨_, z⟩
 uniq h g := by
  obtain ⟨p, xs, h1, h2, h3, h4, h5, h6, h7⟩ := h
  obtain ⟨p', xs', g1, g2, g3, g4, g5, g6, g7⟩ := g
  rw [h1] at g1; cases g1
  obtain ⟨ep, h4⟩ := h4
  obtain ⟨ep', g4⟩ := g4
  rw [h4] at g4
  have e := DicX.inj (Option.some.inj g4)
  have e2 := congrArg (List.map fun z : DictEntry => match z.val with | .ref q => q | _ => 0) e
  rw [List.map_map, List.map_map] at e2
  rw [h2, g2]
  exact congrArg (p :: ·) e2
 nt h b hb ys e := by
  obtain ⟨p, xs, h1, h2, h3, h4, h5, h6, h7⟩ := h
  subst h2
  rcases List.mem_cons.mp hb with z | z
  ·obtain ⟨ep, h4⟩ := h4
   rw [z, h4] at e; cases e
  ·obtain ⟨x, hx, rfl⟩ := List.mem_map.mp z
   obtain ⟨_, vs, z⟩ := h7.mem hx
   rw [z] at e; cases e
 view := none
 vok _ h := by cases h
noncomputable def mDNew : MO := fun Γ Q => Q (.box (wK [])) Γ
theorem vo_dnew : VO P0 tDNewX mDNew := by
 intro F Γ σ G H Q Qm r m k p hp hs
 have hP : (wK []).P (.ref p) [p] G (upd H p (DicX p [] 0)) := ⟨p, [], rfl, rfl, hs, ⟨0, bM⟩, List.nodup_nil, List.nodup_nil, rfl, fun j x kd e => by cases e⟩
 refine k _ _ _ _ _ m (Same.refl _) (r.newP hp) ⟨[p], hP, fun b hb => ?_⟩ (Apart.newB r (fun fp h b hb => ?_) (Same.refl _) fun b o _ g e => ⟨g, by rw [aY (aZ e hp)]; exact e⟩)
 ·rw [List.mem_singleton.mp hb]; exact ⟨r.fr.fresh hp, r.fr.gfresh hp⟩
 ·rw [(wK []).uniq h hP] at hb
  rw [List.mem_singleton.mp hb]; exact hp
noncomputable def mListD (ma : MO) : MO := fun Γ Q => ma Γ fun rv Γ1 => ∃ kds, rv = .box (wK kds) ∧ kds.length ≤ 1000 ∧ Q (.own (kds.map fun kd => keyD kd.1)) Γ1
theorem keys_dts {G H : Hp} : ∀ {xs : List (List Int × Addr × Addr)} {kds : List (List Int × List D)}, DicRel G H xs kds → Dts G (xs.map fun y => V.ref y.2.1) (kds.map fun kd => keyD kd.1) := by
 intro xs kds h
 induction xs generalizing kds with
 | nil =>
  cases kds with
  | nil => exact .nil
  | cons a b => cases h.1
 | cons x xs ih =>
  cases kds with
  | nil => cases h.1
  | cons a b =>
   obtain ⟨e1, e2, _⟩ := h.2 0 x a rfl rfl
   refine .cons (.tup e2 ?_) (ih ⟨Nat.succ.inj h.1, fun j y kd f1 f2 => h.2 (j + 1) y kd f1 f2⟩)
   rw [e1]; exact ints_dts _
theorem vo_listD {ta : TE} {ma : MO} (ha : VO P0 ta ma) : VO P0 (tCB rListD (fY ta vP)) (mListD ma) := by
 intro F Γ σ G H Q Qm r m k
 refine ha F Γ σ G H _ _ r m fun rv Γ1 x G1 H1 m1 s1 r1 d1 _ => ?_
 obtain ⟨kds, rfl, hl, m1⟩ := m1
 obtain ⟨fp, ⟨p, xs, rfl, h2, h3, ⟨ep, h4⟩, h5, h6, h7⟩, _⟩ := d1
 refine ⟨p, xs, ep, rfl, h3, h4, by rw [h7.1]; exact hl, fun l hl => ?_⟩
 obtain ⟨a, b, c⟩ := mZ r1 hl (keys_dts h7)
 exact k _ _ _ _ _ m1 s1 a b c
theorem vY {α : Type} {xs : List α} (h : xs.Nodup) {i j : Nat} {hi : i < xs.length} {hj : j < xs.length} (e : xs[i] = xs[j]) : i = j := by
 rcases Nat.lt_trichotomy i j with z | z | z
 ·exact absurd e (List.pairwise_iff_getElem.mp h i j hi hj z)
 ·exact z
 ·exact absurd e.symm (List.pairwise_iff_getElem.mp h j i hj hi z)
noncomputable def addK : List (List Int × List D) → List Int → D → List (List Int × List D)
 | [], k, e => [(k, [e])]
 | (k', ds) :: r, k, e => if k' = k then (k', ds ++ [e]) :: r else (k', ds) :: addK r k e
theorem addK_new {k : List Int} {e : D} : ∀ {kds : List (List Int × List D)}, (∀ kd ∈ kds, kd.1 ≠ k) → addK kds k e = kds ++ [(k, [e])] := by
 intro kds h
 induction kds with
 | nil => rfl
 | cons a r ih =>
  obtain ⟨k', ds⟩ := a
  unfold addK
  rw [if_neg (h (k', ds) List.mem_cons_self), ih fun kd hk => h kd (List.mem_cons_of_mem _ hk)]
  rfl
theorem addK_old {k : List Int} {e : D} {ds : List D} : ∀ {kds : List (List Int × List D)} {j : Nat}, (kds.map (·.1)).Nodup → kds[j]? = some (k, ds) → addK kds k e = kds.set j (k, ds ++ [e]) := by
 intro kds j hn h
 induction kds generalizing j with
 | nil => cases h
 | cons a r ih =>
  obtain ⟨k', ds'⟩ := a
  rw [List.map_cons, List.nodup_cons] at hn
  unfold addK
  cases j with
  | zero => cases h; rw [if_pos rfl]; rfl
  | succ j =>
   have h' : r[j]? = some (k, ds) := h
   have hne : k' ≠ k := fun z => hn.1 (List.mem_map.mpr ⟨_, List.mem_of_getElem? h', z.symm⟩)
   rw [if_neg hne, ih hn.2 h']
   rfl
noncomputable def mSetApp (i c a b : Nat) : MS := fun Γ Q => ∃ kds k d1 d2, Γ[i]? = some (.box (wK kds)) ∧ Γ[c]? = some (.val (keyD k)) ∧ Γ[a]? = some (.val d1) ∧ Γ[b]? = some (.val d2) ∧ kds.length < 1000 ∧ (∀ kd ∈ kds, kd.2.length < 1000) ∧
 Q (.nx (Γ.set i (.box (wK (addK kds k (.tuple [d1, d2]))))))
theorem vs_setApp {K : PySem.W.Frag} {i c a b : Nat} : VSA P0 A (tDrop (tBM K "list" rAppend (tBMD rSetD (tVar i) (fY (tVar c) (fY (tLst vP) vP))) (fY (tTup (fY (tVar a) (fY (tVar b) vP))) vP))) (mSetApp i c a b) := by
 intro F Γ σ G H E Qm r hm k
 obtain ⟨kds, kk, d1, d2, e, ec, ea, eb, hlen, hall, hm⟩ := hm
 obtain ⟨v, fp, e1, ⟨p, xs, rfl, rfl, hs, ⟨ep, hD⟩, nd, nd2, rel⟩, e3⟩ := r.sl i _ e
 obtain ⟨vc, c1, c2⟩ := r.sl c _ ec
 obtain ⟨bk, rfl, hb⟩ := key_back c2
 obtain ⟨va, a1, a2⟩ := r.sl a _ ea
 obtain ⟨vb, b1, b2⟩ := r.sl b _ eb
 have hkeys : (kds.map (·.1)).Nodup := by rw [← rel.keys]; exact nd
 have hbH := r.fr.sub _ _ hb
 obtain ⟨p1, p2⟩ := e3 p List.mem_cons_self
 refine ⟨_, e1, ⟨p, xs, ep, rfl, hD⟩, _, c1, eY (by show 0 ≤ 1000; decide), fun l hl => ?_⟩
 have lp : p ≠ l := aZ hD hl
 refine ⟨p, xs, ep, bk, kk, l, rfl, rfl, hs, by rw [aY lp]; exact hD, nd, fun y hy => ?_, by rw [aY (aZ hbH hl)]; exact hbH, by rw [rel.1]; exact Nat.le_of_lt hlen, fun j c0 q hj => ?_, fun no ep' => ?_⟩
 ·have z := r.fr.sub _ _ (rel.mem hy).1
  rw [aY (aZ z hl)]; exact z
 ·obtain ⟨⟨k', ds⟩, f1, f2, f3, vs, f4, f5⟩ := rel.at hj
  cases f2
  have hq : q ∈ xs.map (·.2.2) := List.mem_map.mpr ⟨_, List.mem_of_getElem? hj, rfl⟩
  have ql : q ≠ l := aZ f4 hl
  obtain ⟨q1, q2⟩ := e3 q (List.mem_cons_of_mem _ hq)
  have hds : ds.length < 1000 := hall _ (List.mem_of_getElem? f1)
  refine ⟨.inl ⟨rfl, vs, SqL.of (by rw [aY ql]; exact f4)⟩, _, a1, _, b1, eY (by show 2 ≤ 1000; decide), fun t ht => ?_⟩
  have tl : t ≠ l := fun z => by rw [z, bM] at ht; cases ht
  have ht0 : H t = none := by rw [aY tl] at ht; exact ht
  have qt : q ≠ t := aZ f4 ht0
  refine ⟨q, vs, .ref t, rfl, rfl, by rw [aY qt, aY ql]; exact f4, oY (by rw [f5.len]; exact Nat.le_of_lt hds), ?_⟩
  have r1 := r.new (o := .tup [va, vb]) ht0
  have g1 : Same G (upd G t (.tup [va, vb])) := mY (r.fr.gfresh ht0) _
  have gq : upd G t (.tup [va, vb]) q = none := by rw [aY qt]; exact q2
  have gl : upd G t (.tup [va, vb]) l = none := by rw [aY (Ne.symm tl)]; exact r.fr.gfresh hl
  have hE : upd (upd (upd H l (.lst [])) t (.tup [va, vb])) q (.lst (vs ++ [.ref t])) = upd (upd (upd H t (.tup [va, vb])) l (.lst [])) q (.lst (vs ++ [.ref t])) := by
   funext z
   unfold upd
   by_cases z1 : z = q
   ·rw [if_pos z1, if_pos z1]
   ·rw [if_neg z1, if_neg z1]
    by_cases z2 : z = t
    ·rw [if_pos z2, if_neg (fun y => tl (z2.symm.trans y)), if_pos z2]
    ·rw [if_neg z2, if_neg z2]
  rw [hE]
  refine k _ hm _ _ _ g1 (r1.writeF e ((r1.fr.priv (r.fr.fresh hl) gl).priv q1 gq) fun fp0 hf => ?_) fun _ _ => rfl
  obtain ⟨v', w1, w2, w3⟩ := hf
  rw [e1] at w1; cases w1
  have pt : p ≠ t := aZ hD ht0
  have old : ∀ z ∈ p :: xs.map (·.2.2), z ≠ l ∧ z ≠ t := fun z hz => by
   rcases List.mem_cons.mp hz with y | y
   ·rw [y]; exact ⟨lp, pt⟩
   ·obtain ⟨x, hx, rfl⟩ := List.mem_map.mp y
    obtain ⟨_, vs', y2⟩ := rel.mem hx
    exact ⟨aZ y2 hl, aZ y2 ht0⟩
  have hP : (wK kds).P (.ref p) (p :: xs.map (·.2.2)) (upd G t (.tup [va, vb])) (upd H t (.tup [va, vb])) := (wK kds).loc (fun z hz => aY (old z hz).2) ((wK kds).mono g1 ⟨p, xs, rfl, rfl, hs, ⟨ep, hD⟩, nd, nd2, rel⟩)
  have ef := (wK kds).uniq w2 hP
  subst ef
  have pq : p ≠ q := ne_of hD f4 (fun z => nomatch z)
  refine ⟨p :: xs.map (·.2.2), ⟨.ref p, e1, ⟨p, xs, rfl, rfl, hs, ⟨ep, by rw [aY pq, aY lp, aY pt]; exact hD⟩, nd, nd2, ?_⟩, fun z hz => w3 z hz⟩, fun z hz ⟨o, ho⟩ => ⟨?_, hz⟩⟩
  ·rw [addK_old hkeys f1]
   refine ⟨by rw [List.length_set]; exact rel.1, fun j' x' kd' y1 y2 => ?_⟩
   by_cases hj' : j = j'
   ·subst hj'
    rw [hj] at y1; cases y1
    rw [List.getElem?_set_self (List.getElem?_eq_some_iff.mp f1).1] at y2
    cases y2
    exact ⟨rfl, by rw [aY (aZ (r.fr.sub _ _ f3) ht0)]; exact f3, _, bM, (Dts.same g1 _ _ f5).app (.cons (.tup bM (.cons (Dt.same g1 _ _ a2) (.cons (Dt.same g1 _ _ b2) .nil))) .nil)⟩
   ·rw [List.getElem?_set_ne hj'] at y2
    obtain ⟨z1, z2, vs', z3, z4⟩ := rel.2 j' x' kd' y1 y2
    have hne : x'.2.2 ≠ q := fun z => by
     have n1 : (xs.map (·.2.2))[j']? = some q := by rw [List.getElem?_map, y1]; exact congrArg some z
     have n2 : (xs.map (·.2.2))[j]? = some q := by rw [List.getElem?_map, hj]; rfl
     obtain ⟨l1, m1⟩ := List.getElem?_eq_some_iff.mp n1
     obtain ⟨l2, m2⟩ := List.getElem?_eq_some_iff.mp n2
     exact hj' (vY nd2 (m2.trans m1.symm))
    exact ⟨z1, by rw [aY (aZ (r.fr.sub _ _ z2) ht0)]; exact z2, vs', by rw [aY hne, aY (aZ z3 hl), aY (aZ z3 ht0)]; exact z3, Dts.same g1 _ _ z4⟩
  ·have zq : z ≠ q := fun y => hz (by rw [y]; exact List.mem_cons_of_mem _ hq)
   have zl : z ≠ l := fun y => by
    rw [y, aY (Ne.symm tl), hl] at ho; cases ho
   rw [aY zq, aY zl]
 ·have lt : ∀ y ∈ xs, y.2.2 ≠ l := fun y hy => by
   obtain ⟨_, vs', y2⟩ := rel.mem hy
   exact aZ y2 hl
  refine ⟨.inl ⟨rfl, [], SqL.of (by rw [aY (Ne.symm lp)]; exact bM)⟩, _, a1, _, b1, eY (by show 2 ≤ 1000; decide), fun t ht => ?_⟩
  have tp : t ≠ p := fun z => by rw [z, bM] at ht; cases ht
  have tl : t ≠ l := fun z => by rw [z, aY (Ne.symm lp), bM] at ht; cases ht
  have ht0 : H t = none := by rw [aY tp, aY tl] at ht; exact ht
  refine ⟨l, [], .ref t, rfl, rfl, by rw [aY (Ne.symm tl), aY (Ne.symm lp)]; exact bM, oY (by decide), ?_⟩
  have r1 := r.new (o := .tup [va, vb]) ht0
  have g1 : Same G (upd G t (.tup [va, vb])) := mY (r.fr.gfresh ht0) _
  have gp : upd G t (.tup [va, vb]) p = none := by rw [aY (Ne.symm tp)]; exact p2
  have gl : upd G t (.tup [va, vb]) l = none := by rw [aY (Ne.symm tl)]; exact r.fr.gfresh hl
  have hE : upd (upd (upd (upd H l (.lst [])) p (DicX p (xs ++ [(kk, bk, l)]) ep')) t (.tup [va, vb])) l (.lst ([] ++ [.ref t])) = upd (upd (upd H t (.tup [va, vb])) p (DicX p (xs ++ [(kk, bk, l)]) ep')) l (.lst [.ref t]) := by
   funext z
   unfold upd
   by_cases z1 : z = l
   ·subst z1; simp
   ·by_cases z2 : z = t
    ·subst z2; simp [tp, tl]
    ·by_cases z3 : z = p
     ·subst z3; simp [z1, z2]
     ·simp [z1, z2, z3]
  rw [hE]
  refine k _ hm _ _ _ g1 (r1.writeF e ((r1.fr.priv p1 gp).priv (r.fr.fresh hl) gl) fun fp0 hf => ?_) fun _ _ => rfl
  obtain ⟨v', w1, w2, w3⟩ := hf
  rw [e1] at w1; cases w1
  have hP : (wK kds).P (.ref p) (p :: xs.map (·.2.2)) (upd G t (.tup [va, vb])) (upd H t (.tup [va, vb])) := by
   refine (wK kds).loc (fun z hz => aY ?_) ((wK kds).mono g1 ⟨p, xs, rfl, rfl, hs, ⟨ep, hD⟩, nd, nd2, rel⟩)
   rcases List.mem_cons.mp hz with y | y
   ·rw [y]; exact Ne.symm tp
   ·obtain ⟨x, hx, rfl⟩ := List.mem_map.mp y
    obtain ⟨_, vs', y2⟩ := rel.mem hx
    exact aZ y2 ht0
  have ef := (wK kds).uniq w2 hP
  subst ef
  have nok : ∀ kd ∈ kds, kd.1 ≠ kk := fun kd hk z => by
   have : kk ∈ xs.map (·.1) := by rw [rel.keys]; exact List.mem_map.mpr ⟨kd, hk, z⟩
   obtain ⟨y, hy, hz⟩ := List.mem_map.mp this
   exact no y hy hz
  refine ⟨p :: (xs ++ [(kk, bk, l)]).map (·.2.2), ⟨.ref p, e1, ⟨p, xs ++ [(kk, bk, l)], rfl, rfl, hs, ⟨ep', by rw [aY lp]; exact bM⟩, ?_, ?_, ?_⟩, fun z hz => ?_⟩, fun z hz ⟨o, ho⟩ => ⟨?_, fun hc => ?_⟩⟩
  ·rw [List.map_append, List.nodup_append]
   refine ⟨nd, List.nodup_cons.mpr ⟨fun z => (nomatch z), List.nodup_nil⟩, fun x hx y hy z => ?_⟩
   obtain ⟨x', hx', rfl⟩ := List.mem_map.mp hx
   rw [List.mem_singleton.mp hy] at z
   exact no x' hx' z
  ·rw [List.map_append, List.nodup_append]
   refine ⟨nd2, List.nodup_cons.mpr ⟨fun z => (nomatch z), List.nodup_nil⟩, fun x hx y hy z => ?_⟩
   obtain ⟨x', hx', rfl⟩ := List.mem_map.mp hx
   rw [List.mem_singleton.mp hy] at z
   exact lt x' hx' z
  ·rw [addK_new nok]
   refine ⟨by rw [List.length_append, List.length_append, rel.1]; rfl, fun j' x' kd' y1 y2 => ?_⟩
   by_cases hj : j' < xs.length
   ·rw [List.getElem?_append_left hj] at y1
    rw [List.getElem?_append_left (by rw [← rel.1]; exact hj)] at y2
    obtain ⟨z1, z2, vs', z3, z4⟩ := rel.2 j' x' kd' y1 y2
    have zp : x'.2.2 ≠ p := Ne.symm (ne_of hD z3 (fun z => nomatch z))
    exact ⟨z1, by rw [aY (aZ (r.fr.sub _ _ z2) ht0)]; exact z2, vs', by rw [aY (aZ z3 hl), aY zp, aY (aZ z3 ht0)]; exact z3, Dts.same g1 _ _ z4⟩
   ·have hj2 : j' - xs.length = 0 := by
     have := (List.getElem?_eq_some_iff.mp y1).1
     rw [List.length_append] at this
     simp only [List.length_cons, List.length_nil] at this
     omega
    rw [List.getElem?_append_right (Nat.not_lt.mp hj), hj2] at y1
    rw [List.getElem?_append_right (by rw [← rel.1]; exact Nat.not_lt.mp hj), ← rel.1, hj2] at y2
    cases y1
    cases y2
    exact ⟨rfl, by rw [aY (aZ hbH ht0)]; exact hb, _, bM, .cons (.tup bM (.cons (Dt.same g1 _ _ a2) (.cons (Dt.same g1 _ _ b2) .nil))) .nil⟩
  ·rw [List.map_append] at hz
   rcases List.mem_cons.mp hz with y | y
   ·exact w3 z (by rw [y]; exact List.mem_cons_self)
   ·rcases List.mem_append.mp y with y | y
    ·exact w3 z (List.mem_cons_of_mem _ y)
    ·rw [List.mem_singleton.mp y]; exact ⟨r.fr.fresh hl, gl⟩
  ·have zp : z ≠ p := fun y => hz (by rw [y]; exact List.mem_cons_self)
   have zl : z ≠ l := fun y => by
    rw [y, aY (Ne.symm tl), hl] at ho; cases ho
   rw [aY zl, aY zp]
  ·rw [List.map_append] at hc
   rcases List.mem_cons.mp hc with y | y
   ·exact hz (by rw [y]; exact List.mem_cons_self)
   ·rcases List.mem_append.mp y with y | y
    ·exact hz (List.mem_cons_of_mem _ y)
    ·rw [List.mem_singleton.mp y, aY (Ne.symm tl), hl] at ho; cases ho
theorem i_dnew {Γ : En} {Q : Rv → En → Prop} (h : Q (.box (wK [])) Γ) : mDNew Γ Q := h
theorem i_setApp {i c a b : Nat} {Γ : En} {Q : Fl → Prop} {kds : List (List Int × List D)} {k : List Int} {d1 d2 : D} (h1 : Γ[i]? = some (.box (wK kds))) (h2 : Γ[c]? = some (.val (keyD k))) (h3 : Γ[a]? = some (.val d1)) (h4 : Γ[b]? = some (.val d2)) (h5 : kds.length < 1000) (h6 : ∀ kd ∈ kds, kd.2.length < 1000)
  (h : Q (.nx (Γ.set i (.box (wK (addK kds k (.tuple [d1, d2]))))))) : mSetApp i c a b Γ Q := ⟨kds, k, d1, d2, h1, h2, h3, h4, h5, h6, h⟩
theorem i_listD {ma : MO} {Γ : En} {Q : Rv → En → Prop} (h : ma Γ fun rv Γ1 => ∃ kds, rv = .box (wK kds) ∧ kds.length ≤ 1000 ∧ Q (.own (kds.map fun kd => keyD kd.1)) Γ1) : mListD ma Γ Q := h
end L2.VS
namespace L2.VS
open PySem PySem.Spec PyProof.Rows
variable {P0 : Addr → Hp → Prop} {ta tb : TE} {ma mb : ME}
end L2.VS
namespace L2
open PySem PySem.Spec PyProof.Rows
noncomputable def Itd (p : Addr) (xs : List (List Int × Addr × Addr)) (ep : Nat) : It :=
 ⟨fun i H => H p = some (DicX p xs ep) ∧ i < xs.length, fun i H x H' => H' = H ∧ ∃ y, xs[i]? = some y ∧ x = .ref y.2.1, fun i H => H p = some (DicX p xs ep) ∧ i = xs.length⟩
theorem turn_dic {P : Program} {w : World} {K : PySem.W.Frag} {tg : Expr} (p it : Addr) (xs : List (List Int × Addr × Addr)) (ep : Nat) : Turn P w K tg (Itd p xs ep) [it] it (fun i h => h.IsKeyIter it p i xs.length ep) where
 mem := by simp
 obj := fun i h st b hb => by
  have e : b = it := by simpa using hb
  subst e
  obtain ⟨o, e, c, d⟩ := st
  exact ⟨o, e, fun v z => by rw [d] at z; cases z⟩
 keep := fun i h h' st k => st.at fun o e => k it (by simp) o e
 item := by
  intro X hP hw hK hc i pins s σ H E I hf st hg
  subst hP hw hK
  obtain ⟨hd, hi⟩ := hg
  have d := rN I.hok hd
  obtain ⟨f0, f1, f2, f3, f4, f5⟩ := hf it (by simp)
  have hsz : (xs.map kEnt).toArray.size = xs.length := by rw [List.size_toArray, List.length_map]
  have hx : xs[i]? = some xs[i] := List.getElem?_eq_getElem hi
  refine dicE_next (e := kEnt xs[i]) (by rw [hsz]; exact st) d (by rw [← Array.getElem?_toList, List.getElem?_map, hx]; rfl) fun h' st' sb => ?_
  rw [hsz] at st'
  have I1 : Inv X pins σ H { s with heap := h' } := I.turned (t' := s.toks) (fun b o hb e => (sb.2 b hb).trans e) f0 f1 f3 f4 f5
  obtain ⟨o, e, c, z⟩ := id st'
  exact ⟨_, rfl, go_of (s := { s with heap := h' }) e c z (by decide) ⟨.ref xs[i].2.1, H, I1, rfl, ⟨rfl, _, hx, rfl⟩, st', fun b hb => (hf b hb).1⟩⟩
 done := by
  intro X hP hw hK hc i pins s σ H E I hf st hg
  subst hP hw hK
  obtain ⟨hd, hi⟩ := hg
  have d := rN I.hok hd
  obtain ⟨f0, f1, f2, f3, f4, f5⟩ := hf it (by simp)
  have hsz : (xs.map kEnt).toArray.size = xs.length := by rw [List.size_toArray, List.length_map]
  exact dicE_end (I.ok.hd hc) (by rw [hsz]; exact hi ▸ st) d fun h' eb => ⟨rfl, I.turned (t' := s.toks) (fun b o hb e => eb b o hb e) f0 f1 f3 f4 f5⟩
 self := fun _ _ _ _ _ st h => wpAny_pyIter_keyiter st h
noncomputable def iDic (tl : TE) : TI := fun σ H R => tl σ H fun x H1 => ∃ p xs ep, x = .ref p ∧ (p == sysModules) = false ∧ H1 p = some (DicX p xs ep) ∧ R (Itd p xs ep) H1
theorem pi_dic {X : Cx} {tg l : Expr} {tl : TE} (hl : PE X l tl) : PI X tg l (iDic tl) := by
 intro pins s σ H R I h
 refine thn (hl pins s σ H _ I h) fun v s1 ⟨x, H1, I1, r1, q1⟩ => ?_
 obtain ⟨p, xs, ep, e, hp, hd, q⟩ := q1
 subst e
 cases r1
 have hsz : (xs.map kEnt).toArray.size = xs.length := by rw [List.size_toArray, List.length_map]
 refine dicE_iter hp (rN I1.hok hd) ?_
 refine ⟨s1.heap.objs.size, [s1.heap.objs.size], _, _, H1, rfl, I1.kept (t' := s1.toks) fun b o e => Heap.get?_push_of_some _ e, turn_dic p _ xs ep, ⟨_, Heap.get?_push_size _ rfl, rfl, by rw [hsz]; rfl⟩, fun b hb => ?_, q⟩
 have e : b = s1.heap.objs.size := by simpa using hb
 subst e
 exact I1.fpOk (Nat.le_refl _) (I1.hok.fresh (Nat.le_refl _))
noncomputable def rIxD : R2 := fun x y H Q => ∃ (p : Addr) (xs : List (List Int × Addr × Addr)) (ep : Nat) (b : Addr) (k : List Int) (j : Nat) (c q : Addr), x = .ref p ∧ y = .ref b ∧ H p = some (DicX p xs ep) ∧ (xs.map (·.1)).Nodup ∧ (∀ y ∈ xs, H y.2.1 = some (.tup (y.1.map V.int))) ∧ H b = some (.tup (k.map V.int)) ∧ xs[j]? = some (k, c, q) ∧ Q (.ref q) H
theorem ix_dic {X : Cx} (hu : X.A.units + 64 < cLine) : IxR X rIxD := by
 intro value slice pins s σ H x y v u Q I rx ry h hs
 obtain ⟨p, xs, ep, b, k, j, c, q, rfl, rfl, e, nd, hk, hb, hj, hq⟩ := h
 cases rx
 cases ry
 obtain ⟨o, ho, hc, hd⟩ := rN I.hok e
 have hm : s.heap.DictOfH (tupleKind (intKind X.prog X.w)) p (xs.map fun y => (y.1, y.2.1, Value.ref y.2.2)) := by
  refine ⟨o, _, ep, ho, hc, hd, by rw [List.map_map]; rfl, fun y hy => ?_, by rw [List.map_map]; exact nd⟩
  obtain ⟨z, hz, rfl⟩ := List.mem_map.mp hy
  exact vR I.hok (hk z hz)
 have hat : atKey (xs.map fun y => (y.1, y.2.1, Value.ref y.2.2)) k = some (c, Value.ref q) := atKey_of_get (i := j) (xs := xs.map fun y => (y.1, y.2.1, Value.ref y.2.2)) (by rw [List.map_map]; exact nd) (by rw [List.getElem?_map, hj]; rfl)
 exact subscriptTail_builtinR (x := .ref q) hm.typeIs PySem.F.slot_dict_getitem.lookup
  (wpAny_getItem_heap (knd := tupleKind (intKind X.prog X.w)) (Q := fun r s' => r = .ref q ∧ EP X pins σ Q r s') (show X.A.in1.units < cLine from by show X.A.units + 1 < cLine; omega) (vR I.hok hb) hm hat ⟨rfl, .ref q, H, I.tok _, rfl, hq⟩) hs
end L2
namespace L2.VS
open PySem PySem.Spec PyProof.Rows
variable {P0 : Addr → Hp → Prop} {A : Nat → Bool}
noncomputable def pDic (kds : List (List Int × List D)) : Pb where
 P v G := ∃ p xs ep, v = .ref p ∧ (p == sysModules) = false ∧ G p = some (DicX p xs ep) ∧ (xs.map (·.1)).Nodup ∧ DicRel G G xs kds
 mono g h := by
  obtain ⟨p, xs, ep, h1, h2, h3, h4, h5⟩ := h
  refine ⟨p, xs, ep, h1, h2, g _ _ h3, h4, h5.1, fun j x kd e1 e2 => ?_⟩
  obtain ⟨a, b, vs, c, d⟩ := h5.2 j x kd e1 e2
  exact ⟨a, g _ _ b, vs, g _ _ c, Dts.same g _ _ d⟩
section
variable {F : Fra P0} {Γ : En} {σ : St} {G H : Hp}
theorem R.giveP (r : R F Γ σ G H) {v : V} {B : Bx} (h : RvO F G H v (.box B)) (ha : Apart F Γ σ G H v (.box B)) : ∃ G' fp, Same G G' ∧ R F Γ σ G' H ∧ B.P v fp G' H ∧ ∀ b ∈ fp, G' b = H b := by
 obtain ⟨fp, e1, e2⟩ := h
 have g : Same G (fun b => if b ∈ fp then H b else G b) := fun b o e => by
  show (if b ∈ fp then H b else G b) = some o
  rw [if_neg (fun z => by rw [(e2 b z).2] at e; cases e)]
  exact e
 refine ⟨fun b => if b ∈ fp then H b else G b, fp, g, r.keep ⟨fun b o e => ?_, fun b o e => ?_, r.fr.h0, r.fr.pn⟩ g fun q u hq _ eg eh => ⟨?_, eh⟩, B.mono g e1, fun b hb => if_pos hb⟩
 ·have e : (if b ∈ fp then H b else G b) = some o := e
  split at e
  ·exact e
  ·exact r.fr.sub b o e
 ·show (if b ∈ fp then H b else G b) = _
  rw [if_neg (fun z => by rw [(e2 b z).1] at e; cases e)]
  exact r.fr.g0 b o e
 ·obtain ⟨i, s, f, a1, a2, a3⟩ := hq
  show (if q ∈ fp then H q else G q) = none
  rw [if_neg fun z => ha i s f fp a1 a2 e1 q z a3]
  exact eg
theorem R.setP (r : R F Γ σ G H) {i : Nat} {v : V} {B : Pb} (h : B.P v G) : R F (Γ.set i (.pub B)) (σ.set i (some v)) G H := by
 obtain ⟨fps, h1, h2⟩ := r.fps
 have lt : ∀ {m : Nat} {z}, (Γ.set i (.pub B))[m]? = some z → m < Γ.length := fun e => by
  have := (List.getElem?_eq_some_iff.mp e).1
  simpa using this
 have old : ∀ {m : Nat} {z}, m ≠ i → (Γ.set i (.pub B))[m]? = some z → Γ[m]? = some z := fun hm e => by rw [List.getElem?_set_ne (Ne.symm hm)] at e; exact e
 refine ⟨r.fr, by rw [List.length_set, List.length_set]; exact r.len, fun j => if j = i then [] else fps j, fun j s e => ?_, fun j k s t ej ek hjk b hb hc => ?_⟩
 ·dsimp only
  by_cases hj : j = i
  ·subst hj
   have hi := lt e
   rw [List.getElem?_set_self hi] at e
   rw [if_pos rfl, List.getElem?_set_self (by rw [← r.len]; exact hi)]
   cases e
   exact ⟨rfl, v, rfl, h⟩
  ·rw [if_neg hj, List.getElem?_set_ne (Ne.symm hj)]
   exact h1 j s (old hj e)
 ·dsimp only at hb hc
  by_cases hj : j = i
  ·rw [if_pos hj] at hb; cases hb
  ·rw [if_neg hj] at hb
   by_cases hk : k = i
   ·rw [if_pos hk] at hc; cases hc
   ·rw [if_neg hk] at hc
    exact h2 j k s t (old hj ej) (old hk ek) hjk b hb hc
end
noncomputable def mItD (i : Nat) : MD := fun Γ Q => ∃ kds, Γ[i]? = some (.pub (pDic kds)) ∧ Q (kds.map fun kd => keyD kd.1) Γ
theorem vi_dic {i : Nat} : VI P0 (iDic (tVar i)) (mItD i) := by
 intro F Γ σ G H Q Qm r m k
 obtain ⟨kds, e, m⟩ := m
 obtain ⟨v, e1, p, xs, ep, rfl, h2, h3, h4, h5⟩ := r.sl i _ e
 have hk := keys_dts h5
 refine ⟨_, e1, p, xs, ep, rfl, h2, r.fr.sub _ _ h3, k _ _ _ _ _ m (Same.refl _) r fun F2 Γ2 σ2 G2 H2 s2 r2 => ⟨fun j d ed => ?_, ?_⟩⟩
 ·obtain ⟨u, ev, dv⟩ := Dts.get hk ed
  rw [List.getElem?_map] at ev
  cases ex : xs[j]? with
  | none => rw [ex] at ev; cases ev
  | some y =>
   rw [ex] at ev
   cases ev
   refine ⟨⟨r2.fr.sub _ _ (s2 _ _ h3), (List.getElem?_eq_some_iff.mp ex).1⟩, fun y2 H3 hy => ⟨G2, Same.refl _, ?_⟩⟩
   obtain ⟨rfl, y', hy1, rfl⟩ := hy
   rw [ex] at hy1; cases hy1
   exact ⟨r2, Dt.same s2 _ _ dv⟩
 ·refine ⟨r2.fr.sub _ _ (s2 _ _ h3), ?_⟩
  rw [List.length_map]; exact h5.1.symm
noncomputable def mSetD (i : Nat) (mo : MO) : MS := fun Γ Q => mo Γ fun rv Γ1 => ∃ kds, rv = .box (wK kds) ∧ Q (.nx (Γ1.set i (.pub (pDic kds))))
theorem vs_setD {i : Nat} {t : TE} {m : MO} (h : VO P0 t m) (hA : A i = true := by rfl) : VSA P0 A (tAsg t (gName i)) (mSetD i m) := by
 intro F Γ σ G H E Qm r hm k
 refine h F Γ σ G H _ _ r hm fun rv Γ1 x G1 H1 m1 s1 r1 d1 a1 => ?_
 obtain ⟨kds, rfl, m1⟩ := m1
 obtain ⟨G2, fp, s2, r2, ⟨p, xs, rfl, rfl, h3, ⟨ep, h4⟩, h5, h6, h7⟩, hg⟩ := R.giveP r1 d1 a1
 refine k _ m1 _ _ _ (s1.trans s2) (R.setP r2 ⟨p, xs, ep, rfl, h3, (hg p List.mem_cons_self).trans h4, h5, h7.go (Same.refl _) fun b hb => hg b (List.mem_cons_of_mem _ hb)⟩) (uK hA)
noncomputable def mIxD (i : Nat) (mk : ME) : ME := fun Γ Q => ∃ kds, Γ[i]? = some (.pub (pDic kds)) ∧ mk Γ fun y Γ1 => ∃ (k : List Int) (ds : List D) (j : Nat), y = keyD k ∧ kds[j]? = some (k, ds) ∧ Q (.list ds) Γ1
theorem vt_ixD {i : Nat} {tk : TE} {mk : ME} (hk : VT P0 tk mk) : VT P0 (tOp rIxD (tVar i) tk) (mIxD i mk) := by
 intro F Γ σ G H Q Qm r m k
 obtain ⟨kds, e, m⟩ := m
 obtain ⟨v, e1, hP⟩ := r.sl i _ e
 refine ⟨_, e1, hk F Γ σ G H _ _ r m fun y Γ1 x G1 H1 m1 s1 r1 d1 => ?_⟩
 obtain ⟨kk, ds, j, rfl, hj, m1⟩ := m1
 obtain ⟨p, xs, ep, rfl, h2, h3, h4, h5⟩ := (pDic kds).mono s1 hP
 obtain ⟨b, rfl, hb⟩ := key_back d1
 have hlt : j < xs.length := by rw [h5.1]; exact (List.getElem?_eq_some_iff.mp hj).1
 obtain ⟨a1, a2, vs, a3, a4⟩ := h5.2 j _ _ (List.getElem?_eq_getElem hlt) hj
 have hx : xs[j]? = some (kk, xs[j].2.1, xs[j].2.2) := by
  rw [List.getElem?_eq_getElem hlt]
  exact congrArg some (Prod.ext a1 rfl)
 refine ⟨p, xs, ep, b, kk, j, _, _, rfl, rfl, r1.fr.sub _ _ h3, h4, fun y hy => r1.fr.sub _ _ (h5.mem hy).1, r1.fr.sub _ _ hb, hx, ?_⟩
 exact k _ _ _ _ _ m1 s1 r1 (.lst a3 a4)
theorem i_setD {i : Nat} {mo : MO} {Γ : En} {Q : Fl → Prop} (h : mo Γ fun rv Γ1 => ∃ kds, rv = .box (wK kds) ∧ Q (.nx (Γ1.set i (.pub (pDic kds))))) : mSetD i mo Γ Q := h
theorem i_itD {i : Nat} {Γ : En} {Q : List D → En → Prop} {kds : List (List Int × List D)} (h0 : Γ[i]? = some (.pub (pDic kds))) (h : Q (kds.map fun kd => keyD kd.1) Γ) : mItD i Γ Q := ⟨kds, h0, h⟩
theorem i_ixD {i : Nat} {mk : ME} {Γ : En} {Q : D → En → Prop} {kds : List (List Int × List D)} (h0 : Γ[i]? = some (.pub (pDic kds))) (h : mk Γ fun y Γ1 => ∃ (k : List Int) (ds : List D) (j : Nat), y = keyD k ∧ kds[j]? = some (k, ds) ∧ Q (.list ds) Γ1) : mIxD i mk Γ Q := ⟨kds, h0, h⟩
end L2.VS
namespace L2
open PySem PySem.Calls PyProof.Rows PySem.W
section
variable {cmp : Nat → Nat → (Bool → Shared → Prop) → Shared → Prop}
end
section
variable {prog : Program} {w : World} {A : Around} {E : Value → Shared → Prop} {s : Shared} {Q : Bool → Shared → Prop}
noncomputable def vZ (p q : Int × Int) : Bool := if p.1 = q.1 then decide (p.2 < q.2) else decide (p.1 < q.1)
theorem pair_lt {x y : Addr} {ox oy : Obj} {n m : Nat} {a b c d : Int} {ta tb tc td : Tok} (hx : s.heap.get? x = some ox) (dx : ox.data = .seq #[.int a ta, .int b tb] n) (hy : s.heap.get? y = some oy) (dy : oy.data = .seq #[.int c tc, .int d td] m)
  (h : Q (vZ (a, b) (c, d)) s) : wpAny (model prog w) A (keyLt' (tuples' true) (.ref x) (.ref y)) Q E s := by
 refine kat_lt hx dx hy dy ?_
 show KatLex prog w A true _ Q [(.int a ta, .int c tc), (.int b tb, .int d td)] 0 s
 refine kat_cons (wpAny_eqBool_int ?_)
 unfold vZ at h
 dsimp only at h
 by_cases e : a = c
 ·rw [if_pos e] at h
  rw [beq_iff_eq.mpr e]
  refine kat_yes (kat_cons (wpAny_eqBool_int ?_))
  by_cases f : b = d
  ·rw [beq_iff_eq.mpr f]
   refine kat_yes (kat_nil ?_)
   rw [decide_eq_false (by omega)] at h
   exact h
  ·rw [beq_eq_false_iff_ne.mpr f]
   refine kat_no (kat_one _ _ ?_)
   exact PyProof.Rows.lt_int h
 ·rw [if_neg e] at h
  rw [beq_eq_false_iff_ne.mpr e]
  refine kat_no ?_
  exact oneLt_int h
end
theorem cutHeap (h : Heap) (L : Nat) : ∃ h₀ : Heap, h₀.objs.size ≤ L ∧ (∀ b o, h₀.get? b = some o → h.get? b = some o) ∧ ∀ b o, b < L → h.get? b = some o → h₀.get? b = some o := by
 have sz : (h.objs.extract 0 L).size = min L h.objs.size := by simp
 have at_ : ∀ b : Nat, b < L → b < h.objs.size → (h.objs.extract 0 L)[b]? = h.objs[b]? := fun b h1 h2 => by
  rw [Array.getElem?_extract, if_pos (by omega), Nat.zero_add]
 refine ⟨{ h with objs := h.objs.extract 0 L }, by show (h.objs.extract 0 L).size ≤ L; rw [sz]; exact Nat.min_le_left _ _, fun b o e => ?_, fun b o hb e => ?_⟩
 ·have hb : b < min L h.objs.size := by rw [← sz]; exact Heap.lt_size e
  have z := at_ b (Nat.lt_of_lt_of_le hb (Nat.min_le_left _ _)) (Nat.lt_of_lt_of_le hb (Nat.min_le_right _ _))
  unfold Heap.get? at e ⊢
  simp only [z] at e
  exact e
 ·have z := at_ b hb (Heap.lt_size e)
  unfold Heap.get? at e ⊢
  simp only [z]
  exact e
theorem newsAbove (h : Heap) (L : Nat) : ∃ news : List (Addr × Obj), (∀ p ∈ news, h.get? p.1 = some p.2 ∧ L < p.1) ∧ ∀ b o, L < b → h.get? b = some o → (b, o) ∈ news := by
 refine ⟨(List.range h.objs.size).filterMap fun b => if L < b then (h.get? b).map fun o => (b, o) else none, fun p hp => ?_, fun b o hb e => ?_⟩
 ·obtain ⟨b, _, hb⟩ := List.mem_filterMap.mp hp
  split at hb
  ·rename_i hl
   cases e : h.get? b with
   | none => rw [e] at hb; cases hb
   | some o => rw [e] at hb; cases hb; exact ⟨e, hl⟩
  ·cases hb
 ·refine List.mem_filterMap.mpr ⟨b, List.mem_range.mpr (Heap.lt_size e), ?_⟩
  rw [if_pos hb, e]
  rfl
noncomputable def PrAt (h : Heap) (L : Addr) (v : Value) (k : Int × Int) : Prop := ∃ a o n t u, v = .ref a ∧ a ≠ L ∧ h.get? a = some o ∧ o.cls = .type "tuple" ∧ o.data = .seq #[.int k.1 t, .int k.2 u] n
theorem prs_firsts {h : Heap} {L : Addr} {vs : List Value} {ks : List (Int × Int)} (hp : Paired (PrAt h L) vs ks) : ∃ fs, KatTups h vs fs ∧ fs.length = vs.length ∧ ∀ f ∈ fs, ∃ i t, f = Value.int i t := by
 induction hp with
 | nil => exact ⟨[], trivial, rfl, fun _ h => (nomatch h)⟩
 | @cons v k vs ks r t ih =>
  obtain ⟨fs, a1, a2, a3⟩ := ih
  obtain ⟨a, o, n, t, u, rfl, _, ho, hc, hd⟩ := r
  refine ⟨.int k.1 t :: fs, .cons ho hc hd rfl a1, congrArg Nat.succ a2, fun f hf => ?_⟩
  rcases List.mem_cons.mp hf with e | e
  ·exact ⟨_, _, e⟩
  ·exact a3 f e
theorem prs_at {h : Heap} {L : Addr} {vs : List Value} {ks : List (Int × Int)} (hp : Paired (PrAt h L) vs ks) : ∀ {i : Nat}, i < vs.length → PrAt h L (vs.getD i .none) (ks.getD i (0, 0)) := by
 induction hp with
 | nil => intro i hi; cases hi
 | cons r t ih =>
  intro i hi
  cases i with
  | zero => exact r
  | succ i => exact ih (Nat.lt_of_succ_lt_succ hi)
section
variable {prog : Program} {w : World} {A : Around} {E : Value → Shared → Prop} {s : Shared}
end
end L2
namespace L2
open PySem PySem.Spec PyProof.Rows
theorem ObjOk.there {P : Program} {w : World} {H : Hp} {h : Heap} {a : Addr} {o : HO} (x : ObjOk P w H h a o) : ∃ u, h.get? a = some u := by
 cases o with
 | lst xs => obtain ⟨_, _, _, _, e⟩ := x; exact ⟨_, e⟩
 | tup xs => obtain ⟨_, _, _, o, e, _⟩ := x; exact ⟨_, e⟩
 | dK kvs => obtain ⟨_, _, _, _, o, _, _, e, _⟩ := x; exact ⟨_, e⟩
 | dT kvs => obtain ⟨_, _, _, _, o, _, _, e, _⟩ := x; exact ⟨_, e⟩
 | set S n => obtain ⟨o, _, _, _, e, _⟩ := x; exact ⟨_, e⟩
 | ins C dx fs => obtain ⟨_, _, _, e, _⟩ := x; exact ⟨_, e⟩
 | own y => obtain ⟨_, e⟩ := x; exact ⟨_, e⟩
 | xd fs => obtain ⟨_, ⟨_, _, _, e, _⟩, _⟩ := x; exact ⟨_, e⟩
 | rng lo hi => obtain ⟨_, _, _, e⟩ := x; exact ⟨_, e⟩
 | frz ob u => obtain ⟨e, _⟩ := x; exact ⟨_, e⟩
 | tbl ps => exact ⟨_, show h.get? a = some _ from x⟩
 | met f y => exact ⟨_, show h.get? a = some _ from x⟩
 | ext φ => obtain ⟨_, ⟨_, e⟩, _⟩ := x; exact ⟨_, e⟩
theorem ns_one {h : Heap} {L : Addr} {m m' : Str → Option Value} (a : h.Ns L m) (b : h.Ns L m') : m = m' := by
 obtain ⟨o, es, ep, h1, h2, _, h3⟩ := a
 obtain ⟨o', es', ep', g1, g2, _, g3⟩ := b
 rw [h1] at g1; cases g1
 rw [h2] at g2; cases g2
 funext x
 rw [← h3 x, g3 x]
noncomputable def PairsAre (H : Hp) : List V → List (Int × Int) → Prop := Paired fun v k => ∃ b, v = .ref b ∧ H b = some (.tup [.int k.1, .int k.2])
section
variable {X : Cx}
end
end L2
namespace L2.VS
open PySem PySem.Spec PyProof.Rows
variable {P0 : Addr → Hp → Prop} {ta : TE} {ma : ME} {K : PySem.W.Frag}
noncomputable def prsD (ks : List (Int × Int)) : List D := ks.map fun k => .tuple [.int k.1, .int k.2]
theorem prs_back {G H : Hp} (sub : ∀ b o, G b = some o → H b = some o) : ∀ {ks : List (Int × Int)} {vs : List V}, Dts G vs (prsD ks) → PairsAre H vs ks := by
 intro ks vs h
 induction ks generalizing vs with
 | nil => cases h; exact .nil
 | cons k ks ih =>
  cases h with
  | cons a b =>
   refine .cons ?_ (ih b)
   cases a with
   | tup hp rs =>
    cases rs with
    | cons r1 rs =>
     cases rs with
     | cons r2 rs =>
      cases rs
      cases r1
      cases r2
      exact ⟨_, rfl, sub _ _ hp⟩
end L2.VS
namespace L2
open PySem PySem.Calls PyProof.Rows PySem.W
structure Tot (lt : Nat → Nat → Bool) (n : Nat) : Prop where
 total : ∀ i j, i < n → j < n → i ≠ j → lt i j = true ∨ lt j i = true
 asymm : ∀ i j, i < n → j < n → lt i j = true → lt j i = false
 trans : ∀ i j k, i < n → j < n → k < n → lt i j = true → lt j k = true → lt i k = true
noncomputable def Pm (p : Array Nat) (n : Nat) : Prop := p.Perm (List.toArray (List.range n))
theorem Pm.size {p : Array Nat} {n : Nat} (h : Pm p n) : p.size = n := by
 have := h.size_eq
 simpa using this
theorem Pm.lt {p : Array Nat} {n i : Nat} (h : Pm p n) (hi : i < n) : p.getD i 0 < n := by
 have hs := h.size
 have hm : p.getD i 0 ∈ p.toList := by
  rw [Array.getD_eq_getD_getElem?, Array.getElem?_eq_getElem (by omega)]
  exact List.mem_of_getElem? (i := i) (by rw [Array.getElem?_toList, Array.getElem?_eq_getElem (by omega)]; rfl)
 have := (Array.perm_iff_toList_perm.mp h).mem_iff.mp hm
 simpa using this
theorem Pm.inj {p : Array Nat} {n i j : Nat} (h : Pm p n) (hi : i < n) (hj : j < n) (hij : i ≠ j) : p.getD i 0 ≠ p.getD j 0 := by
 have hs := h.size
 have nd : p.toList.Nodup := (Array.perm_iff_toList_perm.mp h).nodup_iff.mpr (by simpa using List.nodup_range)
 intro e
 rw [Array.getD_eq_getD_getElem?, Array.getD_eq_getD_getElem?, Array.getElem?_eq_getElem (by omega), Array.getElem?_eq_getElem (by omega)] at e
 have e : p[i]'(by omega) = p[j]'(by omega) := e
 rw [← Array.getElem_toList, ← Array.getElem_toList] at e
 have np := List.pairwise_iff_getElem.mp nd
 rcases Nat.lt_or_gt_of_ne hij with c | c
 ·exact np i j (by simpa using (by omega : i < p.size)) (by simpa using (by omega : j < p.size)) c e
 ·exact np j i (by simpa using (by omega : j < p.size)) (by simpa using (by omega : i < p.size)) c e.symm
noncomputable def Up (lt : Nat → Nat → Bool) (p : Array Nat) (m : Nat) : Prop := ∀ i j, i < j → j < m → lt (p.getD i 0) (p.getD j 0) = true
noncomputable def Dn (lt : Nat → Nat → Bool) (p : Array Nat) (m : Nat) : Prop := ∀ i j, i < j → j < m → lt (p.getD j 0) (p.getD i 0) = true
section
variable {cmp : Nat → Nat → (Bool → Shared → Prop) → Shared → Prop} {lt : Nat → Nat → Bool} {n : Nat} {I : Shared → Prop}
noncomputable def Asks (cmp : Nat → Nat → (Bool → Shared → Prop) → Shared → Prop) (lt : Nat → Nat → Bool) (n : Nat) (I : Shared → Prop) : Prop :=
 ∀ (i j : Nat) (C : Bool → Shared → Prop) (s : Shared), i < n → j < n → I s → (∀ s', I s' → C (lt i j) s') → cmp i j C s
theorem up_more {p : Array Nat} {m : Nat} (T : Tot lt n) (hp : Pm p n) (hm : 0 < m) (hn : m < n) (h : Up lt p m) (h1 : lt (p.getD (m - 1) 0) (p.getD m 0) = true) : Up lt p (m + 1) := fun i j hij hj => by
 by_cases c : j < m
 ·exact h i j hij c
 ·have : j = m := by omega
  subst this
  by_cases d : i = j - 1
  ·rw [d]; exact h1
  ·exact T.trans _ _ _ (hp.lt (by omega)) (hp.lt (by omega)) (hp.lt hn) (h i (j - 1) (by omega) (by omega)) h1
theorem dn_more {p : Array Nat} {m : Nat} (T : Tot lt n) (hp : Pm p n) (hm : 0 < m) (hn : m < n) (h : Dn lt p m) (h1 : lt (p.getD m 0) (p.getD (m - 1) 0) = true) : Dn lt p (m + 1) := fun i j hij hj => by
 by_cases c : j < m
 ·exact h i j hij c
 ·have : j = m := by omega
  subst this
  by_cases d : i = j - 1
  ·rw [d]; exact h1
  ·exact T.trans _ _ _ (hp.lt hn) (hp.lt (by omega)) (hp.lt (by omega)) h1 (h i (j - 1) (by omega) (by omega))
theorem rC {p : Array Nat} {Q : Nat → Shared → Prop} (A : Asks cmp lt n I) (T : Tot lt n) (hp : Pm p n) :
  ∀ (f m : Nat) (s : Shared), 0 < m → m + f = n → Up lt p m → I s → (∀ m' s', m ≤ m' → m' ≤ n → Up lt p m' → (m' < n → lt (p.getD m' 0) (p.getD (m' - 1) 0) = true) → I s' → Q m' s') → (kas_asc p f m).kasWp cmp Q s
 | 0, m, s, _, hn, hu, hi, q => q m s (Nat.le_refl _) (by omega) hu (fun z => by omega) hi
 | f + 1, m, s, h0, hn, hu, hi, q => by
  show cmp _ _ _ s
  refine A _ _ _ s (hp.lt (by omega)) (hp.lt (by omega)) hi fun s' hi' => ?_
  cases c : lt (p.getD m 0) (p.getD (m - 1) 0) with
  | true => exact q m s' (Nat.le_refl _) (by omega) hu (fun _ => c) hi'
  | false =>
   have h1 := (T.total _ _ (hp.lt (by omega)) (hp.lt (by omega)) (hp.inj (i := m) (j := m - 1) (by omega) (by omega) (by omega))).resolve_left (by rw [c]; decide)
   exact rC A T hp f (m + 1) s' (by omega) (by omega) (up_more T hp h0 (by omega) hu h1) hi' fun m' s2 g => q m' s2 (by omega)
theorem v4 {p : Array Nat} {Q : Array Nat × Nat × Nat → Shared → Prop} (A : Asks cmp lt n I) (T : Tot lt n) (hp : Pm p n) :
  ∀ (f m : Nat) (s : Shared), 0 < m → m + f = n → Dn lt p m → I s → (∀ m' s', m ≤ m' → m' ≤ n → Dn lt p m' → I s' → Q (p, m', 0) s') → (kas_desc f p m 0).kasWp cmp Q s
 | 0, m, s, _, hn, hu, hi, q => q m s (Nat.le_refl _) (by omega) hu hi
 | f + 1, m, s, h0, hn, hu, hi, q => by
  show cmp _ _ _ s
  refine A _ _ _ s (hp.lt (by omega)) (hp.lt (by omega)) hi fun s' hi' => ?_
  cases c : lt (p.getD m 0) (p.getD (m - 1) 0) with
  | true => exact v4 A T hp f (m + 1) s' (by omega) (by omega) (dn_more T hp h0 (by omega) hu c) hi' fun m' s2 g => q m' s2 (by omega)
  | false =>
   have h1 := (T.total _ _ (hp.lt (by omega)) (hp.lt (by omega)) (hp.inj (i := m) (j := m - 1) (by omega) (by omega) (by omega))).resolve_left (by rw [c]; decide)
   show cmp _ _ _ s'
   refine A _ _ _ s' (hp.lt (by omega)) (hp.lt (by omega)) hi' fun s2 hi2 => ?_
   rw [h1]
   exact q m s2 (Nat.le_refl _) (by omega) hu hi2
theorem rev_at {p : Array Nat} {m k : Nat} (hm : m ≤ p.size) (hk : k < m) : (kas_rev p 0 m).getD k 0 = p.getD (m - 1 - k) 0 := by
 unfold kas_rev
 rw [Array.getD_eq_getD_getElem?, Array.getD_eq_getD_getElem?, getElem?_mirror_all hm, if_pos ⟨Nat.zero_le _, hk⟩, Nat.zero_add]
theorem rev_pm {p : Array Nat} {m : Nat} (hp : Pm p n) : Pm (kas_rev p 0 m) n := Array.Perm.trans (mirror_perm _ _ _ _) hp
theorem kas_tail3_any {p : Array Nat} {m : Nat} {Q : Nat × Array Nat → Shared → Prop} {s : Shared} (A : Asks cmp lt n I) (T : Tot lt n) (hp : Pm p n) (hm : 0 < m) (hn : m ≤ n) (hd : Dn lt p m) (hi : I s)
  (q : ∀ m' p' s', 0 < m' → m' ≤ n → Pm p' n → Up lt p' m' → I s' → Q (m', p') s') : (kas_tail3 m n p).kasWp cmp Q s := by
 unfold kas_tail3
 rw [KasT.kasWp_bind]
 refine rC A T (rev_pm hp) (n - m) m s hm (by omega) (fun i j hij hj => ?_) hi fun m' s' g1 g2 g3 _ g5 => q m' _ s' (by omega) g2 (rev_pm hp) g3 g5
 have hs := hp.size
 rw [rev_at (by omega) (by omega), rev_at (by omega) hj]
 exact hd _ _ (by omega) (by omega)
theorem kas_count_any {p : Array Nat} {Q : Nat × Array Nat → Shared → Prop} {s : Shared} (A : Asks cmp lt n I) (T : Tot lt n) (hp : Pm p n) (h1 : 1 ≤ n) (hi : I s)
  (q : ∀ m' p' s', 0 < m' → m' ≤ n → Pm p' n → Up lt p' m' → I s' → Q (m', p') s') : (kas_count n p).kasWp cmp Q s := by
 unfold kas_count
 rw [KasT.kasWp_bind]
 refine rC A T hp (n - 1) 1 s (by decide) (by omega) (fun i j hij hj => by omega) hi fun m s' g1 g2 g3 g4 g5 => ?_
 by_cases c : m = n
 ·rw [if_pos (beq_iff_eq.mpr c)]
  exact q m p s' (by omega) g2 hp g3 g5
 ·rw [if_neg (by rw [beq_iff_eq]; exact c)]
  by_cases d : m > 1
  ·rw [if_pos d]
   show cmp _ _ _ s'
   refine A _ _ _ s' (hp.lt (by omega)) (hp.lt (by omega)) g5 fun s2 hi2 => ?_
   rw [g3 0 (m - 1) (by omega) (by omega)]
   exact q m p s2 (by omega) g2 hp g3 hi2
  ·rw [if_neg d]
   have e : m = 1 := by omega
   subst e
   have hl := g4 (by omega)
   unfold kas_descPart
   rw [KasT.kasWp_bind]
   refine v4 A T hp (n - (1 + 1)) (1 + 1) s' (by decide) (by omega) (fun i j hij hj => ?_) g5 fun m' s2 k1 k2 k3 k4 => ?_
   ·have : i = 0 := by omega
    have : j = 1 := by omega
    subst i j
    exact hl
   ·rw [if_neg (show ¬ (p, m', 0).2.2 > 0 from Nat.lt_irrefl _)]
    exact kas_tail3_any A T hp (show 0 < m' by omega) k2 k3 k4 q
theorem nP {p : Array Nat} {k : Nat} {Q : Nat → Shared → Prop} (A : Asks cmp lt n I) (T : Tot lt n) (hp : Pm p n) (hk : k < n) (hu : Up lt p k) :
  ∀ (f l r : Nat) (s : Shared), l ≤ r → r ≤ k → r - l ≤ f → (∀ i, i < l → lt (p.getD i 0) (p.getD k 0) = true) → (∀ i, r ≤ i → i < k → lt (p.getD k 0) (p.getD i 0) = true) → I s →
   (∀ l s', l ≤ k → (∀ i, i < l → lt (p.getD i 0) (p.getD k 0) = true) → (∀ i, l ≤ i → i < k → lt (p.getD k 0) (p.getD i 0) = true) → I s' → Q l s') → (kas_place p k f l r).kasWp cmp Q s
 | 0, l, r, s, h1, h2, h3, h4, h5, hi, q => q l s (by omega) h4 (fun i a b => h5 i (by omega) b) hi
 | f + 1, l, r, s, h1, h2, h3, h4, h5, hi, q => by
  unfold kas_place
  by_cases c : l ≥ r
  ·rw [if_pos c]
   exact q l s (by omega) h4 (fun i a b => h5 i (by omega) b) hi
  ·rw [if_neg c]
   show cmp _ _ _ s
   have hm : (l + r) / 2 < r ∧ l ≤ (l + r) / 2 := by omega
   generalize (l + r) / 2 = m at *
   refine A _ _ _ s (hp.lt hk) (hp.lt (by omega)) hi fun s' hi' => ?_
   cases d : lt (p.getD k 0) (p.getD m 0) with
   | true =>
    refine nP A T hp hk hu f l m s' hm.2 (by omega) (by omega) h4 (fun i a b => ?_) hi' q
    by_cases e : i = m
    ·rw [e]; exact d
    ·exact T.trans _ _ _ (hp.lt hk) (hp.lt (by omega)) (hp.lt (by omega)) d (hu m i (by omega) b)
   | false =>
    have d2 := (T.total _ _ (hp.lt hk) (hp.lt (by omega)) (hp.inj (i := k) (j := m) hk (by omega) (by omega))).resolve_left (by rw [d]; decide)
    refine nP A T hp hk hu f (m + 1) r s' (by omega) h2 (by omega) (fun i a => ?_) h5 hi' q
    by_cases e : i = m
    ·rw [e]; exact d2
    ·exact T.trans _ _ _ (hp.lt (by omega)) (hp.lt (by omega)) (hp.lt hk) (hu i m (by omega) (by omega)) d2
theorem bub_at {p : Array Nat} {k l i : Nat} (hk : k < p.size) (hl : l ≤ k) : (bubble p k (k - l)).getD i 0 = if i = l then p.getD k 0 else if l < i ∧ i ≤ k then p.getD (i - 1) 0 else p.getD i 0 := by
 have e : ∀ (q : Array Nat) (j : Nat), q.getD j 0 = q[j]?.getD 0 := fun q j => Array.getD_eq_getD_getElem? ..
 rw [e, e, e, e, getElem?_bubble hk (k - l) (by omega), show k - (k - l) = l by omega]
 split
 ·rfl
 ·split <;> rfl
theorem yI {Q : Array Nat → Shared → Prop} (A : Asks cmp lt n I) (T : Tot lt n) :
  ∀ (f k : Nat) (p : Array Nat) (s : Shared), k + f = n → Pm p n → Up lt p k → I s → (∀ p' s', Pm p' n → Up lt p' n → I s' → Q p' s') → (kas_bin f p k).kasWp cmp Q s
 | 0, k, p, s, hk, hp, hu, hi, q => q p s hp (by rw [← show k = n by omega]; exact hu) hi
 | f + 1, k, p, s, hk, hp, hu, hi, q => by
  unfold kas_bin
  rw [KasT.kasWp_bind]
  refine nP A T hp (by omega) hu k 0 k s (Nat.zero_le _) (Nat.le_refl _) (by omega) (fun i z => absurd z (Nat.not_lt_zero _)) (fun i a b => by omega) hi fun l s' h1 h2 h3 hi' => ?_
  have hs := hp.size
  refine yI A T f (k + 1) _ s' (by omega) (Array.Perm.trans (bubble_perm _ _ _) hp) (fun i j hij hj => ?_) hi' q
  rw [bub_at (by omega) h1, bub_at (by omega) h1]
  by_cases c1 : i = l
  ·rw [if_pos c1, if_neg (by omega), if_pos (by omega)]
   exact h3 _ (by omega) (by omega)
  ·rw [if_neg c1]
   by_cases c2 : j = l
   ·rw [if_pos c2, if_neg (by omega)]
    exact h2 i (by omega)
   ·rw [if_neg c2]
    by_cases c3 : l < i ∧ i ≤ k
    ·rw [if_pos c3, if_pos (by omega)]
     exact hu _ _ (by omega) (by omega)
    ·rw [if_neg c3]
     by_cases c4 : l < j ∧ j ≤ k
     ·rw [if_pos c4]
      exact hu _ _ (by omega) (by omega)
     ·rw [if_neg c4]
      exact hu _ _ hij (by omega)
theorem kas_sort_any {Q : Array Nat → Shared → Prop} {s : Shared} (A : Asks cmp lt n I) (T : Tot lt n) (h1 : 1 ≤ n) (hi : I s) (q : ∀ p' s', Pm p' n → Up lt p' n → I s' → Q p' s') : (kas_sort n).kasWp cmp Q s := by
 unfold kas_sort
 rw [KasT.kasWp_bind]
 refine kas_count_any A T (Array.Perm.refl _) h1 hi fun m p s' g1 g2 g3 g4 g5 => ?_
 by_cases c : m < n
 ·rw [if_pos c]
  show (kas_bin (n - max m 1) p (max m 1)).kasWp cmp Q s'
  rw [show max m 1 = m by omega]
  exact yI A T _ m p s' (by omega) g3 g4 g5 q
 ·rw [if_neg c]
  exact q p s' g3 (by rw [← show m = n by omega]; exact g4) g5
end
end L2
namespace L2
open PySem PySem.Calls PyProof.Rows PySem.W
section
variable {prog : Program} {w : World} {A : Around} {E : Value → Shared → Prop} {s : Shared}
theorem prLt_tot {p q : Int × Int} (h : p ≠ q) : vZ p q = true ∨ vZ q p = true := by
 obtain ⟨a, b⟩ := p
 obtain ⟨c, d⟩ := q
 unfold vZ
 by_cases e : a = c
 ·have : b ≠ d := fun z => h (by rw [e, z])
  rw [if_pos e, if_pos e.symm, decide_eq_true_eq, decide_eq_true_eq]
  omega
 ·rw [if_neg e, if_neg (Ne.symm e), decide_eq_true_eq, decide_eq_true_eq]
  omega
theorem prLt_iff {p q : Int × Int} : vZ p q = true ↔ p.1 < q.1 ∨ (p.1 = q.1 ∧ p.2 < q.2) := by
 unfold vZ
 by_cases e : p.1 = q.1
 ·rw [if_pos e, decide_eq_true_eq]; omega
 ·rw [if_neg e, decide_eq_true_eq]; omega
theorem pJ {p q : Int × Int} (h : vZ p q = true) : vZ q p = false := by
 rw [Bool.eq_false_iff]
 intro g
 rw [prLt_iff] at h g
 omega
theorem prLt_trans {p q r : Int × Int} (h : vZ p q = true) (g : vZ q r = true) : vZ p r = true := by
 rw [prLt_iff] at h g ⊢
 omega
theorem tot_of {ks : List (Int × Int)} (nd : ks.Nodup) : Tot (fun i j => vZ (ks.getD i (0, 0)) (ks.getD j (0, 0))) ks.length where
 total i j hi hj hij := prLt_tot fun e => by
  rw [List.getD_eq_getElem?_getD, List.getD_eq_getElem?_getD, List.getElem?_eq_getElem hi, List.getElem?_eq_getElem hj] at e
  exact hij ((List.getElem_inj nd).mp e)
 asymm i j _ _ h := pJ h
 trans i j k _ _ _ h g := prLt_trans h g
theorem sorted_any {l L : Addr} {m : Str → Option Value} {vs : List Value} {ks : List (Int × Int)} {Q : Value → Shared → Prop} (hL : s.heap.Ns L m) (hl : s.heap.IsList l vs.toArray) (h2 : 2 ≤ vs.length) (h64 : vs.length < 64) (hp : Paired (PrAt s.heap L) vs ks) (nd : ks.Nodup)
  (q : ∀ (is : List Nat) (D : Addr) (h' : Heap) (c : Nat), is.Perm (List.range vs.length) → (is.map fun i => ks.getD i (0, 0)).Pairwise (fun a b => vZ a b = true) → s.heap.get? D = none → D ≠ L → (∀ b o, b ≠ L → s.heap.get? b = some o → h'.get? b = some o) → h'.Ns L m → h'.get? D = some (listOf (is.map fun i => vs.getD i .none).toArray c) → Q (.ref D) { s with heap := h' }) :
  wpAny (model prog w) A (call (.builtin "sorted") [.ref l]) Q E s := by
 obtain ⟨h₀, z1, z2, z3⟩ := cutHeap s.heap L
 obtain ⟨news, n1, n2⟩ := newsAbove s.heap L
 have F : Fr h₀ L s.heap m := ⟨hL, z2, z1⟩
 have N : News h₀ L s.heap news := fun p hp => ⟨(n1 p hp).1, Nat.ne_of_gt (n1 p hp).2, by
  cases e : h₀.get? p.1 with
  | none => rfl
  | some o => exact absurd (Nat.lt_of_lt_of_le (Heap.lt_size e) z1) (Nat.not_lt.mpr (Nat.le_of_lt (n1 p hp).2))⟩
 have all : ∀ {h' : Heap}, Fr h₀ L h' m → News h₀ L h' news → ∀ b o, b ≠ L → s.heap.get? b = some o → h'.get? b = some o := fun F' N' b o hb e => by
  rcases Nat.lt_trichotomy b L with y | y | y
  ·exact F'.keep b o (z3 b o y e)
  ·exact absurd y hb
  ·exact (N' _ (n2 b o y e)).1
 refine kat_sorted F N hl h2 h64 fun D e1 h' F' N' fresh => ?_
 have N2 : News h₀ L h' news := fun p hp => N' p (List.mem_cons_of_mem _ hp)
 have keep := all F' N2
 have hd := N' _ List.mem_cons_self
 have hD : s.heap.get? D = none := by
  cases e : s.heap.get? D with
  | none => rfl
  | some o =>
   rcases Nat.lt_trichotomy D L with y | y | y
   ·have := z3 D o y e
    rw [hd.2.2] at this; cases this
   ·exact absurd y hd.2.1
   ·exact absurd (fresh _ (n2 D o y e)) (Nat.lt_irrefl _)
 have hp' : Paired (PrAt h' L) vs ks := Paired.mapP hp fun v k ⟨a, o, n, t, u, r1, r2, r3, r4, r5⟩ => ⟨a, o, n, t, u, r1, r2, keep a o r2 r3, r4, r5⟩
 have hlen : vs.length = ks.length := hp.length
 obtain ⟨fs, f1, f2, f3⟩ := prs_firsts hp'
 refine kat_kind (T := .type "int") (s := { s with heap := h' }) f1 (by rw [f2]; omega) (fun v hv => ?_) rfl ?_
 ·obtain ⟨i, t, rfl⟩ := f3 v hv
  exact Looks.of_pure rfl
 show KasT.kasWp (kas_ask prog w A.in1.in1 (tuples' true) vs) (kas_sort vs.length) _ _
 refine kas_sort_any (I := fun s' => s' = { s with heap := h' }) (lt := fun i j => vZ (ks.getD i (0, 0)) (ks.getD j (0, 0))) (fun i j C s' h0 h1 hi k => ?_) (hlen ▸ tot_of nd) (by omega) rfl fun p s' hpm hup hs' => ?_
 ·subst hi
  obtain ⟨a, o, n, t, u, ra, _, r3, _, r5⟩ := prs_at hp' h0
  obtain ⟨a', o', n', t', u', ra', _, r3', _, r5'⟩ := prs_at hp' h1
  unfold kas_ask
  rw [ra, ra']
  exact pair_lt r3 r5 r3' r5' (k _ rfl)
 ·subst hs'
  refine KasFin.intro F' N' (.head fun p hp => Nat.ne_of_lt (fresh p hp)) fun h2' c F2 N3 => ?_
  refine q p.toList D h2' c (by simpa using Array.perm_iff_toList_perm.mp hpm) ?_ hD hd.2.1 (all F2 fun p hp => N3 p (List.mem_cons_of_mem _ hp)) F2.ns (N3 _ List.mem_cons_self).1
  have hsz := hpm.size
  rw [List.pairwise_iff_getElem]
  intro i j hi hj hij
  rw [List.length_map, Array.length_toList, hsz] at hi hj
  have := hup i j hij hj
  rw [Array.getD_eq_getD_getElem?, Array.getD_eq_getD_getElem?, Array.getElem?_eq_getElem (by omega), Array.getElem?_eq_getElem (by omega)] at this
  rw [List.getElem_map, List.getElem_map, Array.getElem_toList, Array.getElem_toList]
  exact this
theorem sort_few {a : Addr} {vs : List Value} {n : Nat} {P : PySem.Fin → Shared → Prop} (h1 : vs.length ≤ 1) (ho : s.heap.get? a = some (seqObj "list" vs.toArray n))
  (k : ∀ h' c, (∀ b o, b ≠ a → s.heap.get? b = some o → h'.get? b = some o) → h'.get? a = some (seqObj "list" vs.toArray c) → P (.done (.ret .none)) { s with heap := h' }) : wpAny (model prog w) A (Builtin.«list.sort» ⟨[.ref a], []⟩) P E s := by
 have hsz : vs.toArray.size = vs.length := rfl
 obtain ⟨e1, ho1⟩ : ∃ e1, (s.heap.update a (Obj.mapSeq fun _ => (#[] : Array Value))).get? a = some (seqObj "list" #[] e1) := ⟨_, get?_update_seq ho fun _ => #[]⟩
 have s1 := Heap.SameBut.update s.heap a (Obj.mapSeq fun _ => (#[] : Array Value))
 have ho2 : (((s.heap.update a (Obj.mapSeq fun _ => (#[] : Array Value))).push (seqObj "tuple" vs.toArray 0)).push (seqObj "list" #[] 0)).get? a = some (seqObj "list" #[] e1) := Heap.get?_push_of_some _ (Heap.get?_push_of_some _ ho1)
 rw [list_sort_plain]
 refine wpAny_bind (listItems_at ho rfl (wpAny_bind (listUpdate_at ho rfl ?_ (by rw [hsz, sizeLine_eq]; omega) (Nat.zero_le _))))
 refine wpAny_bind (seqEpoch_at ho1 rfl (wpAny_bind (wpAny_newTuple ?_ (by rw [sizeLine_eq]; show vs.toArray.toList.length ≤ _; rw [show vs.toArray.toList.length = vs.length from rfl]; omega))))
 refine wpAny_bind (wpAny_newList (wpAny_holding ?_) (Nat.zero_le _))
 show wpAny (model prog w) A _ P E { s with heap := ((s.heap.update a (Obj.mapSeq fun _ => (#[] : Array Value))).push (seqObj "tuple" vs.toArray 0)).push (seqObj "list" #[] 0) }
 dsimp only
 have h12 : vs.toArray.size < 2 := by rw [hsz]; omega
 rw [if_pos h12, if_pos h12]
 refine wpAny_bind (wpAny_pure (wpAny_bind (wpAny_pure ?_)))
 dsimp only
 have ea : (arrOf (SortSt.mk' general' (vs.toArray.zip vs.toArray) #[] 7 none)).map (·.2) = vs.toArray := by
  show (vs.toArray.zip vs.toArray).map (·.2) = vs.toArray
  match vs, h1 with
  | [], _ => simp
  | [v], _ => simp
 rw [ea]
 have s2 := Heap.SameBut.update (((s.heap.update a (Obj.mapSeq fun _ => (#[] : Array Value))).push (seqObj "tuple" vs.toArray 0)).push (seqObj "list" #[] 0)) a (Obj.mapSeq fun _ => vs.toArray)
 obtain ⟨c2, hc2⟩ : ∃ c2, ((((s.heap.update a (Obj.mapSeq fun _ => (#[] : Array Value))).push (seqObj "tuple" vs.toArray 0)).push (seqObj "list" #[] 0)).update a (Obj.mapSeq fun _ => vs.toArray)).get? a = some (seqObj "list" vs.toArray c2) := ⟨_, get?_update_seq ho2 fun _ => vs.toArray⟩
 refine wpAny_bind (seqEpoch_at ho2 rfl (wpAny_bind (listUpdate_at ho2 rfl ?_ (Nat.zero_le _) (by rw [hsz, sizeLine_eq]; omega))))
 rw [if_neg (by simp)]
 refine wpAny_pure (k _ c2 (fun b o hb e => ?_) hc2)
 exact (s2.2 b hb).trans (Heap.get?_push_of_some _ (Heap.get?_push_of_some _ ((s1.2 b hb).trans e)))
theorem sorted_few {l : Addr} {vs : List Value} {Q : Value → Shared → Prop} (h1 : vs.length ≤ 1) (hl : s.heap.IsList l vs.toArray)
  (q : ∀ (D : Addr) (h' : Heap) (c : Nat), s.heap.objs.size ≤ D → (∀ b o, s.heap.get? b = some o → h'.get? b = some o) → h'.get? D = some (listOf vs.toArray c) → Q (.ref D) { s with heap := h' }) :
  wpAny (model prog w) A (call (.builtin "sorted") [.ref l]) Q E s := by
 refine Calls.call_function_entry kind_sorted plain_sorted entry_sorted (args_sorted1 _) ?_
 unfold Builtin.«sorted»; refine wpAny_bind (m := checkCount "sorted" 1 1 _) (wpAny_pure ?_)
 refine wpAny_bind (collect_list (vs := vs) hl ?_ (by rw [sizeLine_eq]; omega))
 refine wpAny_bind (wpAny_newList ?_ (by rw [sizeLine_eq]; omega))
 have kU : ∀ b o, s.heap.get? b = some o → ((s.heap.push (seqObj "list" #[] 0)).update s.heap.objs.size (Obj.mapSeq fun x => x ++ vs.toArray)).get? b = some o := fun b o e => by
  rw [Heap.get?_update_ne _ _ _ _ (Nat.ne_of_lt (Heap.lt_size e))]
  exact Heap.get?_push_of_some _ e
 have zU : s.heap.objs.size ≤ ((s.heap.push (seqObj "list" #[] 0)).update s.heap.objs.size (Obj.mapSeq fun x => x ++ vs.toArray)).objs.size := by
  rw [Heap.size_update, Heap.size_push]
  exact Nat.le_succ _
 show wpAny _ _ _ _ _ { s with heap := ((s.heap.push (seqObj "list" #[] 0)).update s.heap.objs.size (Obj.mapSeq fun x => x ++ vs.toArray)).push (seqObj "list" vs.toArray 0) }
 dsimp only
 generalize (s.heap.push (seqObj "list" #[] 0)).update s.heap.objs.size (Obj.mapSeq fun x => x ++ vs.toArray) = U at *
 have hoL : (U.push (seqObj "list" vs.toArray 0)).get? U.objs.size = some (seqObj "list" vs.toArray 0) := Heap.get?_push_size _ rfl
 refine wpAny_bind (wpAny_holding (wpAny_call_entry slot_list_sort ⟨_, hoL, rfl⟩ entry_list_sort ?body (args_list_sort _)))
 case body =>
  refine sort_few (s := { s with heap := U.push (seqObj "list" vs.toArray 0) }) h1 hoL fun h' c kp hd => ⟨_, rfl, wpAny_pure ⟨_, rfl, q _ h' c zU (fun b o e => kp b o ?_ (Heap.get?_push_of_some _ (kU b o e))) hd⟩⟩
  exact Nat.ne_of_lt (Nat.lt_of_lt_of_le (Heap.lt_size e) zU)
end
end L2
namespace L2
open PySem PySem.Spec PyProof.Rows
noncomputable def rSortA (K : PySem.W.Frag) : List V → Hp → VK → Prop := fun xs H Q => ∃ l qs ks, xs = [.ref l] ∧ SqL K H l qs ∧ PairsAre H qs ks ∧ 2 ≤ qs.length ∧ qs.length < 64 ∧ ks.Nodup ∧
 ∀ (is : List Nat) p, is.Perm (List.range qs.length) → (is.map fun i => ks.getD i (0, 0)).Pairwise (fun a b => vZ a b = true) → H p = none → Q (.ref p) (upd H p (.lst (is.map fun i => qs.getD i .non)))
noncomputable def rSort0 (K : PySem.W.Frag) : List V → Hp → VK → Prop := fun xs H Q => ∃ l qs, xs = [.ref l] ∧ SqL K H l qs ∧ qs.length ≤ 1 ∧ ∀ p, H p = none → Q (.ref p) (upd H p (.lst qs))
theorem vals_pick {qs : List V} {its : List Value} (h : Paired RelV qs its) : ∀ {is : List Nat}, (∀ i ∈ is, i < qs.length) → Paired RelV (is.map fun i => qs.getD i .non) (is.map fun i => its.getD i .none) := by
 have at_ : ∀ i, i < qs.length → RelV (qs.getD i .non) (its.getD i .none) := by
  induction h with
  | nil => intro i hi; cases hi
  | cons r t ih =>
   intro i hi
   cases i with
   | zero => exact r
   | succ i => exact ih i (Nat.lt_of_succ_lt_succ hi)
 intro is hm
 induction is with
 | nil => exact .nil
 | cons i is ih => exact .cons (at_ i (hm i List.mem_cons_self)) (ih fun j hj => hm j (List.mem_cons_of_mem _ hj))
section
variable {X : Cx}
theorem call_sort0 : CallR X (.builtin "sorted") (rSort0 X.K) := by
 intro pins s σ H xs us Q I r h
 obtain ⟨l, qs, rfl, hq, h1, q⟩ := h
 obtain ⟨u, rfl, rx⟩ := vals1 r
 cases rx
 obtain ⟨its, rv, pl, hz⟩ := I.list hq
 have hlen : qs.length = its.length := rv.length
 refine sorted_few (by omega) pl.isList fun D h' c hD kp hd => ?_
 exact ⟨.ref D, _, I.laid (t' := s.toks) kp hD (show ObjOk X.prog X.w _ h' D (.lst qs) from ⟨hz, its, c, rv, hd⟩), rfl, q D (I.hok.fresh hD)⟩
theorem call_sortA : CallR X (.builtin "sorted") (rSortA X.K) := by
 intro pins s σ H xs us Q I r h
 obtain ⟨l, qs, ks, rfl, hq, hp, h2, h64, nd, q⟩ := h
 obtain ⟨u, rfl, rx⟩ := vals1 r
 cases rx
 obtain ⟨its, rv, pl, hz⟩ := I.list hq
 have hlen : qs.length = its.length := rv.length
 obtain ⟨m, hn, _⟩ := id I.loc
 have hpr : Paired (PrAt s.heap X.env.locals) its ks := by
  clear h2 h64 hz hlen hq nd
  unfold PairsAre at hp
  clear pl q
  induction hp generalizing its with
  | nil => cases rv; exact .nil
  | @cons v k qs ks a t ih =>
   cases rv with
   | cons b c =>
    refine .cons ?_ (ih _ c)
    obtain ⟨bk, rfl, hb⟩ := a
    cases b
    obtain ⟨_, items, ri, o, h1, h2, n, h3⟩ := (show ObjOk X.prog X.w H s.heap bk (.tup [.int k.1, .int k.2]) from I.hok bk _ hb)
    obtain ⟨u1, u2, rfl, r1, r2⟩ := ri.two
    obtain ⟨t1, rfl⟩ := r1
    obtain ⟨t2, rfl⟩ := r2
    exact ⟨bk, o, n, t1, t2, rfl, (fun z => by rw [z, I.free] at hb; cases hb), h1, h2, h3⟩
 refine sorted_any hn pl.isList (by omega) (by omega) hpr nd fun is D h' c his hup hD hDL keep hn' hd => ?_
 have his2 : is.Perm (List.range qs.length) := hlen ▸ his
 have hmem : ∀ i ∈ is, i < qs.length := fun i hi => List.mem_range.mp (his2.mem_iff.mp hi)
 have rv2 := vals_pick rv hmem
 have hil : (is.map fun i => qs.getD i .non).length = qs.length := by rw [List.length_map, his2.length_eq, List.length_range]
 have HD : H D = none := by
  cases e : H D with
  | none => rfl
  | some o =>
   obtain ⟨u, hu⟩ := (I.hok D o e).there
   rw [hD] at hu; cases hu
 have noL : ∀ b o, H b = some o → b ≠ X.env.locals := fun b o e z => by rw [z, I.free] at e; cases e
 have neD : ∀ b o, H b = some o → b ≠ D := fun b o e z => by rw [z, HD] at e; cases e
 have hok : HOk X.prog X.w (upd H D (.lst (is.map fun i => qs.getD i .non))) h' := fun b o e => by
  by_cases hb : b = D
  ·subst hb
   rw [bM] at e
   cases e
   exact ⟨by rw [hil]; exact hz, _, c, rv2, hd⟩
  ·rw [aY hb] at e
   refine (I.hok b o e).stay (fun b' u hb' hu => keep b' u ?_ hu) (fun b' z => by rw [aY (neD _ _ z)]; exact z) fun b' xs z => by rw [aY (neD _ _ z)]; exact z
   rcases hb' with z | z
   ·rw [z]; exact noL _ _ e
   ·exact noL _ _ z
 have I' : Inv X pins σ (upd H D (.lst (is.map fun i => qs.getD i .non))) { s with heap := h', gens := s.gens, drawn := s.drawn, toks := s.toks } := I.step (ch := []) (fun _ z => nomatch z) (fun b o hb _ _ e _ => keep b o hb e) (fun b o hb _ _ e _ => ⟨o.slots, keep b o hb e⟩)
  (fun b o _ e n => by rw [aY (fun z => by rw [z, hD] at e; cases e)]; exact n)
  (fun b o _ e => by
   by_cases hb : b = X.env.locals
   ·subst hb
    obtain ⟨o', _, _, h1, _⟩ := hn'
    exact ⟨o', h1⟩
   ·exact ⟨o, keep b o hb e⟩)
  (fun b xs z => by rw [aY (neD _ _ z)]; exact z) (fun b o u z => by rw [aY (neD _ _ z)]; exact z) (fun b ps z => ⟨#[], by rw [aY (neD _ _ z)]; simpa using z⟩)
  (fun m' hm => ns_one hn hm ▸ hn') hok I.bare
 exact ⟨.ref D, _, I', rfl, q is D his2 hup HD⟩
noncomputable def rSortN (K : PySem.W.Frag) : List V → Hp → VK → Prop := fun xs H Q => rSortA K xs H Q ∨ rSort0 K xs H Q
theorem call_sortN : CallR X (.builtin "sorted") (rSortN X.K) := CallR.or call_sortA call_sort0
end
noncomputable def srtP (ks : List (Int × Int)) : List (Int × Int) := ks.mergeSort fun a b => !vZ b a
theorem srtP_perm (ks : List (Int × Int)) : (srtP ks).Perm ks := List.mergeSort_perm _ _
theorem prLt_ne {a b : Int × Int} (h : vZ a b = true) : a ≠ b := fun e => by
 rw [e, prLt_iff] at h
 omega
theorem srtP_up {ks : List (Int × Int)} (nd : ks.Nodup) : (srtP ks).Pairwise fun a b => vZ a b = true := by
 have h1 : (srtP ks).Pairwise fun a b => (!vZ b a) = true := by
  refine List.pairwise_mergeSort (fun a b c h g => ?_) (fun a b => ?_) ks
  ·simp only [Bool.not_eq_true', ← Bool.not_eq_true, prLt_iff] at h g ⊢
   omega
  ·by_cases e : a = b
   ·subst e
    have : vZ a a = false := by rw [← Bool.not_eq_true, prLt_iff]; omega
    rw [this]; rfl
   ·rcases prLt_tot e with h | h
    ·rw [pJ h]; rfl
    ·rw [pJ h]; simp
 have h2 : (srtP ks).Nodup := (srtP_perm ks).nodup_iff.mpr nd
 refine (h1.and h2).imp fun {a b} h => ?_
 exact (prLt_tot h.2).resolve_right (by simpa using h.1)
theorem srtP_of {xs ks : List (Int × Int)} (hp : xs.Perm ks) (hu : xs.Pairwise fun a b => vZ a b = true) : srtP ks = xs := by
 have nx : xs.Nodup := hu.imp fun h => prLt_ne h
 have nd : ks.Nodup := hp.nodup_iff.mp nx
 refine List.Perm.eq_of_pairwise (le := fun a b => vZ a b = true) (fun a b _ _ h g => ?_) (srtP_up nd) hu ((srtP_perm ks).trans hp.symm)
 rw [pJ h] at g
 cases g
end L2
namespace L2.VS
open PySem PySem.Spec PyProof.Rows
variable {P0 : Addr → Hp → Prop} {ta : TE} {ma : ME} {K : PySem.W.Frag}
theorem pick_dts {G : Hp} {qs : List V} {ks : List (Int × Int)} (h : Dts G qs (prsD ks)) {is : List Nat} (hm : ∀ i ∈ is, i < qs.length) : Dts G (is.map fun i => qs.getD i .non) (prsD (is.map fun i => ks.getD i (0, 0))) := by
 have at_ : ∀ i, i < qs.length → Dt G (qs.getD i .non) (.tuple [.int (ks.getD i (0, 0)).1, .int (ks.getD i (0, 0)).2]) := by
  clear hm
  induction ks generalizing qs with
  | nil => cases h; intro i hi; cases hi
  | cons k ks ih =>
   cases h with
   | cons a b =>
    intro i hi
    cases i with
    | zero => exact a
    | succ i => exact ih b i (Nat.lt_of_succ_lt_succ hi)
 induction is with
 | nil => exact .nil
 | cons i is ih => exact .cons (at_ i (hm i List.mem_cons_self)) (ih fun j hj => hm j (List.mem_cons_of_mem _ hj))
noncomputable def mSortN (ma : ME) : MO := fun Γ Q => ma Γ fun x Γ1 => ∃ ks : List (Int × Int), x = .list (prsD ks) ∧ ks.length < 64 ∧ ks.Nodup ∧ Q (.own (prsD (srtP ks))) Γ1
theorem vo_sortN (ha : VT P0 ta ma) : VO P0 (tCB (rSortN K) (fY ta vP)) (mSortN ma) := by
 intro F Γ σ G H Q Qm r m k
 refine ha F Γ σ G H _ _ r m fun x Γ1 v G1 H1 m1 s1 r1 d1 => ?_
 obtain ⟨ks, rfl, h64, nd, m1⟩ := m1
 cases d1 with
 | @lst p qs _ hp rs =>
  have hl : qs.length = ks.length := by rw [rs.len]; unfold prsD; rw [List.length_map]
  by_cases h1 : 2 ≤ ks.length
  ·refine .inl ⟨p, qs, ks, rfl, SqL.of (r1.fr.sub _ _ hp), prs_back (fun b o e => r1.fr.sub b o e) rs, by omega, by omega, nd, fun is l his hup hl2 => ?_⟩
   have hmem : ∀ i ∈ is, i < qs.length := fun i hi => List.mem_range.mp (his.mem_iff.mp hi)
   obtain ⟨a, b, c⟩ := mZ r1 hl2 (pick_dts rs hmem)
   have e : srtP ks = is.map fun i => ks.getD i (0, 0) := by
    refine srtP_of ?_ hup
    have e1 : ((List.range qs.length).map fun i => ks.getD i (0, 0)) = ks := by
     refine List.ext_getElem? fun i => ?_
     rw [List.getElem?_map, hl]
     by_cases hi : i < ks.length
     ·simp [hi]
     ·simp [hi]
    have := his.map fun i => ks.getD i (0, 0)
    rw [e1] at this
    exact this
   rw [e] at m1
   exact k _ _ _ _ _ m1 s1 a b c
  ·refine .inr ⟨p, qs, rfl, SqL.of (r1.fr.sub _ _ hp), by omega, fun l hl2 => ?_⟩
   obtain ⟨a, b, c⟩ := mZ r1 hl2 rs
   have e : srtP ks = ks := srtP_of (List.Perm.refl _) (by
    match ks, h1 with
    | [], _ => exact .nil
    | [x], _ => exact List.pairwise_singleton _ _
    | x :: y :: r, h => exact absurd (show 2 ≤ (x :: y :: r).length from by simp) h)
   rw [e] at m1
   exact k _ _ _ _ _ m1 s1 a b c
theorem i_sortN {ma : ME} {Γ : En} {Q : Rv → En → Prop} (h : ma Γ fun x Γ1 => ∃ ks : List (Int × Int), x = .list (prsD ks) ∧ ks.length < 64 ∧ ks.Nodup ∧ Q (.own (prsD (srtP ks))) Γ1) : mSortN ma Γ Q := h
end L2.VS
namespace My
open PySem PySem.Spec PyProof.Rows L2 L2.VS LT
noncomputable def top (i : Nat) : Stmt := PySem.Challenge.pw_leadtimes_k48_whole_turned_about.main.body.getD i (.Pass ⟨0, 0, 0, 0⟩)
set_option hygiene false in
local macro_rules | `(tactic| walk_at $s:str)=>do
 let cs:=s.getString.toList
 if cs.head? != some '!' then Lean.Macro.throwUnsupported
 let a := "i_aval i_c i_ix i_pub i_anil i_call i_seq i_val i_cons i_set i_ret i_tst i_nil i_I0 i_I i_nx i_gN i_if i_tup wH i_gsCons i_itL i_for i_len i_lst vD i_comp i_eq i_not iteNT i_ne i_gsNil i_rng1 i_and i_or i_U iteNF i_isN i_peekT i_notN i_par i_andV i_abs i_peek i_in i_cat i_step i_isi i_notV i_int1 i_slL i_pSo i_pNo i_sortN i_orV i_bs i_ifE i_ifO i_asg i_listRng i_listZip i_dnew i_listD i_setD i_chain i_itE i_itT".splitOn " "
 let x := "-%)ĂńċbĆ*ĲE2ĝ.054`ņ:ňăđąrFĭQŌ]cqsŎ|}āĄĈĉďĘęĜĞĠġĥĦħĪīĬĮįİıĸĹĺĻļĽľŁłŃ".toList
 let b := "i_var i_apen i_gT i_move i_append i_insert i_aug i_pubS isT i_itD i_ixD".splitOn " "
 let y := "&ŇōĐěğĨĩķĿŀ".toList
 let z := "t%ĢpĂrnĲĆm0xK)xjŎ2gĵČĵōČfē-W0Ĵd?3a.LY=J_?T^kJ[ē8ZlĊX*%ĴeRVĚ#Uą(Sĝ#Ě.zPŌ2N+ŋI6ŊHh-ĊĭăGbđD6wA/#CĒ-B,ŉ@O2lĂ#>6#<ĳ8ĳ~%e6ćČň4;*&95#T%#hEċL&&J=8R6Ģ7k8~Ā-x&(ĀĒŇOb`Ģuo3ņ*?EĆkē=/ĝŅ(&#ēĒ=$iĆibĲ6)z81#ĒĂċz&%1ńM=-&".toList
 let mut l:=cs.tail
 for k in [0:z.length/3] do l:=l.flatMap fun c=>if c=z[3*k]! then [z[3*k+1]!,z[3*k+2]!] else [c]
 let mut r : Array (Lean.TSyntax `tactic):=#[]
 for c in l do
  let i:=x.idxOf c
  let j:=y.idxOf c
  let t←if i<x.length then `(tactic| with_reducible apply $(Lean.mkIdent (a[i]!).toName)) else if j<y.length then `(tactic| with_reducible refine $(Lean.mkIdent (b[j]!).toName) (by with_unfolding_all rfl) ?_) else match c with
   | '#'=>`(tactic| (dsimp only [Rv.d, Rv.sl, nbQ, Bool.not_true, Bool.not_false, isN, xR]))
   | 'M'=>`(tactic| (with_reducible refine And.intro rfl ?_))
   | ','=>`(tactic| (refine ⟨_, rfl, ?_⟩))
   | '+'=>`(tactic| (refine ⟨_, _, rfl, rfl, ?_⟩))
   | 'Ņ'=>`(tactic| (with_reducible refine And.intro (Nat.le_of_ble_eq_true (by with_unfolding_all rfl)) ?_))
   | 'o'=>`(tactic| (with_reducible refine And.intro (mulB (by assumption) (by assumption)) ?_))
   | 'u'=>`(tactic| (with_reducible apply dB (ix_num1 _)))
   | 'ć'=>`(tactic| (with_reducible apply dB (ix_num0 _)))
   | 'w'=>`(tactic| (with_reducible apply dB (ix_line1 _)))
   | 'ŉ'=>`(tactic| (refine ⟨_, _, _, _, rfl, rfl, SqL.of bM, rfl, ?_⟩))
   | 'Ŋ'=>`(tactic| (with_reducible apply dB (ix_line0 _)))
   | 'ŋ'=>`(tactic| (refine And.intro (show (0 : Int)<_ by decide) ?_))
   | 'v'=>`(tactic| (with_reducible (refine And.intro (tE _) (And.intro (tE _) ?_); rw [z7])))
   | 'y'=>`(tactic| (refine And.intro (by assumption) ?_))
   | '{'=>`(tactic| (with_reducible (refine And.intro (good_int _) (And.intro (good_int _) ?_); rw [eqv_int])))
   | 'č'=>`(tactic| (refine ⟨_, _, _, _, rfl, rfl, SqL.of (by assumption), rfl, ?_⟩))
   | 'Ď'=>`(tactic| (refine ⟨_, _, rfl, .inl (by assumption), ?_⟩))
   | 'Ĕ'=>`(tactic| (refine And.intro (.inl (by decide)) ?_))
   | 'ĕ'=>`(tactic| (refine And.intro (.inr (by decide)) ?_))
   | 'Ė'=>`(tactic| (refine And.intro (CMul_mod (by decide) (by decide)) ?_))
   | 'ė'=>`(tactic| (refine And.intro ⟨by decide, by decide⟩ ?_))
   | 'ģ'=>`(tactic| (refine ⟨_, _, _, _, rfl, rfl, (by assumption), rfl, ?_⟩))
   | 'Ĥ'=>`(tactic| (refine ⟨_, _, _, _, rfl, rfl, bM, rfl, ?_⟩))
   | 'Ķ'=>`(tactic| (refine And.intro rfl ?_))
   | _=>Lean.Macro.throwUnsupported
  r:=r.push t
 `(tactic| ($[$r:tactic];*))
noncomputable def bC : Fm := mTake
noncomputable def uU : MS :=
 (eX (cM (mAndV (mIsi "int" (aM 0)) (mNotV (mIsi "bool" (aM 0))))))
noncomputable def eE : Fm := mFn 0 uU
noncomputable def iU : MS :=
 (eX (cM (aM 2)))
noncomputable def iV : MS :=
 (cH (dX 4 (cM (mMod (aM 2) (aM 3))))
  (cH (dX 2 (cM (aM 3)))
  (dX 3 (cM (aM 4)))))
noncomputable def gJ : MS :=
 (cH (dX 2 (cM (mAbs (aM 0))))
  (cH (dX 3 (cM (mAbs (aM 1))))
  (cH (mWhile (fO (mNe (aM 3) (mC (.int 0))))
  iV)
  iU)))
noncomputable def cR : Fm := mFn 3 gJ
noncomputable def qR : MS :=
 (eX (cM (qP (bK (mDivX (aM 0) (aM 2)) (bK (mDivX (aM 1) (aM 2)) gH)))))
noncomputable def qM : MS :=
 (cH (dX 2 (cM (cC (b7 2 cR (bA (aM 0) (bA (aM 1) cD))))))
  (cH (mIf (fO (mLt (aM 1) (mC (.int 0))))
  (dX 2 (cM (mNeg (aM 2))))
  mNx)
  qR))
noncomputable def rZ : MS :=
 (cH (mIf (mOr (mNot (fO (cC (b7 1 eE (bA (aM 0) cD))))) (mOr (mNot (fO (cC (b7 1 eE (bA (aM 1) cD))))) (fO (mEq (aM 1) (mC (.int 0))))))
  mNever
  mNx)
  qM)
noncomputable def cF : Fm := mFn 1 rZ
noncomputable def b_sum_of : MS :=
 (eX (b7 2 cF (bA (mAdd (mH (mIx (aM 0) (mC (.int 0))) (mIx (aM 1) (mC (.int 1)))) (mH (mIx (aM 1) (mC (.int 0))) (mIx (aM 0) (mC (.int 1))))) (bA (mH (mIx (aM 0) (mC (.int 1))) (mIx (aM 1) (mC (.int 1)))) cD))))
noncomputable def q9 : Fm := mFn 0 b_sum_of
noncomputable def jW : MS :=
 (eX (b7 2 cF (bA (u5 (mH (mIx (aM 0) (mC (.int 0))) (mIx (aM 1) (mC (.int 1)))) (mH (mIx (aM 1) (mC (.int 0))) (mIx (aM 0) (mC (.int 1))))) (bA (mH (mIx (aM 0) (mC (.int 1))) (mIx (aM 1) (mC (.int 1)))) cD))))
noncomputable def bY : Fm := mFn 0 jW
noncomputable def p8 : MS :=
 (eX (b7 2 cF (bA (mH (mIx (aM 0) (mC (.int 0))) (mIx (aM 1) (mC (.int 0)))) (bA (mH (mIx (aM 0) (mC (.int 1))) (mIx (aM 1) (mC (.int 1)))) cD))))
noncomputable def gF : Fm := mFn 0 p8
noncomputable def mX : MS :=
 (eX (b7 2 cF (bA (mH (mIx (aM 0) (mC (.int 0))) (mIx (aM 1) (mC (.int 1)))) (bA (mH (mIx (aM 0) (mC (.int 1))) (mIx (aM 1) (mC (.int 0)))) cD))))
noncomputable def fK : Fm := mFn 0 mX
noncomputable def yW : MS :=
 (eX (cM (mLt (mH (mIx (aM 0) (mC (.int 0))) (mIx (aM 1) (mC (.int 1)))) (mH (mIx (aM 1) (mC (.int 0))) (mIx (aM 0) (mC (.int 1)))))))
noncomputable def bJ : Fm := mFn 0 yW
noncomputable def wW : MS :=
 (eX (yL 1))
noncomputable def s8 : MS :=
 (rJ 1 (aM 3) (aM 2))
noncomputable def xP : MS :=
 (mAug 3 fSub (mC (.int 1)))
noncomputable def xO : MS :=
 (cH (dX 3 (cM (mPeek (mLen (aM 1)))))
  (cH (mWhile (xZ (mAnd (fO (mGt (aM 3) (mC (.int 0)))) (fO (cC (b7 2 bJ (bA (aM 2) (bA (mIx (aM 1) (u5 (aM 3) (mC (.int 1)))) cD)))))))
  xP)
  s8))
noncomputable def b_rising : MS :=
 (cH (dX 1 (mLst gH))
  (cH (mFor (zB (aM 0)) (gN 2)
  xO)
  wW))
noncomputable def jE : Fm := mFn 3 b_rising
noncomputable def uC : MS :=
 (eX (b7 2 q9 (bA (mIx (aM 0) (mC (.int 0))) (bA (cC (b7 2 gF (bA (mIx (aM 0) (mC (.int 1))) (bA (aM 1) cD)))) cD))))
noncomputable def eG : Fm := mFn 0 uC
noncomputable def v6 : MS :=
 (cH (dX 2 (cM (cC (b7 2 bY (bA (mIx (aM 1) (mC (.int 0))) (bA (mIx (aM 0) (mC (.int 0))) cD))))))
  (cH (dX 3 (cM (cC (b7 2 bY (bA (mIx (aM 0) (mC (.int 1))) (bA (mIx (aM 1) (mC (.int 1))) cD))))))
  (eX (cM (qP (bK (mC (.str "at")) (bK (cC (b7 2 fK (bA (aM 2) (bA (aM 3) cD)))) gH)))))))
noncomputable def wI : MS :=
 (cH (mIf (fO (mEq (mIx (aM 0) (mC (.int 1))) (mIx (aM 1) (mC (.int 1)))))
  (eX (mIfO (fO (mEq (mIx (aM 0) (mC (.int 0))) (mIx (aM 1) (mC (.int 0))))) (cM (qP (bK (mC (.str "always")) gH))) (cM (qP (bK (mC (.str "never")) gH)))))
  mNx)
  v6)
noncomputable def gK : Fm := mFn 2 wI
noncomputable def uM : MS :=
 (eX (cM (qP (bK (cC (b7 2 eG (bA (mIx (aM 0) (aM 1)) (bA (aM 2) cD)))) (bK (mIx (mIx (aM 0) (aM 1)) (mC (.int 1))) (bK (aM 1) gH))))))
noncomputable def eN : Fm := mFn 0 uM
noncomputable def lW : MS :=
 (eX (cM (mLt (mIx (aM 0) (mC (.int 2))) (mIx (aM 1) (mC (.int 2))))))
noncomputable def m8 : MS :=
 (cH (mIf (fO (mNe (mIx (aM 0) (mC (.int 1))) (mIx (aM 1) (mC (.int 1)))))
  (eX (b7 2 bJ (bA (mIx (aM 1) (mC (.int 1))) (bA (mIx (aM 0) (mC (.int 1))) cD))))
  mNx)
  lW)
noncomputable def lM : MS :=
 (cH (mIf (fO (mNe (mIx (aM 0) (mC (.int 0))) (mIx (aM 1) (mC (.int 0)))))
  (eX (b7 2 bJ (bA (mIx (aM 1) (mC (.int 0))) (bA (mIx (aM 0) (mC (.int 0))) cD))))
  mNx)
  m8)
noncomputable def cN : Fm := mFn 0 lM
noncomputable def u9 : MS :=
 (eX (b7 2 cN (bA (cC (b7 3 eN (bA (aM 0) (bA (aM 1) (bA (aM 3) cD))))) (bA (cC (b7 3 eN (bA (aM 0) (bA (aM 2) (bA (aM 3) cD))))) cD))))
noncomputable def cX : Fm := mFn 0 u9
noncomputable def oE : MS :=
 (eX (cM (mC .none)))
noncomputable def mJ : MS :=
 (cH (dX 4 (cM (cC (b7 2 gK (bA (mIx (aM 0) (aM 1)) (bA (mIx (aM 0) (aM 2)) cD))))))
  (cH (mIf (mAnd (fO (mEq (mIx (aM 4) (mC (.int 0))) (mC (.str "at")))) (fO (cC (b7 2 bJ (bA (aM 3) (bA (mIx (aM 4) (mC (.int 1))) cD))))))
  (eX (cM (mIx (aM 4) (mC (.int 1)))))
  mNx)
  oE))
noncomputable def cT : Fm := mFn 1 mJ
noncomputable def rT : MS :=
 (eX (cM (mAndV (cC (b7 1 eE (bA (aM 1) cD))) (mChain (fun i j => decide (i ≤ j)) (fun i j => decide (i < j)) (mC (.int 0)) (aM 1) (mLen (aM 0))))))
noncomputable def gA : Fm := mFn 0 rT
noncomputable def oA : MS :=
 (mPubS 3 (eX (pD 1 [] (zB (aM 3)) (gN 0) jQ (mIx (aM 0) (mC (.int 2))))))
noncomputable def j9 : MS :=
 (rJ 3 (aM 6) (aM 5))
noncomputable def o5 : MS :=
 (mAug 6 fAdd (mC (.int 1)))
noncomputable def oJ : MS :=
 (cH (dX 5 (cM (cC (b7 3 eN (bA (aM 0) (bA (aM 4) (bA (aM 2) cD)))))))
  (cH (dX 6 (cM (mC (.int 0))))
  (cH (mWhile (xZ (mAnd (fO (mLt (aM 6) (mLen (aM 3)))) (fO (cC (b7 2 cN (bA (mIx (aM 3) (aM 6)) (bA (aM 5) cD)))))))
  o5)
  j9)))
noncomputable def mR : MS :=
 (cH (dX 3 (mLst gH))
  (cH (mFor (zB (aM 1)) (gN 4)
  oJ)
  oA))
noncomputable def fH : Fm := mFn 4 mR
noncomputable def uD : MS :=
 (eX (b7 3 fH (bA (aM 0) (bA (cC (mListRng (mLen (aM 0)))) (bA (aM 1) cD)))))
noncomputable def cB : Fm := mFn 0 uD
noncomputable def p6 : MS :=
 (eX (mListZip (aM 0) (cC (mSlL (aM 0) (pSo (mC (.int 1))) pNo))))
noncomputable def cJ : Fm := mFn 0 p6
noncomputable def v8 : MS :=
 (eX (cM (aM 2)))
noncomputable def uY : MS :=
 (cH (dX 5 (cM (cC (b7 2 bY (bA (cC (b7 2 eG (bA (mIx (aM 0) (aM 3)) (bA (aM 1) cD)))) (bA (cC (b7 2 eG (bA (mIx (aM 0) (aM 4)) (bA (aM 1) cD)))) cD))))))
  (mIf (mOr (fO (mIsN (aM 2))) (fO (cC (b7 2 bJ (bA (aM 5) (bA (mIx (aM 2) (mC (.int 2))) cD))))))
  (dX 2 (cM (qP (bK (aM 3) (bK (aM 4) (bK (aM 5) gH))))))
  mNx))
noncomputable def xV : MS :=
 (cH (dX 2 (cM (mC .none)))
  (cH (mFor (zB (cC (b7 1 cJ (bA (cC (b7 2 cB (bA (aM 0) (bA (aM 1) cD)))) cD)))) (gT 2 (fV (gN 3) (fV (gN 4) z9)))
  uY)
  v8))
noncomputable def jU : Fm := mFn 4 xV
noncomputable def oF : MS :=
 (eX (yL 1))
noncomputable def o8 : MS :=
 (mIf (fO (cC (b7 2 bJ (bA (mIx (mIx (aM 0) (aM 2)) (mC (.int 1))) (bA (mIx (mIx (aM 0) (aM 3)) (mC (.int 1))) cD)))))
  (cH (dX 4 (cM (mIx (cC (b7 2 gK (bA (mIx (aM 0) (aM 2)) (bA (mIx (aM 0) (aM 3)) cD)))) (mC (.int 1)))))
  (mSetApp 1 4 2 3))
  mNx)
noncomputable def o7 : MS :=
 (mFor (yH (bK (mLen (aM 0)) gH)) (gN 3)
  o8)
noncomputable def nF : MS :=
 (cH (dX 1 mDNew)
  (cH (mFor (yH (bK (mLen (aM 0)) gH)) (gN 2)
  o7)
  oF))
noncomputable def cU : Fm := mFn 4 nF
noncomputable def wJ : MS :=
 (cH (mSetD 3 (b7 1 cU (bA (aM 0) cD)))
  (cH (dX 4 (cM (cC (pD 1 [1, 2] (mItD 3) (gN 0) (mAnd (fO (cC (b7 2 bJ (bA (aM 1) (bA (aM 0) cD))))) (mNot (fO (cC (b7 2 bJ (bA (aM 2) (bA (aM 0) cD))))))) (aM 0)))))
  (eX (pD 1 [3] (zB (cC (b7 1 jE (bA (aM 4) cD)))) (gN 0) jQ (qP (bK (aM 0) (bK (cC (mSortN (mIxD 1 (aM 0)))) gH)))))))
noncomputable def lN : Fm := mFn 3 wJ
noncomputable def kI : MS :=
 (eX (mCat (cC (mLst (bK (cC (b7 2 bY (bA (mIx (aM 1) (mC (.int 0))) (bA (qP (bK (mC (.int 1)) (bK (mC (.int 1)) gH))) cD)))) gH))) (aM 1)))
noncomputable def jN : MS :=
 (cH (dX 1 (cM (cC (b7 1 jE (bA (cC (mListD (b7 1 cU (bA (aM 0) cD)))) cD)))))
  (cH (mIf (fO (mEq (aM 1) (cC (mLst gH))))
  (eX (mLst (bK (qP (bK (mC (.int 0)) (bK (mC (.int 1)) gH))) gH)))
  mNx)
  kI))
noncomputable def dR : Fm := mFn 1 jN
noncomputable def tV : MS :=
 (eX (yL 3))
noncomputable def tW : MS :=
 (cH (dX 5 (cM (mIx (cC (b7 2 cB (bA (aM 0) (bA (aM 4) cD)))) (aM 1))))
  (mIf (xZ (fO (mNe (aM 5) (mIx (mIx (aM 3) (mNeg (mC (.int 1)))) (mC (.int 0))))))
  (rP 3 (qP (bK (aM 5) (bK (aM 4) gH))))
  mNx))
noncomputable def tY : MS :=
 (cH (dX 2 (cM (cC (b7 1 dR (bA (aM 0) cD)))))
  (cH (dX 3 (mLst (bK (qP (bK (mIx (cC (b7 2 cB (bA (aM 0) (bA (mIx (aM 2) (mC (.int 0))) cD)))) (aM 1)) (bK (mC .none) gH))) gH)))
  (cH (mFor (zB (cC (mSlL (aM 2) (pSo (mC (.int 1))) pNo))) (gN 4)
  tW)
  tV)))
noncomputable def uR : MS :=
 (cH (mIf (fO (mGe (aM 1) (mLen (aM 0))))
  (eX (mLst gH))
  mNx)
  tY)
noncomputable def jK : Fm := mFn 4 uR
noncomputable def vB : MS :=
 (eX (b7 4 cT (bA (aM 0) (bA (aM 1) (bA (aM 2) (bA (aM 3) cD))))))
noncomputable def yC : MS :=
 (cH (mIf (fO (cC (b7 4 cX (bA (aM 0) (bA (aM 2) (bA (aM 1) (bA (aM 3) cD)))))))
  (eX (cM (aM 3)))
  mNx)
  vB)
noncomputable def mF : Fm := mFn 0 yC
noncomputable def lG : MS :=
 (eX (pD 1 [0, 2] (zB (cC (b7 1 cJ (bA (aM 1) cD)))) (gN 0) jQ (qP (bK (mIx (aM 0) (mC (.int 0))) (bK (mIx (aM 0) (mC (.int 1))) (bK (cC (b7 4 mF (bA (aM 1) (bA (mIx (aM 0) (mC (.int 0))) (bA (mIx (aM 0) (mC (.int 1))) (bA (aM 2) cD)))))) gH))))))
noncomputable def eO : Fm := mFn 1 lG
noncomputable def rM : MS :=
 (eX (b7 3 eO (bA (aM 0) (bA (cC (b7 2 cB (bA (aM 0) (bA (aM 1) cD)))) (bA (aM 1) cD)))))
noncomputable def f9 : Fm := mFn 0 rM
noncomputable def o4 : MS :=
 (cH (dX 5 (cM (cC (b7 4 cT (bA (aM 0) (bA (aM 1) (bA (aM 2) (bA (aM 3) cD))))))))
  (eX (cM (mOrV (mIsN (aM 5)) (mAndV (mNotN (aM 4)) (mNotV (cC (b7 2 bJ (bA (aM 5) (bA (aM 4) cD))))))))))
noncomputable def nJ : MS :=
 (cH (mIf (mNot (fO (cC (b7 4 cX (bA (aM 0) (bA (aM 1) (bA (aM 2) (bA (aM 3) cD))))))))
  (eX (cM (mC (.bool false))))
  mNx)
  o4)
noncomputable def fJ : Fm := mFn 1 nJ
noncomputable def mO : MS :=
 (eX (b7 5 fJ (bA (aM 0) (bA (aM 3) (bA (aM 4) (bA (aM 1) (bA (aM 5) cD)))))))
noncomputable def tD : MS :=
 (cH (mIf (mAnd (fO (mNotN (aM 5))) (mNot (fO (cC (b7 2 bJ (bA (aM 1) (bA (aM 5) cD)))))))
  (eX (cM (mC (.bool false))))
  mNx)
  mO)
noncomputable def uI : MS :=
 (cH (dX 3 (cM (mIx (aM 2) (mC (.int 0)))))
  (cH (dX 4 (cM (mIx (aM 2) (mC (.int 1)))))
  (cH (dX 5 (cM (mIx (aM 2) (mC (.int 2)))))
  (cH (mIf (mOr (mNot (fO (cC (b7 2 gA (bA (aM 0) (bA (aM 3) cD)))))) (mOr (mNot (fO (cC (b7 2 gA (bA (aM 0) (bA (aM 4) cD)))))) (fO (mEq (aM 3) (aM 4)))))
  (eX (cM (mC (.bool false))))
  mNx)
  tD))))
noncomputable def fP : Fm := mFn 3 uI
noncomputable def jZ : MS :=
 (eX (cM (aM 1)))
noncomputable def kW : MS :=
 (mIf (mAnd (fO (mNotN (mIx (aM 3) (mC (.int 2))))) (mOr (fO (mIsN (aM 1))) (fO (cC (b7 2 bJ (bA (mIx (aM 3) (mC (.int 2))) (bA (mIx (mIx (aM 0) (aM 1)) (mC (.int 2))) cD)))))))
  (dX 1 (cM (aM 2)))
  mNx)
noncomputable def jT : MS :=
 (cH (dX 1 (cM (mC .none)))
  (cH (mFor (mItE (aM 0)) (gT 2 (fV (gN 2) (fV (gN 3) z9)))
  kW)
  jZ))
noncomputable def dJ : Fm := mFn 3 jT
noncomputable def b_shown_r1 : MS :=
 (cH (dX 7 (cM (cC (b7 1 dJ (bA (aM 2) cD)))))
  (eX (mTupB 4 (mIfE (fO (mIsN (aM 7))) (mC .none) (mIx (mIx (aM 2) (aM 7)) (mC (.int 2)))))))
noncomputable def b_shown_r2 : MS :=
 (cH (dX 4 (b7 2 cB (bA (aM 0) (bA (aM 1) cD))))
  (cH (dX 5 (cM (cC (pD 1 [] (zB (aM 2)) (gN 0) jQ (qP (bK (mIx (aM 0) (mC (.int 0))) (bK (mIx (aM 0) (mC (.int 1))) gH)))))))
  (cH (mIf (xZ (mNot (fO (mAll (cC (pD 1 [5] (zB (cC (b7 1 cJ (bA (aM 4) cD)))) (gN 0) jQ (mIn false (aM 0) (aM 1))))))))
  (eX (cM (mC .none)))
  mNx)
  b_shown_r1)))
noncomputable def b_shown : MS :=
 (cH (mIf (mNot (fO (mAll (cC (pD 1 [0, 1] (zB (aM 2)) (gN 0) jQ (cC (b7 3 fP (bA (aM 1) (bA (aM 2) (bA (aM 0) cD))))))))))
  (eX (cM (mC .none)))
  mNx)
  b_shown_r2)
noncomputable def rG : Fm := mFn 5 b_shown
noncomputable def oO : MS :=
 (eX (cM (qP (bK (mDivX (aM 0) (aM 2)) (bK (mDivX (aM 1) (aM 2)) gH)))))
noncomputable def p7 : MS :=
 (mPar 2 3 (bK (aM 3) (bK (mMod (aM 2) (aM 3)) gH)))
noncomputable def oR : MS :=
 (cH (dX 2 (cM (mAbs (aM 0))))
  (cH (dX 3 (cM (aM 1)))
  (cH (mWhile (fO (mGt (aM 3) (mC (.int 0))))
  p7)
  oO)))
noncomputable def bO : Fm := mFn 2 oR
noncomputable def pA : MS :=
 (cH (dX 3 (cM (mAdd (mH (cC (b7 2 bC (qG 0 (bA (mC (.int 1000000000)) cD)))) (mC (.int 1000000000))) (cC (b7 2 bC (qG 0 (bA (mC (.int 1000000000)) cD)))))))
  (eX (b7 2 bO (bA (mH (aM 3) (mIx (cC (mLst (bK (mC (.int 1)) (bK (mNeg (mC (.int 1))) gH)))) (cC (b7 2 bC (qG 0 (bA (mC (.int 2)) cD)))))) (bA (mAdd (mC (.int 1)) (cC (b7 2 bC (qG 0 (bA (mC (.int 999999)) cD))))) cD)))))
noncomputable def oW : MS :=
 (cH (mIf (fO (mLt (aM 2) (mC (.int 6))))
  (eX (b7 2 bO (bA (u5 (cC (b7 2 bC (qG 0 (bA (mC (.int 2001)) cD)))) (mC (.int 1000))) (bA (mAdd (mC (.int 1)) (cC (b7 2 bC (qG 0 (bA (mC (.int 999)) cD))))) cD))))
  mNx)
  pA)
noncomputable def pC : MS :=
 (cH (mIf (fO (mEq (aM 2) (mC (.int 3))))
  (eX (b7 2 bO (bA (u5 (cC (b7 2 bC (qG 0 (bA (mC (.int 13)) cD)))) (mC (.int 6))) (bA (mAdd (mC (.int 1)) (cC (b7 2 bC (qG 0 (bA (mC (.int 3)) cD))))) cD))))
  mNx)
  oW)
noncomputable def pG : MS :=
 (cH (dX 2 (cM (cC (b7 2 bC (qG 0 (bA (mIx (cC (mLst (bK (mC (.int 4)) (bK (mC (.int 7)) gH)))) (mInt1 (aM 1))) cD))))))
  (cH (mIf (fO (mLt (aM 2) (mC (.int 3))))
  (eX (cM (qP (bK (u5 (cC (b7 2 bC (qG 0 (bA (mC (.int 7)) cD)))) (mC (.int 3))) (bK (mC (.int 1)) gH)))))
  mNx)
  pC))
noncomputable def fC : Fm := mFn 2 pG
noncomputable def mK : MS :=
 (cH (dX 3 (cM (u5 (mH (mH (mIx (aM 1) (mC (.int 0))) (mIx (aM 2) (mC (.int 1)))) (mIx (aM 0) (mC (.int 1)))) (mH (mH (mIx (aM 2) (mC (.int 0))) (mIx (aM 0) (mC (.int 0)))) (mIx (aM 1) (mC (.int 1)))))))
  (eX (cM (qP (bK (cC (b7 2 bO (bA (aM 3) (bA (mH (mH (mIx (aM 1) (mC (.int 1))) (mIx (aM 2) (mC (.int 1)))) (mIx (aM 0) (mC (.int 1)))) cD)))) (bK (aM 2) gH))))))
noncomputable def fU : Fm := mFn 1 mK
noncomputable def uT : MS :=
 (cH (mAsg (aM 0) (gT 2 (fV (gN 2) (fV (gN 3) z9))))
  (cH (dX 4 (cM (mH (mH (mIx (aM 2) (mC (.int 0))) (mIx (aM 3) (mC (.int 1)))) (mIx (aM 1) (mC (.int 1))))))
  (cH (dX 4 (cM (mAdd (aM 4) (mH (mH (mIx (aM 3) (mC (.int 0))) (mIx (aM 1) (mC (.int 0)))) (mIx (aM 2) (mC (.int 1)))))))
  (eX (b7 2 bO (bA (aM 4) (bA (mH (mH (mIx (aM 2) (mC (.int 1))) (mIx (aM 3) (mC (.int 1)))) (mIx (aM 1) (mC (.int 1)))) cD)))))))
noncomputable def fQ : Fm := mFn 3 uT
noncomputable def qQ : MS :=
 (eX (yL 3))
noncomputable def g8 : MS :=
 (rP 3 (aM 5))
noncomputable def lJ : MS :=
 (dX 5 (cM (mIx (cC (mLst (bK (aM 7) (bK (qP (bK (mIx (aM 5) (mC (.int 0))) (bK (mIx (aM 7) (mC (.int 1))) gH))) (bK (aM 9) (bK (aM 9) gH)))))) (aM 6))))
noncomputable def qT : MS :=
 (cH (dX 5 (cM (qP (bK (cC (b7 2 fC (qG 0 (bA (aM 2) cD)))) (bK (cC (b7 2 fC (qG 0 (bA (aM 2) cD)))) gH)))))
  (cH (dX 6 (cM (cC (b7 2 bC (qG 0 (bA (mC (.int 8)) cD))))))
  (cH (mIf (mAnd (fO (mGt (aM 4) (mC (.int 0)))) (fO (mLt (aM 6) (mC (.int 4)))))
  (cH (dX 7 (cM (mPeek (mIx (aM 3) (cC (b7 2 bC (qG 0 (bA (aM 4) cD))))))))
  (cH (dX 8 (cM (qP (bK (u5 (cC (b7 2 bC (qG 0 (bA (mC (.int 7)) cD)))) (mC (.int 3))) (bK (mC (.int 1)) gH)))))
  (cH (dX 9 (cM (qP (bK (mIx (aM 7) (mC (.int 0))) (bK (qP (bK (u5 (cC (b7 2 bC (qG 0 (bA (mC (.int 7)) cD)))) (mC (.int 3))) (bK (mC (.int 1)) gH))) gH)))))
  (cH (mIf (mNot (fO (aM 2)))
  (dX 9 (cM (cC (b7 3 fU (bA (aM 8) (bA (cC (b7 2 fQ (bA (aM 7) (bA (aM 8) cD)))) (bA (mIx (aM 5) (mC (.int 1))) cD)))))))
  mNx)
  lJ))))
  mNx)
  g8)))
noncomputable def rB : MS :=
 (cH (dX 2 (cM (mEq (cC (b7 2 bC (qG 0 (bA (mC (.int 3)) cD)))) (mC (.int 2)))))
  (cH (dX 3 (mLst gH))
  (cH (mFor (yH (bK (cC (b7 2 bC (qG 0 (bA (mAdd (aM 1) (mC (.int 1))) cD)))) gH)) (gN 4)
  qT)
  qQ)))
noncomputable def jO : Fm := mFn 8 rB
noncomputable def uF : MS :=
 (eX (cM (mLt (mH (mIx (aM 0) (mC (.int 0))) (mIx (aM 1) (mC (.int 1)))) (mH (mIx (aM 1) (mC (.int 0))) (mIx (aM 0) (mC (.int 1)))))))
noncomputable def eF : Fm := mFn 0 uF
noncomputable def qU : MS :=
 (eX (cM (mLt (aM 1) (aM 2))))
noncomputable def qW : MS :=
 (cH (mIf (fO (mNe (mIx (mIx (aM 0) (aM 1)) (mC (.int 1))) (mIx (mIx (aM 0) (aM 2)) (mC (.int 1)))))
  (eX (b7 2 eF (bA (mIx (mIx (aM 0) (aM 2)) (mC (.int 1))) (bA (mIx (mIx (aM 0) (aM 1)) (mC (.int 1))) cD))))
  mNx)
  qU)
noncomputable def rR : MS :=
 (cH (dX 4 (cM (cC (b7 2 fQ (bA (mIx (aM 0) (aM 1)) (bA (aM 3) cD))))))
  (cH (dX 5 (cM (cC (b7 2 fQ (bA (mIx (aM 0) (aM 2)) (bA (aM 3) cD))))))
  (cH (mIf (fO (mNe (aM 4) (aM 5)))
  (eX (b7 2 eF (bA (aM 5) (bA (aM 4) cD))))
  mNx)
  qW)))
noncomputable def nR : Fm := mFn 2 rR
noncomputable def qN : MS :=
 (eX (cM (aM 2)))
noncomputable def qL : MS :=
 (cH (dX 4 (cM (cC (pD 1 [0, 3, 1] (zB (aM 2)) (gN 0) (fO (cC (b7 4 nR (bA (aM 1) (bA (aM 2) (bA (aM 0) (bA (aM 3) cD))))))) (aM 0)))))
  (dX 2 (cM (cC (mCat (cC (mCat (cC (pD 1 [4] (zB (aM 2)) (gN 0) (fO (mIn true (aM 0) (aM 1))) (aM 0))) (cC (mLst (bK (aM 3) gH))))) (aM 4))))))
noncomputable def rY : MS :=
 (cH (dX 2 (cM (cC (mLst gH))))
  (cH (mFor (yH (bK (mLen (aM 0)) gH)) (gN 3)
  qL)
  qN))
noncomputable def wY : Fm := mFn 4 rY
noncomputable def oZ : MS :=
 (eX (b7 2 bO (bA (aM 5) (bA (aM 6) cD))))
noncomputable def v7 : MS :=
 (cH (dX 5 (cM (mH (mH (u5 (mH (mIx (mIx (aM 4) (mC (.int 0))) (mC (.int 0))) (mIx (mIx (aM 3) (mC (.int 0))) (mC (.int 1)))) (mH (mIx (mIx (aM 3) (mC (.int 0))) (mC (.int 0))) (mIx (mIx (aM 4) (mC (.int 0))) (mC (.int 1))))) (mIx (mIx (aM 3) (mC (.int 1))) (mC (.int 1)))) (mIx (mIx (aM 4) (mC (.int 1))) (mC (.int 1))))))
  (cH (dX 6 (cM (mH (mH (u5 (mH (mIx (mIx (aM 3) (mC (.int 1))) (mC (.int 0))) (mIx (mIx (aM 4) (mC (.int 1))) (mC (.int 1)))) (mH (mIx (mIx (aM 4) (mC (.int 1))) (mC (.int 0))) (mIx (mIx (aM 3) (mC (.int 1))) (mC (.int 1))))) (mIx (mIx (aM 3) (mC (.int 0))) (mC (.int 1)))) (mIx (mIx (aM 4) (mC (.int 0))) (mC (.int 1))))))
  (cH (mIf (fO (mLt (aM 6) (mC (.int 0))))
  (mPar 5 6 (bK (u5 (mC (.int 0)) (aM 5)) (bK (u5 (mC (.int 0)) (aM 6)) gH)))
  mNx)
  oZ)))
noncomputable def yG : MS :=
 (cH (mPar 3 4 (bK (mIx (aM 0) (aM 1)) (bK (mIx (aM 0) (aM 2)) gH)))
  (cH (mIf (fO (mEq (mIx (aM 3) (mC (.int 1))) (mIx (aM 4) (mC (.int 1)))))
  (eX (cM (mC .none)))
  mNx)
  v7))
noncomputable def j5 : Fm := mFn 4 yG
noncomputable def kO : MS :=
 (eX (yL 1))
noncomputable def kE : MS :=
 (cH (dX 4 (cM (cC (b7 3 j5 (bA (aM 0) (bA (aM 2) (bA (aM 3) cD)))))))
  (mIf (xZ (mAnd (fO (mNotN (aM 4))) (fO (mIn true (aM 4) (aM 1)))))
  (cH (dX 5 (cM (mPeek (mLen (cC (pD 1 [4] (zB (aM 1)) (gN 0) (fO (cC (b7 2 eF (bA (aM 0) (bA (aM 1) cD))))) (aM 0)))))))
  (rJ 1 (aM 5) (aM 4)))
  mNx))
noncomputable def lB : MS :=
 (mFor (yH (bK (aM 2) gH)) (gN 3)
  kE)
noncomputable def jR : MS :=
 (cH (dX 1 (mLst gH))
  (cH (mFor (yH (bK (mLen (aM 0)) gH)) (gN 2)
  lB)
  kO))
noncomputable def oV : Fm := mFn 6 jR
noncomputable def sJ : MS :=
 (eX (b7 2 bO (bA (u5 (cC (b7 2 bC (qG 0 (bA (mC (.int 41)) cD)))) (mC (.int 20))) (bA (mAdd (mC (.int 1)) (cC (b7 2 bC (qG 0 (bA (mC (.int 6)) cD))))) cD))))
noncomputable def nC : MS :=
 (cH (mIf (fO (mEq (aM 2) (mC (.int 7))))
  (eX (cM (qP (bK (mH (mH (cC (b7 2 bC (qG 0 (bA (mC (.int 1000000000)) cD)))) (mIx (cC (mLst (bK (mC (.int 1)) (bK (mNeg (mC (.int 1))) gH)))) (cC (b7 2 bC (qG 0 (bA (mC (.int 2)) cD)))))) (mC (.int 1000000))) (bK (mC (.int 1)) gH)))))
  mNx)
  sJ)
noncomputable def uA : MS :=
 (cH (dX 2 (cM (cC (b7 2 bC (qG 0 (bA (mC (.int 8)) cD))))))
  (cH (mIf (mAnd (fO (mLt (aM 2) (mC (.int 4)))) (fO (mGt (mLen (aM 1)) (mC (.int 1)))))
  (cH (dX 3 (cM (cC (b7 2 bC (qG 0 (bA (mLen (aM 1)) cD))))))
  (cH (dX 4 (cM (cC (b7 2 bC (qG 0 (bA (mLen (aM 1)) cD))))))
  (cH (dX 5 (cM (cC (b7 3 j5 (bA (aM 1) (bA (aM 3) (bA (aM 4) cD)))))))
  (mIf (fO (mNotN (aM 5)))
  (eX (cM (aM 5)))
  mNx))))
  mNx)
  nC))
noncomputable def jJ : Fm := mFn 4 uA
noncomputable def sE : MS :=
 (eX (cM (qP (bK (u5 (mC (.int 0)) (mIx (aM 0) (mC (.int 0)))) (bK (mIx (aM 0) (mC (.int 1))) gH)))))
noncomputable def iM : Fm := mFn 0 sE
noncomputable def iQ : MS :=
 (cH (dX 12 (cM (cC (b7 2 jU (bA (aM 0) (bA (aM 2) cD))))))
  (eX (cM (mOrV (mIsN (aM 12)) (mEq (mIx (cC (b7 2 jU (bA (aM 1) (bA (aM 2) cD)))) (mC (.int 2))) (mIx (aM 12) (mC (.int 2))))))))
noncomputable def mG : MS :=
 (mIf (fO (mEq (cC (b7 4 cX (bA (aM 1) (bA (u5 (aM 3) (aM 7)) (bA (u5 (aM 3) (aM 8)) (bA (aM 2) cD)))))) (cC (b7 4 cX (bA (aM 0) (bA (aM 7) (bA (aM 8) (bA (aM 2) cD))))))))
  (eX (cM (mC (.bool false))))
  mNx)
noncomputable def m7 : MS :=
 (mFor (yH (bK (aM 7) gH)) (gN 8)
  mG)
noncomputable def mD : MS :=
 (cH (mFor (yH (bK (mLen (aM 0)) gH)) (gN 7)
  m7)
  iQ)
noncomputable def iJ : MS :=
 (cH (dX 10 (cM (cC (b7 3 rG (bA (aM 0) (bA (aM 2) (bA (aM 6) cD)))))))
  (cH (dX 11 (cM (cC (b7 3 rG (bA (aM 1) (bA (aM 2) (bA (cC (b7 2 f9 (bA (aM 1) (bA (aM 2) cD)))) cD)))))))
  (cH (mIf (mOr (fO (mIsN (aM 10))) (mOr (fO (mIsN (aM 11))) (fO (mNe (mIx (aM 10) (mC (.int 1))) (mIx (aM 11) (mC (.int 1)))))))
  (eX (cM (mC (.bool false))))
  mNx)
  mD)))
noncomputable def lY : MS :=
 (mIf (mNot (fO (cC (b7 3 fP (bA (aM 1) (bA (aM 2) (bA (qP (bK (u5 (aM 3) (aM 8)) (bK (u5 (aM 3) (aM 7)) (bK (aM 9) gH)))) cD)))))))
  (eX (cM (mC (.bool false))))
  mNx)
noncomputable def m9 : MS :=
 (cH (mFor (zB (aM 6)) (gT 3 (fV (gN 7) (fV (gN 8) (fV (gN 9) z9))))
  lY)
  iJ)
noncomputable def lV : MS :=
 (cH (dX 6 (cM (cC (b7 2 f9 (bA (aM 0) (bA (aM 2) cD))))))
  (cH (mIf (fO (mNe (cC (b7 2 f9 (bA (aM 1) (bA (aM 2) cD)))) (cC (pD 3 [3] (zB (cC (mStep (aM 6) (mNeg (mC (.int 1)))))) (gT 3 (fV (gN 0) (fV (gN 1) (fV (gN 2) z9)))) jQ (qP (bK (u5 (aM 3) (aM 1)) (bK (u5 (aM 3) (aM 0)) (bK (aM 2) gH))))))))
  (eX (cM (mC (.bool false))))
  mNx)
  m9))
noncomputable def lL : MS :=
 (cH (dX 3 (cM (u5 (mLen (aM 0)) (mC (.int 1)))))
  (cH (dX 4 (cM (cC (b7 2 cB (bA (aM 0) (bA (aM 2) cD))))))
  (cH (mIf (fO (mNe (cC (b7 2 cB (bA (aM 1) (bA (aM 2) cD)))) (cC (pD 1 [3] (zB (cC (mStep (aM 4) (mNeg (mC (.int 1)))))) (gN 0) jQ (u5 (aM 1) (aM 0))))))
  (eX (cM (mC (.bool false))))
  mNx)
  lV)))
noncomputable def fZ : Fm := mFn 10 lL
noncomputable def b_law_r1 : MS :=
 (mPubS 14 (eX (cM (mEq (cC (b7 3 lN (bA (aM 4) (bA (aM 7) (bA (aM 8) cD))))) (aM 14)))))
noncomputable def b_law_l1 : MS :=
 (rP 14 (qP (bK (aM 9) (bK (cC (mSortN (cC (pD 2 [3] (zB (aM 15)) (gT 2 (fV (gN 0) (fV (gN 1) z9))) jQ (qP (bK (u5 (aM 2) (aM 1)) (bK (u5 (aM 2) (aM 0)) gH))))))) gH))))
noncomputable def b_law_r2 : MS :=
 (cH (dX 14 (mLst gH))
  (cH (mFor (zB (cC (b7 3 lN (bA (aM 2) (bA (aM 7) (bA (aM 8) cD)))))) (gT 2 (fV (gN 9) (fV (gN 15) z9)))
  b_law_l1)
  b_law_r1))
noncomputable def b_law_l2 : MS :=
 (cH (dX 11 (cM (cC (b7 2 bC (qG 1 (bA (mLen (aM 2)) cD))))))
  (mIf (fO (mNe (cC (b7 2 jK (bA (aM 4) (bA (u5 (aM 3) (aM 11)) cD)))) (cC (pD 2 [3] (zB (cC (b7 2 jK (bA (aM 2) (bA (aM 11) cD))))) (gT 2 (fV (gN 0) (fV (gN 1) z9))) jQ (qP (bK (u5 (aM 2) (aM 0)) (bK (aM 1) gH)))))))
  (eX (cM (mC (.bool false))))
  mNx))
noncomputable def b_law_r3 : MS :=
 (cH (mFor (yH (bK (mH (mC (.int 2)) (mInt1 (mGe (aM 3) (mC (.int 0))))) gH)) (gN 10)
  b_law_l2)
  b_law_r2)
noncomputable def b_law_l3 : MS :=
 (mIf (mNot (fO (cC (b7 3 fZ (bA (aM 2) (bA (aM 4) (bA (aM 9) cD)))))))
  (eX (cM (mC (.bool false))))
  mNx)
noncomputable def b_law_r4 : MS :=
 (cH (mFor (mItT (qP (bK (aM 7) (bK (aM 8) gH)))) (gN 9)
  b_law_l3)
  b_law_r3)
noncomputable def b_law : MS :=
 (cH (dX 2 (cM (cC (b7 2 jO (qG 1 (bA (mC (.int 6)) cD))))))
  (cH (dX 3 (cM (u5 (mLen (aM 2)) (mC (.int 1)))))
  (cH (dX 4 (cM (cC (pD 2 [] (zB (cC (mStep (aM 2) (mNeg (mC (.int 1)))))) (gT 2 (fV (gN 0) (fV (gN 1) z9))) jQ (qP (bK (cC (b7 1 iM (bA (aM 0) cD))) (bK (cC (b7 1 iM (bA (aM 1) cD))) gH)))))))
  (cH (dX 7 (cM (cC (b7 2 jJ (qG 1 (bA (aM 2) cD))))))
  (cH (dX 8 (cM (cC (b7 2 jJ (qG 1 (bA (aM 2) cD))))))
  (cH (mIf (fO (cC (b7 2 eF (bA (aM 8) (bA (aM 7) cD)))))
  (mPar 7 8 (bK (aM 8) (bK (aM 7) gH)))
  mNx)
  b_law_r4))))))
abbrev lQ : Stmt := top 40
theorem sc_law_take : FnScope ["_law_pen", "_law_many", "_law_cell", "_law_digit"] ["_law_pen", "_law_many"] (aR lQ) := ⟨rfl, rfl, rfl, by decide +kernel, rfl, by decide +kernel, by decide +kernel⟩
theorem ok_law_take {P : Program} {w : World} {K : PySem.W.Frag} {mg : Str → Option Value} {base : Heap} {f : Addr} {fd : FuncData} (F : Fun K "_law_take" "_law_take" lQ f fd) (B : Bl K mg) :
  FnOk P w K mg base CX0 1 f fd ["_law_pen", "_law_many"] (spTake2 K) := by
 refine F.ok sc_law_take (fun vs H Q E h => ?_) (fun cdv A outer s H vs Q E hr h => ?_)
 ·obtain ⟨pen, a, ns, m, rfl, ⟨z, k, hz, hk, hp, hS⟩, hm, hm2, q⟩ := h
  rfl
 have hu := hr.units
 obtain ⟨pen, a, ns, m, rfl, ⟨z, k, hz, hk, hp, hS⟩, hm, hm2, q⟩ := h
 refine ⟨_, (aG (dH (bL op_eq (aV ix_list (pv 0) aD (fun _ _ => rfl)) aD (bV _)) (aG (ps_asg (bI lX (aV ix_list (pv 0) aD (fun _ _ => rfl)) aD) (pg_sub (pv 0) aD set_list))
   (aG (bB (i := 2) sc_law_take.nd rfl (Or.inl rfl) aD)
   (aG (dH (bL op_gt (cA bN rfl B.len_ boot_len (aA (aV ix_list (pv 0) aD (fun _ _ => rfl)) aF)) aD (bV _)) (aN (bB (i := 2) sc_law_take.nd rfl (Or.inl rfl) (aV ix_list (aV ix_list (pv 0) aD (fun _ _ => rfl)) (bI sW (aV ix_list (pv 0) aD (fun _ _ => rfl)) (cA bN rfl B.len_ boot_len (aA (aV ix_list (pv 0) aD (fun _ _ => rfl)) aF))) (fun _ _ => rfl)))) bW)
   (aN (dH (PW.pt (qK (bL uV (aV ix_list (pv 0) aD (fun _ _ => rfl)) (cA bN rfl B.len_ boot_len (aA (aV ix_list (pv 0) aD (fun _ _ => rfl)) aF)) (bV _)) (lF (bL op_ge (cA sI rfl B.abs_ boot_abs (aA (pv 2) aF)) (uE (v := 1000000000000000000) (by decide) ⟨by decide, by decide, by decide⟩) (bV _))))) (aN (ps_asg (cA sI rfl B.abs_ boot_abs (aA (pv 2) aF)) (pg_sub (pv 0) aD set_list))) (aG (bB (i := 2) sc_law_take.nd rfl (Or.inl rfl) (bI sW (bI op_mul (bI lX (bI lX (bI sW (pv 2) aD) (bI op_mul aD (aV ix_list (pv 0) aD (fun _ _ => rfl)))) aD) aD) aD))
   (aN (bG (bI sW (bI op_fdiv (bI sW (bI op_mul (pv 2) (bI lX (bI lX (bI sW (pv 2) aD) (aV ix_list (pv 0) aD (fun _ _ => rfl))) aD)) aD) aD) (pv 1)))))))))) bW)
   (aG (bB (i := 3) sc_law_take.nd rfl (Or.inl rfl) (bI sW (aV ix_list (pv 0) aD (fun _ _ => rfl)) (pv 1)))
   (aG (ps_asg (bI op_fdiv (aV ix_list (pv 0) aD (fun _ _ => rfl)) (pv 1)) (pg_sub (pv 0) aD set_list))
   (aN (bG (pv 3)))))), ?_⟩
 have hl : (ns.map V.int).length = ns.length := List.length_map _
 have hS3 : ∀ o, SqL K (upd H pen o) a (ns.map V.int) := fun o => penS2 hp hS (gW o)
 have fin : ∀ (z k : Int) (H2 : Hp), 0 ≤ z → 0 ≤ k → H2 pen = some (.lst [.int z, .int k, .ref a]) → SqL K H2 a (ns.map V.int) → SameX pen H H2 → Q (.int (z % m)) (upd H2 pen (.lst [.int (z / m), .int k, .ref a])) := fun z k H2 hz hk hp2 hS2 hX =>
  q _ _ (Int.emod_nonneg _ (by omega)) (Int.emod_lt_of_pos _ hm) ⟨z / m, k, Int.ediv_nonneg hz (by omega), hk, bM, penS2 hp2 hS2 (gW _)⟩ (hX.trans (gW _))
 walk_at "!,čĶ,"
 refine gO (fun e => ?_) (fun e => ?_)
 ·have e0 : z = 0 := eq_of_int e
  subst e0
  have hS4 := hS3 (.lst [.int 0, .int (k + 1), .ref a])
  walk_at "!,č+,ģBĎ+,"
  refine gO (fun e1 => ?a) (fun e1 => ?b)
  case' a =>
   have e1' : 0 < (ns.length : Int) := by
    rw [hl] at e1
    exact e1
   have h1 := Int.emod_nonneg (k + 1) (b := (ns.length : Int)) (by omega)
   have h2 := Int.emod_lt_of_pos (k + 1) e1'
   obtain ⟨j, hj⟩ : ∃ j : Nat, (k + 1) % (ns.length : Int) = (j : Int) := ⟨((k + 1) % (ns.length : Int)).toNat, by omega⟩
   have hi : j < ns.length := by omega
   have hv : atI (ns.map V.int) ((k + 1) % ((ns.map V.int).length : Int)) = some (.int ns[j]) := by
    rw [hl, hj]
    refine atI_nat ?_
    rw [List.getElem?_map, List.getElem?_eq_getElem hi]
    rfl
   have hpos : 0 < ((ns.map V.int).length : Int) := by rw [hl]; exact e1'
   walk_at "!BBBĎ+y"
   refine ⟨_, _, _, _, rfl, rfl, hS4, hv, ?_⟩
  case' b =>
   have e2 : ¬ k + 1 < ((ns.map V.int).length : Int) := fun c => e1 (by omega)
   walk_at "!BBĎ+,"
   refine iteD0 e2 ?_
   walk_at "!,NB+Ĕ+++ĕN,,NB+++ĖN+ė,+y"
   exact q _ _ (Int.emod_nonneg _ (by omega)) (Int.emod_lt_of_pos _ hm) ⟨0, k + 1, by omega, by omega, bM, hS4⟩ (gW _)
  case' a =>
   walk_at "!BBĎ+,"
   refine gO (fun e2 => ?_) (fun e2 => ?_)
   ·walk_at "!,,+,"
    refine gO (fun e3 => ?_) (fun e3 => ?_)
    ·have hcd : ∀ z, CDiv z m := fun z => ⟨hm, hm2⟩
     walk_at "!,,,ĤB,+yB,+"
     refine And.intro (hcd _) ?_
     walk_at "!,Ĥ,"
     exact fin _ (k + 1) _ (abs_nn _) (by omega) bM (penS2 bM hS4 (gW _)) ((gW _).trans (gW _))
    ·walk_at "!,NB+Ĕ+++ĕN,,NB+++ĖN+ė,+y"
     exact q _ _ (Int.emod_nonneg _ (by omega)) (Int.emod_lt_of_pos _ hm) ⟨0, k + 1, by omega, by omega, bM, hS4⟩ (gW _)
   ·walk_at "!,NB+Ĕ+++ĕN,,NB+++ĖN+ė,+y"
    exact q _ _ (Int.emod_nonneg _ (by omega)) (Int.emod_lt_of_pos _ hm) ⟨0, k + 1, by omega, by omega, bM, hS4⟩ (gW _)
 ·have hcd : CDiv z m := ⟨hm, hm2⟩
  walk_at "!,č,+y,č,+y,ģ,"
  exact fin z k H hz hk hp hS (SameX.refl _ _)
theorem ok2_law_take {a : Addr} {ns : List Int} {P : Program} {w : World} {K : PySem.W.Frag} {mg : Str → Option Value} {base : Heap} {f : Addr} {fd : FuncData} (F : Fun K "_law_take" "_law_take" lQ f fd) (B : Bl K mg) :
  FnOk P w K mg base CX0 1 f fd ["_law_pen", "_law_many"] (spM (b8 K a ns) 2 bC) := (ok_law_take F B).imp take_of2
abbrev pO : Stmt := top 4
theorem sc_is_whole : FnScope ["thing"] ["thing"] (aR pO) := ⟨rfl, rfl, rfl, by decide +kernel, rfl, by decide +kernel, by decide +kernel⟩
theorem ok_is_whole {P0 : Addr → Hp → Prop} {P : Program} {w : World} {K : PySem.W.Frag} {mg : Str → Option Value} {base : Heap} {f : Addr} {fd : FuncData} (F : Fun K "is_whole" "is_whole" pO f fd) (B : Bl K mg) (Kt : Kit K) :
  FnOk P w K mg base CX0 1 f fd ["thing"] (spM P0 1 eE) :=
 F.okV sc_is_whole rfl rfl fun cdv A outer s H E hr =>
 have hu := hr.units
 ⟨_, (aN (bG (pe_and (cA call_isi rfl B.isinstance_ boot_isinstance (aA (pv 0) (aA (pe_bltn (v := .ty "int") rfl B.int_ boot_int rfl) aF))) (pe_one (pe_not (cA call_isi rfl B.isinstance_ boot_isinstance (aA (pv 0) (aA (pe_bltn (v := .ty "bool") rfl B.bool_ boot_bool rfl) aF)))))))),
  ((bH (aW (vt_and (vt_isi Kt (by decide) aB) (vt_not (vt_isi Kt (by decide) aB))))) : VS P0 _ uU)⟩
abbrev eV : Stmt := top 5
theorem sc_greatest_divisor : FnScope ["one", "other", "divisor", "rest", "left_over"] ["one", "other"] (aR eV) := ⟨rfl, rfl, rfl, by decide +kernel, rfl, by decide +kernel, by decide +kernel⟩
theorem rF {P0 : Addr → Hp → Prop} {P : Program} {w : World} {K : PySem.W.Frag} {mg : Str → Option Value} {base : Heap} {f : Addr} {fd : FuncData} (F : Fun K "greatest_divisor" "greatest_divisor" eV f fd) (B : Bl K mg) (Kt : Kit K) :
  FnOk P w K mg base CX0 1 f fd ["one", "other"] (spM P0 2 cR) :=
 F.okV sc_greatest_divisor rfl rfl fun cdv A outer s H E hr =>
 have hu := hr.units
 ⟨_, (aG (bB (i := 2) sc_greatest_divisor.nd rfl (by first | exact Or.inl rfl | exact Or.inr rfl) (cA sI rfl B.abs_ boot_abs (aA (pv 0) aF)))
   (aG (bB (i := 3) sc_greatest_divisor.nd rfl (by first | exact Or.inl rfl | exact Or.inr rfl) (cA sI rfl B.abs_ boot_abs (aA (pv 1) aF)))
   (aG (wA PassesOwn.never (bL (qI hu) (pv 3) aD (bV _)) (aG (bB (i := 4) sc_greatest_divisor.nd rfl (by first | exact Or.inl rfl | exact Or.inr rfl) (bI sW (pv 2) (pv 3)))
   (aG (bB (i := 2) sc_greatest_divisor.nd rfl (by first | exact Or.inl rfl | exact Or.inr rfl) (pv 3))
   (aN (bB (i := 3) sc_greatest_divisor.nd rfl (by first | exact Or.inl rfl | exact Or.inr rfl) (pv 4))))))
   (aN (bG (pv 2)))))),
  ((aU (bF (aW (vt_abs aB)))
   (aU (bF (aW (vt_abs aB)))
   (aU (wB (bT (vt_ne aB aJ)) (aU (bF (aW (vt_mod aB aB)))
   (aU (bF (aW aB))
   (bF (aW aB)))))
   (bH (aW aB))))) : VS P0 _ gJ)⟩
abbrev nY : Stmt := top 6
theorem sc_number_of : FnScope ["top", "bottom", "divisor"] ["top", "bottom"] (aR nY) := ⟨rfl, rfl, rfl, by decide +kernel, rfl, by decide +kernel, by decide +kernel⟩
theorem ok_number_of {P0 : Addr → Hp → Prop} {P : Program} {w : World} {K : PySem.W.Frag} {mg : Str → Option Value} {base : Heap} {f : Addr} {fd : FuncData} (F : Fun K "number_of" "number_of" nY f fd) (B : Bl K mg) (Kt : Kit K)
  (c_greatest_divisor : Cal P w K mg base 1 "greatest_divisor" ["one", "other"] (spM P0 2 cR))
  (c_is_whole : Cal P w K mg base 1 "is_whole" ["thing"] (spM P0 1 eE)) :
  FnOk P w K mg base CX0 2 f fd ["top", "bottom"] (spM P0 2 cF) :=
 F.okV sc_number_of rfl rfl fun cdv A outer s H E hr =>
 have hu := hr.units
 ⟨_, (aG (dH (PW.pt (pw_or (oG (fG (aH c_is_whole hr rfl (aA (pv 0) aF)))) (pw_or (oG (fG (aH c_is_whole hr rfl (aA (pv 1) aF)))) (pw_or1 (bL (lZ hu) (pv 1) aD (bV _)))))) (aN ps_never) bW)
   (aG (bB (i := 2) sc_number_of.nd rfl (by first | exact Or.inl rfl | exact Or.inr rfl) (aH c_greatest_divisor hr rfl (aA (pv 0) (aA (pv 1) aF))))
   (aG (dH (bL uV (pv 1) aD (bV _)) (aN (bB (i := 2) sc_number_of.nd rfl (by first | exact Or.inl rfl | exact Or.inr rfl) (pe_un yP (pv 2)))) bW)
   (aN (bG (cW (aA (bI vX (pv 0) (pv 2)) (aA (bI vX (pv 1) (pv 2)) aF)))))))),
  ((aU (dZ (v9 (j8 (jP (aO (aK (aC aB aP))))) (v9 (j8 (jP (aO (aK (aC aB aP))))) (bT (uB aB aJ)))) vs_never dY)
   (aU (bF (aW (aO (aK (aC aB (aC aB aP))))))
   (aU (dZ (bT (yS aB aJ)) (bF (aW (yZ aB))) dY)
   (bH (aW (cZ (aQ (vt_divX aB aB) (aQ (vt_divX aB aB) bQ)))))))) : VS P0 _ rZ)⟩
abbrev wC : Stmt := top 7
theorem sc_sum_of : FnScope ["a", "b"] ["a", "b"] (aR wC) := ⟨rfl, rfl, rfl, by decide +kernel, rfl, by decide +kernel, by decide +kernel⟩
theorem ok_sum_of {P0 : Addr → Hp → Prop} {P : Program} {w : World} {K : PySem.W.Frag} {mg : Str → Option Value} {base : Heap} {f : Addr} {fd : FuncData} (F : Fun K "sum_of" "sum_of" wC f fd) (B : Bl K mg) (Kt : Kit K)
  (c_number_of : Cal P w K mg base 2 "number_of" ["top", "bottom"] (spM P0 2 cF)) :
  FnOk P w K mg base CX0 3 f fd ["a", "b"] (spM P0 2 q9) :=
 F.okV sc_sum_of rfl rfl fun cdv A outer s H E hr =>
 have hu := hr.units
 ⟨_, (aN (bG (aH c_number_of hr rfl (aA (bI lX (bI bZ (aV aL (pv 0) aD (fun _ _ => rfl)) (aV aL (pv 1) aD (fun _ _ => rfl))) (bI bZ (aV aL (pv 1) aD (fun _ _ => rfl)) (aV aL (pv 0) aD (fun _ _ => rfl)))) (aA (bI bZ (aV aL (pv 0) aD (fun _ _ => rfl)) (aV aL (pv 1) aD (fun _ _ => rfl))) aF))))),
  ((bH (aK (aC (v5 (cI (aX aB aJ) (aX aB aJ)) (cI (aX aB aJ) (aX aB aJ))) (aC (cI (aX aB aJ) (aX aB aJ)) aP)))) : VS P0 _ b_sum_of)⟩
abbrev gP : Stmt := top 8
theorem vL : FnScope ["a", "b"] ["a", "b"] (aR gP) := ⟨rfl, rfl, rfl, by decide +kernel, rfl, by decide +kernel, by decide +kernel⟩
theorem vG {P0 : Addr → Hp → Prop} {P : Program} {w : World} {K : PySem.W.Frag} {mg : Str → Option Value} {base : Heap} {f : Addr} {fd : FuncData} (F : Fun K "difference_of" "difference_of" gP f fd) (B : Bl K mg) (Kt : Kit K)
  (c_number_of : Cal P w K mg base 2 "number_of" ["top", "bottom"] (spM P0 2 cF)) :
  FnOk P w K mg base CX0 3 f fd ["a", "b"] (spM P0 2 bY) :=
 F.okV vL rfl rfl fun cdv A outer s H E hr =>
 have hu := hr.units
 ⟨_, (aN (bG (aH c_number_of hr rfl (aA (bI dU (bI bZ (aV aL (pv 0) aD (fun _ _ => rfl)) (aV aL (pv 1) aD (fun _ _ => rfl))) (bI bZ (aV aL (pv 1) aD (fun _ _ => rfl)) (aV aL (pv 0) aD (fun _ _ => rfl)))) (aA (bI bZ (aV aL (pv 0) aD (fun _ _ => rfl)) (aV aL (pv 1) aD (fun _ _ => rfl))) aF))))),
  ((bH (aK (aC (dO (cI (aX aB aJ) (aX aB aJ)) (cI (aX aB aJ) (aX aB aJ))) (aC (cI (aX aB aJ) (aX aB aJ)) aP)))) : VS P0 _ jW)⟩
abbrev kJ : Stmt := top 9
theorem sc_product_of : FnScope ["a", "b"] ["a", "b"] (aR kJ) := ⟨rfl, rfl, rfl, by decide +kernel, rfl, by decide +kernel, by decide +kernel⟩
theorem ok_product_of {P0 : Addr → Hp → Prop} {P : Program} {w : World} {K : PySem.W.Frag} {mg : Str → Option Value} {base : Heap} {f : Addr} {fd : FuncData} (F : Fun K "product_of" "product_of" kJ f fd) (B : Bl K mg) (Kt : Kit K)
  (c_number_of : Cal P w K mg base 2 "number_of" ["top", "bottom"] (spM P0 2 cF)) :
  FnOk P w K mg base CX0 3 f fd ["a", "b"] (spM P0 2 gF) :=
 F.okV sc_product_of rfl rfl fun cdv A outer s H E hr =>
 have hu := hr.units
 ⟨_, (aN (bG (aH c_number_of hr rfl (aA (bI bZ (aV aL (pv 0) aD (fun _ _ => rfl)) (aV aL (pv 1) aD (fun _ _ => rfl))) (aA (bI bZ (aV aL (pv 0) aD (fun _ _ => rfl)) (aV aL (pv 1) aD (fun _ _ => rfl))) aF))))),
  ((bH (aK (aC (cI (aX aB aJ) (aX aB aJ)) (aC (cI (aX aB aJ) (aX aB aJ)) aP)))) : VS P0 _ p8)⟩
abbrev jG : Stmt := top 10
theorem zV : FnScope ["a", "b"] ["a", "b"] (aR jG) := ⟨rfl, rfl, rfl, by decide +kernel, rfl, by decide +kernel, by decide +kernel⟩
theorem zH {P0 : Addr → Hp → Prop} {P : Program} {w : World} {K : PySem.W.Frag} {mg : Str → Option Value} {base : Heap} {f : Addr} {fd : FuncData} (F : Fun K "quotient_of" "quotient_of" jG f fd) (B : Bl K mg) (Kt : Kit K)
  (c_number_of : Cal P w K mg base 2 "number_of" ["top", "bottom"] (spM P0 2 cF)) :
  FnOk P w K mg base CX0 3 f fd ["a", "b"] (spM P0 2 fK) :=
 F.okV zV rfl rfl fun cdv A outer s H E hr =>
 have hu := hr.units
 ⟨_, (aN (bG (aH c_number_of hr rfl (aA (bI bZ (aV aL (pv 0) aD (fun _ _ => rfl)) (aV aL (pv 1) aD (fun _ _ => rfl))) (aA (bI bZ (aV aL (pv 0) aD (fun _ _ => rfl)) (aV aL (pv 1) aD (fun _ _ => rfl))) aF))))),
  ((bH (aK (aC (cI (aX aB aJ) (aX aB aJ)) (aC (cI (aX aB aJ) (aX aB aJ)) aP)))) : VS P0 _ mX)⟩
abbrev tQ : Stmt := top 11
theorem sc_is_less : FnScope ["a", "b"] ["a", "b"] (aR tQ) := ⟨rfl, rfl, rfl, by decide +kernel, rfl, by decide +kernel, by decide +kernel⟩
theorem ok_is_less {P0 : Addr → Hp → Prop} {P : Program} {w : World} {K : PySem.W.Frag} {mg : Str → Option Value} {base : Heap} {f : Addr} {fd : FuncData} (F : Fun K "is_less" "is_less" tQ f fd) (B : Bl K mg) (Kt : Kit K) :
  FnOk P w K mg base CX0 1 f fd ["a", "b"] (spM P0 2 bJ) :=
 F.okV sc_is_less rfl rfl fun cdv A outer s H E hr =>
 have hu := hr.units
 ⟨_, (aN (bG (j7 uV (bI bZ (aV aL (pv 0) aD (fun _ _ => rfl)) (aV aL (pv 1) aD (fun _ _ => rfl))) (bI bZ (aV aL (pv 1) aD (fun _ _ => rfl)) (aV aL (pv 0) aD (fun _ _ => rfl))) (bV _)))),
  ((bH (aW (yS (cI (aX aB aJ) (aX aB aJ)) (cI (aX aB aJ) (aX aB aJ))))) : VS P0 _ yW)⟩
abbrev vU : Stmt := top 12
theorem sc_rising : FnScope ["numbers", "told", "number", "at"] ["numbers"] (aR vU) := ⟨rfl, rfl, rfl, by decide +kernel, rfl, by decide +kernel, by decide +kernel⟩
theorem ok_rising {P0 : Addr → Hp → Prop} {P : Program} {w : World} {K : PySem.W.Frag} {mg : Str → Option Value} {base : Heap} {f : Addr} {fd : FuncData} (F : Fun K "rising" "rising" vU f fd) (B : Bl K mg) (Kt : Kit K)
  (c_is_less : Cal P w K mg base 1 "is_less" ["a", "b"] (spM P0 2 bJ)) :
  FnOk P w K mg base CX0 2 f fd ["numbers"] (spM P0 1 jE) :=
 F.okV sc_rising rfl rfl fun cdv A outer s H E hr =>
 have hu := hr.units
 ⟨_, (aG (bB (i := 1) sc_rising.nd rfl (by first | exact Or.inl rfl | exact Or.inr rfl) (iI aF))
   (aG (iW PassesOwn.never rfl (dN (pv 0)) (bR (i := 2) sc_rising.nd rfl (by first | exact Or.inl rfl | exact Or.inr rfl)) (aG (bB (i := 3) sc_rising.nd rfl (by first | exact Or.inl rfl | exact Or.inr rfl) (cA bN rfl B.len_ boot_len (aA (pv 1) aF)))
   (aG (wA PassesOwn.never (PW.pt (qK (bL op_gt (pv 3) aD (bV _)) (lF (fG (aH c_is_less hr rfl (aA (pv 2) (aA (aV aL (pv 1) (bI dU (pv 3) aD) (fun _ _ => rfl)) aF))))))) (aN (ps_aug (i := 3) sc_rising.nd rfl (by first | exact Or.inl rfl | exact Or.inr rfl) aD ip_sub)))
   (aN (rW (pe_bm PySem.F.plainAttrs_list PySem.F.slot_list_insert PySem.F.type_list_insert yJ (pv 1) (aA (pv 3) (aA (pv 2) aF))))))))
   (aN (bG (pv 1))))),
  ((aU (bF (jA bQ))
   (aU (j4 (dM aB) bU (aU (bF (aW (vt_peek (j6 aB))))
   (aU (wB (t8 (nO (bT (vt_gt aB aJ)) (jP (aO (aK (aC aB (aC (aX aB (dO aB aJ)) aP))))))) (vs_aug aJ))
   (xK aB aB))))
   (bH yR))) : VS P0 _ b_rising)⟩
abbrev qC : Stmt := top 14
theorem sc_place_at : FnScope ["line", "time"] ["line", "time"] (aR qC) := ⟨rfl, rfl, rfl, by decide +kernel, rfl, by decide +kernel, by decide +kernel⟩
theorem ok_place_at {P0 : Addr → Hp → Prop} {P : Program} {w : World} {K : PySem.W.Frag} {mg : Str → Option Value} {base : Heap} {f : Addr} {fd : FuncData} (F : Fun K "place_at" "place_at" qC f fd) (B : Bl K mg) (Kt : Kit K)
  (c_sum_of : Cal P w K mg base 3 "sum_of" ["a", "b"] (spM P0 2 q9))
  (c_product_of : Cal P w K mg base 3 "product_of" ["a", "b"] (spM P0 2 gF)) :
  FnOk P w K mg base CX0 4 f fd ["line", "time"] (spM P0 2 eG) :=
 F.okV sc_place_at rfl rfl fun cdv A outer s H E hr =>
 have hu := hr.units
 ⟨_, (aN (bG (aH c_sum_of hr rfl (aA (aV aL (pv 0) aD (fun _ _ => rfl)) (aA (aH c_product_of hr rfl (aA (aV aL (pv 0) aD (fun _ _ => rfl)) (aA (pv 1) aF))) aF))))),
  ((bH (aK (aC (aX aB aJ) (aC (aO (aK (aC (aX aB aJ) (aC aB aP)))) aP)))) : VS P0 _ uC)⟩
abbrev sU : Stmt := top 15
theorem sc_meeting : FnScope ["one", "other", "gap", "closing"] ["one", "other"] (aR sU) := ⟨rfl, rfl, rfl, by decide +kernel, rfl, by decide +kernel, by decide +kernel⟩
theorem ok_meeting {P0 : Addr → Hp → Prop} {P : Program} {w : World} {K : PySem.W.Frag} {mg : Str → Option Value} {base : Heap} {f : Addr} {fd : FuncData} (F : Fun K "meeting" "meeting" sU f fd) (B : Bl K mg) (Kt : Kit K)
  (c_quotient_of : Cal P w K mg base 3 "quotient_of" ["a", "b"] (spM P0 2 fK))
  (c_difference_of : Cal P w K mg base 3 "difference_of" ["a", "b"] (spM P0 2 bY)) :
  FnOk P w K mg base CX0 4 f fd ["one", "other"] (spM P0 2 gK) :=
 F.okV sc_meeting rfl rfl fun cdv A outer s H E hr =>
 have hu := hr.units
 ⟨_, (aG (dH (bL (lZ hu) (aV aL (pv 0) aD (fun _ _ => rfl)) (aV aL (pv 1) aD (fun _ _ => rfl)) (bV _)) (aN (bG (pe_ifExp (bL (lZ hu) (aV aL (pv 0) aD (fun _ _ => rfl)) (aV aL (pv 1) aD (fun _ _ => rfl)) (bV _)) (cW (aA pe_str aF)) (cW (aA pe_str aF))))) bW)
   (aG (bB (i := 2) sc_meeting.nd rfl (by first | exact Or.inl rfl | exact Or.inr rfl) (aH c_difference_of hr rfl (aA (aV aL (pv 1) aD (fun _ _ => rfl)) (aA (aV aL (pv 0) aD (fun _ _ => rfl)) aF))))
   (aG (bB (i := 3) sc_meeting.nd rfl (by first | exact Or.inl rfl | exact Or.inr rfl) (aH c_difference_of hr rfl (aA (aV aL (pv 0) aD (fun _ _ => rfl)) (aA (aV aL (pv 1) aD (fun _ _ => rfl)) aF))))
   (aN (bG (cW (aA pe_str (aA (aH c_quotient_of hr rfl (aA (pv 2) (aA (pv 3) aF))) aF)))))))),
  ((aU (dZ (bT (uB (aX aB aJ) (aX aB aJ))) (bH (vo_ifE (bT (uB (aX aB aJ) (aX aB aJ))) (aW (cZ (aQ vt_str bQ))) (aW (cZ (aQ vt_str bQ))))) dY)
   (aU (bF (aW (aO (aK (aC (aX aB aJ) (aC (aX aB aJ) aP))))))
   (aU (bF (aW (aO (aK (aC (aX aB aJ) (aC (aX aB aJ) aP))))))
   (bH (aW (cZ (aQ vt_str (aQ (aO (aK (aC aB (aC aB aP)))) bQ)))))))) : VS P0 _ wI)⟩
abbrev q8 : Stmt := top 17
theorem sc_standing : FnScope ["lines", "runner", "time"] ["lines", "runner", "time"] (aR q8) := ⟨rfl, rfl, rfl, by decide +kernel, rfl, by decide +kernel, by decide +kernel⟩
theorem ok_standing {P0 : Addr → Hp → Prop} {P : Program} {w : World} {K : PySem.W.Frag} {mg : Str → Option Value} {base : Heap} {f : Addr} {fd : FuncData} (F : Fun K "standing" "standing" q8 f fd) (B : Bl K mg) (Kt : Kit K)
  (c_place_at : Cal P w K mg base 4 "place_at" ["line", "time"] (spM P0 2 eG)) :
  FnOk P w K mg base CX0 5 f fd ["lines", "runner", "time"] (spM P0 3 eN) :=
 F.okV sc_standing rfl rfl fun cdv A outer s H E hr =>
 have hu := hr.units
 ⟨_, (aN (bG (cW (aA (aH c_place_at hr rfl (aA (aV aL (pv 0) (pv 1) (fun _ _ => rfl)) (aA (pv 2) aF))) (aA (aV aL (aV aL (pv 0) (pv 1) (fun _ _ => rfl)) aD (fun _ _ => rfl)) (aA (pv 1) aF)))))),
  ((bH (aW (cZ (aQ (aO (aK (aC (aX aB aB) (aC aB aP)))) (aQ (aX (aX aB aB) aJ) (aQ aB bQ)))))) : VS P0 _ uM)⟩
abbrev iR : Stmt := top 18
theorem wZ : FnScope ["one", "other"] ["one", "other"] (aR iR) := ⟨rfl, rfl, rfl, by decide +kernel, rfl, by decide +kernel, by decide +kernel⟩
theorem yQ {P0 : Addr → Hp → Prop} {P : Program} {w : World} {K : PySem.W.Frag} {mg : Str → Option Value} {base : Heap} {f : Addr} {fd : FuncData} (F : Fun K "stands_ahead" "stands_ahead" iR f fd) (B : Bl K mg) (Kt : Kit K)
  (c_is_less : Cal P w K mg base 1 "is_less" ["a", "b"] (spM P0 2 bJ)) :
  FnOk P w K mg base CX0 2 f fd ["one", "other"] (spM P0 2 cN) :=
 F.okV wZ rfl rfl fun cdv A outer s H E hr =>
 have hu := hr.units
 ⟨_, (aG (dH (bL (qI hu) (aV aL (pv 0) aD (fun _ _ => rfl)) (aV aL (pv 1) aD (fun _ _ => rfl)) (bV _)) (aN (bG (aH c_is_less hr rfl (aA (aV aL (pv 1) aD (fun _ _ => rfl)) (aA (aV aL (pv 0) aD (fun _ _ => rfl)) aF))))) bW)
   (aG (dH (bL (qI hu) (aV aL (pv 0) aD (fun _ _ => rfl)) (aV aL (pv 1) aD (fun _ _ => rfl)) (bV _)) (aN (bG (aH c_is_less hr rfl (aA (aV aL (pv 1) aD (fun _ _ => rfl)) (aA (aV aL (pv 0) aD (fun _ _ => rfl)) aF))))) bW)
   (aN (bG (j7 uV (aV aL (pv 0) aD (fun _ _ => rfl)) (aV aL (pv 1) aD (fun _ _ => rfl)) (bV _)))))),
  ((aU (dZ (bT (vt_ne (aX aB aJ) (aX aB aJ))) (bH (aK (aC (aX aB aJ) (aC (aX aB aJ) aP)))) dY)
   (aU (dZ (bT (vt_ne (aX aB aJ) (aX aB aJ))) (bH (aK (aC (aX aB aJ) (aC (aX aB aJ) aP)))) dY)
   (bH (aW (yS (aX aB aJ) (aX aB aJ)))))) : VS P0 _ lM)⟩
abbrev pL : Stmt := top 19
theorem sc_is_ahead : FnScope ["lines", "one", "other", "time"] ["lines", "one", "other", "time"] (aR pL) := ⟨rfl, rfl, rfl, by decide +kernel, rfl, by decide +kernel, by decide +kernel⟩
theorem ok_is_ahead {P0 : Addr → Hp → Prop} {P : Program} {w : World} {K : PySem.W.Frag} {mg : Str → Option Value} {base : Heap} {f : Addr} {fd : FuncData} (F : Fun K "is_ahead" "is_ahead" pL f fd) (B : Bl K mg) (Kt : Kit K)
  (c_stands_ahead : Cal P w K mg base 2 "stands_ahead" ["one", "other"] (spM P0 2 cN))
  (c_standing : Cal P w K mg base 5 "standing" ["lines", "runner", "time"] (spM P0 3 eN)) :
  FnOk P w K mg base CX0 6 f fd ["lines", "one", "other", "time"] (spM P0 4 cX) :=
 F.okV sc_is_ahead rfl rfl fun cdv A outer s H E hr =>
 have hu := hr.units
 ⟨_, (aN (bG (aH c_stands_ahead hr rfl (aA (aH c_standing hr rfl (aA (pv 0) (aA (pv 1) (aA (pv 3) aF)))) (aA (aH c_standing hr rfl (aA (pv 0) (aA (pv 2) (aA (pv 3) aF)))) aF))))),
  ((bH (aK (aC (aO (aK (aC aB (aC aB (aC aB aP))))) (aC (aO (aK (aC aB (aC aB (aC aB aP))))) aP)))) : VS P0 _ u9)⟩
abbrev jD : Stmt := top 20
theorem sc_next_change : FnScope ["lines", "one", "other", "time", "met"] ["lines", "one", "other", "time"] (aR jD) := ⟨rfl, rfl, rfl, by decide +kernel, rfl, by decide +kernel, by decide +kernel⟩
theorem zF {P0 : Addr → Hp → Prop} {P : Program} {w : World} {K : PySem.W.Frag} {mg : Str → Option Value} {base : Heap} {f : Addr} {fd : FuncData} (F : Fun K "next_change" "next_change" jD f fd) (B : Bl K mg) (Kt : Kit K)
  (c_is_less : Cal P w K mg base 1 "is_less" ["a", "b"] (spM P0 2 bJ))
  (c_meeting : Cal P w K mg base 4 "meeting" ["one", "other"] (spM P0 2 gK)) :
  FnOk P w K mg base CX0 5 f fd ["lines", "one", "other", "time"] (spM P0 4 cT) :=
 F.okV sc_next_change rfl rfl fun cdv A outer s H E hr =>
 have hu := hr.units
 ⟨_, (aG (bB (i := 4) sc_next_change.nd rfl (by first | exact Or.inl rfl | exact Or.inr rfl) (aH c_meeting hr rfl (aA (aV aL (pv 0) (pv 1) (fun _ _ => rfl)) (aA (aV aL (pv 0) (pv 2) (fun _ _ => rfl)) aF))))
   (aG (dH (PW.pt (qK (bL (lZ hu) (aV aL (pv 4) aD (fun _ _ => rfl)) pe_str (bV _)) (lF (fG (aH c_is_less hr rfl (aA (pv 3) (aA (aV aL (pv 4) aD (fun _ _ => rfl)) aF))))))) (aN (bG (aV aL (pv 4) aD (fun _ _ => rfl)))) bW)
   (aN (bG gD)))),
  ((aU (bF (aW (aO (aK (aC (aX aB aB) (aC (aX aB aB) aP))))))
   (aU (dZ (nO (bT (uB (aX aB aJ) vt_str)) (jP (aO (aK (aC aB (aC (aX aB aJ) aP)))))) (bH (aW (aX aB aJ))) dY)
   (bH (aW uW)))) : VS P0 _ mJ)⟩
abbrev nA : Stmt := top 16
theorem sc_is_runner : FnScope ["lines", "thing"] ["lines", "thing"] (aR nA) := ⟨rfl, rfl, rfl, by decide +kernel, rfl, by decide +kernel, by decide +kernel⟩
theorem ok_is_runner {P0 : Addr → Hp → Prop} {P : Program} {w : World} {K : PySem.W.Frag} {mg : Str → Option Value} {base : Heap} {f : Addr} {fd : FuncData} (F : Fun K "is_runner" "is_runner" nA f fd) (B : Bl K mg) (Kt : Kit K)
  (c_is_whole : Cal P w K mg base 1 "is_whole" ["thing"] (spM P0 1 eE)) :
  FnOk P w K mg base CX0 2 f fd ["lines", "thing"] (spM P0 2 gA) :=
 F.okV sc_is_runner rfl rfl fun cdv A outer s H E hr =>
 have hu := hr.units
 ⟨_, (aN (bG (pe_and (aH c_is_whole hr rfl (aA (pv 1) aF)) (pe_one (pe_chain op_le uV aD (pv 1) (cA bN rfl B.len_ boot_len (aA (pv 0) aF))))))),
  ((bH (aW (vt_and (aO (aK (aC aB aP))) (vt_chain aJ aB (j6 aB))))) : VS P0 _ rT)⟩
abbrev gM : Stmt := top 22
theorem sc_order_among : FnScope ["lines", "runners", "time", "order", "runner", "stand", "at"] ["lines", "runners", "time"] (aR gM) := ⟨rfl, rfl, rfl, by decide +kernel, rfl, by decide +kernel, by decide +kernel⟩
theorem ok_order_among {P0 : Addr → Hp → Prop} {P : Program} {w : World} {K : PySem.W.Frag} {mg : Str → Option Value} {base : Heap} {f : Addr} {fd : FuncData} (F : Fun K "order_among" "order_among" gM f fd) (B : Bl K mg) (Kt : Kit K)
  (c_stands_ahead : Cal P w K mg base 2 "stands_ahead" ["one", "other"] (spM P0 2 cN))
  (c_standing : Cal P w K mg base 5 "standing" ["lines", "runner", "time"] (spM P0 3 eN)) :
  FnOk P w K mg base CX0 6 f fd ["lines", "runners", "time"] (spM P0 3 fH) :=
 F.okV sc_order_among rfl rfl fun cdv A outer s H E hr =>
 have hu := hr.units
 ⟨_, (aG (bB (i := 3) sc_order_among.nd rfl (by first | exact Or.inl rfl | exact Or.inr rfl) (iI aF))
   (aG (iW PassesOwn.never rfl (dN (pv 1)) (bR (i := 4) sc_order_among.nd rfl (by first | exact Or.inl rfl | exact Or.inr rfl)) (aG (bB (i := 5) sc_order_among.nd rfl (by first | exact Or.inl rfl | exact Or.inr rfl) (aH c_standing hr rfl (aA (pv 0) (aA (pv 4) (aA (pv 2) aF)))))
   (aG (bB (i := 6) sc_order_among.nd rfl (by first | exact Or.inl rfl | exact Or.inr rfl) aD)
   (aG (wA PassesOwn.never (PW.pt (qK (bL uV (pv 6) (cA bN rfl B.len_ boot_len (aA (pv 3) aF)) (bV _)) (lF (fG (aH c_stands_ahead hr rfl (aA (aV aL (pv 3) (pv 6) (fun _ _ => rfl)) (aA (pv 5) aF))))))) (aN (ps_aug (i := 6) sc_order_among.nd rfl (by first | exact Or.inl rfl | exact Or.inr rfl) aD ip_add)))
   (aN (rW (pe_bm PySem.F.plainAttrs_list PySem.F.slot_list_insert PySem.F.type_list_insert yJ (pv 3) (aA (pv 6) (aA (pv 5) aF)))))))))
   (aN (bG (fL (N := ["stand"]) (nt := 1) (fv := []) rfl (jM (osc := aR gM) (ON := ["lines", "runners", "time", "order", "runner", "stand", "at"]) (by decide +kernel)) (dN (pv 3)) (fun _ _ _ _ => (bR (i := 0) (show (["stand"] : List Str).Nodup by decide +kernel) rfl (by first | exact Or.inl rfl | exact Or.inr rfl))) (fun _ _ _ _ => jV) (fun _ _ _ _ => (aV aL (pv 0) aD (fun _ _ => rfl)))))))),
  ((aU (bF (jA bQ))
   (aU (j4 (dM aB) bU (aU (bF (aW (aO (aK (aC aB (aC aB (aC aB aP)))))))
   (aU (bF (aW aJ))
   (aU (wB (t8 (nO (bT (yS aB (j6 aB))) (jP (aO (aK (aC (aX aB aB) (aC aB aP))))))) (vs_aug aJ))
   (xK aB aB)))))
   (vs_pub (bH (gB (dM aB) bU iD (aX aB aJ)))))) : VS P0 _ mR)⟩
abbrev pW : Stmt := top 23
theorem sc_order_at : FnScope ["lines", "time"] ["lines", "time"] (aR pW) := ⟨rfl, rfl, rfl, by decide +kernel, rfl, by decide +kernel, by decide +kernel⟩
theorem ok_order_at {P0 : Addr → Hp → Prop} {P : Program} {w : World} {K : PySem.W.Frag} {mg : Str → Option Value} {base : Heap} {f : Addr} {fd : FuncData} (F : Fun K "order_at" "order_at" pW f fd) (B : Bl K mg) (Kt : Kit K)
  (c_order_among : Cal P w K mg base 6 "order_among" ["lines", "runners", "time"] (spM P0 3 fH)) :
  FnOk P w K mg base CX0 7 f fd ["lines", "time"] (spM P0 2 cB) :=
 F.okV sc_order_at rfl rfl fun cdv A outer s H E hr =>
 have hu := hr.units
 ⟨_, (aN (bG (aH c_order_among hr rfl (aA (pv 0) (aA (pB (call_list_rng rfl) rfl B.list_ boot_list (aA (pB call_range1R rfl B.range_ boot_range (aA (cA bN rfl B.len_ boot_len (aA (pv 0) aF)) aF)) aF)) (aA (pv 1) aF)))))),
  ((bH (aK (aC aB (aC (aO (vo_listRng (j6 aB))) (aC aB aP))))) : VS P0 _ uD)⟩
abbrev kZ : Stmt := top 24
theorem sc_neighbours : FnScope ["order"] ["order"] (aR kZ) := ⟨rfl, rfl, rfl, by decide +kernel, rfl, by decide +kernel, by decide +kernel⟩
theorem ok_neighbours {P0 : Addr → Hp → Prop} {P : Program} {w : World} {K : PySem.W.Frag} {mg : Str → Option Value} {base : Heap} {f : Addr} {fd : FuncData} (F : Fun K "neighbours" "neighbours" kZ f fd) (B : Bl K mg) (Kt : Kit K) :
  FnOk P w K mg base CX0 1 f fd ["order"] (spM P0 1 cJ) :=
 F.okV sc_neighbours rfl rfl fun cdv A outer s H E hr =>
 have hu := hr.units
 ⟨_, (aN (bG (pe_listZip rfl rfl B.list_ rfl B.zip_ (aA (pv 0) (aA (pe_slice sl_list (pv 0) (po_some aD) po_none) aF))))),
  ((bH (vo_listZip aB (aO (vo_slL aB (vp_so aJ) vp_no)))) : VS P0 _ p6)⟩
abbrev tM : Stmt := top 25
theorem sc_nearest : FnScope ["lines", "time", "told", "one", "other", "gap"] ["lines", "time"] (aR tM) := ⟨rfl, rfl, rfl, by decide +kernel, rfl, by decide +kernel, by decide +kernel⟩
theorem ok_nearest {P0 : Addr → Hp → Prop} {P : Program} {w : World} {K : PySem.W.Frag} {mg : Str → Option Value} {base : Heap} {f : Addr} {fd : FuncData} (F : Fun K "nearest" "nearest" tM f fd) (B : Bl K mg) (Kt : Kit K)
  (c_neighbours : Cal P w K mg base 1 "neighbours" ["order"] (spM P0 1 cJ))
  (c_order_at : Cal P w K mg base 7 "order_at" ["lines", "time"] (spM P0 2 cB))
  (c_is_less : Cal P w K mg base 1 "is_less" ["a", "b"] (spM P0 2 bJ))
  (c_difference_of : Cal P w K mg base 3 "difference_of" ["a", "b"] (spM P0 2 bY))
  (c_place_at : Cal P w K mg base 4 "place_at" ["line", "time"] (spM P0 2 eG)) :
  FnOk P w K mg base CX0 8 f fd ["lines", "time"] (spM P0 2 jU) :=
 F.okV sc_nearest rfl rfl fun cdv A outer s H E hr =>
 have hu := hr.units
 ⟨_, (aG (bB (i := 2) sc_nearest.nd rfl (by first | exact Or.inl rfl | exact Or.inr rfl) gD)
   (aG (iW PassesOwn.never rfl (dN (aH c_neighbours hr rfl (aA (aH c_order_at hr rfl (aA (pv 0) (aA (pv 1) aF))) aF))) (tX rfl (cP (bR (i := 3) sc_nearest.nd rfl (by first | exact Or.inl rfl | exact Or.inr rfl)) (cP (bR (i := 4) sc_nearest.nd rfl (by first | exact Or.inl rfl | exact Or.inr rfl)) nU))) (aG (bB (i := 5) sc_nearest.nd rfl (by first | exact Or.inl rfl | exact Or.inr rfl) (aH c_difference_of hr rfl (aA (aH c_place_at hr rfl (aA (aV aL (pv 0) (pv 3) (fun _ _ => rfl)) (aA (pv 1) aF))) (aA (aH c_place_at hr rfl (aA (aV aL (pv 0) (pv 4) (fun _ _ => rfl)) (aA (pv 1) aF))) aF))))
   (aN (dH (PW.pt (pw_or (bL wR (pv 2) gD (bV _)) (pw_or1 (fG (aH c_is_less hr rfl (aA (pv 5) (aA (aV aL (pv 2) aD (fun _ _ => rfl)) aF))))))) (aN (bB (i := 2) sc_nearest.nd rfl (by first | exact Or.inl rfl | exact Or.inr rfl) (cW (aA (pv 3) (aA (pv 4) (aA (pv 5) aF)))))) bW))))
   (aN (bG (pv 2))))),
  ((aU (bF (aW uW))
   (aU (j4 (dM (aO (aK (aC (aO (aK (aC aB (aC aB aP)))) aP)))) (tG (cQ bU (cQ bU nH))) (aU (bF (aW (aO (aK (aC (aO (aK (aC (aX aB aB) (aC aB aP)))) (aC (aO (aK (aC (aX aB aB) (aC aB aP)))) aP))))))
   (dZ (v9 (bT (xH aB)) (jP (aO (aK (aC aB (aC (aX aB aJ) aP)))))) (bF (aW (cZ (aQ aB (aQ aB (aQ aB bQ)))))) dY)))
   (bH (aW aB)))) : VS P0 _ xV)⟩
abbrev jC : Stmt := top 26
theorem sc_all_changes : FnScope ["lines", "pairs", "one", "other", "time"] ["lines"] (aR jC) := ⟨rfl, rfl, rfl, by decide +kernel, rfl, by decide +kernel, by decide +kernel⟩
theorem ok_all_changes {P0 : Addr → Hp → Prop} {P : Program} {w : World} {K : PySem.W.Frag} {mg : Str → Option Value} {base : Heap} {f : Addr} {fd : FuncData} (F : Fun K "all_changes" "all_changes" jC f fd) (B : Bl K mg) (Kt : Kit K)
  (c_is_less : Cal P w K mg base 1 "is_less" ["a", "b"] (spM P0 2 bJ))
  (c_meeting : Cal P w K mg base 4 "meeting" ["one", "other"] (spM P0 2 gK)) :
  FnOk P w K mg base CX0 5 f fd ["lines"] (spM P0 1 cU) :=
 F.okV sc_all_changes rfl rfl fun cdv A outer s H E hr =>
 have hu := hr.units
 ⟨_, (aG (bB (i := 1) sc_all_changes.nd rfl (by first | exact Or.inl rfl | exact Or.inr rfl) pe_dnewX)
   (aG (iW PassesOwn.never rfl (gQ rfl B.range_ (aA (cA bN rfl B.len_ boot_len (aA (pv 0) aF)) aF)) (bR (i := 2) sc_all_changes.nd rfl (by first | exact Or.inl rfl | exact Or.inr rfl)) (aN (iW PassesOwn.never rfl (gQ rfl B.range_ (aA (cA bN rfl B.len_ boot_len (aA (pv 0) aF)) aF)) (bR (i := 3) sc_all_changes.nd rfl (by first | exact Or.inl rfl | exact Or.inr rfl)) (aN (dH (fG (aH c_is_less hr rfl (aA (aV aL (aV aL (pv 0) (pv 2) (fun _ _ => rfl)) aD (fun _ _ => rfl)) (aA (aV aL (aV aL (pv 0) (pv 3) (fun _ _ => rfl)) aD (fun _ _ => rfl)) aF)))) (aG (bB (i := 4) sc_all_changes.nd rfl (by first | exact Or.inl rfl | exact Or.inr rfl) (aV aL (aH c_meeting hr rfl (aA (aV aL (pv 0) (pv 2) (fun _ _ => rfl)) (aA (aV aL (pv 0) (pv 3) (fun _ _ => rfl)) aF))) aD (fun _ _ => rfl)))
   (aN (rW (pe_bm PySem.F.plainAttrs_list PySem.F.slot_list_append PySem.F.type_list_append sZ (pe_bmD PySem.F.slot_dict_setdefault PySem.F.type_dict_setdefault (mt_setD hu) (pv 1) (aA (pv 4) (aA (iI aF) aF))) (aA (cW (aA (pv 2) (aA (pv 3) aF))) aF))))) bW)))))
   (aN (bG (pv 1))))),
  ((aU (bF vo_dnew)
   (aU (j4 (mV (aQ (j6 aB) bQ)) bU (j4 (mV (aQ (j6 aB) bQ)) bU (dZ (jP (aO (aK (aC (aX (aX aB aB) aJ) (aC (aX (aX aB aB) aJ) aP))))) (aU (bF (aW (aX (aO (aK (aC (aX aB aB) (aC (aX aB aB) aP)))) aJ)))
   vs_setApp) dY)))
   (bH yR))) : VS P0 _ nF)⟩
abbrev lR : Stmt := top 27
theorem sc_changes : FnScope ["lines", "low", "high", "pairs", "times", "time"] ["lines", "low", "high"] (aR lR) := ⟨rfl, rfl, rfl, by decide +kernel, rfl, by decide +kernel, by decide +kernel⟩
theorem ok_changes {P0 : Addr → Hp → Prop} {P : Program} {w : World} {K : PySem.W.Frag} {mg : Str → Option Value} {base : Heap} {f : Addr} {fd : FuncData} (F : Fun K "changes" "changes" lR f fd) (B : Bl K mg) (Kt : Kit K)
  (c_rising : Cal P w K mg base 2 "rising" ["numbers"] (spM P0 1 jE))
  (c_is_less : Cal P w K mg base 1 "is_less" ["a", "b"] (spM P0 2 bJ))
  (c_all_changes : Cal P w K mg base 5 "all_changes" ["lines"] (spM P0 1 cU)) :
  FnOk P w K mg base CX0 6 f fd ["lines", "low", "high"] (spM P0 3 lN) :=
 F.okV sc_changes rfl rfl fun cdv A outer s H E hr =>
 have hu := hr.units
 ⟨_, (aG (bB (i := 3) sc_changes.nd rfl (by first | exact Or.inl rfl | exact Or.inr rfl) (aH c_all_changes hr rfl (aA (pv 0) aF)))
   (aG (ps_setC (N := ["time", "low", "high"]) (nt := 1) (fv := [1, 2]) (i := 4) sc_changes.nd rfl rfl rfl (jM (osc := aR lR) (ON := ["lines", "low", "high", "pairs", "times", "time"]) (by decide +kernel)) (pi_dic (pv 3)) (fun _ _ _ _ => (bR (i := 0) (show (["time", "low", "high"] : List Str).Nodup by decide +kernel) rfl (by first | exact Or.inl rfl | exact Or.inr rfl))) (fun _ _ _ _ => (pts_one (PW.pt (qK (fG (aH c_is_less hr rfl (aA (pv 1) (aA (pv 0) aF)))) (lF (oG (fG (aH c_is_less hr rfl (aA (pv 2) (aA (pv 0) aF)))))))))) (fun _ _ _ _ => (pv 0)))
   (aN (bG (fL (N := ["time", "pairs"]) (nt := 1) (fv := [3]) rfl (jM (osc := aR lR) (ON := ["lines", "low", "high", "pairs", "times", "time"]) (by decide +kernel)) (dN (aH c_rising hr rfl (aA (pv 4) aF))) (fun _ _ _ _ => (bR (i := 0) (show (["time", "pairs"] : List Str).Nodup by decide +kernel) rfl (by first | exact Or.inl rfl | exact Or.inr rfl))) (fun _ _ _ _ => jV) (fun _ _ _ _ => (cW (aA (pv 0) (aA (cA call_sortN rfl B.sorted_ boot_sorted (aA (aV (ix_dic hu) (pv 1) (pv 0) (fun _ _ => rfl)) aF)) aF))))))))),
  ((aU (vs_setD (aK (aC aB aP)))
   (aU (bF (aW (aO (gB vi_dic bU (nO (jP (aO (aK (aC aB (aC aB aP))))) (j8 (jP (aO (aK (aC aB (aC aB aP))))))) aB))))
   (bH (gB (dM (aO (aK (aC aB aP)))) bU iD (cZ (aQ aB (aQ (aO (vo_sortN (vt_ixD aB))) bQ))))))) : VS P0 _ wJ)⟩
abbrev iB : Stmt := top 37
theorem sc_stretch_times : FnScope ["lines", "times"] ["lines"] (aR iB) := ⟨rfl, rfl, rfl, by decide +kernel, rfl, by decide +kernel, by decide +kernel⟩
theorem vJ {P0 : Addr → Hp → Prop} {P : Program} {w : World} {K : PySem.W.Frag} {mg : Str → Option Value} {base : Heap} {f : Addr} {fd : FuncData} (F : Fun K "stretch_times" "stretch_times" iB f fd) (B : Bl K mg) (Kt : Kit K)
  (c_difference_of : Cal P w K mg base 3 "difference_of" ["a", "b"] (spM P0 2 bY))
  (c_rising : Cal P w K mg base 2 "rising" ["numbers"] (spM P0 1 jE))
  (c_all_changes : Cal P w K mg base 5 "all_changes" ["lines"] (spM P0 1 cU)) :
  FnOk P w K mg base CX0 6 f fd ["lines"] (spM P0 1 dR) :=
 F.okV sc_stretch_times rfl rfl fun cdv A outer s H E hr =>
 have hu := hr.units
 ⟨_, (aG (bB (i := 1) sc_stretch_times.nd rfl (by first | exact Or.inl rfl | exact Or.inr rfl) (aH c_rising hr rfl (aA (pB (call_listD rfl) rfl B.list_ boot_list (aA (aH c_all_changes hr rfl (aA (pv 0) aF)) aF)) aF)))
   (aG (dH (bL (lZ hu) (pv 1) (iI aF) (bV _)) (aN (bG (iI (aA (cW (aA aD (aA aD aF))) aF)))) bW)
   (aN (bG (bI op_cat (iI (aA (aH c_difference_of hr rfl (aA (aV aL (pv 1) aD (fun _ _ => rfl)) (aA (cW (aA aD (aA aD aF))) aF))) aF)) (pv 1)))))),
  ((aU (bF (aW (aO (aK (aC (aO (vo_listD (aK (aC aB aP)))) aP)))))
   (aU (dZ (bT (uB aB (aO (jA bQ)))) (bH (jA (aQ (cZ (aQ aJ (aQ aJ bQ))) bQ))) dY)
   (bH (vo_cat (aO (jA (aQ (aO (aK (aC (aX aB aJ) (aC (cZ (aQ aJ (aQ aJ bQ))) aP)))) bQ))) aB)))) : VS P0 _ jN)⟩
abbrev pU : Stmt := top 38
theorem sc_rank_row : FnScope ["lines", "k", "times", "row", "time", "runner"] ["lines", "k"] (aR pU) := ⟨rfl, rfl, rfl, by decide +kernel, rfl, by decide +kernel, by decide +kernel⟩
theorem ok_rank_row {P0 : Addr → Hp → Prop} {P : Program} {w : World} {K : PySem.W.Frag} {mg : Str → Option Value} {base : Heap} {f : Addr} {fd : FuncData} (F : Fun K "rank_row" "rank_row" pU f fd) (B : Bl K mg) (Kt : Kit K)
  (c_order_at : Cal P w K mg base 7 "order_at" ["lines", "time"] (spM P0 2 cB))
  (c_stretch_times : Cal P w K mg base 6 "stretch_times" ["lines"] (spM P0 1 dR)) :
  FnOk P w K mg base CX0 8 f fd ["lines", "k"] (spM P0 2 jK) :=
 F.okV sc_rank_row rfl rfl fun cdv A outer s H E hr =>
 have hu := hr.units
 ⟨_, (aG (dH (bL op_ge (pv 1) (cA bN rfl B.len_ boot_len (aA (pv 0) aF)) (bV _)) (aN (bG (iI aF))) bW)
   (aG (bB (i := 2) sc_rank_row.nd rfl (by first | exact Or.inl rfl | exact Or.inr rfl) (aH c_stretch_times hr rfl (aA (pv 0) aF)))
   (aG (bB (i := 3) sc_rank_row.nd rfl (by first | exact Or.inl rfl | exact Or.inr rfl) (iI (aA (cW (aA (aV aL (aH c_order_at hr rfl (aA (pv 0) (aA (aV aL (pv 2) aD (fun _ _ => rfl)) aF))) (pv 1) (fun _ _ => rfl)) (aA gD aF))) aF)))
   (aG (iW PassesOwn.never rfl (dN (pe_slice sl_list (pv 2) (po_some aD) po_none)) (bR (i := 4) sc_rank_row.nd rfl (by first | exact Or.inl rfl | exact Or.inr rfl)) (aG (bB (i := 5) sc_rank_row.nd rfl (by first | exact Or.inl rfl | exact Or.inr rfl) (aV aL (aH c_order_at hr rfl (aA (pv 0) (aA (pv 4) aF))) (pv 1) (fun _ _ => rfl)))
   (aN (dH (bL (qI hu) (pv 5) (aV aL (aV aL (pv 3) (pe_un yP aD) (fun _ _ => rfl)) aD (fun _ _ => rfl)) (bV _)) (aN (rW (pe_bm PySem.F.plainAttrs_list PySem.F.slot_list_append PySem.F.type_list_append sZ (pv 3) (aA (cW (aA (pv 5) (aA (pv 4) aF))) aF)))) bW))))
   (aN (bG (pv 3))))))),
  ((aU (dZ (bT (vt_ge aB (j6 aB))) (bH (jA bQ)) dY)
   (aU (bF (aW (aO (aK (aC aB aP)))))
   (aU (bF (jA (aQ (cZ (aQ (aX (aO (aK (aC aB (aC (aX aB aJ) aP)))) aB) (aQ uW bQ))) bQ)))
   (aU (j4 (dM (aO (vo_slL aB (vp_so aJ) vp_no))) bU (aU (bF (aW (aX (aO (aK (aC aB (aC aB aP)))) aB)))
   (dZ (t8 (bT (vt_ne aB (aX (aX aB (yZ aJ)) aJ)))) (wO (cZ (aQ aB (aQ aB bQ)))) dY)))
   (bH yR))))) : VS P0 _ uR)⟩
abbrev tZ : Stmt := top 31
theorem sc_till_of : FnScope ["lines", "one", "other", "time"] ["lines", "one", "other", "time"] (aR tZ) := ⟨rfl, rfl, rfl, by decide +kernel, rfl, by decide +kernel, by decide +kernel⟩
theorem ok_till_of {P0 : Addr → Hp → Prop} {P : Program} {w : World} {K : PySem.W.Frag} {mg : Str → Option Value} {base : Heap} {f : Addr} {fd : FuncData} (F : Fun K "till_of" "till_of" tZ f fd) (B : Bl K mg) (Kt : Kit K)
  (c_next_change : Cal P w K mg base 5 "next_change" ["lines", "one", "other", "time"] (spM P0 4 cT))
  (c_is_ahead : Cal P w K mg base 6 "is_ahead" ["lines", "one", "other", "time"] (spM P0 4 cX)) :
  FnOk P w K mg base CX0 7 f fd ["lines", "one", "other", "time"] (spM P0 4 mF) :=
 F.okV sc_till_of rfl rfl fun cdv A outer s H E hr =>
 have hu := hr.units
 ⟨_, (aG (dH (fG (aH c_is_ahead hr rfl (aA (pv 0) (aA (pv 2) (aA (pv 1) (aA (pv 3) aF)))))) (aN (bG (pv 3))) bW)
   (aN (bG (aH c_next_change hr rfl (aA (pv 0) (aA (pv 1) (aA (pv 2) (aA (pv 3) aF)))))))),
  ((aU (dZ (jP (aO (aK (aC aB (aC aB (aC aB (aC aB aP))))))) (bH (aW aB)) dY)
   (bH (aK (aC aB (aC aB (aC aB (aC aB aP))))))) : VS P0 _ yC)⟩
abbrev fX : Stmt := top 32
theorem xY : FnScope ["lines", "order", "time", "pair"] ["lines", "order", "time"] (aR fX) := ⟨rfl, rfl, rfl, by decide +kernel, rfl, by decide +kernel, by decide +kernel⟩
theorem yD {P0 : Addr → Hp → Prop} {P : Program} {w : World} {K : PySem.W.Frag} {mg : Str → Option Value} {base : Heap} {f : Addr} {fd : FuncData} (F : Fun K "papers_among" "papers_among" fX f fd) (B : Bl K mg) (Kt : Kit K)
  (c_neighbours : Cal P w K mg base 1 "neighbours" ["order"] (spM P0 1 cJ))
  (c_till_of : Cal P w K mg base 7 "till_of" ["lines", "one", "other", "time"] (spM P0 4 mF)) :
  FnOk P w K mg base CX0 8 f fd ["lines", "order", "time"] (spM P0 3 eO) :=
 F.okV xY rfl rfl fun cdv A outer s H E hr =>
 have hu := hr.units
 ⟨_, (aN (bG (fL (N := ["pair", "lines", "time"]) (nt := 1) (fv := [0, 2]) rfl (jM (osc := aR fX) (ON := ["lines", "order", "time", "pair"]) (by decide +kernel)) (dN (aH c_neighbours hr rfl (aA (pv 1) aF))) (fun _ _ _ _ => (bR (i := 0) (show (["pair", "lines", "time"] : List Str).Nodup by decide +kernel) rfl (by first | exact Or.inl rfl | exact Or.inr rfl))) (fun _ _ _ _ => jV) (fun _ _ _ _ => (cW (aA (aV aL (pv 0) aD (fun _ _ => rfl)) (aA (aV aL (pv 0) aD (fun _ _ => rfl)) (aA (aH c_till_of hr rfl (aA (pv 1) (aA (aV aL (pv 0) aD (fun _ _ => rfl)) (aA (aV aL (pv 0) aD (fun _ _ => rfl)) (aA (pv 2) aF))))) aF)))))))),
  ((bH (gB (dM (aO (aK (aC aB aP)))) bU iD (cZ (aQ (aX aB aJ) (aQ (aX aB aJ) (aQ (aO (aK (aC aB (aC (aX aB aJ) (aC (aX aB aJ) (aC aB aP)))))) bQ)))))) : VS P0 _ lG)⟩
abbrev nM : Stmt := top 33
theorem sc_papers_at : FnScope ["lines", "time"] ["lines", "time"] (aR nM) := ⟨rfl, rfl, rfl, by decide +kernel, rfl, by decide +kernel, by decide +kernel⟩
theorem ok_papers_at {P0 : Addr → Hp → Prop} {P : Program} {w : World} {K : PySem.W.Frag} {mg : Str → Option Value} {base : Heap} {f : Addr} {fd : FuncData} (F : Fun K "papers_at" "papers_at" nM f fd) (B : Bl K mg) (Kt : Kit K)
  (c_papers_among : Cal P w K mg base 8 "papers_among" ["lines", "order", "time"] (spM P0 3 eO))
  (c_order_at : Cal P w K mg base 7 "order_at" ["lines", "time"] (spM P0 2 cB)) :
  FnOk P w K mg base CX0 9 f fd ["lines", "time"] (spM P0 2 f9) :=
 F.okV sc_papers_at rfl rfl fun cdv A outer s H E hr =>
 have hu := hr.units
 ⟨_, (aN (bG (aH c_papers_among hr rfl (aA (pv 0) (aA (aH c_order_at hr rfl (aA (pv 0) (aA (pv 1) aF))) (aA (pv 1) aF)))))),
  ((bH (aK (aC aB (aC (aO (aK (aC aB (aC aB aP)))) (aC aB aP))))) : VS P0 _ rM)⟩
abbrev jH : Stmt := top 29
theorem sc_stays_ahead : FnScope ["lines", "one", "other", "time", "till", "change"] ["lines", "one", "other", "time", "till"] (aR jH) := ⟨rfl, rfl, rfl, by decide +kernel, rfl, by decide +kernel, by decide +kernel⟩
theorem ok_stays_ahead {P0 : Addr → Hp → Prop} {P : Program} {w : World} {K : PySem.W.Frag} {mg : Str → Option Value} {base : Heap} {f : Addr} {fd : FuncData} (F : Fun K "stays_ahead" "stays_ahead" jH f fd) (B : Bl K mg) (Kt : Kit K)
  (c_is_less : Cal P w K mg base 1 "is_less" ["a", "b"] (spM P0 2 bJ))
  (c_next_change : Cal P w K mg base 5 "next_change" ["lines", "one", "other", "time"] (spM P0 4 cT))
  (c_is_ahead : Cal P w K mg base 6 "is_ahead" ["lines", "one", "other", "time"] (spM P0 4 cX)) :
  FnOk P w K mg base CX0 7 f fd ["lines", "one", "other", "time", "till"] (spM P0 5 fJ) :=
 F.okV sc_stays_ahead rfl rfl fun cdv A outer s H E hr =>
 have hu := hr.units
 ⟨_, (aG (dH (oG (fG (aH c_is_ahead hr rfl (aA (pv 0) (aA (pv 1) (aA (pv 2) (aA (pv 3) aF))))))) (aN (bG pe_bl)) bW)
   (aG (bB (i := 5) sc_stays_ahead.nd rfl (by first | exact Or.inl rfl | exact Or.inr rfl) (aH c_next_change hr rfl (aA (pv 0) (aA (pv 1) (aA (pv 2) (aA (pv 3) aF))))))
   (aN (bG (pe_or (j7 wR (pv 5) gD (bV _)) (pe_one (pe_and (j7 xW (pv 4) gD (bV _)) (pe_one (pe_not (aH c_is_less hr rfl (aA (pv 5) (aA (pv 4) aF)))))))))))),
  ((aU (dZ (j8 (jP (aO (aK (aC aB (aC aB (aC aB (aC aB aP)))))))) (bH (aW zG)) dY)
   (aU (bF (aW (aO (aK (aC aB (aC aB (aC aB (aC aB aP))))))))
   (bH (aW (vt_or (xH aB) (vt_and (yU aB) (vt_not (aO (aK (aC aB (aC aB aP))))))))))) : VS P0 _ nJ)⟩
abbrev pM : Stmt := top 30
theorem sc_is_right : FnScope ["lines", "time", "paper", "one", "other", "till"] ["lines", "time", "paper"] (aR pM) := ⟨rfl, rfl, rfl, by decide +kernel, rfl, by decide +kernel, by decide +kernel⟩
theorem ok_is_right {P0 : Addr → Hp → Prop} {P : Program} {w : World} {K : PySem.W.Frag} {mg : Str → Option Value} {base : Heap} {f : Addr} {fd : FuncData} (F : Fun K "is_right" "is_right" pM f fd) (B : Bl K mg) (Kt : Kit K)
  (c_stays_ahead : Cal P w K mg base 7 "stays_ahead" ["lines", "one", "other", "time", "till"] (spM P0 5 fJ))
  (c_is_less : Cal P w K mg base 1 "is_less" ["a", "b"] (spM P0 2 bJ))
  (c_is_runner : Cal P w K mg base 2 "is_runner" ["lines", "thing"] (spM P0 2 gA)) :
  FnOk P w K mg base CX0 8 f fd ["lines", "time", "paper"] (spM P0 3 fP) :=
 F.okV sc_is_right rfl rfl fun cdv A outer s H E hr =>
 have hu := hr.units
 ⟨_, (aG (bB (i := 3) sc_is_right.nd rfl (by first | exact Or.inl rfl | exact Or.inr rfl) (aV aL (pv 2) aD (fun _ _ => rfl)))
   (aG (bB (i := 4) sc_is_right.nd rfl (by first | exact Or.inl rfl | exact Or.inr rfl) (aV aL (pv 2) aD (fun _ _ => rfl)))
   (aG (bB (i := 5) sc_is_right.nd rfl (by first | exact Or.inl rfl | exact Or.inr rfl) (aV aL (pv 2) aD (fun _ _ => rfl)))
   (aG (dH (PW.pt (pw_or (oG (fG (aH c_is_runner hr rfl (aA (pv 0) (aA (pv 3) aF))))) (pw_or (oG (fG (aH c_is_runner hr rfl (aA (pv 0) (aA (pv 4) aF))))) (pw_or1 (bL (lZ hu) (pv 3) (pv 4) (bV _)))))) (aN (bG pe_bl)) bW)
   (aG (dH (PW.pt (qK (bL xW (pv 5) gD (bV _)) (lF (oG (fG (aH c_is_less hr rfl (aA (pv 1) (aA (pv 5) aF)))))))) (aN (bG pe_bl)) bW)
   (aN (bG (aH c_stays_ahead hr rfl (aA (pv 0) (aA (pv 3) (aA (pv 4) (aA (pv 1) (aA (pv 5) aF))))))))))))),
  ((aU (bF (aW (aX aB aJ)))
   (aU (bF (aW (aX aB aJ)))
   (aU (bF (aW (aX aB aJ)))
   (aU (dZ (v9 (j8 (jP (aO (aK (aC aB (aC aB aP)))))) (v9 (j8 (jP (aO (aK (aC aB (aC aB aP)))))) (bT (uB aB aB)))) (bH (aW zG)) dY)
   (aU (dZ (nO (bT (yU aB)) (j8 (jP (aO (aK (aC aB (aC aB aP))))))) (bH (aW zG)) dY)
   (bH (aK (aC aB (aC aB (aC aB (aC aB (aC aB aP)))))))))))) : VS P0 _ uI)⟩
abbrev iC : Stmt := top 34
theorem sc_first_to_fail : FnScope ["papers", "told", "at", "paper"] ["papers"] (aR iC) := ⟨rfl, rfl, rfl, by decide +kernel, rfl, by decide +kernel, by decide +kernel⟩
theorem vK {P0 : Addr → Hp → Prop} {P : Program} {w : World} {K : PySem.W.Frag} {mg : Str → Option Value} {base : Heap} {f : Addr} {fd : FuncData} (F : Fun K "first_to_fail" "first_to_fail" iC f fd) (B : Bl K mg) (Kt : Kit K)
  (c_is_less : Cal P w K mg base 1 "is_less" ["a", "b"] (spM P0 2 bJ)) :
  FnOk P w K mg base CX0 2 f fd ["papers"] (spM P0 1 dJ) :=
 F.okV sc_first_to_fail rfl rfl fun cdv A outer s H E hr =>
 have hu := hr.units
 ⟨_, (aG (bB (i := 1) sc_first_to_fail.nd rfl (by first | exact Or.inl rfl | exact Or.inr rfl) gD)
   (aG (iW PassesOwn.never rfl (pi_enum rfl B.enumerate_ (aA (pv 0) aF)) (tX rfl (cP (bR (i := 2) sc_first_to_fail.nd rfl (by first | exact Or.inl rfl | exact Or.inr rfl)) (cP (bR (i := 3) sc_first_to_fail.nd rfl (by first | exact Or.inl rfl | exact Or.inr rfl)) nU))) (aN (dH (PW.pt (qK (bL xW (aV aL (pv 3) aD (fun _ _ => rfl)) gD (bV _)) (lF (PW.pt (pw_or (bL wR (pv 1) gD (bV _)) (pw_or1 (fG (aH c_is_less hr rfl (aA (aV aL (pv 3) aD (fun _ _ => rfl)) (aA (aV aL (aV aL (pv 0) (pv 1) (fun _ _ => rfl)) aD (fun _ _ => rfl)) aF)))))))))) (aN (bB (i := 1) sc_first_to_fail.nd rfl (by first | exact Or.inl rfl | exact Or.inr rfl) (pv 2))) bW)))
   (aN (bG (pv 1))))),
  ((aU (bF (aW uW))
   (aU (j4 (vi_enum aB) (tG (cQ bU (cQ bU nH))) (dZ (nO (bT (yU (aX aB aJ))) (v9 (bT (xH aB)) (jP (aO (aK (aC (aX aB aJ) (aC (aX (aX aB aB) aJ) aP))))))) (bF (aW aB)) dY))
   (bH (aW aB)))) : VS P0 _ jT)⟩
abbrev rO : Stmt := top 35
theorem sc_shown : FnScope ["lines", "time", "papers", "paper", "order", "pairs", "pair", "at"] ["lines", "time", "papers"] (aR rO) := ⟨rfl, rfl, rfl, by decide +kernel, rfl, by decide +kernel, by decide +kernel⟩
theorem ok_shown {P0 : Addr → Hp → Prop} {P : Program} {w : World} {K : PySem.W.Frag} {mg : Str → Option Value} {base : Heap} {f : Addr} {fd : FuncData} (F : Fun K "shown" "shown" rO f fd) (B : Bl K mg) (Kt : Kit K)
  (c_first_to_fail : Cal P w K mg base 2 "first_to_fail" ["papers"] (spM P0 1 dJ))
  (c_neighbours : Cal P w K mg base 1 "neighbours" ["order"] (spM P0 1 cJ))
  (c_order_at : Cal P w K mg base 7 "order_at" ["lines", "time"] (spM P0 2 cB))
  (c_is_right : Cal P w K mg base 8 "is_right" ["lines", "time", "paper"] (spM P0 3 fP)) :
  FnOk P w K mg base CX0 9 f fd ["lines", "time", "papers"] (spM P0 3 rG) :=
 F.okV sc_shown rfl rfl fun cdv A outer s H E hr =>
 have hu := hr.units
 ⟨_, (aG (dH (oG (fG (cA (call_allL rfl) rfl B.all_ boot_all (aA (fL (N := ["paper", "lines", "time"]) (nt := 1) (fv := [0, 1]) rfl (jM (osc := aR rO) (ON := ["lines", "time", "papers", "paper", "order", "pairs", "pair", "at"]) (by decide +kernel)) (dN (pv 2)) (fun _ _ _ _ => (bR (i := 0) (show (["paper", "lines", "time"] : List Str).Nodup by decide +kernel) rfl (by first | exact Or.inl rfl | exact Or.inr rfl))) (fun _ _ _ _ => jV) (fun _ _ _ _ => (aH c_is_right hr rfl (aA (pv 1) (aA (pv 2) (aA (pv 0) aF)))))) aF)))) (aN (bG gD)) bW)
   (aG (bB (i := 4) sc_shown.nd rfl (by first | exact Or.inl rfl | exact Or.inr rfl) (aH c_order_at hr rfl (aA (pv 0) (aA (pv 1) aF))))
   (aG (bB (i := 5) sc_shown.nd rfl (by first | exact Or.inl rfl | exact Or.inr rfl) (fL (N := ["paper"]) (nt := 1) (fv := []) rfl (jM (osc := aR rO) (ON := ["lines", "time", "papers", "paper", "order", "pairs", "pair", "at"]) (by decide +kernel)) (dN (pv 2)) (fun _ _ _ _ => (bR (i := 0) (show (["paper"] : List Str).Nodup by decide +kernel) rfl (by first | exact Or.inl rfl | exact Or.inr rfl))) (fun _ _ _ _ => jV) (fun _ _ _ _ => (cW (aA (aV aL (pv 0) aD (fun _ _ => rfl)) (aA (aV aL (pv 0) aD (fun _ _ => rfl)) aF))))))
   (aG (dH (oG (fG (cA (call_allL rfl) rfl B.all_ boot_all (aA (fL (N := ["pair", "pairs"]) (nt := 1) (fv := [5]) rfl (jM (osc := aR rO) (ON := ["lines", "time", "papers", "paper", "order", "pairs", "pair", "at"]) (by decide +kernel)) (dN (aH c_neighbours hr rfl (aA (pv 4) aF))) (fun _ _ _ _ => (bR (i := 0) (show (["pair", "pairs"] : List Str).Nodup by decide +kernel) rfl (by first | exact Or.inl rfl | exact Or.inr rfl))) (fun _ _ _ _ => jV) (fun _ _ _ _ => (j7 (op_inD hu) (pv 0) (pv 1) (by with_unfolding_all rfl)))) aF)))) (aN (bG gD)) bW)
   (aG (bB (i := 7) sc_shown.nd rfl (by first | exact Or.inl rfl | exact Or.inr rfl) (aH c_first_to_fail hr rfl (aA (pv 2) aF)))
   (aN (bG (cW (aA (pv 4) (aA (pe_ifExp (bL wR (pv 7) gD (bV _)) gD (aV aL (aV aL (pv 2) (pv 7) (fun _ _ => rfl)) aD (fun _ _ => rfl))) aF)))))))))),
  ((aU (dZ (j8 (jP (vt_all (aO (gB (dM aB) bU iD (aO (aK (aC aB (aC aB (aC aB aP)))))))))) (bH (aW uW)) dY)
   (aU (bF (aK (aC aB (aC aB aP))))
   (aU (bF (aW (aO (gB (dM aB) bU iD (cZ (aQ (aX aB aJ) (aQ (aX aB aJ) bQ)))))))
   (aU (dZ (t8 (j8 (jP (vt_all (aO (gB (dM (aO (aK (aC aB aP)))) bU iD (vt_in aB aB))))))) (bH (aW uW)) dY)
   (aU (bF (aW (aO (aK (aC aB aP)))))
   (bH (vo_tupB (vt_ifE (bT (xH aB)) uW (aX (aX aB aB) aJ))))))))) : VS P0 _ b_shown)⟩
abbrev lA : Stmt := top 41
theorem sc_law_lowest : FnScope ["_law_top", "_law_bottom", "_law_one", "_law_other"] ["_law_top", "_law_bottom"] (aR lA) := ⟨rfl, rfl, rfl, by decide +kernel, rfl, by decide +kernel, by decide +kernel⟩
theorem ok_law_lowest {P0 : Addr → Hp → Prop} {P : Program} {w : World} {K : PySem.W.Frag} {mg : Str → Option Value} {base : Heap} {f : Addr} {fd : FuncData} (F : Fun K "_law_lowest" "_law_lowest" lA f fd) (B : Bl K mg) (Kt : Kit K) :
  FnOk P w K mg base CX0 1 f fd ["_law_top", "_law_bottom"] (spM P0 2 bO) :=
 F.okV sc_law_lowest rfl rfl fun cdv A outer s H E hr =>
 have hu := hr.units
 ⟨_, (aG (bB (i := 2) sc_law_lowest.nd rfl (by first | exact Or.inl rfl | exact Or.inr rfl) (cA sI rfl B.abs_ boot_abs (aA (pv 0) aF)))
   (aG (bB (i := 3) sc_law_lowest.nd rfl (by first | exact Or.inl rfl | exact Or.inr rfl) (pv 1))
   (aG (wA PassesOwn.never (bL op_gt (pv 3) aD (bV _)) (aN (ps_par (i := 2) (j := 3) rfl sc_law_lowest.nd rfl rfl (by decide) rfl rfl (aA (pv 3) (aA (bI sW (pv 2) (pv 3)) aF)) rfl)))
   (aN (bG (cW (aA (bI vX (pv 0) (pv 2)) (aA (bI vX (pv 1) (pv 2)) aF)))))))),
  ((aU (bF (aW (vt_abs aB)))
   (aU (bF (aW aB))
   (aU (wB (bT (vt_gt aB aJ)) (vs_par (aQ aB (aQ (vt_mod aB aB) bQ))))
   (bH (aW (cZ (aQ (vt_divX aB aB) (aQ (vt_divX aB aB) bQ)))))))) : VS P0 _ oR)⟩
abbrev lD : Stmt := top 42
theorem sc_law_number : FnScope ["_law_pen", "_law_wide", "_law_way", "_law_top"] ["_law_pen", "_law_wide"] (aR lD) := ⟨rfl, rfl, rfl, by decide +kernel, rfl, by decide +kernel, by decide +kernel⟩
theorem ok_law_number {P0 : Addr → Hp → Prop} {P : Program} {w : World} {K : PySem.W.Frag} {mg : Str → Option Value} {base : Heap} {f : Addr} {fd : FuncData} (F : Fun K "_law_number" "_law_number" lD f fd) (B : Bl K mg) (Kt : Kit K)
  (c_law_lowest : Cal P w K mg base 1 "_law_lowest" ["_law_top", "_law_bottom"] (spM P0 2 bO))
  (c_law_take : Cal P w K mg base 1 "_law_take" ["_law_pen", "_law_many"] (spM P0 2 bC)) :
  FnOk P w K mg base CX0 2 f fd ["_law_pen", "_law_wide"] (spM P0 2 fC) :=
 F.okV sc_law_number rfl rfl fun cdv A outer s H E hr =>
 have hu := hr.units
 ⟨_, (aG (bB (i := 2) sc_law_number.nd rfl (by first | exact Or.inl rfl | exact Or.inr rfl) (aH c_law_take hr rfl (aA (pv 0) (aA (aV aL (iI (aA aD (aA aD aF))) (pB call_int1 rfl B.int_ boot_int (aA (pv 1) aF)) (fun _ _ => rfl)) aF))))
   (aG (dH (bL uV (pv 2) aD (bV _)) (aN (bG (cW (aA (bI dU (aH c_law_take hr rfl (aA (pv 0) (aA aD aF))) aD) (aA aD aF))))) bW)
   (aG (dH (bL (lZ hu) (pv 2) aD (bV _)) (aN (bG (aH c_law_lowest hr rfl (aA (bI dU (aH c_law_take hr rfl (aA (pv 0) (aA aD aF))) aD) (aA (bI lX aD (aH c_law_take hr rfl (aA (pv 0) (aA aD aF)))) aF))))) bW)
   (aG (dH (bL uV (pv 2) aD (bV _)) (aN (bG (aH c_law_lowest hr rfl (aA (bI dU (aH c_law_take hr rfl (aA (pv 0) (aA aD aF))) aD) (aA (bI lX aD (aH c_law_take hr rfl (aA (pv 0) (aA aD aF)))) aF))))) bW)
   (aG (bB (i := 3) sc_law_number.nd rfl (by first | exact Or.inl rfl | exact Or.inr rfl) (bI lX (bI bZ (aH c_law_take hr rfl (aA (pv 0) (aA (uE (v := 1000000000) (by decide) ⟨by decide, by decide, by decide⟩) aF))) (uE (v := 1000000000) (by decide) ⟨by decide, by decide, by decide⟩)) (aH c_law_take hr rfl (aA (pv 0) (aA (uE (v := 1000000000) (by decide) ⟨by decide, by decide, by decide⟩) aF)))))
   (aN (bG (aH c_law_lowest hr rfl (aA (bI bZ (pv 3) (aV aL (iI (aA aD (aA (pe_un yP aD) aF))) (aH c_law_take hr rfl (aA (pv 0) (aA aD aF))) (fun _ _ => rfl))) (aA (bI lX aD (aH c_law_take hr rfl (aA (pv 0) (aA aD aF)))) aF)))))))))),
  ((aU (bF (aW (aO (aK (dC (aC (aX (aO (jA (aQ aJ (aQ aJ bQ)))) (vt_int1 aB)) aP))))))
   (aU (dZ (bT (yS aB aJ)) (bH (aW (cZ (aQ (dO (aO (aK (dC (aC aJ aP)))) aJ) (aQ aJ bQ))))) dY)
   (aU (dZ (bT (uB aB aJ)) (bH (aK (aC (dO (aO (aK (dC (aC aJ aP)))) aJ) (aC (v5 aJ (aO (aK (dC (aC aJ aP))))) aP)))) dY)
   (aU (dZ (bT (yS aB aJ)) (bH (aK (aC (dO (aO (aK (dC (aC aJ aP)))) aJ) (aC (v5 aJ (aO (aK (dC (aC aJ aP))))) aP)))) dY)
   (aU (bF (aW (v5 (cI (aO (aK (dC (aC aJ aP)))) aJ) (aO (aK (dC (aC aJ aP)))))))
   (bH (aK (aC (cI aB (aX (aO (jA (aQ aJ (aQ (yZ aJ) bQ)))) (aO (aK (dC (aC aJ aP)))))) (aC (v5 aJ (aO (aK (dC (aC aJ aP))))) aP))))))))) : VS P0 _ pG)⟩
abbrev jB : Stmt := top 43
theorem sc_law_through : FnScope ["_law_time_here", "_law_place", "_law_slope", "_law_top"] ["_law_time_here", "_law_place", "_law_slope"] (aR jB) := ⟨rfl, rfl, rfl, by decide +kernel, rfl, by decide +kernel, by decide +kernel⟩
theorem zP {P0 : Addr → Hp → Prop} {P : Program} {w : World} {K : PySem.W.Frag} {mg : Str → Option Value} {base : Heap} {f : Addr} {fd : FuncData} (F : Fun K "_law_through" "_law_through" jB f fd) (B : Bl K mg) (Kt : Kit K)
  (c_law_lowest : Cal P w K mg base 1 "_law_lowest" ["_law_top", "_law_bottom"] (spM P0 2 bO)) :
  FnOk P w K mg base CX0 2 f fd ["_law_time_here", "_law_place", "_law_slope"] (spM P0 3 fU) :=
 F.okV sc_law_through rfl rfl fun cdv A outer s H E hr =>
 have hu := hr.units
 ⟨_, (aG (bB (i := 3) sc_law_through.nd rfl (by first | exact Or.inl rfl | exact Or.inr rfl) (bI dU (bI bZ (bI bZ (aV aL (pv 1) aD (fun _ _ => rfl)) (aV aL (pv 2) aD (fun _ _ => rfl))) (aV aL (pv 0) aD (fun _ _ => rfl))) (bI bZ (bI bZ (aV aL (pv 2) aD (fun _ _ => rfl)) (aV aL (pv 0) aD (fun _ _ => rfl))) (aV aL (pv 1) aD (fun _ _ => rfl)))))
   (aN (bG (cW (aA (aH c_law_lowest hr rfl (aA (pv 3) (aA (bI bZ (bI bZ (aV aL (pv 1) aD (fun _ _ => rfl)) (aV aL (pv 2) aD (fun _ _ => rfl))) (aV aL (pv 0) aD (fun _ _ => rfl))) aF))) (aA (pv 2) aF)))))),
  ((aU (bF (aW (dO (cI (cI (aX aB aJ) (aX aB aJ)) (aX aB aJ)) (cI (cI (aX aB aJ) (aX aB aJ)) (aX aB aJ)))))
   (bH (aW (cZ (aQ (aO (aK (aC aB (aC (cI (cI (aX aB aJ) (aX aB aJ)) (aX aB aJ)) aP)))) (aQ aB bQ)))))) : VS P0 _ mK)⟩
abbrev pR : Stmt := top 45
theorem sc_law_spot : FnScope ["_law_line", "_law_time_here", "_law_start", "_law_slope", "_law_top"] ["_law_line", "_law_time_here"] (aR pR) := ⟨rfl, rfl, rfl, by decide +kernel, rfl, by decide +kernel, by decide +kernel⟩
theorem ok_law_spot {P0 : Addr → Hp → Prop} {P : Program} {w : World} {K : PySem.W.Frag} {mg : Str → Option Value} {base : Heap} {f : Addr} {fd : FuncData} (F : Fun K "_law_spot" "_law_spot" pR f fd) (B : Bl K mg) (Kt : Kit K)
  (c_law_lowest : Cal P w K mg base 1 "_law_lowest" ["_law_top", "_law_bottom"] (spM P0 2 bO)) :
  FnOk P w K mg base CX0 2 f fd ["_law_line", "_law_time_here"] (spM P0 2 fQ) :=
 F.okV sc_law_spot rfl rfl fun cdv A outer s H E hr =>
 have hu := hr.units
 ⟨_, (aG (ps_asg (pv 0) (tX rfl (cP (bR (i := 2) sc_law_spot.nd rfl (by first | exact Or.inl rfl | exact Or.inr rfl)) (cP (bR (i := 3) sc_law_spot.nd rfl (by first | exact Or.inl rfl | exact Or.inr rfl)) nU))))
   (aG (bB (i := 4) sc_law_spot.nd rfl (by first | exact Or.inl rfl | exact Or.inr rfl) (bI bZ (bI bZ (aV aL (pv 2) aD (fun _ _ => rfl)) (aV aL (pv 3) aD (fun _ _ => rfl))) (aV aL (pv 1) aD (fun _ _ => rfl))))
   (aG (bB (i := 4) sc_law_spot.nd rfl (by first | exact Or.inl rfl | exact Or.inr rfl) (bI lX (pv 4) (bI bZ (bI bZ (aV aL (pv 3) aD (fun _ _ => rfl)) (aV aL (pv 1) aD (fun _ _ => rfl))) (aV aL (pv 2) aD (fun _ _ => rfl)))))
   (aN (bG (aH c_law_lowest hr rfl (aA (pv 4) (aA (bI bZ (bI bZ (aV aL (pv 2) aD (fun _ _ => rfl)) (aV aL (pv 3) aD (fun _ _ => rfl))) (aV aL (pv 1) aD (fun _ _ => rfl))) aF)))))))),
  ((aU (vs_asg aB (tG (cQ bU (cQ bU nH))))
   (aU (bF (aW (cI (cI (aX aB aJ) (aX aB aJ)) (aX aB aJ))))
   (aU (bF (aW (v5 aB (cI (cI (aX aB aJ) (aX aB aJ)) (aX aB aJ)))))
   (bH (aK (aC aB (aC (cI (cI (aX aB aJ) (aX aB aJ)) (aX aB aJ)) aP))))))) : VS P0 _ uT)⟩
abbrev mQ : Stmt := top 44
theorem sc_law_lines : FnScope ["_law_pen", "_law_most", "_law_wide", "_law_lines_here", "_law_k", "_law_line", "_law_way", "_law_elder", "_law_time_here", "_law_met_here"] ["_law_pen", "_law_most"] (aR mQ) := ⟨rfl, rfl, rfl, by decide +kernel, rfl, by decide +kernel, by decide +kernel⟩
theorem ok_law_lines {P0 : Addr → Hp → Prop} {P : Program} {w : World} {K : PySem.W.Frag} {mg : Str → Option Value} {base : Heap} {f : Addr} {fd : FuncData} (F : Fun K "_law_lines" "_law_lines" mQ f fd) (B : Bl K mg) (Kt : Kit K)
  (c_law_take : Cal P w K mg base 1 "_law_take" ["_law_pen", "_law_many"] (spM P0 2 bC))
  (c_law_through : Cal P w K mg base 2 "_law_through" ["_law_time_here", "_law_place", "_law_slope"] (spM P0 3 fU))
  (c_law_spot : Cal P w K mg base 2 "_law_spot" ["_law_line", "_law_time_here"] (spM P0 2 fQ))
  (c_law_number : Cal P w K mg base 2 "_law_number" ["_law_pen", "_law_wide"] (spM P0 2 fC)) :
  FnOk P w K mg base CX0 3 f fd ["_law_pen", "_law_most"] (spM P0 2 jO) :=
 F.okV sc_law_lines rfl rfl fun cdv A outer s H E hr =>
 have hu := hr.units
 ⟨_, (aG (bB (i := 2) sc_law_lines.nd rfl (by first | exact Or.inl rfl | exact Or.inr rfl) (j7 (lZ hu) (aH c_law_take hr rfl (aA (pv 0) (aA aD aF))) aD (bV _)))
   (aG (bB (i := 3) sc_law_lines.nd rfl (by first | exact Or.inl rfl | exact Or.inr rfl) (iI aF))
   (aG (iW PassesOwn.never rfl (gQ rfl B.range_ (aA (aH c_law_take hr rfl (aA (pv 0) (aA (bI lX (pv 1) aD) aF))) aF)) (bR (i := 4) sc_law_lines.nd rfl (by first | exact Or.inl rfl | exact Or.inr rfl)) (aG (bB (i := 5) sc_law_lines.nd rfl (by first | exact Or.inl rfl | exact Or.inr rfl) (cW (aA (aH c_law_number hr rfl (aA (pv 0) (aA (pv 2) aF))) (aA (aH c_law_number hr rfl (aA (pv 0) (aA (pv 2) aF))) aF))))
   (aG (bB (i := 6) sc_law_lines.nd rfl (by first | exact Or.inl rfl | exact Or.inr rfl) (aH c_law_take hr rfl (aA (pv 0) (aA aD aF))))
   (aG (dH (PW.pt (qK (bL op_gt (pv 4) aD (bV _)) (lF (bL uV (pv 6) aD (bV _))))) (aG (bB (i := 7) sc_law_lines.nd rfl (by first | exact Or.inl rfl | exact Or.inr rfl) (aV aL (pv 3) (aH c_law_take hr rfl (aA (pv 0) (aA (pv 4) aF))) (fun _ _ => rfl)))
   (aG (bB (i := 8) sc_law_lines.nd rfl (by first | exact Or.inl rfl | exact Or.inr rfl) (cW (aA (bI dU (aH c_law_take hr rfl (aA (pv 0) (aA aD aF))) aD) (aA aD aF))))
   (aG (bB (i := 9) sc_law_lines.nd rfl (by first | exact Or.inl rfl | exact Or.inr rfl) (cW (aA (aV aL (pv 7) aD (fun _ _ => rfl)) (aA (cW (aA (bI dU (aH c_law_take hr rfl (aA (pv 0) (aA aD aF))) aD) (aA aD aF))) aF))))
   (aG (dH (oG (fG (pv 2))) (aN (bB (i := 9) sc_law_lines.nd rfl (by first | exact Or.inl rfl | exact Or.inr rfl) (aH c_law_through hr rfl (aA (pv 8) (aA (aH c_law_spot hr rfl (aA (pv 7) (aA (pv 8) aF))) (aA (aV aL (pv 5) aD (fun _ _ => rfl)) aF)))))) bW)
   (aN (bB (i := 5) sc_law_lines.nd rfl (by first | exact Or.inl rfl | exact Or.inr rfl) (aV aL (iI (aA (pv 7) (aA (cW (aA (aV aL (pv 5) aD (fun _ _ => rfl)) (aA (aV aL (pv 7) aD (fun _ _ => rfl)) aF))) (aA (pv 9) (aA (pv 9) aF))))) (pv 6) (fun _ _ => rfl)))))))) bW)
   (aN (rW (pe_bm PySem.F.plainAttrs_list PySem.F.slot_list_append PySem.F.type_list_append sZ (pv 3) (aA (pv 5) aF))))))))
   (aN (bG (pv 3)))))),
  ((aU (bF (aW (uB (aO (aK (dC (aC aJ aP)))) aJ)))
   (aU (bF (jA bQ))
   (aU (j4 (mV (aQ (aO (aK (dC (aC (v5 aB aJ) aP)))) bQ)) bU (aU (bF (aW (cZ (aQ (aO (aK (dC (aC aB aP)))) (aQ (aO (aK (dC (aC aB aP)))) bQ)))))
   (aU (bF (aW (aO (aK (dC (aC aJ aP))))))
   (aU (dZ (nO (bT (vt_gt aB aJ)) (bT (yS aB aJ))) (aU (bF (aW (vt_peek (aX aB (aO (aK (dC (aC aB aP))))))))
   (aU (bF (aW (cZ (aQ (dO (aO (aK (dC (aC aJ aP)))) aJ) (aQ aJ bQ)))))
   (aU (bF (aW (cZ (aQ (aX aB aJ) (aQ (cZ (aQ (dO (aO (aK (dC (aC aJ aP)))) aJ) (aQ aJ bQ))) bQ)))))
   (aU (dZ (j8 (jP aB)) (bF (aW (aO (aK (aC aB (aC (aO (aK (aC aB (aC aB aP)))) (aC (aX aB aJ) aP))))))) dY)
   (bF (aW (aX (aO (jA (aQ aB (aQ (cZ (aQ (aX aB aJ) (aQ (aX aB aJ) bQ))) (aQ aB (aQ aB bQ)))))) aB))))))) dY)
   (wO aB)))))
   (bH yR)))) : VS P0 _ rB)⟩
abbrev pZ : Stmt := top 46
theorem sc_law_less : FnScope ["_law_a", "_law_b"] ["_law_a", "_law_b"] (aR pZ) := ⟨rfl, rfl, rfl, by decide +kernel, rfl, by decide +kernel, by decide +kernel⟩
theorem ok_law_less {P0 : Addr → Hp → Prop} {P : Program} {w : World} {K : PySem.W.Frag} {mg : Str → Option Value} {base : Heap} {f : Addr} {fd : FuncData} (F : Fun K "_law_less" "_law_less" pZ f fd) (B : Bl K mg) (Kt : Kit K) :
  FnOk P w K mg base CX0 1 f fd ["_law_a", "_law_b"] (spM P0 2 eF) :=
 F.okV sc_law_less rfl rfl fun cdv A outer s H E hr =>
 have hu := hr.units
 ⟨_, (aN (bG (j7 uV (bI bZ (aV aL (pv 0) aD (fun _ _ => rfl)) (aV aL (pv 1) aD (fun _ _ => rfl))) (bI bZ (aV aL (pv 1) aD (fun _ _ => rfl)) (aV aL (pv 0) aD (fun _ _ => rfl))) (bV _)))),
  ((bH (aW (yS (cI (aX aB aJ) (aX aB aJ)) (cI (aX aB aJ) (aX aB aJ))))) : VS P0 _ uF)⟩
abbrev yN : Stmt := top 47
theorem sc_law_ahead : FnScope ["_law_lines_here", "_law_one", "_law_other", "_law_time_here", "_law_here", "_law_there"] ["_law_lines_here", "_law_one", "_law_other", "_law_time_here"] (aR yN) := ⟨rfl, rfl, rfl, by decide +kernel, rfl, by decide +kernel, by decide +kernel⟩
theorem ok_law_ahead {P0 : Addr → Hp → Prop} {P : Program} {w : World} {K : PySem.W.Frag} {mg : Str → Option Value} {base : Heap} {f : Addr} {fd : FuncData} (F : Fun K "_law_ahead" "_law_ahead" yN f fd) (B : Bl K mg) (Kt : Kit K)
  (c_law_less : Cal P w K mg base 1 "_law_less" ["_law_a", "_law_b"] (spM P0 2 eF))
  (c_law_spot : Cal P w K mg base 2 "_law_spot" ["_law_line", "_law_time_here"] (spM P0 2 fQ)) :
  FnOk P w K mg base CX0 3 f fd ["_law_lines_here", "_law_one", "_law_other", "_law_time_here"] (spM P0 4 nR) :=
 F.okV sc_law_ahead rfl rfl fun cdv A outer s H E hr =>
 have hu := hr.units
 ⟨_, (aG (bB (i := 4) sc_law_ahead.nd rfl (by first | exact Or.inl rfl | exact Or.inr rfl) (aH c_law_spot hr rfl (aA (aV aL (pv 0) (pv 1) (fun _ _ => rfl)) (aA (pv 3) aF))))
   (aG (bB (i := 5) sc_law_ahead.nd rfl (by first | exact Or.inl rfl | exact Or.inr rfl) (aH c_law_spot hr rfl (aA (aV aL (pv 0) (pv 2) (fun _ _ => rfl)) (aA (pv 3) aF))))
   (aG (dH (bL (qI hu) (pv 4) (pv 5) (bV _)) (aN (bG (aH c_law_less hr rfl (aA (pv 5) (aA (pv 4) aF))))) bW)
   (aG (dH (bL (qI hu) (aV aL (aV aL (pv 0) (pv 1) (fun _ _ => rfl)) aD (fun _ _ => rfl)) (aV aL (aV aL (pv 0) (pv 2) (fun _ _ => rfl)) aD (fun _ _ => rfl)) (bV _)) (aN (bG (aH c_law_less hr rfl (aA (aV aL (aV aL (pv 0) (pv 2) (fun _ _ => rfl)) aD (fun _ _ => rfl)) (aA (aV aL (aV aL (pv 0) (pv 1) (fun _ _ => rfl)) aD (fun _ _ => rfl)) aF))))) bW)
   (aN (bG (j7 uV (pv 1) (pv 2) (bV _)))))))),
  ((aU (bF (aW (aO (aK (aC (aX aB aB) (aC aB aP))))))
   (aU (bF (aW (aO (aK (aC (aX aB aB) (aC aB aP))))))
   (aU (dZ (bT (vt_ne aB aB)) (bH (aK (aC aB (aC aB aP)))) dY)
   (aU (dZ (bT (vt_ne (aX (aX aB aB) aJ) (aX (aX aB aB) aJ))) (bH (aK (aC (aX (aX aB aB) aJ) (aC (aX (aX aB aB) aJ) aP)))) dY)
   (bH (aW (yS aB aB))))))) : VS P0 _ rR)⟩
abbrev nQ : Stmt := top 48
theorem sc_law_order : FnScope ["_law_lines_here", "_law_time_here", "_law_found", "_law_k", "_law_behind", "_law_other"] ["_law_lines_here", "_law_time_here"] (aR nQ) := ⟨rfl, rfl, rfl, by decide +kernel, rfl, by decide +kernel, by decide +kernel⟩
theorem ok_law_order {P0 : Addr → Hp → Prop} {P : Program} {w : World} {K : PySem.W.Frag} {mg : Str → Option Value} {base : Heap} {f : Addr} {fd : FuncData} (F : Fun K "_law_order" "_law_order" nQ f fd) (B : Bl K mg) (Kt : Kit K)
  (c_law_ahead : Cal P w K mg base 3 "_law_ahead" ["_law_lines_here", "_law_one", "_law_other", "_law_time_here"] (spM P0 4 nR)) :
  FnOk P w K mg base CX0 4 f fd ["_law_lines_here", "_law_time_here"] (spM P0 2 wY) :=
 F.okV sc_law_order rfl rfl fun cdv A outer s H E hr =>
 have hu := hr.units
 ⟨_, (aG (bB (i := 2) sc_law_order.nd rfl (by first | exact Or.inl rfl | exact Or.inr rfl) (iI aF))
   (aG (iW PassesOwn.never rfl (gQ rfl B.range_ (aA (cA bN rfl B.len_ boot_len (aA (pv 0) aF)) aF)) (bR (i := 3) sc_law_order.nd rfl (by first | exact Or.inl rfl | exact Or.inr rfl)) (aG (bB (i := 4) sc_law_order.nd rfl (by first | exact Or.inl rfl | exact Or.inr rfl) (fL (N := ["_law_other", "_law_lines_here", "_law_k", "_law_time_here"]) (nt := 1) (fv := [0, 3, 1]) rfl (jM (osc := aR nQ) (ON := ["_law_lines_here", "_law_time_here", "_law_found", "_law_k", "_law_behind", "_law_other"]) (by decide +kernel)) (dN (pv 2)) (fun _ _ _ _ => (bR (i := 0) (show (["_law_other", "_law_lines_here", "_law_k", "_law_time_here"] : List Str).Nodup by decide +kernel) rfl (by first | exact Or.inl rfl | exact Or.inr rfl))) (fun _ _ _ _ => (pts_one (fG (aH c_law_ahead hr rfl (aA (pv 1) (aA (pv 2) (aA (pv 0) (aA (pv 3) aF)))))))) (fun _ _ _ _ => (pv 0))))
   (aN (bB (i := 2) sc_law_order.nd rfl (by first | exact Or.inl rfl | exact Or.inr rfl) (bI op_cat (bI op_cat (fL (N := ["_law_other", "_law_behind"]) (nt := 1) (fv := [4]) rfl (jM (osc := aR nQ) (ON := ["_law_lines_here", "_law_time_here", "_law_found", "_law_k", "_law_behind", "_law_other"]) (by decide +kernel)) (dN (pv 2)) (fun _ _ _ _ => (bR (i := 0) (show (["_law_other", "_law_behind"] : List Str).Nodup by decide +kernel) rfl (by first | exact Or.inl rfl | exact Or.inr rfl))) (fun _ _ _ _ => (pts_one (bL (op_notInD hu) (pv 0) (pv 1) (by with_unfolding_all rfl)))) (fun _ _ _ _ => (pv 0))) (iI (aA (pv 3) aF))) (pv 4))))))
   (aN (bG (pv 2))))),
  ((aU (bF (aW (aO (jA bQ))))
   (aU (j4 (mV (aQ (j6 aB) bQ)) bU (aU (bF (aW (aO (gB (dM aB) bU (jP (aO (aK (aC aB (aC aB (aC aB (aC aB aP))))))) aB))))
   (bF (aW (aO (vo_cat (aO (vo_cat (aO (gB (dM aB) bU (bT (vt_in aB aB)) aB)) (aO (jA (aQ aB bQ))))) aB))))))
   (bH (aW aB)))) : VS P0 _ rY)⟩
abbrev sV : Stmt := top 49
theorem sc_law_met : FnScope ["_law_lines_here", "_law_one", "_law_other", "_law_a", "_law_b", "_law_top", "_law_bottom"] ["_law_lines_here", "_law_one", "_law_other"] (aR sV) := ⟨rfl, rfl, rfl, by decide +kernel, rfl, by decide +kernel, by decide +kernel⟩
theorem ok_law_met {P0 : Addr → Hp → Prop} {P : Program} {w : World} {K : PySem.W.Frag} {mg : Str → Option Value} {base : Heap} {f : Addr} {fd : FuncData} (F : Fun K "_law_met" "_law_met" sV f fd) (B : Bl K mg) (Kt : Kit K)
  (c_law_lowest : Cal P w K mg base 1 "_law_lowest" ["_law_top", "_law_bottom"] (spM P0 2 bO)) :
  FnOk P w K mg base CX0 2 f fd ["_law_lines_here", "_law_one", "_law_other"] (spM P0 3 j5) :=
 F.okV sc_law_met rfl rfl fun cdv A outer s H E hr =>
 have hu := hr.units
 ⟨_, (aG (ps_par (i := 3) (j := 4) rfl sc_law_met.nd rfl rfl (by decide) rfl rfl (aA (aV aL (pv 0) (pv 1) (fun _ _ => rfl)) (aA (aV aL (pv 0) (pv 2) (fun _ _ => rfl)) aF)) rfl)
   (aG (dH (bL (lZ hu) (aV aL (pv 3) aD (fun _ _ => rfl)) (aV aL (pv 4) aD (fun _ _ => rfl)) (bV _)) (aN (bG gD)) bW)
   (aG (bB (i := 5) sc_law_met.nd rfl (by first | exact Or.inl rfl | exact Or.inr rfl) (bI bZ (bI bZ (bI dU (bI bZ (aV aL (aV aL (pv 4) aD (fun _ _ => rfl)) aD (fun _ _ => rfl)) (aV aL (aV aL (pv 3) aD (fun _ _ => rfl)) aD (fun _ _ => rfl))) (bI bZ (aV aL (aV aL (pv 3) aD (fun _ _ => rfl)) aD (fun _ _ => rfl)) (aV aL (aV aL (pv 4) aD (fun _ _ => rfl)) aD (fun _ _ => rfl)))) (aV aL (aV aL (pv 3) aD (fun _ _ => rfl)) aD (fun _ _ => rfl))) (aV aL (aV aL (pv 4) aD (fun _ _ => rfl)) aD (fun _ _ => rfl))))
   (aG (bB (i := 6) sc_law_met.nd rfl (by first | exact Or.inl rfl | exact Or.inr rfl) (bI bZ (bI bZ (bI dU (bI bZ (aV aL (aV aL (pv 3) aD (fun _ _ => rfl)) aD (fun _ _ => rfl)) (aV aL (aV aL (pv 4) aD (fun _ _ => rfl)) aD (fun _ _ => rfl))) (bI bZ (aV aL (aV aL (pv 4) aD (fun _ _ => rfl)) aD (fun _ _ => rfl)) (aV aL (aV aL (pv 3) aD (fun _ _ => rfl)) aD (fun _ _ => rfl)))) (aV aL (aV aL (pv 3) aD (fun _ _ => rfl)) aD (fun _ _ => rfl))) (aV aL (aV aL (pv 4) aD (fun _ _ => rfl)) aD (fun _ _ => rfl))))
   (aG (dH (bL uV (pv 6) aD (bV _)) (aN (ps_par (i := 5) (j := 6) rfl sc_law_met.nd rfl rfl (by decide) rfl rfl (aA (bI dU aD (pv 5)) (aA (bI dU aD (pv 6)) aF)) rfl)) bW)
   (aN (bG (aH c_law_lowest hr rfl (aA (pv 5) (aA (pv 6) aF)))))))))),
  ((aU (vs_par (aQ (aX aB aB) (aQ (aX aB aB) bQ)))
   (aU (dZ (bT (uB (aX aB aJ) (aX aB aJ))) (bH (aW uW)) dY)
   (aU (bF (aW (cI (cI (dO (cI (aX (aX aB aJ) aJ) (aX (aX aB aJ) aJ)) (cI (aX (aX aB aJ) aJ) (aX (aX aB aJ) aJ))) (aX (aX aB aJ) aJ)) (aX (aX aB aJ) aJ))))
   (aU (bF (aW (cI (cI (dO (cI (aX (aX aB aJ) aJ) (aX (aX aB aJ) aJ)) (cI (aX (aX aB aJ) aJ) (aX (aX aB aJ) aJ))) (aX (aX aB aJ) aJ)) (aX (aX aB aJ) aJ))))
   (aU (dZ (bT (yS aB aJ)) (vs_par (aQ (dO aJ aB) (aQ (dO aJ aB) bQ))) dY)
   (bH (aK (aC aB (aC aB aP))))))))) : VS P0 _ yG)⟩
abbrev jX : Stmt := top 50
theorem sc_law_met_times : FnScope ["_law_lines_here", "_law_found", "_law_one", "_law_other", "_law_time_here", "_law_at", "_law_old"] ["_law_lines_here"] (aR jX) := ⟨rfl, rfl, rfl, by decide +kernel, rfl, by decide +kernel, by decide +kernel⟩
theorem ok_law_met_times {P0 : Addr → Hp → Prop} {P : Program} {w : World} {K : PySem.W.Frag} {mg : Str → Option Value} {base : Heap} {f : Addr} {fd : FuncData} (F : Fun K "_law_met_times" "_law_met_times" jX f fd) (B : Bl K mg) (Kt : Kit K)
  (c_law_less : Cal P w K mg base 1 "_law_less" ["_law_a", "_law_b"] (spM P0 2 eF))
  (c_law_met : Cal P w K mg base 2 "_law_met" ["_law_lines_here", "_law_one", "_law_other"] (spM P0 3 j5)) :
  FnOk P w K mg base CX0 3 f fd ["_law_lines_here"] (spM P0 1 oV) :=
 F.okV sc_law_met_times rfl rfl fun cdv A outer s H E hr =>
 have hu := hr.units
 ⟨_, (aG (bB (i := 1) sc_law_met_times.nd rfl (by first | exact Or.inl rfl | exact Or.inr rfl) (iI aF))
   (aG (iW PassesOwn.never rfl (gQ rfl B.range_ (aA (cA bN rfl B.len_ boot_len (aA (pv 0) aF)) aF)) (bR (i := 2) sc_law_met_times.nd rfl (by first | exact Or.inl rfl | exact Or.inr rfl)) (aN (iW PassesOwn.never rfl (gQ rfl B.range_ (aA (pv 2) aF)) (bR (i := 3) sc_law_met_times.nd rfl (by first | exact Or.inl rfl | exact Or.inr rfl)) (aG (bB (i := 4) sc_law_met_times.nd rfl (by first | exact Or.inl rfl | exact Or.inr rfl) (aH c_law_met hr rfl (aA (pv 0) (aA (pv 2) (aA (pv 3) aF)))))
   (aN (dH (PW.pt (qK (bL xW (pv 4) gD (bV _)) (lF (bL (op_notInD hu) (pv 4) (pv 1) (by with_unfolding_all rfl))))) (aG (bB (i := 5) sc_law_met_times.nd rfl (by first | exact Or.inl rfl | exact Or.inr rfl) (cA bN rfl B.len_ boot_len (aA (fL (N := ["_law_old", "_law_time_here"]) (nt := 1) (fv := [4]) rfl (jM (osc := aR jX) (ON := ["_law_lines_here", "_law_found", "_law_one", "_law_other", "_law_time_here", "_law_at", "_law_old"]) (by decide +kernel)) (dN (pv 1)) (fun _ _ _ _ => (bR (i := 0) (show (["_law_old", "_law_time_here"] : List Str).Nodup by decide +kernel) rfl (by first | exact Or.inl rfl | exact Or.inr rfl))) (fun _ _ _ _ => (pts_one (fG (aH c_law_less hr rfl (aA (pv 0) (aA (pv 1) aF)))))) (fun _ _ _ _ => (pv 0))) aF)))
   (aN (rW (pe_bm PySem.F.plainAttrs_list PySem.F.slot_list_insert PySem.F.type_list_insert yJ (pv 1) (aA (pv 5) (aA (pv 4) aF)))))) bW))))))
   (aN (bG (pv 1))))),
  ((aU (bF (jA bQ))
   (aU (j4 (mV (aQ (j6 aB) bQ)) bU (j4 (mV (aQ aB bQ)) bU (aU (bF (aW (aO (aK (aC aB (aC aB (aC aB aP)))))))
   (dZ (t8 (nO (bT (yU aB)) (bT (vt_in aB aB)))) (aU (bF (aW (vt_peek (j6 (aO (gB (dM aB) bU (jP (aO (aK (aC aB (aC aB aP))))) aB))))))
   (xK aB aB)) dY))))
   (bH yR))) : VS P0 _ jR)⟩
abbrev pQ : Stmt := top 51
theorem sc_law_time : FnScope ["_law_pen", "_law_lines_here", "_law_way", "_law_one", "_law_other", "_law_time_here"] ["_law_pen", "_law_lines_here"] (aR pQ) := ⟨rfl, rfl, rfl, by decide +kernel, rfl, by decide +kernel, by decide +kernel⟩
theorem ok_law_time {P0 : Addr → Hp → Prop} {P : Program} {w : World} {K : PySem.W.Frag} {mg : Str → Option Value} {base : Heap} {f : Addr} {fd : FuncData} (F : Fun K "_law_time" "_law_time" pQ f fd) (B : Bl K mg) (Kt : Kit K)
  (c_law_lowest : Cal P w K mg base 1 "_law_lowest" ["_law_top", "_law_bottom"] (spM P0 2 bO))
  (c_law_take : Cal P w K mg base 1 "_law_take" ["_law_pen", "_law_many"] (spM P0 2 bC))
  (c_law_met : Cal P w K mg base 2 "_law_met" ["_law_lines_here", "_law_one", "_law_other"] (spM P0 3 j5)) :
  FnOk P w K mg base CX0 3 f fd ["_law_pen", "_law_lines_here"] (spM P0 2 jJ) :=
 F.okV sc_law_time rfl rfl fun cdv A outer s H E hr =>
 have hu := hr.units
 ⟨_, (aG (bB (i := 2) sc_law_time.nd rfl (by first | exact Or.inl rfl | exact Or.inr rfl) (aH c_law_take hr rfl (aA (pv 0) (aA aD aF))))
   (aG (dH (PW.pt (qK (bL uV (pv 2) aD (bV _)) (lF (bL op_gt (cA bN rfl B.len_ boot_len (aA (pv 1) aF)) aD (bV _))))) (aG (bB (i := 3) sc_law_time.nd rfl (by first | exact Or.inl rfl | exact Or.inr rfl) (aH c_law_take hr rfl (aA (pv 0) (aA (cA bN rfl B.len_ boot_len (aA (pv 1) aF)) aF))))
   (aG (bB (i := 4) sc_law_time.nd rfl (by first | exact Or.inl rfl | exact Or.inr rfl) (aH c_law_take hr rfl (aA (pv 0) (aA (cA bN rfl B.len_ boot_len (aA (pv 1) aF)) aF))))
   (aG (bB (i := 5) sc_law_time.nd rfl (by first | exact Or.inl rfl | exact Or.inr rfl) (aH c_law_met hr rfl (aA (pv 1) (aA (pv 3) (aA (pv 4) aF)))))
   (aN (dH (bL xW (pv 5) gD (bV _)) (aN (bG (pv 5))) bW))))) bW)
   (aG (dH (bL (lZ hu) (pv 2) aD (bV _)) (aN (bG (cW (aA (bI bZ (bI bZ (aH c_law_take hr rfl (aA (pv 0) (aA (uE (v := 1000000000) (by decide) ⟨by decide, by decide, by decide⟩) aF))) (aV aL (iI (aA aD (aA (pe_un yP aD) aF))) (aH c_law_take hr rfl (aA (pv 0) (aA aD aF))) (fun _ _ => rfl))) (uE (v := 1000000) (by decide) ⟨by decide, by decide, by decide⟩)) (aA aD aF))))) bW)
   (aN (bG (aH c_law_lowest hr rfl (aA (bI dU (aH c_law_take hr rfl (aA (pv 0) (aA aD aF))) aD) (aA (bI lX aD (aH c_law_take hr rfl (aA (pv 0) (aA aD aF)))) aF)))))))),
  ((aU (bF (aW (aO (aK (dC (aC aJ aP))))))
   (aU (dZ (nO (bT (yS aB aJ)) (bT (vt_gt (j6 aB) aJ))) (aU (bF (aW (aO (aK (dC (aC (j6 aB) aP))))))
   (aU (bF (aW (aO (aK (dC (aC (j6 aB) aP))))))
   (aU (bF (aW (aO (aK (aC aB (aC aB (aC aB aP)))))))
   (dZ (bT (yU aB)) (bH (aW aB)) dY)))) dY)
   (aU (dZ (bT (uB aB aJ)) (bH (aW (cZ (aQ (cI (cI (aO (aK (dC (aC aJ aP)))) (aX (aO (jA (aQ aJ (aQ (yZ aJ) bQ)))) (aO (aK (dC (aC aJ aP)))))) aJ) (aQ aJ bQ))))) dY)
   (bH (aK (aC (dO (aO (aK (dC (aC aJ aP)))) aJ) (aC (v5 aJ (aO (aK (dC (aC aJ aP))))) aP))))))) : VS P0 _ uA)⟩
abbrev nD : Stmt := top 52
theorem sc_law_below : FnScope ["_law_number_here"] ["_law_number_here"] (aR nD) := ⟨rfl, rfl, rfl, by decide +kernel, rfl, by decide +kernel, by decide +kernel⟩
theorem ok_law_below {P0 : Addr → Hp → Prop} {P : Program} {w : World} {K : PySem.W.Frag} {mg : Str → Option Value} {base : Heap} {f : Addr} {fd : FuncData} (F : Fun K "_law_below" "_law_below" nD f fd) (B : Bl K mg) (Kt : Kit K) :
  FnOk P w K mg base CX0 1 f fd ["_law_number_here"] (spM P0 1 iM) :=
 F.okV sc_law_below rfl rfl fun cdv A outer s H E hr =>
 have hu := hr.units
 ⟨_, (aN (bG (cW (aA (bI dU aD (aV aL (pv 0) aD (fun _ _ => rfl))) (aA (aV aL (pv 0) aD (fun _ _ => rfl)) aF))))),
  ((bH (aW (cZ (aQ (dO aJ (aX aB aJ)) (aQ (aX aB aJ) bQ))))) : VS P0 _ sE)⟩
abbrev eH : Stmt := top 53
theorem sc_law_at_right : FnScope ["_law_lines_here", "_law_about", "_law_time_here", "_law_last", "_law_order_here", "_law_runner", "_law_papers", "_law_one", "_law_other", "_law_till", "_law_told", "_law_found", "_law_near"] ["_law_lines_here", "_law_about", "_law_time_here"] (aR eH) := ⟨rfl, rfl, rfl, by decide +kernel, rfl, by decide +kernel, by decide +kernel⟩
theorem xF {P0 : Addr → Hp → Prop} {P : Program} {w : World} {K : PySem.W.Frag} {mg : Str → Option Value} {base : Heap} {f : Addr} {fd : FuncData} (F : Fun K "_law_at_right" "_law_at_right" eH f fd) (B : Bl K mg) (Kt : Kit K)
  (c_nearest : Cal P w K mg base 8 "nearest" ["lines", "time"] (spM P0 2 jU))
  (c_is_ahead : Cal P w K mg base 6 "is_ahead" ["lines", "one", "other", "time"] (spM P0 4 cX))
  (c_shown : Cal P w K mg base 9 "shown" ["lines", "time", "papers"] (spM P0 3 rG))
  (c_papers_at : Cal P w K mg base 9 "papers_at" ["lines", "time"] (spM P0 2 f9))
  (c_is_right : Cal P w K mg base 8 "is_right" ["lines", "time", "paper"] (spM P0 3 fP))
  (c_order_at : Cal P w K mg base 7 "order_at" ["lines", "time"] (spM P0 2 cB)) :
  FnOk P w K mg base CX0 10 f fd ["_law_lines_here", "_law_about", "_law_time_here"] (spM P0 3 fZ) :=
 F.okV sc_law_at_right rfl rfl fun cdv A outer s H E hr =>
 have hu := hr.units
 ⟨_, (aG (bB (i := 3) sc_law_at_right.nd rfl (by first | exact Or.inl rfl | exact Or.inr rfl) (bI dU (cA bN rfl B.len_ boot_len (aA (pv 0) aF)) aD))
   (aG (bB (i := 4) sc_law_at_right.nd rfl (by first | exact Or.inl rfl | exact Or.inr rfl) (aH c_order_at hr rfl (aA (pv 0) (aA (pv 2) aF))))
   (aG (dH (bL (qI hu) (aH c_order_at hr rfl (aA (pv 1) (aA (pv 2) aF))) (fL (N := ["_law_runner", "_law_last"]) (nt := 1) (fv := [3]) rfl (jM (osc := aR eH) (ON := ["_law_lines_here", "_law_about", "_law_time_here", "_law_last", "_law_order_here", "_law_runner", "_law_papers", "_law_one", "_law_other", "_law_till", "_law_told", "_law_found", "_law_near"]) (by decide +kernel)) (dN (pe_step (pv 4) (pe_un yP aD))) (fun _ _ _ _ => (bR (i := 0) (show (["_law_runner", "_law_last"] : List Str).Nodup by decide +kernel) rfl (by first | exact Or.inl rfl | exact Or.inr rfl))) (fun _ _ _ _ => jV) (fun _ _ _ _ => (bI dU (pv 1) (pv 0)))) (bV _)) (aN (bG pe_bl)) bW)
   (aG (bB (i := 6) sc_law_at_right.nd rfl (by first | exact Or.inl rfl | exact Or.inr rfl) (aH c_papers_at hr rfl (aA (pv 0) (aA (pv 2) aF))))
   (aG (dH (bL (qI hu) (aH c_papers_at hr rfl (aA (pv 1) (aA (pv 2) aF))) (fL (N := ["_law_one", "_law_other", "_law_till", "_law_last"]) (nt := 3) (fv := [3]) rfl (jM (osc := aR eH) (ON := ["_law_lines_here", "_law_about", "_law_time_here", "_law_last", "_law_order_here", "_law_runner", "_law_papers", "_law_one", "_law_other", "_law_till", "_law_told", "_law_found", "_law_near"]) (by decide +kernel)) (dN (pe_step (pv 6) (pe_un yP aD))) (fun _ _ _ _ => (tX rfl (cP (bR (i := 0) (show (["_law_one", "_law_other", "_law_till", "_law_last"] : List Str).Nodup by decide +kernel) rfl (by first | exact Or.inl rfl | exact Or.inr rfl)) (cP (bR (i := 1) (show (["_law_one", "_law_other", "_law_till", "_law_last"] : List Str).Nodup by decide +kernel) rfl (by first | exact Or.inl rfl | exact Or.inr rfl)) (cP (bR (i := 2) (show (["_law_one", "_law_other", "_law_till", "_law_last"] : List Str).Nodup by decide +kernel) rfl (by first | exact Or.inl rfl | exact Or.inr rfl)) nU))))) (fun _ _ _ _ => jV) (fun _ _ _ _ => (cW (aA (bI dU (pv 3) (pv 1)) (aA (bI dU (pv 3) (pv 0)) (aA (pv 2) aF)))))) (bV _)) (aN (bG pe_bl)) bW)
   (aG (iW PassesOwn.never rfl (dN (pv 6)) (tX rfl (cP (bR (i := 7) sc_law_at_right.nd rfl (by first | exact Or.inl rfl | exact Or.inr rfl)) (cP (bR (i := 8) sc_law_at_right.nd rfl (by first | exact Or.inl rfl | exact Or.inr rfl)) (cP (bR (i := 9) sc_law_at_right.nd rfl (by first | exact Or.inl rfl | exact Or.inr rfl)) nU)))) (aN (dH (oG (fG (aH c_is_right hr rfl (aA (pv 1) (aA (pv 2) (aA (cW (aA (bI dU (pv 3) (pv 8)) (aA (bI dU (pv 3) (pv 7)) (aA (pv 9) aF)))) aF)))))) (aN (bG pe_bl)) bW)))
   (aG (bB (i := 10) sc_law_at_right.nd rfl (by first | exact Or.inl rfl | exact Or.inr rfl) (aH c_shown hr rfl (aA (pv 0) (aA (pv 2) (aA (pv 6) aF)))))
   (aG (bB (i := 11) sc_law_at_right.nd rfl (by first | exact Or.inl rfl | exact Or.inr rfl) (aH c_shown hr rfl (aA (pv 1) (aA (pv 2) (aA (aH c_papers_at hr rfl (aA (pv 1) (aA (pv 2) aF))) aF)))))
   (aG (dH (PW.pt (pw_or (bL wR (pv 10) gD (bV _)) (pw_or (bL wR (pv 11) gD (bV _)) (pw_or1 (bL (qI hu) (aV aL (pv 10) aD (fun _ _ => rfl)) (aV aL (pv 11) aD (fun _ _ => rfl)) (bV _)))))) (aN (bG pe_bl)) bW)
   (aG (iW PassesOwn.never rfl (gQ rfl B.range_ (aA (cA bN rfl B.len_ boot_len (aA (pv 0) aF)) aF)) (bR (i := 7) sc_law_at_right.nd rfl (by first | exact Or.inl rfl | exact Or.inr rfl)) (aN (iW PassesOwn.never rfl (gQ rfl B.range_ (aA (pv 7) aF)) (bR (i := 8) sc_law_at_right.nd rfl (by first | exact Or.inl rfl | exact Or.inr rfl)) (aN (dH (bL (lZ hu) (aH c_is_ahead hr rfl (aA (pv 1) (aA (bI dU (pv 3) (pv 7)) (aA (bI dU (pv 3) (pv 8)) (aA (pv 2) aF))))) (aH c_is_ahead hr rfl (aA (pv 0) (aA (pv 7) (aA (pv 8) (aA (pv 2) aF))))) (bV _)) (aN (bG pe_bl)) bW)))))
   (aG (bB (i := 12) sc_law_at_right.nd rfl (by first | exact Or.inl rfl | exact Or.inr rfl) (aH c_nearest hr rfl (aA (pv 0) (aA (pv 2) aF))))
   (aN (bG (pe_or (j7 wR (pv 12) gD (bV _)) (pe_one (j7 (lZ hu) (aV aL (aH c_nearest hr rfl (aA (pv 1) (aA (pv 2) aF))) aD (fun _ _ => rfl)) (aV aL (pv 12) aD (fun _ _ => rfl)) (bV _))))))))))))))))),
  ((aU (bF (aW (dO (j6 aB) aJ)))
   (aU (bF (aW (aO (aK (aC aB (aC aB aP))))))
   (aU (dZ (bT (vt_ne (aO (aK (aC aB (aC aB aP)))) (aO (gB (dM (aO (vo_step aB (yZ aJ)))) bU iD (dO aB aB))))) (bH (aW zG)) dY)
   (aU (bF (aW (aO (aK (aC aB (aC aB aP))))))
   (aU (dZ (bT (vt_ne (aO (aK (aC aB (aC aB aP)))) (aO (gB (dM (aO (vo_step aB (yZ aJ)))) (tG (cQ bU (cQ bU (cQ bU nH)))) iD (cZ (aQ (dO aB aB) (aQ (dO aB aB) (aQ aB bQ)))))))) (bH (aW zG)) dY)
   (aU (j4 (dM aB) (tG (cQ bU (cQ bU (cQ bU nH)))) (dZ (j8 (jP (aO (aK (aC aB (aC aB (aC (cZ (aQ (dO aB aB) (aQ (dO aB aB) (aQ aB bQ)))) aP))))))) (bH (aW zG)) dY))
   (aU (bF (aW (aO (aK (aC aB (aC aB (aC aB aP)))))))
   (aU (bF (aW (aO (aK (aC aB (aC aB (aC (aO (aK (aC aB (aC aB aP)))) aP)))))))
   (aU (dZ (v9 (bT (xH aB)) (v9 (bT (xH aB)) (bT (vt_ne (aX aB aJ) (aX aB aJ))))) (bH (aW zG)) dY)
   (aU (j4 (mV (aQ (j6 aB) bQ)) bU (j4 (mV (aQ aB bQ)) bU (dZ (bT (uB (aO (aK (aC aB (aC (dO aB aB) (aC (dO aB aB) (aC aB aP)))))) (aO (aK (aC aB (aC aB (aC aB (aC aB aP)))))))) (bH (aW zG)) dY)))
   (aU (bF (aW (aO (aK (aC aB (aC aB aP))))))
   (bH (aW (vt_or (xH aB) (uB (aX (aO (aK (aC aB (aC aB aP)))) aJ) (aX aB aJ)))))))))))))))) : VS P0 _ lL)⟩
abbrev s_law : Stmt := top 54
theorem sc_law : FnScope ["_law_script", "_law_pen", "_law_lines_here", "_law_last", "_law_about", "_law_start", "_law_slope", "_law_low", "_law_high", "_law_time_here", "_law_turn", "_law_k", "_law_runner", "_law_since", "_law_due", "_law_pairs", "_law_one", "_law_other"] ["_law_script"] (aR s_law) := ⟨rfl, rfl, rfl, by decide +kernel, rfl, by decide +kernel, by decide +kernel⟩
theorem ok_law {P : Program} {w : World} {K : PySem.W.Frag} {mg : Str → Option Value} {base : Heap} {f : Addr} {fd : FuncData} (F : Fun K "law" "law" s_law f fd) (B : Bl K mg) (Kt : Kit K)
  (c_changes : ∀ a ns, Cal P w K mg base 6 "changes" ["lines", "low", "high"] (spM (b8 K a ns) 3 lN))
  (c_rank_row : ∀ a ns, Cal P w K mg base 8 "rank_row" ["lines", "k"] (spM (b8 K a ns) 2 jK))
  (c_law_take : ∀ a ns, Cal P w K mg base 1 "_law_take" ["_law_pen", "_law_many"] (spM (b8 K a ns) 2 bC))
  (c_law_at_right : ∀ a ns, Cal P w K mg base 10 "_law_at_right" ["_law_lines_here", "_law_about", "_law_time_here"] (spM (b8 K a ns) 3 fZ))
  (c_law_less : ∀ a ns, Cal P w K mg base 1 "_law_less" ["_law_a", "_law_b"] (spM (b8 K a ns) 2 eF))
  (c_law_time : ∀ a ns, Cal P w K mg base 3 "_law_time" ["_law_pen", "_law_lines_here"] (spM (b8 K a ns) 2 jJ))
  (c_law_below : ∀ a ns, Cal P w K mg base 1 "_law_below" ["_law_number_here"] (spM (b8 K a ns) 1 iM))
  (c_law_lines : ∀ a ns, Cal P w K mg base 3 "_law_lines" ["_law_pen", "_law_most"] (spM (b8 K a ns) 2 jO))
  (hL : b_law (.no :: .pen :: List.replicate 16 .no) nG) :
  FnOk P w K mg base CX0 11 f fd ["_law_script"] (spLaw K) := by
 refine F.ok sc_law (fun vs H Q E h => ?_) (fun cdv A outer s H vs Q E hr h => ?_)
 ·obtain ⟨a, ns, rfl, hS, h63, q⟩ := h
  rfl
 have hu := hr.units
 obtain ⟨a, ns, rfl, hS, h63, q⟩ := h
 have c_changes := c_changes a ns
 have c_rank_row := c_rank_row a ns
 have c_law_take := c_law_take a ns
 have c_law_at_right := c_law_at_right a ns
 have c_law_less := c_law_less a ns
 have c_law_time := c_law_time a ns
 have c_law_below := c_law_below a ns
 have c_law_lines := c_law_lines a ns
 exact law_body2 (k := 16) (bB (i := 1) sc_law.nd rfl (by first | exact Or.inl rfl | exact Or.inr rfl) (iI (aA aD (aA aD (aA (pv 0) aF))))) ⟨_, (aG (bB (i := 2) sc_law.nd rfl (by first | exact Or.inl rfl | exact Or.inr rfl) (aH c_law_lines hr rfl (aA (pv 1) (aA aD aF))))
   (aG (bB (i := 3) sc_law.nd rfl (by first | exact Or.inl rfl | exact Or.inr rfl) (bI dU (cA bN rfl B.len_ boot_len (aA (pv 2) aF)) aD))
   (aG (ps_setC (N := ["_law_start", "_law_slope"]) (nt := 2) (fv := []) (i := 4) sc_law.nd rfl rfl rfl (jM (osc := aR s_law) (ON := ["_law_script", "_law_pen", "_law_lines_here", "_law_last", "_law_about", "_law_start", "_law_slope", "_law_low", "_law_high", "_law_time_here", "_law_turn", "_law_k", "_law_runner", "_law_since", "_law_due", "_law_pairs", "_law_one", "_law_other"]) (by decide +kernel)) (dN (pe_step (pv 2) (pe_un yP aD))) (fun _ _ _ _ => (tX rfl (cP (bR (i := 0) (show (["_law_start", "_law_slope"] : List Str).Nodup by decide +kernel) rfl (by first | exact Or.inl rfl | exact Or.inr rfl)) (cP (bR (i := 1) (show (["_law_start", "_law_slope"] : List Str).Nodup by decide +kernel) rfl (by first | exact Or.inl rfl | exact Or.inr rfl)) nU)))) (fun _ _ _ _ => jV) (fun _ _ _ _ => (cW (aA (aH c_law_below hr rfl (aA (pv 0) aF)) (aA (aH c_law_below hr rfl (aA (pv 1) aF)) aF)))))
   (aG (bB (i := 7) sc_law.nd rfl (by first | exact Or.inl rfl | exact Or.inr rfl) (aH c_law_time hr rfl (aA (pv 1) (aA (pv 2) aF))))
   (aG (bB (i := 8) sc_law.nd rfl (by first | exact Or.inl rfl | exact Or.inr rfl) (aH c_law_time hr rfl (aA (pv 1) (aA (pv 2) aF))))
   (aG (dH (fG (aH c_law_less hr rfl (aA (pv 8) (aA (pv 7) aF)))) (aN (ps_par (i := 7) (j := 8) rfl sc_law.nd rfl rfl (by decide) rfl rfl (aA (pv 8) (aA (pv 7) aF)) rfl)) bW)
   (aG (iW PassesOwn.never rfl (pi_tup (cW (aA (pv 7) (aA (pv 8) aF)))) (bR (i := 9) sc_law.nd rfl (by first | exact Or.inl rfl | exact Or.inr rfl)) (aN (dH (oG (fG (aH c_law_at_right hr rfl (aA (pv 2) (aA (pv 4) (aA (pv 9) aF)))))) (aN (bG pe_bl)) bW)))
   (aG (iW PassesOwn.never rfl (gQ rfl B.range_ (aA (bI bZ aD (pB call_int1 rfl B.int_ boot_int (aA (j7 op_ge (pv 3) aD (bV _)) aF))) aF)) (bR (i := 10) sc_law.nd rfl (by first | exact Or.inl rfl | exact Or.inr rfl)) (aG (bB (i := 11) sc_law.nd rfl (by first | exact Or.inl rfl | exact Or.inr rfl) (aH c_law_take hr rfl (aA (pv 1) (aA (cA bN rfl B.len_ boot_len (aA (pv 2) aF)) aF))))
   (aN (dH (bL (qI hu) (aH c_rank_row hr rfl (aA (pv 4) (aA (bI dU (pv 3) (pv 11)) aF))) (fL (N := ["_law_runner", "_law_since", "_law_last"]) (nt := 2) (fv := [3]) rfl (jM (osc := aR s_law) (ON := ["_law_script", "_law_pen", "_law_lines_here", "_law_last", "_law_about", "_law_start", "_law_slope", "_law_low", "_law_high", "_law_time_here", "_law_turn", "_law_k", "_law_runner", "_law_since", "_law_due", "_law_pairs", "_law_one", "_law_other"]) (by decide +kernel)) (dN (aH c_rank_row hr rfl (aA (pv 2) (aA (pv 11) aF)))) (fun _ _ _ _ => (tX rfl (cP (bR (i := 0) (show (["_law_runner", "_law_since", "_law_last"] : List Str).Nodup by decide +kernel) rfl (by first | exact Or.inl rfl | exact Or.inr rfl)) (cP (bR (i := 1) (show (["_law_runner", "_law_since", "_law_last"] : List Str).Nodup by decide +kernel) rfl (by first | exact Or.inl rfl | exact Or.inr rfl)) nU)))) (fun _ _ _ _ => jV) (fun _ _ _ _ => (cW (aA (bI dU (pv 2) (pv 0)) (aA (pv 1) aF))))) (bV _)) (aN (bG pe_bl)) bW))))
   (aG (bB (i := 14) sc_law.nd rfl (by first | exact Or.inl rfl | exact Or.inr rfl) (iI aF))
   (aG (iW PassesOwn.never rfl (dN (aH c_changes hr rfl (aA (pv 2) (aA (pv 7) (aA (pv 8) aF))))) (tX rfl (cP (bR (i := 9) sc_law.nd rfl (by first | exact Or.inl rfl | exact Or.inr rfl)) (cP (bR (i := 15) sc_law.nd rfl (by first | exact Or.inl rfl | exact Or.inr rfl)) nU))) (aN (rW (pe_bm PySem.F.plainAttrs_list PySem.F.slot_list_append PySem.F.type_list_append sZ (pv 14) (aA (cW (aA (pv 9) (aA (cA call_sortN rfl B.sorted_ boot_sorted (aA (fL (N := ["_law_one", "_law_other", "_law_last"]) (nt := 2) (fv := [3]) rfl (jM (osc := aR s_law) (ON := ["_law_script", "_law_pen", "_law_lines_here", "_law_last", "_law_about", "_law_start", "_law_slope", "_law_low", "_law_high", "_law_time_here", "_law_turn", "_law_k", "_law_runner", "_law_since", "_law_due", "_law_pairs", "_law_one", "_law_other"]) (by decide +kernel)) (dN (pv 15)) (fun _ _ _ _ => (tX rfl (cP (bR (i := 0) (show (["_law_one", "_law_other", "_law_last"] : List Str).Nodup by decide +kernel) rfl (by first | exact Or.inl rfl | exact Or.inr rfl)) (cP (bR (i := 1) (show (["_law_one", "_law_other", "_law_last"] : List Str).Nodup by decide +kernel) rfl (by first | exact Or.inl rfl | exact Or.inr rfl)) nU)))) (fun _ _ _ _ => jV) (fun _ _ _ _ => (cW (aA (bI dU (pv 2) (pv 1)) (aA (bI dU (pv 2) (pv 0)) aF))))) aF)) aF))) aF)))))
   (aN (bG (j7 (lZ hu) (aH c_changes hr rfl (aA (pv 4) (aA (pv 7) (aA (pv 8) aF)))) (pv 14) (bV _)))))))))))))),
  ((aU (bF (aW (aO (aK (dC (aC aJ aP))))))
   (aU (bF (aW (dO (j6 aB) aJ)))
   (aU (bF (aW (aO (gB (dM (aO (vo_step aB (yZ aJ)))) (tG (cQ bU (cQ bU nH))) iD (cZ (aQ (aO (aK (aC aB aP))) (aQ (aO (aK (aC aB aP))) bQ)))))))
   (aU (bF (aW (aO (aK (dC (aC aB aP))))))
   (aU (bF (aW (aO (aK (dC (aC aB aP))))))
   (aU (dZ (jP (aO (aK (aC aB (aC aB aP))))) (vs_par (aQ aB (aQ aB bQ))) dY)
   (aU (j4 (vi_tup (cZ (aQ aB (aQ aB bQ)))) bU (dZ (j8 (jP (aO (aK (aC aB (aC aB (aC aB aP))))))) (bH (aW zG)) dY))
   (aU (j4 (mV (aQ (cI aJ (vt_int1 (vt_ge aB aJ))) bQ)) bU (aU (bF (aW (aO (aK (dC (aC (j6 aB) aP))))))
   (dZ (bT (vt_ne (aO (aK (aC aB (aC (dO aB aB) aP)))) (aO (gB (dM (aO (aK (aC aB (aC aB aP))))) (tG (cQ bU (cQ bU nH))) iD (cZ (aQ (dO aB aB) (aQ aB bQ))))))) (bH (aW zG)) dY)))
   (aU (bF (jA bQ))
   (aU (j4 (dM (aO (aK (aC aB (aC aB (aC aB aP)))))) (tG (cQ bU (cQ bU nH))) (wO (cZ (aQ aB (aQ (aO (vo_sortN (aO (gB (dM aB) (tG (cQ bU (cQ bU nH))) iD (cZ (aQ (dO aB aB) (aQ (dO aB aB) bQ))))))) bQ)))))
   (vs_pub (bH (aW (uB (aO (aK (aC aB (aC aB (aC aB aP))))) aB)))))))))))))) : VS (b8 K a ns) _ b_law)⟩ rfl hS hL q
section
variable {Q : Rv → Prop}
theorem t_whole {i : Int} (q : Q (.val (.bool true))) : eE [.val (.int i)] Q := by
 refine kY ?_
 unfold uU
 walk_at "!?Ęĥ&ķĦĥ("
 exact q
theorem t_gcd {a b : Int} (q : Q (.val (.int (Int.gcd a b : Nat)))) : cR [.val (.int a), .val (.int b)] Q := by
 refine kY ?_
 unfold gJ iU iV
 walk_at "!$ę&$ę&b#"
 refine t7 (fun n Γ => ∃ d r x, Γ = [.val (.int a), .val (.int b), .val (.int d), .val (.int r), x] ∧ 0 ≤ d ∧ 0 ≤ r ∧ Int.gcd d r = Int.gcd a b ∧ n = r.toNat) _ ⟨_, _, .no, rfl, abs_nn a, abs_nn b, abs_gcd a b, rfl⟩ ?_
 rintro m Γ ⟨d, r, x, rfl, hd, hr, hg, rfl⟩
 walk_at "!2cz{#"
 refine iteN2 (fun c => ?_) (fun c => ?_)
 ·have hp : 0 < r := by omega
  walk_at "!$m"
  refine ⟨hp, ?_⟩
  walk_at "!$&n("
  have h1 := Int.emod_nonneg d (b := r) (by omega)
  have h2 := Int.emod_lt_of_pos d hp
  exact ⟨_, by omega, _, _, _, rfl, hr, h1, (gcd_step hd hp).trans hg, rfl⟩
 ·subst c
  have e := gcd_end hd
  rw [hg] at e
  walk_at "!?("
  rw [e] at q
  exact q
theorem mL {t b : Int} (h0 : b ≠ 0) (hb : Bt 9000 b) (q : Q (.val (cG (Rat.divInt t b)))) : cF [.val (.int t), .val (.int b)] Q := by
 have g0 := gcd_ne (t := t) h0
 have g1 := gcd_bt (t := t) hb h0
 refine kY ?_
 unfold rZ qM qR
 walk_at "!O|P["
 refine t_whole ?_
 walk_at "!]|P["
 refine t_whole ?_
 walk_at "!]2Qz{#"
 refine iteD0 h0 ?_
 walk_at "!5$7"
 refine t_gcd ?_
 walk_at "!@V"
 refine gO (fun c => ?_) (fun c => ?_)
 ·have n := norm_neg (t := t) c
  walk_at "!n}&dm"
  refine ⟨⟨by omega, g1.neg⟩, ?_⟩
  walk_at "!*m"
  refine ⟨⟨by omega, g1.neg⟩, ?_⟩
  walk_at "!/"
  rw [n.1, n.2]
  exact q
 ·have n := pI (t := t) (b := b) (by omega)
  walk_at "!5dm"
  refine ⟨⟨g0, g1⟩, ?_⟩
  walk_at "!*m"
  refine ⟨⟨g0, g1⟩, ?_⟩
  walk_at "!/"
  rw [n.1, n.2]
  exact q
theorem t_sum_of {a b : Rat} (ha : Sz 4000 a) (hb : Sz 4000 b) (q : Q (.val (cG (a + b)))) : q9 [.val (cG a), .val (cG b)] Q := by
 obtain ⟨a0, a1⟩ := id ha
 obtain ⟨b0, b1⟩ := id hb
 refine kY ?_
 unfold b_sum_of
 walk_at "!H.WW-06uR8"
 refine mL (Int.mul_ne_zero (dG a) (dG b)) ((a1.mul b1).mono (by decide)) ?_
 rw [add_eq]
 exact q
theorem gU {a b : Rat} (ha : Sz 4000 a) (hb : Sz 4000 b) (q : Q (.val (cG (a - b)))) : bY [.val (cG a), .val (cG b)] Q := by
 obtain ⟨a0, a1⟩ := id ha
 obtain ⟨b0, b1⟩ := id hb
 refine kY ?_
 unfold jW
 walk_at "!H.WW-06uR8"
 refine mL (Int.mul_ne_zero (dG a) (dG b)) ((a1.mul b1).mono (by decide)) ?_
 rw [sub_eq]
 exact q
theorem t_product_of {a b : Rat} (ha : Sz 4000 a) (hb : Sz 4000 b) (q : Q (.val (cG (a * b)))) : gF [.val (cG a), .val (cG b)] Q := by
 obtain ⟨a0, a1⟩ := id ha
 obtain ⟨b0, b1⟩ := id hb
 refine kY ?_
 unfold p8
 walk_at "!H0eeo-06uR8"
 refine mL (Int.mul_ne_zero (dG a) (dG b)) ((a1.mul b1).mono (by decide)) ?_
 rw [mul_eq]
 exact q
theorem t_quotient_of {a b : Rat} (ha : Sz 4000 a) (hb : Sz 4000 b) (h0 : b ≠ 0) (q : Q (.val (cG (a / b)))) : fK [.val (cG a), .val (cG b)] Q := by
 obtain ⟨a0, a1⟩ := id ha
 obtain ⟨b0, b1⟩ := id hb
 refine kY ?_
 unfold mX
 walk_at "!HW-06ueo8"
 refine mL (Int.mul_ne_zero (dG a) (num_ne h0)) ((a1.mul b0).mono (by decide)) ?_
 rw [div_eq a h0]
 exact q
theorem fB {a b : Rat} (ha : Sz 9000 a) (hb : Sz 9000 b) (q : Q (.val (.bool (decide (a < b))))) : bJ [.val (cG a), .val (cG b)] Q := by
 obtain ⟨a0, a1⟩ := id ha
 obtain ⟨b0, b1⟩ := id hb
 refine kY ?_
 unfold yW
 walk_at "!?.WW#"
 rw [lt_eq]
 exact q
theorem uJ {l : Rat × Rat} {t : Rat} (h1 : Sz 900 l.1) (h2 : Sz 900 l.2) (h3 : Sz 2900 t) (q : Q (.val (cG (l.1 + l.2 * t)))) : eG [.val (gG l), .val (cG t)] Q := by
 refine kY ?_
 unfold uC
 walk_at "!HI-CDJ"
 refine t_product_of (h2.mono (by decide)) (h3.mono (by decide)) ?_
 walk_at "!8"
 exact t_sum_of (h1.mono (by decide)) ((h2.mul h3).mono (by decide)) q
noncomputable def meetD (l k : Rat × Rat) : D := if l.2 = k.2 then (if l.1 = k.1 then .tuple [.str "always"] else .tuple [.str "never"]) else .tuple [.str "at", cG ((k.1 - l.1) / (l.2 - k.2))]
theorem t_meeting {l k : Rat × Rat} (h1 : Sz 900 l.1) (h2 : Sz 900 l.2) (h3 : Sz 900 k.1) (h4 : Sz 900 k.2) (q : Q (.val (meetD l k))) : gK [.val (gG l), .val (gG k)] Q := by
 unfold meetD at q
 refine kY ?_
 unfold wI v6
 walk_at "!@QDDv#"
 refine gO (fun c => ?_) (fun c => ?_)
 ·rw [if_pos c] at q
  walk_at "!Eĸ2QIIv#"
  refine gO (fun c2 => ?_) (fun c2 => ?_)
  ·rw [if_pos c2] at q
   walk_at "!Ć3%/"
   exact q
  ·rw [if_neg c2] at q
   walk_at "!Ć3%/"
   exact q
 ·rw [if_neg c] at q
  walk_at "!5$CI-I8"
  refine gU (h3.mono (by decide)) (h1.mono (by decide)) ?_
  walk_at "!$CD-D8"
  refine gU (h2.mono (by decide)) (h4.mono (by decide)) ?_
  walk_at "!d%*7"
  refine t_quotient_of ((h3.sub h1).mono (by decide)) ((h2.sub h4).mono (by decide)) (by grind) ?_
  walk_at "!A"
  exact q
theorem t_less {a b : Rat} (ha : Sz 9000 a) (hb : Sz 9000 b) (q : Q (.val (.bool (decide (a < b))))) : eF [.val (cG a), .val (cG b)] Q := by
 obtain ⟨a0, a1⟩ := id ha
 obtain ⟨b0, b1⟩ := id hb
 refine kY ?_
 unfold uF
 walk_at "!?.WW#"
 rw [lt_eq]
 exact q
end
theorem pH (i : Int) : PyData.tuple [.int i, .int 1] = cG (i : Rat) := by
 unfold cG
 rw [Rat.num_intCast, Rat.den_intCast]
 rfl
theorem bt31 {k : Nat} {i : Int} (h1 : -2147483648 < i) (h2 : i < 2147483648) (hk : 31 ≤ k := by decide) : Bt k i := by
 refine Bt.mono (k := 31) ?_ hk
 show i.natAbs < 2 ^ 31
 have : (2 : Nat) ^ 31 = 2147483648 := by decide
 omega
theorem sz_small {k : Nat} {i : Int} (h1 : -2147483648 < i) (h2 : i < 2147483648) (hk : 31 ≤ k := by decide) : Sz k (i : Rat) := sz_int (bt31 h1 h2 hk) (by omega)
noncomputable def LinesOk (k : Nat) (ls : List (Rat × Rat)) : Prop := ∀ l ∈ ls, Sz k l.1 ∧ Sz k l.2
noncomputable def bD (ls : List (Rat × Rat)) : List D := ls.map gG
theorem LinesOk.get {k : Nat} {ls : List (Rat × Rat)} (h : LinesOk k ls) {i : Nat} {l : Rat × Rat} (e : ls[i]? = some l) : Sz k l.1 ∧ Sz k l.2 := h l (List.mem_of_getElem? e)
theorem LinesOk.snoc {k : Nat} {ls : List (Rat × Rat)} {l : Rat × Rat} (h : LinesOk k ls) (h1 : Sz k l.1) (h2 : Sz k l.2) : LinesOk k (ls ++ [l]) := fun x hx => by
 rcases List.mem_append.mp hx with hx | hx
 ·exact h x hx
 ·rw [List.mem_singleton.mp hx]; exact ⟨h1, h2⟩
theorem uZ {ds : List D} {i : Nat} {d : D} (h : ds[i]? = some d) : ixD (.list ds) (.int (i : Int)) = some d := atI_nat h
theorem tH {ls : List (Rat × Rat)} {i : Nat} (h : i < ls.length) : ixD (.list (bD ls)) (.int (i : Int)) = some (gG ls[i]) := uZ (by unfold bD; rw [List.getElem?_map, List.getElem?_eq_getElem h]; rfl)
theorem dLines_get {ls : List (Rat × Rat)} {i : Nat} {d : D} (h : (bD ls)[i]? = some d) : ∃ l, ls[i]? = some l ∧ d = gG l := by
 unfold bD at h
 rw [List.getElem?_map] at h
 cases e : ls[i]? with
 | none => rw [e] at h; cases h
 | some l => rw [e] at h; cases h; exact ⟨l, rfl, rfl⟩
theorem dLines_snoc (ls : List (Rat × Rat)) (l : Rat × Rat) : bD ls ++ [gG l] = bD (ls ++ [l]) := by simp [bD]
theorem jL (ls : List (Rat × Rat)) : (bD ls).length = ls.length := by simp [bD]
section
variable {Q : Rv → Prop}
end
theorem bt3 {i : Int} (h1 : -8 < i) (h2 : i < 8) : Bt 3 i := by
 show i.natAbs < 2 ^ 3
 have : (2 : Nat) ^ 3 = 8 := by decide
 omega
theorem sz3 {i : Int} (h1 : -8 < i) (h2 : i < 8) : Sz 3 (i : Rat) := sz_int (bt3 h1 h2) (by decide)
theorem abs_gcd1 {t b : Int} (h : 0 < b) : Int.gcd (if t < 0 then -t else t) b = Int.gcd t b := by
 have := abs_gcd t b
 rwa [if_neg (c := b < 0) (by omega)] at this
theorem through3 (p m t : Rat) : Rat.divInt (p.num * m.den * t.den - m.num * t.num * p.den) (p.den * m.den * t.den) = p - m * t := by
 refine dI (Int.mul_ne_zero (Int.mul_ne_zero (dG p) (dG m)) (dG t)) ?_
 simp only [Rat.intCast_sub, Rat.intCast_mul]
 rw [numq p, numq m, numq t]
 grind
theorem met_ne {a b : Rat} (h : a ≠ b) : a.num * b.den - b.num * a.den ≠ 0 := by
 intro z
 apply h
 have e := sub_eq a b
 rw [z, Rat.zero_divInt] at e
 grind
theorem met3 (a0 a1 b0 b1 : Rat) (h : a1 ≠ b1) : Rat.divInt ((b0.num * a0.den - a0.num * b0.den) * a1.den * b1.den) ((a1.num * b1.den - b1.num * a1.den) * a0.den * b0.den) = (b0 - a0) / (a1 - b1) := by
 refine dI (Int.mul_ne_zero (Int.mul_ne_zero (met_ne h) (dG a0)) (dG b0)) ?_
 have e := Rat.div_mul_cancel (a := b0 - a0) (b := a1 - b1) (by grind)
 simp only [Rat.intCast_sub, Rat.intCast_mul]
 rw [numq a0, numq b0, numq a1, numq b1]
 generalize (b0 - a0) / (a1 - b1) = m at *
 grind
noncomputable def KW (w : Bool) : Nat := if w then 60 else 3
theorem KW3 (w : Bool) : 3 ≤ KW w := by cases w <;> decide
theorem KW60 (w : Bool) : KW w ≤ 60 := by cases w <;> decide
section
variable {Q : Rv → Prop}
theorem lC {t b : Int} (h0 : 0 < b) (hb : Bt 9000 b) (q : Q (.val (cG (Rat.divInt t b)))) : bO [.val (.int t), .val (.int b)] Q := by
 have g0 := gcd_ne (t := t) (b := b) (by omega)
 have g1 := gcd_bt (t := t) hb (by omega)
 refine kY ?_
 unfold oR p7 oO
 walk_at "!$ę&$&b#"
 refine t7 (fun n Γ => ∃ d r, Γ = [.val (.int t), .val (.int b), .val (.int d), .val (.int r)] ∧ 0 ≤ d ∧ 0 ≤ r ∧ Int.gcd d r = Int.gcd t b ∧ n = r.toNat) _ ⟨_, _, rfl, abs_nn t, by omega, abs_gcd1 h0, rfl⟩ ?_
 rintro m Γ ⟨d, r, rfl, hd, hr, hg, rfl⟩
 walk_at "!2V"
 refine gO (fun c => ?_) (fun c => ?_)
 ·walk_at "!ď;*m"
  refine ⟨c, ?_⟩
  walk_at "!S"
  have h1 := Int.emod_nonneg d (b := r) (by omega)
  have h2 := Int.emod_lt_of_pos d c
  exact ⟨_, by omega, _, _, rfl, hr, h1, (gcd_step hd c).trans hg, rfl⟩
 ·have c' : r = 0 := by omega
  subst c'
  have e := gcd_end hd
  rw [hg] at e
  subst e
  have n := pI (t := t) (b := b) h0
  walk_at "!dm"
  refine ⟨⟨g0, g1⟩, ?_⟩
  walk_at "!*m"
  refine ⟨⟨g0, g1⟩, ?_⟩
  walk_at "!/"
  rw [n.1, n.2]
  exact q
theorem t_number {w : Bool} (q : ∀ r : Rat, Sz (KW w) r → Q (.val (cG r))) : fC [.pen, .val (.bool w)] Q := by
 refine kY ?_
 unfold pG
 obtain ⟨n, hn, hn1, hn2, hn3⟩ : ∃ n : Int, ixD (.list [.int 4, .int 7]) (.int (if w then 1 else 0)) = some (.int n) ∧ 0 < n ∧ n < 100 ∧ (w = false → n = 4) := by
  cases w
  ·exact ⟨4, rfl, by decide, by decide, fun _ => rfl⟩
  ·exact ⟨7, rfl, by decide, by decide, fun z => (nomatch z)⟩
 walk_at "!$~)pXXAħ("
 refine dB hn ?_
 walk_at "!1"
 refine eZ hn1 (by omega) fun way w0 w1 => ?_
 walk_at "!@V"
 refine gO (fun c => ?_) (fun c => ?_)
 ·walk_at "!d.<"
  refine eZ (by decide) (by decide) fun r r0 r1 => ?_
  walk_at "!%X/"
  rw [pH]
  exact q _ ((sz3 (by omega) (by omega)).mono (KW3 w))
 ·unfold pC
  walk_at "!5@Qz{#"
  refine gO (fun c => ?_) (fun c => ?_)
  ·walk_at "!H.<"
   refine eZ (by decide) (by decide) fun r r0 r1 => ?_
   walk_at "!%-.%<"
   refine eZ (by decide) (by decide) fun s s0 s1 => ?_
   walk_at "!1"
   have h1 : Bt 3 (r - 6) := bt3 (by omega) (by omega)
   have h2 : Bt 3 (1 + s) := bt3 (by omega) (by omega)
   exact lC (by omega) (h2.mono (by decide)) (q _ ((Sz.divInt h1 h2 (by omega)).mono (KW3 w)))
  ·have hw : w = true := by
    cases w
    ·have := hn3 rfl
     omega
    ·rfl
   subst hw
   unfold oW
   walk_at "!5@V"
   refine gO (fun c => ?_) (fun c => ?_)
   ·walk_at "!H.<"
    refine eZ (by decide) (by decide) fun r r0 r1 => ?_
    walk_at "!%-.%<"
    refine eZ (by decide) (by decide) fun s s0 s1 => ?_
    walk_at "!1"
    have h1 : Bt 60 (r - 1000) := bt31 (by omega) (by omega)
    have h2 : Bt 60 (1 + s) := bt31 (by omega) (by omega)
    exact lC (by omega) (h2.mono (by decide)) (q _ (Sz.divInt h1 h2 (by omega)))
   ·unfold pA
    walk_at "!5$.0<"
    refine eZ (by decide) (by decide) fun r r0 r1 => ?_
    walk_at "!T"
    have hr : Bt 40 r := bt31 (by omega) (by omega)
    have h9 : Bt 40 (1000000000 : Int) := bt31 (by decide) (by decide)
    walk_at "!o<"
    refine eZ (by decide) (by decide) fun s s0 s1 => ?_
    walk_at "!H0&)pX*}%A<"
    refine eZ (by decide) (by decide) fun u u0 u1 => ?_
    walk_at "!#"
    have hu : u = 0 ∨ u = 1 := by omega
    obtain ⟨g, hg, hi⟩ : ∃ g : Int, (g = 1 ∨ g = -1) ∧ ixD (.list [.int 1, .int (-1)]) (.int u) = some (.int g) := by
     rcases hu with rfl | rfl
     ·exact ⟨1, .inl rfl, rfl⟩
     ·exact ⟨-1, .inr rfl, rfl⟩
    refine dB hi ?_
    have ht : Bt 60 (r * 1000000000 + s) := bt60 (by omega) (by omega)
    have hg1 := bt_sign hg
    walk_at "!o-.%<"
    refine eZ (by decide) (by decide) fun v v0 v1 => ?_
    walk_at "!1"
    have h1 : Bt 60 ((r * 1000000000 + s) * g) := by
     rcases hg with rfl | rfl
     ·rw [Int.mul_one]; exact ht
     ·exact bt60 (by omega) (by omega)
    have h2 : Bt 60 (1 + v) := bt31 (by omega) (by omega)
    exact lC (by omega) (h2.mono (by decide)) (q _ (Sz.divInt h1 h2 (by omega)))
theorem t_through {t p m : Rat} (h1 : Sz 900 t) (h2 : Sz 900 p) (h3 : Sz 900 m) (q : Q (.val (gG (p - m * t, m)))) : fU [.val (cG t), .val (cG p), .val (cG m)] Q := by
 obtain ⟨t0, t1⟩ := id h1
 obtain ⟨p0, p1⟩ := id h2
 obtain ⟨m0, m1⟩ := id h3
 have a1 := p0.mul m1
 have a2 := a1.mul t1
 have a3 := m0.mul t0
 have a4 := p1.mul m1
 have a5 := a4.mul t1
 refine kY ?_
 unfold mK
 walk_at "!$.0WR00eeoRdf006uRR8"
 have hp := Int.mul_pos (Int.mul_pos (uL p) (uL m)) (uL t)
 refine lC hp (a5.mono (by decide)) ?_
 rw [through3]
 walk_at "!;A"
 exact q
theorem t_spot {l : Rat × Rat} {t : Rat} (h1 : Sz 900 l.1) (h2 : Sz 900 l.2) (h3 : Sz 2900 t) (q : Q (.val (cG (l.1 + l.2 * t)))) : fQ [.val (gG l), .val (cG t)] Q := by
 obtain ⟨t0, t1⟩ := id h3
 obtain ⟨p0, p1⟩ := id h1
 obtain ⟨m0, m1⟩ := id h2
 have a1 := p0.mul m1
 have a2 := a1.mul t1
 have a3 := m0.mul t0
 have a4 := p1.mul m1
 have a5 := a4.mul t1
 refine kY ?_
 unfold uT gG
 walk_at "!bĹ&gq$0WR$.&00eeoRh=-006uRR8"
 have hp := Int.mul_pos (Int.mul_pos (uL l.1) (uL l.2)) (uL t)
 refine lC hp (a5.mono (by decide)) ?_
 rw [spot3]
 exact q
theorem t_lines {m : Int} (m0 : 0 ≤ m) (m1 : m ≤ 10) (q : ∀ ls : List (Rat × Rat), (ls.length : Int) ≤ m → LinesOk 200 ls → Q (.own (bD ls))) : jO [.pen, .val (.int m)] Q := by
 refine kY ?_
 unfold rB
 walk_at "!$Q<"
 refine eZ (by decide) (by decide) fun r r0 r1 => ?_
 walk_at "!%{ir/Gs*~Ě8"
 generalize decide (r = 2) = w
 refine eZ (by omega) (by omega) fun n n0 n1 => ?_
 walk_at "!S"
 refine ⟨by omega, by omega, ?_⟩
 refine gY (fun i Γ => ∃ a b c d e f ls, Γ = [.pen, .val (.int m), .val (.bool w), .own (bD ls), a, b, c, d, e, f] ∧ (∀ l ∈ ls, Sz (KW w + 14 * ls.length) l.1 ∧ Sz (KW w) l.2) ∧ ls.length = i) ⟨_, _, _, _, _, _, [], rfl, fun _ h => (nomatch h), rfl⟩ ?_ ?_
 ·rintro i Γ K hi ⟨a, b, c, d, e, f, ls, rfl, hl, rfl⟩ hk
  have hn : ls.length < 10 := by omega
  unfold qT
  walk_at "!4$3ĀJ"
  refine t_number fun q1 z1 => ?_
  walk_at "!*ĀJ"
  refine t_number fun q2 z2 => ?_
  walk_at "!/$<"
  refine eZ (by decide) (by decide) fun way w0 w1 => ?_
  walk_at "!OjV"
  have fin : ∀ (l : Rat × Rat) (c d e f : Sl), Sz (KW w + 14 * (ls.length + 1)) l.1 → Sz (KW w) l.2 → g8 [.pen, .val (.int m), .val (.bool w), .own (bD ls), .val (.int (0 + (ls.length : Int))), .val (gG l), c, d, e, f] K := by
   intro l c d e f y1 y2
   unfold g8
   walk_at "!ě&"
   refine i_appK (ds := bD ls) rfl (by rw [jL]; omega) ?_
   rw [dLines_snoc]
   refine hk.nx _ ⟨_, _, _, _, _, _, _, rfl, fun x hx => ?_, by simp⟩
   rw [List.length_append, List.length_singleton]
   rcases List.mem_append.mp hx with hx | hx
   ·exact ⟨(hl x hx).1.mono (by omega), (hl x hx).2⟩
   ·rw [List.mem_singleton.mp hx]; exact ⟨y1, y2⟩
  have drawn : gG (q1, q2) = PyData.tuple [cG q1, cG q2] := rfl
  rw [← drawn]
  have plain : ∀ (c d e f : Sl), g8 [.pen, .val (.int m), .val (.bool w), .own (bD ls), .val (.int (0 + (ls.length : Int))), .val (gG (q1, q2)), c, d, e, f] K := fun c d e f => fin _ c d e f (z1.mono (by omega)) z2
  refine gO (fun c1 => ?_) (fun c1 => ?_)
  ·walk_at "!2V"
   refine gO (fun c2 => ?_) (fun c2 => ?_)
   ·walk_at "!$Ĝ)&ĀJ"
    refine eZ (by omega) (by omega) fun e e0 e1 => ?_
    walk_at "!#"
    obtain ⟨j, rfl⟩ : ∃ j : Nat, e = (j : Int) := ⟨e.toNat, by omega⟩
    have hj : j < ls.length := by omega
    refine dB (tH hj) ⟨rfl, rfl, ?_⟩
    obtain ⟨y1, y2⟩ := hl _ (List.getElem_mem hj)
    walk_at "!$3.<"
    refine eZ (by decide) (by decide) fun t t0 t1 => ?_
    walk_at "!%X/$3I*3.<"
    rw [pH (t - 3)]
    have zt : Sz 3 ((t - 3 : Int) : Rat) := sz3 (by omega) (by omega)
    refine eZ (by decide) (by decide) fun s s0 s1 => ?_
    walk_at "!%X//OP("
    rw [pH (s - 3)]
    have zs : Sz 3 ((s - 3 : Int) : Rat) := sz3 (by omega) (by omega)
    have last : ∀ (x : Rat × Rat) (tm : Sl), Sz (KW w + 14 * (ls.length + 1)) x.1 → Sz (KW w) x.2 → lJ [.pen, .val (.int m), .val (.bool w), .own (bD ls), .val (.int (0 + (ls.length : Int))), .val (gG (q1, q2)), .val (.int way), .val (gG ls[j]), tm, .val (gG x)] fun fl => match fl with | .nx Γ1 => g8 Γ1 K | .rt rv => K (.rt rv) | .bk Γ1 => K (.bk Γ1) | .ct Γ1 => K (.ct Γ1) := by
     intro x tm x1 x2
     unfold lJ
     walk_at "!n)p;*3I*D/;;A&"
     have hw : way = 0 ∨ way = 1 ∨ way = 2 ∨ way = 3 := by omega
     rcases hw with rfl | rfl | rfl | rfl
     ·exact dB rfl (fin _ _ _ _ _ (y1.mono (by omega)) y2)
     ·exact dB (d := gG (q1, ls[j].2)) rfl (fin (q1, ls[j].2) _ _ _ _ (z1.mono (by omega)) y2)
     ·exact dB rfl (fin _ _ _ _ _ x1 x2)
     ·exact dB rfl (fin _ _ _ _ _ x1 x2)
    cases w with
    | true =>
     walk_at "!]9"
     exact last (ls[j].1, ((s - 3 : Int) : Rat)) _ (y1.mono (by omega)) (zs.mono (KW3 true))
    | false =>
     walk_at "!ānf7"
     have hK : KW false = 3 := rfl
     rw [hK] at y1 y2 z1 z2
     refine t_spot (y1.mono (by omega)) (y2.mono (by decide)) (zt.mono (by decide)) ?_
     walk_at "!-D8"
     have zp := y1.add (y2.mul zt)
     refine t_through (zt.mono (by decide)) (zp.mono (by omega)) (z2.mono (by decide)) ?_
     walk_at "!#"
     refine last (_, q2) _ ?_ z2
     exact (zp.sub (z2.mul zt)).mono (by rw [hK]; omega)
   ·walk_at "!9"
    exact plain _ _ _ _
  ·walk_at "!F9"
   exact plain _ _ _ _
 ·rintro Γ ⟨a, b, c, d, e, f, ls, rfl, hl, hn⟩
  unfold qQ
  walk_at "!EĐ#"
  have := KW60 w
  exact q ls (by omega) fun l h => ⟨(hl l h).1.mono (by omega), (hl l h).2.mono (by omega)⟩
end
section
variable {Q : Rv → Prop} {ls : List (Rat × Rat)} {i j : Nat} {l k : Rat × Rat} {t : Rat}
theorem gR {ls : List (Rat × Rat)} {i : Nat} {l : Rat × Rat} (h : ls[i]? = some l) : ixD (.list (bD ls)) (.int (i : Int)) = some (gG l) := uZ (by unfold bD; rw [List.getElem?_map, h]; rfl)
noncomputable def w5 : Option Rat → D
 | none => .none
 | some q => cG q
theorem uX (o : Option Rat) : Gd 1 (w5 o) := by
 cases o with
 | none => exact gd_none.mono
 | some q => exact wM q
theorem good_opt (o : Option Rat) : Good (w5 o) := (uX o).good
theorem qF {l : Rat × Rat} {t : Rat} (h1 : Sz 900 l.1) (h2 : Sz 900 l.2) (h3 : Sz 2900 t) : Sz 9000 (pl l t) := (h1.add (h2.mul h3)).mono (by decide)
noncomputable def o6 (l : Rat × Rat) (t : Rat) (i : Nat) : D := .tuple [cG (pl l t), cG l.2, .int (i : Int)]
theorem ix_st0 (l : Rat × Rat) (t : Rat) (i : Nat) : ixD (o6 l t i) (.int 0) = some (cG (pl l t)) := rfl
theorem ix_st1 (l : Rat × Rat) (t : Rat) (i : Nat) : ixD (o6 l t i) (.int 1) = some (cG l.2) := rfl
theorem ix_st2 (l : Rat × Rat) (t : Rat) (i : Nat) : ixD (o6 l t i) (.int 2) = some (.int (i : Int)) := rfl
theorem uG (hi : ls[i]? = some l) (h1 : Sz 900 l.1) (h2 : Sz 900 l.2) (ht : Sz 2900 t) (q : Q (.val (o6 l t i))) :
  eN [.val (.list (bD ls)), .val (.int (i : Int)), .val (cG t)] Q := by
 refine kY ?_
 unfold uM
 walk_at "!dCK"
 refine dB (gR hi) ?_
 walk_at "!=1"
 refine uJ h1 h2 ht ?_
 walk_at "!*)K"
 refine dB (gR hi) ?_
 walk_at "!%w;/"
 exact q
theorem qX (h1 : Sz 9000 (pl l t)) (h2 : Sz 9000 l.2) (h3 : Sz 9000 (pl k t)) (h4 : Sz 9000 k.2) (q : Q (.val (.bool (ahB l k i j t)))) :
  cN [.val (o6 l t i), .val (o6 k t j)] Q := by
 unfold ahB at q
 refine kY ?_
 unfold lM m8 lW
 walk_at "!@c>"
 refine dB (ix_st0 _ _ _) ?_
 walk_at "!6"
 refine dB (ix_st0 _ _ _) ?_
 walk_at "!v"
 refine iteN2 (fun c => ?_) (fun c => ?_)
 ·rw [if_neg c] at q
  walk_at "!H>"
  refine dB (ix_st0 _ _ _) ?_
  walk_at "!-6"
  refine dB (ix_st0 _ _ _) ?_
  walk_at "!1"
  exact fB h3 h1 q
 ·rw [if_pos c] at q
  walk_at "!5@c>"
  refine dB (ix_st1 _ _ _) ?_
  walk_at "!6"
  refine dB (ix_st1 _ _ _) ?_
  walk_at "!v"
  refine iteN2 (fun c => ?_) (fun c => ?_)
  ·rw [if_neg c] at q
   walk_at "!H>"
   refine dB (ix_st1 _ _ _) ?_
   walk_at "!-6"
   refine dB (ix_st1 _ _ _) ?_
   walk_at "!1"
   exact fB h4 h2 q
  ·rw [if_pos c] at q
   walk_at "!5?.>"
   refine dB (ix_st2 _ _ _) ?_
   walk_at "!6"
   refine dB (ix_st2 _ _ _) ?_
   walk_at "!#"
   exact q
theorem qD (hi : ls[i]? = some l) (hj : ls[j]? = some k) (h1 : Sz 900 l.1) (h2 : Sz 900 l.2) (h3 : Sz 900 k.1) (h4 : Sz 900 k.2) (ht : Sz 2900 t) (q : Q (.val (.bool (ahB l k i j t)))) :
  cX [.val (.list (bD ls)), .val (.int (i : Int)), .val (.int (j : Int)), .val (cG t)] Q := by
 refine kY ?_
 unfold u9
 walk_at "!H^"
 refine uG hi h1 h2 ht ?_
 walk_at "!-^"
 refine uG hj h3 h4 ht ?_
 walk_at "!8"
 exact qX (qF h1 h2 ht) (h2.mono (by decide)) (qF h3 h4 ht) (h4.mono (by decide)) q
theorem t6 (hi : ls[i]? = some l) (hj : ls[j]? = some k) (h1 : Sz 900 l.1) (h2 : Sz 900 l.2) (h3 : Sz 900 k.1) (h4 : Sz 900 k.2) (ht : Sz 2900 t) (q : Q (.val (w5 (nxC l k t)))) :
  cT [.val (.list (bD ls)), .val (.int (i : Int)), .val (.int (j : Int)), .val (cG t)] Q := by
 unfold nxC at q
 refine kY ?_
 unfold mJ oE
 walk_at "!$CK"
 refine dB (gR hi) ?_
 walk_at "!-)L"
 refine dB (gR hj) ?_
 walk_at "!1"
 refine t_meeting h1 h2 h3 h4 ?_
 walk_at "!OjQ>"
 unfold meetD
 by_cases hs : l.2 = k.2
 ·rw [if_pos hs] at q ⊢
  obtain ⟨s, hs1, hs2⟩ : ∃ s : Str, (if l.1 = k.1 then PyData.tuple [.str "always"] else .tuple [.str "never"]) = .tuple [.str s] ∧ (s = "always" ∨ s = "never") := by
   by_cases c : l.1 = k.1
   ·rw [if_pos c]; exact ⟨_, rfl, .inl rfl⟩
   ·rw [if_neg c]; exact ⟨_, rfl, .inr rfl⟩
  rw [hs1]
  refine dB (d := .str s) rfl ?_
  walk_at "!%"
  have hz : PyData.eqv (.str s) (.str "at") = false := by rcases hs2 with rfl | rfl <;> decide
  refine ⟨by rcases hs2 with rfl | rfl <;> exact good_str _, good_str _, ?_⟩
  rw [hz]
  walk_at "!FF5_"
  exact q
 ·rw [if_neg hs] at q ⊢
  have zm : Sz 3700 (mt l k) := ((h3.sub h1).div (h2.sub h4) (by grind)).mono (by decide)
  refine dB (d := .str "at") rfl ?_
  walk_at "!%"
  refine ⟨good_str _, good_str _, ?_⟩
  rw [nZ (good_str "at")]
  walk_at "!:2f>"
  refine dB (d := cG (mt l k)) rfl ?_
  walk_at "!1"
  refine fB (ht.mono (by decide)) (zm.mono (by decide)) ?_
  walk_at "!#"
  refine gO (fun c => ?_) (fun c => ?_)
  ·rw [if_pos c] at q
   walk_at "!?>"
   refine dB (d := cG (mt l k)) rfl ?_
   skip
   exact q
  ·rw [if_neg c] at q
   walk_at "!5_"
   exact q
theorem t_ahead (hi : ls[i]? = some l) (hj : ls[j]? = some k) (h1 : Sz 900 l.1) (h2 : Sz 900 l.2) (h3 : Sz 900 k.1) (h4 : Sz 900 k.2) (ht : Sz 2900 t) (q : Q (.val (.bool (ahB l k i j t)))) :
  nR [.val (.list (bD ls)), .val (.int (i : Int)), .val (.int (j : Int)), .val (cG t)] Q := by
 unfold ahB pl at q
 refine kY ?_
 unfold rR qW qU
 walk_at "!$CK"
 refine dB (gR hi) ?_
 walk_at "!=1"
 refine t_spot h1 h2 ht ?_
 walk_at "!$CK"
 refine dB (gR hj) ?_
 walk_at "!=1"
 refine t_spot h3 h4 ht ?_
 walk_at "!@cLv#"
 refine iteN2 (fun c => ?_) (fun c => ?_)
 ·rw [if_neg c] at q
  walk_at "!hY"
  exact t_less (qF h3 h4 ht) (qF h1 h2 ht) q
 ·rw [if_pos c] at q
  walk_at "!5@c)K"
  refine dB (gR hi) ?_
  walk_at "!%w))L"
  refine dB (gR hj) ?_
  walk_at "!%wv"
  refine iteN2 (fun c => ?_) (fun c => ?_)
  ·rw [if_neg c] at q
   walk_at "!H)K"
   refine dB (gR hj) ?_
   walk_at "!%w-))L"
   refine dB (gR hi) ?_
   walk_at "!%w1"
   exact t_less (h4.mono (by decide)) (h2.mono (by decide)) q
  ·rw [if_pos c] at q
   walk_at "!5?.x"
   exact q
end
noncomputable def eQ (ts : List Rat) : List D := ts.map cG
theorem dNums_get {ts : List Rat} {i : Nat} {d : D} (h : (eQ ts)[i]? = some d) : ∃ t, ts[i]? = some t ∧ d = cG t := by
 unfold eQ at h
 rw [List.getElem?_map] at h
 cases e : ts[i]? with
 | none => rw [e] at h; cases h
 | some l => rw [e] at h; cases h; exact ⟨l, rfl, rfl⟩
theorem ix_dnum {ts : List Rat} {i : Nat} {t : Rat} (h : ts[i]? = some t) : ixD (.list (eQ ts)) (.int (i : Int)) = some (cG t) := uZ (by unfold eQ; rw [List.getElem?_map, h]; rfl)
theorem iT (ts : List Rat) : (eQ ts).length = ts.length := by simp [eQ]
theorem tU (ts : List Rat) : Good (.list (eQ ts)) := (qJ (n := 1) fun d h => by
 obtain ⟨t, _, rfl⟩ := List.mem_map.mp h
 exact wM t).good
theorem goods_nums (ts : List Rat) : Goods (eQ ts) := gd_goods (n := 1) fun d h => by
 obtain ⟨t, _, rfl⟩ := List.mem_map.mp h
 exact wM t
theorem any_num (ts : List Rat) (t : Rat) : ((eQ ts).any fun e => PyData.eqv e (cG t)) = decide (t ∈ ts) := by
 unfold eQ
 rw [List.any_map]
 rw [Bool.eq_iff_iff, List.any_eq_true, decide_eq_true_eq]
 constructor
 ·rintro ⟨x, hx, e⟩
  have : PyData.eqv (cG x) (cG t) = true := e
  rw [z7] at this
  rw [← of_decide_eq_true this]; exact hx
 ·intro h
  exact ⟨t, h, by show PyData.eqv (cG t) (cG t) = true; rw [z7]; exact decide_eq_true rfl⟩
noncomputable def cV (xs : List Nat) : List D := xs.map fun i : Nat => PyData.int (i : Int)
theorem pF (xs : List Nat) : (cV xs).length = xs.length := by simp [cV]
theorem goods_nats (xs : List Nat) : Goods (cV xs) := gd_goods (n := 0) fun d h => by
 obtain ⟨t, _, rfl⟩ := List.mem_map.mp h
 exact iZ _
theorem good_nats (xs : List Nat) : Good (.list (cV xs)) := (qJ (n := 0) fun d h => by
 obtain ⟨t, _, rfl⟩ := List.mem_map.mp h
 exact iZ _).good
theorem any_nat (xs : List Nat) (t : Nat) : ((cV xs).any fun e => PyData.eqv e (.int (t : Int))) = decide (t ∈ xs) := by
 unfold cV
 rw [List.any_map]
 rw [Bool.eq_iff_iff, List.any_eq_true, decide_eq_true_eq]
 constructor
 ·rintro ⟨x, hx, e⟩
  have : PyData.eqv (.int (x : Int)) (.int (t : Int)) = true := e
  rw [eqv_int] at this
  have := of_decide_eq_true this
  have e2 : x = t := by omega
  rw [← e2]; exact hx
 ·intro h
  exact ⟨t, h, by show PyData.eqv (.int (t : Int)) (.int (t : Int)) = true; rw [eqv_int]; exact decide_eq_true rfl⟩
theorem ix_nats {xs : List Nat} {i : Nat} (h : i < xs.length) : ixD (.list (cV xs)) (.int (i : Int)) = some (.int (xs[i] : Int)) := uZ (by unfold cV; rw [List.getElem?_map, List.getElem?_eq_getElem h]; rfl)
theorem len_nats (xs : List Nat) : lenD (.list (cV xs)) = some (.int (xs.length : Int)) := by show some (PyData.int ((cV xs).length : Int)) = _; rw [pF]
theorem gZ (ls : List Ln) : lenD (.list (bD ls)) = some (.int (ls.length : Int)) := by show some (PyData.int ((bD ls).length : Int)) = _; rw [jL]
noncomputable def insT (ts : List Rat) (o : Option Rat) : List Rat := match o with
 | none => ts
 | some t => if t ∈ ts then ts else vC ts ((ts.filter fun u => decide (u < t)).length : Int) t
noncomputable def qY (ls : List Ln) (i : Nat) : Nat → List Rat → List Rat
 | 0, ts => ts
 | j + 1, ts => insT (qY ls i j ts) (match ls[i]?, ls[j]? with | some l, some k => mtO l k | _, _ => none)
noncomputable def oK (ls : List Ln) : Nat → List Rat
 | 0 => []
 | i + 1 => qY ls i i (oK ls i)
noncomputable def mts (ls : List Ln) : List Rat := oK ls ls.length
theorem insL_map {α β : Type} (f : α → β) (xs : List α) (i : Int) (x : α) : (vC xs i x).map f = vC (xs.map f) i (f x) := by
 unfold vC
 rw [List.map_append, List.map_cons, List.map_take, List.map_drop, List.length_map]
theorem insL_in {α : Type} {xs : List α} {n : Nat} {x : α} (h : n ≤ xs.length) : vC xs (n : Int) x = xs.take n ++ x :: xs.drop n := by
 unfold vC insAt
 rw [if_neg (by omega)]
 simp [Nat.min_eq_left h]
theorem insT_len (ts : List Rat) (o : Option Rat) : (insT ts o).length ≤ ts.length + 1 := by
 unfold insT
 split
 ·omega
 ·split
  ·omega
  ·rw [insL_len]; omega
theorem mem_insL {α : Type} {xs : List α} {i : Int} {x y : α} : y ∈ vC xs i x ↔ y = x ∨ y ∈ xs := by
 unfold vC
 generalize insAt xs.length i = k
 have e : y ∈ xs ↔ y ∈ xs.take k ∨ y ∈ xs.drop k := by
  rw [← List.mem_append, List.take_append_drop]
 rw [List.mem_append, List.mem_cons, e]
 constructor
 ·rintro (h | h | h)
  ·exact .inr (.inl h)
  ·exact .inl h
  ·exact .inr (.inr h)
 ·rintro (h | h | h)
  ·exact .inr (.inl h)
  ·exact .inl h
  ·exact .inr (.inr h)
theorem mem_insT {ts : List Rat} {o : Option Rat} {t : Rat} : t ∈ insT ts o ↔ t ∈ ts ∨ o = some t := by
 unfold insT
 split
 ·simp
 ·rename_i u
  split
  ·rename_i h
   constructor
   ·exact .inl
   ·rintro (z | z)
    ·exact z
    ·cases z; exact h
  ·rw [mem_insL]
   constructor
   ·rintro (z | z)
    ·exact .inr (by rw [z])
    ·exact .inl z
   ·rintro (z | z)
    ·exact .inr z
    ·cases z; exact .inl rfl
theorem mtsIn_len (ls : List Ln) (i j : Nat) (ts : List Rat) : (qY ls i j ts).length ≤ ts.length + j := by
 induction j with
 | zero => exact Nat.le_refl _
 | succ j ih =>
  have := insT_len (qY ls i j ts) (match ls[i]?, ls[j]? with | some l, some k => mtO l k | _, _ => none)
  show (insT _ _).length ≤ _
  omega
theorem mtsTo_len (ls : List Ln) (i : Nat) : (oK ls i).length ≤ i * i := by
 induction i with
 | zero => exact Nat.le_refl _
 | succ i ih =>
  have := mtsIn_len ls i i (oK ls i)
  show (qY ls i i (oK ls i)).length ≤ _
  have e : (i + 1) * (i + 1) = i * i + 2 * i + 1 := by rw [Nat.add_mul, Nat.mul_add]; omega
  omega
theorem mem_mtsIn {ls : List Ln} {i j : Nat} {ts : List Rat} {t : Rat} : t ∈ qY ls i j ts ↔ t ∈ ts ∨ ∃ j', j' < j ∧ ∃ l k, ls[i]? = some l ∧ ls[j']? = some k ∧ mtO l k = some t := by
 induction j with
 | zero => simp [qY]
 | succ j ih =>
  show t ∈ insT _ _ ↔ _
  rw [mem_insT, ih]
  constructor
  ·rintro ((h | ⟨j', h1, h2⟩) | h)
   ·exact .inl h
   ·exact .inr ⟨j', by omega, h2⟩
   ·split at h
    ·rename_i l k e1 e2
     exact .inr ⟨j, by omega, l, k, e1, e2, h⟩
    ·cases h
  ·rintro (h | ⟨j', h1, l, k, e1, e2, h⟩)
   ·exact .inl (.inl h)
   ·by_cases hj : j' = j
    ·subst hj
     right
     rw [e1, e2]
     exact h
    ·exact .inl (.inr ⟨j', by omega, l, k, e1, e2, h⟩)
theorem mem_mtsTo {ls : List Ln} {n : Nat} {t : Rat} : t ∈ oK ls n ↔ ∃ i j l k, i < n ∧ j < i ∧ ls[i]? = some l ∧ ls[j]? = some k ∧ mtO l k = some t := by
 induction n with
 | zero => simp [oK]
 | succ n ih =>
  show t ∈ qY ls n n (oK ls n) ↔ _
  rw [mem_mtsIn, ih]
  constructor
  ·rintro (⟨i, j, l, k, h1, h2⟩ | ⟨j, h1, l, k, h2⟩)
   ·exact ⟨i, j, l, k, by omega, h2⟩
   ·exact ⟨n, j, l, k, by omega, h1, h2⟩
  ·rintro ⟨i, j, l, k, h1, h2, h3⟩
   by_cases hi : i = n
   ·subst hi; exact .inr ⟨j, h2, l, k, h3⟩
   ·exact .inl ⟨i, j, l, k, by omega, h2, h3⟩
theorem mt_sz {l k : Ln} {t : Rat} (h1 : Sz 200 l.1) (h2 : Sz 200 l.2) (h3 : Sz 200 k.1) (h4 : Sz 200 k.2) (h : mtO l k = some t) : Sz 802 t := by
 unfold mtO at h
 split at h
 ·cases h
 ·cases h
  exact ((h3.sub h1).div (h2.sub h4) (by grind)).mono (by decide)
theorem vA {ls : List Ln} (hz : LinesOk 200 ls) {n : Nat} {t : Rat} (h : t ∈ oK ls n) : Sz 802 t := by
 obtain ⟨i, j, l, k, _, _, e1, e2, h⟩ := mem_mtsTo.mp h
 obtain ⟨a, b⟩ := hz.get e1
 obtain ⟨c, d⟩ := hz.get e2
 exact mt_sz a b c d h
noncomputable def earlyT : List Rat → Rat
 | [] => ((0 : Int) : Rat)
 | t :: _ => t - ((1 : Int) : Rat)
noncomputable def hf : Rat := Rat.divInt 1 2
theorem hf_eq : hf = 1 / 2 := by
 unfold hf
 rw [Rat.divInt_eq_div]
 rfl
theorem hf_d : PyData.tuple [.int 1, .int 2] = cG hf := by
 have n := pI (t := 1) (b := 2) (by decide)
 have h1 : (Rat.divInt 1 2).num = 1 := by rw [← n.1]; decide
 have h2 : ((Rat.divInt 1 2).den : Int) = 2 := by rw [← n.2]; decide
 unfold cG hf
 rw [h1, h2]
theorem hf_sz : Sz 31 hf := Sz.divInt (bt31 (by decide) (by decide)) (bt31 (by decide) (by decide)) (by decide)
section
variable {Q : Rv → Prop}
end
section
variable {Q : Rv → Prop} {ls : List Ln}
theorem t_metN {i j : Nat} {l k : Ln} (hi : ls[i]? = some l) (hj : ls[j]? = some k) (h1 : Sz 200 l.1) (h2 : Sz 200 l.2) (h3 : Sz 200 k.1) (h4 : Sz 200 k.2) (q : Q (.val (w5 (mtO l k)))) :
  j5 [.val (.list (bD ls)), .val (.int (i : Int)), .val (.int (j : Int))] Q := by
 unfold mtO at q
 refine kY ?_
 unfold yG
 walk_at "!bď*K"
 refine dB (gR hi) ?_
 walk_at "!*)L"
 refine dB (gR hj) ?_
 walk_at "!ĝ@QDDv#"
 refine gO (fun c => ?_) (fun c => ?_)
 ·rw [if_pos c] at q
  walk_at "!_"
  exact q
 ·rw [if_neg c] at q
  obtain ⟨p0, p1⟩ := id h1
  obtain ⟨m0, m1⟩ := id h2
  obtain ⟨r0, r1⟩ := id h3
  obtain ⟨s0, s1⟩ := id h4
  have a1 := (r0.mul p1).sub (p0.mul r1)
  have a2 := a1.mul m1
  have b1 := (m0.mul s1).sub (s0.mul m1)
  have b2 := b1.mul p1
  have b3 := b2.mul r1
  have hm := met3 l.1 l.2 k.1 k.2 c
  have hb := Int.mul_ne_zero (Int.mul_ne_zero (met_ne c) (dG l.1)) (dG k.1)
  unfold v7
  walk_at "!5$00.0)I%ć)It0)I%ć)It)Dt)Dt$00.0)D%ć)Dt0)D%ć)Dt)It)It@V"
  refine gO (fun c2 => ?_) (fun c2 => ?_)
  ·walk_at "!ď*.%&*.%&S"
   unfold oZ
   walk_at "!hY"
   refine lC (by omega) ?_ ?_
   ·rw [Int.zero_sub]; exact b3.neg.mono (by decide)
   ·rw [Int.zero_sub, Int.zero_sub, Rat.neg_divInt_neg, hm]
    skip
    exact q
  ·walk_at "!9"
   unfold oZ
   walk_at "!hY"
   refine lC (by omega) (b3.mono (by decide)) ?_
   rw [hm]
   skip
   exact q
theorem t_met_times (hz : LinesOk 200 ls) (hl : ls.length ≤ 30) (q : Q (.own (eQ (mts ls)))) : oV [.val (.list (bD ls))] Q := by
 refine kY ?_
 unfold jR
 walk_at "!ir/Gs*U"
 refine dB (d := .int (ls.length : Int)) (by show some (PyData.int ((bD ls).length : Int)) = _; rw [jL]) ?_
 walk_at "!S"
 refine ⟨by omega, by omega, ?_⟩
 refine gY (fun i Γ => ∃ a b c d e, Γ = [.val (.list (bD ls)), .own (eQ (oK ls i)), a, b, c, d, e]) ⟨_, _, _, _, _, rfl⟩ ?_ ?_
 ·rintro i Γ K hi ⟨a, b, c, d, e, rfl⟩ hk
  have hi' : i < ls.length := by omega
  unfold lB
  walk_at "!4đs;S"
  refine ⟨by omega, by omega, ?_⟩
  refine gY (fun j Γ => ∃ b c d e, Γ = [.val (.list (bD ls)), .own (eQ (qY ls i j (oK ls i))), .val (.int (0 + (i : Int))), b, c, d, e]) ⟨_, _, _, _, rfl⟩ ?_ ?_
  ·rintro j Γ K2 hj ⟨b, c, d, e, rfl⟩ hk2
   have hj' : j < ls.length := by omega
   have e1 : ls[i]? = some ls[i] := List.getElem?_eq_getElem hi'
   have e2 : ls[j]? = some ls[j] := List.getElem?_eq_getElem hj'
   obtain ⟨z1, z2⟩ := hz.get e1
   obtain ⟨z3, z4⟩ := hz.get e2
   have next : qY ls i (j + 1) (oK ls i) = insT (qY ls i j (oK ls i)) (mtO ls[i] ls[j]) := by
    show insT _ (match ls[i]?, ls[j]? with | some l, some k => mtO l k | _, _ => none) = _
    rw [e1, e2]
   have hsz : ∀ t ∈ qY ls i j (oK ls i), Sz 802 t := fun t ht => by
    rcases mem_mtsIn.mp ht with h | ⟨j', _, l, k, e1, e2, h⟩
    ·exact vA hz h
    ·obtain ⟨a, b⟩ := hz.get e1
     obtain ⟨c, d⟩ := hz.get e2
     exact mt_sz a b c d h
   have hlen : (qY ls i j (oK ls i)).length < 1000 := by
    have h1 := mtsIn_len ls i j (oK ls i)
    have h2 := mtsTo_len ls i
    have h3 : i * i ≤ 30 * 30 := Nat.mul_le_mul (by omega) (by omega)
    omega
   generalize hts : qY ls i j (oK ls i) = ts at *
   unfold kE
   walk_at "!4$^"
   rw [Int.zero_add, Int.zero_add]
   refine t_metN e1 e2 z1 z2 z3 z4 ?_
   walk_at "!`Ĉjĉ("
   have zt : ∀ t, mtO ls[i] ls[j] = some t → Sz 802 t := fun t h => mt_sz z1 z2 z3 z4 h
   have hk3 := hk2.nx
   rw [Int.zero_add] at hk3
   cases ho : mtO ls[i] ls[j] with
   | none =>
    rw [ho] at next
    refine vD ?_
    walk_at "!MF5"
    rw [next] at hk3
    exact hk3 _ ⟨_, _, _, _, rfl⟩
   | some t =>
    rw [ho] at next
    dsimp only [w5]
    refine wH ?_
    walk_at "!2Ğx"
    refine ⟨tE t, goods_nums ts, rfl, ?_⟩
    rw [if_pos rfl, any_num]
    unfold insT at next
    dsimp only at next
    refine iteN2 (fun c => ?_) (fun c => ?_)
    ·rw [if_neg c] at next
     walk_at "!$ĜąZ("
     refine ⟨by rw [iT]; omega, ?_⟩
     refine fD (α := Rat) (fun u => decide (u < t)) cG cG ts [] _ (fun u hu _ k k0 h1 h0 => ?_) ?_
     ·walk_at "!427"
      refine t_less ((hsz u hu).mono (by decide)) ((zt t ho).mono (by decide)) ?_
      walk_at "!#"
      refine gO (fun c => ?_) (fun c => ?_)
      ·walk_at "!&"
       exact h1 (decide_eq_true c)
      ·exact h0 (decide_eq_false c)
     ·skip
      refine dB (d := .int ((ts.filter fun u => decide (u < t)).length : Int)) (by show some (PyData.int (List.length _ : Int)) = _; rw [List.nil_append, List.length_map]) ⟨rfl, rfl, ?_⟩
      walk_at "!ğL"
      have hfl : (ts.filter fun u => decide (u < t)).length ≤ ts.length := List.length_filter_le _ _
      refine i_insK (ds := eQ ts) rfl (by omega) (by omega) (by rw [iT]; exact hlen) ?_
      rw [next] at hk3
      unfold eQ at hk3 ⊢
      rw [insL_map] at hk3
      exact hk3 _ ⟨_, _, _, _, rfl⟩
    ·rw [if_pos c] at next
     walk_at "!5"
     rw [next] at hk3
     exact hk3 _ ⟨_, _, _, _, rfl⟩
  ·rintro Γ ⟨b, c, d, e, rfl⟩
   refine hk.nx _ ?_
   rw [show (0 + (i : Int)).toNat = i by omega]
   exact ⟨_, _, _, _, _, rfl⟩
 ·rintro Γ ⟨a, b, c, d, e, rfl⟩
  rw [show (ls.length : Int).toNat = ls.length by omega]
  unfold kO
  walk_at "!EĐ#"
  exact q
theorem t_time (hz : LinesOk 200 ls) (hl : ls.length ≤ 30) (q : ∀ t : Rat, Sz 802 t → Q (.val (cG t))) : jJ [.pen, .val (.list (bD ls))] Q := by
 refine kY ?_
 unfold uA
 walk_at "!$<"
 refine eZ (by decide) (by decide) fun way w0 w1 => ?_
 walk_at "!OjV"
 have rest : ∀ (a b c : Sl), nC [.pen, .val (.list (bD ls)), .val (.int way), a, b, c] fun fl => match fl with | .rt rv => Q rv | .nx _ => Q (.val .none) | _ => False := by
  intro a b c
  unfold nC
  walk_at "!@Qz{#"
  refine gO (fun c1 => ?_) (fun c1 => ?_)
  ·walk_at "!d00<"
   refine eZ (by decide) (by decide) fun r r0 r1 => ?_
   walk_at "!)pX*}%A<"
   refine eZ (by decide) (by decide) fun u u0 u1 => ?_
   walk_at "!#"
   have hu : u = 0 ∨ u = 1 := by omega
   obtain ⟨g, hg, hi⟩ : ∃ g : Int, (g = 1 ∨ g = -1) ∧ ixD (.list [.int 1, .int (-1)]) (.int u) = some (.int g) := by
    rcases hu with rfl | rfl
    ·exact ⟨1, .inl rfl, rfl⟩
    ·exact ⟨-1, .inr rfl, rfl⟩
   refine dB hi ?_
   have hr : Bt 40 r := bt31 (by omega) (by omega)
   have hg1 := bt_sign hg
   have h2 := hr.mul hg1
   have h6 : Bt 40 (1000000 : Int) := bt31 (by decide) (by decide)
   walk_at "!o%oX/"
   rw [pH]
   exact q _ ((sz_int (h2.mul h6) (by decide)).mono (by decide))
  ·walk_at "!9"
   unfold sJ
   walk_at "!H.<"
   refine eZ (by decide) (by decide) fun r r0 r1 => ?_
   walk_at "!%-.%<"
   refine eZ (by decide) (by decide) fun s s0 s1 => ?_
   walk_at "!1"
   have h1 : Bt 60 (r - 20) := bt31 (by omega) (by omega)
   have h2 : Bt 60 (1 + s) := bt31 (by omega) (by omega)
   exact lC (by omega) (h2.mono (by decide)) (q _ ((Sz.divInt h1 h2 (by omega)).mono (by decide)))
 have hlen : lenD (.list (bD ls)) = some (.int (ls.length : Int)) := by show some (PyData.int ((bD ls).length : Int)) = _; rw [jL]
 refine gO (fun c1 => ?_) (fun c1 => ?_)
 ·walk_at "!2.U"
  refine dB hlen ?_
  walk_at "!T"
  refine gO (fun c2 => ?_) (fun c2 => ?_)
  ·walk_at "!$~U"
   refine dB hlen ?_
   walk_at "!1"
   refine eZ (by omega) (by omega) fun i i0 i1 => ?_
   walk_at "!$~U"
   refine dB hlen ?_
   walk_at "!1"
   refine eZ (by omega) (by omega) fun j j0 j1 => ?_
   walk_at "!$^"
   obtain ⟨i, rfl⟩ : ∃ n : Nat, i = (n : Int) := ⟨i.toNat, by omega⟩
   obtain ⟨j, rfl⟩ : ∃ n : Nat, j = (n : Int) := ⟨j.toNat, by omega⟩
   have e1 : ls[i]? = some ls[i] := List.getElem?_eq_getElem (by omega)
   have e2 : ls[j]? = some ls[j] := List.getElem?_eq_getElem (by omega)
   obtain ⟨z1, z2⟩ := hz.get e1
   obtain ⟨z3, z4⟩ := hz.get e2
   refine t_metN e1 e2 z1 z2 z3 z4 ?_
   walk_at "!`2ĉ("
   cases ho : mtO ls[i] ls[j] with
   | none =>
    refine vD ?_
    walk_at "!9"
    exact rest _ _ _
   | some t =>
    refine wH ?_
    walk_at "!?("
    exact q _ (mt_sz z1 z2 z3 z4 ho)
  ·walk_at "!9"
   exact rest _ _ _
 ·walk_at "!F9"
  exact rest _ _ _
theorem t_order {t : Rat} (hz : LinesOk 200 ls) (hl : ls.length ≤ 30) (ht : Sz 2900 t) (q : Q (.val (.list (cV (ord ls t))))) : wY [.val (.list (bD ls)), .val (cG t)] Q := by
 refine kY ?_
 unfold rY
 walk_at "!$pAGs*ą&"
 refine dB (d := .int (ls.length : Int)) (by show some (PyData.int ((bD ls).length : Int)) = _; rw [jL]) ?_
 walk_at "!S"
 refine ⟨by omega, by omega, ?_⟩
 refine gY (fun i Γ => ∃ a b c, Γ = [.val (.list (bD ls)), .val (cG t), .val (.list (cV (nW (ahN ls t) i))), a, b, c]) ⟨_, _, _, rfl⟩ ?_ ?_
 ·rintro i Γ K hi ⟨a, b, c, rfl⟩ hk
  have hi' : i < ls.length := by omega
  have e1 : ls[i]? = some ls[i] := List.getElem?_eq_getElem hi'
  obtain ⟨z1, z2⟩ := hz.get e1
  have hlen := xQ (ahN ls t) i
  have hmem := sY (ahN ls t) i
  have hk3 := hk.nx
  have next : nW (ahN ls t) (i + 1) = cO (ahN ls t) (nW (ahN ls t) i) i := rfl
  rw [next] at hk3
  generalize hxs : nW (ahN ls t) i = xs at *
  unfold qL
  walk_at "!4$Z("
  rw [Int.zero_add]
  refine ⟨by rw [pF]; omega, ?_⟩
  refine fD (α := Nat) (fun o => ahN ls t i o) (fun o => .int (o : Int)) (fun o => .int (o : Int)) xs [] _ (fun o ho _ k k0 h1 h0 => ?_) ?_
  ·have ho' : o < ls.length := by have := (hmem o).mp ho; omega
   have e2 : ls[o]? = some ls[o] := List.getElem?_eq_getElem ho'
   obtain ⟨z3, z4⟩ := hz.get e2
   walk_at "!42kY"
   refine t_ahead e1 e2 (z1.mono (by decide)) (z2.mono (by decide)) (z3.mono (by decide)) (z4.mono (by decide)) ht ?_
   have e : ahN ls t i o = ahB ls[i] ls[o] i o t := by unfold ahN; rw [e1, e2]
   rw [← e]
   cases hb : ahN ls t i o with
   | true => walk_at "!:&"; exact h1 hb
   | false => walk_at "!F"; exact h0 hb
  ·walk_at "!nĂĠĂĠZ("
   rw [List.nil_append]
   refine ⟨by rw [pF]; omega, ?_⟩
   have hb : (xs.filter fun o => ahN ls t i o).map (fun o : Nat => PyData.int (o : Int)) = cV (xs.filter fun o => ahN ls t i o) := rfl
   rw [hb]
   refine fD (α := Nat) (fun o => !ahN ls t i o) (fun o => .int (o : Int)) (fun o => .int (o : Int)) xs [] _ (fun o ho _ k k0 h1 h0 => ?_) ?_
   ·walk_at "!42Ğx"
    refine ⟨good_int _, goods_nats _, ?_⟩
    rw [if_pos rfl, any_nat]
    have em : decide (o ∈ xs.filter fun o => ahN ls t i o) = ahN ls t i o := by
     rw [Bool.eq_iff_iff, decide_eq_true_eq, List.mem_filter]
     exact ⟨fun h => h.2, fun h => ⟨ho, h⟩⟩
    rw [em]
    cases hb : ahN ls t i o with
    | true => walk_at "!]"; exact h0 (by rw [hb]; rfl)
    | false => walk_at "!ā&"; exact h1 (by rw [hb]; rfl)
   ·walk_at "!p;A"
    have f1 := vQ (fun o => ahN ls t i o) xs
    refine ⟨by simp; omega, ?_⟩
    walk_at "!("
    refine ⟨by simp [cV]; omega, ?_⟩
    skip
    have fin : ([] ++ (xs.filter fun o => !ahN ls t i o).map (fun o : Nat => PyData.int (o : Int)) ++ [PyData.int (i : Int)]) ++ cV (xs.filter fun o => ahN ls t i o) = cV (cO (ahN ls t) xs i) := by
     unfold cO cV
     simp
    rw [fin]
    exact hk3 _ ⟨_, _, _, rfl⟩
 ·rintro Γ ⟨a, b, c, rfl⟩
  rw [show (ls.length : Int).toNat = ls.length by omega]
  unfold qN
  walk_at "!?("
  exact q
end
section
variable {Q : Rv → Prop} {ls : List Ln}
noncomputable def dStN (ls : List Ln) (t : Rat) (i : Nat) : D := match ls[i]? with
 | some l => o6 l t i
 | none => .none
theorem dStN_eq {t : Rat} {i : Nat} {l : Ln} (h : ls[i]? = some l) : dStN ls t i = o6 l t i := by unfold dStN; rw [h]
noncomputable def dSts (ls : List Ln) (t : Rat) (xs : List Nat) : List D := xs.map (dStN ls t)
theorem dSts_len (t : Rat) (xs : List Nat) : (dSts ls t xs).length = xs.length := by unfold dSts; rw [List.length_map]
theorem nats_get {xs : List Nat} {n : Nat} {d : D} (h : (cV xs)[n]? = some d) : ∃ o, xs[n]? = some o ∧ d = .int (o : Int) := by
 unfold cV at h
 rw [List.getElem?_map] at h
 cases e : xs[n]? with
 | none => rw [e] at h; cases h
 | some o => rw [e] at h; cases h; exact ⟨o, rfl, rfl⟩
theorem t_order_among {rs : List Nat} {t : Rat} (hz : LinesOk 200 ls) (hl : rs.length ≤ 30) (hr : ∀ x ∈ rs, x < ls.length) (hn : rs.Nodup) (ht : Sz 2900 t) (q : Q (.own (cV (ordL (ahN ls t) rs)))) :
  fH [.val (.list (bD ls)), .val (.list (cV rs)), .val (cG t)] Q := by
 refine kY ?_
 unfold mR
 walk_at "!ir/Gă("
 refine mW (fun n Γ => ∃ a b c, Γ = [.val (.list (bD ls)), .val (.list (cV rs)), .val (cG t), .own (dSts ls t (ordL (ahN ls t) (rs.take n))), a, b, c]) ⟨_, _, _, rfl⟩ ?_ ?_
 ·rintro n d Γ K hd ⟨a, b, c, rfl⟩ hk
  obtain ⟨o, ho, rfl⟩ := nats_get hd
  have ho' : o ∈ rs := List.mem_of_getElem? ho
  have hlt := hr o ho'
  have e1 : ls[o]? = some ls[o] := List.getElem?_eq_getElem hlt
  obtain ⟨z1, z2⟩ := hz.get e1
  have tk : rs.take (n + 1) = rs.take n ++ [o] := by rw [List.take_succ, ho]; rfl
  have hk3 := hk.nx
  rw [tk, ordL_snoc] at hk3
  have hno : o ∉ rs.take n := by
   have := hn.sublist (List.take_sublist (n + 1) rs)
   rw [tk] at this
   have := (List.nodup_append.mp this).2.2
   exact fun hm => this o hm o (List.mem_singleton.mpr rfl) rfl
  have hsrt := ordL_srt (cL ls t) (rs := rs.take n) (fun x hx => hr x (List.mem_of_mem_take hx)) (hn.sublist (List.take_sublist n rs))
  have hxn : ∀ x ∈ ordL (ahN ls t) (rs.take n), x < ls.length ∧ x ≠ o := fun x hx => by
   have hx := ordL_mem.mp hx
   exact ⟨hr x (List.mem_of_mem_take hx), fun e => hno (by rw [← e]; exact hx)⟩
  have hlen : (ordL (ahN ls t) (rs.take n)).length ≤ 30 := by
   rw [ordL_len, List.length_take]
   omega
  generalize hxs : ordL (ahN ls t) (rs.take n) = xs at *
  have ft := filt_take (cL ls t) hlt hxn hsrt
  have fl : (xs.filter fun x => !ahN ls t o x).length ≤ xs.length := List.length_filter_le _ _
  generalize hF : (xs.filter fun x => !ahN ls t o x).length = m at *
  unfold oJ
  walk_at "!4$^"
  refine uG e1 (z1.mono (by decide)) (z2.mono (by decide)) ht ?_
  walk_at "!$%b#"
  refine t7 (fun w Γ => ∃ k : Nat, w = m - k ∧ k ≤ m ∧ Γ = [.val (.list (bD ls)), .val (.list (cV rs)), .val (cG t), .own (dSts ls t xs), .val (.int (o : Int)), .val (o6 ls[o] t o), .val (.int (k : Int))]) m ⟨0, by omega, by omega, rfl⟩ ?_
  rintro w Γ ⟨k, rfl, hkm, rfl⟩
  have stop : k = m → j9 [.val (.list (bD ls)), .val (.list (cV rs)), .val (cG t), .own (dSts ls t xs), .val (.int (o : Int)), .val (o6 ls[o] t o), .val (.int (k : Int))] K := by
   intro ek
   unfold j9
   walk_at "!ğL"
   refine i_insK (ds := dSts ls t xs) rfl (by omega) (by omega) (by rw [dSts_len]; omega) ?_
   have ei : vC (dSts ls t xs) (k : Int) (o6 ls[o] t o) = dSts ls t (cO (ahN ls t) xs o) := by
    rw [← dStN_eq e1, ek]
    unfold dSts
    rw [← insL_map (dStN ls t), insL_in fl, ft.1, ft.2]
    unfold cO
    simp
   rw [ei]
   exact hk3 _ ⟨_, _, _, rfl⟩
  walk_at "!Ĉj.&U"
  refine dB (d := .int (xs.length : Int)) (by show some (PyData.int ((dSts ls t xs).length : Int)) = _; rw [dSts_len]) ?_
  walk_at "!#"
  refine gO (fun c => ?_) (fun c => ?_)
  ·have hkx : k < xs.length := by omega
   have m1 := (hxn xs[k] (List.getElem_mem _)).1
   have e2 : ls[xs[k]]? = some ls[xs[k]] := List.getElem?_eq_getElem m1
   obtain ⟨z3, z4⟩ := hz.get e2
   have ix : ixD (.list (dSts ls t xs)) (.int (k : Int)) = some (o6 ls[xs[k]] t xs[k]) := uZ (by
    unfold dSts
    rw [List.getElem?_map, List.getElem?_eq_getElem hkx]
    show some (dStN ls t xs[k]) = _
    rw [dStN_eq e2])
   walk_at "!2CK"
   refine dB ix ?_
   walk_at "!=1"
   refine qX (qF (z3.mono (by decide)) (z4.mono (by decide)) ht) (z4.mono (by decide)) (qF (z1.mono (by decide)) (z2.mono (by decide)) ht) (z2.mono (by decide)) ?_
   rw [← gC e2 e1]
   by_cases hkm2 : k < m
   ·have hin : xs[k] ∈ xs.filter fun x => !ahN ls t o x := by
     rw [← ft.1]
     exact List.mem_take_iff_getElem.mpr ⟨k, by omega, rfl⟩
    have ha : ahN ls t xs[k] o = true := by
     rw [(cL ls t).flip hlt m1 (Ne.symm (hxn xs[k] (List.getElem_mem _)).2)]
     exact (List.mem_filter.mp hin).2
    rw [ha]
    walk_at "!M:"
    unfold o5
    walk_at "!ĨT"
    exact ⟨m - (k + 1), by omega, k + 1, rfl, by omega, by rw [Int.natCast_add]; rfl⟩
   ·have ek : k = m := by omega
    subst ek
    have hin : xs[k] ∈ xs.filter fun x => ahN ls t o x := by
     rw [← ft.2]
     exact List.mem_drop_iff_getElem.mpr ⟨0, by omega, by simp⟩
    have ha : ahN ls t xs[k] o = false := by
     rw [(cL ls t).flip hlt m1 (Ne.symm (hxn xs[k] (List.getElem_mem _)).2), (List.mem_filter.mp hin).2]
     rfl
    rw [ha]
    walk_at "!MF"
    exact stop rfl
  ·walk_at "!MF"
   exact stop (by omega)
 ·rintro Γ ⟨a, b, c, rfl⟩
  rw [pF, List.take_length]
  have hm : ∀ x ∈ ordL (ahN ls t) rs, x < ls.length := fun x hx => hr x (ordL_mem.mp hx)
  have hlen : (ordL (ahN ls t) rs).length ≤ 30 := by rw [ordL_len]; exact hl
  generalize ordL (ahN ls t) rs = xs at *
  unfold oA
  walk_at "!ĩE#Ċ("
  refine ⟨by rw [dSts_len]; omega, ?_⟩
  refine fD (α := Nat) (fun _ => true) (fun o => .int (o : Int)) (dStN ls t) xs [] _ (fun o ho _ k k0 h1 h0 => ?_) ?_
  ·have hlt := hm o ho
   have e2 : ls[o]? = some ls[o] := List.getElem?_eq_getElem hlt
   rw [dStN_eq e2]
   walk_at "!4"
   unfold jQ
   walk_at "!:6"
   refine dB (ix_st2 _ _ _) ?_
   skip
   exact h1 rfl
  ·have ef : List.filter (fun _ => true) xs = xs := List.filter_eq_self.mpr fun _ _ => rfl
   rw [ef, List.nil_append]
   skip
   exact q
theorem iK {t : Rat} (hz : LinesOk 200 ls) (hl : ls.length ≤ 30) (ht : Sz 2900 t) (q : Q (.own (cV (ord ls t)))) : cB [.val (.list (bD ls)), .val (cG t)] Q := by
 refine kY ?_
 unfold uD
 walk_at "!h=-lĺU"
 refine dB (gZ ls) ?_
 walk_at "!#"
 refine ⟨⟨by omega, by omega⟩, ?_⟩
 have e : iG 0 (ls.length : Int).toNat = cV (List.range ls.length) := by
  unfold iG cV
  rw [Int.toNat_natCast]
  exact List.map_congr_left fun k _ => by rw [Int.zero_add]
 rw [e]
 walk_at "!=1"
 refine t_order_among hz (by rw [List.length_range]; exact hl) (fun x hx => List.mem_range.mp hx) List.nodup_range ht ?_
 rw [ordL_range]
 exact q
end
theorem uQ {t : Rat} : ∀ {ts : List Rat}, ts.Pairwise (· < ·) →
  ts.take (ts.filter fun u => decide (u < t)).length = ts.filter (fun u => decide (u < t)) ∧ ts.drop (ts.filter fun u => decide (u < t)).length = ts.filter (fun u => !decide (u < t))
 | [], _ => ⟨rfl, rfl⟩
 | x :: xs, h => by
  obtain ⟨p1, p2⟩ := List.pairwise_cons.mp h
  have ih := uQ (t := t) p2
  by_cases c : x < t
  ·simp only [List.filter_cons, decide_eq_true c, if_true, List.length_cons, List.take_succ_cons, List.drop_succ_cons, ih.1, ih.2, Bool.not_true, Bool.false_eq_true, if_false]
   exact ⟨trivial, trivial⟩
  ·have f0 : xs.filter (fun u => decide (u < t)) = [] := by
    rw [List.filter_eq_nil_iff]
    intro y hy
    have := p1 y hy
    simp
    grind
   have f1 : xs.filter (fun u => !decide (u < t)) = xs := List.filter_eq_self.mpr fun y hy => by
    have := p1 y hy
    simp
    grind
   simp only [List.filter_cons, decide_eq_false c, Bool.not_false, if_true, f0, f1, Bool.false_eq_true, if_false]
   exact ⟨rfl, rfl⟩
theorem insT_srt {ts : List Rat} {o : Option Rat} (h : ts.Pairwise (· < ·)) : (insT ts o).Pairwise (· < ·) := by
 unfold insT
 split
 ·exact h
 ·rename_i t
  split
  ·exact h
  ·rename_i hn
   have f := uQ (t := t) h
   rw [insL_in (List.length_filter_le _ _), f.1, f.2, List.pairwise_append]
   refine ⟨h.filter _, List.pairwise_cons.mpr ⟨fun y hy => ?_, h.filter _⟩, fun x hx y hy => ?_⟩
   ·obtain ⟨m, c⟩ := List.mem_filter.mp hy
    have c : ¬ y < t := by simpa using c
    have : y ≠ t := fun z => hn (z ▸ m)
    grind
   ·have c := (List.mem_filter.mp hx).2
    have c : x < t := by simpa using c
    rcases List.mem_cons.mp hy with z | z
    ·rw [z]; exact c
    ·have d := (List.mem_filter.mp z).2
     have d : ¬ y < t := by simpa using d
     grind
theorem mtsIn_srt (ls : List Ln) (i : Nat) {ts : List Rat} (h : ts.Pairwise (· < ·)) : ∀ j, (qY ls i j ts).Pairwise (· < ·)
 | 0 => h
 | j + 1 => insT_srt (mtsIn_srt ls i h j)
theorem mtsTo_srt (ls : List Ln) : ∀ n, (oK ls n).Pairwise (· < ·)
 | 0 => List.Pairwise.nil
 | n + 1 => mtsIn_srt ls n (mtsTo_srt ls n) n
theorem lK (ls : List Ln) : (mts ls).Pairwise (· < ·) := mtsTo_srt ls _
theorem mem_mts {ls : List Ln} {t : Rat} : t ∈ mts ls ↔ ∃ (i j : Nat) (l k : Ln), ls[i]? = some l ∧ ls[j]? = some k ∧ l.2 ≠ k.2 ∧ mt l k = t := by
 unfold mts
 rw [mem_mtsTo]
 constructor
 ·rintro ⟨i, j, l, k, _, _, e1, e2, h⟩
  unfold mtO at h
  split at h
  ·cases h
  ·rename_i c
   cases h
   exact ⟨i, j, l, k, e1, e2, c, rfl⟩
 ·rintro ⟨i, j, l, k, e1, e2, c, rfl⟩
  have hi : i < ls.length := (List.getElem?_eq_some_iff.mp e1).1
  have hj : j < ls.length := (List.getElem?_eq_some_iff.mp e2).1
  have hij : i ≠ j := by
   rintro rfl
   rw [e1] at e2; cases e2
   exact c rfl
  by_cases d : j < i
  ·exact ⟨i, j, l, k, hi, d, e1, e2, by unfold mtO; rw [if_neg c]⟩
  ·exact ⟨j, i, k, l, hj, by omega, e2, e1, by unfold mtO; rw [if_neg (Ne.symm c), u6 c]⟩
noncomputable def early (ls : List Ln) : Rat := earlyT (mts ls)
noncomputable def rowF (ls : List Ln) : Nat := fM ls (early ls)
noncomputable def rowR (ls : List Ln) : List (Nat × Rat) := oN ls (rowF ls) (mts ls)
theorem row_ok {ls : List Ln} (h : ls ≠ []) : RowFrom ls none (rowF ls) (rowR ls) := by
 refine yF h (mts ls) none none (rowF ls) (lK ls) (fun _ _ => trivial) (fun _ _ => trivial) (fun t _ hs => ?_) (fun s hs _ => mem_mts.mpr hs)
 have base := rD h (early ls)
 have noM : ∀ a b, (∀ s ∈ mts ls, b < s) → ¬ MeetIn ls a b := fun a b hb => by
  rintro ⟨i, j, l, k, e1, e2, e3, e4, e5⟩
  have := hb _ (mem_mts.mpr ⟨i, j, l, k, e1, e2, e3, rfl⟩)
  grind
 have he : ∀ s ∈ mts ls, early ls < s := fun s hs => by
  unfold early
  have srt := lK ls
  cases e : mts ls with
  | nil => rw [e] at hs; cases hs
  | cons t0 tr =>
   rw [e] at hs srt
   show t0 - (1 : Rat) < s
   rcases List.mem_cons.mp hs with z | z
   ·grind
   ·have := (List.pairwise_cons.mp srt).1 s z; grind
 by_cases c : t ≤ early ls
 ·exact (Leads.const c (noM _ _ he)).mpr base
 ·exact (Leads.const (by grind) (noM _ _ hs)).mp base
theorem mts_len (ls : List Ln) : (mts ls).length ≤ ls.length * ls.length := mtsTo_len ls _
noncomputable def pairD (p : Nat × Rat) : D := .tuple [.int (p.1 : Int), cG p.2]
noncomputable def rowD (ls : List Ln) : List D := if ls = [] then [] else .tuple [.int (rowF ls : Int), .none] :: (rowR ls).map pairD
theorem ix_neg1 {ds : List D} {d : D} (h : ds.getLast? = some d) : ixD (.list ds) (.int (-1)) = some d := by
 have hne : ds ≠ [] := by rintro rfl; cases h
 have hp := List.length_pos_iff.mpr hne
 show atI ds (-1) = _
 unfold atI ixN
 rw [if_neg (by decide), if_pos (by omega)]
 show ds[((-1 : Int) + (ds.length : Int)).toNat]? = _
 rw [show ((-1 : Int) + (ds.length : Int)).toNat = ds.length - 1 by omega, ← List.getLast?_eq_getElem?]
 exact h
noncomputable def lastR (r : Nat) (rs : List (Nat × Rat)) : Nat := match rs.getLast? with
 | none => r
 | some p => p.1
theorem lastR_cons (r : Nat) (p : Nat × Rat) (rs : List (Nat × Rat)) : lastR r (p :: rs) = lastR p.1 rs := by
 unfold lastR
 cases rs with
 | nil => rfl
 | cons q rs => rw [List.getLast?_cons_cons]; cases h : (q :: rs).getLast? with
  | none => simp at h
  | some z => rfl
theorem rowGo_snoc (ls : List Ln) (t : Rat) : ∀ (ts : List Rat) (r : Nat), oN ls r (ts ++ [t]) = oN ls r ts ++ (if fM ls t = lastR r (oN ls r ts) then [] else [(fM ls t, t)])
 | [], r => by
  show (if fM ls t = r then oN ls r [] else (fM ls t, t) :: oN ls (fM ls t) []) = [] ++ (if fM ls t = r then [] else [(fM ls t, t)])
  split <;> rfl
 | u :: ts, r => by
  show (if fM ls u = r then oN ls r (ts ++ [t]) else (fM ls u, u) :: oN ls (fM ls u) (ts ++ [t])) = (if fM ls u = r then oN ls r ts else (fM ls u, u) :: oN ls (fM ls u) ts) ++ (if fM ls t = lastR r (if fM ls u = r then oN ls r ts else (fM ls u, u) :: oN ls (fM ls u) ts) then [] else [(fM ls t, t)])
  by_cases c : fM ls u = r
  ·rw [if_pos c, if_pos c]; exact rowGo_snoc ls t ts r
  ·rw [if_neg c, if_neg c, lastR_cons, rowGo_snoc ls t ts]
   rfl
theorem rowGo_len (ls : List Ln) : ∀ (ts : List Rat) (r : Nat), (oN ls r ts).length ≤ ts.length
 | [], r => Nat.le_refl _
 | u :: ts, r => by
  show (if fM ls u = r then oN ls r ts else (fM ls u, u) :: oN ls (fM ls u) ts).length ≤ ts.length + 1
  have h1 := rowGo_len ls ts r
  have h2 := rowGo_len ls ts (fM ls u)
  split
  ·omega
  ·simp only [List.length_cons]; omega
noncomputable def rowL (r : Nat) (rs : List (Nat × Rat)) : List D := .tuple [.int (r : Int), .none] :: rs.map pairD
theorem rowL_last (r : Nat) (rs : List (Nat × Rat)) : ∃ d, (rowL r rs).getLast? = some d ∧ ixD d (.int 0) = some (.int (lastR r rs : Int)) := by
 unfold rowL lastR
 cases h : rs.getLast? with
 | none =>
  have : rs = [] := by simpa using h
  subst this
  exact ⟨_, rfl, rfl⟩
 | some p =>
  refine ⟨pairD p, ?_, rfl⟩
  have hne : rs ≠ [] := by rintro rfl; cases h
  rw [List.getLast?_cons, List.getLast?_map, h]
  rfl
section
variable {Q : Rv → Prop} {ls : List Ln}
end
theorem good_lines (ls : List Ln) : Good (.list (bD ls)) := (qJ (n := 2) fun d h => by
 obtain ⟨l, _, rfl⟩ := List.mem_map.mp h
 exact gd_line l).good
noncomputable def paperD (ls : List Ln) (t : Rat) (i j : Nat) : D := .tuple [.int (i : Int), .int (j : Int), w5 (nxN ls t i j)]
theorem gd_paper (ls : List Ln) (t : Rat) (i j : Nat) : Gd 2 (paperD ls t i j) := gd_tup (n := 1) fun d h => by
 rcases List.mem_cons.mp h with rfl | h
 ·exact (iZ _).mono
 ·rcases List.mem_cons.mp h with rfl | h
  ·exact (iZ _).mono
  ·rw [List.mem_singleton.mp h]; exact uX _
noncomputable def zJ (ls : List Ln) (t : Rat) (xs : List Nat) (n : Nat) : List D := (List.range n).map fun a => paperD ls t (xs.getD a 0) (xs.getD (a + 1) 0)
theorem papTo_succ (ls : List Ln) (t : Rat) (xs : List Nat) (n : Nat) : zJ ls t xs (n + 1) = zJ ls t xs n ++ [paperD ls t (xs.getD n 0) (xs.getD (n + 1) 0)] := by
 unfold zJ
 rw [List.range_succ, List.map_append]
 rfl
theorem papTo_len (ls : List Ln) (t : Rat) (xs : List Nat) (n : Nat) : (zJ ls t xs n).length = n := by simp [zJ]
theorem good_pap (ls : List Ln) (t : Rat) (xs : List Nat) (n : Nat) : Good (.list (zJ ls t xs n)) := (qJ (n := 2) fun d h => by
 obtain ⟨a, _, rfl⟩ := List.mem_map.mp h
 exact gd_paper _ _ _ _).good
noncomputable def paps (ls : List Ln) (t : Rat) : List D := zJ ls t (ord ls t) ((ord ls t).length - 1)
section
variable {Q : Rv → Prop} {ls : List Ln}
end
theorem cutTail (xs : List D) : L2.VS.cutD xs (some 1) none = xs.drop 1 := by
 cases xs with
 | nil => rfl
 | cons x xs =>
  have e1 : HT.sIx (x :: xs).length 0 (some 1) = 1 := by
   unfold HT.sIx
   simp
  have e2 : HT.sIx (x :: xs).length (x :: xs).length none = (x :: xs).length := rfl
  unfold L2.VS.cutD
  rw [e1, e2]
  simp
noncomputable def yE (xs : List Nat) : List (Nat × Nat) := xs.zip (xs.drop 1)
noncomputable def dPair (p : Nat × Nat) : D := .tuple [.int (p.1 : Int), .int (p.2 : Int)]
theorem ix_pair0 (p : Nat × Nat) : ixD (dPair p) (.int 0) = some (.int (p.1 : Int)) := rfl
theorem ix_pair1 (p : Nat × Nat) : ixD (dPair p) (.int 1) = some (.int (p.2 : Int)) := rfl
theorem jF (xs : List Nat) : (yE xs).length = xs.length - 1 := by unfold yE; rw [List.length_zip, List.length_drop]; omega
theorem pN {xs : List Nat} {n : Nat} (h : n + 1 < xs.length) : (yE xs)[n]? = some (xs[n], xs[n + 1]) := by
 unfold yE
 rw [List.getElem?_zip_eq_some]
 exact ⟨List.getElem?_eq_getElem (by omega), by rw [List.getElem?_drop, Nat.add_comm]; exact List.getElem?_eq_getElem h⟩
theorem nbrs_mem {xs : List Nat} {p : Nat × Nat} (h : p ∈ yE xs) : ∃ n, ∃ h : n + 1 < xs.length, p = (xs[n], xs[n + 1]) := by
 obtain ⟨n, hn⟩ := List.mem_iff_getElem?.mp h
 have hl := (List.getElem?_eq_some_iff.mp hn).1
 rw [jF] at hl
 refine ⟨n, by omega, ?_⟩
 rw [pN (by omega)] at hn
 exact (Option.some.inj hn).symm
theorem nbrs_map {α : Type} (f : Nat → Nat → α) (xs : List Nat) : (yE xs).map (fun p => f p.1 p.2) = (List.range (xs.length - 1)).map fun a => f (xs.getD a 0) (xs.getD (a + 1) 0) := by
 refine List.ext_getElem? fun n => ?_
 rw [List.getElem?_map, List.getElem?_map]
 by_cases h : n + 1 < xs.length
 ·rw [pN h, List.getElem?_range (by omega)]
  simp [List.getD_eq_getElem?_getD, List.getElem?_eq_getElem (show n < xs.length by omega), List.getElem?_eq_getElem h]
 ·rw [List.getElem?_eq_none (by rw [jF]; omega), List.getElem?_eq_none (by rw [List.length_range]; omega)]
  rfl
noncomputable def tillN (ls : List Ln) (t : Rat) (i j : Nat) : Option Rat := if ahN ls t j i = true then some t else nxN ls t i j
noncomputable def paperW (ls : List Ln) (t : Rat) (i j : Nat) : D := .tuple [.int (i : Int), .int (j : Int), w5 (tillN ls t i j)]
section
variable {Q : Rv → Prop} {ls : List Ln}
theorem oX {xs : List Nat} (q : Q (.own ((yE xs).map dPair))) : cJ [.val (.list (cV xs))] Q := by
 refine kY ?_
 unfold p6
 walk_at "!E#Ļ&ĂĪ&ī%Ĭ#"
 rw [cutTail]
 have e : zipD (cV xs) ((cV xs).drop 1) = (yE xs).map dPair := by
  unfold zipD cV yE
  rw [← List.map_drop, List.zip_map, List.map_map]
  exact List.map_congr_left fun p _ => rfl
 rw [e]
 exact q
theorem t_till_of {i j : Nat} {l k : Ln} {t : Rat} (hi : ls[i]? = some l) (hj : ls[j]? = some k) (h1 : Sz 900 l.1) (h2 : Sz 900 l.2) (h3 : Sz 900 k.1) (h4 : Sz 900 k.2) (ht : Sz 2900 t) (q : Q (.val (w5 (tillN ls t i j)))) :
  mF [.val (.list (bD ls)), .val (.int (i : Int)), .val (.int (j : Int)), .val (cG t)] Q := by
 unfold tillN at q
 refine kY ?_
 unfold yC
 walk_at "!@kY"
 refine qD hj hi h3 h4 h1 h2 ht ?_
 rw [← gC hj hi]
 cases ha : ahN ls t j i with
 | true =>
  rw [if_pos ha] at q
  walk_at "!:?("
  exact q
 | false =>
  rw [if_neg (by rw [ha]; decide)] at q
  walk_at "!F9"
  unfold vB
  walk_at "!h==Y"
  refine t6 hi hj h1 h2 h3 h4 ht ?_
  rw [← xU hi hj]
  exact q
theorem zQ {xs : List Nat} {t : Rat} (hz : LinesOk 200 ls) (hl : xs.length ≤ 30) (hm : ∀ x ∈ xs, x < ls.length) (ht : Sz 2900 t) (q : Q (.own ((yE xs).map fun p => paperW ls t p.1 p.2))) :
  eO [.val (.list (bD ls)), .val (.list (cV xs)), .val (cG t)] Q := by
 refine kY ?_
 unfold lG
 walk_at "!E#Ċ["
 refine oX ?_
 walk_at "!#"
 refine ⟨by rw [List.length_map, jF]; omega, ?_⟩
 refine fD (α := Nat × Nat) (fun _ => true) (fun p => paperW ls t p.1 p.2) dPair (yE xs) [] _ (fun p hp _ k k0 h1 h0 => ?_) ?_
 ·obtain ⟨n, hn, rfl⟩ := nbrs_mem hp
  have l1 : xs[n] < ls.length := hm _ (List.getElem_mem _)
  have l2 : xs[n + 1] < ls.length := hm _ (List.getElem_mem _)
  have e1 : ls[xs[n]]? = some ls[xs[n]] := List.getElem?_eq_getElem l1
  have e2 : ls[xs[n + 1]]? = some ls[xs[n + 1]] := List.getElem?_eq_getElem l2
  obtain ⟨z1, z2⟩ := hz.get e1
  obtain ⟨z3, z4⟩ := hz.get e2
  walk_at "!4"
  unfold jQ
  walk_at "!:36"
  refine dB (ix_pair0 _) ?_
  walk_at "!*>"
  refine dB (ix_pair1 _) ?_
  walk_at "!*f>"
  refine dB (ix_pair0 _) ?_
  walk_at "!->"
  refine dB (ix_pair1 _) ?_
  walk_at "!J"
  refine t_till_of e1 e2 (z1.mono (by decide)) (z2.mono (by decide)) (z3.mono (by decide)) (z4.mono (by decide)) ht ?_
  walk_at "!A"
  exact h1 rfl
 ·have ef : List.filter (fun _ => true) (yE xs) = yE xs := List.filter_eq_self.mpr fun _ _ => rfl
  rw [ef, List.nil_append]
  skip
  exact q
theorem papsW_srt {xs : List Nat} {t : Rat} (hm : ∀ x ∈ xs, x < ls.length) (hs : Srt (ahN ls t) xs) : ((yE xs).map fun p => paperW ls t p.1 p.2) = zJ ls t xs (xs.length - 1) := by
 unfold zJ
 rw [← nbrs_map]
 refine List.map_congr_left fun p hp => ?_
 obtain ⟨n, hn, rfl⟩ := nbrs_mem hp
 unfold paperW paperD tillN
 have h : ahN ls t xs[n] xs[n + 1] = true := List.pairwise_iff_getElem.mp hs n (n + 1) (by omega) hn (by omega)
 rw [if_neg (by rw [(cL ls t).asymm _ _ (hm _ (List.getElem_mem _)) (hm _ (List.getElem_mem _)) h]; decide)]
theorem rH {t : Rat} (hz : LinesOk 200 ls) (hl : ls.length ≤ 30) (ht : Sz 2900 t) (q : Q (.own (paps ls t))) : f9 [.val (.list (bD ls)), .val (cG t)] Q := by
 have hm : ∀ x ∈ ord ls t, x < ls.length := fun x hx => (eU ls t x).mp hx
 refine kY ?_
 unfold rM
 walk_at "!h=-7"
 refine iK hz hl ht ?_
 walk_at "!J"
 refine zQ hz (by rw [lH]; exact hl) hm ht ?_
 rw [papsW_srt hm (lE ls t)]
 exact q
end
theorem ordTo_perm (a : Nat → Nat → Bool) : ∀ n, (nW a n).Perm (List.range n)
 | 0 => List.Perm.refl _
 | n + 1 => by
  rw [List.range_succ]
  refine List.Perm.trans ?_ ((ordTo_perm a n).append_right [n])
  show (((nW a n).filter (fun o => !a n o) ++ [n]) ++ (nW a n).filter fun o => a n o).Perm (nW a n ++ [n])
  have h := List.filter_append_perm (fun o => !a n o) (nW a n)
  simp only [Bool.not_not] at h
  refine List.Perm.trans ?_ (h.append_right [n])
  rw [List.append_assoc, List.append_assoc]
  exact List.Perm.append_left _ List.perm_append_comm
theorem srt_count {a : Nat → Nat → Bool} {n : Nat} (h : Strict a n) : ∀ {xs : List Nat}, (∀ x ∈ xs, x < n) → Srt a xs → ∀ m (hm : m < xs.length), xs.filter (fun o => a o xs[m]) = xs.take m
 | [], _, _, m, hm => absurd hm (by simp)
 | x :: xs, hx, hs, 0, hm => by
  obtain ⟨p1, p2⟩ := List.pairwise_cons.mp hs
  show (x :: xs).filter (fun o => a o x) = []
  rw [List.filter_eq_nil_iff]
  intro o ho
  rcases List.mem_cons.mp ho with z | z
  ·rw [z, h.irr (hx x List.mem_cons_self)]; decide
  ·rw [h.asymm x o (hx x List.mem_cons_self) (hx o ho) (p1 o z)]; decide
 | x :: xs, hx, hs, m + 1, hm => by
  obtain ⟨p1, p2⟩ := List.pairwise_cons.mp hs
  have hm' : m < xs.length := by simpa using hm
  show (x :: xs).filter (fun o => a o xs[m]) = x :: xs.take m
  rw [List.filter_cons, if_pos (p1 _ (List.getElem_mem hm')), srt_count h (fun y hy => hx y (List.mem_cons_of_mem _ hy)) p2 m hm']
theorem ord_count {ls : List Ln} {t : Rat} {m : Nat} (hm : m < (ord ls t).length) : ((List.range ls.length).filter fun o => ahN ls t o (ord ls t)[m]).length = m := by
 have hp := (ordTo_perm (ahN ls t) ls.length).filter (fun o => ahN ls t o (ord ls t)[m])
 rw [← hp.length_eq]
 have := srt_count (cL ls t) (fun x hx => (eU ls t x).mp hx) (lE ls t) m hm
 show ((ord ls t).filter _).length = m
 rw [this, List.length_take]
 omega
theorem early_ah {ls : List Ln} {i j : Nat} {l k : Ln} (h1 : ls[i]? = some l) (h2 : ls[j]? = some k) : ahN ls (early ls) i j = if l.2 = k.2 then (if l.1 = k.1 then decide ((i : Int) < j) else decide (k.1 < l.1)) else decide (l.2 < k.2) := by
 rw [gC h1 h2]
 by_cases c : l.2 = k.2
 ·rw [if_pos c, z6 c]
 ·rw [if_neg c, ah_lt c]
  have hm := mem_mts.mpr ⟨i, j, l, k, h1, h2, c, rfl⟩
  have srt := lK ls
  unfold early
  generalize mts ls = ms at *
  cases ms with
  | nil => cases hm
  | cons t0 tr =>
   show t0 - (1 : Rat) < _
   rcases List.mem_cons.mp hm with z | z
   ·grind
   ·have := (List.pairwise_cons.mp srt).1 _ z; grind
theorem rQ (f : Rat → Nat) (t : Rat) : ∀ (ts : List Rat) (r : Nat), cY f r (ts ++ [t]) = cY f r ts ++ (if f t = lastR r (cY f r ts) then [] else [(f t, t)])
 | [], r => by
  show (if f t = r then cY f r [] else (f t, t) :: cY f (f t) []) = [] ++ (if f t = r then [] else [(f t, t)])
  split <;> rfl
 | u :: ts, r => by
  show (if f u = r then cY f r (ts ++ [t]) else (f u, u) :: cY f (f u) (ts ++ [t])) = (if f u = r then cY f r ts else (f u, u) :: cY f (f u) ts) ++ (if f t = lastR r (if f u = r then cY f r ts else (f u, u) :: cY f (f u) ts) then [] else [(f t, t)])
  by_cases c : f u = r
  ·rw [if_pos c, if_pos c]; exact rQ f t ts r
  ·rw [if_neg c, if_neg c, lastR_cons, rQ f t ts]
   rfl
theorem pP (f : Rat → Nat) : ∀ (ts : List Rat) (r : Nat), (cY f r ts).length ≤ ts.length
 | [], r => Nat.le_refl _
 | u :: ts, r => by
  show (if f u = r then cY f r ts else (f u, u) :: cY f (f u) ts).length ≤ ts.length + 1
  have h1 := pP f ts r
  have h2 := pP f ts (f u)
  split
  ·omega
  ·simp only [List.length_cons]; omega
theorem rk_row {ls : List Ln} {k : Nat} : RowOf (rkN ls k) none (rkN ls k (early ls)) (cY (rkN ls k) (rkN ls k (early ls)) (mts ls)) := by
 have noM : ∀ a b, (∀ s ∈ mts ls, ¬ (a < s ∧ s ≤ b)) → ¬ MeetIn ls a b := fun a b hb => by
  rintro ⟨i, j, l, k, e1, e2, e3, e4, e5⟩
  exact hb _ (mem_mts.mpr ⟨i, j, l, k, e1, e2, e3, rfl⟩) ⟨e4, e5⟩
 have he : ∀ s ∈ mts ls, early ls < s := fun s hs => by
  have srt := lK ls
  unfold early
  generalize mts ls = ms at *
  cases ms with
  | nil => cases hs
  | cons t0 tr =>
   show t0 - (1 : Rat) < s
   rcases List.mem_cons.mp hs with z | z
   ·grind
   ·have := (List.pairwise_cons.mp srt).1 s z; grind
 refine uP (M := fun s => s ∈ mts ls) (fun a b hab h => z8 hab (noM a b h)) (mts ls) none none _ (lK ls) (fun _ _ => trivial) (fun _ _ => trivial) (fun t _ hs => ?_) (fun s hs _ => hs)
 by_cases c : t ≤ early ls
 ·exact (z8 c (noM _ _ fun s hm hh => by have := he s hm; grind)).symm
 ·exact z8 (by grind) (noM _ _ fun s hm hh => by have := hs s hm; grind)
noncomputable def rkD (ls : List Ln) (k : Nat) : List D := if ls.length ≤ k then [] else rowL (rkN ls k (early ls)) (cY (rkN ls k) (rkN ls k (early ls)) (mts ls))
section
variable {Q : Rv → Prop} {ls : List Ln}
end
theorem srt_eq : ∀ {xs ys : List Rat}, xs.Pairwise (· < ·) → ys.Pairwise (· < ·) → (∀ t, t ∈ xs ↔ t ∈ ys) → xs = ys
 | [], [], _, _, _ => rfl
 | [], y :: ys, _, _, h => nomatch (h y).mpr List.mem_cons_self
 | x :: xs, [], _, _, h => nomatch (h x).mp List.mem_cons_self
 | x :: xs, y :: ys, hx, hy, h => by
  obtain ⟨a1, a2⟩ := List.pairwise_cons.mp hx
  obtain ⟨b1, b2⟩ := List.pairwise_cons.mp hy
  have e : x = y := by
   rcases List.mem_cons.mp ((h x).mp List.mem_cons_self) with z | z
   ·exact z
   ·rcases List.mem_cons.mp ((h y).mpr List.mem_cons_self) with w | w
    ·exact w.symm
    ·have := b1 x z
     have := a1 y w
     grind
  subst e
  rw [srt_eq a2 b2 fun t => ⟨fun m => ?_, fun m => ?_⟩]
  ·rcases List.mem_cons.mp ((h t).mp (List.mem_cons_of_mem _ m)) with z | z
   ·have := a1 t m
    grind
   ·exact z
  ·rcases List.mem_cons.mp ((h t).mpr (List.mem_cons_of_mem _ m)) with z | z
   ·have := b1 t m
    grind
   ·exact z
noncomputable def ris (xs : List Rat) : List Rat := xs.foldl (fun ts x => insT ts (some x)) []
theorem ris_snoc (xs : List Rat) (x : Rat) : ris (xs ++ [x]) = insT (ris xs) (some x) := by
 unfold ris
 rw [List.foldl_append]
 rfl
theorem ris_go : ∀ (xs ts : List Rat), ts.Pairwise (· < ·) → (xs.foldl (fun ts x => insT ts (some x)) ts).Pairwise (· < ·) ∧ (∀ t, t ∈ xs.foldl (fun ts x => insT ts (some x)) ts ↔ t ∈ ts ∨ t ∈ xs) ∧ (xs.foldl (fun ts x => insT ts (some x)) ts).length ≤ ts.length + xs.length
 | [], ts, h => ⟨h, fun t => by simp, by simp⟩
 | x :: xs, ts, h => by
  obtain ⟨a, b, c⟩ := ris_go xs (insT ts (some x)) (insT_srt h)
  refine ⟨a, fun t => ?_, ?_⟩
  ·rw [List.foldl_cons, b t, mem_insT]
   simp only [Option.some.injEq, List.mem_cons]
   constructor
   ·rintro ((z | z) | z)
    ·exact .inl z
    ·exact .inr (.inl z.symm)
    ·exact .inr (.inr z)
   ·rintro (z | z | z)
    ·exact .inl (.inl z)
    ·exact .inl (.inr z.symm)
    ·exact .inr z
  ·have := insT_len ts (some x)
   rw [List.foldl_cons, List.length_cons]
   omega
theorem ris_srt (xs : List Rat) : (ris xs).Pairwise (· < ·) := (ris_go xs [] .nil).1
theorem ris_mem {xs : List Rat} {t : Rat} : t ∈ ris xs ↔ t ∈ xs := by
 have := (ris_go xs [] .nil).2.1 t
 unfold ris
 rw [this]
 simp
theorem ris_len (xs : List Rat) : (ris xs).length ≤ xs.length := by
 have := (ris_go xs [] .nil).2.2
 unfold ris
 simpa using this
theorem cutOne (x : D) (xs : List D) : L2.VS.cutD (x :: xs) (some 1) none = xs := by
 have e1 : HT.sIx (xs.length + 1) 0 (some 1) = 1 := by simp [HT.sIx]
 have e2 : HT.sIx (xs.length + 1) (xs.length + 1) none = xs.length + 1 := by simp [HT.sIx]
 unfold L2.VS.cutD
 rw [List.length_cons, e1, e2]
 simp
theorem sz_early {ls : List Ln} (hz : LinesOk 200 ls) : Sz 2900 (early ls) := by
 unfold early
 cases h : mts ls with
 | nil => exact sz_small (i := 0) (by decide) (by decide)
 | cons t r =>
  have hm : t ∈ mts ls := by rw [h]; exact List.mem_cons_self
  exact ((vA hz hm).sub (sz_small (k := 31) (i := 1) (by decide) (by decide))).mono (by decide)
section
variable {Q : Rv → Prop} {ls : List Ln}
theorem t_rising {xs : List Rat} (hz : ∀ x ∈ xs, Sz 2900 x) (hl : xs.length ≤ 500) (hn : xs.Nodup) (q : Q (.own (eQ (ris xs)))) : jE [.val (.list (eQ xs))] Q := by
 refine kY ?_
 unfold b_rising
 walk_at "!ir/Gă("
 refine mW (fun n Γ => ∃ a b, Γ = [.val (.list (eQ xs)), .own (eQ (ris (xs.take n))), a, b]) ⟨_, _, rfl⟩ ?_ ?_
 ·rintro n d Γ K hd ⟨a, b, rfl⟩ hk
  obtain ⟨x, hx, rfl⟩ := dNums_get hd
  have zx := hz x (List.mem_of_getElem? hx)
  have tk : xs.take (n + 1) = xs.take n ++ [x] := by rw [List.take_succ, hx]; rfl
  have hk3 := hk.nx
  rw [tk, ris_snoc] at hk3
  have hno : x ∉ ris (xs.take n) := fun hm => by
   have hs := hn.sublist (List.take_sublist (n + 1) xs)
   rw [tk] at hs
   exact (List.nodup_append.mp hs).2.2 x (ris_mem.mp hm) x (List.mem_singleton.mpr rfl) rfl
  have hsrt := ris_srt (xs.take n)
  have hlen : (ris (xs.take n)).length ≤ 500 := by
   have h1 := ris_len (xs.take n)
   rw [List.length_take] at h1
   omega
  have hzt : ∀ y ∈ ris (xs.take n), Sz 2900 y := fun y hy => hz y (List.mem_of_mem_take (ris_mem.mp hy))
  generalize ris (xs.take n) = ts at *
  have ft := uQ (t := x) hsrt
  have fl : (ts.filter fun u => decide (u < x)).length ≤ ts.length := List.length_filter_le _ _
  have hins : insT ts (some x) = vC ts ((ts.filter fun u => decide (u < x)).length : Int) x := by
   show (if x ∈ ts then ts else _) = _
   rw [if_neg hno]
  rw [hins] at hk3
  generalize hF : (ts.filter fun u => decide (u < x)).length = m at *
  unfold xO
  walk_at "!4$ĜU"
  refine dB (d := .int (ts.length : Int)) (by show some (PyData.int ((eQ ts).length : Int)) = _; rw [iT]) ?_
  walk_at "!MMb"
  refine t7 (fun w Γ => ∃ k : Nat, w = k - m ∧ m ≤ k ∧ k ≤ ts.length ∧ Γ = [.val (.list (eQ xs)), .own (eQ ts), .val (cG x), .val (.int (k : Int))]) (ts.length - m) ⟨ts.length, rfl, fl, Nat.le_refl _, rfl⟩ ?_
  rintro w Γ ⟨k, rfl, hk1, hk2, rfl⟩
  have stop : k = m → s8 [.val (.list (eQ xs)), .own (eQ ts), .val (cG x), .val (.int (k : Int))] K := by
   intro ek
   subst ek
   unfold s8
   walk_at "!ğL"
   refine i_insK (ds := eQ ts) rfl (by omega) (by omega) (by rw [iT]; omega) ?_
   have ei : vC (eQ ts) (k : Int) (cG x) = eQ (vC ts (k : Int) x) := by
    unfold eQ
    rw [insL_map]
   rw [ei]
   exact hk3 _ ⟨_, _, rfl⟩
  walk_at "!ĈjV"
  refine gO (fun c => ?_) (fun c => ?_)
  ·have hkp : k - 1 < ts.length := by omega
   have ix : ixD (.list (eQ ts)) (.int ((k : Int) - 1)) = some (cG ts[k - 1]) := by
    rw [show (k : Int) - 1 = ((k - 1 : Nat) : Int) by omega]
    exact uZ (by unfold eQ; rw [List.getElem?_map, List.getElem?_eq_getElem hkp]; rfl)
   walk_at "!2f)&V"
   refine dB ix ?_
   walk_at "!1"
   have hin : ts[k - 1] ∈ ts := List.getElem_mem _
   have hne : ts[k - 1] ≠ x := fun z => hno (z ▸ hin)
   refine fB (zx.mono (by decide)) ((hzt _ hin).mono (by decide)) ?_
   by_cases hkm : m < k
   ·have hd : ts[k - 1] ∈ ts.drop m := List.mem_drop_iff_getElem.mpr ⟨k - 1 - m, by omega, by congr 1; omega⟩
    rw [ft.2] at hd
    have hd2 : ¬ ts[k - 1] < x := by simpa using (List.mem_filter.mp hd).2
    rw [decide_eq_true (show x < ts[k - 1] by grind)]
    walk_at "!M:"
    unfold xP
    walk_at "!ĨT"
    exact ⟨k - 1 - m, by omega, k - 1, rfl, by omega, by omega, by rw [show ((k - 1 : Nat) : Int) = (k : Int) - 1 by omega]; rfl⟩
   ·have ek : k = m := by omega
    have hd : ts[k - 1] ∈ ts.take m := List.mem_take_iff_getElem.mpr ⟨k - 1, by omega, rfl⟩
    rw [ft.1] at hd
    have hd2 : ts[k - 1] < x := by simpa using (List.mem_filter.mp hd).2
    rw [decide_eq_false (show ¬ x < ts[k - 1] by grind)]
    walk_at "!MF"
    exact stop ek
  ·walk_at "!MF"
   exact stop (by omega)
 ·rintro Γ ⟨a, b, rfl⟩
  rw [iT, List.take_length]
  unfold wW
  walk_at "!EĐ#"
  exact q
noncomputable def rk (t : Rat) : List Int := [t.num, (t.den : Int)]
theorem rk_inj {s t : Rat} (h : rk s = rk t) : s = t := by
 unfold rk at h
 injection h with h1 h2
 injection h2 with h2 _
 exact Rat.ext h1 (by exact_mod_cast h2)
theorem addK_keys {k : List Int} {e : D} : ∀ kds : List (List Int × List D), (addK kds k e).map (·.1) = if k ∈ kds.map (·.1) then kds.map (·.1) else kds.map (·.1) ++ [k]
 | [] => rfl
 | (k', ds) :: r => by
  unfold addK
  by_cases c : k' = k
  ·rw [if_pos c, if_pos (by rw [List.map_cons]; exact c ▸ List.mem_cons_self)]
   rfl
  ·rw [if_neg c, List.map_cons, addK_keys r]
   by_cases d : k ∈ r.map (·.1)
   ·rw [if_pos d, if_pos (by rw [List.map_cons]; exact List.mem_cons_of_mem _ d)]
    rfl
   ·rw [if_neg d, if_neg (by rw [List.map_cons]; exact fun z => (List.mem_cons.mp z).elim (fun y => c y.symm) d)]
    rfl
theorem addK_len {k : List Int} {e : D} : ∀ kds : List (List Int × List D), (addK kds k e).length ≤ kds.length + 1
 | [] => Nat.le_refl _
 | (k', ds) :: r => by
  unfold addK
  have := addK_len (k := k) (e := e) r
  split <;> simp only [List.length_cons] <;> omega
theorem addK_fit {k : List Int} {e : D} {n : Nat} : ∀ kds : List (List Int × List D), (∀ kd ∈ kds, kd.2.length ≤ n) → ∀ kd ∈ addK kds k e, kd.2.length ≤ n + 1
 | [], _, kd, h => by rw [List.mem_singleton.mp h]; exact Nat.succ_le_succ (Nat.zero_le _)
 | (k', ds) :: r, hr, kd, h => by
  unfold addK at h
  have h1 := hr (k', ds) List.mem_cons_self
  split at h
  ·rcases List.mem_cons.mp h with z | z
   ·rw [z]
    show (ds ++ [e]).length ≤ n + 1
    rw [List.length_append]
    exact Nat.succ_le_succ h1
   ·exact Nat.le_succ_of_le (hr kd (List.mem_cons_of_mem _ z))
  ·rcases List.mem_cons.mp h with z | z
   ·rw [z]; exact Nat.le_succ_of_le h1
   ·exact addK_fit r (fun x hx => hr x (List.mem_cons_of_mem _ hx)) kd z
theorem addK_at {k : List Int} {e : D} : ∀ {kds : List (List Int × List D)}, (kds.map (·.1)).Nodup → ∀ {k' : List Int} {ds : List D}, (k', ds) ∈ addK kds k e → (k' ≠ k ∧ (k', ds) ∈ kds) ∨ (k' = k ∧ ((∃ es, (k, es) ∈ kds ∧ ds = es ++ [e]) ∨ (k ∉ kds.map (·.1) ∧ ds = [e])))
 | [], _, k', ds, h => by
  cases List.mem_singleton.mp h
  exact .inr ⟨rfl, .inr ⟨fun z => (nomatch z), rfl⟩⟩
 | (k0, es) :: r, nd, k', ds, h => by
  rw [List.map_cons, List.nodup_cons] at nd
  unfold addK at h
  split at h
  ·rename_i c
   subst c
   rcases List.mem_cons.mp h with z | z
   ·cases z
    exact .inr ⟨rfl, .inl ⟨es, List.mem_cons_self, rfl⟩⟩
   ·exact .inl ⟨fun y => nd.1 (y ▸ List.mem_map.mpr ⟨_, z, rfl⟩), List.mem_cons_of_mem _ z⟩
  ·rename_i c
   rcases List.mem_cons.mp h with z | z
   ·cases z
    exact .inl ⟨c, List.mem_cons_self⟩
   ·rcases addK_at nd.2 z with ⟨y1, y2⟩ | ⟨y1, ⟨es', y2, y3⟩ | ⟨y2, y3⟩⟩
    ·exact .inl ⟨y1, List.mem_cons_of_mem _ y2⟩
    ·exact .inr ⟨y1, .inl ⟨es', List.mem_cons_of_mem _ y2, y3⟩⟩
    ·exact .inr ⟨y1, .inr ⟨fun w => (List.mem_cons.mp (by rw [List.map_cons] at w; exact w)).elim (fun v => c v.symm) y2, y3⟩⟩
noncomputable def gr (N c : Nat) : List (Nat × Nat) := (List.range c).map fun k => (k / N, k % N)
theorem gr_succ {N n m : Nat} (h : m < N) : gr N (n * N + m + 1) = gr N (n * N + m) ++ [(n, m)] := by
 have e1 : (n * N + m) / N = n := by rw [Nat.mul_comm, Nat.mul_add_div (by omega), Nat.div_eq_of_lt h]; rfl
 have e2 : (n * N + m) % N = m := by rw [Nat.mul_comm, Nat.mul_add_mod, Nat.mod_eq_of_lt h]
 unfold gr
 rw [List.range_succ, List.map_append, List.map_singleton, e1, e2]
theorem gr_mem {N c i j : Nat} (hj : j < N) : (i, j) ∈ gr N c ↔ i * N + j < c := by
 unfold gr
 rw [List.mem_map]
 have e1 : (i * N + j) / N = i := by rw [Nat.mul_comm, Nat.mul_add_div (by omega), Nat.div_eq_of_lt hj]; rfl
 have e2 : (i * N + j) % N = j := by rw [Nat.mul_comm, Nat.mul_add_mod, Nat.mod_eq_of_lt hj]
 constructor
 ·rintro ⟨k, hk, e⟩
  cases e
  have := Nat.div_add_mod k N
  rw [Nat.mul_comm] at this
  rw [this]
  exact List.mem_range.mp hk
 ·intro h
  exact ⟨_, List.mem_range.mpr h, by rw [e1, e2]⟩
noncomputable def hit (ls : List Ln) (t : Rat) (p : Nat × Nat) : Bool := match ls[p.1]?, ls[p.2]? with
 | some l, some k => decide (l.2 < k.2) && decide (mt l k = t)
 | _, _ => false
theorem hit_eq {t : Rat} {i j : Nat} {l k : Ln} (h1 : ls[i]? = some l) (h2 : ls[j]? = some k) : hit ls t (i, j) = (decide (l.2 < k.2) && decide (mt l k = t)) := by
 unfold hit
 rw [h1, h2]
theorem hit_some {t : Rat} {p : Nat × Nat} (h : hit ls t p = true) : ∃ l k, ls[p.1]? = some l ∧ ls[p.2]? = some k ∧ l.2 < k.2 ∧ mt l k = t := by
 unfold hit at h
 split at h
 ·rename_i l k e1 e2
  simp only [Bool.and_eq_true, decide_eq_true_eq] at h
  exact ⟨l, k, e1, e2, h.1, h.2⟩
 ·cases h
noncomputable def chOf (ls : List Ln) (ps : List (Nat × Nat)) (t : Rat) : List (Int × Int) := (ps.filter (hit ls t)).map fun p => ((p.1 : Int), (p.2 : Int))
noncomputable def chP (ls : List Ln) (t : Rat) : List (Int × Int) := chOf ls (gr ls.length (ls.length * ls.length)) t
noncomputable def twoD (ks : List (Int × Int)) : List D := ks.map fun k => .tuple [.int k.1, .int k.2]
theorem chOf_snoc (ps : List (Nat × Nat)) (p : Nat × Nat) (t : Rat) : chOf ls (ps ++ [p]) t = chOf ls ps t ++ if hit ls t p = true then [((p.1 : Int), (p.2 : Int))] else [] := by
 unfold chOf
 rw [List.filter_append, List.map_append]
 cases h : hit ls t p <;> simp [h]
theorem chOf_len (ps : List (Nat × Nat)) (t : Rat) : (chOf ls ps t).length ≤ ps.length := by
 unfold chOf
 rw [List.length_map]
 exact List.length_filter_le _ _
noncomputable def ChI (ls : List Ln) (kds : List (List Int × List D)) (c : Nat) : Prop :=
 ∃ ts : List Rat, kds.map (·.1) = ts.map rk ∧ ts.Nodup ∧ kds.length ≤ c ∧ (∀ t ds, (rk t, ds) ∈ kds → ds = twoD (chOf ls (gr ls.length c) t)) ∧ (∀ t ∈ ts, t ∈ mts ls) ∧ ∀ p ∈ gr ls.length c, ∀ t, hit ls t p = true → t ∈ ts
theorem rk_nodup {ts : List Rat} (h : ts.Nodup) : (ts.map rk).Nodup := by
 induction ts with
 | nil => exact List.nodup_nil
 | cons t r ih =>
  rw [List.nodup_cons] at h
  rw [List.map_cons, List.nodup_cons]
  exact ⟨fun z => by obtain ⟨u, hu, e⟩ := List.mem_map.mp z; exact h.1 (rk_inj e ▸ hu), ih h.2⟩
theorem ChI.yes {kds : List (List Int × List D)} {n m : Nat} {l k : Ln} (h : ChI ls kds (n * ls.length + m)) (hm : m < ls.length) (h1 : ls[n]? = some l) (h2 : ls[m]? = some k) (h3 : l.2 < k.2) :
  ChI ls (addK kds (rk (mt l k)) (.tuple [.int (n : Int), .int (m : Int)])) (n * ls.length + m + 1) := by
 obtain ⟨ts, a1, a2, a3, a4, a5, a6⟩ := h
 have hmm : mt l k ∈ mts ls := mem_mts.mpr ⟨n, m, l, k, h1, h2, by grind, rfl⟩
 have nd : (kds.map (·.1)).Nodup := a1 ▸ rk_nodup a2
 have hit1 : ∀ t, hit ls t (n, m) = true ↔ mt l k = t := fun t => by rw [hit_eq h1 h2]; simp [h3]
 have keyin : ∀ t ∈ ts, rk t ∈ kds.map (·.1) := fun t ht => by rw [a1]; exact List.mem_map.mpr ⟨t, ht, rfl⟩
 have a4' : ∀ t ds, (rk t, ds) ∈ addK kds (rk (mt l k)) (.tuple [.int (n : Int), .int (m : Int)]) → ds = twoD (chOf ls (gr ls.length (n * ls.length + m + 1)) t) := by
  intro t ds hd
  rw [gr_succ hm, chOf_snoc]
  rcases addK_at nd hd with ⟨y1, y2⟩ | ⟨y1, ⟨es, y2, y3⟩ | ⟨y2, y3⟩⟩
  ·rw [if_neg (fun z => y1 (by rw [(hit1 t).mp z])), List.append_nil]
   exact a4 t ds y2
  ·have e := rk_inj y1
   subst e
   rw [if_pos ((hit1 _).mpr rfl), y3, a4 _ es y2]
   unfold twoD
   rw [List.map_append]
   rfl
  ·have e := rk_inj y1
   subst e
   have no : chOf ls (gr ls.length (n * ls.length + m)) (mt l k) = [] := by
    unfold chOf
    rw [List.filter_eq_nil_iff.mpr fun p hp hh => y2 (keyin _ (a6 p hp _ hh))]
    rfl
   rw [if_pos ((hit1 _).mpr rfl), y3, no]
   rfl
 have a6' : ∀ us : List Rat, (∀ t ∈ ts, t ∈ us) → mt l k ∈ us → ∀ p ∈ gr ls.length (n * ls.length + m + 1), ∀ t, hit ls t p = true → t ∈ us := by
  intro us g1 g2 p hp t hh
  rw [gr_succ hm] at hp
  rcases List.mem_append.mp hp with z | z
  ·exact g1 t (a6 p z t hh)
  ·cases List.mem_singleton.mp z
   rw [← (hit1 t).mp hh]
   exact g2
 have a3' : (addK kds (rk (mt l k)) (.tuple [.int (n : Int), .int (m : Int)])).length ≤ n * ls.length + m + 1 := Nat.le_trans (addK_len kds) (Nat.succ_le_succ a3)
 have hk := addK_keys (k := rk (mt l k)) (e := .tuple [.int (n : Int), .int (m : Int)]) kds
 rw [a1] at hk
 by_cases d : mt l k ∈ ts
 ·rw [if_pos (List.mem_map.mpr ⟨_, d, rfl⟩)] at hk
  exact ⟨ts, hk, a2, a3', a4', a5, a6' ts (fun _ h => h) d⟩
 ·rw [if_neg (fun z => by obtain ⟨t, ht, e⟩ := List.mem_map.mp z; exact d (rk_inj e ▸ ht))] at hk
  refine ⟨ts ++ [mt l k], by rw [hk, List.map_append]; rfl, ?_, a3', a4', fun t ht => ?_, a6' _ (fun _ h => List.mem_append_left _ h) (List.mem_append_right _ (List.mem_singleton.mpr rfl))⟩
  ·rw [List.nodup_append]
   refine ⟨a2, List.nodup_cons.mpr ⟨fun z => (nomatch z), List.nodup_nil⟩, fun x hx y hy z => ?_⟩
   rw [List.mem_singleton.mp hy] at z
   exact d (z ▸ hx)
  ·rcases List.mem_append.mp ht with z | z
   ·exact a5 t z
   ·rw [List.mem_singleton.mp z]; exact hmm
theorem ChI.nay {kds : List (List Int × List D)} {n m : Nat} {l k : Ln} (h : ChI ls kds (n * ls.length + m)) (hm : m < ls.length) (h1 : ls[n]? = some l) (h2 : ls[m]? = some k) (h3 : ¬ l.2 < k.2) : ChI ls kds (n * ls.length + m + 1) := by
 obtain ⟨ts, a1, a2, a3, a4, a5, a6⟩ := h
 have hit0 : ∀ t, hit ls t (n, m) = false := fun t => by rw [hit_eq h1 h2, decide_eq_false h3]; rfl
 refine ⟨ts, a1, a2, Nat.le_succ_of_le a3, fun t ds hd => ?_, a5, fun p hp t hh => ?_⟩
 ·rw [gr_succ hm, chOf_snoc, hit0, if_neg (by decide), List.append_nil]
  exact a4 t ds hd
 ·rw [gr_succ hm] at hp
  rcases List.mem_append.mp hp with z | z
  ·exact a6 p z t hh
  ·cases List.mem_singleton.mp z
   rw [hit0] at hh
   cases hh
theorem sH (hz : LinesOk 200 ls) (hl : ls.length ≤ 20) (q : ∀ (kds : List (List Int × List D)) (ts : List Rat), kds.map (·.1) = ts.map rk → ts.Nodup → (∀ t, t ∈ ts ↔ t ∈ mts ls) → kds.length ≤ 400 → (∀ t ds, (rk t, ds) ∈ kds → ds = twoD (chP ls t)) → Q (.box (wK kds))) : cU [.val (.list (bD ls))] Q := by
 have hll : ls.length * ls.length ≤ 20 * 20 := Nat.mul_le_mul hl hl
 refine kY ?_
 unfold nF
 walk_at "!i#ļGs*U"
 refine dB (gZ ls) ?_
 walk_at "!S"
 refine ⟨by omega, by omega, ?_⟩
 refine gY (fun n Γ => ∃ kds a b c, Γ = [.val (.list (bD ls)), .box (wK kds), a, b, c] ∧ ChI ls kds (n * ls.length)) ⟨[], _, _, _, rfl, [], rfl, List.nodup_nil, Nat.zero_le _, fun _ _ h => (nomatch h), fun _ h => (nomatch h), fun p h => by rw [Nat.zero_mul] at h; exact nomatch h⟩ ?_ ?_
 ·rintro n Γ K hn ⟨kds, a, b, c, rfl, hI⟩ hk
  have hn' : n < ls.length := by omega
  have e1 : ls[n]? = some ls[n] := List.getElem?_eq_getElem hn'
  obtain ⟨z1, z2⟩ := hz.get e1
  have hnl : (n + 1) * ls.length ≤ ls.length * ls.length := Nat.mul_le_mul_right _ hn'
  rw [Nat.succ_mul] at hnl
  rw [Int.zero_add]
  unfold o7
  walk_at "!4đs*ą&"
  refine dB (gZ ls) ?_
  walk_at "!S"
  refine ⟨by omega, by omega, ?_⟩
  refine gY (fun m Γ => ∃ kds b c, Γ = [.val (.list (bD ls)), .box (wK kds), .val (.int (n : Int)), b, c] ∧ ChI ls kds (n * ls.length + m)) ⟨kds, _, _, rfl, hI⟩ ?_ ?_
  ·rintro m Γ K2 hm ⟨kds, b, c, rfl, hI⟩ hk2
   have hm' : m < ls.length := by omega
   have e2 : ls[m]? = some ls[m] := List.getElem?_eq_getElem hm'
   obtain ⟨z3, z4⟩ := hz.get e2
   rw [Int.zero_add]
   unfold o8
   walk_at "!4`2C)K"
   refine dB (tH hn') ?_
   walk_at "!%w-))L"
   refine dB (tH hm') ?_
   walk_at "!%w1"
   refine fB (z2.mono (by decide)) (z4.mono (by decide)) ?_
   by_cases hlt : ls[n].2 < ls[m].2
   ·rw [decide_eq_true hlt]
    walk_at "!:$)CK"
    refine dB (tH hn') ?_
    walk_at "!-)L"
    refine dB (tH hm') ?_
    walk_at "!1"
    refine t_meeting (z1.mono (by decide)) (z2.mono (by decide)) (z3.mono (by decide)) (z4.mono (by decide)) ?_
    unfold meetD
    rw [if_neg (show ¬ ls[n].2 = ls[m].2 by grind)]
    walk_at "!T"
    refine dB (d := cG (mt ls[n] ls[m])) rfl ?_
    skip
    obtain ⟨ts, a1, a2, a3, a4, a5, a6⟩ := id hI
    refine i_setApp (kds := kds) (k := rk (mt ls[n] ls[m])) rfl rfl rfl rfl (by omega) (fun kd hkd => ?_) ?_
    ·have hk1 : kd.1 ∈ kds.map (·.1) := List.mem_map.mpr ⟨_, hkd, rfl⟩
     rw [a1] at hk1
     obtain ⟨t, _, e⟩ := List.mem_map.mp hk1
     have hb := chOf_len (ls := ls) (gr ls.length (n * ls.length + m)) t
     have hc : (gr ls.length (n * ls.length + m)).length = n * ls.length + m := by unfold gr; rw [List.length_map, List.length_range]
     have := a4 t kd.2 (by rw [e]; exact hkd)
     rw [this]
     unfold twoD
     rw [List.length_map]
     omega
    exact hk2.nx _ ⟨_, _, _, rfl, hI.yes hm' e1 e2 hlt⟩
   ·rw [decide_eq_false hlt]
    walk_at "!F5"
    exact hk2.nx _ ⟨_, _, _, rfl, hI.nay hm' e1 e2 hlt⟩
  ·rintro Γ ⟨kds, b, c, rfl, hI⟩
   refine hk.nx _ ⟨_, _, _, _, rfl, ?_⟩
   rw [Nat.succ_mul]
   simpa using hI
 ·rintro Γ ⟨kds, a, b, c, rfl, ts, a1, a2, a3, a4, a5, a6⟩
  unfold oF
  walk_at "!E#"
  have hc : (ls.length : Int).toNat * ls.length = ls.length * ls.length := by rw [Int.toNat_natCast]
  have a4 : ∀ t ds, (rk t, ds) ∈ kds → ds = twoD (chOf ls (gr ls.length ((ls.length : Int).toNat * ls.length)) t) := a4
  have a6 : ∀ p ∈ gr ls.length ((ls.length : Int).toNat * ls.length), ∀ t, hit ls t p = true → t ∈ ts := a6
  rw [hc] at a4 a6
  have fin : ∀ i j l k, ls[i]? = some l → ls[j]? = some k → l.2 < k.2 → mt l k ∈ ts := fun i j l k g1 g2 y => by
   have hi := (List.getElem?_eq_some_iff.mp g1).1
   have hj := (List.getElem?_eq_some_iff.mp g2).1
   have hij : (i + 1) * ls.length ≤ ls.length * ls.length := Nat.mul_le_mul_right _ hi
   rw [Nat.succ_mul] at hij
   exact a6 (i, j) ((gr_mem hj).mpr (by omega)) _ (by rw [hit_eq g1 g2]; simp [y])
  refine q kds ts a1 a2 (fun t => ⟨a5 t, fun ht => ?_⟩) (by omega) a4
  obtain ⟨i, j, l, k, g1, g2, g3, rfl⟩ := mem_mts.mp ht
  by_cases y : l.2 < k.2
  ·exact fin i j l k g1 g2 y
  ·rw [← u6 g3]
   exact fin j i k l g2 g1 (by grind)
theorem xJ (hz : LinesOk 200 ls) (hl : ls.length ≤ 20) (q : Q (.own (eQ (early ls :: mts ls)))) : dR [.val (.list (bD ls))] Q := by
 have one : PyData.tuple [.int 1, .int 1] = cG ((1 : Int) : Rat) := pH 1
 have z1 : Sz 31 ((1 : Int) : Rat) := sz_small (by decide) (by decide)
 have hml : (mts ls).length ≤ 400 := by
  have h1 := mts_len ls
  have h2 : ls.length * ls.length ≤ 20 * 20 := Nat.mul_le_mul hl hl
  omega
 refine kY ?_
 unfold jN
 walk_at "!$ClĽċJ"
 refine sH hz hl fun kds ts a1 a2 a3 a4 _ => ?_
 refine ⟨kds, rfl, by omega, ?_⟩
 have e2 : (kds.map fun kd => keyD kd.1) = eQ ts := by
  have := congrArg (List.map keyD) a1
  rw [List.map_map, List.map_map] at this
  exact this
 have hlt : ts.length = kds.length := by
  have := congrArg List.length a1
  rw [List.length_map, List.length_map] at this
  exact this.symm
 rw [e2]
 walk_at "!1"
 refine t_rising (fun x hx => (vA hz ((a3 x).mp hx)).mono (by decide)) (by omega) a2 ?_
 rw [srt_eq (ris_srt ts) (lK ls) fun t => by rw [ris_mem]; exact a3 t]
 walk_at "!@Q&pA"
 unfold early at q
 have hzm : ∀ t ∈ mts ls, Sz 802 t := fun t ht => vA hz ht
 generalize mts ls = us at *
 cases us with
 | nil =>
  refine ⟨tU [], tU [], ?_⟩
  refine wH ?_
  walk_at "!Er*3%X/A"
  rw [pH 0]
  exact q
 | cons t0 tr =>
  have hne : PyData.eqv (.list (eQ (t0 :: tr))) (.list []) = false := rfl
  refine ⟨tU _, tU [], ?_⟩
  rw [hne]
  walk_at "!F9"
  unfold kI
  walk_at "!EĠp*C>"
  refine dB (ix_dnum (i := 0) (ts := t0 :: tr) rfl) ?_
  walk_at "!-3%X/1"
  rw [one]
  refine gU ((hzm t0 List.mem_cons_self).mono (by decide)) (z1.mono (by decide)) ?_
  walk_at "!/("
  refine ⟨?_, q⟩
  rw [iT]
  show 1 + (t0 :: tr).length ≤ 1000
  omega
theorem t_rank_row {k : Nat} (hz : LinesOk 200 ls) (hl : ls.length ≤ 20) (hk : k ≤ 1000) (q : Q (.own (rkD ls k))) : jK [.val (.list (bD ls)), .val (.int (k : Int))] Q := by
 have hml : (mts ls).length ≤ 400 := by
  have h1 := mts_len ls
  have h2 : ls.length * ls.length ≤ 20 * 20 := Nat.mul_le_mul hl hl
  omega
 unfold rkD at q
 refine kY ?_
 unfold uR
 walk_at "!@.&U"
 refine dB (gZ ls) ?_
 walk_at "!#"
 refine gO (fun c => ?_) (fun c => ?_)
 ·rw [if_pos (by omega)] at q
  walk_at "!ErA"
  exact q
 ·have hkl : k < ls.length := by omega
  rw [if_neg (by omega)] at q
  walk_at "!9"
  unfold tY
  walk_at "!$["
  refine xJ hz hl ?_
  walk_at "!ir*3)f>"
  refine dB (ix_dnum (i := 0) (ts := early ls :: mts ls) rfl) ?_
  walk_at "!1"
  refine iK hz (by omega) (sz_early hz) ?_
  walk_at "!("
  have at_k : ∀ t, ∃ h : k < (ord ls t).length, (ord ls t)[k] = rkN ls k t := fun t => by
   have hkt : k < (ord ls t).length := by rw [lH]; exact hkl
   exact ⟨hkt, by unfold rkN; rw [List.getD_eq_getElem?_getD, List.getElem?_eq_getElem hkt]; rfl⟩
  obtain ⟨h0, r0⟩ := at_k (early ls)
  refine dB (ix_nats h0) ?_
  rw [r0]
  generalize rkN ls k (early ls) = x at *
  walk_at "!X//GăĂĪ&ī%Ĭ#"
  rw [show L2.VS.cutD (eQ (early ls :: mts ls)) (some 1) none = eQ (mts ls) from cutOne _ _]
  refine mW (fun n Γ => ∃ a b, Γ = [.val (.list (bD ls)), .val (.int (k : Int)), .val (.list (eQ (early ls :: mts ls))), .own (rowL x (cY (rkN ls k) x ((mts ls).take n))), a, b]) ⟨_, _, rfl⟩ ?_ ?_
  ·rintro n d Γ K hd ⟨a, b, rfl⟩ hk1
   obtain ⟨t, ht, rfl⟩ := dNums_get (ts := mts ls) hd
   have zt := vA hz (List.mem_of_getElem? ht)
   have hk3 := hk1.nx
   have tk : (mts ls).take (n + 1) = (mts ls).take n ++ [t] := by rw [List.take_succ, ht]; rfl
   rw [tk, rQ] at hk3
   have hlen := pP (rkN ls k) ((mts ls).take n) x
   have htl : ((mts ls).take n).length ≤ 400 := by rw [List.length_take]; omega
   generalize cY (rkN ls k) x ((mts ls).take n) = rs at *
   obtain ⟨dl, d1, d2⟩ := rowL_last x rs
   obtain ⟨hkt, er⟩ := at_k t
   unfold tW
   walk_at "!4$)7"
   refine iK hz (by omega) (zt.mono (by decide)) ?_
   walk_at "!("
   refine dB (ix_nats hkt) ?_
   rw [er]
   walk_at "!`Ĉ2c&))&}T"
   refine dB (ix_neg1 d1) ?_
   walk_at "!%"
   refine dB d2 ?_
   walk_at "!{M"
   refine iteN2 (fun c => ?_) (fun c => ?_)
   ·rw [if_neg (by omega)] at hk3
    walk_at "!ě3&;/"
    refine i_appK (ds := rowL x rs) rfl (by simp [rowL]; omega) ?_
    have e : rowL x rs ++ [.tuple [.int (rkN ls k t : Int), cG t]] = rowL x (rs ++ [(rkN ls k t, t)]) := by
     unfold rowL
     simp [pairD]
    rw [e]
    exact hk3 _ ⟨_, _, rfl⟩
   ·rw [if_pos (by omega), List.append_nil] at hk3
    walk_at "!5"
    exact hk3 _ ⟨_, _, rfl⟩
  ·rintro Γ ⟨a, b, rfl⟩
   unfold tV
   rw [iT, List.take_length]
   walk_at "!EĐ#"
   exact q
end
theorem eqv_nats : ∀ {xs ys : List Nat}, PyData.eqv (.list (cV xs)) (.list (cV ys)) = true → xs = ys
 | [], [], _ => rfl
 | [], y :: ys, h => by cases h
 | x :: xs, [], h => by cases h
 | x :: xs, y :: ys, h => by
  have h : (((x : Int) == (y : Int)) && PyData.eqv (.list (cV xs)) (.list (cV ys))) = true := h
  rw [Bool.and_eq_true] at h
  have h1 : (x : Int) = (y : Int) := beq_iff_eq.mp h.1
  rw [eqv_nats h.2, show x = y by omega]
theorem iteNE {b : Bool} {A B : Prop} [d : Decidable ((!b) = true)] (h : b = true) (hB : B) : @ite Prop ((!b) = true) d A B := by
 subst h
 rw [if_neg (by simp)]
 exact hB
theorem iteEF {b : Bool} {A B : Prop} [d : Decidable (b = true)] (h : b = false) (hB : B) : @ite Prop (b = true) d A B := by
 subst h
 rw [if_neg (by simp)]
 exact hB
theorem iteET {b : Bool} {A B : Prop} [d : Decidable (b = true)] (h : b = true) (hA : A) : @ite Prop (b = true) d A B := by
 subst h
 rw [if_pos rfl]
 exact hA
section
variable {Q : Rv → Prop} {ls : List Ln}
theorem mem_chP {t : Rat} {a b : Int} : (a, b) ∈ chP ls t ↔ ∃ (i j : Nat) (l k : Ln), a = (i : Int) ∧ b = (j : Int) ∧ ls[i]? = some l ∧ ls[j]? = some k ∧ l.2 < k.2 ∧ mt l k = t := by
 unfold chP chOf
 rw [List.mem_map]
 constructor
 ·rintro ⟨⟨i, j⟩, h, e⟩
  cases e
  obtain ⟨l, k, h1, h2, h3, h4⟩ := hit_some (List.mem_filter.mp h).2
  exact ⟨i, j, l, k, rfl, rfl, h1, h2, h3, h4⟩
 ·rintro ⟨i, j, l, k, rfl, rfl, g1, g2, g3, g4⟩
  have hi := (List.getElem?_eq_some_iff.mp g1).1
  have hj := (List.getElem?_eq_some_iff.mp g2).1
  have hij : (i + 1) * ls.length ≤ ls.length * ls.length := Nat.mul_le_mul_right _ hi
  rw [Nat.succ_mul] at hij
  exact ⟨(i, j), List.mem_filter.mpr ⟨(gr_mem hj).mpr (by omega), by rw [hit_eq g1 g2]; simp [g3, g4]⟩, rfl⟩
theorem chP_up (ls : List Ln) (t : Rat) : (chP ls t).Pairwise fun p q => p.1 < q.1 ∨ (p.1 = q.1 ∧ p.2 < q.2) := by
 unfold chP chOf gr
 rw [List.pairwise_map]
 refine List.Pairwise.filter _ ?_
 rw [List.pairwise_map]
 refine List.Pairwise.imp ?_ List.pairwise_lt_range
 intro a b h
 have h1 := Nat.div_add_mod a ls.length
 have h2 := Nat.div_add_mod b ls.length
 have h3 : a / ls.length ≤ b / ls.length := Nat.div_le_div_right (Nat.le_of_lt h)
 rcases Nat.lt_or_ge (a / ls.length) (b / ls.length) with c | c
 ·left
  show ((a / ls.length : Nat) : Int) < ((b / ls.length : Nat) : Int)
  omega
 ·right
  have e : a / ls.length = b / ls.length := by omega
  rw [e] at h1
  show ((a / ls.length : Nat) : Int) = ((b / ls.length : Nat) : Int) ∧ ((a % ls.length : Nat) : Int) < ((b % ls.length : Nat) : Int)
  exact ⟨by rw [e], by omega⟩
theorem sX (ls : List Ln) (t : Rat) : (chP ls t).Nodup := (chP_up ls t).imp fun {a b} h e => by rw [e] at h; omega
theorem chP_len (hl : ls.length ≤ 8) (t : Rat) : (chP ls t).length < 64 := by
 have hll : ls.length * ls.length ≤ 8 * 8 := Nat.mul_le_mul hl hl
 unfold chP chOf
 rw [List.length_map]
 have hg : (gr ls.length (ls.length * ls.length)).length = ls.length * ls.length := by unfold gr; rw [List.length_map, List.length_range]
 by_cases h0 : ls.length = 0
 ·have := List.length_filter_le (hit ls t) (gr ls.length (ls.length * ls.length))
  have e0 : ls.length * ls.length = 0 := by rw [h0]
  omega
 ·have hpos : 0 < ls.length * ls.length := Nat.mul_pos (by omega) (by omega)
  have hin : (0, 0) ∈ gr ls.length (ls.length * ls.length) := (gr_mem (by omega)).mpr (by omega)
  have := List.length_filter_lt_length_iff_exists.mpr ⟨(0, 0), hin, show ¬ hit ls t (0, 0) = true from fun h => by
   obtain ⟨l, k, h1, h2, h3, _⟩ := hit_some h
   rw [h1] at h2
   cases h2
   grind⟩
  omega
theorem chP_pos {t : Rat} (h : t ∈ mts ls) : 1 ≤ (chP ls t).length := by
 obtain ⟨i, j, l, k, g1, g2, g3, rfl⟩ := mem_mts.mp h
 have hin : ∃ p, p ∈ chP ls (mt l k) := by
  by_cases y : l.2 < k.2
  ·exact ⟨((i : Int), (j : Int)), mem_chP.mpr ⟨i, j, l, k, rfl, rfl, g1, g2, y, rfl⟩⟩
  ·exact ⟨((j : Int), (i : Int)), mem_chP.mpr ⟨j, i, k, l, rfl, rfl, g2, g1, by grind, u6 g3⟩⟩
 obtain ⟨p, hp⟩ := hin
 exact List.length_pos_of_mem hp
noncomputable def chT (ls : List Ln) (lo hi : Rat) : List Rat := (mts ls).filter fun t => decide (lo < t) && !decide (hi < t)
theorem mem_chT {lo hi t : Rat} : t ∈ chT ls lo hi ↔ t ∈ mts ls ∧ lo < t ∧ ¬ hi < t := by
 unfold chT
 rw [List.mem_filter]
 simp
noncomputable def chD (ls : List Ln) (t : Rat) : D := .tuple [cG t, .list (twoD (chP ls t))]
noncomputable def chsD (ls : List Ln) (lo hi : Rat) : List D := (chT ls lo hi).map (chD ls)
theorem t_changes {lo hi : Rat} (hz : LinesOk 200 ls) (hl : ls.length ≤ 8) (h1 : Sz 2900 lo) (h2 : Sz 2900 hi) (q : Q (.own (chsD ls lo hi))) : lN [.val (.list (bD ls)), .val (cG lo), .val (cG hi)] Q := by
 refine kY ?_
 unfold wJ
 walk_at "!bľċJ"
 refine sH hz (by omega) fun kds ts a1 a2 a3 a4 a5 => ⟨kds, rfl, ?_⟩
 have e2 : (kds.map fun kd => keyD kd.1) = ts.map cG := by
  have := congrArg (List.map keyD) a1
  rw [List.map_map, List.map_map] at this
  exact this
 have hlt : ts.length = kds.length := by
  have := congrArg List.length a1
  rw [List.length_map, List.length_map] at this
  exact this.symm
 have at_t : ∀ t ∈ ts, ∃ j, kds[j]? = some (rk t, twoD (chP ls t)) := fun t ht => by
  have hk : rk t ∈ kds.map (·.1) := by rw [a1]; exact List.mem_map.mpr ⟨t, ht, rfl⟩
  obtain ⟨⟨k, ds⟩, hm, e⟩ := List.mem_map.mp hk
  have e : k = rk t := e
  subst e
  rw [a5 t ds hm] at hm
  exact List.mem_iff_getElem?.mp hm
 walk_at "!$lĭ#Ŀ"
 refine ⟨by rw [List.length_map]; omega, ?_⟩
 rw [e2]
 refine fD (α := Rat) (fun t => decide (lo < t) && !decide (hi < t)) cG cG ts [] _ (fun t ht _ k k0 g1 g0 => ?_) ?_
 ·have zt := vA hz ((a3 t).mp ht)
  walk_at "!4j7"
  refine fB (h1.mono (by decide)) (zt.mono (by decide)) ?_
  walk_at "!#"
  refine gO (fun c => ?_) (fun c => ?_)
  ·walk_at "!P7"
   refine fB (h2.mono (by decide)) (zt.mono (by decide)) ?_
   walk_at "!#"
   refine iteN2 (fun d => ?_) (fun d => ?_)
   ·walk_at "!&"
    exact g1 (by rw [decide_eq_true c, decide_eq_false d]; rfl)
   ·skip
    exact g0 (by rw [decide_eq_true c, decide_eq_true d]; rfl)
  ·walk_at "!F"
   exact g0 (by rw [decide_eq_false c]; rfl)
 rw [List.nil_append]
 have hfl : (ts.filter fun t => decide (lo < t) && !decide (hi < t)).length ≤ 400 := Nat.le_trans (List.length_filter_le _ _) (by omega)
 have hfm : ∀ t ∈ ts.filter (fun t => decide (lo < t) && !decide (hi < t)), t ∈ ts := fun t h => (List.mem_filter.mp h).1
 have hris : ris (ts.filter fun t => decide (lo < t) && !decide (hi < t)) = chT ls lo hi := srt_eq (ris_srt _) (List.Pairwise.filter _ (lK ls)) fun t => by
  unfold chT
  rw [ris_mem, List.mem_filter, List.mem_filter, a3 t]
 have hcm : ∀ t ∈ chT ls lo hi, t ∈ mts ls := fun t h => (mem_chT.mp h).1
 have hcl : (chT ls lo hi).length ≤ 400 := by
  rw [← hris]
  exact Nat.le_trans (ris_len _) hfl
 walk_at "!E#Ċ["
 refine t_rising (xs := ts.filter fun t => decide (lo < t) && !decide (hi < t)) (fun x hx => (vA hz ((a3 x).mp (hfm x hx))).mono (by decide)) (by omega) (a2.filter _) ?_
 rw [hris]
 walk_at "!#"
 refine ⟨by rw [iT]; omega, ?_⟩
 unfold eQ
 refine fD (α := Rat) (fun _ => true) (chD ls) cG (chT ls lo hi) [] _ (fun t ht _ k k0 g1 g0 => ?_) ?_
 ·obtain ⟨j, hj⟩ := at_t t ((a3 t).mpr (hcm t ht))
  walk_at "!4"
  unfold jQ
  walk_at "!:3&*lĮ#ŀ&"
  refine ⟨rk t, twoD (chP ls t), j, rfl, hj, chP ls t, rfl, chP_len hl t, sX ls t, ?_⟩
  rw [srtP_of (List.Perm.refl _) ((chP_up ls t).imp fun h => prLt_iff.mpr h)]
  exact ⟨by show 2 ≤ 1000; decide, g1 rfl⟩
 ·rw [List.nil_append, List.filter_eq_self.mpr fun _ _ => rfl]
  exact q
end
noncomputable def isR (ls : List Ln) (t : Rat) (i j : Int) (till : Option Rat) : Bool :=
 if i = j ∨ ¬ (0 ≤ i ∧ i < (ls.length : Int)) ∨ ¬ (0 ≤ j ∧ j < (ls.length : Int)) then false else
 if ahN ls t i.toNat j.toNat = false then false else
 match till, nxN ls t i.toNat j.toNat with
 | none, c => c.isNone
 | some u, none => decide (t < u)
 | some u, some c => decide (t < u) && !decide (c < u)
noncomputable def papD (i j : Int) (till : Option Rat) : D := .tuple [.int i, .int j, w5 till]
theorem isR_no {ls : List Ln} {t : Rat} {i j : Int} {till : Option Rat} (h : i = j ∨ ¬ (0 ≤ i ∧ i < (ls.length : Int)) ∨ ¬ (0 ≤ j ∧ j < (ls.length : Int))) : isR ls t i j till = false := by unfold isR; rw [if_pos h]
theorem isR_of {ls : List Ln} {t : Rat} {i j : Nat} {till : Option Rat} (h : i ≠ j) (hi : i < ls.length) (hj : j < ls.length) : isR ls t i j till = (if ahN ls t i j = false then false else
 match till, nxN ls t i j with
 | none, c => c.isNone
 | some u, none => decide (t < u)
 | some u, some c => decide (t < u) && !decide (c < u)) := by
 unfold isR
 rw [if_neg (by omega)]
 rfl
section
variable {Q : Rv → Prop} {ls : List Ln}
theorem wU {i : Int} (q : Q (.val (.bool (decide (0 ≤ i ∧ i < (ls.length : Int)))))) : gA [.val (.list (bD ls)), .val (.int i)] Q := by
 refine kY ?_
 unfold rT
 walk_at "!?Ę["
 refine t_whole ?_
 walk_at "!:Ł%("
 refine gO (fun c => ?_) (fun c => ?_)
 ·walk_at "!ą&"
  refine dB (gZ ls) ?_
  rw [show decide (0 ≤ i ∧ i < (ls.length : Int)) = decide (i < (ls.length : Int)) by simp [c]] at q
  walk_at "!#"
  exact q
 ·rw [show decide (0 ≤ i ∧ i < (ls.length : Int)) = false by simp [c]] at q
  skip
  exact q
noncomputable def stayB (ls : List Ln) (t : Rat) (i j : Nat) (till : Option Rat) : Bool := if ahN ls t i j = false then false else
 match nxN ls t i j with
 | none => true
 | some c => (match till with
  | none => false
  | some u => !decide (c < u))
theorem t_stays_ahead {t : Rat} {i j : Nat} {till : Option Rat} (hz : LinesOk 200 ls) (hi : i < ls.length) (hj : j < ls.length) (ht : Sz 2900 t) (hu : ∀ u, till = some u → Sz 2900 u) (q : Q (.val (.bool (stayB ls t i j till)))) :
  fJ [.val (.list (bD ls)), .val (.int (i : Int)), .val (.int (j : Int)), .val (cG t), .val (w5 till)] Q := by
 have e1 : ls[i]? = some ls[i] := List.getElem?_eq_getElem hi
 have e2 : ls[j]? = some ls[j] := List.getElem?_eq_getElem hj
 obtain ⟨z1, z2⟩ := hz.get e1
 obtain ⟨z3, z4⟩ := hz.get e2
 have zc : ∀ m, nxN ls t i j = some m → Sz 802 m := fun m h => by
  rw [xU e1 e2] at h
  obtain ⟨n1, _, n3⟩ := vW h
  exact mt_sz z1 z2 z3 z4 (by unfold mtO; rw [if_neg n1, n3])
 unfold stayB at q
 refine kY ?_
 unfold nJ
 walk_at "!OPkY"
 refine qD e1 e2 (z1.mono (by decide)) (z2.mono (by decide)) (z3.mono (by decide)) (z4.mono (by decide)) ht ?_
 rw [← gC e1 e2]
 cases ha : ahN ls t i j with
 | false =>
  rw [if_pos ha] at q
  walk_at "!ā_"
  exact q
 | true =>
  rw [if_neg (by rw [ha]; decide)] at q
  walk_at "!]9"
  unfold o4
  walk_at "!$kY"
  refine t6 e1 e2 (z1.mono (by decide)) (z2.mono (by decide)) (z3.mono (by decide)) (z4.mono (by decide)) ht ?_
  rw [← xU e1 e2]
  walk_at "!?įĄ("
  cases hc : nxN ls t i j with
  | none =>
   rw [hc] at q
   refine wH ?_
   exact q
  | some m =>
   rw [hc] at q
   refine vD ?_
   walk_at "!Ęĉ("
   cases till with
   | none =>
    refine vD ?_
    exact q
   | some u =>
    refine wH ?_
    walk_at "!Ħ7"
    refine fB ((zc m hc).mono (by decide)) ((hu u rfl).mono (by decide)) ?_
    walk_at "!#"
    exact q
theorem t_is_right {t : Rat} {i j : Int} {till : Option Rat} (hz : LinesOk 200 ls) (hl : ls.length ≤ 30) (ht : Sz 2900 t) (hu : ∀ u, till = some u → Sz 2900 u) (q : Q (.val (.bool (isR ls t i j till)))) :
  fP [.val (.list (bD ls)), .val (cG t), .val (papD i j till)] Q := by
 refine kY ?_
 unfold uI papD
 walk_at "!$>"
 refine dB (d := .int i) rfl ?_
 walk_at "!$>"
 refine dB (d := .int j) rfl ?_
 walk_at "!$>"
 refine dB (d := w5 till) rfl ?_
 walk_at "!O|P7"
 refine wU ?_
 by_cases c1 : 0 ≤ i ∧ i < (ls.length : Int)
 rotate_left
 ·rw [isR_no (.inr (.inl c1))] at q
  rw [decide_eq_false c1]
  walk_at "!ā:_"
  exact q
 rw [decide_eq_true c1]
 walk_at "!]|P7"
 refine wU ?_
 by_cases c2 : 0 ≤ j ∧ j < (ls.length : Int)
 rotate_left
 ·rw [isR_no (.inr (.inr c2))] at q
  rw [decide_eq_false c2]
  walk_at "!ā:_"
  exact q
 rw [decide_eq_true c2]
 walk_at "!]2QL{#"
 refine gO (fun c3 => ?_) (fun c3 => ?_)
 ·rw [isR_no (.inl c3)] at q
  walk_at "!_"
  exact q
 obtain ⟨i, rfl⟩ : ∃ n : Nat, i = (n : Int) := ⟨i.toNat, by omega⟩
 obtain ⟨j, rfl⟩ : ∃ n : Nat, j = (n : Int) := ⟨j.toNat, by omega⟩
 have hi : i < ls.length := by omega
 have hj : j < ls.length := by omega
 rw [isR_of (by omega) hi hj] at q
 walk_at "!9"
 unfold tD
 walk_at "!Ojĉ("
 have last : (∀ u, till = some u → t < u) → mO [.val (.list (bD ls)), .val (cG t), .val (.tuple [.int (i : Int), .int (j : Int), w5 till]), .val (.int (i : Int)), .val (.int (j : Int)), .val (w5 till)] fun fl => match fl with | .rt rv => Q rv | .nx _ => Q (.val .none) | _ => False := by
  intro hlt
  unfold mO
  walk_at "!h===Y"
  refine t_stays_ahead hz hi hj ht hu ?_
  unfold stayB
  cases ha : ahN ls t i j with
  | false => rw [if_pos ha] at q; rw [if_pos rfl]; exact q
  | true =>
   rw [if_neg (by rw [ha]; decide)] at q
   rw [if_neg (by decide)]
   cases till with
   | none => cases hc : nxN ls t i j <;> rw [hc] at q <;> exact q
   | some u =>
    have := hlt u rfl
    cases hc : nxN ls t i j with
    | none => rw [hc] at q; show Q (.val (.bool true)); rw [← decide_eq_true this]; exact q
    | some m =>
     rw [hc] at q
     have q2 : Q (.val (.bool (decide (t < u) && !decide (m < u)))) := q
     rw [decide_eq_true this, Bool.true_and] at q2
     exact q2
 cases till with
 | none =>
  refine vD ?_
  walk_at "!F9"
  exact last fun u h => nomatch h
 | some u =>
  refine wH ?_
  walk_at "!P7"
  refine fB (ht.mono (by decide)) ((hu u rfl).mono (by decide)) ?_
  walk_at "!#"
  refine iteN2 (fun c => ?_) (fun c => ?_)
  ·walk_at "!_"
   have e3 : (if ahN ls t i j = false then false else match some u, nxN ls t i j with | none, c => c.isNone | some u, none => decide (t < u) | some u, some c => decide (t < u) && !decide (c < u)) = false := by
    split
    ·rfl
    ·cases nxN ls t i j with
     | none => exact decide_eq_false c
     | some m => show (decide (t < u) && _) = false; rw [decide_eq_false c]; rfl
   rw [e3] at q
   exact q
  ·walk_at "!9"
   exact last fun v h => by cases h; exact c
end
abbrev Pp := Int × Int × Option Rat
noncomputable def ppD (p : Pp) : D := papD p.1 p.2.1 p.2.2
noncomputable def PpOk (p : Pp) : Prop := ∀ u, p.2.2 = some u → Sz 2900 u
noncomputable def vO (ps : List Pp) : List D := ps.map ppD
theorem pY (ps : List Pp) : (vO ps).length = ps.length := by unfold vO; rw [List.length_map]
theorem dPps_get {ps : List Pp} {n : Nat} {d : D} (h : (vO ps)[n]? = some d) : ∃ p, ps[n]? = some p ∧ d = ppD p := by
 unfold vO at h
 rw [List.getElem?_map] at h
 cases e : ps[n]? with
 | none => rw [e] at h; cases h
 | some p => rw [e] at h; cases h; exact ⟨p, rfl, rfl⟩
theorem gd_pp (p : Pp) : Gd 2 (ppD p) := gd_tup (n := 1) fun d h => by
 rcases List.mem_cons.mp h with rfl | h
 ·exact (iZ _).mono
 ·rcases List.mem_cons.mp h with rfl | h
  ·exact (iZ _).mono
  ·rw [List.mem_singleton.mp h]; exact uX _
theorem gd_pps (ps : List Pp) : Gd 3 (.list (vO ps)) := qJ (n := 2) fun d h => by
 obtain ⟨p, _, rfl⟩ := List.mem_map.mp h
 exact gd_pp p
noncomputable def prD (i j : Int) : D := .tuple [.int i, .int j]
theorem good_pr (i j : Int) : Gd 1 (prD i j) := gd_2 (iZ _) (iZ _)
noncomputable def prs (ps : List Pp) : List D := ps.map fun p => prD p.1 p.2.1
theorem goods_prs (ps : List Pp) : Goods (prs ps) := gd_goods (n := 1) fun d h => by
 obtain ⟨p, _, rfl⟩ := List.mem_map.mp h
 exact good_pr _ _
noncomputable def inB (ps : List Pp) (i j : Int) : Bool := (prs ps).any fun e => PyData.eqv e (prD i j)
noncomputable def allR (ls : List Ln) (t : Rat) (ps : List Pp) : Bool := ps.all fun p => isR ls t p.1 p.2.1 p.2.2
noncomputable def nbIn (ls : List Ln) (t : Rat) (ps : List Pp) : Bool := (yE (ord ls t)).all fun q => inB ps q.1 q.2
noncomputable def untS (b : Option Rat) (p : Pp) : Option Rat := match p.2.2, b with
 | none, b => b
 | some u, none => some u
 | some u, some c => if u < c then some u else some c
noncomputable def dD (ps : List Pp) : Option Rat := ps.foldl untS none
theorem untilP_snoc (ps : List Pp) (p : Pp) : dD (ps ++ [p]) = untS (dD ps) p := by unfold dD; rw [List.foldl_append]; rfl
theorem untilP_sz {ps : List Pp} {c : Rat} (h : ∀ p ∈ ps, PpOk p) (e : dD ps = some c) : Sz 2900 c := by
 have go : ∀ (ps : List Pp) (b : Option Rat), (∀ p ∈ ps, PpOk p) → (∀ u, b = some u → Sz 2900 u) → ∀ c, ps.foldl untS b = some c → Sz 2900 c := by
  intro ps
  induction ps with
  | nil => exact fun b _ hb c e => hb c e
  | cons p ps ih =>
   intro b hp hb c e
   refine ih (untS b p) (fun x hx => hp x (List.mem_cons_of_mem _ hx)) (fun u hu => ?_) c e
   have h0 := hp p List.mem_cons_self
   obtain ⟨i, j, till⟩ := p
   cases till with
   | none => exact hb u hu
   | some v =>
    cases b with
    | none => cases hu; exact h0 _ rfl
    | some w =>
     have hu : (if v < w then some v else some w) = some u := hu
     split at hu
     ·cases hu; exact h0 _ rfl
     ·cases hu; exact hb _ rfl
 exact go ps none h (fun u hu => by cases hu) c e
noncomputable def dueP (ls : List Ln) (t : Rat) (ps : List Pp) : Option (List Nat × Option Rat) := if allR ls t ps = true then (if nbIn ls t ps = true then some (ord ls t, dD ps) else none) else none
noncomputable def dDue : Option (List Nat × Option Rat) → D
 | none => .none
 | some r => .tuple [.list (cV r.1), w5 r.2]
theorem all_out {α : Type} (xs : List α) (f : α → Bool) : sG ([] ++ (List.filter (fun _ => true) xs).map fun x => PyData.bool (f x)) = some (xs.map f) := by
 have e : List.filter (fun _ => true) xs = xs := List.filter_eq_self.mpr fun _ _ => rfl
 rw [e, List.nil_append, show (xs.map fun x => PyData.bool (f x)) = (xs.map f).map PyData.bool by rw [List.map_map]; rfl]
 exact boolsD_map _
theorem map_out {α : Type} (xs : List α) (f : α → D) : ([] : List D) ++ (List.filter (fun _ => true) xs).map f = xs.map f := by
 have e : List.filter (fun _ => true) xs = xs := List.filter_eq_self.mpr fun _ _ => rfl
 rw [e, List.nil_append]
theorem all_id {α : Type} (xs : List α) (f : α → Bool) : (xs.map f).all id = xs.all f := by rw [List.all_map]; rfl
section
variable {Q : Rv → Prop} {ls : List Ln}
theorem wN {ps : List Pp} (hz : ∀ p ∈ ps, PpOk p) (q : ∀ d, ((d = .none ∧ dD ps = none) ∨ ∃ (k : Nat) (p : Pp) (u : Rat), d = .int (k : Int) ∧ ps[k]? = some p ∧ p.2.2 = some u ∧ dD ps = some u) → Q (.val d)) :
  dJ [.val (.list (vO ps))] Q := by
 refine kY ?_
 unfold jT
 walk_at "!$%G#ł("
 refine mW (fun n Γ => ∃ d a b, Γ = [.val (.list (vO ps)), .val d, a, b] ∧ ((d = .none ∧ dD (ps.take n) = none) ∨ ∃ (k : Nat) (p : Pp) (u : Rat), d = .int (k : Int) ∧ ps[k]? = some p ∧ p.2.2 = some u ∧ dD (ps.take n) = some u)) ⟨_, _, _, rfl, .inl ⟨rfl, rfl⟩⟩ ?_ ?_
 ·rintro n d Γ K hd ⟨d0, a, b, rfl, hI⟩ hk
  have hn : n < ps.length := by
   have := (List.getElem?_eq_some_iff.mp hd).1
   unfold zR at this
   rw [List.length_map, List.length_range, pY] at this
   exact this
  have hp : ps[n]? = some ps[n] := List.getElem?_eq_getElem hn
  have ed : d = .tuple [.int (n : Int), ppD ps[n]] := by
   unfold zR at hd
   rw [List.getElem?_map, List.getElem?_range (by rw [pY]; exact hn)] at hd
   have : (vO ps).getD n .none = ppD ps[n] := by
    rw [List.getD_eq_getElem?_getD]
    unfold vO
    rw [List.getElem?_map, hp]
    rfl
   have h2 : some (PyData.tuple [.int (n : Int), (vO ps).getD n .none]) = some d := hd
   rw [this] at h2
   exact (Option.some.inj h2).symm
  subst ed
  have zp := hz _ (List.getElem_mem hn)
  have tk : ps.take (n + 1) = ps.take n ++ [ps[n]] := by rw [List.take_succ, hp]; rfl
  have hk3 := hk.nx
  rw [tk, untilP_snoc] at hk3
  generalize dD (ps.take n) = w at *
  generalize hpp : ps[n] = p at *
  obtain ⟨i, j, till⟩ := p
  unfold kW
  walk_at "!gq`jĉ>"
  refine dB (d := w5 till) rfl ?_
  skip
  cases till with
  | none =>
   skip
   exact hk3 _ ⟨_, _, _, rfl, hI⟩
  | some u =>
   skip
   rcases hI with ⟨rfl, rfl⟩ | ⟨k, p, c, rfl, e1, e2, rfl⟩
   ·skip
    exact hk3 _ ⟨_, _, _, rfl, .inr ⟨n, _, u, rfl, hp, rfl, rfl⟩⟩
   ·have hkl := (List.getElem?_eq_some_iff.mp e1).1
    skip
    refine dB (uZ (show (vO ps)[k]? = some (ppD p) by unfold vO; rw [List.getElem?_map, e1]; rfl)) ?_
    walk_at "!T"
    refine dB (d := cG c) (by show some (w5 p.2.2) = _; rw [e2]; rfl) ?_
    walk_at "!1"
    refine fB ((zp u rfl).mono (by decide)) ((hz p (List.mem_of_getElem? e1) c e2).mono (by decide)) ?_
    walk_at "!#"
    refine gO (fun h => ?_) (fun h => ?_)
    ·walk_at "!n("
     refine hk3 _ ⟨_, _, _, rfl, .inr ⟨n, _, u, rfl, hp, rfl, ?_⟩⟩
     show (if u < c then some u else some c) = _
     rw [if_pos h]
    ·walk_at "!5"
     refine hk3 _ ⟨_, _, _, rfl, .inr ⟨k, p, c, rfl, e1, e2, ?_⟩⟩
     show (if u < c then some u else some c) = _
     rw [if_neg h]
 ·rintro Γ ⟨d, a, b, rfl, hI⟩
  have hle : (zR (vO ps)).length = ps.length := by unfold zR; rw [List.length_map, List.length_range, pY]
  rw [hle, List.take_length] at hI
  unfold jZ
  walk_at "!?("
  exact q d hI
theorem t_shown {ps : List Pp} {t : Rat} (hz : LinesOk 200 ls) (hl : ls.length ≤ 30) (ht : Sz 2900 t) (hp : ∀ p ∈ ps, PpOk p) (hn : ps.length ≤ 500)
  (q : match dueP ls t ps with | none => Q (.val .none) | some r => Q (.box (bTup (cV r.1) (w5 r.2)))) : rG [.val (.list (bD ls)), .val (cG t), .val (.list (vO ps))] Q := by
 refine kY ?_
 unfold b_shown
 walk_at "!OPİZ("
 refine ⟨by rw [pY]; omega, ?_⟩
 refine fD (α := Pp) (fun _ => true) (fun p => .bool (isR ls t p.1 p.2.1 p.2.2)) ppD ps [] _ (fun p hm _ k k0 h1 h0 => ?_) ?_
 ·walk_at "!4"
  unfold jQ
  walk_at "!:^"
  refine t_is_right hz hl ht (hp p hm) ?_
  walk_at "!#"
  exact h1 rfl
 rw [all_out]
 walk_at "!#"
 rw [all_id, show (ps.all fun p => isR ls t p.1 p.2.1 p.2.2) = allR ls t ps from rfl]
 unfold dueP at q
 cases ha : allR ls t ps with
 | false =>
  rw [ha] at q
  walk_at "!ā_"
  exact q
 | true =>
  rw [ha, if_pos rfl] at q
  walk_at "!]9"
  unfold b_shown_r2
  walk_at "!iċY"
  refine iK hz hl ht ?_
  walk_at "!$Z("
  refine ⟨by rw [pY]; omega, ?_⟩
  refine fD (α := Pp) (fun _ => true) (fun p => prD p.1 p.2.1) ppD ps [] _ (fun p hm _ k k0 h1 h0 => ?_) ?_
  ·walk_at "!4"
   unfold jQ
   walk_at "!:36"
   refine dB (d := .int p.1) rfl ?_
   walk_at "!*6"
   refine dB (d := .int p.2.1) rfl ?_
   walk_at "!/"
   exact h1 rfl
  rw [map_out, show (ps.map fun p => prD p.1 p.2.1) = prs ps from rfl]
  walk_at "!OĈPİZ["
  refine oX ?_
  walk_at "!#"
  have hol := lH ls t
  refine ⟨by rw [List.length_map, jF]; omega, ?_⟩
  refine fD (α := Nat × Nat) (fun _ => true) (fun p => .bool (inB ps p.1 p.2)) dPair (yE (ord ls t)) [] _ (fun p hm _ k k0 h1 h0 => ?_) ?_
  ·walk_at "!4"
   unfold jQ
   walk_at "!:Ğx"
   exact ⟨(good_pr _ _).good, goods_prs ps, h1 rfl⟩
  rw [all_out]
  walk_at "!M"
  rw [all_id, show ((yE (ord ls t)).all fun p => inB ps p.1 p.2) = nbIn ls t ps from rfl]
  cases hb : nbIn ls t ps with
  | false =>
   rw [hb] at q
   walk_at "!ā_"
   exact q
  | true =>
   rw [hb, if_pos rfl] at q
   walk_at "!]9"
   unfold b_shown_r1
   walk_at "!$["
   refine wN hp fun d hd => ?_
   walk_at "!E#"
   refine i_tupB rfl ?_
   rcases hd with ⟨rfl, e⟩ | ⟨k, p, u, rfl, e1, e2, e⟩
   ·rw [e] at q
    walk_at "!ı2Ą(:%"
    exact q
   ·rw [e] at q
    have hkl := (List.getElem?_eq_some_iff.mp e1).1
    walk_at "!ı2Ą(F))L"
    refine dB (uZ (show (vO ps)[k]? = some (ppD p) by unfold vO; rw [List.getElem?_map, e1]; rfl)) ?_
    walk_at "!%"
    refine dB (d := cG u) (by show some (w5 p.2.2) = _; rw [e2]; rfl) ?_
    skip
    exact q
end
noncomputable def o9 (ls : List Ln) (t : Rat) : List Pp := (yE (ord ls t)).map fun p => ((p.1 : Int), (p.2 : Int), nxN ls t p.1 p.2)
theorem yM (ls : List Ln) (t : Rat) : paps ls t = vO (o9 ls t) := by
 unfold paps zJ
 rw [← nbrs_map (paperD ls t) (ord ls t)]
 unfold vO o9
 rw [List.map_map]
 rfl
theorem pap0_len (ls : List Ln) (t : Rat) : (o9 ls t).length = ls.length - 1 := by
 unfold o9
 rw [List.length_map, jF, lH]
theorem wD {xs : List Nat} {p : Nat × Nat} (h : p ∈ yE xs) : Adj xs p.1 p.2 := by
 obtain ⟨n, hn, rfl⟩ := nbrs_mem h
 exact ⟨n, List.getElem?_eq_getElem (by omega), List.getElem?_eq_getElem hn⟩
theorem nbrs_adj {xs : List Nat} {i j : Nat} (h : Adj xs i j) : (i, j) ∈ yE xs := by
 obtain ⟨n, h1, h2⟩ := h
 obtain ⟨l1, rfl⟩ := List.getElem?_eq_some_iff.mp h1
 obtain ⟨l2, rfl⟩ := List.getElem?_eq_some_iff.mp h2
 exact List.mem_of_getElem? (pN l2)
theorem mem_pap0 {ls : List Ln} {t : Rat} {p : Pp} : p ∈ o9 ls t ↔ ∃ i j : Nat, Adj (ord ls t) i j ∧ p = ((i : Int), (j : Int), nxN ls t i j) := by
 unfold o9
 rw [List.mem_map]
 constructor
 ·rintro ⟨q, h, rfl⟩
  exact ⟨q.1, q.2, wD h, rfl⟩
 ·rintro ⟨i, j, h, rfl⟩
  exact ⟨(i, j), nbrs_adj h, rfl⟩
theorem adj_ord {ls : List Ln} {t : Rat} {i j : Nat} (h : Adj (ord ls t) i j) : i < ls.length ∧ j < ls.length ∧ i ≠ j ∧ ahN ls t i j = true ∧ ahN ls t j i = false := by
 have ha := srt_adj (lE ls t) h
 obtain ⟨n, h1, h2⟩ := h
 have hi := (eU ls t i).mp (List.mem_of_getElem? h1)
 have hj := (eU ls t j).mp (List.mem_of_getElem? h2)
 have hij : i ≠ j := by
  rintro rfl
  rw [(cL ls t).irr hj] at ha
  cases ha
 exact ⟨hi, hj, hij, ha, (cL ls t).asymm _ _ hi hj ha⟩
theorem nxN_some {ls : List Ln} {t u : Rat} {i j : Nat} (h : nxN ls t i j = some u) : t < u ∧ u ∈ mts ls := by
 unfold nxN at h
 cases e1 : ls[i]? with
 | none => rw [e1] at h; cases h
 | some l =>
  cases e2 : ls[j]? with
  | none => rw [e1, e2] at h; cases h
  | some k =>
   rw [e1, e2] at h
   obtain ⟨c1, c2, c3⟩ := vW h
   exact ⟨c2, mem_mts.mpr ⟨i, j, l, k, e1, e2, c1, c3.symm⟩⟩
theorem isR_pap {ls : List Ln} {t : Rat} {i j : Nat} (h : Adj (ord ls t) i j) : isR ls t i j (nxN ls t i j) = true := by
 obtain ⟨hi, hj, hij, ha, _⟩ := adj_ord h
 rw [isR_of hij hi hj, if_neg (by rw [ha]; decide)]
 cases hn : nxN ls t i j with
 | none => rfl
 | some u =>
  show (decide (t < u) && !decide (u < u)) = true
  rw [decide_eq_true (nxN_some hn).1, decide_eq_false (by grind)]
  rfl
theorem isR_rev {ls : List Ln} {t : Rat} {i j : Nat} {till : Option Rat} (h : Adj (ord ls t) i j) : isR ls t j i till = false := by
 obtain ⟨hi, hj, hij, _, ha⟩ := adj_ord h
 rw [isR_of (Ne.symm hij) hj hi, if_pos ha]
theorem isR_open {ls : List Ln} {t u : Rat} {i j : Nat} (h : Adj (ord ls t) i j) (hn : nxN ls t i j = some u) : isR ls t i j none = false := by
 obtain ⟨hi, hj, hij, ha, _⟩ := adj_ord h
 rw [isR_of hij hi hj, if_neg (by rw [ha]; decide), hn]
 rfl
theorem isR_late {ls : List Ln} {v u : Rat} {i j : Int} (h : ¬ v < u) : isR ls v i j (some u) = false := by
 unfold isR
 split
 ·rfl
 ·split
  ·rfl
  ·generalize nxN ls v i.toNat j.toNat = c
   cases c with
   | none => exact decide_eq_false h
   | some c =>
    show (decide (v < u) && !decide (c < u)) = false
    rw [decide_eq_false h]
    rfl
theorem unt_go : ∀ (ps : List Pp) (b : Option Rat), (∀ u, ps.foldl untS b = some u → (b = some u ∨ ∃ p ∈ ps, p.2.2 = some u) ∧ (∀ v, b = some v → u ≤ v) ∧ ∀ p ∈ ps, ∀ v, p.2.2 = some v → u ≤ v) ∧ (ps.foldl untS b = none → b = none ∧ ∀ p ∈ ps, p.2.2 = none)
 | [], b => ⟨fun u h => ⟨.inl h, fun v hv => by rw [show b = some u from h] at hv; cases hv; exact Rat.le_refl, fun _ h => (nomatch h)⟩, fun h => ⟨h, fun _ h => (nomatch h)⟩⟩
 | p :: ps, b => by
  obtain ⟨g1, g2⟩ := unt_go ps (untS b p)
  obtain ⟨i, j, till⟩ := p
  cases till with
  | none =>
   refine ⟨fun u h => ?_, fun h => ?_⟩
   ·obtain ⟨a1, a2, a3⟩ := g1 u h
    refine ⟨a1.imp (fun x => x) fun ⟨q, x, y⟩ => ⟨q, List.mem_cons_of_mem _ x, y⟩, a2, fun q hq v hv => ?_⟩
    rcases List.mem_cons.mp hq with rfl | hq
    ·cases hv
    ·exact a3 q hq v hv
   ·obtain ⟨a1, a2⟩ := g2 h
    refine ⟨a1, fun q hq => ?_⟩
    rcases List.mem_cons.mp hq with rfl | hq
    ·rfl
    ·exact a2 q hq
  | some w =>
   have key : ∃ c, untS b (i, j, some w) = some c ∧ (b = some c ∨ w = c) ∧ c ≤ w ∧ ∀ v, b = some v → c ≤ v := by
    cases b with
    | none => exact ⟨w, rfl, .inr rfl, Rat.le_refl, fun v h => by cases h⟩
    | some x =>
     by_cases hx : w < x
     ·exact ⟨w, by show (if w < x then _ else _) = _; rw [if_pos hx], .inr rfl, Rat.le_refl, fun v h => by cases h; grind⟩
     ·exact ⟨x, by show (if w < x then _ else _) = _; rw [if_neg hx], .inl rfl, by grind, fun v h => by cases h; exact Rat.le_refl⟩
   obtain ⟨c, e, k1, k2, k3⟩ := key
   rw [e] at g1 g2
   refine ⟨fun u h => ?_, fun h => ?_⟩
   ·rw [List.foldl_cons, e] at h
    obtain ⟨a1, a2, a3⟩ := g1 u h
    refine ⟨?_, fun v hv => Rat.le_trans (a2 c rfl) (k3 v hv), fun q hq v hv => ?_⟩
    ·rcases a1 with a1 | ⟨q, x, y⟩
     ·cases a1
      rcases k1 with k1 | k1
      ·exact .inl k1
      ·exact .inr ⟨_, List.mem_cons_self, by rw [k1]⟩
     ·exact .inr ⟨q, List.mem_cons_of_mem _ x, y⟩
    ·rcases List.mem_cons.mp hq with rfl | hq
     ·cases hv
      exact Rat.le_trans (a2 c rfl) k2
     ·exact a3 q hq v hv
   ·rw [List.foldl_cons, e] at h
    cases (g2 h).1
theorem pK {ps : List Pp} {u : Rat} (h : dD ps = some u) : (∃ p ∈ ps, p.2.2 = some u) ∧ ∀ p ∈ ps, ∀ v, p.2.2 = some v → u ≤ v := by
 obtain ⟨a1, _, a3⟩ := (unt_go ps none).1 u h
 exact ⟨a1.elim (fun x => by cases x) fun x => x, a3⟩
theorem unt_none {ps : List Pp} (h : dD ps = none) : ∀ p ∈ ps, p.2.2 = none := ((unt_go ps none).2 h).2
noncomputable def Early (ls : List Ln) (t v : Rat) : Prop := ∀ u, dD (o9 ls t) = some u → v < u
theorem early_adj {ls : List Ln} {t v : Rat} (h : Early ls t v) {i j : Nat} (g : Adj (ord ls t) i j) {u : Rat} (hu : nxN ls t i j = some u) : v < u := by
 have hm := mem_pap0.mpr ⟨i, j, g, rfl⟩
 cases e : dD (o9 ls t) with
 | none =>
  have := unt_none e _ hm
  rw [show nxN ls t i j = none from this] at hu
  cases hu
 | some w =>
  have h1 := h w e
  have h2 := (pK e).2 _ hm u hu
  grind
theorem tK {ls : List Ln} {t v : Rat} (htv : t ≤ v) (h : Early ls t v) : ord ls v = ord ls t := ord_stays htv fun _ _ g _ hu => early_adj h g hu
theorem nx_holds {ls : List Ln} {t v : Rat} (htv : t ≤ v) {i j : Nat} (h : ∀ u, nxN ls t i j = some u → v < u) : nxN ls v i j = nxN ls t i j := by
 unfold nxN at *
 cases e1 : ls[i]? with
 | none => rfl
 | some l =>
  cases e2 : ls[j]? with
  | none => rfl
  | some k =>
   rw [e1, e2] at h
   dsimp only at h ⊢
   unfold nxC at *
   by_cases c : l.2 = k.2
   ·rw [if_pos c, if_pos c]
   ·rw [if_neg c] at h
    rw [if_neg c, if_neg c]
    by_cases d : t < mt l k
    ·rw [if_pos d] at h
     rw [if_pos d, if_pos (h _ rfl)]
    ·rw [if_neg d, if_neg (by grind)]
theorem pap0_holds {ls : List Ln} {t v : Rat} (htv : t ≤ v) (h : Early ls t v) : o9 ls v = o9 ls t := by
 unfold o9
 rw [tK htv h]
 refine List.map_congr_left fun p hp => ?_
 rw [nx_holds htv fun u hu => early_adj h (wD hp) hu]
theorem due_pap (ls : List Ln) (t : Rat) : dueP ls t (o9 ls t) = some (ord ls t, dD (o9 ls t)) := by
 have e1 : allR ls t (o9 ls t) = true := List.all_eq_true.mpr fun p hp => by
  obtain ⟨i, j, g, rfl⟩ := mem_pap0.mp hp
  exact isR_pap g
 have e2 : nbIn ls t (o9 ls t) = true := List.all_eq_true.mpr fun p hp => by
  unfold inB
  exact List.any_eq_true.mpr ⟨prD p.1 p.2, List.mem_map.mpr ⟨_, mem_pap0.mpr ⟨p.1, p.2, wD hp, rfl⟩, rfl⟩, nZ (good_pr _ _).good⟩
 unfold dueP
 rw [e1, if_pos rfl, e2, if_pos rfl]
theorem due_holds {ls : List Ln} {t v : Rat} (htv : t ≤ v) (h : Early ls t v) : dueP ls v (o9 ls t) = some (ord ls t, dD (o9 ls t)) := by
 have := due_pap ls v
 rw [pap0_holds htv h, tK htv h] at this
 exact this
theorem due_fails {ls : List Ln} {t v u : Rat} (hu : dD (o9 ls t) = some u) (h : ¬ v < u) : dueP ls v (o9 ls t) = none := by
 obtain ⟨p, hp, e⟩ := (pK hu).1
 have e1 : allR ls v (o9 ls t) = false := by
  rw [Bool.eq_false_iff]
  intro z
  have := List.all_eq_true.mp z p hp
  rw [e, isR_late h] at this
  cases this
 unfold dueP
 rw [e1]
 rfl
theorem ah_of_ord {ls : List Ln} {s t : Rat} (h : ord ls s = ord ls t) {i j : Nat} (hi : i < ls.length) (hj : j < ls.length) : ahN ls s i j = ahN ls t i j := by
 obtain ⟨a, ha⟩ := List.mem_iff_getElem?.mp ((eU ls t i).mpr hi)
 obtain ⟨b, hb⟩ := List.mem_iff_getElem?.mp ((eU ls t j).mpr hj)
 obtain ⟨la, ea⟩ := List.getElem?_eq_some_iff.mp ha
 obtain ⟨lb, eb⟩ := List.getElem?_eq_some_iff.mp hb
 have st := lE ls t
 have ss := lE ls s
 rw [h] at ss
 have pt := List.pairwise_iff_getElem.mp st
 have ps := List.pairwise_iff_getElem.mp ss
 rcases Nat.lt_trichotomy a b with c | c | c
 ·have h1 := pt a b la lb c
  have h2 := ps a b la lb c
  rw [ea, eb] at h1 h2
  rw [h1, h2]
 ·subst c
  have e : i = j := ea.symm.trans eb
  rw [e, (cL ls s).irr hj, (cL ls t).irr hj]
 ·have h1 := pt b a lb la c
  have h2 := ps b a lb la c
  rw [ea, eb] at h1 h2
  rw [(cL ls t).asymm _ _ hj hi h1, (cL ls s).asymm _ _ hj hi h2]
theorem ord_meets {ls : List Ln} {s t : Rat} (h : s ∈ mts ls) (hts : t < s) : ord ls s ≠ ord ls t := by
 intro e
 obtain ⟨i, j, l, k, g1, g2, g3, rfl⟩ := mem_mts.mp h
 have := ah_of_ord e (List.getElem?_eq_some_iff.mp g1).1 (List.getElem?_eq_some_iff.mp g2).1
 rw [gC g1 g2, gC g1 g2, ah_ge g3 Rat.le_refl, ah_lt g3 hts] at this
 by_cases c : l.2 < k.2
 ·rw [decide_eq_true c, decide_eq_false (by grind)] at this
  cases this
 ·rw [decide_eq_false c, decide_eq_true (by grind)] at this
  cases this
theorem chT_holds {ls : List Ln} {t v : Rat} (h : Early ls t v) : chT ls t v = [] := by
 refine List.eq_nil_iff_forall_not_mem.mpr fun s hs => ?_
 obtain ⟨a, b, c⟩ := mem_chT.mp hs
 exact ord_meets a b (tK (by grind) fun u hu => by have := h u hu; grind)
theorem chT_until {ls : List Ln} {t u : Rat} (hu : dD (o9 ls t) = some u) : t < u ∧ u ∈ mts ls ∧ ord ls u ≠ ord ls t ∧ chT ls t u = [u] := by
 obtain ⟨p, hp, e⟩ := (pK hu).1
 obtain ⟨i, j, g, rfl⟩ := mem_pap0.mp hp
 have e : nxN ls t i j = some u := e
 obtain ⟨h1, h2⟩ := nxN_some e
 refine ⟨h1, h2, ord_turns g e, srt_eq (List.Pairwise.filter _ (lK ls)) (List.pairwise_singleton _ _) fun s => ?_⟩
 rw [mem_chT, List.mem_singleton]
 constructor
 ·rintro ⟨a, b, c⟩
  by_cases d : s = u
  ·exact d
  ·exact absurd (tK (ls := ls) (t := t) (v := s) (by grind) fun w hw => by rw [hu] at hw; cases hw; grind) (ord_meets a b)
 ·rintro rfl
  exact ⟨h2, h1, by grind⟩
theorem good_told (ls : List Ln) (t : Rat) (u : Option Rat) : Good (.tuple [.list (cV (ord ls t)), w5 u]) := (gd_2 (n := 1) (qJ (n := 0) fun d h => by obtain ⟨o, _, rfl⟩ := List.mem_map.mp h; exact iZ _) (uX _)).good
theorem good_ord (ls : List Ln) (t : Rat) : Good (.list (cV (ord ls t))) := (qJ (n := 0) fun d h => by obtain ⟨o, _, rfl⟩ := List.mem_map.mp h; exact iZ _).good
theorem pap0_ok {ls : List Ln} {t : Rat} (hz : LinesOk 200 ls) : ∀ p ∈ o9 ls t, PpOk p := fun p hp u hu => by
 obtain ⟨i, j, _, rfl⟩ := mem_pap0.mp hp
 exact (vA hz (nxN_some hu).2).mono (by decide)
theorem nb {xs : List Nat} {n : Nat} (h : n + 1 < xs.length) : xs.getD n 0 = xs[n] ∧ xs.getD (n + 1) 0 = xs[n + 1] := ⟨by simp [List.getD_eq_getElem?_getD, List.getElem?_eq_getElem (show n < xs.length by omega)], by simp [List.getD_eq_getElem?_getD, List.getElem?_eq_getElem h]⟩
noncomputable def gapN (ls : List Ln) (t : Rat) (i j : Nat) : Rat := match ls[i]?, ls[j]? with
 | some l, some k => pl l t - pl k t
 | _, _ => 0
theorem gapN_eq {ls : List Ln} {t : Rat} {i j : Nat} {l k : Ln} (h1 : ls[i]? = some l) (h2 : ls[j]? = some k) : gapN ls t i j = pl l t - pl k t := by unfold gapN; rw [h1, h2]
abbrev Nr := Option (Nat × Nat × Rat)
noncomputable def yK (ls : List Ln) (t : Rat) (i j : Nat) (b : Nr) : Nr := match b with
 | none => some (i, j, gapN ls t i j)
 | some c => if gapN ls t i j < c.2.2 then some (i, j, gapN ls t i j) else some c
noncomputable def nrTo (ls : List Ln) (t : Rat) (xs : List Nat) : Nat → Nr
 | 0 => none
 | n + 1 => yK ls t (xs.getD n 0) (xs.getD (n + 1) 0) (nrTo ls t xs n)
noncomputable def nr (ls : List Ln) (t : Rat) : Nr := nrTo ls t (ord ls t) ((ord ls t).length - 1)
noncomputable def dNr : Nr → D
 | none => .none
 | some c => .tuple [.int (c.1 : Int), .int (c.2.1 : Int), cG c.2.2]
theorem good_nr (b : Nr) : Good (dNr b) := by
 cases b with
 | none => exact good_none
 | some c => exact (gd_tup (n := 1) (ds := [.int (c.1 : Int), .int (c.2.1 : Int), cG c.2.2]) fun d h => by
   rcases List.mem_cons.mp h with rfl | h
   ·exact (iZ _).mono
   ·rcases List.mem_cons.mp h with rfl | h
    ·exact (iZ _).mono
    ·rw [List.mem_singleton.mp h]; exact wM _).good
theorem gap_sz {ls : List Ln} {t : Rat} {i j : Nat} {l k : Ln} (h1 : ls[i]? = some l) (h2 : ls[j]? = some k) (hz : LinesOk 200 ls) (ht : Sz 802 t) : Sz 1300 (pl l t) ∧ Sz 1300 (pl k t) ∧ Sz 2700 (gapN ls t i j) := by
 obtain ⟨z1, z2⟩ := hz.get h1
 obtain ⟨z3, z4⟩ := hz.get h2
 have a : Sz 1300 (pl l t) := (z1.add (z2.mul ht)).mono (by decide)
 have b : Sz 1300 (pl k t) := (z3.add (z4.mul ht)).mono (by decide)
 exact ⟨a, b, by rw [gapN_eq h1 h2]; exact (a.sub b).mono (by decide)⟩
theorem wG {ls : List Ln} {t : Rat} {xs : List Nat} : ∀ {n : Nat}, (n = 0 ↔ nrTo ls t xs n = none) ∧ ∀ c, nrTo ls t xs n = some c → (∃ m, m < n ∧ c = (xs.getD m 0, xs.getD (m + 1) 0, gapN ls t (xs.getD m 0) (xs.getD (m + 1) 0))) ∧ ∀ m, m < n → c.2.2 ≤ gapN ls t (xs.getD m 0) (xs.getD (m + 1) 0)
 | 0 => ⟨⟨fun _ => rfl, fun _ => rfl⟩, fun c h => by cases h⟩
 | n + 1 => by
  obtain ⟨ih0, ih⟩ := wG (ls := ls) (t := t) (xs := xs) (n := n)
  have hs : nrTo ls t xs (n + 1) = yK ls t (xs.getD n 0) (xs.getD (n + 1) 0) (nrTo ls t xs n) := rfl
  rw [hs]
  cases e : nrTo ls t xs n with
  | none =>
   have hn := ih0.mpr e
   subst hn
   refine ⟨⟨fun h => by omega, fun h => by cases h⟩, fun c h => ?_⟩
   cases h
   refine ⟨⟨0, by omega, rfl⟩, fun m hm => ?_⟩
   rw [show m = 0 by omega]
   exact Rat.le_refl
  | some c0 =>
   obtain ⟨⟨m0, hm0, e0⟩, h0⟩ := ih c0 e
   unfold yK
   dsimp only
   by_cases c : gapN ls t (xs.getD n 0) (xs.getD (n + 1) 0) < c0.2.2
   ·rw [if_pos c]
    refine ⟨⟨fun h => by omega, fun h => by cases h⟩, fun d h => ?_⟩
    cases h
    refine ⟨⟨n, by omega, rfl⟩, fun m hm => ?_⟩
    by_cases z : m = n
    ·rw [z]; exact Rat.le_refl
    ·have := h0 m (by omega)
     show gapN ls t (xs.getD n 0) (xs.getD (n + 1) 0) ≤ _
     grind
   ·rw [if_neg c]
    refine ⟨⟨fun h => by omega, fun h => by cases h⟩, fun d h => ?_⟩
    cases h
    refine ⟨⟨m0, by omega, e0⟩, fun m hm => ?_⟩
    by_cases z : m = n
    ·rw [z]; grind
    ·exact h0 m (by omega)
section
variable {Q : Rv → Prop} {ls : List Ln}
theorem near_turn {xs : List Nat} {n : Nat} {t : Rat} (hz : LinesOk 200 ls) (ht : Sz 802 t) (h : n + 1 < xs.length) (hm : ∀ x ∈ xs, x < ls.length) :
  ∃ l k, ls[xs[n]]? = some l ∧ ls[xs[n + 1]]? = some k ∧ nrTo ls t xs (n + 1) = yK ls t xs[n] xs[n + 1] (nrTo ls t xs n) ∧ Sz 2700 (gapN ls t xs[n] xs[n + 1]) := by
 have m1 := hm xs[n] (List.getElem_mem _)
 have m2 := hm xs[n + 1] (List.getElem_mem _)
 have e1 : ls[xs[n]]? = some ls[xs[n]] := List.getElem?_eq_getElem m1
 have e2 : ls[xs[n + 1]]? = some ls[xs[n + 1]] := List.getElem?_eq_getElem m2
 refine ⟨_, _, e1, e2, ?_, (gap_sz e1 e2 hz ht).2.2⟩
 have hn := nb h
 show yK ls t (xs.getD n 0) (xs.getD (n + 1) 0) _ = _
 rw [hn.1, hn.2]
theorem nr_sz {xs : List Nat} {t : Rat} (hz : LinesOk 200 ls) (ht : Sz 802 t) (hm : ∀ x ∈ xs, x < ls.length) : ∀ n, n + 1 ≤ xs.length → ∀ c, nrTo ls t xs n = some c → Sz 2700 c.2.2
 | 0, _, c, h => by cases h
 | n + 1, hn, c, h => by
  obtain ⟨l, k, _, _, e, z⟩ := near_turn hz ht (n := n) (by omega) hm
  rw [e] at h
  have ih := nr_sz hz ht hm n (by omega)
  unfold yK at h
  split at h
  ·cases h; exact z
  ·rename_i b hb
   split at h
   ·cases h; exact z
   ·cases h; exact ih _ hb
theorem t_nearest {t : Rat} (hz : LinesOk 200 ls) (hl : ls.length ≤ 30) (ht : Sz 802 t) (q : Q (.val (dNr (nr ls t)))) : jU [.val (.list (bD ls)), .val (cG t)] Q := by
 refine kY ?_
 unfold xV
 walk_at "!$%GăC7"
 refine iK hz hl (ht.mono (by decide)) ?_
 walk_at "!8"
 refine oX ?_
 walk_at "!#"
 have hlen := lH ls t
 have hm : ∀ x ∈ ord ls t, x < ls.length := fun x hx => (eU ls t x).mp hx
 unfold nr at q
 generalize ord ls t = xs at *
 refine mW (fun i Γ => ∃ a b c, Γ = [.val (.list (bD ls)), .val (cG t), .val (dNr (nrTo ls t xs i)), a, b, c]) ⟨_, _, _, rfl⟩ ?_ ?_
 ·rintro i d Γ K hd ⟨a, b, c, rfl⟩ hk
  have hi' : i + 1 < xs.length := by
   have := (List.getElem?_eq_some_iff.mp hd).1
   rw [List.length_map, jF] at this
   omega
  rw [List.getElem?_map, pN hi'] at hd
  cases hd
  obtain ⟨l, k, e1, e2, e, z⟩ := near_turn hz ht hi' hm
  have zs := nr_sz hz ht hm i (by omega)
  have hk3 := hk.nx
  rw [e] at hk3
  obtain ⟨z1, z2⟩ := hz.get e1
  obtain ⟨z3, z4⟩ := hz.get e2
  obtain ⟨g1, g2, _⟩ := gap_sz e1 e2 hz ht
  unfold dPair uY
  walk_at "!gq$CCK"
  refine dB (gR e1) ?_
  walk_at "!=1"
  refine uJ (z1.mono (by decide)) (z2.mono (by decide)) (ht.mono (by decide)) ?_
  walk_at "!-CK"
  refine dB (gR e2) ?_
  walk_at "!=1"
  refine uJ (z3.mono (by decide)) (z4.mono (by decide)) (ht.mono (by decide)) ?_
  walk_at "!8"
  refine gU (g1.mono (by decide)) (g2.mono (by decide)) ?_
  have eg : l.1 + l.2 * t - (k.1 + k.2 * t) = gapN ls t xs[i] xs[i + 1] := (gapN_eq e1 e2).symm
  rw [eg]
  walk_at "!`|2Ą("
  cases hb : nrTo ls t xs i with
  | none =>
   rw [hb] at hk3
   refine wH ?_
   walk_at "!:n3&;;A"
   exact hk3 _ ⟨_, _, _, rfl⟩
  | some c =>
   rw [hb] at hk3
   unfold yK at hk3
   dsimp only at hk3
   refine vD ?_
   unfold dNr
   walk_at "!2f>"
   refine dB (d := cG c.2.2) rfl ?_
   walk_at "!1"
   refine fB (z.mono (by decide)) ((zs c hb).mono (by decide)) ?_
   walk_at "!#"
   refine gO (fun h => ?_) (fun h => ?_)
   ·rw [if_pos h] at hk3
    walk_at "!n3&;;A"
    exact hk3 _ ⟨_, _, _, rfl⟩
   ·rw [if_neg h] at hk3
    walk_at "!5"
    exact hk3 _ ⟨_, _, _, rfl⟩
 ·rintro Γ ⟨a, b, c, rfl⟩
  rw [List.length_map, jF]
  unfold v8
  walk_at "!?("
  exact q
end
noncomputable def neg (l : Ln) : Ln := (-l.1, -l.2)
noncomputable def abt (ls : List Ln) : List Ln := ls.reverse.map neg
theorem rK (ls : List Ln) : (abt ls).length = ls.length := by unfold abt; rw [List.length_map, List.length_reverse]
theorem fW {ls : List Ln} {i : Nat} {l : Ln} (h : ls[i]? = some l) : (abt ls)[ls.length - 1 - i]? = some (neg l) := by
 have hi := (List.getElem?_eq_some_iff.mp h).1
 unfold abt
 rw [List.getElem?_map, List.getElem?_reverse (by omega), show ls.length - 1 - (ls.length - 1 - i) = i by omega, h]
 rfl
theorem vV {ls : List Ln} {i : Nat} {l : Ln} (h : (abt ls)[i]? = some l) : ls[ls.length - 1 - i]? = some (neg l) := by
 have hi := (List.getElem?_eq_some_iff.mp h).1
 rw [rK] at hi
 unfold abt at h
 rw [List.getElem?_map, List.getElem?_reverse (by omega)] at h
 cases e : ls[ls.length - 1 - i]? with
 | none => rw [e] at h; cases h
 | some k =>
  rw [e] at h
  cases h
  unfold neg
  simp
theorem pl_neg (l : Ln) (t : Rat) : pl (neg l) t = -pl l t := by unfold pl neg; grind
theorem mt_neg (l k : Ln) : mt (neg l) (neg k) = mt l k := by
 unfold LT.mt neg
 have e1 : -k.1 - -l.1 = -(k.1 - l.1) := by grind
 have e2 : -l.2 - -k.2 = -(l.2 - k.2) := by grind
 show (-k.1 - -l.1) / (-l.2 - -k.2) = _
 rw [e1, e2]
 generalize k.1 - l.1 = a
 generalize l.2 - k.2 = b
 rw [Rat.div_def, Rat.div_def]
 grind
theorem ahB_neg {l k : Ln} {i j i' j' : Int} (h : i' < j' ↔ j < i) (t : Rat) : ahB (neg l) (neg k) i' j' t = ahB k l j i t := by
 rw [Bool.eq_iff_iff, uN, uN, pl_neg, pl_neg]
 have e : (neg k).2 = -k.2 := rfl
 have e' : (neg l).2 = -l.2 := rfl
 rw [e, e']
 constructor
 ·rintro (a | ⟨a, b | ⟨b, c⟩⟩)
  ·left; grind
  ·right; exact ⟨by grind, by left; grind⟩
  ·right; exact ⟨by grind, by right; exact ⟨by grind, h.mp c⟩⟩
 ·rintro (a | ⟨a, b | ⟨b, c⟩⟩)
  ·left; grind
  ·right; exact ⟨by grind, by left; grind⟩
  ·right; exact ⟨by grind, by right; exact ⟨by grind, h.mpr c⟩⟩
theorem ahN_abt {ls : List Ln} {t : Rat} {i j : Nat} (hi : i < ls.length) (hj : j < ls.length) : ahN (abt ls) t (ls.length - 1 - i) (ls.length - 1 - j) = ahN ls t j i := by
 have e1 : ls[i]? = some ls[i] := List.getElem?_eq_getElem hi
 have e2 : ls[j]? = some ls[j] := List.getElem?_eq_getElem hj
 rw [gC (fW e1) (fW e2), gC e2 e1]
 exact ahB_neg (by omega) t
theorem nxC_neg (l k : Ln) (t : Rat) : nxC (neg l) (neg k) t = nxC l k t := by
 unfold nxC
 rw [mt_neg]
 by_cases c : l.2 = k.2
 ·rw [if_pos c, if_pos (by unfold neg; grind)]
 ·rw [if_neg c, if_neg (by unfold neg; grind)]
theorem nxN_abt {ls : List Ln} {t : Rat} {i j : Nat} (hi : i < ls.length) (hj : j < ls.length) : nxN (abt ls) t (ls.length - 1 - j) (ls.length - 1 - i) = nxN ls t i j := by
 have e1 : ls[i]? = some ls[i] := List.getElem?_eq_getElem hi
 have e2 : ls[j]? = some ls[j] := List.getElem?_eq_getElem hj
 rw [xU (fW e2) (fW e1), xU e1 e2, nxC_neg, nxC_symm]
theorem yX (ls : List Ln) (t : Rat) : ord (abt ls) t = (ord ls t).reverse.map (ls.length - 1 - ·) := by
 refine (ord_of ?_ fun i => ?_).symm
 ·unfold Srt
  rw [List.pairwise_map, List.pairwise_reverse]
  refine List.Pairwise.imp_of_mem ?_ (lE ls t)
  intro a b ha hb h
  rw [ahN_abt ((eU ls t b).mp hb) ((eU ls t a).mp ha)]
  exact h
 ·rw [List.mem_map, rK]
  constructor
  ·rintro ⟨a, ha, rfl⟩
   have := (eU ls t a).mp (List.mem_reverse.mp ha)
   omega
  ·intro h
   exact ⟨ls.length - 1 - i, List.mem_reverse.mpr ((eU ls t _).mpr (by omega)), by omega⟩
theorem mem_mts_abt {ls : List Ln} {t : Rat} : t ∈ mts (abt ls) ↔ t ∈ mts ls := by
 constructor
 ·intro h
  obtain ⟨i, j, l, k, g1, g2, g3, rfl⟩ := mem_mts.mp h
  exact mem_mts.mpr ⟨_, _, neg l, neg k, vV g1, vV g2, by unfold neg; grind, mt_neg l k⟩
 ·intro h
  obtain ⟨i, j, l, k, g1, g2, g3, rfl⟩ := mem_mts.mp h
  exact mem_mts.mpr ⟨_, _, neg l, neg k, fW g1, fW g2, by unfold neg; grind, mt_neg l k⟩
theorem mts_abt (ls : List Ln) : mts (abt ls) = mts ls := srt_eq (lK _) (lK _) fun _ => mem_mts_abt
theorem early_abt (ls : List Ln) : early (abt ls) = early ls := by unfold early; rw [mts_abt]
theorem chT_abt (ls : List Ln) (lo hi : Rat) : chT (abt ls) lo hi = chT ls lo hi := by unfold chT; rw [mts_abt]
noncomputable def trn (n : Int) (p : Int × Int) : Int × Int := (n - p.2, n - p.1)
theorem chP_abt {ls : List Ln} {t : Rat} : srtP ((chP ls t).map (trn ((ls.length : Int) - 1))) = chP (abt ls) t := by
 have hup : (chP (abt ls) t).Pairwise fun a b => vZ a b = true := (chP_up (abt ls) t).imp fun h => prLt_iff.mpr h
 have nd1 : (chP (abt ls) t).Nodup := sX _ _
 have nd2 : ((chP ls t).map (trn ((ls.length : Int) - 1))).Nodup := by
  unfold List.Nodup
  rw [List.pairwise_map]
  refine (sX ls t).imp fun {a b} h e => h ?_
  obtain ⟨a1, a2⟩ := a
  obtain ⟨b1, b2⟩ := b
  unfold trn at e
  simp only [Prod.mk.injEq] at e ⊢
  omega
 refine srtP_of ((List.perm_ext_iff_of_nodup nd1 nd2).mpr fun p => ?_) hup
 obtain ⟨a, b⟩ := p
 rw [mem_chP, List.mem_map]
 constructor
 ·rintro ⟨i, j, l, k, rfl, rfl, g1, g2, g3, rfl⟩
  have hi := (List.getElem?_eq_some_iff.mp g1).1
  have hj := (List.getElem?_eq_some_iff.mp g2).1
  rw [rK] at hi hj
  refine ⟨(((ls.length - 1 - j : Nat) : Int), ((ls.length - 1 - i : Nat) : Int)), mem_chP.mpr ⟨_, _, neg k, neg l, rfl, rfl, vV g2, vV g1, by unfold neg; grind, ?_⟩, ?_⟩
  ·rw [mt_neg, u6 (by grind)]
  ·unfold trn
   simp only [Prod.mk.injEq]
   omega
 ·rintro ⟨⟨c, d⟩, h, e⟩
  obtain ⟨i, j, l, k, rfl, rfl, g1, g2, g3, rfl⟩ := mem_chP.mp h
  have hi := (List.getElem?_eq_some_iff.mp g1).1
  have hj := (List.getElem?_eq_some_iff.mp g2).1
  unfold trn at e
  simp only [Prod.mk.injEq] at e
  exact ⟨ls.length - 1 - j, ls.length - 1 - i, neg k, neg l, by omega, by omega, fW g2, fW g1, by unfold neg; grind, by rw [mt_neg, u6 (by grind)]⟩
theorem nbrs_rev (f : Nat → Nat) (xs : List Nat) : yE (xs.reverse.map f) = (yE xs).reverse.map fun p => (f p.2, f p.1) := by
 refine List.ext_getElem? fun n => ?_
 have hl : (yE xs).length = xs.length - 1 := jF xs
 by_cases h : n + 1 < xs.length
 ·rw [pN (by simpa using h), List.getElem?_map, List.getElem?_reverse (by omega), hl, pN (by omega)]
  simp only [Option.map_some, Option.some.injEq, Prod.mk.injEq, List.getElem_map, List.getElem_reverse]
  constructor
  ·congr 2; omega
  ·congr 2; omega
 ·rw [List.getElem?_eq_none (by rw [jF, List.length_map, List.length_reverse]; omega), List.getElem?_eq_none (by rw [List.length_map, List.length_reverse]; omega)]
noncomputable def trnP (n : Int) (p : Pp) : Pp := (n - p.2.1, n - p.1, p.2.2)
theorem pap0_abt (ls : List Ln) (t : Rat) : o9 (abt ls) t = (o9 ls t).reverse.map (trnP ((ls.length : Int) - 1)) := by
 unfold o9
 rw [yX, nbrs_rev, List.map_map, ← List.map_reverse, List.map_map]
 refine List.map_congr_left fun p hp => ?_
 have g := adj_ord (wD (List.mem_reverse.mp hp))
 obtain ⟨hi, hj, _, _, _⟩ := g
 show (((ls.length - 1 - p.2 : Nat) : Int), ((ls.length - 1 - p.1 : Nat) : Int), nxN (abt ls) t (ls.length - 1 - p.2) (ls.length - 1 - p.1)) = ((ls.length : Int) - 1 - (p.2 : Int), (ls.length : Int) - 1 - (p.1 : Int), nxN ls t p.1 p.2)
 rw [nxN_abt hi hj]
 simp only [Prod.mk.injEq, and_true]
 omega
theorem unt_same {ps qs : List Pp} (h1 : ∀ p ∈ ps, ∃ q ∈ qs, q.2.2 = p.2.2) (h2 : ∀ q ∈ qs, ∃ p ∈ ps, p.2.2 = q.2.2) : dD ps = dD qs := by
 cases e : dD ps with
 | none =>
  cases f : dD qs with
  | none => rfl
  | some u =>
   obtain ⟨q, hq, e2⟩ := (pK f).1
   obtain ⟨p, hp, e3⟩ := h2 q hq
   have := unt_none e p hp
   rw [e3, e2] at this
   cases this
 | some u =>
  obtain ⟨⟨p, hp, e2⟩, g1⟩ := pK e
  cases f : dD qs with
  | none =>
   obtain ⟨q, hq, e3⟩ := h1 p hp
   have := unt_none f q hq
   rw [e3, e2] at this
   cases this
  | some v =>
   obtain ⟨⟨q, hq, e3⟩, g2⟩ := pK f
   obtain ⟨q', hq', e4⟩ := h1 p hp
   obtain ⟨p', hp', e5⟩ := h2 q hq
   have a1 := g1 p' hp' v (by rw [e5, e3])
   have a2 := g2 q' hq' u (by rw [e4, e2])
   rw [show u = v by grind]
theorem unt_abt (ls : List Ln) (t : Rat) : dD (o9 (abt ls) t) = dD (o9 ls t) := by
 rw [pap0_abt]
 refine unt_same (fun p hp => ?_) fun q hq => ?_
 ·obtain ⟨q, hq, rfl⟩ := List.mem_map.mp hp
  exact ⟨q, List.mem_reverse.mp hq, rfl⟩
 ·exact ⟨_, List.mem_map.mpr ⟨q, List.mem_reverse.mpr hq, rfl⟩, rfl⟩
theorem rkN_abt {ls : List Ln} {t : Rat} {k : Nat} (hk : k < ls.length) : rkN (abt ls) (ls.length - 1 - k) t = ls.length - 1 - rkN ls k t := by
 have hl := lH ls t
 unfold rkN
 rw [yX, List.getD_eq_getElem?_getD, List.getD_eq_getElem?_getD, List.getElem?_map, List.getElem?_reverse (by omega), hl, show ls.length - 1 - (ls.length - 1 - k) = k by omega, List.getElem?_eq_getElem (by omega)]
 rfl
theorem rkN_lt {ls : List Ln} {t : Rat} {k : Nat} (hk : k < ls.length) : rkN ls k t < ls.length := by
 have hl := lH ls t
 unfold rkN
 rw [List.getD_eq_getElem?_getD, List.getElem?_eq_getElem (by omega)]
 exact (eU ls t _).mp (List.getElem_mem _)
theorem uO {f g : Rat → Nat} {n : Nat} (h : ∀ t, g t = n - 1 - f t) (hf : ∀ t, f t < n) : ∀ (ts : List Rat) (r : Nat), r < n → cY g (n - 1 - r) ts = (cY f r ts).map fun p => (n - 1 - p.1, p.2)
 | [], _, _ => rfl
 | t :: ts, r, hr => by
  show (if g t = n - 1 - r then cY g (n - 1 - r) ts else (g t, t) :: cY g (g t) ts) = (if f t = r then cY f r ts else (f t, t) :: cY f (f t) ts).map _
  have hft := hf t
  by_cases c : f t = r
  ·rw [if_pos c, if_pos (by rw [h t, c])]
   exact uO h hf ts r hr
  ·rw [if_neg c, if_neg (by rw [h t]; omega), List.map_cons, h t, uO h hf ts (f t) hft]
noncomputable def rkS (ls : List Ln) (k : Nat) : List (Int × Option Rat) := ((rkN ls k (early ls) : Int), none) :: (cY (rkN ls k) (rkN ls k (early ls)) (mts ls)).map fun p => ((p.1 : Int), some p.2)
noncomputable def stD (p : Int × Option Rat) : D := .tuple [.int p.1, w5 p.2]
theorem rkD_S {ls : List Ln} {k : Nat} (hk : k < ls.length) : rkD ls k = (rkS ls k).map stD := by
 unfold rkD rkS
 rw [if_neg (by omega)]
 unfold rowL
 rw [List.map_cons, List.map_map]
 exact congrArg _ (List.map_congr_left fun p _ => rfl)
theorem rkS_abt {ls : List Ln} {k : Nat} (hk : k < ls.length) : rkS (abt ls) (ls.length - 1 - k) = (rkS ls k).map fun p => ((ls.length : Int) - 1 - p.1, p.2) := by
 have hN : ls.length - 1 - k < (abt ls).length := by rw [rK]; omega
 have l0 := rkN_lt (t := early ls) hk
 unfold rkS
 rw [early_abt, mts_abt, rkN_abt hk, uO (g := rkN (abt ls) (ls.length - 1 - k)) (f := rkN ls k) (n := ls.length) (fun t => rkN_abt hk) (fun t => rkN_lt hk) (mts ls) _ l0, List.map_cons, List.map_map, List.map_map]
 refine congr (congrArg List.cons ?_) (List.map_congr_left fun p hp => ?_)
 ·simp only [Prod.mk.injEq, and_true]
  omega
 ·have : p.1 < ls.length := by
   have go : ∀ (ts : List Rat) (r : Nat), ∀ q ∈ cY (rkN ls k) r ts, q.1 < ls.length := by
    intro ts
    induction ts with
    | nil => intro r q hq; cases hq
    | cons t ts ih =>
     intro r q hq
     have hq : q ∈ (if rkN ls k t = r then cY (rkN ls k) r ts else (rkN ls k t, t) :: cY (rkN ls k) (rkN ls k t) ts) := hq
     split at hq
     ·exact ih r q hq
     ·rcases List.mem_cons.mp hq with e | e
      ·rw [e]; exact rkN_lt hk
      ·exact ih _ q e
   exact go _ _ p hp
  show (((ls.length - 1 - p.1 : Nat) : Int), some p.2) = ((ls.length : Int) - 1 - (p.1 : Int), some p.2)
  simp only [Prod.mk.injEq, and_true]
  omega
theorem gap_abt {ls : List Ln} {t : Rat} {i j : Nat} (hi : i < ls.length) (hj : j < ls.length) : gapN (abt ls) t (ls.length - 1 - j) (ls.length - 1 - i) = gapN ls t i j := by
 have e1 : ls[i]? = some ls[i] := List.getElem?_eq_getElem hi
 have e2 : ls[j]? = some ls[j] := List.getElem?_eq_getElem hj
 rw [gapN_eq (fW e2) (fW e1), gapN_eq e1 e2, pl_neg, pl_neg]
 grind
theorem nr_abt {ls : List Ln} {t : Rat} {c : Nat × Nat × Rat} (h : nr ls t = some c) : ∃ d, nr (abt ls) t = some d ∧ d.2.2 = c.2.2 := by
 have hl := lH ls t
 have hl2 : (ord (abt ls) t).length = ls.length := by rw [lH, rK]
 unfold nr at h ⊢
 rw [hl] at h
 rw [hl2]
 have hne : ls.length - 1 ≠ 0 := fun e => by
  rw [e] at h
  cases h
 cases e : nrTo (abt ls) t (ord (abt ls) t) (ls.length - 1) with
 | none => exact absurd (wG.1.mpr e) hne
 | some d =>
  refine ⟨d, rfl, ?_⟩
  obtain ⟨⟨m, hm, em⟩, hmin⟩ := wG.2 c h
  obtain ⟨⟨m', hm', em'⟩, hmin'⟩ := wG.2 d e
  have gp : ∀ a, a < ls.length - 1 → gapN (abt ls) t ((ord (abt ls) t).getD (ls.length - 2 - a) 0) ((ord (abt ls) t).getD (ls.length - 2 - a + 1) 0) = gapN ls t ((ord ls t).getD a 0) ((ord ls t).getD (a + 1) 0) := fun a ha => by
   have g1 : (ord (abt ls) t).getD (ls.length - 2 - a) 0 = ls.length - 1 - (ord ls t).getD (a + 1) 0 := by
    rw [yX, List.getD_eq_getElem?_getD, List.getD_eq_getElem?_getD, List.getElem?_map, List.getElem?_reverse (by omega), hl, show ls.length - 1 - (ls.length - 2 - a) = a + 1 by omega, List.getElem?_eq_getElem (by omega)]
    rfl
   have g2 : (ord (abt ls) t).getD (ls.length - 2 - a + 1) 0 = ls.length - 1 - (ord ls t).getD a 0 := by
    rw [yX, List.getD_eq_getElem?_getD, List.getD_eq_getElem?_getD, List.getElem?_map, List.getElem?_reverse (by omega), hl, show ls.length - 1 - (ls.length - 2 - a + 1) = a by omega, List.getElem?_eq_getElem (by omega)]
    rfl
   have b1 : (ord ls t).getD a 0 < ls.length := by
    rw [List.getD_eq_getElem?_getD, List.getElem?_eq_getElem (by omega)]
    exact (eU ls t _).mp (List.getElem_mem _)
   have b2 : (ord ls t).getD (a + 1) 0 < ls.length := by
    rw [List.getD_eq_getElem?_getD, List.getElem?_eq_getElem (by omega)]
    exact (eU ls t _).mp (List.getElem_mem _)
   rw [g1, g2, gap_abt b1 b2]
  have h1 := hmin (ls.length - 2 - m') (by omega)
  have h2 := hmin' (ls.length - 2 - m) (by omega)
  have f1 := gp (ls.length - 2 - m') (by omega)
  rw [show ls.length - 2 - (ls.length - 2 - m') = m' by omega] at f1
  rw [gp m hm] at h2
  rw [← f1] at h1
  have e1 : d.2.2 = gapN (abt ls) t ((ord (abt ls) t).getD m' 0) ((ord (abt ls) t).getD (m' + 1) 0) := by rw [em']
  have e2 : c.2.2 = gapN ls t ((ord ls t).getD m 0) ((ord ls t).getD (m + 1) 0) := by rw [em]
  rw [← e1] at h1
  rw [← e2] at h2
  grind
theorem neg_dnum (t : Rat) : PyData.tuple [.int (0 - t.num), .int (t.den : Int)] = cG (-t) := by
 rw [Int.zero_sub]
 rfl
theorem neg_sz {k : Nat} {t : Rat} (h : Sz k t) : Sz k (-t) := by
 obtain ⟨h1, h2⟩ := h
 refine ⟨?_, h2⟩
 have e : (-t).num = -t.num := rfl
 rw [e]
 unfold Bt at *
 omega
theorem rev_ix : ∀ n : Nat, n ≤ 8 → qH n (-1) = (List.range n).reverse
 | 0, _ => by decide
 | 1, _ => by decide
 | 2, _ => by decide
 | 3, _ => by decide
 | 4, _ => by decide
 | 5, _ => by decide
 | 6, _ => by decide
 | 7, _ => by decide
 | 8, _ => by decide
 | n + 9, h => by omega
theorem pick_all {α : Type} (xs : List α) : (List.range xs.length).filterMap (fun i => xs[i]?) = xs := by
 induction xs with
 | nil => rfl
 | cons x xs ih =>
  rw [List.length_cons, List.range_succ_eq_map, List.filterMap_cons]
  show x :: _ = _
  rw [List.filterMap_map]
  exact congrArg _ ih
theorem rev_pick {α : Type} (xs : List α) (h : xs.length ≤ 8) : rE (qH xs.length (-1)) xs = xs.reverse := by
 rw [rev_ix _ h]
 unfold rE
 rw [List.filterMap_reverse, pick_all]
theorem abt_ok {ls : List Ln} (hz : LinesOk 200 ls) : LinesOk 200 (abt ls) := fun l hl => by
 unfold abt at hl
 obtain ⟨k, hk, rfl⟩ := List.mem_map.mp hl
 obtain ⟨h1, h2⟩ := hz k (List.mem_reverse.mp hk)
 exact ⟨neg_sz h1, neg_sz h2⟩
theorem dLines_rev (ls : List Ln) : (bD ls).reverse = ls.reverse.map gG := by unfold bD; rw [List.map_reverse]
theorem dNats_rev (xs : List Nat) : (cV xs).reverse = xs.reverse.map fun o : Nat => PyData.int (o : Int) := by unfold cV; rw [List.map_reverse]
theorem dPps_rev (ps : List Pp) : (vO ps).reverse = ps.reverse.map ppD := by unfold vO; rw [List.map_reverse]
theorem is_abt {ls : List Ln} {t : Rat} {i j : Nat} (hi : i < ls.length) (hj : j < i) : ahN (abt ls) t (ls.length - 1 - i) (ls.length - 1 - j) = !ahN ls t i j := by
 rw [ahN_abt hi (by omega), (cL ls t).flip hi (by omega) (by omega)]
section
variable {Q : Rv → Prop} {ls : List Ln}
theorem t_below {t : Rat} (q : Q (.val (cG (-t)))) : iM [.val (cG t)] Q := by
 refine kY ?_
 unfold sE
 walk_at "!d.%e*6uA"
 rw [neg_dnum]
 exact q
theorem t_at_right {t : Rat} (hz : LinesOk 200 ls) (hl : ls.length ≤ 6) (ht : Sz 802 t) (q : Q (.val (.bool true))) : fZ [.val (.list (bD ls)), .val (.list (bD (abt ls))), .val (cG t)] Q := by
 have ht9 : Sz 2900 t := ht.mono (by decide)
 have hza := abt_ok hz
 have hla := rK ls
 have hol := lH ls t
 have hpo := pap0_ok (t := t) hz
 have hpl := pap0_len ls t
 have hpoa := pap0_ok (t := t) hza
 have hpla := pap0_len (abt ls) t
 have go := good_ord (abt ls) t
 refine kY ?_
 unfold lL
 walk_at "!$.U"
 refine dB (gZ ls) ?_
 walk_at "!%$7"
 refine iK hz (by omega) ht9 ?_
 walk_at "!@c7"
 refine iK hza (by omega) ht9 ?_
 walk_at "!Zlġ&}T"
 rw [rev_pick _ (by rw [pF]; omega), dNats_rev]
 refine ⟨by decide, by rw [List.length_map, List.length_reverse]; omega, ?_⟩
 refine fD (α := Nat) (fun _ => true) (fun x => .int ((ls.length : Int) - 1 - (x : Int))) (fun o : Nat => .int (o : Int)) (ord ls t).reverse [] _ (fun x hx _ k k0 g1 g0 => ?_) ?_
 ·walk_at "!4"
  unfold jQ
  walk_at "!:.x"
  exact g1 rfl
 rw [List.nil_append, List.filter_eq_self.mpr fun _ _ => rfl]
 have eo : ((ord ls t).reverse.map fun x : Nat => PyData.int ((ls.length : Int) - 1 - (x : Int))) = cV (ord (abt ls) t) := by
  rw [yX]
  unfold cV
  rw [List.map_map]
  refine List.map_congr_left fun x hx => ?_
  have hx := (eU ls t x).mp (List.mem_reverse.mp hx)
  show PyData.int _ = .int ((ls.length - 1 - x : Nat) : Int)
  congr 1
  omega
 rw [eo]
 refine ⟨go, go, ?_⟩
 refine iteNE (nZ go) ?_
 walk_at "!9"
 unfold lV
 walk_at "!$7"
 refine rH hz (by omega) ht9 ?_
 rw [yM]
 walk_at "!@c7"
 refine rH hza (by omega) ht9 ?_
 rw [yM]
 walk_at "!Zlġ&}T"
 rw [rev_pick _ (by rw [pY]; omega), dPps_rev]
 refine ⟨by decide, by rw [List.length_map, List.length_reverse]; omega, ?_⟩
 refine fD (α := Pp) (fun _ => true) (fun p => ppD (trnP ((ls.length : Int) - 1) p)) ppD (o9 ls t).reverse [] _ (fun p hp _ k k0 g1 g0 => ?_) ?_
 ·obtain ⟨i, j, till⟩ := p
  unfold ppD papD
  walk_at "!gČq#"
  unfold jQ
  walk_at "!:3a*a;/"
  exact g1 rfl
 rw [List.nil_append, List.filter_eq_self.mpr fun _ _ => rfl]
 have ep : ((o9 ls t).reverse.map fun p => ppD (trnP ((ls.length : Int) - 1) p)) = vO (o9 (abt ls) t) := by
  rw [pap0_abt]
  unfold vO
  rw [List.map_map]
  rfl
 rw [ep]
 refine ⟨(gd_pps _).good, (gd_pps _).good, ?_⟩
 refine iteNE (nZ (gd_pps _).good) ?_
 walk_at "!9"
 unfold m9
 walk_at "!Gă("
 refine mW (fun n Γ => ∃ a b c, Γ = [.val (.list (bD ls)), .val (.list (bD (abt ls))), .val (cG t), .val (.int ((ls.length : Int) - 1)), .val (.list (cV (ord ls t))), .no, .val (.list (vO (o9 ls t))), a, b, c, .no, .no, .no]) ⟨_, _, _, rfl⟩ ?_ ?_
 ·rintro n d Γ K hd ⟨a, b, c, rfl⟩ hk
  obtain ⟨p, hp, rfl⟩ := dPps_get hd
  have hin : trnP ((ls.length : Int) - 1) p ∈ o9 (abt ls) t := by
   rw [pap0_abt]
   exact List.mem_map.mpr ⟨p, List.mem_reverse.mpr (List.mem_of_getElem? hp), rfl⟩
  have hr : isR (abt ls) t (trnP ((ls.length : Int) - 1) p).1 (trnP ((ls.length : Int) - 1) p).2.1 (trnP ((ls.length : Int) - 1) p).2.2 = true := by
   obtain ⟨i, j, g, e⟩ := mem_pap0.mp hin
   rw [e]
   exact isR_pap g
  have hok := hpoa _ hin
  obtain ⟨i, j, till⟩ := p
  unfold ppD papD
  walk_at "!gČq#"
  unfold lY
  walk_at "!`Pk-3a*a;/8"
  refine t_is_right (i := (ls.length : Int) - 1 - j) (j := (ls.length : Int) - 1 - i) (till := till) hza (by omega) ht9 hok ?_
  rw [show isR (abt ls) t ((ls.length : Int) - 1 - j) ((ls.length : Int) - 1 - i) till = true from hr]
  walk_at "!]5"
  exact hk.nx _ ⟨_, _, _, rfl⟩
 rintro Γ ⟨a, b, c, rfl⟩
 show iJ _ _
 unfold iJ
 walk_at "!$^"
 refine t_shown hz (by omega) ht9 hpo (by omega) ?_
 rw [due_pap]
 dsimp only
 walk_at "!M$k-7"
 refine rH hza (by omega) ht9 ?_
 rw [yM]
 walk_at "!8"
 refine t_shown hza (by omega) ht9 hpoa (by omega) ?_
 rw [due_pap]
 dsimp only
 walk_at "!MO|2Ą("
 refine vD ?_
 walk_at "!|2Ą("
 refine vD ?_
 walk_at "!2c>"
 refine dB (d := w5 (dD (o9 ls t))) rfl ?_
 walk_at "!6"
 refine dB (d := w5 (dD (o9 (abt ls) t))) rfl ?_
 rw [unt_abt]
 refine ⟨(uX _).good, (uX _).good, ?_⟩
 refine iteNE (nZ (uX _).good) ?_
 walk_at "!9"
 unfold mD
 walk_at "!Gs*ą&"
 refine dB (gZ ls) ?_
 walk_at "!S"
 refine ⟨by omega, by omega, ?_⟩
 obtain ⟨S10, hS10⟩ : ∃ x : Sl, x = .val ((bTup (cV (ord ls t)) (w5 (dD (o9 ls t)))).view.getD .none) := ⟨_, rfl⟩
 obtain ⟨S11, hS11⟩ : ∃ x : Sl, x = .val ((bTup (cV (ord (abt ls) t)) (w5 (dD (o9 (abt ls) t)))).view.getD .none) := ⟨_, rfl⟩
 refine gY (fun n Γ => ∃ a b c, Γ = [.val (.list (bD ls)), .val (.list (bD (abt ls))), .val (cG t), .val (.int ((ls.length : Int) - 1)), .val (.list (cV (ord ls t))), .no, .val (.list (vO (o9 ls t))), a, b, c, S10, S11, .no]) ⟨_, _, _, by rw [hS10, hS11, unt_abt]; rfl⟩ ?_ ?_
 ·rintro n Γ K hn ⟨a, b, c, rfl⟩ hk
  have hn' : n < ls.length := by omega
  rw [Int.zero_add]
  unfold m7
  walk_at "!4đs;S"
  refine ⟨by omega, by omega, ?_⟩
  refine gY (fun m Γ => ∃ b c, Γ = [.val (.list (bD ls)), .val (.list (bD (abt ls))), .val (cG t), .val (.int ((ls.length : Int) - 1)), .val (.list (cV (ord ls t))), .no, .val (.list (vO (o9 ls t))), .val (.int (n : Int)), b, c, S10, S11, .no]) ⟨_, _, rfl⟩ ?_ ?_
  ·rintro m Γ K2 hm ⟨b, c, rfl⟩ hk2
   have hm' : m < n := by omega
   have e1 : ls[n]? = some ls[n] := List.getElem?_eq_getElem hn'
   have e2 : ls[m]? = some (ls[m]'(by omega)) := List.getElem?_eq_getElem (by omega)
   obtain ⟨z1, z2⟩ := hz.get e1
   obtain ⟨z3, z4⟩ := hz.get e2
   obtain ⟨y1, y2⟩ := hza.get (fW e1)
   obtain ⟨y3, y4⟩ := hza.get (fW e2)
   rw [Int.zero_add]
   unfold mG
   walk_at "!4`2Qfa-aJ"
   rw [show (ls.length : Int) - 1 - (n : Int) = ((ls.length - 1 - n : Nat) : Int) by omega, show (ls.length : Int) - 1 - (m : Int) = ((ls.length - 1 - m : Nat) : Int) by omega]
   refine qD (fW e1) (fW e2) (y1.mono (by decide)) (y2.mono (by decide)) (y3.mono (by decide)) (y4.mono (by decide)) ht9 ?_
   rw [← gC (fW e1) (fW e2), is_abt hn' hm']
   walk_at "!kY"
   refine qD e1 e2 (z1.mono (by decide)) (z2.mono (by decide)) (z3.mono (by decide)) (z4.mono (by decide)) ht9 ?_
   rw [← gC e1 e2]
   walk_at "!#"
   refine ⟨good_bool _, good_bool _, ?_⟩
   refine iteEF (by cases ahN ls t n m <;> rfl) ?_
   walk_at "!5"
   exact hk2.nx _ ⟨_, _, rfl⟩
  ·rintro Γ ⟨b, c, rfl⟩
   exact hk.nx _ ⟨_, _, _, rfl⟩
 rintro Γ ⟨a, b, c, rfl⟩
 show iQ _ _
 unfold iQ
 walk_at "!$7"
 refine t_nearest hz (by omega) ht ?_
 walk_at "!?įĄ("
 cases hn : nr ls t with
 | none =>
  unfold dNr
  refine wH ?_
  skip
  exact q
 | some c0 =>
  obtain ⟨d0, hd, ed⟩ := nr_abt hn
  unfold dNr
  refine vD ?_
  walk_at "!Q)7"
  refine t_nearest hza (by omega) ht ?_
  rw [hd]
  unfold dNr
  walk_at "!T"
  refine dB (d := cG d0.2.2) rfl ?_
  walk_at "!6"
  refine dB (d := cG c0.2.2) rfl ?_
  walk_at "!v"
  rw [ed, decide_eq_true rfl]
  exact q
end
theorem law_true : b_law (.no :: .pen :: List.replicate 16 .no) nG := by
 unfold b_law
 walk_at "!$<"
 refine t_lines (by decide) (by decide) fun ls hl hz => ?_
 have hl6 : ls.length ≤ 6 := by omega
 have hza := abt_ok hz
 have hla := rK ls
 walk_at "!$.U"
 refine dB (gZ ls) ?_
 walk_at "!%$Zlġ&}T"
 rw [rev_pick _ (by rw [jL]; omega), dLines_rev]
 refine ⟨by decide, by rw [List.length_map, List.length_reverse]; omega, ?_⟩
 refine fD (α := Ln) (fun _ => true) (fun l => gG (neg l)) gG ls.reverse [] _ (fun l hm _ k k0 g1 g0 => ?_) ?_
 ·unfold gG
  walk_at "!gq"
  unfold jQ
  walk_at "!:3["
  refine t_below ?_
  walk_at "!*["
  refine t_below ?_
  walk_at "!A"
  exact g1 rfl
 rw [List.nil_append, List.filter_eq_self.mpr fun _ _ => rfl, show (ls.reverse.map fun l => gG (neg l)) = bD (abt ls) by unfold bD abt; rw [List.map_map]; rfl]
 walk_at "!$ĀJ"
 refine t_time hz (by omega) fun t0 zt0 => ?_
 walk_at "!$ĀJ"
 refine t_time hz (by omega) fun t1 zt1 => ?_
 walk_at "!@7"
 refine t_less (zt1.mono (by decide)) (zt0.mono (by decide)) ?_
 walk_at "!#"
 have rest : ∀ lo hi, Sz 802 lo → Sz 802 hi → b_law_r4 [.no, .pen, .val (.list (bD ls)), .val (.int ((ls.length : Int) - 1)), .val (.list (bD (abt ls))), .no, .no, .val (cG lo), .val (cG hi), .no, .no, .no, .no, .no, .no, .no, .no, .no] nG := by
  intro lo hi zl zh
  unfold b_law_r4
  walk_at "!GŃ3&;A"
  refine mW (fun n Γ => ∃ a, Γ = [.no, .pen, .val (.list (bD ls)), .val (.int ((ls.length : Int) - 1)), .val (.list (bD (abt ls))), .no, .no, .val (cG lo), .val (cG hi), a, .no, .no, .no, .no, .no, .no, .no, .no]) ⟨_, rfl⟩ ?_ ?_
  ·rintro n d Γ K hd ⟨a, rfl⟩ hk
   obtain ⟨t, zt, rfl⟩ : ∃ t, Sz 802 t ∧ d = cG t := by
    have := List.mem_of_getElem? hd
    rcases List.mem_cons.mp this with h | h
    ·exact ⟨lo, zl, h⟩
    ·exact ⟨hi, zh, List.mem_singleton.mp h⟩
   walk_at "!4"
   unfold b_law_l3
   walk_at "!`P^"
   refine t_at_right hz hl6 zt ?_
   walk_at "!]5"
   exact hk.nx _ ⟨_, rfl⟩
  rintro Γ ⟨a, rfl⟩
  show b_law_r3 _ _
  unfold b_law_r3
  walk_at "!Gs*0%ħV"
  obtain ⟨j, ej, j0, j1, j2⟩ : ∃ j : Int, 2 * (if decide (0 ≤ (ls.length : Int) - 1) = true then 1 else 0) = j ∧ 0 ≤ j ∧ j ≤ 2 ∧ (0 < j → 0 < ls.length) := by
   by_cases h : 0 ≤ (ls.length : Int) - 1
   ·rw [decide_eq_true h, if_pos rfl]
    exact ⟨2, by decide, by decide, by decide, fun _ => by omega⟩
   ·rw [decide_eq_false h, if_neg (by decide)]
    exact ⟨0, by decide, by decide, by decide, fun z => by omega⟩
  rw [ej]
  refine ⟨mulB (bt31 (k := 31) (by decide) (by decide)) (bt31 (k := 31) (by split <;> omega) (by split <;> omega)), ?_⟩
  walk_at "!S"
  refine ⟨by omega, by omega, ?_⟩
  refine gY (fun n Γ => ∃ a b c, Γ = [.no, .pen, .val (.list (bD ls)), .val (.int ((ls.length : Int) - 1)), .val (.list (bD (abt ls))), .no, .no, .val (cG lo), .val (cG hi), a, b, c, .no, .no, .no, .no, .no, .no]) ⟨_, _, _, rfl⟩ ?_ ?_
  ·rintro n Γ K hn ⟨a, b, c, rfl⟩ hk
   have hpos := j2 (by omega)
   unfold b_law_l2
   walk_at "!4$~U"
   refine dB (gZ ls) ?_
   walk_at "!1"
   refine eZ (by omega) (by omega) fun y y0 y1 => ?_
   obtain ⟨k, rfl⟩ : ∃ m : Nat, y = (m : Int) := ⟨y.toNat, by omega⟩
   have hk' : k < ls.length := by omega
   walk_at "!`2cfa8"
   rw [show (ls.length : Int) - 1 - (k : Int) = ((ls.length - 1 - k : Nat) : Int) by omega]
   refine t_rank_row hza (by omega) (by omega) ?_
   rw [rkD_S (by rw [hla]; omega), rkS_abt hk']
   walk_at "!Z7"
   refine t_rank_row hz (by omega) (by omega) ?_
   rw [rkD_S hk']
   walk_at "!#"
   have hlen : (rkS ls k).length ≤ 1000 := by
    unfold rkS
    rw [List.length_cons, List.length_map]
    have h1 := pP (rkN ls k) (mts ls) (rkN ls k (early ls))
    have h2 := mts_len ls
    have h3 : ls.length * ls.length ≤ 6 * 6 := Nat.mul_le_mul hl6 hl6
    omega
   refine ⟨by rw [List.length_map]; exact hlen, ?_⟩
   refine fD (α := Int × Option Rat) (fun _ => true) (fun p => stD ((ls.length : Int) - 1 - p.1, p.2)) stD (rkS ls k) [] _ (fun p hp _ kk k0 g1 g0 => ?_) ?_
   ·obtain ⟨i, o⟩ := p
    unfold stD
    walk_at "!gq#"
    unfold jQ
    walk_at "!:3a;/"
    exact g1 rfl
   rw [List.nil_append, List.filter_eq_self.mpr fun _ _ => rfl, List.map_map]
   have gs : Good (.list ((rkS ls k).map (stD ∘ fun p => ((ls.length : Int) - 1 - p.1, p.2)))) := (qJ (n := 2) fun d h => by
    obtain ⟨p, _, rfl⟩ := List.mem_map.mp h
    exact gd_2 (n := 1) (iZ _).mono (uX _)).good
   refine ⟨gs, gs, ?_⟩
   refine iteNE (nZ gs) ?_
   walk_at "!5"
   exact hk.nx _ ⟨_, _, _, rfl⟩
  rintro Γ ⟨a, b, c, rfl⟩
  show b_law_r2 _ _
  unfold b_law_r2
  walk_at "!ir/Gă^"
  refine t_changes hz (by omega) (zl.mono (by decide)) (zh.mono (by decide)) ?_
  walk_at "!#"
  refine mW (fun n Γ => ∃ a b c e, Γ = [.no, .pen, .val (.list (bD ls)), .val (.int ((ls.length : Int) - 1)), .val (.list (bD (abt ls))), .no, .no, .val (cG lo), .val (cG hi), a, b, c, .no, .no, .own (((chT ls lo hi).take n).map (chD (abt ls))), e, .no, .no]) ⟨_, _, _, _, rfl⟩ ?_ ?_
  ·rintro n d Γ K hd ⟨a, b, c, e15, rfl⟩ hk
   unfold chsD at hd
   rw [List.getElem?_map] at hd
   obtain ⟨t, ht, rfl⟩ : ∃ t, (chT ls lo hi)[n]? = some t ∧ d = chD ls t := by
    cases e : (chT ls lo hi)[n]? with
    | none => rw [e] at hd; cases hd
    | some t => rw [e] at hd; cases hd; exact ⟨t, rfl, rfl⟩
   have tk : (chT ls lo hi).take (n + 1) = (chT ls lo hi).take n ++ [t] := by rw [List.take_succ, ht]; rfl
   have hk3 := hk.nx
   rw [tk, List.map_append] at hk3
   have hcl : (chT ls lo hi).length ≤ 36 := by
    unfold chT
    have h1 := List.length_filter_le (fun t => decide (lo < t) && !decide (hi < t)) (mts ls)
    have h2 := mts_len ls
    have h3 : ls.length * ls.length ≤ 6 * 6 := Nat.mul_le_mul hl6 hl6
    omega
   have hFl : (((chT ls lo hi).take n).map (chD (abt ls))).length < 1000 := by
    rw [List.length_map, List.length_take]
    omega
   generalize ((chT ls lo hi).take n).map (chD (abt ls)) = F at *
   have hpl := chP_len (ls := ls) (by omega) t
   have nd2 : ((chP ls t).map (trn ((ls.length : Int) - 1))).Nodup := by
    unfold List.Nodup
    rw [List.pairwise_map]
    refine (sX ls t).imp fun {a b} h e => h ?_
    obtain ⟨a1, a2⟩ := a
    obtain ⟨b1, b2⟩ := b
    unfold trn at e
    simp only [Prod.mk.injEq] at e ⊢
    omega
   unfold chD b_law_l1
   walk_at "!gqě3&*lĮZ("
   unfold twoD
   refine ⟨by rw [List.length_map]; omega, ?_⟩
   refine fD (α := Int × Int) (fun _ => true) (fun p => .tuple [.int ((ls.length : Int) - 1 - p.2), .int ((ls.length : Int) - 1 - p.1)]) (fun k => .tuple [.int k.1, .int k.2]) (chP ls t) [] _ (fun p hp _ kk k0 g1 g0 => ?_) ?_
   ·walk_at "!gq"
    unfold jQ
    walk_at "!:3a*a/"
    exact g1 rfl
   rw [List.nil_append, List.filter_eq_self.mpr fun _ _ => rfl]
   refine ⟨(chP ls t).map (trn ((ls.length : Int) - 1)), by unfold prsD; rw [List.map_map]; rfl, by rw [List.length_map]; omega, nd2, ?_⟩
   rw [chP_abt]
   refine ⟨by show 2 ≤ 1000; decide, ?_⟩
   refine i_appK (ds := F) rfl hFl ?_
   exact hk3 _ ⟨_, _, _, _, rfl⟩
  rintro Γ ⟨a, b, c, e15, rfl⟩
  have el : (chsD ls lo hi).length = (chT ls lo hi).length := by unfold chsD; rw [List.length_map]
  rw [el, List.take_length]
  show b_law_r1 _ _
  unfold b_law_r1
  walk_at "!ĩ?Q^"
  refine t_changes hza (by omega) (zl.mono (by decide)) (zh.mono (by decide)) ?_
  have gc : Good (.list ((chT ls lo hi).map (chD (abt ls)))) := (qJ (n := 3) fun d h => by
   obtain ⟨t, _, rfl⟩ := List.mem_map.mp h
   refine gd_2 (n := 2) (wM _).mono (qJ (n := 1) fun d h => ?_)
   obtain ⟨k, _, rfl⟩ := List.mem_map.mp h
   exact gd_2 (iZ _) (iZ _)).good
  unfold chsD
  rw [chT_abt]
  refine ⟨gc, gc, ?_⟩
  show nG (.rt (.val (.bool (PyData.eqv (.list ((chT ls lo hi).map (chD (abt ls)))) (.list ((chT ls lo hi).map (chD (abt ls))))))))
  rw [nZ gc]
  exact rfl
 refine gO (fun c => ?_) (fun c => ?_)
 ·walk_at "!ď;;S"
  exact rest t1 t0 zt1 zt0
 ·walk_at "!9"
  exact rest t0 t1 zt0 zt1
theorem ln1 {α : Type} {us : List α} (h : us.length = 1) : ∃ x0, us = [x0] := by
 match us, h with
 | [_], _ => exact ⟨_, rfl⟩
theorem ln2 {α : Type} {us : List α} (h : us.length = 2) : ∃ x0 x1, us = [x0, x1] := by
 match us, h with
 | [_, _], _ => exact ⟨_, _, rfl⟩
theorem ln3 {α : Type} {us : List α} (h : us.length = 3) : ∃ x0 x1 x2, us = [x0, x1, x2] := by
 match us, h with
 | [_, _, _], _ => exact ⟨_, _, _, rfl⟩
theorem ln4 {α : Type} {us : List α} (h : us.length = 4) : ∃ x0 x1 x2 x3, us = [x0, x1, x2, x3] := by
 match us, h with
 | [_, _, _, _], _ => exact ⟨_, _, _, _, rfl⟩
theorem ln5 {α : Type} {us : List α} (h : us.length = 5) : ∃ x0 x1 x2 x3 x4, us = [x0, x1, x2, x3, x4] := by
 match us, h with
 | [_, _, _, _, _], _ => exact ⟨_, _, _, _, _, rfl⟩
theorem bl_mk {K : PySem.W.Frag} {h : Heap} {mg : Str → Option Value} (X : K.In h) (G : h.Ns mainGlobals mg)
  (z_len : PySem.W.nsIn K mainGlobals "len" = some none)
  (z_abs : PySem.W.nsIn K mainGlobals "abs" = some none)
  (z_range : PySem.W.nsIn K mainGlobals "range" = some none)
  (z_isinstance : PySem.W.nsIn K mainGlobals "isinstance" = some none)
  (z_int : PySem.W.nsIn K mainGlobals "int" = some none)
  (z_bool : PySem.W.nsIn K mainGlobals "bool" = some none)
  (z_tuple : PySem.W.nsIn K mainGlobals "tuple" = some none)
  (z_max : PySem.W.nsIn K mainGlobals "max" = some none)
  (z_min : PySem.W.nsIn K mainGlobals "min" = some none)
  (z_list : PySem.W.nsIn K mainGlobals "list" = some none)
  (z_all : PySem.W.nsIn K mainGlobals "all" = some none)
  (z_any : PySem.W.nsIn K mainGlobals "any" = some none)
  (z_sorted : PySem.W.nsIn K mainGlobals "sorted" = some none)
  (z_zip : PySem.W.nsIn K mainGlobals "zip" = some none)
  (z_set : PySem.W.nsIn K mainGlobals "set" = some none)
  (z_sum : PySem.W.nsIn K mainGlobals "sum" = some none)
  (z_str : PySem.W.nsIn K mainGlobals "str" = some none)
  (z_enumerate : PySem.W.nsIn K mainGlobals "enumerate" = some none)
  (kt_int_bool : PySem.W.kitOne K (.type "int") (.type "bool") = some false)    (kt_bool_int : PySem.W.kitOne K (.type "bool") (.type "int") = some true) : Bl K mg := ⟨PySem.W.mg_none_of X G z_len, PySem.W.mg_none_of X G z_abs, PySem.W.mg_none_of X G z_range, PySem.W.mg_none_of X G z_isinstance, PySem.W.mg_none_of X G z_int, PySem.W.mg_none_of X G z_bool, PySem.W.mg_none_of X G z_tuple, PySem.W.mg_none_of X G z_max, PySem.W.mg_none_of X G z_min, PySem.W.mg_none_of X G z_list, PySem.W.mg_none_of X G z_all, PySem.W.mg_none_of X G z_any, PySem.W.mg_none_of X G z_sorted, PySem.W.mg_none_of X G z_zip, PySem.W.mg_none_of X G z_set, PySem.W.mg_none_of X G z_sum, PySem.W.mg_none_of X G z_str, PySem.W.mg_none_of X G z_enumerate, kt_int_bool, kt_bool_int⟩
theorem kit_mk {K : PySem.W.Frag}
  (kt_NoneType_bool : PySem.W.kitOne K (.type "NoneType") (.type "bool") = some false)
  (kt_NoneType_int : PySem.W.kitOne K (.type "NoneType") (.type "int") = some false)
  (kt_NoneType_str : PySem.W.kitOne K (.type "NoneType") (.type "str") = some false)
  (kt_NoneType_list : PySem.W.kitOne K (.type "NoneType") (.type "list") = some false)
  (kt_NoneType_tuple : PySem.W.kitOne K (.type "NoneType") (.type "tuple") = some false)
  (kt_bool_NoneType : PySem.W.kitOne K (.type "bool") (.type "NoneType") = some false)
  (kt_bool_int : PySem.W.kitOne K (.type "bool") (.type "int") = some true)
  (kt_bool_str : PySem.W.kitOne K (.type "bool") (.type "str") = some false)
  (kt_bool_list : PySem.W.kitOne K (.type "bool") (.type "list") = some false)
  (kt_bool_tuple : PySem.W.kitOne K (.type "bool") (.type "tuple") = some false)
  (kt_int_NoneType : PySem.W.kitOne K (.type "int") (.type "NoneType") = some false)
  (kt_int_bool : PySem.W.kitOne K (.type "int") (.type "bool") = some false)
  (kt_int_str : PySem.W.kitOne K (.type "int") (.type "str") = some false)
  (kt_int_list : PySem.W.kitOne K (.type "int") (.type "list") = some false)
  (kt_int_tuple : PySem.W.kitOne K (.type "int") (.type "tuple") = some false)
  (kt_str_NoneType : PySem.W.kitOne K (.type "str") (.type "NoneType") = some false)
  (kt_str_bool : PySem.W.kitOne K (.type "str") (.type "bool") = some false)
  (kt_str_int : PySem.W.kitOne K (.type "str") (.type "int") = some false)
  (kt_str_list : PySem.W.kitOne K (.type "str") (.type "list") = some false)
  (kt_str_tuple : PySem.W.kitOne K (.type "str") (.type "tuple") = some false)
  (kt_list_NoneType : PySem.W.kitOne K (.type "list") (.type "NoneType") = some false)
  (kt_list_bool : PySem.W.kitOne K (.type "list") (.type "bool") = some false)
  (kt_list_int : PySem.W.kitOne K (.type "list") (.type "int") = some false)
  (kt_list_str : PySem.W.kitOne K (.type "list") (.type "str") = some false)
  (kt_list_tuple : PySem.W.kitOne K (.type "list") (.type "tuple") = some false)
  (kt_tuple_NoneType : PySem.W.kitOne K (.type "tuple") (.type "NoneType") = some false)
  (kt_tuple_bool : PySem.W.kitOne K (.type "tuple") (.type "bool") = some false)
  (kt_tuple_int : PySem.W.kitOne K (.type "tuple") (.type "int") = some false)
  (kt_tuple_str : PySem.W.kitOne K (.type "tuple") (.type "str") = some false)
  (kt_tuple_list : PySem.W.kitOne K (.type "tuple") (.type "list") = some false)
  : Kit K := Kit.mk' (by
  intro a ha b hb
  simp only [tyL, List.mem_cons, List.not_mem_nil, or_false] at ha hb
  rcases ha with rfl | rfl | rfl | rfl | rfl | rfl <;> rcases hb with rfl | rfl | rfl | rfl | rfl | rfl <;> intro e <;> first | assumption | exact absurd e (by decide))
noncomputable def DfP (K : PySem.W.Frag) (mg : Str → Option Value) (x : Str) (st : Stmt) : Prop := ∃ (f : Addr) (fd : FuncData), Fun K x x st f fd ∧ mg x = some (.ref f)
theorem dF {K : PySem.W.Frag} {h : Heap} {mg : Str → Option Value} (X : K.In h) (G : h.Ns mainGlobals mg) {x : Str} {st : Stmt} {f : Addr} {od an : Option Addr} {sl : Array (Option Value)} {oc kV dc pm cd ct : Value}
  (a : PySem.W.nsIn K mainGlobals x = some (some (.ref f))) (l : K.lookup f = some ⟨oc, od, .func (PySem.W.fnOf x x (xG st) (qZ st) (aR st) .none kV dc pm an cd ct), sl⟩) (c : PySem.W.codeIn K cd x = true) (k : PySem.W.keepIn K (.ref f) = true) : DfP K mg x st :=
 ⟨f, _, fun_mk l c k, PySem.W.mg_of X G a⟩
theorem mk_law_take {P : Program} {w : World} {K : PySem.W.Frag} {mg : Str → Option Value} {base : Heap} (B : Bl K mg) (Kt : Kit K) (d : DfP K mg "_law_take" lQ) :
  ∀ a ns, Cal P w K mg base 1 "_law_take" ["_law_pen", "_law_many"] (spM (b8 K a ns) 2 bC) := by
 obtain ⟨f, fd, F, hm⟩ := d
 exact fun a ns => ⟨f, fd, ok2_law_take F B, hm, F.kp, F.binds fun _ _ _ _ _ _ us hl => by
  obtain ⟨_, _, rfl⟩ := ln2 hl
  rfl⟩
theorem mk_is_whole {P : Program} {w : World} {K : PySem.W.Frag} {mg : Str → Option Value} {base : Heap} (B : Bl K mg) (Kt : Kit K) (d : DfP K mg "is_whole" pO) :
  ∀ a ns, Cal P w K mg base 1 "is_whole" ["thing"] (spM (b8 K a ns) 1 eE) := by
 obtain ⟨f, fd, F, hm⟩ := d
 exact fun a ns => ⟨f, fd, ok_is_whole F B Kt, hm, F.kp, F.binds fun _ _ _ _ _ _ us hl => by
  obtain ⟨_, rfl⟩ := ln1 hl
  rfl⟩
theorem rA {P : Program} {w : World} {K : PySem.W.Frag} {mg : Str → Option Value} {base : Heap} (B : Bl K mg) (Kt : Kit K) (d : DfP K mg "greatest_divisor" eV) :
  ∀ a ns, Cal P w K mg base 1 "greatest_divisor" ["one", "other"] (spM (b8 K a ns) 2 cR) := by
 obtain ⟨f, fd, F, hm⟩ := d
 exact fun a ns => ⟨f, fd, rF F B Kt, hm, F.kp, F.binds fun _ _ _ _ _ _ us hl => by
  obtain ⟨_, _, rfl⟩ := ln2 hl
  rfl⟩
theorem mk_number_of {P : Program} {w : World} {K : PySem.W.Frag} {mg : Str → Option Value} {base : Heap} (B : Bl K mg) (Kt : Kit K) (d : DfP K mg "number_of" nY) (C_greatest_divisor : ∀ a ns, Cal P w K mg base 1 "greatest_divisor" ["one", "other"] (spM (b8 K a ns) 2 cR)) (C_is_whole : ∀ a ns, Cal P w K mg base 1 "is_whole" ["thing"] (spM (b8 K a ns) 1 eE)) :
  ∀ a ns, Cal P w K mg base 2 "number_of" ["top", "bottom"] (spM (b8 K a ns) 2 cF) := by
 obtain ⟨f, fd, F, hm⟩ := d
 exact fun a ns => ⟨f, fd, ok_number_of F B Kt (C_greatest_divisor a ns) (C_is_whole a ns), hm, F.kp, F.binds fun _ _ _ _ _ _ us hl => by
  obtain ⟨_, _, rfl⟩ := ln2 hl
  rfl⟩
theorem mk_sum_of {P : Program} {w : World} {K : PySem.W.Frag} {mg : Str → Option Value} {base : Heap} (B : Bl K mg) (Kt : Kit K) (d : DfP K mg "sum_of" wC) (C_number_of : ∀ a ns, Cal P w K mg base 2 "number_of" ["top", "bottom"] (spM (b8 K a ns) 2 cF)) :
  ∀ a ns, Cal P w K mg base 3 "sum_of" ["a", "b"] (spM (b8 K a ns) 2 q9) := by
 obtain ⟨f, fd, F, hm⟩ := d
 exact fun a ns => ⟨f, fd, ok_sum_of F B Kt (C_number_of a ns), hm, F.kp, F.binds fun _ _ _ _ _ _ us hl => by
  obtain ⟨_, _, rfl⟩ := ln2 hl
  rfl⟩
theorem vI {P : Program} {w : World} {K : PySem.W.Frag} {mg : Str → Option Value} {base : Heap} (B : Bl K mg) (Kt : Kit K) (d : DfP K mg "difference_of" gP) (C_number_of : ∀ a ns, Cal P w K mg base 2 "number_of" ["top", "bottom"] (spM (b8 K a ns) 2 cF)) :
  ∀ a ns, Cal P w K mg base 3 "difference_of" ["a", "b"] (spM (b8 K a ns) 2 bY) := by
 obtain ⟨f, fd, F, hm⟩ := d
 exact fun a ns => ⟨f, fd, vG F B Kt (C_number_of a ns), hm, F.kp, F.binds fun _ _ _ _ _ _ us hl => by
  obtain ⟨_, _, rfl⟩ := ln2 hl
  rfl⟩
theorem mk_product_of {P : Program} {w : World} {K : PySem.W.Frag} {mg : Str → Option Value} {base : Heap} (B : Bl K mg) (Kt : Kit K) (d : DfP K mg "product_of" kJ) (C_number_of : ∀ a ns, Cal P w K mg base 2 "number_of" ["top", "bottom"] (spM (b8 K a ns) 2 cF)) :
  ∀ a ns, Cal P w K mg base 3 "product_of" ["a", "b"] (spM (b8 K a ns) 2 gF) := by
 obtain ⟨f, fd, F, hm⟩ := d
 exact fun a ns => ⟨f, fd, ok_product_of F B Kt (C_number_of a ns), hm, F.kp, F.binds fun _ _ _ _ _ _ us hl => by
  obtain ⟨_, _, rfl⟩ := ln2 hl
  rfl⟩
theorem zM {P : Program} {w : World} {K : PySem.W.Frag} {mg : Str → Option Value} {base : Heap} (B : Bl K mg) (Kt : Kit K) (d : DfP K mg "quotient_of" jG) (C_number_of : ∀ a ns, Cal P w K mg base 2 "number_of" ["top", "bottom"] (spM (b8 K a ns) 2 cF)) :
  ∀ a ns, Cal P w K mg base 3 "quotient_of" ["a", "b"] (spM (b8 K a ns) 2 fK) := by
 obtain ⟨f, fd, F, hm⟩ := d
 exact fun a ns => ⟨f, fd, zH F B Kt (C_number_of a ns), hm, F.kp, F.binds fun _ _ _ _ _ _ us hl => by
  obtain ⟨_, _, rfl⟩ := ln2 hl
  rfl⟩
theorem mk_is_less {P : Program} {w : World} {K : PySem.W.Frag} {mg : Str → Option Value} {base : Heap} (B : Bl K mg) (Kt : Kit K) (d : DfP K mg "is_less" tQ) :
  ∀ a ns, Cal P w K mg base 1 "is_less" ["a", "b"] (spM (b8 K a ns) 2 bJ) := by
 obtain ⟨f, fd, F, hm⟩ := d
 exact fun a ns => ⟨f, fd, ok_is_less F B Kt, hm, F.kp, F.binds fun _ _ _ _ _ _ us hl => by
  obtain ⟨_, _, rfl⟩ := ln2 hl
  rfl⟩
theorem mk_rising {P : Program} {w : World} {K : PySem.W.Frag} {mg : Str → Option Value} {base : Heap} (B : Bl K mg) (Kt : Kit K) (d : DfP K mg "rising" vU) (C_is_less : ∀ a ns, Cal P w K mg base 1 "is_less" ["a", "b"] (spM (b8 K a ns) 2 bJ)) :
  ∀ a ns, Cal P w K mg base 2 "rising" ["numbers"] (spM (b8 K a ns) 1 jE) := by
 obtain ⟨f, fd, F, hm⟩ := d
 exact fun a ns => ⟨f, fd, ok_rising F B Kt (C_is_less a ns), hm, F.kp, F.binds fun _ _ _ _ _ _ us hl => by
  obtain ⟨_, rfl⟩ := ln1 hl
  rfl⟩
theorem mk_place_at {P : Program} {w : World} {K : PySem.W.Frag} {mg : Str → Option Value} {base : Heap} (B : Bl K mg) (Kt : Kit K) (d : DfP K mg "place_at" qC) (C_sum_of : ∀ a ns, Cal P w K mg base 3 "sum_of" ["a", "b"] (spM (b8 K a ns) 2 q9)) (C_product_of : ∀ a ns, Cal P w K mg base 3 "product_of" ["a", "b"] (spM (b8 K a ns) 2 gF)) :
  ∀ a ns, Cal P w K mg base 4 "place_at" ["line", "time"] (spM (b8 K a ns) 2 eG) := by
 obtain ⟨f, fd, F, hm⟩ := d
 exact fun a ns => ⟨f, fd, ok_place_at F B Kt (C_sum_of a ns) (C_product_of a ns), hm, F.kp, F.binds fun _ _ _ _ _ _ us hl => by
  obtain ⟨_, _, rfl⟩ := ln2 hl
  rfl⟩
theorem mk_meeting {P : Program} {w : World} {K : PySem.W.Frag} {mg : Str → Option Value} {base : Heap} (B : Bl K mg) (Kt : Kit K) (d : DfP K mg "meeting" sU) (C_quotient_of : ∀ a ns, Cal P w K mg base 3 "quotient_of" ["a", "b"] (spM (b8 K a ns) 2 fK)) (C_difference_of : ∀ a ns, Cal P w K mg base 3 "difference_of" ["a", "b"] (spM (b8 K a ns) 2 bY)) :
  ∀ a ns, Cal P w K mg base 4 "meeting" ["one", "other"] (spM (b8 K a ns) 2 gK) := by
 obtain ⟨f, fd, F, hm⟩ := d
 exact fun a ns => ⟨f, fd, ok_meeting F B Kt (C_quotient_of a ns) (C_difference_of a ns), hm, F.kp, F.binds fun _ _ _ _ _ _ us hl => by
  obtain ⟨_, _, rfl⟩ := ln2 hl
  rfl⟩
theorem mk_standing {P : Program} {w : World} {K : PySem.W.Frag} {mg : Str → Option Value} {base : Heap} (B : Bl K mg) (Kt : Kit K) (d : DfP K mg "standing" q8) (C_place_at : ∀ a ns, Cal P w K mg base 4 "place_at" ["line", "time"] (spM (b8 K a ns) 2 eG)) :
  ∀ a ns, Cal P w K mg base 5 "standing" ["lines", "runner", "time"] (spM (b8 K a ns) 3 eN) := by
 obtain ⟨f, fd, F, hm⟩ := d
 exact fun a ns => ⟨f, fd, ok_standing F B Kt (C_place_at a ns), hm, F.kp, F.binds fun _ _ _ _ _ _ us hl => by
  obtain ⟨_, _, _, rfl⟩ := ln3 hl
  rfl⟩
theorem xT {P : Program} {w : World} {K : PySem.W.Frag} {mg : Str → Option Value} {base : Heap} (B : Bl K mg) (Kt : Kit K) (d : DfP K mg "stands_ahead" iR) (C_is_less : ∀ a ns, Cal P w K mg base 1 "is_less" ["a", "b"] (spM (b8 K a ns) 2 bJ)) :
  ∀ a ns, Cal P w K mg base 2 "stands_ahead" ["one", "other"] (spM (b8 K a ns) 2 cN) := by
 obtain ⟨f, fd, F, hm⟩ := d
 exact fun a ns => ⟨f, fd, yQ F B Kt (C_is_less a ns), hm, F.kp, F.binds fun _ _ _ _ _ _ us hl => by
  obtain ⟨_, _, rfl⟩ := ln2 hl
  rfl⟩
theorem mk_is_ahead {P : Program} {w : World} {K : PySem.W.Frag} {mg : Str → Option Value} {base : Heap} (B : Bl K mg) (Kt : Kit K) (d : DfP K mg "is_ahead" pL) (C_stands_ahead : ∀ a ns, Cal P w K mg base 2 "stands_ahead" ["one", "other"] (spM (b8 K a ns) 2 cN)) (C_standing : ∀ a ns, Cal P w K mg base 5 "standing" ["lines", "runner", "time"] (spM (b8 K a ns) 3 eN)) :
  ∀ a ns, Cal P w K mg base 6 "is_ahead" ["lines", "one", "other", "time"] (spM (b8 K a ns) 4 cX) := by
 obtain ⟨f, fd, F, hm⟩ := d
 exact fun a ns => ⟨f, fd, ok_is_ahead F B Kt (C_stands_ahead a ns) (C_standing a ns), hm, F.kp, F.binds fun _ _ _ _ _ _ us hl => by
  obtain ⟨_, _, _, _, rfl⟩ := ln4 hl
  rfl⟩
theorem zN {P : Program} {w : World} {K : PySem.W.Frag} {mg : Str → Option Value} {base : Heap} (B : Bl K mg) (Kt : Kit K) (d : DfP K mg "next_change" jD) (C_is_less : ∀ a ns, Cal P w K mg base 1 "is_less" ["a", "b"] (spM (b8 K a ns) 2 bJ)) (C_meeting : ∀ a ns, Cal P w K mg base 4 "meeting" ["one", "other"] (spM (b8 K a ns) 2 gK)) :
  ∀ a ns, Cal P w K mg base 5 "next_change" ["lines", "one", "other", "time"] (spM (b8 K a ns) 4 cT) := by
 obtain ⟨f, fd, F, hm⟩ := d
 exact fun a ns => ⟨f, fd, zF F B Kt (C_is_less a ns) (C_meeting a ns), hm, F.kp, F.binds fun _ _ _ _ _ _ us hl => by
  obtain ⟨_, _, _, _, rfl⟩ := ln4 hl
  rfl⟩
theorem mk_is_runner {P : Program} {w : World} {K : PySem.W.Frag} {mg : Str → Option Value} {base : Heap} (B : Bl K mg) (Kt : Kit K) (d : DfP K mg "is_runner" nA) (C_is_whole : ∀ a ns, Cal P w K mg base 1 "is_whole" ["thing"] (spM (b8 K a ns) 1 eE)) :
  ∀ a ns, Cal P w K mg base 2 "is_runner" ["lines", "thing"] (spM (b8 K a ns) 2 gA) := by
 obtain ⟨f, fd, F, hm⟩ := d
 exact fun a ns => ⟨f, fd, ok_is_runner F B Kt (C_is_whole a ns), hm, F.kp, F.binds fun _ _ _ _ _ _ us hl => by
  obtain ⟨_, _, rfl⟩ := ln2 hl
  rfl⟩
theorem zO {P : Program} {w : World} {K : PySem.W.Frag} {mg : Str → Option Value} {base : Heap} (B : Bl K mg) (Kt : Kit K) (d : DfP K mg "order_among" gM) (C_stands_ahead : ∀ a ns, Cal P w K mg base 2 "stands_ahead" ["one", "other"] (spM (b8 K a ns) 2 cN)) (C_standing : ∀ a ns, Cal P w K mg base 5 "standing" ["lines", "runner", "time"] (spM (b8 K a ns) 3 eN)) :
  ∀ a ns, Cal P w K mg base 6 "order_among" ["lines", "runners", "time"] (spM (b8 K a ns) 3 fH) := by
 obtain ⟨f, fd, F, hm⟩ := d
 exact fun a ns => ⟨f, fd, ok_order_among F B Kt (C_stands_ahead a ns) (C_standing a ns), hm, F.kp, F.binds fun _ _ _ _ _ _ us hl => by
  obtain ⟨_, _, _, rfl⟩ := ln3 hl
  rfl⟩
theorem mk_order_at {P : Program} {w : World} {K : PySem.W.Frag} {mg : Str → Option Value} {base : Heap} (B : Bl K mg) (Kt : Kit K) (d : DfP K mg "order_at" pW) (C_order_among : ∀ a ns, Cal P w K mg base 6 "order_among" ["lines", "runners", "time"] (spM (b8 K a ns) 3 fH)) :
  ∀ a ns, Cal P w K mg base 7 "order_at" ["lines", "time"] (spM (b8 K a ns) 2 cB) := by
 obtain ⟨f, fd, F, hm⟩ := d
 exact fun a ns => ⟨f, fd, ok_order_at F B Kt (C_order_among a ns), hm, F.kp, F.binds fun _ _ _ _ _ _ us hl => by
  obtain ⟨_, _, rfl⟩ := ln2 hl
  rfl⟩
theorem mk_neighbours {P : Program} {w : World} {K : PySem.W.Frag} {mg : Str → Option Value} {base : Heap} (B : Bl K mg) (Kt : Kit K) (d : DfP K mg "neighbours" kZ) :
  ∀ a ns, Cal P w K mg base 1 "neighbours" ["order"] (spM (b8 K a ns) 1 cJ) := by
 obtain ⟨f, fd, F, hm⟩ := d
 exact fun a ns => ⟨f, fd, ok_neighbours F B Kt, hm, F.kp, F.binds fun _ _ _ _ _ _ us hl => by
  obtain ⟨_, rfl⟩ := ln1 hl
  rfl⟩
theorem mk_nearest {P : Program} {w : World} {K : PySem.W.Frag} {mg : Str → Option Value} {base : Heap} (B : Bl K mg) (Kt : Kit K) (d : DfP K mg "nearest" tM) (C_neighbours : ∀ a ns, Cal P w K mg base 1 "neighbours" ["order"] (spM (b8 K a ns) 1 cJ)) (C_order_at : ∀ a ns, Cal P w K mg base 7 "order_at" ["lines", "time"] (spM (b8 K a ns) 2 cB)) (C_is_less : ∀ a ns, Cal P w K mg base 1 "is_less" ["a", "b"] (spM (b8 K a ns) 2 bJ)) (C_difference_of : ∀ a ns, Cal P w K mg base 3 "difference_of" ["a", "b"] (spM (b8 K a ns) 2 bY)) (C_place_at : ∀ a ns, Cal P w K mg base 4 "place_at" ["line", "time"] (spM (b8 K a ns) 2 eG)) :
  ∀ a ns, Cal P w K mg base 8 "nearest" ["lines", "time"] (spM (b8 K a ns) 2 jU) := by
 obtain ⟨f, fd, F, hm⟩ := d
 exact fun a ns => ⟨f, fd, ok_nearest F B Kt (C_neighbours a ns) (C_order_at a ns) (C_is_less a ns) (C_difference_of a ns) (C_place_at a ns), hm, F.kp, F.binds fun _ _ _ _ _ _ us hl => by
  obtain ⟨_, _, rfl⟩ := ln2 hl
  rfl⟩
theorem mk_all_changes {P : Program} {w : World} {K : PySem.W.Frag} {mg : Str → Option Value} {base : Heap} (B : Bl K mg) (Kt : Kit K) (d : DfP K mg "all_changes" jC) (C_is_less : ∀ a ns, Cal P w K mg base 1 "is_less" ["a", "b"] (spM (b8 K a ns) 2 bJ)) (C_meeting : ∀ a ns, Cal P w K mg base 4 "meeting" ["one", "other"] (spM (b8 K a ns) 2 gK)) :
  ∀ a ns, Cal P w K mg base 5 "all_changes" ["lines"] (spM (b8 K a ns) 1 cU) := by
 obtain ⟨f, fd, F, hm⟩ := d
 exact fun a ns => ⟨f, fd, ok_all_changes F B Kt (C_is_less a ns) (C_meeting a ns), hm, F.kp, F.binds fun _ _ _ _ _ _ us hl => by
  obtain ⟨_, rfl⟩ := ln1 hl
  rfl⟩
theorem mk_changes {P : Program} {w : World} {K : PySem.W.Frag} {mg : Str → Option Value} {base : Heap} (B : Bl K mg) (Kt : Kit K) (d : DfP K mg "changes" lR) (C_rising : ∀ a ns, Cal P w K mg base 2 "rising" ["numbers"] (spM (b8 K a ns) 1 jE)) (C_is_less : ∀ a ns, Cal P w K mg base 1 "is_less" ["a", "b"] (spM (b8 K a ns) 2 bJ)) (C_all_changes : ∀ a ns, Cal P w K mg base 5 "all_changes" ["lines"] (spM (b8 K a ns) 1 cU)) :
  ∀ a ns, Cal P w K mg base 6 "changes" ["lines", "low", "high"] (spM (b8 K a ns) 3 lN) := by
 obtain ⟨f, fd, F, hm⟩ := d
 exact fun a ns => ⟨f, fd, ok_changes F B Kt (C_rising a ns) (C_is_less a ns) (C_all_changes a ns), hm, F.kp, F.binds fun _ _ _ _ _ _ us hl => by
  obtain ⟨_, _, _, rfl⟩ := ln3 hl
  rfl⟩
theorem vH {P : Program} {w : World} {K : PySem.W.Frag} {mg : Str → Option Value} {base : Heap} (B : Bl K mg) (Kt : Kit K) (d : DfP K mg "stretch_times" iB) (C_difference_of : ∀ a ns, Cal P w K mg base 3 "difference_of" ["a", "b"] (spM (b8 K a ns) 2 bY)) (C_rising : ∀ a ns, Cal P w K mg base 2 "rising" ["numbers"] (spM (b8 K a ns) 1 jE)) (C_all_changes : ∀ a ns, Cal P w K mg base 5 "all_changes" ["lines"] (spM (b8 K a ns) 1 cU)) :
  ∀ a ns, Cal P w K mg base 6 "stretch_times" ["lines"] (spM (b8 K a ns) 1 dR) := by
 obtain ⟨f, fd, F, hm⟩ := d
 exact fun a ns => ⟨f, fd, vJ F B Kt (C_difference_of a ns) (C_rising a ns) (C_all_changes a ns), hm, F.kp, F.binds fun _ _ _ _ _ _ us hl => by
  obtain ⟨_, rfl⟩ := ln1 hl
  rfl⟩
theorem mk_rank_row {P : Program} {w : World} {K : PySem.W.Frag} {mg : Str → Option Value} {base : Heap} (B : Bl K mg) (Kt : Kit K) (d : DfP K mg "rank_row" pU) (C_order_at : ∀ a ns, Cal P w K mg base 7 "order_at" ["lines", "time"] (spM (b8 K a ns) 2 cB)) (C_stretch_times : ∀ a ns, Cal P w K mg base 6 "stretch_times" ["lines"] (spM (b8 K a ns) 1 dR)) :
  ∀ a ns, Cal P w K mg base 8 "rank_row" ["lines", "k"] (spM (b8 K a ns) 2 jK) := by
 obtain ⟨f, fd, F, hm⟩ := d
 exact fun a ns => ⟨f, fd, ok_rank_row F B Kt (C_order_at a ns) (C_stretch_times a ns), hm, F.kp, F.binds fun _ _ _ _ _ _ us hl => by
  obtain ⟨_, _, rfl⟩ := ln2 hl
  rfl⟩
theorem mk_till_of {P : Program} {w : World} {K : PySem.W.Frag} {mg : Str → Option Value} {base : Heap} (B : Bl K mg) (Kt : Kit K) (d : DfP K mg "till_of" tZ) (C_next_change : ∀ a ns, Cal P w K mg base 5 "next_change" ["lines", "one", "other", "time"] (spM (b8 K a ns) 4 cT)) (C_is_ahead : ∀ a ns, Cal P w K mg base 6 "is_ahead" ["lines", "one", "other", "time"] (spM (b8 K a ns) 4 cX)) :
  ∀ a ns, Cal P w K mg base 7 "till_of" ["lines", "one", "other", "time"] (spM (b8 K a ns) 4 mF) := by
 obtain ⟨f, fd, F, hm⟩ := d
 exact fun a ns => ⟨f, fd, ok_till_of F B Kt (C_next_change a ns) (C_is_ahead a ns), hm, F.kp, F.binds fun _ _ _ _ _ _ us hl => by
  obtain ⟨_, _, _, _, rfl⟩ := ln4 hl
  rfl⟩
theorem xN {P : Program} {w : World} {K : PySem.W.Frag} {mg : Str → Option Value} {base : Heap} (B : Bl K mg) (Kt : Kit K) (d : DfP K mg "papers_among" fX) (C_neighbours : ∀ a ns, Cal P w K mg base 1 "neighbours" ["order"] (spM (b8 K a ns) 1 cJ)) (C_till_of : ∀ a ns, Cal P w K mg base 7 "till_of" ["lines", "one", "other", "time"] (spM (b8 K a ns) 4 mF)) :
  ∀ a ns, Cal P w K mg base 8 "papers_among" ["lines", "order", "time"] (spM (b8 K a ns) 3 eO) := by
 obtain ⟨f, fd, F, hm⟩ := d
 exact fun a ns => ⟨f, fd, yD F B Kt (C_neighbours a ns) (C_till_of a ns), hm, F.kp, F.binds fun _ _ _ _ _ _ us hl => by
  obtain ⟨_, _, _, rfl⟩ := ln3 hl
  rfl⟩
theorem mk_papers_at {P : Program} {w : World} {K : PySem.W.Frag} {mg : Str → Option Value} {base : Heap} (B : Bl K mg) (Kt : Kit K) (d : DfP K mg "papers_at" nM) (C_papers_among : ∀ a ns, Cal P w K mg base 8 "papers_among" ["lines", "order", "time"] (spM (b8 K a ns) 3 eO)) (C_order_at : ∀ a ns, Cal P w K mg base 7 "order_at" ["lines", "time"] (spM (b8 K a ns) 2 cB)) :
  ∀ a ns, Cal P w K mg base 9 "papers_at" ["lines", "time"] (spM (b8 K a ns) 2 f9) := by
 obtain ⟨f, fd, F, hm⟩ := d
 exact fun a ns => ⟨f, fd, ok_papers_at F B Kt (C_papers_among a ns) (C_order_at a ns), hm, F.kp, F.binds fun _ _ _ _ _ _ us hl => by
  obtain ⟨_, _, rfl⟩ := ln2 hl
  rfl⟩
theorem mk_stays_ahead {P : Program} {w : World} {K : PySem.W.Frag} {mg : Str → Option Value} {base : Heap} (B : Bl K mg) (Kt : Kit K) (d : DfP K mg "stays_ahead" jH) (C_is_less : ∀ a ns, Cal P w K mg base 1 "is_less" ["a", "b"] (spM (b8 K a ns) 2 bJ)) (C_next_change : ∀ a ns, Cal P w K mg base 5 "next_change" ["lines", "one", "other", "time"] (spM (b8 K a ns) 4 cT)) (C_is_ahead : ∀ a ns, Cal P w K mg base 6 "is_ahead" ["lines", "one", "other", "time"] (spM (b8 K a ns) 4 cX)) :
  ∀ a ns, Cal P w K mg base 7 "stays_ahead" ["lines", "one", "other", "time", "till"] (spM (b8 K a ns) 5 fJ) := by
 obtain ⟨f, fd, F, hm⟩ := d
 exact fun a ns => ⟨f, fd, ok_stays_ahead F B Kt (C_is_less a ns) (C_next_change a ns) (C_is_ahead a ns), hm, F.kp, F.binds fun _ _ _ _ _ _ us hl => by
  obtain ⟨_, _, _, _, _, rfl⟩ := ln5 hl
  rfl⟩
theorem mk_is_right {P : Program} {w : World} {K : PySem.W.Frag} {mg : Str → Option Value} {base : Heap} (B : Bl K mg) (Kt : Kit K) (d : DfP K mg "is_right" pM) (C_stays_ahead : ∀ a ns, Cal P w K mg base 7 "stays_ahead" ["lines", "one", "other", "time", "till"] (spM (b8 K a ns) 5 fJ)) (C_is_less : ∀ a ns, Cal P w K mg base 1 "is_less" ["a", "b"] (spM (b8 K a ns) 2 bJ)) (C_is_runner : ∀ a ns, Cal P w K mg base 2 "is_runner" ["lines", "thing"] (spM (b8 K a ns) 2 gA)) :
  ∀ a ns, Cal P w K mg base 8 "is_right" ["lines", "time", "paper"] (spM (b8 K a ns) 3 fP) := by
 obtain ⟨f, fd, F, hm⟩ := d
 exact fun a ns => ⟨f, fd, ok_is_right F B Kt (C_stays_ahead a ns) (C_is_less a ns) (C_is_runner a ns), hm, F.kp, F.binds fun _ _ _ _ _ _ us hl => by
  obtain ⟨_, _, _, rfl⟩ := ln3 hl
  rfl⟩
theorem vM {P : Program} {w : World} {K : PySem.W.Frag} {mg : Str → Option Value} {base : Heap} (B : Bl K mg) (Kt : Kit K) (d : DfP K mg "first_to_fail" iC) (C_is_less : ∀ a ns, Cal P w K mg base 1 "is_less" ["a", "b"] (spM (b8 K a ns) 2 bJ)) :
  ∀ a ns, Cal P w K mg base 2 "first_to_fail" ["papers"] (spM (b8 K a ns) 1 dJ) := by
 obtain ⟨f, fd, F, hm⟩ := d
 exact fun a ns => ⟨f, fd, vK F B Kt (C_is_less a ns), hm, F.kp, F.binds fun _ _ _ _ _ _ us hl => by
  obtain ⟨_, rfl⟩ := ln1 hl
  rfl⟩
theorem mk_shown {P : Program} {w : World} {K : PySem.W.Frag} {mg : Str → Option Value} {base : Heap} (B : Bl K mg) (Kt : Kit K) (d : DfP K mg "shown" rO) (C_first_to_fail : ∀ a ns, Cal P w K mg base 2 "first_to_fail" ["papers"] (spM (b8 K a ns) 1 dJ)) (C_neighbours : ∀ a ns, Cal P w K mg base 1 "neighbours" ["order"] (spM (b8 K a ns) 1 cJ)) (C_order_at : ∀ a ns, Cal P w K mg base 7 "order_at" ["lines", "time"] (spM (b8 K a ns) 2 cB)) (C_is_right : ∀ a ns, Cal P w K mg base 8 "is_right" ["lines", "time", "paper"] (spM (b8 K a ns) 3 fP)) :
  ∀ a ns, Cal P w K mg base 9 "shown" ["lines", "time", "papers"] (spM (b8 K a ns) 3 rG) := by
 obtain ⟨f, fd, F, hm⟩ := d
 exact fun a ns => ⟨f, fd, ok_shown F B Kt (C_first_to_fail a ns) (C_neighbours a ns) (C_order_at a ns) (C_is_right a ns), hm, F.kp, F.binds fun _ _ _ _ _ _ us hl => by
  obtain ⟨_, _, _, rfl⟩ := ln3 hl
  rfl⟩
theorem mk_law_lowest {P : Program} {w : World} {K : PySem.W.Frag} {mg : Str → Option Value} {base : Heap} (B : Bl K mg) (Kt : Kit K) (d : DfP K mg "_law_lowest" lA) :
  ∀ a ns, Cal P w K mg base 1 "_law_lowest" ["_law_top", "_law_bottom"] (spM (b8 K a ns) 2 bO) := by
 obtain ⟨f, fd, F, hm⟩ := d
 exact fun a ns => ⟨f, fd, ok_law_lowest F B Kt, hm, F.kp, F.binds fun _ _ _ _ _ _ us hl => by
  obtain ⟨_, _, rfl⟩ := ln2 hl
  rfl⟩
theorem mk_law_number {P : Program} {w : World} {K : PySem.W.Frag} {mg : Str → Option Value} {base : Heap} (B : Bl K mg) (Kt : Kit K) (d : DfP K mg "_law_number" lD) (C_law_lowest : ∀ a ns, Cal P w K mg base 1 "_law_lowest" ["_law_top", "_law_bottom"] (spM (b8 K a ns) 2 bO)) (C_law_take : ∀ a ns, Cal P w K mg base 1 "_law_take" ["_law_pen", "_law_many"] (spM (b8 K a ns) 2 bC)) :
  ∀ a ns, Cal P w K mg base 2 "_law_number" ["_law_pen", "_law_wide"] (spM (b8 K a ns) 2 fC) := by
 obtain ⟨f, fd, F, hm⟩ := d
 exact fun a ns => ⟨f, fd, ok_law_number F B Kt (C_law_lowest a ns) (C_law_take a ns), hm, F.kp, F.binds fun _ _ _ _ _ _ us hl => by
  obtain ⟨_, _, rfl⟩ := ln2 hl
  rfl⟩
theorem zL {P : Program} {w : World} {K : PySem.W.Frag} {mg : Str → Option Value} {base : Heap} (B : Bl K mg) (Kt : Kit K) (d : DfP K mg "_law_through" jB) (C_law_lowest : ∀ a ns, Cal P w K mg base 1 "_law_lowest" ["_law_top", "_law_bottom"] (spM (b8 K a ns) 2 bO)) :
  ∀ a ns, Cal P w K mg base 2 "_law_through" ["_law_time_here", "_law_place", "_law_slope"] (spM (b8 K a ns) 3 fU) := by
 obtain ⟨f, fd, F, hm⟩ := d
 exact fun a ns => ⟨f, fd, zP F B Kt (C_law_lowest a ns), hm, F.kp, F.binds fun _ _ _ _ _ _ us hl => by
  obtain ⟨_, _, _, rfl⟩ := ln3 hl
  rfl⟩
theorem mk_law_spot {P : Program} {w : World} {K : PySem.W.Frag} {mg : Str → Option Value} {base : Heap} (B : Bl K mg) (Kt : Kit K) (d : DfP K mg "_law_spot" pR) (C_law_lowest : ∀ a ns, Cal P w K mg base 1 "_law_lowest" ["_law_top", "_law_bottom"] (spM (b8 K a ns) 2 bO)) :
  ∀ a ns, Cal P w K mg base 2 "_law_spot" ["_law_line", "_law_time_here"] (spM (b8 K a ns) 2 fQ) := by
 obtain ⟨f, fd, F, hm⟩ := d
 exact fun a ns => ⟨f, fd, ok_law_spot F B Kt (C_law_lowest a ns), hm, F.kp, F.binds fun _ _ _ _ _ _ us hl => by
  obtain ⟨_, _, rfl⟩ := ln2 hl
  rfl⟩
theorem mk_law_lines {P : Program} {w : World} {K : PySem.W.Frag} {mg : Str → Option Value} {base : Heap} (B : Bl K mg) (Kt : Kit K) (d : DfP K mg "_law_lines" mQ) (C_law_take : ∀ a ns, Cal P w K mg base 1 "_law_take" ["_law_pen", "_law_many"] (spM (b8 K a ns) 2 bC)) (C_law_through : ∀ a ns, Cal P w K mg base 2 "_law_through" ["_law_time_here", "_law_place", "_law_slope"] (spM (b8 K a ns) 3 fU)) (C_law_spot : ∀ a ns, Cal P w K mg base 2 "_law_spot" ["_law_line", "_law_time_here"] (spM (b8 K a ns) 2 fQ)) (C_law_number : ∀ a ns, Cal P w K mg base 2 "_law_number" ["_law_pen", "_law_wide"] (spM (b8 K a ns) 2 fC)) :
  ∀ a ns, Cal P w K mg base 3 "_law_lines" ["_law_pen", "_law_most"] (spM (b8 K a ns) 2 jO) := by
 obtain ⟨f, fd, F, hm⟩ := d
 exact fun a ns => ⟨f, fd, ok_law_lines F B Kt (C_law_take a ns) (C_law_through a ns) (C_law_spot a ns) (C_law_number a ns), hm, F.kp, F.binds fun _ _ _ _ _ _ us hl => by
  obtain ⟨_, _, rfl⟩ := ln2 hl
  rfl⟩
theorem mk_law_less {P : Program} {w : World} {K : PySem.W.Frag} {mg : Str → Option Value} {base : Heap} (B : Bl K mg) (Kt : Kit K) (d : DfP K mg "_law_less" pZ) :
  ∀ a ns, Cal P w K mg base 1 "_law_less" ["_law_a", "_law_b"] (spM (b8 K a ns) 2 eF) := by
 obtain ⟨f, fd, F, hm⟩ := d
 exact fun a ns => ⟨f, fd, ok_law_less F B Kt, hm, F.kp, F.binds fun _ _ _ _ _ _ us hl => by
  obtain ⟨_, _, rfl⟩ := ln2 hl
  rfl⟩
theorem mk_law_met {P : Program} {w : World} {K : PySem.W.Frag} {mg : Str → Option Value} {base : Heap} (B : Bl K mg) (Kt : Kit K) (d : DfP K mg "_law_met" sV) (C_law_lowest : ∀ a ns, Cal P w K mg base 1 "_law_lowest" ["_law_top", "_law_bottom"] (spM (b8 K a ns) 2 bO)) :
  ∀ a ns, Cal P w K mg base 2 "_law_met" ["_law_lines_here", "_law_one", "_law_other"] (spM (b8 K a ns) 3 j5) := by
 obtain ⟨f, fd, F, hm⟩ := d
 exact fun a ns => ⟨f, fd, ok_law_met F B Kt (C_law_lowest a ns), hm, F.kp, F.binds fun _ _ _ _ _ _ us hl => by
  obtain ⟨_, _, _, rfl⟩ := ln3 hl
  rfl⟩
theorem mk_law_time {P : Program} {w : World} {K : PySem.W.Frag} {mg : Str → Option Value} {base : Heap} (B : Bl K mg) (Kt : Kit K) (d : DfP K mg "_law_time" pQ) (C_law_lowest : ∀ a ns, Cal P w K mg base 1 "_law_lowest" ["_law_top", "_law_bottom"] (spM (b8 K a ns) 2 bO)) (C_law_take : ∀ a ns, Cal P w K mg base 1 "_law_take" ["_law_pen", "_law_many"] (spM (b8 K a ns) 2 bC)) (C_law_met : ∀ a ns, Cal P w K mg base 2 "_law_met" ["_law_lines_here", "_law_one", "_law_other"] (spM (b8 K a ns) 3 j5)) :
  ∀ a ns, Cal P w K mg base 3 "_law_time" ["_law_pen", "_law_lines_here"] (spM (b8 K a ns) 2 jJ) := by
 obtain ⟨f, fd, F, hm⟩ := d
 exact fun a ns => ⟨f, fd, ok_law_time F B Kt (C_law_lowest a ns) (C_law_take a ns) (C_law_met a ns), hm, F.kp, F.binds fun _ _ _ _ _ _ us hl => by
  obtain ⟨_, _, rfl⟩ := ln2 hl
  rfl⟩
theorem mk_law_below {P : Program} {w : World} {K : PySem.W.Frag} {mg : Str → Option Value} {base : Heap} (B : Bl K mg) (Kt : Kit K) (d : DfP K mg "_law_below" nD) :
  ∀ a ns, Cal P w K mg base 1 "_law_below" ["_law_number_here"] (spM (b8 K a ns) 1 iM) := by
 obtain ⟨f, fd, F, hm⟩ := d
 exact fun a ns => ⟨f, fd, ok_law_below F B Kt, hm, F.kp, F.binds fun _ _ _ _ _ _ us hl => by
  obtain ⟨_, rfl⟩ := ln1 hl
  rfl⟩
theorem yO {P : Program} {w : World} {K : PySem.W.Frag} {mg : Str → Option Value} {base : Heap} (B : Bl K mg) (Kt : Kit K) (d : DfP K mg "_law_at_right" eH) (C_nearest : ∀ a ns, Cal P w K mg base 8 "nearest" ["lines", "time"] (spM (b8 K a ns) 2 jU)) (C_is_ahead : ∀ a ns, Cal P w K mg base 6 "is_ahead" ["lines", "one", "other", "time"] (spM (b8 K a ns) 4 cX)) (C_shown : ∀ a ns, Cal P w K mg base 9 "shown" ["lines", "time", "papers"] (spM (b8 K a ns) 3 rG)) (C_papers_at : ∀ a ns, Cal P w K mg base 9 "papers_at" ["lines", "time"] (spM (b8 K a ns) 2 f9)) (C_is_right : ∀ a ns, Cal P w K mg base 8 "is_right" ["lines", "time", "paper"] (spM (b8 K a ns) 3 fP)) (C_order_at : ∀ a ns, Cal P w K mg base 7 "order_at" ["lines", "time"] (spM (b8 K a ns) 2 cB)) :
  ∀ a ns, Cal P w K mg base 10 "_law_at_right" ["_law_lines_here", "_law_about", "_law_time_here"] (spM (b8 K a ns) 3 fZ) := by
 obtain ⟨f, fd, F, hm⟩ := d
 exact fun a ns => ⟨f, fd, xF F B Kt (C_nearest a ns) (C_is_ahead a ns) (C_shown a ns) (C_papers_at a ns) (C_is_right a ns) (C_order_at a ns), hm, F.kp, F.binds fun _ _ _ _ _ _ us hl => by
  obtain ⟨_, _, _, rfl⟩ := ln3 hl
  rfl⟩
theorem all_mk {l : PySem.W.OpenLaw} {w : World} {K : PySem.W.Frag} {mg : Str → Option Value} {fa : Addr} (hfa : mg "law" = some (.ref fa)) (B : Bl K mg) (Kt : Kit K)
  (d0 : DfP K mg "_law_take" lQ)
  (d1 : DfP K mg "is_whole" pO)
  (d2 : DfP K mg "greatest_divisor" eV)
  (d3 : DfP K mg "number_of" nY)
  (d4 : DfP K mg "sum_of" wC)
  (d5 : DfP K mg "difference_of" gP)
  (d6 : DfP K mg "product_of" kJ)
  (d7 : DfP K mg "quotient_of" jG)
  (d8 : DfP K mg "is_less" tQ)
  (d9 : DfP K mg "rising" vU)
  (d10 : DfP K mg "place_at" qC)
  (d11 : DfP K mg "meeting" sU)
  (d12 : DfP K mg "standing" q8)
  (d13 : DfP K mg "stands_ahead" iR)
  (d14 : DfP K mg "is_ahead" pL)
  (d15 : DfP K mg "next_change" jD)
  (d16 : DfP K mg "is_runner" nA)
  (d17 : DfP K mg "order_among" gM)
  (d18 : DfP K mg "order_at" pW)
  (d19 : DfP K mg "neighbours" kZ)
  (d20 : DfP K mg "nearest" tM)
  (d21 : DfP K mg "all_changes" jC)
  (d22 : DfP K mg "changes" lR)
  (d23 : DfP K mg "stretch_times" iB)
  (d24 : DfP K mg "rank_row" pU)
  (d25 : DfP K mg "till_of" tZ)
  (d26 : DfP K mg "papers_among" fX)
  (d27 : DfP K mg "papers_at" nM)
  (d28 : DfP K mg "stays_ahead" jH)
  (d29 : DfP K mg "is_right" pM)
  (d30 : DfP K mg "first_to_fail" iC)
  (d31 : DfP K mg "shown" rO)
  (d32 : DfP K mg "_law_lowest" lA)
  (d33 : DfP K mg "_law_number" lD)
  (d34 : DfP K mg "_law_through" jB)
  (d35 : DfP K mg "_law_spot" pR)
  (d36 : DfP K mg "_law_lines" mQ)
  (d37 : DfP K mg "_law_less" pZ)
  (d38 : DfP K mg "_law_met" sV)
  (d39 : DfP K mg "_law_time" pQ)
  (d40 : DfP K mg "_law_below" nD)
  (d41 : DfP K mg "_law_at_right" eH)
  (d42 : DfP K mg "law" s_law)
  (hL : b_law (.no :: .pen :: List.replicate 16 .no) nG) :
  ∃ fd : FuncData, (∀ (s : Shared) (v : Value), BindsTo s fd ⟨[v], []⟩ [("_law_script", v)]) ∧ ∀ base : Heap, K.In base → base.Ns mainGlobals mg → FnOk l.prog w K mg base CX0 11 fa fd ["_law_script"] (spLaw K) := by
 obtain ⟨f, fd, F, hm⟩ := d42
 cases hfa.symm.trans hm
 refine ⟨fd, ?_, fun base _ _ => ?_⟩
 ·obtain ⟨oc, od, kV, doc, pm, an, cdv, ct, osl, rfl, lk, hcd⟩ := F.ex
  exact fun s v => .of_eq rfl
 have C_law_take := mk_law_take (P := l.prog) (w := w) (base := base) B Kt d0
 have C_is_whole := mk_is_whole (P := l.prog) (w := w) (base := base) B Kt d1
 have C_greatest_divisor := rA (P := l.prog) (w := w) (base := base) B Kt d2
 have C_number_of := mk_number_of (P := l.prog) (w := w) (base := base) B Kt d3 C_greatest_divisor C_is_whole
 have C_sum_of := mk_sum_of (P := l.prog) (w := w) (base := base) B Kt d4 C_number_of
 have C_difference_of := vI (P := l.prog) (w := w) (base := base) B Kt d5 C_number_of
 have C_product_of := mk_product_of (P := l.prog) (w := w) (base := base) B Kt d6 C_number_of
 have C_quotient_of := zM (P := l.prog) (w := w) (base := base) B Kt d7 C_number_of
 have C_is_less := mk_is_less (P := l.prog) (w := w) (base := base) B Kt d8
 have C_rising := mk_rising (P := l.prog) (w := w) (base := base) B Kt d9 C_is_less
 have C_place_at := mk_place_at (P := l.prog) (w := w) (base := base) B Kt d10 C_sum_of C_product_of
 have C_meeting := mk_meeting (P := l.prog) (w := w) (base := base) B Kt d11 C_quotient_of C_difference_of
 have C_standing := mk_standing (P := l.prog) (w := w) (base := base) B Kt d12 C_place_at
 have C_stands_ahead := xT (P := l.prog) (w := w) (base := base) B Kt d13 C_is_less
 have C_is_ahead := mk_is_ahead (P := l.prog) (w := w) (base := base) B Kt d14 C_stands_ahead C_standing
 have C_next_change := zN (P := l.prog) (w := w) (base := base) B Kt d15 C_is_less C_meeting
 have C_is_runner := mk_is_runner (P := l.prog) (w := w) (base := base) B Kt d16 C_is_whole
 have C_order_among := zO (P := l.prog) (w := w) (base := base) B Kt d17 C_stands_ahead C_standing
 have C_order_at := mk_order_at (P := l.prog) (w := w) (base := base) B Kt d18 C_order_among
 have C_neighbours := mk_neighbours (P := l.prog) (w := w) (base := base) B Kt d19
 have C_nearest := mk_nearest (P := l.prog) (w := w) (base := base) B Kt d20 C_neighbours C_order_at C_is_less C_difference_of C_place_at
 have C_all_changes := mk_all_changes (P := l.prog) (w := w) (base := base) B Kt d21 C_is_less C_meeting
 have C_changes := mk_changes (P := l.prog) (w := w) (base := base) B Kt d22 C_rising C_is_less C_all_changes
 have C_stretch_times := vH (P := l.prog) (w := w) (base := base) B Kt d23 C_difference_of C_rising C_all_changes
 have C_rank_row := mk_rank_row (P := l.prog) (w := w) (base := base) B Kt d24 C_order_at C_stretch_times
 have C_till_of := mk_till_of (P := l.prog) (w := w) (base := base) B Kt d25 C_next_change C_is_ahead
 have C_papers_among := xN (P := l.prog) (w := w) (base := base) B Kt d26 C_neighbours C_till_of
 have C_papers_at := mk_papers_at (P := l.prog) (w := w) (base := base) B Kt d27 C_papers_among C_order_at
 have C_stays_ahead := mk_stays_ahead (P := l.prog) (w := w) (base := base) B Kt d28 C_is_less C_next_change C_is_ahead
 have C_is_right := mk_is_right (P := l.prog) (w := w) (base := base) B Kt d29 C_stays_ahead C_is_less C_is_runner
 have C_first_to_fail := vM (P := l.prog) (w := w) (base := base) B Kt d30 C_is_less
 have C_shown := mk_shown (P := l.prog) (w := w) (base := base) B Kt d31 C_first_to_fail C_neighbours C_order_at C_is_right
 have C_law_lowest := mk_law_lowest (P := l.prog) (w := w) (base := base) B Kt d32
 have C_law_number := mk_law_number (P := l.prog) (w := w) (base := base) B Kt d33 C_law_lowest C_law_take
 have C_law_through := zL (P := l.prog) (w := w) (base := base) B Kt d34 C_law_lowest
 have C_law_spot := mk_law_spot (P := l.prog) (w := w) (base := base) B Kt d35 C_law_lowest
 have C_law_lines := mk_law_lines (P := l.prog) (w := w) (base := base) B Kt d36 C_law_take C_law_through C_law_spot C_law_number
 have C_law_less := mk_law_less (P := l.prog) (w := w) (base := base) B Kt d37
 have C_law_met := mk_law_met (P := l.prog) (w := w) (base := base) B Kt d38 C_law_lowest
 have C_law_time := mk_law_time (P := l.prog) (w := w) (base := base) B Kt d39 C_law_lowest C_law_take C_law_met
 have C_law_below := mk_law_below (P := l.prog) (w := w) (base := base) B Kt d40
 have C_law_at_right := yO (P := l.prog) (w := w) (base := base) B Kt d41 C_nearest C_is_ahead C_shown C_papers_at C_is_right C_order_at
 exact ok_law F B Kt C_changes C_rank_row C_law_take C_law_at_right C_law_less C_law_time C_law_below C_law_lines hL
theorem walk {l : PySem.W.OpenLaw} {q : Program} {loose : List Str} {XP : (Str → Option Value) → Heap → Prop} {YP : World → Heap → Prop} {d : DefRec} {K : Params → PySem.W.Frag} (hn : l.most = some 63) (hdf : d.params.defaults = [])
  (hY : ∀ (w : World) (h : Heap), YP w h → (K w.params).In h)
  (F : ∀ (w : World) (mg : Str → Option Value) (fa : Addr) (h : Heap), (K w.params).In h → h.Ns mainGlobals mg → mg d.name = some (.ref fa) →
   ∃ fd : FuncData, (∀ (s : Shared) (u : Value), BindsTo s fd ⟨[u], []⟩ [("_law_script", u)]) ∧ ∀ base : Heap, (K w.params).In base → base.Ns mainGlobals mg → FnOk l.prog w (K w.params) mg base CX0 11 fa fd ["_law_script"] (spLaw (K w.params))) :
  PySem.W.WalkO q loose XP YP l.row.toRowW d [] (fun f vs => PySem.call f vs) :=
 L2.walk_of (n := 63) (k := 11) (x := "_law_script") (CX := fun _ => CX0) (sp := fun w => spLaw (K w.params)) hn (by decide) hdf ⟨rfl, by decide, by decide⟩ hY F (fun _ _ a ns hl _ hS => ⟨a, ns, rfl, hS, hl, fun _ => rfl⟩) fun _ _ _ _ _ z => z
end My
noncomputable def PySem.W.Fast.tw10686251364753648590 : Unit := ()
noncomputable def PySem.W.Fast.tw12474650666436873071 : Unit := ()
noncomputable def PySem.W.Fast.tw1549145739672618918 : Unit := ()
noncomputable def PySem.W.Fast.tw16461868847307008421 : Unit := ()
noncomputable def PySem.W.Fast.tw17159225514162582549 : Unit := ()
noncomputable def PySem.W.Fast.tw3495834685753333780 : Unit := ()
noncomputable def PySem.W.Fast.tw5337732193993742330 : Unit := ()
open PySem PySem.W PyProof.Rows
set_option maxRecDepth 100000 in
set_option maxHeartbeats 0 in
theorem PySem.Challenge.cw_leadtimes_k48_whole_turned_about_holds : PySem.Challenge.rw_leadtimes_k48_whole_turned_about.Holds := by
 w_on; o_law; k_head; (case hw => w_witness2)
 k_fill
 refine My.walk (l := PySem.Challenge.rw_leadtimes_k48_whole_turned_about) rfl rfl (fun w h Y => PySem.W.kIn_of Y) ?F
 case F =>
  intro w mg fa h KX G hmg
  refine' My.all_mk hmg (My.bl_mk KX G ?z_len ?z_abs ?z_range ?z_isinstance ?z_int ?z_bool ?z_tuple ?z_max ?z_min ?z_list ?z_all ?z_any ?z_sorted ?z_zip ?z_set ?z_sum ?z_str ?z_enumerate ?kt_int_bool ?kt_bool_int) (My.kit_mk ?kt_NoneType_bool ?kt_NoneType_int ?kt_NoneType_str ?kt_NoneType_list ?kt_NoneType_tuple ?kt_bool_NoneType ?kt_bool_int ?kt_bool_str ?kt_bool_list ?kt_bool_tuple ?kt_int_NoneType ?kt_int_bool ?kt_int_str ?kt_int_list ?kt_int_tuple ?kt_str_NoneType ?kt_str_bool ?kt_str_int ?kt_str_list ?kt_str_tuple ?kt_list_NoneType ?kt_list_bool ?kt_list_int ?kt_list_str ?kt_list_tuple ?kt_tuple_NoneType ?kt_tuple_bool ?kt_tuple_int ?kt_tuple_str ?kt_tuple_list) (My.dF KX G ?a0 ?l0 ?c0 ?k0) (My.dF KX G ?a1 ?l1 ?c1 ?k1) (My.dF KX G ?a2 ?l2 ?c2 ?k2) (My.dF KX G ?a3 ?l3 ?c3 ?k3) (My.dF KX G ?a4 ?l4 ?c4 ?k4) (My.dF KX G ?a5 ?l5 ?c5 ?k5) (My.dF KX G ?a6 ?l6 ?c6 ?k6) (My.dF KX G ?a7 ?l7 ?c7 ?k7) (My.dF KX G ?a8 ?l8 ?c8 ?k8) (My.dF KX G ?a9 ?l9 ?c9 ?k9) (My.dF KX G ?a10 ?l10 ?c10 ?k10) (My.dF KX G ?a11 ?l11 ?c11 ?k11) (My.dF KX G ?a12 ?l12 ?c12 ?k12) (My.dF KX G ?a13 ?l13 ?c13 ?k13) (My.dF KX G ?a14 ?l14 ?c14 ?k14) (My.dF KX G ?a15 ?l15 ?c15 ?k15) (My.dF KX G ?a16 ?l16 ?c16 ?k16) (My.dF KX G ?a17 ?l17 ?c17 ?k17) (My.dF KX G ?a18 ?l18 ?c18 ?k18) (My.dF KX G ?a19 ?l19 ?c19 ?k19) (My.dF KX G ?a20 ?l20 ?c20 ?k20) (My.dF KX G ?a21 ?l21 ?c21 ?k21) (My.dF KX G ?a22 ?l22 ?c22 ?k22) (My.dF KX G ?a23 ?l23 ?c23 ?k23) (My.dF KX G ?a24 ?l24 ?c24 ?k24) (My.dF KX G ?a25 ?l25 ?c25 ?k25) (My.dF KX G ?a26 ?l26 ?c26 ?k26) (My.dF KX G ?a27 ?l27 ?c27 ?k27) (My.dF KX G ?a28 ?l28 ?c28 ?k28) (My.dF KX G ?a29 ?l29 ?c29 ?k29) (My.dF KX G ?a30 ?l30 ?c30 ?k30) (My.dF KX G ?a31 ?l31 ?c31 ?k31) (My.dF KX G ?a32 ?l32 ?c32 ?k32) (My.dF KX G ?a33 ?l33 ?c33 ?k33) (My.dF KX G ?a34 ?l34 ?c34 ?k34) (My.dF KX G ?a35 ?l35 ?c35 ?k35) (My.dF KX G ?a36 ?l36 ?c36 ?k36) (My.dF KX G ?a37 ?l37 ?c37 ?k37) (My.dF KX G ?a38 ?l38 ?c38 ?k38) (My.dF KX G ?a39 ?l39 ?c39 ?k39) (My.dF KX G ?a40 ?l40 ?c40 ?k40) (My.dF KX G ?a41 ?l41 ?c41 ?k41) (My.dF KX G ?a42 ?l42 ?c42 ?k42) My.law_true
  (case a0 => k_is)
  (case l0 => k_is)
  (case c0 => k_is)
  (case k0 => k_is)
  (case a1 => k_is)
  (case l1 => k_is)
  (case c1 => k_is)
  (case k1 => k_is)
  (case a2 => k_is)
  (case l2 => k_is)
  (case c2 => k_is)
  (case k2 => k_is)
  (case a3 => k_is)
  (case l3 => k_is)
  (case c3 => k_is)
  (case k3 => k_is)
  (case a4 => k_is)
  (case l4 => k_is)
  (case c4 => k_is)
  (case k4 => k_is)
  (case a5 => k_is)
  (case l5 => k_is)
  (case c5 => k_is)
  (case k5 => k_is)
  (case a6 => k_is)
  (case l6 => k_is)
  (case c6 => k_is)
  (case k6 => k_is)
  (case a7 => k_is)
  (case l7 => k_is)
  (case c7 => k_is)
  (case k7 => k_is)
  (case a8 => k_is)
  (case l8 => k_is)
  (case c8 => k_is)
  (case k8 => k_is)
  (case a9 => k_is)
  (case l9 => k_is)
  (case c9 => k_is)
  (case k9 => k_is)
  (case a10 => k_is)
  (case l10 => k_is)
  (case c10 => k_is)
  (case k10 => k_is)
  (case a11 => k_is)
  (case l11 => k_is)
  (case c11 => k_is)
  (case k11 => k_is)
  (case a12 => k_is)
  (case l12 => k_is)
  (case c12 => k_is)
  (case k12 => k_is)
  (case a13 => k_is)
  (case l13 => k_is)
  (case c13 => k_is)
  (case k13 => k_is)
  (case a14 => k_is)
  (case l14 => k_is)
  (case c14 => k_is)
  (case k14 => k_is)
  (case a15 => k_is)
  (case l15 => k_is)
  (case c15 => k_is)
  (case k15 => k_is)
  (case a16 => k_is)
  (case l16 => k_is)
  (case c16 => k_is)
  (case k16 => k_is)
  (case a17 => k_is)
  (case l17 => k_is)
  (case c17 => k_is)
  (case k17 => k_is)
  (case a18 => k_is)
  (case l18 => k_is)
  (case c18 => k_is)
  (case k18 => k_is)
  (case a19 => k_is)
  (case l19 => k_is)
  (case c19 => k_is)
  (case k19 => k_is)
  (case a20 => k_is)
  (case l20 => k_is)
  (case c20 => k_is)
  (case k20 => k_is)
  (case a21 => k_is)
  (case l21 => k_is)
  (case c21 => k_is)
  (case k21 => k_is)
  (case a22 => k_is)
  (case l22 => k_is)
  (case c22 => k_is)
  (case k22 => k_is)
  (case a23 => k_is)
  (case l23 => k_is)
  (case c23 => k_is)
  (case k23 => k_is)
  (case a24 => k_is)
  (case l24 => k_is)
  (case c24 => k_is)
  (case k24 => k_is)
  (case a25 => k_is)
  (case l25 => k_is)
  (case c25 => k_is)
  (case k25 => k_is)
  (case a26 => k_is)
  (case l26 => k_is)
  (case c26 => k_is)
  (case k26 => k_is)
  (case a27 => k_is)
  (case l27 => k_is)
  (case c27 => k_is)
  (case k27 => k_is)
  (case a28 => k_is)
  (case l28 => k_is)
  (case c28 => k_is)
  (case k28 => k_is)
  (case a29 => k_is)
  (case l29 => k_is)
  (case c29 => k_is)
  (case k29 => k_is)
  (case a30 => k_is)
  (case l30 => k_is)
  (case c30 => k_is)
  (case k30 => k_is)
  (case a31 => k_is)
  (case l31 => k_is)
  (case c31 => k_is)
  (case k31 => k_is)
  (case a32 => k_is)
  (case l32 => k_is)
  (case c32 => k_is)
  (case k32 => k_is)
  (case a33 => k_is)
  (case l33 => k_is)
  (case c33 => k_is)
  (case k33 => k_is)
  (case a34 => k_is)
  (case l34 => k_is)
  (case c34 => k_is)
  (case k34 => k_is)
  (case a35 => k_is)
  (case l35 => k_is)
  (case c35 => k_is)
  (case k35 => k_is)
  (case a36 => k_is)
  (case l36 => k_is)
  (case c36 => k_is)
  (case k36 => k_is)
  (case a37 => k_is)
  (case l37 => k_is)
  (case c37 => k_is)
  (case k37 => k_is)
  (case a38 => k_is)
  (case l38 => k_is)
  (case c38 => k_is)
  (case k38 => k_is)
  (case a39 => k_is)
  (case l39 => k_is)
  (case c39 => k_is)
  (case k39 => k_is)
  (case a40 => k_is)
  (case l40 => k_is)
  (case c40 => k_is)
  (case k40 => k_is)
  (case a41 => k_is)
  (case l41 => k_is)
  (case c41 => k_is)
  (case k41 => k_is)
  (case a42 => k_is)
  (case l42 => k_is)
  (case c42 => k_is)
  (case k42 => k_is)
  (case z_len => k_is)
  (case z_abs => k_is)
  (case z_range => k_is)
  (case z_isinstance => k_is)
  (case z_int => k_is)
  (case z_bool => k_is)
  (case z_tuple => k_is)
  (case z_max => k_is)
  (case z_min => k_is)
  (case z_list => k_is)
  (case z_all => k_is)
  (case z_any => k_is)
  (case z_sorted => k_is)
  (case z_zip => k_is)
  (case z_set => k_is)
  (case z_sum => k_is)
  (case z_str => k_is)
  (case z_enumerate => k_is)
  (case kt_NoneType_bool => kit_is)
  (case kt_NoneType_int => kit_is)
  (case kt_NoneType_str => kit_is)
  (case kt_NoneType_list => kit_is)
  (case kt_NoneType_tuple => kit_is)
  (case kt_bool_NoneType => kit_is)
  (case kt_bool_int => kit_is)
  (case kt_bool_str => kit_is)
  (case kt_bool_list => kit_is)
  (case kt_bool_tuple => kit_is)
  (case kt_int_NoneType => kit_is)
  (case kt_int_bool => kit_is)
  (case kt_int_str => kit_is)
  (case kt_int_list => kit_is)
  (case kt_int_tuple => kit_is)
  (case kt_str_NoneType => kit_is)
  (case kt_str_bool => kit_is)
  (case kt_str_int => kit_is)
  (case kt_str_list => kit_is)
  (case kt_str_tuple => kit_is)
  (case kt_list_NoneType => kit_is)
  (case kt_list_bool => kit_is)
  (case kt_list_int => kit_is)
  (case kt_list_str => kit_is)
  (case kt_list_tuple => kit_is)
  (case kt_tuple_NoneType => kit_is)
  (case kt_tuple_bool => kit_is)
  (case kt_tuple_int => kit_is)
  (case kt_tuple_str => kit_is)
  (case kt_tuple_list => kit_is)
#print axioms PySem.Challenge.cw_leadtimes_k48_whole_turned_about_holds
