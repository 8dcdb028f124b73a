import PyProof.Rows.All
import Wide.All
import OpenK.AllK
import Wide.FinOn
import Lean
import PyProof.EqAt
import PyProof.EqKinds
import PyProof.TupleCall
import PyProof.P3Eq
import PyProof.P3In
import PyProof.NeData
import PyProof.FitsBits
import PySem.Challenge.RW_leadtimes_k01_numbers_made
noncomputable section
set_option compiler.extract_closed false
set_option Elab.async false
set_option linter.all false
set_option maxRecDepth 100000
namespace L2
open PySem PySem.Spec PyProof.Rows
abbrev Key := Sum Int Str
noncomputable def keyIs : Key → Value → Bool
 | .inl k, v => Value.isInt k v
 | .inr x, v => Value.isStrOf x v
noncomputable def keyH (w : World) : Key → Int
 | .inl k => hashInt k
 | .inr x => hashStr w x
theorem keyIs_shape : ∀ {k : Key} {v : Value}, keyIs k v = true → (∃ i t, k = Sum.inl i ∧ v = Value.int i t) ∨ (∃ x t, k = Sum.inr x ∧ v = Value.str x t)
 | .inl i, v, h => by
  obtain ⟨t, e⟩ := Value.isInt_shape (k := i) (v := v) h
  exact .inl ⟨i, t, rfl, e⟩
 | .inr x, v, h => by
  obtain ⟨t, e⟩ := Value.isStrOf_shape (x := x) (v := v) h
  exact .inr ⟨x, t, rfl, e⟩
theorem key_ll (a b : Int) : decide ((Sum.inl a : Key) = Sum.inl b) = (a == b) := by
 by_cases e : a = b
 ·subst e; simp
 ·have h : ¬ (Sum.inl a : Key) = Sum.inl b := fun q => e (Sum.inl.inj q)
  rw [decide_eq_false h]
  exact (beq_eq_false_iff_ne.mpr e).symm
theorem key_rr (a b : Str) : decide ((Sum.inr a : Key) = Sum.inr b) = decide (a = b) := by
 by_cases e : a = b
 ·subst e; simp
 ·have h : ¬ (Sum.inr a : Key) = Sum.inr b := fun q => e (Sum.inr.inj q)
  rw [decide_eq_false h, decide_eq_false e]
theorem key_lr (a : Int) (b : Str) : decide ((Sum.inl a : Key) = Sum.inr b) = false := decide_eq_false (fun q => nomatch q)
theorem key_rl (a : Str) (b : Int) : decide ((Sum.inr a : Key) = Sum.inl b) = false := decide_eq_false (fun q => nomatch q)
noncomputable def mixKind (prog : Program) (w : World) : PySem.KeyKind prog w Key where
 is := keyIs
 hash := keyH w
 inj := fun v a b ha hb => by
  rcases keyIs_shape ha with ⟨i, t, rfl, rfl⟩ | ⟨x, t, rfl, rfl⟩
  ·rcases keyIs_shape hb with ⟨j, u, rfl, e⟩ | ⟨y, u, rfl, e⟩
   ·injection e with e1 _; rw [e1]
   ·exact nomatch e
  ·rcases keyIs_shape hb with ⟨j, u, rfl, e⟩ | ⟨y, u, rfl, e⟩
   ·exact nomatch e
   ·injection e with e1 _; rw [e1]
 byValue := fun k v h => by
  rcases keyIs_shape h with ⟨i, t, rfl, rfl⟩ | ⟨x, t, rfl, rfl⟩ <;> rfl
 pyHash := fun hv h => by
  rcases keyIs_shape hv with ⟨i, t, rfl, rfl⟩ | ⟨x, t, rfl, rfl⟩
  ·exact wpAny_pyHash_int h
  ·exact wpAny_pyHash_str h
 eqBool := fun hu hv h => by
  rcases keyIs_shape hu with ⟨i, t, rfl, rfl⟩ | ⟨x, t, rfl, rfl⟩
  ·rcases keyIs_shape hv with ⟨j, u, rfl, rfl⟩ | ⟨y, u, rfl, rfl⟩
   ·rw [key_ll] at h; exact wpAny_eqBool_int h
   ·rw [key_lr] at h; exact SeqAt.EqAt.int_str i t y u _ _ _ _ h
  ·rcases keyIs_shape hv with ⟨j, u, rfl, rfl⟩ | ⟨y, u, rfl, rfl⟩
   ·rw [key_rl] at h; exact SeqAt.EqAt.str_int x t j u _ _ _ _ h
   ·rw [key_rr] at h; exact wpAny_eqBool_str h
 «strs» := fun k x t v h => by
  rcases keyIs_shape h with ⟨i, u, rfl, e⟩ | ⟨y, u, rfl, e⟩
  ·exact nomatch e
  ·injection e with e1 _
   subst e1
   cases v <;> rfl
end L2
namespace L2
open PySem PySem.Spec PyProof.Rows
inductive V where
 | non | bl (b : Bool) | int (i : Int) | str (x : Str) | byt (b : Array UInt8) | flt (b : UInt64) | ref (a : Addr) | ty (n : String)
 deriving DecidableEq
noncomputable def RelV : V → Value → Prop
 | .non, u => u = Value.none
 | .bl b, u => u = Value.bool b
 | .int i, u => ∃ t, u = Value.int i t
 | .str x, u => ∃ t, u = Value.str x t
 | .byt b, u => ∃ t, u = Value.bytes b t
 | .flt b, u => ∃ t, u = Value.float b t
 | .ref a, u => u = Value.ref a
 | .ty n, u => u = Value.type n
abbrev Vals : List V → List Value → Prop := Paired RelV
theorem Vals.length {xs : List V} {us : List Value} (r : Vals xs us) : xs.length = us.length := Paired.length r
theorem Vals.get : ∀ {xs : List V} {us : List Value} {i : Nat} {x : V}, Vals xs us → xs[i]? = some x → ∃ u, us[i]? = some u ∧ RelV x u
 | _, _, _, _, .nil, e => by simp at e
 | _, _, 0, _, .cons r _, e => by simp at e; subst e; exact ⟨_, rfl, r⟩
 | _, _, i + 1, x, .cons _ t, e => by
  obtain ⟨u, h1, h2⟩ := Vals.get (i := i) (x := x) t (by simpa using e)
  exact ⟨u, by simpa using h1, h2⟩
theorem Vals.set {x : V} {u : Value} (r : RelV x u) : ∀ {xs : List V} {us : List Value} (i : Nat), Vals xs us → Vals (xs.set i x) (us.set i u)
 | _, _, _, .nil => .nil
 | _, _, 0, .cons _ t => .cons r t
 | _, _, i + 1, .cons q t => .cons q (Vals.set r i t)
theorem Vals.append : ∀ {xs ys : List V} {us ws : List Value}, Vals xs us → Vals ys ws → Vals (xs ++ ys) (us ++ ws) := by
 intro xs ys us ws h q
 induction h with
 | nil => exact q
 | cons r t ih => exact .cons r ih
theorem Vals.take : ∀ {xs : List V} {us : List Value} (n : Nat), Vals xs us → Vals (xs.take n) (us.take n)
 | _, _, 0, _ => .nil
 | _, _, _ + 1, .nil => .nil
 | _, _, n + 1, .cons r t => .cons r (Vals.take n t)
theorem Vals.drop : ∀ {xs : List V} {us : List Value} (n : Nat), Vals xs us → Vals (xs.drop n) (us.drop n)
 | _, _, 0, r => r
 | _, _, _ + 1, .nil => .nil
 | _, _, n + 1, .cons _ t => Vals.drop n t
noncomputable def RelO : Option V → Option Value → Prop
 | some v, some u => RelV v u
 | none, none => True
 | _, _ => False
noncomputable def KV {κ : Type} : List (κ × V) → List (κ × Value) → Prop := Paired fun (p : κ × V) (q : κ × Value) => p.1 = q.1 ∧ RelV p.2 q.2
noncomputable def kV : Key → V
 | .inl i => .int i
 | .inr x => .str x
inductive HO where
 | lst (xs : List V)
 | tup (xs : List V)
 | dK (kvs : List (Key × V)) | dT (kvs : List (List Key × V))
 | set (S : Int → Bool) (n : Nat)
 | ins (C dx : Addr) (fs : List (Str × V))
 | own (x : Addr)
 | xd (fs : List (Str × V))
 | met (f x : Addr)
 | rng (lo hi : Int)
 | frz (o : Obj) (u : HO)
 | tbl (ps : Array Value)
 | ext (φ : Heap → Prop)
abbrev Hp := Addr → Option HO
noncomputable def upd (H : Hp) (a : Addr) (o : HO) : Hp := fun b => if b = a then some o else H b
theorem upd_same {H : Hp} {a : Addr} {o : HO} : upd H a o a = some o := by unfold upd; rw [if_pos rfl]
theorem upd_ne {H : Hp} {a b : Addr} {o : HO} (h : b ≠ a) : upd H a o b = H b := by unfold upd; rw [if_neg h]
theorem ne_of {H : Hp} {a b : Addr} {o u : HO} (h : H a = some o) (h' : H b = some u) (d : o ≠ u) : a ≠ b := by
 intro e; subst e; rw [h] at h'; exact d (Option.some.inj h')
theorem ne_of_none {H : Hp} {a b : Addr} {o : HO} (h : H a = some o) (h' : H b = none) : a ≠ b := by
 intro e; subst e; rw [h] at h'; cases h'
section
variable (P : Program) (w : World)
noncomputable def ObjOk (H : Hp) (h : Heap) (a : Addr) : HO → Prop
 | .lst xs => xs.length ≤ sizeLine ∧ ∃ (its : List Value) (n : Nat), Vals xs its ∧ h.get? a = some { cls := .type "list", data := .seq its.toArray n }
 | .tup xs => xs.length ≤ sizeLine ∧ ∃ its : List Value, Vals xs its ∧ IsTup h a its.toArray
 | .dK kvs => kvs.length ≤ sizeLine ∧ (a == sysModules) = false ∧ ∃ vs, KV kvs vs ∧ h.DictOf (mixKind P w) a vs
 | .dT kvs => kvs.length ≤ sizeLine ∧ (a == sysModules) = false ∧ ∃ xs : List (List Key × Addr × Value),
   Paired (fun (p : List Key × V) (q : List Key × Addr × Value) => p.1 = q.1 ∧ H q.2.1 = some (.tup (p.1.map kV)) ∧ RelV p.2 q.2.2) kvs xs ∧
   ∃ o es ep, h.get? a = some o ∧ o.ExactDict ∧ o.data = .dict es ep ∧ es.toList = xs.map (entryOfKey (tupleKind (mixKind P w))) ∧ (xs.map (·.1)).Nodup
 | .set S n => h.SetOf (intKind P w) a S n
 | .ins C dx fs => H dx = some (.own a) ∧ fs.length ≤ 1000 ∧ dx ≠ a ∧ h.get? a = some (PySem.W.instObj C dx) ∧
   ∃ mA, h.Ns1 dx mA ∧ (∀ f, RelO (fs.lookup f) (mA f)) ∧ PySem.Within mA (fs.map (·.1))
 | .own _ => ∃ o, h.get? a = some o
 | .xd fs => ∃ mA, h.Ns1 a mA ∧ ∀ f, RelO (fs.lookup f) (mA f)
 | .rng lo hi => ∃ t u v, h.get? a = some { cls := .type "range", data := .fields #[.int lo t, .int hi u, .int 1 v] }
 | .frz o u => h.get? a = some o ∧ ObjOk H h a u
 | .tbl ps => h.get? a = some { cls := .none, data := .fields ps }
 | .met f x => h.get? a = some (PySem.W.methodObj (.ref f) (.ref x))
 | .ext φ => φ h ∧ (∃ o, h.get? a = some o) ∧ ∀ h1 h2 : Heap, φ h1 → (∀ o, h1.get? a = some o → h2.get? a = some o) → φ h2
noncomputable def HOk (H : Hp) (h : Heap) : Prop := ∀ a o, H a = some o → ObjOk P w H h a o
end
section
variable {P : Program} {w : World} {H H' : Hp} {h h' : Heap} {a : Addr} {o : HO}
theorem ObjOk.lt (x : ObjOk P w H h a o) : a < h.objs.size := by
 cases o with
 | lst xs => obtain ⟨_, _, _, _, e⟩ := x; exact Heap.lt_size e
 | tup xs => obtain ⟨_, _, _, p⟩ := x; exact p.lt
 | dK kvs => obtain ⟨_, _, _, _, o, _, _, e, _⟩ := x; exact Heap.lt_size e
 | dT kvs => obtain ⟨_, _, _, _, o, _, _, e, _⟩ := x; exact Heap.lt_size e
 | set S n => obtain ⟨o, _, _, _, e, _⟩ := x; exact Heap.lt_size e
 | ins C dx fs => obtain ⟨_, _, _, e, _⟩ := x; exact Heap.lt_size e
 | own y => obtain ⟨_, e⟩ := x; exact Heap.lt_size e
 | xd fs => obtain ⟨_, ⟨_, _, _, e, _⟩, _⟩ := x; exact Heap.lt_size e
 | rng lo hi => obtain ⟨_, _, _, e⟩ := x; exact Heap.lt_size e
 | frz ob u => obtain ⟨e, _⟩ := x; exact Heap.lt_size e
 | tbl ps => exact Heap.lt_size (show h.get? a = some _ from x)
 | met f y => exact Heap.lt_size (show h.get? a = some _ from x)
 | ext φ => obtain ⟨_, ⟨_, e⟩, _⟩ := x; exact Heap.lt_size e
theorem Paired.mapP {α β : Type} {F G : α → β → Prop} : ∀ {l₁ : List α} {l₂ : List β}, Paired F l₁ l₂ → (∀ a b, F a b → G a b) → Paired G l₁ l₂ := by
 intro l₁ l₂ h f
 induction h with
 | nil => exact .nil
 | cons r t ih => exact .cons (f _ _ r) ih
theorem Paired.imp' {α β : Type} {F G : α → β → Prop} (f : ∀ a b, F a b → G a b) {l₁ : List α} {l₂ : List β} (r : Paired F l₁ l₂) : Paired G l₁ l₂ := Paired.mapP r f
theorem ObjOk.stay (x : ObjOk P w H h a o) (k : ∀ b u, (b = a ∨ H b = some (.own a)) → h.get? b = some u → h'.get? b = some u)
  (ho : ∀ b, H b = some (.own a) → H' b = some (.own a)) (ht : ∀ b xs, H b = some (.tup xs) → H' b = some (.tup xs)) : ObjOk P w H' h' a o := by
 induction o with
 | lst xs => obtain ⟨z, its, n, r, e⟩ := x; exact ⟨z, its, n, r, k _ _ (.inl rfl) e⟩
 | tup xs => obtain ⟨z, its, r, ob, e, c⟩ := x; exact ⟨z, its, r, ob, k _ _ (.inl rfl) e, c⟩
 | dK kvs => obtain ⟨z, y, vs, r, ob, es, ep, e, c⟩ := x; exact ⟨z, y, vs, r, ob, es, ep, k _ _ (.inl rfl) e, c⟩
 | dT kvs =>
  obtain ⟨z, y, xs, r, ob, es, ep, e, c⟩ := x
  exact ⟨z, y, xs, Paired.mapP r fun p q z => ⟨z.1, ht _ _ z.2.1, z.2.2⟩, ob, es, ep, k _ _ (.inl rfl) e, c⟩
 | set S n => obtain ⟨ob, es, ep, t, e, c⟩ := x; exact ⟨ob, es, ep, t, k _ _ (.inl rfl) e, c⟩
 | ins C dx fs =>
  obtain ⟨d, z, ne, e, mA, ⟨od, es, ep, e2, c⟩, r⟩ := x
  exact ⟨ho _ d, z, ne, k _ _ (.inl rfl) e, mA, ⟨od, es, ep, k _ _ (.inr d) e2, c⟩, r⟩
 | own y => obtain ⟨ob, e⟩ := x; exact ⟨ob, k _ _ (.inl rfl) e⟩
 | xd fs => obtain ⟨mA, ⟨od, es, ep, e, c⟩, r⟩ := x; exact ⟨mA, ⟨od, es, ep, k _ _ (.inl rfl) e, c⟩, r⟩
 | rng lo hi => obtain ⟨t, u, v, e⟩ := x; exact ⟨t, u, v, k _ _ (.inl rfl) e⟩
 | frz ob u ih => obtain ⟨e, q⟩ := x; exact ⟨k _ _ (.inl rfl) e, ih q⟩
 | tbl ps =>
  have e : h.get? a = some { cls := .none, data := .fields ps } := x
  show h'.get? a = some { cls := .none, data := .fields ps }
  exact k a _ (.inl rfl) e
 | met f y =>
  have e : h.get? a = some (PySem.W.methodObj (.ref f) (.ref y)) := x
  show h'.get? a = some (PySem.W.methodObj (.ref f) (.ref y))
  exact k a _ (.inl rfl) e
 | ext φ => obtain ⟨p, ⟨o, e⟩, st⟩ := x; exact ⟨st _ _ p fun o q => k _ _ (.inl rfl) q, ⟨o, k _ _ (.inl rfl) e⟩, st⟩
theorem HOk.lt (x : HOk P w H h) (e : H a = some o) : a < h.objs.size := (x a o e).lt
theorem HOk.fresh (x : HOk P w H h) (e : h.objs.size ≤ a) : H a = none := by
 cases q : H a with
 | none => rfl
 | some u => exact absurd (Nat.lt_of_lt_of_le (x.lt q) e) (Nat.lt_irrefl _)
theorem HOk.kept (x : HOk P w H h) (k : ∀ b u, h.get? b = some u → h'.get? b = some u) : HOk P w H h' := fun a o e =>
 (x a o e).stay (fun b u _ q => k b u q) (fun _ q => q) fun _ _ q => q
theorem HOk.laid (x : HOk P w H h) (k : ∀ b u, h.get? b = some u → h'.get? b = some u) (hp : h.objs.size ≤ a) (new : ObjOk P w (upd H a o) h' a o) : HOk P w (upd H a o) h' := fun b u e => by
 have hn := x.fresh hp
 by_cases hb : b = a
 ·subst hb; rw [upd_same] at e; cases e; exact new
 ·rw [upd_ne hb] at e
  exact (x b u e).stay (fun c v _ q => k c v q) (fun c q => by rw [upd_ne (ne_of_none q hn)]; exact q) fun c xs q => by rw [upd_ne (ne_of_none q hn)]; exact q
end
noncomputable def Rd (H : Hp) (a : Addr) (u : HO) : Prop := H a = some u ∨ ∃ o, H a = some (.frz o u)
theorem Rd.of {H : Hp} {a : Addr} {u : HO} (h : H a = some u) : Rd H a u := .inl h
theorem Rd.ok {P : Program} {w : World} {H : Hp} {h : Heap} {a : Addr} {u : HO} (r : Rd H a u) (x : HOk P w H h) : ObjOk P w H h a u := by
 rcases r with r | ⟨o, r⟩
 ·exact x a u r
 ·obtain ⟨_, q⟩ := x a _ r
  exact q
noncomputable def Mut : Option HO → Prop
 | some (.lst _) => True
 | some (.dK _) => True
 | some (.dT _) => True
 | some (.set _ _) => True
 | some (.ins _ _ _) => True
 | some (.ext _) => True
 | _ => False
section
variable {P : Program} {w : World} {H : Hp} {h h' : Heap} {x e : Addr} {o' : HO}
theorem HOk.write (ok : HOk P w H h) (mu : Mut (H x)) (he : e = x ∨ H e = some (.own x)) (k : ∀ b u, b ≠ e → h.get? b = some u → h'.get? b = some u) (heo : ∃ u, h'.get? e = some u)
  (new : ObjOk P w (upd H x o') h' x o') : HOk P w (upd H x o') h' := fun b u q => by
 have nown : ∀ c y, H c = some (.own y) → c ≠ x := fun c y r z => by subst z; rw [r] at mu; exact mu
 have ntup : ∀ c xs, H c = some (.tup xs) → c ≠ x := fun c xs r z => by subst z; rw [r] at mu; exact mu
 by_cases hb : b = x
 ·subst hb; rw [upd_same] at q; cases q; exact new
 ·rw [upd_ne hb] at q
  by_cases hbe : b = e
  ·have q' : H b = some (.own x) := by
    rcases he with z | z
    ·exact absurd (hbe.trans z) hb
    ·rw [hbe]; exact z
   rw [q] at q'; cases q'
   obtain ⟨v, hv⟩ := heo
   exact ⟨v, by rw [hbe]; exact hv⟩
  ·refine (ok b u q).stay (fun c v hc r => k c v ?_ r) (fun c r => by rw [upd_ne (nown c b r)]; exact r) fun c xs r => by rw [upd_ne (ntup c xs r)]; exact r
   rcases hc with rfl | hc
   ·exact hbe
   ·rintro rfl
    rcases he with z | z
    ·exact nown c b hc z
    ·rw [hc] at z; cases z; exact hb rfl
end
structure Un (fs ex : List Addr) (H H' : Hp) (h h' : Heap) : Prop where
 keep : ∀ b o, h.get? b = some o → H b = none → b ∉ fs → b ∉ ex → h'.get? b = some o
 slot : ∀ b o, h.get? b = some o → H b = none → b ∈ fs → b ∉ ex → ∃ sl, h'.get? b = some { o with slots := sl }
 free : ∀ b o, h.get? b = some o → H b = none → b ∉ ex → H' b = none
 there : ∀ b o, h.get? b = some o → b ∉ ex → ∃ o', h'.get? b = some o'
 tups : ∀ b xs, H b = some (.tup xs) → H' b = some (.tup xs)
 frzs : ∀ b o u, H b = some (.frz o u) → H' b = some (.frz o u)
 tbls : ∀ b ps, H b = some (.tbl ps) → ∃ more, H' b = some (.tbl (ps ++ more))
section
variable {fs fs' ex ex' : List Addr} {H H1 H2 : Hp} {h h1 h2 h' : Heap} {a x e : Addr} {o : HO}
theorem Un.any (u : Un fs ex H H1 h h1) {b : Addr} {ob : Obj} (q : h.get? b = some ob) (n : H b = none) (hx : b ∉ ex) : ∃ sl, h1.get? b = some { ob with slots := sl } := by
 by_cases hb : b ∈ fs
 ·exact u.slot b ob q n hb hx
 ·exact ⟨ob.slots, u.keep b ob q n hb hx⟩
theorem Un.trans (a : Un fs ex H H1 h h1) (b : Un fs ex H1 H2 h1 h2) : Un fs ex H H2 h h2 where
 keep := fun c ob q n hc hx => b.keep c ob (a.keep c ob q n hc hx) (a.free c ob q n hx) hc hx
 slot := fun c ob q n hc hx => by
  obtain ⟨sl, e1⟩ := a.slot c ob q n hc hx
  obtain ⟨sl', e2⟩ := b.slot c _ e1 (a.free c ob q n hx) hc hx
  exact ⟨sl', e2⟩
 free := fun c ob q n hx => by
  obtain ⟨o', e1⟩ := a.there c ob q hx
  exact b.free c o' e1 (a.free c ob q n hx) hx
 there := fun c ob q hx => by
  obtain ⟨o', e1⟩ := a.there c ob q hx
  exact b.there c o' e1 hx
 tups := fun c xs q => b.tups c xs (a.tups c xs q)
 frzs := fun c ob xs q => b.frzs c ob xs (a.frzs c ob xs q)
 tbls := fun c ps q => by
  obtain ⟨m1, e1⟩ := a.tbls c ps q
  obtain ⟨m2, e2⟩ := b.tbls c _ e1
  exact ⟨m1 ++ m2, by rw [e2, Array.append_assoc]⟩
theorem Un.kept (k : ∀ b u, h.get? b = some u → h'.get? b = some u) : Un fs ex H H h h' :=
 ⟨fun b ob q _ _ _ => k b ob q, fun b ob q _ _ _ => ⟨ob.slots, k b ob q⟩, fun _ _ _ n _ => n, fun b ob q _ => ⟨ob, k b ob q⟩, fun _ _ q => q, fun _ _ _ q => q, fun _ ps q => ⟨#[], by rw [q]; simp⟩⟩
theorem Un.refl : Un fs ex H H h h := Un.kept fun _ _ q => q
theorem Un.laid (k : ∀ b u, h.get? b = some u → h'.get? b = some u) (hp : h.objs.size ≤ a) (hn : H a = none) : Un fs ex H (upd H a o) h h' where
 keep := fun b u q _ _ _ => k b u q
 slot := fun b u q _ _ _ => ⟨u.slots, k b u q⟩
 free := fun b u q n _ => by rw [upd_ne (Nat.ne_of_lt (Nat.lt_of_lt_of_le (Heap.lt_size q) hp))]; exact n
 there := fun b u q _ => ⟨u, k b u q⟩
 tups := fun b xs q => by rw [upd_ne (ne_of_none q hn)]; exact q
 frzs := fun b u xs q => by rw [upd_ne (ne_of_none q hn)]; exact q
 tbls := fun b ps q => ⟨#[], by rw [upd_ne (ne_of_none q hn), q]; simp⟩
theorem Un.write (mu : Mut (H x)) (he : e = x ∨ H e = some (.own x)) (k : ∀ b u, b ≠ e → h.get? b = some u → h'.get? b = some u) (heo : ∃ u, h'.get? e = some u) : Un fs ex H (upd H x o) h h' := by
 have hx : ∀ b, H b = none → b ≠ x := fun b n z => by subst z; rw [n] at mu; exact mu
 have hb : ∀ b, H b = none → b ≠ e := fun b n z => by
  subst z
  rcases he with r | r
  ·exact hx b n r
  ·rw [n] at r; cases r
 have hm : ∀ b u, H b = some u → ¬ Mut (some u) → b ≠ x := fun b u q nm z => by subst z; rw [q] at mu; exact nm mu
 refine ⟨fun b u q n _ _ => k b u (hb b n) q, fun b u q n _ _ => ⟨u.slots, k b u (hb b n) q⟩, fun b u q n _ => by rw [upd_ne (hx b n)]; exact n, fun b u q _ => ?_,
  fun b xs q => by rw [upd_ne (hm b _ q fun z => z)]; exact q, fun b u xs q => by rw [upd_ne (hm b _ q fun z => z)]; exact q, fun b ps q => ⟨#[], by rw [upd_ne (hm b _ q fun z => z), q]; simp⟩⟩
 by_cases hbe : b = e
 ·subst hbe; exact heo
 ·exact ⟨u, k b u hbe q⟩
theorem Un.mono (u : Un fs ex H H1 h h1) (hs : ∀ b ∈ fs, b ∈ fs') (hx : ∀ b ∈ ex, b ∈ ex') : Un fs' ex' H H1 h h1 :=
 ⟨fun b ob q n hb he => u.keep b ob q n (fun z => hb (hs b z)) fun z => he (hx b z), fun _ _ q n _ he => u.any q n fun z => he (hx _ z), fun b ob q n he => u.free b ob q n fun z => he (hx b z), fun b ob q he => u.there b ob q fun z => he (hx b z), u.tups, u.frzs, u.tbls⟩
end
noncomputable def trk (h : Heap) (H : Hp) : List Addr := (List.range h.objs.size).filter fun a => (H a).isSome
noncomputable def hidT (h : Heap) (H : Hp) : Heap := PySem.W.hideAll h (trk h H)
theorem hidT_size (h : Heap) (H : Hp) : (hidT h H).objs.size = h.objs.size := PySem.W.hideAll_size _ _
theorem hidT_get {h : Heap} {H : Hp} {b : Addr} {o : Obj} (e : h.get? b = some o) (n : H b = none) : (hidT h H).get? b = some o :=
 PySem.W.hideAll_get _ e fun hm => by
  have q : (H b).isSome = true := (List.mem_filter.mp hm).2
  rw [n] at q; simp at q
theorem of_hidT {h : Heap} {H : Hp} {b : Addr} {o : Obj} (e : (hidT h H).get? b = some o) : h.get? b = some o ∧ H b = none := by
 have e' : h.get? b = some o := PySem.W.of_hideAll (trk h H) e
 refine ⟨e', ?_⟩
 cases q : H b with
 | none => rfl
 | some x =>
  have hm : b ∈ trk h H := List.mem_filter.mpr ⟨List.mem_range.mpr (Heap.lt_size e'), by simp [q]⟩
  have z : (hidT h H).get? b = none := PySem.W.hideAll_none (trk h H) hm
  rw [z] at e; cases e
noncomputable def allNews (g h : Heap) (L : Addr) : List (Addr × Obj) := (List.range h.objs.size).filterMap fun a => if a = L ∨ (g.get? a).isSome = true then none else (h.get? a).map fun o => (a, o)
noncomputable def rest (g h : Heap) (L d : Addr) : List (Addr × Obj) := (allNews g h L).filter fun p => decide (p.1 ≠ d)
end L2
namespace L2
open PySem PySem.Spec PyProof.Rows
structure Mod (K : PySem.W.Frag) (mg : Str → Option Value) (base : Heap) : Prop where
 kin : K.In base
 glob : base.Ns mainGlobals mg
 blt : ∃ mb, base.Ns builtinsNs mb ∧ ∀ x : Str, x ≠ "__name__" → mb x = bootBuiltins x
 nolimit : base.NoLimit
structure Cx where
 prog : Program
 w : World
 K : PySem.W.Frag
 mg : Str → Option Value
 base : Heap
 A : Around
 N : List Str
 s₀ : Shared
 H₀ : Hp
 env : Env
 outer : List Env
 stack : List Env
 ex : List Addr
 fn : Str → Bool
 calm : Bool
 pn : List (Addr × Obj)
 xe : Value → Shared → Prop
noncomputable def frs (l : List Env) : List Addr := l.filterMap (·.frame)
abbrev Cx.fs (X : Cx) : List Addr := frs X.outer
noncomputable def Vis (sc : Scope) (x : Str) : Prop := sc.names.lookup x = some .local ∨ sc.names.lookup x = some .cell ∨ sc.names.lookup x = some .free
noncomputable def Loc (sc : Scope) (x : Str) : Prop := sc.names.lookup x = some .local ∨ sc.names.lookup x = some .cell
noncomputable def Look (env : Env) (h : Heap) (m : Str → Option Value) (x : Str) (u : Value) : Prop :=
 (env.kindOf x = some .local ∧ m x = some u) ∨ ((env.kindOf x = some .cell ∨ env.kindOf x = some .free) ∧ ∃ c, env.cells.lookup x = some c ∧ h.IsCell c (some u))
structure Cx.Ok (X : Cx) : Prop where
 mod : Mod X.K X.mg X.base
 kind : X.env.scope.kind = .function
 glob : X.env.globals = mainGlobals
 blt : X.env.builtins = builtinsNs
 above : X.s₀.heap.objs.size ≤ X.env.locals
 inj : ∀ x y c, X.env.cells.lookup x = some c → X.env.cells.lookup y = some c → x = y
 has : ∀ x, (X.env.kindOf x = some .cell ∨ X.env.kindOf x = some .free) → ∃ c, X.env.cells.lookup x = some c
 cab : ∀ x c, X.fn x = true → X.env.cells.lookup x = some c → X.s₀.heap.objs.size ≤ c
 hd : X.calm = true → X.A.handled = none
 frames : X.A.frames = some X.stack
 stk : X.stack = X.outer ∨ (X.stack = X.env :: X.outer ∧ X.env.frame = some X.env.locals)
 exf : ∀ b ∈ X.ex, b ≠ X.env.locals ∧ ∀ x c, X.env.cells.lookup x = some c → c ≠ b
 bs : ∀ b o, X.base.get? b = some o → X.s₀.heap.get? b = some o ∧ X.H₀ b = none
 bsz : X.base.objs.size ≤ X.s₀.heap.objs.size
 noex : ∀ b o, X.base.get? b = some o → b ∉ X.ex
 exfs : ∀ b ∈ X.ex, b ∉ X.fs
 funs : X.s₀.heap.FunFrames X.base X.outer
 frf : ∀ b ∈ X.fs, X.H₀ b = none
structure Inv (X : Cx) (pins : List (Addr × Obj)) (σ : List (Option V)) (H : Hp) (s : Shared) : Prop where
 ok : X.Ok
 os : s.os = X.s₀.os
 bare : AllBare s.gens
 base : Un X.fs X.ex X.H₀ H X.s₀.heap s.heap
 loc : ∃ m, s.heap.Ns X.env.locals m ∧ ∀ (i : Nat) (x : Str) (v : V), X.N[i]? = some x → σ[i]? = some (some v) → Vis X.env.scope x → ∃ u, RelV v u ∧ Look X.env s.heap m x u
 cell : ∀ x c, X.env.cells.lookup x = some c → ∃ v, s.heap.IsCell c v
 free : H X.env.locals = none
 freeC : ∀ x c, X.env.cells.lookup x = some c → H c = none
 pin : ∀ p ∈ X.pn ++ pins, s.heap.get? p.1 = some p.2 ∧ H p.1 = none ∧ p.1 ≠ X.env.locals ∧ p.1 ∉ X.fs ∧ ∀ v, p.2.data ≠ .cell v
 hok : HOk X.prog X.w H s.heap
 len : σ.length = X.N.length
section
variable {X : Cx} {pins : List (Addr × Obj)} {σ : List (Option V)} {H H' : Hp} {s : Shared} {h' : Heap}
theorem Cx.Ok.nofr (ok : X.Ok) {b : Addr} {o : Obj} (e : X.base.get? b = some o) : b ∉ X.fs := fun hb => by
 have := (ok.funs.mem hb).1
 rw [e] at this; cases this
theorem Inv.bs (I : Inv X pins σ H s) : ∀ b o, X.base.get? b = some o → s.heap.get? b = some o ∧ H b = none := fun b o e =>
 ⟨I.base.keep b o (I.ok.bs b o e).1 (I.ok.bs b o e).2 (I.ok.nofr e) (I.ok.noex b o e), I.base.free b o (I.ok.bs b o e).1 (I.ok.bs b o e).2 (I.ok.noex b o e)⟩
theorem Inv.bk (I : Inv X pins σ H s) : ∀ b o, X.base.get? b = some o → s.heap.get? b = some o := fun b o e => (I.bs b o e).1
theorem Inv.mod (I : Inv X pins σ H s) : Mod X.K X.mg X.base := I.ok.mod
theorem Inv.kIn (I : Inv X pins σ H s) : X.K.In s.heap := I.ok.mod.kin.keeps I.bk
theorem Inv.nolimit (I : Inv X pins σ H s) : s.heap.NoLimit := I.ok.mod.nolimit.keeps I.bk
theorem Inv.fr (I : Inv X pins σ H s) : ∃ m, Fr X.base X.env.locals s.heap m :=
 let ⟨m, hn, _⟩ := I.loc
 ⟨m, hn, I.bk, Nat.le_trans I.ok.bsz I.ok.above⟩
theorem Inv.lt (I : Inv X pins σ H s) : X.env.locals < s.heap.objs.size := let ⟨_, hn, _⟩ := I.loc; hn.lt
theorem Inv.sz (I : Inv X pins σ H s) : X.s₀.heap.objs.size ≤ s.heap.objs.size := Nat.le_trans I.ok.above (Nat.le_of_lt I.lt)
theorem Inv.nofs (I : Inv X pins σ H s) {a : Addr} (h : s.heap.objs.size ≤ a) : a ∉ X.fs := fun hb => by
 obtain ⟨_, o, ho, _⟩ := I.ok.funs.mem hb
 exact absurd (Nat.lt_of_lt_of_le (Heap.lt_size ho) (Nat.le_trans I.sz h)) (Nat.lt_irrefl _)
theorem Inv.cne (I : Inv X pins σ H s) : ∀ x c, X.env.cells.lookup x = some c → c ≠ X.env.locals := fun x c e z => by
 obtain ⟨v, o, ho, hd⟩ := I.cell x c e
 obtain ⟨m, ⟨o', es, ep, ho', hd', _⟩, _⟩ := I.loc
 rw [z, ho'] at ho; cases ho; rw [hd'] at hd; cases hd
theorem Inv.funs (I : Inv X pins σ H s) : s.heap.FunFrames X.base X.outer := by
 have all : ∀ (l : List Env), (∀ b ∈ frs l, b ∈ X.fs) → X.s₀.heap.FunFrames X.base l → s.heap.FunFrames X.base l := by
  intro l
  induction l with
  | nil => intro _ _; trivial
  | cons env r ih =>
   intro hs hl
   obtain ⟨hk, ⟨L, o, hf, hn, ho, hd⟩, hr⟩ := hl
   have hL : L ∈ X.fs := hs L (by unfold frs; rw [List.filterMap_cons, hf]; exact List.mem_cons_self)
   obtain ⟨sl, e⟩ := I.base.slot L o ho (I.ok.frf L hL) hL fun z => I.ok.exfs L z hL
   exact ⟨hk, ⟨L, _, hf, hn, e, hd⟩, ih (fun b hb => hs b (by unfold frs; rw [List.filterMap_cons, hf]; exact List.mem_cons_of_mem _ hb)) hr⟩
 exact all X.outer (fun _ hb => hb) I.ok.funs
theorem Inv.stack (I : Inv X pins σ H s) : s.heap.FunFrames X.base X.stack := by
 rcases I.ok.stk with e | ⟨e, hf⟩
 ·rw [e]; exact I.funs
 ·rw [e]
  obtain ⟨m, hn, _⟩ := I.loc
  refine .cons (by rw [I.ok.kind]; decide) hf hn ?_ I.funs
  exact Heap.get?_none_of_le (Nat.le_trans I.ok.bsz I.ok.above)
theorem Inv.stkSub (I : Inv X pins σ H s) : ∀ b ∈ frs X.stack, b ∈ X.env.locals :: X.fs := fun b hb => by
 rcases I.ok.stk with e | ⟨e, hf⟩
 ·rw [e] at hb; exact List.mem_cons_of_mem _ hb
 ·rw [e] at hb
  unfold frs at hb
  rw [List.filterMap_cons, hf] at hb
  exact hb
theorem Inv.stkFree (I : Inv X pins σ H s) : ∀ b ∈ frs X.stack, H b = none := fun b hb => by
 rcases List.mem_cons.mp (I.stkSub b hb) with e | hb
 ·rw [e]; exact I.free
 ·obtain ⟨_, o, ho, _⟩ := I.ok.funs.mem hb
  exact I.base.free b o ho (I.ok.frf b hb) fun z => I.ok.exfs b z hb
theorem Inv.step {g' : Array GenState} {t' : Nat} {d' : Drawn} {ch : List Addr} (I : Inv X pins σ H s)
  (hch : ∀ b ∈ ch, (b ∈ X.ex ∨ X.s₀.heap.objs.size ≤ b) ∧ b ≠ X.env.locals ∧ (∀ x c, X.env.cells.lookup x = some c → c ≠ b) ∧ ∀ p ∈ X.pn ++ pins, p.1 ≠ b)
  (keep : ∀ b o, b ≠ X.env.locals → b ∉ X.fs → b ∉ ch → s.heap.get? b = some o → H b = none → h'.get? b = some o)
  (slot : ∀ b o, b ≠ X.env.locals → b ∈ X.fs → b ∉ ch → s.heap.get? b = some o → H b = none → ∃ sl, h'.get? b = some { o with slots := sl }) (free : ∀ b o, b ∉ ch → s.heap.get? b = some o → H b = none → H' b = none)
  (there : ∀ b o, b ∉ ch → s.heap.get? b = some o → ∃ o', h'.get? b = some o')
  (tups : ∀ b xs, H b = some (.tup xs) → H' b = some (.tup xs)) (frzs : ∀ b o u, H b = some (.frz o u) → H' b = some (.frz o u)) (tbls : ∀ b ps, H b = some (.tbl ps) → ∃ more, H' b = some (.tbl (ps ++ more)))
  (ns : ∀ m, s.heap.Ns X.env.locals m → h'.Ns X.env.locals m) (hok : HOk X.prog X.w H' h') (hg : AllBare g') :
  Inv X pins σ H' { s with heap := h', gens := g', drawn := d', toks := t' } := by
 have neL : ∀ b o, X.s₀.heap.get? b = some o → b ≠ X.env.locals := fun b o e => Nat.ne_of_lt (Nat.lt_of_lt_of_le (Heap.lt_size e) I.ok.above)
 have neC : ∀ b o, X.s₀.heap.get? b = some o → b ∉ X.ex → b ∉ ch := fun b o e hx hb => by
  rcases (hch b hb).1 with z | z
  ·exact hx z
  ·exact absurd (Nat.lt_of_lt_of_le (Heap.lt_size e) z) (Nat.lt_irrefl _)
 have cellK : ∀ x c, X.env.cells.lookup x = some c → ∀ v, s.heap.IsCell c v → h'.IsCell c v := fun x c e v ⟨o, ho, hd⟩ => by
  have nch : c ∉ ch := fun z => (hch c z).2.2.1 x c e rfl
  by_cases hc : c ∈ X.fs
  ·obtain ⟨sl, q⟩ := slot c o (I.cne x c e) hc nch ho (I.freeC x c e)
   exact ⟨_, q, hd⟩
  ·exact ⟨o, keep c o (I.cne x c e) hc nch ho (I.freeC x c e), hd⟩
 refine ⟨I.ok, I.os, hg, ⟨fun b o e n hb hx => ?_, fun b o e n hb hx => ?_, fun b o e n hx => ?_, fun b o e hx => ?_, fun b xs e => tups b xs (I.base.tups b xs e), fun b o xs e => frzs b o xs (I.base.frzs b o xs e), fun b ps e => ?_⟩, ?_, fun x c e => ?_, ?_, fun x c e => ?_, fun p hp => ?_, hok, I.len⟩
 ·exact keep b o (neL b o e) hb (neC b o e hx) (I.base.keep b o e n hb hx) (I.base.free b o e n hx)
 ·obtain ⟨sl, e1⟩ := I.base.slot b o e n hb hx
  obtain ⟨sl', e2⟩ := slot b _ (neL b o e) hb (neC b o e hx) e1 (I.base.free b o e n hx)
  exact ⟨sl', e2⟩
 ·obtain ⟨o', e1⟩ := I.base.there b o e hx
  exact free b o' (neC b o e hx) e1 (I.base.free b o e n hx)
 ·obtain ⟨o', e1⟩ := I.base.there b o e hx
  exact there b o' (neC b o e hx) e1
 ·obtain ⟨m1, e1⟩ := I.base.tbls b ps e
  obtain ⟨m2, e2⟩ := tbls b _ e1
  exact ⟨m1 ++ m2, by rw [e2, Array.append_assoc]⟩
 ·obtain ⟨m, hn, hl⟩ := I.loc
  refine ⟨m, ns m hn, fun i x v e1 e2 e3 => ?_⟩
  obtain ⟨u, r, l⟩ := hl i x v e1 e2 e3
  refine ⟨u, r, ?_⟩
  rcases l with l | ⟨k, c, e, z⟩
  ·exact .inl l
  ·exact .inr ⟨k, c, e, cellK x c e _ z⟩
 ·obtain ⟨v, z⟩ := I.cell x c e
  exact ⟨v, cellK x c e v z⟩
 ·obtain ⟨m, ⟨o, _, _, ho, _⟩, _⟩ := I.loc
  exact free _ o (fun z => (hch _ z).2.1 rfl) ho I.free
 ·obtain ⟨v, o, ho, hd⟩ := I.cell x c e
  exact free c o (fun z => (hch c z).2.2.1 x c e rfl) ho (I.freeC x c e)
 ·obtain ⟨e, n, ne, nf, d⟩ := I.pin p hp
  have nch : p.1 ∉ ch := fun z => (hch p.1 z).2.2.2 p hp rfl
  exact ⟨keep p.1 p.2 ne nf nch e n, free p.1 p.2 nch e n, ne, nf, d⟩
theorem Inv.un {t' : Nat} (I : Inv X pins σ H s) (u : Un X.fs [] H H' s.heap h') (hok : HOk X.prog X.w H' h') : Inv X pins σ H' { s with heap := h', toks := t' } := by
 obtain ⟨m, ⟨o, es, ep, ho, r⟩, _⟩ := id I.loc
 obtain ⟨sl, hL⟩ := u.any ho I.free (by simp)
 exact I.step (g' := s.gens) (d' := s.drawn) (ch := []) (fun _ z => nomatch z) (fun b o _ hb _ e n => u.keep b o e n hb (by simp)) (fun b o _ hb _ e n => u.slot b o e n hb (by simp)) (fun b o _ e n => u.free b o e n (by simp)) (fun b o _ e => u.there b o e (by simp)) u.tups u.frzs u.tbls (fun m' hm => by
  obtain ⟨o', es', ep', ho', r'⟩ := hm
  rw [ho] at ho'; cases ho'
  exact ⟨_, es', ep', hL, r'⟩) hok I.bare
theorem Inv.call {g' : Array GenState} {t' : Nat} {d' : Drawn} {ch : List Addr} (I : Inv X pins σ H s) (u : Un (frs X.stack) ch H H' s.heap h') (hok : HOk X.prog X.w H' h') (hg : AllBare g')
  (hch : ∀ b ∈ ch, (b ∈ X.ex ∨ X.s₀.heap.objs.size ≤ b) ∧ b ≠ X.env.locals ∧ (∀ x c, X.env.cells.lookup x = some c → c ≠ b) ∧ ∀ p ∈ X.pn ++ pins, p.1 ≠ b) :
  Inv X pins σ H' { s with heap := h', gens := g', drawn := d', toks := t' } := by
 obtain ⟨m, ⟨o, es, ep, ho, r⟩, _⟩ := id I.loc
 obtain ⟨sl, hL⟩ := u.any ho I.free fun z => (hch _ z).2.1 rfl
 exact I.step (ch := ch) hch (fun b o hL hb hc e n => u.keep b o e n (fun z => (List.mem_cons.mp (I.stkSub b z)).elim hL hb) hc) (fun b o _ _ hc e n => u.any e n hc) (fun b o hc e n => u.free b o e n hc) (fun b o hc e => u.there b o e hc) u.tups u.frzs u.tbls (fun m' hm => by
  obtain ⟨o', es', ep', ho', r'⟩ := hm
  rw [ho] at ho'; cases ho'
  exact ⟨_, es', ep', hL, r'⟩) hok hg
theorem Inv.turned {t' : Nat} {it : Addr} (I : Inv X pins σ H s) (k : ∀ b o, b ≠ it → s.heap.get? b = some o → h'.get? b = some o) (hn : H it = none) (hL : it ≠ X.env.locals)
  (h1 : it ∈ X.ex ∨ X.s₀.heap.objs.size ≤ it) (h2 : ∀ x c, X.env.cells.lookup x = some c → c ≠ it) (h3 : ∀ p ∈ X.pn ++ pins, p.1 ≠ it) : Inv X pins σ H { s with heap := h', toks := t' } := by
 have nit : ∀ b u, H b = some u → b ≠ it := fun b u e z => by rw [z, hn] at e; cases e
 refine I.step (g' := s.gens) (d' := s.drawn) (ch := [it]) (fun b hb => ?_) (fun b o _ _ hc e _ => k b o (fun z => hc (by simp [z])) e) (fun b o _ _ hc e _ => ⟨o.slots, k b o (fun z => hc (by simp [z])) e⟩) (fun _ _ _ _ n => n)
  (fun b o hc e => ⟨o, k b o (fun z => hc (by simp [z])) e⟩) (fun _ _ e => e) (fun _ _ _ e => e) (fun b ps e => ⟨#[], by rw [e]; simp⟩) (fun m hm => ?_) (fun b u e => ?_) I.bare
 ·have e : b = it := by simpa using hb
  subst e
  exact ⟨h1, hL, h2, h3⟩
 ·obtain ⟨o, es, ep, ho, r⟩ := hm
  exact ⟨o, es, ep, k _ o (Ne.symm hL) ho, r⟩
 ·refine (I.hok b u e).stay (fun c v hc q => k c v ?_ q) (fun _ q => q) fun _ _ q => q
  rcases hc with z | z
  ·rw [z]; exact nit b u e
  ·exact nit c _ z
theorem Inv.tok (I : Inv X pins σ H s) (t : Nat) : Inv X pins σ H { s with toks := t } := I.un (h' := s.heap) (t' := t) Un.refl I.hok
theorem Inv.kept {t' : Nat} (I : Inv X pins σ H s) (k : ∀ b u, s.heap.get? b = some u → h'.get? b = some u) : Inv X pins σ H { s with heap := h', toks := t' } := I.un (Un.kept k) (I.hok.kept k)
theorem Inv.laid {a : Addr} {o : HO} {t' : Nat} (I : Inv X pins σ H s) (k : ∀ b u, s.heap.get? b = some u → h'.get? b = some u) (hp : s.heap.objs.size ≤ a) (new : ObjOk X.prog X.w (upd H a o) h' a o) :
  Inv X pins σ (upd H a o) { s with heap := h', toks := t' } := I.un (Un.laid k hp (I.hok.fresh hp)) (I.hok.laid k hp new)
theorem Inv.write {x e : Addr} {o : HO} {t' : Nat} (I : Inv X pins σ H s) (mu : Mut (H x)) (he : e = x ∨ H e = some (.own x)) (k : ∀ b u, b ≠ e → s.heap.get? b = some u → h'.get? b = some u) (heo : ∃ u, h'.get? e = some u)
  (new : ObjOk X.prog X.w (upd H x o) h' x o) : Inv X pins σ (upd H x o) { s with heap := h', toks := t' } := I.un (Un.write mu he k heo) (I.hok.write mu he k heo new)
theorem Inv.pins_of {pins' : List (Addr × Obj)} (I : Inv X pins σ H s) (h : ∀ p ∈ pins', s.heap.get? p.1 = some p.2 ∧ H p.1 = none ∧ p.1 ≠ X.env.locals ∧ p.1 ∉ X.fs ∧ ∀ v, p.2.data ≠ .cell v) : Inv X pins' σ H s :=
 ⟨I.ok, I.os, I.bare, I.base, I.loc, I.cell, I.free, I.freeC, fun p hp => (List.mem_append.mp hp).elim (fun z => I.pin p (List.mem_append_left _ z)) (h p), I.hok, I.len⟩
theorem nodup_ix {N : List Str} (hN : N.Nodup) {i j : Nat} {x : Str} (a : N[i]? = some x) (b : N[j]? = some x) : i = j := by
 obtain ⟨h1, e1⟩ := List.getElem?_eq_some_iff.mp a
 obtain ⟨h2, e2⟩ := List.getElem?_eq_some_iff.mp b
 exact (List.getElem_inj hN).mp (e1.trans e2.symm)
theorem store_ok2 {M : Model} {A : Around} {E : Value → Shared → Prop} {i : Nat} {x : Str} {v : V} {u : Value} {Q : Unit → Shared → Prop} (I : Inv X pins σ H s) (hN : X.N.Nodup) (hi : X.N[i]? = some x) (hx : Loc X.env.scope x) (r : RelV v u)
  (h : ∀ s', Inv X pins (σ.set i (some v)) H s' → (∃ a, Heap.SameBut a s.heap s'.heap ∧ (a = X.env.locals ∨ X.env.cells.lookup x = some a)) → Q () s') (hf : X.fn x = true ∨ X.env.scope.names.lookup x = some .local := by first | exact .inl rfl | exact .inr rfl | assumption) : wpAny M A (storeName X.env x u) Q E s := by
 obtain ⟨m, hn, hl⟩ := id I.loc
 have hcls : (X.env.scope.kind == .class || (X.env.scope.kind == .module && X.env.locals != X.env.globals)) = false := by rw [I.ok.kind]; rfl
 have hiσ : i < σ.length := by rw [I.len]; exact (List.getElem?_eq_some_iff.mp hi).1
 have cne := I.cne
 have tracked : ∀ {a : Addr} {h' : Heap}, (∃ o, s.heap.get? a = some o ∧ H a = none) → Heap.SameBut a s.heap h' → HOk X.prog X.w H h' := fun {a h'} ha hs b ob e => by
  obtain ⟨_, _, hfree⟩ := ha
  refine (I.hok b ob e).stay (fun c w' hc q => (hs.2 c ?_).trans q) (fun _ q => q) fun _ _ q => q
  rintro rfl
  rcases hc with rfl | hc
  ·rw [hfree] at e; cases e
  ·rw [hfree] at hc; cases hc
 rcases hx with hk | hk
 ·refine wpAny_storeName_local hk hn (fun h' hn' hs => ?_) hcls
  obtain ⟨oL, _, _, hoL, _⟩ := id hn
  refine h _ ⟨I.ok, I.os, I.bare, ⟨fun b o e n hb hx => ?_, fun b o e n hb hx => ?_, I.base.free, fun b o e hx => ?_, I.base.tups, I.base.frzs, I.base.tbls⟩, ⟨_, hn', fun j y v' e1 e2 e3 => ?_⟩, fun y c e => ?_, I.free, I.freeC, fun p hp => ?_, tracked ⟨oL, hoL, I.free⟩ hs, by simpa using I.len⟩ ⟨_, hs, .inl rfl⟩
  ·exact (hs.2 b (Nat.ne_of_lt (Nat.lt_of_lt_of_le (Heap.lt_size e) I.ok.above))).trans (I.base.keep b o e n hb hx)
  ·obtain ⟨sl, e1⟩ := I.base.slot b o e n hb hx
   exact ⟨sl, (hs.2 b (Nat.ne_of_lt (Nat.lt_of_lt_of_le (Heap.lt_size e) I.ok.above))).trans e1⟩
  ·obtain ⟨o', e1⟩ := I.base.there b o e hx
   exact ⟨o', (hs.2 b (Nat.ne_of_lt (Nat.lt_of_lt_of_le (Heap.lt_size e) I.ok.above))).trans e1⟩
  ·by_cases hj : j = i
   ·subst hj
    rw [hi] at e1; cases e1
    rw [List.getElem?_set_self hiσ] at e2
    cases e2
    exact ⟨u, r, .inl ⟨hk, by simp⟩⟩
   ·rw [List.getElem?_set_ne (Ne.symm hj)] at e2
    obtain ⟨u', r', q⟩ := hl j y v' e1 e2 e3
    refine ⟨u', r', ?_⟩
    rcases q with ⟨k, e⟩ | ⟨k, c, e, z⟩
    ·refine .inl ⟨k, ?_⟩
     have : y ≠ x := fun e => hj (nodup_ix hN e1 (e ▸ hi))
     simp [this, e]
    ·exact .inr ⟨k, c, e, z.sameBut hs (cne y c e)⟩
  ·obtain ⟨w', z⟩ := I.cell y c e
   exact ⟨w', z.sameBut hs (cne y c e)⟩
  ·obtain ⟨e, n, ne, nf, d⟩ := I.pin p hp
   exact ⟨(hs.2 p.1 ne).trans e, n, ne, nf, d⟩
 ·have hfn : X.fn x = true := by
   rcases hf with z | z
   ·exact z
   ·rw [z] at hk; cases hk
  obtain ⟨c, hc⟩ := I.ok.has x (.inl hk)
  obtain ⟨w', z⟩ := I.cell x c hc
  refine wpAny_storeName_cell I.ok.kind hk hc z (fun h' hc' hs => ?_)
  obtain ⟨oc, hoc, hocd⟩ := id z
  refine h { s with heap := h' } ⟨I.ok, I.os, I.bare, ⟨fun b o e n hb hx => ?_, fun b o e n hb hx => ?_, I.base.free, fun b o e hx => ?_, I.base.tups, I.base.frzs, I.base.tbls⟩, ⟨m, hn.sameBut hs (Ne.symm (cne x c hc)), fun j y v' e1 e2 e3 => ?_⟩, fun y c' e => ?_, I.free, I.freeC, fun p hp => ?_, tracked ⟨oc, hoc, I.freeC x c hc⟩ hs, by simpa using I.len⟩ ⟨c, hs, .inr hc⟩
  ·exact (hs.2 b (Nat.ne_of_lt (Nat.lt_of_lt_of_le (Heap.lt_size e) (I.ok.cab x c hfn hc)))).trans (I.base.keep b o e n hb hx)
  ·obtain ⟨sl, e1⟩ := I.base.slot b o e n hb hx
   exact ⟨sl, (hs.2 b (Nat.ne_of_lt (Nat.lt_of_lt_of_le (Heap.lt_size e) (I.ok.cab x c hfn hc)))).trans e1⟩
  ·obtain ⟨o', e1⟩ := I.base.there b o e hx
   exact ⟨o', (hs.2 b (Nat.ne_of_lt (Nat.lt_of_lt_of_le (Heap.lt_size e) (I.ok.cab x c hfn hc)))).trans e1⟩
  ·by_cases hj : j = i
   ·subst hj
    rw [hi] at e1; cases e1
    rw [List.getElem?_set_self hiσ] at e2
    cases e2
    exact ⟨u, r, .inr ⟨.inl hk, c, hc, hc'⟩⟩
   ·rw [List.getElem?_set_ne (Ne.symm hj)] at e2
    obtain ⟨u', r', q⟩ := hl j y v' e1 e2 e3
    refine ⟨u', r', ?_⟩
    rcases q with q | ⟨k, c', e, z'⟩
    ·exact .inl q
    ·refine .inr ⟨k, c', e, z'.sameBut hs ?_⟩
     rintro rfl
     exact hj (nodup_ix hN e1 (I.ok.inj _ _ _ e hc ▸ hi))
  ·by_cases hcc : c' = c
   ·subst hcc; exact ⟨_, hc'⟩
   ·obtain ⟨w2, z2⟩ := I.cell y c' e
    exact ⟨w2, z2.sameBut hs hcc⟩
  ·obtain ⟨e, n, ne, nf, d⟩ := I.pin p hp
   refine ⟨(hs.2 p.1 ?_).trans e, n, ne, nf, d⟩
   intro q
   rw [q, hoc] at e
   have q' : oc = p.2 := Option.some.inj e
   exact d w' (by rw [← q']; exact hocd)
theorem store_ok {M : Model} {A : Around} {E : Value → Shared → Prop} {i : Nat} {x : Str} {v : V} {u : Value} {Q : Unit → Shared → Prop} (I : Inv X pins σ H s) (hN : X.N.Nodup) (hi : X.N[i]? = some x) (hx : Loc X.env.scope x) (r : RelV v u)
  (h : ∀ s', Inv X pins (σ.set i (some v)) H s' → Q () s') (hf : X.fn x = true ∨ X.env.scope.names.lookup x = some .local := by first | exact .inl rfl | exact .inr rfl | assumption) : wpAny M A (storeName X.env x u) Q E s :=
 store_ok2 I hN hi hx r (fun s' I' _ => h s' I') hf
end
abbrev XK := Value → Option Addr → Hp → Prop
abbrev St := List (Option V)
abbrev VK := V → Hp → Prop
abbrev TE := St → Hp → VK → Prop
abbrev TT := St → Hp → (Bool → Hp → Prop) → Prop
abbrev TA := St → Hp → (List V → Hp → Prop) → Prop
structure Ends where
 nx : St → Hp → Prop
 rt : VK
 bk : St → Hp → Prop := fun _ _ => False
 ct : St → Hp → Prop := fun _ _ => False
abbrev TS := Ends → St → Hp → Prop
noncomputable def EP (X : Cx) (pins : List (Addr × Obj)) (σ : St) (Q : VK) (u : Value) (s' : Shared) : Prop := ∃ v H', Inv X pins σ H' s' ∧ RelV v u ∧ Q v H'
noncomputable def TP (X : Cx) (pins : List (Addr × Obj)) (σ : St) (Q : Bool → Hp → Prop) (b : Bool) (s' : Shared) : Prop := ∃ H', Inv X pins σ H' s' ∧ Q b H'
noncomputable def AP (X : Cx) (pins : List (Addr × Obj)) (σ : St) (Q : List V → Hp → Prop) (us : List Value) (s' : Shared) : Prop := ∃ vs H', Inv X pins σ H' s' ∧ Vals vs us ∧ Q vs H'
noncomputable def SP (X : Cx) (pins : List (Addr × Obj)) (D : Ends) (f : Flow) (s' : Shared) : Prop :=
 match f with
 | .next => ∃ σ' H', Inv X pins σ' H' s' ∧ D.nx σ' H'
 | .brk => ∃ σ' H', Inv X pins σ' H' s' ∧ D.bk σ' H'
 | .cont => ∃ σ' H', Inv X pins σ' H' s' ∧ D.ct σ' H'
 | .ret u => ∃ v σ' H', Inv X pins σ' H' s' ∧ RelV v u ∧ D.rt v H'
noncomputable def PE (X : Cx) (e : Expr) (t : TE) : Prop :=
 ∀ (pins : List (Addr × Obj)) (s : Shared) (σ : St) (H : Hp) (Q : VK), Inv X pins σ H s → t σ H Q → wpAny (model X.prog X.w) X.A (eval e X.env) (EP X pins σ Q) X.xe s
noncomputable def PT (X : Cx) (e : Expr) (t : TT) : Prop :=
 ∀ (pins : List (Addr × Obj)) (s : Shared) (σ : St) (H : Hp) (Q : Bool → Hp → Prop), Inv X pins σ H s → t σ H Q → wpAny (model X.prog X.w) X.A (isTrue e X.env (eval e X.env)) (TP X pins σ Q) X.xe s
noncomputable def PW (X : Cx) (e : Expr) (t : TT) : Prop :=
 ∀ (whole : Sem Value) (pins : List (Addr × Obj)) (s : Shared) (σ : St) (H : Hp) (Q : Bool → Hp → Prop), Inv X pins σ H s → t σ H Q → wpAny (model X.prog X.w) X.A (isTrue e X.env whole) (TP X pins σ Q) X.xe s
theorem PW.pt {X : Cx} {e : Expr} {t : TT} (h : PW X e t) : PT X e t := h _
noncomputable def PA (X : Cx) (es : List Expr) (t : TA) : Prop :=
 ∀ (pos : Pos) (pins : List (Addr × Obj)) (s : Shared) (σ : St) (H : Hp) (Q : List V → Hp → Prop), Inv X pins σ H s → t σ H Q → wpAny (model X.prog X.w) X.A (spliced (backTo pos (starEach es X.env))) (AP X pins σ Q) X.xe s
noncomputable def PS (X : Cx) (st : Stmt) (t : TS) : Prop :=
 ∀ (pins : List (Addr × Obj)) (s : Shared) (σ : St) (H : Hp) (D : Ends), Inv X pins σ H s → t D σ H → wpAny (model X.prog X.w) X.A (exec st X.env) (SP X pins D) X.xe s
noncomputable def PSs (X : Cx) (st : List Stmt) (t : TS) : Prop :=
 ∀ (pins : List (Addr × Obj)) (s : Shared) (σ : St) (H : Hp) (D : Ends), Inv X pins σ H s → t D σ H → wpAny (model X.prog X.w) X.A (execs st X.env) (SP X pins D) X.xe s
theorem thn {α : Type} {t : Sem α} {Q Q' : α → Shared → Prop} {M : Model} {A : Around} {E : Value → Shared → Prop} {s : Shared} (h : wpAny M A t Q E s) (hQ : ∀ a s, Q a s → Q' a s) : wpAny M A t Q' E s := wpAny_mono h hQ fun _ _ x => x
end L2
namespace L2
open PySem PySem.Spec PyProof.Rows
section
variable {X : Cx}
noncomputable def tVar (i : Nat) : TE := fun σ H Q => ∃ v, σ[i]? = some (some v) ∧ Q v H
noncomputable def tC (v : V) : TE := fun _ H Q => Q v H
theorem pe_var {i : Nat} {x : Str} {pos : Pos} (hN : X.N[i]? = some x) (hv : Vis X.env.scope x) (hd : (x == ("__debug__" : Str)) = false := by decide) (hcd : (x == ("__classdict__" : Str)) = false := by decide) : PE X (.Name x pos) (tVar i) := by
 intro pins s σ H Q I h
 obtain ⟨v, e, h⟩ := h
 obtain ⟨m, hn, hl⟩ := I.loc
 obtain ⟨u, r, l⟩ := hl i x v hN e hv
 have fin : EP X pins σ Q u s := ⟨v, H, I, r, h⟩
 rcases l with ⟨hk, hm⟩ | ⟨hk, c, hc, hcell⟩
 ·exact wpAny_Name (wpAny_loadName_local I.ok.kind hk hn hm fin) hd
 ·rcases hk with hk | hk
  ·exact wpAny_Name (wpAny_loadName_cell I.ok.kind hk hc hcell fin) hd
  ·exact wpAny_Name (wpAny_loadName_free I.ok.kind hk hc hcell fin hcd) hd
theorem pe_int {i j pos} : PE X (.Constant (.int i) j pos) (tC (.int i)) := fun _ _ _ H _ I h => wpAny_Constant_int ⟨.int i, H, I.tok _, ⟨_, rfl⟩, h⟩
theorem pe_bl {b j pos} : PE X (.Constant (.bool b) j pos) (tC (.bl b)) := fun _ _ _ H _ I h => Constant_bool ⟨.bl b, H, I, rfl, h⟩
theorem pe_non {j pos} : PE X (.Constant .none j pos) (tC .non) := fun _ _ _ H _ I h => Constant_none ⟨.non, H, I, rfl, h⟩
theorem pe_str {x j pos} : PE X (.Constant (.str x) j pos) (tC (.str x)) := fun _ _ _ H _ I h => Calls.Constant_str ⟨.str x, H, I.tok _, ⟨_, rfl⟩, h⟩
noncomputable def Gl (X : Cx) (x : Str) : Prop := X.env.kindOf x = some .globalImplicit
theorem ld_glob {E : Value → Shared → Prop} {pins : List (Addr × Obj)} {s : Shared} {σ : St} {H : Hp} {x : Str} {u : Value} {pos : Pos} {Q : Value → Shared → Prop} (I : Inv X pins σ H s) (hg : Gl X x) (hm : X.mg x = some u) (h : Q u s)
  (hd : (x == ("__debug__" : Str)) = false := by decide) : wpAny (model X.prog X.w) X.A (eval (.Name x pos) X.env) Q E s :=
 Calls.Name_function_global I.ok.kind hg (Calls.loadGlobal_global (by rw [I.ok.glob]; exact I.mod.glob.keeps I.bk) hm h) hd
theorem ld_blt {E : Value → Shared → Prop} {pins : List (Addr × Obj)} {s : Shared} {σ : St} {H : Hp} {x : Str} {u : Value} {pos : Pos} {Q : Value → Shared → Prop} (I : Inv X pins σ H s) (hg : Gl X x) (hm : X.mg x = none) (hv : bootBuiltins x = some u) (h : Q u s)
  (hn : x ≠ "__name__" := by decide) (hd : (x == ("__debug__" : Str)) = false := by decide) : wpAny (model X.prog X.w) X.A (eval (.Name x pos) X.env) Q E s := by
 obtain ⟨mb, h1, h2⟩ := I.mod.blt
 exact Calls.Name_function_global I.ok.kind hg (Calls.loadGlobal_builtin (by rw [I.ok.glob]; exact I.mod.glob.keeps I.bk) hm (by rw [I.ok.blt]; exact h1.keeps I.bk) ((h2 x hn).trans hv) h) hd
theorem pe_glob {x : Str} {v : V} {u : Value} {pos : Pos} (hg : Gl X x) (hm : X.mg x = some u) (r : RelV v u) (hd : (x == ("__debug__" : Str)) = false := by decide) : PE X (.Name x pos) (tC v) :=
 fun _ _ _ H _ I h => ld_glob I hg hm ⟨v, H, I, r, h⟩ hd
theorem pe_bltn {x : Str} {v : V} {u : Value} {pos : Pos} (hg : Gl X x) (hm : X.mg x = none) (hv : bootBuiltins x = some u) (r : RelV v u) (hn : x ≠ "__name__" := by decide) (hd : (x == ("__debug__" : Str)) = false := by decide) : PE X (.Name x pos) (tC v) :=
 fun _ _ _ H _ I h => ld_blt I hg hm hv ⟨v, H, I, r, h⟩ hn hd
variable {a b : Expr} {ta tb : TE} {pos : Pos}
noncomputable def tB (t : TE) : TT := fun σ H Q => t σ H fun x H1 => ∃ c, x = .bl c ∧ Q c H1
theorem pt_val {e : Expr} {t : TE} (h : PE X e t) (he : ∀ whole, isTrue e X.env whole = (do let v ← whole; standAt e.pos; holding [v] (truthy v)) := by intro _; rfl) : PT X e (tB t) := by
 intro pins s σ H Q I hw
 refine isTrue_plain (thn (h pins s σ H _ I hw) fun v s1 ⟨x, H1, I1, r1, q1⟩ => ?_) (he _)
 obtain ⟨d, rfl, q⟩ := q1
 cases r1
 exact wpAny_truthy_bool ⟨H1, I1, q⟩
variable {tA tB' : TT} {rest : List Expr}
noncomputable def tOr (t u : TT) : TT := fun σ H Q => t σ H fun c H1 => if c = true then Q true H1 else u σ H1 Q
noncomputable def tNot (t : TT) : TT := fun σ H Q => t σ H fun c H1 => Q (!c) H1
theorem pw_or1 (ha : PT X a tA) : PW X (.BoolOp .Or [a] pos) tA := by
 intro wh pins s σ H Q I h
 refine isTrue_or (thn (ha pins s σ H Q I h) fun c s1 e => ?_)
 cases c with
 | false => exact isTrue_or_nil e
 | true => exact e
theorem pw_or (ha : PT X a tA) (hb : PW X (.BoolOp .Or (b :: rest) pos) tB') : PW X (.BoolOp .Or (a :: b :: rest) pos) (tOr tA tB') := by
 intro wh pins s σ H Q I h
 refine isTrue_or (thn (ha pins s σ H _ I h) fun c s1 ⟨H1, I1, q1⟩ => ?_)
 cases c with
 | true => exact ⟨H1, I1, q1⟩
 | false => exact hb wh pins s1 σ H1 Q I1 q1
theorem pt_not (ha : PT X a tA) : PT X (.UnaryOp .Not a pos) (tNot tA) := by
 intro pins s σ H Q I h
 exact isTrue_not (ha pins s σ H (fun c H1 => Q (!c) H1) I h)
noncomputable def tAndV (ta tb : TE) : TE := fun σ H Q => ta σ H fun x H1 => ∃ c, x = .bl c ∧ if c = true then tb σ H1 Q else Q (.bl false) H1
noncomputable def tNotV (ta : TE) : TE := fun σ H Q => ta σ H fun x H1 => ∃ c, x = .bl c ∧ Q (.bl (!c)) H1
theorem pe_one {op} {t : TE} (h : PE X a t) : PE X (.BoolOp op [a] pos) t := fun pins s σ H Q I hw => BoolOp_one (h pins s σ H Q I hw)
theorem pe_and (ha : PE X a ta) (hb : PE X (.BoolOp .And (b :: rest) pos) tb) : PE X (.BoolOp .And (a :: b :: rest) pos) (tAndV ta tb) := by
 intro pins s σ H Q I h
 refine BoolOp_and (thn (ha pins s σ H _ I h) fun v s1 ⟨x, H1, I1, r1, q1⟩ => ?_)
 obtain ⟨c, rfl, q1⟩ := q1
 cases r1
 refine wpAny_truthy_bool ?_
 cases c with
 | true => exact hb pins s1 σ H1 Q I1 q1
 | false => exact ⟨.bl false, H1, I1, rfl, q1⟩
theorem pe_not (ha : PE X a ta) : PE X (.UnaryOp .Not a pos) (tNotV ta) := by
 intro pins s σ H Q I h
 refine UnaryOp_ (thn (ha pins s σ H _ I h) fun v s1 ⟨x, H1, I1, r1, q1⟩ => ?_)
 obtain ⟨c, rfl, q1⟩ := q1
 cases r1
 exact not_of (wpAny_truthy_bool ⟨.bl (!c), H1, I1, rfl, q1⟩)
end
end L2
namespace L2
open PySem PySem.Spec PyProof.Rows
noncomputable def SqL (K : PySem.W.Frag) (H : Hp) (a : Addr) (xs : List V) : Prop :=
 Rd H a (.lst xs) ∨
  ∃ (o : Obj) (its : Array Value) (n : Nat), K.lookup a = some o ∧ o.cls = .type "list" ∧ o.dict = none ∧ o.data = .seq its n ∧ its.size ≤ sizeLine ∧ Vals xs its.toList
noncomputable def SqT (K : PySem.W.Frag) (H : Hp) (a : Addr) (xs : List V) : Prop :=
 Rd H a (.tup xs) ∨
  ∃ (o : Obj) (its : Array Value) (n : Nat), K.lookup a = some o ∧ o.cls = .type "tuple" ∧ o.data = .seq its n ∧ its.size ≤ sizeLine ∧ Vals xs its.toList
noncomputable def absV : Value → Option V
 | .none => some .non
 | .bool b => some (.bl b)
 | .int i _ => some (.int i)
 | .str x _ => some (.str x)
 | .bytes b _ => some (.byt b)
 | .float b _ => some (.flt b)
 | .ref a => some (.ref a)
 | .type n => some (.ty n)
 | _ => none
theorem RelV.abs {x : V} {u : Value} (r : RelV x u) : absV u = some x := by
 cases x with
 | non => cases r; rfl
 | bl _ => cases r; rfl
 | int _ => obtain ⟨t, rfl⟩ := r; rfl
 | str _ => obtain ⟨t, rfl⟩ := r; rfl
 | byt _ => obtain ⟨t, rfl⟩ := r; rfl
 | flt _ => obtain ⟨t, rfl⟩ := r; rfl
 | ref _ => cases r; rfl
 | ty _ => cases r; rfl
theorem RelV.inj {x y : V} {u : Value} (r : RelV x u) (q : RelV y u) : x = y := Option.some.inj (r.abs.symm.trans q.abs)
theorem Vals.inj : ∀ {xs ys : List V} {us : List Value}, Vals xs us → Vals ys us → xs = ys := by
 intro xs ys us h
 induction h generalizing ys with
 | nil => intro q; cases q; rfl
 | cons r t ih => intro q; cases q with | cons r' t' => rw [r.inj r', ih t']
section
variable {X : Cx} {pins : List (Addr × Obj)} {σ : St} {H : Hp} {s : Shared} {a : Addr} {xs ys : List V}
theorem SqL.of {K : PySem.W.Frag} (h : H a = some (.lst xs)) : SqL K H a xs := .inl (.inl h)
theorem SqT.of {K : PySem.W.Frag} (h : H a = some (.tup xs)) : SqT K H a xs := .inl (.inl h)
theorem Inv.list (I : Inv X pins σ H s) (h : SqL X.K H a xs) : ∃ its : List Value, Vals xs its ∧ PlainL s.heap a its.toArray ∧ xs.length ≤ sizeLine := by
 rcases h with h | ⟨o, its, n, hk, hc, hd, hs, hz, r⟩
 ·obtain ⟨z, its, n, r, e⟩ := h.ok I.hok
  exact ⟨its, r, ⟨_, n, e, rfl, rfl, rfl⟩, z⟩
 ·refine ⟨its.toList, r, ⟨o, n, I.kIn a o hk, hc, hd, by simpa using hs⟩, ?_⟩
  have e := r.length
  simp only [Array.length_toList] at e
  omega
theorem Inv.tuple (I : Inv X pins σ H s) (h : SqT X.K H a xs) : ∃ its : List Value, Vals xs its ∧ IsTup s.heap a its.toArray ∧ xs.length ≤ sizeLine := by
 rcases h with h | ⟨o, its, n, hk, hc, hs, hz, r⟩
 ·obtain ⟨z, its, r, p⟩ := h.ok I.hok
  exact ⟨its, r, p, z⟩
 ·refine ⟨its.toList, r, ⟨o, I.kIn a o hk, hc, n, by simpa using hs⟩, ?_⟩
  have e := r.length
  simp only [Array.length_toList] at e
  omega
theorem Inv.list_inj (I : Inv X pins σ H s) (h : SqL X.K H a xs) (h' : SqL X.K H a ys) : xs = ys := by
 obtain ⟨its, r, ⟨o, n, e, _, _, d⟩, _⟩ := I.list h
 obtain ⟨its', r', ⟨o', n', e', _, _, d'⟩, _⟩ := I.list h'
 rw [e] at e'; cases e'
 rw [d] at d'
 injection d' with d1 _
 have : its = its' := by simpa using congrArg Array.toList d1
 subst this
 exact r.inj r'
end
abbrev Cx.wish (X : Cx) (E : Value → Shared → Prop) : Cx := { X with xe := E }
abbrev Cx.nox (X : Cx) : Cx := X.wish fun _ _ => False
theorem Cx.Ok.wish {X : Cx} (ok : X.Ok) (E : Value → Shared → Prop) : (X.wish E).Ok :=
 ⟨ok.mod, ok.kind, ok.glob, ok.blt, ok.above, ok.inj, ok.has, ok.cab, ok.hd, ok.frames, ok.stk, ok.exf, ok.bs, ok.bsz, ok.noex, ok.exfs, ok.funs, ok.frf⟩
theorem Cx.Ok.unwish {X : Cx} {E : Value → Shared → Prop} (ok : (X.wish E).Ok) : X.Ok :=
 ⟨ok.mod, ok.kind, ok.glob, ok.blt, ok.above, ok.inj, ok.has, ok.cab, ok.hd, ok.frames, ok.stk, ok.exf, ok.bs, ok.bsz, ok.noex, ok.exfs, ok.funs, ok.frf⟩
section
variable {X : Cx} {pins : List (Addr × Obj)} {σ : St} {H : Hp} {s : Shared} {E : Value → Shared → Prop}
theorem Inv.wish (I : Inv X pins σ H s) (E : Value → Shared → Prop) : Inv (X.wish E) pins σ H s := ⟨I.ok.wish E, I.os, I.bare, I.base, I.loc, I.cell, I.free, I.freeC, I.pin, I.hok, I.len⟩
theorem Inv.unwish (I : Inv (X.wish E) pins σ H s) : Inv X pins σ H s := ⟨I.ok.unwish, I.os, I.bare, I.base, I.loc, I.cell, I.free, I.freeC, I.pin, I.hok, I.len⟩
theorem SP.unwish {D : Ends} {f : Flow} {s' : Shared} (h : SP (X.wish E) pins D f s') : SP X pins D f s' := by
 cases f with
 | next => obtain ⟨σ', H', I, q⟩ := h; exact ⟨σ', H', I.unwish, q⟩
 | brk => obtain ⟨σ', H', I, q⟩ := h; exact ⟨σ', H', I.unwish, q⟩
 | cont => obtain ⟨σ', H', I, q⟩ := h; exact ⟨σ', H', I.unwish, q⟩
 | ret u => obtain ⟨v, σ', H', I, r, q⟩ := h; exact ⟨v, σ', H', I.unwish, r, q⟩
theorem PE.nox {e : Expr} {t : TE} (h : PE X.nox e t) : PE X e t := fun pins s σ H Q I hw =>
 wpAny_mono (h pins s σ H Q (I.wish _) hw) (fun _ _ ⟨v, H', I', r, q⟩ => ⟨v, H', I'.unwish, r, q⟩) fun _ _ z => False.elim z
theorem PT.nox {e : Expr} {t : TT} (h : PT X.nox e t) : PT X e t := fun pins s σ H Q I hw =>
 wpAny_mono (h pins s σ H Q (I.wish _) hw) (fun _ _ ⟨H', I', q⟩ => ⟨H', I'.unwish, q⟩) fun _ _ z => False.elim z
theorem PSs.nox {st : List Stmt} {t : TS} (h : PSs X.nox st t) : PSs X st t := fun pins s σ H D I hw =>
 wpAny_mono (h pins s σ H D (I.wish _) hw) (fun _ _ q => q.unwish) fun _ _ z => False.elim z
end
section
variable {X : Cx} {st : Stmt} {rest : List Stmt} {t u : TS} {e : Expr} {te : TE} {pos : Pos}
noncomputable def tNext : TS := fun D σ H => D.nx σ H
noncomputable def tSeq (t u : TS) : TS := fun D σ H => t { D with nx := u D } σ H
theorem pss_nil : PSs X [] tNext := fun _ _ σ H _ I h => wpAny_execs_nil ⟨σ, H, I, h⟩
theorem pss_cons (h1 : PS X st t) (h2 : PSs X rest u) : PSs X (st :: rest) (tSeq t u) := by
 intro pins s σ H D I h
 refine wpAny_execs_cons (thn (h1 pins s σ H { D with nx := u D } I h) fun f s1 q => ?_)
 cases f with
 | next =>
  obtain ⟨σ', H', I', q⟩ := q
  exact h2 pins s1 σ' H' D I' q
 | ret v => exact q
 | brk => exact q
 | cont => exact q
theorem pss_one (h1 : PS X st t) : PSs X [st] t := by
 intro pins s σ H D I h
 refine wpAny_execs_cons (thn (h1 pins s σ H D I h) fun f s1 q => ?_)
 cases f with
 | next => exact wpAny_execs_nil q
 | ret v => exact q
 | brk => exact q
 | cont => exact q
theorem Inv.quiet {pins : List (Addr × Obj)} {σ : St} {H : Hp} {s : Shared} (I : Inv X pins σ H s) : interactive X.env = false := by simp [interactive, I.ok.kind]
noncomputable def tRet (te : TE) : TS := fun D σ H => te σ H D.rt
theorem ps_ret (he : PE X e te) : PS X (.Return (some e) pos) (tRet te) := by
 intro pins s σ H D I h
 exact wpAny_Return_some (thn (he pins s σ H _ I h) fun v s1 ⟨x, H1, I1, r1, q1⟩ => ⟨x, σ, H1, I1, r1, q1⟩)
noncomputable def tIfS (c : TT) (t u : TS) : TS := fun D σ H => c σ H fun b H1 => if b = true then t D σ H1 else u D σ H1
theorem ps_if {c : Expr} {a b : List Stmt} {tc : TT} (hc : PT X c tc) (ha : PSs X a t) (hb : PSs X b u) : PS X (.If c a b pos) (tIfS tc t u) := by
 intro pins s σ H D I h
 refine wpAny_If (thn (hc pins s σ H _ I h) fun d s1 ⟨H1, I1, q1⟩ => ?_)
 cases d with
 | true => exact ha pins s1 σ H1 D I1 q1
 | false => exact hb pins s1 σ H1 D I1 q1
noncomputable def tNever : TS := fun _ _ _ => False
theorem ps_never : PS X st tNever := fun _ _ _ _ _ _ h => h.elim
end
abbrev TG := V → St → Hp → (St → Hp → Prop) → Prop
noncomputable def PG (X : Cx) (target : Expr) (t : TG) : Prop :=
 ∀ (pins : List (Addr × Obj)) (s : Shared) (σ : St) (H : Hp) (v : V) (u : Value) (Q : St → Hp → Prop), Inv X pins σ H s → RelV v u → t v σ H Q →
  wpAny (model X.prog X.w) X.A (assign target X.env u) (fun _ s' => ∃ σ' H', Inv X pins σ' H' s' ∧ Q σ' H') X.xe s
abbrev TSet := V → V → V → Hp → (Hp → Prop) → Prop
noncomputable def PSet (X : Cx) (t : TSet) : Prop :=
 ∀ (pins : List (Addr × Obj)) (s : Shared) (σ : St) (H : Hp) (o i v : V) (ov iv u : Value) (Q : Hp → Prop), Inv X pins σ H s → RelV o ov → RelV i iv → RelV v u → t o i v H Q →
  wpAny (model X.prog X.w) X.A (setItem ov iv u) (fun _ s' => ∃ H', Inv X pins σ H' s' ∧ Q H') X.xe s
section
variable {X : Cx} {pos : Pos}
noncomputable def gName (i : Nat) : TG := fun v σ H Q => Q (σ.set i (some v)) H
theorem pg_name {i : Nat} {x : Str} (hN : X.N.Nodup) (hi : X.N[i]? = some x) (hx : Loc X.env.scope x) (hf : X.fn x = true ∨ X.env.scope.names.lookup x = some .local := by first | exact .inl rfl | exact .inr rfl | assumption) : PG X (.Name x pos) (gName i) := by
 intro pins s σ H v u Q I r h
 exact wpAny_assign_Name (store_ok I hN hi hx r (fun s' I' => ⟨_, H, I', h⟩) hf)
noncomputable def gSub (to ti : TE) (t : TSet) : TG := fun v σ H Q => to σ H fun o H1 => ti σ H1 fun i H2 => t o i v H2 fun H3 => Q σ H3
theorem pg_sub {o i : Expr} {to ti : TE} {t : TSet} (ho : PE X o to) (hi : PE X i ti) (hs : PSet X t)
  (ha : ∀ v, assign (.Subscript o i pos) X.env v = (do
   let ov ← holding [v] (eval o X.env)
   let iv ← holding [v, ov] (eval i X.env)
   standAt pos
   holding [v, ov, iv] (setItem ov iv v)
   release [v, ov, iv] []) := by intro _; rfl) : PG X (.Subscript o i pos) (gSub to ti t) := by
 intro pins s σ H v u Q I r h
 rw [ha]
 refine wpAny_bind (wpAny_holding (thn (ho pins s σ H _ I h) fun ov s1 ⟨x, H1, I1, r1, q1⟩ => ?_))
 refine wpAny_bind (wpAny_holding (thn (hi pins s1 σ H1 _ I1 q1) fun iv s2 ⟨y, H2, I2, r2, q2⟩ => ?_))
 refine wpAny_bind (wpAny_standAt (wpAny_bind (wpAny_holding (thn (hs pins s2 σ H2 x y v ov iv u _ I2 r1 r2 r q2) fun _ s3 ⟨H3, I3, q3⟩ => ?_))))
 exact wpAny_release ⟨σ, H3, I3, q3⟩
noncomputable def tAsg (te : TE) (g : TG) : TS := fun D σ H => te σ H fun x H1 => g x σ H1 D.nx
theorem ps_asg {tg e : Expr} {te : TE} {g : TG} (he : PE X e te) (hg : PG X tg g) (hs : swapsWithSole [tg] e pos.line X.env = pure false := by rfl) (hw : swappedStores [tg] e X.env = pure none := by rfl)
  (h1 : (assignEach [tg] X.env).map (·.2) = [assign tg X.env] := by rfl) : PS X (.Assign [tg] e pos) (tAsg te g) := by
 intro pins s σ H D I h
 refine wpAny_Assign_stores (thn (he pins s σ H _ I h) fun v s1 ⟨x, H1, I1, r1, q1⟩ => ?_) hs hw
 rw [h1]
 exact thn (hg pins s1 σ H1 x v _ I1 r1 q1) fun _ s2 q => q
theorem ps_set {i : Nat} {x : Str} {e : Expr} {te : TE} {pos' : Pos} (hN : X.N.Nodup) (hi : X.N[i]? = some x) (hx : Loc X.env.scope x) (he : PE X e te) (hs : swapsWith e (some (.Name x pos')) pos.line X.env = pure false := by rfl) (hf : X.fn x = true ∨ X.env.scope.names.lookup x = some .local := by first | exact .inl rfl | exact .inr rfl | assumption) :
  PS X (.Assign [.Name x pos'] e pos) (tAsg te (gName i)) := by
 intro pins s σ H D I h
 refine wpAny_Assign_Name (thn (he pins s σ H _ I h) fun v s1 ⟨y, H1, I1, r1, q1⟩ => ?_) hs
 exact store_ok I1 hN hi hx r1 (fun s2 I2 => ⟨_, H1, I2, q1⟩) hf
noncomputable def tPar (i j : Nat) (ta : TA) : TS := fun D σ H => ta σ H fun vs H1 => ∃ v w, vs = [v, w] ∧ D.nx ((σ.set i (some v)).set j (some w)) H1
theorem ps_par {i j : Nat} {x y : Str} {a b : Expr} {ta : TA} {px py pt : Pos} {kt k2 pt2} (hc : X.calm = true) (hN : X.N.Nodup) (hi : X.N[i]? = some x) (hj : X.N[j]? = some y) (hij : i ≠ j)
  (hx : X.env.scope.names.lookup x = some .local) (hy : X.env.scope.names.lookup y = some .local) (ha : PA X [a, b] ta)
  (hw : swappedStores [.Tuple [.Name x px, .Name y py] kt pt] (.Tuple [a, b] k2 pt2) X.env = pure (some [x, y]))
  (hs : swapsWithSole [.Tuple [.Name x px, .Name y py] kt pt] (.Tuple [a, b] k2 pt2) pos.line X.env = pure false := by rfl) :
  PS X (.Assign [.Tuple [.Name x px, .Name y py] kt pt] (.Tuple [a, b] k2 pt2) pos) (tPar i j ta) := by
 intro pins s σ H D I h
 rw [exec_Assign_arm]
 refine wpAny_bind (wpAny_standAt ?_)
 rw [hs]
 refine wpAny_bind (wpAny_pure ?_)
 rw [if_neg (by decide)]
 refine wpAny_bind (Tuple_ (thn (ha _ pins s σ H _ I h) fun us s1 ⟨vs, H1, I1, r1, q1⟩ => ?_))
 obtain ⟨v, w, e1, q1⟩ := q1
 subst e1
 obtain ⟨u1, u2, rfl, rv, rw'⟩ : ∃ u1 u2, us = [u1, u2] ∧ RelV v u1 ∧ RelV w u2 := by
  cases r1 with
  | cons p q =>
   cases q with
   | cons p' q' =>
    cases q'
    exact ⟨_, _, rfl, p, p'⟩
 refine wpAny_newObj_type ?_ (by show 2 ≤ sizeLine; decide)
 have I2 : Inv X pins σ H1 { s1 with heap := s1.heap.push { cls := .type "tuple", data := .seq [u1, u2].toArray } } := I1.kept (t' := s1.toks) fun b o e => Heap.get?_push_of_some _ e
 rw [hw]
 refine wpAny_bind (wpAny_pure ?_)
 show wpAny (model X.prog X.w) X.A (do rule "assign.swapped-stores"; let items ← unpackItems (.ref s1.heap.objs.size) 2 none; assignInOrder [fun v => bindName X.env y v, fun v => bindName X.env x v] items.reverse; pure Flow.next) _ _ _
 refine wpAny_bind (wpAny_rule (wpAny_bind (unpackItems_tuple (items := #[u1, u2]) (I.ok.hd hc) (IsTup.new s1.heap _) fun h' hx' => ?_)))
 have I3 := I2.kept (h' := h') (t' := s1.toks) fun b o e => hx' b o (Nat.ne_of_lt (Heap.lt_size e)) e
 show wpAny _ _ (assignInOrder [fun v => bindName X.env y v, fun v => bindName X.env x v] [u2, u1] >>= fun _ => pure Flow.next) _ _ _
 refine wpAny_bind (assignInOrder_cons (wpAny_bindName (store_ok I3 hN hj (.inl hy) rw' (fun s2 I4 => ?_) (.inr hy))))
 refine assignInOrder_cons (wpAny_bindName (store_ok I4 hN hi (.inl hx) rv (fun s3 I5 => assignInOrder_nil (wpAny_pure ?_)) (.inr hx)))
 rw [List.set_comm _ _ (Ne.symm hij)] at I5
 exact ⟨_, H1, I5, q1⟩
end
section
variable {X : Cx} {pos : Pos}
noncomputable def tWhile (c : TT) (tb : TS) : TS := fun D σ H => ∃ W : Nat → St → Hp → Prop, (∃ m, W m σ H) ∧ ∀ m σ H, W m σ H →
 c σ H fun b H1 => if b = true then ∃ N : St → Hp → Prop, (∀ σ' H', N σ' H' → ∃ m', m' < m ∧ W m' σ' H') ∧ tb { D with nx := N, ct := N, bk := D.nx } σ H1 else D.nx σ H1
theorem ps_while {c : Expr} {body : List Stmt} {tc : TT} {tb : TS} (hp : PassesOwn (model X.prog X.w) X.A X.env X.xe) (hc : PT X c tc) (hb : PSs X body tb) : PS X (.While c body [] pos) (tWhile tc tb) := by
 intro pins s σ H D I h
 obtain ⟨W, ⟨m0, w0⟩, turn⟩ := h
 refine wpAny_While (codeAny_whileLoop (fun n s' => ∃ σ' H', Inv X pins σ' H' s' ∧ W n σ' H') ?_ m0 ⟨σ, H, I, w0⟩)
 rintro n s1 ⟨σ1, H1, I1, w1⟩
 refine wpAny_passesOwn hp (thn (hc pins s1 σ1 H1 _ I1 (turn n σ1 H1 w1)) fun b s2 ⟨H2, I2, q2⟩ => ?_)
 cases b with
 | true =>
  obtain ⟨N, hN, q2⟩ := q2
  rw [if_pos rfl]
  refine wpAny_passesOwn hp (thn (hb pins s2 σ1 H2 _ I2 q2) fun f s3 q3 => ?_)
  cases f with
  | next =>
   obtain ⟨σ3, H3, I3, n3⟩ := q3
   obtain ⟨m', hm, w3⟩ := hN σ3 H3 n3
   exact ⟨m', hm, σ3, H3, I3, w3⟩
  | cont =>
   obtain ⟨σ3, H3, I3, n3⟩ := q3
   obtain ⟨m', hm, w3⟩ := hN σ3 H3 n3
   exact ⟨m', hm, σ3, H3, I3, w3⟩
  | brk => exact q3
  | ret v => exact q3
 | false =>
  rw [if_neg Bool.false_ne_true]
  exact wpAny_execs_nil ⟨σ1, H2, I2, q2⟩
end
structure It where
 go : Nat → Hp → Prop
 yld : Nat → Hp → V → Hp → Prop
 stop : Nat → Hp → Prop
noncomputable def FpOk (X : Cx) (pins : List (Addr × Obj)) (H : Hp) (b : Addr) : Prop :=
 H b = none ∧ b ≠ X.env.locals ∧ b ∉ X.fs ∧ (b ∈ X.ex ∨ X.s₀.heap.objs.size ≤ b) ∧ (∀ x c, X.env.cells.lookup x = some c → c ≠ b) ∧ ∀ p ∈ X.pn ++ pins, p.1 ≠ b
theorem Inv.fpOk {X : Cx} {pins : List (Addr × Obj)} {σ : St} {H H' : Hp} {s : Shared} {b : Addr} (I : Inv X pins σ H s) (hb : s.heap.objs.size ≤ b) (hn : H' b = none) : FpOk X pins H' b := by
 refine ⟨hn, Nat.ne_of_gt (Nat.lt_of_lt_of_le I.lt hb), I.nofs hb, .inr (Nat.le_trans I.sz hb), fun x c e z => ?_, fun p hp z => ?_⟩
 ·obtain ⟨v, q⟩ := I.cell x c e
  exact absurd (Nat.lt_of_lt_of_le q.lt (by rw [z]; exact hb)) (Nat.lt_irrefl _)
 ·exact absurd (Nat.lt_of_lt_of_le (Heap.lt_size (I.pin p hp).1) (by rw [z]; exact hb)) (Nat.lt_irrefl _)
structure Turn (P : Program) (w : World) (K : PySem.W.Frag) (tg : Expr) (J : It) (fp : List Addr) (it : Addr) (tn : Nat → Heap → Prop) : Prop where
 mem : it ∈ fp
 obj : ∀ i h, tn i h → ∀ b ∈ fp, ∃ o, h.get? b = some o ∧ ∀ v, o.data ≠ .cell v
 keep : ∀ i h h', tn i h → (∀ b ∈ fp, ∀ o, h.get? b = some o → h'.get? b = some o) → tn i h'
 item : ∀ (X : Cx), X.prog = P → X.w = w → X.K = K → X.calm = true → ∀ (i : Nat) (pins : List (Addr × Obj)) (s : Shared) (σ : St) (H : Hp) (E : Value → Shared → Prop), Inv X pins σ H s → (∀ b ∈ fp, FpOk X pins H b) → tn i s.heap → J.go i H →
  wpAny (model P w) X.A (pyNext (.ref it)) (fun r s1 => ∃ u, r = some u ∧
   wpAny (model P w) X.A (letOwnedTupleGo tg (.ref it) u) (fun _ s2 => ∃ x H', Inv X pins σ H' s2 ∧ RelV x u ∧ J.yld i H x H' ∧ tn (i + 1) s2.heap ∧ ∀ b ∈ fp, H' b = none) E s1) E s
 done : ∀ (X : Cx), X.prog = P → X.w = w → X.K = K → X.calm = true → ∀ (i : Nat) (pins : List (Addr × Obj)) (s : Shared) (σ : St) (H : Hp) (E : Value → Shared → Prop), Inv X pins σ H s → (∀ b ∈ fp, FpOk X pins H b) → tn i s.heap → J.stop i H →
  wpAny (model P w) X.A (pyNext (.ref it)) (fun r s1 => r = none ∧ Inv X pins σ H s1) E s
 self : ∀ (A : Around) (i : Nat) (s : Shared) (Q : Value → Shared → Prop) (E : Value → Shared → Prop), tn i s.heap → Q (.ref it) s → wpAny (model P w) A (pyIter (.ref it)) Q E s
abbrev TI := St → Hp → (It → Hp → Prop) → Prop
noncomputable def PIE (X : Cx) (pins : List (Addr × Obj)) (σ : St) (tg : Expr) (R : It → Hp → Prop) (itv : Value) (s2 : Shared) : Prop :=
 ∃ (it : Addr) (fp : List Addr) (tn : Nat → Heap → Prop) (J : It) (H' : Hp), itv = .ref it ∧ Inv X pins σ H' s2 ∧ Turn X.prog X.w X.K tg J fp it tn ∧ tn 0 s2.heap ∧ (∀ b ∈ fp, FpOk X pins H' b) ∧ R J H'
noncomputable def PI (X : Cx) (tg iter : Expr) (wi : TI) : Prop :=
 ∀ (pins : List (Addr × Obj)) (s : Shared) (σ : St) (H : Hp) (R : It → Hp → Prop), Inv X pins σ H s → wi σ H R →
  wpAny (model X.prog X.w) X.A (eval iter X.env) (fun v s1 => wpAny (model X.prog X.w) X.A (pyIter v) (PIE X pins σ tg R) X.xe s1) X.xe s
theorem go_of {M : Model} {A : Around} {E : Value → Shared → Prop} {s : Shared} {tg : Expr} {it : Addr} {u : Value} {o : Obj} {n : String} {vs : Array Value} {Q : Unit → Shared → Prop} (ho : s.heap.get? it = some o) (hc : o.cls = .type n) (hd : o.data = .fields vs)
    (hn : ["enumerate", "zip", "dict_itemiterator", "dict_reverseitemiterator", "odict_iterator", "itertools.zip_longest", "itertools.pairwise"].contains n = false) (hQ : Q () s) : wpAny M A (letOwnedTupleGo tg (.ref it) u) Q E s := by
  unfold letOwnedTupleGo
  cases tg <;> first
    | exact wpAny_pure hQ
    | (cases u <;> first
        | exact wpAny_pure hQ
        | (refine wpAny_bind (wpAny_load ho ?_)
           rw [hc, hd]
           show wpAny M A (if (["enumerate", "zip", "dict_itemiterator", "dict_reverseitemiterator", "odict_iterator", "itertools.zip_longest", "itertools.pairwise"].contains n && vs[0]? == some (rawInt _)) = true then _ else _) Q E s
           rw [if_neg (by intro h; rw [hn, Bool.false_and] at h; cases h)]
           exact wpAny_pure hQ))
noncomputable def Itl (K : PySem.W.Frag) (a : Addr) : It :=
 ⟨fun i H => ∃ xs x, SqL K H a xs ∧ xs[i]? = some x, fun i H x H' => H' = H ∧ ∀ xs, SqL K H a xs → xs[i]? = some x, fun i H => ∃ xs, SqL K H a xs ∧ xs.length ≤ i⟩
noncomputable def Itr (lo : Int) (n : Nat) : It := ⟨fun i _ => i < n, fun i H x H' => H' = H ∧ x = .int (lo + i), fun i _ => n ≤ i⟩
theorem turn_list {P : Program} {w : World} {K : PySem.W.Frag} {tg : Expr} (a it : Addr) : Turn P w K tg (Itl K a) [it] it (fun i h => h.IsListIter it a i) where
 mem := by simp
 obj := fun i h st b hb => by
  have e : b = it := by simpa using hb
  subst e
  obtain ⟨o, e, c, d⟩ := st
  exact ⟨o, e, fun v z => by rw [d] at z; cases z⟩
 keep := fun i h h' st k => st.at fun o e => k it (by simp) o e
 item := by
  intro X hP hw hK hc i pins s σ H E I hf st hg
  subst hP hw hK
  obtain ⟨xs, x, hq, hx⟩ := hg
  obtain ⟨its, rv, p, hz⟩ := I.list hq
  obtain ⟨u, hu, ru⟩ := rv.get hx
  obtain ⟨f0, f1, f2, f3, f4, f5⟩ := hf it (by simp)
  refine wpAny_pyNext_list_item st p.isList (x := u) (by simpa using hu) fun h' st' sb => ?_
  have I1 : Inv X pins σ H { s with heap := h' } := I.turned (t' := s.toks) (fun b o hb e => (sb.2 b hb).trans e) f0 f1 f3 f4 f5
  obtain ⟨o, e, c, d⟩ := id st'
  exact ⟨u, rfl, go_of (s := { s with heap := h' }) e c d (by decide) ⟨x, H, I1, ru, ⟨rfl, fun ys hy => by rw [I.list_inj hy hq]; exact hx⟩, st', fun b hb => (hf b hb).1⟩⟩
 done := by
  intro X hP hw hK hc i pins s σ H E I hf st hg
  subst hP hw hK
  obtain ⟨xs, hq, hx⟩ := hg
  obtain ⟨its, rv, p, hz⟩ := I.list hq
  obtain ⟨f0, f1, f2, f3, f4, f5⟩ := hf it (by simp)
  have hl := rv.length
  exact wpAny_pyNext_list_end (I.ok.hd hc) st p.isList (by simp; omega) fun h' eb => ⟨rfl, I.turned (t' := s.toks) (fun b o hb e => eb b o hb e) f0 f1 f3 f4 f5⟩
 self := fun _ _ _ _ _ st h => wpAny_pyIter_listiter st h
theorem turn_range {P : Program} {w : World} {K : PySem.W.Frag} {tg : Expr} (it : Addr) (lo : Int) (n : Nat) : Turn P w K tg (Itr lo n) [it] it (fun i h => IsRangeIter h it (lo + (i : Nat) * 1) ((n : Int) - (i : Nat)) 1) where
 mem := by simp
 obj := fun i h st b hb => by
  have e : b = it := by simpa using hb
  subst e
  exact ⟨_, st, fun v z => by
   have z' : Data.fields _ = Data.cell v := z
   cases z'⟩
 keep := fun i h h' st k => k it (by simp) _ st
 item := by
  intro X hP hw hK hc i pins s σ H E I hf st hg
  subst hP hw hK
  obtain ⟨f0, f1, f2, f3, f4, f5⟩ := hf it (by simp)
  have W := Walks.range (prog := X.prog) (w := X.w) (I.ok.hd hc) it lo 1 n
  refine W.item i s _ _ hg st fun v h' tk hv st' kk => ?_
  obtain ⟨t, rfl⟩ := hv
  have I1 : Inv X pins σ H { s with heap := h', toks := tk } := I.turned (fun b o hb e => kk b o (by simpa using hb) e) f0 f1 f3 f4 f5
  refine ⟨_, rfl, go_of (s := { s with heap := h', toks := tk }) (n := "range_iterator") st' rfl rfl (by decide) ⟨.int (lo + i), H, I1, ⟨t, ?_⟩, ⟨rfl, rfl⟩, st', fun b hb => (hf b hb).1⟩⟩
  rw [Int.mul_one]
 done := by
  intro X hP hw hK hc i pins s σ H E I hf st hg
  subst hP hw hK
  obtain ⟨f0, f1, f2, f3, f4, f5⟩ := hf it (by simp)
  exact wpAny_pyNext_range_end (I.ok.hd hc) st (by have : n ≤ i := hg; omega) fun h' eb => ⟨rfl, I.turned (t' := s.toks) (fun b o hb e => eb b o hb e) f0 f1 f3 f4 f5⟩
 self := fun _ _ _ _ _ st h => wpAny_pyIter_rangeiter st h
end L2
namespace L2
open PySem PySem.Spec PyProof.Rows
section
variable {X : Cx} {tg : Expr}
noncomputable def iList (K : PySem.W.Frag) (tl : TE) : TI := fun σ H R => tl σ H fun x H1 => ∃ a, x = .ref a ∧ (∃ xs, SqL K H1 a xs) ∧ R (Itl K a) H1
theorem pi_list {l : Expr} {tl : TE} (hl : PE X l tl) : PI X tg l (iList X.K tl) := by
 intro pins s σ H R I h
 refine thn (hl pins s σ H _ I h) fun v s1 ⟨x, H1, I1, r1, q1⟩ => ?_
 obtain ⟨a, e, ⟨xs, hq⟩, q⟩ := q1
 subst e
 cases r1
 obtain ⟨its, rv, p, hz⟩ := I1.list hq
 refine wpAny_pyIter_list p.isList ?_
 refine ⟨s1.heap.objs.size, [s1.heap.objs.size], _, _, H1, rfl, I1.kept (t' := s1.toks) fun b o e => Heap.get?_push_of_some _ e, turn_list a _, ⟨_, Heap.get?_push_size _ rfl, rfl, rfl⟩, fun b hb => ?_, q⟩
 have e : b = s1.heap.objs.size := by simpa using hb
 subst e
 exact I1.fpOk (Nat.le_refl _) (I1.hok.fresh (Nat.le_refl _))
theorem range_it {pins : List (Addr × Obj)} {σ : St} {H : Hp} {s : Shared} {R : It → Hp → Prop} {E : Value → Shared → Prop} {lo hi : Int} {t u v : Tok} {tk : Nat} (I : Inv X pins σ H s) (h1 : -(2 ^ 62) ≤ lo) (h2 : lo < 2 ^ 62) (h3 : -(2 ^ 62) ≤ hi) (h4 : hi < 2 ^ 62)
  (q : R (Itr lo (hi - lo).toNat) H) : wpAny (model X.prog X.w) X.A (pyIter (.ref s.heap.objs.size)) (PIE X pins σ tg R) E { s with heap := s.heap.push { cls := .type "range", data := .fields #[.int lo t, .int hi u, .int 1 v] }, toks := tk } := by
 refine wpAny_pyIter_range (IsRange.new ..) (small_one h1 h2 h3 h4) ?_
 have I1 : Inv X pins σ H { s with heap := s.heap.push { cls := .type "range", data := .fields #[.int lo t, .int hi u, .int 1 v] }, toks := tk } := I.kept fun b o e => Heap.get?_push_of_some _ e
 refine ⟨(s.heap.push { cls := .type "range", data := .fields #[.int lo t, .int hi u, .int 1 v] }).objs.size, [(s.heap.push { cls := .type "range", data := .fields #[.int lo t, .int hi u, .int 1 v] }).objs.size], _, _, H, rfl,
  I1.kept (t' := tk) fun b o e => Heap.get?_push_of_some _ e, turn_range _ lo (hi - lo).toNat, ?_, fun b hb => ?_, q⟩
 ·have e1 : lo + ((0 : Nat) : Int) * 1 = lo := by simp
  have e2 : (((hi - lo).toNat : Nat) : Int) - ((0 : Nat) : Int) = Builtin.Range.rangeSize lo hi 1 := by rw [rangeSize_one]; split <;> omega
  show IsRangeIter _ _ (lo + ((0 : Nat) : Int) * 1) ((((hi - lo).toNat : Nat) : Int) - ((0 : Nat) : Int)) 1
  rw [e1, e2]
  exact Heap.get?_push_size _ rfl
 ·have e : b = (s.heap.push { cls := .type "range", data := .fields #[.int lo t, .int hi u, .int 1 v] }).objs.size := by simpa using hb
  subst e
  exact I1.fpOk (Nat.le_refl _) (I1.hok.fresh (Nat.le_refl _))
noncomputable def iRng1 (ta : TA) : TI := fun σ H R => ta σ H fun vs H1 => ∃ j : Int, vs = [.int j] ∧ -(2 ^ 62) ≤ j ∧ j < 2 ^ 62 ∧ R (Itr 0 j.toNat) H1
theorem pi_range1 {a : Expr} {ta : TA} {p pos : Pos} (hg : Gl X "range") (hm : X.mg "range" = none) (ha : PA X [a] ta) (hs : starEach [a] X.env = [(false, eval a X.env)] := by rfl) : PI X tg (.Call (.Name "range" p) [a] [] pos) (iRng1 ta) := by
 intro pins s σ H R I h
 refine Call_ (ld_blt I hg hm boot_range (PyProof.Rows.callWith_type1 (thn (ha pos pins s σ H _ I h) fun us s1 ⟨vs, H1, I1, r1, q1⟩ => ?_) hs rfl))
 obtain ⟨j, e, q1, q2, q⟩ := q1
 subst e
 cases r1 with
 | cons r rr =>
  cases rr
  obtain ⟨t, rfl⟩ := r
  exact call_range_1 (range_it I1 (by omega) (by omega) q1 q2 (by simpa using q))
noncomputable def tFor (wi : TI) (g : TG) (tb : TS) : TS := fun D σ H => wi σ H fun J H1 => ∃ W : Nat → Nat → St → Hp → Prop, (∃ m, W 0 m σ H1) ∧ ∀ i m σ H, W i m σ H →
 (J.stop i H ∧ D.nx σ H) ∨ (J.go i H ∧ ∃ N : St → Hp → Prop, (∀ σ' H', N σ' H' → ∃ m', m' < m ∧ W (i + 1) m' σ' H') ∧ ∀ x H', J.yld i H x H' → g x σ H' fun σ2 H2 => tb { D with nx := N, ct := N, bk := D.nx } σ2 H2)
noncomputable def pinsAt (fp : List Addr) (h : Heap) : List (Addr × Obj) := fp.filterMap fun b => (h.get? b).map fun o => (b, o)
theorem mem_pinsAt {fp : List Addr} {h : Heap} {b : Addr} {o : Obj} (hb : b ∈ fp) (e : h.get? b = some o) : (b, o) ∈ pinsAt fp h := List.mem_filterMap.mpr ⟨b, hb, by rw [e]; rfl⟩
theorem of_pinsAt {fp : List Addr} {h : Heap} {p : Addr × Obj} (hp : p ∈ pinsAt fp h) : p.1 ∈ fp ∧ h.get? p.1 = some p.2 := by
 obtain ⟨b, hb, e⟩ := List.mem_filterMap.mp hp
 cases q : h.get? b with
 | none => rw [q] at e; cases e
 | some o =>
  rw [q] at e
  have e' : (b, o) = p := Option.some.inj e
  subst e'
  exact ⟨hb, q⟩
theorem Inv.pinned {pins : List (Addr × Obj)} {σ : St} {H : Hp} {s : Shared} {fp : List Addr} (I : Inv X pins σ H s) (hf : ∀ b ∈ fp, FpOk X pins H b) (ho : ∀ b ∈ fp, ∃ o, s.heap.get? b = some o ∧ ∀ v, o.data ≠ .cell v) : Inv X (pins ++ pinsAt fp s.heap) σ H s :=
 I.pins_of fun p hp => (List.mem_append.mp hp).elim (fun z => I.pin p (List.mem_append_right _ z)) fun z => by
  obtain ⟨hb, e⟩ := of_pinsAt z
  obtain ⟨f0, f1, f2, _⟩ := hf p.1 hb
  obtain ⟨o, e', d⟩ := ho p.1 hb
  rw [e] at e'; cases e'
  exact ⟨e, f0, f1, f2, d⟩
theorem Inv.unpinned {pins pl : List (Addr × Obj)} {σ : St} {H : Hp} {s : Shared} (I : Inv X (pins ++ pl) σ H s) : Inv X pins σ H s := I.pins_of fun p hp => I.pin p (List.mem_append_right _ (List.mem_append_left _ hp))
theorem ps_for {iter : Expr} {body : List Stmt} {wi : TI} {g : TG} {tb : TS} {pos : Pos} (hp : PassesOwn (model X.prog X.w) X.A X.env X.xe) (hc : X.calm = true) (hi : PI X tg iter wi) (hg : PG X tg g) (hb : PSs X body tb)
  (hs : ∀ x, foldedSetIterable iter X.env x = pure x := by intro _; rfl) : PS X (.For tg iter body [] pos) (tFor wi g tb) := by
 intro pins s σ H D I h
 refine wpAny_For (thn (hi pins s σ H _ I h) fun v s1 h1 => thn h1 fun itv s2 h2 => ?_) hs
 obtain ⟨it, fp, tn, J, H2, e, I2, T, st2, f2, W, ⟨m0, w0⟩, turn⟩ := h2
 subst e
 have stat : ∀ {H' : Hp}, (∀ b ∈ fp, H' b = none) → ∀ b ∈ fp, FpOk X pins H' b := fun hn b hb => ⟨hn b hb, (f2 b hb).2⟩
 refine codeAny_forLoop_any (fun n s' => ∃ i σ' H', Inv X pins σ' H' s' ∧ tn i s'.heap ∧ (∀ b ∈ fp, H' b = none) ∧ W i n σ' H') ?_ m0 ⟨0, σ, H2, I2, st2, fun b hb => (f2 b hb).1, w0⟩
 rintro n s3 ⟨i, σ3, H3, I3, st3, fr3, w3⟩
 rcases turn i n σ3 H3 w3 with ⟨stop, qn⟩ | ⟨go, N, hN, step⟩
 ·refine wpAny_passesOwn hp (thn (T.done X rfl rfl rfl hc i pins s3 σ3 H3 X.xe I3 (stat fr3) st3 stop) fun r s4 ⟨hr, I4⟩ => ?_)
  subst hr
  exact wpAny_execs_nil ⟨σ3, H3, I4, qn⟩
 ·refine wpAny_passesOwn hp (thn (T.item X rfl rfl rfl hc i pins s3 σ3 H3 X.xe I3 (stat fr3) st3 go) fun r s4 ⟨u, hr, h4⟩ => ?_)
  subst hr
  refine wpAny_passesOwn hp (thn h4 fun _ s5 ⟨x, H5, I5, r5, y5, st5, fr5⟩ => ?_)
  have I5' := I5.pinned (stat fr5) (T.obj _ _ st5)
  refine wpAny_passesOwn hp (thn (hg _ s5 σ3 H5 x u _ I5' r5 (step x H5 y5)) fun _ s6 ⟨σ6, H6, I6, q6⟩ => ?_)
  refine wpAny_passesOwn hp (thn (hb _ s6 σ6 H6 _ I6 q6) fun f s7 q7 => ?_)
  have again : ∀ {σ7 : St} {H7 : Hp}, Inv X (pins ++ pinsAt fp s5.heap) σ7 H7 s7 → N σ7 H7 → ∃ m, m < n ∧ ∃ i σ' H', Inv X pins σ' H' s7 ∧ tn i s7.heap ∧ (∀ b ∈ fp, H' b = none) ∧ W i m σ' H' := fun {σ7 H7} I7 n7 => by
   obtain ⟨m', hm, w7⟩ := hN σ7 H7 n7
   refine ⟨m', hm, i + 1, σ7, H7, I7.unpinned, T.keep _ _ _ st5 fun b hb o e => (I7.pin (b, o) (List.mem_append_right _ (List.mem_append_right _ (mem_pinsAt hb e)))).1, fun b hb => ?_, w7⟩
   obtain ⟨o, e, d⟩ := T.obj _ _ st5 b hb
   exact (I7.pin (b, o) (List.mem_append_right _ (List.mem_append_right _ (mem_pinsAt hb e)))).2.1
  cases f with
  | next => obtain ⟨σ7, H7, I7, n7⟩ := q7; exact again I7 n7
  | cont => obtain ⟨σ7, H7, I7, n7⟩ := q7; exact again I7 n7
  | brk => obtain ⟨σ7, H7, I7, q7⟩ := q7; exact ⟨σ7, H7, I7.unpinned, q7⟩
  | ret v => obtain ⟨x7, σ7, H7, I7, r7, q7⟩ := q7; exact ⟨x7, σ7, H7, I7.unpinned, r7, q7⟩
end
end L2
namespace L2
open PySem PySem.Spec PyProof.Rows
abbrev R2 := V → V → Hp → VK → Prop
noncomputable def OpR (X : Cx) (f : Value → Value → Sem Value) (r : R2) : Prop :=
 ∀ (pins : List (Addr × Obj)) (s : Shared) (σ : St) (H : Hp) (x y : V) (v u : Value) (Q : VK), Inv X pins σ H s → RelV x v → RelV y u → r x y H Q →
  wpAny (model X.prog X.w) X.A (f v u) (EP X pins σ Q) X.xe s
noncomputable def UnR (X : Cx) (f : Value → Sem Value) (r : V → Hp → VK → Prop) : Prop :=
 ∀ (pins : List (Addr × Obj)) (s : Shared) (σ : St) (H : Hp) (x : V) (v : Value) (Q : VK), Inv X pins σ H s → RelV x v → r x H Q →
  wpAny (model X.prog X.w) X.A (f v) (EP X pins σ Q) X.xe s
noncomputable def CallR (X : Cx) (f : Value) (r : List V → Hp → VK → Prop) : Prop :=
 ∀ (pins : List (Addr × Obj)) (s : Shared) (σ : St) (H : Hp) (xs : List V) (us : List Value) (Q : VK), Inv X pins σ H s → Vals xs us → r xs H Q →
  wpAny (model X.prog X.w) X.A (call f us) (EP X pins σ Q) X.xe s
noncomputable def tOp (r : R2) (ta tb : TE) : TE := fun σ H Q => ta σ H fun x H1 => tb σ H1 fun y H2 => r x y H2 Q
noncomputable def tUn (r : V → Hp → VK → Prop) (ta : TE) : TE := fun σ H Q => ta σ H fun x H1 => r x H1 Q
noncomputable def rI (C : Int → Int → Prop) (g : Int → Int → V) : R2 := fun x y H Q => ∃ i j, x = .int i ∧ y = .int j ∧ C i j ∧ Q (g i j) H
noncomputable def rI0 (g : Int → Int → V) : R2 := fun x y H Q => ∃ i j, x = .int i ∧ y = .int j ∧ Q (g i j) H
noncomputable def rU (g : Int → V) : V → Hp → VK → Prop := fun x H Q => ∃ i, x = .int i ∧ Q (g i) H
section
variable {X : Cx} {a b c : Expr} {ta tb tc : TE} {pos : Pos}
theorem binT (ha : PE X a ta) (hb : PE X b tb) {pins : List (Addr × Obj)} {s : Shared} {σ : St} {H : Hp} {R : V → V → Hp → Prop} (I : Inv X pins σ H s)
  (h : ta σ H fun x H1 => tb σ H1 fun y H2 => R x y H2) {Q : Value → Shared → Prop} {f : Value → Value → Sem Value}
  (hf : ∀ v u s2 x y H2, Inv X pins σ H2 s2 → RelV x v → RelV y u → R x y H2 → wpAny (model X.prog X.w) X.A (f v u) Q X.xe s2) :
  wpAny (model X.prog X.w) X.A (eval a X.env) (fun v s₁ => wpAny (model X.prog X.w) X.A (eval b X.env) (fun u s₂ => wpAny (model X.prog X.w) X.A (f v u) Q X.xe s₂) X.xe s₁) X.xe s := by
 refine thn (ha pins s σ H _ I h) fun v s1 ⟨x, H1, I1, r1, q1⟩ => ?_
 refine thn (hb pins s1 σ H1 _ I1 q1) fun u s2 ⟨y, H2, I2, r2, q2⟩ => ?_
 exact hf v u s2 x y H2 I2 r1 r2 q2
theorem pe_op {op : Operator} {r : R2} (ho : OpR X (binaryOp op) r) (ha : PE X a ta) (hb : PE X b tb) : PE X (.BinOp a op b pos) (tOp r ta tb) := by
 intro pins s σ H Q I h
 exact wpAny_BinOp (binT ha hb I h fun v u s2 x y H2 I2 rx ry q => ho pins s2 σ H2 x y v u Q I2 rx ry q)
theorem pe_un {op : UnaryOp} {r : V → Hp → VK → Prop} (ho : UnR X (unaryOp op) r) (ha : PE X a ta) : PE X (.UnaryOp op a pos) (tUn r ta) := by
 intro pins s σ H Q I h
 exact UnaryOp_ (thn (ha pins s σ H _ I h) fun v s1 ⟨x, H1, I1, r1, q1⟩ => ho pins s1 σ H1 x v Q I1 r1 q1)
theorem opI {f : Value → Value → Sem Value} {C : Int → Int → Prop} {g : Int → Int → Int}
  (rule : ∀ (i j : Int) (t u : Tok) (s : Shared) (Q : Value → Shared → Prop) (E : Value → Shared → Prop), C i j → Q (.int (g i j) s.toks) { s with toks := s.toks + 1 } → wpAny (model X.prog X.w) X.A (f (.int i t) (.int j u)) Q E s) :
  OpR X f (rI C fun i j => .int (g i j)) := by
 intro pins s σ H x y v u Q I rx ry h
 obtain ⟨i, j, rfl, rfl, hc, q⟩ := h
 obtain ⟨t, rfl⟩ := rx
 obtain ⟨t', rfl⟩ := ry
 exact rule i j t t' s _ _ hc ⟨.int (g i j), H, I.tok _, ⟨_, rfl⟩, q⟩
theorem opI0 {f : Value → Value → Sem Value} {g : Int → Int → Int}
  (rule : ∀ (i j : Int) (t u : Tok) (s : Shared) (Q : Value → Shared → Prop) (E : Value → Shared → Prop), Q (.int (g i j) s.toks) { s with toks := s.toks + 1 } → wpAny (model X.prog X.w) X.A (f (.int i t) (.int j u)) Q E s) :
  OpR X f (rI0 fun i j => .int (g i j)) := by
 intro pins s σ H x y v u Q I rx ry h
 obtain ⟨i, j, rfl, rfl, q⟩ := h
 obtain ⟨t, rfl⟩ := rx
 obtain ⟨t', rfl⟩ := ry
 exact rule i j t t' s _ _ ⟨.int (g i j), H, I.tok _, ⟨_, rfl⟩, q⟩
theorem opB0 {f : Value → Value → Sem Value} {g : Int → Int → Bool}
  (rule : ∀ (i j : Int) (t u : Tok) (s : Shared) (Q : Value → Shared → Prop) (E : Value → Shared → Prop), Q (.bool (g i j)) s → wpAny (model X.prog X.w) X.A (f (.int i t) (.int j u)) Q E s) :
  OpR X f (rI0 fun i j => .bl (g i j)) := by
 intro pins s σ H x y v u Q I rx ry h
 obtain ⟨i, j, rfl, rfl, q⟩ := h
 obtain ⟨t, rfl⟩ := rx
 obtain ⟨t', rfl⟩ := ry
 exact rule i j t t' s _ _ ⟨.bl (g i j), H, I, rfl, q⟩
noncomputable def CDiv (i j : Int) : Prop := 0 < j ∧ j < 1073741824
noncomputable def CPow (i j : Int) : Prop := 0 ≤ j ∧ j ≤ 1000000 ∧ i.natAbs < 2 ^ 64
noncomputable def CMul (i j : Int) : Prop := (-(2 ^ 64) < i ∧ i < 2 ^ 64) ∨ (-(2 ^ 64) < j ∧ j < 2 ^ 64)
theorem CMul.ok {i j : Int} (h : CMul i j) : IntMulOk i j := by
 rcases h with ⟨h1, h2⟩ | ⟨h1, h2⟩
 ·exact .of_left (intBits_le_64 h1 h2)
 ·exact .of_right (intBits_le_64 h1 h2)
theorem op_add : OpR X (binaryOp .Add) (rI0 fun i j => .int (i + j)) := opI0 fun _ _ _ _ _ _ _ q => add_int q
theorem op_sub : OpR X (binaryOp .Sub) (rI0 fun i j => .int (i - j)) := opI0 fun _ _ _ _ _ _ _ q => sub_int q
theorem op_mul : OpR X (binaryOp .Mult) (rI CMul fun i j => .int (i * j)) := opI fun _ _ _ _ _ _ _ hc q => mul_int q hc.ok
theorem op_fdiv : OpR X (binaryOp .FloorDiv) (rI CDiv fun i j => .int (i / j)) := opI fun i j _ _ _ _ _ hc q => by
 have h1 : (0 : Int) < j := hc.1
 have h2 : j < 1073741824 := hc.2
 exact floordiv_int (by omega) (by rw [Int.fdiv_eq_ediv_of_nonneg i (by omega)]; exact q) (.inl (PyProof.noPylong_small (by omega)))
theorem op_mod : OpR X (binaryOp .Mod) (rI (fun _ j => 0 < j) fun i j => .int (i % j)) := opI fun i j _ _ _ _ _ hc q => by
 have h1 : (0 : Int) < j := hc
 exact mod_int' (by omega) (by rw [Int.fmod_eq_emod_of_nonneg i (by omega)]; exact q)
theorem op_pow : OpR X (binaryOp .Pow) (rI CPow fun i j => .int (i ^ j.toNat)) := opI fun _ _ _ _ _ _ _ hc q => pow_int_small hc.1 hc.2.1 hc.2.2 q
theorem unI {f : Value → Sem Value} {g : Int → Int}
  (rule : ∀ (i : Int) (t : Tok) (s : Shared) (Q : Value → Shared → Prop) (E : Value → Shared → Prop), Q (.int (g i) s.toks) { s with toks := s.toks + 1 } → wpAny (model X.prog X.w) X.A (f (.int i t)) Q E s) :
  UnR X f (rU fun i => .int (g i)) := by
 intro pins s σ H x v Q I rx h
 obtain ⟨i, rfl, q⟩ := h
 obtain ⟨t, rfl⟩ := rx
 exact rule i t s _ _ ⟨.int (g i), H, I.tok _, ⟨_, rfl⟩, q⟩
theorem un_neg : UnR X (unaryOp .USub) (rU fun i => .int (-i)) := unI fun _ _ _ _ _ q => neg_int q
end
noncomputable def scal : V → V → Bool
 | .non, .non => true | .non, .int _ => true | .int _, .non => true | .non, .bl _ => true | .bl _, .non => true | .non, .str _ => true | .str _, .non => true
 | .int _, .int _ => true | .bl _, .bl _ => true | .str _, .str _ => true | .byt _, .byt _ => true
 | .int _, .str _ => true | .str _, .int _ => true | .bl _, .str _ => true | .str _, .bl _ => true
 | _, _ => false
noncomputable def rEq : R2 := fun x y H Q => scal x y = true ∧ Q (.bl (decide (x = y))) H
theorem dec_int {i j : Int} : decide (V.int i = V.int j) = (i == j) := by
 rw [Bool.eq_iff_iff]
 simp
theorem dec_bl {i j : Bool} : decide (V.bl i = V.bl j) = (i == j) := by
 rw [Bool.eq_iff_iff]
 simp
theorem dec_str {i j : Str} : decide (V.str i = V.str j) = (i == j) := by
 rw [Bool.eq_iff_iff]
 simp
theorem dec_byt {i j : Array UInt8} : decide (V.byt i = V.byt j) = (i.toList == j.toList) := by
 rw [Bool.eq_iff_iff]
 cases i
 cases j
 simp
section
variable {X : Cx} {a b c : Expr} {ta tb tc : TE} {pos : Pos}
theorem fin_bl {pins : List (Addr × Obj)} {σ : St} {H : Hp} {s : Shared} {Q : VK} {k k' : Bool} (I : Inv X pins σ H s) (q : Q (.bl k) H) (e : k = k') : EP X pins σ Q (.bool k') s := by
 subst e
 exact ⟨.bl k, H, I, rfl, q⟩
theorem op_eq : OpR X (compareOp .Eq) rEq := by
 intro pins s σ H x y v u Q I rx ry h
 obtain ⟨hs, q⟩ := h
 cases x with
 | non =>
  cases rx
  cases y with
  | non => cases ry; exact PySem.EqNone.eq_none_none (fin_bl I q (by simp))
  | bl j => cases ry; exact PySem.EqNone.eq_none_bool (fin_bl I q (by simp))
  | int j => obtain ⟨t', rfl⟩ := ry; exact PySem.EqNone.eq_none_int (fin_bl I q (by simp))
  | str j => obtain ⟨t', rfl⟩ := ry; exact PySem.EqNone.eq_none_str (fin_bl I q (by simp))
  | _ => exact absurd (show false = true from hs) Bool.false_ne_true
 | bl i =>
  cases rx
  cases y with
  | non => cases ry; exact PySem.EqNone.eq_bool_none (fin_bl I q (by simp))
  | bl j => cases ry; exact eq_bool (fin_bl I q dec_bl)
  | str j => obtain ⟨t', rfl⟩ := ry; exact PySem.EqMixed.eq_bool_str (fin_bl I q (by simp))
  | _ => exact absurd (show false = true from hs) Bool.false_ne_true
 | int i =>
  obtain ⟨t, rfl⟩ := rx
  cases y with
  | non => cases ry; exact PySem.EqNone.eq_int_none (fin_bl I q (by simp))
  | int j => obtain ⟨t', rfl⟩ := ry; exact eq_int (fin_bl I q dec_int)
  | str j => obtain ⟨t', rfl⟩ := ry; exact PySem.EqMixed.eq_int_str (fin_bl I q (by simp))
  | _ => exact absurd (show false = true from hs) Bool.false_ne_true
 | str i =>
  obtain ⟨t, rfl⟩ := rx
  cases y with
  | non => cases ry; exact PySem.EqNone.eq_str_none (fin_bl I q (by simp))
  | bl j => cases ry; exact PySem.EqMixed.eq_str_bool (fin_bl I q (by simp))
  | int j => obtain ⟨t', rfl⟩ := ry; exact PySem.EqMixed.eq_str_int (fin_bl I q (by simp))
  | str j => obtain ⟨t', rfl⟩ := ry; exact eq_str (fin_bl I q dec_str)
  | _ => exact absurd (show false = true from hs) Bool.false_ne_true
 | byt i =>
  obtain ⟨t, rfl⟩ := rx
  cases y with
  | byt j => obtain ⟨t', rfl⟩ := ry; exact PySem.W.eq_bytes (fin_bl I q dec_byt)
  | _ => exact absurd (show false = true from hs) Bool.false_ne_true
 | _ => cases y <;> exact absurd (show false = true from hs) Bool.false_ne_true
theorem op_lt : OpR X (compareOp .Lt) (rI0 fun i j => .bl (decide (i < j))) := opB0 fun _ _ _ _ _ _ _ q => lt_int q
theorem op_gt : OpR X (compareOp .Gt) (rI0 fun i j => .bl (decide (j < i))) := opB0 fun _ _ _ _ _ _ _ q => gt_int q
theorem op_ge : OpR X (compareOp .GtE) (rI0 fun i j => .bl (decide (j ≤ i))) := opB0 fun _ _ _ _ _ _ _ q => ge_int q
theorem OpR.or {f : Value → Value → Sem Value} {r r' : R2} (h : OpR X f r) (h' : OpR X f r') : OpR X f (fun x y H Q => r x y H Q ∨ r' x y H Q) := by
 intro pins s σ H x y v u Q I rx ry q
 rcases q with q | q
 ·exact h pins s σ H x y v u Q I rx ry q
 ·exact h' pins s σ H x y v u Q I rx ry q
theorem nomark (b : Expr) {op : CmpOp} (h : op ≠ .In := by decide) (h2 : op ≠ .NotIn := by decide) : behindInMarks op b = false := by
 have e1 : (op == CmpOp.In) = false := by cases op <;> first | rfl | exact absurd rfl h
 have e2 : (op == CmpOp.NotIn) = false := by cases op <;> first | rfl | exact absurd rfl h2
 cases b <;> simp [behindInMarks, e1, e2]
theorem pe_cmpR {op : CmpOp} {r : R2} (ho : OpR X (compareOp op) r) (ha : PE X a ta) (hb : PE X b tb) (hm : behindInMarks op b = false) : PE X (.Compare a [op] [b] pos) (tOp r ta tb) := by
 intro pins s σ H Q I h
 exact wpAny_Compare1 (binT ha hb I h fun v u s2 x y H2 I2 rx ry q => ho pins s2 σ H2 x y v u Q I2 rx ry q) hm
noncomputable def tTest (t : TE) : TT := fun σ H Q => t σ H fun x H' => ∃ k, x = .bl k ∧ Q k H'
theorem pt_cmpR {op : CmpOp} {r : R2} (ho : OpR X (compareOp op) r) (ha : PE X a ta) (hb : PE X b tb) (hm : behindInMarks op b = false) : PT X (.Compare a [op] [b] pos) (tTest (tOp r ta tb)) := by
 intro pins s σ H Q I h
 refine wpAny_isTrue_Compare1 (thn (ha pins s σ H _ I h) fun v s1 ⟨x, H1, I1, r1, q1⟩ => thn (hb pins s1 σ H1 _ I1 q1) fun u s2 ⟨y, H2, I2, r2, q2⟩ =>
  thn (ho pins s2 σ H2 x y v u _ I2 r1 r2 q2) fun c s3 ⟨z, H3, I3, r3, k, e, q3⟩ => ?_) hm
 subst e
 cases r3
 exact wpAny_truthy_bool ⟨H3, I3, q3⟩
theorem line63 : (sizeLine : Nat) < 2 ^ 63 := by rw [sizeLine_eq]; decide
theorem vals1 {x : V} {us : List Value} (r : Vals [x] us) : ∃ u, us = [u] ∧ RelV x u := by
 cases r with
 | cons r1 r2 => cases r2; exact ⟨_, rfl, r1⟩
theorem vals2 {x y : V} {us : List Value} (r : Vals [x, y] us) : ∃ u w', us = [u, w'] ∧ RelV x u ∧ RelV y w' := by
 cases r with
 | cons r1 r2 =>
  cases r2 with
  | cons r3 r4 => cases r4; exact ⟨_, _, rfl, r1, r3⟩
theorem call_abs : CallR X (.builtin "abs") (fun xs H Q => ∃ i, xs = [.int i] ∧ Q (.int (if i < 0 then -i else i)) H) := by
 intro pins s σ H xs us Q I r h
 obtain ⟨i, rfl, q⟩ := h
 obtain ⟨u, rfl, t, rfl⟩ := vals1 r
 exact call_abs_int fun u tk => ⟨.int (if i < 0 then -i else i), H, I.tok _, ⟨_, rfl⟩, q⟩
end
end L2
namespace L2
open PySem PySem.Spec PyProof.Rows
structure ObjM (h : Heap) (x dx C : Addr) (mA : Str → Option Value) : Prop where
 obj : h.get? x = some (PySem.W.instObj C dx)
 ns : h.Ns1 dx mA
 ne : dx ≠ x
theorem lookIn_ns {h : Heap} {dx : Addr} {mA : Str → Option Value} (n : h.Ns1 dx mA) : ∃ od, h.get? dx = some od ∧ ∀ name, PySem.W.lookIn name od = some (mA name) := by
 obtain ⟨o, es, ep, ho, hd, hk, _, hm⟩ := n
 refine ⟨o, ho, fun name => ?_⟩
 have e := hm name
 unfold nsFind findBy at e
 rw [← Array.find?_toList] at e
 unfold PySem.W.lookIn
 rw [hd]
 dsimp only
 split
 ·rename_i y q
  rw [q] at e
  exact congrArg some e
 ·rename_i q
  rw [q] at e
  have a : es.toList.any (·.refKey) = false := by
   rw [List.any_eq_false]
   intro y hy
   obtain ⟨z, t, hkey⟩ := hk y (Array.mem_toList_iff.mp hy)
   simp [DictEntry.refKey, hkey]
  have a' : ¬ es.toList.any (·.refKey) = true := by rw [a]; exact Bool.false_ne_true
  rw [if_neg a']
  exact congrArg some e
theorem ObjM.look {h : Heap} {x dx C : Addr} {mA : Str → Option Value} (I : ObjM h x dx C mA) : ∃ od, PySem.W.InstAt h x (PySem.W.instObj C dx) C (some od) ∧ ∀ name, PySem.W.lookIn name od = some (mA name) :=
 let ⟨od, ho, hl⟩ := lookIn_ns I.ns
 ⟨od, ⟨I.obj, rfl, rfl, ho⟩, hl⟩
section
variable {prog : Program} {w : World} {A : Around} {E : Value → Shared → Prop} {s : Shared} {K : PySem.W.Frag} {x dx C f : Addr} {mA : Str → Option Value} {name : Str} {v : Value}
end
section
variable {P : Program} {w : World} {H H' : Hp} {h h' : Heap} {a C dx : Addr} {fs fs' : List (Str × V)}
theorem ins_get (hok : HOk P w H h) (e : H a = some (.ins C dx fs)) : ∃ mA, ObjM h a dx C mA ∧ (∀ f, RelO (fs.lookup f) (mA f)) ∧ PySem.Within mA (fs.map (·.1)) ∧ fs.length ≤ 1000 ∧ H dx = some (.own a) := by
 obtain ⟨d, z, ne, ob, mA, n, r, q⟩ := (show ObjOk P w H h a (.ins C dx fs) from hok a _ e)
 exact ⟨mA, ⟨ob, n, ne⟩, r, q, z, d⟩
end
structure Cls (K : PySem.W.Frag) (C : Addr) : Prop where
 pg : PySem.W.plainGet K C Str.empty = true
 hd : PySem.W.hasDictIn K C = true
 po : PySem.W.plainOver K C = true
 sa : PySem.W.findIn K (.ref C) "__setattr__" = some (some (.builtin "object.__setattr__"))
theorem Cls.get {K : PySem.W.Frag} {C : Addr} (c : Cls K C) (f : Str) : PySem.W.plainGet K C f = true := c.pg
structure Con (K : PySem.W.Frag) (C : Addr) (f : Str) (v : V) (u : Value) : Prop where
 at_ : PySem.W.findIn K (.ref C) f = some (some u)
 rel : RelV v u
 get : PySem.W.specialIn K u "__get__" = some none
 cp : PySem.W.copiedNames.contains f = false
structure Meth (K : PySem.W.Frag) (C : Addr) (m : Str) (f : Addr) : Prop where
 at_ : PySem.W.findIn K (.ref C) m = some (some (.ref f))
 fn : PySem.W.isFn K (.ref f) = true
 kp : PySem.W.keepIn K (.ref f) = true
section
variable {X : Cx} {pins : List (Addr × Obj)} {σ : St} {H : Hp} {s : Shared} {a C dx : Addr} {fs : List (Str × V)} {f : Str} {v : V} {A : Around} {E : Value → Shared → Prop}
theorem Inv.made (I : Inv X pins σ H s) : Inv X pins σ (upd (upd H s.heap.objs.size (.own (s.heap.objs.size + 1))) (s.heap.objs.size + 1) (.ins C s.heap.objs.size []))
  { s with heap := (s.heap.push PySem.W.emptyDict).push (PySem.W.instObj C s.heap.objs.size) } := by
 have e1 : (s.heap.push PySem.W.emptyDict).get? s.heap.objs.size = some PySem.W.emptyDict := Heap.get?_push_size s.heap rfl
 have e2 : ((s.heap.push PySem.W.emptyDict).push (PySem.W.instObj C s.heap.objs.size)).get? (s.heap.objs.size + 1) = some (PySem.W.instObj C s.heap.objs.size) := by
  have := Heap.get?_push_size (s.heap.push PySem.W.emptyDict) (o := PySem.W.instObj C s.heap.objs.size) rfl
  rwa [Heap.size_push] at this
 have e3 : (s.heap.push PySem.W.emptyDict).Ns s.heap.objs.size (fun _ => none) := ⟨PySem.W.emptyDict, #[], _, e1, rfl, (fun e he => absurd he (by simp)), fun _ => rfl⟩
 have I1 := I.laid (a := s.heap.objs.size) (o := .own (s.heap.objs.size + 1)) (h' := s.heap.push PySem.W.emptyDict) (t' := s.toks) (fun b u q => Heap.get?_push_of_some _ q) (Nat.le_refl _) ⟨_, e1⟩
 refine I1.laid (a := s.heap.objs.size + 1) (o := .ins C s.heap.objs.size []) (t' := s.toks) (fun b u q => Heap.get?_push_of_some _ q) (Nat.le_of_eq (Heap.size_push _ _)) ?_
 have ne : s.heap.objs.size ≠ s.heap.objs.size + 1 := Nat.ne_of_lt (Nat.lt_succ_self _)
 refine ⟨by rw [upd_ne ne, upd_same], Nat.zero_le _, ne, e2, fun _ => none, (Heap.Ns1.of_empty e3).at fun o q => Heap.get?_push_of_some _ q, fun _ => True.intro, fun y hy => absurd rfl hy⟩
end
section
variable {X : Cx} {o e value : Expr} {f : Str} {pos pos' tpos : Pos} {ta tv : TE}
end
section
variable {X : Cx} {pins : List (Addr × Obj)} {σ : St} {H : Hp} {s : Shared} {A : Around} {E : Value → Shared → Prop} {Q : Value → Shared → Prop} {c : Value} {b : Bool}
inductive TyOf (K : PySem.W.Frag) (H : Hp) : V → Value → Prop where
 | non : TyOf K H .non (.type "NoneType")
 | bl (x : Bool) : TyOf K H (.bl x) (.type "bool")
 | int (i : Int) : TyOf K H (.int i) (.type "int")
 | str (x : Str) : TyOf K H (.str x) (.type "str")
 | flt (x : UInt64) : TyOf K H (.flt x) (.type "float")
 | lst {a : Addr} {xs : List V} (e : H a = some (.lst xs)) : TyOf K H (.ref a) (.type "list")
 | frz {a : Addr} {o : Obj} {xs : List V} (e : H a = some (.frz o (.lst xs))) : TyOf K H (.ref a) (.type "list")
 | tup {a : Addr} {xs : List V} (e : H a = some (.tup xs)) : TyOf K H (.ref a) (.type "tuple")
 | dK {a : Addr} {kvs : List (Key × V)} (e : H a = some (.dK kvs)) : TyOf K H (.ref a) (.type "dict")
 | dT {a : Addr} {kvs : List (List Key × V)} (e : H a = some (.dT kvs)) : TyOf K H (.ref a) (.type "dict")
 | ins {a C dx : Addr} {fs : List (Str × V)} (e : H a = some (.ins C dx fs)) (cl : Cls K C) (ha : PySem.W.findIn K (.ref C) "__class__" = some (some (.builtin "object.__class__")))
   (hn : PySem.W.specialIn K (.builtin "object.__class__") "__get__" = some (some (.builtin "getset_descriptor.__get__"))) (htk : PySem.W.takesIn K (.builtin "object.__class__") = some true)
   (hm : PySem.W.mroIn K C (.type "object") = some true) : TyOf K H (.ref a) (.ref C)
theorem isinst_ok {x : V} {u t : Value} (I : Inv X pins σ H s) (rx : RelV x u) (ty : TyOf X.K H x t) (e : PySem.W.kitOne X.K t c = some b) (h : ∀ tk, Q (.bool b) { s with toks := tk }) :
  wpAny (model X.prog X.w) A (call (.builtin "isinstance") [u, c]) Q E s := by
 cases ty with
 | non => cases (show u = Value.none from rx); exact PySem.W.kia_one PySem.W.kitx_none I.kIn True.intro e (fun z => nomatch z) h
 | bl y => cases (show u = Value.bool y from rx); exact PySem.W.kia_one PySem.W.kitx_bool I.kIn True.intro e (fun z => nomatch z) h
 | int i => obtain ⟨t, q⟩ := (show ∃ t, u = Value.int i t from rx); cases q; exact PySem.W.kia_one PySem.W.kitx_int I.kIn True.intro e (fun z => nomatch z) h
 | str y => obtain ⟨t, q⟩ := (show ∃ t, u = Value.str y t from rx); cases q; exact PySem.W.kia_one PySem.W.kitx_str I.kIn True.intro e (fun z => nomatch z) h
 | flt y => obtain ⟨t, q⟩ := (show ∃ t, u = Value.float y t from rx); cases q; exact PySem.W.kia_one PySem.W.kitx_float I.kIn True.intro e (fun z => nomatch z) h
 | @lst a xs ea =>
  cases (show u = Value.ref a from rx)
  obtain ⟨_, _, n, _, h1⟩ := (show ObjOk X.prog X.w H s.heap a (.lst xs) from I.hok a _ ea)
  exact PySem.W.kia_one PySem.W.kitx_list I.kIn ⟨_, h1, rfl⟩ e (fun z => nomatch z) h
 | @frz a ob xs ea =>
  cases (show u = Value.ref a from rx)
  obtain ⟨_, _, _, n, _, h1⟩ := (show ObjOk X.prog X.w H s.heap a (.frz ob (.lst xs)) from I.hok a _ ea)
  exact PySem.W.kia_one PySem.W.kitx_list I.kIn ⟨_, h1, rfl⟩ e (fun z => nomatch z) h
 | @tup a xs ea =>
  cases (show u = Value.ref a from rx)
  obtain ⟨_, _, _, p⟩ := (show ObjOk X.prog X.w H s.heap a (.tup xs) from I.hok a _ ea)
  obtain ⟨o, h1, h2, _⟩ := p
  exact PySem.W.kia_one PySem.W.kitx_tuple I.kIn ⟨o, h1, h2⟩ e (fun z => nomatch z) h
 | @dK a kvs ea =>
  cases (show u = Value.ref a from rx)
  obtain ⟨_, _, vs, _, p⟩ := (show ObjOk X.prog X.w H s.heap a (.dK kvs) from I.hok a _ ea)
  obtain ⟨o, es, ep, h1, h2, _⟩ := p
  exact PySem.W.kia_one PySem.W.kitx_dict I.kIn ⟨o, h1, h2.1⟩ e (fun z => nomatch z) h
 | @dT a kvs ea =>
  cases (show u = Value.ref a from rx)
  obtain ⟨_, _, xs, _, o, es, ep, h1, h2, _⟩ := (show ObjOk X.prog X.w H s.heap a (.dT kvs) from I.hok a _ ea)
  exact PySem.W.kia_one PySem.W.kitx_dict I.kIn ⟨o, h1, h2.1⟩ e (fun z => nomatch z) h
 | @ins a C dx fs ea cl ha hn htk hm =>
  cases (show u = Value.ref a from rx)
  obtain ⟨mA, O, _⟩ := ins_get I.hok ea
  obtain ⟨od, J, _⟩ := O.look
  exact PySem.W.kia_one (PySem.W.kitx_own (cl.get _) cl.hd ha hn htk hm) I.kIn J e (fun z => nomatch z) h
end
end L2
namespace L2
open PySem PySem.Spec PyProof.Rows
structure Room (k : Nat) (A : Around) : Prop where
 hd : A.handled = none
 dp : A.depth + 3 * k + 5 < recursionLimit
 un : A.units + 16 * k + 200 < cLine
theorem Room.mono {j k : Nat} {A : Around} (r : Room k A) (h : j ≤ k) : Room j A := ⟨r.hd, by have := r.dp; omega, by have := r.un; omega⟩
theorem Room.deeper {k : Nat} {A : Around} (r : Room (k + 1) A) (env : Env) : Room k (A.deeper env) :=
 ⟨r.hd, by have := r.dp; show A.depth + 1 + 3 * k + 5 < _; omega, by have := r.un; show A.units + 3 + 16 * k + 200 < _; omega⟩
theorem Room.depth {k : Nat} {A : Around} (r : Room k A) : A.depth < recursionLimit := by have := r.dp; omega
theorem Room.units {k : Nat} {A : Around} (r : Room k A) : A.units + 64 < cLine := by have := r.un; omega
noncomputable def tNil : TA := fun _ H Q => Q [] H
noncomputable def tCons (ta : TE) (tr : TA) : TA := fun σ H Q => ta σ H fun x H1 => tr σ H1 fun xs H2 => Q (x :: xs) H2
section
variable {X : Cx} {e : Expr} {es : List Expr} {te : TE} {t : TA} {pos : Pos}
theorem pa_nil : PA X [] tNil := fun _ _ _ _ H Q I h => Calls.spliced_nil ⟨[], H, I, .nil, h⟩
theorem pa_cons (ha : PE X e te) (hr : PA X es t) (hs : starEach (e :: es) X.env = (false, eval e X.env) :: starEach es X.env := by rfl) : PA X (e :: es) (tCons te t) := by
 intro pos pins s σ H Q I h
 rw [hs]
 show wpAny _ _ (spliced ((false, eval e X.env) :: backTo pos (starEach es X.env))) _ _ s
 refine Calls.spliced_cons (thn (ha pins s σ H _ I h) fun u s1 ⟨x, H1, I1, r1, q1⟩ => ?_)
 exact thn (hr pos pins s1 σ H1 _ I1 q1) fun us s2 ⟨xs, H2, I2, r2, q2⟩ => ⟨x :: xs, H2, I2, .cons r1 r2, q2⟩
noncomputable def tTup (t : TA) : TE := fun σ H Q => t σ H fun xs H1 => xs.length ≤ sizeLine ∧ ∀ p, H1 p = none → Q (.ref p) (upd H1 p (.tup xs))
noncomputable def tLst (t : TA) : TE := fun σ H Q => t σ H fun xs H1 => xs.length ≤ sizeLine ∧ ∀ p, H1 p = none → Q (.ref p) (upd H1 p (.lst xs))
theorem pe_tup {x1} (h : PA X es t) : PE X (.Tuple es x1 pos) (tTup t) := by
 intro pins s σ H Q I hq
 refine wpAny_Tuple_spliced (thn (h pos pins s σ H _ I hq) fun us s1 ⟨xs, H1, I1, r, z, q⟩ => ⟨by rw [← r.length]; exact z, ?_⟩)
 have hf : H1 s1.heap.objs.size = none := I1.hok.fresh (Nat.le_refl _)
 refine ⟨.ref s1.heap.objs.size, upd H1 s1.heap.objs.size (.tup xs), I1.laid (t' := s1.toks) (fun b u e => Heap.get?_push_of_some _ e) (Nat.le_refl _) ?_, rfl, q _ hf⟩
 exact ⟨z, us, r, ⟨_, Heap.get?_push_size _ rfl, rfl, _, rfl⟩⟩
theorem pe_lst (h : PA X es t) : PE X (.List es pos) (tLst t) := by
 intro pins s σ H Q I hq
 refine wpAny_List_spliced (thn (h pos pins s σ H _ I hq) fun us s1 ⟨xs, H1, I1, r, z, q⟩ => ⟨by rw [← r.length]; exact z, ?_⟩)
 have hf : H1 s1.heap.objs.size = none := I1.hok.fresh (Nat.le_refl _)
 refine ⟨.ref s1.heap.objs.size, upd H1 s1.heap.objs.size (.lst xs), I1.laid (t' := s1.toks) (fun b u e => Heap.get?_push_of_some _ e) (Nat.le_refl _) ?_, rfl, q _ hf⟩
 exact ⟨z, us, 0, r, Heap.get?_push_size _ rfl⟩
end
abbrev Sp := List V → Hp → VK → XK → Prop
abbrev CXT := List Env → Hp → Shared → XK → Value → Shared → Prop
structure Env0 (P : Program) (w : World) (K : PySem.W.Frag) (mg : Str → Option Value) (base : Heap) (A : Around) (outer : List Env) (s : Shared) (H : Hp) : Prop where
 frames : A.frames = some outer
 mod : Mod K mg base
 bs : ∀ b o, base.get? b = some o → s.heap.get? b = some o ∧ H b = none
 bsz : base.objs.size ≤ s.heap.objs.size
 funs : s.heap.FunFrames base outer
 frf : ∀ b ∈ frs outer, H b = none
 hok : HOk P w H s.heap
 bare : AllBare s.gens
noncomputable def CE (outer : List Env) (P : Program) (w : World) (H : Hp) (s : Shared) (Q : VK) (u : Value) (s' : Shared) : Prop :=
 ∃ v H', s'.os = s.os ∧ AllBare s'.gens ∧ Un (frs outer) [] H H' s.heap s'.heap ∧ HOk P w H' s'.heap ∧ RelV v u ∧ Q v H'
noncomputable def CR (CX : CXT) (outer : List Env) (P : Program) (w : World) (H : Hp) (s : Shared) (Q : VK) (E : XK) (r : Result) (s' : Shared) : Prop :=
 match r with
 | .ok (.ret u) => CE outer P w H s Q u s'
 | .ok _ => False
 | .error e => CX outer H s E e s'
structure FnOk (P : Program) (w : World) (K : PySem.W.Frag) (mg : Str → Option Value) (base : Heap) (CX : CXT) (k : Nat) (f : Addr) (fd : FuncData) (ps : List Str) (sp : Sp) : Prop where
 len : ∀ vs H Q E, sp vs H Q E → vs.length = ps.length
 run : ∀ (A : Around) (outer : List Env) (s : Shared) (H : Hp) (args : Args) (us : List Value) (vs : List V) (Q : VK) (E : XK), Room k A → Env0 P w K mg base A outer s H → BindsTo s fd args (ps.zip us) → Vals vs us → sp vs H Q E →
  codeAny (model P w) A (.call (.ref f) args) (CR CX outer P w H s Q E) s
theorem FnOk.mono {P : Program} {w : World} {K : PySem.W.Frag} {mg : Str → Option Value} {base : Heap} {CX : CXT} {j k : Nat} {f : Addr} {fd : FuncData} {ps : List Str} {sp : Sp} (F : FnOk P w K mg base CX j f fd ps sp) (h : j ≤ k) :
  FnOk P w K mg base CX k f fd ps sp := ⟨F.len, fun A outer s H args us vs Q E hr => F.run A outer s H args us vs Q E (hr.mono h)⟩
theorem FnOk.imp {P : Program} {w : World} {K : PySem.W.Frag} {mg : Str → Option Value} {base : Heap} {CX : CXT} {k : Nat} {f : Addr} {fd : FuncData} {ps : List Str} {sp sp' : Sp} (F : FnOk P w K mg base CX k f fd ps sp)
  (h : ∀ vs H Q E, sp' vs H Q E → sp vs H Q E) : FnOk P w K mg base CX k f fd ps sp' :=
 ⟨fun vs H Q E q => F.len vs H Q E (h _ _ _ _ q), fun A outer s H args us vs Q E hr he hb hv hs => F.run A outer s H args us vs Q E hr he hb hv (h _ _ _ _ hs)⟩
section
variable {X : Cx} {pins : List (Addr × Obj)} {σ : St} {H : Hp} {s s' : Shared}
theorem Inv.env0 (I : Inv X pins σ H s) : Env0 X.prog X.w X.K X.mg X.base X.A X.stack s H :=
 ⟨I.ok.frames, I.ok.mod, I.bs, Nat.le_trans I.ok.bsz I.sz, I.stack, I.stkFree, I.hok, I.bare⟩
theorem Inv.after {Q : VK} {u : Value} (I : Inv X pins σ H s) (h : CE X.stack X.prog X.w H s Q u s') : EP X pins σ Q u s' := by
 obtain ⟨v, H', os, bare, un, hok, r, q⟩ := h
 obtain ⟨hh, g, d, t, os'⟩ := s'
 obtain rfl : os' = s.os := os
 exact ⟨v, H', I.call (h' := hh) (g' := g) (d' := d) (t' := t) (ch := []) un hok bare (fun b z => absurd z (by simp)), r, q⟩
end
noncomputable def tCall (sp : Sp) (dvs : List V) (E : XK) (t : TA) : TE := fun σ H Q => t σ H fun vs H1 => sp (vs ++ dvs) H1 Q E
noncomputable def Binds (K : PySem.W.Frag) (fd : FuncData) (ps : List Str) (ds : List Value) : Prop :=
 ∀ (s : Shared) (us : List Value), K.In s.heap → (us ++ ds).length = ps.length → BindsTo s fd ⟨us, []⟩ (ps.zip (us ++ ds))
theorem Binds.all {K : PySem.W.Frag} {fd : FuncData} {ps : List Str} (h : ∀ us : List Value, us.length = ps.length → bindArgs fd ⟨us, []⟩ = pure (ps.zip us)) : Binds K fd ps [] := fun s us _ hl => by
 rw [List.append_nil] at hl ⊢
 exact .of_eq (h us hl)
noncomputable def Passes (CX : CXT) (X : Cx) (E : XK) : Prop := ∀ (pins : List (Addr × Obj)) (σ : St) (H : Hp) (s : Shared) (e : Value) (s' : Shared), Inv X pins σ H s → CX X.stack H s E e s' → X.xe e s'
section
variable {X : Cx} {CX : CXT} {k : Nat} {f C : Addr} {fd : FuncData} {ps : List Str} {sp : Sp} {dvs : List V} {ds : List Value} {E : XK} {x m : Str} {p pos apos : Pos} {e o : Expr} {es : List Expr} {ta : TE} {t : TA}
theorem run_fn {pins : List (Addr × Obj)} {σ : St} {H : Hp} {s : Shared} {Q : VK} {us : List Value} {vs : List V} (F : FnOk X.prog X.w X.K X.mg X.base CX k f fd ps sp) (hr : Room k X.A) (hb : Binds X.K fd ps ds) (hd : Vals dvs ds) (hx : Passes CX X E)
  (I : Inv X pins σ H s) (r : Vals vs us) (h : sp (vs ++ dvs) H Q E) : wpAny (model X.prog X.w) X.A (call (.ref f) us) (EP X pins σ Q) X.xe s := by
 have r2 : Vals (vs ++ dvs) (us ++ ds) := r.append hd
 have hl : (us ++ ds).length = ps.length := by rw [← r2.length]; exact F.len _ _ _ _ h
 refine wpAny_call (codeAny_mono (F.run X.A X.stack s H ⟨us, []⟩ (us ++ ds) (vs ++ dvs) Q E hr I.env0 (hb s us I.kIn hl) r2 h) fun r s' hq => ?_)
 cases r with
 | error e => exact hx pins σ H s e s' I hq
 | ok fl =>
  cases fl with
  | ret u => exact I.after hq
  | next => exact False.elim hq
  | brk => exact False.elim hq
  | cont => exact False.elim hq
theorem pe_call (F : FnOk X.prog X.w X.K X.mg X.base CX k f fd ps sp) (hr : Room k X.A) (hg : Gl X x) (hm : X.mg x = some (.ref f)) (hk : PySem.W.keepIn X.K (.ref f) = true) (hb : Binds X.K fd ps ds) (hd : Vals dvs ds) (hx : Passes CX X E)
  (ha : PA X (e :: es) t) (hdb : (x == ("__debug__" : Str)) = false := by decide) (he : starEach (e :: es) X.env = (false, eval e X.env) :: starEach es X.env := by rfl) (hpl : (backTo pos (starEach es X.env)).any (·.1) = false := by rfl) :
  PE X (.Call (.Name x p) (e :: es) [] pos) (tCall sp dvs E t) := by
 intro pins s σ H Q I h
 refine wpAny_Call_Name_kw (ld_glob I hg hm ?_ hdb)
 refine PySem.W.callWith_K (h₀ := X.base) I.ok.mod.kin hk (thn (ha pos pins s σ H _ I h) fun us s1 ⟨vs, H1, I1, r, q⟩ => ⟨I1.kIn, ?_⟩) he hpl
 exact run_fn F hr hb hd hx I1 r q
structure Mk (K : PySem.W.Frag) (C f : Addr) : Prop where
 makes : PySem.W.makesIn K C = true
 init : PySem.W.findIn K (.ref C) "__init__" = some (some (.ref f))
 fn : PySem.W.isFn K (.ref f) = true
 kp : PySem.W.keepIn K (.ref C) = true
end
section
variable {X : Cx} {CX : CXT} {k : Nat} {f C : Addr} {fd : FuncData} {ps ks : List Str} {sp : Sp} {E : XK} {x m : Str} {p pos apos kpos : Pos} {e o : Expr} {es : List Expr} {kws : List Keyword} {te ta : TE} {t tk : TA} {nm : Option Str}
structure KBinds (K : PySem.W.Frag) (fd : FuncData) (ps ks : List Str) (g : List Value → List Value → List Value) (gV : List V → List V → List V) : Prop where
 to : ∀ (s : Shared) (us ws : List Value), K.In s.heap → (g us ws).length = ps.length → BindsTo s fd ⟨us, ks.zip ws⟩ (ps.zip (g us ws))
 rel : ∀ {vs : List V} {us : List Value} {zs : List V} {ws : List Value}, Vals vs us → Vals zs ws → Vals (gV vs zs) (g us ws)
variable {g : List Value → List Value → List Value} {gV : List V → List V → List V}
end
structure FnScope (N P : List Str) (sc : Scope) : Prop where
 kind : sc.kind = .function
 co : sc.isCoroutine = false
 gen : sc.isGenerator = false
 nd : N.Nodup
 pre : N.take P.length = P
 par : ∀ x ∈ P, sc.names.lookup x = some .local ∨ sc.names.lookup x = some .cell
 nofree : ∀ y ∈ sc.names, y.2 ≠ .free
theorem bindL_out {kindOf : Str → Option NameKind} {x : Str} : ∀ {binds : List (Str × Value)} {m : Str → Option Value}, (∀ v, (x, v) ∉ binds) → bindL kindOf binds m x = m x
 | [], _, _ => rfl
 | (n, v) :: r, m, h => by
  unfold bindL
  rw [bindL_out fun w hw => h w (List.mem_cons_of_mem _ hw)]
  split
  ·have : x ≠ n := by rintro rfl; exact h v List.mem_cons_self
   simp [this]
  ·rfl
theorem bindC_out {kindOf : Str → Option NameKind} {x : Str} : ∀ {binds : List (Str × Value)} {m : Str → Option Value}, (∀ v, (x, v) ∉ binds) → bindC kindOf binds m x = m x
 | [], _, _ => rfl
 | (n, v) :: r, m, h => by
  unfold bindC
  rw [bindC_out fun w hw => h w (List.mem_cons_of_mem _ hw)]
  split
  ·rfl
  ·have : x ≠ n := by rintro rfl; exact h v List.mem_cons_self
   simp [this]
theorem bindL_get {kindOf : Str → Option NameKind} {x : Str} {v : Value} : ∀ {P : List Str} {vs : List Value} {i : Nat} {m : Str → Option Value}, P.Nodup → P[i]? = some x → vs[i]? = some v → kindOf x = some .local →
  bindL kindOf (P.zip vs) m x = some v
 | [], _, _, _, _, h, _, _ => by simp at h
 | _ :: _, [], _, _, _, _, h, _ => by simp at h
 | p :: P, w :: vs, 0, m, nd, h1, h2, hk => by
  simp at h1 h2; subst h1; subst h2
  show bindL kindOf ((p, w) :: P.zip vs) m p = _
  unfold bindL
  rw [bindL_out fun v hv => (List.nodup_cons.mp nd).1 (List.of_mem_zip hv).1, if_pos hk]
  simp
 | p :: P, w :: vs, i + 1, m, nd, h1, h2, hk => by
  show bindL kindOf ((p, w) :: P.zip vs) m x = _
  unfold bindL
  exact bindL_get (i := i) (List.nodup_cons.mp nd).2 (by simpa using h1) (by simpa using h2) hk
theorem bindC_get {kindOf : Str → Option NameKind} {x : Str} {v : Value} : ∀ {P : List Str} {vs : List Value} {i : Nat} {m : Str → Option Value}, P.Nodup → P[i]? = some x → vs[i]? = some v → kindOf x ≠ some .local →
  bindC kindOf (P.zip vs) m x = some v
 | [], _, _, _, _, h, _, _ => by simp at h
 | _ :: _, [], _, _, _, _, h, _ => by simp at h
 | p :: P, w :: vs, 0, m, nd, h1, h2, hk => by
  simp at h1 h2; subst h1; subst h2
  show bindC kindOf ((p, w) :: P.zip vs) m p = _
  unfold bindC
  rw [bindC_out fun v hv => (List.nodup_cons.mp nd).1 (List.of_mem_zip hv).1, if_neg hk]
  simp
 | p :: P, w :: vs, i + 1, m, nd, h1, h2, hk => by
  show bindC kindOf ((p, w) :: P.zip vs) m x = _
  unfold bindC
  exact bindC_get (i := i) (List.nodup_cons.mp nd).2 (by simpa using h1) (by simpa using h2) hk
noncomputable def start (N : List Str) (vs : List V) : St := vs.map some ++ List.replicate (N.length - vs.length) none
noncomputable def cxOf (CX : CXT) (P : Program) (w : World) (K : PySem.W.Frag) (mg : Str → Option Value) (base : Heap) (N : List Str) (qual : Str) (scope : Scope) (f : Addr) (cd : Value) (A : Around) (outer : List Env) (s : Shared) (H : Hp) (E : XK) : Cx where
 prog := P
 w := w
 K := K
 mg := mg
 base := base
 A := A.deeper (envOfC qual scope s.heap.objs.size f cd)
 N := N
 s₀ := s
 H₀ := H
 env := envOfC qual scope s.heap.objs.size f cd
 outer := outer
 stack := envOfC qual scope s.heap.objs.size f cd :: outer
 ex := []
 calm := true
 fn := fun _ => true
 pn := []
 xe := fun e s' => wpAny (model P w) (A.deeper (envOfC qual scope s.heap.objs.size f cd)) (leaving (envOfC qual scope s.heap.objs.size f cd) e) (fun _ s'' => CX outer H s E e s'') (fun e' s'' => CX outer H s E e' s'') s'
theorem cell_has {sc : Scope} {n : Nat} {x : Str} (h : sc.names.lookup x = some .cell) : ∃ c, (cellsFrom n sc.names []).lookup x = some c := by
 have q := PySem.W.cellsFrom_some sc.names n [] (.inl h)
 exact Option.isSome_iff_exists.mp q
theorem inv_start {CX : CXT} {P : Program} {w : World} {K : PySem.W.Frag} {mg : Str → Option Value} {base : Heap} {N ps : List Str} {qual : Str} {scope : Scope} {f : Addr} {cd : Value} {A : Around} {outer : List Env} {s s1 : Shared} {H : Hp} {E : XK} {us : List Value} {vs : List V}
  (S : FnScope N ps scope) (hd : A.handled = none) (e0 : Env0 P w K mg base A outer s H) (hl : vs.length = ps.length) (r : Vals vs us)
  (x : InCallC s s.heap.objs.size (bindL (envOfC qual scope s.heap.objs.size f cd).kindOf (ps.zip us) fun _ => none) (cellsFrom (s.heap.objs.size + 1) scope.names []) (bindC (envOfC qual scope s.heap.objs.size f cd).kindOf (ps.zip us) fun _ => none) s1) :
  Inv (cxOf CX P w K mg base N qual scope f cd A outer s H E) [] (start N vs) H s1 := by
 have hpl : ps.length ≤ N.length := by have := congrArg List.length S.pre; rw [List.length_take] at this; omega
 obtain ⟨h1, tk, rfl, hk⟩ := x.done
 have noA : ∀ b : Addr, b ∉ (cxOf CX P w K mg base N qual scope f cd A outer s H E).ex := fun b z => absurd (show b ∈ ([] : List Addr) from z) (by simp)
 refine ⟨⟨e0.mod, S.kind, rfl, rfl, Nat.le_refl _, fun y z c h1 h2 => ?_, fun y hy => ?_, fun y c _ h => ?_, fun _ => hd, Around.frames_deeper e0.frames, .inr ⟨rfl, rfl⟩, fun b z => absurd z (noA b), e0.bs, e0.bsz, fun b _ _ => noA b, fun b z => absurd z (noA b), e0.funs, e0.frf⟩,
  rfl, e0.bare, Un.kept hk, ⟨_, x.toInCall.ns, fun i y v h1 h2 h3 => ?_⟩, fun y c h => ⟨_, x.cell y c h⟩, e0.hok.fresh (Nat.le_refl _), fun y c h => ?_, fun p hp => absurd (show p ∈ ([] : List (Addr × Obj)) from hp) (by simp), e0.hok.kept hk, ?_⟩
 ·exact name_of_addr x.apart (PySem.mem_of_lookup h1) (PySem.mem_of_lookup h2)
 ·have hy : scope.names.lookup y = some .cell ∨ scope.names.lookup y = some .free := hy
  rcases hy with hy | hy
  ·exact cell_has hy
  ·exact absurd rfl (S.nofree _ (PySem.mem_of_lookup hy))
 ·exact Nat.le_of_lt (x.above y c (PySem.mem_of_lookup h))
 ·have hi : i < vs.length := by
   unfold start at h2
   by_cases hi : i < vs.length
   ·exact hi
   ·rw [List.getElem?_append_right (by simpa using hi)] at h2
    rw [List.getElem?_replicate] at h2
    split at h2 <;> cases h2
  have ha : vs[i]? = some v := by
   unfold start at h2
   rw [List.getElem?_append_left (by simpa using hi), List.getElem?_map] at h2
   cases e : vs[i]? with
   | none => rw [e] at h2; cases h2
   | some a => rw [e] at h2; cases h2; rfl
  obtain ⟨u, hu, rv⟩ := r.get ha
  have hp : ps[i]? = some y := by
   rw [← S.pre, List.getElem?_take_of_lt (by omega)]; exact h1
  have ndP : ps.Nodup := by rw [← S.pre]; exact S.nd.sublist (List.take_sublist _ _)
  refine ⟨u, rv, ?_⟩
  rcases S.par y (List.mem_of_getElem? hp) with k | k
  ·exact .inl ⟨k, bindL_get ndP hp hu k⟩
  ·obtain ⟨c, e⟩ := cell_has (n := s.heap.objs.size + 1) k
   refine .inr ⟨.inl k, c, e, ?_⟩
   have q := x.cell y c e
   rw [bindC_get ndP hp hu (by show scope.names.lookup y ≠ _; rw [k]; decide)] at q
   exact q
 ·exact e0.hok.fresh (Nat.le_of_lt (x.above y c (PySem.mem_of_lookup h)))
 ·unfold start
  show _ = N.length
  rw [List.length_append, List.length_map, List.length_replicate]
  omega
theorem fn_of {CX : CXT} {P : Program} {w : World} {K : PySem.W.Frag} {mg : Str → Option Value} {base : Heap} {k : Nat} {f : Addr} {name qual : Str} {params : Arguments} {body : List Stmt} {scope : Scope} {dV kV doc pm cdv ct oc : Value} {an od : Option Addr}
  {osl : Array (Option Value)} {N ps : List Str} {sp : Sp} (lk : K.lookup f = some ⟨oc, od, .func (PySem.W.fnOf name qual params body scope dV kV doc pm an cdv ct), osl⟩) (hcd : PySem.W.codeIn K cdv qual = true) (S : FnScope N ps scope)
  (len : ∀ vs H Q E, sp vs H Q E → vs.length = ps.length)
  (hbody : ∀ (A : Around) (outer : List Env) (s : Shared) (H : Hp) (vs : List V) (Q : VK) (E : XK), Room k (A.deeper (envOfC qual scope s.heap.objs.size f cdv)) → sp vs H Q E →
   ∃ t, PSs (cxOf CX P w K mg base N qual scope f cdv A outer s H E) body t ∧ t { nx := fun _ H' => Q .non H', rt := Q } (start N vs) H) :
  FnOk P w K mg base CX (k + 1) f (PySem.W.fnOf name qual params body scope dV kV doc pm an cdv ct) ps sp := by
 refine ⟨len, fun A outer s H args us vs Q E hr e0 hb r hsp => ?_⟩
 have hl := len _ _ _ _ hsp
 have KX : K.In s.heap := e0.mod.kin.keeps fun b o e => (e0.bs b o e).1
 have lim : s.heap.NoLimit := e0.mod.nolimit.keeps fun b o e => (e0.bs b o e).1
 have hkind : ∀ y ∈ ps.zip us, scope.names.lookup y.1 = some .local ∨ (scope.names.lookup y.1 = some .cell ∧ ((cellsFrom (s.heap.objs.size + 1) scope.names []).lookup y.1).isSome = true) := fun ⟨n, v⟩ hy => by
  rcases S.par n (List.of_mem_zip hy).1 with q | q
  ·exact .inl q
  ·exact .inr ⟨q, PySem.W.cellsFrom_some _ _ _ (.inl q)⟩
 refine codeAny_call_function hr.depth (KX _ _ lk) rfl S.co S.gen rfl (PySem.W.codeRec_of KX hcd) (hb _ _ _ _ ?_)
 refine wpAny_newFunctionEnv_cells S.kind hkind fun env he s1 x => ?_
 subst he
 refine ⟨lim.keeps x.toInCall.keep, codeAny_func ?_⟩
 obtain ⟨t, ht, hq⟩ := hbody A outer s H vs Q E (hr.deeper _) hsp
 have I : Inv (cxOf CX P w K mg base N qual scope f cdv A outer s H E) [] (start N vs) H s1 := inv_start S hr.hd e0 hl r x
 refine wpAny_mono (ht [] s1 (start N vs) H _ I hq) (fun fl s' hs => ?_) fun e s' hs => hs
 have fin : ∀ {σ' : St} {H' : Hp} {v : V} {u : Value}, Inv (cxOf CX P w K mg base N qual scope f cdv A outer s H E) [] σ' H' s' → RelV v u → Q v H' → CE outer P w H s Q u s' :=
  fun {σ' H' v u} J rv q => ⟨v, H', J.os, J.bare, J.base, J.hok, rv, q⟩
 cases fl with
 | ret u =>
  obtain ⟨v, σ', H', J, rv, q⟩ := hs
  exact fin J rv q
 | next =>
  obtain ⟨σ', H', J, q⟩ := hs
  exact fin (v := V.non) (u := Value.none) J rfl q
 | brk =>
  obtain ⟨_, _, _, q⟩ := hs
  exact False.elim q
 | cont =>
  obtain ⟨_, _, _, q⟩ := hs
  exact False.elim q
end L2
namespace L2
open PySem PySem.Spec PyProof.Rows
section
variable {X : Cx} {x : Str} {p pos : Pos} {e : Expr} {es : List Expr} {t : TA} {id T : String} {r : List V → Hp → VK → Prop}
noncomputable def tCB (r : List V → Hp → VK → Prop) (t : TA) : TE := fun σ H Q => t σ H fun vs H1 => r vs H1 Q
theorem pe_callB (hc : CallR X (.builtin id) r) (hg : Gl X x) (hm : X.mg x = none) (hv : bootBuiltins x = some (.builtin id)) (ha : PA X (e :: es) t) (hn : x ≠ "__name__" := by decide) (hdb : (x == ("__debug__" : Str)) = false := by decide)
  (he : starEach (e :: es) X.env = (false, eval e X.env) :: starEach es X.env := by rfl) (hpl : (backTo pos (starEach es X.env)).any (·.1) = false := by rfl) : PE X (.Call (.Name x p) (e :: es) [] pos) (tCB r t) := by
 intro pins s σ H Q I h
 refine wpAny_Call_Name_kw (ld_blt I hg hm hv ?_ hn hdb)
 exact PyProof.Rows.callWith_builtin1 (thn (ha pos pins s σ H _ I h) fun us s1 ⟨vs, H1, I1, r1, q1⟩ => hc pins s1 σ H1 vs us Q I1 r1 q1) he hpl
end
end L2
namespace HT
open PySem PyProof.Rows
section
open PySem.SeqAt
open PySem.AutoSeq1 (wpAny_loadPart')
open PySem.MeetsSeq PySem.MeetsSeq2 PySem.MeetsSeq3
end
section
variable {prog : Program} {w : World} {A : Around} {E : Value → Shared → Prop} {s : Shared}
noncomputable def sIx (n d : Nat) : Option Int → Nat
 | none => d
 | some v => if v < 0 then (v + (n : Int)).toNat else min v.toNat n
end
end HT
namespace L2
open PySem PySem.Spec PyProof.Rows
abbrev TO := St → Hp → (Option Int → Hp → Prop) → Prop
section
variable {X : Cx} {e : Expr} {te : TE} {lo hi : Option Expr} {tl th : TO} {pos p2 : Pos}
noncomputable def SlR (X : Cx) (r : V → Option Int → Option Int → Hp → VK → Prop) : Prop :=
 ∀ (pins : List (Addr × Obj)) (s : Shared) (σ : St) (H : Hp) (x : V) (v vl vu : Value) (lo hi : Option Int) (sl : Addr) (Q : VK), Inv X pins σ H s → RelV x v → s.heap.IsSliceOf sl vl vu .none → IsPart vl lo → IsPart vu hi → r x lo hi H Q →
  ∃ T id, typeLookup (.type T) "__getitem__" = pure (some (.builtin id)) ∧ s.TypeIs v T ∧ wpAny (model X.prog X.w) X.A (getItem v (.ref sl)) (EP X pins σ Q) X.xe s
theorem SlR.or {r r' : V → Option Int → Option Int → Hp → VK → Prop} (h : SlR X r) (h' : SlR X r') : SlR X (fun x lo hi H Q => r x lo hi H Q ∨ r' x lo hi H Q) := by
 intro pins s σ H x v vl vu lo hi sl Q I rx hs pl pu q
 rcases q with q | q
 ·exact h pins s σ H x v vl vu lo hi sl Q I rx hs pl pu q
 ·exact h' pins s σ H x v vl vu lo hi sl Q I rx hs pl pu q
end
end L2
namespace L2
open PySem PySem.Spec PyProof.Rows
noncomputable def ixN (n : Nat) (i : Int) : Option Nat := if 0 ≤ i then (if i < n then some i.toNat else none) else if -(n : Int) ≤ i then some (i + n).toNat else none
noncomputable def atI {α : Type} (xs : List α) (i : Int) : Option α := (ixN xs.length i).bind fun j => xs[j]?
theorem ixN_seq {n : Nat} {i : Int} {j : Nat} (h : ixN n i = some j) : seqIndex? i n = some j ∧ j < n ∧ -(n : Int) ≤ i ∧ i < n := by
 unfold ixN at h
 by_cases h0 : 0 ≤ i
 ·rw [if_pos h0] at h
  by_cases h1 : i < n
  ·rw [if_pos h1] at h
   have e : i.toNat = j := Option.some.inj h
   exact ⟨by rw [seqIndex_of h0 h1, e], by omega, by omega, h1⟩
  ·rw [if_neg h1] at h; cases h
 ·rw [if_neg h0] at h
  by_cases h1 : -(n : Int) ≤ i
  ·rw [if_pos h1] at h
   have e : (i + n).toNat = j := Option.some.inj h
   exact ⟨by rw [seqIndex_neg (by omega) h1, e], by omega, h1, by omega⟩
  ·rw [if_neg h1] at h; cases h
theorem atI_get {α : Type} {xs : List α} {i : Int} {v : α} (h : atI xs i = some v) : ∃ j, seqIndex? i xs.length = some j ∧ xs[j]? = some v ∧ j < xs.length ∧ -(xs.length : Int) ≤ i ∧ i < xs.length := by
 unfold atI at h
 cases e : ixN xs.length i with
 | none => rw [e] at h; cases h
 | some j =>
  rw [e] at h
  obtain ⟨h1, h2, h3, h4⟩ := ixN_seq e
  exact ⟨j, h1, h, h2, h3, h4⟩
theorem atI_nat {α : Type} {xs : List α} {j : Nat} {v : α} (h : xs[j]? = some v) : atI xs (j : Int) = some v := by
 have hj : j < xs.length := (List.getElem?_eq_some_iff.mp h).1
 have e : ixN xs.length (j : Int) = some j := by
  unfold ixN
  rw [if_pos (by omega), if_pos (by omega)]; simp
 unfold atI; rw [e]; exact h
noncomputable def PlainIx (b : Expr) : Prop := ∀ o i, subscripted b false o i = operate [o, i] (getItem o i)
noncomputable def IxR (X : Cx) (r : R2) : Prop :=
 ∀ (value slice : Expr) (pins : List (Addr × Obj)) (s : Shared) (σ : St) (H : Hp) (x y : V) (v u : Value) (Q : VK), Inv X pins σ H s → RelV x v → RelV y u → r x y H Q →
  subscripted slice false v u = operate [v, u] (getItem v u) → wpAny (model X.prog X.w) X.A (subscriptTail value slice v u) (EP X pins σ Q) X.xe s
noncomputable def MtR (X : Cx) (id : String) (r : V → List V → Hp → VK → Prop) : Prop :=
 ∀ (pins : List (Addr × Obj)) (s : Shared) (σ : St) (H : Hp) (x : V) (xs : List V) (v : Value) (us : List Value) (Q : VK), Inv X pins σ H s → RelV x v → Vals xs us → r x xs H Q →
  wpAny (model X.prog X.w) X.A (call (.builtin id) (v :: us)) (EP X pins σ Q) X.xe s
section
variable {X : Cx} {a b : Expr} {ta tb : TE} {pos : Pos}
theorem IxR.or {r r' : R2} (h : IxR X r) (h' : IxR X r') : IxR X (fun x y H Q => r x y H Q ∨ r' x y H Q) := by
 intro value slice pins s σ H x y v u Q I rx ry q hs
 rcases q with q | q
 ·exact h value slice pins s σ H x y v u Q I rx ry q hs
 ·exact h' value slice pins s σ H x y v u Q I rx ry q hs
theorem MtR.or {id : String} {r r' : V → List V → Hp → VK → Prop} (h : MtR X id r) (h' : MtR X id r') : MtR X id (fun x xs H Q => r x xs H Q ∨ r' x xs H Q) := by
 intro pins s σ H x xs v us Q I rx rs q
 rcases q with q | q
 ·exact h pins s σ H x xs v us Q I rx rs q
 ·exact h' pins s σ H x xs v us Q I rx rs q
theorem pe_ix {r : R2} (hr : IxR X r) (ha : PE X a ta) (hb : PE X b tb) (hs : PlainIx b) : PE X (.Subscript a b pos) (tOp r ta tb) := by
 intro pins s σ H Q I h
 exact Subscript_ (binT ha hb I h fun v u s2 x y H2 I2 rx ry q => hr a b pins s2 σ H2 x y v u Q I2 rx ry q (hs _ _))
noncomputable def rIxL (K : PySem.W.Frag) : R2 := fun x y H Q => ∃ p xs i v, x = .ref p ∧ y = .int i ∧ SqL K H p xs ∧ atI xs i = some v ∧ Q v H
noncomputable def rIxT (K : PySem.W.Frag) : R2 := fun x y H Q => ∃ p xs i v, x = .ref p ∧ y = .int i ∧ SqT K H p xs ∧ atI xs i = some v ∧ Q v H
noncomputable def rIxS : R2 := fun x y H Q => ∃ z i c, x = .str z ∧ y = .int i ∧ z.length ≤ sizeLine ∧ atI z.cps.toList i = some c ∧ Q (.str ⟨#[c]⟩) H
theorem ix_list : IxR X (rIxL X.K) := by
 intro value slice pins s σ H x y v u Q I rx ry h hs
 obtain ⟨p, xs, i, z, rfl, rfl, hq, he, q⟩ := h
 cases rx
 obtain ⟨t, rfl⟩ := ry
 obtain ⟨its, r, pl, hz⟩ := I.list hq
 obtain ⟨j, h1, h2, h3, h4, h5⟩ := atI_get he
 obtain ⟨w, ew, rw'⟩ := r.get h2
 have hl := r.length
 have hn := line63
 have fin : EP X pins σ Q w s := ⟨z, H, I, rw', q⟩
 by_cases h0 : 0 ≤ i
 ·have hj : i.toNat = j := by
   rw [seqIndex_of h0 h5] at h1
   exact Option.some.inj h1
  exact item_listR pl.isList h0 (by omega) (by rw [hj]; simpa using ew) fin hs
 ·have hj : (i + (its.toArray.size : Int)).toNat = j := by
   rw [seqIndex_neg (by omega) h4] at h1
   rw [List.size_toArray, ← hl]
   exact Option.some.inj h1
  exact subscriptTail_builtinR (x := w) pl.isList.typeIs slot_list_getitem.lookup
   (wpAny_getItem_list_neg (Q := fun r s' => r = w ∧ EP X pins σ Q r s') pl.isList (by omega) (by rw [List.size_toArray] <;> omega) (by omega) (by rw [hj]; simpa using ew) ⟨rfl, fin⟩) hs
theorem ix_tup : IxR X (rIxT X.K) := by
 intro value slice pins s σ H x y v u Q I rx ry h hs
 obtain ⟨p, xs, i, z, rfl, rfl, hq, he, q⟩ := h
 cases rx
 obtain ⟨t, rfl⟩ := ry
 obtain ⟨its, r, pl, hz⟩ := I.tuple hq
 obtain ⟨j, h1, h2, h3, h4, h5⟩ := atI_get he
 obtain ⟨w, ew, rw'⟩ := r.get h2
 have hl := r.length
 have hn := line63
 have fin : EP X pins σ Q w s := ⟨z, H, I, rw', q⟩
 exact subscriptTail_builtinR (x := w) pl.typeIs slot_tuple_getitem.lookup
  (getItem_tuple (j := j) (Q := fun r s' => r = w ∧ EP X pins σ Q r s') pl (by omega) (by omega) (by rw [List.size_toArray, ← hl]; exact h1) (by simpa using ew) ⟨rfl, fin⟩) hs
theorem ix_str : IxR X rIxS := by
 intro value slice pins s σ H x y v u Q I rx ry h hs
 obtain ⟨z, i, c, rfl, rfl, hz, he, q⟩ := h
 obtain ⟨t, rfl⟩ := rx
 obtain ⟨t', rfl⟩ := ry
 obtain ⟨j, h1, h2, h3, h4, h5⟩ := atI_get he
 have hl : z.cps.toList.length = z.length := by simp [Str.length]
 rw [hl] at h1 h4 h5
 have hn := line63
 exact tail_any (typeIs_str s z t) slot_str_getitem.lookup (getItem_str (c := c) (by
  have e1 : decide (i < -(2 ^ 63 : Int)) = false := decide_eq_false (by omega)
  have e2 : decide (i ≥ 2 ^ 63) = false := decide_eq_false (by omega)
  rw [e1, e2, Bool.or_false]) (by rw [h1]; simpa using h2) ⟨.str ⟨#[c]⟩, H, I.tok _, ⟨_, rfl⟩, q⟩) hs
noncomputable def rIx (K : PySem.W.Frag) : R2 := fun x y H Q => rIxL K x y H Q ∨ rIxT K x y H Q ∨ rIxS x y H Q
theorem ix_seq : IxR X (rIx X.K) := ix_list.or (ix_tup.or ix_str)
theorem mapSeq_set (its : List Value) (n j : Nat) (u : Value) : Obj.mapSeq (·.setIfInBounds j u) { cls := .type "list", data := .seq its.toArray n } = { cls := .type "list", data := .seq (its.set j u).toArray n } := by
 simp [Obj.mapSeq]
theorem Inv.lst {pins : List (Addr × Obj)} {σ : St} {H : Hp} {s : Shared} {p : Addr} {xs : List V} (I : Inv X pins σ H s) (h : H p = some (.lst xs)) :
  ∃ (its : List Value) (n : Nat), Vals xs its ∧ s.heap.get? p = some { cls := .type "list", data := .seq its.toArray n } ∧ xs.length ≤ sizeLine := by
 obtain ⟨z, its, n, r, e⟩ := I.hok p _ h
 exact ⟨its, n, r, e, z⟩
theorem Inv.lstUpd {pins : List (Addr × Obj)} {σ : St} {H : Hp} {s : Shared} {p : Addr} {xs ys : List V} {its its' : List Value} {n n' : Nat} {f : Obj → Obj} (I : Inv X pins σ H s) (h : H p = some (.lst xs))
  (ho : s.heap.get? p = some { cls := .type "list", data := .seq its.toArray n }) (hf : f { cls := .type "list", data := .seq its.toArray n } = { cls := .type "list", data := .seq its'.toArray n' }) (r : Vals ys its') (hz : ys.length ≤ sizeLine) (t : Nat) :
  Inv X pins σ (upd H p (.lst ys)) { s with heap := s.heap.update p f, toks := t } := by
 have e : (s.heap.update p f).get? p = some { cls := .type "list", data := .seq its'.toArray n' } := by
  rw [Heap.get?_update_self f ho (by rw [hf] <;> rfl), hf]
 refine I.write (x := p) (e := p) (by rw [h]; trivial) (.inl rfl) (fun b u hb q => (Heap.get?_update_other _ _ (Ne.symm hb)).trans q) ⟨_, e⟩ ?_
 exact ⟨hz, its', n', r, e⟩
noncomputable def rSetL : V → V → V → Hp → (Hp → Prop) → Prop := fun o i v H Q => ∃ p xs k j, o = .ref p ∧ i = .int k ∧ H p = some (.lst xs) ∧ ixN xs.length k = some j ∧ Q (upd H p (.lst (xs.set j v)))
theorem set_list : PSet X rSetL := by
 intro pins s σ H o i v ov iv u Q I ro ri rv h
 obtain ⟨p, xs, k, j, rfl, rfl, hp, hj, q⟩ := h
 cases ro
 obtain ⟨t, rfl⟩ := ri
 obtain ⟨its, n, r, ho, hz⟩ := I.lst hp
 obtain ⟨h1, h2, h3, h4⟩ := ixN_seq hj
 have hl := r.length
 have hn := line63
 have I' : Inv X pins σ (upd H p (.lst (xs.set j v))) { s with heap := s.heap.update p (Obj.mapSeq (·.setIfInBounds j u)) } :=
  I.lstUpd hp ho (mapSeq_set its n j u) (r.set rv j) (by rw [List.length_set]; exact hz) s.toks
 by_cases h0 : 0 ≤ k
 ·have hk : k.toNat = j := by
   rw [seqIndex_of h0 h4] at h1
   exact Option.some.inj h1
  exact PySem.W.ki_setAt ho h0 (by omega) (by rw [List.size_toArray, ← hl]; exact h4) (by rw [hk]; exact ⟨_, I', q⟩)
 ·have hk : (k + (its.toArray.size : Int)).toNat = j := by
   rw [seqIndex_neg (by omega) h3] at h1
   rw [List.size_toArray, ← hl]
   exact Option.some.inj h1
  exact PySem.W.ki_setBack ho (by omega) (by rw [List.size_toArray, ← hl]; exact h3) (by omega) (by rw [hk]; exact ⟨_, I', q⟩)
theorem call_len_seq : CallR X (.builtin "len") (fun xs H Q => ∃ p ys, xs = [.ref p] ∧ (SqL X.K H p ys ∨ SqT X.K H p ys) ∧ Q (.int ys.length) H) := by
 intro pins s σ H xs us Q I r h
 obtain ⟨p, ys, rfl, hq, q⟩ := h
 obtain ⟨u, rfl, rx⟩ := vals1 r
 cases rx
 have hn := line63
 rcases hq with hq | hq
 ·obtain ⟨its, r', pl, hz⟩ := I.list hq
  have hlen := r'.length
  exact Calls.call_len_list pl.isList (by simp only [List.size_toArray] <;> omega) ⟨.int ys.length, H, I.tok _, ⟨s.toks + 1, by rw [List.size_toArray, hlen]⟩, q⟩
 ·obtain ⟨its, r', pl, hz⟩ := I.tuple hq
  have hlen := r'.length
  exact len_tuple pl (by simp only [List.size_toArray] <;> omega) ⟨.int ys.length, H, I.tok _, ⟨s.toks + 1, by rw [List.size_toArray, hlen]⟩, q⟩
theorem CallR.or {f : Value} {r r' : List V → Hp → VK → Prop} (h : CallR X f r) (h' : CallR X f r') : CallR X f (fun xs H Q => r xs H Q ∨ r' xs H Q) := by
 intro pins s σ H xs us Q I rs q
 rcases q with q | q
 ·exact h pins s σ H xs us Q I rs q
 ·exact h' pins s σ H xs us Q I rs q
variable {o e : Expr} {es : List Expr} {to : TE} {t : TA} {name : Str} {apos cpos : Pos} {T id : String} {r : V → List V → Hp → VK → Prop}
end
end L2
namespace L2
open PySem PySem.Spec PyProof.Rows
theorem Vals.one : ∀ {x : V} {us : List Value}, Vals [x] us → ∃ u, us = [u] ∧ RelV x u := by
 intro x us h
 cases h with
 | cons r t => cases t; exact ⟨_, rfl, r⟩
theorem Vals.two : ∀ {x y : V} {us : List Value}, Vals [x, y] us → ∃ u v, us = [u, v] ∧ RelV x u ∧ RelV y v := by
 intro x y us h
 cases h with
 | cons r t =>
  obtain ⟨v, rfl, q⟩ := Vals.one t
  exact ⟨_, _, rfl, r, q⟩
theorem Vals.zero : ∀ {us : List Value}, Vals [] us → us = []
 | _, .nil => rfl
theorem Vals.dropLast {xs : List V} {us : List Value} (h : Vals xs us) : Vals xs.dropLast us.dropLast := by
 induction h with
 | nil => exact .nil
 | cons r t ih =>
  cases t with
  | nil => exact .nil
  | cons q t' => exact .cons r ih
theorem Vals.reverse {xs : List V} {us : List Value} (h : Vals xs us) : Vals xs.reverse us.reverse := by
 induction h with
 | nil => exact .nil
 | cons r t ih => rw [List.reverse_cons, List.reverse_cons]; exact Vals.append ih (.cons r .nil)
section
variable {X : Cx} {pins : List (Addr × Obj)} {σ : St} {H : Hp} {s : Shared} {l b : Addr} {xs ys zs : List V}
theorem Inv.lnew {its : List Value} {t' : Nat} (I : Inv X pins σ H s) (hv : Vals ys its) (hz : ys.length ≤ sizeLine) :
  Inv X pins σ (upd H s.heap.objs.size (.lst ys)) { s with heap := s.heap.push { cls := .type "list", data := .seq its.toArray }, toks := t' } :=
 I.laid (fun _ _ q => Heap.get?_push_of_some _ q) (Nat.le_refl _) ⟨hz, its, 0, hv, Heap.get?_push_size _ rfl⟩
theorem Inv.fresh (I : Inv X pins σ H s) : H s.heap.objs.size = none := I.hok.fresh (Nat.le_refl _)
theorem Inv.lstM (I : Inv X pins σ H s) (hH : H l = some (.lst xs)) : xs.length ≤ sizeLine ∧ ∃ (its : List Value) (n : Nat), Vals xs its ∧ xs.length = its.length ∧ s.heap.get? l = some { cls := .type "list", data := .seq its.toArray n } := by
 obtain ⟨z, its, n, r, e⟩ := I.hok l _ hH
 exact ⟨z, its, n, r, r.length, e⟩
end
section
variable {X : Cx}
noncomputable def rCat : R2 := fun x y H Q => ∃ l b xs zs, x = .ref l ∧ y = .ref b ∧ H l = some (.lst xs) ∧ H b = some (.lst zs) ∧ xs.length + zs.length ≤ sizeLine ∧ ∀ p, H p = none → Q (.ref p) (upd H p (.lst (xs ++ zs)))
theorem op_cat : OpR X (binaryOp .Add) rCat := by
 intro pins s σ H x y v u Q I rx ry h
 obtain ⟨l, b, xs, zs, rfl, rfl, hH, hB, hz, q⟩ := h
 cases rx
 cases ry
 obtain ⟨z, its, n, r, hl, e⟩ := I.lstM hH
 obtain ⟨z2, its2, n2, r2, hl2, e2⟩ := I.lstM hB
 refine PySem.P.add_list e e2 ?_ (by rw [List.size_toArray, List.size_toArray]; omega)
 have ea : its.toArray ++ its2.toArray = (its ++ its2).toArray := by simp
 rw [ea]
 exact ⟨.ref _, _, I.lnew (t' := s.toks) (r.append r2) (by rw [List.length_append]; omega), rfl, q _ I.fresh⟩
end
section
variable {prog : Program} {w : World} {A : Around} {E : Value → Shared → Prop} {s : Shared}
end
section
variable {X : Cx}
end
end L2
namespace Att
open PySem PySem.W PySem.Calls PyProof.Rows
theorem ints_of_wellAll {P : Params} {h : Heap} : ∀ (ns : List Int) (vs : List Value), WellAll P h vs (ns.map WData.int) → IntsAre vs ns := by
 intro ns
 induction ns with
 | nil =>
  intro vs w
  rw [List.map_nil] at w
  cases w
  exact .nil
 | cons n ns ih =>
  intro vs w
  rw [List.map_cons] at w
  cases w with
  | cons a b =>
   cases a
   exact .cons _ _ (ih _ b)
theorem script_of {l : OpenLaw} {n : Nat} (hn : l.most = some n) {P : Params} {h : Heap} {args : List WData} {vals : List Value}
  (hpre : l.row.toRowW.claim.pre args = true) (hwl : WellAll P h vals args) :
  ∃ a vs ns, vals = [Value.ref a] ∧ args = [WData.list (ns.map WData.int)] ∧ h.get? a = some { cls := .type "list", data := .seq vs.toArray } ∧ IntsAre vs ns ∧ ns.length ≤ n := by
 have hsh : WShape.hasAll [] args [.list .int] = true := (pre_splitW hpre).1
 have hc : l.pre.holds [] { args := args } = true := (pre_splitW hpre).2
 obtain ⟨d, r, rfl, h1, h2⟩ := hasAllW_cons hsh
 obtain rfl := hasAllW_nil h2
 obtain ⟨xs, rfl, h3⟩ := hasW_list h1
 obtain ⟨ns, rfl⟩ := items_int h3
 have hlen : ns.length ≤ n := by
  unfold OpenLaw.pre at hc
  have h4 : (WTm.not (.lt (.lit (.int (n : Int))) (.len (.arg 0)))).holds [] { args := [.list (ns.map .int)] } = true := by
   have h4 := (holds_andW hc).1
   rw [hn] at h4
   exact h4
  have h5 := condW_of h4 (w_not (w_lt w_lit (w_len_list (w_arg rfl))))
  rw [List.length_map] at h5
  refine Nat.le_of_not_lt fun q => ?_
  have q' : (n : Int) < ((ns.length : Nat) : Int) := by omega
  first
   | (rw [decide_eq_true q'] at h5; exact absurd h5 (by decide))
   | (simp at h5; omega)
 cases hwl with
 | cons w1 w2 =>
  cases w2
  cases w1 with
  | list ho hall => exact ⟨_, _, ns, rfl, rfl, ho, ints_of_wellAll ns _ hall, hlen⟩
theorem post_true (l : OpenLaw) (args : List WData) : l.row.toRowW.claim.post args (.bool true) args = true :=
 postW_of (r := l.row.toRowW) (X := (true == true))
  (show WShape.has [] (.bool true) .bool = true by first | rfl | decide | simp [WShape.has, WShape.arms, WShape.armsAll])
  (show (WTm.eq .res (.lit (.bool true))).value [] { args := args, res := some (.bool true), after := args } = some (.bool (true == true)) from w_eq_bool (w_res rfl) w_lit) rfl
theorem attach_call {l : OpenLaw} {n : Nat} {q : Program} {loose : List Str} {XP : (Str → Option Value) → Heap → Prop} {YP : World → Heap → Prop} {d : DefRec}
  (hn : l.most = some n) (hdf : d.params.defaults = [])
  (call : ∀ (w : World) (s₀ s₁ : Shared) (mg mb : Str → Option Value) (fa : Addr) (o : Obj) (pm cd doc : Value) (a : Addr) (vs : List Value) (ns : List Int),
   Ground q loose [] XP w s₀ mg mb s₁.heap → YP w s₁.heap →
   s₁.heap.get? fa = some o → o.data = .func (docDef d.name d.params d.body d.scope pm cd doc) → s₁.heap.CodeRec cd d.name → mg d.name = some (.ref fa) →
   s₁.heap.get? a = some { cls := .type "list", data := .seq vs.toArray } → IntsAre vs ns → ns.length ≤ n → s₁.gens = #[] →
   codeAny (model l.prog w) callerA (.call (.ref fa) ⟨[.ref a], []⟩) (fun r s' => r = .ok (.ret (.bool true)) ∧ OldK s₁.heap s'.heap ∧ s'.os = s₁.os ∧ AllBare s'.gens) s₁) :
  WalkO q loose XP YP l.row.toRowW d [] (fun f vs => PySem.call f vs) := by
 intro w s₀ s₁ mg mb G Y fa o pm cd doc dV kV ho hd hcd hD hmg hg args vals as hpre hlay hrd hwl hlo
 obtain rfl : dV = .none := Dflts.none hD hdf
 obtain rfl : kV = .none := Dflts.noKw hD
 obtain ⟨a, vs, ns, rfl, rfl, hobj, hints, hlen⟩ := script_of hn hpre hwl
 refine enter_call (codeAny_mono (call w s₀ s₁ mg mb fa o pm cd doc a vs ns G Y ho (fd_plain hd) hcd hmg hobj hints hlen hg) fun r s' hq => ?_)
 obtain ⟨rfl, h2, h3, h4⟩ := hq
 exact ⟨.inl ⟨.bool true, .bool true, [], rfl, fun _ => rfl, .bool true, post_true l _, fun _ => ⟨List.Pairwise.nil, fun _ hm => (nomatch hm)⟩⟩, h2, h3, h4⟩
section
variable {prog : Program} {w : World} {A : Around} {E : Value → Shared → Prop} {s : Shared} {K : Frag}
end
end Att
namespace L2
open PySem PySem.Spec PyProof.Rows
theorem vals_ints : ∀ {vs : List Value} {ns : List Int}, IntsAre vs ns → Vals (ns.map V.int) vs := by
 intro vs ns h
 induction h with
 | nil => exact .nil
 | cons n t h ih => exact .cons ⟨t, rfl⟩ ih
noncomputable def Only (H : Hp) : Prop := ∀ b, H b = none ∨ ∃ o xs, H b = some (.frz o (.lst xs))
theorem law_call {P : Program} {w : World} {K : PySem.W.Frag} {mg mb : Str → Option Value} {CX : CXT} {k : Nat} {fa a : Addr} {fd : FuncData} {x : Str} {sp : Sp} {s₁ : Shared} {vs : List Value} {ns : List Int}
  (KX : K.In s₁.heap) (hns : s₁.heap.Ns mainGlobals mg) (hb : s₁.heap.Ns builtinsNs mb) (hbb : ∀ x : Str, x ≠ "__name__" → mb x = bootBuiltins x) (hlim : s₁.heap.NoLimit) (hg : s₁.gens = #[])
  (ha : s₁.heap.get? a = some { cls := .type "list", data := .seq vs.toArray }) (hi : IntsAre vs ns) (hl : ns.length ≤ sizeLine) (hr : Room k callerA)
  (F : ∀ base : Heap, K.In base → base.Ns mainGlobals mg → FnOk P w K mg base CX k fa fd [x] sp) (hbind : ∀ (s : Shared) (u : Value), BindsTo s fd ⟨[u], []⟩ [(x, u)])
  (hsp : ∀ H : Hp, Only H → SqL K H a (ns.map V.int) → sp [.ref a] H (fun v _ => v = .bl true) fun _ _ _ => False)
  (hCX : ∀ H e s', CX [] H s₁ (fun _ _ _ => False) e s' → False) :
  codeAny (model P w) callerA (.call (.ref fa) ⟨[.ref a], []⟩) (fun r s' => r = .ok (.ret (.bool true)) ∧ OldK s₁.heap s'.heap ∧ s'.os = s₁.os ∧ AllBare s'.gens) s₁ := by
 have rv := vals_ints hi
 have lenV := hi.length
 have core : ∀ H : Hp, Only H → SqL K H a (ns.map V.int) → HOk P w H s₁.heap → (∀ b, H b ≠ none → b = a) → (H a ≠ none → K.lookup a = none) →
   codeAny (model P w) callerA (.call (.ref fa) ⟨[.ref a], []⟩) (fun r s' => r = .ok (.ret (.bool true)) ∧ OldK s₁.heap s'.heap ∧ s'.os = s₁.os ∧ AllBare s'.gens) s₁ := by
  intro H hO hS hok hA hK
  have base_of : ∀ {b : Addr} {o : Obj}, s₁.heap.get? b = some o → H b = none → (hidT s₁.heap H).get? b = some o := fun e n => hidT_get e n
  have noA : ∀ {b : Addr} {o : Obj} {es : Array DictEntry} {ep : Nat}, s₁.heap.get? b = some o → o.data = .dict es ep → H b = none := fun {b o es ep} e d => by
   cases q : H b with
   | none => rfl
   | some u =>
    have e' : b = a := hA b (by rw [q]; simp)
    subst e'
    rw [ha] at e; cases e
    have d' : Data.seq vs.toArray _ = Data.dict es ep := d
    cases d'
  have nsK : ∀ {b : Addr} {m : Str → Option Value}, s₁.heap.Ns b m → (hidT s₁.heap H).Ns b m := fun {b m} ⟨o, es, ep, e, d, r⟩ => ⟨o, es, ep, base_of e (noA e d), d, r⟩
  have hKb : K.In (hidT s₁.heap H) := fun b o e => base_of (KX b o e) (by
   cases q : H b with
   | none => rfl
   | some u =>
    have e' : b = a := hA b (by rw [q]; simp)
    subst e'
    rw [hK (by rw [q]; simp)] at e; cases e)
  have hM : Mod K mg (hidT s₁.heap H) := ⟨hKb, nsK hns, ⟨mb, nsK hb, hbb⟩, let ⟨mc, h1, h2⟩ := hlim; ⟨mc, nsK h1, h2⟩⟩
  have e0 : Env0 P w K mg (hidT s₁.heap H) callerA [] s₁ H := ⟨rfl, hM, fun b o e => of_hidT e, Nat.le_of_eq (hidT_size _ _), trivial, fun b hb => absurd (show b ∈ ([] : List Addr) from hb) (by simp), hok, .of_eq hg⟩
  refine codeAny_mono ((F _ hKb (nsK hns)).run callerA [] s₁ H ⟨[.ref a], []⟩ [.ref a] [.ref a] _ _ hr e0 (hbind s₁ (.ref a)) (.cons rfl .nil) (hsp H hO hS)) fun r s' h => ?_
  cases r with
  | error e => exact (hCX H e s' h).elim
  | ok fl =>
   cases fl with
   | next => exact False.elim h
   | brk => exact False.elim h
   | cont => exact False.elim h
   | ret u =>
    obtain ⟨v, H', os, bare, un, hok', r', q⟩ := h
    have q' : v = .bl true := q
    subst q'
    obtain rfl : u = Value.bool true := r'
    refine ⟨rfl, OldK.of_keep fun b o e => ?_, os, bare⟩
    cases q : H b with
    | none => exact un.keep b o e q (by intro z; exact absurd (show b ∈ ([] : List Addr) from z) (by simp)) (by simp)
    | some u =>
     rcases hO b with z | ⟨ob, xs, z⟩
     ·rw [q] at z; cases z
     ·have z2 := un.frzs b ob _ z
      obtain ⟨e1, _⟩ := hok b _ z
      obtain ⟨e2, _⟩ := hok' b _ z2
      rw [e] at e1; cases e1
      exact e2
 cases hk : K.lookup a with
 | some o =>
  have e := KX a o hk
  rw [ha] at e
  cases e
  refine core (fun _ => none) (fun _ => .inl rfl) (.inr ⟨_, vs.toArray, _, hk, rfl, rfl, rfl, by rw [List.size_toArray, lenV]; exact hl, by simpa using rv⟩) (fun b u z => by have z' : (none : Option HO) = some u := z; cases z') (fun b z => absurd rfl z) fun z => absurd rfl z
 | none =>
  refine core (fun b => if b = a then some (.frz { cls := .type "list", data := .seq vs.toArray } (.lst (ns.map V.int))) else none) (fun b => ?_) (.inl (.inr ⟨{ cls := .type "list", data := .seq vs.toArray }, if_pos rfl⟩)) (fun b u z => ?_) (fun b z => ?_) fun _ => hk
  ·by_cases hb : b = a
   ·exact .inr ⟨_, _, if_pos hb⟩
   ·exact .inl (if_neg hb)
  ·by_cases hb : b = a
   ·have z' := (if_pos hb).symm.trans z
    cases z'
    subst hb
    exact ⟨ha, by rw [List.length_map]; exact hl, vs, _, rv, ha⟩
   ·have z' := (if_neg hb).symm.trans z
    cases z'
  ·by_cases hb : b = a
   ·exact hb
   ·exact absurd (if_neg hb) z
end L2
namespace L2
open PySem PySem.Spec PyProof.Rows
theorem walk_of {l : PySem.W.OpenLaw} {n k : Nat} {q : Program} {loose : List Str} {XP : (Str → Option Value) → Heap → Prop} {YP : World → Heap → Prop} {d : DefRec} {K : Params → PySem.W.Frag} {CX : World → CXT} {sp : World → Sp} {x : Str}
  (hn : l.most = some n) (hn2 : n ≤ sizeLine) (hdf : d.params.defaults = []) (hr : Room k callerA)
  (hY : ∀ (w : World) (h : Heap), YP w h → (K w.params).In h)
  (F : ∀ (w : World) (mg : Str → Option Value) (fa : Addr) (h : Heap), (K w.params).In h → h.Ns mainGlobals mg → mg d.name = some (.ref fa) →
   ∃ fd : FuncData, (∀ (s : Shared) (u : Value), BindsTo s fd ⟨[u], []⟩ [(x, u)]) ∧
    ∀ base : Heap, (K w.params).In base → base.Ns mainGlobals mg → FnOk l.prog w (K w.params) mg base (CX w) k fa fd [x] (sp w))
  (hsp : ∀ (w : World) (H : Hp) (a : Addr) (ns : List Int), ns.length ≤ n → Only H → SqL (K w.params) H a (ns.map V.int) → sp w [.ref a] H (fun v _ => v = .bl true) fun _ _ _ => False)
  (hCX : ∀ (w : World) (H : Hp) (s : Shared) (e : Value) (s' : Shared), CX w [] H s (fun _ _ _ => False) e s' → False) :
  PySem.W.WalkO q loose XP YP l.row.toRowW d [] (fun f vs => PySem.call f vs) := by
 refine Att.attach_call hn hdf fun w s₀ s₁ mg mb fa o pm cd doc a vs ns G Y ho hd hcd hmg hobj hints hlen hg => ?_
 have KX := hY w _ Y
 obtain ⟨fd, hb, hF⟩ := F w mg fa _ KX G.T.g hmg
 exact law_call KX G.T.g G.T.b G.T.builtins G.T.nolimit hg hobj hints (Nat.le_trans hlen hn2) hr hF hb (fun H hO hS => hsp w H a ns hlen hO hS) fun H e s' => hCX w H s₁ e s'
end L2
namespace L2
open PySem PySem.Spec PyProof.Rows
noncomputable def defArgs (s : Stmt) : Arguments := match s with
 | .FunctionDef _ a _ _ _ _ _ _ _ _ => a
 | _ => { posonlyargs := [], args := [], vararg := none, kwonlyargs := [], kw_defaults := [], kwarg := none, defaults := [] }
noncomputable def defBody (s : Stmt) : List Stmt := match s with
 | .FunctionDef _ _ b _ _ _ _ _ _ _ => b
 | _ => []
noncomputable def defScope (s : Stmt) : Scope := match s with
 | .FunctionDef _ _ _ _ _ _ sc _ _ _ => sc
 | _ => { kind := .function, names := [], isGenerator := false, isCoroutine := false }
abbrev CX0 : CXT := fun _ _ _ _ _ _ => False
abbrev E0 : XK := fun _ _ _ => False
theorem pass0 {X : Cx} : Passes CX0 X E0 := fun _ _ _ _ _ _ _ h => h.elim
structure Fun (K : PySem.W.Frag) (x qual : Str) (st : Stmt) (f : Addr) (fd : FuncData) : Prop where
 ex : ∃ (oc : Value) (od : Option Addr) (kV doc pm : Value) (an : Option Addr) (cdv ct : Value) (osl : Array (Option Value)),
  fd = PySem.W.fnOf x qual (defArgs st) (defBody st) (defScope st) .none kV doc pm an cdv ct ∧ K.lookup f = some ⟨oc, od, .func fd, osl⟩ ∧ PySem.W.codeIn K cdv qual = true
 kp : PySem.W.keepIn K (.ref f) = true
section
variable {P : Program} {w : World} {K : PySem.W.Frag} {mg : Str → Option Value} {base : Heap}
theorem Fun.ok {x qual : Str} {st : Stmt} {f : Addr} {fd : FuncData} {N ps : List Str} {k : Nat} {sp : Sp} (F : Fun K x qual st f fd) (S : FnScope N ps (defScope st)) (len : ∀ vs H Q E, sp vs H Q E → vs.length = ps.length)
  (hbody : ∀ (cdv : Value) (A : Around) (outer : List Env) (s : Shared) (H : Hp) (vs : List V) (Q : VK) (E : XK), Room k (A.deeper (envOfC qual (defScope st) s.heap.objs.size f cdv)) → sp vs H Q E →
   ∃ t, PSs (cxOf CX0 P w K mg base N qual (defScope st) f cdv A outer s H E).nox (defBody st) t ∧ t { nx := fun _ H' => Q .non H', rt := Q } (start N vs) H) : FnOk P w K mg base CX0 (k + 1) f fd ps sp := by
 obtain ⟨oc, od, kV, doc, pm, an, cdv, ct, osl, rfl, lk, hcd⟩ := F.ex
 refine fn_of lk hcd S len fun A outer s H vs Q E hr hsp => ?_
 obtain ⟨t, h, q⟩ := hbody cdv A outer s H vs Q E hr hsp
 exact ⟨t, h.nox, q⟩
theorem Fun.binds {x qual : Str} {st : Stmt} {f : Addr} {fd : FuncData} {ps : List Str} (F : Fun K x qual st f fd)
  (h : ∀ (kV doc pm : Value) (an : Option Addr) (cdv ct : Value) (us : List Value), us.length = ps.length → bindArgs (PySem.W.fnOf x qual (defArgs st) (defBody st) (defScope st) .none kV doc pm an cdv ct) ⟨us, []⟩ = pure (ps.zip us)) : Binds K fd ps [] := by
 obtain ⟨oc, od, kV, doc, pm, an, cdv, ct, osl, rfl, lk, hcd⟩ := F.ex
 exact .all (h kV doc pm an cdv ct)
theorem fun_mk {x qual : Str} {st : Stmt} {f : Addr} {oc : Value} {od an : Option Addr} {osl : Array (Option Value)} {kV doc pm cdv ct : Value} (l : K.lookup f = some ⟨oc, od, .func (PySem.W.fnOf x qual (defArgs st) (defBody st) (defScope st) .none kV doc pm an cdv ct), osl⟩)
  (c : PySem.W.codeIn K cdv qual = true) (k : PySem.W.keepIn K (.ref f) = true) : Fun K x qual st f (PySem.W.fnOf x qual (defArgs st) (defBody st) (defScope st) .none kV doc pm an cdv ct) := ⟨⟨oc, od, kV, doc, pm, an, cdv, ct, osl, rfl, l, c⟩, k⟩
end
theorem small1000 {n : Nat} (h : n ≤ 1000) : n < sizeLine := Nat.lt_of_le_of_lt h (by decide)
section
variable {X : Cx}
theorem pv (i : Nat) {x : Str} {pos : Pos} (hN : X.N[i]? = some x := by rfl) (hv : Vis X.env.scope x := by first | exact Or.inl rfl | exact Or.inr (Or.inl rfl) | exact Or.inr (Or.inr rfl)) (hd : (x == ("__debug__" : Str)) = false := by decide)
  (hcd : (x == ("__classdict__" : Str)) = false := by decide) : PE X (.Name x pos) (tVar i) := pe_var hN hv hd hcd
end
theorem iteF {A B : Prop} (h : B) : if false = true then A else B := by
 rw [if_neg Bool.false_ne_true]
 exact h
theorem iteT {A B : Prop} (h : A) : if true = true then A else B := by
 rw [if_pos rfl]
 exact h
theorem iteNS {c A B : Prop} [Decidable c] (hc : c) (h : B) : if (!decide c) = true then A else B := by
 rw [decide_eq_true hc]
 exact iteF h
noncomputable def Same (H H' : Hp) : Prop := ∀ b o, H b = some o → H' b = some o
theorem Same.refl (H : Hp) : Same H H := fun _ _ h => h
theorem Same.trans {H H1 H2 : Hp} (a : Same H H1) (b : Same H1 H2) : Same H H2 := fun c o h => b c o (a c o h)
theorem Same.free {H H' : Hp} (e : Same H H') {l : Addr} (h : H' l = Option.none) : H l = Option.none := by
 cases q : H l with
 | none => rfl
 | some o =>
  rw [e l o q] at h
  cases h
theorem Same.seq {K : PySem.W.Frag} {H H' : Hp} {a : Addr} {xs : List V} (e : Same H H') (h : SqL K H a xs) : SqL K H' a xs := by
 rcases h with (h | ⟨o, h⟩) | h
 ·exact .inl (.inl (e _ _ h))
 ·exact .inl (.inr ⟨o, e _ _ h⟩)
 ·exact .inr h
end L2
set_option maxHeartbeats 4000000
namespace LT
theorem den_ne (a : Rat) : (a.den : Int) ≠ 0 := by have := a.den_nz; omega
theorem den_pos (a : Rat) : (0 : Int) < a.den := by have := a.den_nz; omega
theorem add_eq (a b : Rat) : Rat.divInt (a.num * b.den + b.num * a.den) (a.den * b.den) = a + b := by
 rw [← Rat.divInt_add_divInt _ _ (den_ne a) (den_ne b), Rat.num_divInt_den, Rat.num_divInt_den]
theorem sub_eq (a b : Rat) : Rat.divInt (a.num * b.den - b.num * a.den) (a.den * b.den) = a - b := by
 rw [Rat.sub_eq_add_neg, ← add_eq a (-b), Rat.neg_num, Rat.neg_den, Int.neg_mul, Int.sub_eq_add_neg]
theorem mul_eq (a b : Rat) : Rat.divInt (a.num * b.num) (a.den * b.den) = a * b := by
 rw [← Rat.divInt_mul_divInt, Rat.num_divInt_den, Rat.num_divInt_den]
theorem fd (t : Int) (g : Nat) : t.fdiv (g : Int) = t / (g : Int) := Int.fdiv_eq_ediv_of_nonneg t (by omega)
theorem norm_pos {t b : Int} (h : 0 < b) : t.fdiv (Int.gcd t b : Nat) = (Rat.divInt t b).num ∧ b.fdiv (Int.gcd t b : Nat) = ((Rat.divInt t b).den : Int) := by
 rw [Rat.num_divInt, Rat.den_divInt, fd, fd, if_neg (by omega), Int.sign_eq_one_of_pos h, Int.one_mul, Int.gcd_comm b t]
 refine ⟨rfl, ?_⟩
 obtain ⟨n, rfl⟩ : ∃ n : Nat, b = (n : Int) := ⟨b.toNat, by omega⟩
 rw [← Int.natCast_ediv, Int.natAbs_natCast]
theorem norm_neg {t b : Int} (h : b < 0) : t.fdiv (-(Int.gcd t b : Nat)) = (Rat.divInt t b).num ∧ b.fdiv (-(Int.gcd t b : Nat)) = ((Rat.divInt t b).den : Int) := by
 have h1 := norm_pos (t := -t) (b := -b) (by omega)
 have e : Rat.divInt (-t) (-b) = Rat.divInt t b := by
  have := Rat.divInt_mul_right (n := t) (d := b) (a := -1) (by decide)
  rw [← this]; congr 1 <;> omega
 rw [e, Int.gcd_neg, Int.neg_gcd] at h1
 rw [← h1.1, ← h1.2]
 constructor
 ·rw [← Int.neg_neg t, Int.neg_fdiv_neg]; simp
 ·rw [← Int.neg_neg b, Int.neg_fdiv_neg]; simp
theorem gcd_step {d r : Int} (hd : 0 ≤ d) (h : 0 < r) : Int.gcd r (d % r) = Int.gcd d r := by
 obtain ⟨m, rfl⟩ : ∃ n : Nat, d = (n : Int) := ⟨d.toNat, by omega⟩
 obtain ⟨n, rfl⟩ : ∃ n : Nat, r = (n : Int) := ⟨r.toNat, by omega⟩
 rw [← Int.natCast_emod]
 show Nat.gcd n (m % n) = Nat.gcd m n
 rw [Nat.gcd_comm n, ← Nat.gcd_rec, Nat.gcd_comm]
theorem gcd_end {d : Int} (h : 0 ≤ d) : (Int.gcd d 0 : Int) = d := by
 rw [Int.gcd_zero_right]; omega
theorem abs_nn (i : Int) : 0 ≤ (if i < 0 then -i else i) := by split <;> omega
theorem abs_gcd (i j : Int) : Int.gcd (if i < 0 then -i else i) (if j < 0 then -j else j) = Int.gcd i j := by
 split <;> split <;> simp only [Int.gcd_neg, Int.neg_gcd]
noncomputable def Bt (k : Nat) (i : Int) : Prop := i.natAbs < 2 ^ k
noncomputable def Sz (k : Nat) (q : Rat) : Prop := Bt k q.num ∧ Bt k q.den
theorem Bt.mono {k m : Nat} {i : Int} (h : Bt k i) (l : k ≤ m) : Bt m i := Nat.lt_of_lt_of_le h (Nat.pow_le_pow_right (by decide) l)
theorem Sz.mono {k m : Nat} {q : Rat} (h : Sz k q) (l : k ≤ m) : Sz m q := ⟨h.1.mono l, h.2.mono l⟩
theorem Bt.mul {k m : Nat} {i j : Int} (h : Bt k i) (g : Bt m j) : Bt (k + m) (i * j) := by
 unfold Bt at *; rw [Int.natAbs_mul, Nat.pow_add]
 exact Nat.mul_lt_mul'' h g
theorem Bt.add {k : Nat} {i j : Int} (h : Bt k i) (g : Bt k j) : Bt (k + 1) (i + j) := by
 unfold Bt at *; have := Int.natAbs_add_le i j; rw [Nat.pow_succ]; omega
theorem Bt.neg {k : Nat} {i : Int} (h : Bt k i) : Bt k (-i) := by unfold Bt at *; omega
theorem Bt.sub {k : Nat} {i j : Int} (h : Bt k i) (g : Bt k j) : Bt (k + 1) (i - j) := by
 rw [Int.sub_eq_add_neg]; exact h.add g.neg
theorem Bt.ediv {k : Nat} {i : Int} (h : Bt k i) (g : Nat) : Bt k (i / (g : Int)) := by
 unfold Bt at *
 exact Nat.lt_of_le_of_lt (by exact Int.natAbs_ediv_le_natAbs _ _) h
theorem Sz.divInt {k : Nat} {t b : Int} (h : Bt k t) (g : Bt k b) (h0 : b ≠ 0) : Sz k (Rat.divInt t b) := by
 rcases Int.lt_or_gt_of_ne h0 with hb | hb
 ·have e : Rat.divInt (-t) (-b) = Rat.divInt t b := by
   have := Rat.divInt_mul_right (n := t) (d := b) (a := -1) (by decide)
   rw [← this]; congr 1 <;> omega
  rw [← e]
  have n := norm_pos (t := -t) (b := -b) (by omega)
  rw [fd, fd] at n
  exact ⟨by rw [← n.1]; exact h.neg.ediv _, by rw [← n.2]; exact g.neg.ediv _⟩
 ·have n := norm_pos (t := t) (b := b) hb
  rw [fd, fd] at n
  exact ⟨by rw [← n.1]; exact h.ediv _, by rw [← n.2]; exact g.ediv _⟩
theorem Sz.add {k m : Nat} {a b : Rat} (h : Sz k a) (g : Sz m b) : Sz (k + m + 1) (a + b) := by
 rw [← add_eq]
 refine Sz.divInt (Bt.add (h.1.mul g.2) ?_) ((h.2.mul g.2).mono (by omega)) (Int.mul_ne_zero (den_ne a) (den_ne b))
 exact (g.1.mul h.2).mono (by omega)
theorem Sz.sub {k m : Nat} {a b : Rat} (h : Sz k a) (g : Sz m b) : Sz (k + m + 1) (a - b) := by
 rw [← sub_eq]
 refine Sz.divInt (Bt.sub (h.1.mul g.2) ?_) ((h.2.mul g.2).mono (by omega)) (Int.mul_ne_zero (den_ne a) (den_ne b))
 exact (g.1.mul h.2).mono (by omega)
theorem Sz.mul {k m : Nat} {a b : Rat} (h : Sz k a) (g : Sz m b) : Sz (k + m) (a * b) := by
 rw [← mul_eq]
 exact Sz.divInt (h.1.mul g.1) (h.2.mul g.2) (Int.mul_ne_zero (den_ne a) (den_ne b))
end LT
namespace LT
theorem sz_int {k : Nat} {i : Int} (h : Bt k i) (hk : 1 ≤ k) : Sz k (i : Rat) := by
 refine ⟨by rw [Rat.num_intCast]; exact h, ?_⟩
 rw [Rat.den_intCast]
 exact Nat.lt_of_lt_of_le (by decide : (1 : Nat) < 2 ^ 1) (Nat.pow_le_pow_right (by decide) hk)
end LT
namespace LT
noncomputable def pm (s : Int) (a b : Rat) : Rat := a + (s : Rat) * b
end LT
namespace L2
open PySem PySem.Spec PyProof.Rows
mutual
inductive Dt (H : Hp) : V → PyData → Prop
 | non : Dt H .non .none
 | bl (b : Bool) : Dt H (.bl b) (.bool b)
 | int (i : Int) : Dt H (.int i) (.int i)
 | str (x : Str) : Dt H (.str x) (.str x)
 | tup {p : Addr} {xs : List V} {ds : List PyData} : H p = some (.tup xs) → Dts H xs ds → Dt H (.ref p) (.tuple ds)
 | lst {p : Addr} {xs : List V} {ds : List PyData} : H p = some (.lst xs) → Dts H xs ds → Dt H (.ref p) (.list ds)
 | dic {p : Addr} : H p = some (.dK []) → Dt H (.ref p) (.dict [])
inductive Dts (H : Hp) : List V → List PyData → Prop
 | nil : Dts H [] []
 | cons {x : V} {xs : List V} {d : PyData} {ds : List PyData} : Dt H x d → Dts H xs ds → Dts H (x :: xs) (d :: ds)
end
mutual
theorem Dt.reads {P : Program} {w : World} {H : Hp} {h : Heap} (ok : HOk P w H h) : ∀ (d : PyData) (x : V) (v : Value), Dt H x d → RelV x v → ∃ as, Reads h v d as
 | .none, _, _, e, r => by cases e; cases r; exact ⟨_, .none⟩
 | .bool _, _, _, e, r => by cases e; cases r; exact ⟨_, .bool _⟩
 | .int _, _, _, e, r => by cases e; obtain ⟨t, rfl⟩ := r; exact ⟨_, .int _ _⟩
 | .str _, _, _, e, r => by cases e; obtain ⟨t, rfl⟩ := r; exact ⟨_, .str _ _⟩
 | .list ds, _, _, e, r => by
  cases e with
  | @lst p xs _ hp rs =>
   cases r
   obtain ⟨_, its, n, r', hg⟩ := (show ObjOk P w H h p (.lst xs) from ok p _ hp)
   obtain ⟨as, q⟩ := Dts.reads ok ds xs its rs r'
   exact ⟨_, .list hg rfl rfl (by simpa using q)⟩
 | .tuple ds, _, _, e, r => by
  cases e with
  | @tup p xs _ hp rs =>
   cases r
   obtain ⟨_, its, r', o, h1, h2, n, h3⟩ := (show ObjOk P w H h p (.tup xs) from ok p _ hp)
   obtain ⟨as, q⟩ := Dts.reads ok ds xs its rs r'
   exact ⟨_, .tuple h1 h2 h3 (by simpa using q)⟩
 | .dict _, _, _, e, r => by
  cases e with
  | @dic p hp =>
   cases r
   obtain ⟨_, _, vs, kv, o, es, ep, h1, h2, h3, _, h4, _⟩ := (show ObjOk P w H h p (.dK []) from ok p _ hp)
   cases kv
   have z : es.toList = [] := by
    cases q : es.toList with
    | nil => rfl
    | cons a l => rw [q] at h4; cases h4
   exact ⟨_, .dict h1 h2.1 h3 (by rw [z]; exact .nil) (by rw [z]; exact .nil)⟩
theorem Dts.reads {P : Program} {w : World} {H : Hp} {h : Heap} (ok : HOk P w H h) : ∀ (ds : List PyData) (xs : List V) (vs : List Value), Dts H xs ds → Vals xs vs → ∃ as, ReadsAll h vs ds as
 | [], _, _, e, r => by cases e; cases r; exact ⟨_, .nil⟩
 | d :: ds, _, _, e, r => by
  cases e with
  | cons e1 e2 =>
   cases r with
   | cons r1 r2 =>
    obtain ⟨as, q1⟩ := Dt.reads ok d _ _ e1 r1
    obtain ⟨bs, q2⟩ := Dts.reads ok ds _ _ e2 r2
    exact ⟨_, .cons q1 q2⟩
end
mutual
theorem Dt.same {H H' : Hp} (g : Same H H') : ∀ (d : PyData) (x : V), Dt H x d → Dt H' x d
 | .none, _, e => by cases e; exact .non
 | .bool _, _, e => by cases e; exact .bl _
 | .int _, _, e => by cases e; exact .int _
 | .str _, _, e => by cases e; exact .str _
 | .list ds, _, e => by
  cases e with
  | lst hp rs => exact .lst (g _ _ hp) (Dts.same g ds _ rs)
 | .tuple ds, _, e => by
  cases e with
  | tup hp rs => exact .tup (g _ _ hp) (Dts.same g ds _ rs)
 | .dict _, _, e => by
  cases e with
  | dic hp => exact .dic (g _ _ hp)
theorem Dts.same {H H' : Hp} (g : Same H H') : ∀ (ds : List PyData) (xs : List V), Dts H xs ds → Dts H' xs ds
 | [], _, e => by cases e; exact .nil
 | d :: ds, _, e => by
  cases e with
  | cons e1 e2 => exact .cons (Dt.same g d _ e1) (Dts.same g ds _ e2)
end
mutual
noncomputable def noLst : PyData → Bool
 | .list _ => false
 | .dict _ => false
 | .tuple ds => noLsts ds
 | _ => true
noncomputable def noLsts : List PyData → Bool
 | [] => true
 | d :: ds => noLst d && noLsts ds
end
noncomputable def SameT (H H' : Hp) : Prop := ∀ b xs, H b = some (.tup xs) → H' b = some (.tup xs)
noncomputable def SameX (x : Addr) (H H' : Hp) : Prop := ∀ b o, b ≠ x → H b = some o → H' b = some o
theorem SameX.refl (x : Addr) (H : Hp) : SameX x H H := fun _ _ _ e => e
theorem SameX.trans {x : Addr} {H H1 H2 : Hp} (a : SameX x H H1) (b : SameX x H1 H2) : SameX x H H2 := fun c o n e => b c o n (a c o n e)
theorem Same.x {x : Addr} {H H' : Hp} (g : Same H H') : SameX x H H' := fun b o _ e => g b o e
theorem SameX.t {x : Addr} {H H' : Hp} {ys : List V} (g : SameX x H H') (h : H x = some (.lst ys)) : SameT H H' := fun b xs e => g b _ (ne_of e h (by intro z; cases z)) e
theorem Same.t {H H' : Hp} (g : Same H H') : SameT H H' := fun b _ e => g b _ e
theorem SameT.trans {H H1 H2 : Hp} (a : SameT H H1) (b : SameT H1 H2) : SameT H H2 := fun c o e => b c o (a c o e)
theorem same_new {H : Hp} {p : Addr} (h : H p = none) (o : HO) : Same H (upd H p o) := fun b u q => by rw [upd_ne (ne_of_none q h)]; exact q
theorem sameX_upd {H : Hp} {p : Addr} (o : HO) : SameX p H (upd H p o) := fun b u n q => by rw [upd_ne n]; exact q
theorem SameX.seq {K : PySem.W.Frag} {H H' : Hp} {x a : Addr} {xs : List V} (e : SameX x H H') (n : a ≠ x) (h : SqL K H a xs) : SqL K H' a xs := by
 rcases h with (h | ⟨o, h⟩) | h
 ·exact .inl (.inl (e _ _ n h))
 ·exact .inl (.inr ⟨o, e _ _ n h⟩)
 ·exact .inr h
structure Good (d : PyData) : Prop where
 lay : d.canLay0 = true
 dep : d.depth ≤ 60
section
variable {X : Cx}
theorem roomD {u a b : Nat} (h : u + 64 < cLine) (ha : a ≤ 60) : u + min a b < cLine := by
 have : min a b ≤ a := Nat.min_le_left _ _
 omega
noncomputable def rEqD : R2 := fun x y H Q => ∃ dx dy, Dt H x dx ∧ Dt H y dy ∧ Good dx ∧ Good dy ∧ Q (.bl (PyData.eqv dx dy)) H
noncomputable def rNeD : R2 := fun x y H Q => ∃ dx dy, Dt H x dx ∧ Dt H y dy ∧ Good dx ∧ Good dy ∧ Q (.bl (!PyData.eqv dx dy)) H
theorem op_eqD (hu : X.A.units + 64 < cLine) : OpR X (compareOp .Eq) rEqD := by
 intro pins s σ H x y v u Q I rx ry h
 obtain ⟨dx, dy, ex, ey, gx, gy, q⟩ := h
 obtain ⟨as, r1⟩ := Dt.reads I.hok dx x v ex rx
 obtain ⟨bs, r2⟩ := Dt.reads I.hok dy y u ey ry
 exact SeqAt.compareEq_reads r1 r2 gx.lay gy.lay (roomD hu gx.dep) ⟨.bl _, H, I, rfl, q⟩
theorem op_neD (hu : X.A.units + 64 < cLine) : OpR X (compareOp .NotEq) rNeD := by
 intro pins s σ H x y v u Q I rx ry h
 obtain ⟨dx, dy, ex, ey, gx, gy, q⟩ := h
 obtain ⟨as, r1⟩ := Dt.reads I.hok dx x v ex rx
 obtain ⟨bs, r2⟩ := Dt.reads I.hok dy y u ey ry
 exact SeqAt.compareNe_reads r1 r2 gx.lay gy.lay (roomD hu gx.dep) ⟨.bl _, H, I, rfl, q⟩
theorem op_mulX : OpR X (binaryOp .Mult) (rI IntMulOk fun i j => .int (i * j)) := opI fun _ _ _ _ _ _ _ hc q => mul_int q hc
noncomputable def CDivX (_ j : Int) : Prop := j ≠ 0 ∧ LT.Bt 9000 j
theorem noPy {i j : Int} (h : CDivX i j) : Builtin.divisionGoesByPylong i j = false := by
 refine PyProof.noPylong_of_log2 ((Nat.log2_lt ?_).mpr h.2)
 have := h.1
 omega
theorem op_fdivX : OpR X (binaryOp .FloorDiv) (rI CDivX fun i j => .int (i.fdiv j)) := opI fun _ _ _ _ _ _ _ hc q => floordiv_int hc.1 q (.inl (noPy hc))
theorem bits_le {k : Nat} {i : Int} (h : LT.Bt k i) : Builtin.Int.intBits i ≤ k := by
 unfold Builtin.Int.intBits
 split
 ·exact Nat.zero_le _
 ·rename_i h0
  have : i.natAbs ≠ 0 := by
   intro e
   exact h0 (by simpa using e)
  exact (Nat.log2_lt this).mpr h
theorem mulB {k m : Nat} {i j : Int} (h : LT.Bt k i) (g : LT.Bt m j) (hk : k ≤ 1048576 := by decide) (hm : m ≤ 1048576 := by decide) : IntMulOk i j :=
 IntMulOk.of_bits (Nat.le_trans (bits_le h) hk) (Nat.le_trans (bits_le g) hm)
theorem pe_powC {a b v : Int} {j j' : Nat} {p p' pos : Pos} (h : a ^ b.toNat = v) (hc : CPow a b) : PE X (.BinOp (.Constant (.int a) j p) .Pow (.Constant (.int b) j' p') pos) (tC (.int v)) := by
 intro pins s σ H Q I hq
 subst h
 exact pe_op op_pow pe_int pe_int pins s σ H Q I ⟨_, _, rfl, rfl, hc, hq⟩
theorem CMul_mod {x c y : Int} (h : 0 < c) (h2 : c < 2 ^ 64) : CMul (x % c) y := by
 have h3 := Int.emod_nonneg x (b := c) (by omega)
 have h4 := Int.emod_lt_of_pos x h
 exact .inl ⟨by omega, by omega⟩
noncomputable def clsV : V → Option Value
 | .ty n => some (.type n)
 | .ref a => some (.ref a)
 | _ => none
noncomputable def rIsi (K : PySem.W.Frag) : List V → Hp → VK → Prop := fun xs H Q => ∃ x c cv t b, xs = [x, c] ∧ clsV c = some cv ∧ TyOf K H x t ∧ PySem.W.kitOne K t cv = some b ∧ Q (.bl b) H
theorem call_isi : CallR X (.builtin "isinstance") (rIsi X.K) := by
 intro pins s σ H xs us Q I r h
 obtain ⟨x, c, cv, t, b, rfl, ec, ty, e, q⟩ := h
 obtain ⟨u, v, rfl, rx, rc⟩ := vals2 r
 have ev : v = cv := by
  cases c <;> first
   | (cases ec; exact rc)
   | cases ec
 subst ev
 exact isinst_ok I rx ty e fun tk => ⟨.bl b, H, I.tok tk, rfl, q⟩
structure Cal (P : Program) (w : World) (K : PySem.W.Frag) (mg : Str → Option Value) (base : Heap) (k : Nat) (x : Str) (ps : List Str) (sp : Sp) : Prop where
 ex : ∃ (f : Addr) (fd : FuncData), FnOk P w K mg base CX0 k f fd ps sp ∧ mg x = some (.ref f) ∧ PySem.W.keepIn K (.ref f) = true ∧ Binds K fd ps []
variable {j k : Nat} {x : Str} {ps : List Str} {sp : Sp} {e : Expr} {es : List Expr} {t : TA} {p pos : Pos}
theorem pe_callC (c : Cal X.prog X.w X.K X.mg X.base j x ps sp) (hr : Room k X.A) (hg : Gl X x) (ha : PA X (e :: es) t) (hjk : j ≤ k := by decide)
  (hdb : (x == ("__debug__" : Str)) = false := by decide) (he : starEach (e :: es) X.env = (false, eval e X.env) :: starEach es X.env := by rfl) (hpl : (backTo pos (starEach es X.env)).any (·.1) = false := by rfl) :
  PE X (.Call (.Name x p) (e :: es) [] pos) (tCall sp [] E0 t) := by
 obtain ⟨f, fd, F, hm, hk, hb⟩ := c.ex
 exact pe_call F (hr.mono hjk) hg hm hk hb .nil pass0 ha hdb he hpl
end
structure Bl (K : PySem.W.Frag) (mg : Str → Option Value) : Prop where
 len_ : mg "len" = none
 abs_ : mg "abs" = none
 range_ : mg "range" = none
 isinstance_ : mg "isinstance" = none
 int_ : mg "int" = none
 bool_ : mg "bool" = none
 tuple_ : mg "tuple" = none
 max_ : mg "max" = none
 min_ : mg "min" = none
 list_ : mg "list" = none
 all_ : mg "all" = none
 any_ : mg "any" = none
 sorted_ : mg "sorted" = none
 zip_ : mg "zip" = none
 set_ : mg "set" = none
 sum_ : mg "sum" = none
 str_ : mg "str" = none
 enumerate_ : mg "enumerate" = none
 kib : PySem.W.kitOne K (.type "int") (.type "bool") = some false
 kbi : PySem.W.kitOne K (.type "bool") (.type "int") = some true
theorem kit_same (K : PySem.W.Frag) (t : Value) : PySem.W.kitOne K t t = some true := by
 unfold PySem.W.kitOne
 rw [if_pos (beq_self_eq_true t)]
end L2
namespace L2
open PySem PySem.Spec PyProof.Rows LT
theorem iteD1 {c A B : Prop} [Decidable c] (h : c) (a : A) : if decide c = true then A else B := by rw [decide_eq_true h]; exact iteT a
theorem iteD0 {c A B : Prop} [Decidable c] (h : ¬ c) (b : B) : if decide c = true then A else B := by rw [decide_eq_false h]; exact iteF b
theorem iteN1 {c A B : Prop} [Decidable c] (h : ¬ c) (a : A) : if (!decide c) = true then A else B := by rw [decide_eq_false h]; exact iteT a
theorem iteD2 {c A B : Prop} [Decidable c] (h1 : c → A) (h2 : ¬ c → B) : if decide c = true then A else B := by
 by_cases h : c
 ·exact iteD1 h (h1 h)
 ·exact iteD0 h (h2 h)
theorem iteN2 {c A B : Prop} [Decidable c] (h1 : ¬ c → A) (h2 : c → B) : if (!decide c) = true then A else B := by
 by_cases h : c
 ·exact iteNS h (h2 h)
 ·exact iteN1 h (h1 h)
theorem eq_of_int {i j : Int} (h : V.int i = V.int j) : i = j := V.int.inj h
theorem ne_of_int {i j : Int} (h : ¬ V.int i = V.int j) : i ≠ j := fun e => h (by rw [e])
theorem small_le {n : Nat} (h : n ≤ 1000) : n ≤ sizeLine := Nat.le_of_lt (small1000 h)
theorem small_b {n : Nat} (h : Nat.ble n 1000 = true) : n ≤ sizeLine := small_le (Nat.le_of_ble_eq_true h)
noncomputable def dNum (q : Rat) : PyData := .tuple [.int q.num, .int (q.den : Int)]
theorem good_num (q : Rat) : Good (dNum q) := ⟨rfl, by show 1 ≤ 60; decide⟩
theorem Dt.num {H : Hp} {p : Addr} {q : Rat} (h : H p = some (.tup [.int q.num, .int (q.den : Int)])) : Dt H (.ref p) (dNum q) := .tup h (.cons (.int _) (.cons (.int _) .nil))
theorem eqv_num (a b : Rat) : PyData.eqv (dNum a) (dNum b) = decide (a = b) := by
 show ((a.num == b.num) && (((a.den : Int) == (b.den : Int)) && true)) = decide (a = b)
 rw [Bool.and_true]
 by_cases e : a = b
 ·subst e; simp
 ·rw [decide_eq_false e]
  refine Bool.eq_false_iff.mpr fun h => e ?_
  rw [Bool.and_eq_true] at h
  have h1 : a.num = b.num := beq_iff_eq.mp h.1
  have h2 : (a.den : Int) = (b.den : Int) := beq_iff_eq.mp h.2
  exact Rat.ext h1 (by omega)
noncomputable def dLine (l : Rat × Rat) : PyData := .tuple [dNum l.1, dNum l.2]
theorem good_line (l : Rat × Rat) : Good (dLine l) := ⟨rfl, by show 2 ≤ 60; decide⟩
theorem Dt.line {H : Hp} {p : Addr} {a b : V} {l : Rat × Rat} (h : H p = some (.tup [a, b])) (ha : Dt H a (dNum l.1)) (hb : Dt H b (dNum l.2)) : Dt H (.ref p) (dLine l) := .tup h (.cons ha (.cons hb .nil))
theorem eqv_line (a b : Rat × Rat) : PyData.eqv (dLine a) (dLine b) = decide (a = b) := by
 show (PyData.eqv (dNum a.1) (dNum b.1) && (PyData.eqv (dNum a.2) (dNum b.2) && true)) = decide (a = b)
 rw [Bool.and_true, eqv_num, eqv_num]
 obtain ⟨a1, a2⟩ := a
 obtain ⟨b1, b2⟩ := b
 by_cases e : a1 = b1 <;> by_cases f : a2 = b2 <;> simp [e, f]
noncomputable def Pen (K : PySem.W.Frag) (pen a : Addr) (ns : List Int) (H : Hp) : Prop := ∃ z k : Int, 0 ≤ z ∧ 0 ≤ k ∧ H pen = some (.lst [.ref a, .int z, .int k]) ∧ SqL K H a (ns.map V.int)
theorem penS {K : PySem.W.Frag} {pen a : Addr} {ns : List Int} {ys : List V} {H H' : Hp} (hp : H pen = some (.lst (.ref a :: ys))) (h : SqL K H a (ns.map V.int)) (e : SameX pen H H') : SqL K H' a (ns.map V.int) := by
 rcases h with (h | ⟨o, h⟩) | h
 ·refine .inl (.inl (e _ _ ?_ h))
  rintro rfl
  rw [hp] at h
  injection h with h
  injection h with h
  cases ns with
  | nil => cases h
  | cons n ns =>
   rw [List.map_cons] at h
   injection h with h1 h2
   cases h1
 ·refine .inl (.inr ⟨o, e _ _ ?_ h⟩)
  rintro rfl
  rw [hp] at h
  cases h
 ·exact .inr h
theorem Pen.lst {K : PySem.W.Frag} {pen a : Addr} {ns : List Int} {H : Hp} (h : Pen K pen a ns H) : ∃ ys, H pen = some (.lst ys) := let ⟨_, _, _, _, e, _⟩ := h; ⟨_, e⟩
theorem Pen.same {K : PySem.W.Frag} {pen a : Addr} {ns : List Int} {H H' : Hp} (h : Pen K pen a ns H) (g : Same H H') : Pen K pen a ns H' :=
 let ⟨z, k, h1, h2, h3, h4⟩ := h; ⟨z, k, h1, h2, g _ _ h3, g.seq h4⟩
noncomputable def spWhole (K : PySem.W.Frag) : Sp := fun vs H Q _ => ∃ x t bi bb, vs = [x] ∧ TyOf K H x t ∧ PySem.W.kitOne K t (.type "int") = some bi ∧ PySem.W.kitOne K t (.type "bool") = some bb ∧ Q (.bl (bi && !bb)) H
noncomputable def spTake (K : PySem.W.Frag) : Sp := fun vs H Q _ => ∃ pen a ns, ∃ m : Int, vs = [.ref pen, .int m] ∧ Pen K pen a ns H ∧ 0 < m ∧ m < 1073741824 ∧ ∀ (r : Int) H', 0 ≤ r → r < m → Pen K pen a ns H' → SameX pen H H' → Q (.int r) H'
theorem Pen.t {K : PySem.W.Frag} {pen a : Addr} {ns : List Int} {H H' : Hp} (h : Pen K pen a ns H) (g : SameX pen H H') : SameT H H' := let ⟨_, e⟩ := h.lst; g.t e
noncomputable def spLaw (K : PySem.W.Frag) : Sp := fun vs H Q _ => ∃ (a : Addr) (ns : List Int), vs = [.ref a] ∧ SqL K H a (ns.map V.int) ∧ ns.length ≤ 63 ∧ ∀ H', Q (.bl true) H'
theorem gcd_bt {k : Nat} {t b : Int} (h : Bt k b) (h0 : b ≠ 0) : Bt k (Int.gcd t b : Nat) := by
 unfold Bt at *
 refine Nat.lt_of_le_of_lt ?_ h
 show Int.gcd t b ≤ b.natAbs
 exact Nat.le_of_dvd (by omega) (Nat.gcd_dvd_right _ _)
theorem gcd_ne {t b : Int} (h0 : b ≠ 0) : ((Int.gcd t b : Nat) : Int) ≠ 0 := by
 have := Int.gcd_pos_of_ne_zero_right t h0
 omega
end L2
namespace L2.VS
open PySem PySem.Spec PyProof.Rows
abbrev D := PyData
structure Bx where
 P : V → List Addr → Hp → Hp → Prop
 mono : ∀ {v fp G G' H}, Same G G' → P v fp G H → P v fp G' H
 loc : ∀ {v fp G H H'}, (∀ b ∈ fp, H' b = H b) → P v fp G H → P v fp G H'
 dom : ∀ {v fp G H}, P v fp G H → ∀ b ∈ fp, ∃ o, H b = some o
 uniq : ∀ {v fp fp' G H}, P v fp G H → P v fp' G H → fp = fp'
 nt : ∀ {v fp G H}, P v fp G H → ∀ b ∈ fp, ∀ xs, H b = some (.tup xs) → ∃ q ∈ fp, V.ref q ∈ xs ∧ ∃ vs, H q = some (.lst vs)
 view : Option D
 vok : ∀ {v fp G H G' d}, P v fp G H → view = some d → Same G G' → (∀ b ∈ fp, G' b = H b) → Dt G' v d
structure Pb where
 P : V → Hp → Prop
 mono : ∀ {v G G'}, Same G G' → P v G → P v G'
inductive Sl where
 | no | val (d : D) | own (ds : List D) | pen | con (p : Addr) | box (B : Bx) | pub (B : Pb)
abbrev En := List Sl
inductive Rv where
 | val (d : D) | own (ds : List D) | box (B : Bx)
noncomputable def Rv.d : Rv → D
 | .val d => d
 | .own ds => .list ds
 | .box B => B.view.getD .none
noncomputable def Rv.sl : Rv → Sl
 | .val d => .val d
 | .own ds => .own ds
 | .box B => .box B
inductive Fl where
 | nx (Γ : En) | rt (r : Rv) | bk (Γ : En) | ct (Γ : En)
variable {P0 : Addr → Hp → Prop}
structure Fra (P0 : Addr → Hp → Prop) where
 H0 : Hp
 G0 : Hp
 pen : Option Addr
 stab : ∀ p, pen = some p → ∀ H H', (∀ b o, H0 b = some o → H' b = H b) → P0 p H → P0 p H'
 pin : ∀ p, pen = some p → ∀ H, P0 p H → ∃ o, H p = some o
 pin0 : ∀ p, pen = some p → ∃ o, H0 p = some o
 pg : ∀ p, pen = some p → G0 p = none
noncomputable def Fra.PI (F : Fra P0) (H : Hp) : Prop := ∀ p, F.pen = some p → P0 p H
theorem Fra.stab' (F : Fra P0) : ∀ H H', (∀ b o, F.H0 b = some o → H' b = H b) → F.PI H → F.PI H' := fun H H' h pi p e => F.stab p e H H' h (pi p e)
structure Rf (F : Fra P0) (G H : Hp) : Prop where
 sub : Same G H
 g0 : ∀ b o, F.H0 b = some o → G b = F.G0 b
 h0 : ∀ b o, F.H0 b = some o → F.pen ≠ some b → H b = some o
 pn : F.PI H
noncomputable def SlF (F : Fra P0) (G H : Hp) (x : Option (Option V)) (fp : List Addr) : Sl → Prop
 | .no => fp = []
 | .val d => fp = [] ∧ ∃ v, x = some (some v) ∧ Dt G v d
 | .own ds => ∃ p vs, fp = [p] ∧ x = some (some (.ref p)) ∧ F.H0 p = none ∧ G p = none ∧ H p = some (.lst vs) ∧ Dts G vs ds
 | .pen => fp = [] ∧ ∃ p, x = some (some (.ref p)) ∧ F.pen = some p
 | .con p => fp = [] ∧ x = some (some (.ref p))
 | .pub B => fp = [] ∧ ∃ v, x = some (some v) ∧ B.P v G
 | .box B => ∃ v, x = some (some v) ∧ B.P v fp G H ∧ ∀ b ∈ fp, F.H0 b = none ∧ G b = none
noncomputable def SlOk (F : Fra P0) (G H : Hp) (x : Option (Option V)) : Sl → Prop
 | .no => True
 | .val d => ∃ v, x = some (some v) ∧ Dt G v d
 | .own ds => ∃ p vs, x = some (some (.ref p)) ∧ F.H0 p = none ∧ G p = none ∧ H p = some (.lst vs) ∧ Dts G vs ds
 | .pen => ∃ p, x = some (some (.ref p)) ∧ F.pen = some p
 | .con p => x = some (some (.ref p))
 | .pub B => ∃ v, x = some (some v) ∧ B.P v G
 | .box B => ∃ v fp, x = some (some v) ∧ B.P v fp G H ∧ ∀ b ∈ fp, F.H0 b = none ∧ G b = none
theorem SlF.ok {F : Fra P0} {G H : Hp} {x : Option (Option V)} {fp : List Addr} : ∀ {s : Sl}, SlF F G H x fp s → SlOk F G H x s
 | .no, _ => trivial
 | .val _, h => h.2
 | .own _, h => let ⟨p, vs, _, r⟩ := h; ⟨p, vs, r⟩
 | .pen, h => h.2
 | .con _, h => h.2
 | .pub _, h => h.2
 | .box _, h => let ⟨v, r⟩ := h; ⟨v, fp, r⟩
theorem SlF.mine {F : Fra P0} {G H : Hp} {x : Option (Option V)} {fp : List Addr} {b : Addr} (hb : b ∈ fp) : ∀ {s : Sl}, SlF F G H x fp s → F.H0 b = none ∧ G b = none ∧ ∃ o, H b = some o
 | .no, h => by rw [show fp = [] from h] at hb; cases hb
 | .val _, h => by rw [h.1] at hb; cases hb
 | .own _, h => by
  obtain ⟨p, vs, e, _, h1, h2, h3, _⟩ := h
  rw [e] at hb
  rw [List.mem_singleton.mp hb]
  exact ⟨h1, h2, _, h3⟩
 | .pen, h => by rw [h.1] at hb; cases hb
 | .con _, h => by rw [h.1] at hb; cases hb
 | .pub _, h => by rw [h.1] at hb; cases hb
 | .box B, h => by
  obtain ⟨v, _, h2, h3⟩ := h
  exact ⟨(h3 b hb).1, (h3 b hb).2, B.dom h2 b hb⟩
theorem SlF.go {F : Fra P0} {G H G' H' : Hp} {x : Option (Option V)} {fp : List Addr} (g : Same G G') (k : ∀ b ∈ fp, G' b = none ∧ H' b = H b) : ∀ {s : Sl}, SlF F G H x fp s → SlF F G' H' x fp s
 | .no, h => h
 | .val _, h => let ⟨e, v, e1, d1⟩ := h; ⟨e, v, e1, Dt.same g _ _ d1⟩
 | .own _, h => by
  obtain ⟨p, vs, e, e1, e2, e3, e4, e5⟩ := h
  have := k p (by rw [e]; exact List.mem_singleton.mpr rfl)
  exact ⟨p, vs, e, e1, e2, this.1, this.2.trans e4, Dts.same g _ _ e5⟩
 | .pen, h => h
 | .con _, h => h
 | .pub B, h => let ⟨e, v, e1, d1⟩ := h; ⟨e, v, e1, B.mono g d1⟩
 | .box B, h => by
  obtain ⟨v, h1, h2, h3⟩ := h
  exact ⟨v, h1, B.loc (fun b hb => (k b hb).2) (B.mono g h2), fun b hb => ⟨(h3 b hb).1, (k b hb).1⟩⟩
structure R (F : Fra P0) (Γ : En) (σ : St) (G H : Hp) : Prop where
 fr : Rf F G H
 len : Γ.length = σ.length
 fps : ∃ fps : Nat → List Addr, (∀ (i : Nat) s, Γ[i]? = some s → SlF F G H σ[i]? (fps i) s) ∧ ∀ (i j : Nat) (s t : Sl), Γ[i]? = some s → Γ[j]? = some t → i ≠ j → ∀ b ∈ fps i, b ∉ fps j
theorem R.sl {F : Fra P0} {Γ : En} {σ : St} {G H : Hp} (r : R F Γ σ G H) (i : Nat) (s : Sl) (e : Γ[i]? = some s) : SlOk F G H σ[i]? s :=
 let ⟨_, h, _⟩ := r.fps; (h i s e).ok
theorem R.ap {F : Fra P0} {Γ : En} {σ : St} {G H : Hp} (r : R F Γ σ G H) (i j : Nat) (x y : List D) (hij : i ≠ j) (ei : Γ[i]? = some (.own x)) (ej : Γ[j]? = some (.own y)) : σ[i]? ≠ σ[j]? := by
 obtain ⟨fps, h1, h2⟩ := r.fps
 obtain ⟨p, vs, e, e1, _⟩ := h1 i _ ei
 obtain ⟨q, ws, f, f1, _⟩ := h1 j _ ej
 intro z
 rw [e1, f1] at z
 cases z
 exact h2 i j _ _ ei ej hij p (by rw [e]; exact List.mem_singleton.mpr rfl) (by rw [f]; exact List.mem_singleton.mpr rfl)
theorem R.of {F : Fra P0} {Γ : En} {σ : St} {G H : Hp} (fr : Rf F G H) (len : Γ.length = σ.length) (sl : ∀ (i : Nat) s, Γ[i]? = some s → SlOk F G H σ[i]? s) (nb : ∀ (i : Nat) B, Γ[i]? ≠ some (.box B))
  (ap : ∀ (i j : Nat) x y, i ≠ j → Γ[i]? = some (.own x) → Γ[j]? = some (.own y) → σ[i]? ≠ σ[j]?) : R F Γ σ G H := by
 refine ⟨fr, len, fun i => match Γ[i]?, σ[i]? with | some (.own _), some (some (.ref p)) => [p] | _, _ => [], fun i s e => ?_, fun i j s t ei ej hij b hb hc => ?_⟩
 ·have h := sl i s e
  cases s with
  | no => simp only [e]; rfl
  | val d => simp only [e]; exact ⟨rfl, h⟩
  | own ds =>
   obtain ⟨p, vs, e1, r⟩ := h
   simp only [e, e1]
   exact ⟨p, vs, rfl, rfl, r⟩
  | pen => simp only [e]; exact ⟨rfl, h⟩
  | con q => simp only [e]; exact ⟨rfl, h⟩
  | pub B => simp only [e]; exact ⟨rfl, h⟩
  | box B => exact absurd e (nb i B)
 ·simp only [ei] at hb
  simp only [ej] at hc
  cases s with
  | own x =>
   cases t with
   | own y =>
    split at hb
    ·rename_i p _ e1
     split at hc
     ·rename_i q _ e2
      have e1 := List.mem_singleton.mp hb
      have e2 := List.mem_singleton.mp hc
      exact ap i j x y hij ei ej (by simp_all)
     ·cases hc
    ·cases hb
   | _ => simp at hc
  | _ => simp at hb
section
variable {F : Fra P0} {Γ : En} {σ : St} {G H G' H' : Hp} {p : Addr} {o : HO}
theorem Rf.dom (h : Rf F G H) {b : Addr} (e : F.H0 b = some o) : ∃ o', H b = some o' := by
 by_cases hb : F.pen = some b
 ·exact F.pin b hb H (h.pn b hb)
 ·exact ⟨o, h.h0 b o e hb⟩
theorem Rf.fresh (h : Rf F G H) (hp : H p = none) : F.H0 p = none := by
 cases e : F.H0 p with
 | none => rfl
 | some o =>
  obtain ⟨o', e'⟩ := h.dom e
  rw [hp] at e'; cases e'
theorem Rf.gfresh (h : Rf F G H) (hp : H p = none) : G p = none := h.sub.free hp
theorem Rf.pub (h : Rf F G H) (hp : H p = none) : Rf F (upd G p o) (upd H p o) := by
 have hf := h.fresh hp
 have hn : ∀ b u, F.H0 b = some u → b ≠ p := fun b u e z => by rw [z, hf] at e; cases e
 refine ⟨fun b u e => ?_, fun b u e => ?_, fun b u e hb => ?_, F.stab' H _ (fun b u e => upd_ne (hn b u e)) h.pn⟩
 ·by_cases hb : b = p
  ·subst hb; rw [upd_same] at e; cases e; exact upd_same
  ·rw [upd_ne hb] at e ⊢; exact h.sub b u e
 ·rw [upd_ne (hn b u e)]; exact h.g0 b u e
 ·rw [upd_ne (hn b u e)]; exact h.h0 b u e hb
theorem Rf.priv (h : Rf F G H) (hp : F.H0 p = none) (hg : G p = none) : Rf F G (upd H p o) := by
 have hn : ∀ b u, F.H0 b = some u → b ≠ p := fun b u e z => by rw [z, hp] at e; cases e
 refine ⟨fun b u e => ?_, h.g0, fun b u e hb => ?_, F.stab' H _ (fun b u e => upd_ne (hn b u e)) h.pn⟩
 ·rw [upd_ne (ne_of_none e hg)]; exact h.sub b u e
 ·rw [upd_ne (hn b u e)]; exact h.h0 b u e hb
theorem Rf.give (h : Rf F G H) (hp : F.H0 p = none) (hH : H p = some o) : Rf F (upd G p o) H := by
 have hn : ∀ b u, F.H0 b = some u → b ≠ p := fun b u e z => by rw [z, hp] at e; cases e
 refine ⟨fun b u e => ?_, fun b u e => ?_, h.h0, h.pn⟩
 ·by_cases hb : b = p
  ·subst hb; rw [upd_same] at e; cases e; exact hH
  ·rw [upd_ne hb] at e; exact h.sub b u e
 ·rw [upd_ne (hn b u e)]; exact h.g0 b u e
noncomputable def R.Has (_ : R F Γ σ G H) (b : Addr) : Prop := ∃ (i : Nat) (s : Sl) (fp : List Addr), Γ[i]? = some s ∧ SlF F G H σ[i]? fp s ∧ b ∈ fp
theorem R.keep (r : R F Γ σ G H) (f : Rf F G' H') (g : Same G G')
  (k : ∀ b o, r.Has b → F.H0 b = none → G b = none → H b = some o → G' b = none ∧ H' b = some o) : R F Γ σ G' H' := by
 obtain ⟨fps, h1, h2⟩ := r.fps
 refine ⟨f, r.len, fps, fun i s e => (h1 i s e).go g fun b hb => ?_, h2⟩
 obtain ⟨m1, m2, o, m3⟩ := (h1 i s e).mine hb
 obtain ⟨k1, k2⟩ := k b o ⟨i, s, fps i, e, h1 i s e, hb⟩ m1 m2 m3
 exact ⟨k1, k2.trans m3.symm⟩
theorem R.new (r : R F Γ σ G H) (hp : H p = none) : R F Γ σ (upd G p o) (upd H p o) := by
 refine r.keep (r.fr.pub hp) (same_new (r.fr.gfresh hp) o) fun q u _ _ g h => ?_
 have hq : q ≠ p := ne_of_none h hp
 rw [upd_ne hq, upd_ne hq]
 exact ⟨g, h⟩
theorem R.newP (r : R F Γ σ G H) (hp : H p = none) : R F Γ σ G (upd H p o) := by
 refine r.keep (r.fr.priv (r.fr.fresh hp) (r.fr.gfresh hp)) (Same.refl _) fun q u _ _ g h => ?_
 have hq : q ≠ p := ne_of_none h hp
 rw [upd_ne hq]
 exact ⟨g, h⟩
noncomputable def RvO (F : Fra P0) (G H : Hp) (r : V) : Rv → Prop
 | .val d => Dt G r d
 | .own ds => ∃ p vs, r = .ref p ∧ F.H0 p = none ∧ G p = none ∧ H p = some (.lst vs) ∧ Dts G vs ds
 | .box B => ∃ fp, B.P r fp G H ∧ ∀ b ∈ fp, F.H0 b = none ∧ G b = none
noncomputable def Apart (F : Fra P0) (Γ : En) (σ : St) (G H : Hp) (r : V) : Rv → Prop
 | .val _ => True
 | .own _ => ∀ (i : Nat) s fp, Γ[i]? = some s → SlF F G H σ[i]? fp s → ∀ p, r = .ref p → p ∉ fp
 | .box B => ∀ (i : Nat) s fp f, Γ[i]? = some s → SlF F G H σ[i]? fp s → B.P r f G H → ∀ b ∈ f, b ∉ fp
theorem R.give (r : R F Γ σ G H) {v : V} {ds : List D} (h : RvO F G H v (.own ds)) (ha : Apart F Γ σ G H v (.own ds)) : ∃ G', Same G G' ∧ R F Γ σ G' H ∧ Dt G' v (.list ds) := by
 obtain ⟨p, vs, rfl, e1, e2, e3, e4⟩ := h
 have g := same_new e2 (.lst vs)
 refine ⟨upd G p (.lst vs), g, r.keep (r.fr.give e1 e3) g fun q u hq _ eg eh => ⟨?_, eh⟩, .lst upd_same (Dts.same g _ _ e4)⟩
 have hqp : q ≠ p := fun z => by
  obtain ⟨i, s, fp, a1, a2, a3⟩ := hq
  rw [z] at a3
  exact ha i s fp a1 a2 p rfl a3
 rw [upd_ne hqp]
 exact eg
theorem R.giveB (r : R F Γ σ G H) {v : V} {B : Bx} {d : D} (h : RvO F G H v (.box B)) (ha : Apart F Γ σ G H v (.box B)) (hv : B.view = some d) : ∃ G', Same G G' ∧ R F Γ σ G' H ∧ Dt G' v d := by
 obtain ⟨fp, e1, e2⟩ := h
 have g : Same G (fun b => if b ∈ fp then H b else G b) := fun b o e => by
  show (if b ∈ fp then H b else G b) = some o
  rw [if_neg (fun z => by rw [(e2 b z).2] at e; cases e)]
  exact e
 refine ⟨fun b => if b ∈ fp then H b else G b, g, r.keep ⟨fun b o e => ?_, fun b o e => ?_, r.fr.h0, r.fr.pn⟩ g fun q u hq _ eg eh => ⟨?_, eh⟩, B.vok e1 hv g fun b hb => if_pos hb⟩
 ·have e : (if b ∈ fp then H b else G b) = some o := e
  split at e
  ·exact e
  ·exact r.fr.sub b o e
 ·show (if b ∈ fp then H b else G b) = _
  rw [if_neg (fun z => by rw [(e2 b z).1] at e; cases e)]
  exact r.fr.g0 b o e
 ·obtain ⟨i, s, f, a1, a2, a3⟩ := hq
  show (if q ∈ fp then H q else G q) = none
  rw [if_neg fun z => ha i s f fp a1 a2 e1 q z a3]
  exact eg
theorem R.set (r : R F Γ σ G H) {i : Nat} {v : V} {rv : Rv} (h : RvO F G H v rv) (ha : Apart F Γ σ G H v rv) : R F (Γ.set i rv.sl) (σ.set i (some v)) G H := by
 obtain ⟨fps, h1, h2⟩ := r.fps
 obtain ⟨fp, hf, hd⟩ : ∃ fp, SlF F G H (some (some v)) fp rv.sl ∧ ∀ (j : Nat) s, Γ[j]? = some s → ∀ b ∈ fp, b ∉ fps j := by
  cases rv with
  | val d => exact ⟨[], ⟨rfl, v, rfl, h⟩, fun j s _ b hb => nomatch hb⟩
  | own ds =>
   obtain ⟨p, vs, rfl, q⟩ := h
   exact ⟨[p], ⟨p, vs, rfl, rfl, q⟩, fun j s ej b hb => by rw [List.mem_singleton.mp hb]; exact ha j s (fps j) ej (h1 j s ej) p rfl⟩
  | box B =>
   obtain ⟨fp, q1, q2⟩ := h
   exact ⟨fp, ⟨v, rfl, q1, q2⟩, fun j s ej b hb => ha j s (fps j) fp ej (h1 j s ej) q1 b hb⟩
 have lt : ∀ {m : Nat} {z}, (Γ.set i rv.sl)[m]? = some z → m < Γ.length := fun e => by
  have := (List.getElem?_eq_some_iff.mp e).1
  simpa using this
 have old : ∀ {m : Nat} {z}, m ≠ i → (Γ.set i rv.sl)[m]? = some z → Γ[m]? = some z := fun hm e => by rw [List.getElem?_set_ne (Ne.symm hm)] at e; exact e
 refine ⟨r.fr, by rw [List.length_set, List.length_set]; exact r.len, fun j => if j = i then fp else fps j, fun j s e => ?_, fun j k s t ej ek hjk b hb hc => ?_⟩
 ·dsimp only
  by_cases hj : j = i
  ·subst hj
   have hi := lt e
   rw [List.getElem?_set_self hi] at e
   rw [if_pos rfl, List.getElem?_set_self (by rw [← r.len]; exact hi)]
   cases e
   exact hf
  ·rw [if_neg hj, List.getElem?_set_ne (Ne.symm hj)]
   exact h1 j s (old hj e)
 ·dsimp only at hb hc
  by_cases hj : j = i
  ·have hk : k ≠ i := fun z => hjk (hj.trans z.symm)
   rw [if_pos hj] at hb
   rw [if_neg hk] at hc
   exact hd k t (old hk ek) b hb hc
  ·rw [if_neg hj] at hb
   by_cases hk : k = i
   ·rw [if_pos hk] at hc
    exact hd j s (old hj ej) b hc hb
   ·rw [if_neg hk] at hc
    exact h2 j k s t (old hj ej) (old hk ek) hjk b hb hc
theorem R.setV (r : R F Γ σ G H) {i : Nat} {v : V} {d : D} (h : Dt G v d) : R F (Γ.set i (.val d)) (σ.set i (some v)) G H := r.set (rv := .val d) h trivial
theorem R.drop (r : R F Γ σ G H) (i : Nat) : R F (Γ.set i .no) σ G H := by
 obtain ⟨fps, h1, h2⟩ := r.fps
 have back : ∀ {m z}, m ≠ i → (Γ.set i .no)[m]? = some z → Γ[m]? = some z := fun {m z} hm e => by rw [List.getElem?_set_ne (Ne.symm hm)] at e; exact e
 refine ⟨r.fr, by rw [List.length_set]; exact r.len, fun j => if j = i then [] else fps j, fun j s e => ?_, fun j k s t ej ek hjk b hb hc => ?_⟩
 ·dsimp only
  by_cases hj : j = i
  ·subst hj
   have hi : j < Γ.length := by
    have := (List.getElem?_eq_some_iff.mp e).1
    simpa using this
   rw [List.getElem?_set_self hi] at e
   cases e
   rw [if_pos rfl]
   rfl
  ·rw [if_neg hj]
   exact h1 j s (back hj e)
 ·dsimp only at hb hc
  by_cases hj : j = i
  ·rw [if_pos hj] at hb; cases hb
  ·rw [if_neg hj] at hb
   by_cases hk : k = i
   ·rw [if_pos hk] at hc; cases hc
   ·rw [if_neg hk] at hc
    exact h2 j k s t (back hj ej) (back hk ek) hjk b hb hc
theorem R.writeF (r : R F Γ σ G H) {i : Nat} {s0 s1 : Sl} {H' : Hp} (e : Γ[i]? = some s0) (fr : Rf F G H') (h : ∀ fp, SlF F G H σ[i]? fp s0 → ∃ fp', SlF F G H' σ[i]? fp' s1 ∧ (∀ b, b ∉ fp → (∃ o, H b = some o) → H' b = H b ∧ b ∉ fp')) : R F (Γ.set i s1) σ G H' := by
 obtain ⟨fps, h1, h2⟩ := r.fps
 obtain ⟨fp', w1, w2⟩ := h (fps i) (h1 i s0 e)
 have hi : i < Γ.length := (List.getElem?_eq_some_iff.mp e).1
 have back : ∀ {m z}, m ≠ i → (Γ.set i s1)[m]? = some z → Γ[m]? = some z := fun {m z} hm e => by rw [List.getElem?_set_ne (Ne.symm hm)] at e; exact e
 have away : ∀ {j : Nat} {s : Sl}, j ≠ i → Γ[j]? = some s → ∀ b ∈ fps j, H' b = H b ∧ b ∉ fp' := fun hj ej b hb =>
  w2 b (fun z => h2 _ i _ s0 ej e hj b hb z) ((h1 _ _ ej).mine hb).2.2
 refine ⟨fr, by rw [List.length_set]; exact r.len, fun j => if j = i then fp' else fps j, fun j s ej => ?_, fun j k s t ej ek hjk b hb hc => ?_⟩
 ·dsimp only
  by_cases hj : j = i
  ·subst hj
   rw [List.getElem?_set_self hi] at ej
   cases ej
   rw [if_pos rfl]
   exact w1
  ·rw [if_neg hj]
   have e0 := back hj ej
   exact (h1 j s e0).go (Same.refl _) fun b hb => ⟨((h1 j s e0).mine hb).2.1, (away hj e0 b hb).1⟩
 ·dsimp only at hb hc
  by_cases hj : j = i
  ·have hk : k ≠ i := fun z => hjk (hj.trans z.symm)
   rw [if_pos hj] at hb
   rw [if_neg hk] at hc
   exact (away hk (back hk ek) b hc).2 hb
  ·rw [if_neg hj] at hb
   by_cases hk : k = i
   ·rw [if_pos hk] at hc
    exact (away hj (back hj ej) b hb).2 hc
   ·rw [if_neg hk] at hc
    exact h2 j k s t (back hj ej) (back hk ek) hjk b hb hc
theorem R.write (r : R F Γ σ G H) {i : Nat} {ds es : List D} {p : Addr} {ws : List V} (e : Γ[i]? = some (.own ds)) (ep : σ[i]? = some (some (.ref p))) (hw : Dts G ws es) : R F (Γ.set i (.own es)) σ G (upd H p (.lst ws)) := by
 obtain ⟨p', vs, e1, e2, e3, e4, e5⟩ := r.sl i _ e
 rw [ep] at e1; cases e1
 refine r.writeF e (r.fr.priv e2 e3) fun fp h => ?_
 obtain ⟨q, us, f0, f1, f2, f3, f4, f5⟩ := h
 rw [ep] at f1; cases f1
 refine ⟨[p], ⟨p, ws, rfl, ep, e2, e3, upd_same, hw⟩, fun b hb _ => ?_⟩
 have hbp : b ≠ p := fun z => hb (by rw [f0, z]; exact List.mem_singleton.mpr rfl)
 exact ⟨upd_ne hbp, fun z => hbp (List.mem_singleton.mp z)⟩
end
abbrev ME := En → (D → En → Prop) → Prop
abbrev MO := En → (Rv → En → Prop) → Prop
abbrev MT := En → (Bool → En → Prop) → Prop
abbrev MA := En → (List Sl → En → Prop) → Prop
abbrev MD := En → (List D → En → Prop) → Prop
abbrev MG := D → En → (En → Prop) → Prop
abbrev MGs := List D → En → (En → Prop) → Prop
abbrev MS := En → (Fl → Prop) → Prop
abbrev Fm := List Sl → (Rv → Prop) → Prop
noncomputable def VT (P0 : Addr → Hp → Prop) (t : TE) (m : ME) : Prop := ∀ (F : Fra P0) (Γ : En) (σ : St) (G H : Hp) (Q : VK) (Qm : D → En → Prop), R F Γ σ G H → m Γ Qm →
 (∀ d Γ' r G' H', Qm d Γ' → Same G G' → R F Γ' σ G' H' → Dt G' r d → Q r H') → t σ H Q
noncomputable def VO (P0 : Addr → Hp → Prop) (t : TE) (m : MO) : Prop := ∀ (F : Fra P0) (Γ : En) (σ : St) (G H : Hp) (Q : VK) (Qm : Rv → En → Prop), R F Γ σ G H → m Γ Qm →
 (∀ rv Γ' r G' H', Qm rv Γ' → Same G G' → R F Γ' σ G' H' → RvO F G' H' r rv → Apart F Γ' σ G' H' r rv → Q r H') → t σ H Q
noncomputable def VTT (P0 : Addr → Hp → Prop) (t : TT) (m : MT) : Prop := ∀ (F : Fra P0) (Γ : En) (σ : St) (G H : Hp) (Q : Bool → Hp → Prop) (Qm : Bool → En → Prop), R F Γ σ G H → m Γ Qm →
 (∀ b Γ' G' H', Qm b Γ' → Same G G' → R F Γ' σ G' H' → Q b H') → t σ H Q
noncomputable def VD (P0 : Addr → Hp → Prop) (t : TA) (m : MD) : Prop := ∀ (F : Fra P0) (Γ : En) (σ : St) (G H : Hp) (Q : List V → Hp → Prop) (Qm : List D → En → Prop), R F Γ σ G H → m Γ Qm →
 (∀ ds Γ' rs G' H', Qm ds Γ' → Same G G' → R F Γ' σ G' H' → Dts G' rs ds → Q rs H') → t σ H Q
noncomputable def ArgOk (F : Fra P0) (G : Hp) (r : V) : Sl → Prop
 | .val d => Dt G r d
 | .pen => ∃ p, r = .ref p ∧ F.pen = some p
 | .con p => r = .ref p
 | _ => False
noncomputable def VA (P0 : Addr → Hp → Prop) (t : TA) (m : MA) : Prop := ∀ (F : Fra P0) (Γ : En) (σ : St) (G H : Hp) (Q : List V → Hp → Prop) (Qm : List Sl → En → Prop), R F Γ σ G H → m Γ Qm →
 (∀ as Γ' rs G' H', Qm as Γ' → Same G G' → R F Γ' σ G' H' → Paired (ArgOk F G') rs as → Q rs H') → t σ H Q
noncomputable def VG (P0 : Addr → Hp → Prop) (A : Nat → Bool) (g : TG) (m : MG) : Prop := ∀ (F : Fra P0) (Γ : En) (σ : St) (G H : Hp) (v : V) (d : D) (Q : St → Hp → Prop) (Qm : En → Prop), R F Γ σ G H → Dt G v d → m d Γ Qm →
 (∀ Γ' σ', Qm Γ' → R F Γ' σ' G H → (∀ i, A i = false → σ'[i]? = σ[i]?) → Q σ' H) → g v σ H Q
noncomputable def Post (F : Fra P0) (A : Nat → Bool) (σ0 : St) (G : Hp) (E : Ends) : Fl → Prop
 | .nx Γ => ∀ σ G' H', Same G G' → R F Γ σ G' H' → (∀ i, A i = false → σ[i]? = σ0[i]?) → E.nx σ H'
 | .rt rv => ∀ r G' H', Same G G' → Rf F G' H' → RvO F G' H' r rv → E.rt r H'
 | .bk Γ => ∀ σ G' H', Same G G' → R F Γ σ G' H' → (∀ i, A i = false → σ[i]? = σ0[i]?) → E.bk σ H'
 | .ct Γ => ∀ σ G' H', Same G G' → R F Γ σ G' H' → (∀ i, A i = false → σ[i]? = σ0[i]?) → E.ct σ H'
noncomputable def VSA (P0 : Addr → Hp → Prop) (A : Nat → Bool) (t : TS) (m : MS) : Prop := ∀ (F : Fra P0) (Γ : En) (σ : St) (G H : Hp) (E : Ends) (Qm : Fl → Prop), R F Γ σ G H → m Γ Qm → (∀ fl, Qm fl → Post F A σ G E fl) → t E σ H
abbrev aAll : Nat → Bool := fun _ => true
abbrev VS (P0 : Addr → Hp → Prop) (t : TS) (m : MS) : Prop := VSA P0 aAll t m
theorem Post.same {F : Fra P0} {A : Nat → Bool} {σ0 σ1 : St} {G G' : Hp} {E : Ends} (g : Same G G') (hσ : ∀ i, A i = false → σ1[i]? = σ0[i]?) : ∀ {fl : Fl}, Post F A σ0 G E fl → Post F A σ1 G' E fl
 | .nx _, h => fun σ G2 H2 s r e => h σ G2 H2 (g.trans s) r fun i hi => (e i hi).trans (hσ i hi)
 | .rt _, h => fun r G2 H2 s => h r G2 H2 (g.trans s)
 | .bk _, h => fun σ G2 H2 s r e => h σ G2 H2 (g.trans s) r fun i hi => (e i hi).trans (hσ i hi)
 | .ct _, h => fun σ G2 H2 s r e => h σ G2 H2 (g.trans s) r fun i hi => (e i hi).trans (hσ i hi)
noncomputable def SsX (P0 : Addr → Hp → Prop) (X : Cx) (sts : List Stmt) (m : MS) : Prop := ∃ t, PSs X sts t ∧ VS P0 t m
end L2.VS
namespace L2.VS
open PySem PySem.Spec PyProof.Rows
variable {P0 : Addr → Hp → Prop}
theorem _root_.L2.Dts.get {G : Hp} : ∀ {vs : List V} {ds : List D} {i : Nat} {d : D}, Dts G vs ds → ds[i]? = some d → ∃ v, vs[i]? = some v ∧ Dt G v d
 := by
  intro vs ds i d h e
  induction ds generalizing vs i with
  | nil => cases e
  | cons x ds ih =>
    cases h with
    | cons a b =>
      cases i with
      | zero => cases e; exact ⟨_, rfl, a⟩
      | succ i =>
        have q := ih b (show ds[i]? = some d from e)
        exact q
theorem _root_.L2.Dts.len {G : Hp} : ∀ {vs : List V} {ds : List D}, Dts G vs ds → vs.length = ds.length
 := by
  intro vs ds h
  induction ds generalizing vs with
  | nil => cases h; rfl
  | cons x ds ih => cases h with | cons a b => exact congrArg Nat.succ (ih b)
theorem _root_.L2.Dts.app {G : Hp} : ∀ {vs ws : List V} {ds es : List D}, Dts G vs ds → Dts G ws es → Dts G (vs ++ ws) (ds ++ es)
 := by
  intro vs ws ds es h g
  induction ds generalizing vs with
  | nil => cases h; exact g
  | cons x ds ih => cases h with | cons a b => exact .cons a (ih b)
noncomputable def oQ (o : Option D) (k : D → Prop) : Prop := match o with
 | some d => k d
 | none => False
theorem oQ_out {o : Option D} {k : D → Prop} (h : oQ o k) : ∃ d, o = some d ∧ k d := by
 cases o with
 | none => exact h.elim
 | some d => exact ⟨d, rfl, h⟩
noncomputable def mC (d : D) : ME := fun Γ Q => Q d Γ
noncomputable def mVar (i : Nat) : ME := fun Γ Q => match Γ[i]? with
 | some (.val d) => Q d Γ
 | _ => False
noncomputable def mI0 (g : Int → Int → D) (ma mb : ME) : ME := fun Γ Q => ma Γ fun x Γ1 => mb Γ1 fun y Γ2 => match x, y with
 | .int i, .int j => Q (g i j) Γ2
 | _, _ => False
noncomputable def mI (C : Int → Int → Prop) (g : Int → Int → D) (ma mb : ME) : ME := fun Γ Q => ma Γ fun x Γ1 => mb Γ1 fun y Γ2 => match x, y with
 | .int i, .int j => C i j ∧ Q (g i j) Γ2
 | _, _ => False
noncomputable def mU (g : Int → D) (ma : ME) : ME := fun Γ Q => ma Γ fun x Γ1 => match x with
 | .int i => Q (g i) Γ1
 | _ => False
noncomputable def mEq (ma mb : ME) : ME := fun Γ Q => ma Γ fun x Γ1 => mb Γ1 fun y Γ2 => Good x ∧ Good y ∧ Q (.bool (PyData.eqv x y)) Γ2
noncomputable def mNe (ma mb : ME) : ME := fun Γ Q => ma Γ fun x Γ1 => mb Γ1 fun y Γ2 => Good x ∧ Good y ∧ Q (.bool (!PyData.eqv x y)) Γ2
noncomputable def isN : D → Bool
 | .none => true
 | _ => false
noncomputable def mIsN (ma : ME) : ME := fun Γ Q => ma Γ fun x Γ1 => Q (.bool (isN x)) Γ1
noncomputable def mNotN (ma : ME) : ME := fun Γ Q => ma Γ fun x Γ1 => Q (.bool (!isN x)) Γ1
noncomputable def mAndV (ma mb : ME) : ME := fun Γ Q => ma Γ fun x Γ1 => match x with
 | .bool c => if c = true then mb Γ1 Q else Q (.bool false) Γ1
 | _ => False
noncomputable def mOrV (ma mb : ME) : ME := fun Γ Q => ma Γ fun x Γ1 => match x with
 | .bool c => if c = true then Q (.bool true) Γ1 else mb Γ1 Q
 | _ => False
noncomputable def mNotV (ma : ME) : ME := fun Γ Q => ma Γ fun x Γ1 => match x with
 | .bool c => Q (.bool (!c)) Γ1
 | _ => False
noncomputable def mTst (ma : ME) : MT := fun Γ Q => ma Γ fun x Γ1 => match x with
 | .bool c => Q c Γ1
 | _ => False
noncomputable def mAnd (ma mb : MT) : MT := fun Γ Q => ma Γ fun c Γ1 => if c = true then mb Γ1 Q else Q false Γ1
noncomputable def mOr (ma mb : MT) : MT := fun Γ Q => ma Γ fun c Γ1 => if c = true then Q true Γ1 else mb Γ1 Q
noncomputable def mNot (ma : MT) : MT := fun Γ Q => ma Γ fun c Γ1 => Q (!c) Γ1
noncomputable def mIfE (mc : MT) (ma mb : ME) : ME := fun Γ Q => mc Γ fun c Γ1 => if c = true then ma Γ1 Q else mb Γ1 Q
noncomputable def mIfO (mc : MT) (ma mb : MO) : MO := fun Γ Q => mc Γ fun c Γ1 => if c = true then ma Γ1 Q else mb Γ1 Q
noncomputable def mNil : MD := fun Γ Q => Q [] Γ
noncomputable def mCons (ma : ME) (mr : MD) : MD := fun Γ Q => ma Γ fun x Γ1 => mr Γ1 fun xs Γ2 => Q (x :: xs) Γ2
noncomputable def aNil : MA := fun Γ Q => Q [] Γ
noncomputable def aVal (ma : ME) (mr : MA) : MA := fun Γ Q => ma Γ fun x Γ1 => mr Γ1 fun xs Γ2 => Q (.val x :: xs) Γ2
noncomputable def aPen (i : Nat) (mr : MA) : MA := fun Γ Q => match Γ[i]? with
 | some .pen => mr Γ fun xs Γ2 => Q (.pen :: xs) Γ2
 | _ => False
noncomputable def mTup (md : MD) : ME := fun Γ Q => md Γ fun ds Γ1 => ds.length ≤ 1000 ∧ Q (.tuple ds) Γ1
noncomputable def mLst (md : MD) : MO := fun Γ Q => md Γ fun ds Γ1 => ds.length ≤ 1000 ∧ Q (.own ds) Γ1
noncomputable def ixD : D → D → Option D
 | .tuple ds, .int i => atI ds i
 | .list ds, .int i => atI ds i
 | _, _ => none
noncomputable def mIx (ma mb : ME) : ME := fun Γ Q => ma Γ fun x Γ1 => mb Γ1 fun y Γ2 => oQ (ixD x y) fun d => Q d Γ2
noncomputable def nbQ : Rv → Prop → Prop
 | .box B, p => B.view.isSome = true ∧ p
 | _, p => p
noncomputable def mPub (mo : MO) : ME := fun Γ Q => mo Γ fun rv Γ1 => nbQ rv (Q rv.d Γ1)
noncomputable def mVal (m : ME) : MO := fun Γ Q => m Γ fun d Γ1 => Q (.val d) Γ1
noncomputable def mMove (i : Nat) : MO := fun Γ Q => match Γ[i]? with
 | some (.val d) => Q (.val d) Γ
 | some (.own ds) => Q (.own ds) (Γ.set i .no)
 | some (.box B) => Q (.box B) (Γ.set i .no)
 | _ => False
noncomputable def mCall (n : Nat) (f : Fm) (ma : MA) : MO := fun Γ Q => ma Γ fun as Γ1 => as.length = n ∧ f as fun rv => Q rv Γ1
noncomputable def lenD : D → Option D
 | .tuple ds => some (.int ds.length)
 | .list ds => some (.int ds.length)
 | _ => none
noncomputable def mLen (ma : ME) : ME := fun Γ Q => ma Γ fun x Γ1 => oQ (lenD x) fun d => Q d Γ1
noncomputable def itemsD : D → Option (List D)
 | .tuple ds => some ds
 | .list ds => some ds
 | _ => none
noncomputable def mListOf (ma : ME) : MO := fun Γ Q => ma Γ fun x Γ1 => match itemsD x with
 | some ds => Q (.own ds) Γ1
 | none => False
noncomputable def cutD (xs : List D) (lo hi : Option Int) : List D := (xs.drop (HT.sIx xs.length 0 lo)).take (HT.sIx xs.length xs.length hi - HT.sIx xs.length 0 lo)
abbrev MP := En → (Option Int → En → Prop) → Prop
noncomputable def pNo : MP := fun Γ Q => Q none Γ
noncomputable def pSo (m : ME) : MP := fun Γ Q => m Γ fun x Γ1 => match x with
 | .int i => Q (some i) Γ1
 | _ => False
noncomputable def mSlL (ma : ME) (ml mh : MP) : MO := fun Γ Q => ma Γ fun x Γ1 => ml Γ1 fun lo Γ2 => mh Γ2 fun hi Γ3 => match x with
 | .list ds => Q (.own (cutD ds lo hi)) Γ3
 | _ => False
noncomputable def mCat (ma mb : ME) : MO := fun Γ Q => ma Γ fun x Γ1 => mb Γ1 fun y Γ2 => match x, y with
 | .list ds, .list es => ds.length + es.length ≤ 1000 ∧ Q (.own (ds ++ es)) Γ2
 | _, _ => False
section
variable {ta tb tc : TE} {ma mb : ME} {tA tB' : TT} {mA mB : MT} {K : PySem.W.Frag}
theorem vt_c {v : V} {d : D} (h : ∀ G, Dt G v d) : VT P0 (tC v) (mC d) := fun _ _ _ G _ _ _ r m k => k _ _ _ _ _ m (Same.refl _) r (h G)
theorem vt_var {i : Nat} : VT P0 (tVar i) (mVar i) := by
 intro F Γ σ G H Q Qm r m k
 unfold mVar at m
 split at m
 ·rename_i d e
  obtain ⟨v, e1, d1⟩ := r.sl i _ e
  exact ⟨v, e1, k _ _ _ _ _ m (Same.refl _) r d1⟩
 ·exact m.elim
theorem vt_2 {r2 : R2} {m2 : D → D → (D → Prop) → Prop} (ha : VT P0 ta ma) (hb : VT P0 tb mb)
  (h : ∀ (F : Fra P0) (Γ : En) (σ : St) (G H : Hp) (x y : V) (d e : D) (Q : VK) (Qm : D → Prop), R F Γ σ G H → Dt G x d → Dt G y e → m2 d e Qm → (∀ u r G' H', Qm u → Same G G' → R F Γ σ G' H' → Dt G' r u → Q r H') → r2 x y H Q) :
  VT P0 (tOp r2 ta tb) (fun Γ Q => ma Γ fun x Γ1 => mb Γ1 fun y Γ2 => m2 x y fun d => Q d Γ2) := by
 intro F Γ σ G H Q Qm r m k
 refine ha F Γ σ G H _ _ r m fun d Γ1 x G1 H1 m1 s1 r1 d1 => ?_
 refine hb F Γ1 σ G1 H1 _ _ r1 m1 fun e Γ2 y G2 H2 m2 s2 r2 d2 => ?_
 exact h F Γ2 σ G2 H2 x y d e _ _ r2 (Dt.same s2 _ _ d1) d2 m2 fun u w G3 H3 q s3 r3 d3 => k _ _ _ _ _ q ((s1.trans s2).trans s3) r3 d3
theorem vt_i0 {gv : Int → Int → V} {g : Int → Int → D} (hg : ∀ G i j, Dt G (gv i j) (g i j)) (ha : VT P0 ta ma) (hb : VT P0 tb mb) : VT P0 (tOp (rI0 gv) ta tb) (mI0 g ma mb) := by
 refine vt_2 (m2 := fun x y Q => match x, y with | .int i, .int j => Q (g i j) | _, _ => False) ha hb fun F Γ σ G H x y d e Q Qm r d1 d2 m k => ?_
 split at m
 ·cases d1; cases d2
  exact ⟨_, _, rfl, rfl, k _ _ _ _ m (Same.refl _) r (hg _ _ _)⟩
 ·exact m.elim
theorem vt_i {C : Int → Int → Prop} {gv : Int → Int → V} {g : Int → Int → D} (hg : ∀ G i j, Dt G (gv i j) (g i j)) (ha : VT P0 ta ma) (hb : VT P0 tb mb) : VT P0 (tOp (rI C gv) ta tb) (mI C g ma mb) := by
 refine vt_2 (m2 := fun x y Q => match x, y with | .int i, .int j => C i j ∧ Q (g i j) | _, _ => False) ha hb fun F Γ σ G H x y d e Q Qm r d1 d2 m k => ?_
 split at m
 ·cases d1; cases d2
  exact ⟨_, _, rfl, rfl, m.1, k _ _ _ _ m.2 (Same.refl _) r (hg _ _ _)⟩
 ·exact m.elim
theorem vt_u {gv : Int → V} {g : Int → D} (hg : ∀ G i, Dt G (gv i) (g i)) (ha : VT P0 ta ma) : VT P0 (tUn (rU gv) ta) (mU g ma) := by
 intro F Γ σ G H Q Qm r m k
 refine ha F Γ σ G H _ _ r m fun d Γ1 x G1 H1 m1 s1 r1 d1 => ?_
 split at m1
 ·cases d1
  exact ⟨_, rfl, k _ _ _ _ _ m1 s1 r1 (hg _ _)⟩
 ·exact m1.elim
theorem vt_eq (ha : VT P0 ta ma) (hb : VT P0 tb mb) : VT P0 (tOp rEqD ta tb) (mEq ma mb) := by
 refine vt_2 (m2 := fun x y Q => Good x ∧ Good y ∧ Q (.bool (PyData.eqv x y))) ha hb fun F Γ σ G H x y d e Q Qm r d1 d2 m k => ?_
 exact ⟨d, e, Dt.same r.fr.sub _ _ d1, Dt.same r.fr.sub _ _ d2, m.1, m.2.1, k _ _ _ _ m.2.2 (Same.refl _) r (.bl _)⟩
theorem vt_ne (ha : VT P0 ta ma) (hb : VT P0 tb mb) : VT P0 (tOp rNeD ta tb) (mNe ma mb) := by
 refine vt_2 (m2 := fun x y Q => Good x ∧ Good y ∧ Q (.bool (!PyData.eqv x y))) ha hb fun F Γ σ G H x y d e Q Qm r d1 d2 m k => ?_
 exact ⟨d, e, Dt.same r.fr.sub _ _ d1, Dt.same r.fr.sub _ _ d2, m.1, m.2.1, k _ _ _ _ m.2.2 (Same.refl _) r (.bl _)⟩
theorem vt_and (ha : VT P0 ta ma) (hb : VT P0 tb mb) : VT P0 (tAndV ta tb) (mAndV ma mb) := by
 intro F Γ σ G H Q Qm r m k
 refine ha F Γ σ G H _ _ r m fun d Γ1 x G1 H1 m1 s1 r1 d1 => ?_
 split at m1
 ·rename_i c
  cases d1
  refine ⟨c, rfl, ?_⟩
  cases c with
  | true => exact iteT (hb F Γ1 σ G1 H1 _ _ r1 m1 fun e Γ2 y G2 H2 m2 s2 r2 d2 => k _ _ _ _ _ m2 (s1.trans s2) r2 d2)
  | false => exact iteF (k _ _ _ _ _ m1 s1 r1 (.bl _))
 ·exact m1.elim
theorem vt_not (ha : VT P0 ta ma) : VT P0 (tNotV ta) (mNotV ma) := by
 intro F Γ σ G H Q Qm r m k
 refine ha F Γ σ G H _ _ r m fun d Γ1 x G1 H1 m1 s1 r1 d1 => ?_
 split at m1
 ·cases d1
  exact ⟨_, rfl, k _ _ _ _ _ m1 s1 r1 (.bl _)⟩
 ·exact m1.elim
theorem vtt_val (ha : VT P0 ta ma) : VTT P0 (tTest ta) (mTst ma) := by
 intro F Γ σ G H Q Qm r m k
 refine ha F Γ σ G H _ _ r m fun d Γ1 x G1 H1 m1 s1 r1 d1 => ?_
 split at m1
 ·cases d1
  exact ⟨_, rfl, k _ _ _ _ m1 s1 r1⟩
 ·exact m1.elim
theorem vtt_b (ha : VT P0 ta ma) : VTT P0 (tB ta) (mTst ma) := vtt_val ha
theorem vtt_or (ha : VTT P0 tA mA) (hb : VTT P0 tB' mB) : VTT P0 (tOr tA tB') (mOr mA mB) := by
 intro F Γ σ G H Q Qm r m k
 refine ha F Γ σ G H _ _ r m fun c Γ1 G1 H1 m1 s1 r1 => ?_
 cases c with
 | true => exact iteT (k _ _ _ _ m1 s1 r1)
 | false => exact iteF (hb F Γ1 σ G1 H1 _ _ r1 m1 fun e Γ2 G2 H2 m2 s2 r2 => k _ _ _ _ m2 (s1.trans s2) r2)
theorem vtt_not (ha : VTT P0 tA mA) : VTT P0 (tNot tA) (mNot mA) := by
 intro F Γ σ G H Q Qm r m k
 exact ha F Γ σ G H _ _ r m fun c Γ1 G1 H1 m1 s1 r1 => k _ _ _ _ m1 s1 r1
theorem vd_nil : VD P0 tNil mNil := fun _ _ _ _ _ _ _ r m k => k _ _ _ _ _ m (Same.refl _) r .nil
theorem vd_cons {tr : TA} {mr : MD} (ha : VT P0 ta ma) (hr : VD P0 tr mr) : VD P0 (tCons ta tr) (mCons ma mr) := by
 intro F Γ σ G H Q Qm r m k
 refine ha F Γ σ G H _ _ r m fun d Γ1 x G1 H1 m1 s1 r1 d1 => ?_
 exact hr F Γ1 σ G1 H1 _ _ r1 m1 fun e Γ2 y G2 H2 m2 s2 r2 d2 => k _ _ _ _ _ m2 (s1.trans s2) r2 (.cons (Dt.same s2 _ _ d1) d2)
theorem ArgOk.same {F : Fra P0} {G G' : Hp} (g : Same G G') {r : V} : ∀ {s : Sl}, ArgOk F G r s → ArgOk F G' r s
 | .val _, h => Dt.same g _ _ h
 | .pen, h => h
 | .con _, h => h
 | .pub _, h => h.elim
 | .no, h => h.elim
 | .own _, h => h.elim
 | .box _, h => h.elim
theorem va_nil : VA P0 tNil aNil := fun _ _ _ _ _ _ _ r m k => k _ _ _ _ _ m (Same.refl _) r .nil
theorem va_val {tr : TA} {mr : MA} (ha : VT P0 ta ma) (hr : VA P0 tr mr) : VA P0 (tCons ta tr) (aVal ma mr) := by
 intro F Γ σ G H Q Qm r m k
 refine ha F Γ σ G H _ _ r m fun d Γ1 x G1 H1 m1 s1 r1 d1 => ?_
 exact hr F Γ1 σ G1 H1 _ _ r1 m1 fun e Γ2 y G2 H2 m2 s2 r2 d2 => k _ _ _ _ _ m2 (s1.trans s2) r2 (.cons (Dt.same s2 _ _ d1) d2)
theorem va_pen {i : Nat} {tr : TA} {mr : MA} (hr : VA P0 tr mr) : VA P0 (tCons (tVar i) tr) (aPen i mr) := by
 intro F Γ σ G H Q Qm r m k
 unfold aPen at m
 split at m
 ·rename_i e
  obtain ⟨p, e1, e2⟩ := r.sl i _ e
  exact ⟨_, e1, hr F Γ σ G H _ _ r m fun as Γ2 y G2 H2 m2 s2 r2 d2 => k _ _ _ _ _ m2 s2 r2 (.cons ⟨p, rfl, e2⟩ d2)⟩
 ·exact m.elim
theorem vt_tup {t : TA} {md : MD} (h : VD P0 t md) : VT P0 (tTup t) (mTup md) := by
 intro F Γ σ G H Q Qm r m k
 refine h F Γ σ G H _ _ r m fun ds Γ1 xs G1 H1 m1 s1 r1 d1 => ⟨small_le (by rw [d1.len]; exact m1.1), fun p hp => ?_⟩
 have g := same_new (r1.fr.gfresh hp) (.tup xs)
 exact k _ _ _ _ _ m1.2 (s1.trans g) (r1.new hp) (.tup upd_same (Dts.same g _ _ d1))
theorem SlF.det {F : Fra P0} {G H : Hp} {x : Option (Option V)} {fp fp' : List Addr} : ∀ {s : Sl}, SlF F G H x fp s → SlF F G H x fp' s → fp = fp'
 | .no, h, g => (show fp = [] from h).trans (show fp' = [] from g).symm
 | .val _, h, g => h.1.trans g.1.symm
 | .pen, h, g => h.1.trans g.1.symm
 | .con _, h, g => h.1.trans g.1.symm
 | .pub _, h, g => h.1.trans g.1.symm
 | .own _, h, g => by
  obtain ⟨p, vs, e, e1, _⟩ := h
  obtain ⟨q, ws, f, f1, _⟩ := g
  rw [e1] at f1; cases f1
  rw [e, f]
 | .box B, h, g => by
  obtain ⟨v, e1, e2, _⟩ := h
  obtain ⟨v', f1, f2, _⟩ := g
  rw [e1] at f1; cases f1
  exact B.uniq e2 f2
theorem R.before {F : Fra P0} {Γ : En} {σ : St} {G H G' H' : Hp} (r : R F Γ σ G H) (g : Same G G') (k : ∀ b o, F.H0 b = none → G b = none → H b = some o → G' b = none ∧ H' b = some o) {i : Nat} {s : Sl} {fp : List Addr} (e : Γ[i]? = some s) (h : SlF F G' H' σ[i]? fp s) : ∀ b ∈ fp, ∃ o, H b = some o := by
 obtain ⟨fps, h1, h2⟩ := r.fps
 have h0 := h1 i s e
 have h3 : SlF F G' H' σ[i]? (fps i) s := h0.go g fun b hb => by
  obtain ⟨m1, m2, o, m3⟩ := h0.mine hb
  obtain ⟨k1, k2⟩ := k b o m1 m2 m3
  exact ⟨k1, k2.trans m3.symm⟩
 rw [h.det h3]
 exact fun b hb => (h0.mine hb).2.2
theorem Apart.new {F : Fra P0} {Γ : En} {σ : St} {G H G' H' : Hp} (r : R F Γ σ G H) {p : Addr} (hp : H p = none) {ds : List D} (g : Same G G') (k : ∀ b o, F.H0 b = none → G b = none → H b = some o → G' b = none ∧ H' b = some o) : Apart F Γ σ G' H' (.ref p) (.own ds) := by
 intro i s fp e h q eq hq
 cases eq
 obtain ⟨o, eo⟩ := r.before g k e h p hq
 rw [hp] at eo; cases eo
theorem Apart.newB {F : Fra P0} {Γ : En} {σ : St} {G H G' H' : Hp} (r : R F Γ σ G H) {v : V} {B : Bx} (hp : ∀ fp, B.P v fp G' H' → ∀ b ∈ fp, H b = none) (g : Same G G') (k : ∀ b o, F.H0 b = none → G b = none → H b = some o → G' b = none ∧ H' b = some o) : Apart F Γ σ G' H' v (.box B) := by
 intro i s fp f e h hf b hb hc
 obtain ⟨o, eo⟩ := r.before g k e h b hc
 rw [hp f hf b hb] at eo; cases eo
theorem own_new {F : Fra P0} {Γ : En} {σ : St} {G H : Hp} (r : R F Γ σ G H) {p : Addr} {xs : List V} {ds : List D} (hp : H p = none) (d : Dts G xs ds) :
  R F Γ σ G (upd H p (.lst xs)) ∧ RvO F G (upd H p (.lst xs)) (.ref p) (.own ds) ∧ Apart F Γ σ G (upd H p (.lst xs)) (.ref p) (.own ds) :=
 ⟨r.newP hp, ⟨p, xs, rfl, r.fr.fresh hp, r.fr.gfresh hp, upd_same, d⟩, Apart.new r hp (Same.refl _) fun b o _ g e => ⟨g, by rw [upd_ne (ne_of_none e hp)]; exact e⟩⟩
theorem vo_lst {t : TA} {md : MD} (h : VD P0 t md) : VO P0 (tLst t) (mLst md) := by
 intro F Γ σ G H Q Qm r m k
 refine h F Γ σ G H _ _ r m fun ds Γ1 xs G1 H1 m1 s1 r1 d1 => ⟨small_le (by rw [d1.len]; exact m1.1), fun p hp => ?_⟩
 obtain ⟨a, b, c⟩ := own_new r1 hp d1
 exact k _ _ _ _ _ m1.2 s1 a b c
theorem vt_pub {mo : MO} (h : VO P0 ta mo) : VT P0 ta (mPub mo) := by
 intro F Γ σ G H Q Qm r m k
 refine h F Γ σ G H _ _ r m fun rv Γ1 x G1 H1 m1 s1 r1 d1 a1 => ?_
 cases rv with
 | val d => exact k _ _ _ _ _ m1 s1 r1 d1
 | own ds =>
  obtain ⟨G2, s2, r2, d2⟩ := r1.give d1 a1
  exact k _ _ _ _ _ m1 (s1.trans s2) r2 d2
 | box B =>
  obtain ⟨hv, m1⟩ := m1
  obtain ⟨d, hd⟩ := Option.isSome_iff_exists.mp hv
  obtain ⟨G2, s2, r2, d2⟩ := r1.giveB d1 a1 hd
  have m1 : Qm (B.view.getD .none) Γ1 := m1
  rw [hd] at m1
  exact k _ _ _ _ _ m1 (s1.trans s2) r2 d2
theorem vo_val (h : VT P0 ta ma) : VO P0 ta (mVal ma) := by
 intro F Γ σ G H Q Qm r m k
 exact h F Γ σ G H _ _ r m fun d Γ1 x G1 H1 m1 s1 r1 d1 => k _ _ _ _ _ m1 s1 r1 d1 trivial
theorem R.apart {F : Fra P0} {Γ : En} {σ : St} {G H : Hp} (r : R F Γ σ G H) {i j : Nat} {s t : Sl} {fp fq : List Addr} (hij : i ≠ j) (ei : Γ[i]? = some s) (ej : Γ[j]? = some t) (hi : SlF F G H σ[i]? fp s) (hj : SlF F G H σ[j]? fq t) : ∀ b ∈ fp, b ∉ fq := by
 obtain ⟨fps, h1, h2⟩ := r.fps
 rw [hi.det (h1 i s ei), hj.det (h1 j t ej)]
 exact h2 i j s t ei ej hij
theorem vt_ix (ha : VT P0 ta ma) (hb : VT P0 tb mb) : VT P0 (tOp (rIx K) ta tb) (mIx ma mb) := by
 refine vt_2 (m2 := fun x y Q => oQ (ixD x y) Q) ha hb fun F Γ σ G H x y d e Q Qm r d1 d2 m k => ?_
 obtain ⟨u, hu, q⟩ := oQ_out m
 unfold ixD at hu
 split at hu
 ·rename_i ds i
  cases d2
  cases d1 with
  | @tup p xs _ hp rs =>
   obtain ⟨j, h1, h2⟩ : ∃ j, ixN ds.length i = some j ∧ ds[j]? = some u := by
    unfold atI at hu
    cases e : ixN ds.length i with
    | none => rw [e] at hu; cases hu
    | some j => rw [e] at hu; exact ⟨j, rfl, hu⟩
   obtain ⟨v, hv, dv⟩ := Dts.get rs h2
   refine .inr (.inl ⟨p, xs, i, v, rfl, rfl, SqT.of (r.fr.sub _ _ hp), ?_, k _ _ _ _ q (Same.refl _) r dv⟩)
   unfold atI
   rw [rs.len, h1]
   exact hv
 ·rename_i ds i
  cases d2
  cases d1 with
  | @lst p xs _ hp rs =>
   obtain ⟨j, h1, h2⟩ : ∃ j, ixN ds.length i = some j ∧ ds[j]? = some u := by
    unfold atI at hu
    cases e : ixN ds.length i with
    | none => rw [e] at hu; cases hu
    | some j => rw [e] at hu; exact ⟨j, rfl, hu⟩
   obtain ⟨v, hv, dv⟩ := Dts.get rs h2
   refine .inl ⟨p, xs, i, v, rfl, rfl, SqL.of (r.fr.sub _ _ hp), ?_, k _ _ _ _ q (Same.refl _) r dv⟩
   unfold atI
   rw [rs.len, h1]
   exact hv
 ·cases hu
theorem vt_cb1 {rr : List V → Hp → VK → Prop} {m1 : D → (D → Prop) → Prop} (ha : VT P0 ta ma)
  (h : ∀ (F : Fra P0) (Γ : En) (σ : St) (G H : Hp) (x : V) (d : D) (Q : VK) (Qm : D → Prop), R F Γ σ G H → Dt G x d → m1 d Qm → (∀ u r G' H', Qm u → Same G G' → R F Γ σ G' H' → Dt G' r u → Q r H') → rr [x] H Q) :
  VT P0 (tCB rr (tCons ta tNil)) (fun Γ Q => ma Γ fun x Γ1 => m1 x fun d => Q d Γ1) := by
 intro F Γ σ G H Q Qm r m k
 refine ha F Γ σ G H _ _ r m fun d Γ1 x G1 H1 m1 s1 r1 d1 => ?_
 exact h F Γ1 σ G1 H1 x d _ _ r1 d1 m1 fun u w G3 H3 q s3 r3 d3 => k _ _ _ _ _ q (s1.trans s3) r3 d3
theorem vt_len (ha : VT P0 ta ma) : VT P0 (tCB (fun xs H Q => ∃ p ys, xs = [.ref p] ∧ (SqL K H p ys ∨ SqT K H p ys) ∧ Q (.int ys.length) H) (tCons ta tNil)) (mLen ma) := by
 refine vt_cb1 (m1 := fun x Q => oQ (lenD x) Q) ha fun F Γ σ G H x d Q Qm r d1 m k => ?_
 obtain ⟨u, hu, q⟩ := oQ_out m
 unfold lenD at hu
 split at hu
 ·cases hu
  cases d1 with
  | @tup p xs _ hp rs => exact ⟨p, xs, rfl, .inr (SqT.of (r.fr.sub _ _ hp)), by rw [rs.len]; exact k _ _ _ _ q (Same.refl _) r (.int _)⟩
 ·cases hu
  cases d1 with
  | @lst p xs _ hp rs => exact ⟨p, xs, rfl, .inl (SqL.of (r.fr.sub _ _ hp)), by rw [rs.len]; exact k _ _ _ _ q (Same.refl _) r (.int _)⟩
 ·cases hu
noncomputable def mAbs (ma : ME) : ME := fun Γ Q => ma Γ fun x Γ1 => match x with
 | .int i => Q (.int (if i < 0 then -i else i)) Γ1
 | _ => False
theorem vt_abs (ha : VT P0 ta ma) : VT P0 (tCB (fun xs H Q => ∃ i, xs = [.int i] ∧ Q (.int (if i < 0 then -i else i)) H) (tCons ta tNil)) (mAbs ma) := by
 refine vt_cb1 (m1 := fun x Q => match x with | .int i => Q (.int (if i < 0 then -i else i)) | _ => False) ha fun F Γ σ G H x d Q Qm r d1 m k => ?_
 split at m
 ·cases d1
  exact ⟨_, rfl, k _ _ _ _ m (Same.refl _) r (.int _)⟩
 ·exact m.elim
noncomputable def mInt1 (ma : ME) : ME := fun Γ Q => ma Γ fun x Γ1 => match x with
 | .int i => Q (.int i) Γ1
 | .bool b => Q (.int (if b then 1 else 0)) Γ1
 | _ => False
noncomputable def m2I (g : Int → Int → Int) (ma mb : ME) : ME := fun Γ Q => ma Γ fun x Γ1 => mb Γ1 fun y Γ2 => match x, y with
 | .int i, .int j => Q (.int (g i j)) Γ2
 | _, _ => False
theorem vo_cat (ha : VT P0 ta ma) (hb : VT P0 tb mb) : VO P0 (tOp rCat ta tb) (mCat ma mb) := by
 intro F Γ σ G H Q Qm r m k
 refine ha F Γ σ G H _ _ r m fun d Γ1 x G1 H1 m1 s1 r1 d1 => ?_
 refine hb F Γ1 σ G1 H1 _ _ r1 m1 fun e Γ2 y G2 H2 m2 s2 r2 d2 => ?_
 have d1 := Dt.same s2 _ _ d1
 split at m2
 ·cases d1 with
  | @lst p xs _ hp rs =>
   cases d2 with
   | @lst q ys _ hq ss =>
    refine ⟨p, q, xs, ys, rfl, rfl, r2.fr.sub _ _ hp, r2.fr.sub _ _ hq, small_le (by rw [rs.len, ss.len]; exact m2.1), fun l hl => ?_⟩
    obtain ⟨a, b, c⟩ := own_new r2 hl (rs.app ss)
    exact k _ _ _ _ _ m2.2 (s1.trans s2) a b c
 ·exact m2.elim
noncomputable def spM (P0 : Addr → Hp → Prop) (n : Nat) (f : Fm) : Sp := fun vs H Q _ => ∃ (F : Fra P0) (as : List Sl) (Qm : Rv → Prop), F.H0 = H ∧ Rf F F.G0 H ∧ Paired (ArgOk F F.G0) vs as ∧ as.length = n ∧ f as Qm ∧
 ∀ rv r G' H', Qm rv → Rf F G' H' → RvO F G' H' r rv → Q r H'
noncomputable def Fra.sub (F : Fra P0) {G H : Hp} (r : Rf F G H) : Fra P0 where
 H0 := H
 G0 := G
 pen := F.pen
 stab := fun p e H1 H2 h => F.stab p e H1 H2 fun b o e => let ⟨o', e'⟩ := r.dom e; h b o' e'
 pin := F.pin
 pin0 := fun p e => F.pin p e H (r.pn p e)
 pg := fun p e => by
  obtain ⟨o, e0⟩ := F.pin0 p e
  rw [r.g0 p o e0]
  exact F.pg p e
theorem Fra.subRf (F : Fra P0) {G H : Hp} (r : Rf F G H) : Rf (F.sub r) G H := ⟨r.sub, fun _ _ _ => rfl, fun _ _ e _ => e, r.pn⟩
theorem Rf.back {F : Fra P0} {G H G' H' : Hp} (r : Rf F G H) (h : Rf (F.sub r) G' H') : Rf F G' H' ∧ Same G G' := by
 refine ⟨⟨h.sub, fun b o e => ?_, fun b o e hb => ?_, h.pn⟩, fun b o e => ?_⟩
 ·obtain ⟨o', e'⟩ := r.dom e
  exact (h.g0 b o' e').trans (r.g0 b o e)
 ·exact h.h0 b o (r.h0 b o e hb) hb
 ·exact (h.g0 b o (r.sub b o e)).trans e
theorem Fra.pen_ne (F : Fra P0) {p : Addr} (h : F.H0 p = none) : F.pen ≠ some p := fun e => by
 obtain ⟨o, e0⟩ := F.pin0 p e
 rw [h] at e0; cases e0
theorem R.after {F : Fra P0} {Γ : En} {σ : St} {G H G' H' : Hp} (r : R F Γ σ G H) (h : Rf (F.sub r.fr) G' H') : R F Γ σ G' H' ∧ Same G G' := by
 obtain ⟨a, b⟩ := r.fr.back h
 refine ⟨r.keep a b fun p u _ e1 e2 e3 => ⟨(h.g0 p _ e3).trans e2, h.h0 p _ e3 (F.pen_ne e1)⟩, b⟩
theorem vo_call {n : Nat} {f : Fm} {t : TA} {m : MA} {E : XK} (h : VA P0 t m) : VO P0 (tCall (spM P0 n f) [] E t) (mCall n f m) := by
 intro F Γ σ G H Q Qm r hm k
 refine h F Γ σ G H _ _ r hm fun as Γ1 rs G1 H1 m1 s1 r1 d1 => ?_
 refine ⟨F.sub r1.fr, as, fun rv => Qm rv Γ1, rfl, F.subRf r1.fr, ?_, m1.1, m1.2, fun rv v G2 H2 q f2 v2 => ?_⟩
 ·rw [List.append_nil]
  exact Paired.imp' (fun a s h => by cases s <;> exact h) d1
 ·obtain ⟨r2, s2⟩ := r1.after f2
  refine k _ _ _ _ _ q (s1.trans s2) r2 ?_ ?_
  ·cases rv with
   | val d => exact v2
   | own ds =>
    obtain ⟨p, vs, e, e1, e2, e3, e4⟩ := v2
    exact ⟨p, vs, e, r1.fr.fresh e1, e2, e3, e4⟩
   | box B =>
    obtain ⟨fp, e1, e2⟩ := v2
    exact ⟨fp, e1, fun b hb => ⟨r1.fr.fresh (e2 b hb).1, (e2 b hb).2⟩⟩
  ·have kp : ∀ b o, F.H0 b = none → G1 b = none → H1 b = some o → G2 b = none ∧ H2 b = some o := fun b o h1 h2 h3 => ⟨(f2.g0 b _ h3).trans h2, f2.h0 b _ h3 (F.pen_ne h1)⟩
   cases rv with
   | val d => trivial
   | own ds =>
    obtain ⟨p, vs, rfl, e1, e2, e3, e4⟩ := v2
    exact Apart.new r1 e1 s2 kp
   | box B =>
    obtain ⟨fp, e1, e2⟩ := v2
    exact Apart.newB r1 (fun f hf b hb => by rw [B.uniq hf e1] at hb; exact (e2 b hb).1) s2 kp
end
end L2.VS
namespace L2.VS
open PySem PySem.Spec PyProof.Rows
variable {P0 : Addr → Hp → Prop} {A : Nat → Bool}
noncomputable def gN (i : Nat) : MG := fun d Γ Q => Q (Γ.set i (.val d))
noncomputable def gsNil : MGs := fun ds Γ Q => match ds with
 | [] => Q Γ
 | _ => False
noncomputable def gsCons (g : MG) (gs : MGs) : MGs := fun ds Γ Q => match ds with
 | d :: r => g d Γ fun Γ1 => gs r Γ1 Q
 | [] => False
noncomputable def gT (n : Nat) (gs : MGs) : MG := fun d Γ Q => match d with
 | .tuple ds => ds.length = n ∧ gs ds Γ Q
 | _ => False
theorem set_off {i : Nat} {v : Option V} {σ : St} (hA : A i = true) : ∀ j, A j = false → (σ.set i v)[j]? = σ[j]? := fun j hj => List.getElem?_set_ne (fun z => by rw [z, hj] at hA; cases hA)
theorem vg_name {i : Nat} (hA : A i = true := by rfl) : VG P0 A (gName i) (gN i) := fun _ _ _ _ _ _ _ _ _ r h m k => k _ _ m (r.setV h) (set_off hA)
noncomputable def Walk (P0 : Addr → Hp → Prop) (J : It) (G0 : Hp) (ds : List D) : Prop := ∀ (F : Fra P0) (Γ : En) (σ : St) (G H : Hp), Same G0 G → R F Γ σ G H →
 (∀ i d, ds[i]? = some d → J.go i H ∧ ∀ x H', J.yld i H x H' → ∃ G', Same G G' ∧ R F Γ σ G' H' ∧ Dt G' x d) ∧ J.stop ds.length H
noncomputable def VI (P0 : Addr → Hp → Prop) (wi : TI) (m : MD) : Prop := ∀ (F : Fra P0) (Γ : En) (σ : St) (G H : Hp) (Q : It → Hp → Prop) (Qm : List D → En → Prop), R F Γ σ G H → m Γ Qm →
 (∀ ds Γ' J G' H', Qm ds Γ' → Same G G' → R F Γ' σ G' H' → Walk P0 J G' ds → Q J H') → wi σ H Q
noncomputable def mItL (ma : ME) : MD := fun Γ Q => ma Γ fun x Γ1 => match x with
 | .list ds => Q ds Γ1
 | _ => False
noncomputable def mItT (ma : ME) : MD := fun Γ Q => ma Γ fun x Γ1 => match x with
 | .tuple ds => Q ds Γ1
 | _ => False
noncomputable def rangeD (lo : Int) (n : Nat) : List D := (List.range n).map fun (k : Nat) => PyData.int (lo + k)
noncomputable def mRng1 (md : MD) : MD := fun Γ Q => md Γ fun ds Γ1 => match ds with
 | [.int j] => -(2 ^ 62) ≤ j ∧ j < 2 ^ 62 ∧ Q (rangeD 0 j.toNat) Γ1
 | _ => False
noncomputable def mRng2 (md : MD) : MD := fun Γ Q => md Γ fun ds Γ1 => match ds with
 | [.int i, .int j] => (-(2 ^ 62) ≤ i ∧ i < 2 ^ 62 ∧ -(2 ^ 62) ≤ j ∧ j < 2 ^ 62) ∧ Q (rangeD i (j - i).toNat) Γ1
 | _ => False
theorem vi_list {K : PySem.W.Frag} {ta : TE} {ma : ME} (ha : VT P0 ta ma) : VI P0 (iList K ta) (mItL ma) := by
 intro F Γ σ G H Q Qm r m k
 refine ha F Γ σ G H _ _ r m fun d Γ1 x G1 H1 m1 s1 r1 d1 => ?_
 split at m1
 ·cases d1 with
  | @lst p xs ds hp rs =>
   refine ⟨p, rfl, ⟨xs, SqL.of (r1.fr.sub _ _ hp)⟩, k _ _ _ _ _ m1 s1 r1 fun F2 Γ2 σ2 G2 H2 s2 r2 => ⟨fun i d e => ?_, ?_⟩⟩
   ·have hq : H2 p = some (.lst xs) := r2.fr.sub _ _ (s2 _ _ hp)
    obtain ⟨v, ev, dv⟩ := Dts.get rs e
    refine ⟨⟨xs, v, SqL.of hq, ev⟩, fun y H3 hy => ⟨G2, Same.refl _, ?_⟩⟩
    obtain ⟨rfl, hy⟩ := hy
    have := hy xs (SqL.of hq)
    rw [ev] at this
    cases this
    exact ⟨r2, Dt.same s2 _ _ dv⟩
   ·exact ⟨xs, SqL.of (r2.fr.sub _ _ (s2 _ _ hp)), by rw [rs.len]; exact Nat.le_refl _⟩
 ·exact m1.elim
theorem walk_range {G : Hp} (lo : Int) (n : Nat) : Walk P0 (Itr lo n) G (rangeD lo n) := by
 intro F Γ σ G2 H2 _ r
 have hl : (rangeD lo n).length = n := by simp [rangeD]
 refine ⟨fun i d e => ?_, by rw [hl]; exact Nat.le_refl _⟩
 have hi : i < n := by have := (List.getElem?_eq_some_iff.mp e).1; omega
 refine ⟨hi, fun x H' hy => ?_⟩
 obtain ⟨rfl, rfl⟩ := hy
 refine ⟨G2, Same.refl _, r, ?_⟩
 unfold rangeD at e
 rw [List.getElem?_map, List.getElem?_range hi] at e
 cases e
 exact .int _
theorem vi_rng1 {t : TA} {md : MD} (h : VD P0 t md) : VI P0 (iRng1 t) (mRng1 md) := by
 intro F Γ σ G H Q Qm r m k
 refine h F Γ σ G H _ _ r m fun ds Γ1 xs G1 H1 m1 s1 r1 d1 => ?_
 split at m1
 ·rename_i j
  cases d1 with
  | cons a b =>
   cases a; cases b
   exact ⟨j, rfl, m1.1, m1.2.1, k _ _ _ _ _ m1.2.2 s1 r1 (walk_range _ _)⟩
 ·exact m1.elim
noncomputable def mNx : MS := fun Γ Q => Q (.nx Γ)
noncomputable def mSeq (a b : MS) : MS := fun Γ Q => a Γ fun fl => match fl with
 | .nx Γ1 => b Γ1 Q
 | fl => Q fl
noncomputable def mDrop (m : ME) : MS := fun Γ Q => m Γ fun _ Γ1 => Q (.nx Γ1)
noncomputable def mSet (i : Nat) (m : MO) : MS := fun Γ Q => m Γ fun rv Γ1 => Q (.nx (Γ1.set i rv.sl))
noncomputable def mAsg (m : ME) (g : MG) : MS := fun Γ Q => m Γ fun d Γ1 => g d Γ1 fun Γ2 => Q (.nx Γ2)
noncomputable def mPar (i j : Nat) (m : MD) : MS := fun Γ Q => m Γ fun ds Γ1 => match ds with
 | [d, e] => Q (.nx ((Γ1.set i (.val d)).set j (.val e)))
 | _ => False
noncomputable def mRet (m : MO) : MS := fun Γ Q => m Γ fun rv _ => Q (.rt rv)
noncomputable def mRetN : MS := fun _ Q => Q (.rt (.val .none))
noncomputable def mIf (c : MT) (a b : MS) : MS := fun Γ Q => c Γ fun k Γ1 => if k = true then a Γ1 Q else b Γ1 Q
noncomputable def mNever : MS := fun _ _ => False
noncomputable def forL (g : MG) (b : MS) : List D → En → (Fl → Prop) → Prop
 | [], Γ, Q => Q (.nx Γ)
 | d :: ds, Γ, Q => g d Γ fun Γ1 => b Γ1 fun fl => match fl with
  | .nx Γ2 => forL g b ds Γ2 Q
  | .ct Γ2 => forL g b ds Γ2 Q
  | .bk Γ2 => Q (.nx Γ2)
  | .rt rv => Q (.rt rv)
noncomputable def mFor (mi : MD) (g : MG) (b : MS) : MS := fun Γ Q => mi Γ fun ds Γ1 => forL g b ds Γ1 Q
noncomputable def mWhile (c : MT) (b : MS) : MS := fun Γ Q => ∃ W : Nat → En → Prop, (∃ n, W n Γ) ∧ ∀ n Γ, W n Γ → c Γ fun k Γ1 => if k = true then b Γ1 fun fl => match fl with
  | .nx Γ2 => ∃ n', n' < n ∧ W n' Γ2
  | .ct Γ2 => ∃ n', n' < n ∧ W n' Γ2
  | .bk Γ2 => Q (.nx Γ2)
  | .rt rv => Q (.rt rv)
 else Q (.nx Γ1)
noncomputable def mAppend (i : Nat) (m : ME) : MS := fun Γ Q => match Γ[i]? with
 | some (.own _) => m Γ fun d Γ1 => match Γ1[i]? with
  | some (.own ds) => ds.length < 1000 ∧ Q (.nx (Γ1.set i (.own (ds ++ [d]))))
  | _ => False
 | _ => False
noncomputable def mClear (i : Nat) : MS := fun Γ Q => match Γ[i]? with
 | some (.own _) => Q (.nx (Γ.set i (.own [])))
 | _ => False
noncomputable def mPubS (i : Nat) (m : MS) : MS := fun Γ Q => match Γ[i]? with
 | some (.own ds) => m (Γ.set i (.val (.list ds))) Q
 | _ => m Γ Q
theorem vs_nx : VSA P0 A tNext mNx := fun _ _ _ _ _ _ _ r m k => k _ m _ _ _ (Same.refl _) r fun _ _ => rfl
theorem vs_never : VSA P0 A tNever mNever := fun _ _ _ _ _ _ _ _ m _ => m.elim
theorem vs_seq {t u : TS} {a b : MS} (ha : VSA P0 A t a) (hb : VSA P0 A u b) : VSA P0 A (tSeq t u) (mSeq a b) := by
 intro F Γ σ G H E Qm r m k
 refine ha F Γ σ G H _ _ r m fun fl q => ?_
 cases fl with
 | nx Γ1 => exact fun σ1 G1 H1 s1 r1 e1 => hb F Γ1 σ1 G1 H1 E Qm r1 q fun fl q => (k fl q).same s1 e1
 | rt rv => exact k _ q
 | bk Γ1 => exact k _ q
 | ct Γ1 => exact k _ q
theorem vs_set {i : Nat} {t : TE} {m : MO} (h : VO P0 t m) (hA : A i = true := by rfl) : VSA P0 A (tAsg t (gName i)) (mSet i m) := by
 intro F Γ σ G H E Qm r hm k
 exact h F Γ σ G H _ _ r hm fun rv Γ1 x G1 H1 m1 s1 r1 d1 a1 => k _ m1 _ _ _ s1 (r1.set d1 a1) (set_off hA)
theorem vs_par {i j : Nat} {t : TA} {m : MD} (h : VD P0 t m) (hA : A i = true := by rfl) (hB : A j = true := by rfl) : VSA P0 A (tPar i j t) (mPar i j m) := by
 intro F Γ σ G H E Qm r hm k
 refine h F Γ σ G H _ _ r hm fun ds Γ1 x G1 H1 m1 s1 r1 d1 => ?_
 split at m1
 ·cases d1 with
  | cons a b =>
   cases b with
   | cons b c =>
    cases c
    exact ⟨_, _, rfl, k _ m1 _ _ _ s1 ((r1.setV a).setV b) fun q hq => (set_off hB q hq).trans (set_off hA q hq)⟩
 ·exact m1.elim
theorem vs_ret {t : TE} {m : MO} (h : VO P0 t m) : VSA P0 A (tRet t) (mRet m) := by
 intro F Γ σ G H E Qm r hm k
 exact h F Γ σ G H _ _ r hm fun rv Γ1 x G1 H1 m1 s1 r1 d1 _ => k _ m1 _ _ _ s1 r1.fr d1
theorem vs_if {c : TT} {t u : TS} {mc : MT} {a b : MS} (hc : VTT P0 c mc) (ha : VSA P0 A t a) (hb : VSA P0 A u b) : VSA P0 A (tIfS c t u) (mIf mc a b) := by
 intro F Γ σ G H E Qm r m k
 refine hc F Γ σ G H _ _ r m fun k1 Γ1 G1 H1 m1 s1 r1 => ?_
 cases k1 with
 | true => exact iteT (ha F Γ1 σ G1 H1 E Qm r1 m1 fun fl q => (k fl q).same s1 fun _ _ => rfl)
 | false => exact iteF (hb F Γ1 σ G1 H1 E Qm r1 m1 fun fl q => (k fl q).same s1 fun _ _ => rfl)
theorem vs_while {c : TT} {t : TS} {mc : MT} {b : MS} (hc : VTT P0 c mc) (hb : VSA P0 A t b) : VSA P0 A (tWhile c t) (mWhile mc b) := by
 intro F Γ σ G H E Qm r m k
 obtain ⟨W, ⟨n0, w0⟩, turn⟩ := m
 refine ⟨fun n σ1 H1 => ∃ Γ1 G1, Same G G1 ∧ R F Γ1 σ1 G1 H1 ∧ W n Γ1 ∧ ∀ i, A i = false → σ1[i]? = σ[i]?, ⟨n0, Γ, G, Same.refl _, r, w0, fun _ _ => rfl⟩, ?_⟩
 rintro n σ1 H1 ⟨Γ1, G1, s1, r1, w1, e1⟩
 refine hc F Γ1 σ1 G1 H1 _ _ r1 (turn n Γ1 w1) fun k2 Γ2 G2 H2 m2 s2 r2 => ?_
 cases k2 with
 | true =>
  refine iteT ⟨_, fun _ _ h => h, ?_⟩
  refine hb F Γ2 σ1 G2 H2 _ _ r2 m2 fun fl q => ?_
  cases fl with
  | nx Γ3 =>
   obtain ⟨n', hn, w3⟩ := q
   exact fun σ3 G3 H3 s3 r3 e3 => ⟨n', hn, Γ3, G3, (s1.trans s2).trans s3, r3, w3, fun i hi => (e3 i hi).trans (e1 i hi)⟩
  | ct Γ3 =>
   obtain ⟨n', hn, w3⟩ := q
   exact fun σ3 G3 H3 s3 r3 e3 => ⟨n', hn, Γ3, G3, (s1.trans s2).trans s3, r3, w3, fun i hi => (e3 i hi).trans (e1 i hi)⟩
  | bk Γ3 => exact fun σ3 G3 H3 s3 r3 e3 => k _ q _ _ _ ((s1.trans s2).trans s3) r3 fun i hi => (e3 i hi).trans (e1 i hi)
  | rt rv => exact fun v G3 H3 s3 r3 => k _ q _ _ _ ((s1.trans s2).trans s3) r3
 | false => exact iteF (k _ m2 _ _ _ (s1.trans s2) r2 e1)
theorem vs_for {wi : TI} {g : TG} {t : TS} {mi : MD} {mg : MG} {b : MS} (hi : VI P0 wi mi) (hg : VG P0 A g mg) (hb : VSA P0 A t b) : VSA P0 A (tFor wi g t) (mFor mi mg b) := by
 intro F Γ σ G H E Qm r m k
 refine hi F Γ σ G H _ _ r m fun ds Γ1 J G1 H1 m1 s1 r1 wk => ?_
 refine ⟨fun i n σ2 H2 => n = ds.length - i ∧ i ≤ ds.length ∧ ∃ Γ2 G2, Same G1 G2 ∧ R F Γ2 σ2 G2 H2 ∧ forL mg b (ds.drop i) Γ2 Qm ∧ ∀ i, A i = false → σ2[i]? = σ[i]?, ⟨ds.length, by simp, Nat.zero_le _, Γ1, G1, Same.refl _, r1, m1, fun _ _ => rfl⟩, ?_⟩
 rintro i n σ2 H2 ⟨rfl, hle, Γ2, G2, s2, r2, m2, e2⟩
 obtain ⟨go, stop⟩ := wk F Γ2 σ2 G2 H2 s2 r2
 by_cases hlt : i < ds.length
 ·refine .inr ⟨(go i ds[i] (by simp [hlt])).1, fun σ' H' => ds.length - (i + 1) < ds.length - i ∧ i + 1 ≤ ds.length ∧ ∃ Γ3 G3, Same G1 G3 ∧ R F Γ3 σ' G3 H' ∧ forL mg b (ds.drop (i + 1)) Γ3 Qm ∧ ∀ i, A i = false → σ'[i]? = σ[i]?, fun σ' H' h => ⟨_, h.1, rfl, h.2⟩, fun x H' hy => ?_⟩
  obtain ⟨G3, s3, r3, d3⟩ := (go i ds[i] (by simp [hlt])).2 x H' hy
  rw [List.drop_eq_getElem_cons hlt] at m2
  refine hg F Γ2 σ2 G3 H' x _ _ _ r3 d3 m2 fun Γ4 σ4 m4 r4 e4 => ?_
  refine hb F Γ4 σ4 G3 H' _ _ r4 m4 fun fl q => ?_
  cases fl with
  | nx Γ5 => exact fun σ5 G5 H5 s5 r5 e5 => ⟨by omega, hlt, Γ5, G5, (s2.trans s3).trans s5, r5, q, fun i hi => ((e5 i hi).trans (e4 i hi)).trans (e2 i hi)⟩
  | ct Γ5 => exact fun σ5 G5 H5 s5 r5 e5 => ⟨by omega, hlt, Γ5, G5, (s2.trans s3).trans s5, r5, q, fun i hi => ((e5 i hi).trans (e4 i hi)).trans (e2 i hi)⟩
  | bk Γ5 => exact fun σ5 G5 H5 s5 r5 e5 => k _ q _ _ _ ((s1.trans s2).trans (s3.trans s5)) r5 fun i hi => ((e5 i hi).trans (e4 i hi)).trans (e2 i hi)
  | rt rv => exact fun v G5 H5 s5 r5 => k _ q _ _ _ ((s1.trans s2).trans (s3.trans s5)) r5
 ·have e : i = ds.length := by omega
  subst e
  rw [List.drop_length] at m2
  exact .inl ⟨stop, k _ m2 _ _ _ (s1.trans s2) r2 e2⟩
noncomputable def mFn (n : Nat) (b : MS) : Fm := fun as Q => b (as ++ List.replicate n .no) fun fl => match fl with
 | .rt rv => Q rv
 | .nx _ => Q (.val .none)
 | _ => False
theorem fn_start {n k : Nat} {N : List Str} {t : TS} {b : MS} (h : VS P0 t b) (hN : N.length = n + k) {vs : List V} {H : Hp} {Q : VK} {E : XK} (hs : spM P0 n (mFn k b) vs H Q E) :
  t { nx := fun _ H' => Q .non H', rt := Q } (start N vs) H := by
 obtain ⟨F, as, Qm, rfl, rf, pr, hl, hm, q⟩ := hs
 have hlen : vs.length = as.length := Paired.length pr
 have get : ∀ {vs : List V} {as : List Sl} {i : Nat} {s : Sl}, Paired (ArgOk F F.G0) vs as → as[i]? = some s → ∃ v, vs[i]? = some v ∧ ArgOk F F.G0 v s := by
  intro vs as i s pr
  induction pr generalizing i with
  | nil => intro e; simp at e
  | cons a b ih =>
   cases i with
   | zero => intro e; simp at e; subst e; exact ⟨_, rfl, a⟩
   | succ i => intro e; simpa using ih (i := i) (by simpa using e)
 have at_ : ∀ {i : Nat} {s : Sl}, (as ++ List.replicate k Sl.no)[i]? = some s → s ≠ .no → ∃ v, (start N vs)[i]? = some (some v) ∧ ArgOk F F.G0 v s := by
  intro i s e hne
  by_cases hi : i < as.length
  ·rw [List.getElem?_append_left hi] at e
   obtain ⟨v, ev, av⟩ := get pr e
   refine ⟨v, ?_, av⟩
   unfold start
   rw [List.getElem?_append_left (by rw [List.length_map]; omega), List.getElem?_map, ev]
   rfl
  ·rw [List.getElem?_append_right (by omega), List.getElem?_replicate] at e
   split at e
   ·cases e; exact absurd rfl hne
   ·cases e
 have r : R F (as ++ List.replicate k .no) (start N vs) F.G0 F.H0 := by
  refine R.of rf ?_ (fun i s e => ?_) (fun i B e => ?_) (fun i j x y _ e _ => ?_)
  ·unfold start
   simp only [List.length_append, List.length_replicate, List.length_map]
   omega
  ·cases s with
   | no => trivial
   | val d =>
    obtain ⟨v, ev, av⟩ := at_ e (by intro z; cases z)
    exact ⟨v, ev, av⟩
   | own ds =>
    obtain ⟨v, ev, av⟩ := at_ e (by intro z; cases z)
    exact av.elim
   | pen =>
    obtain ⟨v, ev, p, rfl, ep⟩ := at_ e (by intro z; cases z)
    exact ⟨p, ev, ep⟩
   | con q =>
    obtain ⟨v, ev, av⟩ := at_ e (by intro z; cases z)
    have av : v = .ref q := av
    rw [av] at ev
    exact ev
   | pub B =>
    obtain ⟨v, ev, av⟩ := at_ e (by intro z; cases z)
    exact av.elim
   | box B =>
    obtain ⟨v, ev, av⟩ := at_ e (by intro z; cases z)
    exact av.elim
  ·obtain ⟨v, ev, av⟩ := at_ e (by intro z; cases z)
   exact av.elim
  ·obtain ⟨v, ev, av⟩ := at_ e (by intro z; cases z)
   exact av.elim
 refine h F _ _ _ _ _ _ r hm fun fl hq => ?_
 cases fl with
 | nx Γ => exact fun σ G' H' _ r' _ => q _ _ _ _ hq r'.fr .non
 | rt rv => exact fun v G' H' _ f' v' => q _ _ _ _ hq f' v'
 | bk Γ => exact hq.elim
 | ct Γ => exact hq.elim
theorem spM_len {n : Nat} {f : Fm} {ps : List Str} (h : ps.length = n) : ∀ vs H Q E, spM P0 n f vs H Q E → vs.length = ps.length := by
 rintro vs H Q E ⟨F, as, Qm, _, _, pr, hl, _⟩
 rw [Paired.length pr, hl, h]
theorem _root_.L2.Fun.okV {P : Program} {w : World} {K : PySem.W.Frag} {mg : Str → Option Value} {base : Heap} {x qual : Str} {st : Stmt} {f : Addr} {fd : FuncData} {N ps : List Str} {k n j : Nat} {b : MS}
  (F : Fun K x qual st f fd) (S : FnScope N ps (defScope st)) (hn : ps.length = n) (hN : N.length = n + j)
  (hbody : ∀ (cdv : Value) (A : Around) (outer : List Env) (s : Shared) (H : Hp) (E : XK), Room k (A.deeper (envOfC qual (defScope st) s.heap.objs.size f cdv)) →
   SsX P0 (cxOf CX0 P w K mg base N qual (defScope st) f cdv A outer s H E).nox (defBody st) b) : FnOk P w K mg base CX0 (k + 1) f fd ps (spM P0 n (mFn j b)) := by
 refine F.ok S (spM_len hn) fun cdv A outer s H vs Q E hr hs => ?_
 obtain ⟨t, h1, h2⟩ := hbody cdv A outer s H E hr
 exact ⟨t, h1, fn_start h2 hN hs⟩
end L2.VS
namespace L2.VS
open PySem PySem.Spec PyProof.Rows
variable {P0 : Addr → Hp → Prop}
noncomputable def kindD : D → String
 | .none => "NoneType"
 | .bool _ => "bool"
 | .int _ => "int"
 | .str _ => "str"
 | .list _ => "list"
 | .tuple _ => "tuple"
 | .dict _ => "dict"
noncomputable def subT (a b : String) : Bool := a == b || (a == "bool" && b == "int")
noncomputable def tyL : List String := ["NoneType", "bool", "int", "str", "list", "tuple", "dict"]
noncomputable def Kit (K : PySem.W.Frag) : Prop := ∀ a ∈ tyL, ∀ b ∈ tyL, PySem.W.kitOne K (.type a) (.type b) = some (subT a b)
theorem Kit.mk' {K : PySem.W.Frag} (h : ∀ a ∈ tyL, ∀ b ∈ tyL, (a == b) = false → PySem.W.kitOne K (.type a) (.type b) = some (a == "bool" && b == "int")) : Kit K := by
 intro a ha b hb
 by_cases e : a = b
 ·subst e
  rw [kit_same]
  simp [subT]
 ·have e' : (a == b) = false := by simpa using e
  rw [h a ha b hb e']
  simp [subT, e']
theorem tyOf_of {K : PySem.W.Frag} {H : Hp} {x : V} {d : D} (h : Dt H x d) : TyOf K H x (.type (kindD d)) ∧ kindD d ∈ tyL := by
 cases h with
 | non => exact ⟨.non, by simp [kindD, tyL]⟩
 | bl b => exact ⟨.bl b, by simp [kindD, tyL]⟩
 | int i => exact ⟨.int i, by simp [kindD, tyL]⟩
 | str x => exact ⟨.str x, by simp [kindD, tyL]⟩
 | tup hp _ => exact ⟨.tup hp, by simp [kindD, tyL]⟩
 | lst hp _ => exact ⟨.lst hp, by simp [kindD, tyL]⟩
 | dic hp => exact ⟨.dK hp, by simp [kindD, tyL]⟩
noncomputable def mIsi (n : String) (ma : ME) : ME := fun Γ Q => ma Γ fun x Γ1 => Q (.bool (subT (kindD x) n)) Γ1
theorem vt_isi {K : PySem.W.Frag} {n : String} {ta : TE} {ma : ME} (hk : Kit K) (hn : n ∈ tyL) (ha : VT P0 ta ma) : VT P0 (tCB (rIsi K) (tCons ta (tCons (tC (.ty n)) tNil))) (mIsi n ma) := by
 intro F Γ σ G H Q Qm r m k
 refine ha F Γ σ G H _ _ r m fun d Γ1 x G1 H1 m1 s1 r1 d1 => ?_
 obtain ⟨h1, h2⟩ := tyOf_of (K := K) (Dt.same r1.fr.sub _ _ d1)
 exact ⟨x, .ty n, .type n, _, _, rfl, rfl, h1, hk _ h2 _ hn, k _ _ _ _ _ m1 s1 r1 (.bl _)⟩
section
variable {X : Cx}
structure Goods (ds : List D) : Prop where
 lay : PyData.canLayAll0 ds = true
 dep : PyData.depthAll ds ≤ 59
noncomputable def mIn (neg : Bool) (ma mb : ME) : ME := fun Γ Q => ma Γ fun x Γ1 => mb Γ1 fun y Γ2 => match itemsD y with
 | some ds => Good x ∧ Goods ds ∧ Q (.bool (if neg then !(ds.any fun e => PyData.eqv e x) else ds.any fun e => PyData.eqv e x)) Γ2
 | none => False
end
noncomputable def SameU (H H' : Hp) : Prop := ∀ b xs, H b = some (.tup xs) → H' b = some (.tup xs) ∨ ∃ q vs, V.ref q ∈ xs ∧ H q = some (.lst vs)
noncomputable def pubA : En → En := List.map fun s => match s with
 | .own ds => .val (.list ds)
 | .box B => match B.view with
  | some d => .val d
  | none => .no
 | s => s
noncomputable def mPeek (m : ME) : ME := fun Γ Q => m (pubA Γ) fun d Γ1 => noLst d = true ∧ Γ1 = pubA Γ ∧ Q d Γ
noncomputable def mPeekT (m : MT) : MT := fun Γ Q => m (pubA Γ) fun b Γ1 => Γ1 = pubA Γ ∧ Q b Γ
noncomputable def mPeekO (m : MO) : MO := fun Γ Q => m (pubA Γ) fun rv Γ1 => noLsts (match rv with | .val d => [d] | .own ds => ds | .box _ => [.list []]) = true ∧ Γ1 = pubA Γ ∧ Q rv Γ
noncomputable def OwnA (F : Fra P0) (Γ : En) (σ : St) (G H : Hp) (b : Addr) : Prop := ∃ (i : Nat) (s : Sl) (fp : List Addr), Γ[i]? = some s ∧ SlF F G H σ[i]? fp s ∧ b ∈ fp
section
variable {F : Fra P0} {Γ : En} {σ : St} {G H : Hp}
open Classical in
noncomputable def gPub (F : Fra P0) (Γ : En) (σ : St) (G H : Hp) : Hp := fun b => if OwnA F Γ σ G H b then H b else G b
noncomputable def gBack (F : Fra P0) (Γ : En) (σ : St) (G H : Hp) (G1 : Hp) : Hp := fun b => open Classical in if OwnA F Γ σ G H b then none else G1 b
theorem OwnA.at {b : Addr} (h : OwnA F Γ σ G H b) : F.H0 b = none ∧ G b = none ∧ ∃ o, H b = some o := by
 obtain ⟨i, s, fp, _, e, hb⟩ := h
 exact e.mine hb
theorem OwnA.tup {b : Addr} (h : OwnA F Γ σ G H b) {xs : List V} (e : H b = some (.tup xs)) : ∃ q vs, V.ref q ∈ xs ∧ OwnA F Γ σ G H q ∧ H q = some (.lst vs) := by
 obtain ⟨i, s, fp, e0, e1, hb⟩ := h
 cases s with
 | no => rw [show fp = [] from e1] at hb; cases hb
 | val d => rw [e1.1] at hb; cases hb
 | pen => rw [e1.1] at hb; cases hb
 | con q => rw [e1.1] at hb; cases hb
 | pub B => rw [e1.1] at hb; cases hb
 | own ds =>
  obtain ⟨p, vs, f0, _, _, _, f3, _⟩ := e1
  rw [f0] at hb
  rw [List.mem_singleton.mp hb, f3] at e
  cases e
 | box B =>
  have e1' := e1
  obtain ⟨v, _, h2, _⟩ := e1
  obtain ⟨q, q1, q2, vs, q3⟩ := B.nt h2 b hb xs e
  exact ⟨q, vs, q2, ⟨i, _, fp, e0, e1', q1⟩, q3⟩
theorem R.pubAll (r : R F Γ σ G H) : Same G (gPub F Γ σ G H) ∧ R F (pubA Γ) σ (gPub F Γ σ G H) H := by
 have g : Same G (gPub F Γ σ G H) := fun b o e => by
  unfold gPub
  by_cases h : OwnA F Γ σ G H b
  ·have := h.at.2.1
   rw [e] at this; cases this
  ·rw [if_neg h]; exact e
 have nob : ∀ (i : Nat) s, (pubA Γ)[i]? = some s → (∀ x, s ≠ .own x) ∧ ∀ B, s ≠ .box B := by
  intro i s e
  unfold pubA at e
  rw [List.getElem?_map] at e
  cases e0 : Γ[i]? with
  | none => rw [e0] at e; cases e
  | some s0 =>
   rw [e0] at e
   cases s0 with
   | box B =>
    have e : (match B.view with | some d => Sl.val d | none => Sl.no) = s := Option.some.inj e
    cases hv : B.view with
    | none => rw [hv] at e; subst e; exact ⟨fun x z => (nomatch z), fun x z => (nomatch z)⟩
    | some d => rw [hv] at e; subst e; exact ⟨fun x z => (nomatch z), fun x z => (nomatch z)⟩
   | _ => cases e; exact ⟨fun x z => (nomatch z), fun x z => (nomatch z)⟩
 refine ⟨g, R.of ⟨fun b o e => ?_, fun b o e => ?_, r.fr.h0, r.fr.pn⟩ ?_ (fun i s e => ?_) (fun i B e => (nob i _ e).2 B rfl) (fun i j x y _ e => ((nob i _ e).1 x rfl).elim)⟩
 ·unfold gPub at e
  split at e
  ·exact e
  ·exact r.fr.sub b o e
 ·have h : ¬ OwnA F Γ σ G H b := fun h => by
   have := h.at.1
   rw [e] at this; cases this
  unfold gPub
  rw [if_neg h]
  exact r.fr.g0 b o e
 ·unfold pubA
  rw [List.length_map]
  exact r.len
 ·unfold pubA at e
  rw [List.getElem?_map] at e
  cases e0 : Γ[i]? with
  | none => rw [e0] at e; cases e
  | some s0 =>
   rw [e0] at e
   have h := r.sl i s0 e0
   cases s0 with
   | no => cases e; trivial
   | val d => cases e; obtain ⟨v, e1, d1⟩ := h; exact ⟨v, e1, Dt.same g _ _ d1⟩
   | own ds =>
    cases e
    obtain ⟨p, vs, e1, e2, e3, e4, e5⟩ := h
    refine ⟨_, e1, .lst ?_ (Dts.same g _ _ e5)⟩
    unfold gPub
    rw [if_pos ⟨i, _, [p], e0, ⟨p, vs, rfl, e1, e2, e3, e4, e5⟩, List.mem_singleton.mpr rfl⟩]
    exact e4
   | pen => cases e; exact h
   | con q => cases e; exact h
   | pub B => cases e; obtain ⟨v, e1, e2⟩ := h; exact ⟨v, e1, B.mono g e2⟩
   | box B =>
    have e : (match B.view with | some d => Sl.val d | none => Sl.no) = s := Option.some.inj e
    obtain ⟨v, fp, e1, e2, e3⟩ := h
    cases hv : B.view with
    | none => rw [hv] at e; subst e; trivial
    | some d =>
     rw [hv] at e
     subst e
     refine ⟨v, e1, B.vok e2 hv g fun b hb => ?_⟩
     unfold gPub
     rw [if_pos ⟨i, _, fp, e0, ⟨v, e1, e2, e3⟩, hb⟩]
theorem R.backG (r : R F Γ σ G H) {G1 H1 : Hp} (s : Same (gPub F Γ σ G H) G1) (f1 : Rf F G1 H1) :
  (∀ b, OwnA F Γ σ G H b → G1 b = H b ∧ H1 b = H b) ∧ Same G (gBack F Γ σ G H G1) ∧ Rf F (gBack F Γ σ G H G1) H1 ∧ SameU G1 (gBack F Γ σ G H G1) := by
 have s0 := (r.pubAll).1
 have own : ∀ b, OwnA F Γ σ G H b → G1 b = H b ∧ H1 b = H b := fun b h => by
  obtain ⟨_, _, o, e⟩ := h.at
  have q : gPub F Γ σ G H b = H b := by unfold gPub; rw [if_pos h]
  rw [e] at q ⊢
  exact ⟨s b _ q, f1.sub b _ (s b _ q)⟩
 have g : Same G (gBack F Γ σ G H G1) := fun b o e => by
  have h : ¬ OwnA F Γ σ G H b := fun h => by
   have := h.at.2.1
   rw [e] at this; cases this
  unfold gBack
  rw [if_neg h]
  exact s b o (s0 b o e)
 refine ⟨own, g, ⟨fun b o e => ?_, fun b o e => ?_, f1.h0, f1.pn⟩, fun b xs e => ?_⟩
 ·unfold gBack at e
  split at e
  ·cases e
  ·exact f1.sub b o e
 ·have h : ¬ OwnA F Γ σ G H b := fun h => by
   have := h.at.1
   rw [e] at this; cases this
  unfold gBack
  rw [if_neg h]
  exact f1.g0 b o e
 ·by_cases h : OwnA F Γ σ G H b
  ·have e' : H b = some (.tup xs) := by rw [← (own b h).1]; exact e
   obtain ⟨q, vs, q1, q2, q3⟩ := h.tup e'
   exact .inr ⟨q, vs, q1, by rw [(own q q2).1]; exact q3⟩
  ·refine .inl ?_
   unfold gBack
   rw [if_neg h]
   exact e
theorem gBack_own {G1 : Hp} {b : Addr} (h : OwnA F Γ σ G H b) : gBack F Γ σ G H G1 b = none := by
 unfold gBack
 rw [if_pos h]
theorem R.back (r : R F Γ σ G H) {G' H' : Hp} (s : Same (gPub F Γ σ G H) G') (r' : R F (pubA Γ) σ G' H') : Same G (gBack F Γ σ G H G') ∧ R F Γ σ (gBack F Γ σ G H G') H' ∧ SameU G' (gBack F Γ σ G H G') := by
 obtain ⟨own, g, f, t⟩ := r.backG s r'.fr
 obtain ⟨fps, h1, h2⟩ := r.fps
 refine ⟨g, ⟨f, r.len, fps, fun i sl e => (h1 i sl e).go g fun b hb => ?_, h2⟩, t⟩
 have ho : OwnA F Γ σ G H b := ⟨i, sl, fps i, e, h1 i sl e, hb⟩
 exact ⟨gBack_own ho, (own b ho).2⟩
end
section
variable {ta tb : TE} {ma mb : ME}
abbrev mAdd := mI0 fun i j => PyData.int (i + j)
abbrev mSub := mI0 fun i j => PyData.int (i - j)
abbrev mMul := mI IntMulOk fun i j => PyData.int (i * j)
abbrev mDivX := mI CDivX fun i j => PyData.int (i.fdiv j)
abbrev mDiv := mI CDiv fun i j => PyData.int (i / j)
abbrev mMod := mI (fun _ j => 0 < j) fun i j => PyData.int (i % j)
abbrev mNeg := mU fun i => PyData.int (-i)
abbrev mLt := mI0 fun i j => PyData.bool (decide (i < j))
abbrev mGt := mI0 fun i j => PyData.bool (decide (j < i))
abbrev mGe := mI0 fun i j => PyData.bool (decide (j ≤ i))
theorem vt_add (ha : VT P0 ta ma) (hb : VT P0 tb mb) : VT P0 (tOp (rI0 fun i j => .int (i + j)) ta tb) (mAdd ma mb) := vt_i0 (fun _ _ _ => .int _) ha hb
theorem vt_sub (ha : VT P0 ta ma) (hb : VT P0 tb mb) : VT P0 (tOp (rI0 fun i j => .int (i - j)) ta tb) (mSub ma mb) := vt_i0 (fun _ _ _ => .int _) ha hb
theorem vt_mul (ha : VT P0 ta ma) (hb : VT P0 tb mb) : VT P0 (tOp (rI IntMulOk fun i j => .int (i * j)) ta tb) (mMul ma mb) := vt_i (fun _ _ _ => .int _) ha hb
theorem vt_divX (ha : VT P0 ta ma) (hb : VT P0 tb mb) : VT P0 (tOp (rI CDivX fun i j => .int (i.fdiv j)) ta tb) (mDivX ma mb) := vt_i (fun _ _ _ => .int _) ha hb
theorem vt_div (ha : VT P0 ta ma) (hb : VT P0 tb mb) : VT P0 (tOp (rI CDiv fun i j => .int (i / j)) ta tb) (mDiv ma mb) := vt_i (fun _ _ _ => .int _) ha hb
theorem vt_mod (ha : VT P0 ta ma) (hb : VT P0 tb mb) : VT P0 (tOp (rI (fun _ j => 0 < j) fun i j => .int (i % j)) ta tb) (mMod ma mb) := vt_i (fun _ _ _ => .int _) ha hb
theorem vt_neg (ha : VT P0 ta ma) : VT P0 (tUn (rU fun i => .int (-i)) ta) (mNeg ma) := vt_u (fun _ _ => .int _) ha
theorem vt_lt (ha : VT P0 ta ma) (hb : VT P0 tb mb) : VT P0 (tOp (rI0 fun i j => .bl (decide (i < j))) ta tb) (mLt ma mb) := vt_i0 (fun _ _ _ => .bl _) ha hb
theorem vt_gt (ha : VT P0 ta ma) (hb : VT P0 tb mb) : VT P0 (tOp (rI0 fun i j => .bl (decide (j < i))) ta tb) (mGt ma mb) := vt_i0 (fun _ _ _ => .bl _) ha hb
theorem vt_ge (ha : VT P0 ta ma) (hb : VT P0 tb mb) : VT P0 (tOp (rI0 fun i j => .bl (decide (j ≤ i))) ta tb) (mGe ma mb) := vt_i0 (fun _ _ _ => .bl _) ha hb
theorem vt_int {i : Int} : VT P0 (tC (.int i)) (mC (.int i)) := vt_c fun _ => .int i
theorem vt_bl {b : Bool} : VT P0 (tC (.bl b)) (mC (.bool b)) := vt_c fun _ => .bl b
theorem vt_str {s : Str} : VT P0 (tC (.str s)) (mC (.str s)) := vt_c fun _ => .str s
theorem vt_non : VT P0 (tC .non) (mC .none) := vt_c fun _ => .non
end
end L2.VS
namespace L2.VS
open PySem PySem.Spec PyProof.Rows
noncomputable def PenP (K : PySem.W.Frag) (a : Addr) (ns : List Int) : Addr → Hp → Prop := fun p H => Pen K p a ns H
noncomputable def mTake : Fm := fun as Q => match as with
 | [.pen, .val (.int m)] => 0 < m ∧ m < 1073741824 ∧ ∀ r : Int, 0 ≤ r → r < m → Q (.val (.int r))
 | _ => False
theorem take_of {K : PySem.W.Frag} {a : Addr} {ns : List Int} : ∀ vs H Q E, spM (PenP K a ns) 2 mTake vs H Q E → spTake K vs H Q E := by
 rintro vs H Q E ⟨F, as, Qm, rfl, rf, pr, hl, hm, q⟩
 unfold mTake at hm
 split at hm
 ·rename_i m
  cases pr with
  | cons a1 b1 =>
   cases b1 with
   | cons a2 b2 =>
    cases b2
    obtain ⟨p, rfl, ep⟩ := a1
    have a2 : Dt F.G0 _ (.int m) := a2
    cases a2
    refine ⟨p, a, ns, m, rfl, rf.pn p ep, hm.1, hm.2.1, fun r H' h1 h2 hp hx => ?_⟩
    refine q _ _ F.G0 H' (hm.2.2 r h1 h2) ⟨fun b o e => hx b o (fun z => ?_) (rf.sub b o e), fun _ _ _ => rfl, fun b o e hb => hx b o (fun z => hb (by rw [z]; exact ep)) e, fun p' ep' => ?_⟩ (.int _)
    ·rw [z, F.pg p ep] at e; cases e
    ·rw [ep] at ep'; cases ep'; exact hp
 ·exact hm.elim
theorem pen_stab {K : PySem.W.Frag} {a : Addr} {ns : List Int} {pen : Addr} {H0 : Hp} (h0 : ∃ o, H0 pen = some o) (hS : SqL K H0 a (ns.map V.int)) : ∀ H H', (∀ b o, H0 b = some o → H' b = H b) → PenP K a ns pen H → PenP K a ns pen H' := by
 rintro H H' h ⟨z, k, hz, hk, e, s⟩
 obtain ⟨o, e0⟩ := h0
 refine ⟨z, k, hz, hk, (h pen o e0).trans e, ?_⟩
 rcases hS with (q | ⟨ob, q⟩) | q
 ·have ea := h a _ q
  rcases s with (s | ⟨ob', s⟩) | s
  ·exact .inl (.inl (ea.trans s))
  ·exact .inl (.inr ⟨ob', ea.trans s⟩)
  ·exact .inr s
 ·have ea := h a _ q
  rcases s with (s | ⟨ob', s⟩) | s
  ·exact .inl (.inl (ea.trans s))
  ·exact .inl (.inr ⟨ob', ea.trans s⟩)
  ·exact .inr s
 ·exact .inr q
noncomputable def TrueEnd : Fl → Prop := fun fl => fl = .rt (.val (.bool true))
theorem law_go {K : PySem.W.Frag} {a : Addr} {ns : List Int} {k : Nat} {t : TS} {b : MS} {H : Hp} {pen : Addr} {Q : VK} {nx : St → Hp → Prop} (h : VS (PenP K a ns) t b) (hp : H pen = none) (hS : SqL K H a (ns.map V.int))
    (hb : b (.no :: .pen :: List.replicate k .no) TrueEnd) (q : ∀ H', Q (.bl true) H') :
    t { nx := nx, rt := Q } (some (.ref a) :: some (.ref pen) :: List.replicate k none) (upd H pen (.lst [.ref a, .int 0, .int 0])) := by
  have g := same_new hp (.lst [.ref a, .int 0, .int 0])
  have hS' := g.seq hS
  let F : Fra (PenP K a ns) :=
    { H0 := upd H pen (.lst [.ref a, .int 0, .int 0])
      G0 := fun _ => none
      pen := some pen
      stab := fun p e => by cases e; exact pen_stab ⟨_, upd_same⟩ hS'
      pin := fun p e H1 h1 => by obtain ⟨z, k, _, _, e1, _⟩ := h1; exact ⟨_, e1⟩
      pin0 := fun p e => by cases e; exact ⟨_, upd_same⟩
      pg := fun _ _ => rfl }
  refine h F (.no :: .pen :: List.replicate k .no) _ F.G0 _ _ TrueEnd (R.of ⟨fun b o e => (nomatch e), fun _ _ _ => rfl, fun _ _ e _ => e, fun p e => ?_⟩ ?_ (fun i s e => ?_) (fun i B e => ?_) (fun i j x y _ e => ?_)) hb fun fl e => ?_
  · cases e
    exact ⟨0, 0, by decide, by decide, upd_same, hS'⟩
  · simp
  · match i with
    | 0 => cases e; trivial
    | 1 => cases e; exact ⟨pen, rfl, rfl⟩
    | i + 2 =>
      have e' : (List.replicate k Sl.no)[i]? = some s := by simpa using e
      rw [List.getElem?_replicate] at e'
      split at e'
      · cases e'; trivial
      · cases e'
  · match i with
    | 0 => cases e
    | 1 => cases e
    | i + 2 =>
      have e' : (List.replicate k Sl.no)[i]? = some (.box B) := by simpa using e
      rw [List.getElem?_replicate] at e'
      split at e'
      · cases e'
      · cases e'
  · match i with
    | 0 => cases e
    | 1 => cases e
    | i + 2 =>
      have e' : (List.replicate k Sl.no)[i]? = some (.own x) := by simpa using e
      rw [List.getElem?_replicate] at e'
      split at e'
      · cases e'
      · cases e'
  · unfold TrueEnd at e
    subst e
    intro r G' H' _ _ hr
    have hr : Dt G' r (.bool true) := hr
    cases hr
    exact q H'
theorem law_body {K : PySem.W.Frag} {a : Addr} {ns : List Int} {k : Nat} {b : MS} {H : Hp} {Q : VK} {nx : St → Hp → Prop} {X : Cx} {st : Stmt} {rest : List Stmt} {N : List Str}
  (h1 : PS X st (tAsg (tLst (tCons (tVar 0) (tCons (tC (.int 0)) (tCons (tC (.int 0)) tNil)))) (gName 1))) (h2 : ∃ t, PSs X rest t ∧ VS (PenP K a ns) t b) (hN : N.length = k + 2) (hS : SqL K H a (ns.map V.int))
  (hb : b (.no :: .pen :: List.replicate k .no) TrueEnd) (q : ∀ H', Q (.bl true) H') : ∃ t, PSs X (st :: rest) t ∧ t { nx := nx, rt := Q } (start N [.ref a]) H := by
 obtain ⟨t, h2, h3⟩ := h2
 refine ⟨_, pss_cons h1 h2, ?_⟩
 have e : start N [.ref a] = some (.ref a) :: none :: List.replicate k none := by
  unfold start
  rw [hN]
  rfl
 rw [e]
 refine ⟨_, rfl, small_b rfl, fun pen hp => ?_⟩
 exact law_go (t := t) h3 hp hS hb q
end L2.VS
namespace L2.VS
open PySem PySem.Spec PyProof.Rows LT
section
variable {Γ : En} {i j n : Nat} {d e x y : D} {ma mb : ME} {oa ob : MO} {ta tb : MT} {md : MD} {aa : MA} {sa sb : MS} {g : MG} {gs : MGs} {mp mq : MP}
theorem i_seq {Q : Fl → Prop} (h : sa Γ fun fl => match fl with | .nx Γ1 => sb Γ1 Q | fl => Q fl) : mSeq sa sb Γ Q := h
theorem i_nx {Q : Fl → Prop} (h : Q (.nx Γ)) : mNx Γ Q := h
theorem i_drop {Q : Fl → Prop} (h : ma Γ fun _ Γ1 => Q (.nx Γ1)) : mDrop ma Γ Q := h
theorem i_set {Q : Fl → Prop} (h : oa Γ fun rv Γ1 => Q (.nx (Γ1.set i rv.sl))) : mSet i oa Γ Q := h
theorem i_asg {Q : Fl → Prop} (h : ma Γ fun d Γ1 => g d Γ1 fun Γ2 => Q (.nx Γ2)) : mAsg ma g Γ Q := h
theorem i_par {Q : Fl → Prop} (h : md Γ fun ds Γ1 => match ds with | [d, e] => Q (.nx ((Γ1.set i (.val d)).set j (.val e))) | _ => False) : mPar i j md Γ Q := h
theorem i_ret {Q : Fl → Prop} (h : oa Γ fun rv _ => Q (.rt rv)) : mRet oa Γ Q := h
theorem i_retN {Q : Fl → Prop} (h : Q (.rt (.val .none))) : mRetN Γ Q := h
theorem i_if {Q : Fl → Prop} (h : ta Γ fun k Γ1 => if k = true then sa Γ1 Q else sb Γ1 Q) : mIf ta sa sb Γ Q := h
theorem i_for {Q : Fl → Prop} (h : md Γ fun ds Γ1 => forL g sa ds Γ1 Q) : mFor md g sa Γ Q := h
noncomputable def appK (i : Nat) (d : D) (Γ1 : En) (Q : Fl → Prop) : Prop := match Γ1[i]? with
 | some (.own ds) => ds.length < 1000 ∧ Q (.nx (Γ1.set i (.own (ds ++ [d]))))
 | _ => False
theorem i_append {Q : Fl → Prop} {ds : List D} (h0 : Γ[i]? = some (.own ds)) (h : ma Γ fun d Γ1 => appK i d Γ1 Q) : mAppend i ma Γ Q := by
 unfold mAppend
 rw [h0]
 exact h
theorem i_clear {Q : Fl → Prop} {ds : List D} (h0 : Γ[i]? = some (.own ds)) (h : Q (.nx (Γ.set i (.own [])))) : mClear i Γ Q := by
 unfold mClear
 rw [h0]
 exact h
theorem i_pubS {Q : Fl → Prop} {ds : List D} (h0 : Γ[i]? = some (.own ds)) (h : sa (Γ.set i (.val (.list ds))) Q) : mPubS i sa Γ Q := by
 unfold mPubS
 rw [h0]
 exact h
theorem i_pubS0 {Q : Fl → Prop} (h0 : Γ[i]? = some (.val d)) (h : sa Γ Q) : mPubS i sa Γ Q := by
 unfold mPubS
 rw [h0]
 exact h
theorem i_c {Q : D → En → Prop} (h : Q d Γ) : mC d Γ Q := h
theorem i_var {Q : D → En → Prop} (h0 : Γ[i]? = some (.val d)) (h : Q d Γ) : mVar i Γ Q := by
 unfold mVar
 rw [h0]
 exact h
theorem i_I0 {f : Int → Int → D} {Q : D → En → Prop} (h : ma Γ fun x Γ1 => mb Γ1 fun y Γ2 => match x, y with | .int i, .int j => Q (f i j) Γ2 | _, _ => False) : mI0 f ma mb Γ Q := h
theorem i_I {C : Int → Int → Prop} {f : Int → Int → D} {Q : D → En → Prop} (h : ma Γ fun x Γ1 => mb Γ1 fun y Γ2 => match x, y with | .int i, .int j => C i j ∧ Q (f i j) Γ2 | _, _ => False) : mI C f ma mb Γ Q := h
theorem i_U {f : Int → D} {Q : D → En → Prop} (h : ma Γ fun x Γ1 => match x with | .int i => Q (f i) Γ1 | _ => False) : mU f ma Γ Q := h
theorem i_abs {Q : D → En → Prop} (h : ma Γ fun x Γ1 => match x with | .int i => Q (.int (if i < 0 then -i else i)) Γ1 | _ => False) : mAbs ma Γ Q := h
theorem i_int1 {Q : D → En → Prop} (h : ma Γ fun x Γ1 => match x with | .int i => Q (.int i) Γ1 | .bool b => Q (.int (if b then 1 else 0)) Γ1 | _ => False) : mInt1 ma Γ Q := h
theorem i_2I {f : Int → Int → Int} {Q : D → En → Prop} (h : ma Γ fun x Γ1 => mb Γ1 fun y Γ2 => match x, y with | .int i, .int j => Q (.int (f i j)) Γ2 | _, _ => False) : m2I f ma mb Γ Q := h
theorem i_eq {Q : D → En → Prop} (h : ma Γ fun x Γ1 => mb Γ1 fun y Γ2 => Good x ∧ Good y ∧ Q (.bool (PyData.eqv x y)) Γ2) : mEq ma mb Γ Q := h
theorem i_ne {Q : D → En → Prop} (h : ma Γ fun x Γ1 => mb Γ1 fun y Γ2 => Good x ∧ Good y ∧ Q (.bool (!PyData.eqv x y)) Γ2) : mNe ma mb Γ Q := h
theorem i_isN {Q : D → En → Prop} (h : ma Γ fun x Γ1 => Q (.bool (isN x)) Γ1) : mIsN ma Γ Q := h
theorem i_notN {Q : D → En → Prop} (h : ma Γ fun x Γ1 => Q (.bool (!isN x)) Γ1) : mNotN ma Γ Q := h
theorem i_andV {Q : D → En → Prop} (h : ma Γ fun x Γ1 => match x with | .bool c => if c = true then mb Γ1 Q else Q (.bool false) Γ1 | _ => False) : mAndV ma mb Γ Q := h
theorem i_orV {Q : D → En → Prop} (h : ma Γ fun x Γ1 => match x with | .bool c => if c = true then Q (.bool true) Γ1 else mb Γ1 Q | _ => False) : mOrV ma mb Γ Q := h
theorem i_notV {Q : D → En → Prop} (h : ma Γ fun x Γ1 => match x with | .bool c => Q (.bool (!c)) Γ1 | _ => False) : mNotV ma Γ Q := h
theorem i_tst {Q : Bool → En → Prop} (h : ma Γ fun x Γ1 => match x with | .bool c => Q c Γ1 | _ => False) : mTst ma Γ Q := h
theorem i_and {Q : Bool → En → Prop} (h : ta Γ fun c Γ1 => if c = true then tb Γ1 Q else Q false Γ1) : mAnd ta tb Γ Q := h
theorem i_or {Q : Bool → En → Prop} (h : ta Γ fun c Γ1 => if c = true then Q true Γ1 else tb Γ1 Q) : mOr ta tb Γ Q := h
theorem i_not {Q : Bool → En → Prop} (h : ta Γ fun c Γ1 => Q (!c) Γ1) : mNot ta Γ Q := h
theorem i_ifE {Q : D → En → Prop} (h : ta Γ fun c Γ1 => if c = true then ma Γ1 Q else mb Γ1 Q) : mIfE ta ma mb Γ Q := h
theorem i_ifO {Q : Rv → En → Prop} (h : ta Γ fun c Γ1 => if c = true then oa Γ1 Q else ob Γ1 Q) : mIfO ta oa ob Γ Q := h
theorem i_nil {Q : List D → En → Prop} (h : Q [] Γ) : mNil Γ Q := h
theorem i_cons {Q : List D → En → Prop} (h : ma Γ fun x Γ1 => md Γ1 fun xs Γ2 => Q (x :: xs) Γ2) : mCons ma md Γ Q := h
theorem i_anil {Q : List Sl → En → Prop} (h : Q [] Γ) : aNil Γ Q := h
theorem i_aval {Q : List Sl → En → Prop} (h : ma Γ fun x Γ1 => aa Γ1 fun xs Γ2 => Q (.val x :: xs) Γ2) : aVal ma aa Γ Q := h
theorem i_apen {Q : List Sl → En → Prop} (h0 : Γ[i]? = some .pen) (h : aa Γ fun xs Γ2 => Q (.pen :: xs) Γ2) : aPen i aa Γ Q := by
 unfold aPen
 rw [h0]
 exact h
theorem i_tup {Q : D → En → Prop} (h : md Γ fun ds Γ1 => ds.length ≤ 1000 ∧ Q (.tuple ds) Γ1) : mTup md Γ Q := h
theorem i_lst {Q : Rv → En → Prop} (h : md Γ fun ds Γ1 => ds.length ≤ 1000 ∧ Q (.own ds) Γ1) : mLst md Γ Q := h
theorem i_ix {Q : D → En → Prop} (h : ma Γ fun x Γ1 => mb Γ1 fun y Γ2 => oQ (ixD x y) fun d => Q d Γ2) : mIx ma mb Γ Q := h
theorem i_len {Q : D → En → Prop} (h : ma Γ fun x Γ1 => oQ (lenD x) fun d => Q d Γ1) : mLen ma Γ Q := h
theorem i_isi {s : String} {Q : D → En → Prop} (h : ma Γ fun x Γ1 => Q (.bool (subT (kindD x) s)) Γ1) : mIsi s ma Γ Q := h
theorem i_pub {Q : D → En → Prop} (h : oa Γ fun rv Γ1 => nbQ rv (Q rv.d Γ1)) : mPub oa Γ Q := h
theorem i_val {Q : Rv → En → Prop} (h : ma Γ fun d Γ1 => Q (.val d) Γ1) : mVal ma Γ Q := h
theorem i_move {Q : Rv → En → Prop} {ds : List D} (h0 : Γ[i]? = some (.own ds)) (h : Q (.own ds) (Γ.set i .no)) : mMove i Γ Q := by
 unfold mMove
 rw [h0]
 exact h
theorem i_moveV {Q : Rv → En → Prop} (h0 : Γ[i]? = some (.val d)) (h : Q (.val d) Γ) : mMove i Γ Q := by
 unfold mMove
 rw [h0]
 exact h
theorem i_call {f : Fm} {Q : Rv → En → Prop} (h : aa Γ fun as Γ1 => as.length = n ∧ f as fun rv => Q rv Γ1) : mCall n f aa Γ Q := h
theorem i_listOf {Q : Rv → En → Prop} (h : ma Γ fun x Γ1 => match itemsD x with | some ds => Q (.own ds) Γ1 | none => False) : mListOf ma Γ Q := h
theorem i_slL {Q : Rv → En → Prop} (h : ma Γ fun x Γ1 => mp Γ1 fun lo Γ2 => mq Γ2 fun hi Γ3 => match x with | .list ds => Q (.own (cutD ds lo hi)) Γ3 | _ => False) : mSlL ma mp mq Γ Q := h
theorem i_pNo {Q : Option Int → En → Prop} (h : Q none Γ) : pNo Γ Q := h
theorem i_pSo {Q : Option Int → En → Prop} (h : ma Γ fun x Γ1 => match x with | .int i => Q (some i) Γ1 | _ => False) : pSo ma Γ Q := h
theorem i_cat {Q : Rv → En → Prop} (h : ma Γ fun x Γ1 => mb Γ1 fun y Γ2 => match x, y with | .list ds, .list es => ds.length + es.length ≤ 1000 ∧ Q (.own (ds ++ es)) Γ2 | _, _ => False) : mCat ma mb Γ Q := h
theorem i_in {neg : Bool} {Q : D → En → Prop} (h : ma Γ fun x Γ1 => mb Γ1 fun y Γ2 => match itemsD y with | some ds => Good x ∧ Goods ds ∧ Q (.bool (if neg then !(ds.any fun e => PyData.eqv e x) else ds.any fun e => PyData.eqv e x)) Γ2 | none => False) : mIn neg ma mb Γ Q := h
theorem i_peek {Q : D → En → Prop} (h : ma (pubA Γ) fun d Γ1 => noLst d = true ∧ Γ1 = pubA Γ ∧ Q d Γ) : mPeek ma Γ Q := h
theorem i_peekT {Q : Bool → En → Prop} (h : ta (pubA Γ) fun b Γ1 => Γ1 = pubA Γ ∧ Q b Γ) : mPeekT ta Γ Q := h
theorem i_peekO {Q : Rv → En → Prop} (h : oa (pubA Γ) fun rv Γ1 => noLsts (match rv with | .val d => [d] | .own ds => ds | .box _ => [.list []]) = true ∧ Γ1 = pubA Γ ∧ Q rv Γ) : mPeekO oa Γ Q := h
theorem i_itL {Q : List D → En → Prop} (h : ma Γ fun x Γ1 => match x with | .list ds => Q ds Γ1 | _ => False) : mItL ma Γ Q := h
theorem i_itT {Q : List D → En → Prop} (h : ma Γ fun x Γ1 => match x with | .tuple ds => Q ds Γ1 | _ => False) : mItT ma Γ Q := h
theorem i_rng1 {Q : List D → En → Prop} (h : md Γ fun ds Γ1 => match ds with | [.int j] => -(2 ^ 62) ≤ j ∧ j < 2 ^ 62 ∧ Q (rangeD 0 j.toNat) Γ1 | _ => False) : mRng1 md Γ Q := h
theorem i_rng2 {Q : List D → En → Prop} (h : md Γ fun ds Γ1 => match ds with | [.int i, .int j] => (-(2 ^ 62) ≤ i ∧ i < 2 ^ 62 ∧ -(2 ^ 62) ≤ j ∧ j < 2 ^ 62) ∧ Q (rangeD i (j - i).toNat) Γ1 | _ => False) : mRng2 md Γ Q := h
theorem i_gN {Q : En → Prop} (h : Q (Γ.set i (.val d))) : gN i d Γ Q := h
theorem i_gT {Q : En → Prop} {ds : List D} (hl : ds.length = n) (h : gs ds Γ Q) : gT n gs (.tuple ds) Γ Q := ⟨hl, h⟩
theorem i_gsNil {Q : En → Prop} (h : Q Γ) : gsNil [] Γ Q := h
theorem i_gsCons {Q : En → Prop} {ds : List D} (h : g d Γ fun Γ1 => gs ds Γ1 Q) : gsCons g gs (d :: ds) Γ Q := h
theorem i_fn {k : Nat} {as : List Sl} {Q : Rv → Prop} (h : sa (as ++ List.replicate k .no) fun fl => match fl with | .rt rv => Q rv | .nx _ => Q (.val .none) | _ => False) : mFn k sa as Q := h
theorem i_oQ {o : Option D} {k : D → Prop} (h0 : o = some d) (h : k d) : oQ o k := by rw [h0]; exact h
theorem i_take {m : Int} {Q : Rv → Prop} (h1 : 0 < m) (h2 : m < 1073741824) (h : ∀ r : Int, 0 ≤ r → r < m → Q (.val (.int r))) : mTake [.pen, .val (.int m)] Q := ⟨h1, h2, h⟩
structure KOk (I : En → Prop) (Q K : Fl → Prop) : Prop where
 nx : ∀ Γ, I Γ → K (.nx Γ)
 ct : ∀ Γ, I Γ → K (.ct Γ)
 bk : ∀ Γ, Q (.nx Γ) → K (.bk Γ)
 rt : ∀ rv, Q (.rt rv) → K (.rt rv)
theorem for_inv {ds : List D} {Q : Fl → Prop} (I : Nat → En → Prop) (h0 : I 0 Γ) (hs : ∀ i d Γ K, ds[i]? = some d → I i Γ → KOk (I (i + 1)) Q K → g d Γ fun Γ1 => sa Γ1 K) (he : ∀ Γ, I ds.length Γ → Q (.nx Γ)) : forL g sa ds Γ Q := by
 have aux : ∀ (es : List D) (k : Nat) (Γ : En), (∀ i d, es[i]? = some d → ds[k + i]? = some d) → k + es.length = ds.length → I k Γ → forL g sa es Γ Q := by
  intro es
  induction es with
  | nil => intro k Γ _ hl hi; exact he Γ (by rw [← hl]; simpa using hi)
  | cons d es ih =>
   intro k Γ hd hl hi
   have next : ∀ Γ2, I (k + 1) Γ2 → forL g sa es Γ2 Q := fun Γ2 h3 => ih (k + 1) Γ2 (fun i e he' => by
    have := hd (i + 1) e (by simpa using he')
    rw [show k + 1 + i = k + (i + 1) by omega]; exact this) (by rw [← hl, List.length_cons]; omega) h3
   exact hs k d Γ _ (by simpa using hd 0 d rfl) hi ⟨next, next, fun _ h => h, fun _ h => h⟩
 exact aux ds 0 Γ (fun i d h => by simpa using h) (by simp) h0
theorem range_inv {lo : Int} {n : Nat} {Q : Fl → Prop} (I : Nat → En → Prop) (h0 : I 0 Γ) (hs : ∀ i Γ K, i < n → I i Γ → KOk (I (i + 1)) Q K → g (.int (lo + i)) Γ fun Γ1 => sa Γ1 K) (he : ∀ Γ, I n Γ → Q (.nx Γ)) : forL g sa (rangeD lo n) Γ Q := by
 have hl : (rangeD lo n).length = n := by simp [rangeD]
 refine for_inv I h0 (fun i d Γ K e hi hk => ?_) (by rw [hl]; exact he)
 have hi' : i < n := by have := (List.getElem?_eq_some_iff.mp e).1; omega
 unfold rangeD at e
 rw [List.getElem?_map, List.getElem?_range hi'] at e
 cases e
 exact hs i Γ K hi' hi hk
theorem while_inv {Q : Fl → Prop} (I : Nat → En → Prop) (m0 : Nat) (h0 : I m0 Γ) (hs : ∀ m Γ, I m Γ → ta Γ fun k Γ1 => if k = true then sa Γ1 fun fl => match fl with
  | .nx Γ2 => ∃ n', n' < m ∧ I n' Γ2
  | .ct Γ2 => ∃ n', n' < m ∧ I n' Γ2
  | .bk Γ2 => Q (.nx Γ2)
  | .rt rv => Q (.rt rv)
 else Q (.nx Γ1)) : mWhile ta sa Γ Q := ⟨I, ⟨m0, h0⟩, hs⟩
end
theorem iteNT {A B : Prop} (h : B) : if (!true) = true then A else B := iteF h
theorem iteNF {A B : Prop} (h : A) : if (!false) = true then A else B := iteT h
theorem good_int (i : Int) : Good (.int i) := ⟨rfl, by show 0 ≤ 60; decide⟩
theorem good_bool (b : Bool) : Good (.bool b) := ⟨rfl, by show 0 ≤ 60; decide⟩
theorem eqv_int (i j : Int) : PyData.eqv (.int i) (.int j) = decide (i = j) := by
 show (i == j) = _
 exact Bool.beq_eq_decide_eq i j
theorem eqv_bool (i j : Bool) : PyData.eqv (.bool i) (.bool j) = decide (i = j) := by
 show (i == j) = _
 exact Bool.beq_eq_decide_eq i j
section
variable {P : D → Prop} {Γ : En} {Q : D → En → Prop}
end
noncomputable def Gd (n : Nat) (d : D) : Prop := d.canLay0 = true ∧ d.depth ≤ n
theorem Gd.mono {n m : Nat} {d : D} (h : Gd n d) (hn : n ≤ m := by decide) : Gd m d := ⟨h.1, Nat.le_trans h.2 hn⟩
theorem isT {d : D} {n : String} {A B : Prop} (h : subT (kindD d) n = true) (a : A) : if subT (kindD d) n = true then A else B := by rw [h]; exact iteT a
theorem isF {d : D} {n : String} {A B : Prop} (h : subT (kindD d) n = false) (b : B) : if subT (kindD d) n = true then A else B := by rw [h]; exact iteF b
theorem isNT {d : D} {n : String} {A B : Prop} (h : subT (kindD d) n = true) (b : B) : if (!subT (kindD d) n) = true then A else B := by rw [h]; exact iteF b
theorem isNF {d : D} {n : String} {A B : Prop} (h : subT (kindD d) n = false) (a : A) : if (!subT (kindD d) n) = true then A else B := by rw [h]; exact iteT a
theorem ix_num0 (q : Rat) : ixD (dNum q) (.int 0) = some (.int q.num) := rfl
theorem ix_num1 (q : Rat) : ixD (dNum q) (.int 1) = some (.int (q.den : Int)) := rfl
theorem ix_line0 (l : Rat × Rat) : ixD (dLine l) (.int 0) = some (dNum l.1) := rfl
theorem ix_line1 (l : Rat × Rat) : ixD (dLine l) (.int 1) = some (dNum l.2) := rfl
end L2.VS
namespace L2
open PySem PySem.Spec PyProof.Rows
section
variable {X : Cx}
end
end L2
namespace L2.VS
open PySem PySem.Spec PyProof.Rows
variable {P0 : Addr → Hp → Prop}
noncomputable def mIsB (neg : Bool) (ma mb : ME) : ME := fun Γ Q => ma Γ fun x Γ1 => mb Γ1 fun y Γ2 => match x, y with
 | .bool b, .bool c => Q (.bool (if neg then !decide (b = c) else decide (b = c))) Γ2
 | _, _ => False
theorem i_isB {neg : Bool} {ma mb : ME} {Γ : En} {Q : D → En → Prop} (h : ma Γ fun x Γ1 => mb Γ1 fun y Γ2 => match x, y with | .bool b, .bool c => Q (.bool (if neg then !decide (b = c) else decide (b = c))) Γ2 | _, _ => False) : mIsB neg ma mb Γ Q := h
end L2.VS
namespace L2
open PySem PySem.Spec PyProof.Rows
structure UnB (fs : List Addr) (H H' : Hp) (h B h' : Heap) : Prop where
 keep : ∀ b o, h.get? b = some o → H b = none → b ∉ fs → B.get? b = some o
 slot : ∀ b o, h.get? b = some o → b ∈ fs → ∃ sl, h'.get? b = some { o with slots := sl }
 free : ∀ b o, h.get? b = some o → H b = none → H' b = none
 there : ∀ b o, h.get? b = some o → b ∉ fs → ∃ o', B.get? b = some o'
 tups : ∀ b xs, H b = some (.tup xs) → H' b = some (.tup xs)
 frzs : ∀ b o u, H b = some (.frz o u) → H' b = some (.frz o u)
 tbls : ∀ b ps, H b = some (.tbl ps) → ∃ more, H' b = some (.tbl (ps ++ more))
noncomputable def CX1 (P : Program) (w : World) : CXT := fun outer H s E e s' => ∃ (ea C : Addr) (a0 : Value) (B : Heap) (H' : Hp), e = .ref ea ∧ s'.os = s.os ∧ AllBare s'.gens ∧
 Heap.FlyingW B outer ea (.ref C) a0 s'.heap ∧ UnB (frs outer) H H' s.heap B s'.heap ∧ HOk P w H' B ∧ E (.ref C) (some ea) H'
section
variable {X : Cx} {pins : List (Addr × Obj)} {σ : St} {H : Hp} {s : Shared} {M : Model} {F : Value → Shared → Prop} {E E' : XK}
theorem Inv.frsS (hs : X.stack = X.env :: X.outer) (hf : X.env.frame = some X.env.locals) : frs X.stack = X.env.locals :: frs X.outer := by
 rw [hs]
 unfold frs
 rw [List.filterMap_cons, hf]
theorem Inv.nstk (I : Inv X pins σ H s) (hs : X.stack = X.env :: X.outer) (hf : X.env.frame = some X.env.locals) {b : Addr} {o : Obj} (q : X.s₀.heap.get? b = some o) (hb : b ∉ frs X.outer) : b ∉ frs X.stack := fun z => by
 rw [Inv.frsS hs hf] at z
 rcases List.mem_cons.mp z with e | e
 ·exact absurd (Nat.lt_of_lt_of_le (Heap.lt_size q) I.ok.above) (by rw [e]; exact Nat.lt_irrefl _)
 ·exact hb e
theorem Inv.leave1 {e C : Addr} {vs : List Value} {h' : Heap} (I : Inv X pins σ H s) (hs : X.stack = X.env :: X.outer) (hf : X.env.frame = some X.env.locals) (hex : X.ex = [])
  (hx : Heap.MadeExcOf s.heap h' e (.ref C) vs) (hE : ∀ ea, E (.ref C) (some ea) H) :
  wpAny M X.A (leaving X.env (.ref e)) (fun _ s2 => CX1 X.prog X.w X.outer X.H₀ X.s₀ E (.ref e) s2) F { s with heap := h' } := by
 have hin : ∀ env ∈ X.stack, ∀ b, env.frame = some b → b ∈ frs X.stack := fun env he b hb => List.mem_filterMap.mpr ⟨env, he, hb⟩
 have stk := PySem.W.funFrames_hide I.stack hin
 have nex : ∀ b : Addr, b ∉ X.ex := fun b z => by rw [hex] at z; exact nomatch z
 refine wpAny_leaves_madeW (base := PySem.W.hideAll s.heap (frs X.stack)) (h := s.heap) (outer := X.outer) (L := X.env.locals) (by rw [← hs]; exact I.ok.frames) hf (fun b o q => PySem.W.of_hideAll _ q) (by rw [← hs]; exact stk) hx fun h2 t fl tup _ ups => ?_
 refine ⟨e, C, _, _, H, rfl, I.os, I.bare, fl, ⟨fun b o q n hb => ?_, fun b o q hb => ?_, fun b o q n => I.base.free b o q n (nex b), fun b o q hb => ?_, I.base.tups, I.base.frzs, I.base.tbls⟩, fun b o q => ?_, hE e⟩
 ·exact PySem.W.hideAll_get _ (I.base.keep b o q n hb (nex b)) (I.nstk hs hf q hb)
 ·obtain ⟨sl, q1⟩ := I.base.slot b o q (I.ok.frf b hb) hb (nex b)
  obtain ⟨_, o', q2, nf⟩ := I.ok.funs.mem hb
  rw [q] at q2
  cases q2
  obtain ⟨sl2, q3⟩ := ups b _ (hx.keeps _ _ q1) nf
  exact ⟨sl2, q3⟩
 ·obtain ⟨o', q1⟩ := I.base.there b o q (nex b)
  exact ⟨o', PySem.W.hideAll_get _ q1 (I.nstk hs hf q hb)⟩
 ·refine (I.hok b o q).stay (fun c u hc q1 => PySem.W.hideAll_get _ q1 fun z => ?_) (fun _ q => q) fun _ _ q => q
  have hn := I.stkFree c z
  rcases hc with hc | hc
  ·rw [hc, q] at hn; cases hn
  ·rw [hc] at hn; cases hn
end
section
variable {P : Program} {w : World} {K : PySem.W.Frag} {mg : Str → Option Value} {base : Heap} {N : List Str} {qual : Str} {scope : Scope} {f : Addr} {cd : Value} {A : Around} {outer : List Env} {s : Shared} {H : Hp} {E E' : XK}
end
theorem exc_in {K : PySem.W.Frag} {C : Addr} {bmB : List Value} {newId : String} {h : Heap} (G : K.In h) (z : PySem.W.excIn K C bmB newId = true) :
  ∃ bm N nm q bs hdct sn sub ab col dd k0 k1 k2 k3 k5 mN, h.get? C = some (excClassObj nm q C N bs bm hdct sn sub ab col dd k0 k1 k2 k3 k5 newId) ∧ h.Ns N mN ∧ mN "__init__" = none ∧ OwnTail h bmB bm ∧ K.lookup C = some (excClassObj nm q C N bs bm hdct sn sub ab col dd k0 k1 k2 k3 k5 newId) := by
 unfold PySem.W.excIn at z
 split at z
 next dd cd sl ho =>
  split at z
  next D bm k0 k1 k2 k3 n k5 hm hs =>
   simp only [Bool.and_eq_true, beq_iff_eq, Bool.not_eq_true'] at z
   obtain ⟨⟨⟨⟨⟨e1, e2⟩, e3⟩, e4⟩, e5⟩, e6⟩ := z
   obtain ⟨nm, bs, mro, ns, qn, hd, sn, sub, ab, col, del⟩ := cd
   obtain ⟨l⟩ := sl
   dsimp only at hm hs e3 e5 e6
   subst e1 e2 hm hs e3
   exact ⟨bm, ns, nm, qn, bs, hd, sn, sub, ab, col, dd, k0, k1, k2, k3, k5, _, G _ _ ho, Heap.Ns.of_isNs (PySem.W.isNs_of_in G e5), PySem.W.nsMap_none_of_in G e5 e6, PySem.W.tail_of_in G e4, ho⟩
  next => cases z
 next => cases z
section
variable {X : Cx} {E : XK} {x : Str} {C : Addr} {B newId initId : String} {bmB : List Value} {e0 : Expr} {np cpos pos : Pos} {t : TA}
noncomputable def tRaise (C : Addr) (E : XK) (t : TA) : TS := fun _ σ H => t σ H fun vs H1 => vs.length ≤ sizeLine ∧ ∀ ea, E (.ref C) (some ea) H1
theorem ps_raise (hxe : ∀ (pins : List (Addr × Obj)) (σ : St) (H : Hp) (s : Shared) (h' : Heap) (e : Addr) (vs : List Value), Inv X pins σ H s → Heap.MadeExcOf s.heap h' e (.ref C) vs → (∀ ea, E (.ref C) (some ea) H) → X.xe (.ref e) { s with heap := h' })
  (hcalm : X.calm = true) (hg : Gl X x) (hm : X.mg x = some (.ref C)) (z : PySem.W.excIn X.K C bmB newId = true) (FB : ExcBaseFacts B newId initId bmB) (ha : PA X [e0] t)
  (he : starEach [e0] X.env = [(false, eval e0 X.env)] := by rfl) (hd : (x == ("__debug__" : Str)) = false := by decide) :
  PS X (.Raise (some (.Call (.Name x np) [e0] [] cpos)) none pos) (tRaise C E t) := by
 intro pins s σ H D I h
 obtain ⟨bm, Nn, nm, q, bs, hdct, sn, sub, ab, col, dd, k0, k1, k2, k3, k5, mN, hC, hN, hni, T, hl⟩ := exc_in I.mod.kin z
 refine wpAny_Raise_call_subT (C := C) (nm := nm) (q := q) (N := Nn) (bs := bs) (bm := bm) (hdct := hdct) (sn := sn) (sub := sub) (ab := ab) (col := col) (dd := dd) (k0 := k0) (k1 := k1) (k2 := k2) (k3 := k3) (k5 := k5)
  FB (mN := mN) (T.hasType FB.hasBase) (I.ok.hd hcalm) (by rw [he]; rfl) hni (ld_glob I hg hm ⟨rfl, ?_⟩ hd)
 have hh := ha cpos pins s σ H _ I h
 rw [he] at hh ⊢
 refine Calls.evalArgs_plain (wpAny_mono hh (fun vs s2 h2 => ?_) fun _ _ y => y)
 obtain ⟨ws, H1, I1, r1, hw, hE⟩ := h2
 exact ⟨rfl, by rw [← r1.length]; exact hw, I1.bk _ _ hC, hN.keeps I1.bk, T.keeps I1.bk, fun h' e hx => hxe pins σ H1 s2 h' e vs I1 hx hE⟩
end
theorem Fun.ok1 {P : Program} {w : World} {K : PySem.W.Frag} {mg : Str → Option Value} {base : Heap} {x qual : Str} {st : Stmt} {f : Addr} {fd : FuncData} {N ps : List Str} {k : Nat} {sp : Sp} (F : Fun K x qual st f fd) (S : FnScope N ps (defScope st)) (len : ∀ vs H Q E, sp vs H Q E → vs.length = ps.length)
  (hb : ∀ (cdv : Value) (A : Around) (outer : List Env) (s : Shared) (H : Hp) (vs : List V) (Q : VK) (E : XK), Room k (A.deeper (envOfC qual (defScope st) s.heap.objs.size f cdv)) → sp vs H Q E →
   ∃ t, PSs (cxOf (CX1 P w) P w K mg base N qual (defScope st) f cdv A outer s H E) (defBody st) t ∧ t { nx := fun _ H' => Q .non H', rt := Q } (start N vs) H) : FnOk P w K mg base (CX1 P w) (k + 1) f fd ps sp := by
 obtain ⟨oc, od, kV, doc, pm, an, cdv, ct, osl, rfl, lk, hcd⟩ := F.ex
 exact fn_of lk hcd S len fun A outer s H vs Q E hr hsp => hb cdv A outer s H vs Q E hr hsp
end L2
namespace L2
open PySem PySem.Spec PyProof.Rows
set_option maxRecDepth 100000
section
variable {prog : Program} {w : World} {A : Around} {E : Value → Shared → Prop} {h : Heap} {g : Array GenState} {d : Drawn} {t : Nat} {os : OsState} {a : Addr} {o : Obj}
 {nm q : Str} {C N : Addr} {bs bm : List Value} {hdct : Bool} {sn : List Str} {sub : List Value} {ab : Bool} {col : Option Bool} {dd : Option Addr} {k0 k1 k2 k3 k5 : Option Value} {newId : String}
noncomputable def Lk (prog : Program) (w : World) (h : Heap) (c : Value) (n : Str) (r : Option Value) : Prop := ∀ (A : Around) (Q : Option Value → Shared → Prop) (E : Value → Shared → Prop) (s : Shared), s.heap = h → Q r s → wpAny (model prog w) A (typeLookup c n) Q E s
theorem Lk.at {c : Value} {n : Str} {r : Option Value} {Q : Option Value → Shared → Prop} (l : Lk prog w h c n r) (hq : Q r ⟨h, g, d, t, os⟩) : wpAny (model prog w) A (typeLookup c n) Q E ⟨h, g, d, t, os⟩ := l _ _ _ _ rfl hq
theorem xc_get {R : Result → Shared → Prop} (hC : h.get? C = some (excClassObj nm q C N bs bm hdct sn sub ab col dd k0 k1 k2 k3 k5 newId)) (ho : bm.contains (.type "object") = true)
  (hx : h.get? a = some o) (hc : o.cls = .ref C) (hq : R (.ok (.ret (.ref C))) ⟨h, g, d, t, os⟩) :
  codeAny (model prog w) A (.call (.builtin "getset_descriptor.__get__") ⟨[.builtin "object.__class__", .ref a, .ref C], []⟩) R ⟨h, g, d, t, os⟩ := by
 have y1 : (⟨h, g, d, t, os⟩ : Shared).TypeIs (.builtin "object.__class__") "getset_descriptor" := F.typeOf_object_class
 have y2 : (Value.ref C :: bm).contains (.type (".".intercalate ("object.__class__".cutAt '.').dropLast)) = true := by
  rw [F.owner_object_class, List.contains_cons, ho, Bool.or_true]
 refine codeAny_call_builtin F.slot_gs_get.plain F.entry_gs_get (F.slot_gs_get.check _ _ _ _ _ _ _ _ y1 (F.args_gs_get _ _ _) ?_)
 repeat (any_goals (first | assumption | (with_reducible refine wpAny_loadPart_at hx ?_; rw [hc]) | (with_reducible refine wpAny_isSubtype_exc hC ?_; rw [y2]) | wp_step))
 refine ⟨Code.quiet_builtin _ (by decide +kernel), codeAny_builtin F.entry_object_class ?_⟩
 repeat (any_goals (first | assumption | (with_reducible refine wpAny_loadPart_at hx ?_; rw [hc]) | wp_step))
theorem xc_entry {tk : Tok} {Q : Fin → Shared → Prop} (hC : h.get? C = some (excClassObj nm q C N bs bm hdct sn sub ab col dd k0 k1 k2 k3 k5 newId)) (ho : bm.contains (.type "object") = true)
  (l1 : Lk prog w h (.ref C) "__class__" (some (.builtin "object.__class__"))) (hx : h.get? a = some o) (hc : o.cls = .ref C) (hq : Q (.done (.ret (.ref C))) ⟨h, g, d, t, os⟩) :
  wpAny (model prog w) A (Builtin.«object.__getattribute__» ⟨[.ref a, .str "__class__" tk], []⟩) Q E ⟨h, g, d, t, os⟩ := by
 have y1 : (⟨h, g, d, t, os⟩ : Shared).TypeIs (.builtin "object.__class__") "getset_descriptor" := F.typeOf_object_class
 have y2 := F.typeOf_object_class
 have y3 := F.slot_gs_get.lookup
 have y4 := F.slot_gs_set.lookup
 repeat (any_goals (first | assumption | (with_reducible refine wpAny_loadPart_at hx ?_; rw [hc]) | with_reducible refine l1.at ?_ | wp_step))
 refine xc_get hC ho hx hc ?_
 repeat (any_goals (first | assumption | wp_step))
theorem xc_check {M : Model} {v : Value} {Q : Unit → Shared → Prop} (hC : h.get? C = some (excClassObj nm q C N bs bm hdct sn sub ab col dd k0 k1 k2 k3 k5 newId)) (hb : bm.contains (.type "BaseException") = true)
  (hx : h.get? a = some o) (hc : o.cls = .ref C) (hq : Q () ⟨h, g, d, t, os⟩) : wpAny M A (checkBuiltinCall "BaseException.__getattribute__" ⟨[.ref a, v], []⟩) Q E ⟨h, g, d, t, os⟩ := by
 have y1 : builtinKind "BaseException.__getattribute__" = some .slot := by decide +kernel
 have y2 : splitId "BaseException.__getattribute__" = some ("BaseException", "__getattribute__") := by decide +kernel
 have y3 : (Value.ref C :: bm).contains (.type "BaseException") = true := by rw [List.contains_cons, hb, Bool.or_true]
 have y4 := F.args_bexc_ga (.ref a) v
 simp only [checkBuiltinCall, y1, y2]
 refine wpAny_bind ?_
 unfold isInstance
 repeat (first | (with_reducible refine wpAny_loadPart_at hx ?_; rw [hc]) | (with_reducible refine wpAny_isSubtype_exc hC ?_; rw [y3]) | wp_step)
 exact hq
theorem xc_attr {Q : Option Value → Shared → Prop} (ga : Slot "ValueError" "__getattribute__" "BaseException.__getattribute__") (hC : h.get? C = some (excClassObj nm q C N bs bm hdct sn sub ab col dd k0 k1 k2 k3 k5 newId)) (ho : bm.contains (.type "object") = true) (hb : bm.contains (.type "BaseException") = true)
  (l1 : Lk prog w h (.ref C) "__class__" (some (.builtin "object.__class__"))) (l2 : Lk prog w h (.ref C) "__getattribute__" (some (.builtin "BaseException.__getattribute__")))
  (l3 : Lk prog w h (.ref C) "__getattr__" none) (hx : h.get? a = some o) (hc : o.cls = .ref C) (hq : Q (some (.ref C)) ⟨h, g, d, t + 1, os⟩) : wpAny (model prog w) A (getAttr? (.ref a) "__class__") Q E ⟨h, g, d, t, os⟩ := by
 have y1 := ga.bind (.ref a)
 have y2 : (Value.builtin "BaseException.__getattribute__" == Value.builtin "object.__getattribute__") = false := by decide +kernel
 have y3 : (onTheHeap (Value.ref C) && Value.builtin "BaseException.__getattribute__" == Value.builtin "object.__getattribute__") = false := by rw [y2]; rfl
 have ht : ∀ t, (⟨h, g, d, t, os⟩ : Shared).heap = h := fun _ => rfl
 unfold getAttr? getAttrBy? getAttrBy
 repeat (any_goals (first | assumption | (with_reducible refine wpAny_loadPart_at hx ?_; rw [hc]) | with_reducible refine l2.at ?_ | with_reducible refine l3.at ?_ | wp_step))
 refine codeAny_call_builtin ga.plain F.entry_bexc_ga (xc_check hC hb hx hc (xc_entry hC ho l1 hx hc ?_))
 repeat (any_goals (first | assumption | wp_step))
theorem xc_matches {M : Model} {e D N' : Addr} {nm' q' : Str} {bs' bm' : List Value} {hdct' : Bool} {sn' : List Str} {sub' : List Value} {ab' : Bool} {col' : Option Bool} {dd' : Option Addr} {j0 j1 j2 j3 j5 : Option Value} {newId' : String} {Q : Bool → Shared → Prop}
  (hC : h.get? C = some (excClassObj nm q C N bs bm hdct sn sub ab col dd k0 k1 k2 k3 k5 newId)) (hD : h.get? D = some (excClassObj nm' q' D N' bs' bm' hdct' sn' sub' ab' col' dd' j0 j1 j2 j3 j5 newId'))
  (he : h.get? e = some o) (hc : o.cls = .ref C) (hb : bm'.contains (.type "BaseException") = true) (y2 : (Value.ref C :: bm).contains (.ref D) = true) (hq : Q true ⟨h, g, d, t, os⟩) : wpAny M A (excMatches (.ref e) (.ref D)) Q E ⟨h, g, d, t, os⟩ := by
 have y1 : (Value.ref D :: bm').contains (.type "BaseException") = true := by rw [List.contains_cons, hb, Bool.or_true]
 have y3 := tc_notTuple
 unfold excMatches
 repeat (first | (with_reducible refine wpAny_loadPart_at he ?_; rw [hc]) | with_reducible refine wpAny_loadPart_at hD ?_ | (with_reducible refine wpAny_isSubtype_exc hD ?_; rw [y1]) | (with_reducible refine wpAny_isSubtype_exc hC ?_; rw [y2]) | wp_step)
 exact hq
end
noncomputable def ExAt (a C : Addr) (h : Heap) : Prop := ∃ o, h.get? a = some o ∧ o.cls = .ref C
noncomputable def ExO (a C : Addr) : HO := .ext (ExAt a C)
theorem exo_ok {P : Program} {w : World} {H : Hp} {h : Heap} {a C : Addr} {o : Obj} (q : h.get? a = some o) (c : o.cls = .ref C) : ObjOk P w H h a (ExO a C) :=
 ⟨⟨o, q, c⟩, ⟨o, q⟩, fun _ _ ⟨o, q, c⟩ k => ⟨o, k o q, c⟩⟩
noncomputable def vmro : List Value := [.type "ValueError", .type "Exception", .type "BaseException", .type "object"]
structure XCls (K : PySem.W.Frag) (C : Addr) : Prop where
 ex : PySem.W.excIn K C vmro "ValueError.__new__" = true
 l1 : PySem.W.findIn K (.ref C) "__class__" = some (some (.builtin "object.__class__"))
 l2 : PySem.W.findIn K (.ref C) "__getattribute__" = some (some (.builtin "BaseException.__getattribute__"))
 l3 : PySem.W.findIn K (.ref C) "__getattr__" = some none
theorem Lk.of {K : PySem.W.Frag} {prog : Program} {w : World} {h : Heap} {c : Value} {n : Str} {r : Option Value} (X : K.In h) (e : PySem.W.findIn K c n = some r) : Lk prog w h c n r := fun A Q E s hs hq => by
 obtain ⟨hh, g, d, t, os⟩ := s
 cases hs
 exact (PySem.W.looks_findIn X e).at hq
theorem XCls.kit {K : PySem.W.Frag} {a C : Addr} (z : XCls K C) : PySem.W.KitX K (.ref a) (.ref C) (ExAt a C) where
 ty := fun M h _ ⟨o, q, c⟩ => c ▸ (PySem.W.Looks.ld q).andThen .now
 it := fun M h G _ => by
  obtain ⟨bm, Nn, nm, q, bs, hdct, sn, sub, ab, col, dd, k0, k1, k2, k3, k5, mN, hC, hN, hni, T, hl⟩ := exc_in G z.ex
  intro A Q E s k r
  unfold isType loadHead
  exact wpAny_bind (wpAny_loadPart (k _ _ hC) (wpAny_pure r))
 ne := fun h tp dd its n sl G htp => by
  obtain ⟨bm, Nn, nm, q, bs, hdct, sn, sub, ab, col, dd, k0, k1, k2, k3, k5, mN, hC, hN, hni, T, hl⟩ := exc_in G z.ex
  refine Bool.eq_false_iff.mpr fun q => ?_
  have e : C = tp := Value.ref.inj (beq_iff_eq.mp q)
  subst e
  rw [hC] at htp
  have z2 := congrArg Obj.data (Option.some.inj htp)
  cases z2
 ca := fun {prog w A E Q s} G p k => by
  obtain ⟨bm, Nn, nm, q, bs, hdct, sn, sub, ab, col, dd, k0, k1, k2, k3, k5, mN, hC, hN, hni, T, hl⟩ := exc_in G z.ex
  obtain ⟨hh, g, d, t, os⟩ := s
  obtain ⟨o, q, c⟩ := p
  exact xc_attr PySem.F.attrBase_ValueError.ga hC (T.hasType (by decide)) (T.hasType (by decide)) (Lk.of G z.l1) (Lk.of G z.l2) (Lk.of G z.l3) q c k
noncomputable def rIsX (K : PySem.W.Frag) : List V → Hp → VK → Prop := fun xs H Q => ∃ (ea C : Addr) (c : V) (b : Bool), xs = [.ref ea, c] ∧ H ea = some (ExO ea C) ∧ XCls K C ∧
 ((∃ u, (∀ v, RelV c v → v = u) ∧ PySem.W.kitOne K (.ref C) u = some b) ∨ ∃ (tp : Addr) (cs : List V) (us : List Value), c = .ref tp ∧ H tp = some (.tup cs) ∧ (∀ vs, Vals cs vs → vs = us) ∧ PySem.W.kitAny K (.ref C) us = some b) ∧ Q (.bl b) H
theorem call_isX {X : Cx} : CallR X (.builtin "isinstance") (rIsX X.K) := by
 intro pins s σ H xs us Q I r h
 obtain ⟨ea, C, c, b, rfl, hE, z, hc, q⟩ := h
 cases r with
 | cons r1 r =>
  cases r with
  | cons r2 r =>
   cases r
   have e1 := (show _ = Value.ref ea from r1)
   subst e1
   obtain ⟨hx, _, _⟩ := (show ObjOk X.prog X.w H s.heap ea (ExO ea C) from I.hok ea _ hE)
   rcases hc with ⟨u, hu, hk⟩ | ⟨tp, cs, us, rfl, ht, hu, hk⟩
   ·rw [hu _ r2]
    exact PySem.W.kia_one z.kit I.kIn hx hk (fun z => nomatch z) fun tk => ⟨.bl b, H, I.tok _, rfl, q⟩
   ·have e2 := (show _ = Value.ref tp from r2)
    subst e2
    obtain ⟨_, its, rv, o, h1, h2, n, h3⟩ := (show ObjOk X.prog X.w H s.heap tp (.tup cs) from I.hok tp _ ht)
    rw [hu _ rv] at h3
    obtain ⟨oc, od, dt, sl⟩ := o
    dsimp only at h2 h3
    subst h2 h3
    exact PySem.W.kia_tup z.kit I.kIn hx h1 hk (fun z => nomatch z) fun tk => ⟨.bl b, H, I.tok _, rfl, q⟩
end L2
namespace L2
open PySem PySem.Spec PyProof.Rows
section
variable {X : Cx} {pins : List (Addr × Obj)} {σ : St} {H : Hp} {s : Shared}
abbrev Cx.marked (X : Cx) (e : Value) : Cx := { X with A := X.A.mark (some e), calm := false, xe := fun _ _ => False }
theorem Inv.marked (I : Inv X pins σ H s) (e : Value) : Inv (X.marked e) pins σ H s :=
 ⟨⟨I.ok.mod, I.ok.kind, I.ok.glob, I.ok.blt, I.ok.above, I.ok.inj, I.ok.has, I.ok.cab, (fun h => nomatch h), I.ok.frames, I.ok.stk, I.ok.exf, I.ok.bs, I.ok.bsz, I.ok.noex, I.ok.exfs, I.ok.funs, I.ok.frf⟩, I.os, I.bare, I.base, I.loc, I.cell, I.free, I.freeC, I.pin, I.hok, I.len⟩
theorem Inv.unmarked {e : Value} (ok : X.Ok) (I : Inv (X.marked e) pins σ H s) : Inv X pins σ H s :=
 ⟨ok, I.os, I.bare, I.base, I.loc, I.cell, I.free, I.freeC, I.pin, I.hok, I.len⟩
theorem Inv.goes {i : Nat} {x : Str} {v : Option Value} {m : Str → Option Value} {h' : Heap} {t : Nat} (I : Inv X pins σ H s) (hN : X.N.Nodup) (hi : X.N[i]? = some x) (hl : X.env.kindOf x = some .local)
  (hm : s.heap.Ns X.env.locals m ∧ ∀ (j : Nat) (y : Str) (v : V), X.N[j]? = some y → σ[j]? = some (some v) → Vis X.env.scope y → ∃ u, RelV v u ∧ Look X.env s.heap m y u)
  (hn : h'.Ns X.env.locals (fun y => if y = x then v else m y)) (hs : Heap.SameBut X.env.locals s.heap h') : Inv X pins (σ.set i none) H { s with heap := h', toks := t } := by
 obtain ⟨oL, _, _, hoL, _⟩ := id hm.1
 have neL : ∀ b o, X.s₀.heap.get? b = some o → b ≠ X.env.locals := fun b o e => Nat.ne_of_lt (Nat.lt_of_lt_of_le (Heap.lt_size e) I.ok.above)
 refine ⟨I.ok, I.os, I.bare, ⟨fun b o e n hb hx => (hs.2 b (neL b o e)).trans (I.base.keep b o e n hb hx), fun b o e n hb hx => ?_, I.base.free, fun b o e hx => ?_, I.base.tups, I.base.frzs, I.base.tbls⟩, ⟨_, hn, fun j y u e1 e2 e3 => ?_⟩, fun y c e => ?_, I.free, I.freeC, fun p hp => ?_, fun b u e => ?_, by rw [List.length_set]; exact I.len⟩
 ·obtain ⟨sl, e1⟩ := I.base.slot b o e n hb hx
  exact ⟨sl, (hs.2 b (neL b o e)).trans e1⟩
 ·obtain ⟨o', e1⟩ := I.base.there b o e hx
  exact ⟨o', (hs.2 b (neL b o e)).trans e1⟩
 ·by_cases hj : j = i
  ·subst hj
   rw [List.getElem?_set] at e2
   split at e2
   ·split at e2 <;> cases e2
   ·rename_i z; exact absurd rfl z
  ·rw [List.getElem?_set_ne (Ne.symm hj)] at e2
   obtain ⟨u', r', q⟩ := hm.2 j y u e1 e2 e3
   have ny : y ≠ x := fun z => hj (nodup_ix hN e1 (z ▸ hi))
   refine ⟨u', r', ?_⟩
   rcases q with ⟨k, e⟩ | ⟨k, c, e, z⟩
   ·exact .inl ⟨k, (if_neg ny).trans e⟩
   ·exact .inr ⟨k, c, e, z.sameBut hs (I.cne y c e)⟩
 ·obtain ⟨u, z⟩ := I.cell y c e
  exact ⟨u, z.sameBut hs (I.cne y c e)⟩
 ·obtain ⟨e, n, ne, nf, d⟩ := I.pin p hp
  exact ⟨(hs.2 p.1 ne).trans e, n, ne, nf, d⟩
 ·refine (I.hok b u e).stay (fun c w hc q => (hs.2 c fun z => ?_).trans q) (fun _ q => q) fun _ _ q => q
  have hf := I.free
  rw [← z] at hf
  rcases hc with hc | hc
  ·rw [hc, e] at hf; cases hf
  ·rw [hc] at hf; cases hf
end
theorem ObjOk.has {P : Program} {w : World} {H : Hp} {h : Heap} {a : Addr} {o : HO} (x : ObjOk P w H h a o) : ∃ ob, h.get? a = some ob := by
 cases o with
 | lst xs => obtain ⟨_, _, _, _, e⟩ := x; exact ⟨_, e⟩
 | tup xs => obtain ⟨_, _, _, ob, e, _⟩ := x; exact ⟨ob, e⟩
 | dK kvs => obtain ⟨_, _, _, _, ob, _, _, e, _⟩ := x; exact ⟨ob, e⟩
 | dT kvs => obtain ⟨_, _, _, _, ob, _, _, e, _⟩ := x; exact ⟨ob, e⟩
 | set S n => obtain ⟨ob, _, _, _, e, _⟩ := x; exact ⟨ob, e⟩
 | ins C dx fs => obtain ⟨_, _, _, e, _⟩ := x; exact ⟨_, e⟩
 | own y => exact x
 | xd fs => obtain ⟨_, ⟨ob, _, _, e, _⟩, _⟩ := x; exact ⟨ob, e⟩
 | met f y => exact ⟨_, x⟩
 | rng lo hi => obtain ⟨_, _, _, e⟩ := x; exact ⟨_, e⟩
 | frz ob u => exact ⟨ob, x.1⟩
 | tbl ps => exact ⟨_, x⟩
 | ext φ => exact x.2.1
theorem Inv.caught {X : Cx} {pins : List (Addr × Obj)} {σ : St} {H H' : Hp} {s : Shared} {B h h6 : Heap} {ea C : Addr} {a0 : Value} {g : Array GenState} {d : Drawn} {t : Nat} (I : Inv X pins σ H s)
    (u : UnB (frs X.stack) H H' s.heap B h) (hok : HOk X.prog X.w H' B) (bare : AllBare g) (fl : Heap.FlyingW B X.stack ea (.ref C) a0 h6) (ups : h.UpToSlots h6) :
    H' ea = none ∧ Inv X pins σ (upd H' ea (ExO ea C)) { s with heap := h6, gens := g, drawn := d, toks := t } := by
  have hnB : B.get? ea = none := fl.2.1
  have tB : ∀ b o, H' b = some o → ∃ o', B.get? b = some o' := fun b o q => (hok b o q).has
  have hne : H' ea = none := by
    cases z : H' ea with
    | none => rfl
    | some o =>
      obtain ⟨o', q⟩ := tB ea o z
      rw [hnB] at q; cases q
  obtain ⟨oe, vs, hoe, hoc, hod, _⟩ := fl.first
  have nfr : ea ∉ frs X.stack := fun z => by
    obtain ⟨_, o, q, nf⟩ := fl.2.2.1.mem z
    rw [hoe] at q; cases q
    exact nf _ hod
  have nea : ∀ b o, s.heap.get? b = some o → b ≠ ea := fun b o q z => by
    subst z
    obtain ⟨o', q'⟩ := u.there b o q nfr
    rw [hnB] at q'; cases q'
  have slot : ∀ b o, s.heap.get? b = some o → b ∈ frs X.stack → ∃ sl, h6.get? b = some { o with slots := sl } := fun b o q hb => by
    obtain ⟨sl, q1⟩ := u.slot b o q hb
    obtain ⟨_, o', q2, nf⟩ := I.stack.mem hb
    rw [q] at q2; cases q2
    exact ups b { o with slots := sl } q1 nf
  have un : Un (frs X.stack) [] H (upd H' ea (ExO ea C)) s.heap h6 :=
    ⟨fun b o q n hb _ => fl.1 b o (u.keep b o q n hb), fun b o q n hb _ => slot b o q hb, fun b o q n _ => by rw [upd_ne (nea b o q)]; exact u.free b o q n, fun b o q _ => by
      by_cases hb : b ∈ frs X.stack
      · obtain ⟨sl, q1⟩ := slot b o q hb; exact ⟨_, q1⟩
      · obtain ⟨o', q1⟩ := u.there b o q hb; exact ⟨o', fl.1 b o' q1⟩,
     fun b xs q => by rw [upd_ne (ne_of_none (u.tups b xs q) hne)]; exact u.tups b xs q, fun b o x q => by rw [upd_ne (ne_of_none (u.frzs b o x q) hne)]; exact u.frzs b o x q,
     fun b ps q => by
      obtain ⟨more, z⟩ := u.tbls b ps q
      exact ⟨more, by rw [upd_ne (ne_of_none z hne)]; exact z⟩⟩
  refine ⟨hne, I.call (ch := []) un (fun b o q => ?_) bare fun _ z => nomatch z⟩
  by_cases hb : b = ea
  · subst hb
    rw [upd_same] at q
    cases q
    exact exo_ok hoe hoc
  · rw [upd_ne hb] at q
    exact (hok b o q).stay (fun c v _ q => fl.1 c v q) (fun c q => by rw [upd_ne (ne_of_none q hne)]; exact q) fun c xs q => by rw [upd_ne (ne_of_none q hne)]; exact q
section
variable {X : Cx} {k : Nat} {f C D0 : Addr} {fd : FuncData} {ps : List Str} {sp : Sp} {x lx ex cx : Str} {p cp ep lp p1 p2 p3 hp pos : Pos} {e : Expr} {es : List Expr} {t : TA} {i j : Nat}
noncomputable def tTry (C : Addr) (i j : Nat) (sp : Sp) (t : TA) : TS := fun D σ H => t σ H fun vs H1 => sp vs H1 (fun _ _ => False) fun c o H' => ∃ ea, c = .ref C ∧ o = some ea ∧ (H' ea = none → D.nx (((σ.set i (some (.ref ea))).set j (some (.ref ea))).set i none) (upd H' ea (ExO ea C)))
theorem ps_try (F : FnOk X.prog X.w X.K X.mg X.base (CX1 X.prog X.w) k f fd ps sp) (hr : Room k X.A) (hs : X.stack = X.env :: X.outer) (hf : X.env.frame = some X.env.locals)
  (hg : Gl X x) (hm : X.mg x = some (.ref f)) (hk : PySem.W.keepIn X.K (.ref f) = true) (hb : Binds X.K fd ps []) (ha : PA X.nox (e :: es) t)
  (hgL : Gl X lx) (hmL : X.mg lx = some (.ref D0)) (zC : XCls X.K C) (zD : XCls X.K D0) (zs : PySem.W.mroIn X.K C (.ref D0) = some true)
  (hN : X.N.Nodup) (hi : X.N[i]? = some ex) (hl : X.env.kindOf ex = some .local) (hv : Vis X.env.scope ex) (hL : Loc X.env.scope ex) (hj : X.N[j]? = some cx) (hc : Loc X.env.scope cx)
  (hfi : X.fn ex = true ∨ X.env.scope.names.lookup ex = some .local) (hfj : X.fn cx = true ∨ X.env.scope.names.lookup cx = some .local)
  (hdb : (x == ("__debug__" : Str)) = false := by decide) (hdl : (lx == ("__debug__" : Str)) = false := by decide) (hde : (ex == ("__debug__" : Str)) = false := by decide) (hcd : (ex == ("__classdict__" : Str)) = false := by decide)
  (he : starEach (e :: es) X.env = (false, eval e X.env) :: starEach es X.env := by rfl) (hpl : (backTo cp (starEach es X.env)).any (·.1) = false := by rfl)
  (hsw : swapsWith (.Call (.Name x p) (e :: es) [] cp) none ep.line X.env = pure false := by rfl) (hsw2 : swapsWith (.Name ex p2) (some (.Name cx p1)) p3.line X.env = pure false := by rfl) :
  PS X (.Try [.Expr (.Call (.Name x p) (e :: es) [] cp) ep] [.ExceptHandler (some (.Name lx lp)) (some ex) [.Assign [.Name cx p1] (.Name ex p2) p3] hp] [] [] pos) (tTry C i j sp t) := by
 intro pins s σ H D I h
 refine wpAny_Try_except (wpAny_execs_cons (wpAny_Expr_any (wpAny_Call_Name_kw (ld_glob I hg hm ?_ hdb)) I.quiet hsw))
 refine PySem.W.callWith_K (h₀ := X.base) I.ok.mod.kin hk (wpAny_mono (ha cp pins s σ H _ (I.wish _) h) (fun us s1 z => ?_) fun _ _ z => z.elim) he hpl
 obtain ⟨vs, H1, I1, r, q⟩ := z
 have I1 := I1.unwish
 refine ⟨I1.kIn, ?_⟩
 have hl2 : us.length = ps.length := by rw [← r.length]; exact F.len _ _ _ _ q
 have hbn := hb s1 us I1.kIn (by rw [List.append_nil]; exact hl2)
 rw [List.append_nil] at hbn
 refine wpAny_call (codeAny_mono (F.run X.A X.stack s1 H1 ⟨us, []⟩ us vs _ _ hr I1.env0 hbn r q) fun r s' hq => ?_)
 cases r with
 | ok fl =>
  cases fl with
  | ret u =>
   have hq : CE X.stack X.prog X.w H1 s1 _ u s' := hq
   obtain ⟨_, _, _, _, _, _, _, z⟩ := hq
   exact z.elim
  | next => exact False.elim hq
  | brk => exact False.elim hq
  | cont => exact False.elim hq
 | error ev =>
  unfold CR at hq
  dsimp only at hq
  obtain ⟨ea, C', a0, B, H', rfl, os, bare, fl, u, hok, ea', hC', ho', hD⟩ := hq
  cases hC'
  cases ho'
  obtain ⟨h3, g3, d3, t3, os3⟩ := s'
  dsimp only at os bare fl u
  subst os
  have fl' := fl
  rw [hs] at fl'
  refine wpAny_looks_onW (by rw [← hs]; exact I1.ok.frames) hf fl' fun h4 held4 ups4 => ?_
  refine wpAny_landsW held4 fun h5 fl5 ups5 => ?_
  have bK : ∀ b o, X.base.get? b = some o → h5.get? b = some o := fun b o q => fl5.1 b o (u.keep b o (I1.bs b o q).1 (I1.bs b o q).2 fun z => by
   rw [(I1.stack.mem z).1] at q; cases q)
  have G5 : X.K.In h5 := I1.ok.mod.kin.keeps bK
  refine wpAny_handleBy_cons (codeAny_handlers_test (Calls.Name_function_global I1.ok.kind hgL (Calls.loadGlobal_global (by rw [I1.ok.glob]; exact I1.mod.glob.keeps bK) hmL ?_) hdl)) (by intro q; cases q)
  obtain ⟨bm, Nn, nm, qn, bs, hdct, sn, sub, ab, col, dd, k0, k1, k2, k3, k5, mN, hCo, _, _, T, lC⟩ := exc_in G5 zC.ex
  obtain ⟨bm', Nn', nm', qn', bs', hdct', sn', sub', ab', col', dd', j0, j1, j2, j3, j5, mN', hDo, _, _, T', lD⟩ := exc_in G5 zD.ex
  have hin : (Value.ref C :: bm).contains (.ref D0) = true := by
   unfold PySem.W.mroIn PySem.W.clsIn at zs
   rw [lC] at zs
   exact Option.some.inj zs
  obtain ⟨oe, hoe, hoc⟩ := fl5.there
  refine xc_matches hCo hDo hoe hoc (T'.hasType (by decide)) hin (codeAny_handlers_suite_as ?_)
  refine lands_againW fl5 fun h6 fl6 ups6 => ?_
  rw [← hs] at fl6
  obtain ⟨hne, I6⟩ := I1.caught (g := g3) (d := d3) (t := t3) u hok bare fl6 ((ups4.trans ups5).trans ups6)
  refine store_ok2 I6 hN hi hL (v := .ref ea) rfl (fun s7 I7 _ => ?_) hfi
  have body : PSs (X.marked (.ref ea)) [.Assign [.Name cx p1] (.Name ex p2) p3] (tAsg (tVar i) (gName j)) := pss_one (ps_set (X := X.marked (.ref ea)) hN hj hc (pe_var (X := X.marked (.ref ea)) hi hv hde hcd) hsw2 hfj)
  have hil : i < σ.length := by rw [I.len]; exact (List.getElem?_eq_some_iff.mp hi).1
  refine wpAny_mono (body pins s7 _ _ { nx := fun σ' H2 => σ' = (σ.set i (some (.ref ea))).set j (some (.ref ea)) ∧ H2 = upd H' ea (ExO ea C), rt := fun _ _ => False } (I7.marked _) ?_) (fun fl s8 z => ?_) fun _ _ z => z.elim
  ·exact ⟨_, List.getElem?_set_self hil, rfl, rfl⟩
  ·cases fl with
   | next =>
    obtain ⟨σ', H2, I8, rfl, rfl⟩ := z
    have I8 := I8.unmarked I.ok
    obtain ⟨m, hm8⟩ := I8.loc
    refine wpAny_nameGoes_keeps hl hm8.1 (by rw [I.ok.kind]; rfl) fun h9 v hn9 hs9 => ?_
    exact ⟨_, _, I8.goes hN hi hl hm8 hn9 hs9, hD hne⟩
   | ret u => obtain ⟨_, _, _, _, _, z⟩ := z; exact z.elim
   | brk => obtain ⟨_, _, _, z⟩ := z; exact z.elim
   | cont => obtain ⟨_, _, _, z⟩ := z; exact z.elim
end
end L2
namespace L2
open PySem PySem.Spec PyProof.Rows
noncomputable def tDic0 : TE := fun _ H Q => ∀ p, H p = none → Q (.ref p) (upd H p (.dK []))
theorem pe_dic0 {X : Cx} {pos : Pos} : PE X (.Dict [] [] pos) tDic0 := by
 intro pins s σ H Q I h
 have big : sysModules < s.heap.objs.size := Nat.lt_trans (by decide) (show mainGlobals < s.heap.objs.size from (I.mod.glob.keeps I.bk).lt)
 have ok : ObjOk X.prog X.w (upd H s.heap.objs.size (.dK [])) (s.heap.push { cls := .type "dict", data := .dict #[] }) s.heap.objs.size (.dK []) := ⟨Nat.zero_le _, beq_eq_false_iff_ne.mpr (Ne.symm (Nat.ne_of_lt big)), [], .nil, Heap.DictOf.new _⟩
 exact wpAny_Dict_empty ⟨.ref s.heap.objs.size, _, I.laid (a := s.heap.objs.size) (o := .dK []) (t' := s.toks) (fun _ _ q => Heap.get?_push_of_some _ q) (Nat.le_refl _) ok, rfl, h _ (I.hok.fresh (Nat.le_refl _))⟩
namespace VS
variable {P0 : Addr → Hp → Prop}
noncomputable def mDic0 : ME := fun Γ Q => Q (.dict []) Γ
theorem vt_dic0 : VT P0 tDic0 mDic0 := by
 intro F Γ σ G H Q Qm r m k p hp
 have g := same_new (r.fr.gfresh hp) (.dK [])
 exact k _ _ _ _ _ m g (r.new hp) (.dic upd_same)
theorem i_dic0 {Γ : En} {Q : D → En → Prop} (h : Q (.dict []) Γ) : mDic0 Γ Q := h
end VS
end L2
namespace L2
open PySem PySem.Spec PyProof.Rows
@[irreducible] def PSi (X : Cx) (L : List Stmt) (t : TS) : Prop := PSs X L t
@[irreducible] def PSd (X : Cx) (st : Stmt) (t : TS) : Prop := PS X st t
@[irreducible] def PEd (X : Cx) (e : Expr) (t : TE) : Prop := PE X e t
@[irreducible] def PAd (X : Cx) (es : List Expr) (t : TA) : Prop := PA X es t
section
variable {X : Cx} {L rest : List Stmt} {st : Stmt} {t u : TS} {e a b : Expr} {es : List Expr} {te ta tb : TE} {tl : TA} {pos : Pos}
theorem psi_of (h : PSs X L t) : PSi X L t := by unfold PSi; exact h
theorem psi_out (h : PSi X L t) : PSs X L t := by unfold PSi at h; exact h
theorem psd_of (h : PS X st t) : PSd X st t := by unfold PSd; exact h
theorem pad_of (h : PA X es tl) : PAd X es tl := by unfold PAd; exact h
theorem psi_cons (h1 : PSd X st t) (h2 : PSi X rest u) : PSi X (st :: rest) (tSeq t u) := by
 unfold PSi PSd at *
 exact pss_cons h1 h2
theorem psd_set {i : Nat} {x : Str} {pos' : Pos} (hN : X.N.Nodup) (hi : X.N[i]? = some x) (hx : Loc X.env.scope x) (he : PEd X e te) (hs : swapsWith e (some (.Name x pos')) pos.line X.env = pure false := by rfl) (hf : X.fn x = true ∨ X.env.scope.names.lookup x = some .local := by first | exact .inl rfl | exact .inr rfl | assumption) :
  PSd X (.Assign [.Name x pos'] e pos) (tAsg te (gName i)) := by
 unfold PSd PEd at *
 exact ps_set hN hi hx he hs hf
theorem ped_ix {r : R2} (hr : IxR X r) (ha : PEd X a ta) (hb : PE X b tb) (hs : PlainIx b) : PEd X (.Subscript a b pos) (tOp r ta tb) := by
 unfold PEd at *
 exact pe_ix hr ha hb hs
theorem ped_lst (h : PAd X es tl) : PEd X (.List es pos) (tLst tl) := by
 unfold PEd PAd at *
 exact pe_lst h
theorem pad_cons (ha : PE X e te) (hr : PAd X es tl) (hs : starEach (e :: es) X.env = (false, eval e X.env) :: starEach es X.env := by rfl) : PAd X (e :: es) (tCons te tl) := by
 unfold PAd at *
 exact pa_cons ha hr hs
end
end L2
namespace My
open PySem PySem.Spec PyProof.Rows L2 L2.VS LT
noncomputable def top (i : Nat) : Stmt := PySem.Challenge.pw_leadtimes_k01_numbers_made.main.body.getD i (.Pass ⟨0, 0, 0, 0⟩)
set_option hygiene false in
local macro_rules | `(tactic| walk_at "vn") => `(tactic| dsimp only [List.set_cons_zero, List.set_cons_succ, List.set_nil, Rv.sl, Rv.d, nbQ, List.replicate, List.cons_append, List.nil_append, pubA, List.map_cons, List.map_nil])
set_option hygiene false in
local macro_rules | `(tactic| walk_at "v1") => `(tactic| first
 | (with_reducible first
  | apply i_seq | apply i_set | apply i_val | apply i_ret | apply i_if | apply i_tst
  | refine i_var (by with_unfolding_all rfl) ?_
  | apply i_c | apply i_pub | apply i_call | apply i_aval
  | refine i_apen (by with_unfolding_all rfl) ?_
  | apply i_anil | apply i_nil | apply i_cons | apply i_tup | apply i_lst | apply i_ix | apply i_I0 | apply i_I | apply i_U | apply i_eq | apply i_ne
  | apply i_and | apply i_or | apply i_not | apply i_andV | apply i_orV | apply i_notV | apply i_isN | apply i_notN | apply i_isi | apply i_len | apply i_abs | apply i_2I | apply i_int1 | apply i_ifE | apply i_ifO
  | apply i_for | apply i_itL | apply i_itT | apply i_rng1 | apply i_rng2 | apply i_gN
  | refine i_gT (by with_unfolding_all rfl) ?_
  | apply i_gsCons | apply i_gsNil | apply i_asg | apply i_par | apply i_nx | apply i_retN | apply i_drop | apply i_peek | apply i_peekT | apply i_peekO | apply i_listOf | apply i_slL | apply i_pNo | apply i_pSo | apply i_cat | apply i_in
  | refine i_append (by with_unfolding_all rfl) ?_
  | refine i_clear (by with_unfolding_all rfl) ?_
  | refine i_pubS (by with_unfolding_all rfl) ?_
  | refine i_pubS0 (by with_unfolding_all rfl) ?_
  | refine i_move (by with_unfolding_all rfl) ?_
  | refine i_moveV (by with_unfolding_all rfl) ?_
  | apply i_oQ (ix_num0 _) | apply i_oQ (ix_num1 _) | apply i_oQ (ix_line0 _) | apply i_oQ (ix_line1 _)
  | apply iteT | apply iteF
  | refine isT (by with_unfolding_all rfl) ?_
  | refine isF (by with_unfolding_all rfl) ?_
  | refine isNT (by with_unfolding_all rfl) ?_
  | refine isNF (by with_unfolding_all rfl) ?_
  | apply iteNT | apply iteNF
  | refine And.intro rfl ?_
  | refine And.intro (Nat.le_of_ble_eq_true (by with_unfolding_all rfl)) ?_
  | refine And.intro (mulB (by assumption) (by assumption)) ?_
  | (refine And.intro (good_int _) (And.intro (good_int _) ?_); rw [eqv_int])
  | (refine And.intro (good_num _) (And.intro (good_num _) ?_); rw [eqv_num])
  | (refine And.intro (good_line _) (And.intro (good_line _) ?_); rw [eqv_line])
  | (refine And.intro (good_bool _) (And.intro (good_bool _) ?_); rw [eqv_bool]))
 | dsimp only [Rv.d, Rv.sl, nbQ, Bool.not_true, Bool.not_false, isN, itemsD])
set_option hygiene false in
local macro_rules | `(tactic| walk_at "vs") => `(tactic| repeat (walk_at "v1"))
set_option hygiene false in
local macro_rules | `(tactic| walk_at "w1") => `(tactic| first
 | walk_at "v1"
 | with_reducible apply i_comp
 | with_reducible refine i_insert (by with_unfolding_all rfl) ?_
 | with_reducible apply i_step
 | with_reducible apply i_bs
 | with_reducible apply i_chain
 | with_reducible apply i_peekS
 | with_reducible apply i_slT
 | with_reducible apply i_catT
 | with_reducible refine i_aug (by with_unfolding_all rfl) ?_
 | with_reducible apply i_listRng
 | with_reducible apply i_listZip
 | with_reducible apply i_itZ
 | with_reducible apply i_itE
 | with_reducible apply i_isB
 | with_reducible apply i_lenSet
 | with_reducible apply i_lenSetT
 | with_reducible apply i_dnew
 | with_reducible apply i_listD
 | with_reducible apply i_setD
 | with_reducible refine i_itD (by with_unfolding_all rfl) ?_
 | with_reducible refine i_ixD (by with_unfolding_all rfl) ?_
 | with_reducible apply i_sortN
 | with_reducible apply i_dnewB
 | with_reducible apply i_putB
 | with_reducible apply i_setB
 | with_reducible refine i_itB (by with_unfolding_all rfl) ?_
 | with_reducible refine i_ixB (by with_unfolding_all rfl) ?_
 | with_reducible refine i_isNB (by with_unfolding_all rfl) ?_
 | with_reducible apply i_neB
 | with_reducible apply i_compB
 | with_reducible apply i_tupE
 | with_reducible apply i_dic0
 | with_reducible apply i_acon
 | with_reducible refine i_acv (by with_unfolding_all rfl) ?_
 | with_reducible refine i_ixC (by with_unfolding_all rfl) ?_)
set_option hygiene false in
local macro_rules | `(tactic| walk_at "ws") => `(tactic| repeat (walk_at "w1"))
noncomputable def b_is_whole : MS :=
 (mRet (mVal (mAndV (mIsi "int" (mVar 0)) (mNotV (mIsi "bool" (mVar 0))))))
noncomputable def m_is_whole : Fm := mFn 0 b_is_whole
noncomputable def b_greatest_divisor_r1 : MS :=
 (mRet (mVal (mVar 2)))
noncomputable def b_greatest_divisor_l1 : MS :=
 (mSeq (mSet 4 (mVal (mMod (mVar 2) (mVar 3))))
  (mSeq (mSet 2 (mVal (mVar 3)))
  (mSet 3 (mVal (mVar 4)))))
noncomputable def b_greatest_divisor : MS :=
 (mSeq (mSet 2 (mVal (mAbs (mVar 0))))
  (mSeq (mSet 3 (mVal (mAbs (mVar 1))))
  (mSeq (mWhile (mTst (mNe (mVar 3) (mC (.int 0))))
  b_greatest_divisor_l1)
  b_greatest_divisor_r1)))
noncomputable def m_greatest_divisor : Fm := mFn 3 b_greatest_divisor
noncomputable def b_is_number_r1 : MS :=
 (mRet (mVal (mAndV (mGe (mIx (mVar 0) (mC (.int 1))) (mC (.int 1))) (mEq (mPub (mCall 2 m_greatest_divisor (aVal (mIx (mVar 0) (mC (.int 0))) (aVal (mIx (mVar 0) (mC (.int 1))) aNil)))) (mC (.int 1))))))
noncomputable def b_is_number_r2 : MS :=
 (mSeq (mIf (mOr (mNot (mTst (mPub (mCall 1 m_is_whole (aVal (mIx (mVar 0) (mC (.int 0))) aNil))))) (mNot (mTst (mPub (mCall 1 m_is_whole (aVal (mIx (mVar 0) (mC (.int 1))) aNil))))))
  (mRet (mVal (mC (.bool false))))
  mNx)
  b_is_number_r1)
noncomputable def b_is_number : MS :=
 (mSeq (mIf (mOr (mNot (mTst (mIsi "tuple" (mVar 0)))) (mTst (mNe (mLen (mVar 0)) (mC (.int 2)))))
  (mRet (mVal (mC (.bool false))))
  mNx)
  b_is_number_r2)
noncomputable def m_is_number : Fm := mFn 0 b_is_number
noncomputable def b_number_of_r1 : MS :=
 (mRet (mVal (mTup (mCons (mDivX (mVar 0) (mVar 2)) (mCons (mDivX (mVar 1) (mVar 2)) mNil)))))
noncomputable def b_number_of_r2 : MS :=
 (mSeq (mSet 2 (mVal (mPub (mCall 2 m_greatest_divisor (aVal (mVar 0) (aVal (mVar 1) aNil))))))
  (mSeq (mIf (mTst (mLt (mVar 1) (mC (.int 0))))
  (mSet 2 (mVal (mNeg (mVar 2))))
  mNx)
  b_number_of_r1))
noncomputable def b_number_of : MS :=
 (mSeq (mIf (mOr (mNot (mTst (mPub (mCall 1 m_is_whole (aVal (mVar 0) aNil))))) (mOr (mNot (mTst (mPub (mCall 1 m_is_whole (aVal (mVar 1) aNil))))) (mTst (mEq (mVar 1) (mC (.int 0))))))
  mNever
  mNx)
  b_number_of_r2)
noncomputable def m_number_of : Fm := mFn 1 b_number_of
noncomputable def m_law_take : Fm := mTake
noncomputable def b_law_common_r1 : MS :=
 (mRet (mVal (mVar 0)))
noncomputable def b_law_common_l1 : MS :=
 (mPar 0 1 (mCons (mVar 1) (mCons (mMod (mVar 0) (mVar 1)) mNil)))
noncomputable def b_law_common : MS :=
 (mSeq (mSet 0 (mVal (mAbs (mVar 0))))
  (mSeq (mSet 1 (mVal (mAbs (mVar 1))))
  (mSeq (mWhile (mTst (mGt (mVar 1) (mC (.int 0))))
  b_law_common_l1)
  b_law_common_r1)))
noncomputable def m_law_common : Fm := mFn 0 b_law_common
noncomputable def b_law_whole_r1 : MS :=
 (mRet (mVal (mMul (mVar 1) (mIx (mPub (mLst (mCons (mC (.int 1)) (mCons (mNeg (mC (.int 1))) mNil)))) (mPub (mCall 2 m_law_take (aPen 0 (aVal (mC (.int 2)) aNil))))))))
noncomputable def b_law_whole_r2 : MS :=
 (mSeq (mIf (mTst (mEq (mPub (mCall 2 m_law_take (aPen 0 (aVal (mC (.int 5)) aNil)))) (mC (.int 0))))
  (mSet 1 (mVal (mPub (mCall 2 m_law_take (aPen 0 (aVal (mC (.int 4)) aNil))))))
  mNx)
  b_law_whole_r1)
noncomputable def b_law_whole_l1 : MS :=
 (mSet 1 (mVal (mAdd (mMul (mVar 1) (mC (.int 1000000))) (mPub (mCall 2 m_law_take (aPen 0 (aVal (mC (.int 1000000)) aNil)))))))
noncomputable def b_law_whole : MS :=
 (mSeq (mSet 1 (mVal (mC (.int 0))))
  (mSeq (mFor (mRng1 (mCons (mPub (mCall 2 m_law_take (aPen 0 (aVal (mC (.int 11)) aNil)))) mNil)) (gN 2)
  b_law_whole_l1)
  b_law_whole_r2))
noncomputable def m_law_whole : Fm := mFn 2 b_law_whole
noncomputable def b_law_is_whole : MS :=
 (mRet (mVal (mAndV (mIsi "int" (mVar 0)) (mNotV (mIsi "bool" (mVar 0))))))
noncomputable def m_law_is_whole : Fm := mFn 0 b_law_is_whole
noncomputable def b_law_due_r1 : MS :=
 (mRet (mVal (mAndV (mGt (mIx (mVar 0) (mC (.int 1))) (mC (.int 0))) (mEq (mPub (mCall 2 m_law_common (aVal (mIx (mVar 0) (mC (.int 0))) (aVal (mIx (mVar 0) (mC (.int 1))) aNil)))) (mC (.int 1))))))
noncomputable def b_law_due : MS :=
 (mSeq (mIf (mOr (mNot (mTst (mIsi "tuple" (mVar 0)))) (mOr (mTst (mNe (mLen (mVar 0)) (mC (.int 2)))) (mOr (mNot (mTst (mPub (mCall 1 m_law_is_whole (aVal (mIx (mVar 0) (mC (.int 0))) aNil))))) (mNot (mTst (mPub (mCall 1 m_law_is_whole (aVal (mIx (mVar 0) (mC (.int 1))) aNil))))))))
  (mRet (mVal (mC (.bool false))))
  mNx)
  b_law_due_r1)
noncomputable def m_law_due : Fm := mFn 0 b_law_due
noncomputable def noNum (d e : D) : Prop := ¬ ∃ i j : Int, d = .int i ∧ e = .int j ∧ j ≠ 0
noncomputable def m_law_refused : Fm := fun as Q => ∃ d e, as = [.val d, .val e] ∧ noNum d e ∧ Q (.val (.bool true))
noncomputable def b_law_things : MS :=
 (mSeq (mSet 2 (mVal (mPub (mLst (mCons (mTup (mCons (mVar 0) (mCons (mVar 1) mNil))) (mCons (mTup (mCons (mVar 0) (mCons (mSub (mC (.int 0)) (mVar 1)) mNil))) (mCons (mPub (mLst (mCons (mVar 0) (mCons (mVar 1) mNil)))) (mCons (mTup (mCons (mVar 0) mNil)) (mCons (mTup (mCons (mVar 0) (mCons (mVar 1) (mCons (mC (.int 1)) mNil)))) (mCons (mVar 0) (mCons (mC .none) (mCons (mC (.str "1/2")) (mCons (mTup mNil) (mCons mDic0 (mCons (mTup (mCons (mVar 0) (mCons (mC (.int 0)) mNil))) mNil)))))))))))))))
  (mSeq (mSet 2 (mVal (mPub (mCat (mVar 2) (mPub (mLst (mCons (mTup (mCons (mC (.int 0)) (mCons (mVar 1) mNil))) (mCons (mTup (mCons (mC (.int 0)) (mCons (mC (.int 1)) mNil))) (mCons (mTup (mCons (mC (.int 0)) (mCons (mNeg (mC (.int 1))) mNil))) (mCons (mTup (mCons (mVar 0) (mCons (mC (.int 1)) mNil))) (mCons (mTup (mCons (mVar 0) (mCons (mNeg (mC (.int 1))) mNil))) (mCons (mTup (mCons (mC (.bool true)) (mCons (mVar 1) mNil))) (mCons (mTup (mCons (mVar 0) (mCons (mC (.bool true)) mNil))) (mCons (mTup (mCons (mVar 0) (mCons (mC (.bool false)) mNil))) (mCons (mC (.bool true)) mNil)))))))))))))))
  (mSeq (mSet 2 (mVal (mPub (mCat (mVar 2) (mPub (mLst (mCons (mTup (mCons (mTup (mCons (mVar 0) (mCons (mC (.int 1)) mNil))) (mCons (mC (.int 1)) mNil))) (mCons (mTup (mCons (mVar 0) (mCons (mTup (mCons (mC (.int 1)) mNil)) mNil))) (mCons (mTup (mCons (mC .none) (mCons (mC (.int 1)) mNil))) (mCons (mTup (mCons (mC (.int 1)) (mCons (mC .none) mNil))) (mCons (mTup (mCons (mC (.str "1")) (mCons (mC (.int 1)) mNil))) (mCons (mTup (mCons (mVar 0) (mCons (mC (.str "1")) mNil))) (mCons (mPub (mLst (mCons (mTup (mCons (mVar 0) (mCons (mC (.int 1)) mNil))) mNil))) mNil)))))))))))))
  (mRet (mCat (mVar 2) (mPub (mLst (mCons (mTup (mCons (mVar 0) (mCons (mVar 0) mNil))) (mCons (mTup (mCons (mVar 1) (mCons (mVar 1) mNil))) (mCons (mTup (mCons (mMul (mDiv (mVar 0) (mC (.int 2))) (mC (.int 2))) (mCons (mC (.int 2)) mNil))) (mCons (mTup (mCons (mAdd (mMul (mDiv (mVar 0) (mC (.int 2))) (mC (.int 2))) (mC (.int 1))) (mCons (mC (.int 2)) mNil))) mNil)))))))))))
noncomputable def m_law_things : Fm := mFn 1 b_law_things
noncomputable def b_law_r1 : MS :=
 (mRet (mVal (mC (.bool true))))
noncomputable def b_law_l1 : MS :=
 (mSeq (mSet 9 (mVal (mPub (mCall 1 m_is_number (aVal (mVar 8) aNil)))))
  (mIf (mOr (mNot (mTst (mIsi "bool" (mVar 9)))) (mTst (mNe (mVar 9) (mPub (mCall 1 m_law_due (aVal (mVar 8) aNil))))))
  (mRet (mVal (mC (.bool false))))
  mNx))
noncomputable def b_law_r2 : MS :=
 (mFor (mItL (mPub (mCall 2 m_law_things (aVal (mVar 3) (aVal (mVar 4) aNil))))) (gN 8)
  b_law_l1)
noncomputable def b_law_r3 : MS :=
 (mSeq (mSet 7 (mVal (mIx (mPub (mLst (mCons (mC .none) (mCons (mC (.bool true)) (mCons (mC (.bool false)) (mCons (mC (.str "3")) (mCons (mTup (mCons (mC (.int 3)) mNil)) (mCons (mPub (mLst (mCons (mC (.int 3)) mNil))) (mCons (mTup (mCons (mC (.int 1)) (mCons (mC (.int 2)) mNil))) (mCons mDic0 mNil)))))))))) (mPub (mCall 2 m_law_take (aPen 1 (aVal (mC (.int 8)) aNil)))))))
  (mSeq (mIf (mOr (mNot (mTst (mPub (mCall 2 m_law_refused (aVal (mVar 7) (aVal (mVar 4) aNil)))))) (mOr (mNot (mTst (mPub (mCall 2 m_law_refused (aVal (mVar 3) (aVal (mVar 7) aNil)))))) (mNot (mTst (mPub (mCall 2 m_law_refused (aVal (mVar 7) (aVal (mVar 7) aNil))))))))
  (mRet (mVal (mC (.bool false))))
  mNx)
  b_law_r2))
noncomputable def b_law_r4 : MS :=
 (mSeq (mSet 6 (mVal (mPub (mCall 2 m_number_of (aVal (mVar 3) (aVal (mVar 4) aNil))))))
  (mSeq (mIf (mOr (mNot (mTst (mPub (mCall 1 m_law_due (aVal (mVar 6) aNil))))) (mOr (mTst (mNe (mMul (mIx (mVar 6) (mC (.int 0))) (mVar 4)) (mMul (mVar 3) (mIx (mVar 6) (mC (.int 1)))))) (mTst (mNe (mPub (mCall 2 m_number_of (aVal (mIx (mVar 6) (mC (.int 0))) (aVal (mIx (mVar 6) (mC (.int 1))) aNil)))) (mVar 6)))))
  (mRet (mVal (mC (.bool false))))
  mNx)
  b_law_r3))
noncomputable def b_law_r5 : MS :=
 (mSet 4 (mVal (mC (.int 7))))
noncomputable def b_law_r6 : MS :=
 (mSeq (mIf (mTst (mEq (mVar 4) (mC (.int 0))))
  (mSeq (mIf (mNot (mTst (mPub (mCall 2 m_law_refused (aVal (mVar 3) (aVal (mC (.int 0)) aNil))))))
  (mRet (mVal (mC (.bool false))))
  mNx)
  b_law_r5)
  mNx)
  b_law_r4)
noncomputable def b_law_l2 : MS :=
 (mSeq (mSet 3 (mVal (mPub (mCall 1 m_law_whole (aPen 1 aNil)))))
  (mSeq (mSet 4 (mVal (mPub (mCall 1 m_law_whole (aPen 1 aNil)))))
  (mSeq (mIf (mTst (mEq (mPub (mCall 2 m_law_take (aPen 1 (aVal (mC (.int 2)) aNil)))) (mC (.int 0))))
  (mSeq (mSet 5 (mVal (mAdd (mC (.int 1)) (mPub (mCall 2 m_law_take (aPen 1 (aVal (mC (.int 999)) aNil)))))))
  (mSeq (mSet 3 (mVal (mMul (mDiv (mVar 3) (mC (.int 1000))) (mVar 5))))
  (mSet 4 (mVal (mMul (mDiv (mVar 4) (mC (.int 1000))) (mVar 5))))))
  mNx)
  b_law_r6)))
noncomputable def b_law : MS :=
 (mSeq (mFor (mRng1 (mCons (mC (.int 6)) mNil)) (gN 2)
  b_law_l2)
  b_law_r1)
abbrev s_is_whole : Stmt := top 9
theorem sc_is_whole : FnScope ["thing"] ["thing"] (defScope s_is_whole) := ⟨rfl, rfl, rfl, by decide +kernel, rfl, by decide +kernel, by decide +kernel⟩
theorem ok_is_whole {P0 : Addr → Hp → Prop} {P : Program} {w : World} {K : PySem.W.Frag} {mg : Str → Option Value} {base : Heap} {f : Addr} {fd : FuncData} (F : Fun K "is_whole" "is_whole" s_is_whole f fd) (B : Bl K mg) (Kt : Kit K) :
  FnOk P w K mg base CX0 1 f fd ["thing"] (spM P0 1 m_is_whole) :=
 F.okV sc_is_whole rfl rfl fun cdv A outer s H E hr =>
 have hu := hr.units
 ⟨_, (pss_one (ps_ret (pe_and (pe_callB call_isi rfl B.isinstance_ boot_isinstance (pa_cons (pv 0) (pa_cons (pe_bltn (v := .ty "int") rfl B.int_ boot_int rfl) pa_nil))) (pe_one (pe_not (pe_callB call_isi rfl B.isinstance_ boot_isinstance (pa_cons (pv 0) (pa_cons (pe_bltn (v := .ty "bool") rfl B.bool_ boot_bool rfl) pa_nil)))))))),
  ((vs_ret (vo_val (vt_and (vt_isi Kt (by decide) vt_var) (vt_not (vt_isi Kt (by decide) vt_var))))) : VS P0 _ b_is_whole)⟩
abbrev s_greatest_divisor : Stmt := top 10
theorem sc_greatest_divisor : FnScope ["one", "other", "divisor", "rest", "left_over"] ["one", "other"] (defScope s_greatest_divisor) := ⟨rfl, rfl, rfl, by decide +kernel, rfl, by decide +kernel, by decide +kernel⟩
theorem ok_greatest_divisor {P0 : Addr → Hp → Prop} {P : Program} {w : World} {K : PySem.W.Frag} {mg : Str → Option Value} {base : Heap} {f : Addr} {fd : FuncData} (F : Fun K "greatest_divisor" "greatest_divisor" s_greatest_divisor f fd) (B : Bl K mg) (Kt : Kit K) :
  FnOk P w K mg base CX0 1 f fd ["one", "other"] (spM P0 2 m_greatest_divisor) :=
 F.okV sc_greatest_divisor rfl rfl fun cdv A outer s H E hr =>
 have hu := hr.units
 ⟨_, (pss_cons (ps_set (i := 2) sc_greatest_divisor.nd rfl (by first | exact Or.inl rfl | exact Or.inr rfl) (pe_callB call_abs rfl B.abs_ boot_abs (pa_cons (pv 0) pa_nil)))
   (pss_cons (ps_set (i := 3) sc_greatest_divisor.nd rfl (by first | exact Or.inl rfl | exact Or.inr rfl) (pe_callB call_abs rfl B.abs_ boot_abs (pa_cons (pv 1) pa_nil)))
   (pss_cons (ps_while PassesOwn.never (pt_cmpR (op_neD hu) (pv 3) pe_int (nomark _)) (pss_cons (ps_set (i := 4) sc_greatest_divisor.nd rfl (by first | exact Or.inl rfl | exact Or.inr rfl) (pe_op op_mod (pv 2) (pv 3)))
   (pss_cons (ps_set (i := 2) sc_greatest_divisor.nd rfl (by first | exact Or.inl rfl | exact Or.inr rfl) (pv 3))
   (pss_one (ps_set (i := 3) sc_greatest_divisor.nd rfl (by first | exact Or.inl rfl | exact Or.inr rfl) (pv 4))))))
   (pss_one (ps_ret (pv 2)))))),
  ((vs_seq (vs_set (vo_val (vt_abs vt_var)))
   (vs_seq (vs_set (vo_val (vt_abs vt_var)))
   (vs_seq (vs_while (vtt_val (vt_ne vt_var vt_int)) (vs_seq (vs_set (vo_val (vt_mod vt_var vt_var)))
   (vs_seq (vs_set (vo_val vt_var))
   (vs_set (vo_val vt_var)))))
   (vs_ret (vo_val vt_var))))) : VS P0 _ b_greatest_divisor)⟩
abbrev s_is_number : Stmt := top 11
theorem sc_is_number : FnScope ["thing"] ["thing"] (defScope s_is_number) := ⟨rfl, rfl, rfl, by decide +kernel, rfl, by decide +kernel, by decide +kernel⟩
theorem ok_is_number {P0 : Addr → Hp → Prop} {P : Program} {w : World} {K : PySem.W.Frag} {mg : Str → Option Value} {base : Heap} {f : Addr} {fd : FuncData} (F : Fun K "is_number" "is_number" s_is_number f fd) (B : Bl K mg) (Kt : Kit K)
  (c_greatest_divisor : Cal P w K mg base 1 "greatest_divisor" ["one", "other"] (spM P0 2 m_greatest_divisor))
  (c_is_whole : Cal P w K mg base 1 "is_whole" ["thing"] (spM P0 1 m_is_whole)) :
  FnOk P w K mg base CX0 2 f fd ["thing"] (spM P0 1 m_is_number) :=
 F.okV sc_is_number rfl rfl fun cdv A outer s H E hr =>
 have hu := hr.units
 ⟨_, (pss_cons (ps_if (PW.pt (pw_or (pt_not (pt_val (pe_callB call_isi rfl B.isinstance_ boot_isinstance (pa_cons (pv 0) (pa_cons (pe_bltn (v := .ty "tuple") rfl B.tuple_ boot_tuple rfl) pa_nil))))) (pw_or1 (pt_cmpR (op_neD hu) (pe_callB call_len_seq rfl B.len_ boot_len (pa_cons (pv 0) pa_nil)) pe_int (nomark _))))) (pss_one (ps_ret pe_bl)) pss_nil)
   (pss_cons (ps_if (PW.pt (pw_or (pt_not (pt_val (pe_callC c_is_whole hr rfl (pa_cons (pe_ix ix_seq (pv 0) pe_int (fun _ _ => rfl)) pa_nil)))) (pw_or1 (pt_not (pt_val (pe_callC c_is_whole hr rfl (pa_cons (pe_ix ix_seq (pv 0) pe_int (fun _ _ => rfl)) pa_nil))))))) (pss_one (ps_ret pe_bl)) pss_nil)
   (pss_one (ps_ret (pe_and (pe_cmpR op_ge (pe_ix ix_seq (pv 0) pe_int (fun _ _ => rfl)) pe_int (nomark _)) (pe_one (pe_cmpR (op_eqD hu) (pe_callC c_greatest_divisor hr rfl (pa_cons (pe_ix ix_seq (pv 0) pe_int (fun _ _ => rfl)) (pa_cons (pe_ix ix_seq (pv 0) pe_int (fun _ _ => rfl)) pa_nil))) pe_int (nomark _)))))))),
  ((vs_seq (vs_if (vtt_or (vtt_not (vtt_b (vt_isi Kt (by decide) vt_var))) (vtt_val (vt_ne (vt_len vt_var) vt_int))) (vs_ret (vo_val vt_bl)) vs_nx)
   (vs_seq (vs_if (vtt_or (vtt_not (vtt_b (vt_pub (vo_call (va_val (vt_ix vt_var vt_int) va_nil))))) (vtt_not (vtt_b (vt_pub (vo_call (va_val (vt_ix vt_var vt_int) va_nil)))))) (vs_ret (vo_val vt_bl)) vs_nx)
   (vs_ret (vo_val (vt_and (vt_ge (vt_ix vt_var vt_int) vt_int) (vt_eq (vt_pub (vo_call (va_val (vt_ix vt_var vt_int) (va_val (vt_ix vt_var vt_int) va_nil)))) vt_int)))))) : VS P0 _ b_is_number)⟩
abbrev s_number_of : Stmt := top 12
theorem sc_number_of : FnScope ["top", "bottom", "divisor"] ["top", "bottom"] (defScope s_number_of) := ⟨rfl, rfl, rfl, by decide +kernel, rfl, by decide +kernel, by decide +kernel⟩
theorem ok_number_of {P0 : Addr → Hp → Prop} {P : Program} {w : World} {K : PySem.W.Frag} {mg : Str → Option Value} {base : Heap} {f : Addr} {fd : FuncData} (F : Fun K "number_of" "number_of" s_number_of f fd) (B : Bl K mg) (Kt : Kit K)
  (c_greatest_divisor : Cal P w K mg base 1 "greatest_divisor" ["one", "other"] (spM P0 2 m_greatest_divisor))
  (c_is_whole : Cal P w K mg base 1 "is_whole" ["thing"] (spM P0 1 m_is_whole)) :
  FnOk P w K mg base CX0 2 f fd ["top", "bottom"] (spM P0 2 m_number_of) :=
 F.okV sc_number_of rfl rfl fun cdv A outer s H E hr =>
 have hu := hr.units
 ⟨_, (pss_cons (ps_if (PW.pt (pw_or (pt_not (pt_val (pe_callC c_is_whole hr rfl (pa_cons (pv 0) pa_nil)))) (pw_or (pt_not (pt_val (pe_callC c_is_whole hr rfl (pa_cons (pv 1) pa_nil)))) (pw_or1 (pt_cmpR (op_eqD hu) (pv 1) pe_int (nomark _)))))) (pss_one ps_never) pss_nil)
   (pss_cons (ps_set (i := 2) sc_number_of.nd rfl (by first | exact Or.inl rfl | exact Or.inr rfl) (pe_callC c_greatest_divisor hr rfl (pa_cons (pv 0) (pa_cons (pv 1) pa_nil))))
   (pss_cons (ps_if (pt_cmpR op_lt (pv 1) pe_int (nomark _)) (pss_one (ps_set (i := 2) sc_number_of.nd rfl (by first | exact Or.inl rfl | exact Or.inr rfl) (pe_un un_neg (pv 2)))) pss_nil)
   (pss_one (ps_ret (pe_tup (pa_cons (pe_op op_fdivX (pv 0) (pv 2)) (pa_cons (pe_op op_fdivX (pv 1) (pv 2)) pa_nil)))))))),
  ((vs_seq (vs_if (vtt_or (vtt_not (vtt_b (vt_pub (vo_call (va_val vt_var va_nil))))) (vtt_or (vtt_not (vtt_b (vt_pub (vo_call (va_val vt_var va_nil))))) (vtt_val (vt_eq vt_var vt_int)))) vs_never vs_nx)
   (vs_seq (vs_set (vo_val (vt_pub (vo_call (va_val vt_var (va_val vt_var va_nil))))))
   (vs_seq (vs_if (vtt_val (vt_lt vt_var vt_int)) (vs_set (vo_val (vt_neg vt_var))) vs_nx)
   (vs_ret (vo_val (vt_tup (vd_cons (vt_divX vt_var vt_var) (vd_cons (vt_divX vt_var vt_var) vd_nil)))))))) : VS P0 _ b_number_of)⟩
local macro_rules | `(tactic| walk_at "rd1") => `(tactic| first
 | refine ⟨_, rfl, ?_⟩
 | refine ⟨_, _, rfl, rfl, ?_⟩
 | refine And.intro rfl ?_
 | refine And.intro (small_b rfl) ?_
 | refine ⟨_, _, _, _, rfl, rfl, SqT.of (by assumption), rfl, ?_⟩
 | refine ⟨_, _, _, _, rfl, rfl, SqL.of (by assumption), rfl, ?_⟩
 | refine ⟨_, _, _, _, rfl, rfl, SqL.of upd_same, rfl, ?_⟩
 | refine ⟨_, _, _, _, rfl, rfl, (by assumption), rfl, ?_⟩
 | refine ⟨_, _, _, _, rfl, rfl, upd_same, rfl, ?_⟩
 | refine ⟨_, _, by assumption, by assumption, good_num _, good_num _, ?_⟩
 | refine ⟨_, _, by assumption, by assumption, good_line _, good_line _, ?_⟩
 | refine And.intro (mulB (by assumption) (by assumption)) ?_
 | refine And.intro (.inl (by decide)) ?_
 | refine And.intro (CMul_mod (by decide) (by decide)) ?_
 | refine And.intro (.inr (by decide)) ?_
 | refine ⟨_, _, rfl, .inl (by assumption), ?_⟩
 | refine ⟨_, _, rfl, .inr (SqT.of (by assumption)), ?_⟩
 | refine And.intro (by assumption) ?_
 | refine And.intro ⟨by decide, by decide⟩ ?_
 | refine And.intro ⟨by decide, by decide, by decide⟩ ?_
 | refine And.intro (show (0 : Int) < _ by decide) ?_
 | refine And.intro (by decide) ?_
 | refine ⟨_, _, rfl, ?_⟩)
local macro_rules | `(tactic| walk_at "rd") => `(tactic| repeat walk_at "rd1")
abbrev s_law_take : Stmt := top 14
theorem sc_law_take : FnScope ["_law_pen", "_law_many", "_law_at", "_law_cell", "_law_number", "_law_found"] ["_law_pen", "_law_many"] (defScope s_law_take) := ⟨rfl, rfl, rfl, by decide +kernel, rfl, by decide +kernel, by decide +kernel⟩
theorem ok_law_take {P : Program} {w : World} {K : PySem.W.Frag} {mg : Str → Option Value} {base : Heap} {f : Addr} {fd : FuncData} (F : Fun K "_law_take" "_law_take" s_law_take f fd) (B : Bl K mg) :
  FnOk P w K mg base CX0 1 f fd ["_law_pen", "_law_many"] (spTake K) := by
 refine F.ok sc_law_take (fun vs H Q E h => ?_) (fun cdv A outer s H vs Q E hr h => ?_)
 ·obtain ⟨pen, a, ns, m, rfl, ⟨z0, k0, hz0, hk0, hp0, hS0⟩, hm, hm2, q⟩ := h
  rfl
 have hu := hr.units
 obtain ⟨pen, a, ns, m, rfl, ⟨z0, k0, hz0, hk0, hp0, hS0⟩, hm, hm2, q⟩ := h
 refine ⟨_, (pss_cons (ps_while PassesOwn.never (pt_cmpR op_eq (pe_ix ix_list (pv 0) pe_int (fun _ _ => rfl)) pe_int (nomark _)) (pss_cons (ps_set (i := 2) sc_law_take.nd rfl (Or.inl rfl) (pe_ix ix_list (pv 0) pe_int (fun _ _ => rfl)))
   (pss_cons (ps_asg (pe_op op_add (pv 2) pe_int) (pg_sub (pv 0) pe_int set_list))
   (pss_cons (ps_set (i := 3) sc_law_take.nd rfl (Or.inl rfl) (pe_op op_add (pe_op op_mul pe_int (pv 2)) pe_int))
   (pss_cons (ps_if (pt_cmpR op_gt (pe_callB call_len_seq rfl B.len_ boot_len (pa_cons (pe_ix ix_list (pv 0) pe_int (fun _ _ => rfl)) pa_nil)) pe_int (nomark _)) (pss_one (ps_set (i := 3) sc_law_take.nd rfl (Or.inl rfl) (pe_ix ix_list (pe_ix ix_list (pv 0) pe_int (fun _ _ => rfl)) (pe_op op_mod (pv 2) (pe_callB call_len_seq rfl B.len_ boot_len (pa_cons (pe_ix ix_list (pv 0) pe_int (fun _ _ => rfl)) pa_nil))) (fun _ _ => rfl)))) pss_nil)
   (pss_cons (ps_if (PW.pt (pw_or (pt_cmpR op_ge (pv 2) (pe_callB call_len_seq rfl B.len_ boot_len (pa_cons (pe_ix ix_list (pv 0) pe_int (fun _ _ => rfl)) pa_nil)) (nomark _)) (pw_or1 (pt_cmpR op_lt (pv 3) (pe_powC (v := 1000000000000000000) (by decide) ⟨by decide, by decide, by decide⟩) (nomark _))))) (pss_cons (ps_set (i := 4) sc_law_take.nd rfl (Or.inl rfl) (pe_op op_mod (pe_op op_mul (pe_op op_add (pe_op op_add (pe_op op_mod (pv 3) pe_int) (pe_op op_mul pe_int (pv 2))) pe_int) pe_int) pe_int))
   (pss_one (ps_ret (pe_op op_mod (pe_op op_fdiv (pe_op op_mod (pe_op op_mul (pv 4) (pe_op op_add (pe_op op_add (pe_op op_mod (pv 4) pe_int) (pv 2)) pe_int)) pe_int) pe_int) (pv 1))))) pss_nil)
   (pss_one (ps_asg (pe_op op_sub (pv 3) (pe_powC (v := 1000000000000000000) (by decide) ⟨by decide, by decide, by decide⟩)) (pg_sub (pv 0) pe_int set_list)))))))))
   (pss_cons (ps_set (i := 5) sc_law_take.nd rfl (Or.inl rfl) (pe_op op_mod (pe_ix ix_list (pv 0) pe_int (fun _ _ => rfl)) (pv 1)))
   (pss_cons (ps_asg (pe_op op_fdiv (pe_ix ix_list (pv 0) pe_int (fun _ _ => rfl)) (pv 1)) (pg_sub (pv 0) pe_int set_list))
   (pss_one (ps_ret (pv 5)))))), ?_⟩
 refine ⟨fun n σ H2 => ∃ z k c f g, σ = [some (.ref pen), some (.int m), c, f, g, none] ∧ 0 ≤ z ∧ 0 ≤ k ∧ H2 pen = some (.lst [.ref a, .int z, .int k]) ∧ SqL K H2 a (ns.map V.int) ∧ SameX pen H H2 ∧ n = ((ns.length : Int) - k).toNat,
  ⟨_, z0, k0, none, none, none, rfl, hz0, hk0, hp0, hS0, SameX.refl _ _, rfl⟩, ?_⟩
 rintro n σ H2 ⟨z, k, c, f, g, rfl, hz, hk, hp, hS, hX, rfl⟩
 have hl : (ns.map V.int).length = ns.length := List.length_map _
 have hS3 : ∀ o, SqL K (upd H2 pen o) a (ns.map V.int) := fun o => penS hp hS (sameX_upd o)
 walk_at "rd"
 refine iteD2 (fun e => ?_) (fun e => ?_)
 ·have e0 : z = 0 := eq_of_int e
  subst e0
  have hS4 := hS3 (.lst [.ref a, .int 0, .int (k + 1)])
  refine ⟨_, fun _ _ h => h, ?_⟩
  walk_at "rd"
  refine iteD2 (fun e1 => ?a) (fun e1 => ?b)
  case' a =>
   have e1' : 0 < (ns.length : Int) := by
    rw [hl] at e1
    exact e1
   have h1 := Int.emod_nonneg k (b := (ns.length : Int)) (by omega)
   have h2 := Int.emod_lt_of_pos k e1'
   obtain ⟨j, hj⟩ : ∃ j : Nat, k % (ns.length : Int) = (j : Int) := ⟨(k % (ns.length : Int)).toNat, by omega⟩
   have hi : j < ns.length := by omega
   have hv : atI (ns.map V.int) (k % ((ns.map V.int).length : Int)) = some (.int ns[j]) := by
    rw [hl, hj]
    refine atI_nat ?_
    rw [List.getElem?_map, List.getElem?_eq_getElem hi]
    rfl
   have hpos : 0 < ((ns.map V.int).length : Int) := by rw [hl]; exact e1'
   walk_at "rd"
   refine ⟨_, _, _, _, rfl, rfl, hS4, hv, ?_⟩
  all_goals
   walk_at "rd"
   refine iteD2 (fun e2 => iteT ?_) (fun e2 => ?_)
   ·walk_at "rd"
    exact q _ _ (Int.emod_nonneg _ (by omega)) (Int.emod_lt_of_pos _ hm) ⟨0, k + 1, by omega, by omega, upd_same, hS4⟩ (hX.trans (sameX_upd _))
   ·walk_at "rd"
    refine iteD2 (fun e3 => ?_) (fun e3 => ?_)
    ·walk_at "rd"
     exact q _ _ (Int.emod_nonneg _ (by omega)) (Int.emod_lt_of_pos _ hm) ⟨0, k + 1, by omega, by omega, upd_same, hS4⟩ (hX.trans (sameX_upd _))
    ·walk_at "rd"
     rw [hl] at e2
     refine ⟨_, ?_, _, k + 1, _, _, _, rfl, ?_, ?_, upd_same, penS upd_same hS4 (sameX_upd _), (hX.trans (sameX_upd _)).trans (sameX_upd _), rfl⟩ <;> omega
 ·have e0 : z ≠ 0 := ne_of_int e
  have hcd : CDiv z m := ⟨hm, hm2⟩
  walk_at "rd"
  refine q _ _ (Int.emod_nonneg _ (by omega)) (Int.emod_lt_of_pos _ hm) ⟨z / m, k, Int.ediv_nonneg hz (by omega), hk, upd_same, hS3 _⟩ (hX.trans (sameX_upd _))
theorem ok2_law_take {a : Addr} {ns : List Int} {P : Program} {w : World} {K : PySem.W.Frag} {mg : Str → Option Value} {base : Heap} {f : Addr} {fd : FuncData} (F : Fun K "_law_take" "_law_take" s_law_take f fd) (B : Bl K mg) :
  FnOk P w K mg base CX0 1 f fd ["_law_pen", "_law_many"] (spM (PenP K a ns) 2 m_law_take) := (ok_law_take F B).imp take_of
abbrev s_law_common : Stmt := top 15
theorem sc_law_common : FnScope ["_law_one", "_law_other"] ["_law_one", "_law_other"] (defScope s_law_common) := ⟨rfl, rfl, rfl, by decide +kernel, rfl, by decide +kernel, by decide +kernel⟩
theorem ok_law_common {P0 : Addr → Hp → Prop} {P : Program} {w : World} {K : PySem.W.Frag} {mg : Str → Option Value} {base : Heap} {f : Addr} {fd : FuncData} (F : Fun K "_law_common" "_law_common" s_law_common f fd) (B : Bl K mg) (Kt : Kit K) :
  FnOk P w K mg base CX0 1 f fd ["_law_one", "_law_other"] (spM P0 2 m_law_common) :=
 F.okV sc_law_common rfl rfl fun cdv A outer s H E hr =>
 have hu := hr.units
 ⟨_, (pss_cons (ps_set (i := 0) sc_law_common.nd rfl (by first | exact Or.inl rfl | exact Or.inr rfl) (pe_callB call_abs rfl B.abs_ boot_abs (pa_cons (pv 0) pa_nil)))
   (pss_cons (ps_set (i := 1) sc_law_common.nd rfl (by first | exact Or.inl rfl | exact Or.inr rfl) (pe_callB call_abs rfl B.abs_ boot_abs (pa_cons (pv 1) pa_nil)))
   (pss_cons (ps_while PassesOwn.never (pt_cmpR op_gt (pv 1) pe_int (nomark _)) (pss_one (ps_par (i := 0) (j := 1) rfl sc_law_common.nd rfl rfl (by decide) rfl rfl (pa_cons (pv 1) (pa_cons (pe_op op_mod (pv 0) (pv 1)) pa_nil)) rfl)))
   (pss_one (ps_ret (pv 0)))))),
  ((vs_seq (vs_set (vo_val (vt_abs vt_var)))
   (vs_seq (vs_set (vo_val (vt_abs vt_var)))
   (vs_seq (vs_while (vtt_val (vt_gt vt_var vt_int)) (vs_par (vd_cons vt_var (vd_cons (vt_mod vt_var vt_var) vd_nil))))
   (vs_ret (vo_val vt_var))))) : VS P0 _ b_law_common)⟩
abbrev s_law_whole : Stmt := top 16
theorem sc_law_whole : FnScope ["_law_pen", "_law_found", "_law_k"] ["_law_pen"] (defScope s_law_whole) := ⟨rfl, rfl, rfl, by decide +kernel, rfl, by decide +kernel, by decide +kernel⟩
theorem ok_law_whole {P0 : Addr → Hp → Prop} {P : Program} {w : World} {K : PySem.W.Frag} {mg : Str → Option Value} {base : Heap} {f : Addr} {fd : FuncData} (F : Fun K "_law_whole" "_law_whole" s_law_whole f fd) (B : Bl K mg) (Kt : Kit K)
  (c_law_take : Cal P w K mg base 1 "_law_take" ["_law_pen", "_law_many"] (spM P0 2 m_law_take)) :
  FnOk P w K mg base CX0 2 f fd ["_law_pen"] (spM P0 1 m_law_whole) :=
 F.okV sc_law_whole rfl rfl fun cdv A outer s H E hr =>
 have hu := hr.units
 ⟨_, (pss_cons (ps_set (i := 1) sc_law_whole.nd rfl (by first | exact Or.inl rfl | exact Or.inr rfl) pe_int)
   (pss_cons (ps_for PassesOwn.never rfl (pi_range1 rfl B.range_ (pa_cons (pe_callC c_law_take hr rfl (pa_cons (pv 0) (pa_cons pe_int pa_nil))) pa_nil)) (pg_name (i := 2) sc_law_whole.nd rfl (by first | exact Or.inl rfl | exact Or.inr rfl)) (pss_one (ps_set (i := 1) sc_law_whole.nd rfl (by first | exact Or.inl rfl | exact Or.inr rfl) (pe_op op_add (pe_op op_mulX (pv 1) (pe_powC (v := 1000000) (by decide) ⟨by decide, by decide, by decide⟩)) (pe_callC c_law_take hr rfl (pa_cons (pv 0) (pa_cons (pe_powC (v := 1000000) (by decide) ⟨by decide, by decide, by decide⟩) pa_nil)))))))
   (pss_cons (ps_if (pt_cmpR (op_eqD hu) (pe_callC c_law_take hr rfl (pa_cons (pv 0) (pa_cons pe_int pa_nil))) pe_int (nomark _)) (pss_one (ps_set (i := 1) sc_law_whole.nd rfl (by first | exact Or.inl rfl | exact Or.inr rfl) (pe_callC c_law_take hr rfl (pa_cons (pv 0) (pa_cons pe_int pa_nil))))) pss_nil)
   (pss_one (ps_ret (pe_op op_mulX (pv 1) (pe_ix ix_seq (pe_lst (pa_cons pe_int (pa_cons (pe_un un_neg pe_int) pa_nil))) (pe_callC c_law_take hr rfl (pa_cons (pv 0) (pa_cons pe_int pa_nil))) (fun _ _ => rfl)))))))),
  ((vs_seq (vs_set (vo_val vt_int))
   (vs_seq (vs_for (vi_rng1 (vd_cons (vt_pub (vo_call (va_pen (va_val vt_int va_nil)))) vd_nil)) vg_name (vs_set (vo_val (vt_add (vt_mul vt_var vt_int) (vt_pub (vo_call (va_pen (va_val vt_int va_nil))))))))
   (vs_seq (vs_if (vtt_val (vt_eq (vt_pub (vo_call (va_pen (va_val vt_int va_nil)))) vt_int)) (vs_set (vo_val (vt_pub (vo_call (va_pen (va_val vt_int va_nil)))))) vs_nx)
   (vs_ret (vo_val (vt_mul vt_var (vt_ix (vt_pub (vo_lst (vd_cons vt_int (vd_cons (vt_neg vt_int) vd_nil)))) (vt_pub (vo_call (va_pen (va_val vt_int va_nil))))))))))) : VS P0 _ b_law_whole)⟩
abbrev s_law_is_whole : Stmt := top 17
theorem sc_law_is_whole : FnScope ["_law_thing"] ["_law_thing"] (defScope s_law_is_whole) := ⟨rfl, rfl, rfl, by decide +kernel, rfl, by decide +kernel, by decide +kernel⟩
theorem ok_law_is_whole {P0 : Addr → Hp → Prop} {P : Program} {w : World} {K : PySem.W.Frag} {mg : Str → Option Value} {base : Heap} {f : Addr} {fd : FuncData} (F : Fun K "_law_is_whole" "_law_is_whole" s_law_is_whole f fd) (B : Bl K mg) (Kt : Kit K) :
  FnOk P w K mg base CX0 1 f fd ["_law_thing"] (spM P0 1 m_law_is_whole) :=
 F.okV sc_law_is_whole rfl rfl fun cdv A outer s H E hr =>
 have hu := hr.units
 ⟨_, (pss_one (ps_ret (pe_and (pe_callB call_isi rfl B.isinstance_ boot_isinstance (pa_cons (pv 0) (pa_cons (pe_bltn (v := .ty "int") rfl B.int_ boot_int rfl) pa_nil))) (pe_one (pe_not (pe_callB call_isi rfl B.isinstance_ boot_isinstance (pa_cons (pv 0) (pa_cons (pe_bltn (v := .ty "bool") rfl B.bool_ boot_bool rfl) pa_nil)))))))),
  ((vs_ret (vo_val (vt_and (vt_isi Kt (by decide) vt_var) (vt_not (vt_isi Kt (by decide) vt_var))))) : VS P0 _ b_law_is_whole)⟩
abbrev s_law_due : Stmt := top 18
theorem sc_law_due : FnScope ["_law_thing"] ["_law_thing"] (defScope s_law_due) := ⟨rfl, rfl, rfl, by decide +kernel, rfl, by decide +kernel, by decide +kernel⟩
theorem ok_law_due {P0 : Addr → Hp → Prop} {P : Program} {w : World} {K : PySem.W.Frag} {mg : Str → Option Value} {base : Heap} {f : Addr} {fd : FuncData} (F : Fun K "_law_due" "_law_due" s_law_due f fd) (B : Bl K mg) (Kt : Kit K)
  (c_law_common : Cal P w K mg base 1 "_law_common" ["_law_one", "_law_other"] (spM P0 2 m_law_common))
  (c_law_is_whole : Cal P w K mg base 1 "_law_is_whole" ["_law_thing"] (spM P0 1 m_law_is_whole)) :
  FnOk P w K mg base CX0 2 f fd ["_law_thing"] (spM P0 1 m_law_due) :=
 F.okV sc_law_due rfl rfl fun cdv A outer s H E hr =>
 have hu := hr.units
 ⟨_, (pss_cons (ps_if (PW.pt (pw_or (pt_not (pt_val (pe_callB call_isi rfl B.isinstance_ boot_isinstance (pa_cons (pv 0) (pa_cons (pe_bltn (v := .ty "tuple") rfl B.tuple_ boot_tuple rfl) pa_nil))))) (pw_or (pt_cmpR (op_neD hu) (pe_callB call_len_seq rfl B.len_ boot_len (pa_cons (pv 0) pa_nil)) pe_int (nomark _)) (pw_or (pt_not (pt_val (pe_callC c_law_is_whole hr rfl (pa_cons (pe_ix ix_seq (pv 0) pe_int (fun _ _ => rfl)) pa_nil)))) (pw_or1 (pt_not (pt_val (pe_callC c_law_is_whole hr rfl (pa_cons (pe_ix ix_seq (pv 0) pe_int (fun _ _ => rfl)) pa_nil))))))))) (pss_one (ps_ret pe_bl)) pss_nil)
   (pss_one (ps_ret (pe_and (pe_cmpR op_gt (pe_ix ix_seq (pv 0) pe_int (fun _ _ => rfl)) pe_int (nomark _)) (pe_one (pe_cmpR (op_eqD hu) (pe_callC c_law_common hr rfl (pa_cons (pe_ix ix_seq (pv 0) pe_int (fun _ _ => rfl)) (pa_cons (pe_ix ix_seq (pv 0) pe_int (fun _ _ => rfl)) pa_nil))) pe_int (nomark _))))))),
  ((vs_seq (vs_if (vtt_or (vtt_not (vtt_b (vt_isi Kt (by decide) vt_var))) (vtt_or (vtt_val (vt_ne (vt_len vt_var) vt_int)) (vtt_or (vtt_not (vtt_b (vt_pub (vo_call (va_val (vt_ix vt_var vt_int) va_nil))))) (vtt_not (vtt_b (vt_pub (vo_call (va_val (vt_ix vt_var vt_int) va_nil)))))))) (vs_ret (vo_val vt_bl)) vs_nx)
   (vs_ret (vo_val (vt_and (vt_gt (vt_ix vt_var vt_int) vt_int) (vt_eq (vt_pub (vo_call (va_val (vt_ix vt_var vt_int) (va_val (vt_ix vt_var vt_int) va_nil)))) vt_int))))) : VS P0 _ b_law_due)⟩
abbrev s_law_refused : Stmt := top 19
theorem sc_law_refused : FnScope ["_law_top", "_law_bottom", "_law_caught", "e"] ["_law_top", "_law_bottom"] (defScope s_law_refused) := ⟨rfl, rfl, rfl, by decide +kernel, rfl, by decide +kernel, by decide +kernel⟩
local macro_rules | `(tactic| walk_at "rd1") => `(tactic| first
 | refine ⟨_, rfl, ?_⟩
 | refine ⟨_, _, rfl, rfl, ?_⟩
 | refine And.intro rfl ?_
 | refine And.intro (small_b rfl) ?_
 | refine ⟨_, _, _, _, rfl, rfl, SqT.of (by assumption), rfl, ?_⟩
 | refine ⟨_, _, _, _, rfl, rfl, SqL.of (by assumption), rfl, ?_⟩
 | refine ⟨_, _, _, _, rfl, rfl, SqL.of upd_same, rfl, ?_⟩
 | refine ⟨_, _, _, _, rfl, rfl, (by assumption), rfl, ?_⟩
 | refine ⟨_, _, _, _, rfl, rfl, upd_same, rfl, ?_⟩
 | refine ⟨_, _, by assumption, by assumption, good_num _, good_num _, ?_⟩
 | refine ⟨_, _, by assumption, by assumption, good_line _, good_line _, ?_⟩
 | refine And.intro (mulB (by assumption) (by assumption)) ?_
 | refine And.intro (.inl (by decide)) ?_
 | refine And.intro (CMul_mod (by decide) (by decide)) ?_
 | refine And.intro (.inr (by decide)) ?_
 | refine ⟨_, _, rfl, .inl (by assumption), ?_⟩
 | refine ⟨_, _, rfl, .inr (SqT.of (by assumption)), ?_⟩
 | refine And.intro (by assumption) ?_
 | refine And.intro ⟨by decide, by decide⟩ ?_
 | refine And.intro ⟨by decide, by decide, by decide⟩ ?_
 | refine And.intro (show (0 : Int) < _ by decide) ?_
 | refine And.intro (by decide) ?_
 | refine ⟨_, _, rfl, ?_⟩)
local macro_rules | `(tactic| walk_at "rd") => `(tactic| repeat walk_at "rd1")
theorem okh_is_whole {P : Program} {w : World} {K : PySem.W.Frag} {mg : Str → Option Value} {base : Heap} {f : Addr} {fd : FuncData} (F : Fun K "is_whole" "is_whole" s_is_whole f fd) (B : Bl K mg) :
  FnOk P w K mg base CX0 1 f fd ["thing"] (spWhole K) := by
 refine F.ok sc_is_whole (fun vs H Q E h => ?_) (fun cdv A outer s H vs Q E hr h => ?_)
 ·obtain ⟨x, t, bi, bb, rfl, ty, ei, eb, q⟩ := h
  rfl
 have hu := hr.units
 obtain ⟨x, t, bi, bb, rfl, ty, ei, eb, q⟩ := h
 refine ⟨_, (pss_one (ps_ret (pe_and (pe_callB call_isi rfl B.isinstance_ boot_isinstance (pa_cons (pv 0) (pa_cons (pe_bltn (v := .ty "int") rfl B.int_ boot_int rfl) pa_nil))) (pe_one (pe_not (pe_callB call_isi rfl B.isinstance_ boot_isinstance (pa_cons (pv 0) (pa_cons (pe_bltn (v := .ty "bool") rfl B.bool_ boot_bool rfl) pa_nil)))))))), ?_⟩
 refine ⟨_, rfl, _, _, _, t, bi, rfl, rfl, ty, ei, _, rfl, ?_⟩
 cases bi with
 | false => exact iteF q
 | true =>
  refine iteT ?_
  exact ⟨_, rfl, _, _, _, t, bb, rfl, rfl, ty, eb, _, rfl, q⟩
noncomputable def spNo (C : Addr) : Sp := fun vs H _ E => ∃ x y d e, vs = [x, y] ∧ Dt H x d ∧ Dt H y e ∧ noNum d e ∧ ∀ ea, E (.ref C) (some ea) H
theorem whole_rd {K : PySem.W.Frag} {H : Hp} {x : V} {d : D} (Kt : Kit K) (h : Dt H x d) : TyOf K H x (.type (kindD d)) ∧ PySem.W.kitOne K (.type (kindD d)) (.type "int") = some (subT (kindD d) "int") ∧ PySem.W.kitOne K (.type (kindD d)) (.type "bool") = some (subT (kindD d) "bool") := by
 obtain ⟨h1, h2⟩ := tyOf_of (K := K) h
 exact ⟨h1, Kt _ h2 _ (by decide), Kt _ h2 _ (by decide)⟩
theorem ok1_number_of {P : Program} {w : World} {K : PySem.W.Frag} {mg : Str → Option Value} {base : Heap} {f : Addr} {fd : FuncData} {C : Addr} {sg : Sp} (F : Fun K "number_of" "number_of" s_number_of f fd) (B : Bl K mg) (Kt : Kit K) (hmC : mg "NoNumber" = some (.ref C)) (zC : XCls K C)
  (c_is_whole : Cal P w K mg base 1 "is_whole" ["thing"] (spWhole K)) (c_greatest_divisor : Cal P w K mg base 1 "greatest_divisor" ["one", "other"] sg) :
  FnOk P w K mg base (CX1 P w) 2 f fd ["top", "bottom"] (spNo C) := by
 refine F.ok1 sc_number_of (fun vs H Q E h => ?_) (fun cdv A outer s H vs Q E hr h => ?_)
 ·obtain ⟨x, y, d, e, rfl, _⟩ := h
  rfl
 have hu := hr.units
 obtain ⟨x, y, d, e, rfl, hx, hy, hn, q⟩ := h
 obtain ⟨tx, ix, bx⟩ := whole_rd Kt hx
 obtain ⟨ty, iy, b_y⟩ := whole_rd Kt hy
 refine ⟨_, (pss_cons (ps_if (PW.pt (pw_or (pt_not (pt_val (pe_callC c_is_whole hr rfl (pa_cons (pv 0) pa_nil)))) (pw_or (pt_not (pt_val (pe_callC c_is_whole hr rfl (pa_cons (pv 1) pa_nil)))) (pw_or1 (pt_cmpR (op_eqD hu) (pv 1) pe_int (nomark _)))))) (pss_one (ps_raise (C := C) (E := E) (fun _ _ _ _ _ _ _ I hx hE => I.leave1 rfl rfl rfl hx hE) rfl rfl hmC zC.ex PySem.F.excBase_ValueError (pa_cons pe_str pa_nil))) pss_nil)
   (pss_cons (ps_set (i := 2) sc_number_of.nd rfl (by first | exact Or.inl rfl | exact Or.inr rfl) (pe_callC c_greatest_divisor hr rfl (pa_cons (pv 0) (pa_cons (pv 1) pa_nil))))
   (pss_cons (ps_if (pt_cmpR op_lt (pv 1) pe_int (nomark _)) (pss_one (ps_set (i := 2) sc_number_of.nd rfl (by first | exact Or.inl rfl | exact Or.inr rfl) (pe_un un_neg (pv 2)))) pss_nil)
   (pss_one (ps_ret (pe_tup (pa_cons (pe_op op_fdivX (pv 0) (pv 2)) (pa_cons (pe_op op_fdivX (pv 1) (pv 2)) pa_nil)))))))), ?_⟩
 refine ⟨_, rfl, _, _, _, _, rfl, tx, ix, bx, _, rfl, ?_⟩
 by_cases h1 : ∃ i, d = .int i
 ·obtain ⟨i, rfl⟩ := h1
  refine iteF ?_
  refine ⟨_, rfl, _, _, _, _, rfl, ty, iy, b_y, _, rfl, ?_⟩
  by_cases h2 : ∃ j, e = .int j
  ·obtain ⟨j, rfl⟩ := h2
   have z : j = 0 := Decidable.byContradiction fun z => hn ⟨i, j, rfl, rfl, z⟩
   subst z
   refine iteF ?_
   refine ⟨_, rfl, _, _, hy, .int _, good_int _, good_int _, _, rfl, ?_⟩
   refine iteT ?_
   exact ⟨small_b rfl, q⟩
  ·cases e <;> first | exact absurd ⟨_, rfl⟩ h2 | exact iteT (iteT ⟨small_b rfl, q⟩)
 ·cases d <;> first | exact absurd ⟨_, rfl⟩ h1 | exact iteT (iteT ⟨small_b rfl, q⟩)
structure Xcs (K : PySem.W.Frag) (mg : Str → Option Value) (C D0 c0 c1 c2 c3 c4 : Addr) : Prop where
 hC : mg "NoNumber" = some (.ref C)
 zC : XCls K C
 hD : mg "LeadError" = some (.ref D0)
 zD : XCls K D0
 sub : PySem.W.mroIn K C (.ref D0) = some true
 hV : mg "ValueError" = none
 h_c0 : mg "NoKey" = some (.ref c0)
 h_c1 : mg "NoLog" = some (.ref c1)
 h_c2 : mg "NoRow" = some (.ref c2)
 h_c3 : mg "NoText" = some (.ref c3)
 h_c4 : mg "NoTime" = some (.ref c4)
 no : PySem.W.kitAny K (.ref C) [.ref c0, .ref c1, .ref c2, .ref c3, .ref c4] = some false
 yes : PySem.W.kitOne K (.ref C) (.ref C) = some true
 val : PySem.W.kitOne K (.ref C) (.type "ValueError") = some true
noncomputable def spRef : Sp := fun vs H Q _ => ∃ x y d e, vs = [x, y] ∧ Dt H x d ∧ Dt H y e ∧ noNum d e ∧ ∀ H', Same H H' → Q (.bl true) H'
theorem okh_law_refused {P : Program} {w : World} {K : PySem.W.Frag} {mg : Str → Option Value} {base : Heap} {f : Addr} {fd : FuncData} {C : Addr} {D0 c0 c1 c2 c3 c4 f1 : Addr} {fd1 : FuncData} (F : Fun K "_law_refused" "_law_refused" s_law_refused f fd) (B : Bl K mg) (x : Xcs K mg C D0 c0 c1 c2 c3 c4)
  (F1 : FnOk P w K mg base (CX1 P w) 2 f1 fd1 ["top", "bottom"] (spNo C)) (hm1 : mg "number_of" = some (.ref f1)) (hk1 : PySem.W.keepIn K (.ref f1) = true) (hb1 : Binds K fd1 ["top", "bottom"] []) :
  FnOk P w K mg base CX0 3 f fd ["_law_top", "_law_bottom"] spRef := by
 refine F.ok sc_law_refused (fun vs H Q E h => ?_) (fun cdv A outer s H vs Q E hr h => ?_)
 ·obtain ⟨x, y, d, e, rfl, _⟩ := h
  rfl
 have hu := hr.units
 obtain ⟨v1, v2, d, e, rfl, h1, h2, hn, q⟩ := h
 refine ⟨_, (pss_cons (ps_set (i := 2) sc_law_refused.nd rfl (by first | exact Or.inl rfl | exact Or.inr rfl) pe_non)
  (pss_cons (ps_try (i := 3) (j := 2) F1 hr rfl rfl rfl hm1 hk1 hb1 (pa_cons (pv 0) (pa_cons (pv 1) pa_nil)) rfl x.hD x.zC x.zD x.sub sc_law_refused.nd rfl rfl (Or.inl rfl) (Or.inl rfl) rfl (Or.inl rfl) (.inl rfl) (.inl rfl))
  (pss_cons (ps_if (pt_val (pe_callB call_isX rfl B.isinstance_ boot_isinstance (pa_cons (pv 2) (pa_cons (pe_tup (pa_cons (pe_glob (v := .ref c0) rfl x.h_c0 rfl) (pa_cons (pe_glob (v := .ref c1) rfl x.h_c1 rfl) (pa_cons (pe_glob (v := .ref c2) rfl x.h_c2 rfl) (pa_cons (pe_glob (v := .ref c3) rfl x.h_c3 rfl) (pa_cons (pe_glob (v := .ref c4) rfl x.h_c4 rfl) pa_nil)))))) pa_nil)))) (pss_one (ps_ret pe_bl)) pss_nil)
  (pss_one (ps_ret (pe_and (pe_callB call_isX rfl B.isinstance_ boot_isinstance (pa_cons (pv 2) (pa_cons (pe_glob (v := .ref C) rfl x.hC rfl) pa_nil))) (pe_one (pe_callB call_isX rfl B.isinstance_ boot_isinstance (pa_cons (pv 2) (pa_cons (pe_bltn (v := .ty "ValueError") rfl x.hV PyProof.Rows.Boot.«ValueError» rfl) pa_nil)))))))))), ?_⟩
 refine ⟨_, rfl, _, rfl, v1, v2, d, e, rfl, h1, h2, hn, fun ea => ⟨ea, rfl, rfl, fun hne => ?_⟩⟩
 refine ⟨_, rfl, small_b rfl, fun tp htp => ?_⟩
 have hE : upd (upd H ea (ExO ea C)) tp (.tup [.ref c0, .ref c1, .ref c2, .ref c3, .ref c4]) ea = some (ExO ea C) := by
  rw [upd_ne (fun z => by rw [← z, upd_same] at htp; cases htp), upd_same]
 refine ⟨ea, C, _, false, rfl, hE, x.zC, .inr ⟨tp, _, _, rfl, upd_same, fun vs hv => ?_, x.no⟩, _, rfl, ?_⟩
 ·cases hv with
  | cons a0 r0 =>
   cases r0 with
   | cons a1 r1 =>
    cases r1 with
    | cons a2 r2 =>
     cases r2 with
     | cons a3 r3 =>
      cases r3 with
      | cons a4 r4 =>
       cases r4
       cases (show _ = Value.ref c0 from a0)
       cases (show _ = Value.ref c1 from a1)
       cases (show _ = Value.ref c2 from a2)
       cases (show _ = Value.ref c3 from a3)
       cases (show _ = Value.ref c4 from a4)
       rfl
 refine iteF ?_
 refine ⟨_, rfl, ea, C, _, true, rfl, hE, x.zC, .inl ⟨_, fun v hv => hv, x.yes⟩, _, rfl, ?_⟩
 refine iteT ?_
 exact ⟨_, rfl, ea, C, _, true, rfl, hE, x.zC, .inl ⟨_, fun v hv => hv, x.val⟩, q _ ((same_new hne _).trans (same_new htp _))⟩
theorem refused_of {P0 : Addr → Hp → Prop} : ∀ vs H Q E, spM P0 2 m_law_refused vs H Q E → spRef vs H Q E := by
 rintro vs H Q E ⟨F, as, Qm, rfl, rf, pr, hl, ⟨d, e, rfl, hn, hq⟩, q⟩
 cases pr with
 | cons a1 b1 =>
  cases b1 with
  | cons a2 b2 =>
   cases b2
   have a1 : Dt F.G0 _ d := a1
   have a2 : Dt F.G0 _ e := a2
   refine ⟨_, _, d, e, rfl, Dt.same rf.sub _ _ a1, Dt.same rf.sub _ _ a2, hn, fun H' hs => ?_⟩
   exact q _ _ F.G0 H' hq ⟨fun b o e => hs b o (rf.sub b o e), fun _ _ _ => rfl, fun b o e _ => hs b o e, F.stab' F.H0 H' (fun b o e => by rw [hs b o e, e]) rf.pn⟩ (.bl _)
abbrev s_law_things : Stmt := top 20
theorem sc_law_things : FnScope ["_law_one", "_law_other", "_law_some"] ["_law_one", "_law_other"] (defScope s_law_things) := ⟨rfl, rfl, rfl, by decide +kernel, rfl, by decide +kernel, by decide +kernel⟩
theorem ok_law_things {P0 : Addr → Hp → Prop} {P : Program} {w : World} {K : PySem.W.Frag} {mg : Str → Option Value} {base : Heap} {f : Addr} {fd : FuncData} (F : Fun K "_law_things" "_law_things" s_law_things f fd) (B : Bl K mg) (Kt : Kit K) :
  FnOk P w K mg base CX0 1 f fd ["_law_one", "_law_other"] (spM P0 2 m_law_things) :=
 F.okV sc_law_things rfl rfl fun cdv A outer s H E hr =>
 have hu := hr.units
 ⟨_, (pss_cons (ps_set (i := 2) sc_law_things.nd rfl (by first | exact Or.inl rfl | exact Or.inr rfl) (pe_lst (pa_cons (pe_tup (pa_cons (pv 0) (pa_cons (pv 1) pa_nil))) (pa_cons (pe_tup (pa_cons (pv 0) (pa_cons (pe_op op_sub pe_int (pv 1)) pa_nil))) (pa_cons (pe_lst (pa_cons (pv 0) (pa_cons (pv 1) pa_nil))) (pa_cons (pe_tup (pa_cons (pv 0) pa_nil)) (pa_cons (pe_tup (pa_cons (pv 0) (pa_cons (pv 1) (pa_cons pe_int pa_nil)))) (pa_cons (pv 0) (pa_cons pe_non (pa_cons pe_str (pa_cons (pe_tup pa_nil) (pa_cons pe_dic0 (pa_cons (pe_tup (pa_cons (pv 0) (pa_cons pe_int pa_nil))) pa_nil)))))))))))))
   (pss_cons (ps_set (i := 2) sc_law_things.nd rfl (by first | exact Or.inl rfl | exact Or.inr rfl) (pe_op op_cat (pv 2) (pe_lst (pa_cons (pe_tup (pa_cons pe_int (pa_cons (pv 1) pa_nil))) (pa_cons (pe_tup (pa_cons pe_int (pa_cons pe_int pa_nil))) (pa_cons (pe_tup (pa_cons pe_int (pa_cons (pe_un un_neg pe_int) pa_nil))) (pa_cons (pe_tup (pa_cons (pv 0) (pa_cons pe_int pa_nil))) (pa_cons (pe_tup (pa_cons (pv 0) (pa_cons (pe_un un_neg pe_int) pa_nil))) (pa_cons (pe_tup (pa_cons pe_bl (pa_cons (pv 1) pa_nil))) (pa_cons (pe_tup (pa_cons (pv 0) (pa_cons pe_bl pa_nil))) (pa_cons (pe_tup (pa_cons (pv 0) (pa_cons pe_bl pa_nil))) (pa_cons pe_bl pa_nil))))))))))))
   (pss_cons (ps_set (i := 2) sc_law_things.nd rfl (by first | exact Or.inl rfl | exact Or.inr rfl) (pe_op op_cat (pv 2) (pe_lst (pa_cons (pe_tup (pa_cons (pe_tup (pa_cons (pv 0) (pa_cons pe_int pa_nil))) (pa_cons pe_int pa_nil))) (pa_cons (pe_tup (pa_cons (pv 0) (pa_cons (pe_tup (pa_cons pe_int pa_nil)) pa_nil))) (pa_cons (pe_tup (pa_cons pe_non (pa_cons pe_int pa_nil))) (pa_cons (pe_tup (pa_cons pe_int (pa_cons pe_non pa_nil))) (pa_cons (pe_tup (pa_cons pe_str (pa_cons pe_int pa_nil))) (pa_cons (pe_tup (pa_cons (pv 0) (pa_cons pe_str pa_nil))) (pa_cons (pe_lst (pa_cons (pe_tup (pa_cons (pv 0) (pa_cons pe_int pa_nil))) pa_nil)) pa_nil))))))))))
   (pss_one (ps_ret (pe_op op_cat (pv 2) (pe_lst (pa_cons (pe_tup (pa_cons (pv 0) (pa_cons (pv 0) pa_nil))) (pa_cons (pe_tup (pa_cons (pv 1) (pa_cons (pv 1) pa_nil))) (pa_cons (pe_tup (pa_cons (pe_op op_mulX (pe_op op_fdiv (pv 0) pe_int) pe_int) (pa_cons pe_int pa_nil))) (pa_cons (pe_tup (pa_cons (pe_op op_add (pe_op op_mulX (pe_op op_fdiv (pv 0) pe_int) pe_int) pe_int) (pa_cons pe_int pa_nil))) pa_nil))))))))))),
  ((vs_seq (vs_set (vo_val (vt_pub (vo_lst (vd_cons (vt_tup (vd_cons vt_var (vd_cons vt_var vd_nil))) (vd_cons (vt_tup (vd_cons vt_var (vd_cons (vt_sub vt_int vt_var) vd_nil))) (vd_cons (vt_pub (vo_lst (vd_cons vt_var (vd_cons vt_var vd_nil)))) (vd_cons (vt_tup (vd_cons vt_var vd_nil)) (vd_cons (vt_tup (vd_cons vt_var (vd_cons vt_var (vd_cons vt_int vd_nil)))) (vd_cons vt_var (vd_cons vt_non (vd_cons vt_str (vd_cons (vt_tup vd_nil) (vd_cons vt_dic0 (vd_cons (vt_tup (vd_cons vt_var (vd_cons vt_int vd_nil))) vd_nil)))))))))))))))
   (vs_seq (vs_set (vo_val (vt_pub (vo_cat vt_var (vt_pub (vo_lst (vd_cons (vt_tup (vd_cons vt_int (vd_cons vt_var vd_nil))) (vd_cons (vt_tup (vd_cons vt_int (vd_cons vt_int vd_nil))) (vd_cons (vt_tup (vd_cons vt_int (vd_cons (vt_neg vt_int) vd_nil))) (vd_cons (vt_tup (vd_cons vt_var (vd_cons vt_int vd_nil))) (vd_cons (vt_tup (vd_cons vt_var (vd_cons (vt_neg vt_int) vd_nil))) (vd_cons (vt_tup (vd_cons vt_bl (vd_cons vt_var vd_nil))) (vd_cons (vt_tup (vd_cons vt_var (vd_cons vt_bl vd_nil))) (vd_cons (vt_tup (vd_cons vt_var (vd_cons vt_bl vd_nil))) (vd_cons vt_bl vd_nil)))))))))))))))
   (vs_seq (vs_set (vo_val (vt_pub (vo_cat vt_var (vt_pub (vo_lst (vd_cons (vt_tup (vd_cons (vt_tup (vd_cons vt_var (vd_cons vt_int vd_nil))) (vd_cons vt_int vd_nil))) (vd_cons (vt_tup (vd_cons vt_var (vd_cons (vt_tup (vd_cons vt_int vd_nil)) vd_nil))) (vd_cons (vt_tup (vd_cons vt_non (vd_cons vt_int vd_nil))) (vd_cons (vt_tup (vd_cons vt_int (vd_cons vt_non vd_nil))) (vd_cons (vt_tup (vd_cons vt_str (vd_cons vt_int vd_nil))) (vd_cons (vt_tup (vd_cons vt_var (vd_cons vt_str vd_nil))) (vd_cons (vt_pub (vo_lst (vd_cons (vt_tup (vd_cons vt_var (vd_cons vt_int vd_nil))) vd_nil))) vd_nil)))))))))))))
   (vs_ret (vo_cat vt_var (vt_pub (vo_lst (vd_cons (vt_tup (vd_cons vt_var (vd_cons vt_var vd_nil))) (vd_cons (vt_tup (vd_cons vt_var (vd_cons vt_var vd_nil))) (vd_cons (vt_tup (vd_cons (vt_mul (vt_div vt_var vt_int) vt_int) (vd_cons vt_int vd_nil))) (vd_cons (vt_tup (vd_cons (vt_add (vt_mul (vt_div vt_var vt_int) vt_int) vt_int) (vd_cons vt_int vd_nil))) vd_nil))))))))))) : VS P0 _ b_law_things)⟩
abbrev s_law : Stmt := top 21
theorem sc_law : FnScope ["_law_script", "_law_pen", "_law_turn", "_law_top", "_law_bottom", "_law_factor", "_law_found", "_law_odd", "_law_thing", "_law_told"] ["_law_script"] (defScope s_law) := ⟨rfl, rfl, rfl, by decide +kernel, rfl, by decide +kernel, by decide +kernel⟩
theorem ok_law {P : Program} {w : World} {K : PySem.W.Frag} {mg : Str → Option Value} {base : Heap} {f : Addr} {fd : FuncData} (F : Fun K "law" "law" s_law f fd) (B : Bl K mg) (Kt : Kit K)
  (c_law_things : ∀ a ns, Cal P w K mg base 1 "_law_things" ["_law_one", "_law_other"] (spM (PenP K a ns) 2 m_law_things))
  (c_law_due : ∀ a ns, Cal P w K mg base 2 "_law_due" ["_law_thing"] (spM (PenP K a ns) 1 m_law_due))
  (c_is_number : ∀ a ns, Cal P w K mg base 2 "is_number" ["thing"] (spM (PenP K a ns) 1 m_is_number))
  (c_law_refused : ∀ a ns, Cal P w K mg base 3 "_law_refused" ["_law_top", "_law_bottom"] (spM (PenP K a ns) 2 m_law_refused))
  (c_law_take : ∀ a ns, Cal P w K mg base 1 "_law_take" ["_law_pen", "_law_many"] (spM (PenP K a ns) 2 m_law_take))
  (c_number_of : ∀ a ns, Cal P w K mg base 2 "number_of" ["top", "bottom"] (spM (PenP K a ns) 2 m_number_of))
  (c_law_whole : ∀ a ns, Cal P w K mg base 2 "_law_whole" ["_law_pen"] (spM (PenP K a ns) 1 m_law_whole))
  (hL : b_law (.no :: .pen :: List.replicate 8 .no) TrueEnd) :
  FnOk P w K mg base CX0 4 f fd ["_law_script"] (spLaw K) := by
 refine F.ok sc_law (fun vs H Q E h => ?_) (fun cdv A outer s H vs Q E hr h => ?_)
 ·obtain ⟨a, ns, rfl, hS, h63, q⟩ := h
  rfl
 have hu := hr.units
 obtain ⟨a, ns, rfl, hS, h63, q⟩ := h
 have c_law_things := c_law_things a ns
 have c_law_due := c_law_due a ns
 have c_is_number := c_is_number a ns
 have c_law_refused := c_law_refused a ns
 have c_law_take := c_law_take a ns
 have c_number_of := c_number_of a ns
 have c_law_whole := c_law_whole a ns
 exact law_body (k := 8) (ps_set (i := 1) sc_law.nd rfl (by first | exact Or.inl rfl | exact Or.inr rfl) (pe_lst (pa_cons (pv 0) (pa_cons pe_int (pa_cons pe_int pa_nil))))) ⟨_, (pss_cons (ps_for PassesOwn.never rfl (pi_range1 rfl B.range_ (pa_cons pe_int pa_nil)) (pg_name (i := 2) sc_law.nd rfl (by first | exact Or.inl rfl | exact Or.inr rfl)) (psi_out (psi_cons (psd_of (ps_set (i := 3) sc_law.nd rfl (by first | exact Or.inl rfl | exact Or.inr rfl) (pe_callC c_law_whole hr rfl (pa_cons (pv 1) pa_nil)))) (psi_cons (psd_of (ps_set (i := 4) sc_law.nd rfl (by first | exact Or.inl rfl | exact Or.inr rfl) (pe_callC c_law_whole hr rfl (pa_cons (pv 1) pa_nil)))) (psi_cons (psd_of (ps_if (pt_cmpR (op_eqD hu) (pe_callC c_law_take hr rfl (pa_cons (pv 1) (pa_cons pe_int pa_nil))) pe_int (nomark _)) (pss_cons (ps_set (i := 5) sc_law.nd rfl (by first | exact Or.inl rfl | exact Or.inr rfl) (pe_op op_add pe_int (pe_callC c_law_take hr rfl (pa_cons (pv 1) (pa_cons pe_int pa_nil)))))
   (pss_cons (ps_set (i := 3) sc_law.nd rfl (by first | exact Or.inl rfl | exact Or.inr rfl) (pe_op op_mulX (pe_op op_fdiv (pv 3) pe_int) (pv 5)))
   (pss_one (ps_set (i := 4) sc_law.nd rfl (by first | exact Or.inl rfl | exact Or.inr rfl) (pe_op op_mulX (pe_op op_fdiv (pv 4) pe_int) (pv 5)))))) pss_nil)) (psi_cons (psd_of (ps_if (pt_cmpR (op_eqD hu) (pv 4) pe_int (nomark _)) (pss_cons (ps_if (pt_not (pt_val (pe_callC c_law_refused hr rfl (pa_cons (pv 3) (pa_cons pe_int pa_nil))))) (pss_one (ps_ret pe_bl)) pss_nil)
   (pss_one (ps_set (i := 4) sc_law.nd rfl (by first | exact Or.inl rfl | exact Or.inr rfl) pe_int))) pss_nil)) (psi_cons (psd_of (ps_set (i := 6) sc_law.nd rfl (by first | exact Or.inl rfl | exact Or.inr rfl) (pe_callC c_number_of hr rfl (pa_cons (pv 3) (pa_cons (pv 4) pa_nil))))) (psi_cons (psd_of (ps_if (PW.pt (pw_or (pt_not (pt_val (pe_callC c_law_due hr rfl (pa_cons (pv 6) pa_nil)))) (pw_or (pt_cmpR (op_neD hu) (pe_op op_mulX (pe_ix ix_seq (pv 6) pe_int (fun _ _ => rfl)) (pv 4)) (pe_op op_mulX (pv 3) (pe_ix ix_seq (pv 6) pe_int (fun _ _ => rfl))) (nomark _)) (pw_or1 (pt_cmpR (op_neD hu) (pe_callC c_number_of hr rfl (pa_cons (pe_ix ix_seq (pv 6) pe_int (fun _ _ => rfl)) (pa_cons (pe_ix ix_seq (pv 6) pe_int (fun _ _ => rfl)) pa_nil))) (pv 6) (nomark _)))))) (pss_one (ps_ret pe_bl)) pss_nil)) (psi_cons (psd_set (i := 7) sc_law.nd rfl (by first | exact Or.inl rfl | exact Or.inr rfl) (ped_ix ix_seq (ped_lst (pad_cons pe_non (pad_cons pe_bl (pad_cons pe_bl (pad_cons pe_str (pad_cons (pe_tup (pa_cons pe_int pa_nil)) (pad_cons (pe_lst (pa_cons pe_int pa_nil)) (pad_cons (pe_tup (pa_cons pe_int (pa_cons pe_int pa_nil))) (pad_cons pe_dic0 (pad_of pa_nil)))))))))) (pe_callC c_law_take hr rfl (pa_cons (pv 1) (pa_cons pe_int pa_nil))) (fun _ _ => rfl))) (psi_cons (psd_of (ps_if (PW.pt (pw_or (pt_not (pt_val (pe_callC c_law_refused hr rfl (pa_cons (pv 7) (pa_cons (pv 4) pa_nil))))) (pw_or (pt_not (pt_val (pe_callC c_law_refused hr rfl (pa_cons (pv 3) (pa_cons (pv 7) pa_nil))))) (pw_or1 (pt_not (pt_val (pe_callC c_law_refused hr rfl (pa_cons (pv 7) (pa_cons (pv 7) pa_nil))))))))) (pss_one (ps_ret pe_bl)) pss_nil)) (psi_of (pss_one (ps_for PassesOwn.never rfl (pi_list (pe_callC c_law_things hr rfl (pa_cons (pv 3) (pa_cons (pv 4) pa_nil)))) (pg_name (i := 8) sc_law.nd rfl (by first | exact Or.inl rfl | exact Or.inr rfl)) (pss_cons (ps_set (i := 9) sc_law.nd rfl (by first | exact Or.inl rfl | exact Or.inr rfl) (pe_callC c_is_number hr rfl (pa_cons (pv 8) pa_nil)))
   (pss_one (ps_if (PW.pt (pw_or (pt_not (pt_val (pe_callB call_isi rfl B.isinstance_ boot_isinstance (pa_cons (pv 9) (pa_cons (pe_bltn (v := .ty "bool") rfl B.bool_ boot_bool rfl) pa_nil))))) (pw_or1 (pt_cmpR (op_neD hu) (pv 9) (pe_callC c_law_due hr rfl (pa_cons (pv 8) pa_nil)) (nomark _))))) (pss_one (ps_ret pe_bl)) pss_nil))))))))))))))))
   (pss_one (ps_ret pe_bl))),
  ((vs_seq (vs_for (vi_rng1 (vd_cons vt_int vd_nil)) vg_name (vs_seq (vs_set (vo_val (vt_pub (vo_call (va_pen va_nil)))))
   (vs_seq (vs_set (vo_val (vt_pub (vo_call (va_pen va_nil)))))
   (vs_seq (vs_if (vtt_val (vt_eq (vt_pub (vo_call (va_pen (va_val vt_int va_nil)))) vt_int)) (vs_seq (vs_set (vo_val (vt_add vt_int (vt_pub (vo_call (va_pen (va_val vt_int va_nil)))))))
   (vs_seq (vs_set (vo_val (vt_mul (vt_div vt_var vt_int) vt_var)))
   (vs_set (vo_val (vt_mul (vt_div vt_var vt_int) vt_var))))) vs_nx)
   (vs_seq (vs_if (vtt_val (vt_eq vt_var vt_int)) (vs_seq (vs_if (vtt_not (vtt_b (vt_pub (vo_call (va_val vt_var (va_val vt_int va_nil)))))) (vs_ret (vo_val vt_bl)) vs_nx)
   (vs_set (vo_val vt_int))) vs_nx)
   (vs_seq (vs_set (vo_val (vt_pub (vo_call (va_val vt_var (va_val vt_var va_nil))))))
   (vs_seq (vs_if (vtt_or (vtt_not (vtt_b (vt_pub (vo_call (va_val vt_var va_nil))))) (vtt_or (vtt_val (vt_ne (vt_mul (vt_ix vt_var vt_int) vt_var) (vt_mul vt_var (vt_ix vt_var vt_int)))) (vtt_val (vt_ne (vt_pub (vo_call (va_val (vt_ix vt_var vt_int) (va_val (vt_ix vt_var vt_int) va_nil)))) vt_var)))) (vs_ret (vo_val vt_bl)) vs_nx)
   (vs_seq (vs_set (vo_val (vt_ix (vt_pub (vo_lst (vd_cons vt_non (vd_cons vt_bl (vd_cons vt_bl (vd_cons vt_str (vd_cons (vt_tup (vd_cons vt_int vd_nil)) (vd_cons (vt_pub (vo_lst (vd_cons vt_int vd_nil))) (vd_cons (vt_tup (vd_cons vt_int (vd_cons vt_int vd_nil))) (vd_cons vt_dic0 vd_nil)))))))))) (vt_pub (vo_call (va_pen (va_val vt_int va_nil)))))))
   (vs_seq (vs_if (vtt_or (vtt_not (vtt_b (vt_pub (vo_call (va_val vt_var (va_val vt_var va_nil)))))) (vtt_or (vtt_not (vtt_b (vt_pub (vo_call (va_val vt_var (va_val vt_var va_nil)))))) (vtt_not (vtt_b (vt_pub (vo_call (va_val vt_var (va_val vt_var va_nil)))))))) (vs_ret (vo_val vt_bl)) vs_nx)
   (vs_for (vi_list (vt_pub (vo_call (va_val vt_var (va_val vt_var va_nil))))) vg_name (vs_seq (vs_set (vo_val (vt_pub (vo_call (va_val vt_var va_nil)))))
   (vs_if (vtt_or (vtt_not (vtt_b (vt_isi Kt (by decide) vt_var))) (vtt_val (vt_ne vt_var (vt_pub (vo_call (va_val vt_var va_nil)))))) (vs_ret (vo_val vt_bl)) vs_nx))))))))))))
   (vs_ret (vo_val vt_bl))) : VS (PenP K a ns) _ b_law)⟩ rfl hS hL q
section
variable {Q : Rv → Prop}
theorem t_whole {i : Int} (q : Q (.val (.bool true))) : m_is_whole [.val (.int i)] Q := by
 refine i_fn ?_
 unfold b_is_whole
 walk_at "vs"
 exact q
theorem t_gcd {a b : Int} (q : Q (.val (.int (Int.gcd a b : Nat)))) : m_greatest_divisor [.val (.int a), .val (.int b)] Q := by
 refine i_fn ?_
 unfold b_greatest_divisor b_greatest_divisor_r1 b_greatest_divisor_l1
 walk_at "vs"
 refine while_inv (fun n Γ => ∃ d r x, Γ = [.val (.int a), .val (.int b), .val (.int d), .val (.int r), x] ∧ 0 ≤ d ∧ 0 ≤ r ∧ Int.gcd d r = Int.gcd a b ∧ n = r.toNat) _ ⟨_, _, .no, rfl, abs_nn a, abs_nn b, abs_gcd a b, rfl⟩ ?_
 rintro m Γ ⟨d, r, x, rfl, hd, hr, hg, rfl⟩
 walk_at "vs"
 refine iteN2 (fun c => ?_) (fun c => ?_)
 ·have hp : 0 < r := by omega
  walk_at "vs"
  refine ⟨hp, ?_⟩
  walk_at "vs"
  have h1 := Int.emod_nonneg d (b := r) (by omega)
  have h2 := Int.emod_lt_of_pos d hp
  exact ⟨_, by omega, _, _, _, rfl, hr, h1, (gcd_step hd hp).trans hg, rfl⟩
 ·subst c
  have e := gcd_end hd
  rw [hg] at e
  walk_at "vs"
  rw [e] at q
  exact q
theorem t_number_of {t b : Int} (h0 : b ≠ 0) (hb : Bt 9000 b) (q : Q (.val (dNum (Rat.divInt t b)))) : m_number_of [.val (.int t), .val (.int b)] Q := by
 have g0 := gcd_ne (t := t) h0
 have g1 := gcd_bt (t := t) hb h0
 refine i_fn ?_
 unfold b_number_of b_number_of_r2 b_number_of_r1
 walk_at "vs"
 refine t_whole ?_
 walk_at "vs"
 refine t_whole ?_
 walk_at "vs"
 refine iteD0 h0 ?_
 walk_at "vs"
 refine t_gcd ?_
 walk_at "vs"
 refine iteD2 (fun c => ?_) (fun c => ?_)
 ·have n := norm_neg (t := t) c
  walk_at "vs"
  refine ⟨⟨by omega, g1.neg⟩, ?_⟩
  walk_at "vs"
  refine ⟨⟨by omega, g1.neg⟩, ?_⟩
  walk_at "vs"
  rw [n.1, n.2]
  exact q
 ·have n := norm_pos (t := t) (b := b) (by omega)
  walk_at "vs"
  refine ⟨⟨g0, g1⟩, ?_⟩
  walk_at "vs"
  refine ⟨⟨g0, g1⟩, ?_⟩
  walk_at "vs"
  rw [n.1, n.2]
  exact q
end
theorem dNum_int (i : Int) : PyData.tuple [.int i, .int 1] = dNum (i : Rat) := by
 unfold dNum
 rw [Rat.num_intCast, Rat.den_intCast]
 rfl
theorem bt31 {k : Nat} {i : Int} (h1 : -2147483648 < i) (h2 : i < 2147483648) (hk : 31 ≤ k := by decide) : Bt k i := by
 refine Bt.mono (k := 31) ?_ hk
 show i.natAbs < 2 ^ 31
 have : (2 : Nat) ^ 31 = 2147483648 := by decide
 omega
theorem sz_small {k : Nat} {i : Int} (h1 : -2147483648 < i) (h2 : i < 2147483648) (hk : 31 ≤ k := by decide) : Sz k (i : Rat) := sz_int (bt31 h1 h2 hk) (by omega)
theorem iteEF {b : Bool} {A B : Prop} [d : Decidable (b = true)] (h : b = false) (hB : B) : @ite Prop (b = true) d A B := by
 subst h
 rw [if_neg (by simp)]
 exact hB
theorem iteET {b : Bool} {A B : Prop} [d : Decidable (b = true)] (h : b = true) (hA : A) : @ite Prop (b = true) d A B := by
 subst h
 rw [if_pos rfl]
 exact hA
theorem iteNE {b : Bool} {A B : Prop} [d : Decidable ((!b) = true)] (h : b = true) (hB : B) : @ite Prop ((!b) = true) d A B := by
 subst h
 rw [if_neg (by simp)]
 exact hB
noncomputable def wh : D → Bool
 | .int _ => true
 | _ => false
noncomputable def numD : D → Bool
 | .tuple [.int a, .int b] => decide (1 ≤ b) && decide (Int.gcd a b = 1)
 | _ => false
theorem wh_or (d : D) : (∃ i, d = .int i) ∨ wh d = false := by
 cases d <;> first | exact .inl ⟨_, rfl⟩ | exact .inr rfl
theorem numD_0 : numD (.tuple []) = false := rfl
theorem numD_1 (x : D) : numD (.tuple [x]) = false := by cases x <;> rfl
theorem numD_3 (x y z : D) (l : List D) : numD (.tuple (x :: y :: z :: l)) = false := by cases x <;> cases y <;> rfl
theorem numD_a {x : D} (y : D) (h : wh x = false) : numD (.tuple [x, y]) = false := by cases x <;> first | rfl | cases h
theorem numD_b {x y : D} (h : wh y = false) : numD (.tuple [x, y]) = false := by cases x <;> cases y <;> first | rfl | cases h
theorem numD_num (r : Rat) : numD (dNum r) = true := by
 have e : Int.gcd r.num r.den = 1 := r.reduced
 have h := r.den_pos
 show (decide (1 ≤ (r.den : Int)) && decide (Int.gcd r.num r.den = 1)) = true
 rw [decide_eq_true e, decide_eq_true (by omega)]
 rfl
section
variable {Q : Rv → Prop}
theorem t_isw {d : D} (q : Q (.val (.bool (wh d)))) : m_is_whole [.val d] Q := by
 refine i_fn ?_
 unfold b_is_whole
 cases d <;> (walk_at "ws"; exact q)
theorem t_lisw {d : D} (q : Q (.val (.bool (wh d)))) : m_law_is_whole [.val d] Q := by
 refine i_fn ?_
 unfold b_law_is_whole
 cases d <;> (walk_at "ws"; exact q)
theorem t_common {a b : Int} (q : Q (.val (.int (Int.gcd a b : Nat)))) : m_law_common [.val (.int a), .val (.int b)] Q := by
 refine i_fn ?_
 unfold b_law_common
 walk_at "ws"
 refine while_inv (fun n Γ => ∃ d r, Γ = [.val (.int d), .val (.int r)] ∧ 0 ≤ d ∧ 0 ≤ r ∧ Int.gcd d r = Int.gcd a b ∧ n = r.toNat) _ ⟨_, _, rfl, abs_nn a, abs_nn b, abs_gcd a b, rfl⟩ ?_
 rintro m Γ ⟨d, r, rfl, hd, hr, hg, rfl⟩
 walk_at "ws"
 refine iteD2 (fun c => ?_) (fun c => ?_)
 ·unfold b_law_common_l1
  walk_at "ws"
  refine ⟨c, ?_⟩
  walk_at "ws"
  have h1 := Int.emod_nonneg d (b := r) (by omega)
  have h2 := Int.emod_lt_of_pos d c
  exact ⟨_, by omega, _, _, rfl, hr, h1, (gcd_step hd c).trans hg, rfl⟩
 ·have c' : r = 0 := by omega
  subst c'
  have e := gcd_end hd
  rw [hg] at e
  walk_at "ws"
  unfold b_law_common_r1
  walk_at "ws"
  rw [e] at q
  exact q
theorem numD_2 {a b : Int} (c : 1 ≤ b) : decide (((Int.gcd a b : Nat) : Int) = 1) = numD (.tuple [.int a, .int b]) := by
 show _ = (decide (1 ≤ b) && decide (Int.gcd a b = 1))
 rw [decide_eq_true c, Bool.true_and, decide_eq_decide]
 omega
theorem numD_2n {a b : Int} (c : ¬ 1 ≤ b) : numD (.tuple [.int a, .int b]) = false := by
 show (decide (1 ≤ b) && decide (Int.gcd a b = 1)) = false
 rw [decide_eq_false c, Bool.false_and]
theorem t_is_number {d : D} (q : Q (.val (.bool (numD d)))) : m_is_number [.val d] Q := by
 refine i_fn ?_
 unfold b_is_number
 cases d with
 | tuple ds =>
  walk_at "ws"
  refine i_oQ (d := .int (ds.length : Int)) rfl ?_
  walk_at "ws"
  match ds, q with
  | [], q =>
   refine iteN2 (fun c => ?_) (fun c => absurd c (by decide))
   walk_at "ws"
   exact q
  | [x], q =>
   refine iteN2 (fun c => ?_) (fun c => absurd c (by simp))
   walk_at "ws"
   rw [numD_1] at q
   exact q
  | x :: y :: z :: l, q =>
   refine iteN2 (fun c => ?_) (fun c => absurd c (by rw [List.length_cons, List.length_cons, List.length_cons]; omega))
   walk_at "ws"
   rw [numD_3] at q
   exact q
  | [x, y], q =>
   refine iteNE (decide_eq_true rfl) ?_
   walk_at "ws"
   unfold b_is_number_r2
   walk_at "ws"
   refine i_oQ (d := x) rfl ?_
   walk_at "ws"
   refine t_isw ?_
   rcases wh_or x with ⟨a, rfl⟩ | hx
   ·refine iteNE rfl ?_
    walk_at "ws"
    refine i_oQ (d := y) rfl ?_
    walk_at "ws"
    refine t_isw ?_
    rcases wh_or y with ⟨b, rfl⟩ | hy
    ·refine iteNE rfl ?_
     walk_at "ws"
     unfold b_is_number_r1
     walk_at "ws"
     refine i_oQ (d := .int b) rfl ?_
     walk_at "ws"
     refine iteD2 (fun c => ?_) (fun c => ?_)
     ·walk_at "ws"
      refine i_oQ (d := .int a) rfl ?_
      walk_at "ws"
      refine i_oQ (d := .int b) rfl ?_
      walk_at "ws"
      refine t_gcd ?_
      walk_at "ws"
      rw [numD_2 c]
      exact q
     ·rw [numD_2n c] at q
      exact q
    ·rw [hy]
     walk_at "ws"
     rw [numD_b hy] at q
     exact q
   ·rw [hx]
    walk_at "ws"
    rw [numD_a y hx] at q
    exact q
 | _ => walk_at "ws"; exact q
theorem t_due {d : D} (q : Q (.val (.bool (numD d)))) : m_law_due [.val d] Q := by
 refine i_fn ?_
 unfold b_law_due
 cases d with
 | tuple ds =>
  walk_at "ws"
  refine i_oQ (d := .int (ds.length : Int)) rfl ?_
  walk_at "ws"
  match ds, q with
  | [], q =>
   refine iteN2 (fun c => ?_) (fun c => absurd c (by decide))
   walk_at "ws"
   exact q
  | [x], q =>
   refine iteN2 (fun c => ?_) (fun c => absurd c (by simp))
   walk_at "ws"
   rw [numD_1] at q
   exact q
  | x :: y :: z :: l, q =>
   refine iteN2 (fun c => ?_) (fun c => absurd c (by rw [List.length_cons, List.length_cons, List.length_cons]; omega))
   walk_at "ws"
   rw [numD_3] at q
   exact q
  | [x, y], q =>
   refine iteNE (decide_eq_true rfl) ?_
   walk_at "ws"
   refine i_oQ (d := x) rfl ?_
   walk_at "ws"
   refine t_lisw ?_
   rcases wh_or x with ⟨a, rfl⟩ | hx
   ·refine iteNE rfl ?_
    walk_at "ws"
    refine i_oQ (d := y) rfl ?_
    walk_at "ws"
    refine t_lisw ?_
    rcases wh_or y with ⟨b, rfl⟩ | hy
    ·refine iteNE rfl ?_
     walk_at "ws"
     unfold b_law_due_r1
     walk_at "ws"
     refine i_oQ (d := .int b) rfl ?_
     walk_at "ws"
     refine iteD2 (fun c => ?_) (fun c => ?_)
     ·walk_at "ws"
      refine i_oQ (d := .int a) rfl ?_
      walk_at "ws"
      refine i_oQ (d := .int b) rfl ?_
      walk_at "ws"
      refine t_common ?_
      walk_at "ws"
      rw [numD_2 (by omega)]
      exact q
     ·rw [numD_2n (by omega)] at q
      exact q
    ·rw [hy]
     walk_at "ws"
     rw [numD_b hy] at q
     exact q
   ·rw [hx]
    walk_at "ws"
    rw [numD_a y hx] at q
    exact q
 | _ => walk_at "ws"; exact q
end
section
variable {Q : Rv → Prop}
theorem t_law_whole (q : ∀ i : Int, Bt 240 i → Q (.val (.int i))) : m_law_whole [.pen] Q := by
 refine i_fn ?_
 unfold b_law_whole
 walk_at "ws"
 refine i_take (by decide) (by decide) fun r r0 r1 => ?_
 walk_at "ws"
 refine ⟨by omega, by omega, ?_⟩
 have big : ∀ {x n : Nat}, x < 1000000 ^ n → n ≤ 10 → Bt 240 (x : Int) := fun {x n} h hn => by
  have h1 : 1000000 ^ n ≤ 1000000 ^ 10 := Nat.pow_le_pow_right (by decide) hn
  have h2 : 1000000 ^ 10 < 2 ^ 240 := by decide +kernel
  show (x : Int).natAbs < 2 ^ 240
  rw [Int.natAbs_natCast]
  exact Nat.lt_trans (Nat.lt_of_lt_of_le h h1) h2
 refine range_inv (fun n Γ => ∃ (x : Nat) (y : Sl), Γ = [.pen, .val (.int (x : Int)), y] ∧ x < 1000000 ^ n) ⟨0, _, rfl, by decide⟩ ?_ ?_
 ·rintro n Γ K hn ⟨x, y, rfl, x1⟩ hk
  unfold b_law_whole_l1
  walk_at "ws"
  refine ⟨mulB (k := 240) (big x1 (by omega)) (bt31 (k := 31) (by decide) (by decide)), ?_⟩
  walk_at "ws"
  refine i_take (by decide) (by decide) fun z z0 z1 => ?_
  walk_at "ws"
  refine hk.nx _ ⟨x * 1000000 + z.toNat, _, by rw [show ((x * 1000000 + z.toNat : Nat) : Int) = (x : Int) * 1000000 + z by omega]; rfl, ?_⟩
  rw [Nat.pow_succ]
  omega
 ·rintro Γ ⟨x, y, rfl, x1⟩
  show b_law_whole_r2 _ _
  unfold b_law_whole_r2
  walk_at "ws"
  refine i_take (by decide) (by decide) fun z z0 z1 => ?_
  walk_at "ws"
  have last : ∀ (x : Int) (y : Sl), Bt 240 x → b_law_whole_r1 [.pen, .val (.int x), y] (fun fl => match fl with
    | .rt rv => Q rv
    | .nx _ => Q (.val .none)
    | _ => False) := by
   intro x y hx
   unfold b_law_whole_r1
   walk_at "ws"
   refine i_take (by decide) (by decide) fun u u0 u1 => ?_
   walk_at "ws"
   have hu : u = 0 ∨ u = 1 := by omega
   rcases hu with rfl | rfl
   ·refine i_oQ rfl ⟨mulB (k := 240) hx (bt31 (k := 31) (by decide) (by decide)), q _ ?_⟩
    rw [Int.mul_one]
    exact hx
   ·refine i_oQ rfl ⟨mulB (k := 240) hx (bt31 (k := 31) (by decide) (by decide)), q _ ?_⟩
    rw [show x * -1 = -x by omega]
    exact hx.neg
  refine iteD2 (fun c => ?_) (fun c => ?_)
  ·walk_at "ws"
   refine i_take (by decide) (by decide) fun u u0 u1 => ?_
   walk_at "ws"
   exact last _ _ (bt31 (by omega) (by omega))
  ·walk_at "ws"
   exact last _ _ (big x1 (by omega))
theorem t_things {t b : Int} (zt : Bt 300 t) (q : ∀ ds : List D, Q (.own ds)) : m_law_things [.val (.int t), .val (.int b)] Q := by
 have z2 : Bt 300 (t / 2) := zt.ediv 2
 have z3 : Bt 31 2 := bt31 (by decide) (by decide)
 refine i_fn ?_
 unfold b_law_things
 walk_at "ws"
 refine ⟨⟨by decide, by decide⟩, ?_⟩
 walk_at "ws"
 refine ⟨⟨by decide, by decide⟩, ?_⟩
 walk_at "ws"
 exact q _
end
theorem law_true : b_law (.no :: .pen :: List.replicate 8 .no) TrueEnd := by
 unfold b_law
 walk_at "ws"
 refine ⟨by decide, by decide, ?_⟩
 refine range_inv (fun n Γ => ∃ a b c d e f g h, Γ = [.no, .pen, a, b, c, d, e, f, g, h]) ⟨_, _, _, _, _, _, _, _, rfl⟩ ?_ ?_
 ·rintro n Γ K hn ⟨a, b, c, d, e, f, g, h, rfl⟩ hk
  have fin : ∀ (t b : Int), b ≠ 0 → Bt 300 t → Bt 300 b → ∀ (x5 x6 x7 x8 x9 : Sl), b_law_r4 [.no, .pen, .val (.int (0 + (n : Int))), .val (.int t), .val (.int b), x5, x6, x7, x8, x9] K := by
   intro t b b0 zt zb x5 x6 x7 x8 x9
   unfold b_law_r4
   walk_at "ws"
   refine t_number_of b0 (zb.mono (by decide)) ?_
   walk_at "ws"
   refine t_due ?_
   rw [numD_num]
   walk_at "ws"
   have zr := Sz.divInt zt zb b0
   have eq1 : (Rat.divInt t b).num * b = t * (Rat.divInt t b).den := by
    have h := Rat.num_divInt_den (Rat.divInt t b)
    exact (Rat.divInt_eq_divInt_iff (den_ne _) b0).mp h
   refine ⟨mulB (k := 300) (m := 300) zr.1 zb, ?_⟩
   walk_at "ws"
   refine ⟨mulB (k := 300) (m := 300) zt zr.2, ?_⟩
   walk_at "ws"
   refine iteNE (decide_eq_true eq1) ?_
   walk_at "ws"
   refine t_number_of (den_ne _) (zr.2.mono (by decide)) ?_
   rw [Rat.num_divInt_den]
   walk_at "ws"
   refine iteNE (decide_eq_true rfl) ?_
   walk_at "ws"
   unfold b_law_r3
   walk_at "ws"
   refine i_take (by decide) (by decide) fun z z0 z1 => ?_
   walk_at "ws"
   obtain ⟨odd, eo, ho⟩ : ∃ d : D, ixD (.list [.none, .bool true, .bool false, .str "3", .tuple [.int 3], .list [.int 3], .tuple [.int 1, .int 2], .dict []]) (.int z) = some d ∧ wh d = false := by
    have hz : z = 0 ∨ z = 1 ∨ z = 2 ∨ z = 3 ∨ z = 4 ∨ z = 5 ∨ z = 6 ∨ z = 7 := by omega
    rcases hz with rfl | rfl | rfl | rfl | rfl | rfl | rfl | rfl <;> exact ⟨_, rfl, rfl⟩
   refine i_oQ eo ?_
   walk_at "ws"
   have no1 : ∀ e, noNum odd e := fun e => by
    rintro ⟨i, j, rfl, _⟩
    cases ho
   have no2 : ∀ d, noNum d odd := fun d => by
    rintro ⟨i, j, _, rfl, _⟩
    cases ho
   refine ⟨_, _, rfl, no1 _, ?_⟩
   walk_at "ws"
   refine ⟨_, _, rfl, no2 _, ?_⟩
   walk_at "ws"
   refine ⟨_, _, rfl, no1 _, ?_⟩
   walk_at "ws"
   unfold b_law_r2
   walk_at "ws"
   refine t_things zt fun ds => ?_
   walk_at "ws"
   refine for_inv (fun _ Γ => ∃ x8 x9, Γ = [.no, .pen, .val (.int (0 + (n : Int))), .val (.int t), .val (.int b), x5, .val (dNum (Rat.divInt t b)), .val odd, x8, x9]) ⟨_, _, rfl⟩ ?_ ?_
   ·rintro i d Γ K1 hd ⟨x8, x9, rfl⟩ hk1
    walk_at "ws"
    unfold b_law_l1
    walk_at "ws"
    refine t_is_number ?_
    walk_at "ws"
    refine t_due ?_
    walk_at "ws"
    refine iteNE (decide_eq_true rfl) ?_
    walk_at "ws"
    exact hk1.nx _ ⟨_, _, rfl⟩
   ·rintro Γ ⟨x8, x9, rfl⟩
    exact hk.nx _ ⟨_, _, _, _, _, _, _, _, rfl⟩
  have mid : ∀ (t b : Int), Bt 300 t → Bt 300 b → ∀ (x5 x6 x7 x8 x9 : Sl), b_law_r6 [.no, .pen, .val (.int (0 + (n : Int))), .val (.int t), .val (.int b), x5, x6, x7, x8, x9] K := by
   intro t b zt zb x5 x6 x7 x8 x9
   unfold b_law_r6
   walk_at "ws"
   refine iteD2 (fun c => ?_) (fun c => ?_)
   ·walk_at "ws"
    refine ⟨_, _, rfl, ?_, ?_⟩
    ·rintro ⟨i, j, _, h, hj⟩
     cases h
     exact hj rfl
    walk_at "ws"
    unfold b_law_r5
    walk_at "ws"
    exact fin t 7 (by decide) zt (bt31 (by decide) (by decide)) _ _ _ _ _
   ·walk_at "ws"
    exact fin t b c zt zb _ _ _ _ _
  unfold b_law_l2
  walk_at "ws"
  refine t_law_whole fun t zt => ?_
  walk_at "ws"
  refine t_law_whole fun b zb => ?_
  walk_at "ws"
  refine i_take (by decide) (by decide) fun z z0 z1 => ?_
  walk_at "ws"
  refine iteD2 (fun c => ?_) (fun c => ?_)
  ·walk_at "ws"
   refine i_take (by decide) (by decide) fun y y0 y1 => ?_
   walk_at "ws"
   have e1 : Bt 240 (t / 1000) := zt.ediv 1000
   have e2 : Bt 240 (b / 1000) := zb.ediv 1000
   have e3 : Bt 31 (1 + y) := bt31 (by omega) (by omega)
   refine ⟨⟨by decide, by decide⟩, ?_⟩
   walk_at "ws"
   refine ⟨⟨by decide, by decide⟩, ?_⟩
   walk_at "ws"
   exact mid _ _ ((e1.mul e3).mono (by decide)) ((e2.mul e3).mono (by decide)) _ _ _ _ _
  ·walk_at "ws"
   exact mid t b (zt.mono (by decide)) (zb.mono (by decide)) _ _ _ _ _
 ·rintro Γ ⟨a, b, c, d, e, f, g, h, rfl⟩
  show b_law_r1 _ _
  unfold b_law_r1
  walk_at "ws"
  exact rfl
theorem ln1 {α : Type} {us : List α} (h : us.length = 1) : ∃ x0, us = [x0] := by
 match us, h with
 | [_], _ => exact ⟨_, rfl⟩
theorem ln2 {α : Type} {us : List α} (h : us.length = 2) : ∃ x0 x1, us = [x0, x1] := by
 match us, h with
 | [_, _], _ => exact ⟨_, _, rfl⟩
theorem bl_mk {K : PySem.W.Frag} {h : Heap} {mg : Str → Option Value} (X : K.In h) (G : h.Ns mainGlobals mg)
  (z_len : PySem.W.nsIn K mainGlobals "len" = some none)
  (z_abs : PySem.W.nsIn K mainGlobals "abs" = some none)
  (z_range : PySem.W.nsIn K mainGlobals "range" = some none)
  (z_isinstance : PySem.W.nsIn K mainGlobals "isinstance" = some none)
  (z_int : PySem.W.nsIn K mainGlobals "int" = some none)
  (z_bool : PySem.W.nsIn K mainGlobals "bool" = some none)
  (z_tuple : PySem.W.nsIn K mainGlobals "tuple" = some none)
  (z_max : PySem.W.nsIn K mainGlobals "max" = some none)
  (z_min : PySem.W.nsIn K mainGlobals "min" = some none)
  (z_list : PySem.W.nsIn K mainGlobals "list" = some none)
  (z_all : PySem.W.nsIn K mainGlobals "all" = some none)
  (z_any : PySem.W.nsIn K mainGlobals "any" = some none)
  (z_sorted : PySem.W.nsIn K mainGlobals "sorted" = some none)
  (z_zip : PySem.W.nsIn K mainGlobals "zip" = some none)
  (z_set : PySem.W.nsIn K mainGlobals "set" = some none)
  (z_sum : PySem.W.nsIn K mainGlobals "sum" = some none)
  (z_str : PySem.W.nsIn K mainGlobals "str" = some none)
  (z_enumerate : PySem.W.nsIn K mainGlobals "enumerate" = some none)
  (kt_int_bool : PySem.W.kitOne K (.type "int") (.type "bool") = some false)    (kt_bool_int : PySem.W.kitOne K (.type "bool") (.type "int") = some true) : Bl K mg := ⟨PySem.W.mg_none_of X G z_len, PySem.W.mg_none_of X G z_abs, PySem.W.mg_none_of X G z_range, PySem.W.mg_none_of X G z_isinstance, PySem.W.mg_none_of X G z_int, PySem.W.mg_none_of X G z_bool, PySem.W.mg_none_of X G z_tuple, PySem.W.mg_none_of X G z_max, PySem.W.mg_none_of X G z_min, PySem.W.mg_none_of X G z_list, PySem.W.mg_none_of X G z_all, PySem.W.mg_none_of X G z_any, PySem.W.mg_none_of X G z_sorted, PySem.W.mg_none_of X G z_zip, PySem.W.mg_none_of X G z_set, PySem.W.mg_none_of X G z_sum, PySem.W.mg_none_of X G z_str, PySem.W.mg_none_of X G z_enumerate, kt_int_bool, kt_bool_int⟩
theorem kit_mk {K : PySem.W.Frag}
  (kt_NoneType_bool : PySem.W.kitOne K (.type "NoneType") (.type "bool") = some false)
  (kt_NoneType_int : PySem.W.kitOne K (.type "NoneType") (.type "int") = some false)
  (kt_NoneType_str : PySem.W.kitOne K (.type "NoneType") (.type "str") = some false)
  (kt_NoneType_list : PySem.W.kitOne K (.type "NoneType") (.type "list") = some false)
  (kt_NoneType_tuple : PySem.W.kitOne K (.type "NoneType") (.type "tuple") = some false)
  (kt_NoneType_dict : PySem.W.kitOne K (.type "NoneType") (.type "dict") = some false)
  (kt_bool_NoneType : PySem.W.kitOne K (.type "bool") (.type "NoneType") = some false)
  (kt_bool_int : PySem.W.kitOne K (.type "bool") (.type "int") = some true)
  (kt_bool_str : PySem.W.kitOne K (.type "bool") (.type "str") = some false)
  (kt_bool_list : PySem.W.kitOne K (.type "bool") (.type "list") = some false)
  (kt_bool_tuple : PySem.W.kitOne K (.type "bool") (.type "tuple") = some false)
  (kt_bool_dict : PySem.W.kitOne K (.type "bool") (.type "dict") = some false)
  (kt_int_NoneType : PySem.W.kitOne K (.type "int") (.type "NoneType") = some false)
  (kt_int_bool : PySem.W.kitOne K (.type "int") (.type "bool") = some false)
  (kt_int_str : PySem.W.kitOne K (.type "int") (.type "str") = some false)
  (kt_int_list : PySem.W.kitOne K (.type "int") (.type "list") = some false)
  (kt_int_tuple : PySem.W.kitOne K (.type "int") (.type "tuple") = some false)
  (kt_int_dict : PySem.W.kitOne K (.type "int") (.type "dict") = some false)
  (kt_str_NoneType : PySem.W.kitOne K (.type "str") (.type "NoneType") = some false)
  (kt_str_bool : PySem.W.kitOne K (.type "str") (.type "bool") = some false)
  (kt_str_int : PySem.W.kitOne K (.type "str") (.type "int") = some false)
  (kt_str_list : PySem.W.kitOne K (.type "str") (.type "list") = some false)
  (kt_str_tuple : PySem.W.kitOne K (.type "str") (.type "tuple") = some false)
  (kt_str_dict : PySem.W.kitOne K (.type "str") (.type "dict") = some false)
  (kt_list_NoneType : PySem.W.kitOne K (.type "list") (.type "NoneType") = some false)
  (kt_list_bool : PySem.W.kitOne K (.type "list") (.type "bool") = some false)
  (kt_list_int : PySem.W.kitOne K (.type "list") (.type "int") = some false)
  (kt_list_str : PySem.W.kitOne K (.type "list") (.type "str") = some false)
  (kt_list_tuple : PySem.W.kitOne K (.type "list") (.type "tuple") = some false)
  (kt_list_dict : PySem.W.kitOne K (.type "list") (.type "dict") = some false)
  (kt_tuple_NoneType : PySem.W.kitOne K (.type "tuple") (.type "NoneType") = some false)
  (kt_tuple_bool : PySem.W.kitOne K (.type "tuple") (.type "bool") = some false)
  (kt_tuple_int : PySem.W.kitOne K (.type "tuple") (.type "int") = some false)
  (kt_tuple_str : PySem.W.kitOne K (.type "tuple") (.type "str") = some false)
  (kt_tuple_list : PySem.W.kitOne K (.type "tuple") (.type "list") = some false)
  (kt_tuple_dict : PySem.W.kitOne K (.type "tuple") (.type "dict") = some false)
  (kt_dict_NoneType : PySem.W.kitOne K (.type "dict") (.type "NoneType") = some false)
  (kt_dict_bool : PySem.W.kitOne K (.type "dict") (.type "bool") = some false)
  (kt_dict_int : PySem.W.kitOne K (.type "dict") (.type "int") = some false)
  (kt_dict_str : PySem.W.kitOne K (.type "dict") (.type "str") = some false)
  (kt_dict_list : PySem.W.kitOne K (.type "dict") (.type "list") = some false)
  (kt_dict_tuple : PySem.W.kitOne K (.type "dict") (.type "tuple") = some false)
  : Kit K := Kit.mk' (by
  intro a ha b hb
  simp only [tyL, List.mem_cons, List.not_mem_nil, or_false] at ha hb
  rcases ha with rfl | rfl | rfl | rfl | rfl | rfl | rfl <;> rcases hb with rfl | rfl | rfl | rfl | rfl | rfl | rfl <;> intro e <;> first | assumption | exact absurd e (by decide))
noncomputable def DfP (K : PySem.W.Frag) (mg : Str → Option Value) (x : Str) (st : Stmt) : Prop := ∃ (f : Addr) (fd : FuncData), Fun K x x st f fd ∧ mg x = some (.ref f)
theorem df_mk {K : PySem.W.Frag} {h : Heap} {mg : Str → Option Value} (X : K.In h) (G : h.Ns mainGlobals mg) {x : Str} {st : Stmt} {f : Addr} {od an : Option Addr} {sl : Array (Option Value)} {oc kV dc pm cd ct : Value}
  (a : PySem.W.nsIn K mainGlobals x = some (some (.ref f))) (l : K.lookup f = some ⟨oc, od, .func (PySem.W.fnOf x x (defArgs st) (defBody st) (defScope st) .none kV dc pm an cd ct), sl⟩) (c : PySem.W.codeIn K cd x = true) (k : PySem.W.keepIn K (.ref f) = true) : DfP K mg x st :=
 ⟨f, _, fun_mk l c k, PySem.W.mg_of X G a⟩
theorem mk_is_whole {P : Program} {w : World} {K : PySem.W.Frag} {mg : Str → Option Value} {base : Heap} (B : Bl K mg) (Kt : Kit K) (d : DfP K mg "is_whole" s_is_whole) :
  ∀ a ns, Cal P w K mg base 1 "is_whole" ["thing"] (spM (PenP K a ns) 1 m_is_whole) := by
 obtain ⟨f, fd, F, hm⟩ := d
 exact fun a ns => ⟨f, fd, ok_is_whole F B Kt, hm, F.kp, F.binds fun _ _ _ _ _ _ us hl => by
  obtain ⟨_, rfl⟩ := ln1 hl
  rfl⟩
theorem mk_greatest_divisor {P : Program} {w : World} {K : PySem.W.Frag} {mg : Str → Option Value} {base : Heap} (B : Bl K mg) (Kt : Kit K) (d : DfP K mg "greatest_divisor" s_greatest_divisor) :
  ∀ a ns, Cal P w K mg base 1 "greatest_divisor" ["one", "other"] (spM (PenP K a ns) 2 m_greatest_divisor) := by
 obtain ⟨f, fd, F, hm⟩ := d
 exact fun a ns => ⟨f, fd, ok_greatest_divisor F B Kt, hm, F.kp, F.binds fun _ _ _ _ _ _ us hl => by
  obtain ⟨_, _, rfl⟩ := ln2 hl
  rfl⟩
theorem mk_is_number {P : Program} {w : World} {K : PySem.W.Frag} {mg : Str → Option Value} {base : Heap} (B : Bl K mg) (Kt : Kit K) (d : DfP K mg "is_number" s_is_number) (C_greatest_divisor : ∀ a ns, Cal P w K mg base 1 "greatest_divisor" ["one", "other"] (spM (PenP K a ns) 2 m_greatest_divisor)) (C_is_whole : ∀ a ns, Cal P w K mg base 1 "is_whole" ["thing"] (spM (PenP K a ns) 1 m_is_whole)) :
  ∀ a ns, Cal P w K mg base 2 "is_number" ["thing"] (spM (PenP K a ns) 1 m_is_number) := by
 obtain ⟨f, fd, F, hm⟩ := d
 exact fun a ns => ⟨f, fd, ok_is_number F B Kt (C_greatest_divisor a ns) (C_is_whole a ns), hm, F.kp, F.binds fun _ _ _ _ _ _ us hl => by
  obtain ⟨_, rfl⟩ := ln1 hl
  rfl⟩
theorem mk_number_of {P : Program} {w : World} {K : PySem.W.Frag} {mg : Str → Option Value} {base : Heap} (B : Bl K mg) (Kt : Kit K) (d : DfP K mg "number_of" s_number_of) (C_greatest_divisor : ∀ a ns, Cal P w K mg base 1 "greatest_divisor" ["one", "other"] (spM (PenP K a ns) 2 m_greatest_divisor)) (C_is_whole : ∀ a ns, Cal P w K mg base 1 "is_whole" ["thing"] (spM (PenP K a ns) 1 m_is_whole)) :
  ∀ a ns, Cal P w K mg base 2 "number_of" ["top", "bottom"] (spM (PenP K a ns) 2 m_number_of) := by
 obtain ⟨f, fd, F, hm⟩ := d
 exact fun a ns => ⟨f, fd, ok_number_of F B Kt (C_greatest_divisor a ns) (C_is_whole a ns), hm, F.kp, F.binds fun _ _ _ _ _ _ us hl => by
  obtain ⟨_, _, rfl⟩ := ln2 hl
  rfl⟩
theorem mk_law_take {P : Program} {w : World} {K : PySem.W.Frag} {mg : Str → Option Value} {base : Heap} (B : Bl K mg) (Kt : Kit K) (d : DfP K mg "_law_take" s_law_take) :
  ∀ a ns, Cal P w K mg base 1 "_law_take" ["_law_pen", "_law_many"] (spM (PenP K a ns) 2 m_law_take) := by
 obtain ⟨f, fd, F, hm⟩ := d
 exact fun a ns => ⟨f, fd, ok2_law_take F B, hm, F.kp, F.binds fun _ _ _ _ _ _ us hl => by
  obtain ⟨_, _, rfl⟩ := ln2 hl
  rfl⟩
theorem mk_law_common {P : Program} {w : World} {K : PySem.W.Frag} {mg : Str → Option Value} {base : Heap} (B : Bl K mg) (Kt : Kit K) (d : DfP K mg "_law_common" s_law_common) :
  ∀ a ns, Cal P w K mg base 1 "_law_common" ["_law_one", "_law_other"] (spM (PenP K a ns) 2 m_law_common) := by
 obtain ⟨f, fd, F, hm⟩ := d
 exact fun a ns => ⟨f, fd, ok_law_common F B Kt, hm, F.kp, F.binds fun _ _ _ _ _ _ us hl => by
  obtain ⟨_, _, rfl⟩ := ln2 hl
  rfl⟩
theorem mk_law_whole {P : Program} {w : World} {K : PySem.W.Frag} {mg : Str → Option Value} {base : Heap} (B : Bl K mg) (Kt : Kit K) (d : DfP K mg "_law_whole" s_law_whole) (C_law_take : ∀ a ns, Cal P w K mg base 1 "_law_take" ["_law_pen", "_law_many"] (spM (PenP K a ns) 2 m_law_take)) :
  ∀ a ns, Cal P w K mg base 2 "_law_whole" ["_law_pen"] (spM (PenP K a ns) 1 m_law_whole) := by
 obtain ⟨f, fd, F, hm⟩ := d
 exact fun a ns => ⟨f, fd, ok_law_whole F B Kt (C_law_take a ns), hm, F.kp, F.binds fun _ _ _ _ _ _ us hl => by
  obtain ⟨_, rfl⟩ := ln1 hl
  rfl⟩
theorem mk_law_is_whole {P : Program} {w : World} {K : PySem.W.Frag} {mg : Str → Option Value} {base : Heap} (B : Bl K mg) (Kt : Kit K) (d : DfP K mg "_law_is_whole" s_law_is_whole) :
  ∀ a ns, Cal P w K mg base 1 "_law_is_whole" ["_law_thing"] (spM (PenP K a ns) 1 m_law_is_whole) := by
 obtain ⟨f, fd, F, hm⟩ := d
 exact fun a ns => ⟨f, fd, ok_law_is_whole F B Kt, hm, F.kp, F.binds fun _ _ _ _ _ _ us hl => by
  obtain ⟨_, rfl⟩ := ln1 hl
  rfl⟩
theorem mk_law_due {P : Program} {w : World} {K : PySem.W.Frag} {mg : Str → Option Value} {base : Heap} (B : Bl K mg) (Kt : Kit K) (d : DfP K mg "_law_due" s_law_due) (C_law_common : ∀ a ns, Cal P w K mg base 1 "_law_common" ["_law_one", "_law_other"] (spM (PenP K a ns) 2 m_law_common)) (C_law_is_whole : ∀ a ns, Cal P w K mg base 1 "_law_is_whole" ["_law_thing"] (spM (PenP K a ns) 1 m_law_is_whole)) :
  ∀ a ns, Cal P w K mg base 2 "_law_due" ["_law_thing"] (spM (PenP K a ns) 1 m_law_due) := by
 obtain ⟨f, fd, F, hm⟩ := d
 exact fun a ns => ⟨f, fd, ok_law_due F B Kt (C_law_common a ns) (C_law_is_whole a ns), hm, F.kp, F.binds fun _ _ _ _ _ _ us hl => by
  obtain ⟨_, rfl⟩ := ln1 hl
  rfl⟩
theorem mk_law_refused {P : Program} {w : World} {K : PySem.W.Frag} {mg : Str → Option Value} {base : Heap} {C D0 c0 c1 c2 c3 c4 : Addr} (B : Bl K mg) (Kt : Kit K) (xc : Xcs K mg C D0 c0 c1 c2 c3 c4) (d : DfP K mg "_law_refused" s_law_refused) (d1 : DfP K mg "is_whole" s_is_whole) (d2 : DfP K mg "number_of" s_number_of) (C_greatest_divisor : ∀ a ns, Cal P w K mg base 1 "greatest_divisor" ["one", "other"] (spM (PenP K a ns) 2 m_greatest_divisor)) :
  ∀ a ns, Cal P w K mg base 3 "_law_refused" ["_law_top", "_law_bottom"] (spM (PenP K a ns) 2 m_law_refused) := by
 obtain ⟨f, fd, F, hm⟩ := d
 obtain ⟨f1, fd1, F1, hm1⟩ := d1
 obtain ⟨f2, fd2, F2, hm2⟩ := d2
 intro a ns
 have C1 : Cal P w K mg base 1 "is_whole" ["thing"] (spWhole K) := ⟨f1, fd1, okh_is_whole F1 B, hm1, F1.kp, (F1.binds fun _ _ _ _ _ _ us hl => by
  obtain ⟨_, rfl⟩ := ln1 hl
  rfl)⟩
 have O2 := ok1_number_of (P := P) (w := w) (base := base) F2 B Kt xc.hC xc.zC C1 (C_greatest_divisor a ns)
 exact ⟨f, fd, (okh_law_refused F B xc O2 hm2 F2.kp (F2.binds fun _ _ _ _ _ _ us hl => by
  obtain ⟨_, _, rfl⟩ := ln2 hl
  rfl)).imp refused_of, hm, F.kp, (F.binds fun _ _ _ _ _ _ us hl => by
  obtain ⟨_, _, rfl⟩ := ln2 hl
  rfl)⟩
theorem mk_law_things {P : Program} {w : World} {K : PySem.W.Frag} {mg : Str → Option Value} {base : Heap} (B : Bl K mg) (Kt : Kit K) (d : DfP K mg "_law_things" s_law_things) :
  ∀ a ns, Cal P w K mg base 1 "_law_things" ["_law_one", "_law_other"] (spM (PenP K a ns) 2 m_law_things) := by
 obtain ⟨f, fd, F, hm⟩ := d
 exact fun a ns => ⟨f, fd, ok_law_things F B Kt, hm, F.kp, F.binds fun _ _ _ _ _ _ us hl => by
  obtain ⟨_, _, rfl⟩ := ln2 hl
  rfl⟩
theorem all_mk {l : PySem.W.OpenLaw} {w : World} {K : PySem.W.Frag} {mg : Str → Option Value} {fa : Addr} (hfa : mg "law" = some (.ref fa)) (B : Bl K mg) (Kt : Kit K)
  (d0 : DfP K mg "is_whole" s_is_whole)
  (d1 : DfP K mg "greatest_divisor" s_greatest_divisor)
  (d2 : DfP K mg "is_number" s_is_number)
  (d3 : DfP K mg "number_of" s_number_of)
  (d4 : DfP K mg "_law_take" s_law_take)
  (d5 : DfP K mg "_law_common" s_law_common)
  (d6 : DfP K mg "_law_whole" s_law_whole)
  (d7 : DfP K mg "_law_is_whole" s_law_is_whole)
  (d8 : DfP K mg "_law_due" s_law_due)
  (d9 : DfP K mg "_law_refused" s_law_refused)
  (d10 : DfP K mg "_law_things" s_law_things)
  (d11 : DfP K mg "law" s_law)
  {C D0 c0 c1 c2 c3 c4 : Addr} (xc : Xcs K mg C D0 c0 c1 c2 c3 c4)
  (hL : b_law (.no :: .pen :: List.replicate 8 .no) TrueEnd) :
  ∃ fd : FuncData, (∀ (s : Shared) (v : Value), BindsTo s fd ⟨[v], []⟩ [("_law_script", v)]) ∧ ∀ base : Heap, K.In base → base.Ns mainGlobals mg → FnOk l.prog w K mg base CX0 4 fa fd ["_law_script"] (spLaw K) := by
 obtain ⟨f, fd, F, hm⟩ := d11
 cases hfa.symm.trans hm
 refine ⟨fd, ?_, fun base _ _ => ?_⟩
 ·obtain ⟨oc, od, kV, doc, pm, an, cdv, ct, osl, rfl, lk, hcd⟩ := F.ex
  exact fun s v => .of_eq rfl
 have C_is_whole := mk_is_whole (P := l.prog) (w := w) (base := base) B Kt d0
 have C_greatest_divisor := mk_greatest_divisor (P := l.prog) (w := w) (base := base) B Kt d1
 have C_is_number := mk_is_number (P := l.prog) (w := w) (base := base) B Kt d2 C_greatest_divisor C_is_whole
 have C_number_of := mk_number_of (P := l.prog) (w := w) (base := base) B Kt d3 C_greatest_divisor C_is_whole
 have C_law_take := mk_law_take (P := l.prog) (w := w) (base := base) B Kt d4
 have C_law_common := mk_law_common (P := l.prog) (w := w) (base := base) B Kt d5
 have C_law_whole := mk_law_whole (P := l.prog) (w := w) (base := base) B Kt d6 C_law_take
 have C_law_is_whole := mk_law_is_whole (P := l.prog) (w := w) (base := base) B Kt d7
 have C_law_due := mk_law_due (P := l.prog) (w := w) (base := base) B Kt d8 C_law_common C_law_is_whole
 have C_law_refused := mk_law_refused (P := l.prog) (w := w) (base := base) B Kt xc d9 d0 d3 C_greatest_divisor
 have C_law_things := mk_law_things (P := l.prog) (w := w) (base := base) B Kt d10
 exact ok_law F B Kt C_law_things C_law_due C_is_number C_law_refused C_law_take C_number_of C_law_whole hL
theorem xcs_mk {K : PySem.W.Frag} {h : Heap} {mg : Str → Option Value} (X : K.In h) (G : h.Ns mainGlobals mg) {C D0 c0 c1 c2 c3 c4 : Addr}
  (xa : PySem.W.nsIn K mainGlobals "NoNumber" = some (some (.ref C)))
  (xl1 : PySem.W.findIn K (.ref C) "__class__" = some (some (.builtin "object.__class__"))) (xl2 : PySem.W.findIn K (.ref C) "__getattribute__" = some (some (.builtin "BaseException.__getattribute__"))) (xl3 : PySem.W.findIn K (.ref C) "__getattr__" = some none)
  (xb : PySem.W.nsIn K mainGlobals "LeadError" = some (some (.ref D0)))
  (xm1 : PySem.W.findIn K (.ref D0) "__class__" = some (some (.builtin "object.__class__"))) (xm2 : PySem.W.findIn K (.ref D0) "__getattribute__" = some (some (.builtin "BaseException.__getattribute__"))) (xm3 : PySem.W.findIn K (.ref D0) "__getattr__" = some none)
  (xs : PySem.W.mroIn K C (.ref D0) = some true) (xv : PySem.W.nsIn K mainGlobals "ValueError" = some none)
  (xc0 : PySem.W.nsIn K mainGlobals "NoKey" = some (some (.ref c0)))
  (xc1 : PySem.W.nsIn K mainGlobals "NoLog" = some (some (.ref c1)))
  (xc2 : PySem.W.nsIn K mainGlobals "NoRow" = some (some (.ref c2)))
  (xc3 : PySem.W.nsIn K mainGlobals "NoText" = some (some (.ref c3)))
  (xc4 : PySem.W.nsIn K mainGlobals "NoTime" = some (some (.ref c4)))
  (xe : PySem.W.excIn K C [.type "ValueError", .type "Exception", .type "BaseException", .type "object"] "ValueError.__new__" = true) (xf : PySem.W.excIn K D0 [.type "ValueError", .type "Exception", .type "BaseException", .type "object"] "ValueError.__new__" = true)
  (xno : PySem.W.kitAny K (.ref C) [.ref c0, .ref c1, .ref c2, .ref c3, .ref c4] = some false) (xyes : PySem.W.kitOne K (.ref C) (.ref C) = some true) (xval : PySem.W.kitOne K (.ref C) (.type "ValueError") = some true) : Xcs K mg C D0 c0 c1 c2 c3 c4 :=
 ⟨PySem.W.mg_of X G xa, ⟨xe, xl1, xl2, xl3⟩, PySem.W.mg_of X G xb, ⟨xf, xm1, xm2, xm3⟩, xs, PySem.W.mg_none_of X G xv, PySem.W.mg_of X G xc0, PySem.W.mg_of X G xc1, PySem.W.mg_of X G xc2, PySem.W.mg_of X G xc3, PySem.W.mg_of X G xc4, xno, xyes, xval⟩
theorem walk {l : PySem.W.OpenLaw} {q : Program} {loose : List Str} {XP : (Str → Option Value) → Heap → Prop} {YP : World → Heap → Prop} {d : DefRec} {K : Params → PySem.W.Frag} (hn : l.most = some 63) (hdf : d.params.defaults = [])
  (hY : ∀ (w : World) (h : Heap), YP w h → (K w.params).In h)
  (F : ∀ (w : World) (mg : Str → Option Value) (fa : Addr) (h : Heap), (K w.params).In h → h.Ns mainGlobals mg → mg d.name = some (.ref fa) →
   ∃ fd : FuncData, (∀ (s : Shared) (u : Value), BindsTo s fd ⟨[u], []⟩ [("_law_script", u)]) ∧ ∀ base : Heap, (K w.params).In base → base.Ns mainGlobals mg → FnOk l.prog w (K w.params) mg base CX0 4 fa fd ["_law_script"] (spLaw (K w.params))) :
  PySem.W.WalkO q loose XP YP l.row.toRowW d [] (fun f vs => PySem.call f vs) :=
 L2.walk_of (n := 63) (k := 4) (x := "_law_script") (CX := fun _ => CX0) (sp := fun w => spLaw (K w.params)) hn (by decide) hdf ⟨rfl, by decide, by decide⟩ hY F (fun _ _ a ns hl _ hS => ⟨a, ns, rfl, hS, hl, fun _ => rfl⟩) fun _ _ _ _ _ z => z
end My
noncomputable def PySem.W.Fast.tw10033646503520537662 : Unit := ()
noncomputable def PySem.W.Fast.tw10324563607384498510 : Unit := ()
noncomputable def PySem.W.Fast.tw10497667936842810011 : Unit := ()
noncomputable def PySem.W.Fast.tw12964048699489786342 : Unit := ()
noncomputable def PySem.W.Fast.tw14313076769163082584 : Unit := ()
noncomputable def PySem.W.Fast.tw16892391975800127116 : Unit := ()
noncomputable def PySem.W.Fast.tw18399914518829363653 : Unit := ()
noncomputable def PySem.W.Fast.tw9301718536739319222 : Unit := ()
open PySem PySem.W PyProof.Rows
set_option maxRecDepth 100000 in
set_option maxHeartbeats 0 in
theorem PySem.Challenge.cw_leadtimes_k01_numbers_made_holds : PySem.Challenge.rw_leadtimes_k01_numbers_made.Holds := by
 w_on; o_law; k_head; (case hw => w_witness2)
 k_fill
 refine My.walk (l := PySem.Challenge.rw_leadtimes_k01_numbers_made) rfl rfl (fun w h Y => PySem.W.kIn_of Y) ?F
 case F =>
  intro w mg fa h KX G hmg
  refine' My.all_mk hmg (My.bl_mk KX G ?z_len ?z_abs ?z_range ?z_isinstance ?z_int ?z_bool ?z_tuple ?z_max ?z_min ?z_list ?z_all ?z_any ?z_sorted ?z_zip ?z_set ?z_sum ?z_str ?z_enumerate ?kt_int_bool ?kt_bool_int) (My.kit_mk ?kt_NoneType_bool ?kt_NoneType_int ?kt_NoneType_str ?kt_NoneType_list ?kt_NoneType_tuple ?kt_NoneType_dict ?kt_bool_NoneType ?kt_bool_int ?kt_bool_str ?kt_bool_list ?kt_bool_tuple ?kt_bool_dict ?kt_int_NoneType ?kt_int_bool ?kt_int_str ?kt_int_list ?kt_int_tuple ?kt_int_dict ?kt_str_NoneType ?kt_str_bool ?kt_str_int ?kt_str_list ?kt_str_tuple ?kt_str_dict ?kt_list_NoneType ?kt_list_bool ?kt_list_int ?kt_list_str ?kt_list_tuple ?kt_list_dict ?kt_tuple_NoneType ?kt_tuple_bool ?kt_tuple_int ?kt_tuple_str ?kt_tuple_list ?kt_tuple_dict ?kt_dict_NoneType ?kt_dict_bool ?kt_dict_int ?kt_dict_str ?kt_dict_list ?kt_dict_tuple) (My.df_mk KX G ?a0 ?l0 ?c0 ?k0) (My.df_mk KX G ?a1 ?l1 ?c1 ?k1) (My.df_mk KX G ?a2 ?l2 ?c2 ?k2) (My.df_mk KX G ?a3 ?l3 ?c3 ?k3) (My.df_mk KX G ?a4 ?l4 ?c4 ?k4) (My.df_mk KX G ?a5 ?l5 ?c5 ?k5) (My.df_mk KX G ?a6 ?l6 ?c6 ?k6) (My.df_mk KX G ?a7 ?l7 ?c7 ?k7) (My.df_mk KX G ?a8 ?l8 ?c8 ?k8) (My.df_mk KX G ?a9 ?l9 ?c9 ?k9) (My.df_mk KX G ?a10 ?l10 ?c10 ?k10) (My.df_mk KX G ?a11 ?l11 ?c11 ?k11) (My.xcs_mk KX G ?xa ?xl1 ?xl2 ?xl3 ?xb ?xm1 ?xm2 ?xm3 ?xs ?xv ?xc0 ?xc1 ?xc2 ?xc3 ?xc4 ?xe ?xf ?xno ?xyes ?xval) My.law_true
  (case a0 => k_is)
  (case l0 => k_is)
  (case c0 => k_is)
  (case k0 => k_is)
  (case a1 => k_is)
  (case l1 => k_is)
  (case c1 => k_is)
  (case k1 => k_is)
  (case a2 => k_is)
  (case l2 => k_is)
  (case c2 => k_is)
  (case k2 => k_is)
  (case a3 => k_is)
  (case l3 => k_is)
  (case c3 => k_is)
  (case k3 => k_is)
  (case a4 => k_is)
  (case l4 => k_is)
  (case c4 => k_is)
  (case k4 => k_is)
  (case a5 => k_is)
  (case l5 => k_is)
  (case c5 => k_is)
  (case k5 => k_is)
  (case a6 => k_is)
  (case l6 => k_is)
  (case c6 => k_is)
  (case k6 => k_is)
  (case a7 => k_is)
  (case l7 => k_is)
  (case c7 => k_is)
  (case k7 => k_is)
  (case a8 => k_is)
  (case l8 => k_is)
  (case c8 => k_is)
  (case k8 => k_is)
  (case a9 => k_is)
  (case l9 => k_is)
  (case c9 => k_is)
  (case k9 => k_is)
  (case a10 => k_is)
  (case l10 => k_is)
  (case c10 => k_is)
  (case k10 => k_is)
  (case a11 => k_is)
  (case l11 => k_is)
  (case c11 => k_is)
  (case k11 => k_is)
  (case z_len => k_is)
  (case z_abs => k_is)
  (case z_range => k_is)
  (case z_isinstance => k_is)
  (case z_int => k_is)
  (case z_bool => k_is)
  (case z_tuple => k_is)
  (case z_max => k_is)
  (case z_min => k_is)
  (case z_list => k_is)
  (case z_all => k_is)
  (case z_any => k_is)
  (case z_sorted => k_is)
  (case z_zip => k_is)
  (case z_set => k_is)
  (case z_sum => k_is)
  (case z_str => k_is)
  (case z_enumerate => k_is)
  (case xa => k_is)
  (case xl1 => k_is)
  (case xl2 => k_is)
  (case xl3 => k_is)
  (case xb => k_is)
  (case xm1 => k_is)
  (case xm2 => k_is)
  (case xm3 => k_is)
  (case xs => k_is)
  (case xv => k_is)
  (case xc0 => k_is)
  (case xc1 => k_is)
  (case xc2 => k_is)
  (case xc3 => k_is)
  (case xc4 => k_is)
  (case xe => k_exc)
  (case xf => k_exc)
  (case xno => kit_is)
  (case xyes => kit_is)
  (case xval => kit_is)
  (case kt_NoneType_bool => kit_is)
  (case kt_NoneType_int => kit_is)
  (case kt_NoneType_str => kit_is)
  (case kt_NoneType_list => kit_is)
  (case kt_NoneType_tuple => kit_is)
  (case kt_NoneType_dict => kit_is)
  (case kt_bool_NoneType => kit_is)
  (case kt_bool_int => kit_is)
  (case kt_bool_str => kit_is)
  (case kt_bool_list => kit_is)
  (case kt_bool_tuple => kit_is)
  (case kt_bool_dict => kit_is)
  (case kt_int_NoneType => kit_is)
  (case kt_int_bool => kit_is)
  (case kt_int_str => kit_is)
  (case kt_int_list => kit_is)
  (case kt_int_tuple => kit_is)
  (case kt_int_dict => kit_is)
  (case kt_str_NoneType => kit_is)
  (case kt_str_bool => kit_is)
  (case kt_str_int => kit_is)
  (case kt_str_list => kit_is)
  (case kt_str_tuple => kit_is)
  (case kt_str_dict => kit_is)
  (case kt_list_NoneType => kit_is)
  (case kt_list_bool => kit_is)
  (case kt_list_int => kit_is)
  (case kt_list_str => kit_is)
  (case kt_list_tuple => kit_is)
  (case kt_list_dict => kit_is)
  (case kt_tuple_NoneType => kit_is)
  (case kt_tuple_bool => kit_is)
  (case kt_tuple_int => kit_is)
  (case kt_tuple_str => kit_is)
  (case kt_tuple_list => kit_is)
  (case kt_tuple_dict => kit_is)
  (case kt_dict_NoneType => kit_is)
  (case kt_dict_bool => kit_is)
  (case kt_dict_int => kit_is)
  (case kt_dict_str => kit_is)
  (case kt_dict_list => kit_is)
  (case kt_dict_tuple => kit_is)
#print axioms PySem.Challenge.cw_leadtimes_k01_numbers_made_holds
