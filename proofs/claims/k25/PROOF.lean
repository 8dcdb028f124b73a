import PyProof.Rows.All
import Wide.All
import OpenK.AllK
import Wide.FinOn
import Lean
import PyProof.EqAt
import PyProof.EqKinds
import PyProof.TupleCall
import PyProof.P3Eq
import PyProof.P3In
import PyProof.NeData
import PyProof.FitsBits
import PySem.Challenge.RW_leadtimes_k25_walks_made
noncomputable section
set_option compiler.extract_closed false
set_option Elab.async false
set_option linter.all false
set_option maxRecDepth 100000
namespace L2
open PySem PySem.Spec PyProof.Rows
abbrev Key := Sum Int Str
noncomputable def keyIs : Key → Value → Bool
 | .inl k, v => Value.isInt k v
 | .inr x, v => Value.isStrOf x v
noncomputable def keyH (w : World) : Key → Int
 | .inl k => hashInt k
 | .inr x => hashStr w x
theorem keyIs_shape : ∀ {k : Key} {v : Value}, keyIs k v = true → (∃ i t, k = Sum.inl i ∧ v = Value.int i t) ∨ (∃ x t, k = Sum.inr x ∧ v = Value.str x t)
 | .inl i, v, h => by
  obtain ⟨t, e⟩ := Value.isInt_shape (k := i) (v := v) h
  exact .inl ⟨i, t, rfl, e⟩
 | .inr x, v, h => by
  obtain ⟨t, e⟩ := Value.isStrOf_shape (x := x) (v := v) h
  exact .inr ⟨x, t, rfl, e⟩
theorem key_ll (a b : Int) : decide ((Sum.inl a : Key) = Sum.inl b) = (a == b) := by
 by_cases e : a = b
 ·subst e; simp
 ·have h : ¬ (Sum.inl a : Key) = Sum.inl b := fun q => e (Sum.inl.inj q)
  rw [decide_eq_false h]
  exact (beq_eq_false_iff_ne.mpr e).symm
theorem key_rr (a b : Str) : decide ((Sum.inr a : Key) = Sum.inr b) = decide (a = b) := by
 by_cases e : a = b
 ·subst e; simp
 ·have h : ¬ (Sum.inr a : Key) = Sum.inr b := fun q => e (Sum.inr.inj q)
  rw [decide_eq_false h, decide_eq_false e]
theorem key_lr (a : Int) (b : Str) : decide ((Sum.inl a : Key) = Sum.inr b) = false := decide_eq_false (fun q => nomatch q)
theorem key_rl (a : Str) (b : Int) : decide ((Sum.inr a : Key) = Sum.inl b) = false := decide_eq_false (fun q => nomatch q)
noncomputable def mixKind (prog : Program) (w : World) : PySem.KeyKind prog w Key where
 is := keyIs
 hash := keyH w
 inj := fun v a b ha hb => by
  rcases keyIs_shape ha with ⟨i, t, rfl, rfl⟩ | ⟨x, t, rfl, rfl⟩
  ·rcases keyIs_shape hb with ⟨j, u, rfl, e⟩ | ⟨y, u, rfl, e⟩
   ·injection e with e1 _; rw [e1]
   ·exact nomatch e
  ·rcases keyIs_shape hb with ⟨j, u, rfl, e⟩ | ⟨y, u, rfl, e⟩
   ·exact nomatch e
   ·injection e with e1 _; rw [e1]
 byValue := fun k v h => by
  rcases keyIs_shape h with ⟨i, t, rfl, rfl⟩ | ⟨x, t, rfl, rfl⟩ <;> rfl
 pyHash := fun hv h => by
  rcases keyIs_shape hv with ⟨i, t, rfl, rfl⟩ | ⟨x, t, rfl, rfl⟩
  ·exact wpAny_pyHash_int h
  ·exact wpAny_pyHash_str h
 eqBool := fun hu hv h => by
  rcases keyIs_shape hu with ⟨i, t, rfl, rfl⟩ | ⟨x, t, rfl, rfl⟩
  ·rcases keyIs_shape hv with ⟨j, u, rfl, rfl⟩ | ⟨y, u, rfl, rfl⟩
   ·rw [key_ll] at h; exact wpAny_eqBool_int h
   ·rw [key_lr] at h; exact SeqAt.EqAt.int_str i t y u _ _ _ _ h
  ·rcases keyIs_shape hv with ⟨j, u, rfl, rfl⟩ | ⟨y, u, rfl, rfl⟩
   ·rw [key_rl] at h; exact SeqAt.EqAt.str_int x t j u _ _ _ _ h
   ·rw [key_rr] at h; exact wpAny_eqBool_str h
 «strs» := fun k x t v h => by
  rcases keyIs_shape h with ⟨i, u, rfl, e⟩ | ⟨y, u, rfl, e⟩
  ·exact nomatch e
  ·injection e with e1 _
   subst e1
   cases v <;> rfl
theorem mixKind_is (prog : Program) (w : World) (k : Key) (v : Value) : (mixKind prog w).is k v = keyIs k v := rfl
end L2
namespace L2
open PySem PySem.Spec PyProof.Rows
inductive V where
 | non | bl (b : Bool) | int (i : Int) | str (x : Str) | byt (b : Array UInt8) | flt (b : UInt64) | ref (a : Addr) | ty (n : String)
 deriving DecidableEq
noncomputable def RelV : V → Value → Prop
 | .non, u => u = Value.none
 | .bl b, u => u = Value.bool b
 | .int i, u => ∃ t, u = Value.int i t
 | .str x, u => ∃ t, u = Value.str x t
 | .byt b, u => ∃ t, u = Value.bytes b t
 | .flt b, u => ∃ t, u = Value.float b t
 | .ref a, u => u = Value.ref a
 | .ty n, u => u = Value.type n
abbrev Vals : List V → List Value → Prop := Paired RelV
theorem Vals.length {xs : List V} {us : List Value} (r : Vals xs us) : xs.length = us.length := Paired.length r
theorem Vals.get : ∀ {xs : List V} {us : List Value} {i : Nat} {x : V}, Vals xs us → xs[i]? = some x → ∃ u, us[i]? = some u ∧ RelV x u
 | _, _, _, _, .nil, e => by simp at e
 | _, _, 0, _, .cons r _, e => by simp at e; subst e; exact ⟨_, rfl, r⟩
 | _, _, i + 1, x, .cons _ t, e => by
  obtain ⟨u, h1, h2⟩ := Vals.get (i := i) (x := x) t (by simpa using e)
  exact ⟨u, by simpa using h1, h2⟩
theorem Vals.set {x : V} {u : Value} (r : RelV x u) : ∀ {xs : List V} {us : List Value} (i : Nat), Vals xs us → Vals (xs.set i x) (us.set i u)
 | _, _, _, .nil => .nil
 | _, _, 0, .cons _ t => .cons r t
 | _, _, i + 1, .cons q t => .cons q (Vals.set r i t)
theorem Vals.append : ∀ {xs ys : List V} {us ws : List Value}, Vals xs us → Vals ys ws → Vals (xs ++ ys) (us ++ ws) := by
 intro xs ys us ws h q
 induction h with
 | nil => exact q
 | cons r t ih => exact .cons r ih
theorem Vals.take : ∀ {xs : List V} {us : List Value} (n : Nat), Vals xs us → Vals (xs.take n) (us.take n)
 | _, _, 0, _ => .nil
 | _, _, _ + 1, .nil => .nil
 | _, _, n + 1, .cons r t => .cons r (Vals.take n t)
theorem Vals.drop : ∀ {xs : List V} {us : List Value} (n : Nat), Vals xs us → Vals (xs.drop n) (us.drop n)
 | _, _, 0, r => r
 | _, _, _ + 1, .nil => .nil
 | _, _, n + 1, .cons _ t => Vals.drop n t
theorem Vals.none_of : ∀ {xs : List V} {us : List Value} {i : Nat}, Vals xs us → xs[i]? = none → us[i]? = none := fun {xs us i} r e => by
 have h1 := r.length
 have h2 : xs.length ≤ i := List.getElem?_eq_none_iff.mp e
 exact List.getElem?_eq_none_iff.mpr (by omega)
noncomputable def RelO : Option V → Option Value → Prop
 | some v, some u => RelV v u
 | none, none => True
 | _, _ => False
noncomputable def KV {κ : Type} : List (κ × V) → List (κ × Value) → Prop := Paired fun (p : κ × V) (q : κ × Value) => p.1 = q.1 ∧ RelV p.2 q.2
noncomputable def kV : Key → V
 | .inl i => .int i
 | .inr x => .str x
inductive HO where
 | lst (xs : List V)
 | tup (xs : List V)
 | dK (kvs : List (Key × V)) | dT (kvs : List (List Key × V))
 | set (S : Int → Bool) (n : Nat)
 | ins (C dx : Addr) (fs : List (Str × V))
 | own (x : Addr)
 | xd (fs : List (Str × V))
 | met (f x : Addr)
 | rng (lo hi : Int)
 | frz (o : Obj) (u : HO)
 | tbl (ps : Array Value)
 | ext (φ : Heap → Prop)
abbrev Hp := Addr → Option HO
noncomputable def upd (H : Hp) (a : Addr) (o : HO) : Hp := fun b => if b = a then some o else H b
theorem upd_same {H : Hp} {a : Addr} {o : HO} : upd H a o a = some o := by unfold upd; rw [if_pos rfl]
theorem upd_ne {H : Hp} {a b : Addr} {o : HO} (h : b ≠ a) : upd H a o b = H b := by unfold upd; rw [if_neg h]
theorem ne_of {H : Hp} {a b : Addr} {o u : HO} (h : H a = some o) (h' : H b = some u) (d : o ≠ u) : a ≠ b := by
 intro e; subst e; rw [h] at h'; exact d (Option.some.inj h')
theorem ne_of_none {H : Hp} {a b : Addr} {o : HO} (h : H a = some o) (h' : H b = none) : a ≠ b := by
 intro e; subst e; rw [h] at h'; cases h'
section
variable (P : Program) (w : World)
noncomputable def ObjOk (H : Hp) (h : Heap) (a : Addr) : HO → Prop
 | .lst xs => xs.length ≤ sizeLine ∧ ∃ (its : List Value) (n : Nat), Vals xs its ∧ h.get? a = some { cls := .type "list", data := .seq its.toArray n }
 | .tup xs => xs.length ≤ sizeLine ∧ ∃ its : List Value, Vals xs its ∧ IsTup h a its.toArray
 | .dK kvs => kvs.length ≤ sizeLine ∧ (a == sysModules) = false ∧ ∃ vs, KV kvs vs ∧ h.DictOf (mixKind P w) a vs
 | .dT kvs => kvs.length ≤ sizeLine ∧ (a == sysModules) = false ∧ ∃ xs : List (List Key × Addr × Value),
   Paired (fun (p : List Key × V) (q : List Key × Addr × Value) => p.1 = q.1 ∧ H q.2.1 = some (.tup (p.1.map kV)) ∧ RelV p.2 q.2.2) kvs xs ∧
   ∃ o es ep, h.get? a = some o ∧ o.ExactDict ∧ o.data = .dict es ep ∧ es.toList = xs.map (entryOfKey (tupleKind (mixKind P w))) ∧ (xs.map (·.1)).Nodup
 | .set S n => h.SetOf (intKind P w) a S n
 | .ins C dx fs => H dx = some (.own a) ∧ fs.length ≤ 1000 ∧ dx ≠ a ∧ h.get? a = some (PySem.W.instObj C dx) ∧
   ∃ mA, h.Ns1 dx mA ∧ (∀ f, RelO (fs.lookup f) (mA f)) ∧ PySem.Within mA (fs.map (·.1))
 | .own _ => ∃ o, h.get? a = some o
 | .xd fs => ∃ mA, h.Ns1 a mA ∧ ∀ f, RelO (fs.lookup f) (mA f)
 | .rng lo hi => ∃ t u v, h.get? a = some { cls := .type "range", data := .fields #[.int lo t, .int hi u, .int 1 v] }
 | .frz o u => h.get? a = some o ∧ ObjOk H h a u
 | .tbl ps => h.get? a = some { cls := .none, data := .fields ps }
 | .met f x => h.get? a = some (PySem.W.methodObj (.ref f) (.ref x))
 | .ext φ => φ h ∧ (∃ o, h.get? a = some o) ∧ ∀ h1 h2 : Heap, φ h1 → (∀ o, h1.get? a = some o → h2.get? a = some o) → φ h2
noncomputable def HOk (H : Hp) (h : Heap) : Prop := ∀ a o, H a = some o → ObjOk P w H h a o
end
section
variable {P : Program} {w : World} {H H' : Hp} {h h' : Heap} {a : Addr} {o : HO}
theorem ObjOk.lt (x : ObjOk P w H h a o) : a < h.objs.size := by
 cases o with
 | lst xs => obtain ⟨_, _, _, _, e⟩ := x; exact Heap.lt_size e
 | tup xs => obtain ⟨_, _, _, p⟩ := x; exact p.lt
 | dK kvs => obtain ⟨_, _, _, _, o, _, _, e, _⟩ := x; exact Heap.lt_size e
 | dT kvs => obtain ⟨_, _, _, _, o, _, _, e, _⟩ := x; exact Heap.lt_size e
 | set S n => obtain ⟨o, _, _, _, e, _⟩ := x; exact Heap.lt_size e
 | ins C dx fs => obtain ⟨_, _, _, e, _⟩ := x; exact Heap.lt_size e
 | own y => obtain ⟨_, e⟩ := x; exact Heap.lt_size e
 | xd fs => obtain ⟨_, ⟨_, _, _, e, _⟩, _⟩ := x; exact Heap.lt_size e
 | rng lo hi => obtain ⟨_, _, _, e⟩ := x; exact Heap.lt_size e
 | frz ob u => obtain ⟨e, _⟩ := x; exact Heap.lt_size e
 | tbl ps => exact Heap.lt_size (show h.get? a = some _ from x)
 | met f y => exact Heap.lt_size (show h.get? a = some _ from x)
 | ext φ => obtain ⟨_, ⟨_, e⟩, _⟩ := x; exact Heap.lt_size e
theorem Paired.mapP {α β : Type} {F G : α → β → Prop} : ∀ {l₁ : List α} {l₂ : List β}, Paired F l₁ l₂ → (∀ a b, F a b → G a b) → Paired G l₁ l₂ := by
 intro l₁ l₂ h f
 induction h with
 | nil => exact .nil
 | cons r t ih => exact .cons (f _ _ r) ih
theorem Paired.imp' {α β : Type} {F G : α → β → Prop} (f : ∀ a b, F a b → G a b) {l₁ : List α} {l₂ : List β} (r : Paired F l₁ l₂) : Paired G l₁ l₂ := Paired.mapP r f
theorem ObjOk.stay (x : ObjOk P w H h a o) (k : ∀ b u, (b = a ∨ H b = some (.own a)) → h.get? b = some u → h'.get? b = some u)
  (ho : ∀ b, H b = some (.own a) → H' b = some (.own a)) (ht : ∀ b xs, H b = some (.tup xs) → H' b = some (.tup xs)) : ObjOk P w H' h' a o := by
 induction o with
 | lst xs => obtain ⟨z, its, n, r, e⟩ := x; exact ⟨z, its, n, r, k _ _ (.inl rfl) e⟩
 | tup xs => obtain ⟨z, its, r, ob, e, c⟩ := x; exact ⟨z, its, r, ob, k _ _ (.inl rfl) e, c⟩
 | dK kvs => obtain ⟨z, y, vs, r, ob, es, ep, e, c⟩ := x; exact ⟨z, y, vs, r, ob, es, ep, k _ _ (.inl rfl) e, c⟩
 | dT kvs =>
  obtain ⟨z, y, xs, r, ob, es, ep, e, c⟩ := x
  exact ⟨z, y, xs, Paired.mapP r fun p q z => ⟨z.1, ht _ _ z.2.1, z.2.2⟩, ob, es, ep, k _ _ (.inl rfl) e, c⟩
 | set S n => obtain ⟨ob, es, ep, t, e, c⟩ := x; exact ⟨ob, es, ep, t, k _ _ (.inl rfl) e, c⟩
 | ins C dx fs =>
  obtain ⟨d, z, ne, e, mA, ⟨od, es, ep, e2, c⟩, r⟩ := x
  exact ⟨ho _ d, z, ne, k _ _ (.inl rfl) e, mA, ⟨od, es, ep, k _ _ (.inr d) e2, c⟩, r⟩
 | own y => obtain ⟨ob, e⟩ := x; exact ⟨ob, k _ _ (.inl rfl) e⟩
 | xd fs => obtain ⟨mA, ⟨od, es, ep, e, c⟩, r⟩ := x; exact ⟨mA, ⟨od, es, ep, k _ _ (.inl rfl) e, c⟩, r⟩
 | rng lo hi => obtain ⟨t, u, v, e⟩ := x; exact ⟨t, u, v, k _ _ (.inl rfl) e⟩
 | frz ob u ih => obtain ⟨e, q⟩ := x; exact ⟨k _ _ (.inl rfl) e, ih q⟩
 | tbl ps =>
  have e : h.get? a = some { cls := .none, data := .fields ps } := x
  show h'.get? a = some { cls := .none, data := .fields ps }
  exact k a _ (.inl rfl) e
 | met f y =>
  have e : h.get? a = some (PySem.W.methodObj (.ref f) (.ref y)) := x
  show h'.get? a = some (PySem.W.methodObj (.ref f) (.ref y))
  exact k a _ (.inl rfl) e
 | ext φ => obtain ⟨p, ⟨o, e⟩, st⟩ := x; exact ⟨st _ _ p fun o q => k _ _ (.inl rfl) q, ⟨o, k _ _ (.inl rfl) e⟩, st⟩
theorem HOk.lt (x : HOk P w H h) (e : H a = some o) : a < h.objs.size := (x a o e).lt
theorem HOk.fresh (x : HOk P w H h) (e : h.objs.size ≤ a) : H a = none := by
 cases q : H a with
 | none => rfl
 | some u => exact absurd (Nat.lt_of_lt_of_le (x.lt q) e) (Nat.lt_irrefl _)
theorem HOk.kept (x : HOk P w H h) (k : ∀ b u, h.get? b = some u → h'.get? b = some u) : HOk P w H h' := fun a o e =>
 (x a o e).stay (fun b u _ q => k b u q) (fun _ q => q) fun _ _ q => q
theorem HOk.laid (x : HOk P w H h) (k : ∀ b u, h.get? b = some u → h'.get? b = some u) (hp : h.objs.size ≤ a) (new : ObjOk P w (upd H a o) h' a o) : HOk P w (upd H a o) h' := fun b u e => by
 have hn := x.fresh hp
 by_cases hb : b = a
 ·subst hb; rw [upd_same] at e; cases e; exact new
 ·rw [upd_ne hb] at e
  exact (x b u e).stay (fun c v _ q => k c v q) (fun c q => by rw [upd_ne (ne_of_none q hn)]; exact q) fun c xs q => by rw [upd_ne (ne_of_none q hn)]; exact q
end
noncomputable def Rd (H : Hp) (a : Addr) (u : HO) : Prop := H a = some u ∨ ∃ o, H a = some (.frz o u)
theorem Rd.of {H : Hp} {a : Addr} {u : HO} (h : H a = some u) : Rd H a u := .inl h
theorem Rd.ok {P : Program} {w : World} {H : Hp} {h : Heap} {a : Addr} {u : HO} (r : Rd H a u) (x : HOk P w H h) : ObjOk P w H h a u := by
 rcases r with r | ⟨o, r⟩
 ·exact x a u r
 ·obtain ⟨_, q⟩ := x a _ r
  exact q
noncomputable def Mut : Option HO → Prop
 | some (.lst _) => True
 | some (.dK _) => True
 | some (.dT _) => True
 | some (.set _ _) => True
 | some (.ins _ _ _) => True
 | some (.ext _) => True
 | _ => False
section
variable {P : Program} {w : World} {H : Hp} {h h' : Heap} {x e : Addr} {o' : HO}
theorem HOk.write (ok : HOk P w H h) (mu : Mut (H x)) (he : e = x ∨ H e = some (.own x)) (k : ∀ b u, b ≠ e → h.get? b = some u → h'.get? b = some u) (heo : ∃ u, h'.get? e = some u)
  (new : ObjOk P w (upd H x o') h' x o') : HOk P w (upd H x o') h' := fun b u q => by
 have nown : ∀ c y, H c = some (.own y) → c ≠ x := fun c y r z => by subst z; rw [r] at mu; exact mu
 have ntup : ∀ c xs, H c = some (.tup xs) → c ≠ x := fun c xs r z => by subst z; rw [r] at mu; exact mu
 by_cases hb : b = x
 ·subst hb; rw [upd_same] at q; cases q; exact new
 ·rw [upd_ne hb] at q
  by_cases hbe : b = e
  ·have q' : H b = some (.own x) := by
    rcases he with z | z
    ·exact absurd (hbe.trans z) hb
    ·rw [hbe]; exact z
   rw [q] at q'; cases q'
   obtain ⟨v, hv⟩ := heo
   exact ⟨v, by rw [hbe]; exact hv⟩
  ·refine (ok b u q).stay (fun c v hc r => k c v ?_ r) (fun c r => by rw [upd_ne (nown c b r)]; exact r) fun c xs r => by rw [upd_ne (ntup c xs r)]; exact r
   rcases hc with rfl | hc
   ·exact hbe
   ·rintro rfl
    rcases he with z | z
    ·exact nown c b hc z
    ·rw [hc] at z; cases z; exact hb rfl
end
structure Un (fs ex : List Addr) (H H' : Hp) (h h' : Heap) : Prop where
 keep : ∀ b o, h.get? b = some o → H b = none → b ∉ fs → b ∉ ex → h'.get? b = some o
 slot : ∀ b o, h.get? b = some o → H b = none → b ∈ fs → b ∉ ex → ∃ sl, h'.get? b = some { o with slots := sl }
 free : ∀ b o, h.get? b = some o → H b = none → b ∉ ex → H' b = none
 there : ∀ b o, h.get? b = some o → b ∉ ex → ∃ o', h'.get? b = some o'
 tups : ∀ b xs, H b = some (.tup xs) → H' b = some (.tup xs)
 frzs : ∀ b o u, H b = some (.frz o u) → H' b = some (.frz o u)
 tbls : ∀ b ps, H b = some (.tbl ps) → ∃ more, H' b = some (.tbl (ps ++ more))
section
variable {fs fs' ex ex' : List Addr} {H H1 H2 : Hp} {h h1 h2 h' : Heap} {a x e : Addr} {o : HO}
theorem Un.any (u : Un fs ex H H1 h h1) {b : Addr} {ob : Obj} (q : h.get? b = some ob) (n : H b = none) (hx : b ∉ ex) : ∃ sl, h1.get? b = some { ob with slots := sl } := by
 by_cases hb : b ∈ fs
 ·exact u.slot b ob q n hb hx
 ·exact ⟨ob.slots, u.keep b ob q n hb hx⟩
theorem Un.trans (a : Un fs ex H H1 h h1) (b : Un fs ex H1 H2 h1 h2) : Un fs ex H H2 h h2 where
 keep := fun c ob q n hc hx => b.keep c ob (a.keep c ob q n hc hx) (a.free c ob q n hx) hc hx
 slot := fun c ob q n hc hx => by
  obtain ⟨sl, e1⟩ := a.slot c ob q n hc hx
  obtain ⟨sl', e2⟩ := b.slot c _ e1 (a.free c ob q n hx) hc hx
  exact ⟨sl', e2⟩
 free := fun c ob q n hx => by
  obtain ⟨o', e1⟩ := a.there c ob q hx
  exact b.free c o' e1 (a.free c ob q n hx) hx
 there := fun c ob q hx => by
  obtain ⟨o', e1⟩ := a.there c ob q hx
  exact b.there c o' e1 hx
 tups := fun c xs q => b.tups c xs (a.tups c xs q)
 frzs := fun c ob xs q => b.frzs c ob xs (a.frzs c ob xs q)
 tbls := fun c ps q => by
  obtain ⟨m1, e1⟩ := a.tbls c ps q
  obtain ⟨m2, e2⟩ := b.tbls c _ e1
  exact ⟨m1 ++ m2, by rw [e2, Array.append_assoc]⟩
theorem Un.kept (k : ∀ b u, h.get? b = some u → h'.get? b = some u) : Un fs ex H H h h' :=
 ⟨fun b ob q _ _ _ => k b ob q, fun b ob q _ _ _ => ⟨ob.slots, k b ob q⟩, fun _ _ _ n _ => n, fun b ob q _ => ⟨ob, k b ob q⟩, fun _ _ q => q, fun _ _ _ q => q, fun _ ps q => ⟨#[], by rw [q]; simp⟩⟩
theorem Un.refl : Un fs ex H H h h := Un.kept fun _ _ q => q
theorem Un.laid (k : ∀ b u, h.get? b = some u → h'.get? b = some u) (hp : h.objs.size ≤ a) (hn : H a = none) : Un fs ex H (upd H a o) h h' where
 keep := fun b u q _ _ _ => k b u q
 slot := fun b u q _ _ _ => ⟨u.slots, k b u q⟩
 free := fun b u q n _ => by rw [upd_ne (Nat.ne_of_lt (Nat.lt_of_lt_of_le (Heap.lt_size q) hp))]; exact n
 there := fun b u q _ => ⟨u, k b u q⟩
 tups := fun b xs q => by rw [upd_ne (ne_of_none q hn)]; exact q
 frzs := fun b u xs q => by rw [upd_ne (ne_of_none q hn)]; exact q
 tbls := fun b ps q => ⟨#[], by rw [upd_ne (ne_of_none q hn), q]; simp⟩
theorem Un.write (mu : Mut (H x)) (he : e = x ∨ H e = some (.own x)) (k : ∀ b u, b ≠ e → h.get? b = some u → h'.get? b = some u) (heo : ∃ u, h'.get? e = some u) : Un fs ex H (upd H x o) h h' := by
 have hx : ∀ b, H b = none → b ≠ x := fun b n z => by subst z; rw [n] at mu; exact mu
 have hb : ∀ b, H b = none → b ≠ e := fun b n z => by
  subst z
  rcases he with r | r
  ·exact hx b n r
  ·rw [n] at r; cases r
 have hm : ∀ b u, H b = some u → ¬ Mut (some u) → b ≠ x := fun b u q nm z => by subst z; rw [q] at mu; exact nm mu
 refine ⟨fun b u q n _ _ => k b u (hb b n) q, fun b u q n _ _ => ⟨u.slots, k b u (hb b n) q⟩, fun b u q n _ => by rw [upd_ne (hx b n)]; exact n, fun b u q _ => ?_,
  fun b xs q => by rw [upd_ne (hm b _ q fun z => z)]; exact q, fun b u xs q => by rw [upd_ne (hm b _ q fun z => z)]; exact q, fun b ps q => ⟨#[], by rw [upd_ne (hm b _ q fun z => z), q]; simp⟩⟩
 by_cases hbe : b = e
 ·subst hbe; exact heo
 ·exact ⟨u, k b u hbe q⟩
theorem Un.mono (u : Un fs ex H H1 h h1) (hs : ∀ b ∈ fs, b ∈ fs') (hx : ∀ b ∈ ex, b ∈ ex') : Un fs' ex' H H1 h h1 :=
 ⟨fun b ob q n hb he => u.keep b ob q n (fun z => hb (hs b z)) fun z => he (hx b z), fun _ _ q n _ he => u.any q n fun z => he (hx _ z), fun b ob q n he => u.free b ob q n fun z => he (hx b z), fun b ob q he => u.there b ob q fun z => he (hx b z), u.tups, u.frzs, u.tbls⟩
end
noncomputable def trk (h : Heap) (H : Hp) : List Addr := (List.range h.objs.size).filter fun a => (H a).isSome
noncomputable def hidT (h : Heap) (H : Hp) : Heap := PySem.W.hideAll h (trk h H)
theorem hidT_size (h : Heap) (H : Hp) : (hidT h H).objs.size = h.objs.size := PySem.W.hideAll_size _ _
theorem hidT_get {h : Heap} {H : Hp} {b : Addr} {o : Obj} (e : h.get? b = some o) (n : H b = none) : (hidT h H).get? b = some o :=
 PySem.W.hideAll_get _ e fun hm => by
  have q : (H b).isSome = true := (List.mem_filter.mp hm).2
  rw [n] at q; simp at q
theorem of_hidT {h : Heap} {H : Hp} {b : Addr} {o : Obj} (e : (hidT h H).get? b = some o) : h.get? b = some o ∧ H b = none := by
 have e' : h.get? b = some o := PySem.W.of_hideAll (trk h H) e
 refine ⟨e', ?_⟩
 cases q : H b with
 | none => rfl
 | some x =>
  have hm : b ∈ trk h H := List.mem_filter.mpr ⟨List.mem_range.mpr (Heap.lt_size e'), by simp [q]⟩
  have z : (hidT h H).get? b = none := PySem.W.hideAll_none (trk h H) hm
  rw [z] at e; cases e
noncomputable def allNews (g h : Heap) (L : Addr) : List (Addr × Obj) := (List.range h.objs.size).filterMap fun a => if a = L ∨ (g.get? a).isSome = true then none else (h.get? a).map fun o => (a, o)
noncomputable def rest (g h : Heap) (L d : Addr) : List (Addr × Obj) := (allNews g h L).filter fun p => decide (p.1 ≠ d)
end L2
namespace L2
open PySem PySem.Spec PyProof.Rows
structure Mod (K : PySem.W.Frag) (mg : Str → Option Value) (base : Heap) : Prop where
 kin : K.In base
 glob : base.Ns mainGlobals mg
 blt : ∃ mb, base.Ns builtinsNs mb ∧ ∀ x : Str, x ≠ "__name__" → mb x = bootBuiltins x
 nolimit : base.NoLimit
structure Cx where
 prog : Program
 w : World
 K : PySem.W.Frag
 mg : Str → Option Value
 base : Heap
 A : Around
 N : List Str
 s₀ : Shared
 H₀ : Hp
 env : Env
 outer : List Env
 stack : List Env
 ex : List Addr
 fn : Str → Bool
 calm : Bool
 pn : List (Addr × Obj)
 xe : Value → Shared → Prop
noncomputable def frs (l : List Env) : List Addr := l.filterMap (·.frame)
abbrev Cx.fs (X : Cx) : List Addr := frs X.outer
noncomputable def Vis (sc : Scope) (x : Str) : Prop := sc.names.lookup x = some .local ∨ sc.names.lookup x = some .cell ∨ sc.names.lookup x = some .free
noncomputable def Loc (sc : Scope) (x : Str) : Prop := sc.names.lookup x = some .local ∨ sc.names.lookup x = some .cell
noncomputable def Look (env : Env) (h : Heap) (m : Str → Option Value) (x : Str) (u : Value) : Prop :=
 (env.kindOf x = some .local ∧ m x = some u) ∨ ((env.kindOf x = some .cell ∨ env.kindOf x = some .free) ∧ ∃ c, env.cells.lookup x = some c ∧ h.IsCell c (some u))
structure Cx.Ok (X : Cx) : Prop where
 mod : Mod X.K X.mg X.base
 kind : X.env.scope.kind = .function
 glob : X.env.globals = mainGlobals
 blt : X.env.builtins = builtinsNs
 above : X.s₀.heap.objs.size ≤ X.env.locals
 inj : ∀ x y c, X.env.cells.lookup x = some c → X.env.cells.lookup y = some c → x = y
 has : ∀ x, (X.env.kindOf x = some .cell ∨ X.env.kindOf x = some .free) → ∃ c, X.env.cells.lookup x = some c
 cab : ∀ x c, X.fn x = true → X.env.cells.lookup x = some c → X.s₀.heap.objs.size ≤ c
 hd : X.calm = true → X.A.handled = none
 frames : X.A.frames = some X.stack
 stk : X.stack = X.outer ∨ (X.stack = X.env :: X.outer ∧ X.env.frame = some X.env.locals)
 exf : ∀ b ∈ X.ex, b ≠ X.env.locals ∧ ∀ x c, X.env.cells.lookup x = some c → c ≠ b
 bs : ∀ b o, X.base.get? b = some o → X.s₀.heap.get? b = some o ∧ X.H₀ b = none
 bsz : X.base.objs.size ≤ X.s₀.heap.objs.size
 noex : ∀ b o, X.base.get? b = some o → b ∉ X.ex
 exfs : ∀ b ∈ X.ex, b ∉ X.fs
 funs : X.s₀.heap.FunFrames X.base X.outer
 frf : ∀ b ∈ X.fs, X.H₀ b = none
structure Inv (X : Cx) (pins : List (Addr × Obj)) (σ : List (Option V)) (H : Hp) (s : Shared) : Prop where
 ok : X.Ok
 os : s.os = X.s₀.os
 bare : AllBare s.gens
 base : Un X.fs X.ex X.H₀ H X.s₀.heap s.heap
 loc : ∃ m, s.heap.Ns X.env.locals m ∧ ∀ (i : Nat) (x : Str) (v : V), X.N[i]? = some x → σ[i]? = some (some v) → Vis X.env.scope x → ∃ u, RelV v u ∧ Look X.env s.heap m x u
 cell : ∀ x c, X.env.cells.lookup x = some c → ∃ v, s.heap.IsCell c v
 free : H X.env.locals = none
 freeC : ∀ x c, X.env.cells.lookup x = some c → H c = none
 pin : ∀ p ∈ X.pn ++ pins, s.heap.get? p.1 = some p.2 ∧ H p.1 = none ∧ p.1 ≠ X.env.locals ∧ p.1 ∉ X.fs ∧ ∀ v, p.2.data ≠ .cell v
 hok : HOk X.prog X.w H s.heap
 len : σ.length = X.N.length
section
variable {X : Cx} {pins : List (Addr × Obj)} {σ : List (Option V)} {H H' : Hp} {s : Shared} {h' : Heap}
theorem Cx.Ok.nofr (ok : X.Ok) {b : Addr} {o : Obj} (e : X.base.get? b = some o) : b ∉ X.fs := fun hb => by
 have := (ok.funs.mem hb).1
 rw [e] at this; cases this
theorem Inv.bs (I : Inv X pins σ H s) : ∀ b o, X.base.get? b = some o → s.heap.get? b = some o ∧ H b = none := fun b o e =>
 ⟨I.base.keep b o (I.ok.bs b o e).1 (I.ok.bs b o e).2 (I.ok.nofr e) (I.ok.noex b o e), I.base.free b o (I.ok.bs b o e).1 (I.ok.bs b o e).2 (I.ok.noex b o e)⟩
theorem Inv.bk (I : Inv X pins σ H s) : ∀ b o, X.base.get? b = some o → s.heap.get? b = some o := fun b o e => (I.bs b o e).1
theorem Inv.mod (I : Inv X pins σ H s) : Mod X.K X.mg X.base := I.ok.mod
theorem Inv.kIn (I : Inv X pins σ H s) : X.K.In s.heap := I.ok.mod.kin.keeps I.bk
theorem Inv.nolimit (I : Inv X pins σ H s) : s.heap.NoLimit := I.ok.mod.nolimit.keeps I.bk
theorem Inv.fr (I : Inv X pins σ H s) : ∃ m, Fr X.base X.env.locals s.heap m :=
 let ⟨m, hn, _⟩ := I.loc
 ⟨m, hn, I.bk, Nat.le_trans I.ok.bsz I.ok.above⟩
theorem Inv.lt (I : Inv X pins σ H s) : X.env.locals < s.heap.objs.size := let ⟨_, hn, _⟩ := I.loc; hn.lt
theorem Inv.sz (I : Inv X pins σ H s) : X.s₀.heap.objs.size ≤ s.heap.objs.size := Nat.le_trans I.ok.above (Nat.le_of_lt I.lt)
theorem Inv.nofs (I : Inv X pins σ H s) {a : Addr} (h : s.heap.objs.size ≤ a) : a ∉ X.fs := fun hb => by
 obtain ⟨_, o, ho, _⟩ := I.ok.funs.mem hb
 exact absurd (Nat.lt_of_lt_of_le (Heap.lt_size ho) (Nat.le_trans I.sz h)) (Nat.lt_irrefl _)
theorem Inv.cne (I : Inv X pins σ H s) : ∀ x c, X.env.cells.lookup x = some c → c ≠ X.env.locals := fun x c e z => by
 obtain ⟨v, o, ho, hd⟩ := I.cell x c e
 obtain ⟨m, ⟨o', es, ep, ho', hd', _⟩, _⟩ := I.loc
 rw [z, ho'] at ho; cases ho; rw [hd'] at hd; cases hd
theorem Inv.funs (I : Inv X pins σ H s) : s.heap.FunFrames X.base X.outer := by
 have all : ∀ (l : List Env), (∀ b ∈ frs l, b ∈ X.fs) → X.s₀.heap.FunFrames X.base l → s.heap.FunFrames X.base l := by
  intro l
  induction l with
  | nil => intro _ _; trivial
  | cons env r ih =>
   intro hs hl
   obtain ⟨hk, ⟨L, o, hf, hn, ho, hd⟩, hr⟩ := hl
   have hL : L ∈ X.fs := hs L (by unfold frs; rw [List.filterMap_cons, hf]; exact List.mem_cons_self)
   obtain ⟨sl, e⟩ := I.base.slot L o ho (I.ok.frf L hL) hL fun z => I.ok.exfs L z hL
   exact ⟨hk, ⟨L, _, hf, hn, e, hd⟩, ih (fun b hb => hs b (by unfold frs; rw [List.filterMap_cons, hf]; exact List.mem_cons_of_mem _ hb)) hr⟩
 exact all X.outer (fun _ hb => hb) I.ok.funs
theorem Inv.stack (I : Inv X pins σ H s) : s.heap.FunFrames X.base X.stack := by
 rcases I.ok.stk with e | ⟨e, hf⟩
 ·rw [e]; exact I.funs
 ·rw [e]
  obtain ⟨m, hn, _⟩ := I.loc
  refine .cons (by rw [I.ok.kind]; decide) hf hn ?_ I.funs
  exact Heap.get?_none_of_le (Nat.le_trans I.ok.bsz I.ok.above)
theorem Inv.stkSub (I : Inv X pins σ H s) : ∀ b ∈ frs X.stack, b ∈ X.env.locals :: X.fs := fun b hb => by
 rcases I.ok.stk with e | ⟨e, hf⟩
 ·rw [e] at hb; exact List.mem_cons_of_mem _ hb
 ·rw [e] at hb
  unfold frs at hb
  rw [List.filterMap_cons, hf] at hb
  exact hb
theorem Inv.stkFree (I : Inv X pins σ H s) : ∀ b ∈ frs X.stack, H b = none := fun b hb => by
 rcases List.mem_cons.mp (I.stkSub b hb) with e | hb
 ·rw [e]; exact I.free
 ·obtain ⟨_, o, ho, _⟩ := I.ok.funs.mem hb
  exact I.base.free b o ho (I.ok.frf b hb) fun z => I.ok.exfs b z hb
theorem Inv.step {g' : Array GenState} {t' : Nat} {d' : Drawn} {ch : List Addr} (I : Inv X pins σ H s)
  (hch : ∀ b ∈ ch, (b ∈ X.ex ∨ X.s₀.heap.objs.size ≤ b) ∧ b ≠ X.env.locals ∧ (∀ x c, X.env.cells.lookup x = some c → c ≠ b) ∧ ∀ p ∈ X.pn ++ pins, p.1 ≠ b)
  (keep : ∀ b o, b ≠ X.env.locals → b ∉ X.fs → b ∉ ch → s.heap.get? b = some o → H b = none → h'.get? b = some o)
  (slot : ∀ b o, b ≠ X.env.locals → b ∈ X.fs → b ∉ ch → s.heap.get? b = some o → H b = none → ∃ sl, h'.get? b = some { o with slots := sl }) (free : ∀ b o, b ∉ ch → s.heap.get? b = some o → H b = none → H' b = none)
  (there : ∀ b o, b ∉ ch → s.heap.get? b = some o → ∃ o', h'.get? b = some o')
  (tups : ∀ b xs, H b = some (.tup xs) → H' b = some (.tup xs)) (frzs : ∀ b o u, H b = some (.frz o u) → H' b = some (.frz o u)) (tbls : ∀ b ps, H b = some (.tbl ps) → ∃ more, H' b = some (.tbl (ps ++ more)))
  (ns : ∀ m, s.heap.Ns X.env.locals m → h'.Ns X.env.locals m) (hok : HOk X.prog X.w H' h') (hg : AllBare g') :
  Inv X pins σ H' { s with heap := h', gens := g', drawn := d', toks := t' } := by
 have neL : ∀ b o, X.s₀.heap.get? b = some o → b ≠ X.env.locals := fun b o e => Nat.ne_of_lt (Nat.lt_of_lt_of_le (Heap.lt_size e) I.ok.above)
 have neC : ∀ b o, X.s₀.heap.get? b = some o → b ∉ X.ex → b ∉ ch := fun b o e hx hb => by
  rcases (hch b hb).1 with z | z
  ·exact hx z
  ·exact absurd (Nat.lt_of_lt_of_le (Heap.lt_size e) z) (Nat.lt_irrefl _)
 have cellK : ∀ x c, X.env.cells.lookup x = some c → ∀ v, s.heap.IsCell c v → h'.IsCell c v := fun x c e v ⟨o, ho, hd⟩ => by
  have nch : c ∉ ch := fun z => (hch c z).2.2.1 x c e rfl
  by_cases hc : c ∈ X.fs
  ·obtain ⟨sl, q⟩ := slot c o (I.cne x c e) hc nch ho (I.freeC x c e)
   exact ⟨_, q, hd⟩
  ·exact ⟨o, keep c o (I.cne x c e) hc nch ho (I.freeC x c e), hd⟩
 refine ⟨I.ok, I.os, hg, ⟨fun b o e n hb hx => ?_, fun b o e n hb hx => ?_, fun b o e n hx => ?_, fun b o e hx => ?_, fun b xs e => tups b xs (I.base.tups b xs e), fun b o xs e => frzs b o xs (I.base.frzs b o xs e), fun b ps e => ?_⟩, ?_, fun x c e => ?_, ?_, fun x c e => ?_, fun p hp => ?_, hok, I.len⟩
 ·exact keep b o (neL b o e) hb (neC b o e hx) (I.base.keep b o e n hb hx) (I.base.free b o e n hx)
 ·obtain ⟨sl, e1⟩ := I.base.slot b o e n hb hx
  obtain ⟨sl', e2⟩ := slot b _ (neL b o e) hb (neC b o e hx) e1 (I.base.free b o e n hx)
  exact ⟨sl', e2⟩
 ·obtain ⟨o', e1⟩ := I.base.there b o e hx
  exact free b o' (neC b o e hx) e1 (I.base.free b o e n hx)
 ·obtain ⟨o', e1⟩ := I.base.there b o e hx
  exact there b o' (neC b o e hx) e1
 ·obtain ⟨m1, e1⟩ := I.base.tbls b ps e
  obtain ⟨m2, e2⟩ := tbls b _ e1
  exact ⟨m1 ++ m2, by rw [e2, Array.append_assoc]⟩
 ·obtain ⟨m, hn, hl⟩ := I.loc
  refine ⟨m, ns m hn, fun i x v e1 e2 e3 => ?_⟩
  obtain ⟨u, r, l⟩ := hl i x v e1 e2 e3
  refine ⟨u, r, ?_⟩
  rcases l with l | ⟨k, c, e, z⟩
  ·exact .inl l
  ·exact .inr ⟨k, c, e, cellK x c e _ z⟩
 ·obtain ⟨v, z⟩ := I.cell x c e
  exact ⟨v, cellK x c e v z⟩
 ·obtain ⟨m, ⟨o, _, _, ho, _⟩, _⟩ := I.loc
  exact free _ o (fun z => (hch _ z).2.1 rfl) ho I.free
 ·obtain ⟨v, o, ho, hd⟩ := I.cell x c e
  exact free c o (fun z => (hch c z).2.2.1 x c e rfl) ho (I.freeC x c e)
 ·obtain ⟨e, n, ne, nf, d⟩ := I.pin p hp
  have nch : p.1 ∉ ch := fun z => (hch p.1 z).2.2.2 p hp rfl
  exact ⟨keep p.1 p.2 ne nf nch e n, free p.1 p.2 nch e n, ne, nf, d⟩
theorem Inv.un {t' : Nat} (I : Inv X pins σ H s) (u : Un X.fs [] H H' s.heap h') (hok : HOk X.prog X.w H' h') : Inv X pins σ H' { s with heap := h', toks := t' } := by
 obtain ⟨m, ⟨o, es, ep, ho, r⟩, _⟩ := id I.loc
 obtain ⟨sl, hL⟩ := u.any ho I.free (by simp)
 exact I.step (g' := s.gens) (d' := s.drawn) (ch := []) (fun _ z => nomatch z) (fun b o _ hb _ e n => u.keep b o e n hb (by simp)) (fun b o _ hb _ e n => u.slot b o e n hb (by simp)) (fun b o _ e n => u.free b o e n (by simp)) (fun b o _ e => u.there b o e (by simp)) u.tups u.frzs u.tbls (fun m' hm => by
  obtain ⟨o', es', ep', ho', r'⟩ := hm
  rw [ho] at ho'; cases ho'
  exact ⟨_, es', ep', hL, r'⟩) hok I.bare
theorem Inv.call {g' : Array GenState} {t' : Nat} {d' : Drawn} {ch : List Addr} (I : Inv X pins σ H s) (u : Un (frs X.stack) ch H H' s.heap h') (hok : HOk X.prog X.w H' h') (hg : AllBare g')
  (hch : ∀ b ∈ ch, (b ∈ X.ex ∨ X.s₀.heap.objs.size ≤ b) ∧ b ≠ X.env.locals ∧ (∀ x c, X.env.cells.lookup x = some c → c ≠ b) ∧ ∀ p ∈ X.pn ++ pins, p.1 ≠ b) :
  Inv X pins σ H' { s with heap := h', gens := g', drawn := d', toks := t' } := by
 obtain ⟨m, ⟨o, es, ep, ho, r⟩, _⟩ := id I.loc
 obtain ⟨sl, hL⟩ := u.any ho I.free fun z => (hch _ z).2.1 rfl
 exact I.step (ch := ch) hch (fun b o hL hb hc e n => u.keep b o e n (fun z => (List.mem_cons.mp (I.stkSub b z)).elim hL hb) hc) (fun b o _ _ hc e n => u.any e n hc) (fun b o hc e n => u.free b o e n hc) (fun b o hc e => u.there b o e hc) u.tups u.frzs u.tbls (fun m' hm => by
  obtain ⟨o', es', ep', ho', r'⟩ := hm
  rw [ho] at ho'; cases ho'
  exact ⟨_, es', ep', hL, r'⟩) hok hg
theorem Inv.turned {t' : Nat} {it : Addr} (I : Inv X pins σ H s) (k : ∀ b o, b ≠ it → s.heap.get? b = some o → h'.get? b = some o) (hn : H it = none) (hL : it ≠ X.env.locals)
  (h1 : it ∈ X.ex ∨ X.s₀.heap.objs.size ≤ it) (h2 : ∀ x c, X.env.cells.lookup x = some c → c ≠ it) (h3 : ∀ p ∈ X.pn ++ pins, p.1 ≠ it) : Inv X pins σ H { s with heap := h', toks := t' } := by
 have nit : ∀ b u, H b = some u → b ≠ it := fun b u e z => by rw [z, hn] at e; cases e
 refine I.step (g' := s.gens) (d' := s.drawn) (ch := [it]) (fun b hb => ?_) (fun b o _ _ hc e _ => k b o (fun z => hc (by simp [z])) e) (fun b o _ _ hc e _ => ⟨o.slots, k b o (fun z => hc (by simp [z])) e⟩) (fun _ _ _ _ n => n)
  (fun b o hc e => ⟨o, k b o (fun z => hc (by simp [z])) e⟩) (fun _ _ e => e) (fun _ _ _ e => e) (fun b ps e => ⟨#[], by rw [e]; simp⟩) (fun m hm => ?_) (fun b u e => ?_) I.bare
 ·have e : b = it := by simpa using hb
  subst e
  exact ⟨h1, hL, h2, h3⟩
 ·obtain ⟨o, es, ep, ho, r⟩ := hm
  exact ⟨o, es, ep, k _ o (Ne.symm hL) ho, r⟩
 ·refine (I.hok b u e).stay (fun c v hc q => k c v ?_ q) (fun _ q => q) fun _ _ q => q
  rcases hc with z | z
  ·rw [z]; exact nit b u e
  ·exact nit c _ z
theorem Inv.tok (I : Inv X pins σ H s) (t : Nat) : Inv X pins σ H { s with toks := t } := I.un (h' := s.heap) (t' := t) Un.refl I.hok
theorem Inv.kept {t' : Nat} (I : Inv X pins σ H s) (k : ∀ b u, s.heap.get? b = some u → h'.get? b = some u) : Inv X pins σ H { s with heap := h', toks := t' } := I.un (Un.kept k) (I.hok.kept k)
theorem Inv.laid {a : Addr} {o : HO} {t' : Nat} (I : Inv X pins σ H s) (k : ∀ b u, s.heap.get? b = some u → h'.get? b = some u) (hp : s.heap.objs.size ≤ a) (new : ObjOk X.prog X.w (upd H a o) h' a o) :
  Inv X pins σ (upd H a o) { s with heap := h', toks := t' } := I.un (Un.laid k hp (I.hok.fresh hp)) (I.hok.laid k hp new)
theorem Inv.write {x e : Addr} {o : HO} {t' : Nat} (I : Inv X pins σ H s) (mu : Mut (H x)) (he : e = x ∨ H e = some (.own x)) (k : ∀ b u, b ≠ e → s.heap.get? b = some u → h'.get? b = some u) (heo : ∃ u, h'.get? e = some u)
  (new : ObjOk X.prog X.w (upd H x o) h' x o) : Inv X pins σ (upd H x o) { s with heap := h', toks := t' } := I.un (Un.write mu he k heo) (I.hok.write mu he k heo new)
theorem Inv.weak {σ' : List (Option V)} (I : Inv X pins σ H s) (hl : σ'.length = σ.length) (w : ∀ (i : Nat) v, σ'[i]? = some (some v) → σ[i]? = some (some v)) : Inv X pins σ' H s :=
 ⟨I.ok, I.os, I.bare, I.base, let ⟨m, hn, hl'⟩ := I.loc; ⟨m, hn, fun i x v e1 e2 e3 => hl' i x v e1 (w i v e2) e3⟩, I.cell, I.free, I.freeC, I.pin, I.hok, hl.trans I.len⟩
theorem Inv.pins_of {pins' : List (Addr × Obj)} (I : Inv X pins σ H s) (h : ∀ p ∈ pins', s.heap.get? p.1 = some p.2 ∧ H p.1 = none ∧ p.1 ≠ X.env.locals ∧ p.1 ∉ X.fs ∧ ∀ v, p.2.data ≠ .cell v) : Inv X pins' σ H s :=
 ⟨I.ok, I.os, I.bare, I.base, I.loc, I.cell, I.free, I.freeC, fun p hp => (List.mem_append.mp hp).elim (fun z => I.pin p (List.mem_append_left _ z)) (h p), I.hok, I.len⟩
theorem nodup_ix {N : List Str} (hN : N.Nodup) {i j : Nat} {x : Str} (a : N[i]? = some x) (b : N[j]? = some x) : i = j := by
 obtain ⟨h1, e1⟩ := List.getElem?_eq_some_iff.mp a
 obtain ⟨h2, e2⟩ := List.getElem?_eq_some_iff.mp b
 exact (List.getElem_inj hN).mp (e1.trans e2.symm)
theorem store_ok2 {M : Model} {A : Around} {E : Value → Shared → Prop} {i : Nat} {x : Str} {v : V} {u : Value} {Q : Unit → Shared → Prop} (I : Inv X pins σ H s) (hN : X.N.Nodup) (hi : X.N[i]? = some x) (hx : Loc X.env.scope x) (r : RelV v u)
  (h : ∀ s', Inv X pins (σ.set i (some v)) H s' → (∃ a, Heap.SameBut a s.heap s'.heap ∧ (a = X.env.locals ∨ X.env.cells.lookup x = some a)) → Q () s') (hf : X.fn x = true ∨ X.env.scope.names.lookup x = some .local := by first | exact .inl rfl | exact .inr rfl | assumption) : wpAny M A (storeName X.env x u) Q E s := by
 obtain ⟨m, hn, hl⟩ := id I.loc
 have hcls : (X.env.scope.kind == .class || (X.env.scope.kind == .module && X.env.locals != X.env.globals)) = false := by rw [I.ok.kind]; rfl
 have hiσ : i < σ.length := by rw [I.len]; exact (List.getElem?_eq_some_iff.mp hi).1
 have cne := I.cne
 have tracked : ∀ {a : Addr} {h' : Heap}, (∃ o, s.heap.get? a = some o ∧ H a = none) → Heap.SameBut a s.heap h' → HOk X.prog X.w H h' := fun {a h'} ha hs b ob e => by
  obtain ⟨_, _, hfree⟩ := ha
  refine (I.hok b ob e).stay (fun c w' hc q => (hs.2 c ?_).trans q) (fun _ q => q) fun _ _ q => q
  rintro rfl
  rcases hc with rfl | hc
  ·rw [hfree] at e; cases e
  ·rw [hfree] at hc; cases hc
 rcases hx with hk | hk
 ·refine wpAny_storeName_local hk hn (fun h' hn' hs => ?_) hcls
  obtain ⟨oL, _, _, hoL, _⟩ := id hn
  refine h _ ⟨I.ok, I.os, I.bare, ⟨fun b o e n hb hx => ?_, fun b o e n hb hx => ?_, I.base.free, fun b o e hx => ?_, I.base.tups, I.base.frzs, I.base.tbls⟩, ⟨_, hn', fun j y v' e1 e2 e3 => ?_⟩, fun y c e => ?_, I.free, I.freeC, fun p hp => ?_, tracked ⟨oL, hoL, I.free⟩ hs, by simpa using I.len⟩ ⟨_, hs, .inl rfl⟩
  ·exact (hs.2 b (Nat.ne_of_lt (Nat.lt_of_lt_of_le (Heap.lt_size e) I.ok.above))).trans (I.base.keep b o e n hb hx)
  ·obtain ⟨sl, e1⟩ := I.base.slot b o e n hb hx
   exact ⟨sl, (hs.2 b (Nat.ne_of_lt (Nat.lt_of_lt_of_le (Heap.lt_size e) I.ok.above))).trans e1⟩
  ·obtain ⟨o', e1⟩ := I.base.there b o e hx
   exact ⟨o', (hs.2 b (Nat.ne_of_lt (Nat.lt_of_lt_of_le (Heap.lt_size e) I.ok.above))).trans e1⟩
  ·by_cases hj : j = i
   ·subst hj
    rw [hi] at e1; cases e1
    rw [List.getElem?_set_self hiσ] at e2
    cases e2
    exact ⟨u, r, .inl ⟨hk, by simp⟩⟩
   ·rw [List.getElem?_set_ne (Ne.symm hj)] at e2
    obtain ⟨u', r', q⟩ := hl j y v' e1 e2 e3
    refine ⟨u', r', ?_⟩
    rcases q with ⟨k, e⟩ | ⟨k, c, e, z⟩
    ·refine .inl ⟨k, ?_⟩
     have : y ≠ x := fun e => hj (nodup_ix hN e1 (e ▸ hi))
     simp [this, e]
    ·exact .inr ⟨k, c, e, z.sameBut hs (cne y c e)⟩
  ·obtain ⟨w', z⟩ := I.cell y c e
   exact ⟨w', z.sameBut hs (cne y c e)⟩
  ·obtain ⟨e, n, ne, nf, d⟩ := I.pin p hp
   exact ⟨(hs.2 p.1 ne).trans e, n, ne, nf, d⟩
 ·have hfn : X.fn x = true := by
   rcases hf with z | z
   ·exact z
   ·rw [z] at hk; cases hk
  obtain ⟨c, hc⟩ := I.ok.has x (.inl hk)
  obtain ⟨w', z⟩ := I.cell x c hc
  refine wpAny_storeName_cell I.ok.kind hk hc z (fun h' hc' hs => ?_)
  obtain ⟨oc, hoc, hocd⟩ := id z
  refine h { s with heap := h' } ⟨I.ok, I.os, I.bare, ⟨fun b o e n hb hx => ?_, fun b o e n hb hx => ?_, I.base.free, fun b o e hx => ?_, I.base.tups, I.base.frzs, I.base.tbls⟩, ⟨m, hn.sameBut hs (Ne.symm (cne x c hc)), fun j y v' e1 e2 e3 => ?_⟩, fun y c' e => ?_, I.free, I.freeC, fun p hp => ?_, tracked ⟨oc, hoc, I.freeC x c hc⟩ hs, by simpa using I.len⟩ ⟨c, hs, .inr hc⟩
  ·exact (hs.2 b (Nat.ne_of_lt (Nat.lt_of_lt_of_le (Heap.lt_size e) (I.ok.cab x c hfn hc)))).trans (I.base.keep b o e n hb hx)
  ·obtain ⟨sl, e1⟩ := I.base.slot b o e n hb hx
   exact ⟨sl, (hs.2 b (Nat.ne_of_lt (Nat.lt_of_lt_of_le (Heap.lt_size e) (I.ok.cab x c hfn hc)))).trans e1⟩
  ·obtain ⟨o', e1⟩ := I.base.there b o e hx
   exact ⟨o', (hs.2 b (Nat.ne_of_lt (Nat.lt_of_lt_of_le (Heap.lt_size e) (I.ok.cab x c hfn hc)))).trans e1⟩
  ·by_cases hj : j = i
   ·subst hj
    rw [hi] at e1; cases e1
    rw [List.getElem?_set_self hiσ] at e2
    cases e2
    exact ⟨u, r, .inr ⟨.inl hk, c, hc, hc'⟩⟩
   ·rw [List.getElem?_set_ne (Ne.symm hj)] at e2
    obtain ⟨u', r', q⟩ := hl j y v' e1 e2 e3
    refine ⟨u', r', ?_⟩
    rcases q with q | ⟨k, c', e, z'⟩
    ·exact .inl q
    ·refine .inr ⟨k, c', e, z'.sameBut hs ?_⟩
     rintro rfl
     exact hj (nodup_ix hN e1 (I.ok.inj _ _ _ e hc ▸ hi))
  ·by_cases hcc : c' = c
   ·subst hcc; exact ⟨_, hc'⟩
   ·obtain ⟨w2, z2⟩ := I.cell y c' e
    exact ⟨w2, z2.sameBut hs hcc⟩
  ·obtain ⟨e, n, ne, nf, d⟩ := I.pin p hp
   refine ⟨(hs.2 p.1 ?_).trans e, n, ne, nf, d⟩
   intro q
   rw [q, hoc] at e
   have q' : oc = p.2 := Option.some.inj e
   exact d w' (by rw [← q']; exact hocd)
theorem store_ok {M : Model} {A : Around} {E : Value → Shared → Prop} {i : Nat} {x : Str} {v : V} {u : Value} {Q : Unit → Shared → Prop} (I : Inv X pins σ H s) (hN : X.N.Nodup) (hi : X.N[i]? = some x) (hx : Loc X.env.scope x) (r : RelV v u)
  (h : ∀ s', Inv X pins (σ.set i (some v)) H s' → Q () s') (hf : X.fn x = true ∨ X.env.scope.names.lookup x = some .local := by first | exact .inl rfl | exact .inr rfl | assumption) : wpAny M A (storeName X.env x u) Q E s :=
 store_ok2 I hN hi hx r (fun s' I' _ => h s' I') hf
theorem Inv.call' {s' : Shared} {ch : List Addr} (I : Inv X pins σ H s) (ho : s'.os = s.os) (u : Un (frs X.stack) ch H H' s.heap s'.heap) (hok : HOk X.prog X.w H' s'.heap) (hg : AllBare s'.gens)
  (hch : ∀ b ∈ ch, (b ∈ X.ex ∨ X.s₀.heap.objs.size ≤ b) ∧ b ≠ X.env.locals ∧ (∀ x c, X.env.cells.lookup x = some c → c ≠ b) ∧ ∀ p ∈ X.pn ++ pins, p.1 ≠ b) : Inv X pins σ H' s' := by
 obtain ⟨h', g', d', t', o'⟩ := s'
 have e : o' = s.os := ho
 subst e
 exact I.call (g' := g') (t' := t') (d' := d') u hok hg hch
end
abbrev XK := Value → Option Addr → Hp → Prop
abbrev St := List (Option V)
abbrev VK := V → Hp → Prop
abbrev TE := St → Hp → VK → Prop
abbrev TT := St → Hp → (Bool → Hp → Prop) → Prop
abbrev TA := St → Hp → (List V → Hp → Prop) → Prop
structure Ends where
 nx : St → Hp → Prop
 rt : VK
 bk : St → Hp → Prop := fun _ _ => False
 ct : St → Hp → Prop := fun _ _ => False
abbrev TS := Ends → St → Hp → Prop
noncomputable def EP (X : Cx) (pins : List (Addr × Obj)) (σ : St) (Q : VK) (u : Value) (s' : Shared) : Prop := ∃ v H', Inv X pins σ H' s' ∧ RelV v u ∧ Q v H'
noncomputable def TP (X : Cx) (pins : List (Addr × Obj)) (σ : St) (Q : Bool → Hp → Prop) (b : Bool) (s' : Shared) : Prop := ∃ H', Inv X pins σ H' s' ∧ Q b H'
noncomputable def AP (X : Cx) (pins : List (Addr × Obj)) (σ : St) (Q : List V → Hp → Prop) (us : List Value) (s' : Shared) : Prop := ∃ vs H', Inv X pins σ H' s' ∧ Vals vs us ∧ Q vs H'
noncomputable def SP (X : Cx) (pins : List (Addr × Obj)) (D : Ends) (f : Flow) (s' : Shared) : Prop :=
 match f with
 | .next => ∃ σ' H', Inv X pins σ' H' s' ∧ D.nx σ' H'
 | .brk => ∃ σ' H', Inv X pins σ' H' s' ∧ D.bk σ' H'
 | .cont => ∃ σ' H', Inv X pins σ' H' s' ∧ D.ct σ' H'
 | .ret u => ∃ v σ' H', Inv X pins σ' H' s' ∧ RelV v u ∧ D.rt v H'
noncomputable def PE (X : Cx) (e : Expr) (t : TE) : Prop :=
 ∀ (pins : List (Addr × Obj)) (s : Shared) (σ : St) (H : Hp) (Q : VK), Inv X pins σ H s → t σ H Q → wpAny (model X.prog X.w) X.A (eval e X.env) (EP X pins σ Q) X.xe s
noncomputable def PT (X : Cx) (e : Expr) (t : TT) : Prop :=
 ∀ (pins : List (Addr × Obj)) (s : Shared) (σ : St) (H : Hp) (Q : Bool → Hp → Prop), Inv X pins σ H s → t σ H Q → wpAny (model X.prog X.w) X.A (isTrue e X.env (eval e X.env)) (TP X pins σ Q) X.xe s
noncomputable def PW (X : Cx) (e : Expr) (t : TT) : Prop :=
 ∀ (whole : Sem Value) (pins : List (Addr × Obj)) (s : Shared) (σ : St) (H : Hp) (Q : Bool → Hp → Prop), Inv X pins σ H s → t σ H Q → wpAny (model X.prog X.w) X.A (isTrue e X.env whole) (TP X pins σ Q) X.xe s
theorem PW.pt {X : Cx} {e : Expr} {t : TT} (h : PW X e t) : PT X e t := h _
noncomputable def PA (X : Cx) (es : List Expr) (t : TA) : Prop :=
 ∀ (pos : Pos) (pins : List (Addr × Obj)) (s : Shared) (σ : St) (H : Hp) (Q : List V → Hp → Prop), Inv X pins σ H s → t σ H Q → wpAny (model X.prog X.w) X.A (spliced (backTo pos (starEach es X.env))) (AP X pins σ Q) X.xe s
noncomputable def PS (X : Cx) (st : Stmt) (t : TS) : Prop :=
 ∀ (pins : List (Addr × Obj)) (s : Shared) (σ : St) (H : Hp) (D : Ends), Inv X pins σ H s → t D σ H → wpAny (model X.prog X.w) X.A (exec st X.env) (SP X pins D) X.xe s
noncomputable def PSs (X : Cx) (st : List Stmt) (t : TS) : Prop :=
 ∀ (pins : List (Addr × Obj)) (s : Shared) (σ : St) (H : Hp) (D : Ends), Inv X pins σ H s → t D σ H → wpAny (model X.prog X.w) X.A (execs st X.env) (SP X pins D) X.xe s
theorem thn {α : Type} {t : Sem α} {Q Q' : α → Shared → Prop} {M : Model} {A : Around} {E : Value → Shared → Prop} {s : Shared} (h : wpAny M A t Q E s) (hQ : ∀ a s, Q a s → Q' a s) : wpAny M A t Q' E s := wpAny_mono h hQ fun _ _ x => x
end L2
namespace L2
open PySem PySem.Spec PyProof.Rows
section
variable {X : Cx}
noncomputable def tVar (i : Nat) : TE := fun σ H Q => ∃ v, σ[i]? = some (some v) ∧ Q v H
noncomputable def tC (v : V) : TE := fun _ H Q => Q v H
theorem pe_var {i : Nat} {x : Str} {pos : Pos} (hN : X.N[i]? = some x) (hv : Vis X.env.scope x) (hd : (x == ("__debug__" : Str)) = false := by decide) (hcd : (x == ("__classdict__" : Str)) = false := by decide) : PE X (.Name x pos) (tVar i) := by
 intro pins s σ H Q I h
 obtain ⟨v, e, h⟩ := h
 obtain ⟨m, hn, hl⟩ := I.loc
 obtain ⟨u, r, l⟩ := hl i x v hN e hv
 have fin : EP X pins σ Q u s := ⟨v, H, I, r, h⟩
 rcases l with ⟨hk, hm⟩ | ⟨hk, c, hc, hcell⟩
 ·exact wpAny_Name (wpAny_loadName_local I.ok.kind hk hn hm fin) hd
 ·rcases hk with hk | hk
  ·exact wpAny_Name (wpAny_loadName_cell I.ok.kind hk hc hcell fin) hd
  ·exact wpAny_Name (wpAny_loadName_free I.ok.kind hk hc hcell fin hcd) hd
theorem pe_int {i j pos} : PE X (.Constant (.int i) j pos) (tC (.int i)) := fun _ _ _ H _ I h => wpAny_Constant_int ⟨.int i, H, I.tok _, ⟨_, rfl⟩, h⟩
theorem pe_bl {b j pos} : PE X (.Constant (.bool b) j pos) (tC (.bl b)) := fun _ _ _ H _ I h => Constant_bool ⟨.bl b, H, I, rfl, h⟩
theorem pe_non {j pos} : PE X (.Constant .none j pos) (tC .non) := fun _ _ _ H _ I h => Constant_none ⟨.non, H, I, rfl, h⟩
theorem pe_str {x j pos} : PE X (.Constant (.str x) j pos) (tC (.str x)) := fun _ _ _ H _ I h => Calls.Constant_str ⟨.str x, H, I.tok _, ⟨_, rfl⟩, h⟩
noncomputable def Gl (X : Cx) (x : Str) : Prop := X.env.kindOf x = some .globalImplicit
theorem ld_glob {E : Value → Shared → Prop} {pins : List (Addr × Obj)} {s : Shared} {σ : St} {H : Hp} {x : Str} {u : Value} {pos : Pos} {Q : Value → Shared → Prop} (I : Inv X pins σ H s) (hg : Gl X x) (hm : X.mg x = some u) (h : Q u s)
  (hd : (x == ("__debug__" : Str)) = false := by decide) : wpAny (model X.prog X.w) X.A (eval (.Name x pos) X.env) Q E s :=
 Calls.Name_function_global I.ok.kind hg (Calls.loadGlobal_global (by rw [I.ok.glob]; exact I.mod.glob.keeps I.bk) hm h) hd
theorem ld_blt {E : Value → Shared → Prop} {pins : List (Addr × Obj)} {s : Shared} {σ : St} {H : Hp} {x : Str} {u : Value} {pos : Pos} {Q : Value → Shared → Prop} (I : Inv X pins σ H s) (hg : Gl X x) (hm : X.mg x = none) (hv : bootBuiltins x = some u) (h : Q u s)
  (hn : x ≠ "__name__" := by decide) (hd : (x == ("__debug__" : Str)) = false := by decide) : wpAny (model X.prog X.w) X.A (eval (.Name x pos) X.env) Q E s := by
 obtain ⟨mb, h1, h2⟩ := I.mod.blt
 exact Calls.Name_function_global I.ok.kind hg (Calls.loadGlobal_builtin (by rw [I.ok.glob]; exact I.mod.glob.keeps I.bk) hm (by rw [I.ok.blt]; exact h1.keeps I.bk) ((h2 x hn).trans hv) h) hd
theorem pe_bltn {x : Str} {v : V} {u : Value} {pos : Pos} (hg : Gl X x) (hm : X.mg x = none) (hv : bootBuiltins x = some u) (r : RelV v u) (hn : x ≠ "__name__" := by decide) (hd : (x == ("__debug__" : Str)) = false := by decide) : PE X (.Name x pos) (tC v) :=
 fun _ _ _ H _ I h => ld_blt I hg hm hv ⟨v, H, I, r, h⟩ hn hd
variable {a b : Expr} {ta tb : TE} {pos : Pos}
noncomputable def tB (t : TE) : TT := fun σ H Q => t σ H fun x H1 => ∃ c, x = .bl c ∧ Q c H1
theorem pt_val {e : Expr} {t : TE} (h : PE X e t) (he : ∀ whole, isTrue e X.env whole = (do let v ← whole; standAt e.pos; holding [v] (truthy v)) := by intro _; rfl) : PT X e (tB t) := by
 intro pins s σ H Q I hw
 refine isTrue_plain (thn (h pins s σ H _ I hw) fun v s1 ⟨x, H1, I1, r1, q1⟩ => ?_) (he _)
 obtain ⟨d, rfl, q⟩ := q1
 cases r1
 exact wpAny_truthy_bool ⟨H1, I1, q⟩
variable {tA tB' : TT} {rest : List Expr}
noncomputable def tAnd (t u : TT) : TT := fun σ H Q => t σ H fun c H1 => if c = true then u σ H1 Q else Q false H1
noncomputable def tOr (t u : TT) : TT := fun σ H Q => t σ H fun c H1 => if c = true then Q true H1 else u σ H1 Q
noncomputable def tNot (t : TT) : TT := fun σ H Q => t σ H fun c H1 => Q (!c) H1
theorem pw_and1 (ha : PT X a tA) : PW X (.BoolOp .And [a] pos) tA := by
 intro wh pins s σ H Q I h
 refine isTrue_and (thn (ha pins s σ H Q I h) fun c s1 e => ?_)
 cases c with
 | true => exact isTrue_and_nil e
 | false => exact e
theorem pw_or1 (ha : PT X a tA) : PW X (.BoolOp .Or [a] pos) tA := by
 intro wh pins s σ H Q I h
 refine isTrue_or (thn (ha pins s σ H Q I h) fun c s1 e => ?_)
 cases c with
 | false => exact isTrue_or_nil e
 | true => exact e
theorem pw_and (ha : PT X a tA) (hb : PW X (.BoolOp .And (b :: rest) pos) tB') : PW X (.BoolOp .And (a :: b :: rest) pos) (tAnd tA tB') := by
 intro wh pins s σ H Q I h
 refine isTrue_and (thn (ha pins s σ H _ I h) fun c s1 ⟨H1, I1, q1⟩ => ?_)
 cases c with
 | true => exact hb wh pins s1 σ H1 Q I1 q1
 | false => exact ⟨H1, I1, q1⟩
theorem pw_or (ha : PT X a tA) (hb : PW X (.BoolOp .Or (b :: rest) pos) tB') : PW X (.BoolOp .Or (a :: b :: rest) pos) (tOr tA tB') := by
 intro wh pins s σ H Q I h
 refine isTrue_or (thn (ha pins s σ H _ I h) fun c s1 ⟨H1, I1, q1⟩ => ?_)
 cases c with
 | true => exact ⟨H1, I1, q1⟩
 | false => exact hb wh pins s1 σ H1 Q I1 q1
theorem pt_not (ha : PT X a tA) : PT X (.UnaryOp .Not a pos) (tNot tA) := by
 intro pins s σ H Q I h
 exact isTrue_not (ha pins s σ H (fun c H1 => Q (!c) H1) I h)
noncomputable def tAndV (ta tb : TE) : TE := fun σ H Q => ta σ H fun x H1 => ∃ c, x = .bl c ∧ if c = true then tb σ H1 Q else Q (.bl false) H1
noncomputable def tNotV (ta : TE) : TE := fun σ H Q => ta σ H fun x H1 => ∃ c, x = .bl c ∧ Q (.bl (!c)) H1
theorem pe_one {op} {t : TE} (h : PE X a t) : PE X (.BoolOp op [a] pos) t := fun pins s σ H Q I hw => BoolOp_one (h pins s σ H Q I hw)
theorem pe_and (ha : PE X a ta) (hb : PE X (.BoolOp .And (b :: rest) pos) tb) : PE X (.BoolOp .And (a :: b :: rest) pos) (tAndV ta tb) := by
 intro pins s σ H Q I h
 refine BoolOp_and (thn (ha pins s σ H _ I h) fun v s1 ⟨x, H1, I1, r1, q1⟩ => ?_)
 obtain ⟨c, rfl, q1⟩ := q1
 cases r1
 refine wpAny_truthy_bool ?_
 cases c with
 | true => exact hb pins s1 σ H1 Q I1 q1
 | false => exact ⟨.bl false, H1, I1, rfl, q1⟩
theorem pe_not (ha : PE X a ta) : PE X (.UnaryOp .Not a pos) (tNotV ta) := by
 intro pins s σ H Q I h
 refine UnaryOp_ (thn (ha pins s σ H _ I h) fun v s1 ⟨x, H1, I1, r1, q1⟩ => ?_)
 obtain ⟨c, rfl, q1⟩ := q1
 cases r1
 exact not_of (wpAny_truthy_bool ⟨.bl (!c), H1, I1, rfl, q1⟩)
noncomputable def tIf (t : TT) (ta tb : TE) : TE := fun σ H Q => t σ H fun c H1 => if c = true then ta σ H1 Q else tb σ H1 Q
theorem pe_ifExp {c : Expr} (hc : PT X c tA) (ha : PE X a ta) (hb : PE X b tb) : PE X (.IfExp c a b pos) (tIf tA ta tb) := by
 intro pins s σ H Q I h
 refine wpAny_IfExp (thn (hc pins s σ H _ I h) fun d s1 ⟨H1, I1, q1⟩ => ?_)
 cases d with
 | true => exact ha pins s1 σ H1 Q I1 q1
 | false => exact hb pins s1 σ H1 Q I1 q1
end
end L2
namespace L2
open PySem PySem.Spec PyProof.Rows
noncomputable def SqL (K : PySem.W.Frag) (H : Hp) (a : Addr) (xs : List V) : Prop :=
 Rd H a (.lst xs) ∨
  ∃ (o : Obj) (its : Array Value) (n : Nat), K.lookup a = some o ∧ o.cls = .type "list" ∧ o.dict = none ∧ o.data = .seq its n ∧ its.size ≤ sizeLine ∧ Vals xs its.toList
noncomputable def SqT (K : PySem.W.Frag) (H : Hp) (a : Addr) (xs : List V) : Prop :=
 Rd H a (.tup xs) ∨
  ∃ (o : Obj) (its : Array Value) (n : Nat), K.lookup a = some o ∧ o.cls = .type "tuple" ∧ o.data = .seq its n ∧ its.size ≤ sizeLine ∧ Vals xs its.toList
noncomputable def absV : Value → Option V
 | .none => some .non
 | .bool b => some (.bl b)
 | .int i _ => some (.int i)
 | .str x _ => some (.str x)
 | .bytes b _ => some (.byt b)
 | .float b _ => some (.flt b)
 | .ref a => some (.ref a)
 | .type n => some (.ty n)
 | _ => none
theorem RelV.abs {x : V} {u : Value} (r : RelV x u) : absV u = some x := by
 cases x with
 | non => cases r; rfl
 | bl _ => cases r; rfl
 | int _ => obtain ⟨t, rfl⟩ := r; rfl
 | str _ => obtain ⟨t, rfl⟩ := r; rfl
 | byt _ => obtain ⟨t, rfl⟩ := r; rfl
 | flt _ => obtain ⟨t, rfl⟩ := r; rfl
 | ref _ => cases r; rfl
 | ty _ => cases r; rfl
theorem RelV.inj {x y : V} {u : Value} (r : RelV x u) (q : RelV y u) : x = y := Option.some.inj (r.abs.symm.trans q.abs)
theorem Vals.inj : ∀ {xs ys : List V} {us : List Value}, Vals xs us → Vals ys us → xs = ys := by
 intro xs ys us h
 induction h generalizing ys with
 | nil => intro q; cases q; rfl
 | cons r t ih => intro q; cases q with | cons r' t' => rw [r.inj r', ih t']
section
variable {X : Cx} {pins : List (Addr × Obj)} {σ : St} {H : Hp} {s : Shared} {a : Addr} {xs ys : List V}
theorem SqL.of {K : PySem.W.Frag} (h : H a = some (.lst xs)) : SqL K H a xs := .inl (.inl h)
theorem SqT.of {K : PySem.W.Frag} (h : H a = some (.tup xs)) : SqT K H a xs := .inl (.inl h)
theorem Inv.list (I : Inv X pins σ H s) (h : SqL X.K H a xs) : ∃ its : List Value, Vals xs its ∧ PlainL s.heap a its.toArray ∧ xs.length ≤ sizeLine := by
 rcases h with h | ⟨o, its, n, hk, hc, hd, hs, hz, r⟩
 ·obtain ⟨z, its, n, r, e⟩ := h.ok I.hok
  exact ⟨its, r, ⟨_, n, e, rfl, rfl, rfl⟩, z⟩
 ·refine ⟨its.toList, r, ⟨o, n, I.kIn a o hk, hc, hd, by simpa using hs⟩, ?_⟩
  have e := r.length
  simp only [Array.length_toList] at e
  omega
theorem Inv.tuple (I : Inv X pins σ H s) (h : SqT X.K H a xs) : ∃ its : List Value, Vals xs its ∧ IsTup s.heap a its.toArray ∧ xs.length ≤ sizeLine := by
 rcases h with h | ⟨o, its, n, hk, hc, hs, hz, r⟩
 ·obtain ⟨z, its, r, p⟩ := h.ok I.hok
  exact ⟨its, r, p, z⟩
 ·refine ⟨its.toList, r, ⟨o, I.kIn a o hk, hc, n, by simpa using hs⟩, ?_⟩
  have e := r.length
  simp only [Array.length_toList] at e
  omega
theorem Inv.list_inj (I : Inv X pins σ H s) (h : SqL X.K H a xs) (h' : SqL X.K H a ys) : xs = ys := by
 obtain ⟨its, r, ⟨o, n, e, _, _, d⟩, _⟩ := I.list h
 obtain ⟨its', r', ⟨o', n', e', _, _, d'⟩, _⟩ := I.list h'
 rw [e] at e'; cases e'
 rw [d] at d'
 injection d' with d1 _
 have : its = its' := by simpa using congrArg Array.toList d1
 subst this
 exact r.inj r'
end
abbrev Cx.wish (X : Cx) (E : Value → Shared → Prop) : Cx := { X with xe := E }
abbrev Cx.nox (X : Cx) : Cx := X.wish fun _ _ => False
theorem Cx.Ok.wish {X : Cx} (ok : X.Ok) (E : Value → Shared → Prop) : (X.wish E).Ok :=
 ⟨ok.mod, ok.kind, ok.glob, ok.blt, ok.above, ok.inj, ok.has, ok.cab, ok.hd, ok.frames, ok.stk, ok.exf, ok.bs, ok.bsz, ok.noex, ok.exfs, ok.funs, ok.frf⟩
theorem Cx.Ok.unwish {X : Cx} {E : Value → Shared → Prop} (ok : (X.wish E).Ok) : X.Ok :=
 ⟨ok.mod, ok.kind, ok.glob, ok.blt, ok.above, ok.inj, ok.has, ok.cab, ok.hd, ok.frames, ok.stk, ok.exf, ok.bs, ok.bsz, ok.noex, ok.exfs, ok.funs, ok.frf⟩
section
variable {X : Cx} {pins : List (Addr × Obj)} {σ : St} {H : Hp} {s : Shared} {E : Value → Shared → Prop}
theorem Inv.wish (I : Inv X pins σ H s) (E : Value → Shared → Prop) : Inv (X.wish E) pins σ H s := ⟨I.ok.wish E, I.os, I.bare, I.base, I.loc, I.cell, I.free, I.freeC, I.pin, I.hok, I.len⟩
theorem Inv.unwish (I : Inv (X.wish E) pins σ H s) : Inv X pins σ H s := ⟨I.ok.unwish, I.os, I.bare, I.base, I.loc, I.cell, I.free, I.freeC, I.pin, I.hok, I.len⟩
theorem SP.unwish {D : Ends} {f : Flow} {s' : Shared} (h : SP (X.wish E) pins D f s') : SP X pins D f s' := by
 cases f with
 | next => obtain ⟨σ', H', I, q⟩ := h; exact ⟨σ', H', I.unwish, q⟩
 | brk => obtain ⟨σ', H', I, q⟩ := h; exact ⟨σ', H', I.unwish, q⟩
 | cont => obtain ⟨σ', H', I, q⟩ := h; exact ⟨σ', H', I.unwish, q⟩
 | ret u => obtain ⟨v, σ', H', I, r, q⟩ := h; exact ⟨v, σ', H', I.unwish, r, q⟩
theorem PE.nox {e : Expr} {t : TE} (h : PE X.nox e t) : PE X e t := fun pins s σ H Q I hw =>
 wpAny_mono (h pins s σ H Q (I.wish _) hw) (fun _ _ ⟨v, H', I', r, q⟩ => ⟨v, H', I'.unwish, r, q⟩) fun _ _ z => False.elim z
theorem PT.nox {e : Expr} {t : TT} (h : PT X.nox e t) : PT X e t := fun pins s σ H Q I hw =>
 wpAny_mono (h pins s σ H Q (I.wish _) hw) (fun _ _ ⟨H', I', q⟩ => ⟨H', I'.unwish, q⟩) fun _ _ z => False.elim z
theorem PSs.nox {st : List Stmt} {t : TS} (h : PSs X.nox st t) : PSs X st t := fun pins s σ H D I hw =>
 wpAny_mono (h pins s σ H D (I.wish _) hw) (fun _ _ q => q.unwish) fun _ _ z => False.elim z
end
section
variable {X : Cx} {st : Stmt} {rest : List Stmt} {t u : TS} {e : Expr} {te : TE} {pos : Pos}
noncomputable def tNext : TS := fun D σ H => D.nx σ H
noncomputable def tSeq (t u : TS) : TS := fun D σ H => t { D with nx := u D } σ H
theorem pss_nil : PSs X [] tNext := fun _ _ σ H _ I h => wpAny_execs_nil ⟨σ, H, I, h⟩
theorem pss_cons (h1 : PS X st t) (h2 : PSs X rest u) : PSs X (st :: rest) (tSeq t u) := by
 intro pins s σ H D I h
 refine wpAny_execs_cons (thn (h1 pins s σ H { D with nx := u D } I h) fun f s1 q => ?_)
 cases f with
 | next =>
  obtain ⟨σ', H', I', q⟩ := q
  exact h2 pins s1 σ' H' D I' q
 | ret v => exact q
 | brk => exact q
 | cont => exact q
theorem pss_one (h1 : PS X st t) : PSs X [st] t := by
 intro pins s σ H D I h
 refine wpAny_execs_cons (thn (h1 pins s σ H D I h) fun f s1 q => ?_)
 cases f with
 | next => exact wpAny_execs_nil q
 | ret v => exact q
 | brk => exact q
 | cont => exact q
theorem Inv.quiet {pins : List (Addr × Obj)} {σ : St} {H : Hp} {s : Shared} (I : Inv X pins σ H s) : interactive X.env = false := by simp [interactive, I.ok.kind]
noncomputable def tDrop (te : TE) : TS := fun D σ H => te σ H fun _ H1 => D.nx σ H1
theorem ps_expr (he : PE X e te) (hs : swapsWith e none pos.line X.env = pure false := by rfl) : PS X (.Expr e pos) (tDrop te) := by
 intro pins s σ H D I h
 exact wpAny_Expr_any (thn (he pins s σ H _ I h) fun v s1 ⟨x, H1, I1, r1, q1⟩ => ⟨σ, H1, I1, q1⟩) I.quiet hs
noncomputable def tRet (te : TE) : TS := fun D σ H => te σ H D.rt
theorem ps_ret (he : PE X e te) : PS X (.Return (some e) pos) (tRet te) := by
 intro pins s σ H D I h
 exact wpAny_Return_some (thn (he pins s σ H _ I h) fun v s1 ⟨x, H1, I1, r1, q1⟩ => ⟨x, σ, H1, I1, r1, q1⟩)
noncomputable def tIfS (c : TT) (t u : TS) : TS := fun D σ H => c σ H fun b H1 => if b = true then t D σ H1 else u D σ H1
theorem ps_if {c : Expr} {a b : List Stmt} {tc : TT} (hc : PT X c tc) (ha : PSs X a t) (hb : PSs X b u) : PS X (.If c a b pos) (tIfS tc t u) := by
 intro pins s σ H D I h
 refine wpAny_If (thn (hc pins s σ H _ I h) fun d s1 ⟨H1, I1, q1⟩ => ?_)
 cases d with
 | true => exact ha pins s1 σ H1 D I1 q1
 | false => exact hb pins s1 σ H1 D I1 q1
noncomputable def tNever : TS := fun _ _ _ => False
theorem ps_never : PS X st tNever := fun _ _ _ _ _ _ h => h.elim
end
abbrev TG := V → St → Hp → (St → Hp → Prop) → Prop
abbrev TGs := List V → St → Hp → (St → Hp → Prop) → Prop
noncomputable def PG (X : Cx) (target : Expr) (t : TG) : Prop :=
 ∀ (pins : List (Addr × Obj)) (s : Shared) (σ : St) (H : Hp) (v : V) (u : Value) (Q : St → Hp → Prop), Inv X pins σ H s → RelV v u → t v σ H Q →
  wpAny (model X.prog X.w) X.A (assign target X.env u) (fun _ s' => ∃ σ' H', Inv X pins σ' H' s' ∧ Q σ' H') X.xe s
noncomputable def PGs (X : Cx) (ts : List Expr) (t : TGs) : Prop :=
 ∀ (pins : List (Addr × Obj)) (s : Shared) (σ : St) (H : Hp) (vs : List V) (us : List Value) (Q : St → Hp → Prop), Inv X pins σ H s → Vals vs us → t vs σ H Q →
  wpAny (model X.prog X.w) X.A (assignInOrder ((assignEach ts X.env).map (·.2)) us) (fun _ s' => ∃ σ' H', Inv X pins σ' H' s' ∧ Q σ' H') X.xe s
abbrev TSet := V → V → V → Hp → (Hp → Prop) → Prop
noncomputable def PSet (X : Cx) (t : TSet) : Prop :=
 ∀ (pins : List (Addr × Obj)) (s : Shared) (σ : St) (H : Hp) (o i v : V) (ov iv u : Value) (Q : Hp → Prop), Inv X pins σ H s → RelV o ov → RelV i iv → RelV v u → t o i v H Q →
  wpAny (model X.prog X.w) X.A (setItem ov iv u) (fun _ s' => ∃ H', Inv X pins σ H' s' ∧ Q H') X.xe s
abbrev TIp := V → V → Hp → VK → Prop
noncomputable def PIp (X : Cx) (op : Operator) (t : TIp) : Prop :=
 ∀ (pins : List (Addr × Obj)) (s : Shared) (σ : St) (H : Hp) (x y : V) (v u : Value) (Q : VK), Inv X pins σ H s → RelV x v → RelV y u → t x y H Q →
  wpAny (model X.prog X.w) X.A (inplaceOp op v u) (EP X pins σ Q) X.xe s
section
variable {X : Cx} {pos : Pos}
noncomputable def gName (i : Nat) : TG := fun v σ H Q => Q (σ.set i (some v)) H
theorem pg_name {i : Nat} {x : Str} (hN : X.N.Nodup) (hi : X.N[i]? = some x) (hx : Loc X.env.scope x) (hf : X.fn x = true ∨ X.env.scope.names.lookup x = some .local := by first | exact .inl rfl | exact .inr rfl | assumption) : PG X (.Name x pos) (gName i) := by
 intro pins s σ H v u Q I r h
 exact wpAny_assign_Name (store_ok I hN hi hx r (fun s' I' => ⟨_, H, I', h⟩) hf)
noncomputable def gNil : TGs := fun vs σ H Q => vs = [] ∧ Q σ H
noncomputable def gCons (t : TG) (u : TGs) : TGs := fun vs σ H Q => ∃ v r, vs = v :: r ∧ t v σ H fun σ' H' => u r σ' H' Q
theorem pgs_nil : PGs X [] gNil := by
 intro pins s σ H vs us Q I r h
 obtain ⟨e, h⟩ := h
 subst e
 cases r
 exact assignInOrder_nil ⟨σ, H, I, h⟩
theorem pgs_cons {e : Expr} {es : List Expr} {t : TG} {u : TGs} (h1 : PG X e t) (h2 : PGs X es u)
  (hs : (assignEach (e :: es) X.env).map (·.2) = assign e X.env :: (assignEach es X.env).map (·.2) := by rfl) : PGs X (e :: es) (gCons t u) := by
 intro pins s σ H vs us Q I r h
 obtain ⟨v, vr, e1, h⟩ := h
 subst e1
 cases r with
 | cons r rr =>
  rw [hs]
  refine assignInOrder_cons (thn (h1 pins s σ H _ _ _ I r h) fun _ s1 ⟨σ1, H1, I1, q1⟩ => ?_)
  exact h2 pins s1 σ1 H1 _ _ Q I1 rr q1
noncomputable def gTup (K : PySem.W.Frag) (n : Nat) (t : TGs) : TG := fun v σ H Q => ∃ a xs, v = .ref a ∧ SqT K H a xs ∧ xs.length = n ∧ t xs σ H Q
theorem pg_tup {es : List Expr} {k : Nat} {t : TGs} {n : Nat} (hc : X.calm = true) (h : PGs X es t)
  (hn : (assignEach es X.env).length = n := by rfl) (hst : (assignEach es X.env).findIdx? (·.1) = none := by rfl) : PG X (.Tuple es k pos) (gTup X.K n t) := by
 intro pins s σ H v u Q I r hw
 obtain ⟨a, xs, e1, hq, hl, hw⟩ := hw
 subst e1
 cases r
 obtain ⟨its, rv, ht, hz⟩ := I.tuple hq
 refine assign_Tuple_tuple (I.ok.hd hc) ht (by simp [hn, ← hl, rv.length]) hst fun h' hx => ?_
 have I1 : Inv X pins σ H { s with heap := h' } := I.kept (t' := s.toks) fun b o e => hx b o (Nat.ne_of_lt (Heap.lt_size e)) e
 exact h pins _ σ H xs _ Q I1 (by simpa using rv) hw
noncomputable def gSub (to ti : TE) (t : TSet) : TG := fun v σ H Q => to σ H fun o H1 => ti σ H1 fun i H2 => t o i v H2 fun H3 => Q σ H3
theorem pg_sub {o i : Expr} {to ti : TE} {t : TSet} (ho : PE X o to) (hi : PE X i ti) (hs : PSet X t)
  (ha : ∀ v, assign (.Subscript o i pos) X.env v = (do
   let ov ← holding [v] (eval o X.env)
   let iv ← holding [v, ov] (eval i X.env)
   standAt pos
   holding [v, ov, iv] (setItem ov iv v)
   release [v, ov, iv] []) := by intro _; rfl) : PG X (.Subscript o i pos) (gSub to ti t) := by
 intro pins s σ H v u Q I r h
 rw [ha]
 refine wpAny_bind (wpAny_holding (thn (ho pins s σ H _ I h) fun ov s1 ⟨x, H1, I1, r1, q1⟩ => ?_))
 refine wpAny_bind (wpAny_holding (thn (hi pins s1 σ H1 _ I1 q1) fun iv s2 ⟨y, H2, I2, r2, q2⟩ => ?_))
 refine wpAny_bind (wpAny_standAt (wpAny_bind (wpAny_holding (thn (hs pins s2 σ H2 x y v ov iv u _ I2 r1 r2 r q2) fun _ s3 ⟨H3, I3, q3⟩ => ?_))))
 exact wpAny_release ⟨σ, H3, I3, q3⟩
noncomputable def tAsg (te : TE) (g : TG) : TS := fun D σ H => te σ H fun x H1 => g x σ H1 D.nx
theorem ps_asg {tg e : Expr} {te : TE} {g : TG} (he : PE X e te) (hg : PG X tg g) (hs : swapsWithSole [tg] e pos.line X.env = pure false := by rfl) (hw : swappedStores [tg] e X.env = pure none := by rfl)
  (h1 : (assignEach [tg] X.env).map (·.2) = [assign tg X.env] := by rfl) : PS X (.Assign [tg] e pos) (tAsg te g) := by
 intro pins s σ H D I h
 refine wpAny_Assign_stores (thn (he pins s σ H _ I h) fun v s1 ⟨x, H1, I1, r1, q1⟩ => ?_) hs hw
 rw [h1]
 exact thn (hg pins s1 σ H1 x v _ I1 r1 q1) fun _ s2 q => q
theorem ps_set {i : Nat} {x : Str} {e : Expr} {te : TE} {pos' : Pos} (hN : X.N.Nodup) (hi : X.N[i]? = some x) (hx : Loc X.env.scope x) (he : PE X e te) (hs : swapsWith e (some (.Name x pos')) pos.line X.env = pure false := by rfl) (hf : X.fn x = true ∨ X.env.scope.names.lookup x = some .local := by first | exact .inl rfl | exact .inr rfl | assumption) :
  PS X (.Assign [.Name x pos'] e pos) (tAsg te (gName i)) := by
 intro pins s σ H D I h
 refine wpAny_Assign_Name (thn (he pins s σ H _ I h) fun v s1 ⟨y, H1, I1, r1, q1⟩ => ?_) hs
 exact store_ok I1 hN hi hx r1 (fun s2 I2 => ⟨_, H1, I2, q1⟩) hf
noncomputable def tPar (i j : Nat) (ta : TA) : TS := fun D σ H => ta σ H fun vs H1 => ∃ v w, vs = [v, w] ∧ D.nx ((σ.set i (some v)).set j (some w)) H1
theorem ps_par {i j : Nat} {x y : Str} {a b : Expr} {ta : TA} {px py pt : Pos} {kt k2 pt2} (hc : X.calm = true) (hN : X.N.Nodup) (hi : X.N[i]? = some x) (hj : X.N[j]? = some y) (hij : i ≠ j)
  (hx : X.env.scope.names.lookup x = some .local) (hy : X.env.scope.names.lookup y = some .local) (ha : PA X [a, b] ta)
  (hw : swappedStores [.Tuple [.Name x px, .Name y py] kt pt] (.Tuple [a, b] k2 pt2) X.env = pure (some [x, y]))
  (hs : swapsWithSole [.Tuple [.Name x px, .Name y py] kt pt] (.Tuple [a, b] k2 pt2) pos.line X.env = pure false := by rfl) :
  PS X (.Assign [.Tuple [.Name x px, .Name y py] kt pt] (.Tuple [a, b] k2 pt2) pos) (tPar i j ta) := by
 intro pins s σ H D I h
 rw [exec_Assign_arm]
 refine wpAny_bind (wpAny_standAt ?_)
 rw [hs]
 refine wpAny_bind (wpAny_pure ?_)
 rw [if_neg (by decide)]
 refine wpAny_bind (Tuple_ (thn (ha _ pins s σ H _ I h) fun us s1 ⟨vs, H1, I1, r1, q1⟩ => ?_))
 obtain ⟨v, w, e1, q1⟩ := q1
 subst e1
 obtain ⟨u1, u2, rfl, rv, rw'⟩ : ∃ u1 u2, us = [u1, u2] ∧ RelV v u1 ∧ RelV w u2 := by
  cases r1 with
  | cons p q =>
   cases q with
   | cons p' q' =>
    cases q'
    exact ⟨_, _, rfl, p, p'⟩
 refine wpAny_newObj_type ?_ (by show 2 ≤ sizeLine; decide)
 have I2 : Inv X pins σ H1 { s1 with heap := s1.heap.push { cls := .type "tuple", data := .seq [u1, u2].toArray } } := I1.kept (t' := s1.toks) fun b o e => Heap.get?_push_of_some _ e
 rw [hw]
 refine wpAny_bind (wpAny_pure ?_)
 show wpAny (model X.prog X.w) X.A (do rule "assign.swapped-stores"; let items ← unpackItems (.ref s1.heap.objs.size) 2 none; assignInOrder [fun v => bindName X.env y v, fun v => bindName X.env x v] items.reverse; pure Flow.next) _ _ _
 refine wpAny_bind (wpAny_rule (wpAny_bind (unpackItems_tuple (items := #[u1, u2]) (I.ok.hd hc) (IsTup.new s1.heap _) fun h' hx' => ?_)))
 have I3 := I2.kept (h' := h') (t' := s1.toks) fun b o e => hx' b o (Nat.ne_of_lt (Heap.lt_size e)) e
 show wpAny _ _ (assignInOrder [fun v => bindName X.env y v, fun v => bindName X.env x v] [u2, u1] >>= fun _ => pure Flow.next) _ _ _
 refine wpAny_bind (assignInOrder_cons (wpAny_bindName (store_ok I3 hN hj (.inl hy) rw' (fun s2 I4 => ?_) (.inr hy))))
 refine assignInOrder_cons (wpAny_bindName (store_ok I4 hN hi (.inl hx) rv (fun s3 I5 => assignInOrder_nil (wpAny_pure ?_)) (.inr hx)))
 rw [List.set_comm _ _ (Ne.symm hij)] at I5
 exact ⟨_, H1, I5, q1⟩
noncomputable def tAug (i : Nat) (te : TE) (ti : TIp) : TS := fun D σ H => ∃ x, σ[i]? = some (some x) ∧ te σ H fun y H1 => ti x y H1 fun z H2 => D.nx (σ.set i (some z)) H2
theorem ps_aug {i : Nat} {x : Str} {e : Expr} {te : TE} {op : Operator} {ti : TIp} {pos' : Pos} (hN : X.N.Nodup) (hi : X.N[i]? = some x) (hx : Loc X.env.scope x) (he : PE X e te) (ho : PIp X op ti) (hf : X.fn x = true ∨ X.env.scope.names.lookup x = some .local := by first | exact .inl rfl | exact .inr rfl | assumption) :
  PS X (.AugAssign (.Name x pos') op e pos) (tAug i te ti) := by
 intro pins s σ H D I h
 obtain ⟨v, e1, h⟩ := h
 obtain ⟨m, hn, hl⟩ := I.loc
 have vis : Vis X.env.scope x := by rcases hx with k | k; exact .inl k; exact .inr (.inl k)
 obtain ⟨u, r, l⟩ := hl i x v hi e1 vis
 refine wpAny_AugAssign_Name ?_
 have go : wpAny (model X.prog X.w) X.A (eval e X.env) (fun w s₂ => wpAny (model X.prog X.w) X.A (inplaceOp op u w) (fun r s₃ => wpAny (model X.prog X.w) X.A (storeName X.env x r) (fun _ => SP X pins D .next) X.xe s₃) X.xe s₂) X.xe s := by
  refine thn (he pins s σ H _ I h) fun w s1 ⟨y, H1, I1, r1, q1⟩ => ?_
  refine thn (ho pins s1 σ H1 v y u w _ I1 r r1 q1) fun z s2 ⟨zv, H2, I2, r2, q2⟩ => ?_
  exact store_ok I2 hN hi hx r2 (fun s3 I3 => ⟨_, H2, I3, q2⟩) hf
 rcases l with ⟨hk, hm⟩ | ⟨hk, c, hc, hcell⟩
 ·exact wpAny_loadName_local I.ok.kind hk hn hm go
 ·rcases hk with hk | hk
  ·exact wpAny_loadName_cell I.ok.kind hk hc hcell go
  ·rcases hx with k | k
   ·have : X.env.scope.names.lookup x = some .free := hk
    rw [k] at this; cases this
   ·have : X.env.scope.names.lookup x = some .free := hk
    rw [k] at this; cases this
noncomputable def ipI (f : Int → Int → Int) : TIp := fun x y H Q => ∃ i j, x = .int i ∧ y = .int j ∧ Q (.int (f i j)) H
theorem ip_add : PIp X .Add (ipI fun i j => i + j) := by
 intro pins s σ H x y v u Q I r1 r2 h
 obtain ⟨i, j, e1, e2, q⟩ := h
 subst e1; subst e2
 obtain ⟨t, rfl⟩ := r1
 obtain ⟨t', rfl⟩ := r2
 exact iadd_int ⟨.int _, H, I.tok _, ⟨_, rfl⟩, q⟩
end
section
variable {X : Cx} {pos : Pos}
noncomputable def tWhile (c : TT) (tb : TS) : TS := fun D σ H => ∃ W : Nat → St → Hp → Prop, (∃ m, W m σ H) ∧ ∀ m σ H, W m σ H →
 c σ H fun b H1 => if b = true then ∃ N : St → Hp → Prop, (∀ σ' H', N σ' H' → ∃ m', m' < m ∧ W m' σ' H') ∧ tb { D with nx := N, ct := N, bk := D.nx } σ H1 else D.nx σ H1
theorem ps_while {c : Expr} {body : List Stmt} {tc : TT} {tb : TS} (hp : PassesOwn (model X.prog X.w) X.A X.env X.xe) (hc : PT X c tc) (hb : PSs X body tb) : PS X (.While c body [] pos) (tWhile tc tb) := by
 intro pins s σ H D I h
 obtain ⟨W, ⟨m0, w0⟩, turn⟩ := h
 refine wpAny_While (codeAny_whileLoop (fun n s' => ∃ σ' H', Inv X pins σ' H' s' ∧ W n σ' H') ?_ m0 ⟨σ, H, I, w0⟩)
 rintro n s1 ⟨σ1, H1, I1, w1⟩
 refine wpAny_passesOwn hp (thn (hc pins s1 σ1 H1 _ I1 (turn n σ1 H1 w1)) fun b s2 ⟨H2, I2, q2⟩ => ?_)
 cases b with
 | true =>
  obtain ⟨N, hN, q2⟩ := q2
  rw [if_pos rfl]
  refine wpAny_passesOwn hp (thn (hb pins s2 σ1 H2 _ I2 q2) fun f s3 q3 => ?_)
  cases f with
  | next =>
   obtain ⟨σ3, H3, I3, n3⟩ := q3
   obtain ⟨m', hm, w3⟩ := hN σ3 H3 n3
   exact ⟨m', hm, σ3, H3, I3, w3⟩
  | cont =>
   obtain ⟨σ3, H3, I3, n3⟩ := q3
   obtain ⟨m', hm, w3⟩ := hN σ3 H3 n3
   exact ⟨m', hm, σ3, H3, I3, w3⟩
  | brk => exact q3
  | ret v => exact q3
 | false =>
  rw [if_neg Bool.false_ne_true]
  exact wpAny_execs_nil ⟨σ1, H2, I2, q2⟩
end
structure It where
 go : Nat → Hp → Prop
 yld : Nat → Hp → V → Hp → Prop
 stop : Nat → Hp → Prop
noncomputable def FpOk (X : Cx) (pins : List (Addr × Obj)) (H : Hp) (b : Addr) : Prop :=
 H b = none ∧ b ≠ X.env.locals ∧ b ∉ X.fs ∧ (b ∈ X.ex ∨ X.s₀.heap.objs.size ≤ b) ∧ (∀ x c, X.env.cells.lookup x = some c → c ≠ b) ∧ ∀ p ∈ X.pn ++ pins, p.1 ≠ b
theorem Inv.fpOk {X : Cx} {pins : List (Addr × Obj)} {σ : St} {H H' : Hp} {s : Shared} {b : Addr} (I : Inv X pins σ H s) (hb : s.heap.objs.size ≤ b) (hn : H' b = none) : FpOk X pins H' b := by
 refine ⟨hn, Nat.ne_of_gt (Nat.lt_of_lt_of_le I.lt hb), I.nofs hb, .inr (Nat.le_trans I.sz hb), fun x c e z => ?_, fun p hp z => ?_⟩
 ·obtain ⟨v, q⟩ := I.cell x c e
  exact absurd (Nat.lt_of_lt_of_le q.lt (by rw [z]; exact hb)) (Nat.lt_irrefl _)
 ·exact absurd (Nat.lt_of_lt_of_le (Heap.lt_size (I.pin p hp).1) (by rw [z]; exact hb)) (Nat.lt_irrefl _)
structure Turn (P : Program) (w : World) (K : PySem.W.Frag) (tg : Expr) (J : It) (fp : List Addr) (it : Addr) (tn : Nat → Heap → Prop) : Prop where
 mem : it ∈ fp
 obj : ∀ i h, tn i h → ∀ b ∈ fp, ∃ o, h.get? b = some o ∧ ∀ v, o.data ≠ .cell v
 keep : ∀ i h h', tn i h → (∀ b ∈ fp, ∀ o, h.get? b = some o → h'.get? b = some o) → tn i h'
 item : ∀ (X : Cx), X.prog = P → X.w = w → X.K = K → X.calm = true → ∀ (i : Nat) (pins : List (Addr × Obj)) (s : Shared) (σ : St) (H : Hp) (E : Value → Shared → Prop), Inv X pins σ H s → (∀ b ∈ fp, FpOk X pins H b) → tn i s.heap → J.go i H →
  wpAny (model P w) X.A (pyNext (.ref it)) (fun r s1 => ∃ u, r = some u ∧
   wpAny (model P w) X.A (letOwnedTupleGo tg (.ref it) u) (fun _ s2 => ∃ x H', Inv X pins σ H' s2 ∧ RelV x u ∧ J.yld i H x H' ∧ tn (i + 1) s2.heap ∧ ∀ b ∈ fp, H' b = none) E s1) E s
 done : ∀ (X : Cx), X.prog = P → X.w = w → X.K = K → X.calm = true → ∀ (i : Nat) (pins : List (Addr × Obj)) (s : Shared) (σ : St) (H : Hp) (E : Value → Shared → Prop), Inv X pins σ H s → (∀ b ∈ fp, FpOk X pins H b) → tn i s.heap → J.stop i H →
  wpAny (model P w) X.A (pyNext (.ref it)) (fun r s1 => r = none ∧ Inv X pins σ H s1) E s
 self : ∀ (A : Around) (i : Nat) (s : Shared) (Q : Value → Shared → Prop) (E : Value → Shared → Prop), tn i s.heap → Q (.ref it) s → wpAny (model P w) A (pyIter (.ref it)) Q E s
abbrev TI := St → Hp → (It → Hp → Prop) → Prop
noncomputable def PIE (X : Cx) (pins : List (Addr × Obj)) (σ : St) (tg : Expr) (R : It → Hp → Prop) (itv : Value) (s2 : Shared) : Prop :=
 ∃ (it : Addr) (fp : List Addr) (tn : Nat → Heap → Prop) (J : It) (H' : Hp), itv = .ref it ∧ Inv X pins σ H' s2 ∧ Turn X.prog X.w X.K tg J fp it tn ∧ tn 0 s2.heap ∧ (∀ b ∈ fp, FpOk X pins H' b) ∧ R J H'
noncomputable def PI (X : Cx) (tg iter : Expr) (wi : TI) : Prop :=
 ∀ (pins : List (Addr × Obj)) (s : Shared) (σ : St) (H : Hp) (R : It → Hp → Prop), Inv X pins σ H s → wi σ H R →
  wpAny (model X.prog X.w) X.A (eval iter X.env) (fun v s1 => wpAny (model X.prog X.w) X.A (pyIter v) (PIE X pins σ tg R) X.xe s1) X.xe s
theorem go_of {M : Model} {A : Around} {E : Value → Shared → Prop} {s : Shared} {tg : Expr} {it : Addr} {u : Value} {o : Obj} {n : String} {vs : Array Value} {Q : Unit → Shared → Prop} (ho : s.heap.get? it = some o) (hc : o.cls = .type n) (hd : o.data = .fields vs)
    (hn : ["enumerate", "zip", "dict_itemiterator", "dict_reverseitemiterator", "odict_iterator", "itertools.zip_longest", "itertools.pairwise"].contains n = false) (hQ : Q () s) : wpAny M A (letOwnedTupleGo tg (.ref it) u) Q E s := by
  unfold letOwnedTupleGo
  cases tg <;> first
    | exact wpAny_pure hQ
    | (cases u <;> first
        | exact wpAny_pure hQ
        | (refine wpAny_bind (wpAny_load ho ?_)
           rw [hc, hd]
           show wpAny M A (if (["enumerate", "zip", "dict_itemiterator", "dict_reverseitemiterator", "odict_iterator", "itertools.zip_longest", "itertools.pairwise"].contains n && vs[0]? == some (rawInt _)) = true then _ else _) Q E s
           rw [if_neg (by intro h; rw [hn, Bool.false_and] at h; cases h)]
           exact wpAny_pure hQ))
noncomputable def Itl (K : PySem.W.Frag) (a : Addr) : It :=
 ⟨fun i H => ∃ xs x, SqL K H a xs ∧ xs[i]? = some x, fun i H x H' => H' = H ∧ ∀ xs, SqL K H a xs → xs[i]? = some x, fun i H => ∃ xs, SqL K H a xs ∧ xs.length ≤ i⟩
noncomputable def Itr (lo : Int) (n : Nat) : It := ⟨fun i _ => i < n, fun i H x H' => H' = H ∧ x = .int (lo + i), fun i _ => n ≤ i⟩
theorem turn_list {P : Program} {w : World} {K : PySem.W.Frag} {tg : Expr} (a it : Addr) : Turn P w K tg (Itl K a) [it] it (fun i h => h.IsListIter it a i) where
 mem := by simp
 obj := fun i h st b hb => by
  have e : b = it := by simpa using hb
  subst e
  obtain ⟨o, e, c, d⟩ := st
  exact ⟨o, e, fun v z => by rw [d] at z; cases z⟩
 keep := fun i h h' st k => st.at fun o e => k it (by simp) o e
 item := by
  intro X hP hw hK hc i pins s σ H E I hf st hg
  subst hP hw hK
  obtain ⟨xs, x, hq, hx⟩ := hg
  obtain ⟨its, rv, p, hz⟩ := I.list hq
  obtain ⟨u, hu, ru⟩ := rv.get hx
  obtain ⟨f0, f1, f2, f3, f4, f5⟩ := hf it (by simp)
  refine wpAny_pyNext_list_item st p.isList (x := u) (by simpa using hu) fun h' st' sb => ?_
  have I1 : Inv X pins σ H { s with heap := h' } := I.turned (t' := s.toks) (fun b o hb e => (sb.2 b hb).trans e) f0 f1 f3 f4 f5
  obtain ⟨o, e, c, d⟩ := id st'
  exact ⟨u, rfl, go_of (s := { s with heap := h' }) e c d (by decide) ⟨x, H, I1, ru, ⟨rfl, fun ys hy => by rw [I.list_inj hy hq]; exact hx⟩, st', fun b hb => (hf b hb).1⟩⟩
 done := by
  intro X hP hw hK hc i pins s σ H E I hf st hg
  subst hP hw hK
  obtain ⟨xs, hq, hx⟩ := hg
  obtain ⟨its, rv, p, hz⟩ := I.list hq
  obtain ⟨f0, f1, f2, f3, f4, f5⟩ := hf it (by simp)
  have hl := rv.length
  exact wpAny_pyNext_list_end (I.ok.hd hc) st p.isList (by simp; omega) fun h' eb => ⟨rfl, I.turned (t' := s.toks) (fun b o hb e => eb b o hb e) f0 f1 f3 f4 f5⟩
 self := fun _ _ _ _ _ st h => wpAny_pyIter_listiter st h
theorem turn_range {P : Program} {w : World} {K : PySem.W.Frag} {tg : Expr} (it : Addr) (lo : Int) (n : Nat) : Turn P w K tg (Itr lo n) [it] it (fun i h => IsRangeIter h it (lo + (i : Nat) * 1) ((n : Int) - (i : Nat)) 1) where
 mem := by simp
 obj := fun i h st b hb => by
  have e : b = it := by simpa using hb
  subst e
  exact ⟨_, st, fun v z => by
   have z' : Data.fields _ = Data.cell v := z
   cases z'⟩
 keep := fun i h h' st k => k it (by simp) _ st
 item := by
  intro X hP hw hK hc i pins s σ H E I hf st hg
  subst hP hw hK
  obtain ⟨f0, f1, f2, f3, f4, f5⟩ := hf it (by simp)
  have W := Walks.range (prog := X.prog) (w := X.w) (I.ok.hd hc) it lo 1 n
  refine W.item i s _ _ hg st fun v h' tk hv st' kk => ?_
  obtain ⟨t, rfl⟩ := hv
  have I1 : Inv X pins σ H { s with heap := h', toks := tk } := I.turned (fun b o hb e => kk b o (by simpa using hb) e) f0 f1 f3 f4 f5
  refine ⟨_, rfl, go_of (s := { s with heap := h', toks := tk }) (n := "range_iterator") st' rfl rfl (by decide) ⟨.int (lo + i), H, I1, ⟨t, ?_⟩, ⟨rfl, rfl⟩, st', fun b hb => (hf b hb).1⟩⟩
  rw [Int.mul_one]
 done := by
  intro X hP hw hK hc i pins s σ H E I hf st hg
  subst hP hw hK
  obtain ⟨f0, f1, f2, f3, f4, f5⟩ := hf it (by simp)
  exact wpAny_pyNext_range_end (I.ok.hd hc) st (by have : n ≤ i := hg; omega) fun h' eb => ⟨rfl, I.turned (t' := s.toks) (fun b o hb e => eb b o hb e) f0 f1 f3 f4 f5⟩
 self := fun _ _ _ _ _ st h => wpAny_pyIter_rangeiter st h
end L2
namespace L2
open PySem PySem.Spec PyProof.Rows
section
variable {X : Cx} {tg : Expr}
noncomputable def iList (K : PySem.W.Frag) (tl : TE) : TI := fun σ H R => tl σ H fun x H1 => ∃ a, x = .ref a ∧ (∃ xs, SqL K H1 a xs) ∧ R (Itl K a) H1
theorem pi_list {l : Expr} {tl : TE} (hl : PE X l tl) : PI X tg l (iList X.K tl) := by
 intro pins s σ H R I h
 refine thn (hl pins s σ H _ I h) fun v s1 ⟨x, H1, I1, r1, q1⟩ => ?_
 obtain ⟨a, e, ⟨xs, hq⟩, q⟩ := q1
 subst e
 cases r1
 obtain ⟨its, rv, p, hz⟩ := I1.list hq
 refine wpAny_pyIter_list p.isList ?_
 refine ⟨s1.heap.objs.size, [s1.heap.objs.size], _, _, H1, rfl, I1.kept (t' := s1.toks) fun b o e => Heap.get?_push_of_some _ e, turn_list a _, ⟨_, Heap.get?_push_size _ rfl, rfl, rfl⟩, fun b hb => ?_, q⟩
 have e : b = s1.heap.objs.size := by simpa using hb
 subst e
 exact I1.fpOk (Nat.le_refl _) (I1.hok.fresh (Nat.le_refl _))
theorem range_it {pins : List (Addr × Obj)} {σ : St} {H : Hp} {s : Shared} {R : It → Hp → Prop} {E : Value → Shared → Prop} {lo hi : Int} {t u v : Tok} {tk : Nat} (I : Inv X pins σ H s) (h1 : -(2 ^ 62) ≤ lo) (h2 : lo < 2 ^ 62) (h3 : -(2 ^ 62) ≤ hi) (h4 : hi < 2 ^ 62)
  (q : R (Itr lo (hi - lo).toNat) H) : wpAny (model X.prog X.w) X.A (pyIter (.ref s.heap.objs.size)) (PIE X pins σ tg R) E { s with heap := s.heap.push { cls := .type "range", data := .fields #[.int lo t, .int hi u, .int 1 v] }, toks := tk } := by
 refine wpAny_pyIter_range (IsRange.new ..) (small_one h1 h2 h3 h4) ?_
 have I1 : Inv X pins σ H { s with heap := s.heap.push { cls := .type "range", data := .fields #[.int lo t, .int hi u, .int 1 v] }, toks := tk } := I.kept fun b o e => Heap.get?_push_of_some _ e
 refine ⟨(s.heap.push { cls := .type "range", data := .fields #[.int lo t, .int hi u, .int 1 v] }).objs.size, [(s.heap.push { cls := .type "range", data := .fields #[.int lo t, .int hi u, .int 1 v] }).objs.size], _, _, H, rfl,
  I1.kept (t' := tk) fun b o e => Heap.get?_push_of_some _ e, turn_range _ lo (hi - lo).toNat, ?_, fun b hb => ?_, q⟩
 ·have e1 : lo + ((0 : Nat) : Int) * 1 = lo := by simp
  have e2 : (((hi - lo).toNat : Nat) : Int) - ((0 : Nat) : Int) = Builtin.Range.rangeSize lo hi 1 := by rw [rangeSize_one]; split <;> omega
  show IsRangeIter _ _ (lo + ((0 : Nat) : Int) * 1) ((((hi - lo).toNat : Nat) : Int) - ((0 : Nat) : Int)) 1
  rw [e1, e2]
  exact Heap.get?_push_size _ rfl
 ·have e : b = (s.heap.push { cls := .type "range", data := .fields #[.int lo t, .int hi u, .int 1 v] }).objs.size := by simpa using hb
  subst e
  exact I1.fpOk (Nat.le_refl _) (I1.hok.fresh (Nat.le_refl _))
noncomputable def iRng1 (ta : TA) : TI := fun σ H R => ta σ H fun vs H1 => ∃ j : Int, vs = [.int j] ∧ -(2 ^ 62) ≤ j ∧ j < 2 ^ 62 ∧ R (Itr 0 j.toNat) H1
theorem pi_range1 {a : Expr} {ta : TA} {p pos : Pos} (hg : Gl X "range") (hm : X.mg "range" = none) (ha : PA X [a] ta) (hs : starEach [a] X.env = [(false, eval a X.env)] := by rfl) : PI X tg (.Call (.Name "range" p) [a] [] pos) (iRng1 ta) := by
 intro pins s σ H R I h
 refine Call_ (ld_blt I hg hm boot_range (PyProof.Rows.callWith_type1 (thn (ha pos pins s σ H _ I h) fun us s1 ⟨vs, H1, I1, r1, q1⟩ => ?_) hs rfl))
 obtain ⟨j, e, q1, q2, q⟩ := q1
 subst e
 cases r1 with
 | cons r rr =>
  cases rr
  obtain ⟨t, rfl⟩ := r
  exact call_range_1 (range_it I1 (by omega) (by omega) q1 q2 (by simpa using q))
noncomputable def tFor (wi : TI) (g : TG) (tb : TS) : TS := fun D σ H => wi σ H fun J H1 => ∃ W : Nat → Nat → St → Hp → Prop, (∃ m, W 0 m σ H1) ∧ ∀ i m σ H, W i m σ H →
 (J.stop i H ∧ D.nx σ H) ∨ (J.go i H ∧ ∃ N : St → Hp → Prop, (∀ σ' H', N σ' H' → ∃ m', m' < m ∧ W (i + 1) m' σ' H') ∧ ∀ x H', J.yld i H x H' → g x σ H' fun σ2 H2 => tb { D with nx := N, ct := N, bk := D.nx } σ2 H2)
noncomputable def pinsAt (fp : List Addr) (h : Heap) : List (Addr × Obj) := fp.filterMap fun b => (h.get? b).map fun o => (b, o)
theorem mem_pinsAt {fp : List Addr} {h : Heap} {b : Addr} {o : Obj} (hb : b ∈ fp) (e : h.get? b = some o) : (b, o) ∈ pinsAt fp h := List.mem_filterMap.mpr ⟨b, hb, by rw [e]; rfl⟩
theorem of_pinsAt {fp : List Addr} {h : Heap} {p : Addr × Obj} (hp : p ∈ pinsAt fp h) : p.1 ∈ fp ∧ h.get? p.1 = some p.2 := by
 obtain ⟨b, hb, e⟩ := List.mem_filterMap.mp hp
 cases q : h.get? b with
 | none => rw [q] at e; cases e
 | some o =>
  rw [q] at e
  have e' : (b, o) = p := Option.some.inj e
  subst e'
  exact ⟨hb, q⟩
theorem Inv.pinned {pins : List (Addr × Obj)} {σ : St} {H : Hp} {s : Shared} {fp : List Addr} (I : Inv X pins σ H s) (hf : ∀ b ∈ fp, FpOk X pins H b) (ho : ∀ b ∈ fp, ∃ o, s.heap.get? b = some o ∧ ∀ v, o.data ≠ .cell v) : Inv X (pins ++ pinsAt fp s.heap) σ H s :=
 I.pins_of fun p hp => (List.mem_append.mp hp).elim (fun z => I.pin p (List.mem_append_right _ z)) fun z => by
  obtain ⟨hb, e⟩ := of_pinsAt z
  obtain ⟨f0, f1, f2, _⟩ := hf p.1 hb
  obtain ⟨o, e', d⟩ := ho p.1 hb
  rw [e] at e'; cases e'
  exact ⟨e, f0, f1, f2, d⟩
theorem Inv.unpinned {pins pl : List (Addr × Obj)} {σ : St} {H : Hp} {s : Shared} (I : Inv X (pins ++ pl) σ H s) : Inv X pins σ H s := I.pins_of fun p hp => I.pin p (List.mem_append_right _ (List.mem_append_left _ hp))
theorem ps_for {iter : Expr} {body : List Stmt} {wi : TI} {g : TG} {tb : TS} {pos : Pos} (hp : PassesOwn (model X.prog X.w) X.A X.env X.xe) (hc : X.calm = true) (hi : PI X tg iter wi) (hg : PG X tg g) (hb : PSs X body tb)
  (hs : ∀ x, foldedSetIterable iter X.env x = pure x := by intro _; rfl) : PS X (.For tg iter body [] pos) (tFor wi g tb) := by
 intro pins s σ H D I h
 refine wpAny_For (thn (hi pins s σ H _ I h) fun v s1 h1 => thn h1 fun itv s2 h2 => ?_) hs
 obtain ⟨it, fp, tn, J, H2, e, I2, T, st2, f2, W, ⟨m0, w0⟩, turn⟩ := h2
 subst e
 have stat : ∀ {H' : Hp}, (∀ b ∈ fp, H' b = none) → ∀ b ∈ fp, FpOk X pins H' b := fun hn b hb => ⟨hn b hb, (f2 b hb).2⟩
 refine codeAny_forLoop_any (fun n s' => ∃ i σ' H', Inv X pins σ' H' s' ∧ tn i s'.heap ∧ (∀ b ∈ fp, H' b = none) ∧ W i n σ' H') ?_ m0 ⟨0, σ, H2, I2, st2, fun b hb => (f2 b hb).1, w0⟩
 rintro n s3 ⟨i, σ3, H3, I3, st3, fr3, w3⟩
 rcases turn i n σ3 H3 w3 with ⟨stop, qn⟩ | ⟨go, N, hN, step⟩
 ·refine wpAny_passesOwn hp (thn (T.done X rfl rfl rfl hc i pins s3 σ3 H3 X.xe I3 (stat fr3) st3 stop) fun r s4 ⟨hr, I4⟩ => ?_)
  subst hr
  exact wpAny_execs_nil ⟨σ3, H3, I4, qn⟩
 ·refine wpAny_passesOwn hp (thn (T.item X rfl rfl rfl hc i pins s3 σ3 H3 X.xe I3 (stat fr3) st3 go) fun r s4 ⟨u, hr, h4⟩ => ?_)
  subst hr
  refine wpAny_passesOwn hp (thn h4 fun _ s5 ⟨x, H5, I5, r5, y5, st5, fr5⟩ => ?_)
  have I5' := I5.pinned (stat fr5) (T.obj _ _ st5)
  refine wpAny_passesOwn hp (thn (hg _ s5 σ3 H5 x u _ I5' r5 (step x H5 y5)) fun _ s6 ⟨σ6, H6, I6, q6⟩ => ?_)
  refine wpAny_passesOwn hp (thn (hb _ s6 σ6 H6 _ I6 q6) fun f s7 q7 => ?_)
  have again : ∀ {σ7 : St} {H7 : Hp}, Inv X (pins ++ pinsAt fp s5.heap) σ7 H7 s7 → N σ7 H7 → ∃ m, m < n ∧ ∃ i σ' H', Inv X pins σ' H' s7 ∧ tn i s7.heap ∧ (∀ b ∈ fp, H' b = none) ∧ W i m σ' H' := fun {σ7 H7} I7 n7 => by
   obtain ⟨m', hm, w7⟩ := hN σ7 H7 n7
   refine ⟨m', hm, i + 1, σ7, H7, I7.unpinned, T.keep _ _ _ st5 fun b hb o e => (I7.pin (b, o) (List.mem_append_right _ (List.mem_append_right _ (mem_pinsAt hb e)))).1, fun b hb => ?_, w7⟩
   obtain ⟨o, e, d⟩ := T.obj _ _ st5 b hb
   exact (I7.pin (b, o) (List.mem_append_right _ (List.mem_append_right _ (mem_pinsAt hb e)))).2.1
  cases f with
  | next => obtain ⟨σ7, H7, I7, n7⟩ := q7; exact again I7 n7
  | cont => obtain ⟨σ7, H7, I7, n7⟩ := q7; exact again I7 n7
  | brk => obtain ⟨σ7, H7, I7, q7⟩ := q7; exact ⟨σ7, H7, I7.unpinned, q7⟩
  | ret v => obtain ⟨x7, σ7, H7, I7, r7, q7⟩ := q7; exact ⟨x7, σ7, H7, I7.unpinned, r7, q7⟩
end
end L2
namespace L2
open PySem PySem.Spec PyProof.Rows
abbrev R2 := V → V → Hp → VK → Prop
noncomputable def OpR (X : Cx) (f : Value → Value → Sem Value) (r : R2) : Prop :=
 ∀ (pins : List (Addr × Obj)) (s : Shared) (σ : St) (H : Hp) (x y : V) (v u : Value) (Q : VK), Inv X pins σ H s → RelV x v → RelV y u → r x y H Q →
  wpAny (model X.prog X.w) X.A (f v u) (EP X pins σ Q) X.xe s
noncomputable def UnR (X : Cx) (f : Value → Sem Value) (r : V → Hp → VK → Prop) : Prop :=
 ∀ (pins : List (Addr × Obj)) (s : Shared) (σ : St) (H : Hp) (x : V) (v : Value) (Q : VK), Inv X pins σ H s → RelV x v → r x H Q →
  wpAny (model X.prog X.w) X.A (f v) (EP X pins σ Q) X.xe s
noncomputable def CallR (X : Cx) (f : Value) (r : List V → Hp → VK → Prop) : Prop :=
 ∀ (pins : List (Addr × Obj)) (s : Shared) (σ : St) (H : Hp) (xs : List V) (us : List Value) (Q : VK), Inv X pins σ H s → Vals xs us → r xs H Q →
  wpAny (model X.prog X.w) X.A (call f us) (EP X pins σ Q) X.xe s
noncomputable def tOp (r : R2) (ta tb : TE) : TE := fun σ H Q => ta σ H fun x H1 => tb σ H1 fun y H2 => r x y H2 Q
noncomputable def tUn (r : V → Hp → VK → Prop) (ta : TE) : TE := fun σ H Q => ta σ H fun x H1 => r x H1 Q
noncomputable def rI (C : Int → Int → Prop) (g : Int → Int → V) : R2 := fun x y H Q => ∃ i j, x = .int i ∧ y = .int j ∧ C i j ∧ Q (g i j) H
noncomputable def rI0 (g : Int → Int → V) : R2 := fun x y H Q => ∃ i j, x = .int i ∧ y = .int j ∧ Q (g i j) H
noncomputable def rU (g : Int → V) : V → Hp → VK → Prop := fun x H Q => ∃ i, x = .int i ∧ Q (g i) H
section
variable {X : Cx} {a b c : Expr} {ta tb tc : TE} {pos : Pos}
theorem binT (ha : PE X a ta) (hb : PE X b tb) {pins : List (Addr × Obj)} {s : Shared} {σ : St} {H : Hp} {R : V → V → Hp → Prop} (I : Inv X pins σ H s)
  (h : ta σ H fun x H1 => tb σ H1 fun y H2 => R x y H2) {Q : Value → Shared → Prop} {f : Value → Value → Sem Value}
  (hf : ∀ v u s2 x y H2, Inv X pins σ H2 s2 → RelV x v → RelV y u → R x y H2 → wpAny (model X.prog X.w) X.A (f v u) Q X.xe s2) :
  wpAny (model X.prog X.w) X.A (eval a X.env) (fun v s₁ => wpAny (model X.prog X.w) X.A (eval b X.env) (fun u s₂ => wpAny (model X.prog X.w) X.A (f v u) Q X.xe s₂) X.xe s₁) X.xe s := by
 refine thn (ha pins s σ H _ I h) fun v s1 ⟨x, H1, I1, r1, q1⟩ => ?_
 refine thn (hb pins s1 σ H1 _ I1 q1) fun u s2 ⟨y, H2, I2, r2, q2⟩ => ?_
 exact hf v u s2 x y H2 I2 r1 r2 q2
theorem pe_op {op : Operator} {r : R2} (ho : OpR X (binaryOp op) r) (ha : PE X a ta) (hb : PE X b tb) : PE X (.BinOp a op b pos) (tOp r ta tb) := by
 intro pins s σ H Q I h
 exact wpAny_BinOp (binT ha hb I h fun v u s2 x y H2 I2 rx ry q => ho pins s2 σ H2 x y v u Q I2 rx ry q)
theorem pe_un {op : UnaryOp} {r : V → Hp → VK → Prop} (ho : UnR X (unaryOp op) r) (ha : PE X a ta) : PE X (.UnaryOp op a pos) (tUn r ta) := by
 intro pins s σ H Q I h
 exact UnaryOp_ (thn (ha pins s σ H _ I h) fun v s1 ⟨x, H1, I1, r1, q1⟩ => ho pins s1 σ H1 x v Q I1 r1 q1)
theorem opI {f : Value → Value → Sem Value} {C : Int → Int → Prop} {g : Int → Int → Int}
  (rule : ∀ (i j : Int) (t u : Tok) (s : Shared) (Q : Value → Shared → Prop) (E : Value → Shared → Prop), C i j → Q (.int (g i j) s.toks) { s with toks := s.toks + 1 } → wpAny (model X.prog X.w) X.A (f (.int i t) (.int j u)) Q E s) :
  OpR X f (rI C fun i j => .int (g i j)) := by
 intro pins s σ H x y v u Q I rx ry h
 obtain ⟨i, j, rfl, rfl, hc, q⟩ := h
 obtain ⟨t, rfl⟩ := rx
 obtain ⟨t', rfl⟩ := ry
 exact rule i j t t' s _ _ hc ⟨.int (g i j), H, I.tok _, ⟨_, rfl⟩, q⟩
theorem opI0 {f : Value → Value → Sem Value} {g : Int → Int → Int}
  (rule : ∀ (i j : Int) (t u : Tok) (s : Shared) (Q : Value → Shared → Prop) (E : Value → Shared → Prop), Q (.int (g i j) s.toks) { s with toks := s.toks + 1 } → wpAny (model X.prog X.w) X.A (f (.int i t) (.int j u)) Q E s) :
  OpR X f (rI0 fun i j => .int (g i j)) := by
 intro pins s σ H x y v u Q I rx ry h
 obtain ⟨i, j, rfl, rfl, q⟩ := h
 obtain ⟨t, rfl⟩ := rx
 obtain ⟨t', rfl⟩ := ry
 exact rule i j t t' s _ _ ⟨.int (g i j), H, I.tok _, ⟨_, rfl⟩, q⟩
theorem opB0 {f : Value → Value → Sem Value} {g : Int → Int → Bool}
  (rule : ∀ (i j : Int) (t u : Tok) (s : Shared) (Q : Value → Shared → Prop) (E : Value → Shared → Prop), Q (.bool (g i j)) s → wpAny (model X.prog X.w) X.A (f (.int i t) (.int j u)) Q E s) :
  OpR X f (rI0 fun i j => .bl (g i j)) := by
 intro pins s σ H x y v u Q I rx ry h
 obtain ⟨i, j, rfl, rfl, q⟩ := h
 obtain ⟨t, rfl⟩ := rx
 obtain ⟨t', rfl⟩ := ry
 exact rule i j t t' s _ _ ⟨.bl (g i j), H, I, rfl, q⟩
noncomputable def CDiv (i j : Int) : Prop := 0 < j ∧ j < 1073741824
noncomputable def CPow (i j : Int) : Prop := 0 ≤ j ∧ j ≤ 1000000 ∧ i.natAbs < 2 ^ 64
noncomputable def CMul (i j : Int) : Prop := (-(2 ^ 64) < i ∧ i < 2 ^ 64) ∨ (-(2 ^ 64) < j ∧ j < 2 ^ 64)
theorem CMul.ok {i j : Int} (h : CMul i j) : IntMulOk i j := by
 rcases h with ⟨h1, h2⟩ | ⟨h1, h2⟩
 ·exact .of_left (intBits_le_64 h1 h2)
 ·exact .of_right (intBits_le_64 h1 h2)
theorem op_add : OpR X (binaryOp .Add) (rI0 fun i j => .int (i + j)) := opI0 fun _ _ _ _ _ _ _ q => add_int q
theorem op_sub : OpR X (binaryOp .Sub) (rI0 fun i j => .int (i - j)) := opI0 fun _ _ _ _ _ _ _ q => sub_int q
theorem op_fdiv : OpR X (binaryOp .FloorDiv) (rI CDiv fun i j => .int (i / j)) := opI fun i j _ _ _ _ _ hc q => by
 have h1 : (0 : Int) < j := hc.1
 have h2 : j < 1073741824 := hc.2
 exact floordiv_int (by omega) (by rw [Int.fdiv_eq_ediv_of_nonneg i (by omega)]; exact q) (.inl (PyProof.noPylong_small (by omega)))
theorem op_mod : OpR X (binaryOp .Mod) (rI (fun _ j => 0 < j) fun i j => .int (i % j)) := opI fun i j _ _ _ _ _ hc q => by
 have h1 : (0 : Int) < j := hc
 exact mod_int' (by omega) (by rw [Int.fmod_eq_emod_of_nonneg i (by omega)]; exact q)
theorem op_pow : OpR X (binaryOp .Pow) (rI CPow fun i j => .int (i ^ j.toNat)) := opI fun _ _ _ _ _ _ _ hc q => pow_int_small hc.1 hc.2.1 hc.2.2 q
theorem unI {f : Value → Sem Value} {g : Int → Int}
  (rule : ∀ (i : Int) (t : Tok) (s : Shared) (Q : Value → Shared → Prop) (E : Value → Shared → Prop), Q (.int (g i) s.toks) { s with toks := s.toks + 1 } → wpAny (model X.prog X.w) X.A (f (.int i t)) Q E s) :
  UnR X f (rU fun i => .int (g i)) := by
 intro pins s σ H x v Q I rx h
 obtain ⟨i, rfl, q⟩ := h
 obtain ⟨t, rfl⟩ := rx
 exact rule i t s _ _ ⟨.int (g i), H, I.tok _, ⟨_, rfl⟩, q⟩
theorem un_neg : UnR X (unaryOp .USub) (rU fun i => .int (-i)) := unI fun _ _ _ _ _ q => neg_int q
end
section
variable {X : Cx} {a b c : Expr} {ta tb tc : TE} {pos : Pos}
theorem fin_bl {pins : List (Addr × Obj)} {σ : St} {H : Hp} {s : Shared} {Q : VK} {k k' : Bool} (I : Inv X pins σ H s) (q : Q (.bl k) H) (e : k = k') : EP X pins σ Q (.bool k') s := by
 subst e
 exact ⟨.bl k, H, I, rfl, q⟩
theorem op_lt : OpR X (compareOp .Lt) (rI0 fun i j => .bl (decide (i < j))) := opB0 fun _ _ _ _ _ _ _ q => lt_int q
theorem op_gt : OpR X (compareOp .Gt) (rI0 fun i j => .bl (decide (j < i))) := opB0 fun _ _ _ _ _ _ _ q => gt_int q
theorem op_ge : OpR X (compareOp .GtE) (rI0 fun i j => .bl (decide (j ≤ i))) := opB0 fun _ _ _ _ _ _ _ q => ge_int q
theorem op_isN : OpR X (compareOp .Is) (fun x y H Q => y = .non ∧ Q (.bl (decide (x = .non))) H) := by
 intro pins s σ H x y v u Q I rx ry h
 obtain ⟨rfl, q⟩ := h
 cases ry
 refine is_none_gen (fin_bl I q ?_)
 cases x <;> first
  | (cases rx; rfl)
  | (obtain ⟨t, rfl⟩ := rx; rfl)
theorem OpR.or {f : Value → Value → Sem Value} {r r' : R2} (h : OpR X f r) (h' : OpR X f r') : OpR X f (fun x y H Q => r x y H Q ∨ r' x y H Q) := by
 intro pins s σ H x y v u Q I rx ry q
 rcases q with q | q
 ·exact h pins s σ H x y v u Q I rx ry q
 ·exact h' pins s σ H x y v u Q I rx ry q
theorem nomark (b : Expr) {op : CmpOp} (h : op ≠ .In := by decide) (h2 : op ≠ .NotIn := by decide) : behindInMarks op b = false := by
 have e1 : (op == CmpOp.In) = false := by cases op <;> first | rfl | exact absurd rfl h
 have e2 : (op == CmpOp.NotIn) = false := by cases op <;> first | rfl | exact absurd rfl h2
 cases b <;> simp [behindInMarks, e1, e2]
theorem pe_cmpR {op : CmpOp} {r : R2} (ho : OpR X (compareOp op) r) (ha : PE X a ta) (hb : PE X b tb) (hm : behindInMarks op b = false) : PE X (.Compare a [op] [b] pos) (tOp r ta tb) := by
 intro pins s σ H Q I h
 exact wpAny_Compare1 (binT ha hb I h fun v u s2 x y H2 I2 rx ry q => ho pins s2 σ H2 x y v u Q I2 rx ry q) hm
noncomputable def tTest (t : TE) : TT := fun σ H Q => t σ H fun x H' => ∃ k, x = .bl k ∧ Q k H'
theorem pt_cmpR {op : CmpOp} {r : R2} (ho : OpR X (compareOp op) r) (ha : PE X a ta) (hb : PE X b tb) (hm : behindInMarks op b = false) : PT X (.Compare a [op] [b] pos) (tTest (tOp r ta tb)) := by
 intro pins s σ H Q I h
 refine wpAny_isTrue_Compare1 (thn (ha pins s σ H _ I h) fun v s1 ⟨x, H1, I1, r1, q1⟩ => thn (hb pins s1 σ H1 _ I1 q1) fun u s2 ⟨y, H2, I2, r2, q2⟩ =>
  thn (ho pins s2 σ H2 x y v u _ I2 r1 r2 q2) fun c s3 ⟨z, H3, I3, r3, k, e, q3⟩ => ?_) hm
 subst e
 cases r3
 exact wpAny_truthy_bool ⟨H3, I3, q3⟩
theorem line63 : (sizeLine : Nat) < 2 ^ 63 := by rw [sizeLine_eq]; decide
theorem vals1 {x : V} {us : List Value} (r : Vals [x] us) : ∃ u, us = [u] ∧ RelV x u := by
 cases r with
 | cons r1 r2 => cases r2; exact ⟨_, rfl, r1⟩
theorem vals2 {x y : V} {us : List Value} (r : Vals [x, y] us) : ∃ u w', us = [u, w'] ∧ RelV x u ∧ RelV y w' := by
 cases r with
 | cons r1 r2 =>
  cases r2 with
  | cons r3 r4 => cases r4; exact ⟨_, _, rfl, r1, r3⟩
theorem call_abs : CallR X (.builtin "abs") (fun xs H Q => ∃ i, xs = [.int i] ∧ Q (.int (if i < 0 then -i else i)) H) := by
 intro pins s σ H xs us Q I r h
 obtain ⟨i, rfl, q⟩ := h
 obtain ⟨u, rfl, t, rfl⟩ := vals1 r
 exact call_abs_int fun u tk => ⟨.int (if i < 0 then -i else i), H, I.tok _, ⟨_, rfl⟩, q⟩
theorem call_max2 (hc : X.calm = true) : CallR X (.builtin "max") (fun xs H Q => ∃ i j, xs = [.int i, .int j] ∧ Q (.int (if j > i then j else i)) H) := by
 intro pins s σ H xs us Q I r h
 obtain ⟨i, j, rfl, q⟩ := h
 obtain ⟨u, w', rfl, ⟨t, rfl⟩, ⟨t', rfl⟩⟩ := vals2 r
 refine max_two_ints (I.ok.hd hc) fun h' tk k => ⟨_, H, I.kept k, ?_, q⟩
 by_cases hj : j > i
 ·rw [if_pos hj, if_pos hj]; exact ⟨_, rfl⟩
 ·rw [if_neg hj, if_neg hj]; exact ⟨_, rfl⟩
theorem call_int1 : CallR X (.type "int") (fun xs H Q => (∃ i, xs = [.int i] ∧ Q (.int i) H) ∨ ∃ k, xs = [.bl k] ∧ Q (.int (if k then 1 else 0)) H) := by
 intro pins s σ H xs us Q I r h
 rcases h with ⟨i, rfl, q⟩ | ⟨k, rfl, q⟩
 ·obtain ⟨u, rfl, t, rfl⟩ := vals1 r
  exact call_int_int ⟨.int i, H, I, ⟨_, rfl⟩, q⟩
 ·obtain ⟨u, rfl, r1⟩ := vals1 r
  cases r1
  exact call_int_bool ⟨.int (if k then 1 else 0), H, I.tok _, ⟨_, rfl⟩, q⟩
end
end L2
namespace L2
open PySem PySem.Spec PyProof.Rows
structure ObjM (h : Heap) (x dx C : Addr) (mA : Str → Option Value) : Prop where
 obj : h.get? x = some (PySem.W.instObj C dx)
 ns : h.Ns1 dx mA
 ne : dx ≠ x
theorem lookIn_ns {h : Heap} {dx : Addr} {mA : Str → Option Value} (n : h.Ns1 dx mA) : ∃ od, h.get? dx = some od ∧ ∀ name, PySem.W.lookIn name od = some (mA name) := by
 obtain ⟨o, es, ep, ho, hd, hk, _, hm⟩ := n
 refine ⟨o, ho, fun name => ?_⟩
 have e := hm name
 unfold nsFind findBy at e
 rw [← Array.find?_toList] at e
 unfold PySem.W.lookIn
 rw [hd]
 dsimp only
 split
 ·rename_i y q
  rw [q] at e
  exact congrArg some e
 ·rename_i q
  rw [q] at e
  have a : es.toList.any (·.refKey) = false := by
   rw [List.any_eq_false]
   intro y hy
   obtain ⟨z, t, hkey⟩ := hk y (Array.mem_toList_iff.mp hy)
   simp [DictEntry.refKey, hkey]
  have a' : ¬ es.toList.any (·.refKey) = true := by rw [a]; exact Bool.false_ne_true
  rw [if_neg a']
  exact congrArg some e
theorem ObjM.look {h : Heap} {x dx C : Addr} {mA : Str → Option Value} (I : ObjM h x dx C mA) : ∃ od, PySem.W.InstAt h x (PySem.W.instObj C dx) C (some od) ∧ ∀ name, PySem.W.lookIn name od = some (mA name) :=
 let ⟨od, ho, hl⟩ := lookIn_ns I.ns
 ⟨od, ⟨I.obj, rfl, rfl, ho⟩, hl⟩
section
variable {prog : Program} {w : World} {A : Around} {E : Value → Shared → Prop} {s : Shared} {K : PySem.W.Frag} {x dx C f : Addr} {mA : Str → Option Value} {name : Str} {v : Value}
theorem get_map {expr : Bool} {Q : Value → Shared → Prop} (X : K.In s.heap) (I : ObjM s.heap x dx C mA) (hg : PySem.W.plainGet K C name = true) (hh : PySem.W.hasDictIn K C = true)
  (ha : PySem.W.findIn K (.ref C) name = some none) (hv : mA name = some v) (hv' : PySem.W.handedIn v = true) (h : Q v { s with toks := s.toks + 1 }) :
  wpAny (model prog w) A (getAttr (.ref x) name expr) Q E s := by
 obtain ⟨od, J, hl⟩ := I.look
 exact PySem.W.get_value X J (PySem.W.plainGet_of hg).1 (PySem.W.findObj_own hh ha rfl (by rw [hl, hv])) hv' h
theorem get_meth {pl : Sem Bool} {Q : Value × List Value → Shared → Prop} (X : K.In s.heap) (I : ObjM s.heap x dx C mA) (hg : PySem.W.plainGet K C name = true)
  (hf : PySem.W.findIn K (.ref C) name = some (some (.ref f))) (ht : PySem.W.isFn K (.ref f) = true) (hv : mA name = none) (h : Q (.ref f, [.ref x]) s) :
  wpAny (model prog w) A (getMethod (.ref x) name pl) Q E s := by
 obtain ⟨od, J, hl⟩ := I.look
 exact PySem.W.method_fn X J (PySem.W.plainGet_of hg).1 (PySem.W.plainGet_of hg).2 hf (beq_iff_eq.mp ht) (by show (PySem.W.lookIn name od).map (·.isSome) = some false; rw [hl, hv]; rfl) h
theorem set_map {ns : List Str} {Q : Unit → Shared → Prop} (X : K.In s.heap) (I : ObjM s.heap x dx C mA)
  (hs : PySem.W.findIn K (.ref C) "__setattr__" = some (some (.builtin "object.__setattr__"))) (hp : PySem.W.plainOver K C = true) (ht : PySem.W.takerIn K C name = some none) (hh : PySem.W.hasDictIn K C = true)
  (hw : PySem.Within mA ns) (hsz : ns.length ≤ sizeLine)
  (h : ∀ h', ObjM h' x dx C (fun y => if y = name then some v else mA y) → Heap.SameBut dx s.heap h' → Q () { s with heap := h', toks := s.toks + 2 }) :
  wpAny (model prog w) A (setAttr (.ref x) name v) Q E s := by
 obtain ⟨od, J, hl⟩ := I.look
 refine PySem.W.set_plain X J hs (PySem.W.osa_open (s := { s with toks := s.toks + 1 }) (r := none) X J hp ht fun b => ?_)
 obtain ⟨cd, hc, hd'⟩ := PySem.W.any_some hh
 have hx : s.heap.get? x = some ⟨.ref C, some dx, .plain, #[]⟩ := I.obj
 refine wpAny_bind (wpAny_pure (wpAny_bind (wpAny_bind (wpAny_loadPart hx (wpAny_bind (PySem.W.Looks.here (s := { s with toks := s.toks + 1 }) (PySem.W.looks_clsIn X hc) ?_))))))
 rw [hd']
 refine wpAny_pure (a := some dx) (wpAny_bind (wpAny_pure (wpAny_bind ?_)))
 refine wpAny_nsSet1 (s := { s with toks := s.toks + 1 }) I.ns fun h' hn2 hs2 => ?_
 obtain ⟨oD, esD, epD, hoD, hdD, hcD⟩ := hn2.count (PySem.Within.cons name v hw)
 refine wpAny_bind (wpAny_lookBehind hoD (by rw [hdD]; exact pastItsLine_dict (Nat.le_trans hcD (by rw [List.length_cons]; omega))) ?_)
 exact wpAny_pure (h _ ⟨(hs2.2 _ (Ne.symm I.ne)).trans I.obj, hn2, I.ne⟩ hs2)
theorem make_map {R : Result → Shared → Prop} {vs : List Value} {kw : List (Str × Value)} (X : K.In s.heap) (hm : PySem.W.makesIn K C = true)
  (hi : PySem.W.findIn K (.ref C) "__init__" = some (some (.ref f))) (hf : PySem.W.typeIn K (.ref f) = some (.type "function"))
  (h : codeAny (model prog w) (A.under (.builtin "type.__call__" ⟨.ref C :: vs, kw⟩)) (.call (.ref f) ⟨.ref (s.heap.objs.size + 1) :: vs, kw⟩) (PySem.W.InitBack (s.heap.objs.size + 1) R)
   { s with heap := (s.heap.push PySem.W.emptyDict).push (PySem.W.instObj C s.heap.objs.size) }) :
  codeAny (model prog w) A (.call (.ref C) ⟨vs, kw⟩) R s := by
 obtain ⟨hh, g, d, t, os⟩ := s
 exact PySem.W.make_core (PySem.W.makes_of X hm) (PySem.W.looks_findIn X hi) (fun self => PySem.W.bind_fn X self hf) (.inl rfl) h
end
noncomputable def putF (f : Str) (v : V) : List (Str × V) → List (Str × V)
 | [] => [(f, v)]
 | (g, x) :: r => if g = f then (g, v) :: r else (g, x) :: putF f v r
theorem lookup_putF (f g : Str) (v : V) : ∀ fs : List (Str × V), (putF f v fs).lookup g = if g = f then some v else fs.lookup g
 | [] => by
  show List.lookup g [(f, v)] = _
  by_cases h : g = f
  ·have hb : (g == f) = true := beq_iff_eq.mpr h
   simp only [List.lookup, hb, if_pos h]
  ·have hb : (g == f) = false := beq_eq_false_iff_ne.mpr h
   simp only [List.lookup, hb, if_neg h]
 | (k, x) :: r => by
  have ih := lookup_putF f g v r
  rw [show putF f v ((k, x) :: r) = (if k = f then (k, v) :: r else (k, x) :: putF f v r) from rfl]
  by_cases hk : k = f
  ·rw [if_pos hk]
   by_cases h : g = k
   ·have hb : (g == k) = true := beq_iff_eq.mpr h
    simp only [List.lookup, hb, if_pos (h.trans hk)]
   ·have hb : (g == k) = false := beq_eq_false_iff_ne.mpr h
    simp only [List.lookup, hb, if_neg (fun e : g = f => h (e.trans hk.symm))]
  ·rw [if_neg hk]
   by_cases h : g = k
   ·have hb : (g == k) = true := beq_iff_eq.mpr h
    simp only [List.lookup, hb, if_neg (fun e : g = f => hk (h.symm.trans e))]
   ·have hb : (g == k) = false := beq_eq_false_iff_ne.mpr h
    simp only [List.lookup, hb]
    exact ih
theorem keys_putF (f : Str) (v : V) : ∀ fs : List (Str × V), f ∈ (putF f v fs).map (·.1) ∧ ∀ g, g ∈ fs.map (·.1) → g ∈ (putF f v fs).map (·.1)
 | [] => ⟨by simp [putF], fun g h => by simp at h⟩
 | (k, x) :: r => by
  obtain ⟨i1, i2⟩ := keys_putF f v r
  rw [show putF f v ((k, x) :: r) = (if k = f then (k, v) :: r else (k, x) :: putF f v r) from rfl]
  by_cases hk : k = f
  ·rw [if_pos hk]
   subst hk
   exact ⟨by simp, fun g h => by simpa using h⟩
  ·rw [if_neg hk]
   refine ⟨?_, fun g h => ?_⟩
   ·rw [List.map_cons]
    exact List.mem_cons_of_mem _ i1
   ·rw [List.map_cons] at h ⊢
    rcases List.mem_cons.mp h with e | e
    ·exact List.mem_cons.mpr (.inl e)
    ·exact List.mem_cons_of_mem _ (i2 g e)
theorem length_putF (f : Str) (v : V) : ∀ fs : List (Str × V), (putF f v fs).length ≤ fs.length + 1
 | [] => by simp [putF]
 | (k, x) :: r => by
  have ih := length_putF f v r
  rw [show putF f v ((k, x) :: r) = (if k = f then (k, v) :: r else (k, x) :: putF f v r) from rfl]
  by_cases hk : k = f
  ·rw [if_pos hk, List.length_cons, List.length_cons]; omega
  ·rw [if_neg hk, List.length_cons, List.length_cons]; omega
theorem RelO.some_of {v : V} {o : Option Value} (r : RelO (some v) o) : ∃ u, o = some u ∧ RelV v u := by
 cases o with
 | none => exact (show False from r).elim
 | some u => exact ⟨u, rfl, r⟩
theorem RelO.none_of {o : Option Value} (r : RelO none o) : o = none := by
 cases o with
 | none => rfl
 | some u => exact (show False from r).elim
theorem handed_of {v : V} {u : Value} (r : RelV v u) : PySem.W.handedIn u = true := by
 cases v with
 | non => cases (show u = Value.none from r); rfl
 | bl b => cases (show u = Value.bool b from r); rfl
 | int i => obtain ⟨t, e⟩ := (show ∃ t, u = Value.int i t from r); cases e; rfl
 | str x => obtain ⟨t, e⟩ := (show ∃ t, u = Value.str x t from r); cases e; rfl
 | byt b => obtain ⟨t, e⟩ := (show ∃ t, u = Value.bytes b t from r); cases e; rfl
 | flt b => obtain ⟨t, e⟩ := (show ∃ t, u = Value.float b t from r); cases e; rfl
 | ref a => cases (show u = Value.ref a from r); rfl
 | ty n => cases (show u = Value.type n from r); rfl
section
variable {P : Program} {w : World} {H H' : Hp} {h h' : Heap} {a C dx : Addr} {fs fs' : List (Str × V)}
theorem ins_get (hok : HOk P w H h) (e : H a = some (.ins C dx fs)) : ∃ mA, ObjM h a dx C mA ∧ (∀ f, RelO (fs.lookup f) (mA f)) ∧ PySem.Within mA (fs.map (·.1)) ∧ fs.length ≤ 1000 ∧ H dx = some (.own a) := by
 obtain ⟨d, z, ne, ob, mA, n, r, q⟩ := (show ObjOk P w H h a (.ins C dx fs) from hok a _ e)
 exact ⟨mA, ⟨ob, n, ne⟩, r, q, z, d⟩
end
structure Cls (K : PySem.W.Frag) (C : Addr) : Prop where
 pg : PySem.W.plainGet K C Str.empty = true
 hd : PySem.W.hasDictIn K C = true
 po : PySem.W.plainOver K C = true
 sa : PySem.W.findIn K (.ref C) "__setattr__" = some (some (.builtin "object.__setattr__"))
theorem Cls.get {K : PySem.W.Frag} {C : Addr} (c : Cls K C) (f : Str) : PySem.W.plainGet K C f = true := c.pg
noncomputable def NoAttr (K : PySem.W.Frag) (C : Addr) (f : Str) : Prop := PySem.W.findIn K (.ref C) f = some none
theorem NoAttr.taker {K : PySem.W.Frag} {C : Addr} {f : Str} (n : NoAttr K C f) : PySem.W.takerIn K C f = some none := by
 unfold PySem.W.takerIn
 rw [show PySem.W.findIn K (.ref C) f = some none from n]
 rfl
structure Con (K : PySem.W.Frag) (C : Addr) (f : Str) (v : V) (u : Value) : Prop where
 at_ : PySem.W.findIn K (.ref C) f = some (some u)
 rel : RelV v u
 get : PySem.W.specialIn K u "__get__" = some none
 cp : PySem.W.copiedNames.contains f = false
structure Meth (K : PySem.W.Frag) (C : Addr) (m : Str) (f : Addr) : Prop where
 at_ : PySem.W.findIn K (.ref C) m = some (some (.ref f))
 fn : PySem.W.isFn K (.ref f) = true
 kp : PySem.W.keepIn K (.ref f) = true
section
variable {X : Cx} {pins : List (Addr × Obj)} {σ : St} {H : Hp} {s : Shared} {a C dx : Addr} {fs : List (Str × V)} {f : Str} {v : V} {A : Around} {E : Value → Shared → Prop}
theorem getattr_ok {b : Bool} {Q : Value → Shared → Prop} (I : Inv X pins σ H s) (e : H a = some (.ins C dx fs)) (c : Cls X.K C) (n : NoAttr X.K C f) (l : fs.lookup f = some v)
  (h : ∀ u s', Inv X pins σ H s' → RelV v u → Q u s') : wpAny (model X.prog X.w) A (getAttr (.ref a) f b) Q E s := by
 obtain ⟨mA, O, r, _, _, _⟩ := ins_get I.hok e
 obtain ⟨u, hu, ru⟩ := RelO.some_of (v := v) (o := mA f) (by rw [← l]; exact r f)
 exact get_map I.kIn O (c.get f) c.hd n hu (handed_of ru) (h u _ (I.tok _) ru)
theorem getmeth_ok {m : Str} {g : Addr} {pl : Sem Bool} {Q : Value × List Value → Shared → Prop} (I : Inv X pins σ H s) (e : H a = some (.ins C dx fs)) (c : Cls X.K C) (k : Meth X.K C m g) (l : fs.lookup m = none)
  (h : Q (.ref g, [.ref a]) s) : wpAny (model X.prog X.w) A (getMethod (.ref a) m pl) Q E s := by
 obtain ⟨mA, O, r, _, _, _⟩ := ins_get I.hok e
 have hn : mA m = none := RelO.none_of (by rw [← l]; exact r m)
 exact get_meth I.kIn O (c.get m) k.at_ k.fn hn h
theorem setattr_ok {y : V} {u : Value} {Q : Unit → Shared → Prop} (I : Inv X pins σ H s) (e : H a = some (.ins C dx fs)) (c : Cls X.K C) (n : NoAttr X.K C f) (hl : fs.length < 1000) (ry : RelV y u)
  (h : ∀ s', Inv X pins σ (upd H a (.ins C dx (putF f y fs))) s' → Q () s') : wpAny (model X.prog X.w) A (setAttr (.ref a) f u) Q E s := by
 obtain ⟨mA, O, r, wi, _, ho⟩ := ins_get I.hok e
 have hz : (fs.map (·.1)).length ≤ sizeLine := by rw [List.length_map, sizeLine_eq]; omega
 refine set_map I.kIn O c.sa c.po n.taker c.hd wi hz fun h' O' sb => h _ ?_
 have hd : ∃ o, h'.get? dx = some o := let ⟨o, _, _, e', _⟩ := O'.ns; ⟨o, e'⟩
 refine I.write (x := a) (e := dx) (by rw [e]; exact True.intro) (.inr ho) (fun b q hb z => (sb.2 b hb).trans z) hd ?_
 refine ⟨by rw [upd_ne O.ne]; exact ho, ?_, O.ne, O'.obj, _, O'.ns, fun g => ?_, fun g hg => ?_⟩
 ·have := length_putF f y fs; omega
 ·show RelO ((putF f y fs).lookup g) (if g = f then some u else mA g)
  rw [lookup_putF]
  by_cases q : g = f
  ·rw [if_pos q, if_pos q]; exact ry
  ·rw [if_neg q, if_neg q]; exact r g
 ·by_cases q : g = f
  ·rw [q]; exact (keys_putF f y fs).1
  ·refine (keys_putF f y fs).2 g (wi g fun z => hg ?_)
   show (if g = f then some u else mA g) = none
   rw [if_neg q]; exact z
theorem Inv.made (I : Inv X pins σ H s) : Inv X pins σ (upd (upd H s.heap.objs.size (.own (s.heap.objs.size + 1))) (s.heap.objs.size + 1) (.ins C s.heap.objs.size []))
  { s with heap := (s.heap.push PySem.W.emptyDict).push (PySem.W.instObj C s.heap.objs.size) } := by
 have e1 : (s.heap.push PySem.W.emptyDict).get? s.heap.objs.size = some PySem.W.emptyDict := Heap.get?_push_size s.heap rfl
 have e2 : ((s.heap.push PySem.W.emptyDict).push (PySem.W.instObj C s.heap.objs.size)).get? (s.heap.objs.size + 1) = some (PySem.W.instObj C s.heap.objs.size) := by
  have := Heap.get?_push_size (s.heap.push PySem.W.emptyDict) (o := PySem.W.instObj C s.heap.objs.size) rfl
  rwa [Heap.size_push] at this
 have e3 : (s.heap.push PySem.W.emptyDict).Ns s.heap.objs.size (fun _ => none) := ⟨PySem.W.emptyDict, #[], _, e1, rfl, (fun e he => absurd he (by simp)), fun _ => rfl⟩
 have I1 := I.laid (a := s.heap.objs.size) (o := .own (s.heap.objs.size + 1)) (h' := s.heap.push PySem.W.emptyDict) (t' := s.toks) (fun b u q => Heap.get?_push_of_some _ q) (Nat.le_refl _) ⟨_, e1⟩
 refine I1.laid (a := s.heap.objs.size + 1) (o := .ins C s.heap.objs.size []) (t' := s.toks) (fun b u q => Heap.get?_push_of_some _ q) (Nat.le_of_eq (Heap.size_push _ _)) ?_
 have ne : s.heap.objs.size ≠ s.heap.objs.size + 1 := Nat.ne_of_lt (Nat.lt_succ_self _)
 refine ⟨by rw [upd_ne ne, upd_same], Nat.zero_le _, ne, e2, fun _ => none, (Heap.Ns1.of_empty e3).at fun o q => Heap.get?_push_of_some _ q, fun _ => True.intro, fun y hy => absurd rfl hy⟩
theorem attr_of {prog : Program} {w : World} {env : Env} {e : Expr} {f : Str} {pos : Pos} {s : Shared} {Q : Value → Shared → Prop} (hb : attributeBase e f env (eval e env) = eval e env)
  (h : wpAny (model prog w) A (eval e env) (fun o s₁ => wpAny (model prog w) A (getAttr o f true) Q E s₁) E s) : wpAny (model prog w) A (eval (.Attribute e f pos) env) Q E s :=
 Attribute_any_ h (by rw [arm_eval_Attribute, hb])
end
noncomputable def tFld (K : PySem.W.Frag) (ta : TE) (f : Str) : TE := fun σ H Q => ta σ H fun x H1 => ∃ a C dx fs v, x = .ref a ∧ H1 a = some (.ins C dx fs) ∧ Cls K C ∧ NoAttr K C f ∧ fs.lookup f = some v ∧ Q v H1
noncomputable def sFld (K : PySem.W.Frag) (ta tv : TE) (f : Str) : TS := fun D σ H => tv σ H fun y H1 => ta σ H1 fun x H2 => ∃ a C dx fs, x = .ref a ∧ H2 a = some (.ins C dx fs) ∧ Cls K C ∧ NoAttr K C f ∧ fs.length < 1000 ∧
 D.nx σ (upd H2 a (.ins C dx (putF f y fs)))
section
variable {X : Cx} {o e value : Expr} {f : Str} {pos pos' tpos : Pos} {ta tv : TE}
theorem pe_fld (he : PE X e ta) (hb : attributeBase e f X.env (eval e X.env) = eval e X.env) : PE X (.Attribute e f pos) (tFld X.K ta f) := by
 intro pins s σ H Q I h
 refine attr_of hb (thn (he pins s σ H _ I h) fun u s1 ⟨x, H1, I1, rx, a, C, dx, fs, v, ex, ea, c, n, l, q⟩ => ?_)
 subst ex
 obtain rfl : u = Value.ref a := rx
 exact getattr_ok I1 ea c n l fun u' s2 I2 ru => ⟨v, H1, I2, ru, q⟩
theorem ps_fld (ha : PE X o ta) (hv : PE X value tv) (hs : swapsWith value (some (.Attribute o f pos')) pos.line X.env = pure false) : PS X (.Assign [.Attribute o f pos'] value pos) (sFld X.K ta tv f) := by
 intro pins s σ H D I h
 refine plainObj_wpAny_Assign_Attribute (thn (hv pins s σ H _ I h) fun u s1 ⟨y, H1, I1, ry, q⟩ => thn (ha pins s1 σ H1 _ I1 q) fun ov s2 ⟨x, H2, I2, rx, a, C, dx, fs, ex, ea, c, n, l, q2⟩ => ?_) hs
 subst ex
 obtain rfl : ov = Value.ref a := rx
 exact setattr_ok I2 ea c n l ry fun s3 I3 => ⟨σ, _, I3, q2⟩
end
section
variable {X : Cx} {pins : List (Addr × Obj)} {σ : St} {H : Hp} {s : Shared} {A : Around} {E : Value → Shared → Prop} {Q : Value → Shared → Prop} {c : Value} {b : Bool}
inductive TyOf (K : PySem.W.Frag) (H : Hp) : V → Value → Prop where
 | non : TyOf K H .non (.type "NoneType")
 | bl (x : Bool) : TyOf K H (.bl x) (.type "bool")
 | int (i : Int) : TyOf K H (.int i) (.type "int")
 | str (x : Str) : TyOf K H (.str x) (.type "str")
 | flt (x : UInt64) : TyOf K H (.flt x) (.type "float")
 | lst {a : Addr} {xs : List V} (e : H a = some (.lst xs)) : TyOf K H (.ref a) (.type "list")
 | frz {a : Addr} {o : Obj} {xs : List V} (e : H a = some (.frz o (.lst xs))) : TyOf K H (.ref a) (.type "list")
 | tup {a : Addr} {xs : List V} (e : H a = some (.tup xs)) : TyOf K H (.ref a) (.type "tuple")
 | dK {a : Addr} {kvs : List (Key × V)} (e : H a = some (.dK kvs)) : TyOf K H (.ref a) (.type "dict")
 | dT {a : Addr} {kvs : List (List Key × V)} (e : H a = some (.dT kvs)) : TyOf K H (.ref a) (.type "dict")
 | ins {a C dx : Addr} {fs : List (Str × V)} (e : H a = some (.ins C dx fs)) (cl : Cls K C) (ha : PySem.W.findIn K (.ref C) "__class__" = some (some (.builtin "object.__class__")))
   (hn : PySem.W.specialIn K (.builtin "object.__class__") "__get__" = some (some (.builtin "getset_descriptor.__get__"))) (htk : PySem.W.takesIn K (.builtin "object.__class__") = some true)
   (hm : PySem.W.mroIn K C (.type "object") = some true) : TyOf K H (.ref a) (.ref C)
theorem isinst_ok {x : V} {u t : Value} (I : Inv X pins σ H s) (rx : RelV x u) (ty : TyOf X.K H x t) (e : PySem.W.kitOne X.K t c = some b) (h : ∀ tk, Q (.bool b) { s with toks := tk }) :
  wpAny (model X.prog X.w) A (call (.builtin "isinstance") [u, c]) Q E s := by
 cases ty with
 | non => cases (show u = Value.none from rx); exact PySem.W.kia_one PySem.W.kitx_none I.kIn True.intro e (fun z => nomatch z) h
 | bl y => cases (show u = Value.bool y from rx); exact PySem.W.kia_one PySem.W.kitx_bool I.kIn True.intro e (fun z => nomatch z) h
 | int i => obtain ⟨t, q⟩ := (show ∃ t, u = Value.int i t from rx); cases q; exact PySem.W.kia_one PySem.W.kitx_int I.kIn True.intro e (fun z => nomatch z) h
 | str y => obtain ⟨t, q⟩ := (show ∃ t, u = Value.str y t from rx); cases q; exact PySem.W.kia_one PySem.W.kitx_str I.kIn True.intro e (fun z => nomatch z) h
 | flt y => obtain ⟨t, q⟩ := (show ∃ t, u = Value.float y t from rx); cases q; exact PySem.W.kia_one PySem.W.kitx_float I.kIn True.intro e (fun z => nomatch z) h
 | @lst a xs ea =>
  cases (show u = Value.ref a from rx)
  obtain ⟨_, _, n, _, h1⟩ := (show ObjOk X.prog X.w H s.heap a (.lst xs) from I.hok a _ ea)
  exact PySem.W.kia_one PySem.W.kitx_list I.kIn ⟨_, h1, rfl⟩ e (fun z => nomatch z) h
 | @frz a ob xs ea =>
  cases (show u = Value.ref a from rx)
  obtain ⟨_, _, _, n, _, h1⟩ := (show ObjOk X.prog X.w H s.heap a (.frz ob (.lst xs)) from I.hok a _ ea)
  exact PySem.W.kia_one PySem.W.kitx_list I.kIn ⟨_, h1, rfl⟩ e (fun z => nomatch z) h
 | @tup a xs ea =>
  cases (show u = Value.ref a from rx)
  obtain ⟨_, _, _, p⟩ := (show ObjOk X.prog X.w H s.heap a (.tup xs) from I.hok a _ ea)
  obtain ⟨o, h1, h2, _⟩ := p
  exact PySem.W.kia_one PySem.W.kitx_tuple I.kIn ⟨o, h1, h2⟩ e (fun z => nomatch z) h
 | @dK a kvs ea =>
  cases (show u = Value.ref a from rx)
  obtain ⟨_, _, vs, _, p⟩ := (show ObjOk X.prog X.w H s.heap a (.dK kvs) from I.hok a _ ea)
  obtain ⟨o, es, ep, h1, h2, _⟩ := p
  exact PySem.W.kia_one PySem.W.kitx_dict I.kIn ⟨o, h1, h2.1⟩ e (fun z => nomatch z) h
 | @dT a kvs ea =>
  cases (show u = Value.ref a from rx)
  obtain ⟨_, _, xs, _, o, es, ep, h1, h2, _⟩ := (show ObjOk X.prog X.w H s.heap a (.dT kvs) from I.hok a _ ea)
  exact PySem.W.kia_one PySem.W.kitx_dict I.kIn ⟨o, h1, h2.1⟩ e (fun z => nomatch z) h
 | @ins a C dx fs ea cl ha hn htk hm =>
  cases (show u = Value.ref a from rx)
  obtain ⟨mA, O, _⟩ := ins_get I.hok ea
  obtain ⟨od, J, _⟩ := O.look
  exact PySem.W.kia_one (PySem.W.kitx_own (cl.get _) cl.hd ha hn htk hm) I.kIn J e (fun z => nomatch z) h
end
end L2
namespace L2
open PySem PySem.Spec PyProof.Rows
structure Room (k : Nat) (A : Around) : Prop where
 hd : A.handled = none
 dp : A.depth + 3 * k + 5 < recursionLimit
 un : A.units + 16 * k + 200 < cLine
theorem Room.mono {j k : Nat} {A : Around} (r : Room k A) (h : j ≤ k) : Room j A := ⟨r.hd, by have := r.dp; omega, by have := r.un; omega⟩
theorem Room.deeper {k : Nat} {A : Around} (r : Room (k + 1) A) (env : Env) : Room k (A.deeper env) :=
 ⟨r.hd, by have := r.dp; show A.depth + 1 + 3 * k + 5 < _; omega, by have := r.un; show A.units + 3 + 16 * k + 200 < _; omega⟩
theorem Room.in1 {k : Nat} {A : Around} (r : Room (k + 1) A) : Room k A.in1 :=
 ⟨r.hd, by have := r.dp; show A.depth + 3 * k + 5 < _; omega, by have := r.un; show A.units + 1 + 16 * k + 200 < _; omega⟩
theorem make_depth {A : Around} {C : Addr} {us : List Value} {kw : List (Str × Value)} : (A.under (.builtin "type.__call__" ⟨.ref C :: us, kw⟩)).depth = A.depth + 1 := by
 first | rfl | simp [Around.under, Code.weight, Code.isCreation, Code.isGuard, Code.isCaller, Code.frames, Code.isFrame, guardIds]
theorem make_units {A : Around} {C : Addr} {us : List Value} {kw : List (Str × Value)} : (A.under (.builtin "type.__call__" ⟨.ref C :: us, kw⟩)).units = A.units + 1 := by
 first | rfl | simp [Around.under, Code.cUnits, Code.frames, Code.isFrame]
theorem Room.make {k : Nat} {A : Around} (r : Room (k + 1) A) (C : Addr) (us : List Value) (kw : List (Str × Value)) : Room k (A.under (.builtin "type.__call__" ⟨.ref C :: us, kw⟩)) :=
 ⟨r.hd, by have := r.dp; rw [make_depth]; omega, by have := r.un; rw [make_units]; omega⟩
theorem Room.depth {k : Nat} {A : Around} (r : Room k A) : A.depth < recursionLimit := by have := r.dp; omega
theorem Room.units {k : Nat} {A : Around} (r : Room k A) : A.units + 64 < cLine := by have := r.un; omega
noncomputable def tNil : TA := fun _ H Q => Q [] H
noncomputable def tCons (ta : TE) (tr : TA) : TA := fun σ H Q => ta σ H fun x H1 => tr σ H1 fun xs H2 => Q (x :: xs) H2
section
variable {X : Cx} {e : Expr} {es : List Expr} {te : TE} {t : TA} {pos : Pos}
theorem pa_nil : PA X [] tNil := fun _ _ _ _ H Q I h => Calls.spliced_nil ⟨[], H, I, .nil, h⟩
theorem pa_cons (ha : PE X e te) (hr : PA X es t) (hs : starEach (e :: es) X.env = (false, eval e X.env) :: starEach es X.env := by rfl) : PA X (e :: es) (tCons te t) := by
 intro pos pins s σ H Q I h
 rw [hs]
 show wpAny _ _ (spliced ((false, eval e X.env) :: backTo pos (starEach es X.env))) _ _ s
 refine Calls.spliced_cons (thn (ha pins s σ H _ I h) fun u s1 ⟨x, H1, I1, r1, q1⟩ => ?_)
 exact thn (hr pos pins s1 σ H1 _ I1 q1) fun us s2 ⟨xs, H2, I2, r2, q2⟩ => ⟨x :: xs, H2, I2, .cons r1 r2, q2⟩
noncomputable def tTup (t : TA) : TE := fun σ H Q => t σ H fun xs H1 => xs.length ≤ sizeLine ∧ ∀ p, H1 p = none → Q (.ref p) (upd H1 p (.tup xs))
noncomputable def tLst (t : TA) : TE := fun σ H Q => t σ H fun xs H1 => xs.length ≤ sizeLine ∧ ∀ p, H1 p = none → Q (.ref p) (upd H1 p (.lst xs))
theorem pe_tup {x1} (h : PA X es t) : PE X (.Tuple es x1 pos) (tTup t) := by
 intro pins s σ H Q I hq
 refine wpAny_Tuple_spliced (thn (h pos pins s σ H _ I hq) fun us s1 ⟨xs, H1, I1, r, z, q⟩ => ⟨by rw [← r.length]; exact z, ?_⟩)
 have hf : H1 s1.heap.objs.size = none := I1.hok.fresh (Nat.le_refl _)
 refine ⟨.ref s1.heap.objs.size, upd H1 s1.heap.objs.size (.tup xs), I1.laid (t' := s1.toks) (fun b u e => Heap.get?_push_of_some _ e) (Nat.le_refl _) ?_, rfl, q _ hf⟩
 exact ⟨z, us, r, ⟨_, Heap.get?_push_size _ rfl, rfl, _, rfl⟩⟩
theorem pe_lst (h : PA X es t) : PE X (.List es pos) (tLst t) := by
 intro pins s σ H Q I hq
 refine wpAny_List_spliced (thn (h pos pins s σ H _ I hq) fun us s1 ⟨xs, H1, I1, r, z, q⟩ => ⟨by rw [← r.length]; exact z, ?_⟩)
 have hf : H1 s1.heap.objs.size = none := I1.hok.fresh (Nat.le_refl _)
 refine ⟨.ref s1.heap.objs.size, upd H1 s1.heap.objs.size (.lst xs), I1.laid (t' := s1.toks) (fun b u e => Heap.get?_push_of_some _ e) (Nat.le_refl _) ?_, rfl, q _ hf⟩
 exact ⟨z, us, 0, r, Heap.get?_push_size _ rfl⟩
end
abbrev Sp := List V → Hp → VK → XK → Prop
abbrev CXT := List Env → Hp → Shared → XK → Value → Shared → Prop
structure Env0 (P : Program) (w : World) (K : PySem.W.Frag) (mg : Str → Option Value) (base : Heap) (A : Around) (outer : List Env) (s : Shared) (H : Hp) : Prop where
 frames : A.frames = some outer
 mod : Mod K mg base
 bs : ∀ b o, base.get? b = some o → s.heap.get? b = some o ∧ H b = none
 bsz : base.objs.size ≤ s.heap.objs.size
 funs : s.heap.FunFrames base outer
 frf : ∀ b ∈ frs outer, H b = none
 hok : HOk P w H s.heap
 bare : AllBare s.gens
noncomputable def CE (outer : List Env) (P : Program) (w : World) (H : Hp) (s : Shared) (Q : VK) (u : Value) (s' : Shared) : Prop :=
 ∃ v H', s'.os = s.os ∧ AllBare s'.gens ∧ Un (frs outer) [] H H' s.heap s'.heap ∧ HOk P w H' s'.heap ∧ RelV v u ∧ Q v H'
noncomputable def CR (CX : CXT) (outer : List Env) (P : Program) (w : World) (H : Hp) (s : Shared) (Q : VK) (E : XK) (r : Result) (s' : Shared) : Prop :=
 match r with
 | .ok (.ret u) => CE outer P w H s Q u s'
 | .ok _ => False
 | .error e => CX outer H s E e s'
structure FnOk (P : Program) (w : World) (K : PySem.W.Frag) (mg : Str → Option Value) (base : Heap) (CX : CXT) (k : Nat) (f : Addr) (fd : FuncData) (ps : List Str) (sp : Sp) : Prop where
 len : ∀ vs H Q E, sp vs H Q E → vs.length = ps.length
 run : ∀ (A : Around) (outer : List Env) (s : Shared) (H : Hp) (args : Args) (us : List Value) (vs : List V) (Q : VK) (E : XK), Room k A → Env0 P w K mg base A outer s H → BindsTo s fd args (ps.zip us) → Vals vs us → sp vs H Q E →
  codeAny (model P w) A (.call (.ref f) args) (CR CX outer P w H s Q E) s
theorem FnOk.mono {P : Program} {w : World} {K : PySem.W.Frag} {mg : Str → Option Value} {base : Heap} {CX : CXT} {j k : Nat} {f : Addr} {fd : FuncData} {ps : List Str} {sp : Sp} (F : FnOk P w K mg base CX j f fd ps sp) (h : j ≤ k) :
  FnOk P w K mg base CX k f fd ps sp := ⟨F.len, fun A outer s H args us vs Q E hr => F.run A outer s H args us vs Q E (hr.mono h)⟩
theorem FnOk.imp {P : Program} {w : World} {K : PySem.W.Frag} {mg : Str → Option Value} {base : Heap} {CX : CXT} {k : Nat} {f : Addr} {fd : FuncData} {ps : List Str} {sp sp' : Sp} (F : FnOk P w K mg base CX k f fd ps sp)
  (h : ∀ vs H Q E, sp' vs H Q E → sp vs H Q E) : FnOk P w K mg base CX k f fd ps sp' :=
 ⟨fun vs H Q E q => F.len vs H Q E (h _ _ _ _ q), fun A outer s H args us vs Q E hr he hb hv hs => F.run A outer s H args us vs Q E hr he hb hv (h _ _ _ _ hs)⟩
theorem Env0.make {P : Program} {w : World} {K : PySem.W.Frag} {mg : Str → Option Value} {base : Heap} {A : Around} {outer : List Env} {s : Shared} {H : Hp} (e : Env0 P w K mg base A outer s H) (C : Addr) (us : List Value) (kw : List (Str × Value)) :
  Env0 P w K mg base (A.under (.builtin "type.__call__" ⟨.ref C :: us, kw⟩)) outer s H := ⟨by first | exact e.frames | (simpa [Around.under, Code.envs, Code.isFrame, pushEnvs] using e.frames), e.mod, e.bs, e.bsz, e.funs, e.frf, e.hok, e.bare⟩
theorem Env0.in1 {P : Program} {w : World} {K : PySem.W.Frag} {mg : Str → Option Value} {base : Heap} {A : Around} {outer : List Env} {s : Shared} {H : Hp} (e : Env0 P w K mg base A outer s H) :
  Env0 P w K mg base A.in1 outer s H := ⟨e.frames, e.mod, e.bs, e.bsz, e.funs, e.frf, e.hok, e.bare⟩
section
variable {X : Cx} {pins : List (Addr × Obj)} {σ : St} {H : Hp} {s s' : Shared}
theorem Inv.env0 (I : Inv X pins σ H s) : Env0 X.prog X.w X.K X.mg X.base X.A X.stack s H :=
 ⟨I.ok.frames, I.ok.mod, I.bs, Nat.le_trans I.ok.bsz I.sz, I.stack, I.stkFree, I.hok, I.bare⟩
theorem Inv.after {Q : VK} {u : Value} (I : Inv X pins σ H s) (h : CE X.stack X.prog X.w H s Q u s') : EP X pins σ Q u s' := by
 obtain ⟨v, H', os, bare, un, hok, r, q⟩ := h
 obtain ⟨hh, g, d, t, os'⟩ := s'
 obtain rfl : os' = s.os := os
 exact ⟨v, H', I.call (h' := hh) (g' := g) (d' := d) (t' := t) (ch := []) un hok bare (fun b z => absurd z (by simp)), r, q⟩
end
noncomputable def tCall (sp : Sp) (dvs : List V) (E : XK) (t : TA) : TE := fun σ H Q => t σ H fun vs H1 => sp (vs ++ dvs) H1 Q E
noncomputable def tMeth (C : Addr) (m : Str) (sp : Sp) (dvs : List V) (E : XK) (ta : TE) (t : TA) : TE := fun σ H Q => ta σ H fun x H1 => ∃ a dx fs, x = .ref a ∧ H1 a = some (.ins C dx fs) ∧ fs.lookup m = none ∧
 t σ H1 fun vs H2 => sp (x :: (vs ++ dvs)) H2 Q E
noncomputable def tMake (C : Addr) (sp : Sp) (dvs : List V) (E : XK) (t : TA) : TE := fun σ H Q => t σ H fun vs H1 => ∀ x dx, H1 x = none → H1 dx = none → dx ≠ x →
 sp (.ref x :: (vs ++ dvs)) (upd (upd H1 dx (.own x)) x (.ins C dx [])) (fun v H2 => v = .non ∧ Q (.ref x) H2) E
noncomputable def Binds (K : PySem.W.Frag) (fd : FuncData) (ps : List Str) (ds : List Value) : Prop :=
 ∀ (s : Shared) (us : List Value), K.In s.heap → (us ++ ds).length = ps.length → BindsTo s fd ⟨us, []⟩ (ps.zip (us ++ ds))
theorem Binds.all {K : PySem.W.Frag} {fd : FuncData} {ps : List Str} (h : ∀ us : List Value, us.length = ps.length → bindArgs fd ⟨us, []⟩ = pure (ps.zip us)) : Binds K fd ps [] := fun s us _ hl => by
 rw [List.append_nil] at hl ⊢
 exact .of_eq (h us hl)
noncomputable def Passes (CX : CXT) (X : Cx) (E : XK) : Prop := ∀ (pins : List (Addr × Obj)) (σ : St) (H : Hp) (s : Shared) (e : Value) (s' : Shared), Inv X pins σ H s → CX X.stack H s E e s' → X.xe e s'
section
variable {X : Cx} {CX : CXT} {k : Nat} {f C : Addr} {fd : FuncData} {ps : List Str} {sp : Sp} {dvs : List V} {ds : List Value} {E : XK} {x m : Str} {p pos apos : Pos} {e o : Expr} {es : List Expr} {ta : TE} {t : TA}
theorem run_fn {pins : List (Addr × Obj)} {σ : St} {H : Hp} {s : Shared} {Q : VK} {us : List Value} {vs : List V} (F : FnOk X.prog X.w X.K X.mg X.base CX k f fd ps sp) (hr : Room k X.A) (hb : Binds X.K fd ps ds) (hd : Vals dvs ds) (hx : Passes CX X E)
  (I : Inv X pins σ H s) (r : Vals vs us) (h : sp (vs ++ dvs) H Q E) : wpAny (model X.prog X.w) X.A (call (.ref f) us) (EP X pins σ Q) X.xe s := by
 have r2 : Vals (vs ++ dvs) (us ++ ds) := r.append hd
 have hl : (us ++ ds).length = ps.length := by rw [← r2.length]; exact F.len _ _ _ _ h
 refine wpAny_call (codeAny_mono (F.run X.A X.stack s H ⟨us, []⟩ (us ++ ds) (vs ++ dvs) Q E hr I.env0 (hb s us I.kIn hl) r2 h) fun r s' hq => ?_)
 cases r with
 | error e => exact hx pins σ H s e s' I hq
 | ok fl =>
  cases fl with
  | ret u => exact I.after hq
  | next => exact False.elim hq
  | brk => exact False.elim hq
  | cont => exact False.elim hq
theorem pe_call (F : FnOk X.prog X.w X.K X.mg X.base CX k f fd ps sp) (hr : Room k X.A) (hg : Gl X x) (hm : X.mg x = some (.ref f)) (hk : PySem.W.keepIn X.K (.ref f) = true) (hb : Binds X.K fd ps ds) (hd : Vals dvs ds) (hx : Passes CX X E)
  (ha : PA X (e :: es) t) (hdb : (x == ("__debug__" : Str)) = false := by decide) (he : starEach (e :: es) X.env = (false, eval e X.env) :: starEach es X.env := by rfl) (hpl : (backTo pos (starEach es X.env)).any (·.1) = false := by rfl) :
  PE X (.Call (.Name x p) (e :: es) [] pos) (tCall sp dvs E t) := by
 intro pins s σ H Q I h
 refine wpAny_Call_Name_kw (ld_glob I hg hm ?_ hdb)
 refine PySem.W.callWith_K (h₀ := X.base) I.ok.mod.kin hk (thn (ha pos pins s σ H _ I h) fun us s1 ⟨vs, H1, I1, r, q⟩ => ⟨I1.kIn, ?_⟩) he hpl
 exact run_fn F hr hb hd hx I1 r q
theorem pe_meth0 {pl : Sem Bool} (he : PE X o ta) (c : Cls X.K C) (hm : Meth X.K C m f) (F : FnOk X.prog X.w X.K X.mg X.base CX k f fd ps sp) (hr : Room k X.A) (hb : Binds X.K fd ps ds) (hd : Vals dvs ds) (hx : Passes CX X E)
  (ht : eval (.Call (.Attribute o m apos) [] [] pos) X.env = (do
   let ov ← eval o X.env
   standAt apos.atName
   let (f, first) ← holding [ov] (getMethod ov m pl)
   callWith pos f first (backTo pos (starEach [] X.env)) (backToKw pos (keywordEach [] X.env))) := by rfl) :
  PE X (.Call (.Attribute o m apos) [] [] pos) (tMeth C m sp dvs E ta tNil) := by
 intro pins s σ H Q I h
 refine PySem.W.methodCall_KW (pl := pl) (thn (he pins s σ H _ I h) fun u s1 ⟨x, H1, I1, rx, a, dx, fs, ex, ea, l, q⟩ => ?_) ht
 subst ex
 obtain rfl : u = Value.ref a := rx
 refine getmeth_ok I1 ea c hm l ?_
 exact PySem.W.callWith_K0 (first := [.ref a]) I1.kIn hm.kp (run_fn (us := [.ref a]) (vs := [.ref a]) F hr hb hd hx I1 (.cons rfl .nil) q)
structure Mk (K : PySem.W.Frag) (C f : Addr) : Prop where
 makes : PySem.W.makesIn K C = true
 init : PySem.W.findIn K (.ref C) "__init__" = some (some (.ref f))
 fn : PySem.W.isFn K (.ref f) = true
 kp : PySem.W.keepIn K (.ref C) = true
theorem run_make {pins : List (Addr × Obj)} {σ : St} {H : Hp} {s : Shared} {Q : VK} {us : List Value} {vs : List V} (M : Mk X.K C f) (F : FnOk X.prog X.w X.K X.mg X.base CX k f fd ps sp) (hr : Room (k + 1) X.A) (hb : Binds X.K fd ps ds) (hd : Vals dvs ds)
  (hx : Passes CX X E) (I : Inv X pins σ H s) (r : Vals vs us)
  (h : ∀ x dx, H x = none → H dx = none → dx ≠ x → sp (.ref x :: (vs ++ dvs)) (upd (upd H dx (.own x)) x (.ins C dx [])) (fun v H2 => v = .non ∧ Q (.ref x) H2) E) :
  wpAny (model X.prog X.w) X.A (call (.ref C) us) (EP X pins σ Q) X.xe s := by
 have hq := h (s.heap.objs.size + 1) s.heap.objs.size (I.hok.fresh (Nat.le_succ _)) (I.hok.fresh (Nat.le_refl _)) (Nat.ne_of_lt (Nat.lt_succ_self _))
 have I2 := Inv.made (C := C) I
 have r2 : Vals (V.ref (s.heap.objs.size + 1) :: (vs ++ dvs)) (Value.ref (s.heap.objs.size + 1) :: (us ++ ds)) := .cons rfl (r.append hd)
 have hl : (Value.ref (s.heap.objs.size + 1) :: us ++ ds).length = ps.length := by
  have e := r2.length
  rw [F.len _ _ _ _ hq] at e
  exact e.symm
 refine wpAny_call (make_map (f := f) I.kIn M.makes M.init (beq_iff_eq.mp M.fn) (codeAny_mono (F.run _ X.stack _ _ ⟨Value.ref (s.heap.objs.size + 1) :: us, []⟩ (Value.ref (s.heap.objs.size + 1) :: (us ++ ds)) _ _ E (hr.make C us [])
  (I2.env0.make C us []) (hb _ (Value.ref (s.heap.objs.size + 1) :: us) I2.kIn hl) r2 hq) fun r s' hq' => ?_))
 cases r with
 | error e => exact hx pins σ _ _ e s' I2 hq'
 | ok fl =>
  cases fl with
  | ret u =>
   obtain ⟨v, H', I3, rv, ev, q3⟩ := I2.after hq'
   subst ev
   exact ⟨rv, ⟨V.ref (s.heap.objs.size + 1), H', I3, rfl, q3⟩⟩
  | next => exact False.elim hq'
  | brk => exact False.elim hq'
  | cont => exact False.elim hq'
theorem pe_make (M : Mk X.K C f) (F : FnOk X.prog X.w X.K X.mg X.base CX k f fd ps sp) (hr : Room (k + 1) X.A) (hg : Gl X x) (hm : X.mg x = some (.ref C)) (hb : Binds X.K fd ps ds) (hd : Vals dvs ds) (hx : Passes CX X E)
  (ha : PA X (e :: es) t) (hdb : (x == ("__debug__" : Str)) = false := by decide) (he : starEach (e :: es) X.env = (false, eval e X.env) :: starEach es X.env := by rfl) (hpl : (backTo pos (starEach es X.env)).any (·.1) = false := by rfl) :
  PE X (.Call (.Name x p) (e :: es) [] pos) (tMake C sp dvs E t) := by
 intro pins s σ H Q I h
 refine wpAny_Call_Name_kw (ld_glob I hg hm ?_ hdb)
 refine PySem.W.callWith_K (h₀ := X.base) I.ok.mod.kin M.kp (thn (ha pos pins s σ H _ I h) fun us s1 ⟨vs, H1, I1, r, q⟩ => ⟨I1.kIn, ?_⟩) he hpl
 exact run_make M F hr hb hd hx I1 r q
end
section
variable {X : Cx} {CX : CXT} {k : Nat} {f C : Addr} {fd : FuncData} {ps ks : List Str} {sp : Sp} {E : XK} {x m : Str} {p pos apos kpos : Pos} {e o : Expr} {es : List Expr} {kws : List Keyword} {te ta : TE} {t tk : TA} {nm : Option Str}
structure KBinds (K : PySem.W.Frag) (fd : FuncData) (ps ks : List Str) (g : List Value → List Value → List Value) (gV : List V → List V → List V) : Prop where
 to : ∀ (s : Shared) (us ws : List Value), K.In s.heap → (g us ws).length = ps.length → BindsTo s fd ⟨us, ks.zip ws⟩ (ps.zip (g us ws))
 rel : ∀ {vs : List V} {us : List Value} {zs : List V} {ws : List Value}, Vals vs us → Vals zs ws → Vals (gV vs zs) (g us ws)
variable {g : List Value → List Value → List Value} {gV : List V → List V → List V}
end
structure FnScope (N P : List Str) (sc : Scope) : Prop where
 kind : sc.kind = .function
 co : sc.isCoroutine = false
 gen : sc.isGenerator = false
 nd : N.Nodup
 pre : N.take P.length = P
 par : ∀ x ∈ P, sc.names.lookup x = some .local ∨ sc.names.lookup x = some .cell
 nofree : ∀ y ∈ sc.names, y.2 ≠ .free
theorem bindL_out {kindOf : Str → Option NameKind} {x : Str} : ∀ {binds : List (Str × Value)} {m : Str → Option Value}, (∀ v, (x, v) ∉ binds) → bindL kindOf binds m x = m x
 | [], _, _ => rfl
 | (n, v) :: r, m, h => by
  unfold bindL
  rw [bindL_out fun w hw => h w (List.mem_cons_of_mem _ hw)]
  split
  ·have : x ≠ n := by rintro rfl; exact h v List.mem_cons_self
   simp [this]
  ·rfl
theorem bindC_out {kindOf : Str → Option NameKind} {x : Str} : ∀ {binds : List (Str × Value)} {m : Str → Option Value}, (∀ v, (x, v) ∉ binds) → bindC kindOf binds m x = m x
 | [], _, _ => rfl
 | (n, v) :: r, m, h => by
  unfold bindC
  rw [bindC_out fun w hw => h w (List.mem_cons_of_mem _ hw)]
  split
  ·rfl
  ·have : x ≠ n := by rintro rfl; exact h v List.mem_cons_self
   simp [this]
theorem bindL_get {kindOf : Str → Option NameKind} {x : Str} {v : Value} : ∀ {P : List Str} {vs : List Value} {i : Nat} {m : Str → Option Value}, P.Nodup → P[i]? = some x → vs[i]? = some v → kindOf x = some .local →
  bindL kindOf (P.zip vs) m x = some v
 | [], _, _, _, _, h, _, _ => by simp at h
 | _ :: _, [], _, _, _, _, h, _ => by simp at h
 | p :: P, w :: vs, 0, m, nd, h1, h2, hk => by
  simp at h1 h2; subst h1; subst h2
  show bindL kindOf ((p, w) :: P.zip vs) m p = _
  unfold bindL
  rw [bindL_out fun v hv => (List.nodup_cons.mp nd).1 (List.of_mem_zip hv).1, if_pos hk]
  simp
 | p :: P, w :: vs, i + 1, m, nd, h1, h2, hk => by
  show bindL kindOf ((p, w) :: P.zip vs) m x = _
  unfold bindL
  exact bindL_get (i := i) (List.nodup_cons.mp nd).2 (by simpa using h1) (by simpa using h2) hk
theorem bindC_get {kindOf : Str → Option NameKind} {x : Str} {v : Value} : ∀ {P : List Str} {vs : List Value} {i : Nat} {m : Str → Option Value}, P.Nodup → P[i]? = some x → vs[i]? = some v → kindOf x ≠ some .local →
  bindC kindOf (P.zip vs) m x = some v
 | [], _, _, _, _, h, _, _ => by simp at h
 | _ :: _, [], _, _, _, _, h, _ => by simp at h
 | p :: P, w :: vs, 0, m, nd, h1, h2, hk => by
  simp at h1 h2; subst h1; subst h2
  show bindC kindOf ((p, w) :: P.zip vs) m p = _
  unfold bindC
  rw [bindC_out fun v hv => (List.nodup_cons.mp nd).1 (List.of_mem_zip hv).1, if_neg hk]
  simp
 | p :: P, w :: vs, i + 1, m, nd, h1, h2, hk => by
  show bindC kindOf ((p, w) :: P.zip vs) m x = _
  unfold bindC
  exact bindC_get (i := i) (List.nodup_cons.mp nd).2 (by simpa using h1) (by simpa using h2) hk
noncomputable def start (N : List Str) (vs : List V) : St := vs.map some ++ List.replicate (N.length - vs.length) none
noncomputable def cxOf (CX : CXT) (P : Program) (w : World) (K : PySem.W.Frag) (mg : Str → Option Value) (base : Heap) (N : List Str) (qual : Str) (scope : Scope) (f : Addr) (cd : Value) (A : Around) (outer : List Env) (s : Shared) (H : Hp) (E : XK) : Cx where
 prog := P
 w := w
 K := K
 mg := mg
 base := base
 A := A.deeper (envOfC qual scope s.heap.objs.size f cd)
 N := N
 s₀ := s
 H₀ := H
 env := envOfC qual scope s.heap.objs.size f cd
 outer := outer
 stack := envOfC qual scope s.heap.objs.size f cd :: outer
 ex := []
 calm := true
 fn := fun _ => true
 pn := []
 xe := fun e s' => wpAny (model P w) (A.deeper (envOfC qual scope s.heap.objs.size f cd)) (leaving (envOfC qual scope s.heap.objs.size f cd) e) (fun _ s'' => CX outer H s E e s'') (fun e' s'' => CX outer H s E e' s'') s'
theorem cell_has {sc : Scope} {n : Nat} {x : Str} (h : sc.names.lookup x = some .cell) : ∃ c, (cellsFrom n sc.names []).lookup x = some c := by
 have q := PySem.W.cellsFrom_some sc.names n [] (.inl h)
 exact Option.isSome_iff_exists.mp q
theorem inv_start {CX : CXT} {P : Program} {w : World} {K : PySem.W.Frag} {mg : Str → Option Value} {base : Heap} {N ps : List Str} {qual : Str} {scope : Scope} {f : Addr} {cd : Value} {A : Around} {outer : List Env} {s s1 : Shared} {H : Hp} {E : XK} {us : List Value} {vs : List V}
  (S : FnScope N ps scope) (hd : A.handled = none) (e0 : Env0 P w K mg base A outer s H) (hl : vs.length = ps.length) (r : Vals vs us)
  (x : InCallC s s.heap.objs.size (bindL (envOfC qual scope s.heap.objs.size f cd).kindOf (ps.zip us) fun _ => none) (cellsFrom (s.heap.objs.size + 1) scope.names []) (bindC (envOfC qual scope s.heap.objs.size f cd).kindOf (ps.zip us) fun _ => none) s1) :
  Inv (cxOf CX P w K mg base N qual scope f cd A outer s H E) [] (start N vs) H s1 := by
 have hpl : ps.length ≤ N.length := by have := congrArg List.length S.pre; rw [List.length_take] at this; omega
 obtain ⟨h1, tk, rfl, hk⟩ := x.done
 have noA : ∀ b : Addr, b ∉ (cxOf CX P w K mg base N qual scope f cd A outer s H E).ex := fun b z => absurd (show b ∈ ([] : List Addr) from z) (by simp)
 refine ⟨⟨e0.mod, S.kind, rfl, rfl, Nat.le_refl _, fun y z c h1 h2 => ?_, fun y hy => ?_, fun y c _ h => ?_, fun _ => hd, Around.frames_deeper e0.frames, .inr ⟨rfl, rfl⟩, fun b z => absurd z (noA b), e0.bs, e0.bsz, fun b _ _ => noA b, fun b z => absurd z (noA b), e0.funs, e0.frf⟩,
  rfl, e0.bare, Un.kept hk, ⟨_, x.toInCall.ns, fun i y v h1 h2 h3 => ?_⟩, fun y c h => ⟨_, x.cell y c h⟩, e0.hok.fresh (Nat.le_refl _), fun y c h => ?_, fun p hp => absurd (show p ∈ ([] : List (Addr × Obj)) from hp) (by simp), e0.hok.kept hk, ?_⟩
 ·exact name_of_addr x.apart (PySem.mem_of_lookup h1) (PySem.mem_of_lookup h2)
 ·have hy : scope.names.lookup y = some .cell ∨ scope.names.lookup y = some .free := hy
  rcases hy with hy | hy
  ·exact cell_has hy
  ·exact absurd rfl (S.nofree _ (PySem.mem_of_lookup hy))
 ·exact Nat.le_of_lt (x.above y c (PySem.mem_of_lookup h))
 ·have hi : i < vs.length := by
   unfold start at h2
   by_cases hi : i < vs.length
   ·exact hi
   ·rw [List.getElem?_append_right (by simpa using hi)] at h2
    rw [List.getElem?_replicate] at h2
    split at h2 <;> cases h2
  have ha : vs[i]? = some v := by
   unfold start at h2
   rw [List.getElem?_append_left (by simpa using hi), List.getElem?_map] at h2
   cases e : vs[i]? with
   | none => rw [e] at h2; cases h2
   | some a => rw [e] at h2; cases h2; rfl
  obtain ⟨u, hu, rv⟩ := r.get ha
  have hp : ps[i]? = some y := by
   rw [← S.pre, List.getElem?_take_of_lt (by omega)]; exact h1
  have ndP : ps.Nodup := by rw [← S.pre]; exact S.nd.sublist (List.take_sublist _ _)
  refine ⟨u, rv, ?_⟩
  rcases S.par y (List.mem_of_getElem? hp) with k | k
  ·exact .inl ⟨k, bindL_get ndP hp hu k⟩
  ·obtain ⟨c, e⟩ := cell_has (n := s.heap.objs.size + 1) k
   refine .inr ⟨.inl k, c, e, ?_⟩
   have q := x.cell y c e
   rw [bindC_get ndP hp hu (by show scope.names.lookup y ≠ _; rw [k]; decide)] at q
   exact q
 ·exact e0.hok.fresh (Nat.le_of_lt (x.above y c (PySem.mem_of_lookup h)))
 ·unfold start
  show _ = N.length
  rw [List.length_append, List.length_map, List.length_replicate]
  omega
theorem fn_of {CX : CXT} {P : Program} {w : World} {K : PySem.W.Frag} {mg : Str → Option Value} {base : Heap} {k : Nat} {f : Addr} {name qual : Str} {params : Arguments} {body : List Stmt} {scope : Scope} {dV kV doc pm cdv ct oc : Value} {an od : Option Addr}
  {osl : Array (Option Value)} {N ps : List Str} {sp : Sp} (lk : K.lookup f = some ⟨oc, od, .func (PySem.W.fnOf name qual params body scope dV kV doc pm an cdv ct), osl⟩) (hcd : PySem.W.codeIn K cdv qual = true) (S : FnScope N ps scope)
  (len : ∀ vs H Q E, sp vs H Q E → vs.length = ps.length)
  (hbody : ∀ (A : Around) (outer : List Env) (s : Shared) (H : Hp) (vs : List V) (Q : VK) (E : XK), Room k (A.deeper (envOfC qual scope s.heap.objs.size f cdv)) → sp vs H Q E →
   ∃ t, PSs (cxOf CX P w K mg base N qual scope f cdv A outer s H E) body t ∧ t { nx := fun _ H' => Q .non H', rt := Q } (start N vs) H) :
  FnOk P w K mg base CX (k + 1) f (PySem.W.fnOf name qual params body scope dV kV doc pm an cdv ct) ps sp := by
 refine ⟨len, fun A outer s H args us vs Q E hr e0 hb r hsp => ?_⟩
 have hl := len _ _ _ _ hsp
 have KX : K.In s.heap := e0.mod.kin.keeps fun b o e => (e0.bs b o e).1
 have lim : s.heap.NoLimit := e0.mod.nolimit.keeps fun b o e => (e0.bs b o e).1
 have hkind : ∀ y ∈ ps.zip us, scope.names.lookup y.1 = some .local ∨ (scope.names.lookup y.1 = some .cell ∧ ((cellsFrom (s.heap.objs.size + 1) scope.names []).lookup y.1).isSome = true) := fun ⟨n, v⟩ hy => by
  rcases S.par n (List.of_mem_zip hy).1 with q | q
  ·exact .inl q
  ·exact .inr ⟨q, PySem.W.cellsFrom_some _ _ _ (.inl q)⟩
 refine codeAny_call_function hr.depth (KX _ _ lk) rfl S.co S.gen rfl (PySem.W.codeRec_of KX hcd) (hb _ _ _ _ ?_)
 refine wpAny_newFunctionEnv_cells S.kind hkind fun env he s1 x => ?_
 subst he
 refine ⟨lim.keeps x.toInCall.keep, codeAny_func ?_⟩
 obtain ⟨t, ht, hq⟩ := hbody A outer s H vs Q E (hr.deeper _) hsp
 have I : Inv (cxOf CX P w K mg base N qual scope f cdv A outer s H E) [] (start N vs) H s1 := inv_start S hr.hd e0 hl r x
 refine wpAny_mono (ht [] s1 (start N vs) H _ I hq) (fun fl s' hs => ?_) fun e s' hs => hs
 have fin : ∀ {σ' : St} {H' : Hp} {v : V} {u : Value}, Inv (cxOf CX P w K mg base N qual scope f cdv A outer s H E) [] σ' H' s' → RelV v u → Q v H' → CE outer P w H s Q u s' :=
  fun {σ' H' v u} J rv q => ⟨v, H', J.os, J.bare, J.base, J.hok, rv, q⟩
 cases fl with
 | ret u =>
  obtain ⟨v, σ', H', J, rv, q⟩ := hs
  exact fin J rv q
 | next =>
  obtain ⟨σ', H', J, q⟩ := hs
  exact fin (v := V.non) (u := Value.none) J rfl q
 | brk =>
  obtain ⟨_, _, _, q⟩ := hs
  exact False.elim q
 | cont =>
  obtain ⟨_, _, _, q⟩ := hs
  exact False.elim q
end L2
namespace L2
open PySem PySem.Spec PyProof.Rows
section
variable {X : Cx} {x : Str} {p pos : Pos} {e : Expr} {es : List Expr} {t : TA} {id T : String} {r : List V → Hp → VK → Prop}
noncomputable def tCB (r : List V → Hp → VK → Prop) (t : TA) : TE := fun σ H Q => t σ H fun vs H1 => r vs H1 Q
theorem pe_callB (hc : CallR X (.builtin id) r) (hg : Gl X x) (hm : X.mg x = none) (hv : bootBuiltins x = some (.builtin id)) (ha : PA X (e :: es) t) (hn : x ≠ "__name__" := by decide) (hdb : (x == ("__debug__" : Str)) = false := by decide)
  (he : starEach (e :: es) X.env = (false, eval e X.env) :: starEach es X.env := by rfl) (hpl : (backTo pos (starEach es X.env)).any (·.1) = false := by rfl) : PE X (.Call (.Name x p) (e :: es) [] pos) (tCB r t) := by
 intro pins s σ H Q I h
 refine wpAny_Call_Name_kw (ld_blt I hg hm hv ?_ hn hdb)
 exact PyProof.Rows.callWith_builtin1 (thn (ha pos pins s σ H _ I h) fun us s1 ⟨vs, H1, I1, r1, q1⟩ => hc pins s1 σ H1 vs us Q I1 r1 q1) he hpl
theorem pe_callTy (hc : CallR X (.type T) r) (hg : Gl X x) (hm : X.mg x = none) (hv : bootBuiltins x = some (.type T)) (ha : PA X (e :: es) t) (hn : x ≠ "__name__" := by decide) (hdb : (x == ("__debug__" : Str)) = false := by decide)
  (he : starEach (e :: es) X.env = (false, eval e X.env) :: starEach es X.env := by rfl) (hpl : (backTo pos (starEach es X.env)).any (·.1) = false := by rfl) : PE X (.Call (.Name x p) (e :: es) [] pos) (tCB r t) := by
 intro pins s σ H Q I h
 refine wpAny_Call_Name_kw (ld_blt I hg hm hv ?_ hn hdb)
 exact PyProof.Rows.callWith_type1 (thn (ha pos pins s σ H _ I h) fun us s1 ⟨vs, H1, I1, r1, q1⟩ => hc pins s1 σ H1 vs us Q I1 r1 q1) he hpl
end
end L2
namespace HT
open PySem PyProof.Rows
section
open PySem.SeqAt
open PySem.AutoSeq1 (wpAny_loadPart')
open PySem.MeetsSeq PySem.MeetsSeq2 PySem.MeetsSeq3
end
section
variable {prog : Program} {w : World} {A : Around} {E : Value → Shared → Prop} {s : Shared}
noncomputable def sIx (n d : Nat) : Option Int → Nat
 | none => d
 | some v => if v < 0 then (v + (n : Int)).toNat else min v.toNat n
theorem sIx_nat (n d k : Nat) : sIx n d (some (k : Int)) = min k n := by
 show (if (k : Int) < 0 then ((k : Int) + (n : Int)).toNat else min (k : Int).toNat n) = min k n
 rw [if_neg (by omega), Int.toNat_natCast]
end
end HT
namespace L2
open PySem PySem.Spec PyProof.Rows
abbrev TO := St → Hp → (Option Int → Hp → Prop) → Prop
noncomputable def PO (X : Cx) (e : Option Expr) (t : TO) : Prop :=
 ∀ (pins : List (Addr × Obj)) (s : Shared) (σ : St) (H : Hp) (Q : Option Int → Hp → Prop), Inv X pins σ H s → t σ H Q →
  wpAny (model X.prog X.w) X.A (evalPart e X.env) (fun u s' => ∃ o H', Inv X pins σ H' s' ∧ IsPart u o ∧ Q o H') X.xe s
noncomputable def tNoPart : TO := fun _ H Q => Q none H
noncomputable def tPart (t : TE) : TO := fun σ H Q => t σ H fun x H1 => ∃ i, x = .int i ∧ Q (some i) H1
section
variable {X : Cx} {e : Expr} {te : TE} {lo hi : Option Expr} {tl th : TO} {pos p2 : Pos}
theorem po_none : PO X none tNoPart := by
 intro pins s σ H Q I h
 rw [evalPart_none]
 exact wpAny_pure ⟨none, H, I, .none, h⟩
theorem po_some (h : PE X e te) : PO X (some e) (tPart te) := by
 intro pins s σ H Q I hw
 rw [evalPart_some]
 refine thn (h pins s σ H _ I hw) fun u s1 ⟨x, H1, I1, r1, q1⟩ => ?_
 obtain ⟨i, rfl, q⟩ := q1
 obtain ⟨t, rfl⟩ := r1
 exact ⟨some i, H1, I1, .int i t, q⟩
noncomputable def SlR (X : Cx) (r : V → Option Int → Option Int → Hp → VK → Prop) : Prop :=
 ∀ (pins : List (Addr × Obj)) (s : Shared) (σ : St) (H : Hp) (x : V) (v vl vu : Value) (lo hi : Option Int) (sl : Addr) (Q : VK), Inv X pins σ H s → RelV x v → s.heap.IsSliceOf sl vl vu .none → IsPart vl lo → IsPart vu hi → r x lo hi H Q →
  ∃ T id, typeLookup (.type T) "__getitem__" = pure (some (.builtin id)) ∧ s.TypeIs v T ∧ wpAny (model X.prog X.w) X.A (getItem v (.ref sl)) (EP X pins σ Q) X.xe s
theorem SlR.or {r r' : V → Option Int → Option Int → Hp → VK → Prop} (h : SlR X r) (h' : SlR X r') : SlR X (fun x lo hi H Q => r x lo hi H Q ∨ r' x lo hi H Q) := by
 intro pins s σ H x v vl vu lo hi sl Q I rx hs pl pu q
 rcases q with q | q
 ·exact h pins s σ H x v vl vu lo hi sl Q I rx hs pl pu q
 ·exact h' pins s σ H x v vl vu lo hi sl Q I rx hs pl pu q
noncomputable def tSl (r : V → Option Int → Option Int → Hp → VK → Prop) (te : TE) (tl th : TO) : TE := fun σ H Q => te σ H fun x H1 => tl σ H1 fun l H2 => th σ H2 fun u H3 => r x l u H3 Q
theorem pe_slice {r : V → Option Int → Option Int → Hp → VK → Prop} (hr : SlR X r) (he : PE X e te) (hl : PO X lo tl) (hu : PO X hi th) : PE X (.Subscript e (.Slice lo hi none p2) pos) (tSl r te tl th) := by
 intro pins s σ H Q I h
 refine Subscript_ (thn (he pins s σ H _ I h) fun v s1 ⟨x, H1, I1, r1, q1⟩ => ?_)
 refine wpAny_Slice (thn (hl pins s1 σ H1 _ I1 q1) fun vl s2 ⟨l, H2, I2, pl, q2⟩ => thn (hu pins s2 σ H2 _ I2 q2) fun vu s3 ⟨u, H3, I3, pu, q3⟩ => ?_)
 rw [evalPart_none]
 refine wpAny_pure ?_
 have I4 : Inv X pins σ H3 { s3 with heap := s3.heap.push { cls := .type "slice", data := .fields #[vl, vu, .none] } } := I3.kept (t' := s3.toks) fun b ob q => Heap.get?_push_of_some _ q
 obtain ⟨T, id, hT, ht, hg⟩ := hr pins { s3 with heap := s3.heap.push { cls := .type "slice", data := .fields #[vl, vu, .none] } } σ H3 x v vl vu l u s3.heap.objs.size Q I4 r1 (Heap.IsSliceOf.new ..) pl pu q3
 show wpAny (model X.prog X.w) X.A (subscriptTail e (.Slice lo hi none p2) v (.ref s3.heap.objs.size)) (EP X pins σ Q) X.xe { s3 with heap := s3.heap.push { cls := .type "slice", data := .fields #[vl, vu, .none] } }
 exact tail_any (ops := [.ref s3.heap.objs.size, v]) ht hT hg (by with_unfolding_all rfl)
noncomputable def cutV (xs : List V) (lo hi : Option Int) : List V := (xs.drop (HT.sIx xs.length 0 lo)).take (HT.sIx xs.length xs.length hi - HT.sIx xs.length 0 lo)
theorem cutV_length (xs : List V) (lo hi : Option Int) : (cutV xs lo hi).length ≤ xs.length := by
 unfold cutV
 rw [List.length_take, List.length_drop]
 omega
end
end L2
namespace L2
open PySem PySem.Spec PyProof.Rows
noncomputable def ixN (n : Nat) (i : Int) : Option Nat := if 0 ≤ i then (if i < n then some i.toNat else none) else if -(n : Int) ≤ i then some (i + n).toNat else none
noncomputable def atI {α : Type} (xs : List α) (i : Int) : Option α := (ixN xs.length i).bind fun j => xs[j]?
theorem ixN_seq {n : Nat} {i : Int} {j : Nat} (h : ixN n i = some j) : seqIndex? i n = some j ∧ j < n ∧ -(n : Int) ≤ i ∧ i < n := by
 unfold ixN at h
 by_cases h0 : 0 ≤ i
 ·rw [if_pos h0] at h
  by_cases h1 : i < n
  ·rw [if_pos h1] at h
   have e : i.toNat = j := Option.some.inj h
   exact ⟨by rw [seqIndex_of h0 h1, e], by omega, by omega, h1⟩
  ·rw [if_neg h1] at h; cases h
 ·rw [if_neg h0] at h
  by_cases h1 : -(n : Int) ≤ i
  ·rw [if_pos h1] at h
   have e : (i + n).toNat = j := Option.some.inj h
   exact ⟨by rw [seqIndex_neg (by omega) h1, e], by omega, h1, by omega⟩
  ·rw [if_neg h1] at h; cases h
theorem atI_get {α : Type} {xs : List α} {i : Int} {v : α} (h : atI xs i = some v) : ∃ j, seqIndex? i xs.length = some j ∧ xs[j]? = some v ∧ j < xs.length ∧ -(xs.length : Int) ≤ i ∧ i < xs.length := by
 unfold atI at h
 cases e : ixN xs.length i with
 | none => rw [e] at h; cases h
 | some j =>
  rw [e] at h
  obtain ⟨h1, h2, h3, h4⟩ := ixN_seq e
  exact ⟨j, h1, h, h2, h3, h4⟩
theorem atI_nat {α : Type} {xs : List α} {j : Nat} {v : α} (h : xs[j]? = some v) : atI xs (j : Int) = some v := by
 have hj : j < xs.length := (List.getElem?_eq_some_iff.mp h).1
 have e : ixN xs.length (j : Int) = some j := by
  unfold ixN
  rw [if_pos (by omega), if_pos (by omega)]; simp
 unfold atI; rw [e]; exact h
noncomputable def PlainIx (b : Expr) : Prop := ∀ o i, subscripted b false o i = operate [o, i] (getItem o i)
noncomputable def IxR (X : Cx) (r : R2) : Prop :=
 ∀ (value slice : Expr) (pins : List (Addr × Obj)) (s : Shared) (σ : St) (H : Hp) (x y : V) (v u : Value) (Q : VK), Inv X pins σ H s → RelV x v → RelV y u → r x y H Q →
  subscripted slice false v u = operate [v, u] (getItem v u) → wpAny (model X.prog X.w) X.A (subscriptTail value slice v u) (EP X pins σ Q) X.xe s
noncomputable def MtR (X : Cx) (id : String) (r : V → List V → Hp → VK → Prop) : Prop :=
 ∀ (pins : List (Addr × Obj)) (s : Shared) (σ : St) (H : Hp) (x : V) (xs : List V) (v : Value) (us : List Value) (Q : VK), Inv X pins σ H s → RelV x v → Vals xs us → r x xs H Q →
  wpAny (model X.prog X.w) X.A (call (.builtin id) (v :: us)) (EP X pins σ Q) X.xe s
section
variable {X : Cx} {a b : Expr} {ta tb : TE} {pos : Pos}
theorem IxR.or {r r' : R2} (h : IxR X r) (h' : IxR X r') : IxR X (fun x y H Q => r x y H Q ∨ r' x y H Q) := by
 intro value slice pins s σ H x y v u Q I rx ry q hs
 rcases q with q | q
 ·exact h value slice pins s σ H x y v u Q I rx ry q hs
 ·exact h' value slice pins s σ H x y v u Q I rx ry q hs
theorem MtR.or {id : String} {r r' : V → List V → Hp → VK → Prop} (h : MtR X id r) (h' : MtR X id r') : MtR X id (fun x xs H Q => r x xs H Q ∨ r' x xs H Q) := by
 intro pins s σ H x xs v us Q I rx rs q
 rcases q with q | q
 ·exact h pins s σ H x xs v us Q I rx rs q
 ·exact h' pins s σ H x xs v us Q I rx rs q
theorem pe_ix {r : R2} (hr : IxR X r) (ha : PE X a ta) (hb : PE X b tb) (hs : PlainIx b) : PE X (.Subscript a b pos) (tOp r ta tb) := by
 intro pins s σ H Q I h
 exact Subscript_ (binT ha hb I h fun v u s2 x y H2 I2 rx ry q => hr a b pins s2 σ H2 x y v u Q I2 rx ry q (hs _ _))
noncomputable def rIxL (K : PySem.W.Frag) : R2 := fun x y H Q => ∃ p xs i v, x = .ref p ∧ y = .int i ∧ SqL K H p xs ∧ atI xs i = some v ∧ Q v H
noncomputable def rIxT (K : PySem.W.Frag) : R2 := fun x y H Q => ∃ p xs i v, x = .ref p ∧ y = .int i ∧ SqT K H p xs ∧ atI xs i = some v ∧ Q v H
noncomputable def rIxS : R2 := fun x y H Q => ∃ z i c, x = .str z ∧ y = .int i ∧ z.length ≤ sizeLine ∧ atI z.cps.toList i = some c ∧ Q (.str ⟨#[c]⟩) H
theorem ix_list : IxR X (rIxL X.K) := by
 intro value slice pins s σ H x y v u Q I rx ry h hs
 obtain ⟨p, xs, i, z, rfl, rfl, hq, he, q⟩ := h
 cases rx
 obtain ⟨t, rfl⟩ := ry
 obtain ⟨its, r, pl, hz⟩ := I.list hq
 obtain ⟨j, h1, h2, h3, h4, h5⟩ := atI_get he
 obtain ⟨w, ew, rw'⟩ := r.get h2
 have hl := r.length
 have hn := line63
 have fin : EP X pins σ Q w s := ⟨z, H, I, rw', q⟩
 by_cases h0 : 0 ≤ i
 ·have hj : i.toNat = j := by
   rw [seqIndex_of h0 h5] at h1
   exact Option.some.inj h1
  exact item_listR pl.isList h0 (by omega) (by rw [hj]; simpa using ew) fin hs
 ·have hj : (i + (its.toArray.size : Int)).toNat = j := by
   rw [seqIndex_neg (by omega) h4] at h1
   rw [List.size_toArray, ← hl]
   exact Option.some.inj h1
  exact subscriptTail_builtinR (x := w) pl.isList.typeIs slot_list_getitem.lookup
   (wpAny_getItem_list_neg (Q := fun r s' => r = w ∧ EP X pins σ Q r s') pl.isList (by omega) (by rw [List.size_toArray] <;> omega) (by omega) (by rw [hj]; simpa using ew) ⟨rfl, fin⟩) hs
theorem ix_tup : IxR X (rIxT X.K) := by
 intro value slice pins s σ H x y v u Q I rx ry h hs
 obtain ⟨p, xs, i, z, rfl, rfl, hq, he, q⟩ := h
 cases rx
 obtain ⟨t, rfl⟩ := ry
 obtain ⟨its, r, pl, hz⟩ := I.tuple hq
 obtain ⟨j, h1, h2, h3, h4, h5⟩ := atI_get he
 obtain ⟨w, ew, rw'⟩ := r.get h2
 have hl := r.length
 have hn := line63
 have fin : EP X pins σ Q w s := ⟨z, H, I, rw', q⟩
 exact subscriptTail_builtinR (x := w) pl.typeIs slot_tuple_getitem.lookup
  (getItem_tuple (j := j) (Q := fun r s' => r = w ∧ EP X pins σ Q r s') pl (by omega) (by omega) (by rw [List.size_toArray, ← hl]; exact h1) (by simpa using ew) ⟨rfl, fin⟩) hs
theorem ix_str : IxR X rIxS := by
 intro value slice pins s σ H x y v u Q I rx ry h hs
 obtain ⟨z, i, c, rfl, rfl, hz, he, q⟩ := h
 obtain ⟨t, rfl⟩ := rx
 obtain ⟨t', rfl⟩ := ry
 obtain ⟨j, h1, h2, h3, h4, h5⟩ := atI_get he
 have hl : z.cps.toList.length = z.length := by simp [Str.length]
 rw [hl] at h1 h4 h5
 have hn := line63
 exact tail_any (typeIs_str s z t) slot_str_getitem.lookup (getItem_str (c := c) (by
  have e1 : decide (i < -(2 ^ 63 : Int)) = false := decide_eq_false (by omega)
  have e2 : decide (i ≥ 2 ^ 63) = false := decide_eq_false (by omega)
  rw [e1, e2, Bool.or_false]) (by rw [h1]; simpa using h2) ⟨.str ⟨#[c]⟩, H, I.tok _, ⟨_, rfl⟩, q⟩) hs
noncomputable def rIx (K : PySem.W.Frag) : R2 := fun x y H Q => rIxL K x y H Q ∨ rIxT K x y H Q ∨ rIxS x y H Q
theorem ix_seq : IxR X (rIx X.K) := ix_list.or (ix_tup.or ix_str)
theorem mapSeq_set (its : List Value) (n j : Nat) (u : Value) : Obj.mapSeq (·.setIfInBounds j u) { cls := .type "list", data := .seq its.toArray n } = { cls := .type "list", data := .seq (its.set j u).toArray n } := by
 simp [Obj.mapSeq]
theorem Inv.lst {pins : List (Addr × Obj)} {σ : St} {H : Hp} {s : Shared} {p : Addr} {xs : List V} (I : Inv X pins σ H s) (h : H p = some (.lst xs)) :
  ∃ (its : List Value) (n : Nat), Vals xs its ∧ s.heap.get? p = some { cls := .type "list", data := .seq its.toArray n } ∧ xs.length ≤ sizeLine := by
 obtain ⟨z, its, n, r, e⟩ := I.hok p _ h
 exact ⟨its, n, r, e, z⟩
theorem Inv.lstUpd {pins : List (Addr × Obj)} {σ : St} {H : Hp} {s : Shared} {p : Addr} {xs ys : List V} {its its' : List Value} {n n' : Nat} {f : Obj → Obj} (I : Inv X pins σ H s) (h : H p = some (.lst xs))
  (ho : s.heap.get? p = some { cls := .type "list", data := .seq its.toArray n }) (hf : f { cls := .type "list", data := .seq its.toArray n } = { cls := .type "list", data := .seq its'.toArray n' }) (r : Vals ys its') (hz : ys.length ≤ sizeLine) (t : Nat) :
  Inv X pins σ (upd H p (.lst ys)) { s with heap := s.heap.update p f, toks := t } := by
 have e : (s.heap.update p f).get? p = some { cls := .type "list", data := .seq its'.toArray n' } := by
  rw [Heap.get?_update_self f ho (by rw [hf] <;> rfl), hf]
 refine I.write (x := p) (e := p) (by rw [h]; trivial) (.inl rfl) (fun b u hb q => (Heap.get?_update_other _ _ (Ne.symm hb)).trans q) ⟨_, e⟩ ?_
 exact ⟨hz, its', n', r, e⟩
noncomputable def rSetL : V → V → V → Hp → (Hp → Prop) → Prop := fun o i v H Q => ∃ p xs k j, o = .ref p ∧ i = .int k ∧ H p = some (.lst xs) ∧ ixN xs.length k = some j ∧ Q (upd H p (.lst (xs.set j v)))
theorem set_list : PSet X rSetL := by
 intro pins s σ H o i v ov iv u Q I ro ri rv h
 obtain ⟨p, xs, k, j, rfl, rfl, hp, hj, q⟩ := h
 cases ro
 obtain ⟨t, rfl⟩ := ri
 obtain ⟨its, n, r, ho, hz⟩ := I.lst hp
 obtain ⟨h1, h2, h3, h4⟩ := ixN_seq hj
 have hl := r.length
 have hn := line63
 have I' : Inv X pins σ (upd H p (.lst (xs.set j v))) { s with heap := s.heap.update p (Obj.mapSeq (·.setIfInBounds j u)) } :=
  I.lstUpd hp ho (mapSeq_set its n j u) (r.set rv j) (by rw [List.length_set]; exact hz) s.toks
 by_cases h0 : 0 ≤ k
 ·have hk : k.toNat = j := by
   rw [seqIndex_of h0 h4] at h1
   exact Option.some.inj h1
  exact PySem.W.ki_setAt ho h0 (by omega) (by rw [List.size_toArray, ← hl]; exact h4) (by rw [hk]; exact ⟨_, I', q⟩)
 ·have hk : (k + (its.toArray.size : Int)).toNat = j := by
   rw [seqIndex_neg (by omega) h3] at h1
   rw [List.size_toArray, ← hl]
   exact Option.some.inj h1
  exact PySem.W.ki_setBack ho (by omega) (by rw [List.size_toArray, ← hl]; exact h3) (by omega) (by rw [hk]; exact ⟨_, I', q⟩)
theorem slice_bounds (lo hi : Option Int) (n : Nat) : (sliceBounds lo hi none n).1 = ((HT.sIx n 0 lo : Nat) : Int) ∧ (sliceBounds lo hi none n).2.1 = ((HT.sIx n n hi : Nat) : Int) ∧ (sliceBounds lo hi none n).2.2 = 1 := by
 refine ⟨?_, ?_, rfl⟩
 ·cases lo with
  | none => simp [sliceBounds, HT.sIx]
  | some i =>
   simp only [sliceBounds, HT.sIx, Option.getD_none, show (1 : Int) > 0 by decide, if_true]
   by_cases h : i < 0
   ·simp only [h, if_true] <;> omega
   ·simp only [h, if_false] <;> omega
 ·cases hi with
  | none => simp [sliceBounds, HT.sIx]
  | some i =>
   simp only [sliceBounds, HT.sIx, Option.getD_none, show (1 : Int) > 0 by decide, if_true]
   by_cases h : i < 0
   ·simp only [h, if_true] <;> omega
   ·simp only [h, if_false] <;> omega
theorem slicePick_cut (its : List Value) (lo hi : Option Int) : slicePick its.toArray lo hi none = ((its.drop (HT.sIx its.length 0 lo)).take (HT.sIx its.length its.length hi - HT.sIx its.length 0 lo)).toArray := by
 obtain ⟨h1, h2, h3⟩ := slice_bounds lo hi its.toArray.size
 unfold slicePick
 rw [h1, h2, h3]
 simp only [sliceRange_one, pick_run, List.size_toArray] <;> rfl
noncomputable def rSlL (K : PySem.W.Frag) : V → Option Int → Option Int → Hp → VK → Prop := fun x lo hi H Q => ∃ a xs, x = .ref a ∧ SqL K H a xs ∧ ∀ p, H p = none → Q (.ref p) (upd H p (.lst (cutV xs lo hi)))
theorem sl_list : SlR X (rSlL X.K) := by
 intro pins s σ H x v vl vu lo hi sl Q I rx hs pl pu h
 obtain ⟨a, xs, rfl, hx, q⟩ := h
 cases rx
 obtain ⟨its, r, ht, hz⟩ := I.list hx
 have hlen := r.length
 refine ⟨"list", _, slot_list_getitem.lookup, ht.isList.typeIs, ?_⟩
 refine wpAny_getItem_list_slice ht.isList hs pl pu .none (by simp) ?_ (by rw [List.size_toArray] <;> omega)
 rw [slicePick_cut, ← hlen]
 refine ⟨.ref s.heap.objs.size, _, I.laid (t' := s.toks) (o := .lst (cutV xs lo hi)) (fun b ob q => Heap.get?_push_of_some _ q) (Nat.le_refl _) ?_, rfl, q _ (I.hok.fresh (Nat.le_refl _))⟩
 exact ⟨Nat.le_trans (cutV_length xs lo hi) hz, _, 0, (r.drop (HT.sIx xs.length 0 lo)).take (HT.sIx xs.length xs.length hi - HT.sIx xs.length 0 lo), Heap.get?_push_size _ rfl⟩
theorem call_len_seq : CallR X (.builtin "len") (fun xs H Q => ∃ p ys, xs = [.ref p] ∧ (SqL X.K H p ys ∨ SqT X.K H p ys) ∧ Q (.int ys.length) H) := by
 intro pins s σ H xs us Q I r h
 obtain ⟨p, ys, rfl, hq, q⟩ := h
 obtain ⟨u, rfl, rx⟩ := vals1 r
 cases rx
 have hn := line63
 rcases hq with hq | hq
 ·obtain ⟨its, r', pl, hz⟩ := I.list hq
  have hlen := r'.length
  exact Calls.call_len_list pl.isList (by simp only [List.size_toArray] <;> omega) ⟨.int ys.length, H, I.tok _, ⟨s.toks + 1, by rw [List.size_toArray, hlen]⟩, q⟩
 ·obtain ⟨its, r', pl, hz⟩ := I.tuple hq
  have hlen := r'.length
  exact len_tuple pl (by simp only [List.size_toArray] <;> omega) ⟨.int ys.length, H, I.tok _, ⟨s.toks + 1, by rw [List.size_toArray, hlen]⟩, q⟩
theorem CallR.or {f : Value} {r r' : List V → Hp → VK → Prop} (h : CallR X f r) (h' : CallR X f r') : CallR X f (fun xs H Q => r xs H Q ∨ r' xs H Q) := by
 intro pins s σ H xs us Q I rs q
 rcases q with q | q
 ·exact h pins s σ H xs us Q I rs q
 ·exact h' pins s σ H xs us Q I rs q
theorem call_list_of : CallR X (.type "list") (fun xs H Q => ∃ p ys, xs = [.ref p] ∧ (SqL X.K H p ys ∨ SqT X.K H p ys) ∧ ∀ l, H l = none → Q (.ref l) (upd H l (.lst ys))) := by
 intro pins s σ H xs us Q I r h
 obtain ⟨p, ys, rfl, hq, q⟩ := h
 obtain ⟨u, rfl, rx⟩ := vals1 r
 cases rx
 have fin : ∀ (its : List Value), Vals ys its → ys.length ≤ sizeLine → ∀ (h' : Heap) (c' : Nat), (∀ b o', s.heap.get? b = some o' → h'.get? b = some o') →
   h'.get? s.heap.objs.size = some { cls := .type "list", dict := none, data := .seq its.toArray c', slots := #[] } → EP X pins σ Q (.ref s.heap.objs.size) { s with heap := h' } := fun its r' hz h' c' kp e =>
  ⟨.ref s.heap.objs.size, _, I.laid (t' := s.toks) kp (Nat.le_refl _) (show ObjOk X.prog X.w _ h' _ (.lst ys) from ⟨hz, its, c', r', e⟩), rfl, q _ (I.hok.fresh (Nat.le_refl _))⟩
 rcases hq with hq | hq
 ·obtain ⟨its, r', pl, hz⟩ := I.list hq
  have hlen := r'.length
  obtain ⟨o, ho, hc, n, hd⟩ := pl.isList
  exact call_list_seq p (.inl rfl) ho hc hd (fun h' c' kp e => fin its r' hz h' c' kp e) (by simp only [List.size_toArray] <;> omega)
 ·obtain ⟨its, r', pl, hz⟩ := I.tuple hq
  have hlen := r'.length
  obtain ⟨o, ho, hc, n, hd⟩ := pl
  exact call_list_seq p (.inr rfl) ho hc hd (fun h' c' kp e => fin its r' hz h' c' kp e) (by simp only [List.size_toArray] <;> omega)
noncomputable def tyV (K : PySem.W.Frag) (T : String) (x : V) (H : Hp) : Prop := match x with
 | .str _ => T = "str"
 | .int _ => T = "int"
 | .ref p => (T = "list" ∧ ∃ xs, SqL K H p xs) ∨ (T = "tuple" ∧ ∃ o, K.lookup p = some o ∧ o.cls = .type "tuple" ∧ o.dict = none) ∨
   (T = "dict" ∧ ((∃ kvs, H p = some (.dK kvs)) ∨ ∃ kvs, H p = some (.dT kvs))) ∨ (T = "set" ∧ ∃ S n, H p = some (.set S n))
 | _ => False
theorem tyV_is {pins : List (Addr × Obj)} {σ : St} {H : Hp} {s : Shared} {T : String} {x : V} {v : Value} (I : Inv X pins σ H s) (r : RelV x v) (ty : tyV X.K T x H) :
  s.TypeIs v T ∧ ∀ a, v = .ref a → ∃ ob, s.heap.get? a = some ob ∧ ob.dict = none := by
 cases x with
 | str z =>
  obtain ⟨t, rfl⟩ := r
  cases (show T = "str" from ty)
  exact ⟨typeIs_str s z t, fun _ e => nomatch e⟩
 | int i =>
  obtain ⟨t, rfl⟩ := r
  cases (show T = "int" from ty)
  exact ⟨typeIs_int s i t, fun _ e => nomatch e⟩
 | ref p =>
  cases r
  rcases ty with ⟨rfl, xs, hq⟩ | ⟨rfl, o, hk, hc, hd⟩ | ⟨rfl, hk⟩ | ⟨rfl, S, n, hk⟩
  ·obtain ⟨its, _, pl, _⟩ := I.list hq
   refine ⟨pl.isList.typeIs, fun a e => ?_⟩
   cases e
   obtain ⟨o, n, e, c, hd, _⟩ := pl
   exact ⟨o, e, hd⟩
  ·refine ⟨⟨o, I.kIn p o hk, hc⟩, fun a e => ?_⟩
   cases e
   exact ⟨o, I.kIn _ o hk, hd⟩
  ·have z : ∃ o, s.heap.get? p = some o ∧ o.ExactDict := by
    rcases hk with ⟨kvs, hk⟩ | ⟨kvs, hk⟩
    ·obtain ⟨_, _, _, _, o, _, _, e, ex, _⟩ := I.hok p _ hk
     exact ⟨o, e, ex⟩
    ·obtain ⟨_, _, _, _, o, _, _, e, ex, _⟩ := I.hok p _ hk
     exact ⟨o, e, ex⟩
   obtain ⟨o, e, ex⟩ := z
   refine ⟨⟨o, e, ex.1⟩, fun a e2 => ?_⟩
   cases e2
   exact ⟨o, e, ex.2.1⟩
  ·obtain ⟨o, _, _, _, e, ex, _⟩ := I.hok p _ hk
   refine ⟨⟨o, e, ex.1⟩, fun a e2 => ?_⟩
   cases e2
   exact ⟨o, e, ex.2.1⟩
 | _ => exact False.elim ty
noncomputable def tBM0 (K : PySem.W.Frag) (T : String) (r : V → List V → Hp → VK → Prop) (to : TE) : TE := fun σ H Q => to σ H fun x H1 => tyV K T x H1 ∧ r x [] H1 Q
noncomputable def tBM (K : PySem.W.Frag) (T : String) (r : V → List V → Hp → VK → Prop) (to : TE) (t : TA) : TE := fun σ H Q => to σ H fun x H1 => tyV K T x H1 ∧ t σ H1 fun xs H2 => r x xs H2 Q
variable {o e : Expr} {es : List Expr} {to : TE} {t : TA} {name : Str} {apos cpos : Pos} {T id : String} {r : V → List V → Hp → VK → Prop}
theorem pe_bm0 (pa : PlainAttrs T) (slot : Slot T name id) (hty : typeOf (.builtin id) = pure (.type "method_descriptor")) (hm : MtR X id r) (ho : PE X o to)
  (hbase : attributeBase o name X.env (eval o X.env) = eval o X.env := by rfl) (hline : (apos.endLine == cpos.line) = true := by rfl) : PE X (.Call (.Attribute o name apos) [] [] cpos) (tBM0 X.K T r to) := by
 intro pins s σ H Q I h
 refine wpAny_Call_method0_late hbase hline (thn (ho pins s σ H _ I h) fun v s1 ⟨x, H1, I1, r1, ty, q1⟩ => ?_)
 obtain ⟨h1, h2⟩ := tyV_is I1 r1 ty
 exact ⟨T, id, pa, slot, hty, h1, h2, Calls.callWith_builtin rfl (PySem.evalArgs_none (hm pins s1 σ H1 x [] v [] Q I1 r1 .nil q1))⟩
theorem pe_bm (pa : PlainAttrs T) (slot : Slot T name id) (hty : typeOf (.builtin id) = pure (.type "method_descriptor")) (hm : MtR X id r) (ho : PE X o to) (ha : PA X (e :: es) t)
  (hbase : attributeBase o name X.env (eval o X.env) = eval o X.env := by rfl)
  (hfew : ((backTo cpos (starEach (e :: es) X.env)).all (fun x => !x.1) && (backToKw cpos (keywordEach [] X.env)).all (fun x => x.1.isSome)
   && decide ((e :: es).length + ([] : List Keyword).length + (if ([] : List Keyword).isEmpty then 0 else 1) < 30)) = true := by rfl)
  (hline : (apos.endLine == cpos.line) = true := by rfl) (hs : starEach (e :: es) X.env = (false, eval e X.env) :: starEach es X.env := by rfl) (hplain : (backTo cpos (starEach es X.env)).any (·.1) = false := by rfl) :
  PE X (.Call (.Attribute o name apos) (e :: es) [] cpos) (tBM X.K T r to t) := by
 intro pins s σ H Q I h
 refine wpAny_Call_method_late hbase hfew hline rfl (thn (ho pins s σ H _ I h) fun v s1 ⟨x, H1, I1, r1, ty, q1⟩ => ?_)
 obtain ⟨h1, h2⟩ := tyV_is I1 r1 ty
 refine ⟨T, id, pa, slot, hty, h1, h2, ?_⟩
 have hA := ha cpos pins s1 σ H1 _ I1 q1
 rw [hs] at hA ⊢
 refine Calls.callWith_builtin (by show (false || (backTo cpos (starEach es X.env)).any (·.1)) = false; rw [hplain] <;> rfl) (Calls.evalArgs_plain ?_)
 exact thn hA fun us s2 ⟨vs, H2, I2, r2, q2⟩ => hm pins s2 σ H2 x vs v us Q I2 r1 r2 q2
end
end L2
namespace L2
open PySem PySem.Spec PyProof.Rows
noncomputable def MtM (X : Cx) (id : String) (r : V → List V → Hp → VK → Prop) : Prop :=
 ∀ (pins : List (Addr × Obj)) (s : Shared) (σ : St) (H : Hp) (x : V) (xs : List V) (v : Value) (us : List Value) (Q : VK), Inv X pins σ H s → RelV x v → Vals xs us → r x xs H Q →
  wpAny (model X.prog X.w) X.A (call (.builtin id) (v :: us)) (EP X pins σ Q) X.xe s
theorem Vals.one : ∀ {x : V} {us : List Value}, Vals [x] us → ∃ u, us = [u] ∧ RelV x u := by
 intro x us h
 cases h with
 | cons r t => cases t; exact ⟨_, rfl, r⟩
theorem Vals.two : ∀ {x y : V} {us : List Value}, Vals [x, y] us → ∃ u v, us = [u, v] ∧ RelV x u ∧ RelV y v := by
 intro x y us h
 cases h with
 | cons r t =>
  obtain ⟨v, rfl, q⟩ := Vals.one t
  exact ⟨_, _, rfl, r, q⟩
theorem Vals.zero : ∀ {us : List Value}, Vals [] us → us = []
 | _, .nil => rfl
theorem Vals.reverse {xs : List V} {us : List Value} (h : Vals xs us) : Vals xs.reverse us.reverse := by
 induction h with
 | nil => exact .nil
 | cons r t ih => rw [List.reverse_cons, List.reverse_cons]; exact Vals.append ih (.cons r .nil)
theorem Vals.rep {xs : List V} {us : List Value} (h : Vals xs us) : ∀ k : Nat, Vals (List.replicate k xs).flatten (List.replicate k us).flatten
 | 0 => .nil
 | k + 1 => by
  rw [List.replicate_succ, List.replicate_succ, List.flatten_cons, List.flatten_cons]
  exact Vals.append h (Vals.rep h k)
theorem foldl_rep (its : List Value) : ∀ (k : Nat) (acc : List Value),
  List.foldl (fun x1 x2 => x1 ++ x2) acc.toArray (List.replicate k its.toArray) = (acc ++ (List.replicate k its).flatten).toArray
 | 0, acc => by simp
 | k + 1, acc => by
  have e : acc.toArray ++ its.toArray = (acc ++ its).toArray := by simp
  have e2 : (acc ++ its) ++ (List.replicate k its).flatten = acc ++ (List.replicate (k + 1) its).flatten := by
   rw [List.replicate_succ, List.flatten_cons, List.append_assoc]
  rw [← e2, ← foldl_rep its k (acc ++ its), ← e, List.replicate_succ, List.foldl_cons]
section
variable {X : Cx} {pins : List (Addr × Obj)} {σ : St} {H : Hp} {s : Shared} {l b : Addr} {xs ys zs : List V}
theorem Inv.lset {its its' : List Value} {n : Nat} {f : Array Value → Array Value} {t' : Nat} (I : Inv X pins σ H s) (hH : H l = some (.lst xs))
  (e : s.heap.get? l = some { cls := .type "list", data := .seq its.toArray n }) (hf : f its.toArray = its'.toArray) (hv : Vals ys its') (hz : ys.length ≤ sizeLine) :
  Inv X pins σ (upd H l (.lst ys)) { s with heap := s.heap.update l (Obj.mapSeq f), toks := t' } := by
 have q := PySem.IsL.update e f
 rw [hf] at q
 refine I.write (x := l) (e := l) (by rw [hH]; exact trivial) (.inl rfl) (fun b' u hb hu => (Heap.get?_update_other s.heap (Obj.mapSeq f) (Ne.symm hb)).trans hu) ⟨_, q⟩ ?_
 exact ⟨hz, its', _, hv, q⟩
theorem Inv.lnew {its : List Value} {t' : Nat} (I : Inv X pins σ H s) (hv : Vals ys its) (hz : ys.length ≤ sizeLine) :
  Inv X pins σ (upd H s.heap.objs.size (.lst ys)) { s with heap := s.heap.push { cls := .type "list", data := .seq its.toArray }, toks := t' } :=
 I.laid (fun _ _ q => Heap.get?_push_of_some _ q) (Nat.le_refl _) ⟨hz, its, 0, hv, Heap.get?_push_size _ rfl⟩
theorem Inv.fresh (I : Inv X pins σ H s) : H s.heap.objs.size = none := I.hok.fresh (Nat.le_refl _)
theorem Inv.lstM (I : Inv X pins σ H s) (hH : H l = some (.lst xs)) : xs.length ≤ sizeLine ∧ ∃ (its : List Value) (n : Nat), Vals xs its ∧ xs.length = its.length ∧ s.heap.get? l = some { cls := .type "list", data := .seq its.toArray n } := by
 obtain ⟨z, its, n, r, e⟩ := I.hok l _ hH
 exact ⟨z, its, n, r, r.length, e⟩
theorem notLongL {n : Nat} (h : n ≤ sizeLine) : Builtin.List.listTooLong n = false := by
 unfold Builtin.List.listTooLong
 exact decide_eq_false (by omega)
end
section
variable {X : Cx}
noncomputable def rAppend : V → List V → Hp → VK → Prop := fun x vs H Q => ∃ l xs y, x = .ref l ∧ vs = [y] ∧ H l = some (.lst xs) ∧ xs.length < sizeLine ∧ Q .non (upd H l (.lst (xs ++ [y])))
theorem mt_append : MtM X "list.append" rAppend := by
 intro pins s σ H x vs v us Q I rx rv h
 obtain ⟨l, xs, y, rfl, rfl, hH, hz, q⟩ := h
 cases rx
 obtain ⟨u, rfl, ru⟩ := rv.one
 obtain ⟨z, its, n, r, hl, e⟩ := I.lstM hH
 refine call_meets F.slot_list_append ⟨_, e, rfl⟩ F.entry_list_append (F.args_list_append_2 _ _) (PySem.list_append l its.toArray n u (by rw [List.size_toArray]; omega)) ⟨e, ?_⟩
 refine ⟨.non, _, I.lset (its' := its ++ [u]) hH e (by simp) (r.append (.cons ru .nil)) ?_, rfl, q⟩
 rw [List.length_append, List.length_singleton]
 omega
noncomputable def rReverse : V → List V → Hp → VK → Prop := fun x vs H Q => ∃ l xs, x = .ref l ∧ vs = [] ∧ H l = some (.lst xs) ∧ Q .non (upd H l (.lst xs.reverse))
theorem mt_reverse : MtM X "list.reverse" rReverse := by
 intro pins s σ H x vs v us Q I rx rv h
 obtain ⟨l, xs, rfl, rfl, hH, q⟩ := h
 cases rx
 have hus := rv.zero
 subst hus
 obtain ⟨z, its, n, r, hl, e⟩ := I.lstM hH
 refine call_meets F.slot_list_reverse ⟨_, e, rfl⟩ F.entry_list_reverse (F.args_list_reverse_1 _) (AutoSeq1.list_reverse_list_0 l its.toArray n (by rw [List.size_toArray]; omega)) ⟨e, ?_⟩
 refine ⟨.non, _, I.lset (its' := its.reverse) hH e (by simp) r.reverse ?_, rfl, q⟩
 rw [List.length_reverse]
 omega
noncomputable def rRep : R2 := fun x y H Q => ∃ l k xs, x = .ref l ∧ y = .int k ∧ H l = some (.lst xs) ∧ -(2 ^ 63) ≤ k ∧ k < 2 ^ 63 ∧ xs.length * k.toNat ≤ sizeLine ∧
 ∀ p, H p = none → Q (.ref p) (upd H p (.lst (List.replicate k.toNat xs).flatten))
theorem len_rep {α : Type} (xs : List α) (k : Nat) : (List.replicate k xs).flatten.length = k * xs.length := by
 induction k with
 | zero => simp
 | succ k ih => rw [List.replicate_succ, List.flatten_cons, List.length_append, ih, Nat.succ_mul, Nat.add_comm]
theorem op_rep : OpR X (binaryOp .Mult) rRep := by
 intro pins s σ H x y v u Q I rx ry h
 obtain ⟨l, k, xs, rfl, rfl, hH, h1, h2, hz, q⟩ := h
 cases rx
 obtain ⟨t, rfl⟩ := ry
 obtain ⟨z, its, n, r, hl, e⟩ := I.lstM hH
 have hlen : its.toArray.size * k.toNat ≤ sizeLine := by rw [List.size_toArray, ← hl]; exact hz
 have hcap : ¬ its.toArray.size * k.toNat > (2 ^ 63 - 1) / 8 := by
  have : (sizeLine : Nat) ≤ (2 ^ 63 - 1) / 8 := by decide
  omega
 have hfit : ¬ (!Builtin.List.listFitsIndex k) = true := by
  rw [fitsIndex_both h1 h2]
  exact Bool.false_ne_true
 have hlong : ¬ Builtin.List.listTooLong (its.toArray.size * k.toNat) = true := by
  rw [notLongL hlen]
  exact Bool.false_ne_true
 have hnew : List.foldl (fun x1 x2 => x1 ++ x2) #[] (List.replicate (if its.toArray.isEmpty = true then 0 else k.toNat) its.toArray) = (List.replicate k.toNat its).flatten.toArray := by
  have f0 : ∀ m : Nat, List.foldl (fun x1 x2 => x1 ++ x2) #[] (List.replicate m its.toArray) = (List.replicate m its).flatten.toArray := fun m => by
   have := foldl_rep its m []
   rw [List.nil_append] at this
   exact this
  rw [f0]
  cases its with
  | nil => simp
  | cons a r' => rw [if_neg (by simp)]
 refine wpAny_binaryOp_repeat_ref (T := "list") (U := "int") (by decide) ⟨_, e, rfl⟩ (fun s' => typeIs_int s' k t) noFill_list_mul F.fills_int_mul F.slot_int_rmul repeat_list F.slot_int_index.lookup
  (call_meets F.slot_int_rmul (typeIs_int s k t) F.entry_int_rmul (F.args_int_rmul_2 _ _) (int___rmul___int_list k t l its.toArray n)
   ⟨e, rfl, ⟨_, e, rfl⟩, call_meets F.slot_list_mul ⟨_, e, rfl⟩ F.entry_list_mul (F.args_list_mul_2 _ _) (AutoListH.list___mul___list_int_3 l its.toArray n k t hfit hcap hlong) ⟨e, ?_⟩⟩)
 rw [hnew]
 exact ⟨.ref _, _, I.lnew (t' := s.toks) (r.rep k.toNat) (by rw [len_rep, Nat.mul_comm]; exact hz), rfl, q _ I.fresh⟩
end
section
variable {prog : Program} {w : World} {A : Around} {E : Value → Shared → Prop} {s : Shared}
end
section
variable {X : Cx}
end
end L2
namespace Att
open PySem PySem.W PySem.Calls PyProof.Rows
theorem ints_of_wellAll {P : Params} {h : Heap} : ∀ (ns : List Int) (vs : List Value), WellAll P h vs (ns.map WData.int) → IntsAre vs ns := by
 intro ns
 induction ns with
 | nil =>
  intro vs w
  rw [List.map_nil] at w
  cases w
  exact .nil
 | cons n ns ih =>
  intro vs w
  rw [List.map_cons] at w
  cases w with
  | cons a b =>
   cases a
   exact .cons _ _ (ih _ b)
theorem script_of {l : OpenLaw} {n : Nat} (hn : l.most = some n) {P : Params} {h : Heap} {args : List WData} {vals : List Value}
  (hpre : l.row.toRowW.claim.pre args = true) (hwl : WellAll P h vals args) :
  ∃ a vs ns, vals = [Value.ref a] ∧ args = [WData.list (ns.map WData.int)] ∧ h.get? a = some { cls := .type "list", data := .seq vs.toArray } ∧ IntsAre vs ns ∧ ns.length ≤ n := by
 have hsh : WShape.hasAll [] args [.list .int] = true := (pre_splitW hpre).1
 have hc : l.pre.holds [] { args := args } = true := (pre_splitW hpre).2
 obtain ⟨d, r, rfl, h1, h2⟩ := hasAllW_cons hsh
 obtain rfl := hasAllW_nil h2
 obtain ⟨xs, rfl, h3⟩ := hasW_list h1
 obtain ⟨ns, rfl⟩ := items_int h3
 have hlen : ns.length ≤ n := by
  unfold OpenLaw.pre at hc
  have h4 : (WTm.not (.lt (.lit (.int (n : Int))) (.len (.arg 0)))).holds [] { args := [.list (ns.map .int)] } = true := by
   have h4 := (holds_andW hc).1
   rw [hn] at h4
   exact h4
  have h5 := condW_of h4 (w_not (w_lt w_lit (w_len_list (w_arg rfl))))
  rw [List.length_map] at h5
  refine Nat.le_of_not_lt fun q => ?_
  have q' : (n : Int) < ((ns.length : Nat) : Int) := by omega
  first
   | (rw [decide_eq_true q'] at h5; exact absurd h5 (by decide))
   | (simp at h5; omega)
 cases hwl with
 | cons w1 w2 =>
  cases w2
  cases w1 with
  | list ho hall => exact ⟨_, _, ns, rfl, rfl, ho, ints_of_wellAll ns _ hall, hlen⟩
theorem post_true (l : OpenLaw) (args : List WData) : l.row.toRowW.claim.post args (.bool true) args = true :=
 postW_of (r := l.row.toRowW) (X := (true == true))
  (show WShape.has [] (.bool true) .bool = true by first | rfl | decide | simp [WShape.has, WShape.arms, WShape.armsAll])
  (show (WTm.eq .res (.lit (.bool true))).value [] { args := args, res := some (.bool true), after := args } = some (.bool (true == true)) from w_eq_bool (w_res rfl) w_lit) rfl
theorem attach_call {l : OpenLaw} {n : Nat} {q : Program} {loose : List Str} {XP : (Str → Option Value) → Heap → Prop} {YP : World → Heap → Prop} {d : DefRec}
  (hn : l.most = some n) (hdf : d.params.defaults = [])
  (call : ∀ (w : World) (s₀ s₁ : Shared) (mg mb : Str → Option Value) (fa : Addr) (o : Obj) (pm cd doc : Value) (a : Addr) (vs : List Value) (ns : List Int),
   Ground q loose [] XP w s₀ mg mb s₁.heap → YP w s₁.heap →
   s₁.heap.get? fa = some o → o.data = .func (docDef d.name d.params d.body d.scope pm cd doc) → s₁.heap.CodeRec cd d.name → mg d.name = some (.ref fa) →
   s₁.heap.get? a = some { cls := .type "list", data := .seq vs.toArray } → IntsAre vs ns → ns.length ≤ n → s₁.gens = #[] →
   codeAny (model l.prog w) callerA (.call (.ref fa) ⟨[.ref a], []⟩) (fun r s' => r = .ok (.ret (.bool true)) ∧ OldK s₁.heap s'.heap ∧ s'.os = s₁.os ∧ AllBare s'.gens) s₁) :
  WalkO q loose XP YP l.row.toRowW d [] (fun f vs => PySem.call f vs) := by
 intro w s₀ s₁ mg mb G Y fa o pm cd doc dV kV ho hd hcd hD hmg hg args vals as hpre hlay hrd hwl hlo
 obtain rfl : dV = .none := Dflts.none hD hdf
 obtain rfl : kV = .none := Dflts.noKw hD
 obtain ⟨a, vs, ns, rfl, rfl, hobj, hints, hlen⟩ := script_of hn hpre hwl
 refine enter_call (codeAny_mono (call w s₀ s₁ mg mb fa o pm cd doc a vs ns G Y ho (fd_plain hd) hcd hmg hobj hints hlen hg) fun r s' hq => ?_)
 obtain ⟨rfl, h2, h3, h4⟩ := hq
 exact ⟨.inl ⟨.bool true, .bool true, [], rfl, fun _ => rfl, .bool true, post_true l _, fun _ => ⟨List.Pairwise.nil, fun _ hm => (nomatch hm)⟩⟩, h2, h3, h4⟩
section
variable {prog : Program} {w : World} {A : Around} {E : Value → Shared → Prop} {s : Shared} {K : Frag}
end
end Att
namespace L2
open PySem PySem.Spec PyProof.Rows
theorem vals_ints : ∀ {vs : List Value} {ns : List Int}, IntsAre vs ns → Vals (ns.map V.int) vs := by
 intro vs ns h
 induction h with
 | nil => exact .nil
 | cons n t h ih => exact .cons ⟨t, rfl⟩ ih
noncomputable def Only (H : Hp) : Prop := ∀ b, H b = none ∨ ∃ o xs, H b = some (.frz o (.lst xs))
theorem law_call {P : Program} {w : World} {K : PySem.W.Frag} {mg mb : Str → Option Value} {CX : CXT} {k : Nat} {fa a : Addr} {fd : FuncData} {x : Str} {sp : Sp} {s₁ : Shared} {vs : List Value} {ns : List Int}
  (KX : K.In s₁.heap) (hns : s₁.heap.Ns mainGlobals mg) (hb : s₁.heap.Ns builtinsNs mb) (hbb : ∀ x : Str, x ≠ "__name__" → mb x = bootBuiltins x) (hlim : s₁.heap.NoLimit) (hg : s₁.gens = #[])
  (ha : s₁.heap.get? a = some { cls := .type "list", data := .seq vs.toArray }) (hi : IntsAre vs ns) (hl : ns.length ≤ sizeLine) (hr : Room k callerA)
  (F : ∀ base : Heap, K.In base → base.Ns mainGlobals mg → FnOk P w K mg base CX k fa fd [x] sp) (hbind : ∀ (s : Shared) (u : Value), BindsTo s fd ⟨[u], []⟩ [(x, u)])
  (hsp : ∀ H : Hp, Only H → SqL K H a (ns.map V.int) → sp [.ref a] H (fun v _ => v = .bl true) fun _ _ _ => False)
  (hCX : ∀ H e s', CX [] H s₁ (fun _ _ _ => False) e s' → False) :
  codeAny (model P w) callerA (.call (.ref fa) ⟨[.ref a], []⟩) (fun r s' => r = .ok (.ret (.bool true)) ∧ OldK s₁.heap s'.heap ∧ s'.os = s₁.os ∧ AllBare s'.gens) s₁ := by
 have rv := vals_ints hi
 have lenV := hi.length
 have core : ∀ H : Hp, Only H → SqL K H a (ns.map V.int) → HOk P w H s₁.heap → (∀ b, H b ≠ none → b = a) → (H a ≠ none → K.lookup a = none) →
   codeAny (model P w) callerA (.call (.ref fa) ⟨[.ref a], []⟩) (fun r s' => r = .ok (.ret (.bool true)) ∧ OldK s₁.heap s'.heap ∧ s'.os = s₁.os ∧ AllBare s'.gens) s₁ := by
  intro H hO hS hok hA hK
  have base_of : ∀ {b : Addr} {o : Obj}, s₁.heap.get? b = some o → H b = none → (hidT s₁.heap H).get? b = some o := fun e n => hidT_get e n
  have noA : ∀ {b : Addr} {o : Obj} {es : Array DictEntry} {ep : Nat}, s₁.heap.get? b = some o → o.data = .dict es ep → H b = none := fun {b o es ep} e d => by
   cases q : H b with
   | none => rfl
   | some u =>
    have e' : b = a := hA b (by rw [q]; simp)
    subst e'
    rw [ha] at e; cases e
    have d' : Data.seq vs.toArray _ = Data.dict es ep := d
    cases d'
  have nsK : ∀ {b : Addr} {m : Str → Option Value}, s₁.heap.Ns b m → (hidT s₁.heap H).Ns b m := fun {b m} ⟨o, es, ep, e, d, r⟩ => ⟨o, es, ep, base_of e (noA e d), d, r⟩
  have hKb : K.In (hidT s₁.heap H) := fun b o e => base_of (KX b o e) (by
   cases q : H b with
   | none => rfl
   | some u =>
    have e' : b = a := hA b (by rw [q]; simp)
    subst e'
    rw [hK (by rw [q]; simp)] at e; cases e)
  have hM : Mod K mg (hidT s₁.heap H) := ⟨hKb, nsK hns, ⟨mb, nsK hb, hbb⟩, let ⟨mc, h1, h2⟩ := hlim; ⟨mc, nsK h1, h2⟩⟩
  have e0 : Env0 P w K mg (hidT s₁.heap H) callerA [] s₁ H := ⟨rfl, hM, fun b o e => of_hidT e, Nat.le_of_eq (hidT_size _ _), trivial, fun b hb => absurd (show b ∈ ([] : List Addr) from hb) (by simp), hok, .of_eq hg⟩
  refine codeAny_mono ((F _ hKb (nsK hns)).run callerA [] s₁ H ⟨[.ref a], []⟩ [.ref a] [.ref a] _ _ hr e0 (hbind s₁ (.ref a)) (.cons rfl .nil) (hsp H hO hS)) fun r s' h => ?_
  cases r with
  | error e => exact (hCX H e s' h).elim
  | ok fl =>
   cases fl with
   | next => exact False.elim h
   | brk => exact False.elim h
   | cont => exact False.elim h
   | ret u =>
    obtain ⟨v, H', os, bare, un, hok', r', q⟩ := h
    have q' : v = .bl true := q
    subst q'
    obtain rfl : u = Value.bool true := r'
    refine ⟨rfl, OldK.of_keep fun b o e => ?_, os, bare⟩
    cases q : H b with
    | none => exact un.keep b o e q (by intro z; exact absurd (show b ∈ ([] : List Addr) from z) (by simp)) (by simp)
    | some u =>
     rcases hO b with z | ⟨ob, xs, z⟩
     ·rw [q] at z; cases z
     ·have z2 := un.frzs b ob _ z
      obtain ⟨e1, _⟩ := hok b _ z
      obtain ⟨e2, _⟩ := hok' b _ z2
      rw [e] at e1; cases e1
      exact e2
 cases hk : K.lookup a with
 | some o =>
  have e := KX a o hk
  rw [ha] at e
  cases e
  refine core (fun _ => none) (fun _ => .inl rfl) (.inr ⟨_, vs.toArray, _, hk, rfl, rfl, rfl, by rw [List.size_toArray, lenV]; exact hl, by simpa using rv⟩) (fun b u z => by have z' : (none : Option HO) = some u := z; cases z') (fun b z => absurd rfl z) fun z => absurd rfl z
 | none =>
  refine core (fun b => if b = a then some (.frz { cls := .type "list", data := .seq vs.toArray } (.lst (ns.map V.int))) else none) (fun b => ?_) (.inl (.inr ⟨{ cls := .type "list", data := .seq vs.toArray }, if_pos rfl⟩)) (fun b u z => ?_) (fun b z => ?_) fun _ => hk
  ·by_cases hb : b = a
   ·exact .inr ⟨_, _, if_pos hb⟩
   ·exact .inl (if_neg hb)
  ·by_cases hb : b = a
   ·have z' := (if_pos hb).symm.trans z
    cases z'
    subst hb
    exact ⟨ha, by rw [List.length_map]; exact hl, vs, _, rv, ha⟩
   ·have z' := (if_neg hb).symm.trans z
    cases z'
  ·by_cases hb : b = a
   ·exact hb
   ·exact absurd (if_neg hb) z
end L2
namespace L2
open PySem PySem.Spec PyProof.Rows
theorem walk_of {l : PySem.W.OpenLaw} {n k : Nat} {q : Program} {loose : List Str} {XP : (Str → Option Value) → Heap → Prop} {YP : World → Heap → Prop} {d : DefRec} {K : Params → PySem.W.Frag} {CX : World → CXT} {sp : World → Sp} {x : Str}
  (hn : l.most = some n) (hn2 : n ≤ sizeLine) (hdf : d.params.defaults = []) (hr : Room k callerA)
  (hY : ∀ (w : World) (h : Heap), YP w h → (K w.params).In h)
  (F : ∀ (w : World) (mg : Str → Option Value) (fa : Addr) (h : Heap), (K w.params).In h → h.Ns mainGlobals mg → mg d.name = some (.ref fa) →
   ∃ fd : FuncData, (∀ (s : Shared) (u : Value), BindsTo s fd ⟨[u], []⟩ [(x, u)]) ∧
    ∀ base : Heap, (K w.params).In base → base.Ns mainGlobals mg → FnOk l.prog w (K w.params) mg base (CX w) k fa fd [x] (sp w))
  (hsp : ∀ (w : World) (H : Hp) (a : Addr) (ns : List Int), ns.length ≤ n → Only H → SqL (K w.params) H a (ns.map V.int) → sp w [.ref a] H (fun v _ => v = .bl true) fun _ _ _ => False)
  (hCX : ∀ (w : World) (H : Hp) (s : Shared) (e : Value) (s' : Shared), CX w [] H s (fun _ _ _ => False) e s' → False) :
  PySem.W.WalkO q loose XP YP l.row.toRowW d [] (fun f vs => PySem.call f vs) := by
 refine Att.attach_call hn hdf fun w s₀ s₁ mg mb fa o pm cd doc a vs ns G Y ho hd hcd hmg hobj hints hlen hg => ?_
 have KX := hY w _ Y
 obtain ⟨fd, hb, hF⟩ := F w mg fa _ KX G.T.g hmg
 exact law_call KX G.T.g G.T.b G.T.builtins G.T.nolimit hg hobj hints (Nat.le_trans hlen hn2) hr hF hb (fun H hO hS => hsp w H a ns hlen hO hS) fun H e s' => hCX w H s₁ e s'
end L2
namespace L2
open PySem PySem.Spec PyProof.Rows
noncomputable def inClass (s : Stmt) (j : Nat) : Stmt := match s with
 | .ClassDef _ _ _ body _ _ _ _ _ _ _ => body.getD j (.Pass ⟨0, 0, 0, 0⟩)
 | _ => .Pass ⟨0, 0, 0, 0⟩
noncomputable def defArgs (s : Stmt) : Arguments := match s with
 | .FunctionDef _ a _ _ _ _ _ _ _ _ => a
 | _ => { posonlyargs := [], args := [], vararg := none, kwonlyargs := [], kw_defaults := [], kwarg := none, defaults := [] }
noncomputable def defBody (s : Stmt) : List Stmt := match s with
 | .FunctionDef _ _ b _ _ _ _ _ _ _ => b
 | _ => []
noncomputable def defScope (s : Stmt) : Scope := match s with
 | .FunctionDef _ _ _ _ _ _ sc _ _ _ => sc
 | _ => { kind := .function, names := [], isGenerator := false, isCoroutine := false }
abbrev CX0 : CXT := fun _ _ _ _ _ _ => False
abbrev E0 : XK := fun _ _ _ => False
theorem pass0 {X : Cx} : Passes CX0 X E0 := fun _ _ _ _ _ _ _ h => h.elim
structure Fun (K : PySem.W.Frag) (x qual : Str) (st : Stmt) (f : Addr) (fd : FuncData) : Prop where
 ex : ∃ (oc : Value) (od : Option Addr) (kV doc pm : Value) (an : Option Addr) (cdv ct : Value) (osl : Array (Option Value)),
  fd = PySem.W.fnOf x qual (defArgs st) (defBody st) (defScope st) .none kV doc pm an cdv ct ∧ K.lookup f = some ⟨oc, od, .func fd, osl⟩ ∧ PySem.W.codeIn K cdv qual = true
 kp : PySem.W.keepIn K (.ref f) = true
section
variable {P : Program} {w : World} {K : PySem.W.Frag} {mg : Str → Option Value} {base : Heap}
theorem Fun.ok {x qual : Str} {st : Stmt} {f : Addr} {fd : FuncData} {N ps : List Str} {k : Nat} {sp : Sp} (F : Fun K x qual st f fd) (S : FnScope N ps (defScope st)) (len : ∀ vs H Q E, sp vs H Q E → vs.length = ps.length)
  (hbody : ∀ (cdv : Value) (A : Around) (outer : List Env) (s : Shared) (H : Hp) (vs : List V) (Q : VK) (E : XK), Room k (A.deeper (envOfC qual (defScope st) s.heap.objs.size f cdv)) → sp vs H Q E →
   ∃ t, PSs (cxOf CX0 P w K mg base N qual (defScope st) f cdv A outer s H E).nox (defBody st) t ∧ t { nx := fun _ H' => Q .non H', rt := Q } (start N vs) H) : FnOk P w K mg base CX0 (k + 1) f fd ps sp := by
 obtain ⟨oc, od, kV, doc, pm, an, cdv, ct, osl, rfl, lk, hcd⟩ := F.ex
 refine fn_of lk hcd S len fun A outer s H vs Q E hr hsp => ?_
 obtain ⟨t, h, q⟩ := hbody cdv A outer s H vs Q E hr hsp
 exact ⟨t, h.nox, q⟩
theorem Fun.binds {x qual : Str} {st : Stmt} {f : Addr} {fd : FuncData} {ps : List Str} (F : Fun K x qual st f fd)
  (h : ∀ (kV doc pm : Value) (an : Option Addr) (cdv ct : Value) (us : List Value), us.length = ps.length → bindArgs (PySem.W.fnOf x qual (defArgs st) (defBody st) (defScope st) .none kV doc pm an cdv ct) ⟨us, []⟩ = pure (ps.zip us)) : Binds K fd ps [] := by
 obtain ⟨oc, od, kV, doc, pm, an, cdv, ct, osl, rfl, lk, hcd⟩ := F.ex
 exact .all (h kV doc pm an cdv ct)
theorem fun_mk {x qual : Str} {st : Stmt} {f : Addr} {oc : Value} {od an : Option Addr} {osl : Array (Option Value)} {kV doc pm cdv ct : Value} (l : K.lookup f = some ⟨oc, od, .func (PySem.W.fnOf x qual (defArgs st) (defBody st) (defScope st) .none kV doc pm an cdv ct), osl⟩)
  (c : PySem.W.codeIn K cdv qual = true) (k : PySem.W.keepIn K (.ref f) = true) : Fun K x qual st f (PySem.W.fnOf x qual (defArgs st) (defBody st) (defScope st) .none kV doc pm an cdv ct) := ⟨⟨oc, od, kV, doc, pm, an, cdv, ct, osl, rfl, l, c⟩, k⟩
end
theorem small1000 {n : Nat} (h : n ≤ 1000) : n < sizeLine := Nat.lt_of_le_of_lt h (by decide)
section
variable {X : Cx}
theorem pv (i : Nat) {x : Str} {pos : Pos} (hN : X.N[i]? = some x := by rfl) (hv : Vis X.env.scope x := by first | exact Or.inl rfl | exact Or.inr (Or.inl rfl) | exact Or.inr (Or.inr rfl)) (hd : (x == ("__debug__" : Str)) = false := by decide)
  (hcd : (x == ("__classdict__" : Str)) = false := by decide) : PE X (.Name x pos) (tVar i) := pe_var hN hv hd hcd
end
theorem iteF {A B : Prop} (h : B) : if false = true then A else B := by
 rw [if_neg Bool.false_ne_true]
 exact h
theorem iteT {A B : Prop} (h : A) : if true = true then A else B := by
 rw [if_pos rfl]
 exact h
theorem iteNS {c A B : Prop} [Decidable c] (hc : c) (h : B) : if (!decide c) = true then A else B := by
 rw [decide_eq_true hc]
 exact iteF h
noncomputable def Same (H H' : Hp) : Prop := ∀ b o, H b = some o → H' b = some o
theorem Same.refl (H : Hp) : Same H H := fun _ _ h => h
theorem Same.trans {H H1 H2 : Hp} (a : Same H H1) (b : Same H1 H2) : Same H H2 := fun c o h => b c o (a c o h)
theorem Same.free {H H' : Hp} (e : Same H H') {l : Addr} (h : H' l = Option.none) : H l = Option.none := by
 cases q : H l with
 | none => rfl
 | some o =>
  rw [e l o q] at h
  cases h
theorem Same.seq {K : PySem.W.Frag} {H H' : Hp} {a : Addr} {xs : List V} (e : Same H H') (h : SqL K H a xs) : SqL K H' a xs := by
 rcases h with (h | ⟨o, h⟩) | h
 ·exact .inl (.inl (e _ _ h))
 ·exact .inl (.inr ⟨o, e _ _ h⟩)
 ·exact .inr h
end L2
set_option maxHeartbeats 4000000
namespace LT
theorem den_ne (a : Rat) : (a.den : Int) ≠ 0 := by have := a.den_nz; omega
theorem add_eq (a b : Rat) : Rat.divInt (a.num * b.den + b.num * a.den) (a.den * b.den) = a + b := by
 rw [← Rat.divInt_add_divInt _ _ (den_ne a) (den_ne b), Rat.num_divInt_den, Rat.num_divInt_den]
theorem sub_eq (a b : Rat) : Rat.divInt (a.num * b.den - b.num * a.den) (a.den * b.den) = a - b := by
 rw [Rat.sub_eq_add_neg, ← add_eq a (-b), Rat.neg_num, Rat.neg_den, Int.neg_mul, Int.sub_eq_add_neg]
theorem mul_eq (a b : Rat) : Rat.divInt (a.num * b.num) (a.den * b.den) = a * b := by
 rw [← Rat.divInt_mul_divInt, Rat.num_divInt_den, Rat.num_divInt_den]
theorem num_ne {b : Rat} (h : b ≠ 0) : b.num ≠ 0 := fun e => h (by rw [← Rat.num_divInt_den b, e, Rat.zero_divInt])
theorem inv_eq {b : Rat} (h : b ≠ 0) : Rat.divInt b.den b.num = b⁻¹ := by
 have e : b * Rat.divInt b.den b.num = 1 := by
  conv => lhs; arg 1; rw [← Rat.num_divInt_den b]
  rw [Rat.divInt_mul_divInt, Int.mul_comm b.num]
  exact Rat.divInt_self' (Int.mul_ne_zero (den_ne b) (num_ne h))
 grind
theorem div_eq (a : Rat) {b : Rat} (h : b ≠ 0) : Rat.divInt (a.num * b.den) (a.den * b.num) = a / b := by
 rw [← Rat.divInt_mul_divInt, Rat.num_divInt_den, inv_eq h, Rat.div_def]
theorem num_zero {b : Rat} : b.num = 0 ↔ b = 0 := ⟨fun e => Classical.byContradiction fun h => num_ne h e, fun e => by rw [e]; rfl⟩
theorem lt_eq (a b : Rat) : decide (a.num * b.den < b.num * a.den) = decide (a < b) := by
 rw [decide_eq_decide, Rat.lt_iff]
theorem fd (t : Int) (g : Nat) : t.fdiv (g : Int) = t / (g : Int) := Int.fdiv_eq_ediv_of_nonneg t (by omega)
theorem norm_pos {t b : Int} (h : 0 < b) : t.fdiv (Int.gcd t b : Nat) = (Rat.divInt t b).num ∧ b.fdiv (Int.gcd t b : Nat) = ((Rat.divInt t b).den : Int) := by
 rw [Rat.num_divInt, Rat.den_divInt, fd, fd, if_neg (by omega), Int.sign_eq_one_of_pos h, Int.one_mul, Int.gcd_comm b t]
 refine ⟨rfl, ?_⟩
 obtain ⟨n, rfl⟩ : ∃ n : Nat, b = (n : Int) := ⟨b.toNat, by omega⟩
 rw [← Int.natCast_ediv, Int.natAbs_natCast]
theorem norm_neg {t b : Int} (h : b < 0) : t.fdiv (-(Int.gcd t b : Nat)) = (Rat.divInt t b).num ∧ b.fdiv (-(Int.gcd t b : Nat)) = ((Rat.divInt t b).den : Int) := by
 have h1 := norm_pos (t := -t) (b := -b) (by omega)
 have e : Rat.divInt (-t) (-b) = Rat.divInt t b := by
  have := Rat.divInt_mul_right (n := t) (d := b) (a := -1) (by decide)
  rw [← this]; congr 1 <;> omega
 rw [e, Int.gcd_neg, Int.neg_gcd] at h1
 rw [← h1.1, ← h1.2]
 constructor
 ·rw [← Int.neg_neg t, Int.neg_fdiv_neg]; simp
 ·rw [← Int.neg_neg b, Int.neg_fdiv_neg]; simp
theorem gcd_step {d r : Int} (hd : 0 ≤ d) (h : 0 < r) : Int.gcd r (d % r) = Int.gcd d r := by
 obtain ⟨m, rfl⟩ : ∃ n : Nat, d = (n : Int) := ⟨d.toNat, by omega⟩
 obtain ⟨n, rfl⟩ : ∃ n : Nat, r = (n : Int) := ⟨r.toNat, by omega⟩
 rw [← Int.natCast_emod]
 show Nat.gcd n (m % n) = Nat.gcd m n
 rw [Nat.gcd_comm n, ← Nat.gcd_rec, Nat.gcd_comm]
theorem gcd_end {d : Int} (h : 0 ≤ d) : (Int.gcd d 0 : Int) = d := by
 rw [Int.gcd_zero_right]; omega
theorem abs_nn (i : Int) : 0 ≤ (if i < 0 then -i else i) := by split <;> omega
theorem abs_gcd (i j : Int) : Int.gcd (if i < 0 then -i else i) (if j < 0 then -j else j) = Int.gcd i j := by
 split <;> split <;> simp only [Int.gcd_neg, Int.neg_gcd]
noncomputable def Bt (k : Nat) (i : Int) : Prop := i.natAbs < 2 ^ k
noncomputable def Sz (k : Nat) (q : Rat) : Prop := Bt k q.num ∧ Bt k q.den
theorem Bt.mono {k m : Nat} {i : Int} (h : Bt k i) (l : k ≤ m) : Bt m i := Nat.lt_of_lt_of_le h (Nat.pow_le_pow_right (by decide) l)
theorem Sz.mono {k m : Nat} {q : Rat} (h : Sz k q) (l : k ≤ m) : Sz m q := ⟨h.1.mono l, h.2.mono l⟩
theorem Bt.mul {k m : Nat} {i j : Int} (h : Bt k i) (g : Bt m j) : Bt (k + m) (i * j) := by
 unfold Bt at *; rw [Int.natAbs_mul, Nat.pow_add]
 exact Nat.mul_lt_mul'' h g
theorem Bt.add {k : Nat} {i j : Int} (h : Bt k i) (g : Bt k j) : Bt (k + 1) (i + j) := by
 unfold Bt at *; have := Int.natAbs_add_le i j; rw [Nat.pow_succ]; omega
theorem Bt.neg {k : Nat} {i : Int} (h : Bt k i) : Bt k (-i) := by unfold Bt at *; omega
theorem Bt.sub {k : Nat} {i j : Int} (h : Bt k i) (g : Bt k j) : Bt (k + 1) (i - j) := by
 rw [Int.sub_eq_add_neg]; exact h.add g.neg
theorem Bt.ediv {k : Nat} {i : Int} (h : Bt k i) (g : Nat) : Bt k (i / (g : Int)) := by
 unfold Bt at *
 exact Nat.lt_of_le_of_lt (by exact Int.natAbs_ediv_le_natAbs _ _) h
theorem Sz.divInt {k : Nat} {t b : Int} (h : Bt k t) (g : Bt k b) (h0 : b ≠ 0) : Sz k (Rat.divInt t b) := by
 rcases Int.lt_or_gt_of_ne h0 with hb | hb
 ·have e : Rat.divInt (-t) (-b) = Rat.divInt t b := by
   have := Rat.divInt_mul_right (n := t) (d := b) (a := -1) (by decide)
   rw [← this]; congr 1 <;> omega
  rw [← e]
  have n := norm_pos (t := -t) (b := -b) (by omega)
  rw [fd, fd] at n
  exact ⟨by rw [← n.1]; exact h.neg.ediv _, by rw [← n.2]; exact g.neg.ediv _⟩
 ·have n := norm_pos (t := t) (b := b) hb
  rw [fd, fd] at n
  exact ⟨by rw [← n.1]; exact h.ediv _, by rw [← n.2]; exact g.ediv _⟩
theorem Sz.add {k m : Nat} {a b : Rat} (h : Sz k a) (g : Sz m b) : Sz (k + m + 1) (a + b) := by
 rw [← add_eq]
 refine Sz.divInt (Bt.add (h.1.mul g.2) ?_) ((h.2.mul g.2).mono (by omega)) (Int.mul_ne_zero (den_ne a) (den_ne b))
 exact (g.1.mul h.2).mono (by omega)
theorem Sz.sub {k m : Nat} {a b : Rat} (h : Sz k a) (g : Sz m b) : Sz (k + m + 1) (a - b) := by
 rw [← sub_eq]
 refine Sz.divInt (Bt.sub (h.1.mul g.2) ?_) ((h.2.mul g.2).mono (by omega)) (Int.mul_ne_zero (den_ne a) (den_ne b))
 exact (g.1.mul h.2).mono (by omega)
theorem Sz.mul {k m : Nat} {a b : Rat} (h : Sz k a) (g : Sz m b) : Sz (k + m) (a * b) := by
 rw [← mul_eq]
 exact Sz.divInt (h.1.mul g.1) (h.2.mul g.2) (Int.mul_ne_zero (den_ne a) (den_ne b))
theorem Sz.div {k m : Nat} {a b : Rat} (h : Sz k a) (g : Sz m b) (b0 : b ≠ 0) : Sz (k + m) (a / b) := by
 rw [← div_eq a b0]
 exact Sz.divInt (h.1.mul g.2) (h.2.mul g.1) (Int.mul_ne_zero (den_ne a) (num_ne b0))
end LT
namespace LT
theorem numq (q : Rat) : (q.num : Rat) = q * ((q.den : Int) : Rat) := by
 have h : ((q.den : Int) : Rat) ≠ 0 := by
  have := den_ne q
  exact fun e => this (by exact_mod_cast e)
 have e := Rat.num_divInt_den q
 rw [Rat.divInt_eq_div] at e
 grind
theorem dI {t b : Int} {q : Rat} (hb : b ≠ 0) (h : (t : Rat) = q * (b : Rat)) : Rat.divInt t b = q := by
 have h0 : (b : Rat) ≠ 0 := fun e => hb (by exact_mod_cast e)
 rw [Rat.divInt_eq_div, h]
 grind
theorem sz_int {k : Nat} {i : Int} (h : Bt k i) (hk : 1 ≤ k) : Sz k (i : Rat) := by
 refine ⟨by rw [Rat.num_intCast]; exact h, ?_⟩
 rw [Rat.den_intCast]
 exact Nat.lt_of_lt_of_le (by decide : (1 : Nat) < 2 ^ 1) (Nat.pow_le_pow_right (by decide) hk)
end LT
namespace LT
noncomputable def pm (s : Int) (a b : Rat) : Rat := a + (s : Rat) * b
theorem pm_one (a b : Rat) : pm 1 a b = a + b := by show a + ((1 : Int) : Rat) * b = a + b; grind
theorem pm_neg (a b : Rat) : pm (-1) a b = a - b := by show a + ((-1 : Int) : Rat) * b = a - b; grind
theorem pm_eq (a b : Rat) (s : Int) : Rat.divInt (a.num * b.den + s * b.num * a.den) (a.den * b.den) = pm s a b := by
 refine dI (Int.mul_ne_zero (den_ne a) (den_ne b)) ?_
 simp only [Rat.intCast_add, Rat.intCast_mul]
 rw [numq a, numq b]
 unfold pm
 grind
theorem bt_sign {s : Int} (h : s = 1 ∨ s = -1) : Bt 1 s := by
 show s.natAbs < 2 ^ 1
 omega
end LT
namespace L2
open PySem PySem.Spec PyProof.Rows
mutual
inductive Dt (H : Hp) : V → PyData → Prop
 | non : Dt H .non .none
 | bl (b : Bool) : Dt H (.bl b) (.bool b)
 | int (i : Int) : Dt H (.int i) (.int i)
 | str (x : Str) : Dt H (.str x) (.str x)
 | tup {p : Addr} {xs : List V} {ds : List PyData} : H p = some (.tup xs) → Dts H xs ds → Dt H (.ref p) (.tuple ds)
 | lst {p : Addr} {xs : List V} {ds : List PyData} : H p = some (.lst xs) → Dts H xs ds → Dt H (.ref p) (.list ds)
 | dic {p : Addr} {kvs : List (Key × V)} {kds : List (PyData × PyData)} : H p = some (.dK kvs) → Dtk H kvs kds → Dt H (.ref p) (.dict kds)
inductive Dts (H : Hp) : List V → List PyData → Prop
 | nil : Dts H [] []
 | cons {x : V} {xs : List V} {d : PyData} {ds : List PyData} : Dt H x d → Dts H xs ds → Dts H (x :: xs) (d :: ds)
inductive Dtk (H : Hp) : List (Key × V) → List (PyData × PyData) → Prop
 | nil : Dtk H [] []
 | cons {n : Int} {x : V} {d : PyData} {kvs : List (Key × V)} {kds : List (PyData × PyData)} : Dt H x d → Dtk H kvs kds → Dtk H ((Sum.inl n, x) :: kvs) ((.int n, d) :: kds)
end
mutual
theorem Dt.reads {P : Program} {w : World} {H : Hp} {h : Heap} (ok : HOk P w H h) : ∀ (d : PyData) (x : V) (v : Value), Dt H x d → RelV x v → ∃ as, Reads h v d as
 | .none, _, _, e, r => by cases e; cases r; exact ⟨_, .none⟩
 | .bool _, _, _, e, r => by cases e; cases r; exact ⟨_, .bool _⟩
 | .int _, _, _, e, r => by cases e; obtain ⟨t, rfl⟩ := r; exact ⟨_, .int _ _⟩
 | .str _, _, _, e, r => by cases e; obtain ⟨t, rfl⟩ := r; exact ⟨_, .str _ _⟩
 | .list ds, _, _, e, r => by
  cases e with
  | @lst p xs _ hp rs =>
   cases r
   obtain ⟨_, its, n, r', hg⟩ := (show ObjOk P w H h p (.lst xs) from ok p _ hp)
   obtain ⟨as, q⟩ := Dts.reads ok ds xs its rs r'
   exact ⟨_, .list hg rfl rfl (by simpa using q)⟩
 | .tuple ds, _, _, e, r => by
  cases e with
  | @tup p xs _ hp rs =>
   cases r
   obtain ⟨_, its, r', o, h1, h2, n, h3⟩ := (show ObjOk P w H h p (.tup xs) from ok p _ hp)
   obtain ⟨as, q⟩ := Dts.reads ok ds xs its rs r'
   exact ⟨_, .tuple h1 h2 h3 (by simpa using q)⟩
 | .dict kds, _, _, e, r => by
  cases e with
  | @dic p kvs _ hp rs =>
   cases r
   obtain ⟨_, _, vs, kv, o, es, ep, h1, h2, h3, _, h4, _⟩ := (show ObjOk P w H h p (.dK kvs) from ok p _ hp)
   obtain ⟨as, bs, q1, q2⟩ := Dtk.reads ok kds kvs vs es.toList rs kv h4
   exact ⟨_, .dict h1 h2.1 h3 q1 q2⟩
theorem Dts.reads {P : Program} {w : World} {H : Hp} {h : Heap} (ok : HOk P w H h) : ∀ (ds : List PyData) (xs : List V) (vs : List Value), Dts H xs ds → Vals xs vs → ∃ as, ReadsAll h vs ds as
 | [], _, _, e, r => by cases e; cases r; exact ⟨_, .nil⟩
 | d :: ds, _, _, e, r => by
  cases e with
  | cons e1 e2 =>
   cases r with
   | cons r1 r2 =>
    obtain ⟨as, q1⟩ := Dt.reads ok d _ _ e1 r1
    obtain ⟨bs, q2⟩ := Dts.reads ok ds _ _ e2 r2
    exact ⟨_, .cons q1 q2⟩
theorem Dtk.reads {P : Program} {w : World} {H : Hp} {h : Heap} (ok : HOk P w H h) : ∀ (kds : List (PyData × PyData)) (kvs : List (Key × V)) (vs : List (Key × Value)) (es : List DictEntry), Dtk H kvs kds → KV kvs vs → Pairs (mixKind P w) es vs →
  ∃ as bs, ReadsAll h (es.map (·.key)) (kds.map (·.1)) as ∧ ReadsAll h (es.map (·.val)) (kds.map (·.2)) bs
 | [], _, _, _, e, r, z => by cases e; cases r; cases z; exact ⟨_, _, .nil, .nil⟩
 | (k, d) :: kds, _, _, _, e, r, z => by
  cases e with
  | @cons n _ _ _ _ e1 e2 =>
   cases r with
   | cons r1 r2 =>
    cases z with
    | @cons en kv _ _ z1 z2 z3 =>
     obtain ⟨k1, rv⟩ := r1
     obtain ⟨as, q1⟩ := Dt.reads ok d _ _ e1 rv
     obtain ⟨as2, bs2, q3, q4⟩ := Dtk.reads ok kds _ _ _ e2 r2 z3
     have kr : ∃ cs, Reads h en.key (.int n) cs := by
      rcases keyIs_shape ((mixKind_is P w _ _).symm.trans z1) with ⟨i, t, a, b⟩ | ⟨_, _, a, _⟩
      ·rw [← k1] at a
       cases a
       rw [b]
       exact ⟨_, .int _ _⟩
      ·rw [← k1] at a
       cases a
     obtain ⟨cs, kr⟩ := kr
     exact ⟨_, _, .cons kr q3, .cons (z2 ▸ q1 : Reads h en.val d as) q4⟩
end
mutual
theorem Dt.same {H H' : Hp} (g : Same H H') : ∀ (d : PyData) (x : V), Dt H x d → Dt H' x d
 | .none, _, e => by cases e; exact .non
 | .bool _, _, e => by cases e; exact .bl _
 | .int _, _, e => by cases e; exact .int _
 | .str _, _, e => by cases e; exact .str _
 | .list ds, _, e => by
  cases e with
  | lst hp rs => exact .lst (g _ _ hp) (Dts.same g ds _ rs)
 | .tuple ds, _, e => by
  cases e with
  | tup hp rs => exact .tup (g _ _ hp) (Dts.same g ds _ rs)
 | .dict kds, _, e => by
  cases e with
  | dic hp rs => exact .dic (g _ _ hp) (Dtk.same g kds _ rs)
theorem Dts.same {H H' : Hp} (g : Same H H') : ∀ (ds : List PyData) (xs : List V), Dts H xs ds → Dts H' xs ds
 | [], _, e => by cases e; exact .nil
 | d :: ds, _, e => by
  cases e with
  | cons e1 e2 => exact .cons (Dt.same g d _ e1) (Dts.same g ds _ e2)
theorem Dtk.same {H H' : Hp} (g : Same H H') : ∀ (kds : List (PyData × PyData)) (kvs : List (Key × V)), Dtk H kvs kds → Dtk H' kvs kds
 | [], _, e => by cases e; exact .nil
 | (_, d) :: kds, _, e => by
  cases e with
  | cons e1 e2 => exact .cons (Dt.same g d _ e1) (Dtk.same g kds _ e2)
end
mutual
noncomputable def noLst : PyData → Bool
 | .list _ => false
 | .dict _ => false
 | .tuple ds => noLsts ds
 | _ => true
noncomputable def noLsts : List PyData → Bool
 | [] => true
 | d :: ds => noLst d && noLsts ds
end
noncomputable def SameT (H H' : Hp) : Prop := ∀ b xs, H b = some (.tup xs) → H' b = some (.tup xs)
noncomputable def SameX (x : Addr) (H H' : Hp) : Prop := ∀ b o, b ≠ x → H b = some o → H' b = some o
theorem SameX.refl (x : Addr) (H : Hp) : SameX x H H := fun _ _ _ e => e
theorem SameX.trans {x : Addr} {H H1 H2 : Hp} (a : SameX x H H1) (b : SameX x H1 H2) : SameX x H H2 := fun c o n e => b c o n (a c o n e)
theorem Same.x {x : Addr} {H H' : Hp} (g : Same H H') : SameX x H H' := fun b o _ e => g b o e
theorem SameX.t {x : Addr} {H H' : Hp} {ys : List V} (g : SameX x H H') (h : H x = some (.lst ys)) : SameT H H' := fun b xs e => g b _ (ne_of e h (by intro z; cases z)) e
theorem Same.t {H H' : Hp} (g : Same H H') : SameT H H' := fun b _ e => g b _ e
theorem SameT.trans {H H1 H2 : Hp} (a : SameT H H1) (b : SameT H1 H2) : SameT H H2 := fun c o e => b c o (a c o e)
theorem same_new {H : Hp} {p : Addr} (h : H p = none) (o : HO) : Same H (upd H p o) := fun b u q => by rw [upd_ne (ne_of_none q h)]; exact q
theorem sameX_upd {H : Hp} {p : Addr} (o : HO) : SameX p H (upd H p o) := fun b u n q => by rw [upd_ne n]; exact q
theorem SameX.seq {K : PySem.W.Frag} {H H' : Hp} {x a : Addr} {xs : List V} (e : SameX x H H') (n : a ≠ x) (h : SqL K H a xs) : SqL K H' a xs := by
 rcases h with (h | ⟨o, h⟩) | h
 ·exact .inl (.inl (e _ _ n h))
 ·exact .inl (.inr ⟨o, e _ _ n h⟩)
 ·exact .inr h
structure Good (d : PyData) : Prop where
 lay : d.canLay0 = true
 dep : d.depth ≤ 60
section
variable {X : Cx}
theorem roomD {u a b : Nat} (h : u + 64 < cLine) (ha : a ≤ 60) : u + min a b < cLine := by
 have : min a b ≤ a := Nat.min_le_left _ _
 omega
noncomputable def rEqD : R2 := fun x y H Q => ∃ dx dy, Dt H x dx ∧ Dt H y dy ∧ Good dx ∧ Good dy ∧ Q (.bl (PyData.eqv dx dy)) H
noncomputable def rNeD : R2 := fun x y H Q => ∃ dx dy, Dt H x dx ∧ Dt H y dy ∧ Good dx ∧ Good dy ∧ Q (.bl (!PyData.eqv dx dy)) H
theorem op_eqD (hu : X.A.units + 64 < cLine) : OpR X (compareOp .Eq) rEqD := by
 intro pins s σ H x y v u Q I rx ry h
 obtain ⟨dx, dy, ex, ey, gx, gy, q⟩ := h
 obtain ⟨as, r1⟩ := Dt.reads I.hok dx x v ex rx
 obtain ⟨bs, r2⟩ := Dt.reads I.hok dy y u ey ry
 exact SeqAt.compareEq_reads r1 r2 gx.lay gy.lay (roomD hu gx.dep) ⟨.bl _, H, I, rfl, q⟩
theorem op_neD (hu : X.A.units + 64 < cLine) : OpR X (compareOp .NotEq) rNeD := by
 intro pins s σ H x y v u Q I rx ry h
 obtain ⟨dx, dy, ex, ey, gx, gy, q⟩ := h
 obtain ⟨as, r1⟩ := Dt.reads I.hok dx x v ex rx
 obtain ⟨bs, r2⟩ := Dt.reads I.hok dy y u ey ry
 exact SeqAt.compareNe_reads r1 r2 gx.lay gy.lay (roomD hu gx.dep) ⟨.bl _, H, I, rfl, q⟩
theorem op_mulX : OpR X (binaryOp .Mult) (rI IntMulOk fun i j => .int (i * j)) := opI fun _ _ _ _ _ _ _ hc q => mul_int q hc
noncomputable def CDivX (_ j : Int) : Prop := j ≠ 0 ∧ LT.Bt 9000 j
theorem noPy {i j : Int} (h : CDivX i j) : Builtin.divisionGoesByPylong i j = false := by
 refine PyProof.noPylong_of_log2 ((Nat.log2_lt ?_).mpr h.2)
 have := h.1
 omega
theorem op_fdivX : OpR X (binaryOp .FloorDiv) (rI CDivX fun i j => .int (i.fdiv j)) := opI fun _ _ _ _ _ _ _ hc q => floordiv_int hc.1 q (.inl (noPy hc))
theorem bits_le {k : Nat} {i : Int} (h : LT.Bt k i) : Builtin.Int.intBits i ≤ k := by
 unfold Builtin.Int.intBits
 split
 ·exact Nat.zero_le _
 ·rename_i h0
  have : i.natAbs ≠ 0 := by
   intro e
   exact h0 (by simpa using e)
  exact (Nat.log2_lt this).mpr h
theorem mulB {k m : Nat} {i j : Int} (h : LT.Bt k i) (g : LT.Bt m j) (hk : k ≤ 1048576 := by decide) (hm : m ≤ 1048576 := by decide) : IntMulOk i j :=
 IntMulOk.of_bits (Nat.le_trans (bits_le h) hk) (Nat.le_trans (bits_le g) hm)
theorem pe_powC {a b v : Int} {j j' : Nat} {p p' pos : Pos} (h : a ^ b.toNat = v) (hc : CPow a b) : PE X (.BinOp (.Constant (.int a) j p) .Pow (.Constant (.int b) j' p') pos) (tC (.int v)) := by
 intro pins s σ H Q I hq
 subst h
 exact pe_op op_pow pe_int pe_int pins s σ H Q I ⟨_, _, rfl, rfl, hc, hq⟩
theorem CMul_mod {x c y : Int} (h : 0 < c) (h2 : c < 2 ^ 64) : CMul (x % c) y := by
 have h3 := Int.emod_nonneg x (b := c) (by omega)
 have h4 := Int.emod_lt_of_pos x h
 exact .inl ⟨by omega, by omega⟩
noncomputable def clsV : V → Option Value
 | .ty n => some (.type n)
 | .ref a => some (.ref a)
 | _ => none
noncomputable def rIsi (K : PySem.W.Frag) : List V → Hp → VK → Prop := fun xs H Q => ∃ x c cv t b, xs = [x, c] ∧ clsV c = some cv ∧ TyOf K H x t ∧ PySem.W.kitOne K t cv = some b ∧ Q (.bl b) H
theorem call_isi : CallR X (.builtin "isinstance") (rIsi X.K) := by
 intro pins s σ H xs us Q I r h
 obtain ⟨x, c, cv, t, b, rfl, ec, ty, e, q⟩ := h
 obtain ⟨u, v, rfl, rx, rc⟩ := vals2 r
 have ev : v = cv := by
  cases c <;> first
   | (cases ec; exact rc)
   | cases ec
 subst ev
 exact isinst_ok I rx ty e fun tk => ⟨.bl b, H, I.tok tk, rfl, q⟩
structure Cal (P : Program) (w : World) (K : PySem.W.Frag) (mg : Str → Option Value) (base : Heap) (k : Nat) (x : Str) (ps : List Str) (sp : Sp) : Prop where
 ex : ∃ (f : Addr) (fd : FuncData), FnOk P w K mg base CX0 k f fd ps sp ∧ mg x = some (.ref f) ∧ PySem.W.keepIn K (.ref f) = true ∧ Binds K fd ps []
variable {j k : Nat} {x : Str} {ps : List Str} {sp : Sp} {e : Expr} {es : List Expr} {t : TA} {p pos : Pos}
theorem pe_callC (c : Cal X.prog X.w X.K X.mg X.base j x ps sp) (hr : Room k X.A) (hg : Gl X x) (ha : PA X (e :: es) t) (hjk : j ≤ k := by decide)
  (hdb : (x == ("__debug__" : Str)) = false := by decide) (he : starEach (e :: es) X.env = (false, eval e X.env) :: starEach es X.env := by rfl) (hpl : (backTo pos (starEach es X.env)).any (·.1) = false := by rfl) :
  PE X (.Call (.Name x p) (e :: es) [] pos) (tCall sp [] E0 t) := by
 obtain ⟨f, fd, F, hm, hk, hb⟩ := c.ex
 exact pe_call F (hr.mono hjk) hg hm hk hb .nil pass0 ha hdb he hpl
end
structure Bl (K : PySem.W.Frag) (mg : Str → Option Value) : Prop where
 len_ : mg "len" = none
 abs_ : mg "abs" = none
 range_ : mg "range" = none
 isinstance_ : mg "isinstance" = none
 int_ : mg "int" = none
 bool_ : mg "bool" = none
 tuple_ : mg "tuple" = none
 max_ : mg "max" = none
 min_ : mg "min" = none
 list_ : mg "list" = none
 all_ : mg "all" = none
 any_ : mg "any" = none
 sorted_ : mg "sorted" = none
 zip_ : mg "zip" = none
 set_ : mg "set" = none
 sum_ : mg "sum" = none
 str_ : mg "str" = none
 enumerate_ : mg "enumerate" = none
 kib : PySem.W.kitOne K (.type "int") (.type "bool") = some false
 kbi : PySem.W.kitOne K (.type "bool") (.type "int") = some true
theorem kit_same (K : PySem.W.Frag) (t : Value) : PySem.W.kitOne K t t = some true := by
 unfold PySem.W.kitOne
 rw [if_pos (beq_self_eq_true t)]
end L2
namespace L2
open PySem PySem.Spec PyProof.Rows LT
theorem iteD1 {c A B : Prop} [Decidable c] (h : c) (a : A) : if decide c = true then A else B := by rw [decide_eq_true h]; exact iteT a
theorem iteD0 {c A B : Prop} [Decidable c] (h : ¬ c) (b : B) : if decide c = true then A else B := by rw [decide_eq_false h]; exact iteF b
theorem iteN1 {c A B : Prop} [Decidable c] (h : ¬ c) (a : A) : if (!decide c) = true then A else B := by rw [decide_eq_false h]; exact iteT a
theorem iteD2 {c A B : Prop} [Decidable c] (h1 : c → A) (h2 : ¬ c → B) : if decide c = true then A else B := by
 by_cases h : c
 ·exact iteD1 h (h1 h)
 ·exact iteD0 h (h2 h)
theorem iteN2 {c A B : Prop} [Decidable c] (h1 : ¬ c → A) (h2 : c → B) : if (!decide c) = true then A else B := by
 by_cases h : c
 ·exact iteNS h (h2 h)
 ·exact iteN1 h (h1 h)
theorem small_le {n : Nat} (h : n ≤ 1000) : n ≤ sizeLine := Nat.le_of_lt (small1000 h)
theorem small_b {n : Nat} (h : Nat.ble n 1000 = true) : n ≤ sizeLine := small_le (Nat.le_of_ble_eq_true h)
noncomputable def dNum (q : Rat) : PyData := .tuple [.int q.num, .int (q.den : Int)]
theorem good_num (q : Rat) : Good (dNum q) := ⟨rfl, by show 1 ≤ 60; decide⟩
theorem Dt.num {H : Hp} {p : Addr} {q : Rat} (h : H p = some (.tup [.int q.num, .int (q.den : Int)])) : Dt H (.ref p) (dNum q) := .tup h (.cons (.int _) (.cons (.int _) .nil))
theorem eqv_num (a b : Rat) : PyData.eqv (dNum a) (dNum b) = decide (a = b) := by
 show ((a.num == b.num) && (((a.den : Int) == (b.den : Int)) && true)) = decide (a = b)
 rw [Bool.and_true]
 by_cases e : a = b
 ·subst e; simp
 ·rw [decide_eq_false e]
  refine Bool.eq_false_iff.mpr fun h => e ?_
  rw [Bool.and_eq_true] at h
  have h1 : a.num = b.num := beq_iff_eq.mp h.1
  have h2 : (a.den : Int) = (b.den : Int) := beq_iff_eq.mp h.2
  exact Rat.ext h1 (by omega)
noncomputable def dLine (l : Rat × Rat) : PyData := .tuple [dNum l.1, dNum l.2]
theorem good_line (l : Rat × Rat) : Good (dLine l) := ⟨rfl, by show 2 ≤ 60; decide⟩
theorem Dt.line {H : Hp} {p : Addr} {a b : V} {l : Rat × Rat} (h : H p = some (.tup [a, b])) (ha : Dt H a (dNum l.1)) (hb : Dt H b (dNum l.2)) : Dt H (.ref p) (dLine l) := .tup h (.cons ha (.cons hb .nil))
theorem eqv_line (a b : Rat × Rat) : PyData.eqv (dLine a) (dLine b) = decide (a = b) := by
 show (PyData.eqv (dNum a.1) (dNum b.1) && (PyData.eqv (dNum a.2) (dNum b.2) && true)) = decide (a = b)
 rw [Bool.and_true, eqv_num, eqv_num]
 obtain ⟨a1, a2⟩ := a
 obtain ⟨b1, b2⟩ := b
 by_cases e : a1 = b1 <;> by_cases f : a2 = b2 <;> simp [e, f]
noncomputable def Pen (K : PySem.W.Frag) (pen a : Addr) (ns : List Int) (H : Hp) : Prop := ∃ z k : Int, 0 ≤ z ∧ 0 ≤ k ∧ H pen = some (.lst [.ref a, .int z, .int k]) ∧ SqL K H a (ns.map V.int)
theorem Pen.lst {K : PySem.W.Frag} {pen a : Addr} {ns : List Int} {H : Hp} (h : Pen K pen a ns H) : ∃ ys, H pen = some (.lst ys) := let ⟨_, _, _, _, e, _⟩ := h; ⟨_, e⟩
theorem Pen.same {K : PySem.W.Frag} {pen a : Addr} {ns : List Int} {H H' : Hp} (h : Pen K pen a ns H) (g : Same H H') : Pen K pen a ns H' :=
 let ⟨z, k, h1, h2, h3, h4⟩ := h; ⟨z, k, h1, h2, g _ _ h3, g.seq h4⟩
theorem Pen.t {K : PySem.W.Frag} {pen a : Addr} {ns : List Int} {H H' : Hp} (h : Pen K pen a ns H) (g : SameX pen H H') : SameT H H' := let ⟨_, e⟩ := h.lst; g.t e
noncomputable def spLaw (K : PySem.W.Frag) : Sp := fun vs H Q _ => ∃ (a : Addr) (ns : List Int), vs = [.ref a] ∧ SqL K H a (ns.map V.int) ∧ ns.length ≤ 63 ∧ ∀ H', Q (.bl true) H'
theorem gcd_bt {k : Nat} {t b : Int} (h : Bt k b) (h0 : b ≠ 0) : Bt k (Int.gcd t b : Nat) := by
 unfold Bt at *
 refine Nat.lt_of_le_of_lt ?_ h
 show Int.gcd t b ≤ b.natAbs
 exact Nat.le_of_dvd (by omega) (Nat.gcd_dvd_right _ _)
theorem gcd_ne {t b : Int} (h0 : b ≠ 0) : ((Int.gcd t b : Nat) : Int) ≠ 0 := by
 have := Int.gcd_pos_of_ne_zero_right t h0
 omega
end L2
namespace L2.VS
open PySem PySem.Spec PyProof.Rows
abbrev D := PyData
structure Pb where
 P : V → Hp → Prop
 mono : ∀ {v G G'}, Same G G' → P v G → P v G'
structure Bx where
 P : V → List Addr → Hp → Hp → Prop
 mono : ∀ {v fp G G' H}, Same G G' → P v fp G H → P v fp G' H
 loc : ∀ {v fp G H H'}, (∀ b ∈ fp, H' b = H b) → P v fp G H → P v fp G H'
 dom : ∀ {v fp G H}, P v fp G H → ∀ b ∈ fp, ∃ o, H b = some o
 uniq : ∀ {v fp fp' G H}, P v fp G H → P v fp' G H → fp = fp'
 nt : ∀ {v fp G H}, P v fp G H → ∀ b ∈ fp, ∀ xs, H b = some (.tup xs) → ∃ q ∈ fp, V.ref q ∈ xs ∧ ∃ vs, H q = some (.lst vs)
 view : Option D
 vok : ∀ {v fp G H G' d}, P v fp G H → view = some d → Same G G' → (∀ b ∈ fp, G' b = H b) → Dt G' v d
 pv : Option Pb := none
 pok : ∀ {v fp G H G' B}, P v fp G H → pv = some B → Same G G' → (∀ b ∈ fp, G' b = H b) → B.P v G' := by intro _ _ _ _ _ _ _ z; cases z
inductive Sl where
 | no | val (d : D) | own (ds : List D) | pen | con (p : Addr) | box (B : Bx) | pub (B : Pb)
abbrev En := List Sl
inductive Rv where
 | val (d : D) | own (ds : List D) | box (B : Bx)
noncomputable def Rv.d : Rv → D
 | .val d => d
 | .own ds => .list ds
 | .box B => B.view.getD .none
noncomputable def Rv.sl : Rv → Sl
 | .val d => .val d
 | .own ds => .own ds
 | .box B => .box B
inductive Fl where
 | nx (Γ : En) | rt (r : Rv) | bk (Γ : En) | ct (Γ : En)
variable {P0 : Addr → Hp → Prop}
structure Fra (P0 : Addr → Hp → Prop) where
 H0 : Hp
 G0 : Hp
 pen : Option Addr
 stab : ∀ p, pen = some p → ∀ H H', (∀ b o, H0 b = some o → H' b = H b) → P0 p H → P0 p H'
 pin : ∀ p, pen = some p → ∀ H, P0 p H → ∃ o, H p = some o
 pin0 : ∀ p, pen = some p → ∃ o, H0 p = some o
 pg : ∀ p, pen = some p → G0 p = none
noncomputable def Fra.PI (F : Fra P0) (H : Hp) : Prop := ∀ p, F.pen = some p → P0 p H
theorem Fra.stab' (F : Fra P0) : ∀ H H', (∀ b o, F.H0 b = some o → H' b = H b) → F.PI H → F.PI H' := fun H H' h pi p e => F.stab p e H H' h (pi p e)
structure Rf (F : Fra P0) (G H : Hp) : Prop where
 sub : Same G H
 g0 : ∀ b o, F.H0 b = some o → G b = F.G0 b
 h0 : ∀ b o, F.H0 b = some o → F.pen ≠ some b → H b = some o
 pn : F.PI H
noncomputable def SlF (F : Fra P0) (G H : Hp) (x : Option (Option V)) (fp : List Addr) : Sl → Prop
 | .no => fp = []
 | .val d => fp = [] ∧ ∃ v, x = some (some v) ∧ Dt G v d
 | .own ds => ∃ p vs, fp = [p] ∧ x = some (some (.ref p)) ∧ F.H0 p = none ∧ G p = none ∧ H p = some (.lst vs) ∧ Dts G vs ds
 | .pen => fp = [] ∧ ∃ p, x = some (some (.ref p)) ∧ F.pen = some p
 | .con p => fp = [] ∧ x = some (some (.ref p))
 | .pub B => fp = [] ∧ ∃ v, x = some (some v) ∧ B.P v G
 | .box B => ∃ v, x = some (some v) ∧ B.P v fp G H ∧ ∀ b ∈ fp, F.H0 b = none ∧ G b = none
noncomputable def SlOk (F : Fra P0) (G H : Hp) (x : Option (Option V)) : Sl → Prop
 | .no => True
 | .val d => ∃ v, x = some (some v) ∧ Dt G v d
 | .own ds => ∃ p vs, x = some (some (.ref p)) ∧ F.H0 p = none ∧ G p = none ∧ H p = some (.lst vs) ∧ Dts G vs ds
 | .pen => ∃ p, x = some (some (.ref p)) ∧ F.pen = some p
 | .con p => x = some (some (.ref p))
 | .pub B => ∃ v, x = some (some v) ∧ B.P v G
 | .box B => ∃ v fp, x = some (some v) ∧ B.P v fp G H ∧ ∀ b ∈ fp, F.H0 b = none ∧ G b = none
theorem SlF.ok {F : Fra P0} {G H : Hp} {x : Option (Option V)} {fp : List Addr} : ∀ {s : Sl}, SlF F G H x fp s → SlOk F G H x s
 | .no, _ => trivial
 | .val _, h => h.2
 | .own _, h => let ⟨p, vs, _, r⟩ := h; ⟨p, vs, r⟩
 | .pen, h => h.2
 | .con _, h => h.2
 | .pub _, h => h.2
 | .box _, h => let ⟨v, r⟩ := h; ⟨v, fp, r⟩
theorem SlF.mine {F : Fra P0} {G H : Hp} {x : Option (Option V)} {fp : List Addr} {b : Addr} (hb : b ∈ fp) : ∀ {s : Sl}, SlF F G H x fp s → F.H0 b = none ∧ G b = none ∧ ∃ o, H b = some o
 | .no, h => by rw [show fp = [] from h] at hb; cases hb
 | .val _, h => by rw [h.1] at hb; cases hb
 | .own _, h => by
  obtain ⟨p, vs, e, _, h1, h2, h3, _⟩ := h
  rw [e] at hb
  rw [List.mem_singleton.mp hb]
  exact ⟨h1, h2, _, h3⟩
 | .pen, h => by rw [h.1] at hb; cases hb
 | .con _, h => by rw [h.1] at hb; cases hb
 | .pub _, h => by rw [h.1] at hb; cases hb
 | .box B, h => by
  obtain ⟨v, _, h2, h3⟩ := h
  exact ⟨(h3 b hb).1, (h3 b hb).2, B.dom h2 b hb⟩
theorem SlF.go {F : Fra P0} {G H G' H' : Hp} {x : Option (Option V)} {fp : List Addr} (g : Same G G') (k : ∀ b ∈ fp, G' b = none ∧ H' b = H b) : ∀ {s : Sl}, SlF F G H x fp s → SlF F G' H' x fp s
 | .no, h => h
 | .val _, h => let ⟨e, v, e1, d1⟩ := h; ⟨e, v, e1, Dt.same g _ _ d1⟩
 | .own _, h => by
  obtain ⟨p, vs, e, e1, e2, e3, e4, e5⟩ := h
  have := k p (by rw [e]; exact List.mem_singleton.mpr rfl)
  exact ⟨p, vs, e, e1, e2, this.1, this.2.trans e4, Dts.same g _ _ e5⟩
 | .pen, h => h
 | .con _, h => h
 | .pub B, h => let ⟨e, v, e1, d1⟩ := h; ⟨e, v, e1, B.mono g d1⟩
 | .box B, h => by
  obtain ⟨v, h1, h2, h3⟩ := h
  exact ⟨v, h1, B.loc (fun b hb => (k b hb).2) (B.mono g h2), fun b hb => ⟨(h3 b hb).1, (k b hb).1⟩⟩
structure R (F : Fra P0) (Γ : En) (σ : St) (G H : Hp) : Prop where
 fr : Rf F G H
 len : Γ.length = σ.length
 fps : ∃ fps : Nat → List Addr, (∀ (i : Nat) s, Γ[i]? = some s → SlF F G H σ[i]? (fps i) s) ∧ ∀ (i j : Nat) (s t : Sl), Γ[i]? = some s → Γ[j]? = some t → i ≠ j → ∀ b ∈ fps i, b ∉ fps j
theorem R.sl {F : Fra P0} {Γ : En} {σ : St} {G H : Hp} (r : R F Γ σ G H) (i : Nat) (s : Sl) (e : Γ[i]? = some s) : SlOk F G H σ[i]? s :=
 let ⟨_, h, _⟩ := r.fps; (h i s e).ok
theorem R.ap {F : Fra P0} {Γ : En} {σ : St} {G H : Hp} (r : R F Γ σ G H) (i j : Nat) (x y : List D) (hij : i ≠ j) (ei : Γ[i]? = some (.own x)) (ej : Γ[j]? = some (.own y)) : σ[i]? ≠ σ[j]? := by
 obtain ⟨fps, h1, h2⟩ := r.fps
 obtain ⟨p, vs, e, e1, _⟩ := h1 i _ ei
 obtain ⟨q, ws, f, f1, _⟩ := h1 j _ ej
 intro z
 rw [e1, f1] at z
 cases z
 exact h2 i j _ _ ei ej hij p (by rw [e]; exact List.mem_singleton.mpr rfl) (by rw [f]; exact List.mem_singleton.mpr rfl)
theorem R.of {F : Fra P0} {Γ : En} {σ : St} {G H : Hp} (fr : Rf F G H) (len : Γ.length = σ.length) (sl : ∀ (i : Nat) s, Γ[i]? = some s → SlOk F G H σ[i]? s) (nb : ∀ (i : Nat) B, Γ[i]? ≠ some (.box B))
  (ap : ∀ (i j : Nat) x y, i ≠ j → Γ[i]? = some (.own x) → Γ[j]? = some (.own y) → σ[i]? ≠ σ[j]?) : R F Γ σ G H := by
 refine ⟨fr, len, fun i => match Γ[i]?, σ[i]? with | some (.own _), some (some (.ref p)) => [p] | _, _ => [], fun i s e => ?_, fun i j s t ei ej hij b hb hc => ?_⟩
 ·have h := sl i s e
  cases s with
  | no => simp only [e]; rfl
  | val d => simp only [e]; exact ⟨rfl, h⟩
  | own ds =>
   obtain ⟨p, vs, e1, r⟩ := h
   simp only [e, e1]
   exact ⟨p, vs, rfl, rfl, r⟩
  | pen => simp only [e]; exact ⟨rfl, h⟩
  | con q => simp only [e]; exact ⟨rfl, h⟩
  | pub B => simp only [e]; exact ⟨rfl, h⟩
  | box B => exact absurd e (nb i B)
 ·simp only [ei] at hb
  simp only [ej] at hc
  cases s with
  | own x =>
   cases t with
   | own y =>
    split at hb
    ·rename_i p _ e1
     split at hc
     ·rename_i q _ e2
      have e1 := List.mem_singleton.mp hb
      have e2 := List.mem_singleton.mp hc
      exact ap i j x y hij ei ej (by simp_all)
     ·cases hc
    ·cases hb
   | _ => simp at hc
  | _ => simp at hb
section
variable {F : Fra P0} {Γ : En} {σ : St} {G H G' H' : Hp} {p : Addr} {o : HO}
theorem Rf.dom (h : Rf F G H) {b : Addr} (e : F.H0 b = some o) : ∃ o', H b = some o' := by
 by_cases hb : F.pen = some b
 ·exact F.pin b hb H (h.pn b hb)
 ·exact ⟨o, h.h0 b o e hb⟩
theorem Rf.fresh (h : Rf F G H) (hp : H p = none) : F.H0 p = none := by
 cases e : F.H0 p with
 | none => rfl
 | some o =>
  obtain ⟨o', e'⟩ := h.dom e
  rw [hp] at e'; cases e'
theorem Rf.gfresh (h : Rf F G H) (hp : H p = none) : G p = none := h.sub.free hp
theorem Rf.pub (h : Rf F G H) (hp : H p = none) : Rf F (upd G p o) (upd H p o) := by
 have hf := h.fresh hp
 have hn : ∀ b u, F.H0 b = some u → b ≠ p := fun b u e z => by rw [z, hf] at e; cases e
 refine ⟨fun b u e => ?_, fun b u e => ?_, fun b u e hb => ?_, F.stab' H _ (fun b u e => upd_ne (hn b u e)) h.pn⟩
 ·by_cases hb : b = p
  ·subst hb; rw [upd_same] at e; cases e; exact upd_same
  ·rw [upd_ne hb] at e ⊢; exact h.sub b u e
 ·rw [upd_ne (hn b u e)]; exact h.g0 b u e
 ·rw [upd_ne (hn b u e)]; exact h.h0 b u e hb
theorem Rf.priv (h : Rf F G H) (hp : F.H0 p = none) (hg : G p = none) : Rf F G (upd H p o) := by
 have hn : ∀ b u, F.H0 b = some u → b ≠ p := fun b u e z => by rw [z, hp] at e; cases e
 refine ⟨fun b u e => ?_, h.g0, fun b u e hb => ?_, F.stab' H _ (fun b u e => upd_ne (hn b u e)) h.pn⟩
 ·rw [upd_ne (ne_of_none e hg)]; exact h.sub b u e
 ·rw [upd_ne (hn b u e)]; exact h.h0 b u e hb
theorem Rf.give (h : Rf F G H) (hp : F.H0 p = none) (hH : H p = some o) : Rf F (upd G p o) H := by
 have hn : ∀ b u, F.H0 b = some u → b ≠ p := fun b u e z => by rw [z, hp] at e; cases e
 refine ⟨fun b u e => ?_, fun b u e => ?_, h.h0, h.pn⟩
 ·by_cases hb : b = p
  ·subst hb; rw [upd_same] at e; cases e; exact hH
  ·rw [upd_ne hb] at e; exact h.sub b u e
 ·rw [upd_ne (hn b u e)]; exact h.g0 b u e
noncomputable def R.Has (_ : R F Γ σ G H) (b : Addr) : Prop := ∃ (i : Nat) (s : Sl) (fp : List Addr), Γ[i]? = some s ∧ SlF F G H σ[i]? fp s ∧ b ∈ fp
theorem R.keep (r : R F Γ σ G H) (f : Rf F G' H') (g : Same G G')
  (k : ∀ b o, r.Has b → F.H0 b = none → G b = none → H b = some o → G' b = none ∧ H' b = some o) : R F Γ σ G' H' := by
 obtain ⟨fps, h1, h2⟩ := r.fps
 refine ⟨f, r.len, fps, fun i s e => (h1 i s e).go g fun b hb => ?_, h2⟩
 obtain ⟨m1, m2, o, m3⟩ := (h1 i s e).mine hb
 obtain ⟨k1, k2⟩ := k b o ⟨i, s, fps i, e, h1 i s e, hb⟩ m1 m2 m3
 exact ⟨k1, k2.trans m3.symm⟩
theorem R.new (r : R F Γ σ G H) (hp : H p = none) : R F Γ σ (upd G p o) (upd H p o) := by
 refine r.keep (r.fr.pub hp) (same_new (r.fr.gfresh hp) o) fun q u _ _ g h => ?_
 have hq : q ≠ p := ne_of_none h hp
 rw [upd_ne hq, upd_ne hq]
 exact ⟨g, h⟩
theorem R.newP (r : R F Γ σ G H) (hp : H p = none) : R F Γ σ G (upd H p o) := by
 refine r.keep (r.fr.priv (r.fr.fresh hp) (r.fr.gfresh hp)) (Same.refl _) fun q u _ _ g h => ?_
 have hq : q ≠ p := ne_of_none h hp
 rw [upd_ne hq]
 exact ⟨g, h⟩
noncomputable def RvO (F : Fra P0) (G H : Hp) (r : V) : Rv → Prop
 | .val d => Dt G r d
 | .own ds => ∃ p vs, r = .ref p ∧ F.H0 p = none ∧ G p = none ∧ H p = some (.lst vs) ∧ Dts G vs ds
 | .box B => ∃ fp, B.P r fp G H ∧ ∀ b ∈ fp, F.H0 b = none ∧ G b = none
noncomputable def Apart (F : Fra P0) (Γ : En) (σ : St) (G H : Hp) (r : V) : Rv → Prop
 | .val _ => True
 | .own _ => ∀ (i : Nat) s fp, Γ[i]? = some s → SlF F G H σ[i]? fp s → ∀ p, r = .ref p → p ∉ fp
 | .box B => ∀ (i : Nat) s fp f, Γ[i]? = some s → SlF F G H σ[i]? fp s → B.P r f G H → ∀ b ∈ f, b ∉ fp
theorem R.give (r : R F Γ σ G H) {v : V} {ds : List D} (h : RvO F G H v (.own ds)) (ha : Apart F Γ σ G H v (.own ds)) : ∃ G', Same G G' ∧ R F Γ σ G' H ∧ Dt G' v (.list ds) := by
 obtain ⟨p, vs, rfl, e1, e2, e3, e4⟩ := h
 have g := same_new e2 (.lst vs)
 refine ⟨upd G p (.lst vs), g, r.keep (r.fr.give e1 e3) g fun q u hq _ eg eh => ⟨?_, eh⟩, .lst upd_same (Dts.same g _ _ e4)⟩
 have hqp : q ≠ p := fun z => by
  obtain ⟨i, s, fp, a1, a2, a3⟩ := hq
  rw [z] at a3
  exact ha i s fp a1 a2 p rfl a3
 rw [upd_ne hqp]
 exact eg
theorem R.giveB (r : R F Γ σ G H) {v : V} {B : Bx} {d : D} (h : RvO F G H v (.box B)) (ha : Apart F Γ σ G H v (.box B)) (hv : B.view = some d) : ∃ G', Same G G' ∧ R F Γ σ G' H ∧ Dt G' v d := by
 obtain ⟨fp, e1, e2⟩ := h
 have g : Same G (fun b => if b ∈ fp then H b else G b) := fun b o e => by
  show (if b ∈ fp then H b else G b) = some o
  rw [if_neg (fun z => by rw [(e2 b z).2] at e; cases e)]
  exact e
 refine ⟨fun b => if b ∈ fp then H b else G b, g, r.keep ⟨fun b o e => ?_, fun b o e => ?_, r.fr.h0, r.fr.pn⟩ g fun q u hq _ eg eh => ⟨?_, eh⟩, B.vok e1 hv g fun b hb => if_pos hb⟩
 ·have e : (if b ∈ fp then H b else G b) = some o := e
  split at e
  ·exact e
  ·exact r.fr.sub b o e
 ·show (if b ∈ fp then H b else G b) = _
  rw [if_neg (fun z => by rw [(e2 b z).1] at e; cases e)]
  exact r.fr.g0 b o e
 ·obtain ⟨i, s, f, a1, a2, a3⟩ := hq
  show (if q ∈ fp then H q else G q) = none
  rw [if_neg fun z => ha i s f fp a1 a2 e1 q z a3]
  exact eg
theorem R.set (r : R F Γ σ G H) {i : Nat} {v : V} {rv : Rv} (h : RvO F G H v rv) (ha : Apart F Γ σ G H v rv) : R F (Γ.set i rv.sl) (σ.set i (some v)) G H := by
 obtain ⟨fps, h1, h2⟩ := r.fps
 obtain ⟨fp, hf, hd⟩ : ∃ fp, SlF F G H (some (some v)) fp rv.sl ∧ ∀ (j : Nat) s, Γ[j]? = some s → ∀ b ∈ fp, b ∉ fps j := by
  cases rv with
  | val d => exact ⟨[], ⟨rfl, v, rfl, h⟩, fun j s _ b hb => nomatch hb⟩
  | own ds =>
   obtain ⟨p, vs, rfl, q⟩ := h
   exact ⟨[p], ⟨p, vs, rfl, rfl, q⟩, fun j s ej b hb => by rw [List.mem_singleton.mp hb]; exact ha j s (fps j) ej (h1 j s ej) p rfl⟩
  | box B =>
   obtain ⟨fp, q1, q2⟩ := h
   exact ⟨fp, ⟨v, rfl, q1, q2⟩, fun j s ej b hb => ha j s (fps j) fp ej (h1 j s ej) q1 b hb⟩
 have lt : ∀ {m : Nat} {z}, (Γ.set i rv.sl)[m]? = some z → m < Γ.length := fun e => by
  have := (List.getElem?_eq_some_iff.mp e).1
  simpa using this
 have old : ∀ {m : Nat} {z}, m ≠ i → (Γ.set i rv.sl)[m]? = some z → Γ[m]? = some z := fun hm e => by rw [List.getElem?_set_ne (Ne.symm hm)] at e; exact e
 refine ⟨r.fr, by rw [List.length_set, List.length_set]; exact r.len, fun j => if j = i then fp else fps j, fun j s e => ?_, fun j k s t ej ek hjk b hb hc => ?_⟩
 ·dsimp only
  by_cases hj : j = i
  ·subst hj
   have hi := lt e
   rw [List.getElem?_set_self hi] at e
   rw [if_pos rfl, List.getElem?_set_self (by rw [← r.len]; exact hi)]
   cases e
   exact hf
  ·rw [if_neg hj, List.getElem?_set_ne (Ne.symm hj)]
   exact h1 j s (old hj e)
 ·dsimp only at hb hc
  by_cases hj : j = i
  ·have hk : k ≠ i := fun z => hjk (hj.trans z.symm)
   rw [if_pos hj] at hb
   rw [if_neg hk] at hc
   exact hd k t (old hk ek) b hb hc
  ·rw [if_neg hj] at hb
   by_cases hk : k = i
   ·rw [if_pos hk] at hc
    exact hd j s (old hj ej) b hc hb
   ·rw [if_neg hk] at hc
    exact h2 j k s t (old hj ej) (old hk ek) hjk b hb hc
theorem R.setV (r : R F Γ σ G H) {i : Nat} {v : V} {d : D} (h : Dt G v d) : R F (Γ.set i (.val d)) (σ.set i (some v)) G H := r.set (rv := .val d) h trivial
theorem R.drop (r : R F Γ σ G H) (i : Nat) : R F (Γ.set i .no) σ G H := by
 obtain ⟨fps, h1, h2⟩ := r.fps
 have back : ∀ {m z}, m ≠ i → (Γ.set i .no)[m]? = some z → Γ[m]? = some z := fun {m z} hm e => by rw [List.getElem?_set_ne (Ne.symm hm)] at e; exact e
 refine ⟨r.fr, by rw [List.length_set]; exact r.len, fun j => if j = i then [] else fps j, fun j s e => ?_, fun j k s t ej ek hjk b hb hc => ?_⟩
 ·dsimp only
  by_cases hj : j = i
  ·subst hj
   have hi : j < Γ.length := by
    have := (List.getElem?_eq_some_iff.mp e).1
    simpa using this
   rw [List.getElem?_set_self hi] at e
   cases e
   rw [if_pos rfl]
   rfl
  ·rw [if_neg hj]
   exact h1 j s (back hj e)
 ·dsimp only at hb hc
  by_cases hj : j = i
  ·rw [if_pos hj] at hb; cases hb
  ·rw [if_neg hj] at hb
   by_cases hk : k = i
   ·rw [if_pos hk] at hc; cases hc
   ·rw [if_neg hk] at hc
    exact h2 j k s t (back hj ej) (back hk ek) hjk b hb hc
theorem R.writeF (r : R F Γ σ G H) {i : Nat} {s0 s1 : Sl} {H' : Hp} (e : Γ[i]? = some s0) (fr : Rf F G H') (h : ∀ fp, SlF F G H σ[i]? fp s0 → ∃ fp', SlF F G H' σ[i]? fp' s1 ∧ (∀ b, b ∉ fp → (∃ o, H b = some o) → H' b = H b ∧ b ∉ fp')) : R F (Γ.set i s1) σ G H' := by
 obtain ⟨fps, h1, h2⟩ := r.fps
 obtain ⟨fp', w1, w2⟩ := h (fps i) (h1 i s0 e)
 have hi : i < Γ.length := (List.getElem?_eq_some_iff.mp e).1
 have back : ∀ {m z}, m ≠ i → (Γ.set i s1)[m]? = some z → Γ[m]? = some z := fun {m z} hm e => by rw [List.getElem?_set_ne (Ne.symm hm)] at e; exact e
 have away : ∀ {j : Nat} {s : Sl}, j ≠ i → Γ[j]? = some s → ∀ b ∈ fps j, H' b = H b ∧ b ∉ fp' := fun hj ej b hb =>
  w2 b (fun z => h2 _ i _ s0 ej e hj b hb z) ((h1 _ _ ej).mine hb).2.2
 refine ⟨fr, by rw [List.length_set]; exact r.len, fun j => if j = i then fp' else fps j, fun j s ej => ?_, fun j k s t ej ek hjk b hb hc => ?_⟩
 ·dsimp only
  by_cases hj : j = i
  ·subst hj
   rw [List.getElem?_set_self hi] at ej
   cases ej
   rw [if_pos rfl]
   exact w1
  ·rw [if_neg hj]
   have e0 := back hj ej
   exact (h1 j s e0).go (Same.refl _) fun b hb => ⟨((h1 j s e0).mine hb).2.1, (away hj e0 b hb).1⟩
 ·dsimp only at hb hc
  by_cases hj : j = i
  ·have hk : k ≠ i := fun z => hjk (hj.trans z.symm)
   rw [if_pos hj] at hb
   rw [if_neg hk] at hc
   exact (away hk (back hk ek) b hc).2 hb
  ·rw [if_neg hj] at hb
   by_cases hk : k = i
   ·rw [if_pos hk] at hc
    exact (away hj (back hj ej) b hb).2 hc
   ·rw [if_neg hk] at hc
    exact h2 j k s t (back hj ej) (back hk ek) hjk b hb hc
theorem R.write (r : R F Γ σ G H) {i : Nat} {ds es : List D} {p : Addr} {ws : List V} (e : Γ[i]? = some (.own ds)) (ep : σ[i]? = some (some (.ref p))) (hw : Dts G ws es) : R F (Γ.set i (.own es)) σ G (upd H p (.lst ws)) := by
 obtain ⟨p', vs, e1, e2, e3, e4, e5⟩ := r.sl i _ e
 rw [ep] at e1; cases e1
 refine r.writeF e (r.fr.priv e2 e3) fun fp h => ?_
 obtain ⟨q, us, f0, f1, f2, f3, f4, f5⟩ := h
 rw [ep] at f1; cases f1
 refine ⟨[p], ⟨p, ws, rfl, ep, e2, e3, upd_same, hw⟩, fun b hb _ => ?_⟩
 have hbp : b ≠ p := fun z => hb (by rw [f0, z]; exact List.mem_singleton.mpr rfl)
 exact ⟨upd_ne hbp, fun z => hbp (List.mem_singleton.mp z)⟩
end
abbrev ME := En → (D → En → Prop) → Prop
abbrev MO := En → (Rv → En → Prop) → Prop
abbrev MT := En → (Bool → En → Prop) → Prop
abbrev MA := En → (List Sl → En → Prop) → Prop
abbrev MD := En → (List D → En → Prop) → Prop
abbrev MG := D → En → (En → Prop) → Prop
abbrev MGs := List D → En → (En → Prop) → Prop
abbrev MS := En → (Fl → Prop) → Prop
abbrev Fm := List Sl → (Rv → Prop) → Prop
noncomputable def VT (P0 : Addr → Hp → Prop) (t : TE) (m : ME) : Prop := ∀ (F : Fra P0) (Γ : En) (σ : St) (G H : Hp) (Q : VK) (Qm : D → En → Prop), R F Γ σ G H → m Γ Qm →
 (∀ d Γ' r G' H', Qm d Γ' → Same G G' → R F Γ' σ G' H' → Dt G' r d → Q r H') → t σ H Q
noncomputable def VO (P0 : Addr → Hp → Prop) (t : TE) (m : MO) : Prop := ∀ (F : Fra P0) (Γ : En) (σ : St) (G H : Hp) (Q : VK) (Qm : Rv → En → Prop), R F Γ σ G H → m Γ Qm →
 (∀ rv Γ' r G' H', Qm rv Γ' → Same G G' → R F Γ' σ G' H' → RvO F G' H' r rv → Apart F Γ' σ G' H' r rv → Q r H') → t σ H Q
noncomputable def VTT (P0 : Addr → Hp → Prop) (t : TT) (m : MT) : Prop := ∀ (F : Fra P0) (Γ : En) (σ : St) (G H : Hp) (Q : Bool → Hp → Prop) (Qm : Bool → En → Prop), R F Γ σ G H → m Γ Qm →
 (∀ b Γ' G' H', Qm b Γ' → Same G G' → R F Γ' σ G' H' → Q b H') → t σ H Q
noncomputable def VD (P0 : Addr → Hp → Prop) (t : TA) (m : MD) : Prop := ∀ (F : Fra P0) (Γ : En) (σ : St) (G H : Hp) (Q : List V → Hp → Prop) (Qm : List D → En → Prop), R F Γ σ G H → m Γ Qm →
 (∀ ds Γ' rs G' H', Qm ds Γ' → Same G G' → R F Γ' σ G' H' → Dts G' rs ds → Q rs H') → t σ H Q
noncomputable def ArgOk (F : Fra P0) (G : Hp) (r : V) : Sl → Prop
 | .val d => Dt G r d
 | .pen => ∃ p, r = .ref p ∧ F.pen = some p
 | .con p => r = .ref p
 | .pub B => B.P r G
 | _ => False
noncomputable def VA (P0 : Addr → Hp → Prop) (t : TA) (m : MA) : Prop := ∀ (F : Fra P0) (Γ : En) (σ : St) (G H : Hp) (Q : List V → Hp → Prop) (Qm : List Sl → En → Prop), R F Γ σ G H → m Γ Qm →
 (∀ as Γ' rs G' H', Qm as Γ' → Same G G' → R F Γ' σ G' H' → Paired (ArgOk F G') rs as → Q rs H') → t σ H Q
noncomputable def VG (P0 : Addr → Hp → Prop) (A : Nat → Bool) (g : TG) (m : MG) : Prop := ∀ (F : Fra P0) (Γ : En) (σ : St) (G H : Hp) (v : V) (d : D) (Q : St → Hp → Prop) (Qm : En → Prop), R F Γ σ G H → Dt G v d → m d Γ Qm →
 (∀ Γ' σ', Qm Γ' → R F Γ' σ' G H → (∀ i, A i = false → σ'[i]? = σ[i]?) → Q σ' H) → g v σ H Q
noncomputable def VGs (P0 : Addr → Hp → Prop) (A : Nat → Bool) (g : TGs) (m : MGs) : Prop := ∀ (F : Fra P0) (Γ : En) (σ : St) (G H : Hp) (vs : List V) (ds : List D) (Q : St → Hp → Prop) (Qm : En → Prop), R F Γ σ G H → Dts G vs ds → m ds Γ Qm →
 (∀ Γ' σ', Qm Γ' → R F Γ' σ' G H → (∀ i, A i = false → σ'[i]? = σ[i]?) → Q σ' H) → g vs σ H Q
noncomputable def Post (F : Fra P0) (A : Nat → Bool) (σ0 : St) (G : Hp) (E : Ends) : Fl → Prop
 | .nx Γ => ∀ σ G' H', Same G G' → R F Γ σ G' H' → (∀ i, A i = false → σ[i]? = σ0[i]?) → E.nx σ H'
 | .rt rv => ∀ r G' H', Same G G' → Rf F G' H' → RvO F G' H' r rv → E.rt r H'
 | .bk Γ => ∀ σ G' H', Same G G' → R F Γ σ G' H' → (∀ i, A i = false → σ[i]? = σ0[i]?) → E.bk σ H'
 | .ct Γ => ∀ σ G' H', Same G G' → R F Γ σ G' H' → (∀ i, A i = false → σ[i]? = σ0[i]?) → E.ct σ H'
noncomputable def VSA (P0 : Addr → Hp → Prop) (A : Nat → Bool) (t : TS) (m : MS) : Prop := ∀ (F : Fra P0) (Γ : En) (σ : St) (G H : Hp) (E : Ends) (Qm : Fl → Prop), R F Γ σ G H → m Γ Qm → (∀ fl, Qm fl → Post F A σ G E fl) → t E σ H
abbrev aAll : Nat → Bool := fun _ => true
abbrev VS (P0 : Addr → Hp → Prop) (t : TS) (m : MS) : Prop := VSA P0 aAll t m
theorem Post.same {F : Fra P0} {A : Nat → Bool} {σ0 σ1 : St} {G G' : Hp} {E : Ends} (g : Same G G') (hσ : ∀ i, A i = false → σ1[i]? = σ0[i]?) : ∀ {fl : Fl}, Post F A σ0 G E fl → Post F A σ1 G' E fl
 | .nx _, h => fun σ G2 H2 s r e => h σ G2 H2 (g.trans s) r fun i hi => (e i hi).trans (hσ i hi)
 | .rt _, h => fun r G2 H2 s => h r G2 H2 (g.trans s)
 | .bk _, h => fun σ G2 H2 s r e => h σ G2 H2 (g.trans s) r fun i hi => (e i hi).trans (hσ i hi)
 | .ct _, h => fun σ G2 H2 s r e => h σ G2 H2 (g.trans s) r fun i hi => (e i hi).trans (hσ i hi)
noncomputable def SsX (P0 : Addr → Hp → Prop) (X : Cx) (sts : List Stmt) (m : MS) : Prop := ∃ t, PSs X sts t ∧ VS P0 t m
end L2.VS
namespace L2.VS
open PySem PySem.Spec PyProof.Rows
variable {P0 : Addr → Hp → Prop}
theorem _root_.L2.Dts.get {G : Hp} : ∀ {vs : List V} {ds : List D} {i : Nat} {d : D}, Dts G vs ds → ds[i]? = some d → ∃ v, vs[i]? = some v ∧ Dt G v d
 := by
  intro vs ds i d h e
  induction ds generalizing vs i with
  | nil => cases e
  | cons x ds ih =>
    cases h with
    | cons a b =>
      cases i with
      | zero => cases e; exact ⟨_, rfl, a⟩
      | succ i =>
        have q := ih b (show ds[i]? = some d from e)
        exact q
theorem _root_.L2.Dts.len {G : Hp} : ∀ {vs : List V} {ds : List D}, Dts G vs ds → vs.length = ds.length
 := by
  intro vs ds h
  induction ds generalizing vs with
  | nil => cases h; rfl
  | cons x ds ih => cases h with | cons a b => exact congrArg Nat.succ (ih b)
theorem _root_.L2.Dts.app {G : Hp} : ∀ {vs ws : List V} {ds es : List D}, Dts G vs ds → Dts G ws es → Dts G (vs ++ ws) (ds ++ es)
 := by
  intro vs ws ds es h g
  induction ds generalizing vs with
  | nil => cases h; exact g
  | cons x ds ih => cases h with | cons a b => exact .cons a (ih b)
theorem _root_.L2.Dts.drp {G : Hp} : ∀ {vs : List V} {ds : List D} (n : Nat), Dts G vs ds → Dts G (vs.drop n) (ds.drop n)
 | _, _, 0, h => h
 | _, _, _ + 1, .nil => .nil
 | _, _, n + 1, .cons _ b => Dts.drp n b
theorem _root_.L2.Dts.tak {G : Hp} : ∀ {vs : List V} {ds : List D} (n : Nat), Dts G vs ds → Dts G (vs.take n) (ds.take n)
 | _, _, 0, _ => .nil
 | _, _, _ + 1, .nil => .nil
 | _, _, n + 1, .cons a b => .cons a (Dts.tak n b)
noncomputable def oQ (o : Option D) (k : D → Prop) : Prop := match o with
 | some d => k d
 | none => False
theorem oQ_out {o : Option D} {k : D → Prop} (h : oQ o k) : ∃ d, o = some d ∧ k d := by
 cases o with
 | none => exact h.elim
 | some d => exact ⟨d, rfl, h⟩
noncomputable def mC (d : D) : ME := fun Γ Q => Q d Γ
noncomputable def mVar (i : Nat) : ME := fun Γ Q => match Γ[i]? with
 | some (.val d) => Q d Γ
 | _ => False
noncomputable def mI0 (g : Int → Int → D) (ma mb : ME) : ME := fun Γ Q => ma Γ fun x Γ1 => mb Γ1 fun y Γ2 => match x, y with
 | .int i, .int j => Q (g i j) Γ2
 | _, _ => False
noncomputable def mI (C : Int → Int → Prop) (g : Int → Int → D) (ma mb : ME) : ME := fun Γ Q => ma Γ fun x Γ1 => mb Γ1 fun y Γ2 => match x, y with
 | .int i, .int j => C i j ∧ Q (g i j) Γ2
 | _, _ => False
noncomputable def mU (g : Int → D) (ma : ME) : ME := fun Γ Q => ma Γ fun x Γ1 => match x with
 | .int i => Q (g i) Γ1
 | _ => False
noncomputable def mEq (ma mb : ME) : ME := fun Γ Q => ma Γ fun x Γ1 => mb Γ1 fun y Γ2 => Good x ∧ Good y ∧ Q (.bool (PyData.eqv x y)) Γ2
noncomputable def mNe (ma mb : ME) : ME := fun Γ Q => ma Γ fun x Γ1 => mb Γ1 fun y Γ2 => Good x ∧ Good y ∧ Q (.bool (!PyData.eqv x y)) Γ2
noncomputable def isN : D → Bool
 | .none => true
 | _ => false
noncomputable def mIsN (ma : ME) : ME := fun Γ Q => ma Γ fun x Γ1 => Q (.bool (isN x)) Γ1
noncomputable def mNotN (ma : ME) : ME := fun Γ Q => ma Γ fun x Γ1 => Q (.bool (!isN x)) Γ1
noncomputable def mAndV (ma mb : ME) : ME := fun Γ Q => ma Γ fun x Γ1 => match x with
 | .bool c => if c = true then mb Γ1 Q else Q (.bool false) Γ1
 | _ => False
noncomputable def mOrV (ma mb : ME) : ME := fun Γ Q => ma Γ fun x Γ1 => match x with
 | .bool c => if c = true then Q (.bool true) Γ1 else mb Γ1 Q
 | _ => False
noncomputable def mNotV (ma : ME) : ME := fun Γ Q => ma Γ fun x Γ1 => match x with
 | .bool c => Q (.bool (!c)) Γ1
 | _ => False
noncomputable def mTst (ma : ME) : MT := fun Γ Q => ma Γ fun x Γ1 => match x with
 | .bool c => Q c Γ1
 | _ => False
noncomputable def mAnd (ma mb : MT) : MT := fun Γ Q => ma Γ fun c Γ1 => if c = true then mb Γ1 Q else Q false Γ1
noncomputable def mOr (ma mb : MT) : MT := fun Γ Q => ma Γ fun c Γ1 => if c = true then Q true Γ1 else mb Γ1 Q
noncomputable def mNot (ma : MT) : MT := fun Γ Q => ma Γ fun c Γ1 => Q (!c) Γ1
noncomputable def mIfE (mc : MT) (ma mb : ME) : ME := fun Γ Q => mc Γ fun c Γ1 => if c = true then ma Γ1 Q else mb Γ1 Q
noncomputable def mIfO (mc : MT) (ma mb : MO) : MO := fun Γ Q => mc Γ fun c Γ1 => if c = true then ma Γ1 Q else mb Γ1 Q
noncomputable def mNil : MD := fun Γ Q => Q [] Γ
noncomputable def mCons (ma : ME) (mr : MD) : MD := fun Γ Q => ma Γ fun x Γ1 => mr Γ1 fun xs Γ2 => Q (x :: xs) Γ2
noncomputable def aNil : MA := fun Γ Q => Q [] Γ
noncomputable def aVal (ma : ME) (mr : MA) : MA := fun Γ Q => ma Γ fun x Γ1 => mr Γ1 fun xs Γ2 => Q (.val x :: xs) Γ2
noncomputable def aPen (i : Nat) (mr : MA) : MA := fun Γ Q => match Γ[i]? with
 | some .pen => mr Γ fun xs Γ2 => Q (.pen :: xs) Γ2
 | _ => False
noncomputable def mTup (md : MD) : ME := fun Γ Q => md Γ fun ds Γ1 => ds.length ≤ 1000 ∧ Q (.tuple ds) Γ1
noncomputable def mLst (md : MD) : MO := fun Γ Q => md Γ fun ds Γ1 => ds.length ≤ 1000 ∧ Q (.own ds) Γ1
noncomputable def ixD : D → D → Option D
 | .tuple ds, .int i => atI ds i
 | .list ds, .int i => atI ds i
 | _, _ => none
noncomputable def mIx (ma mb : ME) : ME := fun Γ Q => ma Γ fun x Γ1 => mb Γ1 fun y Γ2 => oQ (ixD x y) fun d => Q d Γ2
noncomputable def nbQ : Rv → Prop → Prop
 | .box B, p => B.view.isSome = true ∧ p
 | _, p => p
noncomputable def mPub (mo : MO) : ME := fun Γ Q => mo Γ fun rv Γ1 => nbQ rv (Q rv.d Γ1)
noncomputable def mVal (m : ME) : MO := fun Γ Q => m Γ fun d Γ1 => Q (.val d) Γ1
noncomputable def mMove (i : Nat) : MO := fun Γ Q => match Γ[i]? with
 | some (.val d) => Q (.val d) Γ
 | some (.own ds) => Q (.own ds) (Γ.set i .no)
 | some (.box B) => Q (.box B) (Γ.set i .no)
 | _ => False
noncomputable def mCall (n : Nat) (f : Fm) (ma : MA) : MO := fun Γ Q => ma Γ fun as Γ1 => as.length = n ∧ f as fun rv => Q rv Γ1
noncomputable def lenD : D → Option D
 | .tuple ds => some (.int ds.length)
 | .list ds => some (.int ds.length)
 | _ => none
noncomputable def mLen (ma : ME) : ME := fun Γ Q => ma Γ fun x Γ1 => oQ (lenD x) fun d => Q d Γ1
noncomputable def itemsD : D → Option (List D)
 | .tuple ds => some ds
 | .list ds => some ds
 | _ => none
noncomputable def mListOf (ma : ME) : MO := fun Γ Q => ma Γ fun x Γ1 => match itemsD x with
 | some ds => Q (.own ds) Γ1
 | none => False
noncomputable def cutD (xs : List D) (lo hi : Option Int) : List D := (xs.drop (HT.sIx xs.length 0 lo)).take (HT.sIx xs.length xs.length hi - HT.sIx xs.length 0 lo)
abbrev MP := En → (Option Int → En → Prop) → Prop
noncomputable def pNo : MP := fun Γ Q => Q none Γ
noncomputable def pSo (m : ME) : MP := fun Γ Q => m Γ fun x Γ1 => match x with
 | .int i => Q (some i) Γ1
 | _ => False
noncomputable def mSlL (ma : ME) (ml mh : MP) : MO := fun Γ Q => ma Γ fun x Γ1 => ml Γ1 fun lo Γ2 => mh Γ2 fun hi Γ3 => match x with
 | .list ds => Q (.own (cutD ds lo hi)) Γ3
 | _ => False
noncomputable def mCat (ma mb : ME) : MO := fun Γ Q => ma Γ fun x Γ1 => mb Γ1 fun y Γ2 => match x, y with
 | .list ds, .list es => ds.length + es.length ≤ 1000 ∧ Q (.own (ds ++ es)) Γ2
 | _, _ => False
noncomputable def VP (P0 : Addr → Hp → Prop) (t : TO) (m : MP) : Prop := ∀ (F : Fra P0) (Γ : En) (σ : St) (G H : Hp) (Q : Option Int → Hp → Prop) (Qm : Option Int → En → Prop), R F Γ σ G H → m Γ Qm →
 (∀ d Γ' G' H', Qm d Γ' → Same G G' → R F Γ' σ G' H' → Q d H') → t σ H Q
section
variable {ta tb tc : TE} {ma mb : ME} {tA tB' : TT} {mA mB : MT} {K : PySem.W.Frag}
theorem vt_c {v : V} {d : D} (h : ∀ G, Dt G v d) : VT P0 (tC v) (mC d) := fun _ _ _ G _ _ _ r m k => k _ _ _ _ _ m (Same.refl _) r (h G)
theorem vt_var {i : Nat} : VT P0 (tVar i) (mVar i) := by
 intro F Γ σ G H Q Qm r m k
 unfold mVar at m
 split at m
 ·rename_i d e
  obtain ⟨v, e1, d1⟩ := r.sl i _ e
  exact ⟨v, e1, k _ _ _ _ _ m (Same.refl _) r d1⟩
 ·exact m.elim
theorem vt_2 {r2 : R2} {m2 : D → D → (D → Prop) → Prop} (ha : VT P0 ta ma) (hb : VT P0 tb mb)
  (h : ∀ (F : Fra P0) (Γ : En) (σ : St) (G H : Hp) (x y : V) (d e : D) (Q : VK) (Qm : D → Prop), R F Γ σ G H → Dt G x d → Dt G y e → m2 d e Qm → (∀ u r G' H', Qm u → Same G G' → R F Γ σ G' H' → Dt G' r u → Q r H') → r2 x y H Q) :
  VT P0 (tOp r2 ta tb) (fun Γ Q => ma Γ fun x Γ1 => mb Γ1 fun y Γ2 => m2 x y fun d => Q d Γ2) := by
 intro F Γ σ G H Q Qm r m k
 refine ha F Γ σ G H _ _ r m fun d Γ1 x G1 H1 m1 s1 r1 d1 => ?_
 refine hb F Γ1 σ G1 H1 _ _ r1 m1 fun e Γ2 y G2 H2 m2 s2 r2 d2 => ?_
 exact h F Γ2 σ G2 H2 x y d e _ _ r2 (Dt.same s2 _ _ d1) d2 m2 fun u w G3 H3 q s3 r3 d3 => k _ _ _ _ _ q ((s1.trans s2).trans s3) r3 d3
theorem vt_i0 {gv : Int → Int → V} {g : Int → Int → D} (hg : ∀ G i j, Dt G (gv i j) (g i j)) (ha : VT P0 ta ma) (hb : VT P0 tb mb) : VT P0 (tOp (rI0 gv) ta tb) (mI0 g ma mb) := by
 refine vt_2 (m2 := fun x y Q => match x, y with | .int i, .int j => Q (g i j) | _, _ => False) ha hb fun F Γ σ G H x y d e Q Qm r d1 d2 m k => ?_
 split at m
 ·cases d1; cases d2
  exact ⟨_, _, rfl, rfl, k _ _ _ _ m (Same.refl _) r (hg _ _ _)⟩
 ·exact m.elim
theorem vt_i {C : Int → Int → Prop} {gv : Int → Int → V} {g : Int → Int → D} (hg : ∀ G i j, Dt G (gv i j) (g i j)) (ha : VT P0 ta ma) (hb : VT P0 tb mb) : VT P0 (tOp (rI C gv) ta tb) (mI C g ma mb) := by
 refine vt_2 (m2 := fun x y Q => match x, y with | .int i, .int j => C i j ∧ Q (g i j) | _, _ => False) ha hb fun F Γ σ G H x y d e Q Qm r d1 d2 m k => ?_
 split at m
 ·cases d1; cases d2
  exact ⟨_, _, rfl, rfl, m.1, k _ _ _ _ m.2 (Same.refl _) r (hg _ _ _)⟩
 ·exact m.elim
theorem vt_u {gv : Int → V} {g : Int → D} (hg : ∀ G i, Dt G (gv i) (g i)) (ha : VT P0 ta ma) : VT P0 (tUn (rU gv) ta) (mU g ma) := by
 intro F Γ σ G H Q Qm r m k
 refine ha F Γ σ G H _ _ r m fun d Γ1 x G1 H1 m1 s1 r1 d1 => ?_
 split at m1
 ·cases d1
  exact ⟨_, rfl, k _ _ _ _ _ m1 s1 r1 (hg _ _)⟩
 ·exact m1.elim
theorem vt_eq (ha : VT P0 ta ma) (hb : VT P0 tb mb) : VT P0 (tOp rEqD ta tb) (mEq ma mb) := by
 refine vt_2 (m2 := fun x y Q => Good x ∧ Good y ∧ Q (.bool (PyData.eqv x y))) ha hb fun F Γ σ G H x y d e Q Qm r d1 d2 m k => ?_
 exact ⟨d, e, Dt.same r.fr.sub _ _ d1, Dt.same r.fr.sub _ _ d2, m.1, m.2.1, k _ _ _ _ m.2.2 (Same.refl _) r (.bl _)⟩
theorem vt_ne (ha : VT P0 ta ma) (hb : VT P0 tb mb) : VT P0 (tOp rNeD ta tb) (mNe ma mb) := by
 refine vt_2 (m2 := fun x y Q => Good x ∧ Good y ∧ Q (.bool (!PyData.eqv x y))) ha hb fun F Γ σ G H x y d e Q Qm r d1 d2 m k => ?_
 exact ⟨d, e, Dt.same r.fr.sub _ _ d1, Dt.same r.fr.sub _ _ d2, m.1, m.2.1, k _ _ _ _ m.2.2 (Same.refl _) r (.bl _)⟩
theorem isN_of {G : Hp} {x : V} {d : D} (h : Dt G x d) : decide (x = V.non) = isN d := by
 cases h <;> first | rfl | exact decide_eq_false (by intro z; cases z)
theorem vt_isN (ha : VT P0 ta ma) : VT P0 (tOp (fun x y H Q => y = .non ∧ Q (.bl (decide (x = .non))) H) ta (tC .non)) (mIsN ma) := by
 intro F Γ σ G H Q Qm r m k
 refine ha F Γ σ G H _ _ r m fun d Γ1 x G1 H1 m1 s1 r1 d1 => ⟨rfl, ?_⟩
 rw [isN_of d1]
 exact k _ _ _ _ _ m1 s1 r1 (.bl _)
theorem vt_and (ha : VT P0 ta ma) (hb : VT P0 tb mb) : VT P0 (tAndV ta tb) (mAndV ma mb) := by
 intro F Γ σ G H Q Qm r m k
 refine ha F Γ σ G H _ _ r m fun d Γ1 x G1 H1 m1 s1 r1 d1 => ?_
 split at m1
 ·rename_i c
  cases d1
  refine ⟨c, rfl, ?_⟩
  cases c with
  | true => exact iteT (hb F Γ1 σ G1 H1 _ _ r1 m1 fun e Γ2 y G2 H2 m2 s2 r2 d2 => k _ _ _ _ _ m2 (s1.trans s2) r2 d2)
  | false => exact iteF (k _ _ _ _ _ m1 s1 r1 (.bl _))
 ·exact m1.elim
theorem vt_not (ha : VT P0 ta ma) : VT P0 (tNotV ta) (mNotV ma) := by
 intro F Γ σ G H Q Qm r m k
 refine ha F Γ σ G H _ _ r m fun d Γ1 x G1 H1 m1 s1 r1 d1 => ?_
 split at m1
 ·cases d1
  exact ⟨_, rfl, k _ _ _ _ _ m1 s1 r1 (.bl _)⟩
 ·exact m1.elim
theorem vtt_val (ha : VT P0 ta ma) : VTT P0 (tTest ta) (mTst ma) := by
 intro F Γ σ G H Q Qm r m k
 refine ha F Γ σ G H _ _ r m fun d Γ1 x G1 H1 m1 s1 r1 d1 => ?_
 split at m1
 ·cases d1
  exact ⟨_, rfl, k _ _ _ _ m1 s1 r1⟩
 ·exact m1.elim
theorem vtt_b (ha : VT P0 ta ma) : VTT P0 (tB ta) (mTst ma) := vtt_val ha
theorem vtt_and (ha : VTT P0 tA mA) (hb : VTT P0 tB' mB) : VTT P0 (tAnd tA tB') (mAnd mA mB) := by
 intro F Γ σ G H Q Qm r m k
 refine ha F Γ σ G H _ _ r m fun c Γ1 G1 H1 m1 s1 r1 => ?_
 cases c with
 | true => exact iteT (hb F Γ1 σ G1 H1 _ _ r1 m1 fun e Γ2 G2 H2 m2 s2 r2 => k _ _ _ _ m2 (s1.trans s2) r2)
 | false => exact iteF (k _ _ _ _ m1 s1 r1)
theorem vtt_or (ha : VTT P0 tA mA) (hb : VTT P0 tB' mB) : VTT P0 (tOr tA tB') (mOr mA mB) := by
 intro F Γ σ G H Q Qm r m k
 refine ha F Γ σ G H _ _ r m fun c Γ1 G1 H1 m1 s1 r1 => ?_
 cases c with
 | true => exact iteT (k _ _ _ _ m1 s1 r1)
 | false => exact iteF (hb F Γ1 σ G1 H1 _ _ r1 m1 fun e Γ2 G2 H2 m2 s2 r2 => k _ _ _ _ m2 (s1.trans s2) r2)
theorem vtt_not (ha : VTT P0 tA mA) : VTT P0 (tNot tA) (mNot mA) := by
 intro F Γ σ G H Q Qm r m k
 exact ha F Γ σ G H _ _ r m fun c Γ1 G1 H1 m1 s1 r1 => k _ _ _ _ m1 s1 r1
theorem vo_ifE {oa ob : MO} (hc : VTT P0 tA mA) (ha : VO P0 ta oa) (hb : VO P0 tb ob) : VO P0 (tIf tA ta tb) (mIfO mA oa ob) := by
 intro F Γ σ G H Q Qm r m k
 refine hc F Γ σ G H _ _ r m fun c Γ1 G1 H1 m1 s1 r1 => ?_
 cases c with
 | true => exact iteT (ha F Γ1 σ G1 H1 _ _ r1 m1 fun e Γ2 y G2 H2 m2 s2 r2 d2 a2 => k _ _ _ _ _ m2 (s1.trans s2) r2 d2 a2)
 | false => exact iteF (hb F Γ1 σ G1 H1 _ _ r1 m1 fun e Γ2 y G2 H2 m2 s2 r2 d2 a2 => k _ _ _ _ _ m2 (s1.trans s2) r2 d2 a2)
theorem vd_nil : VD P0 tNil mNil := fun _ _ _ _ _ _ _ r m k => k _ _ _ _ _ m (Same.refl _) r .nil
theorem vd_cons {tr : TA} {mr : MD} (ha : VT P0 ta ma) (hr : VD P0 tr mr) : VD P0 (tCons ta tr) (mCons ma mr) := by
 intro F Γ σ G H Q Qm r m k
 refine ha F Γ σ G H _ _ r m fun d Γ1 x G1 H1 m1 s1 r1 d1 => ?_
 exact hr F Γ1 σ G1 H1 _ _ r1 m1 fun e Γ2 y G2 H2 m2 s2 r2 d2 => k _ _ _ _ _ m2 (s1.trans s2) r2 (.cons (Dt.same s2 _ _ d1) d2)
theorem ArgOk.same {F : Fra P0} {G G' : Hp} (g : Same G G') {r : V} : ∀ {s : Sl}, ArgOk F G r s → ArgOk F G' r s
 | .val _, h => Dt.same g _ _ h
 | .pen, h => h
 | .con _, h => h
 | .pub B, h => B.mono g h
 | .no, h => h.elim
 | .own _, h => h.elim
 | .box _, h => h.elim
theorem va_nil : VA P0 tNil aNil := fun _ _ _ _ _ _ _ r m k => k _ _ _ _ _ m (Same.refl _) r .nil
theorem va_val {tr : TA} {mr : MA} (ha : VT P0 ta ma) (hr : VA P0 tr mr) : VA P0 (tCons ta tr) (aVal ma mr) := by
 intro F Γ σ G H Q Qm r m k
 refine ha F Γ σ G H _ _ r m fun d Γ1 x G1 H1 m1 s1 r1 d1 => ?_
 exact hr F Γ1 σ G1 H1 _ _ r1 m1 fun e Γ2 y G2 H2 m2 s2 r2 d2 => k _ _ _ _ _ m2 (s1.trans s2) r2 (.cons (Dt.same s2 _ _ d1) d2)
theorem vt_tup {t : TA} {md : MD} (h : VD P0 t md) : VT P0 (tTup t) (mTup md) := by
 intro F Γ σ G H Q Qm r m k
 refine h F Γ σ G H _ _ r m fun ds Γ1 xs G1 H1 m1 s1 r1 d1 => ⟨small_le (by rw [d1.len]; exact m1.1), fun p hp => ?_⟩
 have g := same_new (r1.fr.gfresh hp) (.tup xs)
 exact k _ _ _ _ _ m1.2 (s1.trans g) (r1.new hp) (.tup upd_same (Dts.same g _ _ d1))
theorem SlF.det {F : Fra P0} {G H : Hp} {x : Option (Option V)} {fp fp' : List Addr} : ∀ {s : Sl}, SlF F G H x fp s → SlF F G H x fp' s → fp = fp'
 | .no, h, g => (show fp = [] from h).trans (show fp' = [] from g).symm
 | .val _, h, g => h.1.trans g.1.symm
 | .pen, h, g => h.1.trans g.1.symm
 | .con _, h, g => h.1.trans g.1.symm
 | .pub _, h, g => h.1.trans g.1.symm
 | .own _, h, g => by
  obtain ⟨p, vs, e, e1, _⟩ := h
  obtain ⟨q, ws, f, f1, _⟩ := g
  rw [e1] at f1; cases f1
  rw [e, f]
 | .box B, h, g => by
  obtain ⟨v, e1, e2, _⟩ := h
  obtain ⟨v', f1, f2, _⟩ := g
  rw [e1] at f1; cases f1
  exact B.uniq e2 f2
theorem R.before {F : Fra P0} {Γ : En} {σ : St} {G H G' H' : Hp} (r : R F Γ σ G H) (g : Same G G') (k : ∀ b o, F.H0 b = none → G b = none → H b = some o → G' b = none ∧ H' b = some o) {i : Nat} {s : Sl} {fp : List Addr} (e : Γ[i]? = some s) (h : SlF F G' H' σ[i]? fp s) : ∀ b ∈ fp, ∃ o, H b = some o := by
 obtain ⟨fps, h1, h2⟩ := r.fps
 have h0 := h1 i s e
 have h3 : SlF F G' H' σ[i]? (fps i) s := h0.go g fun b hb => by
  obtain ⟨m1, m2, o, m3⟩ := h0.mine hb
  obtain ⟨k1, k2⟩ := k b o m1 m2 m3
  exact ⟨k1, k2.trans m3.symm⟩
 rw [h.det h3]
 exact fun b hb => (h0.mine hb).2.2
theorem Apart.new {F : Fra P0} {Γ : En} {σ : St} {G H G' H' : Hp} (r : R F Γ σ G H) {p : Addr} (hp : H p = none) {ds : List D} (g : Same G G') (k : ∀ b o, F.H0 b = none → G b = none → H b = some o → G' b = none ∧ H' b = some o) : Apart F Γ σ G' H' (.ref p) (.own ds) := by
 intro i s fp e h q eq hq
 cases eq
 obtain ⟨o, eo⟩ := r.before g k e h p hq
 rw [hp] at eo; cases eo
theorem Apart.newB {F : Fra P0} {Γ : En} {σ : St} {G H G' H' : Hp} (r : R F Γ σ G H) {v : V} {B : Bx} (hp : ∀ fp, B.P v fp G' H' → ∀ b ∈ fp, H b = none) (g : Same G G') (k : ∀ b o, F.H0 b = none → G b = none → H b = some o → G' b = none ∧ H' b = some o) : Apart F Γ σ G' H' v (.box B) := by
 intro i s fp f e h hf b hb hc
 obtain ⟨o, eo⟩ := r.before g k e h b hc
 rw [hp f hf b hb] at eo; cases eo
theorem own_new {F : Fra P0} {Γ : En} {σ : St} {G H : Hp} (r : R F Γ σ G H) {p : Addr} {xs : List V} {ds : List D} (hp : H p = none) (d : Dts G xs ds) :
  R F Γ σ G (upd H p (.lst xs)) ∧ RvO F G (upd H p (.lst xs)) (.ref p) (.own ds) ∧ Apart F Γ σ G (upd H p (.lst xs)) (.ref p) (.own ds) :=
 ⟨r.newP hp, ⟨p, xs, rfl, r.fr.fresh hp, r.fr.gfresh hp, upd_same, d⟩, Apart.new r hp (Same.refl _) fun b o _ g e => ⟨g, by rw [upd_ne (ne_of_none e hp)]; exact e⟩⟩
theorem vo_lst {t : TA} {md : MD} (h : VD P0 t md) : VO P0 (tLst t) (mLst md) := by
 intro F Γ σ G H Q Qm r m k
 refine h F Γ σ G H _ _ r m fun ds Γ1 xs G1 H1 m1 s1 r1 d1 => ⟨small_le (by rw [d1.len]; exact m1.1), fun p hp => ?_⟩
 obtain ⟨a, b, c⟩ := own_new r1 hp d1
 exact k _ _ _ _ _ m1.2 s1 a b c
theorem vt_pub {mo : MO} (h : VO P0 ta mo) : VT P0 ta (mPub mo) := by
 intro F Γ σ G H Q Qm r m k
 refine h F Γ σ G H _ _ r m fun rv Γ1 x G1 H1 m1 s1 r1 d1 a1 => ?_
 cases rv with
 | val d => exact k _ _ _ _ _ m1 s1 r1 d1
 | own ds =>
  obtain ⟨G2, s2, r2, d2⟩ := r1.give d1 a1
  exact k _ _ _ _ _ m1 (s1.trans s2) r2 d2
 | box B =>
  obtain ⟨hv, m1⟩ := m1
  obtain ⟨d, hd⟩ := Option.isSome_iff_exists.mp hv
  obtain ⟨G2, s2, r2, d2⟩ := r1.giveB d1 a1 hd
  have m1 : Qm (B.view.getD .none) Γ1 := m1
  rw [hd] at m1
  exact k _ _ _ _ _ m1 (s1.trans s2) r2 d2
theorem vo_val (h : VT P0 ta ma) : VO P0 ta (mVal ma) := by
 intro F Γ σ G H Q Qm r m k
 exact h F Γ σ G H _ _ r m fun d Γ1 x G1 H1 m1 s1 r1 d1 => k _ _ _ _ _ m1 s1 r1 d1 trivial
theorem R.apart {F : Fra P0} {Γ : En} {σ : St} {G H : Hp} (r : R F Γ σ G H) {i j : Nat} {s t : Sl} {fp fq : List Addr} (hij : i ≠ j) (ei : Γ[i]? = some s) (ej : Γ[j]? = some t) (hi : SlF F G H σ[i]? fp s) (hj : SlF F G H σ[j]? fq t) : ∀ b ∈ fp, b ∉ fq := by
 obtain ⟨fps, h1, h2⟩ := r.fps
 rw [hi.det (h1 i s ei), hj.det (h1 j t ej)]
 exact h2 i j s t ei ej hij
theorem vo_move {i : Nat} : VO P0 (tVar i) (mMove i) := by
 intro F Γ σ G H Q Qm r m k
 have other : ∀ {j : Nat} {s s0 : Sl} {fp fq : List Addr}, Γ[i]? = some s0 → SlF F G H σ[i]? fp s0 → (Γ.set i .no)[j]? = some s → SlF F G H σ[j]? fq s → ∀ b ∈ fp, b ∉ fq := by
  intro j s s0 fp fq e h ej hj b hb hc
  by_cases hij : i = j
  ·subst hij
   have hi : i < Γ.length := (List.getElem?_eq_some_iff.mp e).1
   rw [List.getElem?_set_self hi] at ej
   cases ej
   rw [show fq = [] from hj] at hc; cases hc
  ·rw [List.getElem?_set_ne hij] at ej
   exact r.apart hij e ej h hj b hb hc
 unfold mMove at m
 split at m
 ·rename_i d e
  obtain ⟨v, e1, d1⟩ := r.sl i _ e
  exact ⟨v, e1, k _ _ _ _ _ m (Same.refl _) r d1 trivial⟩
 ·rename_i ds e
  obtain ⟨p, vs, e1, e2⟩ := r.sl i _ e
  refine ⟨_, e1, k _ _ _ _ _ m (Same.refl _) (r.drop i) ⟨p, vs, rfl, e2⟩ fun j s fp ej hj q eq hq => ?_⟩
  cases eq
  exact other e (fp := [p]) ⟨p, vs, rfl, e1, e2⟩ ej hj p (List.mem_singleton.mpr rfl) hq
 ·rename_i B e
  obtain ⟨v, fp, e1, e2, e3⟩ := r.sl i _ e
  refine ⟨_, e1, k _ _ _ _ _ m (Same.refl _) (r.drop i) ⟨fp, e2, e3⟩ fun j s fq f ej hj hf b hb => ?_⟩
  rw [B.uniq hf e2] at hb
  exact other e (fp := fp) ⟨v, e1, e2, e3⟩ ej hj b hb
 ·exact m.elim
theorem vt_ix (ha : VT P0 ta ma) (hb : VT P0 tb mb) : VT P0 (tOp (rIx K) ta tb) (mIx ma mb) := by
 refine vt_2 (m2 := fun x y Q => oQ (ixD x y) Q) ha hb fun F Γ σ G H x y d e Q Qm r d1 d2 m k => ?_
 obtain ⟨u, hu, q⟩ := oQ_out m
 unfold ixD at hu
 split at hu
 ·rename_i ds i
  cases d2
  cases d1 with
  | @tup p xs _ hp rs =>
   obtain ⟨j, h1, h2⟩ : ∃ j, ixN ds.length i = some j ∧ ds[j]? = some u := by
    unfold atI at hu
    cases e : ixN ds.length i with
    | none => rw [e] at hu; cases hu
    | some j => rw [e] at hu; exact ⟨j, rfl, hu⟩
   obtain ⟨v, hv, dv⟩ := Dts.get rs h2
   refine .inr (.inl ⟨p, xs, i, v, rfl, rfl, SqT.of (r.fr.sub _ _ hp), ?_, k _ _ _ _ q (Same.refl _) r dv⟩)
   unfold atI
   rw [rs.len, h1]
   exact hv
 ·rename_i ds i
  cases d2
  cases d1 with
  | @lst p xs _ hp rs =>
   obtain ⟨j, h1, h2⟩ : ∃ j, ixN ds.length i = some j ∧ ds[j]? = some u := by
    unfold atI at hu
    cases e : ixN ds.length i with
    | none => rw [e] at hu; cases hu
    | some j => rw [e] at hu; exact ⟨j, rfl, hu⟩
   obtain ⟨v, hv, dv⟩ := Dts.get rs h2
   refine .inl ⟨p, xs, i, v, rfl, rfl, SqL.of (r.fr.sub _ _ hp), ?_, k _ _ _ _ q (Same.refl _) r dv⟩
   unfold atI
   rw [rs.len, h1]
   exact hv
 ·cases hu
theorem vt_cb1 {rr : List V → Hp → VK → Prop} {m1 : D → (D → Prop) → Prop} (ha : VT P0 ta ma)
  (h : ∀ (F : Fra P0) (Γ : En) (σ : St) (G H : Hp) (x : V) (d : D) (Q : VK) (Qm : D → Prop), R F Γ σ G H → Dt G x d → m1 d Qm → (∀ u r G' H', Qm u → Same G G' → R F Γ σ G' H' → Dt G' r u → Q r H') → rr [x] H Q) :
  VT P0 (tCB rr (tCons ta tNil)) (fun Γ Q => ma Γ fun x Γ1 => m1 x fun d => Q d Γ1) := by
 intro F Γ σ G H Q Qm r m k
 refine ha F Γ σ G H _ _ r m fun d Γ1 x G1 H1 m1 s1 r1 d1 => ?_
 exact h F Γ1 σ G1 H1 x d _ _ r1 d1 m1 fun u w G3 H3 q s3 r3 d3 => k _ _ _ _ _ q (s1.trans s3) r3 d3
theorem vt_cb2 {rr : List V → Hp → VK → Prop} {m2 : D → D → (D → Prop) → Prop} (ha : VT P0 ta ma) (hb : VT P0 tb mb)
  (h : ∀ (F : Fra P0) (Γ : En) (σ : St) (G H : Hp) (x y : V) (d e : D) (Q : VK) (Qm : D → Prop), R F Γ σ G H → Dt G x d → Dt G y e → m2 d e Qm → (∀ u r G' H', Qm u → Same G G' → R F Γ σ G' H' → Dt G' r u → Q r H') → rr [x, y] H Q) :
  VT P0 (tCB rr (tCons ta (tCons tb tNil))) (fun Γ Q => ma Γ fun x Γ1 => mb Γ1 fun y Γ2 => m2 x y fun d => Q d Γ2) := by
 intro F Γ σ G H Q Qm r m k
 refine ha F Γ σ G H _ _ r m fun d Γ1 x G1 H1 m1 s1 r1 d1 => ?_
 refine hb F Γ1 σ G1 H1 _ _ r1 m1 fun e Γ2 y G2 H2 m2 s2 r2 d2 => ?_
 exact h F Γ2 σ G2 H2 x y d e _ _ r2 (Dt.same s2 _ _ d1) d2 m2 fun u w G3 H3 q s3 r3 d3 => k _ _ _ _ _ q ((s1.trans s2).trans s3) r3 d3
theorem vt_len (ha : VT P0 ta ma) : VT P0 (tCB (fun xs H Q => ∃ p ys, xs = [.ref p] ∧ (SqL K H p ys ∨ SqT K H p ys) ∧ Q (.int ys.length) H) (tCons ta tNil)) (mLen ma) := by
 refine vt_cb1 (m1 := fun x Q => oQ (lenD x) Q) ha fun F Γ σ G H x d Q Qm r d1 m k => ?_
 obtain ⟨u, hu, q⟩ := oQ_out m
 unfold lenD at hu
 split at hu
 ·cases hu
  cases d1 with
  | @tup p xs _ hp rs => exact ⟨p, xs, rfl, .inr (SqT.of (r.fr.sub _ _ hp)), by rw [rs.len]; exact k _ _ _ _ q (Same.refl _) r (.int _)⟩
 ·cases hu
  cases d1 with
  | @lst p xs _ hp rs => exact ⟨p, xs, rfl, .inl (SqL.of (r.fr.sub _ _ hp)), by rw [rs.len]; exact k _ _ _ _ q (Same.refl _) r (.int _)⟩
 ·cases hu
noncomputable def mAbs (ma : ME) : ME := fun Γ Q => ma Γ fun x Γ1 => match x with
 | .int i => Q (.int (if i < 0 then -i else i)) Γ1
 | _ => False
theorem vt_abs (ha : VT P0 ta ma) : VT P0 (tCB (fun xs H Q => ∃ i, xs = [.int i] ∧ Q (.int (if i < 0 then -i else i)) H) (tCons ta tNil)) (mAbs ma) := by
 refine vt_cb1 (m1 := fun x Q => match x with | .int i => Q (.int (if i < 0 then -i else i)) | _ => False) ha fun F Γ σ G H x d Q Qm r d1 m k => ?_
 split at m
 ·cases d1
  exact ⟨_, rfl, k _ _ _ _ m (Same.refl _) r (.int _)⟩
 ·exact m.elim
noncomputable def mInt1 (ma : ME) : ME := fun Γ Q => ma Γ fun x Γ1 => match x with
 | .int i => Q (.int i) Γ1
 | .bool b => Q (.int (if b then 1 else 0)) Γ1
 | _ => False
theorem vt_int1 (ha : VT P0 ta ma) : VT P0 (tCB (fun xs H Q => (∃ i, xs = [.int i] ∧ Q (.int i) H) ∨ ∃ k, xs = [.bl k] ∧ Q (.int (if k then 1 else 0)) H) (tCons ta tNil)) (mInt1 ma) := by
 refine vt_cb1 (m1 := fun x Q => match x with | .int i => Q (.int i) | .bool b => Q (.int (if b then 1 else 0)) | _ => False) ha fun F Γ σ G H x d Q Qm r d1 m k => ?_
 split at m
 ·cases d1
  exact .inl ⟨_, rfl, k _ _ _ _ m (Same.refl _) r (.int _)⟩
 ·cases d1
  exact .inr ⟨_, rfl, k _ _ _ _ m (Same.refl _) r (.int _)⟩
 ·exact m.elim
noncomputable def m2I (g : Int → Int → Int) (ma mb : ME) : ME := fun Γ Q => ma Γ fun x Γ1 => mb Γ1 fun y Γ2 => match x, y with
 | .int i, .int j => Q (.int (g i j)) Γ2
 | _, _ => False
theorem vt_2I {g : Int → Int → Int} (ha : VT P0 ta ma) (hb : VT P0 tb mb) : VT P0 (tCB (fun xs H Q => ∃ i j, xs = [.int i, .int j] ∧ Q (.int (g i j)) H) (tCons ta (tCons tb tNil))) (m2I g ma mb) := by
 refine vt_cb2 (m2 := fun x y Q => match x, y with | .int i, .int j => Q (.int (g i j)) | _, _ => False) ha hb fun F Γ σ G H x y d e Q Qm r d1 d2 m k => ?_
 split at m
 ·cases d1; cases d2
  exact ⟨_, _, rfl, k _ _ _ _ m (Same.refl _) r (.int _)⟩
 ·exact m.elim
theorem vo_listOf (ha : VT P0 ta ma) : VO P0 (tCB (fun xs H Q => ∃ p ys, xs = [.ref p] ∧ (SqL K H p ys ∨ SqT K H p ys) ∧ ∀ l, H l = none → Q (.ref l) (upd H l (.lst ys))) (tCons ta tNil)) (mListOf ma) := by
 intro F Γ σ G H Q Qm r m k
 refine ha F Γ σ G H _ _ r m fun d Γ1 x G1 H1 m1 s1 r1 d1 => ?_
 split at m1
 ·rename_i ds e
  cases d1 <;> simp only [itemsD] at e <;> try (cases e)
  ·rename_i p xs hp rs
   refine ⟨p, xs, rfl, .inr (SqT.of (r1.fr.sub _ _ hp)), fun l hl => ?_⟩
   obtain ⟨a, b, c⟩ := own_new r1 hl rs
   exact k _ _ _ _ _ m1 s1 a b c
  ·rename_i p xs hp rs
   refine ⟨p, xs, rfl, .inl (SqL.of (r1.fr.sub _ _ hp)), fun l hl => ?_⟩
   obtain ⟨a, b, c⟩ := own_new r1 hl rs
   exact k _ _ _ _ _ m1 s1 a b c
 ·exact m1.elim
theorem vp_no : VP P0 tNoPart pNo := fun _ _ _ _ _ _ _ r m k => k _ _ _ _ m (Same.refl _) r
theorem vp_so (ha : VT P0 ta ma) : VP P0 (tPart ta) (pSo ma) := by
 intro F Γ σ G H Q Qm r m k
 refine ha F Γ σ G H _ _ r m fun d Γ1 x G1 H1 m1 s1 r1 d1 => ?_
 split at m1
 ·cases d1
  exact ⟨_, rfl, k _ _ _ _ m1 s1 r1⟩
 ·exact m1.elim
theorem _root_.L2.Dts.cut {G : Hp} {vs : List V} {ds : List D} (h : Dts G vs ds) (lo hi : Option Int) : Dts G (cutV vs lo hi) (cutD ds lo hi) := by
 unfold cutV cutD
 rw [h.len]
 exact Dts.tak _ (Dts.drp _ h)
theorem vo_slL {tl th : TO} {ml mh : MP} (ha : VT P0 ta ma) (hl : VP P0 tl ml) (hh : VP P0 th mh) : VO P0 (tSl (rSlL K) ta tl th) (mSlL ma ml mh) := by
 intro F Γ σ G H Q Qm r m k
 refine ha F Γ σ G H _ _ r m fun d Γ1 x G1 H1 m1 s1 r1 d1 => ?_
 refine hl F Γ1 σ G1 H1 _ _ r1 m1 fun lo Γ2 G2 H2 m2 s2 r2 => ?_
 refine hh F Γ2 σ G2 H2 _ _ r2 m2 fun hi Γ3 G3 H3 m3 s3 r3 => ?_
 split at m3
 ·have d1 := Dt.same (s2.trans s3) _ _ d1
  cases d1 with
  | @lst p xs _ hp rs =>
   refine ⟨p, xs, rfl, SqL.of (r3.fr.sub _ _ hp), fun l hl => ?_⟩
   obtain ⟨a, b, c⟩ := own_new r3 hl (rs.cut lo hi)
   exact k _ _ _ _ _ m3 ((s1.trans s2).trans s3) a b c
 ·exact m3.elim
noncomputable def spM (P0 : Addr → Hp → Prop) (n : Nat) (f : Fm) : Sp := fun vs H Q _ => ∃ (F : Fra P0) (as : List Sl) (Qm : Rv → Prop), F.H0 = H ∧ Rf F F.G0 H ∧ Paired (ArgOk F F.G0) vs as ∧ as.length = n ∧ f as Qm ∧
 ∀ rv r G' H', Qm rv → Rf F G' H' → RvO F G' H' r rv → Q r H'
noncomputable def Fra.sub (F : Fra P0) {G H : Hp} (r : Rf F G H) : Fra P0 where
 H0 := H
 G0 := G
 pen := F.pen
 stab := fun p e H1 H2 h => F.stab p e H1 H2 fun b o e => let ⟨o', e'⟩ := r.dom e; h b o' e'
 pin := F.pin
 pin0 := fun p e => F.pin p e H (r.pn p e)
 pg := fun p e => by
  obtain ⟨o, e0⟩ := F.pin0 p e
  rw [r.g0 p o e0]
  exact F.pg p e
theorem Fra.subRf (F : Fra P0) {G H : Hp} (r : Rf F G H) : Rf (F.sub r) G H := ⟨r.sub, fun _ _ _ => rfl, fun _ _ e _ => e, r.pn⟩
theorem Rf.back {F : Fra P0} {G H G' H' : Hp} (r : Rf F G H) (h : Rf (F.sub r) G' H') : Rf F G' H' ∧ Same G G' := by
 refine ⟨⟨h.sub, fun b o e => ?_, fun b o e hb => ?_, h.pn⟩, fun b o e => ?_⟩
 ·obtain ⟨o', e'⟩ := r.dom e
  exact (h.g0 b o' e').trans (r.g0 b o e)
 ·exact h.h0 b o (r.h0 b o e hb) hb
 ·exact (h.g0 b o (r.sub b o e)).trans e
theorem Fra.pen_ne (F : Fra P0) {p : Addr} (h : F.H0 p = none) : F.pen ≠ some p := fun e => by
 obtain ⟨o, e0⟩ := F.pin0 p e
 rw [h] at e0; cases e0
theorem R.after {F : Fra P0} {Γ : En} {σ : St} {G H G' H' : Hp} (r : R F Γ σ G H) (h : Rf (F.sub r.fr) G' H') : R F Γ σ G' H' ∧ Same G G' := by
 obtain ⟨a, b⟩ := r.fr.back h
 refine ⟨r.keep a b fun p u _ e1 e2 e3 => ⟨(h.g0 p _ e3).trans e2, h.h0 p _ e3 (F.pen_ne e1)⟩, b⟩
theorem vo_call {n : Nat} {f : Fm} {t : TA} {m : MA} {E : XK} (h : VA P0 t m) : VO P0 (tCall (spM P0 n f) [] E t) (mCall n f m) := by
 intro F Γ σ G H Q Qm r hm k
 refine h F Γ σ G H _ _ r hm fun as Γ1 rs G1 H1 m1 s1 r1 d1 => ?_
 refine ⟨F.sub r1.fr, as, fun rv => Qm rv Γ1, rfl, F.subRf r1.fr, ?_, m1.1, m1.2, fun rv v G2 H2 q f2 v2 => ?_⟩
 ·rw [List.append_nil]
  exact Paired.imp' (fun a s h => by cases s <;> exact h) d1
 ·obtain ⟨r2, s2⟩ := r1.after f2
  refine k _ _ _ _ _ q (s1.trans s2) r2 ?_ ?_
  ·cases rv with
   | val d => exact v2
   | own ds =>
    obtain ⟨p, vs, e, e1, e2, e3, e4⟩ := v2
    exact ⟨p, vs, e, r1.fr.fresh e1, e2, e3, e4⟩
   | box B =>
    obtain ⟨fp, e1, e2⟩ := v2
    exact ⟨fp, e1, fun b hb => ⟨r1.fr.fresh (e2 b hb).1, (e2 b hb).2⟩⟩
  ·have kp : ∀ b o, F.H0 b = none → G1 b = none → H1 b = some o → G2 b = none ∧ H2 b = some o := fun b o h1 h2 h3 => ⟨(f2.g0 b _ h3).trans h2, f2.h0 b _ h3 (F.pen_ne h1)⟩
   cases rv with
   | val d => trivial
   | own ds =>
    obtain ⟨p, vs, rfl, e1, e2, e3, e4⟩ := v2
    exact Apart.new r1 e1 s2 kp
   | box B =>
    obtain ⟨fp, e1, e2⟩ := v2
    exact Apart.newB r1 (fun f hf b hb => by rw [B.uniq hf e1] at hb; exact (e2 b hb).1) s2 kp
end
end L2.VS
namespace L2.VS
open PySem PySem.Spec PyProof.Rows
variable {P0 : Addr → Hp → Prop} {A : Nat → Bool}
noncomputable def gN (i : Nat) : MG := fun d Γ Q => Q (Γ.set i (.val d))
noncomputable def gsNil : MGs := fun ds Γ Q => match ds with
 | [] => Q Γ
 | _ => False
noncomputable def gsCons (g : MG) (gs : MGs) : MGs := fun ds Γ Q => match ds with
 | d :: r => g d Γ fun Γ1 => gs r Γ1 Q
 | [] => False
noncomputable def gT (n : Nat) (gs : MGs) : MG := fun d Γ Q => match d with
 | .tuple ds => ds.length = n ∧ gs ds Γ Q
 | _ => False
theorem set_off {i : Nat} {v : Option V} {σ : St} (hA : A i = true) : ∀ j, A j = false → (σ.set i v)[j]? = σ[j]? := fun j hj => List.getElem?_set_ne (fun z => by rw [z, hj] at hA; cases hA)
theorem vg_name {i : Nat} (hA : A i = true := by rfl) : VG P0 A (gName i) (gN i) := fun _ _ _ _ _ _ _ _ _ r h m k => k _ _ m (r.setV h) (set_off hA)
theorem vgs_nil : VGs P0 A gNil gsNil := by
 intro F Γ σ G H vs ds Q Qm r h m k
 cases h with
 | nil => exact ⟨rfl, k _ _ m r fun _ _ => rfl⟩
 | cons _ _ => exact m.elim
theorem vgs_cons {g : TG} {gs : TGs} {m : MG} {ms : MGs} (h1 : VG P0 A g m) (h2 : VGs P0 A gs ms) : VGs P0 A (gCons g gs) (gsCons m ms) := by
 intro F Γ σ G H vs ds Q Qm r h hm k
 cases h with
 | nil => exact hm.elim
 | cons a b => exact ⟨_, _, rfl, h1 F Γ σ G H _ _ _ _ r a hm fun Γ1 σ1 m1 r1 e1 => h2 F Γ1 σ1 G H _ _ _ _ r1 b m1 fun Γ2 σ2 m2 r2 e2 => k _ _ m2 r2 fun i hi => (e2 i hi).trans (e1 i hi)⟩
noncomputable def Walk (P0 : Addr → Hp → Prop) (J : It) (G0 : Hp) (ds : List D) : Prop := ∀ (F : Fra P0) (Γ : En) (σ : St) (G H : Hp), Same G0 G → R F Γ σ G H →
 (∀ i d, ds[i]? = some d → J.go i H ∧ ∀ x H', J.yld i H x H' → ∃ G', Same G G' ∧ R F Γ σ G' H' ∧ Dt G' x d) ∧ J.stop ds.length H
noncomputable def VI (P0 : Addr → Hp → Prop) (wi : TI) (m : MD) : Prop := ∀ (F : Fra P0) (Γ : En) (σ : St) (G H : Hp) (Q : It → Hp → Prop) (Qm : List D → En → Prop), R F Γ σ G H → m Γ Qm →
 (∀ ds Γ' J G' H', Qm ds Γ' → Same G G' → R F Γ' σ G' H' → Walk P0 J G' ds → Q J H') → wi σ H Q
noncomputable def mItL (ma : ME) : MD := fun Γ Q => ma Γ fun x Γ1 => match x with
 | .list ds => Q ds Γ1
 | _ => False
noncomputable def mItT (ma : ME) : MD := fun Γ Q => ma Γ fun x Γ1 => match x with
 | .tuple ds => Q ds Γ1
 | _ => False
noncomputable def rangeD (lo : Int) (n : Nat) : List D := (List.range n).map fun (k : Nat) => PyData.int (lo + k)
noncomputable def mRng1 (md : MD) : MD := fun Γ Q => md Γ fun ds Γ1 => match ds with
 | [.int j] => -(2 ^ 62) ≤ j ∧ j < 2 ^ 62 ∧ Q (rangeD 0 j.toNat) Γ1
 | _ => False
noncomputable def mRng2 (md : MD) : MD := fun Γ Q => md Γ fun ds Γ1 => match ds with
 | [.int i, .int j] => (-(2 ^ 62) ≤ i ∧ i < 2 ^ 62 ∧ -(2 ^ 62) ≤ j ∧ j < 2 ^ 62) ∧ Q (rangeD i (j - i).toNat) Γ1
 | _ => False
theorem vi_list {K : PySem.W.Frag} {ta : TE} {ma : ME} (ha : VT P0 ta ma) : VI P0 (iList K ta) (mItL ma) := by
 intro F Γ σ G H Q Qm r m k
 refine ha F Γ σ G H _ _ r m fun d Γ1 x G1 H1 m1 s1 r1 d1 => ?_
 split at m1
 ·cases d1 with
  | @lst p xs ds hp rs =>
   refine ⟨p, rfl, ⟨xs, SqL.of (r1.fr.sub _ _ hp)⟩, k _ _ _ _ _ m1 s1 r1 fun F2 Γ2 σ2 G2 H2 s2 r2 => ⟨fun i d e => ?_, ?_⟩⟩
   ·have hq : H2 p = some (.lst xs) := r2.fr.sub _ _ (s2 _ _ hp)
    obtain ⟨v, ev, dv⟩ := Dts.get rs e
    refine ⟨⟨xs, v, SqL.of hq, ev⟩, fun y H3 hy => ⟨G2, Same.refl _, ?_⟩⟩
    obtain ⟨rfl, hy⟩ := hy
    have := hy xs (SqL.of hq)
    rw [ev] at this
    cases this
    exact ⟨r2, Dt.same s2 _ _ dv⟩
   ·exact ⟨xs, SqL.of (r2.fr.sub _ _ (s2 _ _ hp)), by rw [rs.len]; exact Nat.le_refl _⟩
 ·exact m1.elim
theorem walk_range {G : Hp} (lo : Int) (n : Nat) : Walk P0 (Itr lo n) G (rangeD lo n) := by
 intro F Γ σ G2 H2 _ r
 have hl : (rangeD lo n).length = n := by simp [rangeD]
 refine ⟨fun i d e => ?_, by rw [hl]; exact Nat.le_refl _⟩
 have hi : i < n := by have := (List.getElem?_eq_some_iff.mp e).1; omega
 refine ⟨hi, fun x H' hy => ?_⟩
 obtain ⟨rfl, rfl⟩ := hy
 refine ⟨G2, Same.refl _, r, ?_⟩
 unfold rangeD at e
 rw [List.getElem?_map, List.getElem?_range hi] at e
 cases e
 exact .int _
theorem vi_rng1 {t : TA} {md : MD} (h : VD P0 t md) : VI P0 (iRng1 t) (mRng1 md) := by
 intro F Γ σ G H Q Qm r m k
 refine h F Γ σ G H _ _ r m fun ds Γ1 xs G1 H1 m1 s1 r1 d1 => ?_
 split at m1
 ·rename_i j
  cases d1 with
  | cons a b =>
   cases a; cases b
   exact ⟨j, rfl, m1.1, m1.2.1, k _ _ _ _ _ m1.2.2 s1 r1 (walk_range _ _)⟩
 ·exact m1.elim
noncomputable def mNx : MS := fun Γ Q => Q (.nx Γ)
noncomputable def mSeq (a b : MS) : MS := fun Γ Q => a Γ fun fl => match fl with
 | .nx Γ1 => b Γ1 Q
 | fl => Q fl
noncomputable def mDrop (m : ME) : MS := fun Γ Q => m Γ fun _ Γ1 => Q (.nx Γ1)
noncomputable def mSet (i : Nat) (m : MO) : MS := fun Γ Q => m Γ fun rv Γ1 => Q (.nx (Γ1.set i rv.sl))
noncomputable def mAsg (m : ME) (g : MG) : MS := fun Γ Q => m Γ fun d Γ1 => g d Γ1 fun Γ2 => Q (.nx Γ2)
noncomputable def mPar (i j : Nat) (m : MD) : MS := fun Γ Q => m Γ fun ds Γ1 => match ds with
 | [d, e] => Q (.nx ((Γ1.set i (.val d)).set j (.val e)))
 | _ => False
noncomputable def mRet (m : MO) : MS := fun Γ Q => m Γ fun rv _ => Q (.rt rv)
noncomputable def mRetN : MS := fun _ Q => Q (.rt (.val .none))
noncomputable def mIf (c : MT) (a b : MS) : MS := fun Γ Q => c Γ fun k Γ1 => if k = true then a Γ1 Q else b Γ1 Q
noncomputable def mNever : MS := fun _ _ => False
noncomputable def forL (g : MG) (b : MS) : List D → En → (Fl → Prop) → Prop
 | [], Γ, Q => Q (.nx Γ)
 | d :: ds, Γ, Q => g d Γ fun Γ1 => b Γ1 fun fl => match fl with
  | .nx Γ2 => forL g b ds Γ2 Q
  | .ct Γ2 => forL g b ds Γ2 Q
  | .bk Γ2 => Q (.nx Γ2)
  | .rt rv => Q (.rt rv)
noncomputable def mFor (mi : MD) (g : MG) (b : MS) : MS := fun Γ Q => mi Γ fun ds Γ1 => forL g b ds Γ1 Q
noncomputable def mWhile (c : MT) (b : MS) : MS := fun Γ Q => ∃ W : Nat → En → Prop, (∃ n, W n Γ) ∧ ∀ n Γ, W n Γ → c Γ fun k Γ1 => if k = true then b Γ1 fun fl => match fl with
  | .nx Γ2 => ∃ n', n' < n ∧ W n' Γ2
  | .ct Γ2 => ∃ n', n' < n ∧ W n' Γ2
  | .bk Γ2 => Q (.nx Γ2)
  | .rt rv => Q (.rt rv)
 else Q (.nx Γ1)
noncomputable def mAppend (i : Nat) (m : ME) : MS := fun Γ Q => match Γ[i]? with
 | some (.own _) => m Γ fun d Γ1 => match Γ1[i]? with
  | some (.own ds) => ds.length < 1000 ∧ Q (.nx (Γ1.set i (.own (ds ++ [d]))))
  | _ => False
 | _ => False
noncomputable def mClear (i : Nat) : MS := fun Γ Q => match Γ[i]? with
 | some (.own _) => Q (.nx (Γ.set i (.own [])))
 | _ => False
noncomputable def mPubS (i : Nat) (m : MS) : MS := fun Γ Q => match Γ[i]? with
 | some (.own ds) => m (Γ.set i (.val (.list ds))) Q
 | _ => m Γ Q
theorem vs_nx : VSA P0 A tNext mNx := fun _ _ _ _ _ _ _ r m k => k _ m _ _ _ (Same.refl _) r fun _ _ => rfl
theorem vs_never : VSA P0 A tNever mNever := fun _ _ _ _ _ _ _ _ m _ => m.elim
theorem vs_seq {t u : TS} {a b : MS} (ha : VSA P0 A t a) (hb : VSA P0 A u b) : VSA P0 A (tSeq t u) (mSeq a b) := by
 intro F Γ σ G H E Qm r m k
 refine ha F Γ σ G H _ _ r m fun fl q => ?_
 cases fl with
 | nx Γ1 => exact fun σ1 G1 H1 s1 r1 e1 => hb F Γ1 σ1 G1 H1 E Qm r1 q fun fl q => (k fl q).same s1 e1
 | rt rv => exact k _ q
 | bk Γ1 => exact k _ q
 | ct Γ1 => exact k _ q
theorem vs_set {i : Nat} {t : TE} {m : MO} (h : VO P0 t m) (hA : A i = true := by rfl) : VSA P0 A (tAsg t (gName i)) (mSet i m) := by
 intro F Γ σ G H E Qm r hm k
 exact h F Γ σ G H _ _ r hm fun rv Γ1 x G1 H1 m1 s1 r1 d1 a1 => k _ m1 _ _ _ s1 (r1.set d1 a1) (set_off hA)
theorem vs_asg {t : TE} {g : TG} {m : ME} {mg : MG} (h : VT P0 t m) (hg : VG P0 A g mg) : VSA P0 A (tAsg t g) (mAsg m mg) := by
 intro F Γ σ G H E Qm r hm k
 exact h F Γ σ G H _ _ r hm fun d Γ1 x G1 H1 m1 s1 r1 d1 => hg F Γ1 σ G1 H1 x d _ _ r1 d1 m1 fun Γ2 σ2 m2 r2 e2 => k _ m2 _ _ _ s1 r2 e2
theorem vs_par {i j : Nat} {t : TA} {m : MD} (h : VD P0 t m) (hA : A i = true := by rfl) (hB : A j = true := by rfl) : VSA P0 A (tPar i j t) (mPar i j m) := by
 intro F Γ σ G H E Qm r hm k
 refine h F Γ σ G H _ _ r hm fun ds Γ1 x G1 H1 m1 s1 r1 d1 => ?_
 split at m1
 ·cases d1 with
  | cons a b =>
   cases b with
   | cons b c =>
    cases c
    exact ⟨_, _, rfl, k _ m1 _ _ _ s1 ((r1.setV a).setV b) fun q hq => (set_off hB q hq).trans (set_off hA q hq)⟩
 ·exact m1.elim
theorem vs_ret {t : TE} {m : MO} (h : VO P0 t m) : VSA P0 A (tRet t) (mRet m) := by
 intro F Γ σ G H E Qm r hm k
 exact h F Γ σ G H _ _ r hm fun rv Γ1 x G1 H1 m1 s1 r1 d1 _ => k _ m1 _ _ _ s1 r1.fr d1
theorem vs_if {c : TT} {t u : TS} {mc : MT} {a b : MS} (hc : VTT P0 c mc) (ha : VSA P0 A t a) (hb : VSA P0 A u b) : VSA P0 A (tIfS c t u) (mIf mc a b) := by
 intro F Γ σ G H E Qm r m k
 refine hc F Γ σ G H _ _ r m fun k1 Γ1 G1 H1 m1 s1 r1 => ?_
 cases k1 with
 | true => exact iteT (ha F Γ1 σ G1 H1 E Qm r1 m1 fun fl q => (k fl q).same s1 fun _ _ => rfl)
 | false => exact iteF (hb F Γ1 σ G1 H1 E Qm r1 m1 fun fl q => (k fl q).same s1 fun _ _ => rfl)
theorem vs_while {c : TT} {t : TS} {mc : MT} {b : MS} (hc : VTT P0 c mc) (hb : VSA P0 A t b) : VSA P0 A (tWhile c t) (mWhile mc b) := by
 intro F Γ σ G H E Qm r m k
 obtain ⟨W, ⟨n0, w0⟩, turn⟩ := m
 refine ⟨fun n σ1 H1 => ∃ Γ1 G1, Same G G1 ∧ R F Γ1 σ1 G1 H1 ∧ W n Γ1 ∧ ∀ i, A i = false → σ1[i]? = σ[i]?, ⟨n0, Γ, G, Same.refl _, r, w0, fun _ _ => rfl⟩, ?_⟩
 rintro n σ1 H1 ⟨Γ1, G1, s1, r1, w1, e1⟩
 refine hc F Γ1 σ1 G1 H1 _ _ r1 (turn n Γ1 w1) fun k2 Γ2 G2 H2 m2 s2 r2 => ?_
 cases k2 with
 | true =>
  refine iteT ⟨_, fun _ _ h => h, ?_⟩
  refine hb F Γ2 σ1 G2 H2 _ _ r2 m2 fun fl q => ?_
  cases fl with
  | nx Γ3 =>
   obtain ⟨n', hn, w3⟩ := q
   exact fun σ3 G3 H3 s3 r3 e3 => ⟨n', hn, Γ3, G3, (s1.trans s2).trans s3, r3, w3, fun i hi => (e3 i hi).trans (e1 i hi)⟩
  | ct Γ3 =>
   obtain ⟨n', hn, w3⟩ := q
   exact fun σ3 G3 H3 s3 r3 e3 => ⟨n', hn, Γ3, G3, (s1.trans s2).trans s3, r3, w3, fun i hi => (e3 i hi).trans (e1 i hi)⟩
  | bk Γ3 => exact fun σ3 G3 H3 s3 r3 e3 => k _ q _ _ _ ((s1.trans s2).trans s3) r3 fun i hi => (e3 i hi).trans (e1 i hi)
  | rt rv => exact fun v G3 H3 s3 r3 => k _ q _ _ _ ((s1.trans s2).trans s3) r3
 | false => exact iteF (k _ m2 _ _ _ (s1.trans s2) r2 e1)
theorem vs_for {wi : TI} {g : TG} {t : TS} {mi : MD} {mg : MG} {b : MS} (hi : VI P0 wi mi) (hg : VG P0 A g mg) (hb : VSA P0 A t b) : VSA P0 A (tFor wi g t) (mFor mi mg b) := by
 intro F Γ σ G H E Qm r m k
 refine hi F Γ σ G H _ _ r m fun ds Γ1 J G1 H1 m1 s1 r1 wk => ?_
 refine ⟨fun i n σ2 H2 => n = ds.length - i ∧ i ≤ ds.length ∧ ∃ Γ2 G2, Same G1 G2 ∧ R F Γ2 σ2 G2 H2 ∧ forL mg b (ds.drop i) Γ2 Qm ∧ ∀ i, A i = false → σ2[i]? = σ[i]?, ⟨ds.length, by simp, Nat.zero_le _, Γ1, G1, Same.refl _, r1, m1, fun _ _ => rfl⟩, ?_⟩
 rintro i n σ2 H2 ⟨rfl, hle, Γ2, G2, s2, r2, m2, e2⟩
 obtain ⟨go, stop⟩ := wk F Γ2 σ2 G2 H2 s2 r2
 by_cases hlt : i < ds.length
 ·refine .inr ⟨(go i ds[i] (by simp [hlt])).1, fun σ' H' => ds.length - (i + 1) < ds.length - i ∧ i + 1 ≤ ds.length ∧ ∃ Γ3 G3, Same G1 G3 ∧ R F Γ3 σ' G3 H' ∧ forL mg b (ds.drop (i + 1)) Γ3 Qm ∧ ∀ i, A i = false → σ'[i]? = σ[i]?, fun σ' H' h => ⟨_, h.1, rfl, h.2⟩, fun x H' hy => ?_⟩
  obtain ⟨G3, s3, r3, d3⟩ := (go i ds[i] (by simp [hlt])).2 x H' hy
  rw [List.drop_eq_getElem_cons hlt] at m2
  refine hg F Γ2 σ2 G3 H' x _ _ _ r3 d3 m2 fun Γ4 σ4 m4 r4 e4 => ?_
  refine hb F Γ4 σ4 G3 H' _ _ r4 m4 fun fl q => ?_
  cases fl with
  | nx Γ5 => exact fun σ5 G5 H5 s5 r5 e5 => ⟨by omega, hlt, Γ5, G5, (s2.trans s3).trans s5, r5, q, fun i hi => ((e5 i hi).trans (e4 i hi)).trans (e2 i hi)⟩
  | ct Γ5 => exact fun σ5 G5 H5 s5 r5 e5 => ⟨by omega, hlt, Γ5, G5, (s2.trans s3).trans s5, r5, q, fun i hi => ((e5 i hi).trans (e4 i hi)).trans (e2 i hi)⟩
  | bk Γ5 => exact fun σ5 G5 H5 s5 r5 e5 => k _ q _ _ _ ((s1.trans s2).trans (s3.trans s5)) r5 fun i hi => ((e5 i hi).trans (e4 i hi)).trans (e2 i hi)
  | rt rv => exact fun v G5 H5 s5 r5 => k _ q _ _ _ ((s1.trans s2).trans (s3.trans s5)) r5
 ·have e : i = ds.length := by omega
  subst e
  rw [List.drop_length] at m2
  exact .inl ⟨stop, k _ m2 _ _ _ (s1.trans s2) r2 e2⟩
theorem vs_append {K : PySem.W.Frag} {i : Nat} {t : TE} {m : ME} (h : VT P0 t m) : VSA P0 A (tDrop (tBM K "list" rAppend (tVar i) (tCons t tNil))) (mAppend i m) := by
 intro F Γ σ G H E Qm r hm k
 unfold mAppend at hm
 split at hm
 ·rename_i ds0 e0
  obtain ⟨p, vs, e1, e2, e3, e4, e5⟩ := r.sl i _ e0
  refine ⟨_, e1, .inl ⟨rfl, _, SqL.of e4⟩, ?_⟩
  refine h F Γ σ G H _ _ r hm fun d Γ1 x G1 H1 m1 s1 r1 d1 => ?_
  split at m1
  ·rename_i ds e
   obtain ⟨p', ws, f1, f2, f3, f4, f5⟩ := r1.sl i _ e
   rw [e1] at f1; cases f1
   refine ⟨p, ws, x, rfl, rfl, f4, small1000 (by rw [f5.len]; exact Nat.le_of_lt m1.1), ?_⟩
   exact k _ m1.2 _ _ _ s1 (r1.write e e1 (f5.app (.cons d1 .nil))) fun _ _ => rfl
  ·exact m1.elim
 ·exact hm.elim
theorem R.pub1 {F : Fra P0} {Γ : En} {σ : St} {G H : Hp} (r : R F Γ σ G H) {i : Nat} {ds : List D} (e : Γ[i]? = some (.own ds)) : ∃ G', Same G G' ∧ R F (Γ.set i (.val (.list ds))) σ G' H := by
 obtain ⟨p, vs, e1, e2, e3, e4, e5⟩ := r.sl i _ e
 have hap : Apart F (Γ.set i .no) σ G H (.ref p) (.own ds) := fun j s fp ej hj q eq hq => by
  cases eq
  by_cases hji : i = j
  ·subst hji
   have hi : i < Γ.length := (List.getElem?_eq_some_iff.mp e).1
   rw [List.getElem?_set_self hi] at ej
   cases ej
   rw [show fp = [] from hj] at hq; cases hq
  ·rw [List.getElem?_set_ne hji] at ej
   exact r.apart hji e ej (fp := [p]) ⟨p, vs, rfl, e1, e2, e3, e4, e5⟩ hj p (List.mem_singleton.mpr rfl) hq
 obtain ⟨G', s, r', d'⟩ := (r.drop i).give (ds := ds) ⟨p, vs, rfl, e2, e3, e4, e5⟩ hap
 refine ⟨G', s, ?_⟩
 have q := r'.setV (i := i) d'
 rw [List.set_set] at q
 have hs : σ.set i (some (.ref p)) = σ := by
  apply List.ext_getElem?
  intro j
  by_cases hj : i = j
  ·subst hj
   have hi : i < σ.length := (List.getElem?_eq_some_iff.mp e1).1
   rw [List.getElem?_set_self hi, e1]
  ·rw [List.getElem?_set_ne hj]
 rw [hs] at q
 exact q
theorem vs_pub {i : Nat} {t : TS} {m : MS} (h : VSA P0 A t m) : VSA P0 A t (mPubS i m) := by
 intro F Γ σ G H E Qm r hm k
 unfold mPubS at hm
 split at hm
 ·rename_i ds e
  obtain ⟨G', s, r'⟩ := r.pub1 e
  exact h F _ σ G' H E Qm r' hm fun fl q => (k fl q).same s fun _ _ => rfl
 ·exact h F Γ σ G H E Qm r hm k
noncomputable def mFn (n : Nat) (b : MS) : Fm := fun as Q => b (as ++ List.replicate n .no) fun fl => match fl with
 | .rt rv => Q rv
 | .nx _ => Q (.val .none)
 | _ => False
theorem fn_start {n k : Nat} {N : List Str} {t : TS} {b : MS} (h : VS P0 t b) (hN : N.length = n + k) {vs : List V} {H : Hp} {Q : VK} {E : XK} (hs : spM P0 n (mFn k b) vs H Q E) :
  t { nx := fun _ H' => Q .non H', rt := Q } (start N vs) H := by
 obtain ⟨F, as, Qm, rfl, rf, pr, hl, hm, q⟩ := hs
 have hlen : vs.length = as.length := Paired.length pr
 have get : ∀ {vs : List V} {as : List Sl} {i : Nat} {s : Sl}, Paired (ArgOk F F.G0) vs as → as[i]? = some s → ∃ v, vs[i]? = some v ∧ ArgOk F F.G0 v s := by
  intro vs as i s pr
  induction pr generalizing i with
  | nil => intro e; simp at e
  | cons a b ih =>
   cases i with
   | zero => intro e; simp at e; subst e; exact ⟨_, rfl, a⟩
   | succ i => intro e; simpa using ih (i := i) (by simpa using e)
 have at_ : ∀ {i : Nat} {s : Sl}, (as ++ List.replicate k Sl.no)[i]? = some s → s ≠ .no → ∃ v, (start N vs)[i]? = some (some v) ∧ ArgOk F F.G0 v s := by
  intro i s e hne
  by_cases hi : i < as.length
  ·rw [List.getElem?_append_left hi] at e
   obtain ⟨v, ev, av⟩ := get pr e
   refine ⟨v, ?_, av⟩
   unfold start
   rw [List.getElem?_append_left (by rw [List.length_map]; omega), List.getElem?_map, ev]
   rfl
  ·rw [List.getElem?_append_right (by omega), List.getElem?_replicate] at e
   split at e
   ·cases e; exact absurd rfl hne
   ·cases e
 have r : R F (as ++ List.replicate k .no) (start N vs) F.G0 F.H0 := by
  refine R.of rf ?_ (fun i s e => ?_) (fun i B e => ?_) (fun i j x y _ e _ => ?_)
  ·unfold start
   simp only [List.length_append, List.length_replicate, List.length_map]
   omega
  ·cases s with
   | no => trivial
   | val d =>
    obtain ⟨v, ev, av⟩ := at_ e (by intro z; cases z)
    exact ⟨v, ev, av⟩
   | own ds =>
    obtain ⟨v, ev, av⟩ := at_ e (by intro z; cases z)
    exact av.elim
   | pen =>
    obtain ⟨v, ev, p, rfl, ep⟩ := at_ e (by intro z; cases z)
    exact ⟨p, ev, ep⟩
   | con q =>
    obtain ⟨v, ev, av⟩ := at_ e (by intro z; cases z)
    have av : v = .ref q := av
    rw [av] at ev
    exact ev
   | pub B =>
    obtain ⟨v, ev, av⟩ := at_ e (by intro z; cases z)
    exact ⟨v, ev, av⟩
   | box B =>
    obtain ⟨v, ev, av⟩ := at_ e (by intro z; cases z)
    exact av.elim
  ·obtain ⟨v, ev, av⟩ := at_ e (by intro z; cases z)
   exact av.elim
  ·obtain ⟨v, ev, av⟩ := at_ e (by intro z; cases z)
   exact av.elim
 refine h F _ _ _ _ _ _ r hm fun fl hq => ?_
 cases fl with
 | nx Γ => exact fun σ G' H' _ r' _ => q _ _ _ _ hq r'.fr .non
 | rt rv => exact fun v G' H' _ f' v' => q _ _ _ _ hq f' v'
 | bk Γ => exact hq.elim
 | ct Γ => exact hq.elim
theorem spM_len {n : Nat} {f : Fm} {ps : List Str} (h : ps.length = n) : ∀ vs H Q E, spM P0 n f vs H Q E → vs.length = ps.length := by
 rintro vs H Q E ⟨F, as, Qm, _, _, pr, hl, _⟩
 rw [Paired.length pr, hl, h]
theorem _root_.L2.Fun.okV {P : Program} {w : World} {K : PySem.W.Frag} {mg : Str → Option Value} {base : Heap} {x qual : Str} {st : Stmt} {f : Addr} {fd : FuncData} {N ps : List Str} {k n j : Nat} {b : MS}
  (F : Fun K x qual st f fd) (S : FnScope N ps (defScope st)) (hn : ps.length = n) (hN : N.length = n + j)
  (hbody : ∀ (cdv : Value) (A : Around) (outer : List Env) (s : Shared) (H : Hp) (E : XK), Room k (A.deeper (envOfC qual (defScope st) s.heap.objs.size f cdv)) →
   SsX P0 (cxOf CX0 P w K mg base N qual (defScope st) f cdv A outer s H E).nox (defBody st) b) : FnOk P w K mg base CX0 (k + 1) f fd ps (spM P0 n (mFn j b)) := by
 refine F.ok S (spM_len hn) fun cdv A outer s H vs Q E hr hs => ?_
 obtain ⟨t, h1, h2⟩ := hbody cdv A outer s H E hr
 exact ⟨t, h1, fn_start h2 hN hs⟩
end L2.VS
namespace L2.VS
open PySem PySem.Spec PyProof.Rows
variable {P0 : Addr → Hp → Prop}
noncomputable def kindD : D → String
 | .none => "NoneType"
 | .bool _ => "bool"
 | .int _ => "int"
 | .str _ => "str"
 | .list _ => "list"
 | .tuple _ => "tuple"
 | .dict _ => "dict"
noncomputable def subT (a b : String) : Bool := a == b || (a == "bool" && b == "int")
noncomputable def tyL : List String := ["NoneType", "bool", "int", "str", "list", "tuple", "dict"]
noncomputable def Kit (K : PySem.W.Frag) : Prop := ∀ a ∈ tyL, ∀ b ∈ tyL, PySem.W.kitOne K (.type a) (.type b) = some (subT a b)
theorem Kit.mk' {K : PySem.W.Frag} (h : ∀ a ∈ tyL, ∀ b ∈ tyL, (a == b) = false → PySem.W.kitOne K (.type a) (.type b) = some (a == "bool" && b == "int")) : Kit K := by
 intro a ha b hb
 by_cases e : a = b
 ·subst e
  rw [kit_same]
  simp [subT]
 ·have e' : (a == b) = false := by simpa using e
  rw [h a ha b hb e']
  simp [subT, e']
theorem tyOf_of {K : PySem.W.Frag} {H : Hp} {x : V} {d : D} (h : Dt H x d) : TyOf K H x (.type (kindD d)) ∧ kindD d ∈ tyL := by
 cases h with
 | non => exact ⟨.non, by simp [kindD, tyL]⟩
 | bl b => exact ⟨.bl b, by simp [kindD, tyL]⟩
 | int i => exact ⟨.int i, by simp [kindD, tyL]⟩
 | str x => exact ⟨.str x, by simp [kindD, tyL]⟩
 | tup hp _ => exact ⟨.tup hp, by simp [kindD, tyL]⟩
 | lst hp _ => exact ⟨.lst hp, by simp [kindD, tyL]⟩
 | dic hp _ => exact ⟨.dK hp, by simp [kindD, tyL]⟩
noncomputable def mIsi (n : String) (ma : ME) : ME := fun Γ Q => ma Γ fun x Γ1 => Q (.bool (subT (kindD x) n)) Γ1
theorem vt_isi {K : PySem.W.Frag} {n : String} {ta : TE} {ma : ME} (hk : Kit K) (hn : n ∈ tyL) (ha : VT P0 ta ma) : VT P0 (tCB (rIsi K) (tCons ta (tCons (tC (.ty n)) tNil))) (mIsi n ma) := by
 intro F Γ σ G H Q Qm r m k
 refine ha F Γ σ G H _ _ r m fun d Γ1 x G1 H1 m1 s1 r1 d1 => ?_
 obtain ⟨h1, h2⟩ := tyOf_of (K := K) (Dt.same r1.fr.sub _ _ d1)
 exact ⟨x, .ty n, .type n, _, _, rfl, rfl, h1, hk _ h2 _ hn, k _ _ _ _ _ m1 s1 r1 (.bl _)⟩
section
variable {X : Cx}
structure Goods (ds : List D) : Prop where
 lay : PyData.canLayAll0 ds = true
 dep : PyData.depthAll ds ≤ 59
noncomputable def rInD (neg : Bool) : R2 := fun x y H Q => ∃ dx ds, Dt H x dx ∧ (Dt H y (.list ds) ∨ Dt H y (.tuple ds)) ∧ Good dx ∧ Goods ds ∧ Q (.bl (if neg then !(ds.any fun e => PyData.eqv e dx) else ds.any fun e => PyData.eqv e dx)) H
theorem roomI {u a b : Nat} (h : u + 64 < cLine) (ha : a ≤ 59) : u + 1 + min a b < cLine := by
 have : min a b ≤ a := Nat.min_le_left _ _
 omega
theorem op_inD (hu : X.A.units + 64 < cLine) : OpR X (compareOp .In) (rInD false) := by
 intro pins s σ H x y v u Q I rx ry h
 obtain ⟨dx, ds, ex, ey, gx, gs, q⟩ := h
 obtain ⟨as, r1⟩ := Dt.reads I.hok dx x v ex rx
 rcases ey with ey | ey
 ·obtain ⟨bs, r2⟩ := Dt.reads I.hok _ y u ey ry
  exact SeqAt.in_list_reads r2 r1 gs.lay gx.lay (roomI hu gs.dep) ⟨.bl _, H, I, rfl, q⟩
 ·obtain ⟨bs, r2⟩ := Dt.reads I.hok _ y u ey ry
  exact SeqAt.in_tuple_reads r2 r1 gs.lay gx.lay (roomI hu gs.dep) ⟨.bl _, H, I, rfl, q⟩
noncomputable def mIn (neg : Bool) (ma mb : ME) : ME := fun Γ Q => ma Γ fun x Γ1 => mb Γ1 fun y Γ2 => match itemsD y with
 | some ds => Good x ∧ Goods ds ∧ Q (.bool (if neg then !(ds.any fun e => PyData.eqv e x) else ds.any fun e => PyData.eqv e x)) Γ2
 | none => False
theorem vt_in {neg : Bool} {ta tb : TE} {ma mb : ME} (ha : VT P0 ta ma) (hb : VT P0 tb mb) : VT P0 (tOp (rInD neg) ta tb) (mIn neg ma mb) := by
 refine vt_2 (m2 := fun x y Q => match itemsD y with | some ds => Good x ∧ Goods ds ∧ Q (.bool (if neg then !(ds.any fun e => PyData.eqv e x) else ds.any fun e => PyData.eqv e x)) | none => False) ha hb fun F Γ σ G H x y d e Q Qm r d1 d2 m k => ?_
 split at m
 ·rename_i ds hds
  refine ⟨d, ds, Dt.same r.fr.sub _ _ d1, ?_, m.1, m.2.1, k _ _ _ _ m.2.2 (Same.refl _) r (.bl _)⟩
  have d2 := Dt.same r.fr.sub _ _ d2
  cases d2 <;> simp only [itemsD] at hds <;> try (cases hds)
  ·exact .inr (.tup (by assumption) (by assumption))
  ·exact .inl (.lst (by assumption) (by assumption))
 ·exact m.elim
end
noncomputable def SameU (H H' : Hp) : Prop := ∀ b xs, H b = some (.tup xs) → H' b = some (.tup xs) ∨ ∃ q vs, V.ref q ∈ xs ∧ H q = some (.lst vs)
theorem no_ref {H : Hp} {q : Addr} {vs : List V} (hq : H q = some (.lst vs)) : ∀ (ds : List D) (xs : List V), noLsts ds = true → Dts H xs ds → V.ref q ∉ xs
 | [], xs, _, e, h => by cases e; cases h
 | d :: ds, xs, z, e, h => by
  have z' : noLst d = true ∧ noLsts ds = true := by simpa [noLsts] using z
  cases e with
  | cons e1 e2 =>
   rcases List.mem_cons.mp h with e | e
   ·subst e
    cases e1 with
    | tup hp _ => rw [hq] at hp; cases hp
    | lst hp _ => exact absurd z'.1 (by simp [noLst])
    | dic hp _ => exact absurd z'.1 (by simp [noLst])
   ·exact no_ref hq ds _ z'.2 e2 e
mutual
theorem Dt.sameU {H H' : Hp} (g : SameU H H') : ∀ (d : PyData) (x : V), noLst d = true → Dt H x d → Dt H' x d
 | .none, _, _, e => by cases e; exact .non
 | .bool _, _, _, e => by cases e; exact .bl _
 | .int _, _, _, e => by cases e; exact .int _
 | .str _, _, _, e => by cases e; exact .str _
 | .list _, _, z, _ => absurd z (by simp [noLst])
 | .tuple ds, _, z, e => by
  have z' : noLsts ds = true := by simpa [noLst] using z
  cases e with
  | tup hp rs =>
   rcases g _ _ hp with h | ⟨q, vs, h1, h2⟩
   ·exact .tup h (Dts.sameU g ds _ z' rs)
   ·exact absurd h1 (no_ref h2 ds _ z' rs)
 | .dict _, _, z, _ => absurd z (by simp [noLst])
theorem Dts.sameU {H H' : Hp} (g : SameU H H') : ∀ (ds : List PyData) (xs : List V), noLsts ds = true → Dts H xs ds → Dts H' xs ds
 | [], _, _, e => by cases e; exact .nil
 | d :: ds, _, z, e => by
  have z' : noLst d = true ∧ noLsts ds = true := by simpa [noLsts] using z
  cases e with
  | cons e1 e2 => exact .cons (Dt.sameU g d _ z'.1 e1) (Dts.sameU g ds _ z'.2 e2)
end
noncomputable def pubA : En → En := List.map fun s => match s with
 | .own ds => .val (.list ds)
 | .box B => match B.view with
  | some d => .val d
  | none => match B.pv with
   | some b => .pub b
   | none => .no
 | s => s
noncomputable def mPeek (m : ME) : ME := fun Γ Q => m (pubA Γ) fun d Γ1 => noLst d = true ∧ Γ1 = pubA Γ ∧ Q d Γ
noncomputable def mPeekT (m : MT) : MT := fun Γ Q => m (pubA Γ) fun b Γ1 => Γ1 = pubA Γ ∧ Q b Γ
noncomputable def mPeekO (m : MO) : MO := fun Γ Q => m (pubA Γ) fun rv Γ1 => noLsts (match rv with | .val d => [d] | .own ds => ds | .box _ => [.list []]) = true ∧ Γ1 = pubA Γ ∧ Q rv Γ
noncomputable def OwnA (F : Fra P0) (Γ : En) (σ : St) (G H : Hp) (b : Addr) : Prop := ∃ (i : Nat) (s : Sl) (fp : List Addr), Γ[i]? = some s ∧ SlF F G H σ[i]? fp s ∧ b ∈ fp
section
variable {F : Fra P0} {Γ : En} {σ : St} {G H : Hp}
open Classical in
noncomputable def gPub (F : Fra P0) (Γ : En) (σ : St) (G H : Hp) : Hp := fun b => if OwnA F Γ σ G H b then H b else G b
noncomputable def gBack (F : Fra P0) (Γ : En) (σ : St) (G H : Hp) (G1 : Hp) : Hp := fun b => open Classical in if OwnA F Γ σ G H b then none else G1 b
theorem OwnA.at {b : Addr} (h : OwnA F Γ σ G H b) : F.H0 b = none ∧ G b = none ∧ ∃ o, H b = some o := by
 obtain ⟨i, s, fp, _, e, hb⟩ := h
 exact e.mine hb
theorem OwnA.tup {b : Addr} (h : OwnA F Γ σ G H b) {xs : List V} (e : H b = some (.tup xs)) : ∃ q vs, V.ref q ∈ xs ∧ OwnA F Γ σ G H q ∧ H q = some (.lst vs) := by
 obtain ⟨i, s, fp, e0, e1, hb⟩ := h
 cases s with
 | no => rw [show fp = [] from e1] at hb; cases hb
 | val d => rw [e1.1] at hb; cases hb
 | pen => rw [e1.1] at hb; cases hb
 | con q => rw [e1.1] at hb; cases hb
 | pub B => rw [e1.1] at hb; cases hb
 | own ds =>
  obtain ⟨p, vs, f0, _, _, _, f3, _⟩ := e1
  rw [f0] at hb
  rw [List.mem_singleton.mp hb, f3] at e
  cases e
 | box B =>
  have e1' := e1
  obtain ⟨v, _, h2, _⟩ := e1
  obtain ⟨q, q1, q2, vs, q3⟩ := B.nt h2 b hb xs e
  exact ⟨q, vs, q2, ⟨i, _, fp, e0, e1', q1⟩, q3⟩
theorem R.pubAll (r : R F Γ σ G H) : Same G (gPub F Γ σ G H) ∧ R F (pubA Γ) σ (gPub F Γ σ G H) H := by
 have g : Same G (gPub F Γ σ G H) := fun b o e => by
  unfold gPub
  by_cases h : OwnA F Γ σ G H b
  ·have := h.at.2.1
   rw [e] at this; cases this
  ·rw [if_neg h]; exact e
 have nob : ∀ (i : Nat) s, (pubA Γ)[i]? = some s → (∀ x, s ≠ .own x) ∧ ∀ B, s ≠ .box B := by
  intro i s e
  unfold pubA at e
  rw [List.getElem?_map] at e
  cases e0 : Γ[i]? with
  | none => rw [e0] at e; cases e
  | some s0 =>
   rw [e0] at e
   cases s0 with
   | box B =>
    have e : (match B.view with | some d => Sl.val d | none => match B.pv with | some b => Sl.pub b | none => Sl.no) = s := Option.some.inj e
    cases hv : B.view with
    | none =>
     cases hw : B.pv with
     | none => rw [hv, hw] at e; subst e; exact ⟨fun x z => (nomatch z), fun x z => (nomatch z)⟩
     | some b => rw [hv, hw] at e; subst e; exact ⟨fun x z => (nomatch z), fun x z => (nomatch z)⟩
    | some d => rw [hv] at e; subst e; exact ⟨fun x z => (nomatch z), fun x z => (nomatch z)⟩
   | _ => cases e; exact ⟨fun x z => (nomatch z), fun x z => (nomatch z)⟩
 refine ⟨g, R.of ⟨fun b o e => ?_, fun b o e => ?_, r.fr.h0, r.fr.pn⟩ ?_ (fun i s e => ?_) (fun i B e => (nob i _ e).2 B rfl) (fun i j x y _ e => ((nob i _ e).1 x rfl).elim)⟩
 ·unfold gPub at e
  split at e
  ·exact e
  ·exact r.fr.sub b o e
 ·have h : ¬ OwnA F Γ σ G H b := fun h => by
   have := h.at.1
   rw [e] at this; cases this
  unfold gPub
  rw [if_neg h]
  exact r.fr.g0 b o e
 ·unfold pubA
  rw [List.length_map]
  exact r.len
 ·unfold pubA at e
  rw [List.getElem?_map] at e
  cases e0 : Γ[i]? with
  | none => rw [e0] at e; cases e
  | some s0 =>
   rw [e0] at e
   have h := r.sl i s0 e0
   cases s0 with
   | no => cases e; trivial
   | val d => cases e; obtain ⟨v, e1, d1⟩ := h; exact ⟨v, e1, Dt.same g _ _ d1⟩
   | own ds =>
    cases e
    obtain ⟨p, vs, e1, e2, e3, e4, e5⟩ := h
    refine ⟨_, e1, .lst ?_ (Dts.same g _ _ e5)⟩
    unfold gPub
    rw [if_pos ⟨i, _, [p], e0, ⟨p, vs, rfl, e1, e2, e3, e4, e5⟩, List.mem_singleton.mpr rfl⟩]
    exact e4
   | pen => cases e; exact h
   | con q => cases e; exact h
   | pub B => cases e; obtain ⟨v, e1, e2⟩ := h; exact ⟨v, e1, B.mono g e2⟩
   | box B =>
    have e : (match B.view with | some d => Sl.val d | none => match B.pv with | some b => Sl.pub b | none => Sl.no) = s := Option.some.inj e
    obtain ⟨v, fp, e1, e2, e3⟩ := h
    cases hv : B.view with
    | none =>
     cases hw : B.pv with
     | none => rw [hv, hw] at e; subst e; trivial
     | some b0 =>
      rw [hv, hw] at e
      subst e
      refine ⟨v, e1, B.pok e2 hw g fun b hb => ?_⟩
      unfold gPub
      rw [if_pos ⟨i, _, fp, e0, ⟨v, e1, e2, e3⟩, hb⟩]
    | some d =>
     rw [hv] at e
     subst e
     refine ⟨v, e1, B.vok e2 hv g fun b hb => ?_⟩
     unfold gPub
     rw [if_pos ⟨i, _, fp, e0, ⟨v, e1, e2, e3⟩, hb⟩]
theorem R.backG (r : R F Γ σ G H) {G1 H1 : Hp} (s : Same (gPub F Γ σ G H) G1) (f1 : Rf F G1 H1) :
  (∀ b, OwnA F Γ σ G H b → G1 b = H b ∧ H1 b = H b) ∧ Same G (gBack F Γ σ G H G1) ∧ Rf F (gBack F Γ σ G H G1) H1 ∧ SameU G1 (gBack F Γ σ G H G1) := by
 have s0 := (r.pubAll).1
 have own : ∀ b, OwnA F Γ σ G H b → G1 b = H b ∧ H1 b = H b := fun b h => by
  obtain ⟨_, _, o, e⟩ := h.at
  have q : gPub F Γ σ G H b = H b := by unfold gPub; rw [if_pos h]
  rw [e] at q ⊢
  exact ⟨s b _ q, f1.sub b _ (s b _ q)⟩
 have g : Same G (gBack F Γ σ G H G1) := fun b o e => by
  have h : ¬ OwnA F Γ σ G H b := fun h => by
   have := h.at.2.1
   rw [e] at this; cases this
  unfold gBack
  rw [if_neg h]
  exact s b o (s0 b o e)
 refine ⟨own, g, ⟨fun b o e => ?_, fun b o e => ?_, f1.h0, f1.pn⟩, fun b xs e => ?_⟩
 ·unfold gBack at e
  split at e
  ·cases e
  ·exact f1.sub b o e
 ·have h : ¬ OwnA F Γ σ G H b := fun h => by
   have := h.at.1
   rw [e] at this; cases this
  unfold gBack
  rw [if_neg h]
  exact f1.g0 b o e
 ·by_cases h : OwnA F Γ σ G H b
  ·have e' : H b = some (.tup xs) := by rw [← (own b h).1]; exact e
   obtain ⟨q, vs, q1, q2, q3⟩ := h.tup e'
   exact .inr ⟨q, vs, q1, by rw [(own q q2).1]; exact q3⟩
  ·refine .inl ?_
   unfold gBack
   rw [if_neg h]
   exact e
theorem gBack_own {G1 : Hp} {b : Addr} (h : OwnA F Γ σ G H b) : gBack F Γ σ G H G1 b = none := by
 unfold gBack
 rw [if_pos h]
theorem R.back (r : R F Γ σ G H) {G' H' : Hp} (s : Same (gPub F Γ σ G H) G') (r' : R F (pubA Γ) σ G' H') : Same G (gBack F Γ σ G H G') ∧ R F Γ σ (gBack F Γ σ G H G') H' ∧ SameU G' (gBack F Γ σ G H G') := by
 obtain ⟨own, g, f, t⟩ := r.backG s r'.fr
 obtain ⟨fps, h1, h2⟩ := r.fps
 refine ⟨g, ⟨f, r.len, fps, fun i sl e => (h1 i sl e).go g fun b hb => ?_, h2⟩, t⟩
 have ho : OwnA F Γ σ G H b := ⟨i, sl, fps i, e, h1 i sl e, hb⟩
 exact ⟨gBack_own ho, (own b ho).2⟩
end
theorem vtt_peek {t : TT} {m : MT} (h : VTT P0 t m) : VTT P0 t (mPeekT m) := by
 intro F Γ σ G H Q Qm r hm k
 obtain ⟨s0, r0⟩ := r.pubAll
 refine h F _ σ _ H _ _ r0 hm fun b Γ1 G1 H1 m1 s1 r1 => ?_
 obtain ⟨rfl, q⟩ := m1
 obtain ⟨s2, r2, t2⟩ := r.back s1 r1
 exact k _ _ _ _ q s2 r2
section
variable {ta tb : TE} {ma mb : ME}
abbrev mAdd := mI0 fun i j => PyData.int (i + j)
abbrev mSub := mI0 fun i j => PyData.int (i - j)
abbrev mMul := mI IntMulOk fun i j => PyData.int (i * j)
abbrev mDivX := mI CDivX fun i j => PyData.int (i.fdiv j)
abbrev mMod := mI (fun _ j => 0 < j) fun i j => PyData.int (i % j)
abbrev mNeg := mU fun i => PyData.int (-i)
abbrev mLt := mI0 fun i j => PyData.bool (decide (i < j))
abbrev mGt := mI0 fun i j => PyData.bool (decide (j < i))
theorem vt_add (ha : VT P0 ta ma) (hb : VT P0 tb mb) : VT P0 (tOp (rI0 fun i j => .int (i + j)) ta tb) (mAdd ma mb) := vt_i0 (fun _ _ _ => .int _) ha hb
theorem vt_sub (ha : VT P0 ta ma) (hb : VT P0 tb mb) : VT P0 (tOp (rI0 fun i j => .int (i - j)) ta tb) (mSub ma mb) := vt_i0 (fun _ _ _ => .int _) ha hb
theorem vt_mul (ha : VT P0 ta ma) (hb : VT P0 tb mb) : VT P0 (tOp (rI IntMulOk fun i j => .int (i * j)) ta tb) (mMul ma mb) := vt_i (fun _ _ _ => .int _) ha hb
theorem vt_divX (ha : VT P0 ta ma) (hb : VT P0 tb mb) : VT P0 (tOp (rI CDivX fun i j => .int (i.fdiv j)) ta tb) (mDivX ma mb) := vt_i (fun _ _ _ => .int _) ha hb
theorem vt_mod (ha : VT P0 ta ma) (hb : VT P0 tb mb) : VT P0 (tOp (rI (fun _ j => 0 < j) fun i j => .int (i % j)) ta tb) (mMod ma mb) := vt_i (fun _ _ _ => .int _) ha hb
theorem vt_neg (ha : VT P0 ta ma) : VT P0 (tUn (rU fun i => .int (-i)) ta) (mNeg ma) := vt_u (fun _ _ => .int _) ha
theorem vt_lt (ha : VT P0 ta ma) (hb : VT P0 tb mb) : VT P0 (tOp (rI0 fun i j => .bl (decide (i < j))) ta tb) (mLt ma mb) := vt_i0 (fun _ _ _ => .bl _) ha hb
theorem vt_gt (ha : VT P0 ta ma) (hb : VT P0 tb mb) : VT P0 (tOp (rI0 fun i j => .bl (decide (j < i))) ta tb) (mGt ma mb) := vt_i0 (fun _ _ _ => .bl _) ha hb
abbrev mMax := m2I fun i j => if j > i then j else i
theorem vt_max (ha : VT P0 ta ma) (hb : VT P0 tb mb) : VT P0 (tCB (fun xs H Q => ∃ i j, xs = [.int i, .int j] ∧ Q (.int (if j > i then j else i)) H) (tCons ta (tCons tb tNil))) (mMax ma mb) := vt_2I ha hb
theorem vt_int {i : Int} : VT P0 (tC (.int i)) (mC (.int i)) := vt_c fun _ => .int i
theorem vt_bl {b : Bool} : VT P0 (tC (.bl b)) (mC (.bool b)) := vt_c fun _ => .bl b
theorem vt_str {s : Str} : VT P0 (tC (.str s)) (mC (.str s)) := vt_c fun _ => .str s
theorem vt_non : VT P0 (tC .non) (mC .none) := vt_c fun _ => .non
end
end L2.VS
namespace L2.VS
open PySem PySem.Spec PyProof.Rows
noncomputable def TrueEnd : Fl → Prop := fun fl => fl = .rt (.val (.bool true))
end L2.VS
namespace L2.VS
open PySem PySem.Spec PyProof.Rows LT
section
variable {Γ : En} {i j n : Nat} {d e x y : D} {ma mb : ME} {oa ob : MO} {ta tb : MT} {md : MD} {aa : MA} {sa sb : MS} {g : MG} {gs : MGs} {mp mq : MP}
theorem i_seq {Q : Fl → Prop} (h : sa Γ fun fl => match fl with | .nx Γ1 => sb Γ1 Q | fl => Q fl) : mSeq sa sb Γ Q := h
theorem i_nx {Q : Fl → Prop} (h : Q (.nx Γ)) : mNx Γ Q := h
theorem i_drop {Q : Fl → Prop} (h : ma Γ fun _ Γ1 => Q (.nx Γ1)) : mDrop ma Γ Q := h
theorem i_set {Q : Fl → Prop} (h : oa Γ fun rv Γ1 => Q (.nx (Γ1.set i rv.sl))) : mSet i oa Γ Q := h
theorem i_asg {Q : Fl → Prop} (h : ma Γ fun d Γ1 => g d Γ1 fun Γ2 => Q (.nx Γ2)) : mAsg ma g Γ Q := h
theorem i_par {Q : Fl → Prop} (h : md Γ fun ds Γ1 => match ds with | [d, e] => Q (.nx ((Γ1.set i (.val d)).set j (.val e))) | _ => False) : mPar i j md Γ Q := h
theorem i_ret {Q : Fl → Prop} (h : oa Γ fun rv _ => Q (.rt rv)) : mRet oa Γ Q := h
theorem i_retN {Q : Fl → Prop} (h : Q (.rt (.val .none))) : mRetN Γ Q := h
theorem i_if {Q : Fl → Prop} (h : ta Γ fun k Γ1 => if k = true then sa Γ1 Q else sb Γ1 Q) : mIf ta sa sb Γ Q := h
theorem i_for {Q : Fl → Prop} (h : md Γ fun ds Γ1 => forL g sa ds Γ1 Q) : mFor md g sa Γ Q := h
noncomputable def appK (i : Nat) (d : D) (Γ1 : En) (Q : Fl → Prop) : Prop := match Γ1[i]? with
 | some (.own ds) => ds.length < 1000 ∧ Q (.nx (Γ1.set i (.own (ds ++ [d]))))
 | _ => False
theorem i_append {Q : Fl → Prop} {ds : List D} (h0 : Γ[i]? = some (.own ds)) (h : ma Γ fun d Γ1 => appK i d Γ1 Q) : mAppend i ma Γ Q := by
 unfold mAppend
 rw [h0]
 exact h
theorem i_appK {Q : Fl → Prop} {Γ1 : En} {ds : List D} (h0 : Γ1[i]? = some (.own ds)) (h1 : ds.length < 1000) (h : Q (.nx (Γ1.set i (.own (ds ++ [d]))))) : appK i d Γ1 Q := by
 unfold appK
 rw [h0]
 exact ⟨h1, h⟩
theorem i_clear {Q : Fl → Prop} {ds : List D} (h0 : Γ[i]? = some (.own ds)) (h : Q (.nx (Γ.set i (.own [])))) : mClear i Γ Q := by
 unfold mClear
 rw [h0]
 exact h
theorem i_pubS {Q : Fl → Prop} {ds : List D} (h0 : Γ[i]? = some (.own ds)) (h : sa (Γ.set i (.val (.list ds))) Q) : mPubS i sa Γ Q := by
 unfold mPubS
 rw [h0]
 exact h
theorem i_pubS0 {Q : Fl → Prop} (h0 : Γ[i]? = some (.val d)) (h : sa Γ Q) : mPubS i sa Γ Q := by
 unfold mPubS
 rw [h0]
 exact h
theorem i_c {Q : D → En → Prop} (h : Q d Γ) : mC d Γ Q := h
theorem i_var {Q : D → En → Prop} (h0 : Γ[i]? = some (.val d)) (h : Q d Γ) : mVar i Γ Q := by
 unfold mVar
 rw [h0]
 exact h
theorem i_I0 {f : Int → Int → D} {Q : D → En → Prop} (h : ma Γ fun x Γ1 => mb Γ1 fun y Γ2 => match x, y with | .int i, .int j => Q (f i j) Γ2 | _, _ => False) : mI0 f ma mb Γ Q := h
theorem i_I {C : Int → Int → Prop} {f : Int → Int → D} {Q : D → En → Prop} (h : ma Γ fun x Γ1 => mb Γ1 fun y Γ2 => match x, y with | .int i, .int j => C i j ∧ Q (f i j) Γ2 | _, _ => False) : mI C f ma mb Γ Q := h
theorem i_U {f : Int → D} {Q : D → En → Prop} (h : ma Γ fun x Γ1 => match x with | .int i => Q (f i) Γ1 | _ => False) : mU f ma Γ Q := h
theorem i_abs {Q : D → En → Prop} (h : ma Γ fun x Γ1 => match x with | .int i => Q (.int (if i < 0 then -i else i)) Γ1 | _ => False) : mAbs ma Γ Q := h
theorem i_int1 {Q : D → En → Prop} (h : ma Γ fun x Γ1 => match x with | .int i => Q (.int i) Γ1 | .bool b => Q (.int (if b then 1 else 0)) Γ1 | _ => False) : mInt1 ma Γ Q := h
theorem i_2I {f : Int → Int → Int} {Q : D → En → Prop} (h : ma Γ fun x Γ1 => mb Γ1 fun y Γ2 => match x, y with | .int i, .int j => Q (.int (f i j)) Γ2 | _, _ => False) : m2I f ma mb Γ Q := h
theorem i_eq {Q : D → En → Prop} (h : ma Γ fun x Γ1 => mb Γ1 fun y Γ2 => Good x ∧ Good y ∧ Q (.bool (PyData.eqv x y)) Γ2) : mEq ma mb Γ Q := h
theorem i_ne {Q : D → En → Prop} (h : ma Γ fun x Γ1 => mb Γ1 fun y Γ2 => Good x ∧ Good y ∧ Q (.bool (!PyData.eqv x y)) Γ2) : mNe ma mb Γ Q := h
theorem i_isN {Q : D → En → Prop} (h : ma Γ fun x Γ1 => Q (.bool (isN x)) Γ1) : mIsN ma Γ Q := h
theorem i_notN {Q : D → En → Prop} (h : ma Γ fun x Γ1 => Q (.bool (!isN x)) Γ1) : mNotN ma Γ Q := h
theorem i_andV {Q : D → En → Prop} (h : ma Γ fun x Γ1 => match x with | .bool c => if c = true then mb Γ1 Q else Q (.bool false) Γ1 | _ => False) : mAndV ma mb Γ Q := h
theorem i_orV {Q : D → En → Prop} (h : ma Γ fun x Γ1 => match x with | .bool c => if c = true then Q (.bool true) Γ1 else mb Γ1 Q | _ => False) : mOrV ma mb Γ Q := h
theorem i_notV {Q : D → En → Prop} (h : ma Γ fun x Γ1 => match x with | .bool c => Q (.bool (!c)) Γ1 | _ => False) : mNotV ma Γ Q := h
theorem i_tst {Q : Bool → En → Prop} (h : ma Γ fun x Γ1 => match x with | .bool c => Q c Γ1 | _ => False) : mTst ma Γ Q := h
theorem i_and {Q : Bool → En → Prop} (h : ta Γ fun c Γ1 => if c = true then tb Γ1 Q else Q false Γ1) : mAnd ta tb Γ Q := h
theorem i_or {Q : Bool → En → Prop} (h : ta Γ fun c Γ1 => if c = true then Q true Γ1 else tb Γ1 Q) : mOr ta tb Γ Q := h
theorem i_not {Q : Bool → En → Prop} (h : ta Γ fun c Γ1 => Q (!c) Γ1) : mNot ta Γ Q := h
theorem i_ifE {Q : D → En → Prop} (h : ta Γ fun c Γ1 => if c = true then ma Γ1 Q else mb Γ1 Q) : mIfE ta ma mb Γ Q := h
theorem i_ifO {Q : Rv → En → Prop} (h : ta Γ fun c Γ1 => if c = true then oa Γ1 Q else ob Γ1 Q) : mIfO ta oa ob Γ Q := h
theorem i_nil {Q : List D → En → Prop} (h : Q [] Γ) : mNil Γ Q := h
theorem i_cons {Q : List D → En → Prop} (h : ma Γ fun x Γ1 => md Γ1 fun xs Γ2 => Q (x :: xs) Γ2) : mCons ma md Γ Q := h
theorem i_anil {Q : List Sl → En → Prop} (h : Q [] Γ) : aNil Γ Q := h
theorem i_aval {Q : List Sl → En → Prop} (h : ma Γ fun x Γ1 => aa Γ1 fun xs Γ2 => Q (.val x :: xs) Γ2) : aVal ma aa Γ Q := h
theorem i_apen {Q : List Sl → En → Prop} (h0 : Γ[i]? = some .pen) (h : aa Γ fun xs Γ2 => Q (.pen :: xs) Γ2) : aPen i aa Γ Q := by
 unfold aPen
 rw [h0]
 exact h
theorem i_tup {Q : D → En → Prop} (h : md Γ fun ds Γ1 => ds.length ≤ 1000 ∧ Q (.tuple ds) Γ1) : mTup md Γ Q := h
theorem i_lst {Q : Rv → En → Prop} (h : md Γ fun ds Γ1 => ds.length ≤ 1000 ∧ Q (.own ds) Γ1) : mLst md Γ Q := h
theorem i_ix {Q : D → En → Prop} (h : ma Γ fun x Γ1 => mb Γ1 fun y Γ2 => oQ (ixD x y) fun d => Q d Γ2) : mIx ma mb Γ Q := h
theorem i_len {Q : D → En → Prop} (h : ma Γ fun x Γ1 => oQ (lenD x) fun d => Q d Γ1) : mLen ma Γ Q := h
theorem i_isi {s : String} {Q : D → En → Prop} (h : ma Γ fun x Γ1 => Q (.bool (subT (kindD x) s)) Γ1) : mIsi s ma Γ Q := h
theorem i_pub {Q : D → En → Prop} (h : oa Γ fun rv Γ1 => nbQ rv (Q rv.d Γ1)) : mPub oa Γ Q := h
theorem i_val {Q : Rv → En → Prop} (h : ma Γ fun d Γ1 => Q (.val d) Γ1) : mVal ma Γ Q := h
theorem i_move {Q : Rv → En → Prop} {ds : List D} (h0 : Γ[i]? = some (.own ds)) (h : Q (.own ds) (Γ.set i .no)) : mMove i Γ Q := by
 unfold mMove
 rw [h0]
 exact h
theorem i_moveV {Q : Rv → En → Prop} (h0 : Γ[i]? = some (.val d)) (h : Q (.val d) Γ) : mMove i Γ Q := by
 unfold mMove
 rw [h0]
 exact h
theorem i_call {f : Fm} {Q : Rv → En → Prop} (h : aa Γ fun as Γ1 => as.length = n ∧ f as fun rv => Q rv Γ1) : mCall n f aa Γ Q := h
theorem i_listOf {Q : Rv → En → Prop} (h : ma Γ fun x Γ1 => match itemsD x with | some ds => Q (.own ds) Γ1 | none => False) : mListOf ma Γ Q := h
theorem i_slL {Q : Rv → En → Prop} (h : ma Γ fun x Γ1 => mp Γ1 fun lo Γ2 => mq Γ2 fun hi Γ3 => match x with | .list ds => Q (.own (cutD ds lo hi)) Γ3 | _ => False) : mSlL ma mp mq Γ Q := h
theorem i_pNo {Q : Option Int → En → Prop} (h : Q none Γ) : pNo Γ Q := h
theorem i_pSo {Q : Option Int → En → Prop} (h : ma Γ fun x Γ1 => match x with | .int i => Q (some i) Γ1 | _ => False) : pSo ma Γ Q := h
theorem i_cat {Q : Rv → En → Prop} (h : ma Γ fun x Γ1 => mb Γ1 fun y Γ2 => match x, y with | .list ds, .list es => ds.length + es.length ≤ 1000 ∧ Q (.own (ds ++ es)) Γ2 | _, _ => False) : mCat ma mb Γ Q := h
theorem i_in {neg : Bool} {Q : D → En → Prop} (h : ma Γ fun x Γ1 => mb Γ1 fun y Γ2 => match itemsD y with | some ds => Good x ∧ Goods ds ∧ Q (.bool (if neg then !(ds.any fun e => PyData.eqv e x) else ds.any fun e => PyData.eqv e x)) Γ2 | none => False) : mIn neg ma mb Γ Q := h
theorem i_peek {Q : D → En → Prop} (h : ma (pubA Γ) fun d Γ1 => noLst d = true ∧ Γ1 = pubA Γ ∧ Q d Γ) : mPeek ma Γ Q := h
theorem i_peekT {Q : Bool → En → Prop} (h : ta (pubA Γ) fun b Γ1 => Γ1 = pubA Γ ∧ Q b Γ) : mPeekT ta Γ Q := h
theorem i_peekO {Q : Rv → En → Prop} (h : oa (pubA Γ) fun rv Γ1 => noLsts (match rv with | .val d => [d] | .own ds => ds | .box _ => [.list []]) = true ∧ Γ1 = pubA Γ ∧ Q rv Γ) : mPeekO oa Γ Q := h
theorem i_itL {Q : List D → En → Prop} (h : ma Γ fun x Γ1 => match x with | .list ds => Q ds Γ1 | _ => False) : mItL ma Γ Q := h
theorem i_itT {Q : List D → En → Prop} (h : ma Γ fun x Γ1 => match x with | .tuple ds => Q ds Γ1 | _ => False) : mItT ma Γ Q := h
theorem i_rng1 {Q : List D → En → Prop} (h : md Γ fun ds Γ1 => match ds with | [.int j] => -(2 ^ 62) ≤ j ∧ j < 2 ^ 62 ∧ Q (rangeD 0 j.toNat) Γ1 | _ => False) : mRng1 md Γ Q := h
theorem i_rng2 {Q : List D → En → Prop} (h : md Γ fun ds Γ1 => match ds with | [.int i, .int j] => (-(2 ^ 62) ≤ i ∧ i < 2 ^ 62 ∧ -(2 ^ 62) ≤ j ∧ j < 2 ^ 62) ∧ Q (rangeD i (j - i).toNat) Γ1 | _ => False) : mRng2 md Γ Q := h
theorem i_gN {Q : En → Prop} (h : Q (Γ.set i (.val d))) : gN i d Γ Q := h
theorem i_gT {Q : En → Prop} {ds : List D} (hl : ds.length = n) (h : gs ds Γ Q) : gT n gs (.tuple ds) Γ Q := ⟨hl, h⟩
theorem i_gsNil {Q : En → Prop} (h : Q Γ) : gsNil [] Γ Q := h
theorem i_gsCons {Q : En → Prop} {ds : List D} (h : g d Γ fun Γ1 => gs ds Γ1 Q) : gsCons g gs (d :: ds) Γ Q := h
theorem i_fn {k : Nat} {as : List Sl} {Q : Rv → Prop} (h : sa (as ++ List.replicate k .no) fun fl => match fl with | .rt rv => Q rv | .nx _ => Q (.val .none) | _ => False) : mFn k sa as Q := h
theorem i_oQ {o : Option D} {k : D → Prop} (h0 : o = some d) (h : k d) : oQ o k := by rw [h0]; exact h
structure KOk (I : En → Prop) (Q K : Fl → Prop) : Prop where
 nx : ∀ Γ, I Γ → K (.nx Γ)
 ct : ∀ Γ, I Γ → K (.ct Γ)
 bk : ∀ Γ, Q (.nx Γ) → K (.bk Γ)
 rt : ∀ rv, Q (.rt rv) → K (.rt rv)
theorem for_inv {ds : List D} {Q : Fl → Prop} (I : Nat → En → Prop) (h0 : I 0 Γ) (hs : ∀ i d Γ K, ds[i]? = some d → I i Γ → KOk (I (i + 1)) Q K → g d Γ fun Γ1 => sa Γ1 K) (he : ∀ Γ, I ds.length Γ → Q (.nx Γ)) : forL g sa ds Γ Q := by
 have aux : ∀ (es : List D) (k : Nat) (Γ : En), (∀ i d, es[i]? = some d → ds[k + i]? = some d) → k + es.length = ds.length → I k Γ → forL g sa es Γ Q := by
  intro es
  induction es with
  | nil => intro k Γ _ hl hi; exact he Γ (by rw [← hl]; simpa using hi)
  | cons d es ih =>
   intro k Γ hd hl hi
   have next : ∀ Γ2, I (k + 1) Γ2 → forL g sa es Γ2 Q := fun Γ2 h3 => ih (k + 1) Γ2 (fun i e he' => by
    have := hd (i + 1) e (by simpa using he')
    rw [show k + 1 + i = k + (i + 1) by omega]; exact this) (by rw [← hl, List.length_cons]; omega) h3
   exact hs k d Γ _ (by simpa using hd 0 d rfl) hi ⟨next, next, fun _ h => h, fun _ h => h⟩
 exact aux ds 0 Γ (fun i d h => by simpa using h) (by simp) h0
theorem range_inv {lo : Int} {n : Nat} {Q : Fl → Prop} (I : Nat → En → Prop) (h0 : I 0 Γ) (hs : ∀ i Γ K, i < n → I i Γ → KOk (I (i + 1)) Q K → g (.int (lo + i)) Γ fun Γ1 => sa Γ1 K) (he : ∀ Γ, I n Γ → Q (.nx Γ)) : forL g sa (rangeD lo n) Γ Q := by
 have hl : (rangeD lo n).length = n := by simp [rangeD]
 refine for_inv I h0 (fun i d Γ K e hi hk => ?_) (by rw [hl]; exact he)
 have hi' : i < n := by have := (List.getElem?_eq_some_iff.mp e).1; omega
 unfold rangeD at e
 rw [List.getElem?_map, List.getElem?_range hi'] at e
 cases e
 exact hs i Γ K hi' hi hk
theorem while_inv {Q : Fl → Prop} (I : Nat → En → Prop) (m0 : Nat) (h0 : I m0 Γ) (hs : ∀ m Γ, I m Γ → ta Γ fun k Γ1 => if k = true then sa Γ1 fun fl => match fl with
  | .nx Γ2 => ∃ n', n' < m ∧ I n' Γ2
  | .ct Γ2 => ∃ n', n' < m ∧ I n' Γ2
  | .bk Γ2 => Q (.nx Γ2)
  | .rt rv => Q (.rt rv)
 else Q (.nx Γ1)) : mWhile ta sa Γ Q := ⟨I, ⟨m0, h0⟩, hs⟩
end
theorem iteNT {A B : Prop} (h : B) : if (!true) = true then A else B := iteF h
theorem iteNF {A B : Prop} (h : A) : if (!false) = true then A else B := iteT h
theorem good_int (i : Int) : Good (.int i) := ⟨rfl, by show 0 ≤ 60; decide⟩
theorem good_bool (b : Bool) : Good (.bool b) := ⟨rfl, by show 0 ≤ 60; decide⟩
theorem eqv_int (i j : Int) : PyData.eqv (.int i) (.int j) = decide (i = j) := by
 show (i == j) = _
 exact Bool.beq_eq_decide_eq i j
theorem eqv_bool (i j : Bool) : PyData.eqv (.bool i) (.bool j) = decide (i = j) := by
 show (i == j) = _
 exact Bool.beq_eq_decide_eq i j
section
variable {P : D → Prop} {Γ : En} {Q : D → En → Prop}
end
noncomputable def Gd (n : Nat) (d : D) : Prop := d.canLay0 = true ∧ d.depth ≤ n
theorem Gd.good {n : Nat} {d : D} (h : Gd n d) (hn : n ≤ 60 := by decide) : Good d := ⟨h.1, Nat.le_trans h.2 hn⟩
theorem Gd.mono {n m : Nat} {d : D} (h : Gd n d) (hn : n ≤ m := by decide) : Gd m d := ⟨h.1, Nat.le_trans h.2 hn⟩
theorem gds {n : Nat} : ∀ {ds : List D}, (∀ d ∈ ds, Gd n d) → PyData.canLayAll0 ds = true ∧ PyData.depthAll ds ≤ n
 | [], _ => ⟨rfl, Nat.zero_le _⟩
 | d :: ds, h => by
  have h1 := h d List.mem_cons_self
  have h2 := gds (ds := ds) fun e he => h e (List.mem_cons_of_mem _ he)
  refine ⟨by show (d.canLay0 && PyData.canLayAll0 ds) = true; rw [h1.1, h2.1]; rfl, ?_⟩
  show max d.depth (PyData.depthAll ds) ≤ n
  exact Nat.max_le.mpr ⟨h1.2, h2.2⟩
theorem gd_tup {n : Nat} {ds : List D} (h : ∀ d ∈ ds, Gd n d) : Gd (n + 1) (.tuple ds) := ⟨(gds h).1, Nat.succ_le_succ (gds h).2⟩
theorem gd_lst {n : Nat} {ds : List D} (h : ∀ d ∈ ds, Gd n d) : Gd (n + 1) (.list ds) := ⟨(gds h).1, Nat.succ_le_succ (gds h).2⟩
theorem gd_goods {n : Nat} {ds : List D} (h : ∀ d ∈ ds, Gd n d) (hn : n ≤ 59 := by decide) : Goods ds := ⟨(gds h).1, Nat.le_trans (gds h).2 hn⟩
theorem gd_int (i : Int) : Gd 0 (.int i) := ⟨rfl, Nat.le_refl _⟩
theorem gd_none : Gd 0 .none := ⟨rfl, Nat.le_refl _⟩
theorem gd_str (s : Str) (h : (PyData.str s).canLay0 = true := by decide +kernel) : Gd 0 (.str s) := ⟨h, Nat.le_refl _⟩
theorem good_str (s : Str) (h : (PyData.str s).canLay0 = true := by decide +kernel) : Good (.str s) := (gd_str s h).good
theorem gd_num (q : Rat) : Gd 1 (dNum q) := gd_tup (n := 0) fun d h => by
 rcases List.mem_cons.mp h with rfl | h
 ·exact gd_int _
 ·rw [List.mem_singleton.mp h]; exact gd_int _
theorem gd_line (l : Rat × Rat) : Gd 2 (dLine l) := gd_tup (n := 1) fun d h => by
 rcases List.mem_cons.mp h with rfl | h
 ·exact gd_num _
 ·rw [List.mem_singleton.mp h]; exact gd_num _
theorem eqv_self {d : D} (h : Good d) : PyData.eqv d d = true := SeqAt.eqv_refl d h.lay
theorem isT {d : D} {n : String} {A B : Prop} (h : subT (kindD d) n = true) (a : A) : if subT (kindD d) n = true then A else B := by rw [h]; exact iteT a
theorem isF {d : D} {n : String} {A B : Prop} (h : subT (kindD d) n = false) (b : B) : if subT (kindD d) n = true then A else B := by rw [h]; exact iteF b
theorem isNT {d : D} {n : String} {A B : Prop} (h : subT (kindD d) n = true) (b : B) : if (!subT (kindD d) n) = true then A else B := by rw [h]; exact iteF b
theorem isNF {d : D} {n : String} {A B : Prop} (h : subT (kindD d) n = false) (a : A) : if (!subT (kindD d) n) = true then A else B := by rw [h]; exact iteT a
theorem ix_num0 (q : Rat) : ixD (dNum q) (.int 0) = some (.int q.num) := rfl
theorem ix_num1 (q : Rat) : ixD (dNum q) (.int 1) = some (.int (q.den : Int)) := rfl
theorem ix_line0 (l : Rat × Rat) : ixD (dLine l) (.int 0) = some (dNum l.1) := rfl
theorem ix_line1 (l : Rat × Rat) : ixD (dLine l) (.int 1) = some (dNum l.2) := rfl
end L2.VS
namespace L2
open PySem PySem.Spec PyProof.Rows
noncomputable def clGo (env : Env) : List (Str × NameKind) → List (Str × Addr) → List (Str × Addr)
 | [], cs => cs
 | (n, k) :: r, cs => if (k == .free) = true then clGo env r ((n, (env.cells.lookup n).getD 0) :: cs) else clGo env r cs
theorem clos_go {env : Env} : ∀ (names : List (Str × NameKind)) (cs : List (Str × Addr)), (∀ y ∈ names, y.2 = .free → ∃ c, env.cells.lookup y.1 = some c) →
  (forIn names cs fun (x : Str × NameKind) (r : List (Str × Addr)) => (do
   if (x.2 == NameKind.free) = true then do
    let a ← cellOf env x.1
    pure (ForInStep.yield ((x.1, a) :: r))
   else pure (ForInStep.yield r) : Sem (ForInStep (List (Str × Addr))))) = pure (clGo env names cs)
 | [], cs, _ => rfl
 | (n, k) :: r, cs, h => by
  have ih := fun cs => clos_go (env := env) r cs fun y hy => h y (List.mem_cons_of_mem _ hy)
  rw [List.forIn_cons]
  unfold clGo
  by_cases hk : (k == NameKind.free) = true
  ·obtain ⟨c, hc⟩ := h (n, k) List.mem_cons_self (by simpa using hk)
   have hc' : env.cells.lookup n = some c := hc
   have e : cellOf env n = pure c := by unfold cellOf; rw [hc']
   simp only [hk, if_true, e, hc', Option.getD_some]
   simp only [pure_bind]
   exact ih _
  ·have hk' : (k == NameKind.free) = false := by simpa using hk
   simp only [hk', Bool.false_eq_true, if_false, pure_bind]
   exact ih _
theorem clos_of {scope : Scope} {env : Env} (h : ∀ y ∈ scope.names, y.2 = .free → ∃ c, env.cells.lookup y.1 = some c) : closureFor scope env = pure (clGo env scope.names []) := by
 have e := clos_go (env := env) scope.names [] h
 unfold closureFor
 rw [← e]
 simp only [bind_pure]
theorem clGo_sub {env : Env} : ∀ (names : List (Str × NameKind)) (cs : List (Str × Addr)), (∀ y ∈ names, y.2 = .free → ∃ c, env.cells.lookup y.1 = some c) → (∀ x c, cs.lookup x = some c → env.cells.lookup x = some c) →
  ∀ x c, (clGo env names cs).lookup x = some c → env.cells.lookup x = some c
 | [], cs, _, h => h
 | (n, k) :: r, cs, hf, h => by
  have ih := fun cs => clGo_sub (env := env) r cs fun y hy => hf y (List.mem_cons_of_mem _ hy)
  unfold clGo
  by_cases hk : (k == NameKind.free) = true
  ·rw [if_pos hk]
   obtain ⟨c0, hc⟩ := hf (n, k) List.mem_cons_self (by simpa using hk)
   have hc' : env.cells.lookup n = some c0 := hc
   refine ih _ fun x c e => ?_
   rw [List.lookup_cons] at e
   cases hx : x == n with
   | true =>
    rw [hx, hc'] at e
    have : x = n := by simpa using hx
    rw [this, hc']
    exact e
   | false => rw [hx] at e; exact h x c e
  ·rw [if_neg hk]
   exact ih _ h
theorem clGo_has {env : Env} : ∀ (names : List (Str × NameKind)) (cs : List (Str × Addr)) (x : Str), ((∃ k, (x, k) ∈ names ∧ k = .free) ∨ (cs.lookup x).isSome = true) → ((clGo env names cs).lookup x).isSome = true
 | [], cs, x, h => by
  rcases h with ⟨k, hm, _⟩ | h
  ·cases hm
  ·exact h
 | (n, k) :: r, cs, x, h => by
  unfold clGo
  by_cases hk : (k == NameKind.free) = true
  ·rw [if_pos hk]
   refine clGo_has r _ x ?_
   by_cases hx : x = n
   ·right
    rw [List.lookup_cons, hx]
    simp
   ·rcases h with ⟨k', hm, hf⟩ | h
    ·rcases List.mem_cons.mp hm with e | hm
     ·cases e; exact absurd rfl hx
     ·exact .inl ⟨k', hm, hf⟩
    ·right
     rw [List.lookup_cons]
     have : (x == n) = false := by simpa using hx
     rw [this]
     exact h
  ·rw [if_neg hk]
   refine clGo_has r _ x ?_
   rcases h with ⟨k', hm, hf⟩ | h
   ·rcases List.mem_cons.mp hm with e | hm
    ·cases e; subst hf; exact absurd rfl hk
    ·exact .inl ⟨k', hm, hf⟩
   ·exact .inr h
theorem relabel_back {env : Env} : ∀ {names : List (Str × NameKind)} {x : Str}, (∀ y ∈ names, y.2 ≠ .cell) →
    ((names.map fun (n, k) => if (k == NameKind.free && env.scope.kind == .function && env.kindOf n == some .cell) then (n, NameKind.cell) else (n, k)).lookup x = some .cell ∨
     (names.map fun (n, k) => if (k == NameKind.free && env.scope.kind == .function && env.kindOf n == some .cell) then (n, NameKind.cell) else (n, k)).lookup x = some .free) → (x, NameKind.free) ∈ names
  | [], _, _, h => by simp at h
  | (n, k) :: r, x, hc, h => by
    have ih := @relabel_back env r x (fun y hy => hc y (List.mem_cons_of_mem _ hy))
    have hk : k ≠ .cell := hc (n, k) List.mem_cons_self
    rw [List.map_cons] at h
    by_cases hf : (k == NameKind.free && env.scope.kind == .function && env.kindOf n == some .cell) = true
    · have kf : k = .free := by
        have := (Bool.and_eq_true _ _ ▸ hf : _ ∧ _).1
        have := (Bool.and_eq_true _ _ ▸ this : _ ∧ _).1
        simpa using this
      simp only [hf, if_true] at h
      rw [List.lookup_cons] at h
      cases hx : x == n with
      | true =>
        have : x = n := by simpa using hx
        subst this; subst kf
        exact List.mem_cons_self
      | false => rw [hx] at h; exact List.mem_cons_of_mem _ (ih h)
    · simp only [hf, Bool.false_eq_true, if_false] at h
      rw [List.lookup_cons] at h
      cases hx : x == n with
      | true =>
        have : x = n := by simpa using hx
        subst this
        rw [hx] at h
        rcases h with h | h
        · exact absurd (Option.some.inj h) hk
        · have : k = .free := Option.some.inj h
          subst this
          exact List.mem_cons_self
      | false => rw [hx] at h; exact List.mem_cons_of_mem _ (ih h)
noncomputable def cxBlk (X : Cx) (N : List Str) (scope : Scope) (C : Addr) (s₀ : Shared) (H₀ : Hp) (ex : List Addr) : Cx where
 prog := X.prog
 w := X.w
 K := X.K
 mg := X.mg
 base := X.base
 A := X.A
 N := N
 s₀ := s₀
 H₀ := H₀
 env := compEnvC scope (clGo X.env scope.names []) C X.env
 outer := X.stack
 stack := X.stack
 ex := ex
 fn := fun _ => false
 calm := X.calm
 pn := []
 xe := fun _ _ => False
noncomputable def blk (nt : Nat) (fv : List Nat) (σ : St) : St := List.replicate nt none ++ fv.map fun j => (σ[j]?).getD none
noncomputable def tComp (nt : Nat) (fv : List Nat) (wi : TI) (g : TG) (ti : TT) (te : TE) : TE := fun σ H Q => wi σ H fun J H1 => ∃ W : Nat → Nat → List V → Hp → Prop, (∃ m, W 0 m [] H1) ∧ ∀ i m ys H, W i m ys H →
 (J.stop i H ∧ ys.length ≤ sizeLine ∧ ∀ p, H p = none → Q (.ref p) (upd H p (.lst ys))) ∨
 (J.go i H ∧ ys.length ≤ sizeLine ∧ ∀ x H', J.yld i H x H' → g x (blk nt fv σ) H' fun σ2 H2 => (∀ i, nt ≤ i → σ2[i]? = (blk nt fv σ)[i]?) ∧ ti σ2 H2 fun b H3 => if b = true then te σ2 H3 fun v H4 => ∃ m', m' < m ∧ W (i + 1) m' (ys ++ [v]) H4 else ∃ m', m' < m ∧ W (i + 1) m' ys H3)
noncomputable def PTs (X : Cx) (cs : List Expr) (t : TT) : Prop :=
 ∀ (pins : List (Addr × Obj)) (s : Shared) (σ : St) (H : Hp) (Q : Bool → Hp → Prop), Inv X pins σ H s → t σ H Q →
  wpAny (model X.prog X.w) X.A (forIn cs true fun c r => if r = true then do let ok ← isTrue c X.env (eval c X.env); pure (ForInStep.yield ok) else pure (ForInStep.yield r)) (TP X pins σ Q) X.xe s
noncomputable def tTrue : TT := fun _ H Q => Q true H
theorem pts_nil {X : Cx} : PTs X [] tTrue := fun _ _ _ H _ I h => wpAny_tests_nil ⟨H, I, h⟩
theorem pts_one {X : Cx} {c : Expr} {t : TT} (h : PT X c t) : PTs X [c] t := fun pins s σ H Q I hq => wpAny_tests_one (h pins s σ H Q I hq)
structure BlkOk (X : Cx) (N : List Str) (scope : Scope) (nt : Nat) (fv : List Nat) : Prop where
 kind : scope.kind = .function
 ncell : ∀ y ∈ scope.names, y.2 ≠ .cell
 names : ∀ y ∈ scope.names, y.2 = .local → scope.names.lookup y.1 = some .local
 free : ∀ y ∈ scope.names, y.2 = .free → X.env.kindOf y.1 = some .cell
 len : N.length = nt + fv.length
 fv : ∀ i x, N[nt + i]? = some x → ∃ j, fv[i]? = some j ∧ X.N[j]? = some x ∧ X.env.kindOf x = some .cell ∧ (relabel scope X.env).names.lookup x = some .cell
section
variable {X : Cx} {N : List Str} {scope : Scope} {nt : Nat} {fv : List Nat} {pins : List (Addr × Obj)} {σ : St} {H : Hp} {s : Shared}
theorem BlkOk.cells (B : BlkOk X N scope nt fv) (I : Inv X pins σ H s) : ∀ y ∈ scope.names, y.2 = .free → ∃ c, X.env.cells.lookup y.1 = some c := fun y hy hf => I.ok.has y.1 (.inl (B.free y hy hf))
theorem blk_ok (B : BlkOk X N scope nt fv) (I : Inv X pins σ H s) {C : Addr} {fp : List Addr} (hC : s.heap.objs.size ≤ C) (hf : ∀ b ∈ fp, FpOk X pins H b) (hlt : ∀ b ∈ fp, b < s.heap.objs.size) :
  (cxBlk X N scope C s H fp).Ok := by
 have sub : ∀ x c, (clGo X.env scope.names []).lookup x = some c → X.env.cells.lookup x = some c := clGo_sub _ _ (B.cells I) (fun x c e => by simp at e)
 refine ⟨I.ok.mod, B.kind, I.ok.glob, I.ok.blt, hC, fun x y c e1 e2 => I.ok.inj x y c (sub x c e1) (sub y c e2), fun x hx => ?_, fun x c h => absurd h (by show ¬ (false = true); decide), I.ok.hd, I.ok.frames, .inl rfl, fun b hb => ⟨?_, fun x c e => ?_⟩, I.bs, Nat.le_trans I.ok.bsz I.sz, fun b o e hb => ?_, fun b hb z => ?_, I.stack, I.stkFree⟩
 ·have hm : (x, NameKind.free) ∈ scope.names := relabel_back B.ncell hx
  exact Option.isSome_iff_exists.mp (clGo_has scope.names [] x (.inl ⟨_, hm, rfl⟩))
 ·exact Nat.ne_of_lt (Nat.lt_of_lt_of_le (hlt b hb) hC)
 ·exact (hf b hb).2.2.2.2.1 x c (sub x c e)
 ·rcases (hf b hb).2.2.2.1 with z | z
  ·exact I.ok.noex b o e z
  ·exact absurd (Nat.lt_of_lt_of_le (Heap.lt_size e) (Nat.le_trans I.ok.bsz z)) (Nat.lt_irrefl _)
 ·rcases List.mem_cons.mp (I.stkSub b z) with z | z
  ·exact (hf b hb).2.1 z
  ·exact (hf b hb).2.2.1 z
theorem blk_inv (B : BlkOk X N scope nt fv) (I : Inv X pins σ H s) {C : Addr} {fp : List Addr} (hC : s.heap.objs.size ≤ C) (hf : ∀ b ∈ fp, FpOk X pins H b) (hlt : ∀ b ∈ fp, b < s.heap.objs.size) {h' : Heap} {tk : Nat}
  (k : ∀ b o, s.heap.get? b = some o → h'.get? b = some o) (hn : ∃ m, h'.Ns C m) : Inv (cxBlk X N scope C s H fp) [] (blk nt fv σ) H { s with heap := h', toks := tk } := by
 have sub : ∀ x c, (clGo X.env scope.names []).lookup x = some c → X.env.cells.lookup x = some c := clGo_sub _ _ (B.cells I) (fun x c e => by simp at e)
 obtain ⟨m, hn⟩ := hn
 refine ⟨blk_ok B I hC hf hlt, rfl, I.bare, Un.kept k, ⟨m, hn, fun i x v e1 e2 e3 => ?_⟩, fun x c e => ?_, I.hok.fresh hC, fun x c e => I.freeC x c (sub x c e), fun p hp => (nomatch hp), I.hok.kept k, ?_⟩
 ·have hi : nt ≤ i := by
   refine Nat.le_of_not_lt fun hlt => ?_
   unfold blk at e2
   rw [List.getElem?_append_left (by simpa using hlt), List.getElem?_replicate] at e2
   split at e2 <;> cases e2
  obtain ⟨j, hj⟩ : ∃ j, i = nt + j := ⟨i - nt, by omega⟩
  subst hj
  obtain ⟨o, f1, f2, f3, f4⟩ := B.fv j x e1
  unfold blk at e2
  rw [List.getElem?_append_right (by simp), List.length_replicate, Nat.add_sub_cancel_left, List.getElem?_map, f1] at e2
  have e2' : (σ[o]?).getD none = some v := Option.some.inj e2
  have e4 : σ[o]? = some (some v) := by
   cases q : σ[o]? with
   | none => rw [q] at e2'; cases e2'
   | some z => rw [q] at e2'; exact congrArg some e2'
  obtain ⟨m0, hn0, hl⟩ := I.loc
  obtain ⟨u, ru, lk⟩ := hl o x v f2 e4 (.inr (.inl f3))
  refine ⟨u, ru, .inr ⟨.inl f4, ?_⟩⟩
  rcases lk with ⟨z, _⟩ | ⟨_, c, hc, hcell⟩
  ·rw [f3] at z; cases z
  ·have hm : (x, NameKind.free) ∈ scope.names := relabel_back B.ncell (.inl f4)
   obtain ⟨c', hc'⟩ := Option.isSome_iff_exists.mp (clGo_has (env := X.env) scope.names [] x (.inl ⟨_, hm, rfl⟩))
   have := sub x c' hc'
   rw [hc] at this
   cases this
   obtain ⟨oc, h1, h2⟩ := hcell
   exact ⟨c, hc', oc, k c oc h1, h2⟩
 ·obtain ⟨v, oc, h1, h2⟩ := I.cell x c (sub x c e)
  exact ⟨v, oc, k c oc h1, h2⟩
 ·show (blk nt fv σ).length = N.length
  unfold blk
  rw [List.length_append, List.length_replicate, List.length_map]
  exact B.len.symm
end
section
variable {prog : Program} {w : World} {A : Around} {R : Result → Shared → Prop} {s : Shared}
theorem compLoop_any {elt target iter : Expr} {ifs : List Expr} {scope : Scope} {pos : Pos} {it acc : Value} {env : Env} (I : Nat → Shared → Prop)
  (turn : ∀ n s, I n s → wpAny (model prog w) A (pyNext it) (fun r s₁ => match r with
   | none => R (.ok .next) s₁
   | some v => wpAny (model prog w) A (letOwnedTupleGo target it v) (fun _ s₁' => wpAny (model prog w) A (assign target env v) (fun _ s₂ =>
     wpAny (model prog w) A (forIn ifs true fun c r => if r = true then do let ok ← isTrue c env (eval c env); pure (ForInStep.yield ok) else pure (ForInStep.yield r)) (fun ok s₃ =>
      if ok = true then wpAny (model prog w) A (eval elt env) (fun x s₄ =>
       wpAny (model prog w) A (call (.builtin "list.append") [acc, x]) (fun _ s₅ => ∃ m, m < n ∧ I m s₅) (fun _ _ => False) s₄) (fun _ _ => False) s₃
      else ∃ m, m < n ∧ I m s₃) (fun _ _ => False) s₂) (fun _ _ => False) s₁') (fun _ _ => False) s₁) (fun _ _ => False) s)
  (n : Nat) (h : I n s) :
  codeAny (model prog w) A (.compLoop (.ListComp elt [⟨target, iter, ifs, 0⟩] scope pos) 0 it acc env) R s := by
 refine codeAny_loop rfl I (fun n s hI => ?_) n h
 show wpAny _ A ((compTurn (.ListComp elt [⟨target, iter, ifs, 0⟩] scope pos) 0 it acc env).onRaise (fun x => do noteFrame x env; theTreesLotGoes x)) _ _ s
 refine wpAny_noted ?_
 rw [compTurn_list]
 refine wpAny_bind (wpAny_standAt (wpAny_bind (wpAny_mono (turn n s hI) (fun r s₁ h₁ => ?_) fun _ _ f => f.elim)))
 cases r with
 | none => exact wpAny_pure h₁
 | some v =>
  refine wpAny_bind (wpAny_mono h₁ (fun _ s₁' h₁' => ?_) fun _ _ f => f.elim)
  refine wpAny_bind (wpAny_mono h₁' (fun _ s₂ h₂ => wpAny_bind (wpAny_mono h₂ (fun ok s₃ h₃ => ?_) fun _ _ f => f.elim)) fun _ _ f => f.elim)
  cases ok with
  | false => exact wpAny_pure ⟨rfl, h₃⟩
  | true =>
   exact wpAny_bind (wpAny_bind (wpAny_mono h₃ (fun x s₄ h₄ => wpAny_bind (wpAny_mono h₄ (fun _ s₅ h₅ => wpAny_pure (wpAny_pure ⟨rfl, h₅⟩)) fun _ _ f => f.elim)) fun _ _ f => f.elim))
end
end L2
namespace L2
open PySem PySem.Spec PyProof.Rows
section
variable {X : Cx} {N : List Str} {scope : Scope} {nt : Nat} {fv : List Nat} {elt tg iter : Expr} {ifs : List Expr} {wi : TI} {g : TG} {ti : TT} {te : TE} {pos : Pos}
noncomputable def listO (its : List Value) (n : Nat) : Obj := { cls := .type "list", dict := none, data := .seq its.toArray n }
theorem comp_run (hc : X.calm = true) (B : BlkOk X N scope nt fv)
  (hg : ∀ C s₀ H₀ ex, PG (cxBlk X N scope C s₀ H₀ ex) tg g) (ht : ∀ C s₀ H₀ ex, PTs (cxBlk X N scope C s₀ H₀ ex) ifs ti) (he : ∀ C s₀ H₀ ex, PE (cxBlk X N scope C s₀ H₀ ex) elt te)
  {pins : List (Addr × Obj)} {σ : St} {s2 : Shared} {H2 : Hp} {it : Addr} {fp : List Addr} {tn : Nat → Heap → Prop} {J : It} (I2 : Inv X pins σ H2 s2) (T : Turn X.prog X.w X.K tg J fp it tn) (st2 : tn 0 s2.heap) (f2 : ∀ b ∈ fp, FpOk X pins H2 b)
  {W : Nat → Nat → List V → Hp → Prop} {m0 : Nat} (w0 : W 0 m0 [] H2) {Q : VK}
  (turn : ∀ i m ys H, W i m ys H → (J.stop i H ∧ ys.length ≤ sizeLine ∧ ∀ p, H p = none → Q (.ref p) (upd H p (.lst ys))) ∨
   (J.go i H ∧ ys.length ≤ sizeLine ∧ ∀ x H', J.yld i H x H' → g x (blk nt fv σ) H' fun σ2 H2 => (∀ i, nt ≤ i → σ2[i]? = (blk nt fv σ)[i]?) ∧ ti σ2 H2 fun b H3 => if b = true then te σ2 H3 fun v H4 => ∃ m', m' < m ∧ W (i + 1) m' (ys ++ [v]) H4 else ∃ m', m' < m ∧ W (i + 1) m' ys H3))
  {RR : Value → Addr → Result → Shared → Prop}
  (hR : ∀ D C s', s2.heap.objs.size ≤ C → (∃ m, s'.heap.Ns C m) → (∀ h', Heap.SameBut C s'.heap h' → ∃ H', Inv X pins σ H' { s' with heap := h' } ∧ H' C = none ∧ Q (.ref D) H') → RR (.ref D) C (.ok .next) s') :
  wpAny (model X.prog X.w) X.A (newList []) (fun acc s₃ => wpAny (model X.prog X.w) X.A (newFunctionEnv scope X.env.globals (clGo X.env scope.names []) [] X.env.qual none .none (some X.env)) (fun cenv s₄ =>
   codeAny (model X.prog X.w) X.A (.compStart (.ListComp elt [⟨tg, iter, ifs, 0⟩] scope pos) 0 (.ref it) acc { cenv with scope := relabel scope X.env }) (RR acc cenv.locals) s₄) X.xe s₃) X.xe s2 := by
 refine wpAny_newObj_type (wpAny_newFunctionEnv B.ncell (by intro y hy; simp at hy) (fun h₁ hns₁ hsb₁ => ?_) B.kind)
 dsimp only at hns₁ hsb₁ ⊢
 generalize hH2 : s2.heap.push { cls := .type "list", dict := none, data := .seq ([] : List Value).toArray } = Hh at hns₁ hsb₁ ⊢
 have hC : Hh.objs.size = s2.heap.objs.size + 1 := by rw [← hH2, Heap.size_push]
 have hDC : s2.heap.objs.size ≠ Hh.objs.size := by rw [hC]; exact Nat.ne_of_lt (Nat.lt_succ_self _)
 have hCle : s2.heap.objs.size ≤ Hh.objs.size := by rw [hC]; exact Nat.le_succ _
 have below : ∀ b, b < s2.heap.objs.size → b ≠ Hh.objs.size ∧ b ≠ s2.heap.objs.size := fun b hb => ⟨by rw [hC]; exact Nat.ne_of_lt (Nat.lt_succ_of_lt hb), Nat.ne_of_lt hb⟩
 have old : ∀ b o, s2.heap.get? b = some o → h₁.get? b = some o := fun b o e => hsb₁.extBut b o (below b (Heap.lt_size e)).1 (Heap.get?_push_of_some _ (hH2 ▸ Heap.get?_push_of_some _ e))
 have hacc : h₁.get? s2.heap.objs.size = some (listO [] 0) := hsb₁.extBut _ _ hDC (Heap.get?_push_of_some _ (hH2 ▸ Heap.get?_push_size _ rfl))
 have flt : ∀ b ∈ fp, b < s2.heap.objs.size := fun b hb => by obtain ⟨o, e, _⟩ := T.obj 0 _ st2 b hb; exact Heap.lt_size e
 have fresh : ∀ a, s2.heap.objs.size ≤ a → s2.heap.get? a = none := fun a ha => by
  cases e : s2.heap.get? a with
  | none => rfl
  | some o' => exact absurd (Heap.lt_size e) (Nat.not_lt.mpr ha)
 have ftk : ∀ {H' : Hp} {pl : List (Addr × Obj)}, (∀ b ∈ fp, H' b = none) → (∀ p ∈ pl, p.1 ∉ fp) → ∀ b ∈ fp, FpOk (cxBlk X N scope Hh.objs.size s2 H2 fp) pl H' b := fun {H' pl} hn hp b hb =>
  ⟨hn b hb, (below b (flt b hb)).1, fun z => by
   rcases List.mem_cons.mp (I2.stkSub b z) with z | z
   ·exact (f2 b hb).2.1 z
   ·exact (f2 b hb).2.2.1 z, .inl hb, fun x c e => (f2 b hb).2.2.2.2.1 x c (clGo_sub _ _ (B.cells I2) (fun x c e => by simp at e) x c e), fun p hp' z => hp p hp' (z ▸ hb)⟩
 have Dfp : s2.heap.objs.size ∉ fp := fun hm => Nat.lt_irrefl _ (flt _ hm)
 have Dfs : s2.heap.objs.size ∉ frs X.stack := fun z => by
  rcases List.mem_cons.mp (I2.stkSub _ z) with z | z
  ·exact Nat.lt_irrefl _ (z ▸ I2.lt)
  ·exact I2.nofs (Nat.le_refl _) z
 have Dcell : ∀ x c, (clGo X.env scope.names []).lookup x = some c → c ≠ s2.heap.objs.size := fun x c e z => by
  obtain ⟨v, q⟩ := I2.cell x c (clGo_sub _ _ (B.cells I2) (fun x c e => by simp at e) x c e)
  exact Nat.lt_irrefl _ (z ▸ q.lt)
 have Iblk : Inv (cxBlk X N scope Hh.objs.size s2 H2 fp) [] (blk nt fv σ) H2 { s2 with heap := h₁, toks := s2.toks + ([] : List (Str × Value)).length } := blk_inv B I2 hCle f2 flt old ⟨_, hns₁⟩
 have pinD : ∀ {s' : Shared} {H' : Hp} {σ' : St} {its : List Value} {n : Nat} {pl : List (Addr × Obj)}, Inv (cxBlk X N scope Hh.objs.size s2 H2 fp) pl σ' H' s' → s'.heap.get? s2.heap.objs.size = some (listO its n) → H' s2.heap.objs.size = none →
   Inv (cxBlk X N scope Hh.objs.size s2 H2 fp) [(s2.heap.objs.size, listO its n)] σ' H' s' := fun I e hn => I.pins_of fun p hp => by
  rw [List.mem_singleton.mp hp]
  exact ⟨e, hn, hDC, Dfs, fun v z => by cases z⟩
 have loop : ∀ s₃ : Shared, s₃ = { s2 with heap := h₁, toks := s2.toks + ([] : List (Str × Value)).length } →
   codeAny (model X.prog X.w) X.A (.compLoop (.ListComp elt [⟨tg, iter, ifs, 0⟩] scope pos) 0 (.ref it) (.ref s2.heap.objs.size) (compEnvC scope (clGo X.env scope.names []) Hh.objs.size X.env)) (RR (.ref s2.heap.objs.size) Hh.objs.size) s₃ := by
  rintro s₃ rfl
  refine compLoop_any (fun n s' => ∃ i ys its k H', Inv (cxBlk X N scope Hh.objs.size s2 H2 fp) [(s2.heap.objs.size, listO its k)] (blk nt fv σ) H' s' ∧ tn i s'.heap ∧ (∀ b ∈ fp, H' b = none) ∧ W i n ys H' ∧ Vals ys its) ?_ m0
   ⟨0, [], [], 0, H2, pinD Iblk hacc (I2.hok.fresh (Nat.le_refl _)), T.keep _ _ _ st2 fun b _ o e => old b o e, fun b hb => (f2 b hb).1, w0, .nil⟩
  rintro n s' ⟨i, ys, its, k, H', I', st', fr', w', vs'⟩
  obtain ⟨pd, pn, _, _, _⟩ := I'.pin (s2.heap.objs.size, listO its k) (by exact List.mem_cons_self)
  have pfp : ∀ {o : Obj}, ∀ p ∈ [(s2.heap.objs.size, o)], p.1 ∉ fp := fun p hp => by rw [List.mem_singleton.mp hp]; exact Dfp
  rcases turn i n ys H' w' with ⟨stop, hz, q⟩ | ⟨go, hz, step⟩
  ·refine wpAny_mono (T.done (cxBlk X N scope Hh.objs.size s2 H2 fp) rfl rfl rfl hc i _ s' _ H' (fun _ _ => False) I' (ftk fr' pfp) st' stop) (fun r s1 ⟨hr, I1⟩ => ?_) fun _ _ f => f
   subst hr
   obtain ⟨pd1, pn1, _, _, _⟩ := I1.pin (s2.heap.objs.size, listO its k) (by exact List.mem_cons_self)
   obtain ⟨m, hm, _⟩ := I1.loc
   refine hR _ _ s1 hCle ⟨m, hm⟩ fun h' sb => ⟨upd H' s2.heap.objs.size (.lst ys), ?_, by rw [upd_ne (Ne.symm hDC)]; exact I1.free, q _ pn1⟩
   have keepT : ∀ b u, H' b = some u → b ≠ Hh.objs.size := fun b u e z => by
    have e0 : H' Hh.objs.size = none := I1.free
    rw [z, e0] at e
    cases e
   have kept : ∀ b o, b ≠ Hh.objs.size → s1.heap.get? b = some o → h'.get? b = some o := fun b o hb e => sb.extBut b o hb e
   have un := I1.base
   refine I2.call' (s' := { s1 with heap := h' }) (ch := fp) I1.os ⟨fun b o e hn hb hx => ?_, fun b o e hn hb hx => ?_, fun b o e hn hx => ?_, fun b o e hx => ?_, fun b xs e => ?_, fun b o u e => ?_, fun b ps e => ?_⟩ ?_ I1.bare fun b hb => ?_
   ·exact kept b o (below b (Heap.lt_size e)).1 (un.keep b o e hn hb hx)
   ·obtain ⟨sl, e1⟩ := un.slot b o e hn hb hx
    exact ⟨sl, kept b _ (below b (Heap.lt_size e)).1 e1⟩
   ·rw [upd_ne (below b (Heap.lt_size e)).2]
    exact un.free b o e hn hx
   ·obtain ⟨o', e1⟩ := un.there b o e hx
    exact ⟨o', kept b o' (below b (Heap.lt_size e)).1 e1⟩
   ·have e1 := un.tups b xs e
    rw [upd_ne (ne_of_none e1 pn1)]
    exact e1
   ·have e1 := un.frzs b o u e
    rw [upd_ne (ne_of_none e1 pn1)]
    exact e1
   ·obtain ⟨mo, e1⟩ := un.tbls b ps e
    exact ⟨mo, by rw [upd_ne (ne_of_none e1 pn1)]; exact e1⟩
   ·intro b u e
    by_cases hb : b = s2.heap.objs.size
    ·subst hb
     rw [upd_same] at e
     cases e
     exact ⟨hz, its, k, vs', kept _ _ hDC pd1⟩
    ·rw [upd_ne hb] at e
     refine (I1.hok b u e).stay (fun c v hc' q' => kept c v ?_ q') (fun c q' => by rw [upd_ne (ne_of_none q' pn1)]; exact q') fun c xs q' => by rw [upd_ne (ne_of_none q' pn1)]; exact q'
     rcases hc' with z | z
     ·rw [z]; exact keepT b u e
     ·exact keepT c _ z
   ·exact ⟨(f2 b hb).2.2.2.1, (f2 b hb).2.1, (f2 b hb).2.2.2.2.1, (f2 b hb).2.2.2.2.2⟩
  ·refine wpAny_mono (T.item (cxBlk X N scope Hh.objs.size s2 H2 fp) rfl rfl rfl hc i _ s' _ H' (fun _ _ => False) I' (ftk fr' pfp) st' go) (fun r s3 ⟨u, hr, h3⟩ => ?_) fun _ _ f => f
   subst hr
   refine wpAny_mono h3 (fun _ s4 ⟨x, H4, I4, r4, y4, st4, fr4⟩ => ?_) fun _ _ f => f
   have I4' := I4.pinned (ftk fr4 pfp) (T.obj _ _ st4)
   refine wpAny_mono (hg Hh.objs.size s2 H2 fp _ s4 _ H4 x u _ I4' r4 (step x H4 y4)) (fun _ s5 ⟨σ5, H5, I5, x5, q5⟩ => ?_) fun _ _ f => f
   refine wpAny_mono (ht Hh.objs.size s2 H2 fp _ s5 σ5 H5 _ I5 q5) (fun b s6 ⟨H6, I6, q6⟩ => ?_) fun _ _ f => f
   have weak : ∀ {s' : Shared} {H' : Hp} {pl : List (Addr × Obj)}, Inv (cxBlk X N scope Hh.objs.size s2 H2 fp) pl σ5 H' s' → Inv (cxBlk X N scope Hh.objs.size s2 H2 fp) pl (blk nt fv σ) H' s' := by
    intro s' H' pl I
    refine I.weak ((blk_inv B I2 hCle f2 flt old ⟨_, hns₁⟩ (tk := 0)).len.trans I.len.symm) fun j v e => ?_
    by_cases hj : nt ≤ j
    ·rw [x5 j hj]; exact e
    ·unfold blk at e
     rw [List.getElem?_append_left (by simpa using hj), List.getElem?_replicate] at e
     split at e <;> cases e
   have pnew : ∀ {s' : Shared} {H' : Hp} {σ' : St}, Inv (cxBlk X N scope Hh.objs.size s2 H2 fp) ([(s2.heap.objs.size, listO its k)] ++ pinsAt fp s4.heap) σ' H' s' →
     s'.heap.get? s2.heap.objs.size = some (listO its k) ∧ H' s2.heap.objs.size = none ∧ tn (i + 1) s'.heap ∧ ∀ b ∈ fp, H' b = none := fun {s' H' σ'} I => by
    obtain ⟨p1, p2, _⟩ := I.pin (s2.heap.objs.size, listO its k) (by exact List.mem_cons_self)
    refine ⟨p1, p2, T.keep _ _ _ st4 fun b hb o e => (I.pin (b, o) (List.mem_append_right _ (List.mem_append_right _ (mem_pinsAt hb e)))).1, fun b hb => ?_⟩
    obtain ⟨o, e, d⟩ := T.obj _ _ st4 b hb
    exact (I.pin (b, o) (List.mem_append_right _ (List.mem_append_right _ (mem_pinsAt hb e)))).2.1
   cases b with
   | false =>
    obtain ⟨m', hm, w6⟩ := q6
    obtain ⟨p1, p2, p3, p4⟩ := pnew I6
    exact ⟨m', hm, i + 1, ys, its, k, H6, weak (pinD I6 p1 p2), p3, p4, w6, vs'⟩
   | true =>
    refine wpAny_mono (he Hh.objs.size s2 H2 fp _ s6 σ5 H6 _ I6 q6) (fun v s7 ⟨y, H7, I7, r7, q7⟩ => ?_) fun _ _ f => f
    obtain ⟨m', hm, w7⟩ := q7
    obtain ⟨p1, p2, p3, p4⟩ := pnew I7
    have hl := vs'.length
    refine wpAny_list_append_plain (l := s2.heap.objs.size) (items := its.toArray) ⟨k, p1⟩ (fun h8 pl8 sb8 => ?_) (by rw [List.size_toArray]; omega)
    obtain ⟨k8, e8⟩ := pl8
    have e8' : h8.get? s2.heap.objs.size = some (listO (its ++ [v]) k8) := by
     rw [e8]
     unfold listO
     simp
    have I7' := (weak I7).pins_of (pins' := []) fun p hp => (nomatch hp)
    have I8 : Inv (cxBlk X N scope Hh.objs.size s2 H2 fp) [] (blk nt fv σ) H7 { s7 with heap := h8 } := I7'.turned (t' := s7.toks) (it := s2.heap.objs.size) (fun b o hb e => (sb8.2 b hb).trans e) p2 hDC (.inr (Nat.le_refl _)) Dcell (fun p hp => (nomatch hp))
    exact ⟨m', hm, i + 1, ys ++ [y], its ++ [v], k8, H7, pinD I8 e8' p2, T.keep _ _ _ p3 fun b hb o e => (sb8.2 b (fun z => Dfp (z ▸ hb))).trans e, p4, w7, vs'.append (.cons r7 .nil)⟩
 exact codeAny_compStart_list (loop _ rfl) (T.self X.A 0 _ _ _ (T.keep _ _ _ st2 fun b _ o e => old b o e) (loop _ rfl))
theorem pe_lcomp (hc : X.calm = true) (B : BlkOk X N scope nt fv) (hi : PI X tg iter wi)
  (hg : ∀ C s₀ H₀ ex, PG (cxBlk X N scope C s₀ H₀ ex) tg g) (ht : ∀ C s₀ H₀ ex, PTs (cxBlk X N scope C s₀ H₀ ex) ifs ti) (he : ∀ C s₀ H₀ ex, PE (cxBlk X N scope C s₀ H₀ ex) elt te)
  (hs : ∀ x, foldedSetIterable iter X.env x = pure x := by intro _; rfl) : PE X (.ListComp elt [⟨tg, iter, ifs, 0⟩] scope pos) (tComp nt fv wi g ti te) := by
 intro pins s σ H Q I h
 rw [eval_ListComp]
 refine wpAny_comprehension_free (use := none) rfl hs (clos_of (B.cells I)) B.kind B.names (thn (hi pins s σ H _ I h) fun xv s1 h1 => thn h1 fun itv s2 h2 => ?_)
 obtain ⟨it, fp, tn, J, H2, rfl, I2, T, st2, f2, W, ⟨m0, w0⟩, turn⟩ := h2
 refine comp_run hc B hg ht he I2 T st2 f2 w0 turn (RR := fun acc C => compPost (model X.prog X.w) X.A X.xe none (EP X pins σ Q) acc C) fun D C s' hC hn hq => ?_
 obtain ⟨m, hm⟩ := hn
 refine ⟨m, hm, fun h' sb => ?_⟩
 obtain ⟨H', I', _, q'⟩ := hq h' sb
 exact ⟨.ref D, H', I', rfl, q'⟩
theorem ps_setC {i : Nat} {x : Str} {pos' spos : Pos} (hN : X.N.Nodup) (hi' : X.N[i]? = some x) (hx : X.env.scope.names.lookup x = some .local) (hc : X.calm = true) (B : BlkOk X N scope nt fv) (hi : PI X tg iter wi)
  (hg : ∀ C s₀ H₀ ex, PG (cxBlk X N scope C s₀ H₀ ex) tg g) (ht : ∀ C s₀ H₀ ex, PTs (cxBlk X N scope C s₀ H₀ ex) ifs ti) (he : ∀ C s₀ H₀ ex, PE (cxBlk X N scope C s₀ H₀ ex) elt te)
  (hsw : swapsWith (.ListComp elt [⟨tg, iter, ifs, 0⟩] scope pos) (some (.Name x pos')) spos.line X.env = pure true := by rfl)
  (hs : ∀ x, foldedSetIterable iter X.env x = pure x := by intro _; rfl) : PS X (.Assign [.Name x pos'] (.ListComp elt [⟨tg, iter, ifs, 0⟩] scope pos) spos) (tAsg (tComp nt fv wi g ti te) (gName i)) := by
 intro pins s σ H D I h
 rw [exec_Assign_Name_used _ _ _ _ hsw]
 refine wpAny_bind (wpAny_standAt (wpAny_bind ?_))
 show wpAny _ X.A (do let _ ← comprehension (.ListComp elt [⟨tg, iter, ifs, 0⟩] scope pos) scope X.env _ (newList []) false (eval iter X.env) (some (assign (.Name x pos') X.env))) _ _ s
 refine wpAny_bind (wpAny_mono (wpAny_comprehension_free (use := some (assign (.Name x pos') X.env)) (Q := fun _ s' => SP X pins D .next s') rfl hs (clos_of (B.cells I)) B.kind B.names
  (thn (hi pins s σ H _ I h) fun xv s1 h1 => thn h1 fun itv s2 h2 => ?_)) (fun _ s' h' => wpAny_pure (wpAny_pure h')) fun _ _ e => e)
 obtain ⟨it, fp, tn, J, H2, rfl, I2, T, st2, f2, W, ⟨m0, w0⟩, turn⟩ := h2
 refine comp_run (Q := fun v H1 => gName i v σ H1 D.nx) hc B hg ht he I2 T st2 f2 w0 turn (RR := fun acc C => compPost (model X.prog X.w) X.A X.xe (some (assign (.Name x pos') X.env)) (fun _ s' => SP X pins D .next s') acc C) fun L C s' hC hn hq => ?_
 obtain ⟨m, hm⟩ := hn
 obtain ⟨H', I', hC', q'⟩ := hq s'.heap (Heap.SameBut.refl ..)
 have hCL : C ≠ X.env.locals := fun z => by
  have := I2.lt
  rw [← z] at this
  exact Nat.lt_irrefl _ (Nat.lt_of_lt_of_le this hC)
 have Ccell : ∀ y c, X.env.cells.lookup y = some c → c ≠ C := fun y c e z => by
  obtain ⟨v, qc⟩ := I2.cell y c e
  exact Nat.lt_irrefl _ (Nat.lt_of_lt_of_le (z ▸ qc.lt) hC)
 show wpAny _ X.A (assign (.Name x pos') X.env (.ref L)) _ _ s'
 refine wpAny_assign_Name (store_ok2 (v := .ref L) I' hN hi' (.inl hx) rfl (fun s'' I'' sb'' => ?_) (.inr hx))
 obtain ⟨a, sb, ha⟩ := sb''
 have haC : C ≠ a := by
  rcases ha with z | z
  ·rw [z]; exact hCL
  ·exact (Ccell x a z).symm
 refine ⟨m, hm.sameBut sb haC, fun h' sb' => ?_⟩
 refine ⟨_, H', I''.turned (t' := s''.toks) (it := C) (fun b o hb e => (sb'.2 b hb).trans e) hC' hCL (.inr (Nat.le_trans I2.sz hC)) Ccell fun p hp z => ?_, q'⟩
 have e := (I2.pin p hp).1
 exact Nat.lt_irrefl _ (Nat.lt_of_lt_of_le (z ▸ Heap.lt_size e) hC)
end
end L2
namespace L2
open PySem PySem.Spec PyProof.Rows
noncomputable def relS (scope osc : Scope) : List (Str × NameKind) := scope.names.map fun (n, k) => if (k == .free && osc.kind == .function && osc.names.lookup n == some .cell) then (n, .cell) else (n, k)
noncomputable def blkC (osc : Scope) (ON N : List Str) (scope : Scope) (nt : Nat) (fv : List Nat) : Bool :=
 scope.kind == .function && scope.names.all (fun y => y.2 != .cell) && scope.names.all (fun y => y.2 != .local || scope.names.lookup y.1 == some .local) &&
 scope.names.all (fun y => y.2 != .free || osc.names.lookup y.1 == some .cell) && N.length == nt + fv.length &&
 (List.range fv.length).all fun i => match N[nt + i]?, fv[i]? with
  | some x, some j => ON[j]? == some x && osc.names.lookup x == some .cell && (relS scope osc).lookup x == some .cell
  | _, _ => false
theorem blk_of {X : Cx} {osc : Scope} {ON N : List Str} {scope : Scope} {nt : Nat} {fv : List Nat} (h : blkC osc ON N scope nt fv = true) (e1 : X.env.scope = osc := by rfl) (e2 : X.N = ON := by rfl) : BlkOk X N scope nt fv := by
 subst e1 e2
 unfold blkC at h
 simp only [Bool.and_eq_true, List.all_eq_true, Bool.or_eq_true, bne_iff_ne, ne_eq, beq_iff_eq] at h
 obtain ⟨⟨⟨⟨⟨h1, h2⟩, h3⟩, h4⟩, h5⟩, h6⟩ := h
 refine ⟨h1, h2, fun y hy e => ?_, fun y hy e => ?_, h5, fun i x e => ?_⟩
 ·rcases h3 y hy with z | z
  ·exact absurd e z
  ·exact z
 ·rcases h4 y hy with z | z
  ·exact absurd e z
  ·exact z
 ·have hi : i < fv.length := by
   have := (List.getElem?_eq_some_iff.mp e).1
   omega
  have q := h6 i (List.mem_range.mpr hi)
  rw [e, List.getElem?_eq_getElem hi] at q
  simp only [Bool.and_eq_true, beq_iff_eq] at q
  obtain ⟨⟨q1, q2⟩, q3⟩ := q
  exact ⟨fv[i], List.getElem?_eq_getElem hi, q1, q2, q3⟩
end L2
namespace L2.VS
open PySem PySem.Spec PyProof.Rows
variable {P0 : Addr → Hp → Prop}
noncomputable def mTrue : MT := fun Γ Q => Q true Γ
theorem vtt_true : VTT P0 tTrue mTrue := fun _ _ _ _ _ _ _ r m k => k _ _ _ _ m (Same.refl _) r
noncomputable def blkS : Option Sl → Sl
 | some (.val d) => .val d
 | some .pen => .pen
 | some (.pub B) => .pub B
 | _ => .no
noncomputable def blkE (nt : Nat) (fv : List Nat) (Γ : En) : En := List.replicate nt .no ++ fv.map fun j => blkS Γ[j]?
noncomputable def compL (g : MG) (t : MT) (e : ME) (Γb : En) : List D → List D → (List D → Prop) → Prop
 | [], acc, Q => Q acc
 | d :: ds, acc, Q => g d Γb fun Γ1 => t Γ1 fun b Γ2 => if b = true then e Γ2 fun v _ => compL g t e Γb ds (acc ++ [v]) Q else compL g t e Γb ds acc Q
noncomputable def mComp (nt : Nat) (fv : List Nat) (mi : MD) (g : MG) (t : MT) (e : ME) : MO := fun Γ Q => mi Γ fun ds Γ1 => ds.length ≤ 1000 ∧ compL g t e (blkE nt fv Γ1) ds [] fun out => Q (.own out) Γ1
theorem blk_R {F : Fra P0} {Γ : En} {σ : St} {G H G' H' : Hp} {nt : Nat} {fv : List Nat} (r : R F Γ σ G H) (rf : Rf (F.sub r.fr) G' H') (s : Same G G') : R (F.sub r.fr) (blkE nt fv Γ) (blk nt fv σ) G' H' := by
 have at_ : ∀ {i : Nat} {sl : Sl}, (blkE nt fv Γ)[i]? = some sl → sl ≠ .no → ∃ (j : Nat) (s0 : Sl), Γ[j]? = some s0 ∧ sl = blkS (some s0) ∧ (blk nt fv σ)[i]? = some ((σ[j]?).getD none) := by
  intro i sl e hn
  unfold blkE at e
  by_cases hi : i < nt
  ·rw [List.getElem?_append_left (by simpa using hi), List.getElem?_replicate] at e
   rw [if_pos hi] at e
   cases e
   exact absurd rfl hn
  ·rw [List.getElem?_append_right (by simpa using hi), List.length_replicate, List.getElem?_map] at e
   cases ej : fv[i - nt]? with
   | none => rw [ej] at e; cases e
   | some j =>
    rw [ej] at e
    have e' : blkS Γ[j]? = sl := Option.some.inj e
    cases es : Γ[j]? with
    | none => rw [es] at e'; exact absurd e'.symm hn
    | some s0 =>
     rw [es] at e'
     refine ⟨j, s0, es, e'.symm, ?_⟩
     unfold blk
     rw [List.getElem?_append_right (by simpa using hi), List.length_replicate, List.getElem?_map, ej]
     rfl
 refine R.of rf (by simp [blkE, blk]) (fun i sl e => ?_) (fun i B e => ?_) (fun i j x y _ e => ?_)
 ·cases sl with
  | no => trivial
  | val d =>
   obtain ⟨j, s0, h1, h2, h3⟩ := at_ e (by intro z; cases z)
   cases s0 with
   | val d0 =>
    cases h2
    obtain ⟨v, e1, d1⟩ := r.sl j _ h1
    rw [e1] at h3
    exact ⟨v, h3, Dt.same s _ _ d1⟩
   | _ => cases h2
  | own ds =>
   obtain ⟨j, s0, h1, h2, h3⟩ := at_ e (by intro z; cases z)
   cases s0 <;> cases h2
  | pen =>
   obtain ⟨j, s0, h1, h2, h3⟩ := at_ e (by intro z; cases z)
   cases s0 with
   | pen =>
    obtain ⟨p, e1, e2⟩ := r.sl j _ h1
    rw [e1] at h3
    exact ⟨p, h3, e2⟩
   | _ => cases h2
  | con q =>
   obtain ⟨j, s0, h1, h2, h3⟩ := at_ e (by intro z; cases z)
   cases s0 <;> cases h2
  | pub B =>
   obtain ⟨j, s0, h1, h2, h3⟩ := at_ e (by intro z; cases z)
   cases s0 with
   | pub B' =>
    cases h2
    obtain ⟨v, e1, e2⟩ := r.sl j _ h1
    rw [e1] at h3
    exact ⟨v, h3, B.mono s e2⟩
   | _ => cases h2
  | box B =>
   obtain ⟨j, s0, h1, h2, h3⟩ := at_ e (by intro z; cases z)
   cases s0 <;> cases h2
 ·obtain ⟨j, s0, h1, h2, h3⟩ := at_ e (by intro z; cases z)
  cases s0 <;> cases h2
 ·obtain ⟨j, s0, h1, h2, h3⟩ := at_ e (by intro z; cases z)
  cases s0 <;> cases h2
theorem vo_comp {nt : Nat} {fv : List Nat} {wi : TI} {g : TG} {ti : TT} {te : TE} {mi : MD} {mg : MG} {mt : MT} {me : ME} (hi : VI P0 wi mi) (hg : VG P0 (fun i => decide (i < nt)) g mg) (ht : VTT P0 ti mt) (he : VT P0 te me) :
  VO P0 (tComp nt fv wi g ti te) (mComp nt fv mi mg mt me) := by
 intro F Γ σ G H Q Qm r m k
 refine hi F Γ σ G H _ _ r m fun ds Γ1 J G1 H1 m1 s1 r1 wk => ?_
 obtain ⟨hsz, m1⟩ := m1
 refine ⟨fun i n ys H2 => n = ds.length - i ∧ i ≤ ds.length ∧ ys.length ≤ i ∧ ∃ G2 out, Rf (F.sub r1.fr) G2 H2 ∧ Same G1 G2 ∧ Dts G2 ys out ∧ compL mg mt me (blkE nt fv Γ1) (ds.drop i) out fun out => Qm (.own out) Γ1,
  ⟨ds.length, by simp, Nat.zero_le _, Nat.zero_le _, G1, [], F.subRf r1.fr, Same.refl _, .nil, by simpa using m1⟩, ?_⟩
 rintro i n ys H2 ⟨rfl, hle, hy, G2, out, rf2, s2, d2, m2⟩
 have rb := blk_R (nt := nt) (fv := fv) r1 rf2 s2
 obtain ⟨go, stop⟩ := wk (F.sub r1.fr) _ _ G2 H2 s2 rb
 have small : ys.length ≤ sizeLine := small_le (by omega)
 by_cases hlt : i < ds.length
 ·refine .inr ⟨(go i ds[i] (by simp [hlt])).1, small, fun x H' hyl => ?_⟩
  obtain ⟨G3, s3, r3, d3⟩ := (go i ds[i] (by simp [hlt])).2 x H' hyl
  rw [List.drop_eq_getElem_cons hlt] at m2
  refine hg (F.sub r1.fr) _ _ G3 H' x _ _ _ r3 d3 m2 fun Γ4 σ4 m4 r4 e4 => ⟨fun j hj => e4 j (decide_eq_false (by omega)), ?_⟩
  refine ht (F.sub r1.fr) _ _ G3 H' _ _ r4 m4 fun b Γ5 G5 H5 m5 s5 r5 => ?_
  cases b with
  | true =>
   refine iteT (he (F.sub r1.fr) _ _ G5 H5 _ _ r5 m5 fun d Γ6 v G6 H6 m6 s6 r6 d6 => ?_)
   refine ⟨ds.length - (i + 1), by omega, rfl, hlt, by rw [List.length_append, List.length_singleton]; omega, G6, out ++ [d], r6.fr, ((s2.trans s3).trans s5).trans s6, ?_, m6⟩
   exact (Dts.same ((s3.trans s5).trans s6) _ _ d2).app (.cons d6 .nil)
  | false =>
   refine iteF ?_
   exact ⟨ds.length - (i + 1), by omega, rfl, hlt, by omega, G5, out, r5.fr, (s2.trans s3).trans s5, Dts.same (s3.trans s5) _ _ d2, m5⟩
 ·have e : i = ds.length := by omega
  subst e
  rw [List.drop_length] at m2
  refine .inl ⟨stop, small, fun p hp => ?_⟩
  obtain ⟨r7, s7⟩ := r1.after rf2
  obtain ⟨a, b, c⟩ := own_new r7 hp d2
  exact k _ _ _ _ _ m2 (s1.trans s7) a b c
theorem i_comp {nt : Nat} {fv : List Nat} {mi : MD} {mg : MG} {mt : MT} {me : ME} {Γ : En} {Q : Rv → En → Prop} (h : mi Γ fun ds Γ1 => ds.length ≤ 1000 ∧ compL mg mt me (blkE nt fv Γ1) ds [] fun out => Q (.own out) Γ1) : mComp nt fv mi mg mt me Γ Q := h
theorem comp_fm {α : Type} {mg : MG} {mt : MT} {me : ME} {Γb : En} (p : α → Bool) (f : α → D) (enc : α → D) : ∀ (xs : List α) (acc : List D) (Q : List D → Prop),
  (∀ x ∈ xs, ∀ (K : List D → Prop) (k : D → Prop) (k0 : Prop), (p x = true → k (f x)) → (p x = false → k0) → mg (enc x) Γb fun Γ1 => mt Γ1 fun b Γ2 => if b = true then me Γ2 fun v _ => k v else k0) →
  Q (acc ++ (xs.filter p).map f) → compL mg mt me Γb (xs.map enc) acc Q
 | [], acc, Q, _, q => by simpa [compL] using q
 | x :: xs, acc, Q, h, q => by
  show mg (enc x) Γb fun Γ1 => mt Γ1 fun b Γ2 => if b = true then me Γ2 fun v _ => compL mg mt me Γb (xs.map enc) (acc ++ [v]) Q else compL mg mt me Γb (xs.map enc) acc Q
  refine h x List.mem_cons_self Q (fun v => compL mg mt me Γb (xs.map enc) (acc ++ [v]) Q) _ (fun hp => ?_) fun hp => ?_
  ·refine comp_fm p f enc xs _ Q (fun y hy => h y (List.mem_cons_of_mem _ hy)) ?_
   simpa [List.filter_cons, hp, List.append_assoc] using q
  ·refine comp_fm p f enc xs _ Q (fun y hy => h y (List.mem_cons_of_mem _ hy)) ?_
   simpa [List.filter_cons, hp] using q
end L2.VS
namespace L2
open PySem PySem.Spec PyProof.Rows
section
variable {X : Cx}
noncomputable def insAt (n : Nat) (x : Int) : Nat := if x < 0 then (x + (n : Int)).toNat else min x.toNat n
noncomputable def insL {α : Type} (xs : List α) (x : Int) (y : α) : List α := xs.take (insAt xs.length x) ++ y :: xs.drop (insAt xs.length x)
theorem insL_len {α : Type} (xs : List α) (x : Int) (y : α) : (insL xs x y).length = xs.length + 1 := by
 unfold insL
 rw [List.length_append, List.length_cons, List.length_take, List.length_drop]
 omega
theorem Vals.ins {xs : List V} {us : List Value} (r : Vals xs us) (x : Int) {y : V} {u : Value} (h : RelV y u) : Vals (insL xs x y) (insL us x u) := by
 unfold insL
 rw [r.length]
 exact (r.take _).append (.cons h (r.drop _))
noncomputable def rInsert : V → List V → Hp → VK → Prop := fun x vs H Q => ∃ l xs i y, x = .ref l ∧ vs = [.int i, y] ∧ H l = some (.lst xs) ∧ -(2 ^ 63) ≤ i ∧ i < 2 ^ 63 ∧ xs.length < sizeLine ∧ Q .non (upd H l (.lst (insL xs i y)))
theorem mt_insert : MtM X "list.insert" rInsert := by
 intro pins s σ H x vs v us Q I rx rv h
 obtain ⟨l, xs, i, y, rfl, rfl, hH, h1, h2, hz, q⟩ := h
 cases rx
 obtain ⟨u0, u, rfl, ru0, ru⟩ := rv.two
 obtain ⟨t, rfl⟩ := ru0
 obtain ⟨z, its, n, r, hl, e⟩ := I.lstM hH
 have hf : Builtin.List.listFitsIndex i = true := by
  unfold Builtin.List.listFitsIndex
  rw [Bool.and_eq_true]
  exact ⟨decide_eq_true h1, decide_eq_true h2⟩
 refine call_meets F.slot_list_insert ⟨_, e, rfl⟩ F.entry_list_insert (F.args_list_insert_3 _ _ _) (PySem.AutoSeq1.list_insert_list_int_val_1 l its.toArray n i t u (by simp [hf]) (by rw [List.size_toArray]; omega)) ⟨e, ?_⟩
 refine ⟨.non, _, I.lset (its' := insL its i u) hH e ?_ (r.ins i ru) ?_, rfl, q⟩
 ·show (its.toArray.extract 0 (if i < 0 then (i + (its.toArray.size : Int)).toNat else min i.toNat its.toArray.size)).push u ++ its.toArray.extract (if i < 0 then (i + (its.toArray.size : Int)).toNat else min i.toNat its.toArray.size) = (insL its i u).toArray
  rw [List.size_toArray]
  unfold insL insAt
  generalize (if i < 0 then (i + (its.length : Int)).toNat else min i.toNat its.length) = k
  apply Array.toList_inj.mp
  simp
  exact List.take_of_length_le (by simp)
 ·rw [insL_len]
  omega
noncomputable def pickL {α : Type} (ix : List Nat) (xs : List α) : List α := ix.filterMap fun i => xs[i]?
noncomputable def stepIx (n : Nat) (st : Int) : List Nat := let b := sliceBounds none none (some st) n; sliceRange b.1 b.2.1 b.2.2
end
end L2
namespace L2.VS
open PySem PySem.Spec PyProof.Rows
variable {P0 : Addr → Hp → Prop}
theorem _root_.L2.Dts.ins {G : Hp} {vs : List V} {ds : List D} (r : Dts G vs ds) (x : Int) {y : V} {d : D} (h : Dt G y d) : Dts G (insL vs x y) (insL ds x d) := by
 unfold insL
 rw [r.len]
 exact (r.tak _).app (.cons h (r.drp _))
noncomputable def insK (i : Nat) (x : D) (d : D) (Γ1 : En) (Q : Fl → Prop) : Prop := match Γ1[i]?, x with
 | some (.own ds), .int k => -(2 ^ 63) ≤ k ∧ k < 2 ^ 63 ∧ ds.length < 1000 ∧ Q (.nx (Γ1.set i (.own (insL ds k d))))
 | _, _ => False
noncomputable def mInsert (i : Nat) (ma mb : ME) : MS := fun Γ Q => match Γ[i]? with
 | some (.own _) => ma Γ fun x Γ1 => mb Γ1 fun d Γ2 => insK i x d Γ2 Q
 | _ => False
theorem vs_insert {K : PySem.W.Frag} {i : Nat} {ta tb : TE} {ma mb : ME} (ha : VT P0 ta ma) (hb : VT P0 tb mb) {A : Nat → Bool} : VSA P0 A (tDrop (tBM K "list" rInsert (tVar i) (tCons ta (tCons tb tNil)))) (mInsert i ma mb) := by
 intro F Γ σ G H E Qm r hm k
 unfold mInsert at hm
 split at hm
 ·rename_i ds0 e0
  obtain ⟨p, vs, e1, e2, e3, e4, e5⟩ := r.sl i _ e0
  refine ⟨_, e1, .inl ⟨rfl, _, SqL.of e4⟩, ?_⟩
  refine ha F Γ σ G H _ _ r hm fun c Γ1 y G1 H1 m1 s1 r1 d1 => ?_
  refine hb F Γ1 σ G1 H1 _ _ r1 m1 fun d Γ2 x G2 H2 m2 s2 r2 d2 => ?_
  unfold insK at m2
  split at m2
  ·rename_i ds j e
   cases d1
   obtain ⟨p', ws, f1, f2, f3, f4, f5⟩ := r2.sl i _ e
   rw [e1] at f1; cases f1
   refine ⟨p, ws, j, x, rfl, rfl, f4, m2.1, m2.2.1, small1000 (by rw [f5.len]; exact Nat.le_of_lt m2.2.2.1), ?_⟩
   exact k _ m2.2.2.2 _ _ _ (s1.trans s2) (r2.write e e1 (f5.ins j d2)) fun _ _ => rfl
  ·exact m2.elim
 ·exact hm.elim
noncomputable def mStep (ma mb : ME) : MO := fun Γ Q => ma Γ fun x Γ1 => mb Γ1 fun y Γ2 => match x, y with
 | .list ds, .int st => st ≠ 0 ∧ Q (.own (pickL (stepIx ds.length st) ds)) Γ2
 | _, _ => False
theorem i_insert {i : Nat} {ma mb : ME} {Γ : En} {Q : Fl → Prop} {ds : List D} (h0 : Γ[i]? = some (.own ds)) (h : ma Γ fun x Γ1 => mb Γ1 fun d Γ2 => insK i x d Γ2 Q) : mInsert i ma mb Γ Q := by
 unfold mInsert
 rw [h0]
 exact h
theorem i_insK {i : Nat} {j : Int} {d : D} {Γ : En} {Q : Fl → Prop} {ds : List D} (h0 : Γ[i]? = some (.own ds)) (h1 : -(2 ^ 63) ≤ j) (h2 : j < 2 ^ 63) (h3 : ds.length < 1000) (h : Q (.nx (Γ.set i (.own (insL ds j d))))) : insK i (.int j) d Γ Q := by
 unfold insK
 rw [h0]
 exact ⟨h1, h2, h3, h⟩
theorem i_step {ma mb : ME} {Γ : En} {Q : Rv → En → Prop} (h : ma Γ fun x Γ1 => mb Γ1 fun y Γ2 => match x, y with | .list ds, .int st => st ≠ 0 ∧ Q (.own (pickL (stepIx ds.length st) ds)) Γ2 | _, _ => False) : mStep ma mb Γ Q := h
end L2.VS
namespace L2
open PySem PySem.Spec PyProof.Rows
section
variable {X : Cx}
end
end L2
namespace L2.VS
open PySem PySem.Spec PyProof.Rows
variable {P0 : Addr → Hp → Prop}
noncomputable def boolsD : List D → Option (List Bool)
 | [] => some []
 | .bool b :: ds => (boolsD ds).map (b :: ·)
 | _ :: _ => none
noncomputable def mBs (f : List Bool → Bool) (ma : ME) : ME := fun Γ Q => ma Γ fun x Γ1 => match x with
 | .list ds => (match boolsD ds with
  | some bs => Q (.bool (f bs)) Γ1
  | none => False)
 | _ => False
noncomputable def mChain (p p' : Int → Int → Bool) (ma mb mc : ME) : ME := fun Γ Q => ma Γ fun x Γ1 => mb Γ1 fun y Γ2 => match x, y with
 | .int i, .int j => if p i j = true then mc Γ2 fun z Γ3 => (match z with
   | .int l => Q (.bool (p' j l)) Γ3
   | _ => False) else Q (.bool false) Γ2
 | _, _ => False
theorem i_bs {f : List Bool → Bool} {ma : ME} {Γ : En} {Q : D → En → Prop} (h : ma Γ fun x Γ1 => match x with | .list ds => (match boolsD ds with | some bs => Q (.bool (f bs)) Γ1 | none => False) | _ => False) : mBs f ma Γ Q := h
theorem i_chain {p p' : Int → Int → Bool} {ma mb mc : ME} {Γ : En} {Q : D → En → Prop} (h : ma Γ fun x Γ1 => mb Γ1 fun y Γ2 => match x, y with
 | .int i, .int j => if p i j = true then mc Γ2 fun z Γ3 => (match z with
   | .int l => Q (.bool (p' j l)) Γ3
   | _ => False) else Q (.bool false) Γ2
 | _, _ => False) : mChain p p' ma mb mc Γ Q := h
end L2.VS
namespace L2.VS
open PySem PySem.Spec PyProof.Rows
variable {P0 : Addr → Hp → Prop}
noncomputable def tameS : Option Sl → Sl
 | some (.val d) => if noLst d = true then .val d else .no
 | some (.own es) => if noLsts es = true then .own es else .no
 | some .pen => .pen
 | _ => .no
noncomputable def backE (as : List Nat) (Γ Γ1 : En) : En := (List.range Γ.length).map fun j => if as.contains j = true then tameS Γ1[j]? else (Γ[j]?).getD .no
noncomputable def mPeekS (as : List Nat) (m : MS) : MS := fun Γ Q => m (pubA Γ) fun fl => match fl with
 | .nx Γ1 => Γ1.length = Γ.length ∧ Q (.nx (backE as Γ Γ1))
 | .bk Γ1 => Γ1.length = Γ.length ∧ Q (.bk (backE as Γ Γ1))
 | .ct Γ1 => Γ1.length = Γ.length ∧ Q (.ct (backE as Γ Γ1))
 | .rt rv => Q (.rt rv)
theorem i_peekS {as : List Nat} {m : MS} {Γ : En} {Q : Fl → Prop} (h : m (pubA Γ) fun fl => match fl with
 | .nx Γ1 => Γ1.length = Γ.length ∧ Q (.nx (backE as Γ Γ1))
 | .bk Γ1 => Γ1.length = Γ.length ∧ Q (.bk (backE as Γ Γ1))
 | .ct Γ1 => Γ1.length = Γ.length ∧ Q (.ct (backE as Γ Γ1))
 | .rt rv => Q (.rt rv)) : mPeekS as m Γ Q := h
end L2.VS
namespace L2
open PySem PySem.Spec PyProof.Rows
theorem vals_of : ∀ {xs : List V} {us : List Value}, xs.length = us.length → (∀ (i : Nat) x u, xs[i]? = some x → us[i]? = some u → RelV x u) → Vals xs us
 | [], [], _, _ => .nil
 | x :: xs, u :: us, hl, h => .cons (h 0 x u rfl rfl) (vals_of (by simpa using hl) fun i y w e1 e2 => h (i + 1) y w (by simpa using e1) (by simpa using e2))
noncomputable def rangeV (lo : Int) (n : Nat) : List V := (List.range n).map fun (k : Nat) => V.int (lo + k)
theorem rangeV_len (lo : Int) (n : Nat) : (rangeV lo n).length = n := by unfold rangeV; rw [List.length_map, List.length_range]
section
variable {X : Cx}
noncomputable def rRng1 : List V → Hp → VK → Prop := fun xs H Q => ∃ j : Int, xs = [.int j] ∧ ∀ r, H r = none → Q (.ref r) (upd H r (.rng 0 j))
theorem call_range1R : CallR X (.type "range") rRng1 := by
 intro pins s σ H xs us Q I r h
 obtain ⟨j, rfl, q⟩ := h
 obtain ⟨u, rfl, rx⟩ := vals1 r
 obtain ⟨t, rfl⟩ := rx
 refine call_range_1 ?_
 exact ⟨.ref s.heap.objs.size, _, I.laid (o := .rng 0 j) (fun b o e => Heap.get?_push_of_some _ e) (Nat.le_refl _) (show ObjOk X.prog X.w _ _ _ (.rng 0 j) from ⟨_, _, _, Heap.get?_push_size _ rfl⟩), rfl, q _ (I.hok.fresh (Nat.le_refl _))⟩
noncomputable def rListRng : List V → Hp → VK → Prop := fun xs H Q => ∃ p lo hi, xs = [.ref p] ∧ H p = some (.rng lo hi) ∧ (-(2 ^ 62) ≤ lo ∧ lo < 2 ^ 62 ∧ -(2 ^ 62) ≤ hi ∧ hi < 2 ^ 62) ∧ (hi - lo).toNat ≤ 1000 ∧
 ∀ l, H l = none → Q (.ref l) (upd H l (.lst (rangeV lo (hi - lo).toNat)))
theorem call_list_rng (hc : X.calm = true) : CallR X (.type "list") rListRng := by
 intro pins s σ H xs us Q I r h
 obtain ⟨p, lo, hi, rfl, hp, ⟨b1, b2, b3, b4⟩, hn, q⟩ := h
 obtain ⟨u, rfl, rx⟩ := vals1 r
 cases rx
 obtain ⟨t, u, v, hr⟩ := I.hok p _ hp
 have hsz : Builtin.Range.rangeSize lo hi 1 = ((hi - lo).toNat : Int) := by rw [rangeSize_one]; split <;> omega
 refine call_list_range (I.ok.hd hc) hr (small_one b1 b2 b3 b4) hsz (by omega) fun h' tk acc' c' kp e it => ?_
 have hl : (rangeV lo (hi - lo).toNat).length = acc'.toList.length := by rw [rangeV_len, Array.length_toList]; exact it.1.symm
 have hv : Vals (rangeV lo (hi - lo).toNat) acc'.toList := by
  refine vals_of hl fun i x w e1 e2 => ?_
  obtain ⟨t', ew⟩ := it.2 i w (by simpa using e2)
  unfold rangeV at e1
  rw [List.getElem?_map] at e1
  cases e3 : (List.range (hi - lo).toNat)[i]? with
  | none => rw [e3] at e1; cases e1
  | some k =>
   rw [e3] at e1
   cases e1
   have hk : k = i := by
    obtain ⟨hlt, e4⟩ := List.getElem?_eq_some_iff.mp e3
    rw [List.getElem_range] at e4
    exact e4.symm
   subst hk
   exact ⟨t', by rw [ew, Int.mul_one]⟩
 exact ⟨.ref s.heap.objs.size, _, I.laid kp (Nat.le_refl _) (show ObjOk X.prog X.w _ h' _ (.lst (rangeV lo (hi - lo).toNat)) from ⟨small_le (by rw [rangeV_len]; exact hn), acc'.toList, c', hv, by simpa using e⟩), rfl, q _ (I.hok.fresh (Nat.le_refl _))⟩
end
end L2
namespace L2.VS
open PySem PySem.Spec PyProof.Rows
variable {P0 : Addr → Hp → Prop} {A : Nat → Bool}
noncomputable def mAug (i : Nat) (f : Int → Int → Int) (m : ME) : MS := fun Γ Q => match Γ[i]? with
 | some (.val (.int a)) => m Γ fun d Γ1 => match d with
  | .int b => Q (.nx (Γ1.set i (.val (.int (f a b)))))
  | _ => False
 | _ => False
theorem vs_aug {i : Nat} {f : Int → Int → Int} {t : TE} {m : ME} (h : VT P0 t m) (hA : A i = true := by rfl) : VSA P0 A (tAug i t (ipI f)) (mAug i f m) := by
 intro F Γ σ G H E Qm r hm k
 unfold mAug at hm
 split at hm
 ·rename_i a e
  obtain ⟨v, e1, d1⟩ := r.sl i _ e
  cases d1
  refine ⟨_, e1, h F Γ σ G H _ _ r hm fun d Γ1 x G1 H1 m1 s1 r1 d1 => ?_⟩
  split at m1
  ·cases d1
   exact ⟨_, _, rfl, rfl, k _ m1 _ _ _ s1 (r1.setV (.int _)) (set_off hA)⟩
  ·exact m1.elim
 ·exact hm.elim
abbrev fAdd : Int → Int → Int := fun i j => i + j
theorem i_aug {i : Nat} {f : Int → Int → Int} {m : ME} {Γ : En} {a : Int} {Q : Fl → Prop} (h0 : Γ[i]? = some (.val (.int a))) (h : m Γ fun d Γ1 => match d with | .int b => Q (.nx (Γ1.set i (.val (.int (f a b))))) | _ => False) : mAug i f m Γ Q := by
 unfold mAug
 rw [h0]
 exact h
theorem dts_range {G : Hp} (lo : Int) (n : Nat) : Dts G (rangeV lo n) (rangeD lo n) := by
 unfold rangeV rangeD
 generalize List.range n = xs
 induction xs with
 | nil => exact .nil
 | cons x xs ih => exact .cons (.int _) ih
noncomputable def mListRng (ma : ME) : MO := fun Γ Q => ma Γ fun x Γ1 => match x with
 | .int j => (0 ≤ j ∧ j ≤ 1000) ∧ Q (.own (rangeD 0 j.toNat)) Γ1
 | _ => False
theorem vo_listRng {ta : TE} {ma : ME} (ha : VT P0 ta ma) : VO P0 (tCB rListRng (tCons (tCB rRng1 (tCons ta tNil)) tNil)) (mListRng ma) := by
 intro F Γ σ G H Q Qm r m k
 refine ha F Γ σ G H _ _ r m fun d Γ1 x G1 H1 m1 s1 r1 d1 => ?_
 split at m1
 ·rename_i j
  cases d1
  obtain ⟨⟨h1, h2⟩, m1⟩ := m1
  refine ⟨j, rfl, fun p hp => ?_⟩
  have r2 := r1.newP (o := .rng 0 j) hp
  refine ⟨p, 0, j, rfl, upd_same, ⟨by omega, by omega, by omega, by omega⟩, by omega, fun l hl => ?_⟩
  have e : (j - 0).toNat = j.toNat := by omega
  rw [e]
  obtain ⟨a, b, c⟩ := own_new r2 hl (dts_range 0 j.toNat)
  exact k _ _ _ _ _ m1 s1 a b c
 ·exact m1.elim
theorem i_listRng {ma : ME} {Γ : En} {Q : Rv → En → Prop} (h : ma Γ fun x Γ1 => match x with | .int j => (0 ≤ j ∧ j ≤ 1000) ∧ Q (.own (rangeD 0 j.toNat)) Γ1 | _ => False) : mListRng ma Γ Q := h
end L2.VS
namespace L2.VS
open PySem PySem.Spec PyProof.Rows
end L2.VS
namespace PySem
open Sem (wp)
namespace F
theorem zip_no_len : typeLookup (.type "zip") "__len__" = pure none := by rw [typeLookup_type, builtinLookup_eq_fast]; kernel_rfl
theorem zip_no_hint : typeLookup (.type "zip") "__length_hint__" = pure none := by rw [typeLookup_type, builtinLookup_eq_fast]; kernel_rfl
end F
set_option hygiene false in
local macro_rules | `(tactic| walk_at "zr") => `(tactic| (
 simp only [Bool.false_eq_true, if_false, List.forIn_toArray, List.forIn_cons, List.forIn_nil]
 refine wpAny_bind (wpAny_bind (wpAny_bind (wpAny_holding ?_)))
 show wpAny _ _ (Builtin.SmallTypes.nextOf (.ref i1) >>= _) _ _ _
 refine wpAny_bind (wpAny_nextOf_list_item (h1.extBut hs₀.extBut D.i1z) (hl1.extBut hs₀.extBut D.l1z) hx fun h₂ h1₂ hs₂ => wpAny_pure ?_)
 refine wpAny_pure ?_
 refine wpAny_bind (wpAny_bind (wpAny_holding ?_))
 show wpAny _ _ (Builtin.SmallTypes.nextOf (.ref i2) >>= _) _ _ _
 refine wpAny_bind (wpAny_nextOf_list_item ((h2.extBut hs₀.extBut D.i2z).extBut hs₂.extBut D.i12.symm) ((hl2.extBut hs₀.extBut D.l2z).extBut hs₂.extBut D.l2i1) hy fun h₄ h2₄ hs₄ => wpAny_pure ?_)
 refine wpAny_pure (wpAny_pure ?_)
 show wpAny _ _ (newTuple [x, y] >>= _) _ _ _
 refine wpAny_bind (wpAny_newTuple (wpAny_pure ⟨_, rfl, ?_⟩))
 replace hs₂ : Heap.SameBut i1 h₀ h₂ := hs₂
 replace hs₄ : Heap.SameBut i2 h₂ h₄ := hs₄
 have hsz : h₄.objs.size = hp.objs.size := by rw [hs₄.1, hs₂.1, hs₀.1]
 show Q (.ref h₄.objs.size) ⟨h₄.push { cls := .type "tuple", data := .seq #[x, y] }, g, d, tk, os⟩
 have hz₄ : IsZipK h₄ z TI TO (rawInt T) (.bool true) := hs₄.extBut _ _ D.i2z.symm (hs₂.extBut _ _ D.i1z.symm hz₀)
 have hT₄ : IsPair (h₄.push { cls := .type "tuple", data := .seq #[x, y] }) h₄.objs.size x y := Heap.get?_push_size _ rfl
 rw [hsz] at hT₄ ⊢
 exact hQ _ (Heap.get?_push_of_some _ hz₄) ((h1₂.extBut hs₄.extBut D.i12).at fun o e => Heap.get?_push_of_some _ e) (h2₄.at fun o e => Heap.get?_push_of_some _ e) hT₄ (by rw [Heap.size_push, hsz])
  fun c o c1 c2 c3 e => Heap.get?_push_of_some _ (hs₄.extBut _ _ c3 (hs₂.extBut _ _ c2 (hs₀.extBut _ _ c1 e)))))
set_option hygiene false in
local macro_rules | `(tactic| walk_at "ze") => `(tactic| (
 simp only [Bool.false_eq_true, if_false, List.forIn_toArray, List.forIn_cons, List.forIn_nil]
 refine wpAny_bind (wpAny_bind (wpAny_bind (wpAny_holding ?_)))
 show wpAny _ _ (Builtin.SmallTypes.nextOf (.ref i1) >>= _) _ _ _
 cases hx : xs[k1]? with
 | none =>
  refine wpAny_bind (wpAny_nextOf_list_end hh (h1.extBut hs₀.extBut D.i1z) (hl1.extBut hs₀.extBut D.l1z) hx fun h₂ e hs₂ he => ?_)
  exact hE h₂ e (fun c o c1 c2 c3 x => hs₂ _ _ c2 (hs₀.extBut _ _ c1 x)) he
 | some x =>
  have hy : ys[k2]? = none := by rcases hend with h | h; rw [hx] at h; cases h; exact h
  refine wpAny_bind (wpAny_nextOf_list_item (h1.extBut hs₀.extBut D.i1z) (hl1.extBut hs₀.extBut D.l1z) hx fun h₂ h1₂ hs₂ => wpAny_pure ?_)
  refine wpAny_pure ?_
  refine wpAny_bind (wpAny_bind (wpAny_holding ?_))
  show wpAny _ _ (Builtin.SmallTypes.nextOf (.ref i2) >>= _) _ _ _
  refine wpAny_bind (wpAny_nextOf_list_end hh ((h2.extBut hs₀.extBut D.i2z).extBut hs₂.extBut D.i12.symm) ((hl2.extBut hs₀.extBut D.l2z).extBut hs₂.extBut D.l2i1) hy fun h₄ e hs₄ he => ?_)
  exact hE h₄ e (fun c o c1 c2 c3 x => hs₄ _ _ c3 (hs₂.extBut _ _ c2 (hs₀.extBut _ _ c1 x))) he))
abbrev IsZipK (h : Heap) (z TI TO : Addr) (f0 f1 : Value) : Prop :=
 h.get? z = some { cls := .type "zip", dict := none, data := .fields #[f0, f1, .bool false, .ref TI, .ref TO], slots := #[] }
section
variable {prog : Program} {w : World} {A : Around} {E : Value → Shared → Prop} {s : Shared}
theorem wpAny_loadIfAlive {a : Addr} {Q : Option Obj → Shared → Prop} (h : Q (s.heap.get? a) s) : wpAny (model prog w) A (loadIfAlive a) Q E s := by
 intro Γ p hΓ
 show wp _ _ (.loadIfAlive a .pure) _ _ _ _
 rw [Sem.wp_loadIfAlive]
 exact wpAny_pure (M := model prog w) (A := A) (E := E) h Γ p hΓ
theorem zip_next_later {z TI TO i1 i2 l1 l2 T : Addr} {k1 k2 : Nat} {xs ys : Array Value} {x y : Value} {b1 : Bool} {oT : Obj} {Q : Value → Shared → Prop} (D : ZipApart z TI TO i1 i2 l1 l2)
  (hz : IsZipK s.heap z TI TO (rawInt T) (.bool b1)) (hT : s.heap.get? T = some oT) (hTI : IsPair s.heap TI (.ref i1) (.ref i2))
  (h1 : s.heap.IsListIter i1 l1 k1) (h2 : s.heap.IsListIter i2 l2 k2) (hl1 : s.heap.IsList l1 xs) (hl2 : s.heap.IsList l2 ys) (hx : xs[k1]? = some x) (hy : ys[k2]? = some y)
  (hQ : ∀ h', IsZipK h' z TI TO (rawInt T) (.bool true) → h'.IsListIter i1 l1 (k1 + 1) → h'.IsListIter i2 l2 (k2 + 1) → IsPair h' s.heap.objs.size x y → h'.objs.size = s.heap.objs.size + 1 →
   (∀ c o, c ≠ z → c ≠ i1 → c ≠ i2 → s.heap.get? c = some o → h'.get? c = some o) → Q (.ref s.heap.objs.size) { s with heap := h' }) :
  wpAny (model prog w) A (Builtin.«zip.__next__» ⟨[.ref z], []⟩) (fun fin s' => ∃ v, fin = .done (.ret v) ∧ Q v s') E s := by
 obtain ⟨hp, g, d, tk, os⟩ := s
 show wpAny _ _ (field (.ref z) 2 >>= _) _ _ _
 refine wpAny_bind (wpAny_field hz rfl (x := .bool false) rfl ?_)
 show wpAny _ _ (field (.ref z) 3 >>= _) _ _ _
 refine wpAny_bind (wpAny_field hz rfl (x := .ref TI) rfl ?_)
 refine wpAny_bind (wpAny_seqItems hTI rfl ?_)
 show wpAny _ _ (Builtin.SmallTypes.ownedTupleIsFree (.ref z) >>= _) _ _ _
 refine wpAny_bind ?_
 unfold Builtin.SmallTypes.ownedTupleIsFree
 refine wpAny_bind (wpAny_field hz rfl (x := rawInt T) rfl ?_)
 simp only [rawInt]
 refine wpAny_bind (wpAny_loadIfAlive ?_)
 simp only [Int.toNat_natCast, hT, Option.isNone_some, Bool.false_eq_true, if_false]
 refine wpAny_bind (wpAny_field hz rfl (x := .bool b1) rfl ?_)
 cases b1
 ·rw [if_pos (by decide)]
  refine wpAny_bind (wpAny_setField_rec hz (by simp) fun h₀ hz₀ hs₀ => wpAny_pure ?_)
  replace hz₀ : IsZipK h₀ z TI TO (rawInt T) (.bool true) := hz₀
  replace hs₀ : Heap.SameBut z hp h₀ := hs₀
  walk_at "zr"
 ·rw [if_neg (by decide)]
  refine wpAny_pure ?_
  obtain ⟨h₀, e₀⟩ : ∃ h₀, h₀ = hp := ⟨_, rfl⟩
  have hz₀ : IsZipK h₀ z TI TO (rawInt T) (.bool true) := by rw [e₀]; exact hz
  have hs₀ : Heap.SameBut z hp h₀ := by rw [e₀]; exact ⟨rfl, fun _ _ => rfl⟩
  show wpAny _ _ _ _ _ ⟨hp, g, d, tk, os⟩
  rw [show (⟨hp, g, d, tk, os⟩ : Shared) = ⟨h₀, g, d, tk, os⟩ by rw [e₀]]
  walk_at "zr"
theorem zip_end_later {z TI TO i1 i2 l1 l2 T : Addr} {k1 k2 : Nat} {xs ys : Array Value} {b1 : Bool} {oT : Obj} {Q : Fin → Shared → Prop} (hh : A.handled = none) (D : ZipApart z TI TO i1 i2 l1 l2)
  (hz : IsZipK s.heap z TI TO (rawInt T) (.bool b1)) (hT : s.heap.get? T = some oT) (hTI : IsPair s.heap TI (.ref i1) (.ref i2))
  (h1 : s.heap.IsListIter i1 l1 k1) (h2 : s.heap.IsListIter i2 l2 k2) (hl1 : s.heap.IsList l1 xs) (hl2 : s.heap.IsList l2 ys) (hend : xs[k1]? = none ∨ ys[k2]? = none)
  (hE : ∀ h' e, (∀ c o, c ≠ z → c ≠ i1 → c ≠ i2 → s.heap.get? c = some o → h'.get? c = some o) → (∃ o, h'.get? e = some o ∧ o.cls = .type "StopIteration") → E (.ref e) { s with heap := h' }) :
  wpAny (model prog w) A (Builtin.«zip.__next__» ⟨[.ref z], []⟩) Q E s := by
 obtain ⟨hp, g, d, tk, os⟩ := s
 show wpAny _ _ (field (.ref z) 2 >>= _) _ _ _
 refine wpAny_bind (wpAny_field hz rfl (x := .bool false) rfl ?_)
 show wpAny _ _ (field (.ref z) 3 >>= _) _ _ _
 refine wpAny_bind (wpAny_field hz rfl (x := .ref TI) rfl ?_)
 refine wpAny_bind (wpAny_seqItems hTI rfl ?_)
 show wpAny _ _ (Builtin.SmallTypes.ownedTupleIsFree (.ref z) >>= _) _ _ _
 refine wpAny_bind ?_
 unfold Builtin.SmallTypes.ownedTupleIsFree
 refine wpAny_bind (wpAny_field hz rfl (x := rawInt T) rfl ?_)
 simp only [rawInt]
 refine wpAny_bind (wpAny_loadIfAlive ?_)
 simp only [Int.toNat_natCast, hT, Option.isNone_some, Bool.false_eq_true, if_false]
 refine wpAny_bind (wpAny_field hz rfl (x := .bool b1) rfl ?_)
 cases b1
 ·rw [if_pos (by decide)]
  refine wpAny_bind (wpAny_setField_rec hz (by simp) fun h₀ hz₀ hs₀ => wpAny_pure ?_)
  replace hz₀ : IsZipK h₀ z TI TO (rawInt T) (.bool true) := hz₀
  replace hs₀ : Heap.SameBut z hp h₀ := hs₀
  walk_at "ze"
 ·rw [if_neg (by decide)]
  refine wpAny_pure ?_
  obtain ⟨h₀, e₀⟩ : ∃ h₀, h₀ = hp := ⟨_, rfl⟩
  have hz₀ : IsZipK h₀ z TI TO (rawInt T) (.bool true) := by rw [e₀]; exact hz
  have hs₀ : Heap.SameBut z hp h₀ := by rw [e₀]; exact ⟨rfl, fun _ _ => rfl⟩
  show wpAny _ _ _ _ _ ⟨hp, g, d, tk, os⟩
  rw [show (⟨hp, g, d, tk, os⟩ : Shared) = ⟨h₀, g, d, tk, os⟩ by rw [e₀]]
  walk_at "ze"
theorem pyNext_zip_later {z TI TO i1 i2 l1 l2 T : Addr} {k1 k2 : Nat} {xs ys : Array Value} {x y : Value} {b1 : Bool} {oT : Obj} {Q : Option Value → Shared → Prop} (D : ZipApart z TI TO i1 i2 l1 l2)
  (hz : IsZipK s.heap z TI TO (rawInt T) (.bool b1)) (hT : s.heap.get? T = some oT) (hTI : IsPair s.heap TI (.ref i1) (.ref i2))
  (h1 : s.heap.IsListIter i1 l1 k1) (h2 : s.heap.IsListIter i2 l2 k2) (hl1 : s.heap.IsList l1 xs) (hl2 : s.heap.IsList l2 ys) (hx : xs[k1]? = some x) (hy : ys[k2]? = some y)
  (hQ : ∀ h', IsZipK h' z TI TO (rawInt T) (.bool true) → h'.IsListIter i1 l1 (k1 + 1) → h'.IsListIter i2 l2 (k2 + 1) → IsPair h' s.heap.objs.size x y → h'.objs.size = s.heap.objs.size + 1 →
   (∀ c o, c ≠ z → c ≠ i1 → c ≠ i2 → s.heap.get? c = some o → h'.get? c = some o) → Q (some (.ref s.heap.objs.size)) { s with heap := h' }) :
  wpAny (model prog w) A (pyNext (.ref z)) Q E s := by
 have hT' : s.TypeIs (.ref z) "zip" := ⟨_, hz, rfl⟩
 unfold pyNext
 exact wpAny_bind (wpAny_attempt (wpAny_callSpecial?_slot (name := Str.ofString "__next__") hT' F.slot_zip_next
  (wpAny_call_entry F.slot_zip_next hT' F.entry_zip_next
   (zip_next_later D hz hT hTI h1 h2 hl1 hl2 hx hy fun h' a1 a3 a4 a5 a6 a7 => wpAny_pure (hQ h' a1 a3 a4 a5 a6 a7)) (F.args_zip_next_1 _))))
theorem pyNext_zip_endL {z TI TO i1 i2 l1 l2 T : Addr} {k1 k2 : Nat} {xs ys : Array Value} {b1 : Bool} {oT : Obj} {Q : Option Value → Shared → Prop} (hh : A.handled = none) (D : ZipApart z TI TO i1 i2 l1 l2)
  (hz : IsZipK s.heap z TI TO (rawInt T) (.bool b1)) (hT : s.heap.get? T = some oT) (hTI : IsPair s.heap TI (.ref i1) (.ref i2))
  (h1 : s.heap.IsListIter i1 l1 k1) (h2 : s.heap.IsListIter i2 l2 k2) (hl1 : s.heap.IsList l1 xs) (hl2 : s.heap.IsList l2 ys) (hend : xs[k1]? = none ∨ ys[k2]? = none)
  (hQ : ∀ h', (∀ c o, c ≠ z → c ≠ i1 → c ≠ i2 → s.heap.get? c = some o → h'.get? c = some o) → Q none { s with heap := h' }) : wpAny (model prog w) A (pyNext (.ref z)) Q E s := by
 have hT' : s.TypeIs (.ref z) "zip" := ⟨_, hz, rfl⟩
 unfold pyNext
 refine wpAny_bind (wpAny_attempt (wpAny_callSpecial?_slot (name := Str.ofString "__next__") hT' F.slot_zip_next
  (wpAny_call_entry F.slot_zip_next hT' F.entry_zip_next (zip_end_later hh D hz hT hTI h1 h2 hl1 hl2 hend fun h' e hk he => ?_) (F.args_zip_next_1 _))))
 obtain ⟨o, ho, hc⟩ := he
 refine wpAny_bind (wpAny_isInstance (T := "StopIteration") (b := true) ⟨o, ho, hc⟩ isSubtype_stop ?_)
 exact wpAny_pure (hQ _ hk)
end
end PySem
namespace PySem
open Sem (wp)
structure ZAt (N z TI TO i1 i2 l1 l2 : Addr) (xs ys : Array Value) (i : Nat) (h : Heap) : Prop where
 tI : IsPair h TI (.ref i1) (.ref i2)
 it1 : h.IsListIter i1 l1 i
 it2 : h.IsListIter i2 l2 i
 li1 : h.IsList l1 xs
 li2 : h.IsList l2 ys
 zz : (i = 0 ∧ IsZip h z TI TO .none ∧ ∃ a b, IsPair h TO a b) ∨ ∃ T b1 oT, IsZipK h z TI TO (rawInt (T : Addr)) (.bool b1) ∧ h.get? T = some oT ∧ N ≤ T
noncomputable def AccZ (N : Nat) (xs ys : Array Value) (i : Nat) (h : Heap) (acc : Array Value) : Prop :=
 acc.size = i ∧ ∀ (j : Nat) v, acc[j]? = some v → ∃ (T : Addr) (x y : Value), v = .ref T ∧ N ≤ T ∧ xs[j]? = some x ∧ ys[j]? = some y ∧ IsPair h T x y
theorem AccZ.up {N : Nat} {xs ys : Array Value} {i : Nat} {h h' : Heap} {acc : Array Value} (a : AccZ N xs ys i h acc) (k : ∀ b o, N ≤ b → h.get? b = some o → h'.get? b = some o) : AccZ N xs ys i h' acc :=
 ⟨a.1, fun j v e => let ⟨T, x, y, e1, e2, e3, e4, e5⟩ := a.2 j v e; ⟨T, x, y, e1, e2, e3, e4, k _ _ e2 e5⟩⟩
theorem AccZ.push {N : Nat} {xs ys : Array Value} {i : Nat} {h : Heap} {acc : Array Value} {T : Addr} {x y : Value} (a : AccZ N xs ys i h acc) (hT : N ≤ T) (hx : xs[i]? = some x) (hy : ys[i]? = some y) (hp : IsPair h T x y) : AccZ N xs ys (i + 1) h (acc.push (.ref T)) := by
 refine ⟨by rw [Array.size_push, a.1], fun j v hj => ?_⟩
 rw [Array.getElem?_push] at hj
 split at hj
 ·rename_i e; rw [a.1] at e; cases hj; rw [e]; exact ⟨T, x, y, rfl, hT, hx, hy, hp⟩
 ·exact a.2 j v hj
theorem agt {N b c : Nat} (h1 : c < N) (h2 : N ≤ b) : b ≠ c := Nat.ne_of_gt (Nat.lt_of_lt_of_le h1 h2)
section
variable {prog : Program} {w : World} {A : Around} {R : Result → Shared → Prop}
theorem codeAny_extend_zip (hh : A.handled = none) {N z TI TO i1 i2 l1 l2 S : Addr} {xs ys : Array Value} (D : ZipApart z TI TO i1 i2 l1 l2) (n1 : z < N) (n2 : TI < N) (n3 : TO < N) (n4 : i1 < N) (n5 : i2 < N) (n6 : l1 < N) (n7 : l2 < N) (n8 : S < N)
  (s1 : S ≠ z) (s2 : S ≠ TI) (s3 : S ≠ TO) (s4 : S ≠ i1) (s5 : S ≠ i2) (s6 : S ≠ l1) (s7 : S ≠ l2) (res : Value) (hn : min xs.size ys.size ≤ sizeLine) :
  ∀ (k i : Nat) (s : Shared) (acc : Array Value) (c : Nat), min xs.size ys.size - i = k → i ≤ min xs.size ys.size → N ≤ s.heap.objs.size → ZAt N z TI TO i1 i2 l1 l2 xs ys i s.heap →
  s.heap.get? S = some { cls := .type "list", dict := none, data := .seq acc c, slots := #[] } → AccZ N xs ys i s.heap acc →
  (∀ h' acc' c', (∀ b o, b < N → b ∉ [S, z, TO, i1, i2] → s.heap.get? b = some o → h'.get? b = some o) → h'.get? S = some { cls := .type "list", dict := none, data := .seq acc' c', slots := #[] } →
   AccZ N xs ys (min xs.size ys.size) h' acc' → R (.ok (.ret res)) { s with heap := h' }) →
  codeAny (model prog w) A (.builtin "list.extend.loop" ⟨[.ref S, .ref z, res], []⟩) R s := by
 intro k
 induction k with
 | zero =>
  intro i s acc c hk hi hsz Z hS hacc hR
  have hin : i = min xs.size ys.size := by omega
  subst hin
  have hend : xs[min xs.size ys.size]? = none ∨ ys[min xs.size ys.size]? = none := by
   rcases Nat.le_total xs.size ys.size with h | h
   ·exact .inl (by rw [Nat.min_eq_left h]; exact Array.getElem?_eq_none (Nat.le_refl _))
   ·exact .inr (by rw [Nat.min_eq_right h]; exact Array.getElem?_eq_none (Nat.le_refl _))
  refine codeAny_builtin F.entry_extend_loop ?_
  rw [Around.under_plainId F.plain_extend_loop _]
  show wpAny _ A.in1 (pyNext (.ref z) >>= _) _ _ s
  refine wpAny_bind ?_
  rcases Z.zz with ⟨e0, hz, a, b, hTO⟩ | ⟨T, b1, oT, hz, hT, hNT⟩
  ·refine wpAny_pyNext_zip_end (A := A.in1) hh D hz Z.tI hTO Z.it1 Z.it2 Z.li1 Z.li2 hend fun h' kp => wpAny_pure (hR h' acc c (fun b o hb hm e => ?_) (kp _ _ s1 s3 s4 s5 hS) (hacc.up fun b o hb e => ?_))
   ·exact kp b o (fun z => hm (by simp [z])) (fun z => hm (by simp [z])) (fun z => hm (by simp [z])) (fun z => hm (by simp [z])) e
   ·exact kp b o (agt n1 hb) (agt n3 hb) (agt n4 hb) (agt n5 hb) e
  ·refine pyNext_zip_endL (A := A.in1) hh D hz hT Z.tI Z.it1 Z.it2 Z.li1 Z.li2 hend fun h' kp => wpAny_pure (hR h' acc c (fun b o hb hm e => ?_) (kp _ _ s1 s4 s5 hS) (hacc.up fun b o hb e => ?_))
   ·exact kp b o (fun z => hm (by simp [z])) (fun z => hm (by simp [z])) (fun z => hm (by simp [z])) e
   ·exact kp b o (agt n1 hb) (agt n4 hb) (agt n5 hb) e
 | succ k ih =>
  intro i s acc c hk hi hsz Z hS hacc hR
  have hlt : i < min xs.size ys.size := by omega
  have hix : i < xs.size := Nat.lt_of_lt_of_le hlt (Nat.min_le_left ..)
  have hiy : i < ys.size := Nat.lt_of_lt_of_le hlt (Nat.min_le_right ..)
  have ex := Array.getElem?_eq_getElem hix
  have ey := Array.getElem?_eq_getElem hiy
  refine codeAny_builtin F.entry_extend_loop ?_
  rw [Around.under_plainId F.plain_extend_loop _]
  show wpAny _ A.in1 (pyNext (.ref z) >>= _) _ _ s
  refine wpAny_bind ?_
  have next : ∀ (h' : Heap) (T : Addr) (b1 : Bool) (oT : Obj), IsZipK h' z TI TO (rawInt T) (.bool b1) → h'.get? T = some oT → N ≤ T → h'.IsListIter i1 l1 (i + 1) → h'.IsListIter i2 l2 (i + 1) → IsPair h' s.heap.objs.size xs[i] ys[i] → h'.objs.size = s.heap.objs.size + 1 →
    (∀ c o, c ≠ z → c ≠ TO → c ≠ i1 → c ≠ i2 → s.heap.get? c = some o → h'.get? c = some o) →
    wpAny (model prog w) A.in1 (updateSeq S (·.push (.ref s.heap.objs.size)) >>= fun _ => again (.builtin "list.extend.loop" ⟨[.ref S, .ref z, res], []⟩)) (fun fin s' => match fin with | .done f => R (.ok f) s' | .again c' => c'.quiet = true ∧ codeAny (model prog w) A c' R s') (fun e s' => R (.error e) s') { s with heap := h' } := by
   intro h' T b1 oT hz hT hNT it1 it2 hp hsz' kp
   have hS' := kp _ _ s1 s3 s4 s5 hS
   refine wpAny_bind ?_
   have oth : ∀ b o, b ≠ S → h'.get? b = some o → (h'.update S (Obj.mapSeq (·.push (.ref s.heap.objs.size)))).get? b = some o := fun b o hb e => (Heap.get?_update_other _ _ (Ne.symm hb)).trans e
   refine wpAny_updateSeq hS' rfl (wpAny_pure ⟨plainId_quiet F.plain_extend_loop _, ih (i + 1) _ (acc.push (.ref s.heap.objs.size)) _ (by omega) hlt ?_ ⟨?_, ?_, ?_, ?_, ?_, ?_⟩ (Heap.get?_update_self _ hS' rfl) ?_ fun h'' acc' c' kp2 hS2 hacc2 => ?_⟩)
    (by rw [hacc.1]; omega) (by show (acc.push _).size ≤ sizeLine + 1; rw [Array.size_push, hacc.1]; omega)
   ·show N ≤ (h'.update S _).objs.size
    rw [Heap.size_update, hsz']; exact Nat.le_succ_of_le hsz
   ·exact oth _ _ (Ne.symm s2) (kp _ _ D.TIz D.TITO D.TIi1 D.TIi2 Z.tI)
   ·exact it1.at fun o e => oth _ o (Ne.symm s4) e
   ·exact it2.at fun o e => oth _ o (Ne.symm s5) e
   ·exact Z.li1.at fun o e => oth _ o (Ne.symm s6) (kp _ o D.l1z D.l1TO D.l1i1 D.l1i2 e)
   ·exact Z.li2.at fun o e => oth _ o (Ne.symm s7) (kp _ o D.l2z D.l2TO D.l2i1 D.l2i2 e)
   ·exact .inr ⟨T, b1, oT, oth _ _ (Ne.symm s1) hz, oth _ _ (agt n8 hNT) hT, hNT⟩
   ·exact AccZ.push (hacc.up fun b o hb e => oth _ _ (agt n8 hb) (kp _ _ (agt n1 hb) (agt n3 hb) (agt n4 hb) (agt n5 hb) e)) hsz ex ey (oth _ _ (agt n8 hsz) hp)
   ·refine hR h'' acc' c' (fun b o hb hm e => kp2 b o hb hm (oth b o (fun z => hm (by simp [z])) ?_)) hS2 hacc2
    exact kp b o (fun z => hm (by simp [z])) (fun z => hm (by simp [z])) (fun z => hm (by simp [z])) (fun z => hm (by simp [z])) e
  rcases Z.zz with ⟨e0, hz, a, b, hTO⟩ | ⟨T, b1, oT, hz, hT, hNT⟩
  ·refine wpAny_pyNext_zip_item (A := A.in1) D hz Z.tI hTO Z.it1 Z.it2 Z.li1 Z.li2 ex ey fun h' a1 a2 a3 a4 a5 a6 kp => ?_
   exact next h' s.heap.objs.size false _ a1 a5 hsz a3 a4 a5 a6 kp
  ·refine pyNext_zip_later (A := A.in1) D hz hT Z.tI Z.it1 Z.it2 Z.li1 Z.li2 ex ey fun h' a1 a3 a4 a5 a6 kp => ?_
   exact next h' T true oT a1 (kp _ _ (agt n1 hNT) (agt n4 hNT) (agt n5 hNT) hT) hNT a3 a4 a5 a6 fun c o c1 _ c3 c4 e => kp c o c1 c3 c4 e
end
section
variable {prog : Program} {w : World} {A : Around} {E : Value → Shared → Prop} {s : Shared}
theorem call_list_zip {Q : Value → Shared → Prop} {z TI TO i1 i2 l1 l2 : Addr} {xs ys : Array Value} {a b : Value} (hh : A.handled = none) (D : ZipApart z TI TO i1 i2 l1 l2)
  (hz : IsZip s.heap z TI TO .none) (hTI : IsPair s.heap TI (.ref i1) (.ref i2)) (hTO : IsPair s.heap TO a b) (h1 : s.heap.IsListIter i1 l1 0) (h2 : s.heap.IsListIter i2 l2 0) (hl1 : s.heap.IsList l1 xs) (hl2 : s.heap.IsList l2 ys) (hn : min xs.size ys.size ≤ sizeLine)
  (hQ : ∀ h' acc' c', (∀ b o, b ∉ [z, TO, i1, i2] → s.heap.get? b = some o → h'.get? b = some o) → h'.get? s.heap.objs.size = some { cls := .type "list", dict := none, data := .seq acc' c', slots := #[] } →
   AccZ (s.heap.objs.size + 1) xs ys (min xs.size ys.size) h' acc' → Q (.ref s.heap.objs.size) { s with heap := h' }) :
  wpAny (model prog w) A (call (.type "list") [.ref z]) Q E s := by
 refine callType_codes (Q₁ := fun obj s₁ => obj = .ref s.heap.objs.size ∧ s₁ = { s with heap := s.heap.push { cls := .type "list", data := .seq #[] } }) F.called_list (F.typeCall_list_1 _) F.entry_list_init
  (code_list_new _ ⟨rfl, rfl⟩) fun obj s₁ h₁ => ?_
 obtain ⟨rfl, rfl⟩ := h₁
 have hS : (s.heap.push { cls := .type "list", data := .seq #[] }).get? s.heap.objs.size = some { cls := .type "list", data := .seq #[] } := Heap.get?_push_size _ rfl
 refine ⟨⟨_, hS, rfl⟩, F.args_list_init_2 _ _, ?_⟩
 generalize hSe : s.heap.objs.size = S at *
 have lt : ∀ {c o}, s.heap.get? c = some o → c < S := fun e => by rw [← hSe]; exact Heap.lt_size e
 have lz := lt hz
 have lTI := lt hTI
 have lTO := lt hTO
 have li1 : i1 < S := by obtain ⟨_, e, _⟩ := h1; exact lt e
 have li2 : i2 < S := by obtain ⟨_, e, _⟩ := h2; exact lt e
 have ll1 : l1 < S := by obtain ⟨_, e, _⟩ := hl1; exact lt e
 have ll2 : l2 < S := by obtain ⟨_, e, _⟩ := hl2; exact lt e
 show wpAny _ _ (do let old ← Builtin.List.listItems (.ref S); Builtin.List.listUpdate (.ref S) (fun _ => #[]); letGo old.toList.reverse; Builtin.List.listExtendWith (.ref S) (.ref z) .none) _ _ _
 refine wpAny_bind ?_
 unfold Builtin.List.listItems
 refine wpAny_bind (wpAny_seqItems hS rfl (wpAny_pure ?_))
 show wpAny _ _ (updateSeq S (fun _ => #[]) >>= fun _ => letGo (#[] : Array Value).toList.reverse >>= fun _ => Builtin.List.listExtendWith (.ref S) (.ref z) .none) _ _ _
 refine wpAny_bind (wpAny_updateSeq hS rfl ?_)
 have hS₂ := Heap.get?_update_self (Obj.mapSeq (fun _ => (#[] : Array Value))) hS rfl
 have up₂ : ∀ b o, s.heap.get? b = some o → ((s.heap.push { cls := .type "list", data := .seq #[] }).update S (Obj.mapSeq (fun _ => (#[] : Array Value)))).get? b = some o :=
  fun b o e => (Heap.get?_update_other _ _ (Nat.ne_of_gt (lt e))).trans (Heap.get?_push_of_some _ e)
 have sz₂ : ((s.heap.push { cls := .type "list", data := .seq #[] }).update S (Obj.mapSeq (fun _ => (#[] : Array Value)))).objs.size = S + 1 := by rw [Heap.size_update, Heap.size_push, hSe]
 generalize (s.heap.push { cls := .type "list", data := .seq #[] }).update S (Obj.mapSeq (fun _ => (#[] : Array Value))) = hp at *
 refine wpAny_bind (wpAny_letGo ?_)
 have hT : (({ s with heap := hp } : Shared)).TypeIs (.ref z) "zip" := ⟨_, up₂ _ _ hz, rfl⟩
 unfold Builtin.List.listExtendWith
 refine wpAny_bind (wpAny_typeOf hT ?_)
 have g1 : Builtin.List.listSameRef (.ref S) (.ref z) = false := by simp [Builtin.List.listSameRef]; exact Nat.ne_of_gt lz
 have g2 : (Value.type "zip" == Value.type "list") = false := by decide
 have g3 : (Value.type "zip" == Value.type "tuple") = false := by decide
 simp only [g1, g2, g3, Bool.or_false, Bool.false_eq_true, if_false]
 refine wpAny_bind (wpAny_pyIter_zip (up₂ _ _ hz) ?_)
 refine wpAny_bind (wpAny_holding ?_)
 unfold Builtin.List.listLengthHint
 refine wpAny_bind (wpAny_specialOf hT F.zip_no_len ?_)
 show wpAny _ _ (specialOf (Value.ref z) (Str.ofString "__length_hint__") >>= _) _ _ _
 refine wpAny_bind (wpAny_specialOf hT F.zip_no_hint ?_)
 refine wpAny_pure ?_
 show wpAny _ _ (rule "list.extend.makes-room" >>= fun _ => Builtin.List.listTouch (.ref S) >>= fun _ =>
  again (.builtin "list.extend.loop" ⟨[.ref S, .ref z, .none], []⟩)) _ _ _
 refine wpAny_bind (wpAny_rule ?_)
 refine wpAny_bind ?_
 show wpAny _ _ (updateSeq S (·.push .none) >>= fun _ => updateSeq S (·.pop)) _ _ _
 refine wpAny_bind (wpAny_updateSeq hS₂ rfl ?_)
 have hS₃ := Heap.get?_update_self (Obj.mapSeq (·.push Value.none)) hS₂ rfl
 refine wpAny_updateSeq hS₃ rfl ?_
 have hS₄ := Heap.get?_update_self (Obj.mapSeq (·.pop)) hS₃ rfl
 have up₄ : ∀ b o, s.heap.get? b = some o → ((hp.update S (Obj.mapSeq (·.push Value.none))).update S (Obj.mapSeq (·.pop))).get? b = some o :=
  fun b o e => (Heap.get?_update_other _ _ (Nat.ne_of_gt (lt e))).trans ((Heap.get?_update_other _ _ (Nat.ne_of_gt (lt e))).trans (up₂ b o e))
 have sz₄ : ((hp.update S (Obj.mapSeq (·.push Value.none))).update S (Obj.mapSeq (·.pop))).objs.size = S + 1 := by rw [Heap.size_update, Heap.size_update, sz₂]
 refine wpAny_pure ⟨plainId_quiet F.plain_extend_loop _, codeAny_extend_zip (A := A.in1) hh (N := S + 1) (S := S) (xs := xs) (ys := ys) D (Nat.lt_succ_of_lt lz) (Nat.lt_succ_of_lt lTI) (Nat.lt_succ_of_lt lTO) (Nat.lt_succ_of_lt li1) (Nat.lt_succ_of_lt li2) (Nat.lt_succ_of_lt ll1) (Nat.lt_succ_of_lt ll2) (Nat.lt_succ_self _) (Nat.ne_of_gt lz) (Nat.ne_of_gt lTI) (Nat.ne_of_gt lTO) (Nat.ne_of_gt li1) (Nat.ne_of_gt li2) (Nat.ne_of_gt ll1) (Nat.ne_of_gt ll2) .none hn _ 0 _ _ _ rfl (Nat.zero_le _) (by show S + 1 ≤ _; rw [sz₄]; exact Nat.le_refl _) ⟨up₄ _ _ hTI, h1.at fun o e => up₄ _ o e, h2.at fun o e => up₄ _ o e, hl1.at fun o e => up₄ _ o e, hl2.at fun o e => up₄ _ o e, .inl ⟨rfl, up₄ _ _ hz, _, _, up₄ _ _ hTO⟩⟩ hS₄ ⟨rfl, fun j v e => by simp at e⟩ fun h' acc' c' kp e1 e2 => ?_⟩
 exact ⟨rfl, hQ h' acc' c' (fun b o hm e => kp b o (Nat.lt_succ_of_lt (lt e)) (fun h => by
  rcases List.mem_cons.mp h with z | z
  ·exact absurd (lt e) (by rw [z]; exact Nat.lt_irrefl _)
  ·exact hm z) (up₄ b o e)) e1 e2⟩
end
end PySem
namespace L2
open PySem PySem.Spec PyProof.Rows
theorem relV_inj : ∀ {v v' : V} {u : Value}, RelV v u → RelV v' u → v = v' := by
 intro v v' u h h'
 have go : ∀ {v : V} {u : Value}, RelV v u → v = (match u with | .none => V.non | .bool b => .bl b | .int i _ => .int i | .str x _ => .str x | .bytes b _ => .byt b | .float b _ => .flt b | .ref a => .ref a | .type n => .ty n | _ => .non) := by
  intro v u h
  cases v <;> first
   | (cases h; rfl)
   | (obtain ⟨t, rfl⟩ := h; rfl)
 rw [go h, ← go h']
section
variable {X : Cx} {pins : List (Addr × Obj)} {σ : List (Option V)} {H : Hp} {s : Shared}
theorem Inv.laidN {H2 : Hp} {h' : Heap} {t' : Nat} (I : Inv X pins σ H s) (k : ∀ b u, s.heap.get? b = some u → h'.get? b = some u) (lo : ∀ b, b < s.heap.objs.size → H2 b = H b)
  (new : ∀ b o, s.heap.objs.size ≤ b → H2 b = some o → ObjOk X.prog X.w H2 h' b o) : Inv X pins σ H2 { s with heap := h', toks := t' } := by
 refine I.un ⟨fun b u q _ _ _ => k b u q, fun b u q _ _ _ => ⟨u.slots, k b u q⟩, fun b u q n _ => (lo b (Heap.lt_size q)).trans n, fun b u q _ => ⟨u, k b u q⟩, fun b xs q => (lo b (I.hok.lt q)).trans q, fun b u xs q => (lo b (I.hok.lt q)).trans q, fun b ps q => ⟨#[], by rw [lo b (I.hok.lt q), q]; simp⟩⟩ fun b o e => ?_
 by_cases hb : b < s.heap.objs.size
 ·rw [lo b hb] at e
  exact (I.hok b o e).stay (fun c v _ q => k c v q) (fun c q => (lo c (I.hok.lt q)).trans q) fun c xs q => (lo c (I.hok.lt q)).trans q
 ·exact new b o (Nat.le_of_not_lt hb) e
noncomputable def tLZ (K : PySem.W.Frag) (ta : TA) : TE := fun σ H Q => ta σ H fun vs H1 => ∃ p q xs ys, vs = [.ref p, .ref q] ∧ SqL K H1 p xs ∧ SqL K H1 q ys ∧
 ∀ (l : Addr) (H2 : Hp) (us : List V), H1 l = none → Same H1 H2 → H2 l = some (.lst us) → Paired (fun (v : V) (z : V × V) => ∃ T, v = .ref T ∧ H1 T = none ∧ T ≠ l ∧ H2 T = some (.tup [z.1, z.2])) us (xs.zip ys) → Q (.ref l) H2
theorem paired_of {α β : Type} {P : α → β → Prop} : ∀ {xs : List α} {us : List β}, xs.length = us.length → (∀ (i : Nat) x u, xs[i]? = some x → us[i]? = some u → P x u) → Paired P xs us
 | [], [], _, _ => .nil
 | x :: xs, u :: us, hl, h => .cons (h 0 x u rfl rfl) (paired_of (by simpa using hl) fun i y w e1 e2 => h (i + 1) y w (by simpa using e1) (by simpa using e2))
theorem Vals.at {xs : List V} {us : List Value} (h : Vals xs us) {i : Nat} {u : Value} (e : us[i]? = some u) : ∃ x, xs[i]? = some x ∧ RelV x u := by
 induction h generalizing i with
 | nil => simp at e
 | @cons x w xs us hx _ ih =>
  cases i with
  | zero => simp at e; subst e; exact ⟨x, rfl, hx⟩
  | succ i => simpa using ih (by simpa using e)
open Classical in
theorem listZip_end {h0 h' : Heap} {N : Nat} {xs ys : List V} {ix iy : List Value} {acc : Array Value} {c' : Nat} {Q : VK} {l : Addr} (I : Inv X pins σ H s) (kp : ∀ b u, s.heap.get? b = some u → h'.get? b = some u) (rx : Vals xs ix) (ry : Vals ys iy) (hl : s.heap.objs.size ≤ l)
  (e1 : h'.get? l = some { cls := .type "list", dict := none, data := .seq acc c', slots := #[] }) (e2 : AccZ (l + 1) ix.toArray iy.toArray (min ix.toArray.size iy.toArray.size) h' acc) (hz : xs.length ≤ sizeLine)
  (k : ∀ (l : Addr) (H2 : Hp) (us : List V), H l = none → Same H H2 → H2 l = some (.lst us) → Paired (fun (v : V) (z : V × V) => ∃ T, v = .ref T ∧ H T = none ∧ T ≠ l ∧ H2 T = some (.tup [z.1, z.2])) us (xs.zip ys) → Q (.ref l) H2) :
  EP X pins σ Q (.ref l) { s with heap := h' } := by
 obtain ⟨hs, ha⟩ := e2
 let Pr : Addr → V × V → Prop := fun b z => ∃ ux uy, l + 1 ≤ b ∧ IsPair h' b ux uy ∧ RelV z.1 ux ∧ RelV z.2 uy ∧ ∃ j : Nat, acc[j]? = some (Value.ref b)
 have prU : ∀ b z z', Pr b z → Pr b z' → z = z' := by
  rintro b ⟨z1, z2⟩ ⟨z3, z4⟩ ⟨ux, uy, _, p1, p2, p3, _⟩ ⟨vx, vy, _, q1, q2, q3, _⟩
  have e := p1.symm.trans q1
  simp only [Option.some.injEq, Obj.mk.injEq, Data.seq.injEq, Array.mk.injEq, List.cons.injEq, and_true, true_and] at e
  obtain ⟨rfl, rfl⟩ := e
  have e1 : z1 = z3 := relV_inj p2 q2
  have e2 : z2 = z4 := relV_inj p3 q3
  rw [e1, e2]
 let us : List V := (acc.toList).map fun u => match u with | .ref T => V.ref T | _ => V.non
 let H2 : Hp := fun b => if b = l then some (.lst us) else if hb : ∃ z, Pr b z then some (.tup [(choose hb).1, (choose hb).2]) else H b
 have h2P : ∀ b z, b ≠ l → Pr b z → H2 b = some (.tup [z.1, z.2]) := fun b z hb hz => by
  have hx : ∃ z, Pr b z := ⟨z, hz⟩
  show (if b = l then _ else if hb : ∃ z, Pr b z then _ else _) = _
  rw [if_neg hb, dif_pos hx, prU b _ z (choose_spec hx) hz]
 have h2l : H2 l = some (.lst us) := by show (if l = l then _ else _) = _; rw [if_pos rfl]
 have lo : ∀ b, b < s.heap.objs.size → H2 b = H b := fun b hb => by
  have n1 : b ≠ l := Nat.ne_of_lt (Nat.lt_of_lt_of_le hb hl)
  have n2 : ¬ ∃ z, Pr b z := fun ⟨z, ux, uy, hN, _⟩ => absurd (Nat.lt_of_lt_of_le hb (Nat.le_trans hl (Nat.le_of_succ_le hN))) (Nat.lt_irrefl _)
  show (if b = l then _ else if hb : ∃ z, Pr b z then _ else _) = _
  rw [if_neg n1, dif_neg n2]
 have hxl := rx.length
 have hyl := ry.length
 have hmin : min ix.toArray.size iy.toArray.size ≤ xs.length := by rw [hxl]; simpa using Nat.min_le_left _ _
 have vus : Vals us acc.toList := by
  refine vals_of (by simp [us]) fun i x u e3 e4 => ?_
  obtain ⟨T, ux, uy, e5, _⟩ := ha i u (by simpa using e4)
  have e6 : us[i]? = some (V.ref T) := by
   simp only [us]
   rw [List.getElem?_map, e4, e5]; rfl
  rw [e6] at e3; cases e3
  rw [e5]; exact rfl
 refine ⟨.ref l, H2, I.laidN (t' := s.toks) kp lo fun b o hb eb => ?_, rfl, k l H2 us (I.hok.fresh hl) (fun b o e => (lo b (I.hok.lt e)).trans e) h2l ?_⟩
 ·have eb : (if b = l then some (HO.lst us) else if hb : ∃ z, Pr b z then some (HO.tup [(choose hb).1, (choose hb).2]) else H b) = some o := eb
  by_cases n1 : b = l
  ·rw [if_pos n1] at eb
   cases eb
   subst n1
   refine ⟨?_, acc.toList, c', vus, by simpa using e1⟩
   rw [vus.length, Array.length_toList, hs]
   exact Nat.le_trans hmin hz
  ·rw [if_neg n1] at eb
   split at eb
   ·rename_i hx
    cases eb
    obtain ⟨ux, uy, _, p1, p2, p3, _⟩ := choose_spec hx
    exact ⟨small_le (by show 2 ≤ 1000; decide), [ux, uy], .cons p2 (.cons p3 .nil), ⟨_, p1, rfl, _, rfl⟩⟩
   ·rw [I.hok.fresh hb] at eb; cases eb
 ·have hlen : us.length = (xs.zip ys).length := by
   rw [vus.length, Array.length_toList, hs, List.length_zip, hxl, hyl]; simp
  refine paired_of hlen fun i v z e3 e4 => ?_
  have hi : i < acc.size := by
   have := (List.getElem?_eq_some_iff.mp e3).1
   rw [vus.length, Array.length_toList] at this
   exact this
  have e5 : acc[i]? = some acc[i] := Array.getElem?_eq_getElem hi
  obtain ⟨T, ux, uy, e6, hT, g1, g2, g3⟩ := ha i _ e5
  have e7 : us[i]? = some (V.ref T) := by
   simp only [us]
   rw [List.getElem?_map, Array.getElem?_toList, e5, e6]; rfl
  rw [e7] at e3; cases e3
  obtain ⟨x, ex, rx'⟩ := Vals.at rx (i := i) (u := ux) (by simpa using g1)
  obtain ⟨y, ey, ry'⟩ := Vals.at ry (i := i) (u := uy) (by simpa using g2)
  have ez : z = (x, y) := by
   rw [List.getElem?_zip_eq_some] at e4
   obtain ⟨f1, f2⟩ := e4
   rw [ex] at f1; rw [ey] at f2
   cases f1; cases f2; rfl
  subst ez
  have hTl : T ≠ l := Nat.ne_of_gt hT
  exact ⟨T, rfl, I.hok.fresh (Nat.le_trans hl (Nat.le_of_succ_le hT)), hTl, h2P T (x, y) hTl ⟨ux, uy, hT, g3, rx', ry', i, by rw [e5, e6]⟩⟩
theorem pe_listZip {a b : Expr} {ta : TA} {p p2 pos pos2 : Pos} (hc : X.calm = true) (hg1 : Gl X "list") (hm1 : X.mg "list" = none) (hg2 : Gl X "zip") (hm2 : X.mg "zip" = none) (ha : PA X [a, b] ta)
  (he : starEach [.Call (.Name "zip" p2) [a, b] [] pos2] X.env = [(false, eval (.Call (.Name "zip" p2) [a, b] [] pos2) X.env)] := by rfl)
  (he2 : starEach [a, b] X.env = (false, eval a X.env) :: starEach [b] X.env := by rfl) (hpl2 : (backTo pos2 (starEach [b] X.env)).any (·.1) = false := by rfl) :
  PE X (.Call (.Name "list" p) [.Call (.Name "zip" p2) [a, b] [] pos2] [] pos) (tLZ X.K ta) := by
 intro pins s σ H Q I h
 refine wpAny_Call_Name_kw (ld_blt I hg1 hm1 boot_list ?_ (by decide) (by decide))
 refine PyProof.Rows.callWith_type1 (rest := []) ?_ he rfl
 rw [he]
 refine Calls.spliced_cons ?_
 refine wpAny_Call_Name_kw (ld_blt I hg2 hm2 boot_zip ?_ (by decide) (by decide))
 refine PyProof.Rows.callWith_type1 (thn (ha pos2 pins s σ H _ I h) fun us s1 ⟨vs, H1, I1, r1, p, q, xs, ys, e, hp, hq, k⟩ => ?_) he2 hpl2
 subst e
 cases r1 with
 | cons ra rb =>
  cases rb with
  | cons rb rc =>
   cases rc
   cases ra
   cases rb
   obtain ⟨ix, rx, px, zx⟩ := I1.list hp
   obtain ⟨iy, ry, py, zy⟩ := I1.list hq
   refine call_zip_2 px.isList py.isList fun h' hz hTI hTO i1 i2 sz kp => ?_
   refine Calls.spliced_nil ?_
   have lp : p < s1.heap.objs.size := by obtain ⟨o, e, _⟩ := px.isList; exact Heap.lt_size e
   have lq : q < s1.heap.objs.size := by obtain ⟨o, e, _⟩ := py.isList; exact Heap.lt_size e
   have ap : ∀ {b : Addr} (n : Nat), b < s1.heap.objs.size → b ≠ s1.heap.objs.size + n := fun n hb => Nat.ne_of_lt (Nat.lt_of_lt_of_le hb (Nat.le_add_right _ _))
   have ne : ∀ (m n : Nat), m ≠ n → s1.heap.objs.size + m ≠ s1.heap.objs.size + n := fun m n h e => h (Nat.add_left_cancel e)
   have D : ZipApart (s1.heap.objs.size + 4) (s1.heap.objs.size + 2) (s1.heap.objs.size + 3) (s1.heap.objs.size + 0) (s1.heap.objs.size + 1) p q :=
    ⟨ne _ _ (by decide), ne _ _ (by decide), ne _ _ (by decide), ne _ _ (by decide), ne _ _ (by decide), ne _ _ (by decide), ne _ _ (by decide), ne _ _ (by decide), ne _ _ (by decide), ne _ _ (by decide), ap _ lp, ap _ lp, ap _ lp, ap _ lp, ap _ lq, ap _ lq, ap _ lq, ap _ lq⟩
   have hmn : min ix.toArray.size iy.toArray.size ≤ sizeLine := Nat.le_trans (Nat.min_le_left _ _) (by rw [List.size_toArray, ← rx.length]; exact zx)
   refine call_list_zip (I.ok.hd hc) D hz hTI hTO i1 i2 (px.isList.at fun o e => kp _ o e) (py.isList.at fun o e => kp _ o e) hmn fun h'' acc c kp2 e1 e2 => ?_
   have hsz : s1.heap.objs.size ≤ h'.objs.size := by rw [sz]; exact Nat.le_add_right _ _
   have kp3 : ∀ b u, s1.heap.get? b = some u → h''.get? b = some u := fun b u e => kp2 b u (fun hm => by
    have lb := Heap.lt_size e
    simp only [List.mem_cons, List.not_mem_nil, or_false] at hm
    rcases hm with z | z | z | z
    ·exact ap _ lb z
    ·exact ap _ lb z
    ·exact ap 0 lb z
    ·exact ap _ lb z) (kp b u e)
   show EP X pins σ Q _ { s1 with heap := h'' }
   exact listZip_end (s := s1) (h0 := h') (N := 0) I1 kp3 rx ry hsz e1 e2 zx k
end
end L2
namespace L2.VS
open PySem PySem.Spec PyProof.Rows
variable {P0 : Addr → Hp → Prop} {K : PySem.W.Frag}
noncomputable def zipD (ds es : List D) : List D := (ds.zip es).map fun p => .tuple [p.1, p.2]
noncomputable def mListZip (ma mb : ME) : MO := fun Γ Q => ma Γ fun x Γ1 => mb Γ1 fun y Γ2 => match x, y with
 | .list ds, .list es => Q (.own (zipD ds es)) Γ2
 | _, _ => False
theorem _root_.L2.Dts.zip {G : Hp} : ∀ {xs ys : List V} {ds es : List D}, Dts G xs ds → Dts G ys es → Paired (fun (z : V × V) (e : D × D) => Dt G z.1 e.1 ∧ Dt G z.2 e.2) (xs.zip ys) (ds.zip es) := by
 intro xs ys ds es h g
 induction ds generalizing xs ys es with
 | nil => cases h; exact .nil
 | cons x ds ih =>
  cases h with
  | cons a b =>
   cases es with
   | nil => cases g; exact .nil
   | cons y es => cases g with | cons c d => exact .cons ⟨a, c⟩ (ih b d)
open Classical in
theorem vo_listZip {ta tb : TE} {ma mb : ME} (ha : VT P0 ta ma) (hb : VT P0 tb mb) : VO P0 (tLZ K (tCons ta (tCons tb tNil))) (mListZip ma mb) := by
 intro F Γ σ G H Q Qm r m k
 refine ha F Γ σ G H _ _ r m fun d Γ1 x G1 H1 m1 s1 r1 d1 => ?_
 refine hb F Γ1 σ G1 H1 _ _ r1 m1 fun e Γ2 y G2 H2 m2 s2 r2 d2 => ?_
 have d1 := Dt.same s2 _ _ d1
 split at m2
 ·rename_i ds0 es0 _
  cases d1 with
  | @lst p xs _ hp rs =>
   cases d2 with
   | @lst q ys _ hq ss =>
    refine ⟨p, q, xs, ys, rfl, SqL.of (r2.fr.sub _ _ hp), SqL.of (r2.fr.sub _ _ hq), fun l H3 us hl sm el pr => ?_⟩
    let G3 : Hp := fun b => if G2 b = none then (if V.ref b ∈ us then H3 b else none) else G2 b
    have fresh : ∀ b, V.ref b ∈ us → H2 b = none ∧ b ≠ l := by
     intro b hb
     have : ∀ {us : List V} {zs : List (V × V)}, Paired (fun (v : V) (z : V × V) => ∃ T, v = .ref T ∧ H2 T = none ∧ T ≠ l ∧ H3 T = some (.tup [z.1, z.2])) us zs → V.ref b ∈ us → H2 b = none ∧ b ≠ l := by
      intro us zs h
      induction h with
      | nil => intro h; cases h
      | cons h1 _ ih =>
       intro h
       rcases List.mem_cons.mp h with e | e
       ·obtain ⟨T, e1, e2, e3, _⟩ := h1
        rw [← e] at e1
        cases e1
        exact ⟨e2, e3⟩
       ·exact ih e
     exact this pr hb
    have g : Same G2 G3 := fun b o e => by
     show (if G2 b = none then _ else _) = _
     rw [if_neg (by rw [e]; intro z; cases z)]
     exact e
    have sub : Same G3 H3 := fun b o e => by
     have e : (if G2 b = none then (if V.ref b ∈ us then H3 b else none) else G2 b) = some o := e
     split at e
     ·split at e
      ·exact e
      ·cases e
     ·exact sm _ _ (r2.fr.sub _ _ e)
    have off : ∀ b, H2 b ≠ none → G3 b = G2 b := fun b hb => by
     show (if G2 b = none then (if V.ref b ∈ us then H3 b else none) else G2 b) = _
     split
     ·rename_i e
      rw [if_neg fun h => hb (fresh b h).1, e]
     ·rfl
    have f : Rf F G3 H3 := ⟨sub, fun b o e => by
      obtain ⟨o', e'⟩ := r2.fr.dom e
      rw [off b (by rw [e']; intro z; cases z)]
      exact r2.fr.g0 b o e, fun b o e hb => sm _ _ (r2.fr.h0 b o e hb), F.stab' H2 _ (fun b u e => by
      obtain ⟨o', e'⟩ := r2.fr.dom e
      rw [e']
      exact sm _ _ e') r2.fr.pn⟩
    have kp : ∀ b o, F.H0 b = none → G2 b = none → H2 b = some o → G3 b = none ∧ H3 b = some o := fun b o _ e1 e2 => ⟨by rw [off b (by rw [e2]; intro z; cases z)]; exact e1, sm _ _ e2⟩
    have r3 : R F Γ2 σ G3 H3 := r2.keep f g fun b o _ e0 e1 e2 => kp b o e0 e1 e2
    have dus : Dts G3 us (zipD ds0 es0) := by
     have go : ∀ {us' : List V} {zs : List (V × V)} {es : List (D × D)}, (∀ v ∈ us', v ∈ us) → Paired (fun (v : V) (z : V × V) => ∃ T, v = .ref T ∧ H2 T = none ∧ T ≠ l ∧ H3 T = some (.tup [z.1, z.2])) us' zs → Paired (fun (z : V × V) (e : D × D) => Dt G2 z.1 e.1 ∧ Dt G2 z.2 e.2) zs es → Dts G3 us' (es.map fun p => .tuple [p.1, p.2]) := by
      intro us' zs es hin h
      induction h generalizing es with
      | nil => intro h2; cases h2; exact .nil
      | cons h1 _ ih =>
       intro h2
       cases h2 with
       | cons h3 h4 =>
        obtain ⟨T, rfl, e2, e3, e4⟩ := h1
        refine .cons (.tup ?_ (.cons (Dt.same g _ _ h3.1) (.cons (Dt.same g _ _ h3.2) .nil))) (ih (fun v hv => hin v (List.mem_cons_of_mem _ hv)) h4)
        show (if G2 T = none then (if V.ref T ∈ us then H3 T else none) else G2 T) = _
        rw [if_pos (r2.fr.gfresh e2), if_pos (hin _ List.mem_cons_self)]
        exact e4
     exact go (fun _ h => h) pr (rs.zip ss)
    have hl3 : G3 l = none := by
     show (if G2 l = none then (if V.ref l ∈ us then H3 l else none) else G2 l) = _
     rw [if_pos (r2.fr.gfresh hl), if_neg fun h => (fresh l h).2 rfl]
    exact k _ _ _ _ _ m2 ((s1.trans s2).trans g) r3 ⟨l, us, rfl, r2.fr.fresh hl, hl3, el, dus⟩ (Apart.new r2 hl g kp)
 ·exact m2.elim
theorem i_listZip {ma mb : ME} {Γ : En} {Q : Rv → En → Prop} (h : ma Γ fun x Γ1 => mb Γ1 fun y Γ2 => match x, y with | .list ds, .list es => Q (.own (zipD ds es)) Γ2 | _, _ => False) : mListZip ma mb Γ Q := h
end L2.VS
namespace L2
open PySem PySem.Spec PyProof.Rows
section
variable {X : Cx} {pins : List (Addr × Obj)} {σ : List (Option V)} {H : Hp} {s : Shared}
theorem Inv.turnedL {h' : Heap} {t' : Nat} {ch : List Addr} {T : Addr} {o : HO} (I : Inv X pins σ H s) (k : ∀ b u, b ∉ ch → s.heap.get? b = some u → h'.get? b = some u) (hch : ∀ b ∈ ch, FpOk X pins H b) (hT : s.heap.objs.size ≤ T)
  (new : ObjOk X.prog X.w (upd H T o) h' T o) : Inv X pins σ (upd H T o) { s with heap := h', toks := t' } := by
 have hn := I.hok.fresh hT
 have nch : ∀ b u, H b = some u → b ∉ ch := fun b u e z => by rw [(hch b z).1] at e; cases e
 refine I.step (g' := s.gens) (d' := s.drawn) (ch := ch) (fun b hb => ⟨(hch b hb).2.2.2.1, (hch b hb).2.1, (hch b hb).2.2.2.2.1, (hch b hb).2.2.2.2.2⟩) (fun b o _ _ hc e _ => k b o hc e) (fun b o _ _ hc e _ => ⟨o.slots, k b o hc e⟩)
  (fun b u _ e n => by rw [upd_ne (Nat.ne_of_lt (Nat.lt_of_lt_of_le (Heap.lt_size e) hT))]; exact n) (fun b o hc e => ⟨o, k b o hc e⟩) (fun b xs q => by rw [upd_ne (ne_of_none q hn)]; exact q) (fun b u xs q => by rw [upd_ne (ne_of_none q hn)]; exact q)
  (fun b ps q => ⟨#[], by rw [upd_ne (ne_of_none q hn), q]; simp⟩) (fun m hm => ?_) (fun b u e => ?_) I.bare
 ·obtain ⟨o, es, ep, ho, r⟩ := hm
  exact ⟨o, es, ep, k _ o (fun z => (hch _ z).2.1 rfl) ho, r⟩
 ·by_cases hb : b = T
  ·subst hb; rw [upd_same] at e; cases e; exact new
  ·rw [upd_ne hb] at e
   refine (I.hok b u e).stay (fun c v hc q => k c v ?_ q) (fun c q => by rw [upd_ne (ne_of_none q hn)]; exact q) fun c xs q => by rw [upd_ne (ne_of_none q hn)]; exact q
   rcases hc with z | z
   ·rw [z]; exact nch b u e
   ·exact nch c _ z
theorem Inv.turnedC {h' : Heap} {t' : Nat} {ch : List Addr} (I : Inv X pins σ H s) (k : ∀ b u, b ∉ ch → s.heap.get? b = some u → h'.get? b = some u) (hch : ∀ b ∈ ch, FpOk X pins H b) : Inv X pins σ H { s with heap := h', toks := t' } := by
 have nch : ∀ b u, H b = some u → b ∉ ch := fun b u e z => by rw [(hch b z).1] at e; cases e
 refine I.step (g' := s.gens) (d' := s.drawn) (ch := ch) (fun b hb => ⟨(hch b hb).2.2.2.1, (hch b hb).2.1, (hch b hb).2.2.2.2.1, (hch b hb).2.2.2.2.2⟩) (fun b o _ _ hc e _ => k b o hc e) (fun b o _ _ hc e _ => ⟨o.slots, k b o hc e⟩)
  (fun b u _ e n => n) (fun b o hc e => ⟨o, k b o hc e⟩) (fun b xs q => q) (fun b u xs q => q) (fun b ps q => ⟨#[], by rw [q]; simp⟩) (fun m hm => ?_) (fun b u e => ?_) I.bare
 ·obtain ⟨o, es, ep, ho, r⟩ := hm
  exact ⟨o, es, ep, k _ o (fun z => (hch _ z).2.1 rfl) ho, r⟩
 ·refine (I.hok b u e).stay (fun c v hc q => k c v ?_ q) (fun _ q => q) fun _ _ q => q
  rcases hc with z | z
  ·rw [z]; exact nch b u e
  ·exact nch c _ z
end
noncomputable def Itz (K : PySem.W.Frag) (a b : Addr) : It :=
  ⟨fun i H => ∃ xs ys x y, SqL K H a xs ∧ SqL K H b ys ∧ xs[i]? = some x ∧ ys[i]? = some y,
   fun i H v H' => ∃ T x y, v = .ref T ∧ H T = none ∧ H' = upd H T (.tup [x, y]) ∧ ∀ xs ys, SqL K H a xs → SqL K H b ys → xs[i]? = some x ∧ ys[i]? = some y,
   fun i H => ∃ xs ys, SqL K H a xs ∧ SqL K H b ys ∧ (xs.length ≤ i ∨ ys.length ≤ i)⟩
theorem turn_zip {P : Program} {w : World} {K : PySem.W.Frag} {elts : List Expr} {cx} {tp : Pos} {z TI TO i1 i2 a b : Addr} (D : ZipApart z TI TO i1 i2 a b) : Turn P w K (.Tuple elts cx tp) (Itz K a b) [z, TI, TO, i1, i2] z
  (fun i h => IsZip h z TI TO .none ∧ IsPair h TI (.ref i1) (.ref i2) ∧ (∃ u v, IsPair h TO u v) ∧ h.IsListIter i1 a i ∧ h.IsListIter i2 b i) where
 mem := by simp
 obj := fun i h st c hc => by
  obtain ⟨hz, hTI, ⟨u, v, hTO⟩, ⟨o1, e1, c1, d1⟩, ⟨o2, e2, c2, d2⟩⟩ := st
  simp only [List.mem_cons, List.not_mem_nil, or_false] at hc
  rcases hc with rfl | rfl | rfl | rfl | rfl
  ·exact ⟨_, hz, fun v z => by cases z⟩
  ·exact ⟨_, hTI, fun v z => by cases z⟩
  ·exact ⟨_, hTO, fun v z => by cases z⟩
  ·exact ⟨o1, e1, fun v z => by rw [d1] at z; cases z⟩
  ·exact ⟨o2, e2, fun v z => by rw [d2] at z; cases z⟩
 keep := fun i h h' st k => by
  obtain ⟨hz, hTI, ⟨u, v, hTO⟩, h1, h2⟩ := st
  exact ⟨k z (by simp) _ hz, k TI (by simp) _ hTI, ⟨u, v, k TO (by simp) _ hTO⟩, h1.at fun o e => k i1 (by simp) o e, h2.at fun o e => k i2 (by simp) o e⟩
 item := by
  intro X hP hw hK hc i pins s σ H E I hf st hg
  subst hP hw hK
  obtain ⟨xs, ys, x, y, qx, qy, ex, ey⟩ := hg
  obtain ⟨ix, rx, px, zx⟩ := I.list qx
  obtain ⟨iy, ry, py, zy⟩ := I.list qy
  obtain ⟨ux, gx, rux⟩ := rx.get ex
  obtain ⟨uy, gy, ruy⟩ := ry.get ey
  obtain ⟨hz, hTI, ⟨u, v, hTO⟩, h1, h2⟩ := st
  refine wpAny_pyNext_zip_item D hz hTI hTO h1 h2 px.isList py.isList (x := ux) (y := uy) (by simpa using gx) (by simpa using gy) fun h' a1 a2 a3 a4 a5 a6 kp => ?_
  refine ⟨_, rfl, wpAny_letOwnedTupleGo_zip a1 fun h'' hz' hs' => ?_⟩
  have hs' : Heap.SameBut z h' h'' := hs'
  have nT : s.heap.objs.size ≠ z := Nat.ne_of_gt (Heap.lt_size hz)
  have hT : IsPair h'' s.heap.objs.size ux uy := hs'.extBut _ _ nT a5
  have I2 : Inv X pins σ (upd H s.heap.objs.size (.tup [x, y])) { s with heap := h'' } := I.turnedL (t' := s.toks) (ch := [z, TI, TO, i1, i2])
   (fun c o hc e => hs'.extBut _ _ (fun q => hc (by simp [q])) (kp c o (fun q => hc (by simp [q])) (fun q => hc (by simp [q])) (fun q => hc (by simp [q])) (fun q => hc (by simp [q])) e))
   hf (Nat.le_refl _) ⟨small_le (by show 2 ≤ 1000; decide), [ux, uy], .cons rux (.cons ruy .nil), ⟨_, hT, rfl, _, rfl⟩⟩
  have fr := I.hok.fresh (Nat.le_refl s.heap.objs.size)
  refine ⟨.ref s.heap.objs.size, _, I2, rfl, ⟨_, x, y, rfl, fr, rfl, fun xs' ys' q1 q2 => ⟨by rw [I.list_inj q1 qx]; exact ex, by rw [I.list_inj q2 qy]; exact ey⟩⟩, ⟨hz', hs'.extBut _ _ D.TIz (kp _ _ D.TIz D.TITO D.TIi1 D.TIi2 hTI), ⟨_, _, hs'.extBut _ _ D.TOz a2⟩, a3.extBut hs'.extBut D.i1z, a4.extBut hs'.extBut D.i2z⟩, fun c hc => ?_⟩
  have lt : c < s.heap.objs.size := by
   simp only [List.mem_cons, List.not_mem_nil, or_false] at hc
   rcases hc with rfl | rfl | rfl | rfl | rfl
   ·exact Heap.lt_size hz
   ·exact Heap.lt_size hTI
   ·exact Heap.lt_size hTO
   ·obtain ⟨_, e, _⟩ := h1; exact Heap.lt_size e
   ·obtain ⟨_, e, _⟩ := h2; exact Heap.lt_size e
  rw [upd_ne (Nat.ne_of_lt lt)]
  exact (hf c hc).1
 done := by
  intro X hP hw hK hc i pins s σ H E I hf st hg
  subst hP hw hK
  obtain ⟨xs, ys, qx, qy, hle⟩ := hg
  obtain ⟨ix, rx, px, zx⟩ := I.list qx
  obtain ⟨iy, ry, py, zy⟩ := I.list qy
  obtain ⟨hz, hTI, ⟨u, v, hTO⟩, h1, h2⟩ := st
  have lx := rx.length
  have ly := ry.length
  refine wpAny_pyNext_zip_end (I.ok.hd hc) D hz hTI hTO h1 h2 px.isList py.isList (hle.imp (fun h => by simp; omega) fun h => by simp; omega) fun h' kp => ⟨rfl, I.turnedC (t' := s.toks) (ch := [z, TI, TO, i1, i2]) (fun c o hc e => ?_) hf⟩
  exact kp c o (fun q => hc (by simp [q])) (fun q => hc (by simp [q])) (fun q => hc (by simp [q])) (fun q => hc (by simp [q])) e
 self := fun _ _ _ _ _ st h => wpAny_pyIter_zip st.1 h
section
variable {X : Cx}
noncomputable def iZip (K : PySem.W.Frag) (ta : TA) : TI := fun σ H R => ta σ H fun vs H1 => ∃ p q xs ys, vs = [.ref p, .ref q] ∧ SqL K H1 p xs ∧ SqL K H1 q ys ∧ R (Itz K p q) H1
theorem pi_zip {a b : Expr} {ta : TA} {p pos tp : Pos} {elts : List Expr} {cx} (hg : Gl X "zip") (hm : X.mg "zip" = none) (ha : PA X [a, b] ta)
  (he2 : starEach [a, b] X.env = (false, eval a X.env) :: starEach [b] X.env := by rfl) (hpl2 : (backTo pos (starEach [b] X.env)).any (·.1) = false := by rfl) :
  PI X (.Tuple elts cx tp) (.Call (.Name "zip" p) [a, b] [] pos) (iZip X.K ta) := by
 intro pins s σ H R I h
 refine wpAny_Call_Name_kw (ld_blt I hg hm boot_zip ?_ (by decide) (by decide))
 refine PyProof.Rows.callWith_type1 (thn (ha pos pins s σ H _ I h) fun us s1 ⟨vs, H1, I1, r1, p, q, xs, ys, e, hp, hq, k⟩ => ?_) he2 hpl2
 subst e
 cases r1 with
 | cons ra rb =>
  cases rb with
  | cons rb rc =>
   cases rc
   cases ra
   cases rb
   obtain ⟨ix, rx, px, zx⟩ := I1.list hp
   obtain ⟨iy, ry, py, zy⟩ := I1.list hq
   refine call_zip_2 px.isList py.isList fun h' hz hTI hTO i1 i2 sz kp => ?_
   have lp : p < s1.heap.objs.size := by obtain ⟨o, e, _⟩ := px.isList; exact Heap.lt_size e
   have lq : q < s1.heap.objs.size := by obtain ⟨o, e, _⟩ := py.isList; exact Heap.lt_size e
   have ap : ∀ {b : Addr} (n : Nat), b < s1.heap.objs.size → b ≠ s1.heap.objs.size + n := fun n hb => Nat.ne_of_lt (Nat.lt_of_lt_of_le hb (Nat.le_add_right _ _))
   have ne : ∀ (m n : Nat), m ≠ n → s1.heap.objs.size + m ≠ s1.heap.objs.size + n := fun m n h e => h (Nat.add_left_cancel e)
   have D : ZipApart (s1.heap.objs.size + 4) (s1.heap.objs.size + 2) (s1.heap.objs.size + 3) (s1.heap.objs.size + 0) (s1.heap.objs.size + 1) p q :=
    ⟨ne _ _ (by decide), ne _ _ (by decide), ne _ _ (by decide), ne _ _ (by decide), ne _ _ (by decide), ne _ _ (by decide), ne _ _ (by decide), ne _ _ (by decide), ne _ _ (by decide), ne _ _ (by decide), ap _ lp, ap _ lp, ap _ lp, ap _ lp, ap _ lq, ap _ lq, ap _ lq, ap _ lq⟩
   refine wpAny_pyIter_zip hz ?_
   have I2 : Inv X pins σ H1 { s1 with heap := h' } := I1.kept (t' := s1.toks) kp
   refine ⟨_, [s1.heap.objs.size + 4, s1.heap.objs.size + 2, s1.heap.objs.size + 3, s1.heap.objs.size + 0, s1.heap.objs.size + 1], _, _, H1, rfl, I2, turn_zip D, ⟨hz, hTI, ⟨_, _, hTO⟩, i1, i2⟩, fun c hc => ?_, k⟩
   have hle : s1.heap.objs.size ≤ c := by
    simp only [List.mem_cons, List.not_mem_nil, or_false] at hc
    rcases hc with rfl | rfl | rfl | rfl | rfl <;> exact Nat.le_add_right _ _
   exact I1.fpOk hle (I1.hok.fresh hle)
end
end L2
namespace L2.VS
open PySem PySem.Spec PyProof.Rows
variable {P0 : Addr → Hp → Prop} {K : PySem.W.Frag}
noncomputable def mItZ (ma mb : ME) : MD := fun Γ Q => ma Γ fun x Γ1 => mb Γ1 fun y Γ2 => match x, y with
 | .list ds, .list es => Q (zipD ds es) Γ2
 | _, _ => False
noncomputable def enumD (ds : List D) : List D := (List.range ds.length).map fun (i : Nat) => PyData.tuple [.int (i : Int), ds.getD i .none]
noncomputable def mItE (ma : ME) : MD := fun Γ Q => ma Γ fun x Γ1 => match x with
 | .list ds => Q (enumD ds) Γ1
 | _ => False
theorem i_itZ {ma mb : ME} {Γ : En} {Q : List D → En → Prop} (h : ma Γ fun x Γ1 => mb Γ1 fun y Γ2 => match x, y with | .list ds, .list es => Q (zipD ds es) Γ2 | _, _ => False) : mItZ ma mb Γ Q := h
theorem i_itE {ma : ME} {Γ : En} {Q : List D → En → Prop} (h : ma Γ fun x Γ1 => match x with | .list ds => Q (enumD ds) Γ1 | _ => False) : mItE ma Γ Q := h
end L2.VS
namespace L2
open PySem PySem.Spec PyProof.Rows
section
variable {X : Cx}
end
end L2
namespace L2.VS
open PySem PySem.Spec PyProof.Rows
variable {P0 : Addr → Hp → Prop}
noncomputable def mIsB (neg : Bool) (ma mb : ME) : ME := fun Γ Q => ma Γ fun x Γ1 => mb Γ1 fun y Γ2 => match x, y with
 | .bool b, .bool c => Q (.bool (if neg then !decide (b = c) else decide (b = c))) Γ2
 | _, _ => False
theorem i_isB {neg : Bool} {ma mb : ME} {Γ : En} {Q : D → En → Prop} (h : ma Γ fun x Γ1 => mb Γ1 fun y Γ2 => match x, y with | .bool b, .bool c => Q (.bool (if neg then !decide (b = c) else decide (b = c))) Γ2 | _, _ => False) : mIsB neg ma mb Γ Q := h
end L2.VS
namespace PySem
open Sem (wp)
open AutoSeq1 (wpAny_loadPart')
noncomputable def DicE (h : Heap) (d : Addr) (es : Array DictEntry) (ep : Nat) : Prop := ∃ o, h.get? d = some o ∧ o.ExactDict ∧ o.data = .dict es ep
theorem DicE.up {h h' : Heap} {d : Addr} {es : Array DictEntry} {ep : Nat} (x : DicE h d es ep) (k : ∀ o, h.get? d = some o → h'.get? d = some o) : DicE h' d es ep := let ⟨o, e, r⟩ := x; ⟨o, k _ e, r⟩
theorem DicE.ty {s : Shared} {d : Addr} {es : Array DictEntry} {ep : Nat} (x : DicE s.heap d es ep) : s.TypeIs (.ref d) "dict" := let ⟨o, e, c, _⟩ := x; ⟨o, e, c.1⟩
section
variable {prog : Program} {w : World} {A : Around} {E : Value → Shared → Prop} {s : Shared} {d it : Addr} {es : Array DictEntry} {ep : Nat}
end
section
variable {prog : Program} {w : World} {K : Type} [DecidableEq K] {knd : HeapKind prog w K} {A : Around} {E : Value → Shared → Prop} {s : Shared}
end
end PySem
namespace L2
open PySem PySem.Spec PyProof.Rows
noncomputable def kEnt (x : List Int × Addr × Addr) : DictEntry := ⟨reduceHash (Builtin.Tuple.tupleHashOf (x.1.map hashInt)), .ref x.2.1, .ref x.2.2⟩
noncomputable def DicX (d : Addr) (xs : List (List Int × Addr × Addr)) (ep : Nat) : HO := .ext fun h => DicE h d (xs.map kEnt).toArray ep
section
variable {P : Program} {w : World} {H : Hp} {h : Heap} {p : Addr} {xs : List (List Int × Addr × Addr)} {ep : Nat}
theorem exHeap : ∀ n : Nat, ∃ h : Heap, h.objs.size = n
 | 0 => ⟨{ objs := #[] }, rfl⟩
 | n + 1 => let ⟨h, e⟩ := exHeap n; ⟨h.push { cls := .type "dict", data := .dict #[] }, by rw [Heap.size_push, e]⟩
theorem DicX.inj {ys : List (List Int × Addr × Addr)} {ep' : Nat} (e : DicX p xs ep = DicX p ys ep') : xs.map kEnt = ys.map kEnt := by
 obtain ⟨h0, hs⟩ := exHeap p
 unfold DicX at e
 have q := congrFun (HO.ext.inj e) (h0.push { cls := .type "dict", data := .dict (xs.map kEnt).toArray ep })
 have g : (h0.push { cls := .type "dict", data := .dict (xs.map kEnt).toArray ep }).get? p = some { cls := .type "dict", data := .dict (xs.map kEnt).toArray ep } := by rw [← hs]; exact Heap.get?_push_size _ rfl
 obtain ⟨o, h1, h2, h3⟩ := q.mp ⟨_, g, ⟨rfl, rfl, rfl⟩, rfl⟩
 rw [g] at h1; cases h1
 injection h3 with h4 _
 exact congrArg Array.toList h4
end
section
variable {X : Cx}
variable {o e : Expr} {es : List Expr} {to : TE} {t : TA} {name : Str} {apos cpos : Pos} {id : String} {r : V → List V → Hp → VK → Prop}
end
end L2
namespace L2.VS
open PySem PySem.Spec PyProof.Rows
variable {P0 : Addr → Hp → Prop} {A : Nat → Bool}
noncomputable def keyD (k : List Int) : D := .tuple (k.map .int)
noncomputable def DicRel (G H : Hp) (xs : List (List Int × Addr × Addr)) (kds : List (List Int × List D)) : Prop :=
 xs.length = kds.length ∧ ∀ (j : Nat) x kd, xs[j]? = some x → kds[j]? = some kd → x.1 = kd.1 ∧ G x.2.1 = some (.tup (x.1.map V.int)) ∧ ∃ vs, H x.2.2 = some (.lst vs) ∧ Dts G vs kd.2
theorem DicRel.at {G H : Hp} {xs : List (List Int × Addr × Addr)} {kds : List (List Int × List D)} (h : DicRel G H xs kds) {j : Nat} {x : List Int × Addr × Addr} (e : xs[j]? = some x) : ∃ kd, kds[j]? = some kd ∧ x.1 = kd.1 ∧ G x.2.1 = some (.tup (x.1.map V.int)) ∧ ∃ vs, H x.2.2 = some (.lst vs) ∧ Dts G vs kd.2 := by
 have hj : j < kds.length := by rw [← h.1]; exact (List.getElem?_eq_some_iff.mp e).1
 exact ⟨_, List.getElem?_eq_getElem hj, h.2 j x _ e (List.getElem?_eq_getElem hj)⟩
theorem DicRel.mem {G H : Hp} {xs : List (List Int × Addr × Addr)} {kds : List (List Int × List D)} (h : DicRel G H xs kds) {x : List Int × Addr × Addr} (hx : x ∈ xs) : G x.2.1 = some (.tup (x.1.map V.int)) ∧ ∃ vs, H x.2.2 = some (.lst vs) := by
 obtain ⟨j, e⟩ := List.getElem?_of_mem hx
 obtain ⟨kd, _, _, e3, vs, e4, _⟩ := h.at e
 exact ⟨e3, vs, e4⟩
theorem DicRel.go {G H G' H' : Hp} {xs : List (List Int × Addr × Addr)} {kds : List (List Int × List D)} (h : DicRel G H xs kds) (g : Same G G') (k : ∀ b ∈ xs.map (·.2.2), H' b = H b) : DicRel G' H' xs kds := by
 refine ⟨h.1, fun j x kd e1 e2 => ?_⟩
 obtain ⟨a, b, vs, c, d⟩ := h.2 j x kd e1 e2
 exact ⟨a, g _ _ b, vs, (k _ (List.mem_map.mpr ⟨x, List.mem_of_getElem? e1, rfl⟩)).trans c, Dts.same g _ _ d⟩
noncomputable def bDic (kds : List (List Int × List D)) : Bx where
 P v fp G H := ∃ p xs, v = .ref p ∧ fp = p :: xs.map (·.2.2) ∧ (p == sysModules) = false ∧ (∃ ep, H p = some (DicX p xs ep)) ∧ (xs.map (·.1)).Nodup ∧ (xs.map (·.2.2)).Nodup ∧ DicRel G H xs kds
 mono g h := by
  obtain ⟨p, xs, h1, h2, h3, h4, h5, h6, h7⟩ := h
  exact ⟨p, xs, h1, h2, h3, h4, h5, h6, h7.go g fun _ _ => rfl⟩
 loc k h := by
  obtain ⟨p, xs, h1, h2, h3, h4, h5, h6, h7⟩ := h
  subst h2
  obtain ⟨ep, h4⟩ := h4
  exact ⟨p, xs, h1, rfl, h3, ⟨ep, (k p List.mem_cons_self).trans h4⟩, h5, h6, h7.go (Same.refl _) fun b hb => k b (List.mem_cons_of_mem _ hb)⟩
 dom h b hb := by
  obtain ⟨p, xs, h1, h2, h3, h4, h5, h6, h7⟩ := h
  subst h2
  rcases List.mem_cons.mp hb with e | e
  ·rw [e]; obtain ⟨ep, h4⟩ := h4; exact ⟨_, h4⟩
  ·obtain ⟨x, hx, rfl⟩ := List.mem_map.mp e
   obtain ⟨_, vs, z⟩ := h7.mem hx
   exact ⟨_, z⟩
 uniq h g := by
  obtain ⟨p, xs, h1, h2, h3, h4, h5, h6, h7⟩ := h
  obtain ⟨p', xs', g1, g2, g3, g4, g5, g6, g7⟩ := g
  rw [h1] at g1; cases g1
  obtain ⟨ep, h4⟩ := h4
  obtain ⟨ep', g4⟩ := g4
  rw [h4] at g4
  have e := DicX.inj (Option.some.inj g4)
  have e2 := congrArg (List.map fun z : DictEntry => match z.val with | .ref q => q | _ => 0) e
  rw [List.map_map, List.map_map] at e2
  rw [h2, g2]
  exact congrArg (p :: ·) e2
 nt h b hb ys e := by
  obtain ⟨p, xs, h1, h2, h3, h4, h5, h6, h7⟩ := h
  subst h2
  rcases List.mem_cons.mp hb with z | z
  ·obtain ⟨ep, h4⟩ := h4
   rw [z, h4] at e; cases e
  ·obtain ⟨x, hx, rfl⟩ := List.mem_map.mp z
   obtain ⟨_, vs, z⟩ := h7.mem hx
   rw [z] at e; cases e
 view := none
 vok _ h := by cases h
noncomputable def mDNew : MO := fun Γ Q => Q (.box (bDic [])) Γ
noncomputable def mListD (ma : MO) : MO := fun Γ Q => ma Γ fun rv Γ1 => ∃ kds, rv = .box (bDic kds) ∧ kds.length ≤ 1000 ∧ Q (.own (kds.map fun kd => keyD kd.1)) Γ1
theorem nodup_ix {α : Type} {xs : List α} (h : xs.Nodup) {i j : Nat} {hi : i < xs.length} {hj : j < xs.length} (e : xs[i] = xs[j]) : i = j := by
 rcases Nat.lt_trichotomy i j with z | z | z
 ·exact absurd e (List.pairwise_iff_getElem.mp h i j hi hj z)
 ·exact z
 ·exact absurd e.symm (List.pairwise_iff_getElem.mp h j i hj hi z)
theorem i_dnew {Γ : En} {Q : Rv → En → Prop} (h : Q (.box (bDic [])) Γ) : mDNew Γ Q := h
theorem i_listD {ma : MO} {Γ : En} {Q : Rv → En → Prop} (h : ma Γ fun rv Γ1 => ∃ kds, rv = .box (bDic kds) ∧ kds.length ≤ 1000 ∧ Q (.own (kds.map fun kd => keyD kd.1)) Γ1) : mListD ma Γ Q := h
end L2.VS
namespace L2.VS
open PySem PySem.Spec PyProof.Rows
variable {P0 : Addr → Hp → Prop} {ta tb : TE} {ma mb : ME}
theorem Dts.rep {G : Hp} {xs : List V} {ds : List D} (h : Dts G xs ds) : ∀ k : Nat, Dts G (List.replicate k xs).flatten (List.replicate k ds).flatten
 | 0 => .nil
 | k + 1 => by
  rw [List.replicate_succ, List.replicate_succ, List.flatten_cons, List.flatten_cons]
  exact h.app (Dts.rep h k)
noncomputable def mRep (ma mb : ME) : MO := fun Γ Q => ma Γ fun x Γ1 => mb Γ1 fun y Γ2 => match x, y with
 | .list ds, .int k => (-(2 ^ 62) ≤ k ∧ k < 2 ^ 62) ∧ ds.length * k.toNat ≤ 1000 ∧ Q (.own (List.replicate k.toNat ds).flatten) Γ2
 | _, _ => False
theorem vo_rep (ha : VT P0 ta ma) (hb : VT P0 tb mb) : VO P0 (tOp rRep ta tb) (mRep ma mb) := by
 intro F Γ σ G H Q Qm r m k
 refine ha F Γ σ G H _ _ r m fun x Γ1 v G1 H1 m1 s1 r1 d1 => ?_
 refine hb F Γ1 σ G1 H1 _ _ r1 m1 fun y Γ2 u G2 H2 m2 s2 r2 d2 => ?_
 split at m2
 ·rename_i ds n
  obtain ⟨⟨b1, b2⟩, hz, m2⟩ := m2
  cases d2
  cases d1 with
  | lst hp rs =>
   refine ⟨_, n, _, rfl, rfl, r2.fr.sub _ _ (s2 _ _ hp), by omega, by omega, small_le (by rw [rs.len]; exact hz), fun l hl => ?_⟩
   obtain ⟨a, b, c⟩ := own_new r2 hl (Dts.rep (Dts.same s2 _ _ rs) n.toNat)
   exact k _ _ _ _ _ m2 (s1.trans s2) a b c
 ·exact m2.elim
theorem i_rep {ma mb : ME} {Γ : En} {Q : Rv → En → Prop} (h : ma Γ fun x Γ1 => mb Γ1 fun y Γ2 => match x, y with
 | .list ds, .int k => (-(2 ^ 62) ≤ k ∧ k < 2 ^ 62) ∧ ds.length * k.toNat ≤ 1000 ∧ Q (.own (List.replicate k.toNat ds).flatten) Γ2
 | _, _ => False) : mRep ma mb Γ Q := h
end L2.VS
namespace L2
open PySem PySem.Spec PyProof.Rows
end L2
namespace L2.VS
open PySem PySem.Spec PyProof.Rows
variable {P0 : Addr → Hp → Prop} {A : Nat → Bool}
noncomputable def pDic (kds : List (List Int × List D)) : Pb where
 P v G := ∃ p xs ep, v = .ref p ∧ (p == sysModules) = false ∧ G p = some (DicX p xs ep) ∧ (xs.map (·.1)).Nodup ∧ DicRel G G xs kds
 mono g h := by
  obtain ⟨p, xs, ep, h1, h2, h3, h4, h5⟩ := h
  refine ⟨p, xs, ep, h1, h2, g _ _ h3, h4, h5.1, fun j x kd e1 e2 => ?_⟩
  obtain ⟨a, b, vs, c, d⟩ := h5.2 j x kd e1 e2
  exact ⟨a, g _ _ b, vs, g _ _ c, Dts.same g _ _ d⟩
section
variable {F : Fra P0} {Γ : En} {σ : St} {G H : Hp}
theorem R.giveP (r : R F Γ σ G H) {v : V} {B : Bx} (h : RvO F G H v (.box B)) (ha : Apart F Γ σ G H v (.box B)) : ∃ G' fp, Same G G' ∧ R F Γ σ G' H ∧ B.P v fp G' H ∧ ∀ b ∈ fp, G' b = H b := by
 obtain ⟨fp, e1, e2⟩ := h
 have g : Same G (fun b => if b ∈ fp then H b else G b) := fun b o e => by
  show (if b ∈ fp then H b else G b) = some o
  rw [if_neg (fun z => by rw [(e2 b z).2] at e; cases e)]
  exact e
 refine ⟨fun b => if b ∈ fp then H b else G b, fp, g, r.keep ⟨fun b o e => ?_, fun b o e => ?_, r.fr.h0, r.fr.pn⟩ g fun q u hq _ eg eh => ⟨?_, eh⟩, B.mono g e1, fun b hb => if_pos hb⟩
 ·have e : (if b ∈ fp then H b else G b) = some o := e
  split at e
  ·exact e
  ·exact r.fr.sub b o e
 ·show (if b ∈ fp then H b else G b) = _
  rw [if_neg (fun z => by rw [(e2 b z).1] at e; cases e)]
  exact r.fr.g0 b o e
 ·obtain ⟨i, s, f, a1, a2, a3⟩ := hq
  show (if q ∈ fp then H q else G q) = none
  rw [if_neg fun z => ha i s f fp a1 a2 e1 q z a3]
  exact eg
theorem R.setP (r : R F Γ σ G H) {i : Nat} {v : V} {B : Pb} (h : B.P v G) : R F (Γ.set i (.pub B)) (σ.set i (some v)) G H := by
 obtain ⟨fps, h1, h2⟩ := r.fps
 have lt : ∀ {m : Nat} {z}, (Γ.set i (.pub B))[m]? = some z → m < Γ.length := fun e => by
  have := (List.getElem?_eq_some_iff.mp e).1
  simpa using this
 have old : ∀ {m : Nat} {z}, m ≠ i → (Γ.set i (.pub B))[m]? = some z → Γ[m]? = some z := fun hm e => by rw [List.getElem?_set_ne (Ne.symm hm)] at e; exact e
 refine ⟨r.fr, by rw [List.length_set, List.length_set]; exact r.len, fun j => if j = i then [] else fps j, fun j s e => ?_, fun j k s t ej ek hjk b hb hc => ?_⟩
 ·dsimp only
  by_cases hj : j = i
  ·subst hj
   have hi := lt e
   rw [List.getElem?_set_self hi] at e
   rw [if_pos rfl, List.getElem?_set_self (by rw [← r.len]; exact hi)]
   cases e
   exact ⟨rfl, v, rfl, h⟩
  ·rw [if_neg hj, List.getElem?_set_ne (Ne.symm hj)]
   exact h1 j s (old hj e)
 ·dsimp only at hb hc
  by_cases hj : j = i
  ·rw [if_pos hj] at hb; cases hb
  ·rw [if_neg hj] at hb
   by_cases hk : k = i
   ·rw [if_pos hk] at hc; cases hc
   ·rw [if_neg hk] at hc
    exact h2 j k s t (old hj ej) (old hk ek) hjk b hb hc
end
noncomputable def mItD (i : Nat) : MD := fun Γ Q => ∃ kds, Γ[i]? = some (.pub (pDic kds)) ∧ Q (kds.map fun kd => keyD kd.1) Γ
noncomputable def mSetD (i : Nat) (mo : MO) : MS := fun Γ Q => mo Γ fun rv Γ1 => ∃ kds, rv = .box (bDic kds) ∧ Q (.nx (Γ1.set i (.pub (pDic kds))))
noncomputable def mIxD (i : Nat) (mk : ME) : ME := fun Γ Q => ∃ kds, Γ[i]? = some (.pub (pDic kds)) ∧ mk Γ fun y Γ1 => ∃ (k : List Int) (ds : List D) (j : Nat), y = keyD k ∧ kds[j]? = some (k, ds) ∧ Q (.list ds) Γ1
theorem i_setD {i : Nat} {mo : MO} {Γ : En} {Q : Fl → Prop} (h : mo Γ fun rv Γ1 => ∃ kds, rv = .box (bDic kds) ∧ Q (.nx (Γ1.set i (.pub (pDic kds))))) : mSetD i mo Γ Q := h
theorem i_itD {i : Nat} {Γ : En} {Q : List D → En → Prop} {kds : List (List Int × List D)} (h0 : Γ[i]? = some (.pub (pDic kds))) (h : Q (kds.map fun kd => keyD kd.1) Γ) : mItD i Γ Q := ⟨kds, h0, h⟩
theorem i_ixD {i : Nat} {mk : ME} {Γ : En} {Q : D → En → Prop} {kds : List (List Int × List D)} (h0 : Γ[i]? = some (.pub (pDic kds))) (h : mk Γ fun y Γ1 => ∃ (k : List Int) (ds : List D) (j : Nat), y = keyD k ∧ kds[j]? = some (k, ds) ∧ Q (.list ds) Γ1) : mIxD i mk Γ Q := ⟨kds, h0, h⟩
end L2.VS
namespace L2
open PySem PySem.Calls PyProof.Rows PySem.W
section
variable {cmp : Nat → Nat → (Bool → Shared → Prop) → Shared → Prop}
end
section
variable {prog : Program} {w : World} {A : Around} {E : Value → Shared → Prop} {s : Shared} {Q : Bool → Shared → Prop}
end
theorem cutHeap (h : Heap) (L : Nat) : ∃ h₀ : Heap, h₀.objs.size ≤ L ∧ (∀ b o, h₀.get? b = some o → h.get? b = some o) ∧ ∀ b o, b < L → h.get? b = some o → h₀.get? b = some o := by
 have sz : (h.objs.extract 0 L).size = min L h.objs.size := by simp
 have at_ : ∀ b : Nat, b < L → b < h.objs.size → (h.objs.extract 0 L)[b]? = h.objs[b]? := fun b h1 h2 => by
  rw [Array.getElem?_extract, if_pos (by omega), Nat.zero_add]
 refine ⟨{ h with objs := h.objs.extract 0 L }, by show (h.objs.extract 0 L).size ≤ L; rw [sz]; exact Nat.min_le_left _ _, fun b o e => ?_, fun b o hb e => ?_⟩
 ·have hb : b < min L h.objs.size := by rw [← sz]; exact Heap.lt_size e
  have z := at_ b (Nat.lt_of_lt_of_le hb (Nat.min_le_left _ _)) (Nat.lt_of_lt_of_le hb (Nat.min_le_right _ _))
  unfold Heap.get? at e ⊢
  simp only [z] at e
  exact e
 ·have z := at_ b hb (Heap.lt_size e)
  unfold Heap.get? at e ⊢
  simp only [z]
  exact e
theorem newsAbove (h : Heap) (L : Nat) : ∃ news : List (Addr × Obj), (∀ p ∈ news, h.get? p.1 = some p.2 ∧ L < p.1) ∧ ∀ b o, L < b → h.get? b = some o → (b, o) ∈ news := by
 refine ⟨(List.range h.objs.size).filterMap fun b => if L < b then (h.get? b).map fun o => (b, o) else none, fun p hp => ?_, fun b o hb e => ?_⟩
 ·obtain ⟨b, _, hb⟩ := List.mem_filterMap.mp hp
  split at hb
  ·rename_i hl
   cases e : h.get? b with
   | none => rw [e] at hb; cases hb
   | some o => rw [e] at hb; cases hb; exact ⟨e, hl⟩
  ·cases hb
 ·refine List.mem_filterMap.mpr ⟨b, List.mem_range.mpr (Heap.lt_size e), ?_⟩
  rw [if_pos hb, e]
  rfl
section
variable {prog : Program} {w : World} {A : Around} {E : Value → Shared → Prop} {s : Shared}
end
end L2
namespace L2
open PySem PySem.Spec PyProof.Rows
theorem ObjOk.there {P : Program} {w : World} {H : Hp} {h : Heap} {a : Addr} {o : HO} (x : ObjOk P w H h a o) : ∃ u, h.get? a = some u := by
 cases o with
 | lst xs => obtain ⟨_, _, _, _, e⟩ := x; exact ⟨_, e⟩
 | tup xs => obtain ⟨_, _, _, o, e, _⟩ := x; exact ⟨_, e⟩
 | dK kvs => obtain ⟨_, _, _, _, o, _, _, e, _⟩ := x; exact ⟨_, e⟩
 | dT kvs => obtain ⟨_, _, _, _, o, _, _, e, _⟩ := x; exact ⟨_, e⟩
 | set S n => obtain ⟨o, _, _, _, e, _⟩ := x; exact ⟨_, e⟩
 | ins C dx fs => obtain ⟨_, _, _, e, _⟩ := x; exact ⟨_, e⟩
 | own y => obtain ⟨_, e⟩ := x; exact ⟨_, e⟩
 | xd fs => obtain ⟨_, ⟨_, _, _, e, _⟩, _⟩ := x; exact ⟨_, e⟩
 | rng lo hi => obtain ⟨_, _, _, e⟩ := x; exact ⟨_, e⟩
 | frz ob u => obtain ⟨e, _⟩ := x; exact ⟨_, e⟩
 | tbl ps => exact ⟨_, show h.get? a = some _ from x⟩
 | met f y => exact ⟨_, show h.get? a = some _ from x⟩
 | ext φ => obtain ⟨_, ⟨_, e⟩, _⟩ := x; exact ⟨_, e⟩
theorem ns_one {h : Heap} {L : Addr} {m m' : Str → Option Value} (a : h.Ns L m) (b : h.Ns L m') : m = m' := by
 obtain ⟨o, es, ep, h1, h2, _, h3⟩ := a
 obtain ⟨o', es', ep', g1, g2, _, g3⟩ := b
 rw [h1] at g1; cases g1
 rw [h2] at g2; cases g2
 funext x
 rw [← h3 x, g3 x]
section
variable {X : Cx}
end
end L2
namespace LT
abbrev Ln := Rat × Rat
noncomputable def pl (l : Ln) (t : Rat) : Rat := l.1 + l.2 * t
noncomputable def mt (l k : Ln) : Rat := (k.1 - l.1) / (l.2 - k.2)
theorem pl_sub {l k : Ln} (h : l.2 ≠ k.2) (t : Rat) : pl l t - pl k t = (l.2 - k.2) * (t - mt l k) := by
 unfold pl mt
 have e := Rat.div_mul_cancel (a := k.1 - l.1) (b := l.2 - k.2) (by grind)
 generalize (k.1 - l.1) / (l.2 - k.2) = m at *
 grind
theorem mt_symm {l k : Ln} (h : l.2 ≠ k.2) : mt k l = mt l k := by
 unfold mt
 have e := Rat.div_mul_cancel (a := k.1 - l.1) (b := l.2 - k.2) (by grind)
 have e' := Rat.div_mul_cancel (a := l.1 - k.1) (b := k.2 - l.2) (by grind)
 generalize (k.1 - l.1) / (l.2 - k.2) = m at *
 generalize (l.1 - k.1) / (k.2 - l.2) = n at *
 have : (l.2 - k.2) * (m - n) = 0 := by grind
 rcases Rat.mul_eq_zero.mp this with z | z <;> grind
theorem mt_iff {l k : Ln} (h : l.2 ≠ k.2) {t : Rat} : pl l t = pl k t ↔ t = mt l k := by
 have e := pl_sub h t
 constructor
 ·intro z
  have : (l.2 - k.2) * (t - mt l k) = 0 := by grind
  rcases Rat.mul_eq_zero.mp this with z | z <;> grind
 ·intro z
  rw [z] at e ⊢
  grind
noncomputable def ahB (l k : Ln) (i j : Int) (t : Rat) : Bool := if pl l t = pl k t then (if l.2 = k.2 then decide (i < j) else decide (k.2 < l.2)) else decide (pl k t < pl l t)
theorem ah_ge {l k : Ln} {i j : Int} {t : Rat} (h : l.2 ≠ k.2) (ht : mt l k ≤ t) : ahB l k i j t = decide (k.2 < l.2) := by
 have e := pl_sub h t
 unfold ahB
 by_cases hq : pl l t = pl k t
 ·rw [if_pos hq, if_neg h]
 ·have hm : 0 < t - mt l k := by
   have : t ≠ mt l k := fun z => hq ((mt_iff h).mpr z)
   grind
  rw [if_neg hq, decide_eq_decide]
  constructor
  ·intro z
   apply Classical.byContradiction
   intro c
   have := Rat.mul_pos (a := k.2 - l.2) (b := t - mt l k) (by grind) hm
   grind
  ·intro z
   have := Rat.mul_pos (a := l.2 - k.2) (b := t - mt l k) (by grind) hm
   grind
noncomputable def nxC (l k : Ln) (t : Rat) : Option Rat := if l.2 = k.2 then none else if t < mt l k then some (mt l k) else none
theorem nxC_some {l k : Ln} {t m : Rat} (h : nxC l k t = some m) : l.2 ≠ k.2 ∧ t < m ∧ m = mt l k := by
 unfold nxC at h
 by_cases hs : l.2 = k.2
 ·rw [if_pos hs] at h; cases h
 ·rw [if_neg hs] at h
  by_cases ht : t < mt l k
  ·rw [if_pos ht] at h; cases h; exact ⟨hs, ht, rfl⟩
  ·rw [if_neg ht] at h; cases h
noncomputable def mtO (l k : Ln) : Option Rat := if l.2 = k.2 then none else some (mt l k)
end LT
namespace LT
theorem ahB_iff {l k : Ln} {i j : Int} {t : Rat} : ahB l k i j t = true ↔ pl k t < pl l t ∨ (pl l t = pl k t ∧ (k.2 < l.2 ∨ (l.2 = k.2 ∧ i < j))) := by
 unfold ahB
 by_cases h1 : pl l t = pl k t
 ·rw [if_pos h1]
  by_cases h2 : l.2 = k.2
  ·rw [if_pos h2, decide_eq_true_eq]; grind
  ·rw [if_neg h2, decide_eq_true_eq]; grind
 ·rw [if_neg h1, decide_eq_true_eq]; grind
theorem ahB_trans {l k m : Ln} {i j n : Int} {t : Rat} (h1 : ahB l k i j t = true) (h2 : ahB k m j n t = true) : ahB l m i n t = true := by
 rw [ahB_iff] at *
 grind
theorem ahB_asymm {l k : Ln} {i j : Int} {t : Rat} (h1 : ahB l k i j t = true) : ahB k l j i t = false := by
 cases h : ahB k l j i t with
 | false => rfl
 | true =>
  rw [ahB_iff] at *
  grind
theorem ahB_total {l k : Ln} {i j : Int} {t : Rat} (h : i ≠ j) : ahB l k i j t = true ∨ ahB k l j i t = true := by
 rw [ahB_iff, ahB_iff]
 grind
noncomputable def ahN (ls : List Ln) (t : Rat) (i j : Nat) : Bool := match ls[i]?, ls[j]? with
 | some l, some k => ahB l k i j t
 | _, _ => false
theorem ahN_eq {ls : List Ln} {t : Rat} {i j : Nat} {l k : Ln} (h1 : ls[i]? = some l) (h2 : ls[j]? = some k) : ahN ls t i j = ahB l k i j t := by unfold ahN; rw [h1, h2]
structure Strict (a : Nat → Nat → Bool) (n : Nat) : Prop where
 asymm : ∀ i j, i < n → j < n → a i j = true → a j i = false
 trans : ∀ i j k, i < n → j < n → k < n → a i j = true → a j k = true → a i k = true
 total : ∀ i j, i < n → j < n → i ≠ j → a i j = true ∨ a j i = true
theorem Strict.irr {a : Nat → Nat → Bool} {n i : Nat} (h : Strict a n) (hi : i < n) : a i i = false := by
 cases e : a i i with
 | false => rfl
 | true => rw [h.asymm i i hi hi e] at e; cases e
theorem Strict.flip {a : Nat → Nat → Bool} {n i j : Nat} (h : Strict a n) (hi : i < n) (hj : j < n) (hij : i ≠ j) : a j i = !a i j := by
 cases e : a i j with
 | true => rw [h.asymm i j hi hj e]; rfl
 | false =>
  rcases h.total i j hi hj hij with z | z
  ·rw [e] at z; cases z
  ·rw [z]; rfl
theorem ah_strict (ls : List Ln) (t : Rat) : Strict (ahN ls t) ls.length := by
 refine ⟨fun i j hi hj h => ?_, fun i j k hi hj hk h1 h2 => ?_, fun i j hi hj hij => ?_⟩
 ·rw [ahN_eq (List.getElem?_eq_getElem hi) (List.getElem?_eq_getElem hj)] at h
  rw [ahN_eq (List.getElem?_eq_getElem hj) (List.getElem?_eq_getElem hi)]
  exact ahB_asymm h
 ·rw [ahN_eq (List.getElem?_eq_getElem hi) (List.getElem?_eq_getElem hj)] at h1
  rw [ahN_eq (List.getElem?_eq_getElem hj) (List.getElem?_eq_getElem hk)] at h2
  rw [ahN_eq (List.getElem?_eq_getElem hi) (List.getElem?_eq_getElem hk)]
  exact ahB_trans h1 h2
 ·rw [ahN_eq (List.getElem?_eq_getElem hi) (List.getElem?_eq_getElem hj), ahN_eq (List.getElem?_eq_getElem hj) (List.getElem?_eq_getElem hi)]
  exact ahB_total (by omega)
abbrev Srt (a : Nat → Nat → Bool) (xs : List Nat) : Prop := xs.Pairwise fun x y => a x y = true
noncomputable def ordStep (a : Nat → Nat → Bool) (xs : List Nat) (k : Nat) : List Nat := ((xs.filter fun o => !a k o) ++ [k]) ++ xs.filter fun o => a k o
noncomputable def ordTo (a : Nat → Nat → Bool) : Nat → List Nat
 | 0 => []
 | n + 1 => ordStep a (ordTo a n) n
noncomputable def ord (ls : List Ln) (t : Rat) : List Nat := ordTo (ahN ls t) ls.length
theorem filt_len {α : Type} (p : α → Bool) : ∀ xs : List α, (xs.filter fun o => !p o).length + (xs.filter fun o => p o).length = xs.length
 | [] => rfl
 | x :: xs => by
  have := filt_len p xs
  cases h : p x <;> simp [h] <;> omega
theorem ordTo_len (a : Nat → Nat → Bool) : ∀ n, (ordTo a n).length = n
 | 0 => rfl
 | n + 1 => by
  have h := ordTo_len a n
  have e := filt_len (fun o => a n o) (ordTo a n)
  show (ordStep a (ordTo a n) n).length = n + 1
  unfold ordStep
  simp only [List.length_append, List.length_singleton]
  omega
theorem ordTo_mem (a : Nat → Nat → Bool) : ∀ n i, i ∈ ordTo a n ↔ i < n
 | 0, i => by simp [ordTo]
 | n + 1, i => by
  have h := ordTo_mem a n i
  show i ∈ ordStep a (ordTo a n) n ↔ _
  unfold ordStep
  simp only [List.mem_append, List.mem_filter, List.mem_singleton, h]
  cases a n i <;> simp <;> omega
theorem ordStep_srt {a : Nat → Nat → Bool} {n k : Nat} {xs : List Nat} (h : Strict a n) (hk : k < n) (hx : ∀ x ∈ xs, x < n ∧ x ≠ k) (hs : Srt a xs) : Srt a (ordStep a xs k) := by
 unfold ordStep Srt
 have front : ∀ x ∈ xs.filter (fun o => !a k o), a x k = true := fun x m => by
  obtain ⟨m1, m2⟩ := List.mem_filter.mp m
  obtain ⟨b1, b2⟩ := hx x m1
  rw [h.flip hk b1 (Ne.symm b2)]
  exact m2
 have back : ∀ x ∈ xs.filter (fun o => a k o), a k x = true := fun x m => (List.mem_filter.mp m).2
 have lt1 : ∀ x ∈ xs.filter (fun o => !a k o), x < n := fun x m => (hx x (List.mem_filter.mp m).1).1
 have lt2 : ∀ x ∈ xs.filter (fun o => a k o), x < n := fun x m => (hx x (List.mem_filter.mp m).1).1
 rw [List.pairwise_append]
 refine ⟨?_, hs.filter _, fun x m y m2 => ?_⟩
 ·rw [List.pairwise_append]
  refine ⟨hs.filter _, List.pairwise_singleton _ _, fun x m y m2 => ?_⟩
  rw [List.mem_singleton.mp m2]
  exact front x m
 ·rcases List.mem_append.mp m with m | m
  ·exact h.trans x k y (lt1 x m) hk (lt2 y m2) (front x m) (back y m2)
  ·rw [List.mem_singleton.mp m]
   exact back y m2
theorem ordTo_srt {a : Nat → Nat → Bool} {n : Nat} (h : Strict a n) : ∀ m, m ≤ n → Srt a (ordTo a m)
 | 0, _ => List.Pairwise.nil
 | m + 1, hm => ordStep_srt h hm (fun x hx => by have := (ordTo_mem a m x).mp hx; omega) (ordTo_srt h m (by omega))
theorem ord_srt (ls : List Ln) (t : Rat) : Srt (ahN ls t) (ord ls t) := ordTo_srt (ah_strict ls t) _ (Nat.le_refl _)
theorem ord_mem (ls : List Ln) (t : Rat) (i : Nat) : i ∈ ord ls t ↔ i < ls.length := ordTo_mem _ _ _
theorem ord_len (ls : List Ln) (t : Rat) : (ord ls t).length = ls.length := ordTo_len _ _
theorem filt_take {a : Nat → Nat → Bool} {n k : Nat} : ∀ {xs : List Nat}, Strict a n → k < n → (∀ x ∈ xs, x < n ∧ x ≠ k) → Srt a xs →
  xs.take (xs.filter fun o => !a k o).length = xs.filter (fun o => !a k o) ∧ xs.drop (xs.filter fun o => !a k o).length = xs.filter (fun o => a k o)
 | [], _, _, _, _ => ⟨rfl, rfl⟩
 | x :: xs, h, hk, hx, hs => by
  obtain ⟨p1, q1⟩ := List.pairwise_cons.mp hs
  obtain ⟨b1, b2⟩ := hx x List.mem_cons_self
  have ih := filt_take (xs := xs) h hk (fun y hy => hx y (List.mem_cons_of_mem _ hy)) q1
  cases e : a k x with
  | false => simp only [List.filter_cons, e, Bool.not_false, if_true, List.length_cons, List.take_succ_cons, List.drop_succ_cons, ih.1, ih.2, Bool.false_eq_true, if_false]; exact ⟨trivial, trivial⟩
  | true =>
   have all : ∀ y ∈ xs, a k y = true := fun y hy => h.trans k x y hk b1 (hx y (List.mem_cons_of_mem _ hy)).1 e (p1 y hy)
   have f0 : xs.filter (fun o => !a k o) = [] := by
    rw [List.filter_eq_nil_iff]
    intro y hy
    rw [all y hy]; simp
   have f1 : xs.filter (fun o => a k o) = xs := List.filter_eq_self.mpr all
   simp only [List.filter_cons, e, Bool.not_true, Bool.false_eq_true, if_false, f0, f1, if_true]
   exact ⟨rfl, rfl⟩
end LT
namespace LT
noncomputable def Leads (ls : List Ln) (t : Rat) (i : Nat) : Prop := i < ls.length ∧ ∀ j, j < ls.length → j ≠ i → ahN ls t i j = true
theorem Leads.unique {ls : List Ln} {t : Rat} {i j : Nat} (h : Leads ls t i) (g : Leads ls t j) : i = j := by
 apply Classical.byContradiction
 intro c
 have h1 := h.2 j g.1 (Ne.symm c)
 have h2 := g.2 i h.1 c
 rw [(ah_strict ls t).asymm i j h.1 g.1 h1] at h2
 cases h2
noncomputable def leadTo (ls : List Ln) (t : Rat) : Nat → Nat
 | 0 => 0
 | n + 1 => if ahN ls t (n + 1) (leadTo ls t n) = true then n + 1 else leadTo ls t n
noncomputable def leadN (ls : List Ln) (t : Rat) : Nat := leadTo ls t (ls.length - 1)
theorem leadTo_le (ls : List Ln) (t : Rat) : ∀ n, leadTo ls t n ≤ n
 | 0 => Nat.le_refl _
 | n + 1 => by
  have ih := leadTo_le ls t n
  have e : leadTo ls t (n + 1) = if ahN ls t (n + 1) (leadTo ls t n) = true then n + 1 else leadTo ls t n := rfl
  rw [e]
  split <;> omega
theorem leadTo_ah (ls : List Ln) (t : Rat) : ∀ n, n < ls.length → ∀ j, j ≤ n → j ≠ leadTo ls t n → ahN ls t (leadTo ls t n) j = true
 | 0, _, j, hj, hn => absurd (show j = leadTo ls t 0 by show j = 0; omega) hn
 | n + 1, hl, j, hj, hn => by
  have ih := leadTo_ah ls t n (by omega)
  have le := leadTo_le ls t n
  have st := ah_strict ls t
  have e : leadTo ls t (n + 1) = if ahN ls t (n + 1) (leadTo ls t n) = true then n + 1 else leadTo ls t n := rfl
  rw [e] at hn ⊢
  by_cases c : ahN ls t (n + 1) (leadTo ls t n) = true
  ·rw [if_pos c] at hn ⊢
   by_cases d : j = leadTo ls t n
   ·rw [d]; exact c
   ·exact st.trans _ (leadTo ls t n) _ hl (by omega) (by omega) c (ih j (by omega) d)
  ·rw [if_neg c] at hn ⊢
   by_cases d : j = n + 1
   ·rw [d, st.flip hl (show leadTo ls t n < ls.length by omega) (by omega)]
    cases h : ahN ls t (n + 1) (leadTo ls t n) with
    | true => exact absurd h c
    | false => rfl
   ·exact ih j (by omega) hn
theorem leadN_leads {ls : List Ln} (h : ls ≠ []) (t : Rat) : Leads ls t (leadN ls t) := by
 have hl := List.length_pos_iff.mpr h
 have le := leadTo_le ls t (ls.length - 1)
 refine ⟨by unfold leadN; omega, fun j hj hn => leadTo_ah ls t (ls.length - 1) (by omega) j (by omega) hn⟩
theorem Leads.eq {ls : List Ln} {t : Rat} {i : Nat} (h : Leads ls t i) : i = leadN ls t := h.unique (leadN_leads (by rintro rfl; exact absurd h.1 (by simp)) t)
noncomputable def Fr (lo : Option Rat) (t : Rat) : Prop := match lo with
 | none => True
 | some s => s ≤ t
noncomputable def Bf (lo : Option Rat) (t : Rat) : Prop := match lo with
 | none => True
 | some s => s < t
noncomputable def RowFrom (ls : List Ln) (lo : Option Rat) (r : Nat) : List (Nat × Rat) → Prop
 | [] => ∀ t, Fr lo t → Leads ls t r
 | p :: rest => Bf lo p.2 ∧ p.1 ≠ r ∧ (∀ t, Fr lo t → t < p.2 → Leads ls t r) ∧ RowFrom ls (some p.2) p.1 rest
theorem RowFrom.at {ls : List Ln} {s : Rat} {r : Nat} : ∀ {rest : List (Nat × Rat)}, RowFrom ls (some s) r rest → Leads ls s r
 | [], h => h s (show s ≤ s by grind)
 | p :: rest, h => h.2.2.1 s (show s ≤ s by grind) h.1
theorem RowFrom.unique {ls : List Ln} : ∀ {xs ys : List (Nat × Rat)} {lo : Option Rat} {r : Nat}, RowFrom ls lo r xs → RowFrom ls lo r ys → xs = ys
 | [], [], _, _, _, _ => rfl
 | [], p :: ys, lo, r, h, g => by
  have h1 := h p.2 (by have := g.1; cases lo with | none => trivial | some s => exact (show s ≤ p.2 by have : s < p.2 := this; grind))
  exact absurd (g.2.2.2.at.unique h1) g.2.1
 | p :: xs, [], lo, r, h, g => by
  have h1 := g p.2 (by have := h.1; cases lo with | none => trivial | some s => exact (show s ≤ p.2 by have : s < p.2 := this; grind))
  exact absurd (h.2.2.2.at.unique h1) h.2.1
 | p :: xs, q :: ys, lo, r, h, g => by
  have hp : Fr lo p.2 := by have := h.1; cases lo with | none => trivial | some s => exact (show s ≤ p.2 by have : s < p.2 := this; grind)
  have hq : Fr lo q.2 := by have := g.1; cases lo with | none => trivial | some s => exact (show s ≤ q.2 by have : s < q.2 := this; grind)
  have e : p.2 = q.2 := by
   apply Classical.byContradiction
   intro c
   by_cases d : p.2 < q.2
   ·exact absurd (h.2.2.2.at.unique (g.2.2.1 p.2 hp d)) h.2.1
   ·exact absurd (g.2.2.2.at.unique (h.2.2.1 q.2 hq (by grind))) g.2.1
  have h2 := h.2.2.2
  rw [e] at h2
  have e1 : p.1 = q.1 := h2.at.unique g.2.2.2.at
  rw [e1] at h2
  have e2 := RowFrom.unique h2 g.2.2.2
  rw [e2, show p = q from Prod.ext e1 e]
theorem RowFrom.first {ls : List Ln} {lo : Option Rat} {r1 r2 : Nat} {xs ys : List (Nat × Rat)} (h : RowFrom ls lo r1 xs) (g : RowFrom ls lo r2 ys) : r1 = r2 := by
 cases lo with
 | some s => exact h.at.unique g.at
 | none =>
  have early : ∀ {r : Nat} {zs : List (Nat × Rat)}, RowFrom ls none r zs → ∃ u, ∀ t, t < u → Leads ls t r := fun {r zs} k => by
   cases zs with
   | nil => exact ⟨0, fun t _ => k t trivial⟩
   | cons p zs => exact ⟨p.2, fun t ht => k.2.2.1 t trivial ht⟩
  obtain ⟨u, hu⟩ := early h
  obtain ⟨v, hv⟩ := early g
  by_cases c : u ≤ v
  ·exact (hu (u - 1) (by grind)).unique (hv (u - 1) (by grind))
  ·exact (hu (v - 1) (by grind)).unique (hv (v - 1) (by grind))
end LT
namespace LT
theorem Fr.of_bf {lo : Option Rat} {s : Rat} (h : Bf lo s) : Fr lo s := by
 cases lo with
 | none => trivial
 | some a => exact (show a ≤ s by have : a < s := h; grind)
end LT
namespace LT
noncomputable def nxN (ls : List Ln) (t : Rat) (i j : Nat) : Option Rat := match ls[i]?, ls[j]? with
 | some l, some k => nxC l k t
 | _, _ => none
theorem nxN_eq {ls : List Ln} {t : Rat} {i j : Nat} {l k : Ln} (h1 : ls[i]? = some l) (h2 : ls[j]? = some k) : nxN ls t i j = nxC l k t := by unfold nxN; rw [h1, h2]
end LT
namespace LT
noncomputable def RowOf (f : Rat → Nat) (lo : Option Rat) (r : Nat) : List (Nat × Rat) → Prop
 | [] => ∀ t, Fr lo t → f t = r
 | p :: rest => Bf lo p.2 ∧ p.1 ≠ r ∧ (∀ t, Fr lo t → t < p.2 → f t = r) ∧ RowOf f (some p.2) p.1 rest
theorem RowOf.at {f : Rat → Nat} {s : Rat} {r : Nat} : ∀ {rest : List (Nat × Rat)}, RowOf f (some s) r rest → f s = r
 | [], h => h s (show s ≤ s by grind)
 | p :: rest, h => h.2.2.1 s (show s ≤ s by grind) h.1
theorem RowOf.unique {f : Rat → Nat} : ∀ {xs ys : List (Nat × Rat)} {lo : Option Rat} {r : Nat}, RowOf f lo r xs → RowOf f lo r ys → xs = ys
 | [], [], _, _, _, _ => rfl
 | [], p :: ys, lo, r, h, g => absurd (g.2.2.2.at.symm.trans (h p.2 (Fr.of_bf g.1))) g.2.1
 | p :: xs, [], lo, r, h, g => absurd (h.2.2.2.at.symm.trans (g p.2 (Fr.of_bf h.1))) h.2.1
 | p :: xs, q :: ys, lo, r, h, g => by
  have e : p.2 = q.2 := by
   apply Classical.byContradiction
   intro c
   by_cases d : p.2 < q.2
   ·exact absurd (h.2.2.2.at.symm.trans (g.2.2.1 p.2 (Fr.of_bf h.1) d)) h.2.1
   ·exact absurd (g.2.2.2.at.symm.trans (h.2.2.1 q.2 (Fr.of_bf g.1) (by grind))) g.2.1
  have h2 := h.2.2.2
  rw [e] at h2
  have e1 : p.1 = q.1 := h2.at.symm.trans g.2.2.2.at
  rw [e1] at h2
  rw [RowOf.unique h2 g.2.2.2, show p = q from Prod.ext e1 e]
theorem RowOf.first {f : Rat → Nat} {lo : Option Rat} {r1 r2 : Nat} {xs ys : List (Nat × Rat)} (h : RowOf f lo r1 xs) (g : RowOf f lo r2 ys) : r1 = r2 := by
 cases lo with
 | some s => exact h.at.symm.trans g.at
 | none =>
  have early : ∀ {r : Nat} {zs : List (Nat × Rat)}, RowOf f none r zs → ∃ u, ∀ t, t < u → f t = r := fun {r zs} k => by
   cases zs with
   | nil => exact ⟨0, fun t _ => k t trivial⟩
   | cons p zs => exact ⟨p.2, fun t ht => k.2.2.1 t trivial ht⟩
  obtain ⟨u, hu⟩ := early h
  obtain ⟨v, hv⟩ := early g
  by_cases c : u ≤ v
  ·exact (hu (u - 1) (by grind)).symm.trans (hv (u - 1) (by grind))
  ·exact (hu (v - 1) (by grind)).symm.trans (hv (v - 1) (by grind))
end LT
namespace LT
noncomputable def ordL (a : Nat → Nat → Bool) (rs : List Nat) : List Nat := rs.foldl (ordStep a) []
theorem ordStep_mem {a : Nat → Nat → Bool} {xs : List Nat} {k x : Nat} : x ∈ ordStep a xs k ↔ x ∈ xs ∨ x = k := by
 unfold ordStep
 simp only [List.mem_append, List.mem_filter, List.mem_singleton]
 cases a k x <;> simp [or_comm]
theorem ordStep_len {a : Nat → Nat → Bool} {xs : List Nat} {k : Nat} : (ordStep a xs k).length = xs.length + 1 := by
 have e := filt_len (fun o => a k o) xs
 unfold ordStep
 simp only [List.length_append, List.length_singleton]
 omega
theorem ordL_snoc (a : Nat → Nat → Bool) (rs : List Nat) (k : Nat) : ordL a (rs ++ [k]) = ordStep a (ordL a rs) k := by unfold ordL; rw [List.foldl_append]; rfl
theorem foldl_mem {a : Nat → Nat → Bool} : ∀ (rs acc : List Nat) (x : Nat), x ∈ rs.foldl (ordStep a) acc ↔ x ∈ acc ∨ x ∈ rs
 | [], acc, x => by simp
 | r :: rs, acc, x => by
  show x ∈ rs.foldl (ordStep a) (ordStep a acc r) ↔ _
  rw [foldl_mem rs, ordStep_mem, List.mem_cons]
  grind
theorem ordL_mem {a : Nat → Nat → Bool} {rs : List Nat} {x : Nat} : x ∈ ordL a rs ↔ x ∈ rs := by unfold ordL; rw [foldl_mem]; simp
theorem foldl_len {a : Nat → Nat → Bool} : ∀ (rs acc : List Nat), (rs.foldl (ordStep a) acc).length = acc.length + rs.length
 | [], acc => rfl
 | r :: rs, acc => by
  show (rs.foldl (ordStep a) (ordStep a acc r)).length = _
  rw [foldl_len rs, ordStep_len, List.length_cons]
  omega
theorem ordL_len {a : Nat → Nat → Bool} {rs : List Nat} : (ordL a rs).length = rs.length := by unfold ordL; rw [foldl_len]; simp
theorem foldl_srt {a : Nat → Nat → Bool} {n : Nat} (h : Strict a n) : ∀ (rs acc : List Nat), (∀ x ∈ rs, x < n) → (∀ x ∈ acc, x < n) → rs.Nodup → (∀ x ∈ acc, x ∉ rs) → Srt a acc → Srt a (rs.foldl (ordStep a) acc)
 | [], acc, _, _, _, _, hs => hs
 | r :: rs, acc, h1, h2, h3, h4, hs => by
  obtain ⟨n1, n2⟩ := List.nodup_cons.mp h3
  have hr := h1 r List.mem_cons_self
  refine foldl_srt h rs (ordStep a acc r) (fun x hx => h1 x (List.mem_cons_of_mem _ hx)) (fun x hx => ?_) n2 (fun x hx hm => ?_) (ordStep_srt h hr (fun x hx => ⟨h2 x hx, fun e => h4 x hx (by rw [e]; exact List.mem_cons_self)⟩) hs)
  ·rcases ordStep_mem.mp hx with z | z
   ·exact h2 x z
   ·rw [z]; exact hr
  ·rcases ordStep_mem.mp hx with z | z
   ·exact h4 x z (List.mem_cons_of_mem _ hm)
   ·exact n1 (by rw [← z]; exact hm)
theorem ordL_srt {a : Nat → Nat → Bool} {n : Nat} {rs : List Nat} (h : Strict a n) (h1 : ∀ x ∈ rs, x < n) (h2 : rs.Nodup) : Srt a (ordL a rs) :=
 foldl_srt h rs [] h1 (fun x hx => nomatch hx) h2 (fun x hx => nomatch hx) List.Pairwise.nil
theorem ordL_range (a : Nat → Nat → Bool) : ∀ n, ordL a (List.range n) = ordTo a n
 | 0 => rfl
 | n + 1 => by rw [List.range_succ, ordL_snoc, ordL_range a n]; rfl
end LT
namespace L2.VS
open PySem PySem.Spec PyProof.Rows
variable {P0 : Addr → Hp → Prop} {A : Nat → Bool}
noncomputable def bEl (d : D) (ds : List D) : Bx where
 P v fp G H := ∃ p q x vs, v = .ref p ∧ fp = [p, q] ∧ p ≠ q ∧ H p = some (.tup [x, .ref q]) ∧ H q = some (.lst vs) ∧ Dt G x d ∧ Dts G vs ds
 mono g h := by
  obtain ⟨p, q, x, vs, h1, h2, h3, h4, h5, h6, h7⟩ := h
  exact ⟨p, q, x, vs, h1, h2, h3, h4, h5, Dt.same g _ _ h6, Dts.same g _ _ h7⟩
 loc k h := by
  obtain ⟨p, q, x, vs, h1, h2, h3, h4, h5, h6, h7⟩ := h
  subst h2
  exact ⟨p, q, x, vs, h1, rfl, h3, (k p (by simp)).trans h4, (k q (by simp)).trans h5, h6, h7⟩
 dom h b hb := by
  obtain ⟨p, q, x, vs, h1, h2, h3, h4, h5, h6, h7⟩ := h
  subst h2
  rcases List.mem_cons.mp hb with e | e
  ·rw [e]; exact ⟨_, h4⟩
  ·rw [List.mem_singleton.mp e]; exact ⟨_, h5⟩
 uniq h g := by
  obtain ⟨p, q, x, vs, h1, h2, h3, h4, h5, h6, h7⟩ := h
  obtain ⟨p', q', x', vs', g1, g2, g3, g4, g5, g6, g7⟩ := g
  rw [h1] at g1; cases g1
  rw [h4] at g4; cases g4
  rw [h2, g2]
 nt h b hb xs e := by
  obtain ⟨p, q, x, vs, h1, h2, h3, h4, h5, h6, h7⟩ := h
  subst h2
  rcases List.mem_cons.mp hb with z | z
  ·rw [z, h4] at e; cases e
   exact ⟨q, by simp, by simp, vs, h5⟩
  ·rw [List.mem_singleton.mp z, h5] at e; cases e
 view := some (.tuple [d, .list ds])
 vok h hv g k := by
  obtain ⟨p, q, x, vs, h1, h2, h3, h4, h5, h6, h7⟩ := h
  cases hv
  subst h1 h2
  exact .tup ((k p (by simp)).trans h4) (.cons (Dt.same g _ _ h6) (.cons (.lst ((k q (by simp)).trans h5) (Dts.same g _ _ h7)) .nil))
noncomputable def mTupE (ma : ME) (mb : MO) : MO := fun Γ Q => ma Γ fun d Γ1 => mb Γ1 fun rv Γ2 => ∃ ds, rv = .own ds ∧ Q (.box (bEl d ds)) Γ2
abbrev It4 := Addr × Addr × V × List V
noncomputable def fpE (its : List It4) : List Addr := its.flatMap fun i => [i.1, i.2.1]
noncomputable def ElOk (G H : Hp) (i : It4) (e : D × List D) : Prop := H i.1 = some (.tup [i.2.2.1, .ref i.2.1]) ∧ H i.2.1 = some (.lst i.2.2.2) ∧ Dt G i.2.2.1 e.1 ∧ Dts G i.2.2.2 e.2
noncomputable def ElsOk (G H : Hp) (its : List It4) (es : List (D × List D)) : Prop := Paired (ElOk G H) its es
theorem ElsOk.go {G H G' H' : Hp} {its : List It4} {es : List (D × List D)} (h : ElsOk G H its es) (g : Same G G') (k : ∀ b ∈ fpE its, H' b = H b) : ElsOk G' H' its es := by
 unfold ElsOk at h ⊢
 induction h with
 | nil => exact .nil
 | cons r t ih =>
  obtain ⟨r1, r2, r3, r4⟩ := r
  refine .cons ⟨(k _ (by unfold fpE; simp)).trans r1, (k _ (by unfold fpE; simp)).trans r2, Dt.same g _ _ r3, Dts.same g _ _ r4⟩ (ih fun b hb => k b ?_)
  unfold fpE at hb ⊢
  rw [List.flatMap_cons]
  exact List.mem_append_right _ hb
theorem ElsOk.mem {G H : Hp} {its : List It4} {es : List (D × List D)} (h : ElsOk G H its es) {i : It4} (hi : i ∈ its) : H i.1 = some (.tup [i.2.2.1, .ref i.2.1]) ∧ H i.2.1 = some (.lst i.2.2.2) := by
 unfold ElsOk at h
 induction h with
 | nil => cases hi
 | cons r t ih =>
  rcases List.mem_cons.mp hi with e | e
  ·rw [e]; exact ⟨r.1, r.2.1⟩
  ·exact ih e
theorem mem_fpE {its : List It4} {b : Addr} : b ∈ fpE its ↔ ∃ i ∈ its, b = i.1 ∨ b = i.2.1 := by
 unfold fpE
 rw [List.mem_flatMap]
 constructor
 ·rintro ⟨i, h, hb⟩
  rcases List.mem_cons.mp hb with e | e
  ·exact ⟨i, h, .inl e⟩
  ·exact ⟨i, h, .inr (List.mem_singleton.mp e)⟩
 ·rintro ⟨i, h, e | e⟩
  ·exact ⟨i, h, by rw [e]; exact List.mem_cons_self⟩
  ·exact ⟨i, h, by rw [e]; exact List.mem_cons_of_mem _ List.mem_cons_self⟩
noncomputable def nxt (H : Hp) (p : Addr) : List Addr := p :: match H p with
 | some (.tup [_, .ref q]) => [q]
 | _ => []
theorem ElsOk.fp {G H : Hp} {its : List It4} {es : List (D × List D)} (h : ElsOk G H its es) : fpE its = (its.map (·.1)).flatMap (nxt H) := by
 unfold ElsOk at h
 induction h with
 | nil => rfl
 | @cons i e its es r t ih =>
  show [i.1, i.2.1] ++ fpE its = nxt H i.1 ++ (its.map (·.1)).flatMap (nxt H)
  have en : nxt H i.1 = [i.1, i.2.1] := by unfold nxt; rw [r.1]
  rw [ih, en]
theorem ElsOk.view {G G' H : Hp} {its : List It4} {es : List (D × List D)} (h : ElsOk G H its es) (g : Same G G') (k : ∀ b ∈ fpE its, G' b = H b) : Dts G' (its.map fun i => V.ref i.1) (es.map fun e => .tuple [e.1, .list e.2]) := by
 unfold ElsOk at h
 induction h with
 | nil => exact .nil
 | cons r t ih =>
  obtain ⟨r1, r2, r3, r4⟩ := r
  refine .cons (.tup ((k _ (by unfold fpE; simp)).trans r1) (.cons (Dt.same g _ _ r3) (.cons (.lst ((k _ (by unfold fpE; simp)).trans r2) (Dts.same g _ _ r4)) .nil))) (ih fun b hb => k b ?_)
  unfold fpE at hb ⊢
  rw [List.flatMap_cons]
  exact List.mem_append_right _ hb
noncomputable def bChs (es : List (D × List D)) : Bx where
 P v fp G H := ∃ l its, v = .ref l ∧ fp = l :: fpE its ∧ H l = some (.lst (its.map fun i => V.ref i.1)) ∧ ElsOk G H its es ∧ (l :: fpE its).Nodup
 mono g h := by
  obtain ⟨l, its, h1, h2, h3, h4, h5⟩ := h
  exact ⟨l, its, h1, h2, h3, h4.go g fun _ _ => rfl, h5⟩
 loc k h := by
  obtain ⟨l, its, h1, h2, h3, h4, h5⟩ := h
  subst h2
  exact ⟨l, its, h1, rfl, (k l List.mem_cons_self).trans h3, h4.go (Same.refl _) fun b hb => k b (List.mem_cons_of_mem _ hb), h5⟩
 dom h b hb := by
  obtain ⟨l, its, h1, h2, h3, h4, h5⟩ := h
  subst h2
  rcases List.mem_cons.mp hb with e | e
  ·rw [e]; exact ⟨_, h3⟩
  ·obtain ⟨i, hi, z | z⟩ := mem_fpE.mp e
   ·rw [z]; exact ⟨_, (h4.mem hi).1⟩
   ·rw [z]; exact ⟨_, (h4.mem hi).2⟩
 uniq h g := by
  obtain ⟨l, its, h1, h2, h3, h4, h5⟩ := h
  obtain ⟨l', its', g1, g2, g3, g4, g5⟩ := g
  rw [h1] at g1; cases g1
  rw [h3] at g3
  have e : (its.map fun i => V.ref i.1) = its'.map fun i => V.ref i.1 := by injection g3 with z; injection z
  have e2 := congrArg (List.map fun v : V => match v with | .ref a => a | _ => 0) e
  rw [List.map_map, List.map_map] at e2
  have e3 : its.map (·.1) = its'.map (·.1) := e2
  rw [h2, g2, h4.fp, g4.fp, e3]
 nt h b hb xs e := by
  obtain ⟨l, its, h1, h2, h3, h4, h5⟩ := h
  subst h2
  rcases List.mem_cons.mp hb with z | z
  ·rw [z, h3] at e; cases e
  ·obtain ⟨i, hi, z | z⟩ := mem_fpE.mp z
   ·rw [z, (h4.mem hi).1] at e; cases e
    exact ⟨i.2.1, List.mem_cons_of_mem _ (mem_fpE.mpr ⟨i, hi, .inr rfl⟩), by simp, _, (h4.mem hi).2⟩
   ·rw [z, (h4.mem hi).2] at e; cases e
 view := some (.list (es.map fun e => .tuple [e.1, .list e.2]))
 vok h hv g k := by
  obtain ⟨l, its, h1, h2, h3, h4, h5⟩ := h
  cases hv
  subst h1 h2
  exact .lst ((k l List.mem_cons_self).trans h3) (h4.view g fun b hb => k b (List.mem_cons_of_mem _ hb))
end L2.VS
namespace L2.VS
open PySem PySem.Spec PyProof.Rows
variable {P0 : Addr → Hp → Prop} {A : Nat → Bool}
theorem blk_R2 {F F' : Fra P0} {Γ : En} {σ : St} {G H G' H' : Hp} {nt : Nat} {fv : List Nat} (r : R F Γ σ G H) (hp : F'.pen = F.pen) (rf : Rf F' G' H') (s : Same G G') : R F' (blkE nt fv Γ) (blk nt fv σ) G' H' := by
 have at_ : ∀ {i : Nat} {sl : Sl}, (blkE nt fv Γ)[i]? = some sl → sl ≠ .no → ∃ (j : Nat) (s0 : Sl), Γ[j]? = some s0 ∧ sl = blkS (some s0) ∧ (blk nt fv σ)[i]? = some ((σ[j]?).getD none) := by
  intro i sl e hn
  unfold blkE at e
  by_cases hi : i < nt
  ·rw [List.getElem?_append_left (by simpa using hi), List.getElem?_replicate] at e
   rw [if_pos hi] at e
   cases e
   exact absurd rfl hn
  ·rw [List.getElem?_append_right (by simpa using hi), List.length_replicate, List.getElem?_map] at e
   cases ej : fv[i - nt]? with
   | none => rw [ej] at e; cases e
   | some j =>
    rw [ej] at e
    have e' : blkS Γ[j]? = sl := Option.some.inj e
    cases es : Γ[j]? with
    | none => rw [es] at e'; exact absurd e'.symm hn
    | some s0 =>
     rw [es] at e'
     refine ⟨j, s0, es, e'.symm, ?_⟩
     unfold blk
     rw [List.getElem?_append_right (by simpa using hi), List.length_replicate, List.getElem?_map, ej]
     rfl
 refine R.of rf (by simp [blkE, blk]) (fun i sl e => ?_) (fun i B e => ?_) (fun i j x y _ e => ?_)
 ·cases sl with
  | no => trivial
  | val d =>
   obtain ⟨j, s0, h1, h2, h3⟩ := at_ e (by intro z; cases z)
   cases s0 with
   | val d0 =>
    cases h2
    obtain ⟨v, e1, d1⟩ := r.sl j _ h1
    rw [e1] at h3
    exact ⟨v, h3, Dt.same s _ _ d1⟩
   | _ => cases h2
  | own ds =>
   obtain ⟨j, s0, h1, h2, h3⟩ := at_ e (by intro z; cases z)
   cases s0 <;> cases h2
  | pen =>
   obtain ⟨j, s0, h1, h2, h3⟩ := at_ e (by intro z; cases z)
   cases s0 with
   | pen =>
    obtain ⟨p, e1, e2⟩ := r.sl j _ h1
    rw [e1] at h3
    exact ⟨p, h3, hp.trans e2⟩
   | _ => cases h2
  | con q =>
   obtain ⟨j, s0, h1, h2, h3⟩ := at_ e (by intro z; cases z)
   cases s0 <;> cases h2
  | pub B =>
   obtain ⟨j, s0, h1, h2, h3⟩ := at_ e (by intro z; cases z)
   cases s0 with
   | pub B' =>
    cases h2
    obtain ⟨v, e1, e2⟩ := r.sl j _ h1
    rw [e1] at h3
    exact ⟨v, h3, B.mono s e2⟩
   | _ => cases h2
  | box B =>
   obtain ⟨j, s0, h1, h2, h3⟩ := at_ e (by intro z; cases z)
   cases s0 <;> cases h2
 ·obtain ⟨j, s0, h1, h2, h3⟩ := at_ e (by intro z; cases z)
  cases s0 <;> cases h2
 ·obtain ⟨j, s0, h1, h2, h3⟩ := at_ e (by intro z; cases z)
  cases s0 <;> cases h2
noncomputable def compB (g : MG) (t : MT) (e : MO) (Γb : En) : List D → List (D × List D) → (List (D × List D) → Prop) → Prop
 | [], acc, Q => Q acc
 | d :: ds, acc, Q => g d Γb fun Γ1 => t Γ1 fun b Γ2 => if b = true then e Γ2 fun rv _ => ∃ x xs, rv = .box (bEl x xs) ∧ compB g t e Γb ds (acc ++ [(x, xs)]) Q else compB g t e Γb ds acc Q
noncomputable def mCompB (nt : Nat) (fv : List Nat) (mi : MD) (g : MG) (t : MT) (e : MO) : MO := fun Γ Q => mi Γ fun ds Γ1 => ds.length ≤ 1000 ∧ compB g t e (blkE nt fv Γ1) ds [] fun out => Q (.box (bChs out)) Γ1
theorem i_compB {nt : Nat} {fv : List Nat} {mi : MD} {mg : MG} {mt : MT} {me : MO} {Γ : En} {Q : Rv → En → Prop} (h : mi Γ fun ds Γ1 => ds.length ≤ 1000 ∧ compB mg mt me (blkE nt fv Γ1) ds [] fun out => Q (.box (bChs out)) Γ1) : mCompB nt fv mi mg mt me Γ Q := h
theorem i_tupE {ma : ME} {mb : MO} {Γ : En} {Q : Rv → En → Prop} (h : ma Γ fun d Γ1 => mb Γ1 fun rv Γ2 => ∃ ds, rv = .own ds ∧ Q (.box (bEl d ds)) Γ2) : mTupE ma mb Γ Q := h
end L2.VS
namespace L2.VS
open PySem PySem.Spec PyProof.Rows
variable {P0 : Addr → Hp → Prop} {A : Nat → Bool}
theorem R.junk {F : Fra P0} {Γ : En} {σ : St} {G H : Hp} (r : R F Γ σ G H) {a : Nat} (e : Γ[a]? = some .no ∨ Γ[a]? = none) (x : Option V) : R F Γ (σ.set a x) G H := by
 obtain ⟨fps, h1, h2⟩ := r.fps
 refine ⟨r.fr, by rw [List.length_set]; exact r.len, fun j => if j = a then [] else fps j, fun j s ej => ?_, fun j k s t ej ek hjk b hb hc => ?_⟩
 ·dsimp only
  by_cases hj : j = a
  ·subst hj
   rw [if_pos rfl]
   rcases e with e | e
   ·rw [e] at ej; cases ej; rfl
   ·rw [e] at ej; cases ej
  ·rw [if_neg hj, List.getElem?_set_ne (Ne.symm hj)]
   exact h1 j s ej
 ·dsimp only at hb hc
  by_cases hj : j = a
  ·rw [if_pos hj] at hb; cases hb
  ·rw [if_neg hj] at hb
   by_cases hk : k = a
   ·rw [if_pos hk] at hc; cases hc
   ·rw [if_neg hk] at hc
    exact h2 j k s t ej ek hjk b hb hc
end L2.VS
namespace L2
open PySem PySem.Spec PyProof.Rows
@[irreducible] def PSi (X : Cx) (L : List Stmt) (t : TS) : Prop := PSs X L t
@[irreducible] def PSd (X : Cx) (st : Stmt) (t : TS) : Prop := PS X st t
@[irreducible] def PEd (X : Cx) (e : Expr) (t : TE) : Prop := PE X e t
@[irreducible] def PAd (X : Cx) (es : List Expr) (t : TA) : Prop := PA X es t
section
variable {X : Cx} {L rest : List Stmt} {st : Stmt} {t u : TS} {e a b : Expr} {es : List Expr} {te ta tb : TE} {tl : TA} {pos : Pos}
end
end L2
namespace L2.VS
open PySem PySem.Spec PyProof.Rows
variable {P0 : Addr → Hp → Prop} {S : Type}
structure Fam (S : Type) where
 box : Addr → S → Bx
 pin : ∀ {p s v fp G H}, (box p s).P v fp G H → v = .ref p
noncomputable def RvP (G H : Hp) (v : V) (fp : List Addr) : Rv → Prop
 | .val d => fp = [] ∧ Dt G v d
 | .own ds => ∃ p vs, fp = [p] ∧ v = .ref p ∧ H p = some (.lst vs) ∧ Dts G vs ds
 | .box B => B.P v fp G H
section
variable {G G' H H' : Hp} {v : V} {fp fp' : List Addr}
theorem RvP.mono (g : Same G G') : ∀ {rv : Rv}, RvP G H v fp rv → RvP G' H v fp rv
 | .val _, h => ⟨h.1, Dt.same g _ _ h.2⟩
 | .own _, h => let ⟨p, vs, a, b, c, d⟩ := h; ⟨p, vs, a, b, c, Dts.same g _ _ d⟩
 | .box B, h => B.mono g h
theorem RvP.loc (k : ∀ b ∈ fp, H' b = H b) : ∀ {rv : Rv}, RvP G H v fp rv → RvP G H' v fp rv
 | .val _, h => h
 | .own _, h => let ⟨p, vs, a, b, c, d⟩ := h; ⟨p, vs, a, b, (k p (by rw [a]; exact List.mem_singleton.mpr rfl)).trans c, d⟩
 | .box B, h => B.loc k h
theorem RvP.dom : ∀ {rv : Rv}, RvP G H v fp rv → ∀ b ∈ fp, ∃ o, H b = some o
 | .val _, h => fun b hb => by rw [h.1] at hb; cases hb
 | .own _, h => fun b hb => by
  obtain ⟨p, vs, a, _, c, _⟩ := h
  rw [a] at hb
  rw [List.mem_singleton.mp hb]
  exact ⟨_, c⟩
 | .box B, h => B.dom h
theorem RvP.uniq : ∀ {rv : Rv}, RvP G H v fp rv → RvP G H v fp' rv → fp = fp'
 | .val _, h, g => h.1.trans g.1.symm
 | .own _, h, g => by
  obtain ⟨p, _, a, b, _⟩ := h
  obtain ⟨q, _, c, d, _⟩ := g
  rw [b] at d
  cases d
  rw [a, c]
 | .box B, h, g => B.uniq h g
theorem RvP.nt : ∀ {rv : Rv}, RvP G H v fp rv → ∀ b ∈ fp, ∀ xs, H b = some (.tup xs) → ∃ q ∈ fp, V.ref q ∈ xs ∧ ∃ vs, H q = some (.lst vs)
 | .val _, h => fun b hb => by rw [h.1] at hb; cases hb
 | .own _, h => fun b hb xs e => by
  obtain ⟨p, vs, a, _, c, _⟩ := h
  rw [a] at hb
  rw [List.mem_singleton.mp hb, c] at e
  cases e
 | .box B, h => B.nt h
end
noncomputable def bKp (W : Fam S) (rv : Rv) (p : Addr) (s : S) : Bx where
 P := fun v fp G H => ∃ f1 f2, fp = f1 ++ f2 ∧ RvP G H v f1 rv ∧ (W.box p s).P (.ref p) f2 G H ∧ ∀ b ∈ f1, b ∉ f2
 mono := fun g ⟨f1, f2, e, a, b, c⟩ => ⟨f1, f2, e, a.mono g, (W.box p s).mono g b, c⟩
 loc := fun k ⟨f1, f2, e, a, b, c⟩ => ⟨f1, f2, e, a.loc fun x hx => k x (by rw [e]; exact List.mem_append_left _ hx), (W.box p s).loc (fun x hx => k x (by rw [e]; exact List.mem_append_right _ hx)) b, c⟩
 dom := fun ⟨f1, f2, e, a, b, c⟩ x hx => by
  rw [e] at hx
  exact (List.mem_append.mp hx).elim (a.dom x) ((W.box p s).dom b x)
 uniq := fun ⟨f1, f2, e, a, b, _⟩ ⟨g1, g2, e', a', b', _⟩ => by rw [e, e', a.uniq a', (W.box p s).uniq b b']
 nt := fun ⟨f1, f2, e, a, b, _⟩ x hx xs z => by
  rw [e] at hx
  rcases List.mem_append.mp hx with h | h
  ·obtain ⟨q, h1, h2⟩ := a.nt x h xs z
   exact ⟨q, by rw [e]; exact List.mem_append_left _ h1, h2⟩
  ·obtain ⟨q, h1, h2⟩ := (W.box p s).nt b x h xs z
   exact ⟨q, by rw [e]; exact List.mem_append_right _ h1, h2⟩
 view := none
 vok := fun _ z => nomatch z
noncomputable def mRetK (W : Fam S) (m : MO) : MS := fun Γ Q => m Γ fun rv Γ1 => ∃ p s, Γ1[0]? = some (.box (W.box p s)) ∧ Q (.rt (.box (bKp W rv p s)))
theorem vs_retK {W : Fam S} {A : Nat → Bool} {t : TE} {m : MO} (h : VO P0 t m) : VSA P0 A (tRet t) (mRetK W m) := by
 intro F Γ σ G H E Qm r hm k
 refine h F Γ σ G H _ _ r hm fun rv Γ1 v G1 H1 m1 s1 r1 v1 a1 => ?_
 obtain ⟨p, s, e, q⟩ := m1
 obtain ⟨fps, h1, h2⟩ := r1.fps
 have h0 := h1 0 _ e
 obtain ⟨w, ew, pw, nw⟩ := id h0
 have z := W.pin pw
 subst z
 refine k _ q v G1 H1 s1 r1.fr ?_
 cases rv with
 | val d => exact ⟨_, ⟨[], fps 0, rfl, ⟨rfl, v1⟩, pw, fun b hb => nomatch hb⟩, nw⟩
 | own ds =>
  obtain ⟨u, vs, rfl, e1, e2, e3, e4⟩ := v1
  refine ⟨_, ⟨[u], fps 0, rfl, ⟨u, vs, rfl, rfl, e3, e4⟩, pw, fun b hb => ?_⟩, fun b hb => ?_⟩
  ·rw [List.mem_singleton.mp hb]
   exact a1 0 _ _ e h0 u rfl
  ·rcases List.mem_append.mp hb with hb | hb
   ·rw [List.mem_singleton.mp hb]
    exact ⟨e1, e2⟩
   ·exact nw b hb
 | box B =>
  obtain ⟨fp, e1, e2⟩ := v1
  refine ⟨_, ⟨fp, fps 0, rfl, e1, pw, fun b hb => a1 0 _ _ fp e h0 e1 b hb⟩, fun b hb => ?_⟩
  rcases List.mem_append.mp hb with hb | hb
  ·exact e2 b hb
  ·exact nw b hb
abbrev Lm (S : Type) := Addr → S → List Sl → (Rv → S → Prop) → Prop
noncomputable def mFnL (W : Fam S) (n : Nat) (b : MS) : Lm S := fun p s as Q => b (.box (W.box p s) :: (as ++ List.replicate n .no)) fun fl => match fl with
 | .rt rv => ∃ rv0 s', rv = .box (bKp W rv0 p s') ∧ Q rv0 s'
 | .nx Γ => ∃ s', Γ[0]? = some (.box (W.box p s')) ∧ Q (.val .none) s'
 | _ => False
noncomputable def spL (P0 : Addr → Hp → Prop) (W : Fam S) (n : Nat) (f : Lm S) : Sp := fun vs H Q _ => ∃ (F : Fra P0) (p : Addr) (s : S) (fp : List Addr) (ws : List V) (as : List Sl) (Qm : Rv → S → Prop), vs = .ref p :: ws ∧ (∀ b, F.H0 b = if b ∈ fp then none else H b) ∧ Rf F F.G0 H ∧
 (W.box p s).P (.ref p) fp F.G0 H ∧ (∀ b ∈ fp, F.G0 b = none) ∧ Paired (ArgOk F F.G0) ws as ∧ as.length + 1 = n ∧ f p s as Qm ∧
 ∀ rv s' r f1 f2 G' H', Qm rv s' → Rf F G' H' → RvP G' H' r f1 rv → (W.box p s').P (.ref p) f2 G' H' → (∀ b ∈ f1, b ∉ f2) → (∀ b ∈ f1 ++ f2, F.H0 b = none ∧ G' b = none) → Q r H'
theorem arg_at {F : Fra P0} {G : Hp} {ws : List V} {as : List Sl} {i k m : Nat} {s : Sl} (pr : Paired (ArgOk F G) ws as) (e : (as ++ List.replicate k Sl.no)[i]? = some s) (hne : s ≠ .no) :
  ∃ v, (ws.map some ++ List.replicate m none)[i]? = some (some v) ∧ ArgOk F G v s := by
 induction pr generalizing i with
 | nil =>
  rw [List.nil_append, List.getElem?_replicate] at e
  split at e
  ·cases e; exact absurd rfl hne
  ·cases e
 | cons a b ih =>
  cases i with
  | zero => cases e; exact ⟨_, rfl, a⟩
  | succ i => exact ih e
theorem fn_startL {W : Fam S} {n k : Nat} {N : List Str} {t : TS} {b : MS} (h : VS P0 t b) (hN : N.length = n + k) {vs : List V} {H : Hp} {Q : VK} {E : XK} (hs : spL P0 W n (mFnL W k b) vs H Q E) :
  t { nx := fun _ H' => Q .non H', rt := Q } (start N vs) H := by
 obtain ⟨F, p, s, fp, ws, as, Qm, rfl, hH, rf, hP, hG, pr, hl, hm, q⟩ := hs
 have hlen : ws.length = as.length := Paired.length pr
 have r : R F (.box (W.box p s) :: (as ++ List.replicate k .no)) (start N (.ref p :: ws)) F.G0 H := by
  refine ⟨rf, ?_, fun i => if i = 0 then fp else [], fun i u e => ?_, fun i j u z _ _ hij b hb hc => ?_⟩
  ·unfold start
   simp only [List.length_cons, List.length_append, List.length_replicate, List.length_map]
   omega
  ·cases i with
   | zero =>
    cases e
    exact ⟨.ref p, rfl, hP, fun b hb => ⟨by have hb : b ∈ fp := hb; rw [hH, if_pos hb], hG b hb⟩⟩
   | succ i =>
    have e : (as ++ List.replicate k Sl.no)[i]? = some u := e
    have at_ : u ≠ .no → ∃ v, (start N (.ref p :: ws))[i + 1]? = some (some v) ∧ ArgOk F F.G0 v u := fun hne => by
     obtain ⟨v, ev, av⟩ := arg_at (m := N.length - (ws.length + 1)) pr e hne
     exact ⟨v, ev, av⟩
    cases u with
    | no => rfl
    | val d =>
     obtain ⟨v, ev, av⟩ := at_ (by intro z; cases z)
     exact ⟨rfl, v, ev, av⟩
    | own ds =>
     obtain ⟨v, ev, av⟩ := at_ (by intro z; cases z)
     exact av.elim
    | pen =>
     obtain ⟨v, ev, q, rfl, eq⟩ := at_ (by intro z; cases z)
     exact ⟨rfl, q, ev, eq⟩
    | con q =>
     obtain ⟨v, ev, av⟩ := at_ (by intro z; cases z)
     have av : v = .ref q := av
     rw [av] at ev
     exact ⟨rfl, ev⟩
    | pub B =>
     obtain ⟨v, ev, av⟩ := at_ (by intro z; cases z)
     exact ⟨rfl, v, ev, av⟩
    | box B =>
     obtain ⟨v, ev, av⟩ := at_ (by intro z; cases z)
     exact av.elim
  ·dsimp only at hb hc
   split at hb
   ·rename_i hi
    split at hc
    ·rename_i hj; exact hij (hi.trans hj.symm)
    ·cases hc
   ·cases hb
 refine h F _ _ _ _ _ _ r hm fun fl hq => ?_
 cases fl with
 | nx Γ =>
  intro σ G' H' _ r' _
  obtain ⟨s', e, hq⟩ := hq
  obtain ⟨fps, h1, _⟩ := r'.fps
  obtain ⟨w, ew, pw, nw⟩ := h1 0 _ e
  have z := W.pin pw
  subst z
  exact q _ _ _ [] _ _ _ hq r'.fr ⟨rfl, .non⟩ pw (fun b hb => nomatch hb) nw
 | rt rv =>
  intro v G' H' _ f' v'
  obtain ⟨rv0, s', rfl, hq⟩ := hq
  obtain ⟨g, ⟨f1, f2, rfl, a, b, c⟩, d⟩ := v'
  exact q _ _ _ _ _ _ _ hq f' a b c d
 | bk Γ => exact hq.elim
 | ct Γ => exact hq.elim
theorem spL_len {W : Fam S} {n : Nat} {f : Lm S} {ps : List Str} (h : ps.length = n) : ∀ vs H Q E, spL P0 W n f vs H Q E → vs.length = ps.length := by
 rintro vs H Q E ⟨F, p, s, fp, ws, as, Qm, rfl, _, _, _, _, pr, hl, _⟩
 rw [List.length_cons, Paired.length pr, hl, h]
theorem _root_.L2.Fun.okL {P : Program} {w : World} {K : PySem.W.Frag} {mg : Str → Option Value} {base : Heap} {x qual : Str} {st : Stmt} {f : Addr} {fd : FuncData} {N ps : List Str} {k n j : Nat} {b : MS} {W : Fam S}
  (F : Fun K x qual st f fd) (S0 : FnScope N ps (defScope st)) (hn : ps.length = n) (hN : N.length = n + j)
  (hb : ∀ (cdv : Value) (A : Around) (outer : List Env) (s : Shared) (H : Hp) (E : XK), Room k (A.deeper (envOfC qual (defScope st) s.heap.objs.size f cdv)) →
   SsX P0 (cxOf CX0 P w K mg base N qual (defScope st) f cdv A outer s H E).nox (defBody st) b) : FnOk P w K mg base CX0 (k + 1) f fd ps (spL P0 W n (mFnL W j b)) := by
 refine F.ok S0 (spL_len hn) fun cdv A outer s H vs Q E hr hs => ?_
 obtain ⟨t, h1, h2⟩ := hb cdv A outer s H E hr
 exact ⟨t, h1, fn_startL h2 hN hs⟩
noncomputable def mCallL (W : Fam S) (n : Nat) (f : Lm S) (i : Nat) (m : MA) : MO := fun Γ Q => ∃ p, (∃ s, Γ[i]? = some (.box (W.box p s))) ∧ m Γ fun as Γ1 => ∃ s1, Γ1[i]? = some (.box (W.box p s1)) ∧ as.length + 1 = n ∧ f p s1 as fun rv s' => Q rv (Γ1.set i (.box (W.box p s')))
noncomputable def Fra.less (F : Fra P0) {G H : Hp} (r : Rf F G H) (fp : List Addr) (hf : ∀ b ∈ fp, F.H0 b = none) : Fra P0 where
 H0 := fun b => if b ∈ fp then none else H b
 G0 := G
 pen := F.pen
 stab := fun p e H1 H2 h => F.stab p e H1 H2 fun b o z => by
  obtain ⟨o', e'⟩ := r.dom z
  exact h b o' (by rw [if_neg (fun hb => by rw [hf b hb] at z; cases z)]; exact e')
 pin := F.pin
 pin0 := fun p e => by
  obtain ⟨o, z⟩ := F.pin0 p e
  obtain ⟨o', e'⟩ := F.pin p e H (r.pn p e)
  exact ⟨o', by rw [if_neg (fun hb => by rw [hf p hb] at z; cases z)]; exact e'⟩
 pg := fun p e => by
  obtain ⟨o, e0⟩ := F.pin0 p e
  rw [r.g0 p o e0]
  exact F.pg p e
theorem vo_callL {W : Fam S} {n i : Nat} {f : Lm S} {t : TA} {m : MA} {E : XK} (h : VA P0 t m) : VO P0 (tCall (spL P0 W n f) [] E (tCons (tVar i) t)) (mCallL W n f i m) := by
 intro F Γ σ G H Q Qm r hm k
 obtain ⟨p, ⟨s, e⟩, hm⟩ := hm
 obtain ⟨fps0, g1, _⟩ := r.fps
 obtain ⟨w, ew, pw, _⟩ := g1 i _ e
 have z := W.pin pw
 subst z
 refine ⟨.ref p, ew, h F Γ σ G H _ _ r hm fun as Γ1 rs G1 H1 m1 s1 r1 d1 => ?_⟩
 obtain ⟨s1', e1, hl, hf⟩ := m1
 obtain ⟨fps, h1, h2⟩ := r1.fps
 have hi := h1 i _ e1
 obtain ⟨w, ew', pw', nw⟩ := id hi
 have z := W.pin pw'
 subst z
 have hF : ∀ b ∈ fps i, F.H0 b = none := fun b hb => (nw b hb).1
 have inH : ∀ b o, F.H0 b = some o → (if b ∈ fps i then none else H1 b) ≠ none := fun b o z => by
  obtain ⟨o', e'⟩ := r1.fr.dom z
  rw [if_neg (fun hb => by rw [hF b hb] at z; cases z), e']
  exact fun y => nomatch y
 refine ⟨F.less r1.fr (fps i) hF, p, s1', fps i, rs, as, fun rv s' => Qm rv (Γ1.set i (.box (W.box p s'))), by rw [List.append_nil], fun b => rfl,
  ⟨r1.fr.sub, fun _ _ _ => rfl, fun b o z _ => ?_, r1.fr.pn⟩, pw', fun b hb => (nw b hb).2, Paired.imp' (fun a s h => by cases s <;> exact h) d1, hl, hf, fun rv s' v f1 f2 G' H' hq f' a b c d => ?_⟩
 ·have z : (if b ∈ fps i then none else H1 b) = some o := z
  split at z
  ·cases z
  ·exact z
 ·have h0 : ∀ b, (F.less r1.fr (fps i) hF).H0 b = if b ∈ fps i then none else H1 b := fun _ => rfl
  have nF : ∀ b, (F.less r1.fr (fps i) hF).H0 b = none → F.H0 b = none := fun b z => by
   cases y : F.H0 b with
   | none => rfl
   | some o => exact absurd z (inH b o y)
  have sG : Same G1 G' := fun b o z => by
   have hH := r1.fr.sub b o z
   have hb : b ∉ fps i := fun hb => by rw [(nw b hb).2] at z; cases z
   have y := f'.g0 b o (by rw [h0, if_neg hb]; exact hH)
   exact y.trans z
  have rf : Rf F G' H' := by
   refine ⟨f'.sub, fun b o z => ?_, fun b o z hb => ?_, f'.pn⟩
   ·obtain ⟨o', e'⟩ := r1.fr.dom z
    have hb : b ∉ fps i := fun hb => by rw [hF b hb] at z; cases z
    exact (f'.g0 b o' (by rw [h0, if_neg hb]; exact e')).trans (r1.fr.g0 b o z)
   ·have hb' : b ∉ fps i := fun hb => by rw [hF b hb] at z; cases z
    exact f'.h0 b o (by rw [h0, if_neg hb']; exact r1.fr.h0 b o z hb) hb
  have oth : ∀ (j : Nat) (u : Sl), j ≠ i → Γ1[j]? = some u → ∀ b ∈ fps j, (F.less r1.fr (fps i) hF).H0 b ≠ none ∧ G' b = none ∧ H' b = H1 b := fun j u hj ej b hb => by
   obtain ⟨m1, m2, o, m3⟩ := (h1 j u ej).mine hb
   have hb' := h2 j i u _ ej e1 hj b hb
   have y : (F.less r1.fr (fps i) hF).H0 b = some o := by rw [h0, if_neg hb']; exact m3
   refine ⟨by rw [y]; exact (fun z => nomatch z), (f'.g0 b o y).trans m2, ?_⟩
   rw [m3]
   exact f'.h0 b o y (F.pen_ne m1)
  have back : ∀ (j : Nat) (u : Sl), j ≠ i → (Γ1.set i (.box (W.box p s')))[j]? = some u → Γ1[j]? = some u := fun j u hj ej => by rw [List.getElem?_set_ne (Ne.symm hj)] at ej; exact ej
  have hil : i < Γ1.length := (List.getElem?_eq_some_iff.mp e1).1
  have new : R F (Γ1.set i (.box (W.box p s'))) σ G' H' := by
   refine ⟨rf, by rw [List.length_set]; exact r1.len, fun j => if j = i then f2 else fps j, fun j u ej => ?_, fun j l u z ej el hjl b hb hc => ?_⟩
   ·dsimp only
    by_cases hj : j = i
    ·subst hj
     rw [if_pos rfl]
     rw [List.getElem?_set_self hil] at ej
     cases ej
     exact ⟨.ref p, ew', b, fun x hx => ⟨nF x (d x (List.mem_append_right _ hx)).1, (d x (List.mem_append_right _ hx)).2⟩⟩
    ·rw [if_neg hj]
     have ej := back j u hj ej
     exact (h1 j u ej).go sG fun x hx => (oth j u hj ej x hx).2
   ·dsimp only at hb hc
    by_cases hj : j = i
    ·rw [if_pos hj] at hb
     have hl' : l ≠ i := fun y => hjl (hj.trans y.symm)
     rw [if_neg hl'] at hc
     exact (oth l z hl' (back l z hl' el) b hc).1 (d b (List.mem_append_right _ hb)).1
    ·rw [if_neg hj] at hb
     by_cases hl' : l = i
     ·rw [if_pos hl'] at hc
      exact (oth j u hj (back j u hj ej) b hb).1 (d b (List.mem_append_right _ hc)).1
     ·rw [if_neg hl'] at hc
      exact h2 j l u z (back j u hj ej) (back l z hl' el) hjl b hb hc
  have apart : ∀ (j : Nat) (u : Sl) (fp : List Addr), (Γ1.set i (.box (W.box p s')))[j]? = some u → SlF F G' H' σ[j]? fp u → ∀ x ∈ f1, x ∉ fp := fun j u fp ej hu x hx hxf => by
   by_cases hj : j = i
   ·subst hj
    rw [List.getElem?_set_self hil] at ej
    cases ej
    obtain ⟨w, ew2, pw2, _⟩ := hu
    rw [ew'] at ew2
    cases ew2
    rw [(W.box p s').uniq pw2 b] at hxf
    exact c x hx hxf
   ·have ej := back j u hj ej
    have y := SlF.det hu ((h1 j u ej).go sG fun x hx => (oth j u hj ej x hx).2)
    rw [y] at hxf
    exact (oth j u hj ej x hxf).1 (d x (List.mem_append_left _ hx)).1
  refine k rv _ v G' H' hq (s1.trans sG) new ?_ ?_
  ·cases rv with
   | val d' => exact a.2
   | own ds =>
    obtain ⟨u, vs, e2, e3, e4, e5⟩ := a
    have hu := d u (List.mem_append_left _ (by rw [e2]; exact List.mem_singleton.mpr rfl))
    exact ⟨u, vs, e3, nF u hu.1, hu.2, e4, e5⟩
   | box B => exact ⟨f1, a, fun x hx => ⟨nF x (d x (List.mem_append_left _ hx)).1, (d x (List.mem_append_left _ hx)).2⟩⟩
  ·cases rv with
   | val d' => trivial
   | own ds =>
    intro j u fp ej hu y ey hy
    obtain ⟨u', vs, e2, e3, e4, e5⟩ := a
    rw [e3] at ey
    cases ey
    exact apart j u fp ej hu _ (by rw [e2]; exact List.mem_singleton.mpr rfl) hy
   | box B =>
    intro j u fp g ej hu hg x hx
    have y : g = f1 := B.uniq hg a
    rw [y] at hx
    exact apart j u fp ej hu x hx
end L2.VS
namespace L2.VS
open PySem PySem.Spec PyProof.Rows
variable {P0 : Addr → Hp → Prop}
noncomputable def PenC (p : Addr) (n : Nat) (H : Hp) : Prop := ∃ z c k : Int, H p = some (.lst [.int z, .int c, .int k]) ∧ 0 ≤ z ∧ 0 ≤ c ∧ c < 1099511627776 ∧ 0 ≤ k ∧ k ≤ (n : Int)
noncomputable def penF : Fam Nat where
  box := fun p n =>
    { P := fun v fp _ H => v = .ref p ∧ fp = [p] ∧ PenC p n H
      mono := fun _ h => h
      loc := fun k ⟨a, b, z, c, m, e, r⟩ => ⟨a, b, z, c, m, (k p (by rw [b]; exact List.mem_singleton.mpr rfl)).trans e, r⟩
      dom := fun ⟨_, b, z, c, m, e, _⟩ x hx => by
        rw [b] at hx
        rw [List.mem_singleton.mp hx]
        exact ⟨_, e⟩
      uniq := fun h g => h.2.1.trans g.2.1.symm
      nt := fun ⟨_, b, z, c, m, e, _⟩ x hx xs y => by
        rw [b] at hx
        rw [List.mem_singleton.mp hx, e] at y
        cases y
      view := none
      vok := fun _ z => nomatch z }
  pin := fun h => h.1
noncomputable def spTakeC : Sp := fun vs H Q _ => ∃ (pen : Addr) (m z c k : Int) (n : Nat), vs = [.ref pen, .int m] ∧ H pen = some (.lst [.int z, .int c, .int k]) ∧ 0 ≤ z ∧ 0 ≤ c ∧ c < 1099511627776 ∧ 0 ≤ k ∧ k ≤ (n : Int) ∧ n < 1000000000 ∧ 0 < m ∧ m < 1073741824 ∧
 ∀ (r : Int) (H' : Hp), 0 ≤ r → r < m → PenC pen (n + 1) H' → SameX pen H H' → Q (.int r) H'
noncomputable def mTakeL : Lm Nat := fun _ n as Q => match as with
 | [.val (.int m)] => 0 < m ∧ m < 1073741824 ∧ n < 1000000000 ∧ ∀ r : Int, 0 ≤ r → r < m → Q (.val (.int r)) (n + 1)
 | _ => False
theorem take_ofL : ∀ vs H Q E, spL P0 penF 2 mTakeL vs H Q E → spTakeC vs H Q E := by
 rintro vs H Q E ⟨F, p, n, fp, ws, as, Qm, rfl, hH, rf, hP, hG, pr, hl, hm, q⟩
 unfold mTakeL at hm
 split at hm
 ·rename_i m
  cases pr with
  | cons a1 b1 =>
   cases b1
   have a1 : Dt F.G0 _ (.int m) := a1
   cases a1
   obtain ⟨_, rfl, z, c, k, e, hz, hc, hc2, hk, hkn⟩ := hP
   refine ⟨p, m, z, c, k, n, rfl, e, hz, hc, hc2, hk, hkn, hm.2.2.1, hm.1, hm.2.1, fun r H' r0 r1 hp hx => ?_⟩
   have nb : ∀ b o, F.H0 b = some o → b ≠ p ∧ H b = some o := fun b o y => by
    rw [hH] at y
    split at y
    ·cases y
    ·rename_i hb
     exact ⟨fun w => hb (by rw [w]; exact List.mem_singleton.mpr rfl), y⟩
   refine q _ _ _ [] [p] F.G0 H' (hm.2.2.2 r r0 r1) ⟨fun b o y => hx b o (fun w => ?_) (rf.sub b o y), fun _ _ _ => rfl, fun b o y _ => hx b o (nb b o y).1 (nb b o y).2, F.stab' H H' (fun b o y => ?_) rf.pn⟩ ⟨rfl, .int _⟩ ⟨rfl, rfl, hp⟩ (fun b hb => nomatch hb) fun b hb => ?_
   ·rw [w, hG p (List.mem_singleton.mpr rfl)] at y; cases y
   ·rw [(nb b o y).2]; exact hx b o (nb b o y).1 (nb b o y).2
   ·have hb : b ∈ [p] := hb
    refine ⟨by rw [hH, if_pos hb], hG b hb⟩
 ·exact hm.elim
theorem i_takeL {p : Addr} {n : Nat} {m : Int} {Q : Rv → Nat → Prop} (h1 : 0 < m) (h2 : m < 1073741824) (hn : n < 1000000000) (h : ∀ r : Int, 0 ≤ r → r < m → Q (.val (.int r)) (n + 1)) : mTakeL p n [.val (.int m)] Q := ⟨h1, h2, hn, h⟩
theorem i_fnL {S : Type} {W : Fam S} {n : Nat} {b : MS} {p : Addr} {s : S} {as : List Sl} {Q : Rv → S → Prop} (h : b (.box (W.box p s) :: (as ++ List.replicate n .no)) fun fl => match fl with
 | .rt rv => ∃ rv0 s', rv = .box (bKp W rv0 p s') ∧ Q rv0 s'
 | .nx Γ => ∃ s', Γ[0]? = some (.box (W.box p s')) ∧ Q (.val .none) s'
 | _ => False) : mFnL W n b p s as Q := h
end L2.VS
namespace L2.VS
open PySem PySem.Spec PyProof.Rows
abbrev NoP : Addr → Hp → Prop := fun _ _ => False
noncomputable def spPenC (K : PySem.W.Frag) : Sp := fun vs H Q _ => ∃ (a : Addr) (ns : List Int) (j : Int), vs = [.ref a, .int j] ∧ SqL K H a (ns.map V.int) ∧ 0 ≤ j ∧ j < 1000 ∧ ∀ p z c, H p = none → 0 ≤ z → 0 ≤ c → c < 1099511627776 → Q (.ref p) (upd H p (.lst [.int z, .int c, .int 1]))
theorem law_goC {k : Nat} {t : TS} {b : MS} {H : Hp} {a pen : Addr} {z c : Int} {Q : VK} {nx : St → Hp → Prop} (h : VS NoP t b) (hp : H pen = none) (hz : 0 ≤ z) (hc : 0 ≤ c) (hc2 : c < 1099511627776)
    (hb : b (.no :: .box (penF.box pen 1) :: List.replicate k .no) TrueEnd) (q : ∀ H', Q (.bl true) H') :
    t { nx := nx, rt := Q } (some (.ref a) :: some (.ref pen) :: List.replicate k none) (upd H pen (.lst [.int z, .int c, .int 1])) := by
  have g := same_new hp (.lst [.int z, .int c, .int 1])
  let F : Fra NoP :=
    { H0 := H
      G0 := fun _ => none
      pen := none
      stab := fun p e => nomatch e
      pin := fun p e => nomatch e
      pin0 := fun p e => nomatch e
      pg := fun _ _ => rfl }
  have r : R F (.no :: .box (penF.box pen 1) :: List.replicate k .no) (some (.ref a) :: some (.ref pen) :: List.replicate k none) F.G0 (upd H pen (.lst [.int z, .int c, .int 1])) := by
    refine ⟨⟨fun b o e => (nomatch e), fun _ _ _ => rfl, fun b o e _ => g b o e, fun p e => nomatch e⟩, by simp, fun i => if i = 1 then [pen] else [], fun i s e => ?_, fun i j s u _ _ hij b hb hc => ?_⟩
    · match i with
      | 0 => cases e; rfl
      | 1 =>
        cases e
        refine ⟨.ref pen, rfl, ⟨rfl, rfl, z, c, 1, upd_same, hz, hc, hc2, by decide, by decide⟩, fun b hb => ?_⟩
        have hb : b ∈ [pen] := hb
        rw [List.mem_singleton.mp hb]
        exact ⟨hp, rfl⟩
      | i + 2 =>
        have e' : (List.replicate k Sl.no)[i]? = some s := by simpa using e
        rw [List.getElem?_replicate] at e'
        split at e'
        · cases e'; rfl
        · cases e'
    · dsimp only at hb hc
      split at hb
      · rename_i hi
        split at hc
        · rename_i hj; exact hij (hi.trans hj.symm)
        · cases hc
      · cases hb
  refine h F _ _ F.G0 _ _ TrueEnd r hb fun fl e => ?_
  unfold TrueEnd at e
  subst e
  intro v G' H' _ _ hr
  have hr : Dt G' v (.bool true) := hr
  cases hr
  exact q H'
theorem law_bodyC {K : PySem.W.Frag} {a : Addr} {ns : List Int} {k : Nat} {j : Int} {b : MS} {H : Hp} {Q : VK} {nx : St → Hp → Prop} {X : Cx} {st : Stmt} {rest : List Stmt} {N : List Str} (hj : 0 ≤ j ∧ j < 1000)
  (h1 : PS X st (tAsg (tCall (spPenC K) [] E0 (tCons (tVar 0) (tCons (tC (.int j)) tNil))) (gName 1))) (h2 : ∃ t, PSs X rest t ∧ VS NoP t b) (hN : N.length = k + 2) (hS : SqL K H a (ns.map V.int))
  (hb : ∀ pen, b (.no :: .box (penF.box pen 1) :: List.replicate k .no) TrueEnd) (q : ∀ H', Q (.bl true) H') : ∃ t, PSs X (st :: rest) t ∧ t { nx := nx, rt := Q } (start N [.ref a]) H := by
 obtain ⟨t, h2, h3⟩ := h2
 refine ⟨_, pss_cons h1 h2, ?_⟩
 have e : start N [.ref a] = some (.ref a) :: none :: List.replicate k none := by
  unfold start
  rw [hN]
  rfl
 rw [e]
 refine ⟨.ref a, rfl, a, ns, j, rfl, hS, hj.1, hj.2, fun p z c hp hz hc hc2 => ?_⟩
 exact law_goC (t := t) h3 hp hz hc hc2 (hb p) q
end L2.VS
namespace L2.VS
open PySem PySem.Spec PyProof.Rows
structure Ins1 (C : Addr) (x : Str) (w d l : Addr) (vs : List V) (H : Hp) : Prop where
 i : H w = some (.ins C d [(x, .ref l)])
 d : H d = some (.own w)
 l : H l = some (.lst vs)
theorem Ins1.same {C w d l : Addr} {x : Str} {vs : List V} {H H' : Hp} (h : Ins1 C x w d l vs H) (g : Same H H') : Ins1 C x w d l vs H' := ⟨g _ _ h.i, g _ _ h.d, g _ _ h.l⟩
theorem Ins1.upd {C w d l : Addr} {x : Str} {vs us : List V} {H : Hp} (h : Ins1 C x w d l vs H) : Ins1 C x w d l us (upd H l (.lst us)) := by
 refine ⟨?_, ?_, upd_same⟩
 ·rw [upd_ne (ne_of h.i h.l (by intro z; cases z))]; exact h.i
 ·rw [upd_ne (ne_of h.d h.l (by intro z; cases z))]; exact h.d
end L2.VS
namespace L2.VS
open PySem PySem.Spec PyProof.Rows
variable {P0 : Addr → Hp → Prop}
noncomputable def pIns (C : Addr) (x : Str) (w : Addr) (ds : List D) : Pb where
 P := fun v G => v = .ref w ∧ ∃ d l us, Ins1 C x w d l us G ∧ Dts G us ds
 mono := fun g ⟨a, d, l, us, b, c⟩ => ⟨a, d, l, us, b.same g, Dts.same g _ _ c⟩
noncomputable def insF (C : Addr) (x : Str) : Fam (List D) where
  box := fun w ds =>
    { P := fun v fp G H => v = .ref w ∧ ∃ d l us, fp = [w, d, l] ∧ Ins1 C x w d l us H ∧ Dts G us ds
      mono := fun g ⟨a, d, l, us, b, c, e⟩ => ⟨a, d, l, us, b, c, Dts.same g _ _ e⟩
      loc := fun k ⟨a, d, l, us, b, c, e⟩ => by
        refine ⟨a, d, l, us, b, ⟨?_, ?_, ?_⟩, e⟩
        · rw [k w (by rw [b]; simp)]; exact c.i
        · rw [k d (by rw [b]; simp)]; exact c.d
        · rw [k l (by rw [b]; simp)]; exact c.l
      dom := fun ⟨_, d, l, us, b, c, _⟩ y hy => by
        rw [b] at hy
        simp only [List.mem_cons, List.not_mem_nil, or_false] at hy
        rcases hy with rfl | rfl | rfl
        · exact ⟨_, c.i⟩
        · exact ⟨_, c.d⟩
        · exact ⟨_, c.l⟩
      uniq := fun ⟨_, d, l, us, b, c, _⟩ ⟨_, d', l', us', b', c', _⟩ => by
        have z := c.i.symm.trans c'.i
        injection z with z
        injection z with z1 z2 z3
        injection z3 with z3 z4
        injection z3 with z5 z6
        injection z6 with z6
        rw [b, b', z2, z6]
      nt := fun ⟨_, d, l, us, b, c, _⟩ y hy xs z => by
        rw [b] at hy
        simp only [List.mem_cons, List.not_mem_nil, or_false] at hy
        rcases hy with rfl | rfl | rfl
        · rw [c.i] at z; cases z
        · rw [c.d] at z; cases z
        · rw [c.l] at z; cases z
      view := none
      vok := fun _ z => nomatch z
      pv := some (pIns C x w ds)
      pok := fun ⟨a, d, l, us, b, c, e⟩ z g k => by
        cases z
        refine ⟨a, d, l, us, ⟨?_, ?_, ?_⟩, Dts.same g _ _ e⟩
        · rw [k w (by rw [b]; simp)]; exact c.i
        · rw [k d (by rw [b]; simp)]; exact c.d
        · rw [k l (by rw [b]; simp)]; exact c.l }
  pin := fun h => h.1
noncomputable def InsAt (C : Addr) (x : Str) (w : Addr) (ds : List D) (s : Sl) : Prop := s = .box ((insF C x).box w ds) ∨ s = .pub (pIns C x w ds)
section
variable {C : Addr} {x : Str} {i : Nat}
theorem R.ins {F : Fra P0} {Γ : En} {σ : List (Option V)} {G H : Hp} {w : Addr} {ds : List D} {s : Sl} (r : R F Γ σ G H) (e : Γ[i]? = some s) (h : InsAt C x w ds s) : ∃ d l us, σ[i]? = some (some (.ref w)) ∧ Ins1 C x w d l us H ∧ Dts G us ds := by
 rcases h with rfl | rfl
 ·obtain ⟨v, fp, e1, ⟨rfl, d, l, us, _, b, c⟩, _⟩ := r.sl i _ e
  exact ⟨d, l, us, e1, b, c⟩
 ·obtain ⟨v, e1, rfl, d, l, us, b, c⟩ := r.sl i _ e
  exact ⟨d, l, us, e1, b.same r.fr.sub, c⟩
theorem R.more {F : Fra P0} {Γ : En} {σ : List (Option V)} {G H H' : Hp} (r : R F Γ σ G H) (g : Same H H') : R F Γ σ G H' := by
 refine r.keep ⟨fun b o e => g b o (r.fr.sub b o e), r.fr.g0, fun b o e hb => g b o (r.fr.h0 b o e hb), F.stab' H H' (fun b o e => ?_) r.fr.pn⟩ (Same.refl _) fun b o _ _ hg hH => ⟨hg, g b o hH⟩
 obtain ⟨o', e'⟩ := r.fr.dom e
 rw [g b o' e', e']
variable {E : XK}
end
end L2.VS
namespace L2.VS
open PySem PySem.Spec PyProof.Rows
variable {P0 : Addr → Hp → Prop}
noncomputable def bW2 {S : Type} (W : Fam S) (L w0 w1 : Addr) (c0 c1 : S) : Bx where
 P := fun v fp G H => ∃ f0 f1, v = .ref L ∧ fp = L :: (f0 ++ f1) ∧ H L = some (.lst [.ref w0, .ref w1]) ∧ (W.box w0 c0).P (.ref w0) f0 G H ∧ (W.box w1 c1).P (.ref w1) f1 G H ∧ L ∉ f0 ∧ L ∉ f1 ∧ ∀ b ∈ f0, b ∉ f1
 mono := fun g ⟨f0, f1, a, b, c, d, e, r⟩ => ⟨f0, f1, a, b, c, Bx.mono _ g d, Bx.mono _ g e, r⟩
 loc := fun k ⟨f0, f1, a, b, c, d, e, r⟩ => ⟨f0, f1, a, b, (k L (by rw [b]; simp)).trans c, Bx.loc _ (fun y hy => k y (by rw [b]; simp [hy])) d, Bx.loc _ (fun y hy => k y (by rw [b]; simp [hy])) e, r⟩
 dom := fun ⟨f0, f1, a, b, c, d, e, r⟩ y hy => by
  rw [b] at hy
  rcases List.mem_cons.mp hy with rfl | hy
  ·exact ⟨_, c⟩
  ·rcases List.mem_append.mp hy with hy | hy
   ·exact Bx.dom _ d y hy
   ·exact Bx.dom _ e y hy
 uniq := fun ⟨f0, f1, a, b, c, d, e, r⟩ ⟨f0', f1', a', b', c', d', e', r'⟩ => by
  rw [b, b', Bx.uniq _ d d', Bx.uniq _ e e']
 nt := fun ⟨f0, f1, a, b, c, d, e, r⟩ y hy xs z => by
  rw [b] at hy
  rcases List.mem_cons.mp hy with rfl | hy
  ·rw [c] at z; cases z
  ·rcases List.mem_append.mp hy with hy | hy
   ·obtain ⟨q, h1, h2⟩ := Bx.nt _ d y hy xs z
    exact ⟨q, by rw [b]; simp [h1], h2⟩
   ·obtain ⟨q, h1, h2⟩ := Bx.nt _ e y hy xs z
    exact ⟨q, by rw [b]; simp [h1], h2⟩
 view := none
 vok := fun _ z => nomatch z
noncomputable def mNewW2 (C : Addr) : MO := fun Γ Q => ∀ L w0 w1, Q (.box (bW2 (insF C "kept") L w0 w1 [] [])) Γ
theorem i_newW2 {C : Addr} {Γ : En} {Q : Rv → En → Prop} (h : ∀ L w0 w1, Q (.box (bW2 (insF C "kept") L w0 w1 [] [])) Γ) : mNewW2 C Γ Q := h
end L2.VS
namespace L2.VS
open PySem PySem.Spec PyProof.Rows
variable {P0 : Addr → Hp → Prop} {S : Type}
structure PartAt (W : Fam S) (p : Addr) (B : S → Bx) (v : V) (s : S) (fp f0 : List Addr) (G H : Hp) : Prop where
 sub : ∀ b ∈ f0, b ∈ fp
 own : (W.box p s).P (.ref p) f0 G H
 back : ∀ s' f0' G' H', Same G G' → (W.box p s').P (.ref p) f0' G' H' → (∀ b ∈ fp, b ∉ f0 → H' b = H b ∧ b ∉ f0') → ∃ fp', (B s').P v fp' G' H' ∧ ∀ b ∈ fp', b ∈ f0' ∨ (b ∈ fp ∧ b ∉ f0)
noncomputable def PartOf (W : Fam S) (p : Addr) (B : S → Bx) : Prop := ∀ {s v fp G H}, (B s).P v fp G H → ∃ f0, PartAt W p B v s fp f0 G H
theorem PartOf.self {W : Fam S} {p : Addr} : PartOf W p (W.box p) := fun {s v fp G H} h => by
 have z := W.pin h
 subst z
 exact ⟨fp, fun _ h => h, h, fun s' f' G' H' _ h' _ => ⟨f', h', fun b hb => .inl hb⟩⟩
theorem PartOf.fst {W : Fam S} {L w0 w1 : Addr} {c1 : S} : PartOf W w0 (fun c0 => bW2 W L w0 w1 c0 c1) := fun {s v fp G H} h => by
 obtain ⟨f0, f1, rfl, rfl, c, d, e, n0, n1, ap⟩ := h
 refine ⟨f0, fun b hb => by simp [hb], d, fun s' f' G' H' g h' k => ?_⟩
 have hL := k L (by simp) n0
 have k1 : ∀ b ∈ f1, H' b = H b ∧ b ∉ f' := fun b hb => k b (by simp [hb]) fun z => ap b z hb
 refine ⟨L :: (f' ++ f1), ⟨f', f1, rfl, rfl, hL.1.trans c, h', Bx.loc _ (fun b hb => (k1 b hb).1) (Bx.mono _ g e), hL.2, n1, fun b hb hc => (k1 b hc).2 hb⟩, fun b hb => ?_⟩
 rcases List.mem_cons.mp hb with rfl | hb
 ·exact .inr ⟨by simp, n0⟩
 ·rcases List.mem_append.mp hb with hb | hb
  ·exact .inl hb
  ·exact .inr ⟨by simp [hb], fun z => ap b z hb⟩
theorem PartOf.snd {W : Fam S} {L w0 w1 : Addr} {c0 : S} : PartOf W w1 (fun c1 => bW2 W L w0 w1 c0 c1) := fun {s v fp G H} h => by
 obtain ⟨f0, f1, rfl, rfl, c, d, e, n0, n1, ap⟩ := h
 refine ⟨f1, fun b hb => by simp [hb], e, fun s' f' G' H' g h' k => ?_⟩
 have hL := k L (by simp) n1
 have k1 : ∀ b ∈ f0, H' b = H b ∧ b ∉ f' := fun b hb => k b (by simp [hb]) fun z => ap b hb z
 refine ⟨L :: (f0 ++ f'), ⟨f0, f', rfl, rfl, hL.1.trans c, Bx.loc _ (fun b hb => (k1 b hb).1) (Bx.mono _ g d), h', n0, hL.2, fun b hb hc => (k1 b hb).2 hc⟩, fun b hb => ?_⟩
 rcases List.mem_cons.mp hb with rfl | hb
 ·exact .inr ⟨by simp, n1⟩
 ·rcases List.mem_append.mp hb with hb | hb
  ·exact .inr ⟨by simp [hb], fun z => ap b hb z⟩
  ·exact .inl hb
section
variable {W : Fam S} {B : S → Bx} {i : Nat} {p : Addr} {s1 s' : S} {F : Fra P0} {Γ1 : En} {σ : St} {G1 H1 G' H' : Hp} {v : V} {fp f0 f1 f2 : List Addr}
theorem R.unlend (r1 : R F Γ1 σ G1 H1) (e1 : Γ1[i]? = some (.box (B s1))) (hi : SlF F G1 H1 σ[i]? fp (.box (B s1))) (hv : σ[i]? = some (some v)) (hp : PartAt W p B v s1 fp f0 G1 H1) (hF : ∀ b ∈ f0, F.H0 b = none)
  (f' : Rf (F.less r1.fr f0 hF) G' H') (b2 : (W.box p s').P (.ref p) f2 G' H') (d2 : ∀ b ∈ f2, (F.less r1.fr f0 hF).H0 b = none ∧ G' b = none) :
  Same G1 G' ∧ R F (Γ1.set i (.box (B s'))) σ G' H' ∧ (∀ b, (F.less r1.fr f0 hF).H0 b = none → F.H0 b = none) ∧
  ∀ f1 : List Addr, (∀ b ∈ f1, (F.less r1.fr f0 hF).H0 b = none) → (∀ b ∈ f1, b ∉ f2) → ∀ (j : Nat) (u : Sl) (fq : List Addr), (Γ1.set i (.box (B s')))[j]? = some u → SlF F G' H' σ[j]? fq u → ∀ x ∈ f1, x ∉ fq := by
 obtain ⟨fps, h1, h2⟩ := r1.fps
 have z := SlF.det hi (h1 i _ e1)
 subst z
 obtain ⟨v', ev', pv', nw⟩ := id hi
 rw [hv] at ev'
 cases ev'
 have h0 : ∀ b, (F.less r1.fr f0 hF).H0 b = if b ∈ f0 then none else H1 b := fun _ => rfl
 have inH : ∀ b o, F.H0 b = some o → (if b ∈ f0 then none else H1 b) ≠ none := fun b o z => by
  obtain ⟨o', e'⟩ := r1.fr.dom z
  rw [if_neg (fun hb => by rw [hF b hb] at z; cases z), e']
  exact fun y => nomatch y
 have nF : ∀ b, (F.less r1.fr f0 hF).H0 b = none → F.H0 b = none := fun b z => by
  cases y : F.H0 b with
  | none => rfl
  | some o => exact absurd z (inH b o y)
 have nw0 : ∀ b ∈ f0, G1 b = none := fun b hb => (nw b (hp.sub b hb)).2
 have sG : Same G1 G' := fun b o z => by
  have hH := r1.fr.sub b o z
  have hb : b ∉ f0 := fun hb => by rw [nw0 b hb] at z; cases z
  exact (f'.g0 b o (by rw [h0, if_neg hb]; exact hH)).trans z
 have rf : Rf F G' H' := by
  refine ⟨f'.sub, fun b o z => ?_, fun b o z hb => ?_, f'.pn⟩
  ·obtain ⟨o', e'⟩ := r1.fr.dom z
   have hb : b ∉ f0 := fun hb => by rw [hF b hb] at z; cases z
   exact (f'.g0 b o' (by rw [h0, if_neg hb]; exact e')).trans (r1.fr.g0 b o z)
  ·have hb' : b ∉ f0 := fun hb => by rw [hF b hb] at z; cases z
   exact f'.h0 b o (by rw [h0, if_neg hb']; exact r1.fr.h0 b o z hb) hb
 have stay : ∀ b, F.H0 b = none → G1 b = none → (∃ o, H1 b = some o) → b ∉ f0 → (F.less r1.fr f0 hF).H0 b ≠ none ∧ G' b = none ∧ H' b = H1 b := fun b m1 m2 m3 hb => by
  obtain ⟨o, m3⟩ := m3
  have y : (F.less r1.fr f0 hF).H0 b = some o := by rw [h0, if_neg hb]; exact m3
  refine ⟨by rw [y]; exact (fun z => nomatch z), (f'.g0 b o y).trans m2, ?_⟩
  rw [m3]
  exact f'.h0 b o y (F.pen_ne m1)
 have oth : ∀ (j : Nat) (u : Sl), j ≠ i → Γ1[j]? = some u → ∀ b ∈ fps j, (F.less r1.fr f0 hF).H0 b ≠ none ∧ G' b = none ∧ H' b = H1 b := fun j u hj ej b hb => by
  obtain ⟨m1, m2, m3⟩ := (h1 j u ej).mine hb
  exact stay b m1 m2 m3 fun z => h2 j i u _ ej e1 hj b hb (hp.sub b z)
 have mine : ∀ b ∈ fps i, b ∉ f0 → (F.less r1.fr f0 hF).H0 b ≠ none ∧ G' b = none ∧ H' b = H1 b := fun b hb hn => by
  obtain ⟨m1, m2, m3⟩ := (h1 i _ e1).mine hb
  exact stay b m1 m2 m3 hn
 obtain ⟨fp', pB, hfp⟩ := hp.back s' f2 G' H' sG b2 fun b hb hn => ⟨(mine b hb hn).2.2, fun z => (mine b hb hn).1 (d2 b z).1⟩
 have back : ∀ (j : Nat) (u : Sl), j ≠ i → (Γ1.set i (.box (B s')))[j]? = some u → Γ1[j]? = some u := fun j u hj ej => by rw [List.getElem?_set_ne (Ne.symm hj)] at ej; exact ej
 have hil : i < Γ1.length := (List.getElem?_eq_some_iff.mp e1).1
 have new : R F (Γ1.set i (.box (B s'))) σ G' H' := by
  refine ⟨rf, by rw [List.length_set]; exact r1.len, fun j => if j = i then fp' else fps j, fun j u ej => ?_, fun j l u z ej el hjl b hb hc => ?_⟩
  ·dsimp only
   by_cases hj : j = i
   ·subst hj
    rw [if_pos rfl]
    rw [List.getElem?_set_self hil] at ej
    cases ej
    refine ⟨v, hv, pB, fun x hx => ?_⟩
    rcases hfp x hx with hx | ⟨hx, hn⟩
    ·exact ⟨nF x (d2 x hx).1, (d2 x hx).2⟩
    ·exact ⟨(nw x hx).1, (mine x hx hn).2.1⟩
   ·rw [if_neg hj]
    have ej := back j u hj ej
    exact (h1 j u ej).go sG fun x hx => (oth j u hj ej x hx).2
  ·dsimp only at hb hc
   have cross : ∀ (l : Nat) (z : Sl), l ≠ i → Γ1[l]? = some z → ∀ b ∈ fp', b ∉ fps l := fun l z hl el b hb hc => by
    rcases hfp b hb with hb | ⟨hb, _⟩
    ·exact (oth l z hl el b hc).1 (d2 b hb).1
    ·exact h2 i l _ z e1 el (Ne.symm hl) b hb hc
   by_cases hj : j = i
   ·rw [if_pos hj] at hb
    have hl' : l ≠ i := fun y => hjl (hj.trans y.symm)
    rw [if_neg hl'] at hc
    exact cross l z hl' (back l z hl' el) b hb hc
   ·rw [if_neg hj] at hb
    by_cases hl' : l = i
    ·rw [if_pos hl'] at hc
     exact cross j u hj (back j u hj ej) b hc hb
    ·rw [if_neg hl'] at hc
     exact h2 j l u z (back j u hj ej) (back l z hl' el) hjl b hb hc
 refine ⟨sG, new, nF, fun f1 hf1 ap j u fq ej hu x hx hxf => ?_⟩
 by_cases hj : j = i
 ·subst hj
  rw [List.getElem?_set_self hil] at ej
  cases ej
  obtain ⟨w, ew2, pw2, _⟩ := hu
  rw [hv] at ew2
  cases ew2
  rw [(B s').uniq pw2 pB] at hxf
  rcases hfp x hxf with h | ⟨h, hn⟩
  ·exact ap x hx h
  ·exact (mine x h hn).1 (hf1 x hx)
 ·have ej := back j u hj ej
  have y := SlF.det hu ((h1 j u ej).go sG fun x hx => (oth j u hj ej x hx).2)
  rw [y] at hxf
  exact (oth j u hj ej x hxf).1 (hf1 x hx)
end
noncomputable def mCallW2 (W : Fam S) (n : Nat) (f : Lm S) (i : Nat) (mj : ME) (m : MA) : MO := fun Γ Q => ∃ L w0 w1, (∃ s0 s1, Γ[i]? = some (.box (bW2 W L w0 w1 s0 s1))) ∧ mj Γ fun d Γ0 => (∃ s0 s1, Γ0[i]? = some (.box (bW2 W L w0 w1 s0 s1))) ∧ (d = .int 0 ∨ d = .int 1) ∧ m Γ0 fun as Γ1 => ∃ s0 s1, Γ1[i]? = some (.box (bW2 W L w0 w1 s0 s1)) ∧ as.length + 1 = n ∧
 (d = .int 0 → f w0 s0 as fun rv s' => Q rv (Γ1.set i (.box (bW2 W L w0 w1 s' s1)))) ∧ (d = .int 1 → f w1 s1 as fun rv s' => Q rv (Γ1.set i (.box (bW2 W L w0 w1 s0 s'))))
noncomputable def mOwnIx (i : Nat) (mj : ME) : ME := fun Γ Q => (∃ ds, Γ[i]? = some (.own ds)) ∧ mj Γ fun d Γ1 => ∃ ds, Γ1[i]? = some (.own ds) ∧ oQ (ixD (.list ds) d) fun e => Q e Γ1
noncomputable def mSetIx (i : Nat) (m mj : ME) : MS := fun Γ Q => m Γ fun d Γ1 => (∃ ds, Γ1[i]? = some (.own ds)) ∧ mj Γ1 fun x Γ2 => ∃ ds k j, Γ2[i]? = some (.own ds) ∧ x = .int k ∧ ixN ds.length k = some j ∧ Q (.nx (Γ2.set i (.own (ds.set j d))))
noncomputable def compLn (W : Fam S) (p : Addr) (k : Nat) (g : MG) (t : MT) (e : ME) (Γb : S → En) : List D → List D → S → (List D → S → Prop) → Prop
 | [], acc, s, Q => Q acc s
 | d :: ds, acc, s, Q => g d (Γb s) fun Γ1 => t Γ1 fun b Γ2 => if b = true then e Γ2 fun v Γ3 => ∃ s', Γ3[k]? = some (.box (W.box p s')) ∧ compLn W p k g t e Γb ds (acc ++ [v]) s' Q else ∃ s', Γ2[k]? = some (.box (W.box p s')) ∧ compLn W p k g t e Γb ds acc s' Q
noncomputable def mCompLn (W : Fam S) (i k : Nat) (nt : Nat) (fv : List Nat) (mi : MD) (g : MG) (t : MT) (e : ME) : MO := fun Γ Q => mi Γ fun ds Γ1 => ds.length ≤ 1000 ∧ ∃ p s, Γ1[i]? = some (.box (W.box p s)) ∧ compLn W p k g t e (fun s => (blkE nt fv Γ1).set k (.box (W.box p s))) ds [] s fun out s' => Q (.own out) (Γ1.set i (.box (W.box p s')))
theorem blk_at {nt : Nat} {fv : List Nat} {σ : St} {i k : Nat} {x : Option V} (hk : nt ≤ k) (hf : fv[k - nt]? = some i) (e : σ[i]? = some x) : (blk nt fv σ)[k]? = some x := by
 unfold blk
 rw [List.getElem?_append_right (by simpa using hk), List.length_replicate, List.getElem?_map, hf]
 show some ((σ[i]?).getD none) = some x
 rw [e]
 rfl
theorem set_self {α : Type} {xs : List α} {k : Nat} {x : α} (h : xs[k]? = some x) : xs.set k x = xs := by
 apply List.ext_getElem?
 intro j
 by_cases hj : j = k
 ·subst hj
  rw [List.getElem?_set_self (List.getElem?_eq_some_iff.mp h).1, h]
 ·rw [List.getElem?_set_ne (Ne.symm hj)]
theorem blkE_none {F : Fra P0} {G H : Hp} {nt : Nat} {fv : List Nat} {Γ : En} {j : Nat} {s : Sl} {x : Option (Option V)} {fp : List Addr} (e : (blkE nt fv Γ)[j]? = some s) (h : SlF F G H x fp s) : fp = [] := by
 have hs : ∃ o, s = blkS o := by
  unfold blkE at e
  by_cases hj : j < nt
  ·rw [List.getElem?_append_left (by simpa using hj), List.getElem?_replicate, if_pos hj] at e
   cases e
   exact ⟨none, rfl⟩
  ·rw [List.getElem?_append_right (by simpa using hj), List.getElem?_map] at e
   cases y : fv[j - (List.replicate nt Sl.no).length]? with
   | none => rw [y] at e; cases e
   | some i => rw [y] at e; exact ⟨_, (Option.some.inj e).symm⟩
 obtain ⟨o, rfl⟩ := hs
 unfold blkS at h
 split at h
 ·exact h.1
 ·exact h.1
 ·exact h.1
 ·exact h
theorem vo_compLn {W : Fam S} {i k : Nat} {nt : Nat} {fv : List Nat} {wi : TI} {g : TG} {ti : TT} {te : TE} {mi : MD} {mg : MG} {mt : MT} {me : ME} (hk : nt ≤ k) (hf : fv[k - nt]? = some i) (hi : VI P0 wi mi) (hg : VG P0 (fun i => decide (i < nt)) g mg) (ht : VTT P0 ti mt) (he : VT P0 te me) :
  VO P0 (tComp nt fv wi g ti te) (mCompLn W i k nt fv mi mg mt me) := by
 intro F Γ σ G H Q Qm r m kk
 refine hi F Γ σ G H _ _ r m fun ds Γ1 J G1 H1 m1 s1 r1 wk => ?_
 obtain ⟨hsz, p, s0, e1, m1⟩ := m1
 obtain ⟨fps, h1, h2⟩ := r1.fps
 have hsl := h1 i _ e1
 obtain ⟨v, ev, pv0, nw⟩ := id hsl
 have z := W.pin pv0
 subst z
 have hF : ∀ b ∈ fps i, F.H0 b = none := fun b hb => (nw b hb).1
 have rf0 : Rf (F.less r1.fr (fps i) hF) G1 H1 := ⟨r1.fr.sub, fun _ _ _ => rfl, fun b o z _ => by
  have z : (if b ∈ fps i then none else H1 b) = some o := z
  split at z
  ·cases z
  ·exact z, r1.fr.pn⟩
 have new0 : ∀ b ∈ fps i, (F.less r1.fr (fps i) hF).H0 b = none ∧ G1 b = none := fun b hb => ⟨by show (if b ∈ fps i then none else H1 b) = none; rw [if_pos hb], (nw b hb).2⟩
 refine ⟨fun j n ys H2 => n = ds.length - j ∧ j ≤ ds.length ∧ ys.length ≤ j ∧ ∃ G2 out s2 f2, Rf (F.less r1.fr (fps i) hF) G2 H2 ∧ Same G1 G2 ∧ Dts G2 ys out ∧ (W.box p s2).P (.ref p) f2 G2 H2 ∧ (∀ b ∈ f2, (F.less r1.fr (fps i) hF).H0 b = none ∧ G2 b = none) ∧ compLn W p k mg mt me (fun s => (blkE nt fv Γ1).set k (.box (W.box p s))) (ds.drop j) out s2 fun out s' => Qm (.own out) (Γ1.set i (.box (W.box p s'))),
  ⟨ds.length, by simp, Nat.zero_le _, Nat.zero_le _, G1, [], s0, fps i, rf0, Same.refl _, .nil, pv0, new0, by simpa using m1⟩, ?_⟩
 rintro j n ys H2 ⟨rfl, hle, hy, G2, out, s2, f2, rf2, g2, d2, b2, n2, m2⟩
 have rb0 := blk_R2 (nt := nt) (fv := fv) r1 (show (F.less r1.fr (fps i) hF).pen = F.pen from rfl) rf2 g2
 have rb : R (F.less r1.fr (fps i) hF) ((blkE nt fv Γ1).set k (.box (W.box p s2))) (blk nt fv σ) G2 H2 := by
  have y := rb0.set (i := k) (rv := .box (W.box p s2)) (v := .ref p) ⟨f2, b2, n2⟩ (fun j s fp f ej hs hf b _ hb => by rw [blkE_none ej hs] at hb; cases hb)
  rw [set_self (blk_at hk hf ev)] at y
  exact y
 obtain ⟨go, stop⟩ := wk _ _ _ G2 H2 g2 rb
 have small : ys.length ≤ sizeLine := small_le (by omega)
 have take : ∀ {Γ6 : En} {σ6 : St} {G6 H6 : Hp} {s6 : S}, R (F.less r1.fr (fps i) hF) Γ6 σ6 G6 H6 → Γ6[k]? = some (.box (W.box p s6)) → ∃ f6, (W.box p s6).P (.ref p) f6 G6 H6 ∧ ∀ b ∈ f6, (F.less r1.fr (fps i) hF).H0 b = none ∧ G6 b = none := fun r6 e6 => by
  obtain ⟨u, f6, eu, pu, nu⟩ := r6.sl k _ e6
  have z := W.pin pu
  subst z
  exact ⟨f6, pu, nu⟩
 by_cases hlt : j < ds.length
 ·refine .inr ⟨(go j ds[j] (by simp [hlt])).1, small, fun x H' hyl => ?_⟩
  obtain ⟨G3, s3, r3, d3⟩ := (go j ds[j] (by simp [hlt])).2 x H' hyl
  rw [List.drop_eq_getElem_cons hlt] at m2
  refine hg _ _ _ G3 H' x _ _ _ r3 d3 m2 fun Γ4 σ4 m4 r4 e4 => ⟨fun j hj => e4 j (decide_eq_false (by omega)), ?_⟩
  refine ht _ _ _ G3 H' _ _ r4 m4 fun b Γ5 G5 H5 m5 s5 r5 => ?_
  cases b with
  | true =>
   refine iteT (he _ _ _ G5 H5 _ _ r5 m5 fun d Γ6 v G6 H6 m6 s6 r6 d6 => ?_)
   obtain ⟨t6, e6, m6⟩ := m6
   obtain ⟨f6, p6, n6⟩ := take r6 e6
   refine ⟨ds.length - (j + 1), by omega, rfl, hlt, by rw [List.length_append, List.length_singleton]; omega, G6, out ++ [d], t6, f6, r6.fr, ((g2.trans s3).trans s5).trans s6, ?_, p6, n6, m6⟩
   exact (Dts.same ((s3.trans s5).trans s6) _ _ d2).app (.cons d6 .nil)
  | false =>
   refine iteF ?_
   obtain ⟨t6, e6, m6⟩ := m5
   obtain ⟨f6, p6, n6⟩ := take r5 e6
   exact ⟨ds.length - (j + 1), by omega, rfl, hlt, by omega, G5, out, t6, f6, r5.fr, (g2.trans s3).trans s5, Dts.same (s3.trans s5) _ _ d2, p6, n6, m6⟩
 ·have e : j = ds.length := by omega
  subst e
  rw [List.drop_length] at m2
  refine .inl ⟨stop, small, fun q hq => ?_⟩
  obtain ⟨f0, hp⟩ := PartOf.self (W := W) (p := p) pv0
  have hf0 : f0 = fps i := (W.box p s0).uniq hp.own pv0
  subst hf0
  obtain ⟨sG, new, _, _⟩ := r1.unlend (B := W.box p) e1 hsl ev hp hF rf2 b2 n2
  obtain ⟨a, b, c⟩ := own_new new hq d2
  exact kk _ _ _ _ _ m2 (s1.trans sG) a b c
theorem i_compLn {W : Fam S} {i k nt : Nat} {fv : List Nat} {mi : MD} {mg : MG} {mt : MT} {me : ME} {Γ : En} {Q : Rv → En → Prop} (h : mi Γ fun ds Γ1 => ds.length ≤ 1000 ∧ ∃ p s, Γ1[i]? = some (.box (W.box p s)) ∧ compLn W p k mg mt me (fun s => (blkE nt fv Γ1).set k (.box (W.box p s))) ds [] s fun out s' => Q (.own out) (Γ1.set i (.box (W.box p s')))) : mCompLn W i k nt fv mi mg mt me Γ Q := h
end L2.VS
namespace L2.VS
open PySem PySem.Spec PyProof.Rows
section
variable {S : Type} {W : Fam S} {n i : Nat} {f : Lm S} {m : MA} {Γ Γ1 : En} {p : Addr} {s : S} {as : List Sl}
noncomputable def lnK (W : Fam S) (n : Nat) (f : Lm S) (i : Nat) (p : Addr) (Q : Rv → En → Prop) (as : List Sl) (Γ1 : En) : Prop := ∃ s1, Γ1[i]? = some (.box (W.box p s1)) ∧ as.length + 1 = n ∧ f p s1 as fun rv s' => Q rv (Γ1.set i (.box (W.box p s')))
theorem i_lend {Q : Rv → En → Prop} (h0 : Γ[i]? = some (.box (W.box p s))) (h : m Γ (lnK W n f i p Q)) : mCallL W n f i m Γ Q := ⟨p, ⟨s, h0⟩, h⟩
theorem i_lnK {Q : Rv → En → Prop} (h0 : Γ1[i]? = some (.box (W.box p s))) (hl : as.length + 1 = n) (h : f p s as fun rv s' => Q rv (Γ1.set i (.box (W.box p s')))) : lnK W n f i p Q as Γ1 := ⟨s, h0, hl, h⟩
noncomputable def rtK (W : Fam S) (Q : Fl → Prop) (rv : Rv) (Γ1 : En) : Prop := ∃ p s, Γ1[0]? = some (.box (W.box p s)) ∧ Q (.rt (.box (bKp W rv p s)))
theorem i_retL {mo : MO} {Q : Fl → Prop} (h : mo Γ (rtK W Q)) : mRetK W mo Γ Q := h
theorem i_rtK {rv : Rv} {Q : Fl → Prop} (h0 : Γ1[0]? = some (.box (W.box p s))) (h : Q (.rt (.box (bKp W rv p s)))) : rtK W Q rv Γ1 := ⟨p, s, h0, h⟩
theorem i_endK {rv : Rv} {Q : Rv → S → Prop} (h : Q rv s) : ∃ rv0 s', Rv.box (bKp W rv p s) = .box (bKp W rv0 p s') ∧ Q rv0 s' := ⟨rv, s, rfl, h⟩
noncomputable def w2K (W : Fam S) (n : Nat) (f : Lm S) (i : Nat) (L w0 w1 : Addr) (d : D) (Q : Rv → En → Prop) (as : List Sl) (Γ1 : En) : Prop := ∃ s0 s1, Γ1[i]? = some (.box (bW2 W L w0 w1 s0 s1)) ∧ as.length + 1 = n ∧
 (d = .int 0 → f w0 s0 as fun rv s' => Q rv (Γ1.set i (.box (bW2 W L w0 w1 s' s1)))) ∧ (d = .int 1 → f w1 s1 as fun rv s' => Q rv (Γ1.set i (.box (bW2 W L w0 w1 s0 s'))))
noncomputable def w2J (W : Fam S) (n : Nat) (f : Lm S) (i : Nat) (L w0 w1 : Addr) (m : MA) (Q : Rv → En → Prop) (d : D) (Γ0 : En) : Prop := (∃ s0 s1, Γ0[i]? = some (.box (bW2 W L w0 w1 s0 s1))) ∧ (d = .int 0 ∨ d = .int 1) ∧ m Γ0 (w2K W n f i L w0 w1 d Q)
variable {L w0 w1 : Addr} {s0 s1 : S} {mj : ME}
theorem i_lend2 {Q : Rv → En → Prop} (h0 : Γ[i]? = some (.box (bW2 W L w0 w1 s0 s1))) (h : mj Γ (w2J W n f i L w0 w1 m Q)) : mCallW2 W n f i mj m Γ Q := ⟨L, w0, w1, ⟨s0, s1, h0⟩, h⟩
end
noncomputable def oxK (i : Nat) (Q : D → En → Prop) (d : D) (Γ1 : En) : Prop := ∃ ds, Γ1[i]? = some (.own ds) ∧ oQ (ixD (.list ds) d) fun e => Q e Γ1
theorem i_ownIx' {i : Nat} {mj : ME} {Γ : En} {Q : D → En → Prop} {ds : List D} (h0 : Γ[i]? = some (.own ds)) (h : mj Γ (oxK i Q)) : mOwnIx i mj Γ Q := ⟨⟨ds, h0⟩, h⟩
theorem i_oxK {i : Nat} {Γ : En} {Q : D → En → Prop} {ds : List D} {d : D} (h0 : Γ[i]? = some (.own ds)) (h : oQ (ixD (.list ds) d) fun e => Q e Γ) : oxK i Q d Γ := ⟨ds, h0, h⟩
noncomputable def sxK (i : Nat) (d : D) (Q : Fl → Prop) (x : D) (Γ2 : En) : Prop := ∃ ds k j, Γ2[i]? = some (.own ds) ∧ x = .int k ∧ ixN ds.length k = some j ∧ Q (.nx (Γ2.set i (.own (ds.set j d))))
noncomputable def sxJ (i : Nat) (mj : ME) (Q : Fl → Prop) (d : D) (Γ1 : En) : Prop := (∃ ds, Γ1[i]? = some (.own ds)) ∧ mj Γ1 (sxK i d Q)
theorem i_setIx' {i : Nat} {m mj : ME} {Γ : En} {Q : Fl → Prop} (h : m Γ (sxJ i mj Q)) : mSetIx i m mj Γ Q := h
theorem i_sxJ {i : Nat} {mj : ME} {Q : Fl → Prop} {d : D} {Γ1 : En} {ds : List D} (h0 : Γ1[i]? = some (.own ds)) (h : mj Γ1 (sxK i d Q)) : sxJ i mj Q d Γ1 := ⟨⟨ds, h0⟩, h⟩
theorem compLn_inv {S : Type} {W : Fam S} {p : Addr} {k : Nat} {g : MG} {t : MT} {e : ME} {Γb : S → En} {ds : List D} {s : S} {Q : List D → S → Prop} (I : Nat → List D → S → Prop) (h0 : I 0 [] s)
  (hs : ∀ i d acc s, ds[i]? = some d → I i acc s → ∀ K : List D → S → Prop, (∀ acc' s', I (i + 1) acc' s' → K acc' s') → g d (Γb s) fun Γ1 => t Γ1 fun b Γ2 => if b = true then e Γ2 fun v Γ3 => ∃ s', Γ3[k]? = some (.box (W.box p s')) ∧ K (acc ++ [v]) s' else ∃ s', Γ2[k]? = some (.box (W.box p s')) ∧ K acc s')
  (he : ∀ acc s, I ds.length acc s → Q acc s) : compLn W p k g t e Γb ds [] s Q := by
 have aux : ∀ (es : List D) (j : Nat) (acc : List D) (s : S), (∀ i d, es[i]? = some d → ds[j + i]? = some d) → j + es.length = ds.length → I j acc s → compLn W p k g t e Γb es acc s Q := by
  intro es
  induction es with
  | nil => intro j acc s _ hl hi; exact he acc s (by rw [← hl]; simpa using hi)
  | cons d es ih =>
   intro j acc s hd hl hi
   exact hs j d acc s (by simpa using hd 0 d rfl) hi (fun acc' s' => compLn W p k g t e Γb es acc' s' Q) fun acc' s' h3 => ih (j + 1) acc' s' (fun i e he' => by
    have := hd (i + 1) e (by simpa using he')
    rw [show j + 1 + i = j + (i + 1) by omega]; exact this) (by rw [← hl, List.length_cons]; omega) h3
 exact aux ds 0 [] s (fun i d h => by simpa using h) (by simp) h0
end L2.VS
namespace L2.VS
open PySem PySem.Spec PyProof.Rows
variable {P0 : Addr → Hp → Prop}
noncomputable def pubS : Sl → Sl
 | .own ds => .val (.list ds)
 | .box B => match B.view with
  | some d => .val d
  | none => match B.pv with
   | some b => .pub b
   | none => .no
 | s => s
noncomputable def pubM : List Bool → En → En
 | _, [] => []
 | true :: bs, s :: Γ => s :: pubM bs Γ
 | false :: bs, s :: Γ => pubS s :: pubM bs Γ
 | [], s :: Γ => pubS s :: pubM [] Γ
noncomputable def mixM : List Bool → En → En → En
 | true :: bs, _ :: Γ, t :: Γ1 => t :: mixM bs Γ Γ1
 | false :: bs, s :: Γ, _ :: Γ1 => s :: mixM bs Γ Γ1
 | _, Γ, _ => Γ
noncomputable def Bx.Cut (B : Bx) : Prop := ∀ {v fp G G' H}, SameU G G' → B.P v fp G H → B.P v fp G' H
noncomputable def KeptOk : List Bool → En → Prop
 | true :: bs, .box B :: Γ => B.Cut ∧ KeptOk bs Γ
 | false :: bs, _ :: Γ => KeptOk bs Γ
 | [], _ => True
 | _, _ => False
theorem pubM_at : ∀ {bs : List Bool} {Γ : En} (j : Nat), (pubM bs Γ)[j]? = if bs[j]? = some true then Γ[j]? else (Γ[j]?).map pubS
 | bs, [], j => by
  have : pubM bs [] = [] := by cases bs <;> rfl
  rw [this]; simp
 | true :: bs, s :: Γ, 0 => rfl
 | false :: bs, s :: Γ, 0 => rfl
 | [], s :: Γ, 0 => rfl
 | true :: bs, s :: Γ, j + 1 => pubM_at (bs := bs) (Γ := Γ) j
 | false :: bs, s :: Γ, j + 1 => pubM_at (bs := bs) (Γ := Γ) j
 | [], s :: Γ, j + 1 => pubM_at (bs := []) (Γ := Γ) j
theorem mixM_at : ∀ {bs : List Bool} {Γ Γ1 : En} (j : Nat), Γ1.length = Γ.length → (mixM bs Γ Γ1)[j]? = if bs[j]? = some true then Γ1[j]? else Γ[j]?
 | [], Γ, Γ1, j, _ => by
  have : mixM [] Γ Γ1 = Γ := rfl
  rw [this]; simp
 | b :: bs, [], Γ1, j, h => by
  have h : Γ1 = [] := List.length_eq_zero_iff.mp h
  subst h
  have : mixM (b :: bs) [] [] = [] := by cases b <;> rfl
  rw [this]; simp
 | true :: bs, s :: Γ, [], j, h => absurd h (by simp)
 | false :: bs, s :: Γ, [], j, h => absurd h (by simp)
 | true :: bs, s :: Γ, t :: Γ1, 0, h => rfl
 | false :: bs, s :: Γ, t :: Γ1, 0, h => rfl
 | true :: bs, s :: Γ, t :: Γ1, j + 1, h => mixM_at (bs := bs) (Γ := Γ) (Γ1 := Γ1) j (by simpa using h)
 | false :: bs, s :: Γ, t :: Γ1, j + 1, h => mixM_at (bs := bs) (Γ := Γ) (Γ1 := Γ1) j (by simpa using h)
theorem KeptOk.at : ∀ {bs : List Bool} {Γ : En} {j : Nat}, KeptOk bs Γ → bs[j]? = some true → ∃ B, Γ[j]? = some (.box B) ∧ B.Cut
 | [], _, _, _, e => nomatch e
 | true :: bs, [], _, h, _ => h.elim
 | true :: bs, .box B :: Γ, 0, h, _ => ⟨B, rfl, h.1⟩
 | true :: bs, .box B :: Γ, j + 1, h, e => KeptOk.at (bs := bs) (Γ := Γ) h.2 e
 | false :: bs, s :: Γ, 0, h, e => nomatch e
 | false :: bs, s :: Γ, j + 1, h, e => KeptOk.at (bs := bs) (Γ := Γ) h e
 | false :: bs, [], _, h, _ => h.elim
section
variable {F : Fra P0} {Γ Γ1 : En} {σ : St} {G H G1 H1 : Hp} {bs : List Bool}
noncomputable def OwnM (bs : List Bool) (F : Fra P0) (Γ : En) (σ : St) (G H : Hp) (b : Addr) : Prop := ∃ (i : Nat) (s : Sl) (fp : List Addr), bs[i]? ≠ some true ∧ Γ[i]? = some s ∧ SlF F G H σ[i]? fp s ∧ b ∈ fp
open Classical in
noncomputable def gPubM (bs : List Bool) (F : Fra P0) (Γ : En) (σ : St) (G H : Hp) : Hp := fun b => if OwnM bs F Γ σ G H b then H b else G b
noncomputable def gBackM (bs : List Bool) (F : Fra P0) (Γ : En) (σ : St) (G H G1 : Hp) : Hp := fun b => open Classical in if OwnM bs F Γ σ G H b then none else G1 b
theorem OwnM.all {b : Addr} (h : OwnM bs F Γ σ G H b) : OwnA F Γ σ G H b := let ⟨i, s, fp, _, e⟩ := h; ⟨i, s, fp, e⟩
theorem OwnM.tup {b : Addr} (h : OwnM bs F Γ σ G H b) {xs : List V} (e : H b = some (.tup xs)) : ∃ q vs, V.ref q ∈ xs ∧ OwnM bs F Γ σ G H q ∧ H q = some (.lst vs) := by
 obtain ⟨i, s, fp, en, e0, e1, hb⟩ := h
 cases s with
 | no => rw [show fp = [] from e1] at hb; cases hb
 | val d => rw [e1.1] at hb; cases hb
 | pen => rw [e1.1] at hb; cases hb
 | con q => rw [e1.1] at hb; cases hb
 | pub B => rw [e1.1] at hb; cases hb
 | own ds =>
  obtain ⟨p, vs, f0, _, _, _, f3, _⟩ := e1
  rw [f0] at hb
  rw [List.mem_singleton.mp hb, f3] at e
  cases e
 | box B =>
  have e1' := e1
  obtain ⟨v, _, h2, _⟩ := e1
  obtain ⟨q, q1, q2, vs, q3⟩ := B.nt h2 b hb xs e
  exact ⟨q, vs, q2, ⟨i, _, fp, en, e0, e1', q1⟩, q3⟩
theorem SlF.pubS {s : Sl} {x : Option (Option V)} {fp : List Addr} {G' : Hp} (h : SlF F G H x fp s) (g : Same G G') (k : ∀ b ∈ fp, G' b = H b) : SlF F G' H x [] (pubS s) := by
 cases s with
 | no => rfl
 | val d => obtain ⟨_, v, e1, d1⟩ := h; exact ⟨rfl, v, e1, Dt.same g _ _ d1⟩
 | own ds =>
  obtain ⟨p, vs, e0, e1, e2, e3, e4, e5⟩ := h
  refine ⟨rfl, _, e1, .lst ?_ (Dts.same g _ _ e5)⟩
  rw [k p (by rw [e0]; exact List.mem_singleton.mpr rfl)]
  exact e4
 | pen => exact ⟨rfl, h.2⟩
 | con q => exact ⟨rfl, h.2⟩
 | pub B => obtain ⟨_, v, e1, e2⟩ := h; exact ⟨rfl, v, e1, B.mono g e2⟩
 | box B =>
  obtain ⟨v, e1, e2, e3⟩ := h
  show SlF F G' H x [] (match B.view with | some d => Sl.val d | none => match B.pv with | some b => Sl.pub b | none => Sl.no)
  cases hv : B.view with
  | none =>
   cases hw : B.pv with
   | none => exact rfl
   | some b0 => exact ⟨rfl, v, e1, B.pok e2 hw g k⟩
  | some d => exact ⟨rfl, v, e1, B.vok e2 hv g k⟩
theorem R.pubSome (r : R F Γ σ G H) : Same G (gPubM bs F Γ σ G H) ∧ R F (pubM bs Γ) σ (gPubM bs F Γ σ G H) H := by
 have g : Same G (gPubM bs F Γ σ G H) := fun b o e => by
  unfold gPubM
  by_cases h : OwnM bs F Γ σ G H b
  ·have := h.all.at.2.1
   rw [e] at this; cases this
  ·rw [if_neg h]; exact e
 obtain ⟨fps, h1, h2⟩ := r.fps
 have keep : ∀ i s, bs[i]? = some true → Γ[i]? = some s → ∀ b ∈ fps i, gPubM bs F Γ σ G H b = none := fun i s hb e b hbf => by
  unfold gPubM
  rw [if_neg]
  ·exact ((h1 i s e).mine hbf).2.1
  ·rintro ⟨j, u, fp, hj, ej, hu, hbu⟩
   rw [SlF.det hu (h1 j u ej)] at hbu
   exact h2 i j s u e ej (fun z => hj (by rw [← z]; exact hb)) b hbf hbu
 have get : ∀ (i : Nat) s, (pubM bs Γ)[i]? = some s → ∃ s0, Γ[i]? = some s0 ∧ s = if bs[i]? = some true then s0 else VS.pubS s0 := fun i s e => by
  rw [pubM_at] at e
  by_cases hb : bs[i]? = some true
  ·rw [if_pos hb] at e
   exact ⟨s, e, by rw [if_pos hb]⟩
  ·rw [if_neg hb] at e
   cases e0 : Γ[i]? with
   | none => rw [e0] at e; cases e
   | some s0 => rw [e0] at e; exact ⟨s0, rfl, by rw [if_neg hb]; exact (Option.some.inj e).symm⟩
 refine ⟨g, ⟨fun b o e => ?_, fun b o e => ?_, r.fr.h0, r.fr.pn⟩, ?_, fun i => if bs[i]? = some true then fps i else [], fun i s e => ?_, fun i j s t ei ej hij b hb hc => ?_⟩
 ·unfold gPubM at e
  split at e
  ·exact e
  ·exact r.fr.sub b o e
 ·have h : ¬ OwnM bs F Γ σ G H b := fun h => by
   have := h.all.at.1
   rw [e] at this; cases this
  unfold gPubM
  rw [if_neg h]
  exact r.fr.g0 b o e
 ·rw [← r.len]
  have : ∀ (bs : List Bool) (Γ : En), (pubM bs Γ).length = Γ.length := fun bs Γ => by
   induction Γ generalizing bs with
   | nil => cases bs <;> rfl
   | cons s Γ ih =>
    rcases bs with _ | ⟨b, bs⟩
    ·show (pubM [] Γ).length + 1 = _; rw [ih]; rfl
    ·cases b
     ·show (pubM bs Γ).length + 1 = _; rw [ih]; rfl
     ·show (pubM bs Γ).length + 1 = _; rw [ih]; rfl
  exact this bs Γ
 ·obtain ⟨s0, e0, rfl⟩ := get i s e
  dsimp only
  by_cases hb : bs[i]? = some true
  ·rw [if_pos hb, if_pos hb]
   exact (h1 i s0 e0).go g fun b hbf => ⟨keep i s0 hb e0 b hbf, rfl⟩
  ·rw [if_neg hb, if_neg hb]
   refine (h1 i s0 e0).pubS g fun b hbf => ?_
   unfold gPubM
   rw [if_pos ⟨i, s0, fps i, hb, e0, h1 i s0 e0, hbf⟩]
 ·dsimp only at hb hc
  split at hb
  ·split at hc
   ·obtain ⟨s0, e0, _⟩ := get i s ei
    obtain ⟨t0, f0, _⟩ := get j t ej
    exact h2 i j s0 t0 e0 f0 hij b hb hc
   ·cases hc
  ·cases hb
structure PkEnd (bs : List Bool) (Γ Γ1 : En) : Prop where
 len : Γ1.length = Γ.length
 oth : Γ1 = mixM bs (pubM [] Γ) Γ1
 cut : KeptOk bs Γ1
theorem R.backSome (r : R F Γ σ G H) (s : Same (gPubM bs F Γ σ G H) G1) (r1 : R F Γ1 σ G1 H1) (e : PkEnd bs Γ Γ1) : Same G (gBackM bs F Γ σ G H G1) ∧ R F (mixM bs Γ Γ1) σ (gBackM bs F Γ σ G H G1) H1 ∧ SameU G1 (gBackM bs F Γ σ G H G1) ∧
  (∀ b, OwnM bs F Γ σ G H b → G1 b = H b ∧ H1 b = H b) := by
 have s0 := (r.pubSome (bs := bs)).1
 have own : ∀ b, OwnM bs F Γ σ G H b → G1 b = H b ∧ H1 b = H b := fun b h => by
  obtain ⟨_, _, o, e⟩ := h.all.at
  have q : gPubM bs F Γ σ G H b = H b := by unfold gPubM; rw [if_pos h]
  rw [e] at q ⊢
  exact ⟨s b _ q, r1.fr.sub b _ (s b _ q)⟩
 have g : Same G (gBackM bs F Γ σ G H G1) := fun b o e => by
  have h : ¬ OwnM bs F Γ σ G H b := fun h => by
   have := h.all.at.2.1
   rw [e] at this; cases this
  unfold gBackM
  rw [if_neg h]
  exact s b o (s0 b o e)
 have un : SameU G1 (gBackM bs F Γ σ G H G1) := fun b xs e => by
  by_cases h : OwnM bs F Γ σ G H b
  ·have e' : H b = some (.tup xs) := by rw [← (own b h).1]; exact e
   obtain ⟨q, vs, q1, q2, q3⟩ := h.tup e'
   exact .inr ⟨q, vs, q1, by rw [(own q q2).1]; exact q3⟩
  ·refine .inl ?_
   unfold gBackM
   rw [if_neg h]
   exact e
 obtain ⟨fps, h1, h2⟩ := r.fps
 obtain ⟨fqs, k1, k2⟩ := r1.fps
 have get : ∀ {i : Nat} {u : Sl}, (mixM bs Γ Γ1)[i]? = some u → if bs[i]? = some true then Γ1[i]? = some u else Γ[i]? = some u := fun {i u} ei => by
  rw [mixM_at i e.len] at ei
  by_cases hb : bs[i]? = some true
  ·rw [if_pos hb] at ei ⊢; exact ei
  ·rw [if_neg hb] at ei ⊢; exact ei
 have none1 : ∀ b, G1 b = none → gBackM bs F Γ σ G H G1 b = none := fun b hb => by
  unfold gBackM
  split
  ·rfl
  ·exact hb
 have cross : ∀ {i j : Nat} {u z : Sl}, bs[i]? = some true → bs[j]? ≠ some true → Γ1[i]? = some u → Γ[j]? = some z → ∀ b ∈ fqs i, b ∉ fps j := fun {i j u z} hi hj ei ej b hb hc => by
  have m := (k1 i u ei).mine hb
  have o := own b ⟨j, z, fps j, hj, ej, h1 j z ej, hc⟩
  obtain ⟨_, _, o', e'⟩ := (h1 j z ej).mine hc
  rw [m.2.1, e'] at o
  cases o.1
 refine ⟨g, ⟨⟨fun b o e => ?_, fun b o e => ?_, r1.fr.h0, r1.fr.pn⟩, ?_, fun i => if bs[i]? = some true then fqs i else fps i, fun i u ei => ?_, fun i j u z ei ej hij b hb hc => ?_⟩, un, own⟩
 ·unfold gBackM at e
  split at e
  ·cases e
  ·exact r1.fr.sub b o e
 ·have h : ¬ OwnM bs F Γ σ G H b := fun h => by
   have := h.all.at.1
   rw [e] at this; cases this
  unfold gBackM
  rw [if_neg h]
  exact r1.fr.g0 b o e
 ·have hl : ∀ (bs : List Bool) (Γ Γ1 : En), Γ1.length = Γ.length → (mixM bs Γ Γ1).length = Γ.length := fun bs Γ Γ1 h => by
   induction bs generalizing Γ Γ1 with
   | nil => rfl
   | cons b bs ih =>
    cases Γ with
    | nil => cases Γ1 with
     | nil => cases b <;> rfl
     | cons t Γ1 => cases h
    | cons s Γ => cases Γ1 with
     | nil => cases h
     | cons t Γ1 =>
      have h : Γ1.length = Γ.length := by simpa using h
      cases b
      ·show (mixM bs Γ Γ1).length + 1 = _; rw [ih Γ Γ1 h]; rfl
      ·show (mixM bs Γ Γ1).length + 1 = _; rw [ih Γ Γ1 h]; rfl
  rw [hl bs Γ Γ1 e.len]
  exact r.len
 ·have ei := get ei
  dsimp only
  by_cases hb : bs[i]? = some true
  ·rw [if_pos hb] at ei ⊢
   obtain ⟨B, eB, cB⟩ := e.cut.at hb
   rw [ei] at eB
   cases eB
   obtain ⟨v, ev, pv, nv⟩ := k1 i _ ei
   exact ⟨v, ev, cB un pv, fun x hx => ⟨(nv x hx).1, none1 x (nv x hx).2⟩⟩
  ·rw [if_neg hb] at ei ⊢
   refine (h1 i u ei).go g fun b hbf => ?_
   have ho : OwnM bs F Γ σ G H b := ⟨i, u, fps i, hb, ei, h1 i u ei, hbf⟩
   refine ⟨?_, (own b ho).2⟩
   unfold gBackM
   rw [if_pos ho]
 ·have ei := get ei
  have ej := get ej
  dsimp only at hb hc
  by_cases hi : bs[i]? = some true
  ·rw [if_pos hi] at ei hb
   by_cases hj : bs[j]? = some true
   ·rw [if_pos hj] at ej hc
    exact k2 i j u z ei ej hij b hb hc
   ·rw [if_neg hj] at ej hc
    exact cross hi hj ei ej b hb hc
  ·rw [if_neg hi] at ei hb
   by_cases hj : bs[j]? = some true
   ·rw [if_pos hj] at ej hc
    exact cross hj hi ej ei b hc hb
   ·rw [if_neg hj] at ej hc
    exact h2 i j u z ei ej hij b hb hc
end
noncomputable def mPeekL (bs : List Bool) (m : ME) : ME := fun Γ Q => m (pubM bs Γ) fun d Γ1 => noLst d = true ∧ PkEnd bs Γ Γ1 ∧ Q d (mixM bs Γ Γ1)
noncomputable def mPeekLT (bs : List Bool) (m : MT) : MT := fun Γ Q => m (pubM bs Γ) fun b Γ1 => PkEnd bs Γ Γ1 ∧ Q b (mixM bs Γ Γ1)
noncomputable def mPeekLO (bs : List Bool) (m : MO) : MO := fun Γ Q => m (pubM bs Γ) fun rv Γ1 => noLsts (match rv with | .val d => [d] | .own ds => ds | .box _ => [.list []]) = true ∧ PkEnd bs Γ Γ1 ∧ Q rv (mixM bs Γ Γ1)
theorem vt_peekL {bs : List Bool} {t : TE} {m : ME} (h : VT P0 t m) : VT P0 t (mPeekL bs m) := by
 intro F Γ σ G H Q Qm r hm k
 obtain ⟨s0, r0⟩ := r.pubSome (bs := bs)
 refine h F _ σ _ H _ _ r0 hm fun d Γ1 x G1 H1 m1 s1 r1 d1 => ?_
 obtain ⟨hd, he, q⟩ := m1
 obtain ⟨s2, r2, t2, _⟩ := r.backSome s1 r1 he
 exact k _ _ _ _ _ q s2 r2 (Dt.sameU t2 _ _ hd d1)
theorem cut_pen {p : Addr} {n : Nat} : (penF.box p n).Cut := fun _ h => h
noncomputable def pkK (bs : List Bool) (Γ : En) (Q : D → En → Prop) (d : D) (Γ1 : En) : Prop := noLst d = true ∧ PkEnd bs Γ Γ1 ∧ Q d (mixM bs Γ Γ1)
noncomputable def pkKT (bs : List Bool) (Γ : En) (Q : Bool → En → Prop) (b : Bool) (Γ1 : En) : Prop := PkEnd bs Γ Γ1 ∧ Q b (mixM bs Γ Γ1)
noncomputable def pkKO (bs : List Bool) (Γ : En) (Q : Rv → En → Prop) (rv : Rv) (Γ1 : En) : Prop := noLsts (match rv with | .val d => [d] | .own ds => ds | .box _ => [.list []]) = true ∧ PkEnd bs Γ Γ1 ∧ Q rv (mixM bs Γ Γ1)
section
variable {bs : List Bool} {Γ Γ1 : En}
theorem i_pkL {m : ME} {Q : D → En → Prop} (h : m (pubM bs Γ) (pkK bs Γ Q)) : mPeekL bs m Γ Q := h
theorem i_pkLT {m : MT} {Q : Bool → En → Prop} (h : m (pubM bs Γ) (pkKT bs Γ Q)) : mPeekLT bs m Γ Q := h
theorem i_pkLO {m : MO} {Q : Rv → En → Prop} (h : m (pubM bs Γ) (pkKO bs Γ Q)) : mPeekLO bs m Γ Q := h
theorem i_pkK {Q : D → En → Prop} {d : D} (h1 : noLst d = true) (hl : Γ1.length = Γ.length) (ho : Γ1 = mixM bs (pubM [] Γ) Γ1) (hc : KeptOk bs Γ1) (h : Q d (mixM bs Γ Γ1)) : pkK bs Γ Q d Γ1 := ⟨h1, ⟨hl, ho, hc⟩, h⟩
theorem i_pkKT {Q : Bool → En → Prop} {d : Bool} (hl : Γ1.length = Γ.length) (ho : Γ1 = mixM bs (pubM [] Γ) Γ1) (hc : KeptOk bs Γ1) (h : Q d (mixM bs Γ Γ1)) : pkKT bs Γ Q d Γ1 := ⟨⟨hl, ho, hc⟩, h⟩
end
end L2.VS
namespace L2.VS
open PySem PySem.Spec PyProof.Rows
variable {P0 : Addr → Hp → Prop} {S : Type}
noncomputable def lstF : Fam (List D) where
  box := fun p ds =>
    { P := fun v fp G H => v = .ref p ∧ fp = [p] ∧ noLsts ds = true ∧ ∃ vs, H p = some (.lst vs) ∧ Dts G vs ds
      mono := fun g ⟨a, b, z, vs, c, d⟩ => ⟨a, b, z, vs, c, Dts.same g _ _ d⟩
      loc := fun k ⟨a, b, z, vs, c, d⟩ => ⟨a, b, z, vs, (k p (by rw [b]; exact List.mem_singleton.mpr rfl)).trans c, d⟩
      dom := fun ⟨_, b, _, vs, c, _⟩ x hx => by
        rw [b] at hx
        rw [List.mem_singleton.mp hx]
        exact ⟨_, c⟩
      uniq := fun h g => h.2.1.trans g.2.1.symm
      nt := fun ⟨_, b, _, vs, c, _⟩ x hx xs y => by
        rw [b] at hx
        rw [List.mem_singleton.mp hx, c] at y
        cases y
      view := some (.list ds)
      vok := fun ⟨a, b, _, vs, c, d⟩ z g k => by
        cases z
        subst a
        refine .lst ?_ (Dts.same g _ _ d)
        rw [k p (by rw [b]; exact List.mem_singleton.mpr rfl)]
        exact c }
  pin := fun h => h.1
theorem cut_lst {p : Addr} {ds : List D} : (lstF.box p ds).Cut := fun g ⟨a, b, z, vs, c, d⟩ => ⟨a, b, z, vs, c, Dts.sameU g _ _ z d⟩
noncomputable def mRetKj (W : Fam S) (j : Nat) (m : MO) : MS := fun Γ Q => m Γ fun rv Γ1 => ∃ p s, Γ1[j]? = some (.box (W.box p s)) ∧ Q (.rt (.box (bKp W rv p s)))
noncomputable def mSetIxB (i : Nat) (m mj : ME) : MS := fun Γ Q => m Γ fun d Γ1 => noLst d = true ∧ ∃ p, (∃ ds, Γ1[i]? = some (.box (lstF.box p ds))) ∧ mj Γ1 fun x Γ2 => ∃ ds k j, Γ2[i]? = some (.box (lstF.box p ds)) ∧ x = .int k ∧ ixN ds.length k = some j ∧ Q (.nx (Γ2.set i (.box (lstF.box p (ds.set j d)))))
noncomputable def rtKj (W : Fam S) (j : Nat) (Q : Fl → Prop) (rv : Rv) (Γ1 : En) : Prop := ∃ p s, Γ1[j]? = some (.box (W.box p s)) ∧ Q (.rt (.box (bKp W rv p s)))
theorem i_retLj {W : Fam S} {j : Nat} {mo : MO} {Γ : En} {Q : Fl → Prop} (h : mo Γ (rtKj W j Q)) : mRetKj W j mo Γ Q := h
theorem i_rtKj {W : Fam S} {j : Nat} {p : Addr} {s : S} {rv : Rv} {Γ1 : En} {Q : Fl → Prop} (h0 : Γ1[j]? = some (.box (W.box p s))) (h : Q (.rt (.box (bKp W rv p s)))) : rtKj W j Q rv Γ1 := ⟨p, s, h0, h⟩
noncomputable def sbK (i : Nat) (p : Addr) (d : D) (Q : Fl → Prop) (x : D) (Γ2 : En) : Prop := ∃ ds k j, Γ2[i]? = some (.box (lstF.box p ds)) ∧ x = .int k ∧ ixN ds.length k = some j ∧ Q (.nx (Γ2.set i (.box (lstF.box p (ds.set j d)))))
noncomputable def sbJ (i : Nat) (mj : ME) (Q : Fl → Prop) (d : D) (Γ1 : En) : Prop := noLst d = true ∧ ∃ p, (∃ ds, Γ1[i]? = some (.box (lstF.box p ds))) ∧ mj Γ1 (sbK i p d Q)
theorem i_setIxB {i : Nat} {m mj : ME} {Γ : En} {Q : Fl → Prop} (h : m Γ (sbJ i mj Q)) : mSetIxB i m mj Γ Q := h
theorem i_sbJ {i : Nat} {mj : ME} {Q : Fl → Prop} {d : D} {Γ1 : En} {p : Addr} {ds : List D} (h0 : Γ1[i]? = some (.box (lstF.box p ds))) (hd : noLst d = true) (h : mj Γ1 (sbK i p d Q)) : sbJ i mj Q d Γ1 := ⟨hd, p, ⟨ds, h0⟩, h⟩
end L2.VS
namespace L2.VS
open PySem PySem.Spec PyProof.Rows
variable {P0 : Addr → Hp → Prop} {S : Type}
structure WS where
 d : Addr
 ll : Addr
 lo : Addr
 ls : List D
 now : D
 os : List D
noncomputable def wkFs (s : WS) (vn : V) : List (Str × V) := [("lines", .ref s.ll), ("now", vn), ("listed", .ref s.lo)]
structure WkAt (C w : Addr) (s : WS) (us : List V) (vn : V) (vs : List V) (H : Hp) : Prop where
 i : H w = some (.ins C s.d (wkFs s vn))
 d : H s.d = some (.own w)
 l : H s.ll = some (.lst us)
 o : H s.lo = some (.lst vs)
structure WkDt (s : WS) (us : List V) (vn : V) (vs : List V) (G : Hp) : Prop where
 l : Dts G us s.ls
 n : Dt G vn s.now
 o : Dts G vs s.os
structure WkNl (s : WS) : Prop where
 ne : s.ll ≠ s.lo
 nl : noLsts s.ls = true
 nn : noLst s.now = true
 no : noLsts s.os = true
theorem WkAt.at {C w : Addr} {s : WS} {us vs : List V} {vn : V} {H H' : Hp} (h : WkAt C w s us vn vs H) (k : ∀ b ∈ [w, s.d, s.ll, s.lo], H' b = H b) : WkAt C w s us vn vs H' :=
 ⟨(k w (by simp)).trans h.i, (k s.d (by simp)).trans h.d, (k s.ll (by simp)).trans h.l, (k s.lo (by simp)).trans h.o⟩
theorem WkAt.same {C w : Addr} {s : WS} {us vs : List V} {vn : V} {H H' : Hp} (h : WkAt C w s us vn vs H) (g : Same H H') : WkAt C w s us vn vs H' := ⟨g _ _ h.i, g _ _ h.d, g _ _ h.l, g _ _ h.o⟩
theorem WkDt.same {s : WS} {us vs : List V} {vn : V} {G G' : Hp} (h : WkDt s us vn vs G) (g : Same G G') : WkDt s us vn vs G' := ⟨Dts.same g _ _ h.l, Dt.same g _ _ h.n, Dts.same g _ _ h.o⟩
theorem WkAt.dom {C w : Addr} {s : WS} {us vs : List V} {vn : V} {H : Hp} (h : WkAt C w s us vn vs H) : ∀ y ∈ [w, s.d, s.ll, s.lo], ∃ o, H y = some o ∧ ∀ xs, o ≠ .tup xs := fun y hy => by
 simp only [List.mem_cons, List.not_mem_nil, or_false] at hy
 rcases hy with rfl | rfl | rfl | rfl
 ·exact ⟨_, h.i, fun _ z => nomatch z⟩
 ·exact ⟨_, h.d, fun _ z => nomatch z⟩
 ·exact ⟨_, h.l, fun _ z => nomatch z⟩
 ·exact ⟨_, h.o, fun _ z => nomatch z⟩
noncomputable def pWalk (C w : Addr) (s : WS) : Pb where
 P := fun v G => v = .ref w ∧ ∃ us vn vs, WkAt C w s us vn vs G ∧ WkDt s us vn vs G
 mono := fun g ⟨a, us, vn, vs, b, c⟩ => ⟨a, us, vn, vs, b.same g, c.same g⟩
noncomputable def walkF (C : Addr) : Fam WS where
  box := fun w s =>
    { P := fun v fp G H => v = .ref w ∧ fp = [w, s.d, s.ll, s.lo] ∧ WkNl s ∧ ∃ us vn vs, WkAt C w s us vn vs H ∧ WkDt s us vn vs G
      mono := fun g ⟨a, b, z, us, vn, vs, c, e⟩ => ⟨a, b, z, us, vn, vs, c, e.same g⟩
      loc := fun k ⟨a, b, z, us, vn, vs, c, e⟩ => ⟨a, b, z, us, vn, vs, c.at (fun y hy => k y (by rw [b]; exact hy)), e⟩
      dom := fun ⟨a, b, z, us, vn, vs, c, e⟩ y hy => by
        rw [b] at hy
        obtain ⟨o, ho, _⟩ := c.dom y hy
        exact ⟨o, ho⟩
      uniq := fun h g => h.2.1.trans g.2.1.symm
      nt := fun ⟨a, b, z, us, vn, vs, c, e⟩ y hy xs q => by
        rw [b] at hy
        obtain ⟨o, ho, hn⟩ := c.dom y hy
        rw [ho] at q
        exact absurd (Option.some.inj q) (hn xs)
      view := none
      vok := fun _ z => nomatch z
      pv := some (pWalk C w s)
      pok := fun ⟨a, b, z, us, vn, vs, c, e⟩ y g k => by
        cases y
        exact ⟨a, us, vn, vs, c.at (fun y hy => k y (by rw [b]; exact hy)), e.same g⟩ }
  pin := fun h => h.1
theorem cut_walk {C w : Addr} {s : WS} : ((walkF C).box w s).Cut := fun g ⟨a, b, z, us, vn, vs, c, e⟩ => ⟨a, b, z, us, vn, vs, c, Dts.sameU g _ _ z.nl e.l, Dt.sameU g _ _ z.nn e.n, Dts.sameU g _ _ z.no e.o⟩
noncomputable def InW (C w : Addr) (s : WS) (sl : Sl) : Prop := sl = .box ((walkF C).box w s) ∨ sl = .pub (pWalk C w s)
section
variable {C : Addr} {i : Nat}
theorem R.wk {F : Fra P0} {Γ : En} {σ : St} {G H : Hp} {w : Addr} {s : WS} {sl : Sl} (r : R F Γ σ G H) (e : Γ[i]? = some sl) (h : InW C w s sl) : ∃ us vn vs, σ[i]? = some (some (.ref w)) ∧ WkAt C w s us vn vs H ∧ WkDt s us vn vs G := by
 rcases h with rfl | rfl
 ·obtain ⟨v, fp, e1, ⟨rfl, _, _, us, vn, vs, b, c⟩, _⟩ := r.sl i _ e
  exact ⟨us, vn, vs, e1, b, c⟩
 ·obtain ⟨v, e1, rfl, us, vn, vs, b, c⟩ := r.sl i _ e
  exact ⟨us, vn, vs, e1, b.same r.fr.sub, c⟩
noncomputable def mWkNow (C : Addr) (i : Nat) : ME := fun Γ Q => ∃ w s sl, Γ[i]? = some sl ∧ InW C w s sl ∧ Q s.now Γ
theorem vt_wkNow {K : PySem.W.Frag} (cl : Cls K C) (na : NoAttr K C "now") : VT P0 (tFld K (tVar i) "now") (mWkNow C i) := by
 intro F Γ σ G H Q Qm r hm k
 obtain ⟨w, s, sl, e, h, q⟩ := hm
 obtain ⟨us, vn, vs, ew, a, b⟩ := r.wk e h
 exact ⟨.ref w, ew, w, C, s.d, _, vn, rfl, a.i, cl, na, rfl, k _ _ _ _ _ q (Same.refl _) r b.n⟩
noncomputable def mWkLines (C : Addr) (i : Nat) : ME := fun Γ Q => ∃ w s, Γ[i]? = some (.pub (pWalk C w s)) ∧ Q (.list s.ls) Γ
theorem vt_wkLines {K : PySem.W.Frag} (cl : Cls K C) (na : NoAttr K C "lines") : VT P0 (tFld K (tVar i) "lines") (mWkLines C i) := by
 intro F Γ σ G H Q Qm r hm k
 obtain ⟨w, s, e, q⟩ := hm
 obtain ⟨v, e1, rfl, us, vn, vs, b, c⟩ := r.sl i _ e
 exact ⟨.ref w, e1, w, C, s.d, _, .ref s.ll, rfl, r.fr.sub _ _ b.i, cl, na, rfl, k _ _ _ _ _ q (Same.refl _) r (.lst b.l c.l)⟩
noncomputable def mWkListed (C : Addr) (i : Nat) : ME := fun Γ Q => ∃ w s, Γ[i]? = some (.pub (pWalk C w s)) ∧ Q (.list s.os) Γ
theorem vt_wkListed {K : PySem.W.Frag} (cl : Cls K C) (na : NoAttr K C "listed") : VT P0 (tFld K (tVar i) "listed") (mWkListed C i) := by
 intro F Γ σ G H Q Qm r hm k
 obtain ⟨w, s, e, q⟩ := hm
 obtain ⟨v, e1, rfl, us, vn, vs, b, c⟩ := r.sl i _ e
 exact ⟨.ref w, e1, w, C, s.d, _, .ref s.lo, rfl, r.fr.sub _ _ b.i, cl, na, rfl, k _ _ _ _ _ q (Same.refl _) r (.lst b.o c.o)⟩
theorem PartOf.listed {w : Addr} {s : WS} : PartOf lstF s.lo (fun os => (walkF C).box w { s with os := os }) := fun {os v fp G H} h => by
 obtain ⟨rfl, rfl, z, us, vn, vs, a, b⟩ := h
 have nw : w ≠ s.lo := ne_of a.i a.o (by intro z; cases z)
 have nd : s.d ≠ s.lo := ne_of a.d a.o (by intro z; cases z)
 have in1 : w ∉ [s.lo] := fun y => nw (List.mem_singleton.mp y)
 have in2 : s.d ∉ [s.lo] := fun y => nd (List.mem_singleton.mp y)
 have in3 : s.ll ∉ [s.lo] := fun y => z.ne (List.mem_singleton.mp y)
 refine ⟨[s.lo], fun b hb => by rw [List.mem_singleton.mp hb]; simp, ⟨rfl, rfl, z.no, vs, a.o, b.o⟩, fun os' f' G' H' g h' k => ?_⟩
 obtain ⟨_, rfl, zo, vs', c', d'⟩ := h'
 refine ⟨[w, s.d, s.ll, s.lo], ⟨rfl, rfl, ⟨z.ne, z.nl, z.nn, zo⟩, us, vn, vs', ⟨(k w (by simp) in1).1.trans a.i, (k s.d (by simp) in2).1.trans a.d, (k s.ll (by simp) in3).1.trans a.l, c'⟩, ⟨Dts.same g _ _ b.l, Dt.same g _ _ b.n, d'⟩⟩, fun y hy => ?_⟩
 by_cases hyo : y ∈ [s.lo]
 ·exact .inl hyo
 ·exact .inr ⟨hy, hyo⟩
noncomputable def spInitWk (P0 : Addr → Hp → Prop) (C : Addr) (f : Fm) : Sp := fun vs H Q _ => ∃ (F : Fra P0) (w d : Addr) (l t : V) (ls : List D) (tm : D) (os : List D), vs = [.ref w, l, t] ∧ (∀ b, F.H0 b = if b = w ∨ b = d then none else H b) ∧ Rf F F.G0 H ∧ F.G0 w = none ∧ F.G0 d = none ∧ d ≠ w ∧
 H w = some (.ins C d []) ∧ H d = some (.own w) ∧ Dt F.G0 l (.list ls) ∧ Dt F.G0 t tm ∧ ls.length ≤ 1000 ∧ noLsts ls = true ∧ noLst tm = true ∧ noLsts os = true ∧ f [.val (.list ls), .val tm] (fun rv => rv = .own os) ∧
 ∀ ll lo f2 G' H', Rf F G' H' → ((walkF C).box w ⟨d, ll, lo, ls, tm, os⟩).P (.ref w) f2 G' H' → (∀ b ∈ f2, F.H0 b = none ∧ G' b = none) → Q .non H'
noncomputable def mNewWk (C : Addr) (f : Fm) (ml mt : ME) : MO := fun Γ Q => ml Γ fun l Γ1 => mt Γ1 fun t Γ2 => ∃ ls os, l = .list ls ∧ ls.length ≤ 1000 ∧ noLsts ls = true ∧ noLst t = true ∧ noLsts os = true ∧ f [.val (.list ls), .val t] (fun rv => rv = .own os) ∧ ∀ w d ll lo, Q (.box ((walkF C).box w ⟨d, ll, lo, ls, t, os⟩)) Γ2
theorem vo_newWk {f : Fm} {tl tt : TE} {ml mt : ME} {E : XK} (hl : VT P0 tl ml) (ht : VT P0 tt mt) : VO P0 (tMake C (spInitWk P0 C f) [] E (tCons tl (tCons tt tNil))) (mNewWk C f ml mt) := by
 intro F Γ σ G H Q Qm r hm k
 refine hl F Γ σ G H _ _ r hm fun l Γ1 vl G1 H1 m1 g1 r1 d1 => ?_
 refine ht F Γ1 σ G1 H1 _ _ r1 m1 fun t Γ2 vt G2 H2 m2 g2 r2 d2 => ?_
 obtain ⟨ls, os, rfl, hn, z1, z2, z3, hf, q⟩ := m2
 intro w d hw hd hdw
 have g3 : Same H2 (upd (upd H2 d (.own w)) w (.ins C d [])) := fun b o e => by
  rw [upd_ne (ne_of_none e hw), upd_ne (ne_of_none e hd)]
  exact e
 refine ⟨F.sub r2.fr, w, d, vl, vt, ls, t, os, rfl, fun b => ?_, ⟨fun b o e => g3 b o (r2.fr.sub b o e), fun _ _ _ => rfl, fun b o e _ => g3 b o e, ?_⟩, r2.fr.gfresh hw, r2.fr.gfresh hd, hdw, upd_same, by rw [upd_ne hdw]; exact upd_same, Dt.same g2 _ _ d1, d2, hn, z1, z2, z3, hf, fun ll lo f2 G' H' f' b' n' => ⟨rfl, ?_⟩⟩
 ·show H2 b = _
  by_cases h1 : b = w
  ·rw [if_pos (.inl h1), h1]; exact hw
  ·by_cases h2 : b = d
   ·rw [if_pos (.inr h2), h2]; exact hd
   ·rw [if_neg (fun z => z.elim h1 h2), upd_ne h1, upd_ne h2]
 ·exact (F.sub r2.fr).stab' H2 _ (fun b o e => by rw [g3 b o e, show H2 b = some o from e]) r2.fr.pn
 ·obtain ⟨r3, g4⟩ := r2.after f'
  refine k _ _ _ _ _ (q w d ll lo) ((g1.trans g2).trans g4) r3 ⟨f2, b', fun b hb => ⟨r2.fr.fresh (n' b hb).1, (n' b hb).2⟩⟩ ?_
  refine Apart.newB r2 (fun fp hp b hb => ?_) g4 (fun b o e1 e2 e3 => ⟨(f'.g0 b o e3).trans e2, f'.h0 b o e3 (F.pen_ne e1)⟩)
  have y : fp = f2 := Bx.uniq _ hp b'
  rw [y] at hb
  exact (n' b hb).1
end
end L2.VS
namespace L2
open PySem PySem.Spec PyProof.Rows
variable {X : Cx}
end L2
namespace L2.VS
open PySem PySem.Spec PyProof.Rows
variable {P0 : Addr → Hp → Prop}
noncomputable def mSetSl (i : Nat) (m : ME) (mp mq : MP) : MS := fun Γ Q => m Γ fun d Γ1 => ∃ es, d = .list es ∧ (∃ ds, Γ1[i]? = some (.own ds)) ∧ mp Γ1 fun a Γ2 => mq Γ2 fun c Γ3 => ∃ ds, ∃ k n : Nat, Γ3[i]? = some (.own ds) ∧ a = some (k : Int) ∧ c = some (n : Int) ∧ k ≤ n ∧ n ≤ ds.length ∧ ds.length + es.length ≤ 1000 ∧ Q (.nx (Γ3.set i (.own (ds.take k ++ es ++ ds.drop n))))
noncomputable def slK (i : Nat) (es : List D) (Q : Fl → Prop) (a : Option Int) (c : Option Int) (Γ3 : En) : Prop := ∃ ds, ∃ k n : Nat, Γ3[i]? = some (.own ds) ∧ a = some (k : Int) ∧ c = some (n : Int) ∧ k ≤ n ∧ n ≤ ds.length ∧ ds.length + es.length ≤ 1000 ∧ Q (.nx (Γ3.set i (.own (ds.take k ++ es ++ ds.drop n))))
noncomputable def slJ (i : Nat) (mp mq : MP) (Q : Fl → Prop) (d : D) (Γ1 : En) : Prop := ∃ es, d = .list es ∧ (∃ ds, Γ1[i]? = some (.own ds)) ∧ mp Γ1 fun a Γ2 => mq Γ2 (slK i es Q a)
theorem i_slJ {i : Nat} {mp mq : MP} {Q : Fl → Prop} {es ds : List D} {Γ1 : En} (h0 : Γ1[i]? = some (.own ds)) (h : mp Γ1 fun a Γ2 => mq Γ2 (slK i es Q a)) : slJ i mp mq Q (.list es) Γ1 := ⟨es, rfl, ⟨ds, h0⟩, h⟩
theorem i_setSl {i : Nat} {m : ME} {mp mq : MP} {Γ : En} {Q : Fl → Prop} (h : m Γ (slJ i mp mq Q)) : mSetSl i m mp mq Γ Q := h
end L2.VS
namespace L2.VS
open PySem PySem.Spec PyProof.Rows
variable {P0 : Addr → Hp → Prop} {A : Nat → Bool}
theorem R.lost {F : Fra P0} {Γ : En} {σ : St} {G H : Hp} {p : Addr} {ds : List D} {o : HO} (r : R F Γ σ G H) (h0 : F.H0 p = none) (hg : G p = none) (a : Apart F Γ σ G H (.ref p) (.own ds)) : R F Γ σ G (upd H p o) := by
 refine r.keep (r.fr.priv h0 hg) (Same.refl _) fun b u hb _ eg eh => ⟨eg, ?_⟩
 obtain ⟨i, s, fp, e1, e2, e3⟩ := hb
 have hbp : b ≠ p := fun z => a i s fp e1 e2 p rfl (z ▸ e3)
 rw [upd_ne hbp]
 exact eh
noncomputable def mLost (n : Nat) (m : MO) : MS := fun Γ Q => m Γ fun rv Γ1 => ∃ ds, rv = .own ds ∧ ds.length < n ∧ Q (.nx Γ1)
theorem vs_lostApp {K : PySem.W.Frag} {t : TE} {m : MO} {v : V} (h : VO P0 t m) : VSA P0 A (tDrop (tBM K "list" rAppend t (tCons (tC v) tNil))) (mLost 1000 m) := by
 intro F Γ σ G H E Qm r hm k
 refine h F Γ σ G H _ _ r hm fun rv Γ1 x G1 H1 m1 s1 r1 d1 a1 => ?_
 obtain ⟨ds, rfl, hl, q⟩ := m1
 obtain ⟨p, vs, rfl, e1, e2, e3, e4⟩ := d1
 exact ⟨.inl ⟨rfl, _, SqL.of e3⟩, p, vs, v, rfl, rfl, e3, small1000 (by rw [e4.len]; exact Nat.le_of_lt hl), k _ q _ _ _ s1 (r1.lost e1 e2 a1) fun _ _ => rfl⟩
theorem vs_lostRev {K : PySem.W.Frag} {t : TE} {m : MO} (h : VO P0 t m) : VSA P0 A (tDrop (tBM0 K "list" rReverse t)) (mLost 1000 m) := by
 intro F Γ σ G H E Qm r hm k
 refine h F Γ σ G H _ _ r hm fun rv Γ1 x G1 H1 m1 s1 r1 d1 a1 => ?_
 obtain ⟨ds, rfl, hl, q⟩ := m1
 obtain ⟨p, vs, rfl, e1, e2, e3, e4⟩ := d1
 exact ⟨.inl ⟨rfl, _, SqL.of e3⟩, p, vs, rfl, rfl, e3, k _ q _ _ _ s1 (r1.lost e1 e2 a1) fun _ _ => rfl⟩
noncomputable def loK (n : Nat) (Q : Fl → Prop) (rv : Rv) (Γ1 : En) : Prop := ∃ ds, rv = .own ds ∧ ds.length < n ∧ Q (.nx Γ1)
theorem i_lost {n : Nat} {m : MO} {Γ : En} {Q : Fl → Prop} (h : m Γ (loK n Q)) : mLost n m Γ Q := h
theorem i_loK {n : Nat} {Q : Fl → Prop} {ds : List D} {Γ1 : En} (hl : ds.length < n) (h : Q (.nx Γ1)) : loK n Q (.own ds) Γ1 := ⟨ds, rfl, hl, h⟩
end L2.VS
namespace L2.VS
open PySem PySem.Spec PyProof.Rows
theorem kept_n {Γ : En} : KeptOk [] Γ := by cases Γ <;> exact trivial
theorem kept_f {s : Sl} {bs : List Bool} {Γ : En} (h : KeptOk bs Γ) : KeptOk (false :: bs) (s :: Γ) := h
theorem kept_t {B : Bx} {bs : List Bool} {Γ : En} (c : B.Cut) (h : KeptOk bs Γ) : KeptOk (true :: bs) (.box B :: Γ) := ⟨c, h⟩
theorem i_wkNow {C : Addr} {i : Nat} {Γ : En} {Q : D → En → Prop} {w : Addr} {s : WS} {sl : Sl} (h0 : Γ[i]? = some sl) (hs : InW C w s sl) (h : Q s.now Γ) : mWkNow C i Γ Q := ⟨w, s, sl, h0, hs, h⟩
theorem i_wkLines {C : Addr} {i : Nat} {Γ : En} {Q : D → En → Prop} {w : Addr} {s : WS} (h0 : Γ[i]? = some (.pub (pWalk C w s))) (h : Q (.list s.ls) Γ) : mWkLines C i Γ Q := ⟨w, s, h0, h⟩
theorem i_wkListed {C : Addr} {i : Nat} {Γ : En} {Q : D → En → Prop} {w : Addr} {s : WS} (h0 : Γ[i]? = some (.pub (pWalk C w s))) (h : Q (.list s.os) Γ) : mWkListed C i Γ Q := ⟨w, s, h0, h⟩
noncomputable def nwK (C : Addr) (f : Fm) (Q : Rv → En → Prop) (l t : D) (Γ2 : En) : Prop := ∃ ls os, l = .list ls ∧ ls.length ≤ 1000 ∧ noLsts ls = true ∧ noLst t = true ∧ noLsts os = true ∧ f [.val (.list ls), .val t] (fun rv => rv = .own os) ∧ ∀ w d ll lo, Q (.box ((walkF C).box w ⟨d, ll, lo, ls, t, os⟩)) Γ2
theorem i_newWk {C : Addr} {f : Fm} {ml mt : ME} {Γ : En} {Q : Rv → En → Prop} (h : ml Γ fun l Γ1 => mt Γ1 (nwK C f Q l)) : mNewWk C f ml mt Γ Q := h
end L2.VS
namespace L2
open PySem PySem.Spec PyProof.Rows
section
variable {prog : Program} {w : World} {A : Around} {E : Value → Shared → Prop} {s : Shared}
theorem draw_list {it l : Addr} {items : Array Value} (hne : l ≠ it) : ∀ (n i : Nat) (s : Shared) (Q : List Value → Shared → Prop), s.heap.IsListIter it l i → s.heap.IsList l items → i + n ≤ items.size →
  (∀ h', h'.IsListIter it l (i + n) → Heap.SameBut it s.heap h' → Q ((items.toList.drop i).take n) { s with heap := h' }) → wpAny (model prog w) A (draw (.ref it) n) Q E s
 | 0, i, s, Q, h1, h2, hl, hq => by
  unfold draw
  refine wpAny_pure ?_
  have := hq s.heap h1 ⟨rfl, fun _ _ => rfl⟩
  rw [List.take_zero] at this
  exact this
 | n + 1, i, s, Q, h1, h2, hl, hq => by
  unfold draw
  have hi : i < items.size := by omega
  refine wpAny_bind (wpAny_pyNext_list_item h1 h2 (Array.getElem?_eq_getElem hi) fun h' g1 g2 => ?_)
  refine wpAny_bind (wpAny_holding ?_)
  refine draw_list hne n (i + 1) _ _ g1 (h2.extBut g2.extBut hne) (by omega) fun h2' k1 k2 => wpAny_pure ?_
  have e : (items.toList.drop i).take (n + 1) = items[i] :: (items.toList.drop (i + 1)).take n := by
   rw [List.drop_eq_getElem_cons (by simpa using hi), List.take_succ_cons]
   simp
  have := hq h2' (by rw [show i + (n + 1) = i + 1 + n by omega]; exact k1) ⟨k2.1.trans g2.1, fun b hb => (k2.2 b hb).trans (g2.2 b hb)⟩
  rw [e] at this
  exact this
theorem unpackItems_list {l : Addr} {items : Array Value} {Q : List Value → Shared → Prop} (hh : A.handled = none) (hl : s.heap.IsList l items)
  (hq : ∀ h', Heap.ExtBut s.heap.objs.size s.heap h' → Q items.toList { s with heap := h' }) : wpAny (model prog w) A (unpackItems (.ref l) items.size none) Q E s := by
 unfold unpackItems notIterableAtAll
 refine wpAny_bind (wpAny_bind (wpAny_specialOf hl.typeIs slot_list_iter.lookup ?_))
 simp only [Option.isSome_some, if_true]
 refine wpAny_pure ?_
 simp only [Bool.false_eq_true, if_false]
 refine wpAny_bind (wpAny_holding (wpAny_pyIter_list hl ?_))
 obtain ⟨o, ho, hr⟩ := id hl
 have hne : l ≠ s.heap.objs.size := Nat.ne_of_lt (Heap.lt_size ho)
 have hl1 : (s.heap.push { cls := .type "list_iterator", data := .fields #[.ref l, .int 0 0] }).IsList l items := ⟨o, Heap.get?_push_of_some _ ho, hr⟩
 refine wpAny_bind (wpAny_holding (draw_list (items := items) hne items.size 0 _ _ ⟨_, Heap.get?_push_size _ rfl, rfl, rfl⟩ hl1 (by omega) fun h' k1 k2 => ?_))
 have e : (items.toList.drop 0).take items.size = items.toList := by rw [List.drop_zero, List.take_of_length_le (by simp)]
 rw [e, if_neg (by simp)]
 have hl2 : h'.IsList l items := hl1.extBut k2.extBut hne
 refine wpAny_bind (wpAny_holding (wpAny_pyNext_list_end hh k1 hl2 (by simp) fun h2 g2 => ?_))
 simp only [Option.isSome_none, Bool.false_eq_true, if_false]
 refine wpAny_pure (hq h2 fun b ob hb eb => ?_)
 exact g2 b ob hb (k2.extBut b ob hb (Heap.get?_push_of_some _ eb))
theorem assign_Tuple_list {env : Env} {elts : List Expr} {x1 : Nat} {pos : Pos} {l : Addr} {items : Array Value} {Q : Unit → Shared → Prop} (hh : A.handled = none) (hl : s.heap.IsList l items)
  (hn : (assignEach elts env).length = items.size) (hst : List.findIdx? (fun x => x.fst) (assignEach elts env) = none)
  (hq : ∀ h', Heap.ExtBut s.heap.objs.size s.heap h' → wpAny (model prog w) A (assignInOrder ((assignEach elts env).map (fun x => x.snd)) items.toList) Q E { s with heap := h' }) :
  wpAny (model prog w) A (assign (.Tuple elts x1 pos) env (.ref l)) Q E s := by
 unfold assign
 refine wpAny_bind (wpAny_standAt ?_)
 unfold unpack
 rw [hst, hn]
 exact wpAny_bind (wpAny_holding (unpackItems_list hh hl fun h' hx => hq h' hx))
end
variable {X : Cx} {pos : Pos}
noncomputable def gTupL (K : PySem.W.Frag) (n : Nat) (t : TGs) : TG := fun v σ H Q => ∃ a xs, v = .ref a ∧ SqL K H a xs ∧ xs.length = n ∧ t xs σ H Q
theorem pg_tupL {es : List Expr} {k : Nat} {t : TGs} {n : Nat} (hc : X.calm = true) (h : PGs X es t)
  (hn : (assignEach es X.env).length = n := by rfl) (hst : (assignEach es X.env).findIdx? (·.1) = none := by rfl) : PG X (.Tuple es k pos) (gTupL X.K n t) := by
 intro pins s σ H v u Q I r hw
 obtain ⟨a, xs, e1, hq, hl, hw⟩ := hw
 subst e1
 cases r
 obtain ⟨its, rv, ht, hz⟩ := I.list hq
 obtain ⟨o, m, ho, hcl, _, hda⟩ := ht
 refine assign_Tuple_list (items := its.toArray) (I.ok.hd hc) ⟨o, ho, hcl, m, hda⟩ (by simp [hn, ← hl, rv.length]) hst fun h' hx => ?_
 have I1 : Inv X pins σ H { s with heap := h' } := I.kept (t' := s.toks) fun b o e => hx b o (Nat.ne_of_lt (Heap.lt_size e)) e
 exact h pins _ σ H xs _ Q I1 (by simpa using rv) hw
end L2
namespace L2.VS
open PySem PySem.Spec PyProof.Rows
variable {P0 : Addr → Hp → Prop} {A : Nat → Bool}
noncomputable def gTL (n : Nat) (gs : MGs) : MG := fun d Γ Q => match d with
 | .list ds => ds.length = n ∧ gs ds Γ Q
 | _ => False
theorem vg_tupL {K : PySem.W.Frag} {n : Nat} {gs : TGs} {ms : MGs} (h : VGs P0 A gs ms) : VG P0 A (gTupL K n gs) (gTL n ms) := by
 intro F Γ σ G H v d Q Qm r hd m k
 unfold gTL at m
 split at m
 ·cases hd with
  | @lst p xs _ hp rs => exact ⟨p, xs, rfl, SqL.of (r.fr.sub _ _ hp), by rw [rs.len]; exact m.1, h F Γ σ G H _ _ _ _ r rs m.2 k⟩
 ·exact m.elim
theorem i_gTL {n : Nat} {gs : MGs} {ds : List D} {Γ : En} {Q : En → Prop} (hl : ds.length = n) (h : gs ds Γ Q) : gTL n gs (.list ds) Γ Q := ⟨hl, h⟩
end L2.VS
namespace L2
open PySem PySem.Calls PyProof.Rows PySem.W
section
variable {prog : Program} {w : World} {A : Around} {E : Value → Shared → Prop} {s : Shared}
theorem sorted_ints {l L : Addr} {m : Str → Option Value} {vs : List Value} {ns : List Int} {Q : Value → Shared → Prop} (hL : s.heap.Ns L m) (hl : s.heap.IsList l vs.toArray) (hi : IntsAre vs ns) (h64 : ns.length < 64)
  (q : ∀ (D : Addr) (h' : Heap) (c : Nat) (vs' : List Value) (ns' : List Int), IntsAre vs' ns' → ns'.Perm ns → ns'.Pairwise (· ≤ ·) → s.heap.get? D = none → D ≠ L → (∀ b o, b ≠ L → s.heap.get? b = some o → h'.get? b = some o) → h'.Ns L m → h'.get? D = some (listOf vs'.toArray c) → Q (.ref D) { s with heap := h' }) :
  wpAny (model prog w) A (call (.builtin "sorted") [.ref l]) Q E s := by
 obtain ⟨h₀, z1, z2, z3⟩ := cutHeap s.heap L
 obtain ⟨news, n1, n2⟩ := newsAbove s.heap L
 have F : Fr h₀ L s.heap m := ⟨hL, z2, z1⟩
 have N : News h₀ L s.heap news := fun p hp => ⟨(n1 p hp).1, Nat.ne_of_gt (n1 p hp).2, by
  cases e : h₀.get? p.1 with
  | none => rfl
  | some o => exact absurd (Nat.lt_of_lt_of_le (Heap.lt_size e) z1) (Nat.not_lt.mpr (Nat.le_of_lt (n1 p hp).2))⟩
 have all : ∀ {h' : Heap}, Fr h₀ L h' m → News h₀ L h' news → ∀ b o, b ≠ L → s.heap.get? b = some o → h'.get? b = some o := fun F' N' b o hb e => by
  rcases Nat.lt_trichotomy b L with y | y | y
  ·exact F'.keep b o (z3 b o y e)
  ·exact absurd y hb
  ·exact (N' _ (n2 b o y e)).1
 refine kso_sorted F N hl hi h64 fun D vs' ns' c h' F' N' fresh hi' _ hp hu _ => ?_
 have N2 : News h₀ L h' news := fun p hp => N' p (List.mem_cons_of_mem _ hp)
 have hd := N' _ List.mem_cons_self
 have hD : s.heap.get? D = none := by
  cases e : s.heap.get? D with
  | none => rfl
  | some o =>
   rcases Nat.lt_trichotomy D L with y | y | y
   ·have := z3 D o y e
    rw [hd.2.2] at this; cases this
   ·exact absurd y hd.2.1
   ·exact absurd (fresh _ (n2 D o y e)) (Nat.lt_irrefl _)
 exact q D h' c vs' ns' hi' hp hu hD hd.2.1 (all F' N2) F'.ns hd.1
end
end L2
namespace L2
open PySem PySem.Spec PyProof.Rows
noncomputable def rSortI (K : PySem.W.Frag) : List V → Hp → VK → Prop := fun xs H Q => ∃ l ns, xs = [.ref l] ∧ SqL K H l (ns.map V.int) ∧ ns.length < 64 ∧
 ∀ (ns' : List Int) p, ns'.Perm ns → ns'.Pairwise (· ≤ ·) → H p = none → Q (.ref p) (upd H p (.lst (ns'.map V.int)))
theorem intsAre_v : ∀ {ns : List Int} {its : List Value}, Paired RelV (ns.map V.int) its → IntsAre its ns
 | [], _, .nil => .nil
 | n :: ns, _, .cons r rs => by
  obtain ⟨t, rfl⟩ := r
  exact .cons n t (intsAre_v rs)
theorem intsAre_w {its : List Value} {ns : List Int} (h : IntsAre its ns) : Paired RelV (ns.map V.int) its := by
 induction h with
 | nil => exact .nil
 | cons n t _ ih => exact .cons ⟨t, rfl⟩ ih
section
variable {X : Cx}
theorem call_sortI : CallR X (.builtin "sorted") (rSortI X.K) := by
 intro pins s σ H xs us Q I r h
 obtain ⟨l, ns, rfl, hq, h64, q⟩ := h
 obtain ⟨u, rfl, rx⟩ := vals1 r
 cases rx
 obtain ⟨its, rv, pl, hz⟩ := I.list hq
 obtain ⟨m, hn, _⟩ := id I.loc
 refine sorted_ints hn pl.isList (intsAre_v rv) h64 fun D h' c vs' ns' hi' hp hu hD hDL keep hn' hd => ?_
 have HD : H D = none := by
  cases e : H D with
  | none => rfl
  | some o =>
   obtain ⟨u, hu⟩ := (I.hok D o e).there
   rw [hD] at hu; cases hu
 have noL : ∀ b o, H b = some o → b ≠ X.env.locals := fun b o e z => by rw [z, I.free] at e; cases e
 have neD : ∀ b o, H b = some o → b ≠ D := fun b o e z => by rw [z, HD] at e; cases e
 have hok : HOk X.prog X.w (upd H D (.lst (ns'.map V.int))) h' := fun b o e => by
  by_cases hb : b = D
  ·subst hb
   rw [upd_same] at e
   cases e
   refine ⟨?_, _, c, intsAre_w hi', hd⟩
   rw [List.length_map] at hz ⊢
   rw [hp.length_eq]; exact hz
  ·rw [upd_ne hb] at e
   refine (I.hok b o e).stay (fun b' u hb' hu => keep b' u ?_ hu) (fun b' z => by rw [upd_ne (neD _ _ z)]; exact z) fun b' xs z => by rw [upd_ne (neD _ _ z)]; exact z
   rcases hb' with z | z
   ·rw [z]; exact noL _ _ e
   ·exact noL _ _ z
 have I' : Inv X pins σ (upd H D (.lst (ns'.map V.int))) { s with heap := h', gens := s.gens, drawn := s.drawn, toks := s.toks } := I.step (ch := []) (fun _ z => nomatch z) (fun b o hb _ _ e _ => keep b o hb e) (fun b o hb _ _ e _ => ⟨o.slots, keep b o hb e⟩)
  (fun b o _ e n => by rw [upd_ne (fun z => by rw [z, hD] at e; cases e)]; exact n)
  (fun b o _ e => by
   by_cases hb : b = X.env.locals
   ·subst hb
    obtain ⟨o', _, _, h1, _⟩ := hn'
    exact ⟨o', h1⟩
   ·exact ⟨o, keep b o hb e⟩)
  (fun b xs z => by rw [upd_ne (neD _ _ z)]; exact z) (fun b o u z => by rw [upd_ne (neD _ _ z)]; exact z) (fun b ps z => ⟨#[], by rw [upd_ne (neD _ _ z)]; simpa using z⟩)
  (fun m' hm => ns_one hn hm ▸ hn') hok I.bare
 exact ⟨.ref D, _, I', rfl, q ns' D hp hu HD⟩
end
noncomputable def srtInt (ns : List Int) : List Int := ns.mergeSort fun a b => decide (a ≤ b)
theorem srtInt_perm (ns : List Int) : (srtInt ns).Perm ns := List.mergeSort_perm _ _
theorem srtInt_up (ns : List Int) : (srtInt ns).Pairwise (· ≤ ·) := by
 have h : (srtInt ns).Pairwise fun a b => decide (a ≤ b) = true := List.pairwise_mergeSort (fun a b c h g => by simp only [decide_eq_true_eq] at h g ⊢; omega) (fun a b => by simp only [Bool.or_eq_true, decide_eq_true_eq]; omega) ns
 exact h.imp fun h => of_decide_eq_true h
theorem srtInt_of {xs ns : List Int} (hp : xs.Perm ns) (hu : xs.Pairwise (· ≤ ·)) : srtInt ns = xs :=
 List.Perm.eq_of_pairwise (le := (· ≤ ·)) (fun a b _ _ h g => by omega) (srtInt_up ns) hu ((srtInt_perm ns).trans hp.symm)
end L2
namespace L2.VS
open PySem PySem.Spec PyProof.Rows
variable {P0 : Addr → Hp → Prop} {ta : TE} {ma : ME} {K : PySem.W.Frag}
theorem intsD_back {G : Hp} : ∀ {ns : List Int} {vs : List V}, Dts G vs (ns.map PyData.int) → vs = ns.map V.int := by
 intro k vs h
 induction k generalizing vs with
 | nil => cases h; rfl
 | cons n k ih =>
  cases h with
  | cons a b =>
   cases a
   rw [ih b]; rfl
theorem intsD_dts {G : Hp} : ∀ (ns : List Int), Dts G (ns.map V.int) (ns.map PyData.int)
 | [] => .nil
 | n :: k => .cons (.int n) (intsD_dts k)
noncomputable def mSortI (ma : ME) : MO := fun Γ Q => ma Γ fun x Γ1 => ∃ ns : List Int, x = .list (ns.map PyData.int) ∧ ns.length < 64 ∧ Q (.own ((srtInt ns).map PyData.int)) Γ1
theorem vo_sortI (ha : VT P0 ta ma) : VO P0 (tCB (rSortI K) (tCons ta tNil)) (mSortI ma) := by
 intro F Γ σ G H Q Qm r m k
 refine ha F Γ σ G H _ _ r m fun x Γ1 v G1 H1 m1 s1 r1 d1 => ?_
 obtain ⟨ns, rfl, h64, m1⟩ := m1
 cases d1 with
 | @lst p qs _ hp rs =>
  rw [intsD_back rs] at hp
  refine ⟨p, ns, rfl, SqL.of (r1.fr.sub _ _ hp), h64, fun ns' l hpm hup hl2 => ?_⟩
  obtain ⟨a, b, c⟩ := own_new r1 hl2 (intsD_dts ns')
  rw [srtInt_of hpm hup] at m1
  exact k _ _ _ _ _ m1 s1 a b c
theorem i_sortI {ma : ME} {Γ : En} {Q : Rv → En → Prop} (h : ma Γ fun x Γ1 => ∃ ns : List Int, x = .list (ns.map PyData.int) ∧ ns.length < 64 ∧ Q (.own ((srtInt ns).map PyData.int)) Γ1) : mSortI ma Γ Q := h
end L2.VS
namespace L2.VS
open PySem PySem.Spec PyProof.Rows
variable {P0 : Addr → Hp → Prop} {A : Nat → Bool}
noncomputable def bOwn (ds : List D) : Bx where
 P := fun v fp G H => ∃ p vs, v = .ref p ∧ fp = [p] ∧ H p = some (.lst vs) ∧ Dts G vs ds
 mono := fun g ⟨p, vs, a, b, c, d⟩ => ⟨p, vs, a, b, c, Dts.same g _ _ d⟩
 loc := fun k ⟨p, vs, a, b, c, d⟩ => ⟨p, vs, a, b, (k p (by rw [b]; simp)).trans c, d⟩
 dom := fun ⟨p, vs, a, b, c, d⟩ y hy => by rw [b] at hy; rw [List.mem_singleton.mp hy]; exact ⟨_, c⟩
 uniq := fun ⟨p, vs, a, b, c, d⟩ ⟨p', vs', a', b', c', d'⟩ => by rw [a] at a'; cases a'; rw [b, b']
 nt := fun ⟨p, vs, a, b, c, d⟩ y hy xs z => by rw [b] at hy; rw [List.mem_singleton.mp hy, c] at z; cases z
 view := some (.list ds)
 vok := fun ⟨p, vs, a, b, c, d⟩ y g k => by cases y; subst a; exact .lst ((k p (by rw [b]; simp)).trans c) (Dts.same g _ _ d)
inductive AllP (G H : Hp) : List V → List (List Addr) → List Bx → Prop
 | nil : AllP G H [] [] []
 | cons {v : V} {f : List Addr} {B : Bx} {vs : List V} {fs : List (List Addr)} {Bs : List Bx} : B.P v f G H → AllP G H vs fs Bs → AllP G H (v :: vs) (f :: fs) (B :: Bs)
noncomputable def viewAll : List Bx → Option (List D)
 | [] => some []
 | B :: Bs => B.view.bind fun d => (viewAll Bs).map fun ds => d :: ds
noncomputable def pvAll : List Bx → Option (List Pb)
 | [] => some []
 | B :: Bs => B.pv.bind fun d => (pvAll Bs).map fun ds => d :: ds
section
variable {G G' H H' : Hp} {vs vs' : List V} {fs fs' : List (List Addr)} {Bs Bs' : List Bx}
theorem AllP.go (h : AllP G H vs fs Bs) (g : Same G G') (k : ∀ b ∈ fs.flatten, H' b = H b) : AllP G' H' vs fs Bs := by
 induction h with
 | nil => exact .nil
 | @cons v f B vs fs Bs a t ih => exact .cons (B.mono g (B.loc (fun b hb => k b (by simp [hb])) a)) (ih fun b hb => k b (by rw [List.flatten_cons]; exact List.mem_append_right _ hb))
theorem AllP.cut (h : AllP G H vs fs Bs) (g : SameU G G') (k : ∀ B ∈ Bs, B.Cut) : AllP G' H vs fs Bs := by
 induction h with
 | nil => exact .nil
 | @cons v f B vs fs Bs a t ih => exact .cons (k B List.mem_cons_self g a) (ih fun B hB => k B (List.mem_cons_of_mem _ hB))
theorem AllP.dom (h : AllP G H vs fs Bs) : ∀ b ∈ fs.flatten, ∃ o, H b = some o := by
 induction h with
 | nil => intro b hb; cases hb
 | @cons v f B vs fs Bs a t ih =>
  intro b hb
  rw [List.flatten_cons] at hb
  rcases List.mem_append.mp hb with z | z
  ·exact B.dom a b z
  ·exact ih b z
theorem AllP.uniq (h : AllP G H vs fs Bs) (g : AllP G H vs fs' Bs) : fs = fs' := by
 induction h generalizing fs' with
 | nil => cases g; rfl
 | @cons v f B vs fs Bs a t ih =>
  cases g with
  | cons a' t' => rw [B.uniq a a', ih t']
theorem AllP.app (h : AllP G H vs fs Bs) (g : AllP G H vs' fs' Bs') : AllP G H (vs ++ vs') (fs ++ fs') (Bs ++ Bs') := by
 induction h with
 | nil => exact g
 | cons a t ih => exact .cons a ih
theorem AllP.nt (h : AllP G H vs fs Bs) : ∀ b ∈ fs.flatten, ∀ xs, H b = some (.tup xs) → ∃ q ∈ fs.flatten, V.ref q ∈ xs ∧ ∃ vs, H q = some (.lst vs) := by
 induction h with
 | nil => intro b hb; cases hb
 | @cons v f B vs fs Bs a t ih =>
  intro b hb xs e
  rw [List.flatten_cons] at hb ⊢
  rcases List.mem_append.mp hb with z | z
  ·obtain ⟨q, h1, h2⟩ := B.nt a b z xs e
   exact ⟨q, List.mem_append_left _ h1, h2⟩
  ·obtain ⟨q, h1, h2⟩ := ih b z xs e
   exact ⟨q, List.mem_append_right _ h1, h2⟩
theorem AllP.view (h : AllP G H vs fs Bs) {ds : List D} (e : viewAll Bs = some ds) (g : Same G G') (k : ∀ b ∈ fs.flatten, G' b = H b) : Dts G' vs ds := by
 induction h generalizing ds with
 | nil => cases e; exact .nil
 | @cons v f B vs fs Bs a t ih =>
  unfold viewAll at e
  obtain ⟨d, e1, e⟩ := Option.bind_eq_some_iff.mp e
  obtain ⟨es, e2, rfl⟩ := Option.map_eq_some_iff.mp e
  exact .cons (B.vok a e1 g fun b hb => k b (by simp [hb])) (ih e2 fun b hb => k b (by rw [List.flatten_cons]; exact List.mem_append_right _ hb))
theorem AllP.pvs (h : AllP G H vs fs Bs) {bs : List Pb} (e : pvAll Bs = some bs) (g : Same G G') (k : ∀ b ∈ fs.flatten, G' b = H b) : Paired (fun v (b : Pb) => b.P v G') vs bs := by
 induction h generalizing bs with
 | nil => cases e; exact .nil
 | @cons v f B vs fs Bs a t ih =>
  unfold pvAll at e
  obtain ⟨d, e1, e⟩ := Option.bind_eq_some_iff.mp e
  obtain ⟨es, e2, rfl⟩ := Option.map_eq_some_iff.mp e
  exact .cons (B.pok a e1 g fun b hb => k b (by simp [hb])) (ih e2 fun b hb => k b (by rw [List.flatten_cons]; exact List.mem_append_right _ hb))
end
theorem paired_mono {G G' : Hp} (g : Same G G') {vs : List V} {bs : List Pb} (h : Paired (fun v (b : Pb) => b.P v G) vs bs) : Paired (fun v (b : Pb) => b.P v G') vs bs := by
 induction h with
 | nil => exact .nil
 | @cons v b vs bs a t ih => exact .cons (b.mono g a) ih
theorem paired_get {G : Hp} {vs : List V} {bs : List Pb} (h : Paired (fun v (b : Pb) => b.P v G) vs bs) : ∀ {j : Nat} {v : V}, vs[j]? = some v → ∃ b, bs[j]? = some b ∧ b.P v G := by
 induction h with
 | nil => intro j v e; cases e
 | @cons v b vs bs a t ih =>
  intro j u e
  cases j with
  | zero => cases e; exact ⟨b, rfl, a⟩
  | succ j => exact ih e
noncomputable def pMany (bs : List Pb) : Pb where
 P := fun v G => ∃ l vs, v = .ref l ∧ G l = some (.lst vs) ∧ Paired (fun v (b : Pb) => b.P v G) vs bs
 mono := fun g ⟨l, vs, a, b, c⟩ => ⟨l, vs, a, g _ _ b, paired_mono g c⟩
noncomputable def bMany (Bs : List Bx) : Bx where
 P := fun v fp G H => ∃ l vs fs, v = .ref l ∧ fp = l :: fs.flatten ∧ H l = some (.lst vs) ∧ AllP G H vs fs Bs ∧ l ∉ fs.flatten ∧ fs.Pairwise fun a b => ∀ x ∈ a, x ∉ b
 mono := fun g z => by
  obtain ⟨l, vs, fs, a, b, c, d, e⟩ := z
  exact ⟨l, vs, fs, a, b, c, d.go g fun _ _ => rfl, e⟩
 loc := fun k ⟨l, vs, fs, a, b, c, d, e⟩ => by
  subst b
  exact ⟨l, vs, fs, a, rfl, (k l List.mem_cons_self).trans c, d.go (Same.refl _) fun x hx => k x (List.mem_cons_of_mem _ hx), e⟩
 dom := fun ⟨l, vs, fs, a, b, c, d, e⟩ y hy => by
  subst b
  rcases List.mem_cons.mp hy with z | z
  ·rw [z]; exact ⟨_, c⟩
  ·exact d.dom y z
 uniq := fun ⟨l, vs, fs, a, b, c, d, e⟩ ⟨l', vs', fs', a', b', c', d', e'⟩ => by
  rw [a] at a'; cases a'
  rw [c] at c'; cases c'
  rw [b, b', d.uniq d']
 nt := fun ⟨l, vs, fs, a, b, c, d, e⟩ y hy xs z => by
  subst b
  rcases List.mem_cons.mp hy with w | w
  ·rw [w, c] at z; cases z
  ·obtain ⟨q, h1, h2⟩ := d.nt y w xs z
   exact ⟨q, List.mem_cons_of_mem _ h1, h2⟩
 view := (viewAll Bs).map .list
 vok := fun ⟨l, vs, fs, a, b, c, d, e⟩ y g k => by
  obtain ⟨ds, e1, rfl⟩ := Option.map_eq_some_iff.mp y
  subst a b
  exact .lst ((k l List.mem_cons_self).trans c) (d.view e1 g fun x hx => k x (List.mem_cons_of_mem _ hx))
 pv := (pvAll Bs).map pMany
 pok := fun ⟨l, vs, fs, a, b, c, d, e⟩ y g k => by
  obtain ⟨bs, e1, rfl⟩ := Option.map_eq_some_iff.mp y
  subst a b
  exact ⟨l, vs, rfl, (k l List.mem_cons_self).trans c, d.pvs e1 g fun x hx => k x (List.mem_cons_of_mem _ hx)⟩
theorem cut_many {Bs : List Bx} (h : ∀ B ∈ Bs, B.Cut) : (bMany Bs).Cut := fun g z => by
 obtain ⟨l, vs, fs, a, b, c, d, e⟩ := z
 exact ⟨l, vs, fs, a, b, c, d.cut g h, e⟩
noncomputable def bxOf : Rv → Option Bx
 | .box B => some B
 | .own ds => some (bOwn ds)
 | .val _ => none
theorem bx_of {F : Fra P0} {G H : Hp} {v : V} {rv : Rv} {B : Bx} (e : bxOf rv = some B) (h : RvO F G H v rv) : ∃ fp, B.P v fp G H ∧ ∀ b ∈ fp, F.H0 b = none ∧ G b = none := by
 cases rv with
 | val d => cases e
 | own ds =>
  cases e
  obtain ⟨p, vs, rfl, a, b, c, d⟩ := h
  exact ⟨[p], ⟨p, vs, rfl, rfl, c, d⟩, fun x hx => by rw [List.mem_singleton.mp hx]; exact ⟨a, b⟩⟩
 | box B' => cases e; exact h
noncomputable def compM (g : MG) (t : MT) (e : MO) (Γb : En) : List D → List Bx → (List Bx → Prop) → Prop
 | [], acc, Q => Q acc
 | d :: ds, acc, Q => g d Γb fun Γ1 => t Γ1 fun b Γ2 => if b = true then e Γ2 fun rv _ => ∃ B, bxOf rv = some B ∧ compM g t e Γb ds (acc ++ [B]) Q else compM g t e Γb ds acc Q
noncomputable def mCompM (nt : Nat) (fv : List Nat) (mi : MD) (g : MG) (t : MT) (e : MO) : MO := fun Γ Q => mi Γ fun ds Γ1 => ds.length ≤ 1000 ∧ compM g t e (blkE nt fv Γ1) ds [] fun out => Q (.box (bMany out)) Γ1
theorem flat_app {fs : List (List Addr)} {f : List Addr} : (fs ++ [f]).flatten = fs.flatten ++ f := by simp
theorem vo_compM {nt : Nat} {fv : List Nat} {wi : TI} {g : TG} {ti : TT} {te : TE} {mi : MD} {mg : MG} {mt : MT} {me : MO} (hi : VI P0 wi mi) (hg : VG P0 (fun i => decide (i < nt)) g mg) (ht : VTT P0 ti mt) (he : VO P0 te me) :
  VO P0 (tComp nt fv wi g ti te) (mCompM nt fv mi mg mt me) := by
 intro F Γ σ G H Q Qm r m k
 refine hi F Γ σ G H _ _ r m fun ds Γ1 J G1 H1 m1 s1 r1 wk => ?_
 obtain ⟨hsz, m1⟩ := m1
 refine ⟨fun i n ys H2 => n = ds.length - i ∧ i ≤ ds.length ∧ ys.length ≤ i ∧ ∃ G2 fs out, Rf (F.sub r1.fr) G2 H2 ∧ Same G1 G2 ∧ AllP G2 H2 ys fs out ∧ (fs.Pairwise fun a b => ∀ x ∈ a, x ∉ b) ∧ (∀ b ∈ fs.flatten, H1 b = none ∧ G2 b = none) ∧ compM mg mt me (blkE nt fv Γ1) (ds.drop i) out fun out => Qm (.box (bMany out)) Γ1,
  ⟨ds.length, by simp, Nat.zero_le _, Nat.zero_le _, G1, [], [], F.subRf r1.fr, Same.refl _, .nil, .nil, fun b hb => (nomatch hb), by simpa using m1⟩, ?_⟩
 rintro i n ys H2 ⟨rfl, hle, hy, G2, fs, out, rf2, s2, ok2, nd2, fr2, m2⟩
 have rf3 : Rf ((F.sub r1.fr).sub rf2) G2 H2 := (F.sub r1.fr).subRf rf2
 have rb := blk_R2 (nt := nt) (fv := fv) r1 (show ((F.sub r1.fr).sub rf2).pen = F.pen from rfl) rf3 s2
 obtain ⟨go, stop⟩ := wk ((F.sub r1.fr).sub rf2) _ _ G2 H2 s2 rb
 have small : ys.length ≤ sizeLine := small_le (by omega)
 have hb2 : ∀ b ∈ fs.flatten, ∃ o, H2 b = some o := ok2.dom
 have keep : ∀ {G6 H6 : Hp}, Rf ((F.sub r1.fr).sub rf2) G6 H6 → AllP G6 H6 ys fs out ∧ (∀ b ∈ fs.flatten, H1 b = none ∧ G6 b = none) ∧ Rf (F.sub r1.fr) G6 H6 ∧ Same G2 G6 := fun rf6 => by
  obtain ⟨a, b⟩ := rf2.back rf6
  refine ⟨ok2.go b fun c hc => ?_, fun c hc => ⟨(fr2 c hc).1, ?_⟩, a, b⟩
  ·obtain ⟨o, ho⟩ := hb2 c hc
   rw [ho]
   refine rf6.h0 c o ho fun z => ?_
   obtain ⟨o', e'⟩ := (F.sub r1.fr).pin0 c z
   rw [show (F.sub r1.fr).H0 c = none from (fr2 c hc).1] at e'
   cases e'
  ·obtain ⟨o, ho⟩ := hb2 c hc
   exact (rf6.g0 c o ho).trans (fr2 c hc).2
 by_cases hlt : i < ds.length
 ·refine .inr ⟨(go i ds[i] (by simp [hlt])).1, small, fun x H' hyl => ?_⟩
  obtain ⟨G3, s3, r3, d3⟩ := (go i ds[i] (by simp [hlt])).2 x H' hyl
  rw [List.drop_eq_getElem_cons hlt] at m2
  refine hg _ _ _ G3 H' x _ _ _ r3 d3 m2 fun Γ4 σ4 m4 r4 e4 => ⟨fun j hj => e4 j (decide_eq_false (by omega)), ?_⟩
  refine ht _ _ _ G3 H' _ _ r4 m4 fun b Γ5 G5 H5 m5 s5 r5 => ?_
  cases b with
  | true =>
   refine iteT (he _ _ _ G5 H5 _ _ r5 m5 fun rv Γ6 v G6 H6 m6 s6 r6 d6 _ => ?_)
   obtain ⟨B, eB, m6⟩ := m6
   obtain ⟨f6, p6, fr6⟩ := bx_of eB d6
   obtain ⟨ok6, fr7, rf7, s7⟩ := keep r6.fr
   have new : ∀ c ∈ f6, H2 c = none ∧ G6 c = none := fun c hc => fr6 c hc
   refine ⟨ds.length - (i + 1), by omega, rfl, hlt, by rw [List.length_append, List.length_singleton]; omega, G6, fs ++ [f6], out ++ [B], rf7, s2.trans s7, ok6.app (.cons p6 .nil), ?_, ?_, m6⟩
   ·refine List.pairwise_append.mpr ⟨nd2, List.pairwise_singleton _ _, fun a ha b hb x hx hx' => ?_⟩
    rw [List.mem_singleton.mp hb] at hx'
    obtain ⟨o, ho⟩ := hb2 x (List.mem_flatten.mpr ⟨a, ha, hx⟩)
    rw [(new x hx').1] at ho
    cases ho
   ·intro b hb
    rw [flat_app] at hb
    rcases List.mem_append.mp hb with z | z
    ·exact fr7 b z
    ·exact ⟨rf2.fresh (new b z).1, (new b z).2⟩
  | false =>
   refine iteF ?_
   obtain ⟨ok6, fr7, rf7, s7⟩ := keep r5.fr
   exact ⟨ds.length - (i + 1), by omega, rfl, hlt, by omega, G5, fs, out, rf7, s2.trans s7, ok6, nd2, fr7, m5⟩
 ·have e : i = ds.length := by omega
  subst e
  rw [List.drop_length] at m2
  refine .inl ⟨stop, small, fun p hp => ?_⟩
  obtain ⟨r7, s7⟩ := r1.after rf2
  have ne : ∀ b ∈ fs.flatten, b ≠ p := fun b hb z => by
   obtain ⟨o, ho⟩ := hb2 b hb
   rw [z, hp] at ho; cases ho
  have hP : (bMany out).P (.ref p) (p :: fs.flatten) G2 (upd H2 p (.lst ys)) := ⟨p, ys, fs, rfl, rfl, upd_same, ok2.go (Same.refl _) fun b hb => upd_ne (ne b hb), fun z => ne p z rfl, nd2⟩
  refine k _ _ _ _ _ m2 (s1.trans s2) (r7.newP hp) ⟨_, hP, fun b hb => ?_⟩ (Apart.newB r1 (fun f hf b hb => ?_) s2 fun b o h1 h2 h3 => ⟨(rf2.g0 b _ h3).trans h2, ?_⟩)
  ·rcases List.mem_cons.mp hb with z | z
   ·rw [z]; exact ⟨r7.fr.fresh hp, r7.fr.gfresh hp⟩
   ·exact ⟨r1.fr.fresh (fr2 b z).1, (fr2 b z).2⟩
  ·rw [(bMany out).uniq hf hP] at hb
   rcases List.mem_cons.mp hb with z | z
   ·rw [z]; exact rf2.fresh hp
   ·exact (fr2 b z).1
  ·have h4 := rf2.h0 b _ h3 (F.pen_ne h1)
   rw [upd_ne (ne_of_none h4 hp)]
   exact h4
theorem i_compM {nt : Nat} {fv : List Nat} {mi : MD} {mg : MG} {mt : MT} {me : MO} {Γ : En} {Q : Rv → En → Prop} (h : mi Γ fun ds Γ1 => ds.length ≤ 1000 ∧ compM mg mt me (blkE nt fv Γ1) ds [] fun out => Q (.box (bMany out)) Γ1) : mCompM nt fv mi mg mt me Γ Q := h
noncomputable def mPeekB (m : MO) : MO := fun Γ Q => m (pubA Γ) fun rv Γ1 => (∃ B, rv = .box B ∧ B.Cut) ∧ Γ1 = pubA Γ ∧ Q rv Γ
theorem vo_peekB {t : TE} {m : MO} (h : VO P0 t m) : VO P0 t (mPeekB m) := by
 intro F Γ σ G H Q Qm r hm k
 obtain ⟨s0, r0⟩ := r.pubAll
 refine h F _ σ _ H _ _ r0 hm fun rv Γ1 x G1 H1 m1 s1 r1 d1 a1 => ?_
 obtain ⟨⟨B, rfl, hc⟩, rfl, q⟩ := m1
 obtain ⟨s2, r2, t2⟩ := r.back s1 r1
 obtain ⟨fp, e1, e2⟩ := d1
 have hP := hc t2 e1
 refine k _ _ _ _ _ q s2 r2 ⟨fp, hP, fun b hb => ⟨(e2 b hb).1, ?_⟩⟩ fun i s fq f ei hf hg b hb hq => ?_
 ·unfold gBack
  split
  ·rfl
  ·exact (e2 b hb).2
 ·rw [B.uniq hg hP] at hb
  obtain ⟨fps, f1, f2⟩ := r.fps
  have h0 := f1 i s ei
  have own := (r.backG s1 r1.fr).1
  have h3 : SlF F (gBack F Γ σ G H G1) H1 σ[i]? (fps i) s := h0.go s2 fun b hb => by
   have ho : OwnA F Γ σ G H b := ⟨i, s, fps i, ei, h0, hb⟩
   exact ⟨gBack_own ho, (own b ho).2⟩
  rw [hf.det h3] at hq
  have ho : OwnA F Γ σ G H b := ⟨i, s, fps i, ei, h0, hq⟩
  obtain ⟨_, _, o, e'⟩ := ho.at
  have := (own b ho).1
  rw [(e2 b hb).2, e'] at this; cases this
noncomputable def mSetP (i : Nat) (mo : MO) : MS := fun Γ Q => mo Γ fun rv Γ1 => ∃ B b, rv = .box B ∧ B.pv = some b ∧ Q (.nx (Γ1.set i (.pub b)))
theorem vs_setP {i : Nat} {t : TE} {m : MO} (h : VO P0 t m) (hA : A i = true := by rfl) : VSA P0 A (tAsg t (gName i)) (mSetP i m) := by
 intro F Γ σ G H E Qm r hm k
 refine h F Γ σ G H _ _ r hm fun rv Γ1 x G1 H1 m1 s1 r1 d1 a1 => ?_
 obtain ⟨B, b, rfl, hb, m1⟩ := m1
 obtain ⟨G2, fp, s2, r2, hP, hg⟩ := R.giveP r1 d1 a1
 exact k _ m1 _ _ _ (s1.trans s2) (R.setP r2 (B.pok hP hb (Same.refl _) hg)) (set_off hA)
noncomputable def forZ (a b : Nat) (s : MS) : List (Pb × D) → En → (Fl → Prop) → Prop
 | [], Γ, Q => Q (.nx Γ)
 | z :: zs, Γ, Q => s ((Γ.set a (.pub z.1)).set b (.val z.2)) fun fl => match fl with
  | .nx Γ2 => forZ a b s zs Γ2 Q
  | .ct Γ2 => forZ a b s zs Γ2 Q
  | .bk Γ2 => Q (.nx Γ2)
  | .rt rv => Q (.rt rv)
noncomputable def mForZ (i : Nat) (mb : ME) (a b : Nat) (s : MS) : MS := fun Γ Q => (∃ bs, Γ[i]? = some (.pub (pMany bs))) ∧ mb Γ fun y Γ1 => ∃ bs ds, Γ1[i]? = some (.pub (pMany bs)) ∧ y = .list ds ∧ bs.length = ds.length ∧ forZ a b s (bs.zip ds) Γ1 Q
theorem vs_forZ {K : PySem.W.Frag} {i a b : Nat} {tb : TE} {mb : ME} {t : TS} {s : MS} (hb : VT P0 tb mb) (hs : VSA P0 A t s) (hA : A a = true := by rfl) (hB : A b = true := by rfl) :
  VSA P0 A (tFor (iZip K (tCons (tVar i) (tCons tb tNil))) (gTup K 2 (gCons (gName a) (gCons (gName b) gNil))) t) (mForZ i mb a b s) := by
 intro F Γ σ G H E Qm r m k
 obtain ⟨⟨bs0, e0⟩, m⟩ := m
 obtain ⟨v, ev, l, vs0, rfl, _⟩ := r.sl i _ e0
 refine ⟨.ref l, ev, hb F Γ σ G H _ _ r m fun y Γ1 x G1 H1 m1 s1 r1 d1 => ?_⟩
 obtain ⟨bs, ds, e1, rfl, hlen, m1⟩ := m1
 obtain ⟨v', ev', l', vs, rfl, hl, hvs⟩ := r1.sl i _ e1
 rw [ev] at ev'
 cases ev'
 cases d1 with
 | @lst q ws _ hq hws =>
  have hvl : vs.length = bs.length := hvs.length
  have hwl : ws.length = ds.length := hws.len
  refine ⟨l, q, vs, ws, rfl, SqL.of (r1.fr.sub _ _ hl), SqL.of (r1.fr.sub _ _ hq), fun j n σ2 H2 => n = ds.length - j ∧ j ≤ ds.length ∧ ∃ Γ2 G2, Same G1 G2 ∧ R F Γ2 σ2 G2 H2 ∧ forZ a b s ((bs.zip ds).drop j) Γ2 Qm ∧ ∀ i, A i = false → σ2[i]? = σ[i]?, ⟨ds.length, by simp, Nat.zero_le _, Γ1, G1, Same.refl _, r1, m1, fun _ _ => rfl⟩, ?_⟩
  rintro j n σ2 H2 ⟨rfl, hle, Γ2, G2, s2, r2, m2, e2⟩
  have hl2 : H2 l = some (.lst vs) := r2.fr.sub _ _ (s2 _ _ hl)
  have hq2 : H2 q = some (.lst ws) := r2.fr.sub _ _ (s2 _ _ hq)
  by_cases hlt : j < ds.length
  ·refine .inr ⟨⟨vs, ws, vs[j], ws[j], SqL.of hl2, SqL.of hq2, List.getElem?_eq_getElem _, List.getElem?_eq_getElem _⟩, fun σ' H' => ds.length - (j + 1) < ds.length - j ∧ j + 1 ≤ ds.length ∧ ∃ Γ3 G3, Same G1 G3 ∧ R F Γ3 σ' G3 H' ∧ forZ a b s ((bs.zip ds).drop (j + 1)) Γ3 Qm ∧ ∀ i, A i = false → σ'[i]? = σ[i]?, fun σ' H' h => ⟨_, h.1, rfl, h.2⟩, fun x H' hy => ?_⟩
   obtain ⟨T, x, y, rfl, hT, rfl, hxy⟩ := hy
   obtain ⟨ex, ey⟩ := hxy vs ws (SqL.of hl2) (SqL.of hq2)
   refine ⟨T, [x, y], rfl, SqT.of upd_same, rfl, _, _, rfl, _, _, rfl, rfl, ?_⟩
   obtain ⟨b0, eb, pb⟩ := paired_get hvs ex
   obtain ⟨d0, ed, dd⟩ : ∃ d0, ds[j]? = some d0 ∧ Dt G1 y d0 := by
    obtain ⟨u, hu, du⟩ := Dts.get hws (List.getElem?_eq_getElem hlt)
    rw [ey] at hu
    cases hu
    exact ⟨_, List.getElem?_eq_getElem hlt, du⟩
   have hz : (bs.zip ds)[j]? = some (b0, d0) := by rw [List.getElem?_zip_eq_some]; exact ⟨eb, ed⟩
   obtain ⟨hzl, hz⟩ := List.getElem?_eq_some_iff.mp hz
   rw [List.drop_eq_getElem_cons hzl, hz] at m2
   have r5 := (R.setP (i := a) (r2.newP (o := .tup [x, y]) hT) (b0.mono s2 pb)).setV (i := b) (Dt.same s2 _ _ dd)
   have off : ∀ (σ4 : St), (∀ i, A i = false → σ4[i]? = ((σ2.set a (some x)).set b (some y))[i]?) → ∀ i, A i = false → σ4[i]? = σ[i]? := fun σ4 h i hi => by
    rw [h i hi, set_off hB i hi, set_off hA i hi, e2 i hi]
   refine hs F _ _ G2 _ _ _ r5 m2 fun fl q => ?_
   cases fl with
   | nx Γ5 => exact fun σ5 G5 H5 s5 r5 e5 => ⟨by omega, hlt, Γ5, G5, s2.trans s5, r5, q, off _ e5⟩
   | ct Γ5 => exact fun σ5 G5 H5 s5 r5 e5 => ⟨by omega, hlt, Γ5, G5, s2.trans s5, r5, q, off _ e5⟩
   | bk Γ5 => exact fun σ5 G5 H5 s5 r5 e5 => k _ q _ _ _ ((s1.trans s2).trans s5) r5 (off _ e5)
   | rt rv => exact fun v G5 H5 s5 r5 => k _ q _ _ _ ((s1.trans s2).trans s5) r5
  ·have e : j = ds.length := by omega
   subst e
   rw [List.drop_eq_nil_of_le (by rw [List.length_zip]; omega)] at m2
   exact .inl ⟨⟨vs, ws, SqL.of hl2, SqL.of hq2, .inr (by omega)⟩, k _ m2 _ _ _ (s1.trans s2) r2 e2⟩
end L2.VS
namespace L2.VS
open PySem PySem.Spec PyProof.Rows
variable {P0 : Addr → Hp → Prop} {A : Nat → Bool}
theorem R.dropX {F : Fra P0} {Γ : En} {σ : St} {G H H' : Hp} {i : Nat} {s : Sl} {fp : List Addr} (r : R F Γ σ G H) (e : Γ[i]? = some s) (hP : SlF F G H σ[i]? fp s) (k : ∀ b o, b ∉ fp → H b = some o → H' b = some o) : R F (Γ.set i .no) σ G H' := by
 obtain ⟨fps, h1, h2⟩ := r.fps
 have hi : fps i = fp := (h1 i s e).det hP
 have own : ∀ b ∈ fp, F.H0 b = none ∧ G b = none := fun b hb => by
  obtain ⟨a, c, _⟩ := hP.mine hb
  exact ⟨a, c⟩
 have rf : Rf F G H' := ⟨fun b o z => k b o (fun hb => by rw [(own b hb).2] at z; cases z) (r.fr.sub b o z), r.fr.g0, fun b o z hp => k b o (fun hb => by rw [(own b hb).1] at z; cases z) (r.fr.h0 b o z hp),
  F.stab' H H' (fun b o z => by
   obtain ⟨o', e'⟩ := r.fr.dom z
   rw [k b o' (fun hb => by rw [(own b hb).1] at z; cases z) e', e']) r.fr.pn⟩
 have back : ∀ {m z}, m ≠ i → (Γ.set i .no)[m]? = some z → Γ[m]? = some z := fun {m z} hm e => by rw [List.getElem?_set_ne (Ne.symm hm)] at e; exact e
 refine ⟨rf, by rw [List.length_set]; exact r.len, fun j => if j = i then [] else fps j, fun j u ej => ?_, fun j l u z ej el hjl b hb hc => ?_⟩
 ·dsimp only
  by_cases hj : j = i
  ·subst hj
   rw [List.getElem?_set_self (List.getElem?_eq_some_iff.mp e).1] at ej
   cases ej
   rw [if_pos rfl]
   rfl
  ·rw [if_neg hj]
   have ej := back hj ej
   refine (h1 j u ej).go (Same.refl _) fun b hb => ?_
   obtain ⟨_, m2, o, m3⟩ := (h1 j u ej).mine hb
   exact ⟨m2, (k b o (fun z => h2 j i u s ej e hj b hb (by rw [hi]; exact z)) m3).trans m3.symm⟩
 ·dsimp only at hb hc
  by_cases hj : j = i
  ·rw [if_pos hj] at hb; cases hb
  ·rw [if_neg hj] at hb
   by_cases hl : l = i
   ·rw [if_pos hl] at hc; cases hc
   ·rw [if_neg hl] at hc
    exact h2 j l u z (back hj ej) (back hl el) hjl b hb hc
theorem AllP.owns {G H : Hp} {n : Nat} : ∀ {dss : List (List D)} {vs : List V} {fs : List (List Addr)}, AllP G H vs fs (dss.map bOwn) → (∀ ds ∈ dss, ds.length ≤ n) → (fs.Pairwise fun a b => ∀ x ∈ a, x ∉ b) → ∃ qs : List Addr, vs = qs.map V.ref ∧ fs.flatten = qs ∧ qs.Nodup ∧ ∀ q ∈ qs, ∃ us, H q = some (.lst us) ∧ us.length ≤ n
 | [], _, _, h, _, _ => by
  cases h
  exact ⟨[], rfl, rfl, List.nodup_nil, fun _ h => nomatch h⟩
 | ds :: dss, _, _, h, hn, hd => by
  cases h with
  | @cons v f B vs fs Bs a t =>
   obtain ⟨d1, d2⟩ := List.pairwise_cons.mp hd
   obtain ⟨qs, e1, e2, e3, e4⟩ := AllP.owns t (fun x hx => hn x (List.mem_cons_of_mem _ hx)) d2
   obtain ⟨p, us, rfl, rfl, c, d⟩ := a
   refine ⟨p :: qs, by rw [e1]; rfl, by rw [List.flatten_cons, e2]; rfl, List.nodup_cons.mpr ⟨fun z => ?_, e3⟩, fun q hq => ?_⟩
   ·rw [← e2] at z
    obtain ⟨g, hg, hz⟩ := List.mem_flatten.mp z
    exact d1 g hg p (List.mem_singleton.mpr rfl) hz
   ·rcases List.mem_cons.mp hq with z | z
    ·rw [z]; exact ⟨us, c, by rw [d.len]; exact hn ds List.mem_cons_self⟩
    ·exact e4 q z
noncomputable def LaysT (t : TE) : Prop := ∀ σ H Q, (∀ v H', Same H H' → Q v H') → t σ H Q
theorem lays_c {v : V} : LaysT (tC v) := fun _ H _ k => k v H (Same.refl _)
theorem lays_tup2 {t u : TE} (h : LaysT t) (g : LaysT u) : LaysT (tTup (tCons t (tCons u tNil))) := fun σ H Q k =>
 h σ H _ fun v H1 s1 => g σ H1 _ fun w H2 s2 => ⟨small_b rfl, fun p hp => k _ _ ((s1.trans s2).trans (same_new hp _))⟩
noncomputable def mJunk (i a : Nat) : MS := fun Γ Q => i ≠ a ∧ a < Γ.length ∧ ∃ dss : List (List D), Γ[i]? = some (.box (bMany (dss.map bOwn))) ∧ (∀ ds ∈ dss, ds.length ≤ 900) ∧ Q (.nx ((Γ.set i .no).set a .no))
theorem vs_junk {K : PySem.W.Frag} {i a : Nat} {t u : TE} (ht : LaysT t) (hu : LaysT u) (hA : A a = true := by rfl) :
  VSA P0 A (tFor (iList K (tVar i)) (gName a) (tSeq (tDrop (tBM K "list" rInsert (tVar a) (tCons (tC (.int 0)) (tCons t tNil)))) (tDrop (tBM K "list" rAppend (tVar a) (tCons u tNil))))) (mJunk i a) := by
 intro F Γ σ G H E Qm r hm k
 obtain ⟨hia, hal, dss, e, h9, hm⟩ := hm
 have r0 := r
 obtain ⟨fps, f1, _⟩ := r.fps
 have hsl := f1 i _ e
 obtain ⟨v, ev, ⟨l, vs, fs, rfl, hfp, hl, hall, hnl, hdis⟩, _⟩ := id hsl
 obtain ⟨qs, rfl, efs, hnd, hq⟩ := hall.owns h9 hdis
 rw [efs] at hfp hnl
 have has : a < σ.length := by rw [← r.len]; exact hal
 have nq : ∀ {j : Nat} {b : Addr}, b ∈ qs.take j → b ∈ qs := fun h => List.mem_of_mem_take h
 refine ⟨_, ev, l, rfl, ⟨_, SqL.of hl⟩, fun j n σ2 H2 => n = qs.length - j ∧ j ≤ qs.length ∧ (∀ b o, b ∉ qs.take j → H b = some o → H2 b = some o) ∧ ∃ x, σ2 = σ.set a x, ⟨qs.length, by omega, Nat.zero_le _, fun b o _ h => h, σ[a], by rw [List.set_getElem_self]⟩, ?_⟩
 rintro j n σ2 H2 ⟨rfl, hj, hk, x0, rfl⟩
 have hl2 : H2 l = some (.lst (qs.map V.ref)) := hk l _ (fun z => hnl (nq z)) hl
 by_cases hlt : j < qs.length
 ·refine .inr ⟨⟨_, .ref qs[j], SqL.of hl2, by rw [List.getElem?_map, List.getElem?_eq_getElem hlt]; rfl⟩, fun σ' H' => (∀ b o, b ∉ qs.take (j + 1) → H b = some o → H' b = some o) ∧ ∃ x, σ' = σ.set a x, fun σ' H' h => ⟨qs.length - (j + 1), by omega, rfl, hlt, h⟩, fun x H' hy => ?_⟩
  obtain ⟨rfl, hy⟩ := hy
  have ex := hy _ (SqL.of hl2)
  rw [List.getElem?_map, List.getElem?_eq_getElem hlt] at ex
  cases ex
  obtain ⟨us, hus, hul⟩ := hq qs[j] (List.getElem_mem hlt)
  have hnt : qs[j] ∉ qs.take j := fun z => by
   obtain ⟨m, hm1, em⟩ := List.getElem_of_mem z
   rw [List.length_take] at hm1
   rw [List.getElem_take] at em
   have := (List.getElem_inj (h₀ := by omega) (h₁ := hlt) hnd).mp em
   omega
  have h2 : H' qs[j] = some (.lst us) := hk _ _ hnt hus
  have get : (((σ.set a x0).set a (some (.ref qs[j]))))[a]? = some (some (.ref qs[j])) := List.getElem?_set_self (by rw [List.length_set]; exact has)
  refine ⟨.ref qs[j], get, .inl ⟨rfl, _, SqL.of h2⟩, ?_⟩
  refine ht _ _ _ fun w H3 s3 => ⟨qs[j], us, 0, w, rfl, rfl, s3 _ _ h2, by decide, by decide, small1000 (by omega), ?_⟩
  refine ⟨.ref qs[j], get, .inl ⟨rfl, _, SqL.of upd_same⟩, ?_⟩
  refine hu _ _ _ fun w' H4 s4 => ⟨qs[j], _, w', rfl, rfl, s4 _ _ upd_same, small1000 (by rw [insL_len]; omega), fun b o hb hbo => ?_, _, by rw [List.set_set]⟩
  have hbq : b ≠ qs[j] := fun z => hb (by
   rw [z, List.take_succ_eq_append_getElem hlt]
   exact List.mem_append_right _ (List.mem_singleton.mpr rfl))
  have hb' : b ∉ qs.take j := fun z => hb (by
   rw [List.take_succ_eq_append_getElem hlt]
   exact List.mem_append_left _ z)
  rw [upd_ne hbq]
  refine s4 b o ?_
  rw [upd_ne hbq]
  exact s3 b o (hk b o hb' hbo)
 ·refine .inl ⟨⟨_, SqL.of hl2, by rw [List.length_map]; omega⟩, ?_⟩
  have r1 := (r.dropX e hsl (H' := H2) fun b o hb hbo => hk b o (fun z => hb (by rw [hfp]; exact List.mem_cons_of_mem _ (nq z))) hbo).drop a
  exact k _ hm _ _ _ (Same.refl _) (r1.junk (.inl (List.getElem?_set_self (by rw [List.length_set]; exact hal))) x0) (set_off hA)
theorem i_junk {i a : Nat} {Γ : En} {Q : Fl → Prop} {dss : List (List D)} (h0 : i ≠ a ∧ a < Γ.length) (h1 : Γ[i]? = some (.box (bMany (dss.map bOwn)))) (h2 : ∀ ds ∈ dss, ds.length ≤ 900) (h : Q (.nx ((Γ.set i .no).set a .no))) : mJunk i a Γ Q := ⟨h0.1, h0.2, dss, h1, h2, h⟩
end L2.VS
namespace L2.VS
open PySem PySem.Spec PyProof.Rows
variable {P0 : Addr → Hp → Prop} {A : Nat → Bool}
theorem call_spR {F : Fra P0} {Γ1 : En} {σ : St} {G1 H1 : Hp} {n : Nat} {f : Fm} {as : List Sl} {rs : List V} {Q : VK} {E : XK} {Qm : Rv → En → Prop} (r1 : R F Γ1 σ G1 H1) (d1 : Paired (ArgOk F G1) rs as) (hl : as.length = n) (hf : f as fun rv => Qm rv Γ1)
  (k : ∀ rv r G' H', Qm rv Γ1 → Same G1 G' → R F Γ1 σ G' H' → RvO F G' H' r rv → Apart F Γ1 σ G' H' r rv → Q r H') : spM P0 n f (rs ++ []) H1 Q E := by
 refine ⟨F.sub r1.fr, as, fun rv => Qm rv Γ1, rfl, F.subRf r1.fr, ?_, hl, hf, fun rv v G2 H2 q f2 v2 => ?_⟩
 ·rw [List.append_nil]
  exact Paired.imp' (fun a s h => by cases s <;> exact h) d1
 ·obtain ⟨r2, s2⟩ := r1.after f2
  refine k _ _ _ _ q s2 r2 ?_ ?_
  ·cases rv with
   | val d => exact v2
   | own ds =>
    obtain ⟨p, vs, e, e1, e2, e3, e4⟩ := v2
    exact ⟨p, vs, e, r1.fr.fresh e1, e2, e3, e4⟩
   | box B =>
    obtain ⟨fp, e1, e2⟩ := v2
    exact ⟨fp, e1, fun b hb => ⟨r1.fr.fresh (e2 b hb).1, (e2 b hb).2⟩⟩
  ·have kp : ∀ b o, F.H0 b = none → G1 b = none → H1 b = some o → G2 b = none ∧ H2 b = some o := fun b o h1 h2 h3 => ⟨(f2.g0 b _ h3).trans h2, f2.h0 b _ h3 (F.pen_ne h1)⟩
   cases rv with
   | val d => trivial
   | own ds =>
    obtain ⟨p, vs, rfl, e1, e2, e3, e4⟩ := v2
    exact Apart.new r1 e1 s2 kp
   | box B =>
    obtain ⟨fp, e1, e2⟩ := v2
    exact Apart.newB r1 (fun f hf b hb => by rw [B.uniq hf e1] at hb; exact (e2 b hb).1) s2 kp
noncomputable def aPb (i : Nat) (mr : MA) : MA := fun Γ Q => ∃ B, Γ[i]? = some (.pub B) ∧ mr Γ fun xs Γ2 => Q (.pub B :: xs) Γ2
theorem va_pb {i : Nat} {tr : TA} {mr : MA} (hr : VA P0 tr mr) : VA P0 (tCons (tVar i) tr) (aPb i mr) := by
 intro F Γ σ G H Q Qm r hm k
 obtain ⟨B, e, hm⟩ := hm
 obtain ⟨v, ev, pv⟩ := r.sl i _ e
 exact ⟨v, ev, hr F Γ σ G H _ _ r hm fun as Γ1 rs G1 H1 m1 g1 r1 d1 => k _ _ _ _ _ m1 g1 r1 (.cons (B.mono g1 pv) d1)⟩
noncomputable def InsOf (C : Addr) (m : Str) (B : Pb) : Prop := ∀ {v : V} {G : Hp}, B.P v G → ∃ a dx fs, v = .ref a ∧ G a = some (.ins C dx fs) ∧ fs.lookup m = none
noncomputable def mMethR (C : Addr) (m : Str) (n : Nat) (f : Fm) (i : Nat) (ma : MA) : MO := fun Γ Q => ∃ B, Γ[i]? = some (.pub B) ∧ InsOf C m B ∧ ma Γ fun as Γ1 => as.length + 1 = n ∧ f (.pub B :: as) fun rv => Q rv Γ1
theorem vo_methR {C : Addr} {m : Str} {n i : Nat} {f : Fm} {t : TA} {ma : MA} {E : XK} (h : VA P0 t ma) : VO P0 (tMeth C m (spM P0 n f) [] E (tVar i) t) (mMethR C m n f i ma) := by
 intro F Γ σ G H Q Qm r hm k
 obtain ⟨B, e, hB, hm⟩ := hm
 obtain ⟨v, ev, pv⟩ := r.sl i _ e
 obtain ⟨a, dx, fs, rfl, ha, hl⟩ := hB pv
 refine ⟨.ref a, ev, a, dx, fs, rfl, r.fr.sub _ _ ha, hl, h F Γ σ G H _ _ r hm fun as Γ1 rs G1 H1 m1 g1 r1 d1 => ?_⟩
 exact call_spR (E := E) (rs := .ref a :: rs) (as := .pub B :: as) r1 (.cons (show ArgOk F G1 (.ref a) (.pub B) from B.mono g1 pv) d1) m1.1 m1.2 fun rv r' G' H' q g' => k rv Γ1 r' G' H' q (g1.trans g')
theorem ins_walk {C w : Addr} {s : WS} {m : Str} (hm : ∀ s vn, (wkFs s vn).lookup m = none) : InsOf C m (pWalk C w s) := fun h => by
 obtain ⟨rfl, us, vn, vs, a, _⟩ := h
 exact ⟨w, s.d, _, rfl, a.i, hm s vn⟩
theorem i_methR {C : Addr} {m : Str} {n i : Nat} {f : Fm} {ma : MA} {Γ : En} {Q : Rv → En → Prop} {B : Pb} (h0 : Γ[i]? = some (.pub B)) (hB : InsOf C m B) (h : ma Γ fun as Γ1 => as.length + 1 = n ∧ f (.pub B :: as) fun rv => Q rv Γ1) : mMethR C m n f i ma Γ Q := ⟨B, h0, hB, h⟩
theorem i_apb {i : Nat} {mr : MA} {Γ : En} {Q : List Sl → En → Prop} {B : Pb} (h0 : Γ[i]? = some (.pub B)) (h : mr Γ fun xs Γ2 => Q (.pub B :: xs) Γ2) : aPb i mr Γ Q := ⟨B, h0, h⟩
end L2.VS
namespace My
open PySem PySem.Spec PyProof.Rows L2 L2.VS LT
noncomputable def top (i : Nat) : Stmt := PySem.Challenge.pw_leadtimes_k25_walks_made.main.body.getD i (.Pass ⟨0, 0, 0, 0⟩)
set_option hygiene false in
local macro_rules | `(tactic| walk_at "vn") => `(tactic| dsimp only [List.set_cons_zero, List.set_cons_succ, List.set_nil, Rv.sl, Rv.d, nbQ, List.replicate, List.cons_append, List.nil_append, pubA, List.map_cons, List.map_nil])
set_option hygiene false in
local macro_rules | `(tactic| walk_at "v1") => `(tactic| first
 | (with_reducible first
  | apply i_seq | apply i_set | apply i_val | apply i_ret | apply i_if | apply i_tst
  | refine i_var (by with_unfolding_all rfl) ?_
  | apply i_c | apply i_pub | apply i_call | apply i_aval
  | refine i_apen (by with_unfolding_all rfl) ?_
  | apply i_anil | apply i_nil | apply i_cons | apply i_tup | apply i_lst | apply i_ix | apply i_I0 | apply i_I | apply i_U | apply i_eq | apply i_ne
  | apply i_and | apply i_or | apply i_not | apply i_andV | apply i_orV | apply i_notV | apply i_isN | apply i_notN | apply i_isi | apply i_len | apply i_abs | apply i_2I | apply i_int1 | apply i_ifE | apply i_ifO
  | apply i_for | apply i_itL | apply i_itT | apply i_rng1 | apply i_rng2 | apply i_gN
  | refine i_gT (by with_unfolding_all rfl) ?_
  | apply i_gsCons | apply i_gsNil | apply i_asg | apply i_par | apply i_nx | apply i_retN | apply i_drop | apply i_peek | apply i_peekT | apply i_peekO | apply i_listOf | apply i_slL | apply i_pNo | apply i_pSo | apply i_cat | apply i_in
  | refine i_append (by with_unfolding_all rfl) ?_
  | refine i_clear (by with_unfolding_all rfl) ?_
  | refine i_pubS (by with_unfolding_all rfl) ?_
  | refine i_pubS0 (by with_unfolding_all rfl) ?_
  | refine i_move (by with_unfolding_all rfl) ?_
  | refine i_moveV (by with_unfolding_all rfl) ?_
  | apply i_oQ (ix_num0 _) | apply i_oQ (ix_num1 _) | apply i_oQ (ix_line0 _) | apply i_oQ (ix_line1 _)
  | apply iteT | apply iteF
  | refine isT (by with_unfolding_all rfl) ?_
  | refine isF (by with_unfolding_all rfl) ?_
  | refine isNT (by with_unfolding_all rfl) ?_
  | refine isNF (by with_unfolding_all rfl) ?_
  | apply iteNT | apply iteNF
  | refine And.intro rfl ?_
  | refine And.intro (Nat.le_of_ble_eq_true (by with_unfolding_all rfl)) ?_
  | refine And.intro (mulB (by assumption) (by assumption)) ?_
  | (refine And.intro (good_int _) (And.intro (good_int _) ?_); rw [eqv_int])
  | (refine And.intro (good_num _) (And.intro (good_num _) ?_); rw [eqv_num])
  | (refine And.intro (good_line _) (And.intro (good_line _) ?_); rw [eqv_line])
  | (refine And.intro (good_bool _) (And.intro (good_bool _) ?_); rw [eqv_bool]))
 | dsimp only [Rv.d, Rv.sl, nbQ, Bool.not_true, Bool.not_false, isN, itemsD])
set_option hygiene false in
local macro_rules | `(tactic| walk_at "vs") => `(tactic| repeat (walk_at "v1"))
set_option hygiene false in
local macro_rules | `(tactic| walk_at "w1") => `(tactic| first
 | walk_at "v1"
 | with_reducible apply i_comp
 | with_reducible refine i_insert (by with_unfolding_all rfl) ?_
 | with_reducible apply i_step
 | with_reducible apply i_bs
 | with_reducible apply i_chain
 | with_reducible apply i_peekS
 | with_reducible apply i_slT
 | with_reducible apply i_catT
 | with_reducible refine i_aug (by with_unfolding_all rfl) ?_
 | with_reducible apply i_listRng
 | with_reducible apply i_listZip
 | with_reducible apply i_itZ
 | with_reducible apply i_itE
 | with_reducible apply i_isB
 | with_reducible apply i_lenSet
 | with_reducible apply i_lenSetT
 | with_reducible apply i_dnew
 | with_reducible apply i_listD
 | with_reducible apply i_setD
 | with_reducible refine i_itD (by with_unfolding_all rfl) ?_
 | with_reducible refine i_ixD (by with_unfolding_all rfl) ?_
 | with_reducible apply i_sortN
 | with_reducible apply i_dnewB
 | with_reducible apply i_putB
 | with_reducible apply i_setB
 | with_reducible refine i_itB (by with_unfolding_all rfl) ?_
 | with_reducible refine i_ixB (by with_unfolding_all rfl) ?_
 | with_reducible refine i_isNB (by with_unfolding_all rfl) ?_
 | with_reducible apply i_neB
 | with_reducible apply i_compB
 | with_reducible apply i_tupE
 | with_reducible apply i_dic0
 | with_reducible apply i_acon
 | with_reducible refine i_acv (by with_unfolding_all rfl) ?_
 | with_reducible refine i_ixC (by with_unfolding_all rfl) ?_)
set_option hygiene false in
local macro_rules | `(tactic| walk_at "ws") => `(tactic| repeat (walk_at "w1"))
set_option hygiene false in
local macro_rules | `(tactic| walk_at "l1") => `(tactic| first
 | walk_at "w1"
 | with_reducible refine i_lend (by with_unfolding_all rfl) ?_
 | with_reducible refine i_lnK (by with_unfolding_all rfl) rfl ?_
 | with_reducible apply i_retL
 | with_reducible refine i_rtK (by with_unfolding_all rfl) ?_
 | with_reducible apply i_endK
 | with_reducible refine i_lend2 (by with_unfolding_all rfl) ?_
 | with_reducible refine i_ownIx' (by with_unfolding_all rfl) ?_
 | with_reducible refine i_oxK (by with_unfolding_all rfl) ?_
 | with_reducible apply i_setIx'
 | with_reducible refine i_sxJ (by with_unfolding_all rfl) ?_
 | with_reducible apply i_ltT
 | with_reducible apply i_rep
 | with_reducible apply i_newW2
 | with_reducible apply i_compLn)
set_option hygiene false in
local macro_rules | `(tactic| walk_at "ls") => `(tactic| repeat (walk_at "l1"))
set_option hygiene false in
local macro_rules | `(tactic| walk_at "kp") => `(tactic| repeat (with_unfolding_all first
 | exact kept_n
 | apply kept_f
 | refine kept_t cut_pen ?_
 | refine kept_t cut_walk ?_
 | refine kept_t cut_lst ?_))
set_option hygiene false in
local macro_rules | `(tactic| walk_at "m1") => `(tactic| first
 | walk_at "l1"
 | with_reducible apply i_pkL
 | with_reducible apply i_pkLT
 | with_reducible apply i_pkLO
 | with_reducible refine i_pkK (by with_unfolding_all rfl) (by with_unfolding_all rfl) (by with_unfolding_all rfl) (by walk_at "kp") ?_
 | with_reducible refine i_pkKT (by with_unfolding_all rfl) (by with_unfolding_all rfl) (by walk_at "kp") ?_
 | with_reducible apply i_retLj
 | with_reducible refine i_rtKj (by with_unfolding_all rfl) ?_
 | with_reducible apply i_setIxB
 | with_reducible refine i_sbJ (by with_unfolding_all rfl) (by with_unfolding_all rfl) ?_
 | with_reducible apply i_lost
 | with_reducible apply i_setSl
 | with_reducible refine i_slJ (by with_unfolding_all rfl) ?_)
set_option hygiene false in
local macro_rules | `(tactic| walk_at "ms") => `(tactic| repeat (walk_at "m1"))
noncomputable def b_is_whole : MS :=
 (mRet (mVal (mAndV (mIsi "int" (mVar 0)) (mNotV (mIsi "bool" (mVar 0))))))
noncomputable def m_is_whole : Fm := mFn 0 b_is_whole
noncomputable def b_greatest_divisor_r1 : MS :=
 (mRet (mVal (mVar 2)))
noncomputable def b_greatest_divisor_l1 : MS :=
 (mSeq (mSet 4 (mVal (mMod (mVar 2) (mVar 3))))
  (mSeq (mSet 2 (mVal (mVar 3)))
  (mSet 3 (mVal (mVar 4)))))
noncomputable def b_greatest_divisor : MS :=
 (mSeq (mSet 2 (mVal (mAbs (mVar 0))))
  (mSeq (mSet 3 (mVal (mAbs (mVar 1))))
  (mSeq (mWhile (mTst (mNe (mVar 3) (mC (.int 0))))
  b_greatest_divisor_l1)
  b_greatest_divisor_r1)))
noncomputable def m_greatest_divisor : Fm := mFn 3 b_greatest_divisor
noncomputable def b_number_of_r1 : MS :=
 (mRet (mVal (mTup (mCons (mDivX (mVar 0) (mVar 2)) (mCons (mDivX (mVar 1) (mVar 2)) mNil)))))
noncomputable def b_number_of_r2 : MS :=
 (mSeq (mSet 2 (mVal (mPub (mCall 2 m_greatest_divisor (aVal (mVar 0) (aVal (mVar 1) aNil))))))
  (mSeq (mIf (mTst (mLt (mVar 1) (mC (.int 0))))
  (mSet 2 (mVal (mNeg (mVar 2))))
  mNx)
  b_number_of_r1))
noncomputable def b_number_of : MS :=
 (mSeq (mIf (mOr (mNot (mTst (mPub (mCall 1 m_is_whole (aVal (mVar 0) aNil))))) (mOr (mNot (mTst (mPub (mCall 1 m_is_whole (aVal (mVar 1) aNil))))) (mTst (mEq (mVar 1) (mC (.int 0))))))
  mNever
  mNx)
  b_number_of_r2)
noncomputable def m_number_of : Fm := mFn 1 b_number_of
noncomputable def b_sum_of : MS :=
 (mRet (mCall 2 m_number_of (aVal (mAdd (mMul (mIx (mVar 0) (mC (.int 0))) (mIx (mVar 1) (mC (.int 1)))) (mMul (mIx (mVar 1) (mC (.int 0))) (mIx (mVar 0) (mC (.int 1))))) (aVal (mMul (mIx (mVar 0) (mC (.int 1))) (mIx (mVar 1) (mC (.int 1)))) aNil))))
noncomputable def m_sum_of : Fm := mFn 0 b_sum_of
noncomputable def b_difference_of : MS :=
 (mRet (mCall 2 m_number_of (aVal (mSub (mMul (mIx (mVar 0) (mC (.int 0))) (mIx (mVar 1) (mC (.int 1)))) (mMul (mIx (mVar 1) (mC (.int 0))) (mIx (mVar 0) (mC (.int 1))))) (aVal (mMul (mIx (mVar 0) (mC (.int 1))) (mIx (mVar 1) (mC (.int 1)))) aNil))))
noncomputable def m_difference_of : Fm := mFn 0 b_difference_of
noncomputable def b_product_of : MS :=
 (mRet (mCall 2 m_number_of (aVal (mMul (mIx (mVar 0) (mC (.int 0))) (mIx (mVar 1) (mC (.int 0)))) (aVal (mMul (mIx (mVar 0) (mC (.int 1))) (mIx (mVar 1) (mC (.int 1)))) aNil))))
noncomputable def m_product_of : Fm := mFn 0 b_product_of
noncomputable def b_quotient_of : MS :=
 (mRet (mCall 2 m_number_of (aVal (mMul (mIx (mVar 0) (mC (.int 0))) (mIx (mVar 1) (mC (.int 1)))) (aVal (mMul (mIx (mVar 0) (mC (.int 1))) (mIx (mVar 1) (mC (.int 0)))) aNil))))
noncomputable def m_quotient_of : Fm := mFn 0 b_quotient_of
noncomputable def b_is_less : MS :=
 (mRet (mVal (mLt (mMul (mIx (mVar 0) (mC (.int 0))) (mIx (mVar 1) (mC (.int 1)))) (mMul (mIx (mVar 1) (mC (.int 0))) (mIx (mVar 0) (mC (.int 1)))))))
noncomputable def m_is_less : Fm := mFn 0 b_is_less
noncomputable def b_place_at : MS :=
 (mRet (mCall 2 m_sum_of (aVal (mIx (mVar 0) (mC (.int 0))) (aVal (mPub (mCall 2 m_product_of (aVal (mIx (mVar 0) (mC (.int 1))) (aVal (mVar 1) aNil)))) aNil))))
noncomputable def m_place_at : Fm := mFn 0 b_place_at
noncomputable def b_meeting_r1 : MS :=
 (mSeq (mSet 2 (mVal (mPub (mCall 2 m_difference_of (aVal (mIx (mVar 1) (mC (.int 0))) (aVal (mIx (mVar 0) (mC (.int 0))) aNil))))))
  (mSeq (mSet 3 (mVal (mPub (mCall 2 m_difference_of (aVal (mIx (mVar 0) (mC (.int 1))) (aVal (mIx (mVar 1) (mC (.int 1))) aNil))))))
  (mRet (mVal (mTup (mCons (mC (.str "at")) (mCons (mPub (mCall 2 m_quotient_of (aVal (mVar 2) (aVal (mVar 3) aNil)))) mNil)))))))
noncomputable def b_meeting : MS :=
 (mSeq (mIf (mTst (mEq (mIx (mVar 0) (mC (.int 1))) (mIx (mVar 1) (mC (.int 1)))))
  (mRet (mIfO (mTst (mEq (mIx (mVar 0) (mC (.int 0))) (mIx (mVar 1) (mC (.int 0))))) (mVal (mTup (mCons (mC (.str "always")) mNil))) (mVal (mTup (mCons (mC (.str "never")) mNil)))))
  mNx)
  b_meeting_r1)
noncomputable def m_meeting : Fm := mFn 2 b_meeting
noncomputable def b_standing : MS :=
 (mRet (mVal (mTup (mCons (mPub (mCall 2 m_place_at (aVal (mIx (mVar 0) (mVar 1)) (aVal (mVar 2) aNil)))) (mCons (mIx (mIx (mVar 0) (mVar 1)) (mC (.int 1))) (mCons (mVar 1) mNil))))))
noncomputable def m_standing : Fm := mFn 0 b_standing
noncomputable def b_stands_ahead_r1 : MS :=
 (mRet (mVal (mLt (mIx (mVar 0) (mC (.int 2))) (mIx (mVar 1) (mC (.int 2))))))
noncomputable def b_stands_ahead_r2 : MS :=
 (mSeq (mIf (mTst (mNe (mIx (mVar 0) (mC (.int 1))) (mIx (mVar 1) (mC (.int 1)))))
  (mRet (mCall 2 m_is_less (aVal (mIx (mVar 1) (mC (.int 1))) (aVal (mIx (mVar 0) (mC (.int 1))) aNil))))
  mNx)
  b_stands_ahead_r1)
noncomputable def b_stands_ahead : MS :=
 (mSeq (mIf (mTst (mNe (mIx (mVar 0) (mC (.int 0))) (mIx (mVar 1) (mC (.int 0)))))
  (mRet (mCall 2 m_is_less (aVal (mIx (mVar 1) (mC (.int 0))) (aVal (mIx (mVar 0) (mC (.int 0))) aNil))))
  mNx)
  b_stands_ahead_r2)
noncomputable def m_stands_ahead : Fm := mFn 0 b_stands_ahead
noncomputable def b_is_ahead : MS :=
 (mRet (mCall 2 m_stands_ahead (aVal (mPub (mCall 3 m_standing (aVal (mVar 0) (aVal (mVar 1) (aVal (mVar 3) aNil))))) (aVal (mPub (mCall 3 m_standing (aVal (mVar 0) (aVal (mVar 2) (aVal (mVar 3) aNil))))) aNil))))
noncomputable def m_is_ahead : Fm := mFn 0 b_is_ahead
noncomputable def b_next_change_r1 : MS :=
 (mRet (mVal (mC .none)))
noncomputable def b_next_change : MS :=
 (mSeq (mSet 4 (mVal (mPub (mCall 2 m_meeting (aVal (mIx (mVar 0) (mVar 1)) (aVal (mIx (mVar 0) (mVar 2)) aNil))))))
  (mSeq (mIf (mAnd (mTst (mEq (mIx (mVar 4) (mC (.int 0))) (mC (.str "at")))) (mTst (mPub (mCall 2 m_is_less (aVal (mVar 3) (aVal (mIx (mVar 4) (mC (.int 1))) aNil))))))
  (mRet (mVal (mIx (mVar 4) (mC (.int 1)))))
  mNx)
  b_next_change_r1))
noncomputable def m_next_change : Fm := mFn 1 b_next_change
noncomputable def b_order_among_r1 : MS :=
 (mPubS 3 (mRet (mComp 1 [] (mItL (mVar 3)) (gN 0) mTrue (mIx (mVar 0) (mC (.int 2))))))
noncomputable def b_order_among_r2 : MS :=
 (mInsert 3 (mVar 6) (mVar 5))
noncomputable def b_order_among_l1 : MS :=
 (mAug 6 fAdd (mC (.int 1)))
noncomputable def b_order_among_l2 : MS :=
 (mSeq (mSet 5 (mVal (mPub (mCall 3 m_standing (aVal (mVar 0) (aVal (mVar 4) (aVal (mVar 2) aNil)))))))
  (mSeq (mSet 6 (mVal (mC (.int 0))))
  (mSeq (mWhile (mPeekT (mAnd (mTst (mLt (mVar 6) (mLen (mVar 3)))) (mTst (mPub (mCall 2 m_stands_ahead (aVal (mIx (mVar 3) (mVar 6)) (aVal (mVar 5) aNil)))))))
  b_order_among_l1)
  b_order_among_r2)))
noncomputable def b_order_among : MS :=
 (mSeq (mSet 3 (mLst mNil))
  (mSeq (mFor (mItL (mVar 1)) (gN 4)
  b_order_among_l2)
  b_order_among_r1))
noncomputable def m_order_among : Fm := mFn 4 b_order_among
noncomputable def b_order_at : MS :=
 (mRet (mCall 3 m_order_among (aVal (mVar 0) (aVal (mPub (mListRng (mLen (mVar 0)))) (aVal (mVar 1) aNil)))))
noncomputable def m_order_at : Fm := mFn 0 b_order_at
noncomputable def b_neighbours : MS :=
 (mRet (mListZip (mVar 0) (mPub (mSlL (mVar 0) (pSo (mC (.int 1))) pNo))))
noncomputable def m_neighbours : Fm := mFn 0 b_neighbours
noncomputable def b_till_of_r1 : MS :=
 (mRet (mCall 4 m_next_change (aVal (mVar 0) (aVal (mVar 1) (aVal (mVar 2) (aVal (mVar 3) aNil))))))
noncomputable def b_till_of : MS :=
 (mSeq (mIf (mTst (mPub (mCall 4 m_is_ahead (aVal (mVar 0) (aVal (mVar 2) (aVal (mVar 1) (aVal (mVar 3) aNil)))))))
  (mRet (mVal (mVar 3)))
  mNx)
  b_till_of_r1)
noncomputable def m_till_of : Fm := mFn 0 b_till_of
noncomputable def b_papers_among : MS :=
 (mRet (mComp 1 [0, 2] (mItL (mPub (mCall 1 m_neighbours (aVal (mVar 1) aNil)))) (gN 0) mTrue (mTup (mCons (mIx (mVar 0) (mC (.int 0))) (mCons (mIx (mVar 0) (mC (.int 1))) (mCons (mPub (mCall 4 m_till_of (aVal (mVar 1) (aVal (mIx (mVar 0) (mC (.int 0))) (aVal (mIx (mVar 0) (mC (.int 1))) (aVal (mVar 2) aNil)))))) mNil))))))
noncomputable def m_papers_among : Fm := mFn 1 b_papers_among
noncomputable def b_w_time (c : Addr) : MS :=
 (mRet (mVal (mWkNow c 0)))
noncomputable def m_w_time (c : Addr) : Fm := mFn 0 (b_w_time c)
noncomputable def b_w_order (c : Addr) : MS :=
 (mRet (mListOf (mWkListed c 0)))
noncomputable def m_w_order (c : Addr) : Fm := mFn 0 (b_w_order c)
noncomputable def b_w_papers (c : Addr) : MS :=
 (mRet (mCall 3 m_papers_among (aVal (mWkLines c 0) (aVal (mWkListed c 0) (aVal (mWkNow c 0) aNil)))))
noncomputable def m_w_papers (c : Addr) : Fm := mFn 0 (b_w_papers c)
noncomputable def b_law_lowest_r1 : MS :=
 (mRet (mVal (mTup (mCons (mDivX (mVar 0) (mVar 2)) (mCons (mDivX (mVar 1) (mVar 2)) mNil)))))
noncomputable def b_law_lowest_r2 : MS :=
 (mSeq (mIf (mTst (mLt (mVar 1) (mC (.int 0))))
  (mSet 2 (mVal (mSub (mC (.int 0)) (mVar 2))))
  mNx)
  b_law_lowest_r1)
noncomputable def b_law_lowest_l1 : MS :=
 (mPar 2 3 (mCons (mVar 3) (mCons (mMod (mVar 2) (mVar 3)) mNil)))
noncomputable def b_law_lowest : MS :=
 (mSeq (mSet 2 (mVal (mAbs (mVar 0))))
  (mSeq (mSet 3 (mVal (mAbs (mVar 1))))
  (mSeq (mWhile (mTst (mGt (mVar 3) (mC (.int 0))))
  b_law_lowest_l1)
  b_law_lowest_r2)))
noncomputable def m_law_lowest : Fm := mFn 2 b_law_lowest
noncomputable def b_law_plus : MS :=
 (mRet (mCall 2 m_law_lowest (aVal (mAdd (mMul (mIx (mVar 0) (mC (.int 0))) (mIx (mVar 1) (mC (.int 1)))) (mMul (mMul (mVar 2) (mIx (mVar 1) (mC (.int 0)))) (mIx (mVar 0) (mC (.int 1))))) (aVal (mMul (mIx (mVar 0) (mC (.int 1))) (mIx (mVar 1) (mC (.int 1)))) aNil))))
noncomputable def m_law_plus : Fm := mFn 0 b_law_plus
noncomputable def b_law_times : MS :=
 (mRet (mCall 2 m_law_lowest (aVal (mMul (mIx (mVar 0) (mC (.int 0))) (mIx (mVar 1) (mC (.int 0)))) (aVal (mMul (mIx (mVar 0) (mC (.int 1))) (mIx (mVar 1) (mC (.int 1)))) aNil))))
noncomputable def m_law_times : Fm := mFn 0 b_law_times
noncomputable def b_law_less : MS :=
 (mRet (mVal (mLt (mMul (mIx (mVar 0) (mC (.int 0))) (mIx (mVar 1) (mC (.int 1)))) (mMul (mIx (mVar 1) (mC (.int 0))) (mIx (mVar 0) (mC (.int 1)))))))
noncomputable def m_law_less : Fm := mFn 0 b_law_less
noncomputable def b_law_far_r1 : MS :=
 (mRetK penF (mVal (mIx (mPub (mLst (mCons (mVar 2) (mCons (mSub (mC (.int 0)) (mVar 2)) mNil)))) (mPub (mCallL penF 2 mTakeL 0 (aVal (mC (.int 2)) aNil))))))
noncomputable def b_law_far_l1 : MS :=
 (mSet 2 (mVal (mAdd (mMul (mVar 2) (mC (.int 1000000))) (mPub (mCallL penF 2 mTakeL 0 (aVal (mC (.int 1000000)) aNil))))))
noncomputable def b_law_far : MS :=
 (mSeq (mSet 2 (mVal (mC (.int 0))))
  (mSeq (mFor (mRng1 (mCons (mVar 1) mNil)) (gN 3)
  b_law_far_l1)
  b_law_far_r1))
noncomputable def m_law_far : Lm Nat := mFnL penF 2 b_law_far
noncomputable def b_law_number_r1 : MS :=
 (mRetK penF (mCall 2 m_law_lowest (aVal (mPub (mCallL penF 2 m_law_far 0 (aVal (mC (.int 3)) aNil))) (aVal (mAdd (mC (.int 1)) (mPub (mCallL penF 2 mTakeL 0 (aVal (mC (.int 999999)) aNil)))) aNil))))
noncomputable def b_law_number_r2 : MS :=
 (mSeq (mIf (mTst (mEq (mVar 1) (mC (.int 1))))
  (mRetK penF (mCall 2 m_law_lowest (aVal (mSub (mPub (mCallL penF 2 mTakeL 0 (aVal (mC (.int 41)) aNil))) (mC (.int 20))) (aVal (mAdd (mC (.int 1)) (mPub (mCallL penF 2 mTakeL 0 (aVal (mC (.int 6)) aNil)))) aNil))))
  mNx)
  b_law_number_r1)
noncomputable def b_law_number : MS :=
 (mSeq (mIf (mTst (mEq (mVar 1) (mC (.int 0))))
  (mRetK penF (mVal (mTup (mCons (mSub (mPub (mCallL penF 2 mTakeL 0 (aVal (mC (.int 7)) aNil))) (mC (.int 3))) (mCons (mC (.int 1)) mNil)))))
  mNx)
  b_law_number_r2)
noncomputable def m_law_number : Lm Nat := mFnL penF 0 b_law_number
noncomputable def b_law_lines_r1 : MS :=
 (mRetK penF (mMove 5))
noncomputable def b_law_lines_r2 : MS :=
 (mAppend 5 (mVar 7))
noncomputable def b_law_lines_r3 : MS :=
 (mSeq (mIf (mAnd (mTst (mIn false (mVar 8) (mTup (mCons (mC (.int 2)) (mCons (mC (.int 3)) mNil))))) (mTst (mLt (mVar 1) (mC (.int 2)))))
  (mSet 7 (mVal (mTup (mCons (mPub (mCall 3 m_law_plus (aVal (mVar 2) (aVal (mPub (mCall 2 m_law_times (aVal (mIx (mVar 7) (mC (.int 1))) (aVal (mVar 3) aNil)))) (aVal (mNeg (mC (.int 1))) aNil))))) (mCons (mIx (mVar 7) (mC (.int 1))) mNil)))))
  mNx)
  b_law_lines_r2)
noncomputable def b_law_lines_r4 : MS :=
 (mSeq (mIf (mPeekT (mAnd (mTst (mEq (mVar 8) (mC (.int 1)))) (mTst (mNe (mVar 5) (mPub (mLst mNil))))))
  (mSet 7 (mVal (mPeekL [true] (mTup (mCons (mIx (mVar 7) (mC (.int 0))) (mCons (mIx (mIx (mVar 5) (mPub (mCallL penF 2 mTakeL 0 (aVal (mLen (mVar 5)) aNil)))) (mC (.int 1))) mNil))))))
  mNx)
  b_law_lines_r3)
noncomputable def b_law_lines_l1 : MS :=
 (mSeq (mSet 7 (mVal (mTup (mCons (mPub (mCallL penF 2 m_law_number 0 (aVal (mVar 1) aNil))) (mCons (mPub (mCallL penF 2 m_law_number 0 (aVal (mVar 1) aNil))) mNil)))))
  (mSeq (mSet 8 (mVal (mPub (mCallL penF 2 mTakeL 0 (aVal (mC (.int 8)) aNil)))))
  (mSeq (mIf (mPeekT (mAnd (mTst (mEq (mVar 8) (mC (.int 0)))) (mTst (mNe (mVar 5) (mPub (mLst mNil))))))
  (mSet 7 (mVal (mPeekL [true] (mIx (mVar 5) (mPub (mCallL penF 2 mTakeL 0 (aVal (mLen (mVar 5)) aNil)))))))
  mNx)
  b_law_lines_r4)))
noncomputable def b_law_lines_r5 : MS :=
 (mSeq (mSet 5 (mLst mNil))
  (mSeq (mFor (mRng1 (mCons (mVar 4) mNil)) (gN 6)
  b_law_lines_l1)
  b_law_lines_r1))
noncomputable def b_law_lines : MS :=
 (mSeq (mSet 1 (mVal (mIx (mPub (mLst (mCons (mC (.int 0)) (mCons (mC (.int 1)) (mCons (mC (.int 0)) (mCons (mC (.int 2)) (mCons (mC (.int 0)) (mCons (mC (.int 1)) mNil)))))))) (mPub (mCallL penF 2 mTakeL 0 (aVal (mC (.int 6)) aNil))))))
  (mSeq (mSet 2 (mVal (mPub (mCallL penF 2 m_law_number 0 (aVal (mC (.int 0)) aNil)))))
  (mSeq (mSet 3 (mVal (mPub (mCallL penF 2 m_law_number 0 (aVal (mC (.int 0)) aNil)))))
  (mSeq (mSet 4 (mVal (mPub (mCallL penF 2 mTakeL 0 (aVal (mC (.int 8)) aNil)))))
  (mSeq (mIf (mTst (mEq (mPub (mCallL penF 2 mTakeL 0 (aVal (mC (.int 8)) aNil))) (mC (.int 7))))
  (mSet 4 (mVal (mC (.int 10))))
  mNx)
  b_law_lines_r5)))))
noncomputable def m_law_lines : Lm Nat := mFnL penF 8 b_law_lines
noncomputable def b_law_when_r1 : MS :=
 (mRetK penF (mCallL penF 2 m_law_number 0 (aVal (mIx (mPub (mLst (mCons (mC (.int 0)) (mCons (mC (.int 0)) (mCons (mC (.int 1)) (mCons (mC (.int 1)) (mCons (mC (.int 0)) mNil))))))) (mVar 2)) aNil)))
noncomputable def b_law_when : MS :=
 (mSeq (mSet 2 (mVal (mPub (mCallL penF 2 mTakeL 0 (aVal (mC (.int 5)) aNil)))))
  (mSeq (mIf (mAnd (mTst (mGt (mVar 2) (mC (.int 2)))) (mTst (mGt (mLen (mVar 1)) (mC (.int 1)))))
  (mSeq (mSet 3 (mVal (mPub (mCall 2 m_meeting (aVal (mIx (mVar 1) (mPub (mCallL penF 2 mTakeL 0 (aVal (mLen (mVar 1)) aNil)))) (aVal (mIx (mVar 1) (mPub (mCallL penF 2 mTakeL 0 (aVal (mLen (mVar 1)) aNil)))) aNil))))))
  (mIf (mTst (mEq (mIx (mVar 3) (mC (.int 0))) (mC (.str "at"))))
  (mRetK penF (mVal (mIx (mVar 3) (mC (.int 1)))))
  mNx))
  mNx)
  b_law_when_r1))
noncomputable def m_law_when : Lm Nat := mFnL penF 2 b_law_when
noncomputable def b_law_ahead_r1 : MS :=
 (mRet (mVal (mLt (mVar 1) (mVar 2))))
noncomputable def b_law_ahead_r2 : MS :=
 (mSeq (mIf (mTst (mNe (mIx (mIx (mVar 0) (mVar 1)) (mC (.int 1))) (mIx (mIx (mVar 0) (mVar 2)) (mC (.int 1)))))
  (mRet (mCall 2 m_law_less (aVal (mIx (mIx (mVar 0) (mVar 2)) (mC (.int 1))) (aVal (mIx (mIx (mVar 0) (mVar 1)) (mC (.int 1))) aNil))))
  mNx)
  b_law_ahead_r1)
noncomputable def b_law_ahead : MS :=
 (mSeq (mSet 4 (mVal (mPub (mCall 3 m_law_plus (aVal (mIx (mIx (mVar 0) (mVar 1)) (mC (.int 0))) (aVal (mPub (mCall 2 m_law_times (aVal (mIx (mIx (mVar 0) (mVar 1)) (mC (.int 1))) (aVal (mVar 3) aNil)))) (aVal (mC (.int 1)) aNil)))))))
  (mSeq (mSet 5 (mVal (mPub (mCall 3 m_law_plus (aVal (mIx (mIx (mVar 0) (mVar 2)) (mC (.int 0))) (aVal (mPub (mCall 2 m_law_times (aVal (mIx (mIx (mVar 0) (mVar 2)) (mC (.int 1))) (aVal (mVar 3) aNil)))) (aVal (mC (.int 1)) aNil)))))))
  (mSeq (mIf (mTst (mNe (mVar 4) (mVar 5)))
  (mRet (mCall 2 m_law_less (aVal (mVar 5) (aVal (mVar 4) aNil))))
  mNx)
  b_law_ahead_r2)))
noncomputable def m_law_ahead : Fm := mFn 2 b_law_ahead
noncomputable def b_law_till_r1 : MS :=
 (mSeq (mSet 5 (mVal (mPub (mCall 3 m_law_plus (aVal (mIx (mIx (mVar 0) (mVar 2)) (mC (.int 0))) (aVal (mIx (mIx (mVar 0) (mVar 1)) (mC (.int 0))) (aVal (mNeg (mC (.int 1))) aNil)))))))
  (mSeq (mSet 6 (mVal (mPub (mCall 2 m_law_lowest (aVal (mMul (mIx (mVar 5) (mC (.int 0))) (mIx (mVar 4) (mC (.int 1)))) (aVal (mMul (mIx (mVar 5) (mC (.int 1))) (mIx (mVar 4) (mC (.int 0)))) aNil))))))
  (mRet (mVal (mIx (mPub (mLst (mCons (mC .none) (mCons (mVar 6) mNil)))) (mInt1 (mPub (mCall 2 m_law_less (aVal (mVar 3) (aVal (mVar 6) aNil))))))))))
noncomputable def b_law_till : MS :=
 (mSeq (mSet 4 (mVal (mPub (mCall 3 m_law_plus (aVal (mIx (mIx (mVar 0) (mVar 1)) (mC (.int 1))) (aVal (mIx (mIx (mVar 0) (mVar 2)) (mC (.int 1))) (aVal (mNeg (mC (.int 1))) aNil)))))))
  (mSeq (mIf (mTst (mEq (mIx (mVar 4) (mC (.int 0))) (mC (.int 0))))
  (mRet (mVal (mC .none)))
  mNx)
  b_law_till_r1))
noncomputable def m_law_till : Fm := mFn 3 b_law_till
noncomputable def b_law_is_time_r1 : MS :=
 (mRet (mVal (mAndV (mIsi "int" (mIx (mVar 0) (mC (.int 0)))) (mIsi "int" (mIx (mVar 0) (mC (.int 1)))))))
noncomputable def b_law_is_time_r2 : MS :=
 (mSeq (mIf (mOr (mNot (mTst (mIsi "tuple" (mVar 0)))) (mTst (mNe (mLen (mVar 0)) (mC (.int 2)))))
  (mRet (mVal (mC (.bool false))))
  mNx)
  b_law_is_time_r1)
noncomputable def b_law_is_time : MS :=
 (mSeq (mIf (mTst (mIsN (mVar 0)))
  (mRet (mVal (mC (.bool true))))
  mNx)
  b_law_is_time_r2)
noncomputable def m_law_is_time : Fm := mFn 0 b_law_is_time
noncomputable def b_law_right_c_r1 (c : Addr) : MS :=
 (mRet (mVal (mC (.bool true))))
noncomputable def b_law_right_c_r2 (c : Addr) : MS :=
 (mSeq (mSet 8 (mVal (mPub (mCall 4 m_law_till (aVal (mVar 1) (aVal (mVar 5) (aVal (mVar 7) (aVal (mVar 2) aNil))))))))
  (mIf (mOr (mTst (mNe (mIx (mVar 3) (mVar 6)) (mTup (mCons (mVar 5) (mCons (mVar 7) (mCons (mVar 8) mNil)))))) (mNot (mTst (mPub (mCall 1 m_law_is_time (aVal (mIx (mIx (mVar 3) (mVar 6)) (mC (.int 2))) aNil))))))
  (mRet (mVal (mC (.bool false))))
  mNx))
noncomputable def b_law_right_c_l1 (c : Addr) : MS :=
 (mSeq (mAsg (mPub (mSlL (mVar 4) (pSo (mVar 6)) (pSo (mAdd (mVar 6) (mC (.int 2)))))) (gTL 2 (gsCons (gN 5) (gsCons (gN 7) gsNil))))
  (mSeq (mIf (mOr (mNot (mTst (mPub (mCall 4 m_law_ahead (aVal (mVar 1) (aVal (mVar 5) (aVal (mVar 7) (aVal (mVar 2) aNil)))))))) (mNot (mTst (mIsi "tuple" (mIx (mVar 3) (mVar 6))))))
  (mRet (mVal (mC (.bool false))))
  mNx)
  (b_law_right_c_r2 c)))
noncomputable def b_law_right_c_r3 (c : Addr) : MS :=
 (mSeq (mFor (mRng1 (mCons (mLen (mVar 3)) mNil)) (gN 6)
  (b_law_right_c_l1 c))
  (b_law_right_c_r1 c))
noncomputable def b_law_right_c_r4 (c : Addr) : MS :=
 (mSeq (mIf (mOr (mNot (mTst (mIsi "list" (mVar 3)))) (mTst (mNe (mLen (mVar 3)) (mMax (mC (.int 0)) (mSub (mLen (mVar 1)) (mC (.int 1)))))))
  (mRet (mVal (mC (.bool false))))
  mNx)
  (b_law_right_c_r3 c))
noncomputable def b_law_right_c_r5 (c : Addr) : MS :=
 (mSeq (mIf (mTst (mNe (mPub (mComp 1 [] (mItL (mVar 4)) (gN 0) (mOr (mNot (mTst (mIsi "int" (mVar 0)))) (mTst (mIsi "bool" (mVar 0)))) (mVar 0))) (mPub (mLst mNil))))
  (mRet (mVal (mC (.bool false))))
  mNx)
  (b_law_right_c_r4 c))
noncomputable def b_law_right (c : Addr) : MS :=
 (mSeq (mSet 3 (mVal (mPub (mMethR c "papers" 1 (m_w_papers c) 0 aNil))))
  (mSeq (mSet 4 (mVal (mPub (mMethR c "order" 1 (m_w_order c) 0 aNil))))
  (mSeq (mIf (mOr (mTst (mNe (mPub (mMethR c "time" 1 (m_w_time c) 0 aNil)) (mVar 2))) (mOr (mNot (mTst (mIsi "list" (mVar 4)))) (mTst (mNe (mPub (mSortI (mVar 4))) (mPub (mListRng (mLen (mVar 1))))))))
  (mRet (mVal (mC (.bool false))))
  mNx)
  (b_law_right_c_r5 c))))
noncomputable def m_law_right (c : Addr) : Fm := mFn 6 (b_law_right c)
noncomputable def b_law_c_r1 (c : Addr) : MS :=
 (mRet (mVal (mC (.bool true))))
noncomputable def b_law_c_r2 (c : Addr) : MS :=
 (mSeq (mLost 1000 (mMethR c "order" 1 (m_w_order c) 10 aNil))
  (mLost 1000 (mMethR c "papers" 1 (m_w_papers c) 10 aNil)))
noncomputable def b_law_c_l1 (c : Addr) : MS :=
 (mSeq (mIf (mNot (mTst (mPub (mCall 3 (m_law_right c) (aPb 10 (aVal (mVar 2) (aVal (mVar 6) aNil)))))))
  (mRet (mVal (mC (.bool false))))
  mNx)
  (b_law_c_r2 c))
noncomputable def b_law_c_l2 (c : Addr) : MS :=
 (mForZ 7 (mVar 3) 10 6
  (b_law_c_l1 c))
noncomputable def b_law_c_r3 (c : Addr) : MS :=
 (mSeq (mFor (mRng1 (mCons (mC (.int 2)) mNil)) (gN 9)
  (b_law_c_l2 c))
  (b_law_c_r1 c))
noncomputable def b_law_c_r4 (c : Addr) : MS :=
 (mSeq (mJunk 5 8)
  (b_law_c_r3 c))
noncomputable def b_law_c (c : Addr) : MS :=
 (mSeq (mSet 2 (mVal (mPub (mCallL penF 1 m_law_lines 1 aNil))))
  (mSeq (mSet 3 (mVal (mPub (mCompLn penF 1 1 1 [1, 2] (mRng1 (mCons (mC (.int 3)) mNil)) (gN 0) mTrue (mPub (mCallL penF 2 m_law_when 1 (aVal (mVar 2) aNil)))))))
  (mSeq (mSet 5 (mCompM 1 [2] (mItL (mVar 3)) (gN 0) mTrue (mListOf (mVar 1))))
  (mSeq (mSetP 7 (mPeekB (mCompM 1 [5, 3] (mRng1 (mCons (mC (.int 3)) mNil)) (gN 0) mTrue (mNewWk c m_order_at (mIx (mVar 1) (mVar 0)) (mIx (mVar 2) (mVar 0))))))
  (mSeq (mIf (mPeekT (mTst (mNe (mVar 5) (mPub (mRep (mPub (mLst (mCons (mVar 2) mNil))) (mC (.int 3)))))))
  (mRet (mVal (mC (.bool false))))
  mNx)
  (b_law_c_r4 c))))))
abbrev s_is_whole : Stmt := top 5
theorem sc_is_whole : FnScope ["thing"] ["thing"] (defScope s_is_whole) := ⟨rfl, rfl, rfl, by decide +kernel, rfl, by decide +kernel, by decide +kernel⟩
theorem ok_is_whole {P0 : Addr → Hp → Prop} {P : Program} {w : World} {K : PySem.W.Frag} {mg : Str → Option Value} {base : Heap} {f : Addr} {fd : FuncData} (F : Fun K "is_whole" "is_whole" s_is_whole f fd) (B : Bl K mg) (Kt : Kit K) :
  FnOk P w K mg base CX0 1 f fd ["thing"] (spM P0 1 m_is_whole) :=
 F.okV sc_is_whole rfl rfl fun cdv A outer s H E hr =>
 have hu := hr.units
 ⟨_, (pss_one (ps_ret (pe_and (pe_callB call_isi rfl B.isinstance_ boot_isinstance (pa_cons (pv 0) (pa_cons (pe_bltn (v := .ty "int") rfl B.int_ boot_int rfl) pa_nil))) (pe_one (pe_not (pe_callB call_isi rfl B.isinstance_ boot_isinstance (pa_cons (pv 0) (pa_cons (pe_bltn (v := .ty "bool") rfl B.bool_ boot_bool rfl) pa_nil)))))))),
  ((vs_ret (vo_val (vt_and (vt_isi Kt (by decide) vt_var) (vt_not (vt_isi Kt (by decide) vt_var))))) : VS P0 _ b_is_whole)⟩
abbrev s_greatest_divisor : Stmt := top 6
theorem sc_greatest_divisor : FnScope ["one", "other", "divisor", "rest", "left_over"] ["one", "other"] (defScope s_greatest_divisor) := ⟨rfl, rfl, rfl, by decide +kernel, rfl, by decide +kernel, by decide +kernel⟩
theorem ok_greatest_divisor {P0 : Addr → Hp → Prop} {P : Program} {w : World} {K : PySem.W.Frag} {mg : Str → Option Value} {base : Heap} {f : Addr} {fd : FuncData} (F : Fun K "greatest_divisor" "greatest_divisor" s_greatest_divisor f fd) (B : Bl K mg) (Kt : Kit K) :
  FnOk P w K mg base CX0 1 f fd ["one", "other"] (spM P0 2 m_greatest_divisor) :=
 F.okV sc_greatest_divisor rfl rfl fun cdv A outer s H E hr =>
 have hu := hr.units
 ⟨_, (pss_cons (ps_set (i := 2) sc_greatest_divisor.nd rfl (by first | exact Or.inl rfl | exact Or.inr rfl) (pe_callB call_abs rfl B.abs_ boot_abs (pa_cons (pv 0) pa_nil)))
   (pss_cons (ps_set (i := 3) sc_greatest_divisor.nd rfl (by first | exact Or.inl rfl | exact Or.inr rfl) (pe_callB call_abs rfl B.abs_ boot_abs (pa_cons (pv 1) pa_nil)))
   (pss_cons (ps_while PassesOwn.never (pt_cmpR (op_neD hu) (pv 3) pe_int (nomark _)) (pss_cons (ps_set (i := 4) sc_greatest_divisor.nd rfl (by first | exact Or.inl rfl | exact Or.inr rfl) (pe_op op_mod (pv 2) (pv 3)))
   (pss_cons (ps_set (i := 2) sc_greatest_divisor.nd rfl (by first | exact Or.inl rfl | exact Or.inr rfl) (pv 3))
   (pss_one (ps_set (i := 3) sc_greatest_divisor.nd rfl (by first | exact Or.inl rfl | exact Or.inr rfl) (pv 4))))))
   (pss_one (ps_ret (pv 2)))))),
  ((vs_seq (vs_set (vo_val (vt_abs vt_var)))
   (vs_seq (vs_set (vo_val (vt_abs vt_var)))
   (vs_seq (vs_while (vtt_val (vt_ne vt_var vt_int)) (vs_seq (vs_set (vo_val (vt_mod vt_var vt_var)))
   (vs_seq (vs_set (vo_val vt_var))
   (vs_set (vo_val vt_var)))))
   (vs_ret (vo_val vt_var))))) : VS P0 _ b_greatest_divisor)⟩
abbrev s_number_of : Stmt := top 7
theorem sc_number_of : FnScope ["top", "bottom", "divisor"] ["top", "bottom"] (defScope s_number_of) := ⟨rfl, rfl, rfl, by decide +kernel, rfl, by decide +kernel, by decide +kernel⟩
theorem ok_number_of {P0 : Addr → Hp → Prop} {P : Program} {w : World} {K : PySem.W.Frag} {mg : Str → Option Value} {base : Heap} {f : Addr} {fd : FuncData} (F : Fun K "number_of" "number_of" s_number_of f fd) (B : Bl K mg) (Kt : Kit K)
  (c_greatest_divisor : Cal P w K mg base 1 "greatest_divisor" ["one", "other"] (spM P0 2 m_greatest_divisor))
  (c_is_whole : Cal P w K mg base 1 "is_whole" ["thing"] (spM P0 1 m_is_whole)) :
  FnOk P w K mg base CX0 2 f fd ["top", "bottom"] (spM P0 2 m_number_of) :=
 F.okV sc_number_of rfl rfl fun cdv A outer s H E hr =>
 have hu := hr.units
 ⟨_, (pss_cons (ps_if (PW.pt (pw_or (pt_not (pt_val (pe_callC c_is_whole hr rfl (pa_cons (pv 0) pa_nil)))) (pw_or (pt_not (pt_val (pe_callC c_is_whole hr rfl (pa_cons (pv 1) pa_nil)))) (pw_or1 (pt_cmpR (op_eqD hu) (pv 1) pe_int (nomark _)))))) (pss_one ps_never) pss_nil)
   (pss_cons (ps_set (i := 2) sc_number_of.nd rfl (by first | exact Or.inl rfl | exact Or.inr rfl) (pe_callC c_greatest_divisor hr rfl (pa_cons (pv 0) (pa_cons (pv 1) pa_nil))))
   (pss_cons (ps_if (pt_cmpR op_lt (pv 1) pe_int (nomark _)) (pss_one (ps_set (i := 2) sc_number_of.nd rfl (by first | exact Or.inl rfl | exact Or.inr rfl) (pe_un un_neg (pv 2)))) pss_nil)
   (pss_one (ps_ret (pe_tup (pa_cons (pe_op op_fdivX (pv 0) (pv 2)) (pa_cons (pe_op op_fdivX (pv 1) (pv 2)) pa_nil)))))))),
  ((vs_seq (vs_if (vtt_or (vtt_not (vtt_b (vt_pub (vo_call (va_val vt_var va_nil))))) (vtt_or (vtt_not (vtt_b (vt_pub (vo_call (va_val vt_var va_nil))))) (vtt_val (vt_eq vt_var vt_int)))) vs_never vs_nx)
   (vs_seq (vs_set (vo_val (vt_pub (vo_call (va_val vt_var (va_val vt_var va_nil))))))
   (vs_seq (vs_if (vtt_val (vt_lt vt_var vt_int)) (vs_set (vo_val (vt_neg vt_var))) vs_nx)
   (vs_ret (vo_val (vt_tup (vd_cons (vt_divX vt_var vt_var) (vd_cons (vt_divX vt_var vt_var) vd_nil)))))))) : VS P0 _ b_number_of)⟩
abbrev s_sum_of : Stmt := top 8
theorem sc_sum_of : FnScope ["a", "b"] ["a", "b"] (defScope s_sum_of) := ⟨rfl, rfl, rfl, by decide +kernel, rfl, by decide +kernel, by decide +kernel⟩
theorem ok_sum_of {P0 : Addr → Hp → Prop} {P : Program} {w : World} {K : PySem.W.Frag} {mg : Str → Option Value} {base : Heap} {f : Addr} {fd : FuncData} (F : Fun K "sum_of" "sum_of" s_sum_of f fd) (B : Bl K mg) (Kt : Kit K)
  (c_number_of : Cal P w K mg base 2 "number_of" ["top", "bottom"] (spM P0 2 m_number_of)) :
  FnOk P w K mg base CX0 3 f fd ["a", "b"] (spM P0 2 m_sum_of) :=
 F.okV sc_sum_of rfl rfl fun cdv A outer s H E hr =>
 have hu := hr.units
 ⟨_, (pss_one (ps_ret (pe_callC c_number_of hr rfl (pa_cons (pe_op op_add (pe_op op_mulX (pe_ix ix_seq (pv 0) pe_int (fun _ _ => rfl)) (pe_ix ix_seq (pv 1) pe_int (fun _ _ => rfl))) (pe_op op_mulX (pe_ix ix_seq (pv 1) pe_int (fun _ _ => rfl)) (pe_ix ix_seq (pv 0) pe_int (fun _ _ => rfl)))) (pa_cons (pe_op op_mulX (pe_ix ix_seq (pv 0) pe_int (fun _ _ => rfl)) (pe_ix ix_seq (pv 1) pe_int (fun _ _ => rfl))) pa_nil))))),
  ((vs_ret (vo_call (va_val (vt_add (vt_mul (vt_ix vt_var vt_int) (vt_ix vt_var vt_int)) (vt_mul (vt_ix vt_var vt_int) (vt_ix vt_var vt_int))) (va_val (vt_mul (vt_ix vt_var vt_int) (vt_ix vt_var vt_int)) va_nil)))) : VS P0 _ b_sum_of)⟩
abbrev s_difference_of : Stmt := top 9
theorem sc_difference_of : FnScope ["a", "b"] ["a", "b"] (defScope s_difference_of) := ⟨rfl, rfl, rfl, by decide +kernel, rfl, by decide +kernel, by decide +kernel⟩
theorem ok_difference_of {P0 : Addr → Hp → Prop} {P : Program} {w : World} {K : PySem.W.Frag} {mg : Str → Option Value} {base : Heap} {f : Addr} {fd : FuncData} (F : Fun K "difference_of" "difference_of" s_difference_of f fd) (B : Bl K mg) (Kt : Kit K)
  (c_number_of : Cal P w K mg base 2 "number_of" ["top", "bottom"] (spM P0 2 m_number_of)) :
  FnOk P w K mg base CX0 3 f fd ["a", "b"] (spM P0 2 m_difference_of) :=
 F.okV sc_difference_of rfl rfl fun cdv A outer s H E hr =>
 have hu := hr.units
 ⟨_, (pss_one (ps_ret (pe_callC c_number_of hr rfl (pa_cons (pe_op op_sub (pe_op op_mulX (pe_ix ix_seq (pv 0) pe_int (fun _ _ => rfl)) (pe_ix ix_seq (pv 1) pe_int (fun _ _ => rfl))) (pe_op op_mulX (pe_ix ix_seq (pv 1) pe_int (fun _ _ => rfl)) (pe_ix ix_seq (pv 0) pe_int (fun _ _ => rfl)))) (pa_cons (pe_op op_mulX (pe_ix ix_seq (pv 0) pe_int (fun _ _ => rfl)) (pe_ix ix_seq (pv 1) pe_int (fun _ _ => rfl))) pa_nil))))),
  ((vs_ret (vo_call (va_val (vt_sub (vt_mul (vt_ix vt_var vt_int) (vt_ix vt_var vt_int)) (vt_mul (vt_ix vt_var vt_int) (vt_ix vt_var vt_int))) (va_val (vt_mul (vt_ix vt_var vt_int) (vt_ix vt_var vt_int)) va_nil)))) : VS P0 _ b_difference_of)⟩
abbrev s_product_of : Stmt := top 10
theorem sc_product_of : FnScope ["a", "b"] ["a", "b"] (defScope s_product_of) := ⟨rfl, rfl, rfl, by decide +kernel, rfl, by decide +kernel, by decide +kernel⟩
theorem ok_product_of {P0 : Addr → Hp → Prop} {P : Program} {w : World} {K : PySem.W.Frag} {mg : Str → Option Value} {base : Heap} {f : Addr} {fd : FuncData} (F : Fun K "product_of" "product_of" s_product_of f fd) (B : Bl K mg) (Kt : Kit K)
  (c_number_of : Cal P w K mg base 2 "number_of" ["top", "bottom"] (spM P0 2 m_number_of)) :
  FnOk P w K mg base CX0 3 f fd ["a", "b"] (spM P0 2 m_product_of) :=
 F.okV sc_product_of rfl rfl fun cdv A outer s H E hr =>
 have hu := hr.units
 ⟨_, (pss_one (ps_ret (pe_callC c_number_of hr rfl (pa_cons (pe_op op_mulX (pe_ix ix_seq (pv 0) pe_int (fun _ _ => rfl)) (pe_ix ix_seq (pv 1) pe_int (fun _ _ => rfl))) (pa_cons (pe_op op_mulX (pe_ix ix_seq (pv 0) pe_int (fun _ _ => rfl)) (pe_ix ix_seq (pv 1) pe_int (fun _ _ => rfl))) pa_nil))))),
  ((vs_ret (vo_call (va_val (vt_mul (vt_ix vt_var vt_int) (vt_ix vt_var vt_int)) (va_val (vt_mul (vt_ix vt_var vt_int) (vt_ix vt_var vt_int)) va_nil)))) : VS P0 _ b_product_of)⟩
abbrev s_quotient_of : Stmt := top 11
theorem sc_quotient_of : FnScope ["a", "b"] ["a", "b"] (defScope s_quotient_of) := ⟨rfl, rfl, rfl, by decide +kernel, rfl, by decide +kernel, by decide +kernel⟩
theorem ok_quotient_of {P0 : Addr → Hp → Prop} {P : Program} {w : World} {K : PySem.W.Frag} {mg : Str → Option Value} {base : Heap} {f : Addr} {fd : FuncData} (F : Fun K "quotient_of" "quotient_of" s_quotient_of f fd) (B : Bl K mg) (Kt : Kit K)
  (c_number_of : Cal P w K mg base 2 "number_of" ["top", "bottom"] (spM P0 2 m_number_of)) :
  FnOk P w K mg base CX0 3 f fd ["a", "b"] (spM P0 2 m_quotient_of) :=
 F.okV sc_quotient_of rfl rfl fun cdv A outer s H E hr =>
 have hu := hr.units
 ⟨_, (pss_one (ps_ret (pe_callC c_number_of hr rfl (pa_cons (pe_op op_mulX (pe_ix ix_seq (pv 0) pe_int (fun _ _ => rfl)) (pe_ix ix_seq (pv 1) pe_int (fun _ _ => rfl))) (pa_cons (pe_op op_mulX (pe_ix ix_seq (pv 0) pe_int (fun _ _ => rfl)) (pe_ix ix_seq (pv 1) pe_int (fun _ _ => rfl))) pa_nil))))),
  ((vs_ret (vo_call (va_val (vt_mul (vt_ix vt_var vt_int) (vt_ix vt_var vt_int)) (va_val (vt_mul (vt_ix vt_var vt_int) (vt_ix vt_var vt_int)) va_nil)))) : VS P0 _ b_quotient_of)⟩
abbrev s_is_less : Stmt := top 12
theorem sc_is_less : FnScope ["a", "b"] ["a", "b"] (defScope s_is_less) := ⟨rfl, rfl, rfl, by decide +kernel, rfl, by decide +kernel, by decide +kernel⟩
theorem ok_is_less {P0 : Addr → Hp → Prop} {P : Program} {w : World} {K : PySem.W.Frag} {mg : Str → Option Value} {base : Heap} {f : Addr} {fd : FuncData} (F : Fun K "is_less" "is_less" s_is_less f fd) (B : Bl K mg) (Kt : Kit K) :
  FnOk P w K mg base CX0 1 f fd ["a", "b"] (spM P0 2 m_is_less) :=
 F.okV sc_is_less rfl rfl fun cdv A outer s H E hr =>
 have hu := hr.units
 ⟨_, (pss_one (ps_ret (pe_cmpR op_lt (pe_op op_mulX (pe_ix ix_seq (pv 0) pe_int (fun _ _ => rfl)) (pe_ix ix_seq (pv 1) pe_int (fun _ _ => rfl))) (pe_op op_mulX (pe_ix ix_seq (pv 1) pe_int (fun _ _ => rfl)) (pe_ix ix_seq (pv 0) pe_int (fun _ _ => rfl))) (nomark _)))),
  ((vs_ret (vo_val (vt_lt (vt_mul (vt_ix vt_var vt_int) (vt_ix vt_var vt_int)) (vt_mul (vt_ix vt_var vt_int) (vt_ix vt_var vt_int))))) : VS P0 _ b_is_less)⟩
abbrev s_place_at : Stmt := top 14
theorem sc_place_at : FnScope ["line", "time"] ["line", "time"] (defScope s_place_at) := ⟨rfl, rfl, rfl, by decide +kernel, rfl, by decide +kernel, by decide +kernel⟩
theorem ok_place_at {P0 : Addr → Hp → Prop} {P : Program} {w : World} {K : PySem.W.Frag} {mg : Str → Option Value} {base : Heap} {f : Addr} {fd : FuncData} (F : Fun K "place_at" "place_at" s_place_at f fd) (B : Bl K mg) (Kt : Kit K)
  (c_sum_of : Cal P w K mg base 3 "sum_of" ["a", "b"] (spM P0 2 m_sum_of))
  (c_product_of : Cal P w K mg base 3 "product_of" ["a", "b"] (spM P0 2 m_product_of)) :
  FnOk P w K mg base CX0 4 f fd ["line", "time"] (spM P0 2 m_place_at) :=
 F.okV sc_place_at rfl rfl fun cdv A outer s H E hr =>
 have hu := hr.units
 ⟨_, (pss_one (ps_ret (pe_callC c_sum_of hr rfl (pa_cons (pe_ix ix_seq (pv 0) pe_int (fun _ _ => rfl)) (pa_cons (pe_callC c_product_of hr rfl (pa_cons (pe_ix ix_seq (pv 0) pe_int (fun _ _ => rfl)) (pa_cons (pv 1) pa_nil))) pa_nil))))),
  ((vs_ret (vo_call (va_val (vt_ix vt_var vt_int) (va_val (vt_pub (vo_call (va_val (vt_ix vt_var vt_int) (va_val vt_var va_nil)))) va_nil)))) : VS P0 _ b_place_at)⟩
abbrev s_meeting : Stmt := top 15
theorem sc_meeting : FnScope ["one", "other", "gap", "closing"] ["one", "other"] (defScope s_meeting) := ⟨rfl, rfl, rfl, by decide +kernel, rfl, by decide +kernel, by decide +kernel⟩
theorem ok_meeting {P0 : Addr → Hp → Prop} {P : Program} {w : World} {K : PySem.W.Frag} {mg : Str → Option Value} {base : Heap} {f : Addr} {fd : FuncData} (F : Fun K "meeting" "meeting" s_meeting f fd) (B : Bl K mg) (Kt : Kit K)
  (c_quotient_of : Cal P w K mg base 3 "quotient_of" ["a", "b"] (spM P0 2 m_quotient_of))
  (c_difference_of : Cal P w K mg base 3 "difference_of" ["a", "b"] (spM P0 2 m_difference_of)) :
  FnOk P w K mg base CX0 4 f fd ["one", "other"] (spM P0 2 m_meeting) :=
 F.okV sc_meeting rfl rfl fun cdv A outer s H E hr =>
 have hu := hr.units
 ⟨_, (pss_cons (ps_if (pt_cmpR (op_eqD hu) (pe_ix ix_seq (pv 0) pe_int (fun _ _ => rfl)) (pe_ix ix_seq (pv 1) pe_int (fun _ _ => rfl)) (nomark _)) (pss_one (ps_ret (pe_ifExp (pt_cmpR (op_eqD hu) (pe_ix ix_seq (pv 0) pe_int (fun _ _ => rfl)) (pe_ix ix_seq (pv 1) pe_int (fun _ _ => rfl)) (nomark _)) (pe_tup (pa_cons pe_str pa_nil)) (pe_tup (pa_cons pe_str pa_nil))))) pss_nil)
   (pss_cons (ps_set (i := 2) sc_meeting.nd rfl (by first | exact Or.inl rfl | exact Or.inr rfl) (pe_callC c_difference_of hr rfl (pa_cons (pe_ix ix_seq (pv 1) pe_int (fun _ _ => rfl)) (pa_cons (pe_ix ix_seq (pv 0) pe_int (fun _ _ => rfl)) pa_nil))))
   (pss_cons (ps_set (i := 3) sc_meeting.nd rfl (by first | exact Or.inl rfl | exact Or.inr rfl) (pe_callC c_difference_of hr rfl (pa_cons (pe_ix ix_seq (pv 0) pe_int (fun _ _ => rfl)) (pa_cons (pe_ix ix_seq (pv 1) pe_int (fun _ _ => rfl)) pa_nil))))
   (pss_one (ps_ret (pe_tup (pa_cons pe_str (pa_cons (pe_callC c_quotient_of hr rfl (pa_cons (pv 2) (pa_cons (pv 3) pa_nil))) pa_nil)))))))),
  ((vs_seq (vs_if (vtt_val (vt_eq (vt_ix vt_var vt_int) (vt_ix vt_var vt_int))) (vs_ret (vo_ifE (vtt_val (vt_eq (vt_ix vt_var vt_int) (vt_ix vt_var vt_int))) (vo_val (vt_tup (vd_cons vt_str vd_nil))) (vo_val (vt_tup (vd_cons vt_str vd_nil))))) vs_nx)
   (vs_seq (vs_set (vo_val (vt_pub (vo_call (va_val (vt_ix vt_var vt_int) (va_val (vt_ix vt_var vt_int) va_nil))))))
   (vs_seq (vs_set (vo_val (vt_pub (vo_call (va_val (vt_ix vt_var vt_int) (va_val (vt_ix vt_var vt_int) va_nil))))))
   (vs_ret (vo_val (vt_tup (vd_cons vt_str (vd_cons (vt_pub (vo_call (va_val vt_var (va_val vt_var va_nil)))) vd_nil)))))))) : VS P0 _ b_meeting)⟩
abbrev s_standing : Stmt := top 16
theorem sc_standing : FnScope ["lines", "runner", "time"] ["lines", "runner", "time"] (defScope s_standing) := ⟨rfl, rfl, rfl, by decide +kernel, rfl, by decide +kernel, by decide +kernel⟩
theorem ok_standing {P0 : Addr → Hp → Prop} {P : Program} {w : World} {K : PySem.W.Frag} {mg : Str → Option Value} {base : Heap} {f : Addr} {fd : FuncData} (F : Fun K "standing" "standing" s_standing f fd) (B : Bl K mg) (Kt : Kit K)
  (c_place_at : Cal P w K mg base 4 "place_at" ["line", "time"] (spM P0 2 m_place_at)) :
  FnOk P w K mg base CX0 5 f fd ["lines", "runner", "time"] (spM P0 3 m_standing) :=
 F.okV sc_standing rfl rfl fun cdv A outer s H E hr =>
 have hu := hr.units
 ⟨_, (pss_one (ps_ret (pe_tup (pa_cons (pe_callC c_place_at hr rfl (pa_cons (pe_ix ix_seq (pv 0) (pv 1) (fun _ _ => rfl)) (pa_cons (pv 2) pa_nil))) (pa_cons (pe_ix ix_seq (pe_ix ix_seq (pv 0) (pv 1) (fun _ _ => rfl)) pe_int (fun _ _ => rfl)) (pa_cons (pv 1) pa_nil)))))),
  ((vs_ret (vo_val (vt_tup (vd_cons (vt_pub (vo_call (va_val (vt_ix vt_var vt_var) (va_val vt_var va_nil)))) (vd_cons (vt_ix (vt_ix vt_var vt_var) vt_int) (vd_cons vt_var vd_nil)))))) : VS P0 _ b_standing)⟩
abbrev s_stands_ahead : Stmt := top 17
theorem sc_stands_ahead : FnScope ["one", "other"] ["one", "other"] (defScope s_stands_ahead) := ⟨rfl, rfl, rfl, by decide +kernel, rfl, by decide +kernel, by decide +kernel⟩
theorem ok_stands_ahead {P0 : Addr → Hp → Prop} {P : Program} {w : World} {K : PySem.W.Frag} {mg : Str → Option Value} {base : Heap} {f : Addr} {fd : FuncData} (F : Fun K "stands_ahead" "stands_ahead" s_stands_ahead f fd) (B : Bl K mg) (Kt : Kit K)
  (c_is_less : Cal P w K mg base 1 "is_less" ["a", "b"] (spM P0 2 m_is_less)) :
  FnOk P w K mg base CX0 2 f fd ["one", "other"] (spM P0 2 m_stands_ahead) :=
 F.okV sc_stands_ahead rfl rfl fun cdv A outer s H E hr =>
 have hu := hr.units
 ⟨_, (pss_cons (ps_if (pt_cmpR (op_neD hu) (pe_ix ix_seq (pv 0) pe_int (fun _ _ => rfl)) (pe_ix ix_seq (pv 1) pe_int (fun _ _ => rfl)) (nomark _)) (pss_one (ps_ret (pe_callC c_is_less hr rfl (pa_cons (pe_ix ix_seq (pv 1) pe_int (fun _ _ => rfl)) (pa_cons (pe_ix ix_seq (pv 0) pe_int (fun _ _ => rfl)) pa_nil))))) pss_nil)
   (pss_cons (ps_if (pt_cmpR (op_neD hu) (pe_ix ix_seq (pv 0) pe_int (fun _ _ => rfl)) (pe_ix ix_seq (pv 1) pe_int (fun _ _ => rfl)) (nomark _)) (pss_one (ps_ret (pe_callC c_is_less hr rfl (pa_cons (pe_ix ix_seq (pv 1) pe_int (fun _ _ => rfl)) (pa_cons (pe_ix ix_seq (pv 0) pe_int (fun _ _ => rfl)) pa_nil))))) pss_nil)
   (pss_one (ps_ret (pe_cmpR op_lt (pe_ix ix_seq (pv 0) pe_int (fun _ _ => rfl)) (pe_ix ix_seq (pv 1) pe_int (fun _ _ => rfl)) (nomark _)))))),
  ((vs_seq (vs_if (vtt_val (vt_ne (vt_ix vt_var vt_int) (vt_ix vt_var vt_int))) (vs_ret (vo_call (va_val (vt_ix vt_var vt_int) (va_val (vt_ix vt_var vt_int) va_nil)))) vs_nx)
   (vs_seq (vs_if (vtt_val (vt_ne (vt_ix vt_var vt_int) (vt_ix vt_var vt_int))) (vs_ret (vo_call (va_val (vt_ix vt_var vt_int) (va_val (vt_ix vt_var vt_int) va_nil)))) vs_nx)
   (vs_ret (vo_val (vt_lt (vt_ix vt_var vt_int) (vt_ix vt_var vt_int)))))) : VS P0 _ b_stands_ahead)⟩
abbrev s_is_ahead : Stmt := top 18
theorem sc_is_ahead : FnScope ["lines", "one", "other", "time"] ["lines", "one", "other", "time"] (defScope s_is_ahead) := ⟨rfl, rfl, rfl, by decide +kernel, rfl, by decide +kernel, by decide +kernel⟩
theorem ok_is_ahead {P0 : Addr → Hp → Prop} {P : Program} {w : World} {K : PySem.W.Frag} {mg : Str → Option Value} {base : Heap} {f : Addr} {fd : FuncData} (F : Fun K "is_ahead" "is_ahead" s_is_ahead f fd) (B : Bl K mg) (Kt : Kit K)
  (c_stands_ahead : Cal P w K mg base 2 "stands_ahead" ["one", "other"] (spM P0 2 m_stands_ahead))
  (c_standing : Cal P w K mg base 5 "standing" ["lines", "runner", "time"] (spM P0 3 m_standing)) :
  FnOk P w K mg base CX0 6 f fd ["lines", "one", "other", "time"] (spM P0 4 m_is_ahead) :=
 F.okV sc_is_ahead rfl rfl fun cdv A outer s H E hr =>
 have hu := hr.units
 ⟨_, (pss_one (ps_ret (pe_callC c_stands_ahead hr rfl (pa_cons (pe_callC c_standing hr rfl (pa_cons (pv 0) (pa_cons (pv 1) (pa_cons (pv 3) pa_nil)))) (pa_cons (pe_callC c_standing hr rfl (pa_cons (pv 0) (pa_cons (pv 2) (pa_cons (pv 3) pa_nil)))) pa_nil))))),
  ((vs_ret (vo_call (va_val (vt_pub (vo_call (va_val vt_var (va_val vt_var (va_val vt_var va_nil))))) (va_val (vt_pub (vo_call (va_val vt_var (va_val vt_var (va_val vt_var va_nil))))) va_nil)))) : VS P0 _ b_is_ahead)⟩
abbrev s_next_change : Stmt := top 19
theorem sc_next_change : FnScope ["lines", "one", "other", "time", "met"] ["lines", "one", "other", "time"] (defScope s_next_change) := ⟨rfl, rfl, rfl, by decide +kernel, rfl, by decide +kernel, by decide +kernel⟩
theorem ok_next_change {P0 : Addr → Hp → Prop} {P : Program} {w : World} {K : PySem.W.Frag} {mg : Str → Option Value} {base : Heap} {f : Addr} {fd : FuncData} (F : Fun K "next_change" "next_change" s_next_change f fd) (B : Bl K mg) (Kt : Kit K)
  (c_is_less : Cal P w K mg base 1 "is_less" ["a", "b"] (spM P0 2 m_is_less))
  (c_meeting : Cal P w K mg base 4 "meeting" ["one", "other"] (spM P0 2 m_meeting)) :
  FnOk P w K mg base CX0 5 f fd ["lines", "one", "other", "time"] (spM P0 4 m_next_change) :=
 F.okV sc_next_change rfl rfl fun cdv A outer s H E hr =>
 have hu := hr.units
 ⟨_, (pss_cons (ps_set (i := 4) sc_next_change.nd rfl (by first | exact Or.inl rfl | exact Or.inr rfl) (pe_callC c_meeting hr rfl (pa_cons (pe_ix ix_seq (pv 0) (pv 1) (fun _ _ => rfl)) (pa_cons (pe_ix ix_seq (pv 0) (pv 2) (fun _ _ => rfl)) pa_nil))))
   (pss_cons (ps_if (PW.pt (pw_and (pt_cmpR (op_eqD hu) (pe_ix ix_seq (pv 4) pe_int (fun _ _ => rfl)) pe_str (nomark _)) (pw_and1 (pt_val (pe_callC c_is_less hr rfl (pa_cons (pv 3) (pa_cons (pe_ix ix_seq (pv 4) pe_int (fun _ _ => rfl)) pa_nil))))))) (pss_one (ps_ret (pe_ix ix_seq (pv 4) pe_int (fun _ _ => rfl)))) pss_nil)
   (pss_one (ps_ret pe_non)))),
  ((vs_seq (vs_set (vo_val (vt_pub (vo_call (va_val (vt_ix vt_var vt_var) (va_val (vt_ix vt_var vt_var) va_nil))))))
   (vs_seq (vs_if (vtt_and (vtt_val (vt_eq (vt_ix vt_var vt_int) vt_str)) (vtt_b (vt_pub (vo_call (va_val vt_var (va_val (vt_ix vt_var vt_int) va_nil)))))) (vs_ret (vo_val (vt_ix vt_var vt_int))) vs_nx)
   (vs_ret (vo_val vt_non)))) : VS P0 _ b_next_change)⟩
abbrev s_order_among : Stmt := top 21
theorem sc_order_among : FnScope ["lines", "runners", "time", "order", "runner", "stand", "at"] ["lines", "runners", "time"] (defScope s_order_among) := ⟨rfl, rfl, rfl, by decide +kernel, rfl, by decide +kernel, by decide +kernel⟩
theorem ok_order_among {P0 : Addr → Hp → Prop} {P : Program} {w : World} {K : PySem.W.Frag} {mg : Str → Option Value} {base : Heap} {f : Addr} {fd : FuncData} (F : Fun K "order_among" "order_among" s_order_among f fd) (B : Bl K mg) (Kt : Kit K)
  (c_stands_ahead : Cal P w K mg base 2 "stands_ahead" ["one", "other"] (spM P0 2 m_stands_ahead))
  (c_standing : Cal P w K mg base 5 "standing" ["lines", "runner", "time"] (spM P0 3 m_standing)) :
  FnOk P w K mg base CX0 6 f fd ["lines", "runners", "time"] (spM P0 3 m_order_among) :=
 F.okV sc_order_among rfl rfl fun cdv A outer s H E hr =>
 have hu := hr.units
 ⟨_, (pss_cons (ps_set (i := 3) sc_order_among.nd rfl (by first | exact Or.inl rfl | exact Or.inr rfl) (pe_lst pa_nil))
   (pss_cons (ps_for PassesOwn.never rfl (pi_list (pv 1)) (pg_name (i := 4) sc_order_among.nd rfl (by first | exact Or.inl rfl | exact Or.inr rfl)) (pss_cons (ps_set (i := 5) sc_order_among.nd rfl (by first | exact Or.inl rfl | exact Or.inr rfl) (pe_callC c_standing hr rfl (pa_cons (pv 0) (pa_cons (pv 4) (pa_cons (pv 2) pa_nil)))))
   (pss_cons (ps_set (i := 6) sc_order_among.nd rfl (by first | exact Or.inl rfl | exact Or.inr rfl) pe_int)
   (pss_cons (ps_while PassesOwn.never (PW.pt (pw_and (pt_cmpR op_lt (pv 6) (pe_callB call_len_seq rfl B.len_ boot_len (pa_cons (pv 3) pa_nil)) (nomark _)) (pw_and1 (pt_val (pe_callC c_stands_ahead hr rfl (pa_cons (pe_ix ix_seq (pv 3) (pv 6) (fun _ _ => rfl)) (pa_cons (pv 5) pa_nil))))))) (pss_one (ps_aug (i := 6) sc_order_among.nd rfl (by first | exact Or.inl rfl | exact Or.inr rfl) pe_int ip_add)))
   (pss_one (ps_expr (pe_bm PySem.F.plainAttrs_list PySem.F.slot_list_insert PySem.F.type_list_insert mt_insert (pv 3) (pa_cons (pv 6) (pa_cons (pv 5) pa_nil)))))))))
   (pss_one (ps_ret (pe_lcomp (N := ["stand"]) (nt := 1) (fv := []) rfl (blk_of (osc := defScope s_order_among) (ON := ["lines", "runners", "time", "order", "runner", "stand", "at"]) (by decide +kernel)) (pi_list (pv 3)) (fun _ _ _ _ => (pg_name (i := 0) (show (["stand"] : List Str).Nodup by decide +kernel) rfl (by first | exact Or.inl rfl | exact Or.inr rfl))) (fun _ _ _ _ => pts_nil) (fun _ _ _ _ => (pe_ix ix_seq (pv 0) pe_int (fun _ _ => rfl)))))))),
  ((vs_seq (vs_set (vo_lst vd_nil))
   (vs_seq (vs_for (vi_list vt_var) vg_name (vs_seq (vs_set (vo_val (vt_pub (vo_call (va_val vt_var (va_val vt_var (va_val vt_var va_nil)))))))
   (vs_seq (vs_set (vo_val vt_int))
   (vs_seq (vs_while (vtt_peek (vtt_and (vtt_val (vt_lt vt_var (vt_len vt_var))) (vtt_b (vt_pub (vo_call (va_val (vt_ix vt_var vt_var) (va_val vt_var va_nil))))))) (vs_aug vt_int))
   (vs_insert vt_var vt_var)))))
   (vs_pub (vs_ret (vo_comp (vi_list vt_var) vg_name vtt_true (vt_ix vt_var vt_int)))))) : VS P0 _ b_order_among)⟩
abbrev s_order_at : Stmt := top 22
theorem sc_order_at : FnScope ["lines", "time"] ["lines", "time"] (defScope s_order_at) := ⟨rfl, rfl, rfl, by decide +kernel, rfl, by decide +kernel, by decide +kernel⟩
theorem ok_order_at {P0 : Addr → Hp → Prop} {P : Program} {w : World} {K : PySem.W.Frag} {mg : Str → Option Value} {base : Heap} {f : Addr} {fd : FuncData} (F : Fun K "order_at" "order_at" s_order_at f fd) (B : Bl K mg) (Kt : Kit K)
  (c_order_among : Cal P w K mg base 6 "order_among" ["lines", "runners", "time"] (spM P0 3 m_order_among)) :
  FnOk P w K mg base CX0 7 f fd ["lines", "time"] (spM P0 2 m_order_at) :=
 F.okV sc_order_at rfl rfl fun cdv A outer s H E hr =>
 have hu := hr.units
 ⟨_, (pss_one (ps_ret (pe_callC c_order_among hr rfl (pa_cons (pv 0) (pa_cons (pe_callTy (call_list_rng rfl) rfl B.list_ boot_list (pa_cons (pe_callTy call_range1R rfl B.range_ boot_range (pa_cons (pe_callB call_len_seq rfl B.len_ boot_len (pa_cons (pv 0) pa_nil)) pa_nil)) pa_nil)) (pa_cons (pv 1) pa_nil)))))),
  ((vs_ret (vo_call (va_val vt_var (va_val (vt_pub (vo_listRng (vt_len vt_var))) (va_val vt_var va_nil))))) : VS P0 _ b_order_at)⟩
abbrev s_neighbours : Stmt := top 23
theorem sc_neighbours : FnScope ["order"] ["order"] (defScope s_neighbours) := ⟨rfl, rfl, rfl, by decide +kernel, rfl, by decide +kernel, by decide +kernel⟩
theorem ok_neighbours {P0 : Addr → Hp → Prop} {P : Program} {w : World} {K : PySem.W.Frag} {mg : Str → Option Value} {base : Heap} {f : Addr} {fd : FuncData} (F : Fun K "neighbours" "neighbours" s_neighbours f fd) (B : Bl K mg) (Kt : Kit K) :
  FnOk P w K mg base CX0 1 f fd ["order"] (spM P0 1 m_neighbours) :=
 F.okV sc_neighbours rfl rfl fun cdv A outer s H E hr =>
 have hu := hr.units
 ⟨_, (pss_one (ps_ret (pe_listZip rfl rfl B.list_ rfl B.zip_ (pa_cons (pv 0) (pa_cons (pe_slice sl_list (pv 0) (po_some pe_int) po_none) pa_nil))))),
  ((vs_ret (vo_listZip vt_var (vt_pub (vo_slL vt_var (vp_so vt_int) vp_no)))) : VS P0 _ b_neighbours)⟩
abbrev s_till_of : Stmt := top 25
theorem sc_till_of : FnScope ["lines", "one", "other", "time"] ["lines", "one", "other", "time"] (defScope s_till_of) := ⟨rfl, rfl, rfl, by decide +kernel, rfl, by decide +kernel, by decide +kernel⟩
theorem ok_till_of {P0 : Addr → Hp → Prop} {P : Program} {w : World} {K : PySem.W.Frag} {mg : Str → Option Value} {base : Heap} {f : Addr} {fd : FuncData} (F : Fun K "till_of" "till_of" s_till_of f fd) (B : Bl K mg) (Kt : Kit K)
  (c_next_change : Cal P w K mg base 5 "next_change" ["lines", "one", "other", "time"] (spM P0 4 m_next_change))
  (c_is_ahead : Cal P w K mg base 6 "is_ahead" ["lines", "one", "other", "time"] (spM P0 4 m_is_ahead)) :
  FnOk P w K mg base CX0 7 f fd ["lines", "one", "other", "time"] (spM P0 4 m_till_of) :=
 F.okV sc_till_of rfl rfl fun cdv A outer s H E hr =>
 have hu := hr.units
 ⟨_, (pss_cons (ps_if (pt_val (pe_callC c_is_ahead hr rfl (pa_cons (pv 0) (pa_cons (pv 2) (pa_cons (pv 1) (pa_cons (pv 3) pa_nil)))))) (pss_one (ps_ret (pv 3))) pss_nil)
   (pss_one (ps_ret (pe_callC c_next_change hr rfl (pa_cons (pv 0) (pa_cons (pv 1) (pa_cons (pv 2) (pa_cons (pv 3) pa_nil)))))))),
  ((vs_seq (vs_if (vtt_b (vt_pub (vo_call (va_val vt_var (va_val vt_var (va_val vt_var (va_val vt_var va_nil))))))) (vs_ret (vo_val vt_var)) vs_nx)
   (vs_ret (vo_call (va_val vt_var (va_val vt_var (va_val vt_var (va_val vt_var va_nil))))))) : VS P0 _ b_till_of)⟩
abbrev s_papers_among : Stmt := top 26
theorem sc_papers_among : FnScope ["lines", "order", "time", "pair"] ["lines", "order", "time"] (defScope s_papers_among) := ⟨rfl, rfl, rfl, by decide +kernel, rfl, by decide +kernel, by decide +kernel⟩
theorem ok_papers_among {P0 : Addr → Hp → Prop} {P : Program} {w : World} {K : PySem.W.Frag} {mg : Str → Option Value} {base : Heap} {f : Addr} {fd : FuncData} (F : Fun K "papers_among" "papers_among" s_papers_among f fd) (B : Bl K mg) (Kt : Kit K)
  (c_neighbours : Cal P w K mg base 1 "neighbours" ["order"] (spM P0 1 m_neighbours))
  (c_till_of : Cal P w K mg base 7 "till_of" ["lines", "one", "other", "time"] (spM P0 4 m_till_of)) :
  FnOk P w K mg base CX0 8 f fd ["lines", "order", "time"] (spM P0 3 m_papers_among) :=
 F.okV sc_papers_among rfl rfl fun cdv A outer s H E hr =>
 have hu := hr.units
 ⟨_, (pss_one (ps_ret (pe_lcomp (N := ["pair", "lines", "time"]) (nt := 1) (fv := [0, 2]) rfl (blk_of (osc := defScope s_papers_among) (ON := ["lines", "order", "time", "pair"]) (by decide +kernel)) (pi_list (pe_callC c_neighbours hr rfl (pa_cons (pv 1) pa_nil))) (fun _ _ _ _ => (pg_name (i := 0) (show (["pair", "lines", "time"] : List Str).Nodup by decide +kernel) rfl (by first | exact Or.inl rfl | exact Or.inr rfl))) (fun _ _ _ _ => pts_nil) (fun _ _ _ _ => (pe_tup (pa_cons (pe_ix ix_seq (pv 0) pe_int (fun _ _ => rfl)) (pa_cons (pe_ix ix_seq (pv 0) pe_int (fun _ _ => rfl)) (pa_cons (pe_callC c_till_of hr rfl (pa_cons (pv 1) (pa_cons (pe_ix ix_seq (pv 0) pe_int (fun _ _ => rfl)) (pa_cons (pe_ix ix_seq (pv 0) pe_int (fun _ _ => rfl)) (pa_cons (pv 2) pa_nil))))) pa_nil)))))))),
  ((vs_ret (vo_comp (vi_list (vt_pub (vo_call (va_val vt_var va_nil)))) vg_name vtt_true (vt_tup (vd_cons (vt_ix vt_var vt_int) (vd_cons (vt_ix vt_var vt_int) (vd_cons (vt_pub (vo_call (va_val vt_var (va_val (vt_ix vt_var vt_int) (va_val (vt_ix vt_var vt_int) (va_val vt_var va_nil)))))) vd_nil)))))) : VS P0 _ b_papers_among)⟩
theorem ne_of_none' {H : Hp} {a b : Addr} {o : HO} (h : H a = some o) (g : H b = none) : b ≠ a := fun z => by rw [z, h] at g; cases g
abbrev s_w_init : Stmt := inClass (top 28) 0
theorem sc_w_init : FnScope ["self", "lines", "time"] ["self", "lines", "time"] (defScope s_w_init) := ⟨rfl, rfl, rfl, by decide +kernel, rfl, by decide +kernel, by decide +kernel⟩
theorem okh_w_init {P0 : Addr → Hp → Prop} {P : Program} {w : World} {K : PySem.W.Frag} {mg : Str → Option Value} {base : Heap} {f : Addr} {fd : FuncData} {c : Addr} (cl : Cls K c) (n_lines : NoAttr K c "lines") (n_now : NoAttr K c "now") (n_listed : NoAttr K c "listed") (F : Fun K "__init__" "Walk.__init__" s_w_init f fd) (B : Bl K mg)
  (c_order_at : Cal P w K mg base 7 "order_at" ["lines", "time"] (spM P0 2 m_order_at)) :
  FnOk P w K mg base CX0 8 f fd ["self", "lines", "time"] (spInitWk P0 c m_order_at) := by
 refine F.ok sc_w_init (fun vs H Q E h => ?_) (fun cdv A outer s H vs Q E hr h => ?_)
 ·obtain ⟨F0, w, d, l, t, ls, tm, os, rfl, _⟩ := h
  rfl
 have hu := hr.units
 obtain ⟨F0, w, d, l, t, ls, tm, os, rfl, hH, rf, gw, gd, hdw, hw, hd, dl, dt, hl, z1, z2, z3, hf, q⟩ := h
 refine ⟨_, (pss_cons (ps_fld (pv 0) (pe_callTy call_list_of rfl B.list_ boot_list (pa_cons (pv 1) pa_nil)) rfl) (pss_cons (ps_fld (pv 0) (pv 2) rfl) (pss_one (ps_fld (pv 0) (pe_callC c_order_at hr rfl (pa_cons (pv 1) (pa_cons (pv 2) pa_nil))) rfl)))), ?_⟩
 cases dl with
 | @lst pl us _ hpl rs =>
 have hplH := rf.sub _ _ hpl
 have Fw : F0.H0 w = none := by rw [hH, if_pos (.inl rfl)]
 have Fd : F0.H0 d = none := by rw [hH, if_pos (.inr rfl)]
 refine ⟨_, rfl, _, us, rfl, .inl (SqL.of hplH), fun ll hll => ?_⟩
 have lw : ll ≠ w := ne_of_none' hw hll
 have ld : ll ≠ d := ne_of_none' hd hll
 refine ⟨_, rfl, w, c, d, [], rfl, by rw [upd_ne (Ne.symm lw)]; exact hw, cl, n_lines, by decide, ?_⟩
 refine ⟨_, rfl, _, rfl, w, c, d, _, rfl, upd_same, cl, n_now, (by show 1 < 1000; decide), ?_⟩
 generalize hH3 : upd (upd (upd H ll (.lst us)) w (.ins c d (putF "lines" (.ref ll) []))) w (.ins c d (putF "now" t (putF "lines" (.ref ll) []))) = H3
 have h3w : H3 w = some (.ins c d [("lines", .ref ll), ("now", t)]) := by rw [← hH3]; exact upd_same
 have h3o : ∀ b, b ≠ w → b ≠ ll → H3 b = H b := fun b h1 h2 => by rw [← hH3, upd_ne h1, upd_ne h1, upd_ne h2]
 have h3l : H3 ll = some (.lst us) := by rw [← hH3, upd_ne lw, upd_ne lw]; exact upd_same
 have h3s : ∀ b o, H b = some o → b ≠ w → H3 b = some o := fun b o e h1 => by rw [h3o b h1 (ne_of_none e hll)]; exact e
 have f0 : ∀ b o, F0.H0 b = some o → b ≠ w ∧ H b = some o := fun b o e => by
  rw [hH] at e
  split at e
  ·cases e
  ·rename_i hn
   exact ⟨fun z => hn (.inl z), e⟩
 have rf3 : Rf F0 F0.G0 H3 := by
  refine ⟨fun b o e => h3s b o (rf.sub b o e) (fun z => by rw [z, gw] at e; cases e), fun _ _ _ => rfl, fun b o e _ => h3s b o (f0 b o e).2 (f0 b o e).1, F0.stab' H H3 (fun b o e => ?_) rf.pn⟩
  rw [h3s b o (f0 b o e).2 (f0 b o e).1, (f0 b o e).2]
 refine ⟨_, rfl, _, rfl, F0.sub rf3, [.val (.list ls), .val tm], fun rv => rv = .own os, rfl, F0.subRf rf3, .cons (show Dt F0.G0 (.ref pl) (.list ls) from .lst hpl rs) (.cons dt .nil), rfl, hf, fun rv r G' H' hq f' hr' => ?_⟩
 subst hq
 obtain ⟨lo, vs, rfl, e1, e2, e3, e4⟩ := hr'
 have e1 : H3 lo = none := e1
 obtain ⟨fb, gb⟩ := rf3.back f'
 have keep : ∀ b o, H3 b = some o → F0.H0 b = none → H' b = some o ∧ G' b = F0.G0 b := fun b o e hn => ⟨f'.h0 b o e (F0.pen_ne hn), f'.g0 b o e⟩
 have kw := keep w _ h3w Fw
 have hd3 : H3 d = some (.own w) := h3s d _ hd hdw
 have kd := keep d _ hd3 Fd
 have Fl : F0.H0 ll = none := rf.fresh hll
 have kl := keep ll _ h3l Fl
 have ow : lo ≠ w := ne_of_none' h3w e1
 have od : lo ≠ d := ne_of_none' hd3 e1
 have ol : lo ≠ ll := ne_of_none' h3l e1
 refine ⟨_, rfl, w, c, d, _, rfl, kw.1, cl, n_listed, (by show 2 < 1000; decide), ?_⟩
 refine q ll lo [w, d, ll, lo] G' _ (fb.priv Fw (kw.2.trans gw)) ⟨rfl, rfl, ⟨Ne.symm ol, z1, z2, z3⟩, us, t, vs, ⟨upd_same, ?_, ?_, ?_⟩, ⟨Dts.same gb _ _ rs, Dt.same gb _ _ dt, e4⟩⟩ fun b hb => ?_
 ·show upd H' w _ d = _
  rw [upd_ne hdw]; exact kd.1
 ·show upd H' w _ ll = _
  rw [upd_ne lw]; exact kl.1
 ·show upd H' w _ lo = _
  rw [upd_ne ow]; exact e3
 ·simp only [List.mem_cons, List.not_mem_nil, or_false] at hb
  rcases hb with rfl | rfl | rfl | rfl
  ·exact ⟨Fw, kw.2.trans gw⟩
  ·exact ⟨Fd, kd.2.trans gd⟩
  ·exact ⟨Fl, kl.2.trans (rf.gfresh hll)⟩
  ·exact ⟨rf3.fresh e1, e2⟩
abbrev s_w_time : Stmt := inClass (top 28) 1
theorem sc_w_time : FnScope ["self"] ["self"] (defScope s_w_time) := ⟨rfl, rfl, rfl, by decide +kernel, rfl, by decide +kernel, by decide +kernel⟩
theorem ok_w_time {P0 : Addr → Hp → Prop} {P : Program} {w : World} {K : PySem.W.Frag} {mg : Str → Option Value} {base : Heap} {f : Addr} {fd : FuncData} {c : Addr} (cl : Cls K c) (n_lines : NoAttr K c "lines") (n_now : NoAttr K c "now") (n_listed : NoAttr K c "listed") (F : Fun K "time" "Walk.time" s_w_time f fd) (B : Bl K mg) (Kt : Kit K) :
  FnOk P w K mg base CX0 1 f fd ["self"] (spM P0 1 (m_w_time c)) :=
 F.okV sc_w_time rfl rfl fun cdv A outer s H E hr =>
 have hu := hr.units
 ⟨_, (pss_one (ps_ret (pe_fld (pv 0) rfl))),
  ((vs_ret (vo_val (vt_wkNow cl n_now))) : VS P0 _ (b_w_time c))⟩
abbrev s_w_order : Stmt := inClass (top 28) 2
theorem sc_w_order : FnScope ["self"] ["self"] (defScope s_w_order) := ⟨rfl, rfl, rfl, by decide +kernel, rfl, by decide +kernel, by decide +kernel⟩
theorem ok_w_order {P0 : Addr → Hp → Prop} {P : Program} {w : World} {K : PySem.W.Frag} {mg : Str → Option Value} {base : Heap} {f : Addr} {fd : FuncData} {c : Addr} (cl : Cls K c) (n_lines : NoAttr K c "lines") (n_now : NoAttr K c "now") (n_listed : NoAttr K c "listed") (F : Fun K "order" "Walk.order" s_w_order f fd) (B : Bl K mg) (Kt : Kit K) :
  FnOk P w K mg base CX0 1 f fd ["self"] (spM P0 1 (m_w_order c)) :=
 F.okV sc_w_order rfl rfl fun cdv A outer s H E hr =>
 have hu := hr.units
 ⟨_, (pss_one (ps_ret (pe_callTy call_list_of rfl B.list_ boot_list (pa_cons (pe_fld (pv 0) rfl) pa_nil)))),
  ((vs_ret (vo_listOf (vt_wkListed cl n_listed))) : VS P0 _ (b_w_order c))⟩
abbrev s_w_papers : Stmt := inClass (top 28) 3
theorem sc_w_papers : FnScope ["self"] ["self"] (defScope s_w_papers) := ⟨rfl, rfl, rfl, by decide +kernel, rfl, by decide +kernel, by decide +kernel⟩
theorem ok_w_papers {P0 : Addr → Hp → Prop} {P : Program} {w : World} {K : PySem.W.Frag} {mg : Str → Option Value} {base : Heap} {f : Addr} {fd : FuncData} {c : Addr} (cl : Cls K c) (n_lines : NoAttr K c "lines") (n_now : NoAttr K c "now") (n_listed : NoAttr K c "listed") (F : Fun K "papers" "Walk.papers" s_w_papers f fd) (B : Bl K mg) (Kt : Kit K)
  (c_papers_among : Cal P w K mg base 8 "papers_among" ["lines", "order", "time"] (spM P0 3 m_papers_among)) :
  FnOk P w K mg base CX0 9 f fd ["self"] (spM P0 1 (m_w_papers c)) :=
 F.okV sc_w_papers rfl rfl fun cdv A outer s H E hr =>
 have hu := hr.units
 ⟨_, (pss_one (ps_ret (pe_callC c_papers_among hr rfl (pa_cons (pe_fld (pv 0) rfl) (pa_cons (pe_fld (pv 0) rfl) (pa_cons (pe_fld (pv 0) rfl) pa_nil)))))),
  ((vs_ret (vo_call (va_val (vt_wkLines cl n_lines) (va_val (vt_wkListed cl n_listed) (va_val (vt_wkNow cl n_now) va_nil))))) : VS P0 _ (b_w_papers c))⟩
local macro_rules | `(tactic| walk_at "rd1") => `(tactic| first
 | refine ⟨_, rfl, ?_⟩
 | refine ⟨_, _, rfl, rfl, ?_⟩
 | refine And.intro rfl ?_
 | refine And.intro (small_b rfl) ?_
 | refine ⟨_, _, _, _, rfl, rfl, SqT.of (by assumption), rfl, ?_⟩
 | refine ⟨_, _, _, _, rfl, rfl, SqL.of (by assumption), rfl, ?_⟩
 | refine ⟨_, _, _, _, rfl, rfl, SqL.of upd_same, rfl, ?_⟩
 | refine ⟨_, _, _, _, rfl, rfl, (by assumption), rfl, ?_⟩
 | refine ⟨_, _, _, _, rfl, rfl, upd_same, rfl, ?_⟩
 | refine ⟨_, _, by assumption, by assumption, good_num _, good_num _, ?_⟩
 | refine ⟨_, _, by assumption, by assumption, good_line _, good_line _, ?_⟩
 | refine And.intro (mulB (by assumption) (by assumption)) ?_
 | refine And.intro (.inl (by decide)) ?_
 | refine And.intro (CMul_mod (by decide) (by decide)) ?_
 | refine And.intro (.inr (by decide)) ?_
 | refine ⟨_, _, rfl, .inl (by assumption), ?_⟩
 | refine ⟨_, _, rfl, .inr (SqT.of (by assumption)), ?_⟩
 | refine And.intro (by assumption) ?_
 | refine And.intro ⟨by decide, by decide⟩ ?_
 | refine And.intro ⟨by decide, by decide, by decide⟩ ?_
 | refine And.intro (show (0 : Int) < _ by decide) ?_
 | refine And.intro (by decide) ?_
 | refine ⟨_, _, rfl, ?_⟩)
local macro_rules | `(tactic| walk_at "rd") => `(tactic| repeat walk_at "rd1")
abbrev s_law_pen : Stmt := top 30
theorem sc_law_pen : FnScope ["_law_script", "_law_k", "_law_cell"] ["_law_script", "_law_k"] (defScope s_law_pen) := ⟨rfl, rfl, rfl, by decide +kernel, rfl, by decide +kernel, by decide +kernel⟩
theorem ok_law_pen {P : Program} {w : World} {K : PySem.W.Frag} {mg : Str → Option Value} {base : Heap} {f : Addr} {fd : FuncData} (F : Fun K "_law_pen" "_law_pen" s_law_pen f fd) (B : Bl K mg) :
  FnOk P w K mg base CX0 1 f fd ["_law_script", "_law_k"] (spPenC K) := by
 refine F.ok sc_law_pen (fun vs H Q E h => ?_) (fun cdv A outer s H vs Q E hr h => ?_)
 ·obtain ⟨a, ns, j, rfl, hS, j0, j1, q⟩ := h
  rfl
 have hu := hr.units
 obtain ⟨a, ns, j, rfl, hS, j0, j1, q⟩ := h
 refine ⟨_, (pss_cons (ps_set (i := 2) sc_law_pen.nd rfl (Or.inl rfl) (pe_op op_add (pe_op op_add (pe_op op_mulX (pe_op op_mulX pe_int (pv 1)) (pv 1)) (pe_op op_mulX pe_int (pv 1))) pe_int))
   (pss_cons (ps_if (pt_cmpR op_lt (pv 1) (pe_callB call_len_seq rfl B.len_ boot_len (pa_cons (pv 0) pa_nil)) (nomark _)) (pss_one (ps_set (i := 2) sc_law_pen.nd rfl (Or.inl rfl) (pe_ix ix_list (pv 0) (pv 1) (fun _ _ => rfl)))) (pss_one (ps_if (pt_cmpR op_gt (pe_callB call_len_seq rfl B.len_ boot_len (pa_cons (pv 0) pa_nil)) pe_int (nomark _)) (pss_one (ps_set (i := 2) sc_law_pen.nd rfl (Or.inl rfl) (pe_op op_add (pe_op op_mod (pe_ix ix_list (pv 0) (pe_op op_mod (pe_op op_mulX (pv 1) pe_int) (pe_callB call_len_seq rfl B.len_ boot_len (pa_cons (pv 0) pa_nil))) (fun _ _ => rfl)) (pe_powC (v := 100000000000000000) (by decide) ⟨by decide, by decide, by decide⟩)) (pe_op op_mulX pe_int (pv 1))))) pss_nil)))
   (pss_cons (ps_if (pt_cmpR op_ge (pv 2) (pe_powC (v := 1000000000000000000) (by decide) ⟨by decide, by decide, by decide⟩) (nomark _)) (pss_one (ps_ret (pe_lst (pa_cons (pe_op op_sub (pv 2) (pe_powC (v := 1000000000000000000) (by decide) ⟨by decide, by decide, by decide⟩)) (pa_cons (pe_op op_add (pe_op op_mod (pv 2) pe_int) (pv 1)) (pa_cons pe_int pa_nil)))))) pss_nil)
   (pss_one (ps_ret (pe_lst (pa_cons pe_int (pa_cons (pe_op op_add (pe_op op_mod (pv 2) pe_int) (pe_op op_mulX pe_int (pv 1))) (pa_cons pe_int pa_nil))))))))), ?_⟩
 have hl : (ns.map V.int).length = ns.length := List.length_map _
 have bs : ∀ x : Int, 0 ≤ x → x < 2147483648 → LT.Bt 31 x := fun x h1 h2 => by
  show x.natAbs < 2 ^ 31
  omega
 have a1 := bs j (by omega) (by omega)
 have a2 := bs 104729 (by decide) (by decide)
 have a3 := bs 7 (by decide) (by decide)
 have a4 := bs 65537 (by decide) (by decide)
 have a5 := bs 40503 (by decide) (by decide)
 have a6 := a2.mul a1
 have fin : ∀ cell x : Int, 0 ≤ x → x < 100000000 → 0 ≤ cell % 2147483629 + x ∧ cell % 2147483629 + x < 1099511627776 := fun cell x h1 h2 => by
  have h3 := Int.emod_nonneg cell (b := 2147483629) (by decide)
  have h4 := Int.emod_lt_of_pos cell (b := 2147483629) (by decide)
  omega
 walk_at "rd"
 refine iteD2 (fun e => ?a) (fun e => ?b)
 case' a =>
  have e' : j < (ns.length : Int) := by rw [hl] at e; exact e
  obtain ⟨i, rfl⟩ : ∃ i : Nat, j = (i : Int) := ⟨j.toNat, by omega⟩
  have hi : i < ns.length := by omega
  have hv : atI (ns.map V.int) (i : Int) = some (.int ns[i]) := by
   refine atI_nat ?_
   rw [List.getElem?_map, List.getElem?_eq_getElem hi]
   rfl
  walk_at "rd"
  refine ⟨_, _, _, _, rfl, rfl, hS, hv, ?_⟩
 case' b =>
  walk_at "rd"
  refine iteD2 (fun e2 => ?b1) (fun e2 => ?b2)
  case' b1 =>
   have e3 : 0 < (ns.length : Int) := by rw [hl] at e2; exact e2
   have h1 := Int.emod_nonneg (j * 7) (b := (ns.length : Int)) (by omega)
   have h2 := Int.emod_lt_of_pos (j * 7) e3
   obtain ⟨i, hi0⟩ : ∃ i : Nat, j * 7 % (ns.length : Int) = (i : Int) := ⟨(j * 7 % (ns.length : Int)).toNat, by omega⟩
   have hi : i < ns.length := by omega
   have hv : atI (ns.map V.int) (j * 7 % ((ns.map V.int).length : Int)) = some (.int ns[i]) := by
    rw [hl, hi0]
    refine atI_nat ?_
    rw [List.getElem?_map, List.getElem?_eq_getElem hi]
    rfl
   have hpos : 0 < ((ns.map V.int).length : Int) := by rw [hl]; exact e3
   walk_at "rd"
   refine ⟨_, _, _, _, rfl, rfl, hS, hv, ?_⟩
 all_goals
  walk_at "rd"
  refine iteD2 (fun e9 => ?_) (fun e9 => ?_)
  ·walk_at "rd"
   intro p hp
   exact q _ _ _ hp (by omega) (fin _ _ (by omega) (by omega)).1 (fin _ _ (by omega) (by omega)).2
  ·walk_at "rd"
   intro p hp
   exact q _ _ _ hp (by decide) (fin _ _ (by omega) (by omega)).1 (fin _ _ (by omega) (by omega)).2
local macro_rules | `(tactic| walk_at "rd1") => `(tactic| first
 | refine ⟨_, rfl, ?_⟩
 | refine ⟨_, _, rfl, rfl, ?_⟩
 | refine And.intro rfl ?_
 | refine And.intro (small_b rfl) ?_
 | refine ⟨_, _, _, _, rfl, rfl, SqT.of (by assumption), rfl, ?_⟩
 | refine ⟨_, _, _, _, rfl, rfl, SqL.of (by assumption), rfl, ?_⟩
 | refine ⟨_, _, _, _, rfl, rfl, SqL.of upd_same, rfl, ?_⟩
 | refine ⟨_, _, _, _, rfl, rfl, (by assumption), rfl, ?_⟩
 | refine ⟨_, _, _, _, rfl, rfl, upd_same, rfl, ?_⟩
 | refine ⟨_, _, by assumption, by assumption, good_num _, good_num _, ?_⟩
 | refine ⟨_, _, by assumption, by assumption, good_line _, good_line _, ?_⟩
 | refine And.intro (mulB (by assumption) (by assumption)) ?_
 | refine And.intro (.inl (by decide)) ?_
 | refine And.intro (CMul_mod (by decide) (by decide)) ?_
 | refine And.intro (.inr (by decide)) ?_
 | refine ⟨_, _, rfl, .inl (by assumption), ?_⟩
 | refine ⟨_, _, rfl, .inr (SqT.of (by assumption)), ?_⟩
 | refine And.intro (by assumption) ?_
 | refine And.intro ⟨by decide, by decide⟩ ?_
 | refine And.intro ⟨by decide, by decide, by decide⟩ ?_
 | refine And.intro (show (0 : Int) < _ by decide) ?_
 | refine And.intro (by decide) ?_
 | refine ⟨_, _, rfl, ?_⟩)
local macro_rules | `(tactic| walk_at "rd") => `(tactic| repeat walk_at "rd1")
abbrev s_law_take : Stmt := top 31
theorem sc_law_take : FnScope ["_law_pen_here", "_law_many", "_law_digit", "_law_number_here"] ["_law_pen_here", "_law_many"] (defScope s_law_take) := ⟨rfl, rfl, rfl, by decide +kernel, rfl, by decide +kernel, by decide +kernel⟩
theorem ok_law_take {P : Program} {w : World} {K : PySem.W.Frag} {mg : Str → Option Value} {base : Heap} {f : Addr} {fd : FuncData} (F : Fun K "_law_take" "_law_take" s_law_take f fd) (B : Bl K mg) :
  FnOk P w K mg base CX0 1 f fd ["_law_pen_here", "_law_many"] spTakeC := by
 refine F.ok sc_law_take (fun vs H Q E h => ?_) (fun cdv A outer s H vs Q E hr h => ?_)
 ·obtain ⟨pen, m, z, c, k, n, rfl, hp, hz, hc, hc2, hk, hkn, hn, hm, hm2, q⟩ := h
  rfl
 have hu := hr.units
 obtain ⟨pen, m, z, c, k, n, rfl, hp, hz, hc, hc2, hk, hkn, hn, hm, hm2, q⟩ := h
 refine ⟨_, (pss_cons (ps_if (pt_cmpR op_gt (pe_ix ix_list (pv 0) pe_int (fun _ _ => rfl)) pe_int (nomark _)) (pss_cons (ps_set (i := 2) sc_law_take.nd rfl (Or.inl rfl) (pe_op op_mod (pe_ix ix_list (pv 0) pe_int (fun _ _ => rfl)) (pv 1)))
   (pss_cons (ps_asg (pe_op op_fdiv (pe_ix ix_list (pv 0) pe_int (fun _ _ => rfl)) (pv 1)) (pg_sub (pv 0) pe_int set_list))
   (pss_one (ps_ret (pv 2))))) pss_nil)
   (pss_cons (ps_asg (pe_op op_add (pe_ix ix_list (pv 0) pe_int (fun _ _ => rfl)) pe_int) (pg_sub (pv 0) pe_int set_list))
   (pss_cons (ps_set (i := 3) sc_law_take.nd rfl (Or.inl rfl) (pe_op op_mod (pe_op op_mulX (pe_op op_mod (pe_op op_add (pe_ix ix_list (pv 0) pe_int (fun _ _ => rfl)) (pe_op op_mulX (pe_op op_mulX (pe_ix ix_list (pv 0) pe_int (fun _ _ => rfl)) (pe_ix ix_list (pv 0) pe_int (fun _ _ => rfl))) pe_int)) pe_int) pe_int) pe_int))
   (pss_cons (ps_set (i := 3) sc_law_take.nd rfl (Or.inl rfl) (pe_op op_mod (pe_op op_add (pe_op op_add (pe_op op_mulX (pv 3) (pv 3)) (pe_op op_mulX pe_int (pv 3))) (pe_ix ix_list (pv 0) pe_int (fun _ _ => rfl))) pe_int))
   (pss_one (ps_ret (pe_op op_mod (pe_op op_fdiv (pv 3) pe_int) (pv 1)))))))), ?_⟩
 have hcd : CDiv z m := ⟨hm, hm2⟩
 walk_at "rd"
 refine iteD2 (fun e => ?_) (fun e => ?_)
 ·walk_at "rd"
  exact q _ _ (Int.emod_nonneg _ (by omega)) (Int.emod_lt_of_pos _ hm) ⟨z / m, c, k, upd_same, Int.ediv_nonneg hz (by omega), hc, hc2, hk, by omega⟩ (sameX_upd _)
 ·have bm : ∀ x y : Int, 0 < y → y < 2147483648 → LT.Bt 31 (x % y) := fun x y h1 h2 => by
   have := Int.emod_nonneg x (b := y) (by omega)
   have := Int.emod_lt_of_pos x h1
   show (x % y).natAbs < 2 ^ 31
   omega
  have bs : ∀ x : Int, 0 ≤ x → x < 2147483648 → LT.Bt 31 x := fun x h1 h2 => by
   show x.natAbs < 2 ^ 31
   omega
  have a1 := bs (k + 1) (by omega) (by omega)
  have a2 := bs 7919 (by decide) (by decide)
  have a3 := bs 48271 (by decide) (by decide)
  have a4 := bs 69621 (by decide) (by decide)
  have a5 := a1.mul a1
  have a6 := bm (c + (k + 1) * (k + 1) * 7919) 2147483629 (by decide) (by decide)
  have a7 := bm ((c + (k + 1) * (k + 1) * 7919) % 2147483629 * 48271) 2147483587 (by decide) (by decide)
  walk_at "rd"
  exact q _ _ (Int.emod_nonneg _ (by omega)) (Int.emod_lt_of_pos _ hm) ⟨z, c, k + 1, upd_same, hz, hc, hc2, by omega, by omega⟩ (sameX_upd _)
theorem ok2_law_take {P0 : Addr → Hp → Prop} {P : Program} {w : World} {K : PySem.W.Frag} {mg : Str → Option Value} {base : Heap} {f : Addr} {fd : FuncData} (F : Fun K "_law_take" "_law_take" s_law_take f fd) (B : Bl K mg) :
  FnOk P w K mg base CX0 1 f fd ["_law_pen_here", "_law_many"] (spL P0 penF 2 mTakeL) := (ok_law_take F B).imp take_ofL
abbrev s_law_lowest : Stmt := top 32
theorem sc_law_lowest : FnScope ["_law_top", "_law_bottom", "_law_one", "_law_other"] ["_law_top", "_law_bottom"] (defScope s_law_lowest) := ⟨rfl, rfl, rfl, by decide +kernel, rfl, by decide +kernel, by decide +kernel⟩
theorem ok_law_lowest {P0 : Addr → Hp → Prop} {P : Program} {w : World} {K : PySem.W.Frag} {mg : Str → Option Value} {base : Heap} {f : Addr} {fd : FuncData} (F : Fun K "_law_lowest" "_law_lowest" s_law_lowest f fd) (B : Bl K mg) (Kt : Kit K) :
  FnOk P w K mg base CX0 1 f fd ["_law_top", "_law_bottom"] (spM P0 2 m_law_lowest) :=
 F.okV sc_law_lowest rfl rfl fun cdv A outer s H E hr =>
 have hu := hr.units
 ⟨_, (pss_cons (ps_set (i := 2) sc_law_lowest.nd rfl (by first | exact Or.inl rfl | exact Or.inr rfl) (pe_callB call_abs rfl B.abs_ boot_abs (pa_cons (pv 0) pa_nil)))
   (pss_cons (ps_set (i := 3) sc_law_lowest.nd rfl (by first | exact Or.inl rfl | exact Or.inr rfl) (pe_callB call_abs rfl B.abs_ boot_abs (pa_cons (pv 1) pa_nil)))
   (pss_cons (ps_while PassesOwn.never (pt_cmpR op_gt (pv 3) pe_int (nomark _)) (pss_one (ps_par (i := 2) (j := 3) rfl sc_law_lowest.nd rfl rfl (by decide) rfl rfl (pa_cons (pv 3) (pa_cons (pe_op op_mod (pv 2) (pv 3)) pa_nil)) rfl)))
   (pss_cons (ps_if (pt_cmpR op_lt (pv 1) pe_int (nomark _)) (pss_one (ps_set (i := 2) sc_law_lowest.nd rfl (by first | exact Or.inl rfl | exact Or.inr rfl) (pe_op op_sub pe_int (pv 2)))) pss_nil)
   (pss_one (ps_ret (pe_tup (pa_cons (pe_op op_fdivX (pv 0) (pv 2)) (pa_cons (pe_op op_fdivX (pv 1) (pv 2)) pa_nil))))))))),
  ((vs_seq (vs_set (vo_val (vt_abs vt_var)))
   (vs_seq (vs_set (vo_val (vt_abs vt_var)))
   (vs_seq (vs_while (vtt_val (vt_gt vt_var vt_int)) (vs_par (vd_cons vt_var (vd_cons (vt_mod vt_var vt_var) vd_nil))))
   (vs_seq (vs_if (vtt_val (vt_lt vt_var vt_int)) (vs_set (vo_val (vt_sub vt_int vt_var))) vs_nx)
   (vs_ret (vo_val (vt_tup (vd_cons (vt_divX vt_var vt_var) (vd_cons (vt_divX vt_var vt_var) vd_nil))))))))) : VS P0 _ b_law_lowest)⟩
abbrev s_law_plus : Stmt := top 33
theorem sc_law_plus : FnScope ["_law_a", "_law_b", "_law_sign"] ["_law_a", "_law_b", "_law_sign"] (defScope s_law_plus) := ⟨rfl, rfl, rfl, by decide +kernel, rfl, by decide +kernel, by decide +kernel⟩
theorem ok_law_plus {P0 : Addr → Hp → Prop} {P : Program} {w : World} {K : PySem.W.Frag} {mg : Str → Option Value} {base : Heap} {f : Addr} {fd : FuncData} (F : Fun K "_law_plus" "_law_plus" s_law_plus f fd) (B : Bl K mg) (Kt : Kit K)
  (c_law_lowest : Cal P w K mg base 1 "_law_lowest" ["_law_top", "_law_bottom"] (spM P0 2 m_law_lowest)) :
  FnOk P w K mg base CX0 2 f fd ["_law_a", "_law_b", "_law_sign"] (spM P0 3 m_law_plus) :=
 F.okV sc_law_plus rfl rfl fun cdv A outer s H E hr =>
 have hu := hr.units
 ⟨_, (pss_one (ps_ret (pe_callC c_law_lowest hr rfl (pa_cons (pe_op op_add (pe_op op_mulX (pe_ix ix_seq (pv 0) pe_int (fun _ _ => rfl)) (pe_ix ix_seq (pv 1) pe_int (fun _ _ => rfl))) (pe_op op_mulX (pe_op op_mulX (pv 2) (pe_ix ix_seq (pv 1) pe_int (fun _ _ => rfl))) (pe_ix ix_seq (pv 0) pe_int (fun _ _ => rfl)))) (pa_cons (pe_op op_mulX (pe_ix ix_seq (pv 0) pe_int (fun _ _ => rfl)) (pe_ix ix_seq (pv 1) pe_int (fun _ _ => rfl))) pa_nil))))),
  ((vs_ret (vo_call (va_val (vt_add (vt_mul (vt_ix vt_var vt_int) (vt_ix vt_var vt_int)) (vt_mul (vt_mul vt_var (vt_ix vt_var vt_int)) (vt_ix vt_var vt_int))) (va_val (vt_mul (vt_ix vt_var vt_int) (vt_ix vt_var vt_int)) va_nil)))) : VS P0 _ b_law_plus)⟩
abbrev s_law_times : Stmt := top 34
theorem sc_law_times : FnScope ["_law_a", "_law_b"] ["_law_a", "_law_b"] (defScope s_law_times) := ⟨rfl, rfl, rfl, by decide +kernel, rfl, by decide +kernel, by decide +kernel⟩
theorem ok_law_times {P0 : Addr → Hp → Prop} {P : Program} {w : World} {K : PySem.W.Frag} {mg : Str → Option Value} {base : Heap} {f : Addr} {fd : FuncData} (F : Fun K "_law_times" "_law_times" s_law_times f fd) (B : Bl K mg) (Kt : Kit K)
  (c_law_lowest : Cal P w K mg base 1 "_law_lowest" ["_law_top", "_law_bottom"] (spM P0 2 m_law_lowest)) :
  FnOk P w K mg base CX0 2 f fd ["_law_a", "_law_b"] (spM P0 2 m_law_times) :=
 F.okV sc_law_times rfl rfl fun cdv A outer s H E hr =>
 have hu := hr.units
 ⟨_, (pss_one (ps_ret (pe_callC c_law_lowest hr rfl (pa_cons (pe_op op_mulX (pe_ix ix_seq (pv 0) pe_int (fun _ _ => rfl)) (pe_ix ix_seq (pv 1) pe_int (fun _ _ => rfl))) (pa_cons (pe_op op_mulX (pe_ix ix_seq (pv 0) pe_int (fun _ _ => rfl)) (pe_ix ix_seq (pv 1) pe_int (fun _ _ => rfl))) pa_nil))))),
  ((vs_ret (vo_call (va_val (vt_mul (vt_ix vt_var vt_int) (vt_ix vt_var vt_int)) (va_val (vt_mul (vt_ix vt_var vt_int) (vt_ix vt_var vt_int)) va_nil)))) : VS P0 _ b_law_times)⟩
abbrev s_law_less : Stmt := top 35
theorem sc_law_less : FnScope ["_law_a", "_law_b"] ["_law_a", "_law_b"] (defScope s_law_less) := ⟨rfl, rfl, rfl, by decide +kernel, rfl, by decide +kernel, by decide +kernel⟩
theorem ok_law_less {P0 : Addr → Hp → Prop} {P : Program} {w : World} {K : PySem.W.Frag} {mg : Str → Option Value} {base : Heap} {f : Addr} {fd : FuncData} (F : Fun K "_law_less" "_law_less" s_law_less f fd) (B : Bl K mg) (Kt : Kit K) :
  FnOk P w K mg base CX0 1 f fd ["_law_a", "_law_b"] (spM P0 2 m_law_less) :=
 F.okV sc_law_less rfl rfl fun cdv A outer s H E hr =>
 have hu := hr.units
 ⟨_, (pss_one (ps_ret (pe_cmpR op_lt (pe_op op_mulX (pe_ix ix_seq (pv 0) pe_int (fun _ _ => rfl)) (pe_ix ix_seq (pv 1) pe_int (fun _ _ => rfl))) (pe_op op_mulX (pe_ix ix_seq (pv 1) pe_int (fun _ _ => rfl)) (pe_ix ix_seq (pv 0) pe_int (fun _ _ => rfl))) (nomark _)))),
  ((vs_ret (vo_val (vt_lt (vt_mul (vt_ix vt_var vt_int) (vt_ix vt_var vt_int)) (vt_mul (vt_ix vt_var vt_int) (vt_ix vt_var vt_int))))) : VS P0 _ b_law_less)⟩
abbrev s_law_far : Stmt := top 36
theorem sc_law_far : FnScope ["_law_pen_here", "_law_parts", "_law_number_here", "_law_k"] ["_law_pen_here", "_law_parts"] (defScope s_law_far) := ⟨rfl, rfl, rfl, by decide +kernel, rfl, by decide +kernel, by decide +kernel⟩
theorem ok_law_far {P0 : Addr → Hp → Prop} {P : Program} {w : World} {K : PySem.W.Frag} {mg : Str → Option Value} {base : Heap} {f : Addr} {fd : FuncData} (F : Fun K "_law_far" "_law_far" s_law_far f fd) (B : Bl K mg) (Kt : Kit K)
  (c_law_take : Cal P w K mg base 1 "_law_take" ["_law_pen_here", "_law_many"] (spL P0 penF 2 mTakeL)) :
  FnOk P w K mg base CX0 2 f fd ["_law_pen_here", "_law_parts"] (spL P0 penF 2 m_law_far) :=
 F.okL sc_law_far rfl rfl fun cdv A outer s H E hr =>
 have hu := hr.units
 ⟨_, (pss_cons (ps_set (i := 2) sc_law_far.nd rfl (by first | exact Or.inl rfl | exact Or.inr rfl) pe_int)
   (pss_cons (ps_for PassesOwn.never rfl (pi_range1 rfl B.range_ (pa_cons (pv 1) pa_nil)) (pg_name (i := 3) sc_law_far.nd rfl (by first | exact Or.inl rfl | exact Or.inr rfl)) (pss_one (ps_set (i := 2) sc_law_far.nd rfl (by first | exact Or.inl rfl | exact Or.inr rfl) (pe_op op_add (pe_op op_mulX (pv 2) (pe_powC (v := 1000000) (by decide) ⟨by decide, by decide, by decide⟩)) (pe_callC c_law_take hr rfl (pa_cons (pv 0) (pa_cons (pe_powC (v := 1000000) (by decide) ⟨by decide, by decide, by decide⟩) pa_nil)))))))
   (pss_one (ps_ret (pe_ix ix_seq (pe_lst (pa_cons (pv 2) (pa_cons (pe_op op_sub pe_int (pv 2)) pa_nil))) (pe_callC c_law_take hr rfl (pa_cons (pv 0) (pa_cons pe_int pa_nil))) (fun _ _ => rfl)))))),
  ((vs_seq (vs_set (vo_val vt_int))
   (vs_seq (vs_for (vi_rng1 (vd_cons vt_var vd_nil)) vg_name (vs_set (vo_val (vt_add (vt_mul vt_var vt_int) (vt_pub (vo_callL (va_val vt_int va_nil)))))))
   (vs_retK (vo_val (vt_ix (vt_pub (vo_lst (vd_cons vt_var (vd_cons (vt_sub vt_int vt_var) vd_nil)))) (vt_pub (vo_callL (va_val vt_int va_nil)))))))) : VS P0 _ b_law_far)⟩
abbrev s_law_number : Stmt := top 37
theorem sc_law_number : FnScope ["_law_pen_here", "_law_kind"] ["_law_pen_here", "_law_kind"] (defScope s_law_number) := ⟨rfl, rfl, rfl, by decide +kernel, rfl, by decide +kernel, by decide +kernel⟩
theorem ok_law_number {P0 : Addr → Hp → Prop} {P : Program} {w : World} {K : PySem.W.Frag} {mg : Str → Option Value} {base : Heap} {f : Addr} {fd : FuncData} (F : Fun K "_law_number" "_law_number" s_law_number f fd) (B : Bl K mg) (Kt : Kit K)
  (c_law_lowest : Cal P w K mg base 1 "_law_lowest" ["_law_top", "_law_bottom"] (spM P0 2 m_law_lowest))
  (c_law_take : Cal P w K mg base 1 "_law_take" ["_law_pen_here", "_law_many"] (spL P0 penF 2 mTakeL))
  (c_law_far : Cal P w K mg base 2 "_law_far" ["_law_pen_here", "_law_parts"] (spL P0 penF 2 m_law_far)) :
  FnOk P w K mg base CX0 3 f fd ["_law_pen_here", "_law_kind"] (spL P0 penF 2 m_law_number) :=
 F.okL sc_law_number rfl rfl fun cdv A outer s H E hr =>
 have hu := hr.units
 ⟨_, (pss_cons (ps_if (pt_cmpR (op_eqD hu) (pv 1) pe_int (nomark _)) (pss_one (ps_ret (pe_tup (pa_cons (pe_op op_sub (pe_callC c_law_take hr rfl (pa_cons (pv 0) (pa_cons pe_int pa_nil))) pe_int) (pa_cons pe_int pa_nil))))) pss_nil)
   (pss_cons (ps_if (pt_cmpR (op_eqD hu) (pv 1) pe_int (nomark _)) (pss_one (ps_ret (pe_callC c_law_lowest hr rfl (pa_cons (pe_op op_sub (pe_callC c_law_take hr rfl (pa_cons (pv 0) (pa_cons pe_int pa_nil))) pe_int) (pa_cons (pe_op op_add pe_int (pe_callC c_law_take hr rfl (pa_cons (pv 0) (pa_cons pe_int pa_nil)))) pa_nil))))) pss_nil)
   (pss_one (ps_ret (pe_callC c_law_lowest hr rfl (pa_cons (pe_callC c_law_far hr rfl (pa_cons (pv 0) (pa_cons pe_int pa_nil))) (pa_cons (pe_op op_add pe_int (pe_callC c_law_take hr rfl (pa_cons (pv 0) (pa_cons pe_int pa_nil)))) pa_nil))))))),
  ((vs_seq (vs_if (vtt_val (vt_eq vt_var vt_int)) (vs_retK (vo_val (vt_tup (vd_cons (vt_sub (vt_pub (vo_callL (va_val vt_int va_nil))) vt_int) (vd_cons vt_int vd_nil))))) vs_nx)
   (vs_seq (vs_if (vtt_val (vt_eq vt_var vt_int)) (vs_retK (vo_call (va_val (vt_sub (vt_pub (vo_callL (va_val vt_int va_nil))) vt_int) (va_val (vt_add vt_int (vt_pub (vo_callL (va_val vt_int va_nil)))) va_nil)))) vs_nx)
   (vs_retK (vo_call (va_val (vt_pub (vo_callL (va_val vt_int va_nil))) (va_val (vt_add vt_int (vt_pub (vo_callL (va_val vt_int va_nil)))) va_nil)))))) : VS P0 _ b_law_number)⟩
abbrev s_law_lines : Stmt := top 38
theorem sc_law_lines : FnScope ["_law_pen_here", "_law_kind", "_law_place", "_law_time", "_law_many", "_law_lines_here", "_law_k", "_law_line", "_law_way"] ["_law_pen_here"] (defScope s_law_lines) := ⟨rfl, rfl, rfl, by decide +kernel, rfl, by decide +kernel, by decide +kernel⟩
theorem ok_law_lines {P0 : Addr → Hp → Prop} {P : Program} {w : World} {K : PySem.W.Frag} {mg : Str → Option Value} {base : Heap} {f : Addr} {fd : FuncData} (F : Fun K "_law_lines" "_law_lines" s_law_lines f fd) (B : Bl K mg) (Kt : Kit K)
  (c_law_plus : Cal P w K mg base 2 "_law_plus" ["_law_a", "_law_b", "_law_sign"] (spM P0 3 m_law_plus))
  (c_law_times : Cal P w K mg base 2 "_law_times" ["_law_a", "_law_b"] (spM P0 2 m_law_times))
  (c_law_take : Cal P w K mg base 1 "_law_take" ["_law_pen_here", "_law_many"] (spL P0 penF 2 mTakeL))
  (c_law_number : Cal P w K mg base 3 "_law_number" ["_law_pen_here", "_law_kind"] (spL P0 penF 2 m_law_number)) :
  FnOk P w K mg base CX0 4 f fd ["_law_pen_here"] (spL P0 penF 1 m_law_lines) :=
 F.okL sc_law_lines rfl rfl fun cdv A outer s H E hr =>
 have hu := hr.units
 ⟨_, (pss_cons (ps_set (i := 1) sc_law_lines.nd rfl (by first | exact Or.inl rfl | exact Or.inr rfl) (pe_ix ix_seq (pe_lst (pa_cons pe_int (pa_cons pe_int (pa_cons pe_int (pa_cons pe_int (pa_cons pe_int (pa_cons pe_int pa_nil))))))) (pe_callC c_law_take hr rfl (pa_cons (pv 0) (pa_cons pe_int pa_nil))) (fun _ _ => rfl)))
   (pss_cons (ps_set (i := 2) sc_law_lines.nd rfl (by first | exact Or.inl rfl | exact Or.inr rfl) (pe_callC c_law_number hr rfl (pa_cons (pv 0) (pa_cons pe_int pa_nil))))
   (pss_cons (ps_set (i := 3) sc_law_lines.nd rfl (by first | exact Or.inl rfl | exact Or.inr rfl) (pe_callC c_law_number hr rfl (pa_cons (pv 0) (pa_cons pe_int pa_nil))))
   (pss_cons (ps_set (i := 4) sc_law_lines.nd rfl (by first | exact Or.inl rfl | exact Or.inr rfl) (pe_callC c_law_take hr rfl (pa_cons (pv 0) (pa_cons pe_int pa_nil))))
   (pss_cons (ps_if (pt_cmpR (op_eqD hu) (pe_callC c_law_take hr rfl (pa_cons (pv 0) (pa_cons pe_int pa_nil))) pe_int (nomark _)) (pss_one (ps_set (i := 4) sc_law_lines.nd rfl (by first | exact Or.inl rfl | exact Or.inr rfl) pe_int)) pss_nil)
   (pss_cons (ps_set (i := 5) sc_law_lines.nd rfl (by first | exact Or.inl rfl | exact Or.inr rfl) (pe_lst pa_nil))
   (pss_cons (ps_for PassesOwn.never rfl (pi_range1 rfl B.range_ (pa_cons (pv 4) pa_nil)) (pg_name (i := 6) sc_law_lines.nd rfl (by first | exact Or.inl rfl | exact Or.inr rfl)) (pss_cons (ps_set (i := 7) sc_law_lines.nd rfl (by first | exact Or.inl rfl | exact Or.inr rfl) (pe_tup (pa_cons (pe_callC c_law_number hr rfl (pa_cons (pv 0) (pa_cons (pv 1) pa_nil))) (pa_cons (pe_callC c_law_number hr rfl (pa_cons (pv 0) (pa_cons (pv 1) pa_nil))) pa_nil))))
   (pss_cons (ps_set (i := 8) sc_law_lines.nd rfl (by first | exact Or.inl rfl | exact Or.inr rfl) (pe_callC c_law_take hr rfl (pa_cons (pv 0) (pa_cons pe_int pa_nil))))
   (pss_cons (ps_if (PW.pt (pw_and (pt_cmpR (op_eqD hu) (pv 8) pe_int (nomark _)) (pw_and1 (pt_cmpR (op_neD hu) (pv 5) (pe_lst pa_nil) (nomark _))))) (pss_one (ps_set (i := 7) sc_law_lines.nd rfl (by first | exact Or.inl rfl | exact Or.inr rfl) (pe_ix ix_seq (pv 5) (pe_callC c_law_take hr rfl (pa_cons (pv 0) (pa_cons (pe_callB call_len_seq rfl B.len_ boot_len (pa_cons (pv 5) pa_nil)) pa_nil))) (fun _ _ => rfl)))) pss_nil)
   (pss_cons (ps_if (PW.pt (pw_and (pt_cmpR (op_eqD hu) (pv 8) pe_int (nomark _)) (pw_and1 (pt_cmpR (op_neD hu) (pv 5) (pe_lst pa_nil) (nomark _))))) (pss_one (ps_set (i := 7) sc_law_lines.nd rfl (by first | exact Or.inl rfl | exact Or.inr rfl) (pe_tup (pa_cons (pe_ix ix_seq (pv 7) pe_int (fun _ _ => rfl)) (pa_cons (pe_ix ix_seq (pe_ix ix_seq (pv 5) (pe_callC c_law_take hr rfl (pa_cons (pv 0) (pa_cons (pe_callB call_len_seq rfl B.len_ boot_len (pa_cons (pv 5) pa_nil)) pa_nil))) (fun _ _ => rfl)) pe_int (fun _ _ => rfl)) pa_nil))))) pss_nil)
   (pss_cons (ps_if (PW.pt (pw_and (pt_cmpR (op_inD hu) (pv 8) (pe_tup (pa_cons pe_int (pa_cons pe_int pa_nil))) (by with_unfolding_all rfl)) (pw_and1 (pt_cmpR op_lt (pv 1) pe_int (nomark _))))) (pss_one (ps_set (i := 7) sc_law_lines.nd rfl (by first | exact Or.inl rfl | exact Or.inr rfl) (pe_tup (pa_cons (pe_callC c_law_plus hr rfl (pa_cons (pv 2) (pa_cons (pe_callC c_law_times hr rfl (pa_cons (pe_ix ix_seq (pv 7) pe_int (fun _ _ => rfl)) (pa_cons (pv 3) pa_nil))) (pa_cons (pe_un un_neg pe_int) pa_nil)))) (pa_cons (pe_ix ix_seq (pv 7) pe_int (fun _ _ => rfl)) pa_nil))))) pss_nil)
   (pss_one (ps_expr (pe_bm PySem.F.plainAttrs_list PySem.F.slot_list_append PySem.F.type_list_append mt_append (pv 5) (pa_cons (pv 7) pa_nil))))))))))
   (pss_one (ps_ret (pv 5)))))))))),
  ((vs_seq (vs_set (vo_val (vt_ix (vt_pub (vo_lst (vd_cons vt_int (vd_cons vt_int (vd_cons vt_int (vd_cons vt_int (vd_cons vt_int (vd_cons vt_int vd_nil)))))))) (vt_pub (vo_callL (va_val vt_int va_nil))))))
   (vs_seq (vs_set (vo_val (vt_pub (vo_callL (va_val vt_int va_nil)))))
   (vs_seq (vs_set (vo_val (vt_pub (vo_callL (va_val vt_int va_nil)))))
   (vs_seq (vs_set (vo_val (vt_pub (vo_callL (va_val vt_int va_nil)))))
   (vs_seq (vs_if (vtt_val (vt_eq (vt_pub (vo_callL (va_val vt_int va_nil))) vt_int)) (vs_set (vo_val vt_int)) vs_nx)
   (vs_seq (vs_set (vo_lst vd_nil))
   (vs_seq (vs_for (vi_rng1 (vd_cons vt_var vd_nil)) vg_name (vs_seq (vs_set (vo_val (vt_tup (vd_cons (vt_pub (vo_callL (va_val vt_var va_nil))) (vd_cons (vt_pub (vo_callL (va_val vt_var va_nil))) vd_nil)))))
   (vs_seq (vs_set (vo_val (vt_pub (vo_callL (va_val vt_int va_nil)))))
   (vs_seq (vs_if (vtt_peek (vtt_and (vtt_val (vt_eq vt_var vt_int)) (vtt_val (vt_ne vt_var (vt_pub (vo_lst vd_nil)))))) (vs_set (vo_val (vt_peekL (bs := [true]) (vt_ix vt_var (vt_pub (vo_callL (va_val (vt_len vt_var) va_nil))))))) vs_nx)
   (vs_seq (vs_if (vtt_peek (vtt_and (vtt_val (vt_eq vt_var vt_int)) (vtt_val (vt_ne vt_var (vt_pub (vo_lst vd_nil)))))) (vs_set (vo_val (vt_peekL (bs := [true]) (vt_tup (vd_cons (vt_ix vt_var vt_int) (vd_cons (vt_ix (vt_ix vt_var (vt_pub (vo_callL (va_val (vt_len vt_var) va_nil)))) vt_int) vd_nil)))))) vs_nx)
   (vs_seq (vs_if (vtt_and (vtt_val (vt_in vt_var (vt_tup (vd_cons vt_int (vd_cons vt_int vd_nil))))) (vtt_val (vt_lt vt_var vt_int))) (vs_set (vo_val (vt_tup (vd_cons (vt_pub (vo_call (va_val vt_var (va_val (vt_pub (vo_call (va_val (vt_ix vt_var vt_int) (va_val vt_var va_nil)))) (va_val (vt_neg vt_int) va_nil))))) (vd_cons (vt_ix vt_var vt_int) vd_nil))))) vs_nx)
   (vs_append vt_var)))))))
   (vs_retK vo_move)))))))) : VS P0 _ b_law_lines)⟩
abbrev s_law_when : Stmt := top 39
theorem sc_law_when : FnScope ["_law_pen_here", "_law_lines_here", "_law_way", "_law_met"] ["_law_pen_here", "_law_lines_here"] (defScope s_law_when) := ⟨rfl, rfl, rfl, by decide +kernel, rfl, by decide +kernel, by decide +kernel⟩
theorem ok_law_when {P0 : Addr → Hp → Prop} {P : Program} {w : World} {K : PySem.W.Frag} {mg : Str → Option Value} {base : Heap} {f : Addr} {fd : FuncData} (F : Fun K "_law_when" "_law_when" s_law_when f fd) (B : Bl K mg) (Kt : Kit K)
  (c_law_number : Cal P w K mg base 3 "_law_number" ["_law_pen_here", "_law_kind"] (spL P0 penF 2 m_law_number))
  (c_meeting : Cal P w K mg base 4 "meeting" ["one", "other"] (spM P0 2 m_meeting))
  (c_law_take : Cal P w K mg base 1 "_law_take" ["_law_pen_here", "_law_many"] (spL P0 penF 2 mTakeL)) :
  FnOk P w K mg base CX0 5 f fd ["_law_pen_here", "_law_lines_here"] (spL P0 penF 2 m_law_when) :=
 F.okL sc_law_when rfl rfl fun cdv A outer s H E hr =>
 have hu := hr.units
 ⟨_, (pss_cons (ps_set (i := 2) sc_law_when.nd rfl (by first | exact Or.inl rfl | exact Or.inr rfl) (pe_callC c_law_take hr rfl (pa_cons (pv 0) (pa_cons pe_int pa_nil))))
   (pss_cons (ps_if (PW.pt (pw_and (pt_cmpR op_gt (pv 2) pe_int (nomark _)) (pw_and1 (pt_cmpR op_gt (pe_callB call_len_seq rfl B.len_ boot_len (pa_cons (pv 1) pa_nil)) pe_int (nomark _))))) (pss_cons (ps_set (i := 3) sc_law_when.nd rfl (by first | exact Or.inl rfl | exact Or.inr rfl) (pe_callC c_meeting hr rfl (pa_cons (pe_ix ix_seq (pv 1) (pe_callC c_law_take hr rfl (pa_cons (pv 0) (pa_cons (pe_callB call_len_seq rfl B.len_ boot_len (pa_cons (pv 1) pa_nil)) pa_nil))) (fun _ _ => rfl)) (pa_cons (pe_ix ix_seq (pv 1) (pe_callC c_law_take hr rfl (pa_cons (pv 0) (pa_cons (pe_callB call_len_seq rfl B.len_ boot_len (pa_cons (pv 1) pa_nil)) pa_nil))) (fun _ _ => rfl)) pa_nil))))
   (pss_one (ps_if (pt_cmpR (op_eqD hu) (pe_ix ix_seq (pv 3) pe_int (fun _ _ => rfl)) pe_str (nomark _)) (pss_one (ps_ret (pe_ix ix_seq (pv 3) pe_int (fun _ _ => rfl)))) pss_nil))) pss_nil)
   (pss_one (ps_ret (pe_callC c_law_number hr rfl (pa_cons (pv 0) (pa_cons (pe_ix ix_seq (pe_lst (pa_cons pe_int (pa_cons pe_int (pa_cons pe_int (pa_cons pe_int (pa_cons pe_int pa_nil)))))) (pv 2) (fun _ _ => rfl)) pa_nil))))))),
  ((vs_seq (vs_set (vo_val (vt_pub (vo_callL (va_val vt_int va_nil)))))
   (vs_seq (vs_if (vtt_and (vtt_val (vt_gt vt_var vt_int)) (vtt_val (vt_gt (vt_len vt_var) vt_int))) (vs_seq (vs_set (vo_val (vt_pub (vo_call (va_val (vt_ix vt_var (vt_pub (vo_callL (va_val (vt_len vt_var) va_nil)))) (va_val (vt_ix vt_var (vt_pub (vo_callL (va_val (vt_len vt_var) va_nil)))) va_nil))))))
   (vs_if (vtt_val (vt_eq (vt_ix vt_var vt_int) vt_str)) (vs_retK (vo_val (vt_ix vt_var vt_int))) vs_nx)) vs_nx)
   (vs_retK (vo_callL (va_val (vt_ix (vt_pub (vo_lst (vd_cons vt_int (vd_cons vt_int (vd_cons vt_int (vd_cons vt_int (vd_cons vt_int vd_nil))))))) vt_var) va_nil))))) : VS P0 _ b_law_when)⟩
abbrev s_law_ahead : Stmt := top 40
theorem sc_law_ahead : FnScope ["_law_lines_here", "_law_one", "_law_other", "_law_time", "_law_here", "_law_there"] ["_law_lines_here", "_law_one", "_law_other", "_law_time"] (defScope s_law_ahead) := ⟨rfl, rfl, rfl, by decide +kernel, rfl, by decide +kernel, by decide +kernel⟩
theorem ok_law_ahead {P0 : Addr → Hp → Prop} {P : Program} {w : World} {K : PySem.W.Frag} {mg : Str → Option Value} {base : Heap} {f : Addr} {fd : FuncData} (F : Fun K "_law_ahead" "_law_ahead" s_law_ahead f fd) (B : Bl K mg) (Kt : Kit K)
  (c_law_less : Cal P w K mg base 1 "_law_less" ["_law_a", "_law_b"] (spM P0 2 m_law_less))
  (c_law_plus : Cal P w K mg base 2 "_law_plus" ["_law_a", "_law_b", "_law_sign"] (spM P0 3 m_law_plus))
  (c_law_times : Cal P w K mg base 2 "_law_times" ["_law_a", "_law_b"] (spM P0 2 m_law_times)) :
  FnOk P w K mg base CX0 3 f fd ["_law_lines_here", "_law_one", "_law_other", "_law_time"] (spM P0 4 m_law_ahead) :=
 F.okV sc_law_ahead rfl rfl fun cdv A outer s H E hr =>
 have hu := hr.units
 ⟨_, (pss_cons (ps_set (i := 4) sc_law_ahead.nd rfl (by first | exact Or.inl rfl | exact Or.inr rfl) (pe_callC c_law_plus hr rfl (pa_cons (pe_ix ix_seq (pe_ix ix_seq (pv 0) (pv 1) (fun _ _ => rfl)) pe_int (fun _ _ => rfl)) (pa_cons (pe_callC c_law_times hr rfl (pa_cons (pe_ix ix_seq (pe_ix ix_seq (pv 0) (pv 1) (fun _ _ => rfl)) pe_int (fun _ _ => rfl)) (pa_cons (pv 3) pa_nil))) (pa_cons pe_int pa_nil)))))
   (pss_cons (ps_set (i := 5) sc_law_ahead.nd rfl (by first | exact Or.inl rfl | exact Or.inr rfl) (pe_callC c_law_plus hr rfl (pa_cons (pe_ix ix_seq (pe_ix ix_seq (pv 0) (pv 2) (fun _ _ => rfl)) pe_int (fun _ _ => rfl)) (pa_cons (pe_callC c_law_times hr rfl (pa_cons (pe_ix ix_seq (pe_ix ix_seq (pv 0) (pv 2) (fun _ _ => rfl)) pe_int (fun _ _ => rfl)) (pa_cons (pv 3) pa_nil))) (pa_cons pe_int pa_nil)))))
   (pss_cons (ps_if (pt_cmpR (op_neD hu) (pv 4) (pv 5) (nomark _)) (pss_one (ps_ret (pe_callC c_law_less hr rfl (pa_cons (pv 5) (pa_cons (pv 4) pa_nil))))) pss_nil)
   (pss_cons (ps_if (pt_cmpR (op_neD hu) (pe_ix ix_seq (pe_ix ix_seq (pv 0) (pv 1) (fun _ _ => rfl)) pe_int (fun _ _ => rfl)) (pe_ix ix_seq (pe_ix ix_seq (pv 0) (pv 2) (fun _ _ => rfl)) pe_int (fun _ _ => rfl)) (nomark _)) (pss_one (ps_ret (pe_callC c_law_less hr rfl (pa_cons (pe_ix ix_seq (pe_ix ix_seq (pv 0) (pv 2) (fun _ _ => rfl)) pe_int (fun _ _ => rfl)) (pa_cons (pe_ix ix_seq (pe_ix ix_seq (pv 0) (pv 1) (fun _ _ => rfl)) pe_int (fun _ _ => rfl)) pa_nil))))) pss_nil)
   (pss_one (ps_ret (pe_cmpR op_lt (pv 1) (pv 2) (nomark _)))))))),
  ((vs_seq (vs_set (vo_val (vt_pub (vo_call (va_val (vt_ix (vt_ix vt_var vt_var) vt_int) (va_val (vt_pub (vo_call (va_val (vt_ix (vt_ix vt_var vt_var) vt_int) (va_val vt_var va_nil)))) (va_val vt_int va_nil)))))))
   (vs_seq (vs_set (vo_val (vt_pub (vo_call (va_val (vt_ix (vt_ix vt_var vt_var) vt_int) (va_val (vt_pub (vo_call (va_val (vt_ix (vt_ix vt_var vt_var) vt_int) (va_val vt_var va_nil)))) (va_val vt_int va_nil)))))))
   (vs_seq (vs_if (vtt_val (vt_ne vt_var vt_var)) (vs_ret (vo_call (va_val vt_var (va_val vt_var va_nil)))) vs_nx)
   (vs_seq (vs_if (vtt_val (vt_ne (vt_ix (vt_ix vt_var vt_var) vt_int) (vt_ix (vt_ix vt_var vt_var) vt_int))) (vs_ret (vo_call (va_val (vt_ix (vt_ix vt_var vt_var) vt_int) (va_val (vt_ix (vt_ix vt_var vt_var) vt_int) va_nil)))) vs_nx)
   (vs_ret (vo_val (vt_lt vt_var vt_var))))))) : VS P0 _ b_law_ahead)⟩
abbrev s_law_till : Stmt := top 41
theorem sc_law_till : FnScope ["_law_lines_here", "_law_one", "_law_other", "_law_time", "_law_steep", "_law_apart", "_law_met"] ["_law_lines_here", "_law_one", "_law_other", "_law_time"] (defScope s_law_till) := ⟨rfl, rfl, rfl, by decide +kernel, rfl, by decide +kernel, by decide +kernel⟩
theorem ok_law_till {P0 : Addr → Hp → Prop} {P : Program} {w : World} {K : PySem.W.Frag} {mg : Str → Option Value} {base : Heap} {f : Addr} {fd : FuncData} (F : Fun K "_law_till" "_law_till" s_law_till f fd) (B : Bl K mg) (Kt : Kit K)
  (c_law_less : Cal P w K mg base 1 "_law_less" ["_law_a", "_law_b"] (spM P0 2 m_law_less))
  (c_law_lowest : Cal P w K mg base 1 "_law_lowest" ["_law_top", "_law_bottom"] (spM P0 2 m_law_lowest))
  (c_law_plus : Cal P w K mg base 2 "_law_plus" ["_law_a", "_law_b", "_law_sign"] (spM P0 3 m_law_plus)) :
  FnOk P w K mg base CX0 3 f fd ["_law_lines_here", "_law_one", "_law_other", "_law_time"] (spM P0 4 m_law_till) :=
 F.okV sc_law_till rfl rfl fun cdv A outer s H E hr =>
 have hu := hr.units
 ⟨_, (pss_cons (ps_set (i := 4) sc_law_till.nd rfl (by first | exact Or.inl rfl | exact Or.inr rfl) (pe_callC c_law_plus hr rfl (pa_cons (pe_ix ix_seq (pe_ix ix_seq (pv 0) (pv 1) (fun _ _ => rfl)) pe_int (fun _ _ => rfl)) (pa_cons (pe_ix ix_seq (pe_ix ix_seq (pv 0) (pv 2) (fun _ _ => rfl)) pe_int (fun _ _ => rfl)) (pa_cons (pe_un un_neg pe_int) pa_nil)))))
   (pss_cons (ps_if (pt_cmpR (op_eqD hu) (pe_ix ix_seq (pv 4) pe_int (fun _ _ => rfl)) pe_int (nomark _)) (pss_one (ps_ret pe_non)) pss_nil)
   (pss_cons (ps_set (i := 5) sc_law_till.nd rfl (by first | exact Or.inl rfl | exact Or.inr rfl) (pe_callC c_law_plus hr rfl (pa_cons (pe_ix ix_seq (pe_ix ix_seq (pv 0) (pv 2) (fun _ _ => rfl)) pe_int (fun _ _ => rfl)) (pa_cons (pe_ix ix_seq (pe_ix ix_seq (pv 0) (pv 1) (fun _ _ => rfl)) pe_int (fun _ _ => rfl)) (pa_cons (pe_un un_neg pe_int) pa_nil)))))
   (pss_cons (ps_set (i := 6) sc_law_till.nd rfl (by first | exact Or.inl rfl | exact Or.inr rfl) (pe_callC c_law_lowest hr rfl (pa_cons (pe_op op_mulX (pe_ix ix_seq (pv 5) pe_int (fun _ _ => rfl)) (pe_ix ix_seq (pv 4) pe_int (fun _ _ => rfl))) (pa_cons (pe_op op_mulX (pe_ix ix_seq (pv 5) pe_int (fun _ _ => rfl)) (pe_ix ix_seq (pv 4) pe_int (fun _ _ => rfl))) pa_nil))))
   (pss_one (ps_ret (pe_ix ix_seq (pe_lst (pa_cons pe_non (pa_cons (pv 6) pa_nil))) (pe_callTy call_int1 rfl B.int_ boot_int (pa_cons (pe_callC c_law_less hr rfl (pa_cons (pv 3) (pa_cons (pv 6) pa_nil))) pa_nil)) (fun _ _ => rfl)))))))),
  ((vs_seq (vs_set (vo_val (vt_pub (vo_call (va_val (vt_ix (vt_ix vt_var vt_var) vt_int) (va_val (vt_ix (vt_ix vt_var vt_var) vt_int) (va_val (vt_neg vt_int) va_nil)))))))
   (vs_seq (vs_if (vtt_val (vt_eq (vt_ix vt_var vt_int) vt_int)) (vs_ret (vo_val vt_non)) vs_nx)
   (vs_seq (vs_set (vo_val (vt_pub (vo_call (va_val (vt_ix (vt_ix vt_var vt_var) vt_int) (va_val (vt_ix (vt_ix vt_var vt_var) vt_int) (va_val (vt_neg vt_int) va_nil)))))))
   (vs_seq (vs_set (vo_val (vt_pub (vo_call (va_val (vt_mul (vt_ix vt_var vt_int) (vt_ix vt_var vt_int)) (va_val (vt_mul (vt_ix vt_var vt_int) (vt_ix vt_var vt_int)) va_nil))))))
   (vs_ret (vo_val (vt_ix (vt_pub (vo_lst (vd_cons vt_non (vd_cons vt_var vd_nil)))) (vt_int1 (vt_pub (vo_call (va_val vt_var (va_val vt_var va_nil)))))))))))) : VS P0 _ b_law_till)⟩
abbrev s_law_is_time : Stmt := top 42
theorem sc_law_is_time : FnScope ["_law_thing"] ["_law_thing"] (defScope s_law_is_time) := ⟨rfl, rfl, rfl, by decide +kernel, rfl, by decide +kernel, by decide +kernel⟩
theorem ok_law_is_time {P0 : Addr → Hp → Prop} {P : Program} {w : World} {K : PySem.W.Frag} {mg : Str → Option Value} {base : Heap} {f : Addr} {fd : FuncData} (F : Fun K "_law_is_time" "_law_is_time" s_law_is_time f fd) (B : Bl K mg) (Kt : Kit K) :
  FnOk P w K mg base CX0 1 f fd ["_law_thing"] (spM P0 1 m_law_is_time) :=
 F.okV sc_law_is_time rfl rfl fun cdv A outer s H E hr =>
 have hu := hr.units
 ⟨_, (pss_cons (ps_if (pt_cmpR op_isN (pv 0) pe_non (nomark _)) (pss_one (ps_ret pe_bl)) pss_nil)
   (pss_cons (ps_if (PW.pt (pw_or (pt_not (pt_val (pe_callB call_isi rfl B.isinstance_ boot_isinstance (pa_cons (pv 0) (pa_cons (pe_bltn (v := .ty "tuple") rfl B.tuple_ boot_tuple rfl) pa_nil))))) (pw_or1 (pt_cmpR (op_neD hu) (pe_callB call_len_seq rfl B.len_ boot_len (pa_cons (pv 0) pa_nil)) pe_int (nomark _))))) (pss_one (ps_ret pe_bl)) pss_nil)
   (pss_one (ps_ret (pe_and (pe_callB call_isi rfl B.isinstance_ boot_isinstance (pa_cons (pe_ix ix_seq (pv 0) pe_int (fun _ _ => rfl)) (pa_cons (pe_bltn (v := .ty "int") rfl B.int_ boot_int rfl) pa_nil))) (pe_one (pe_callB call_isi rfl B.isinstance_ boot_isinstance (pa_cons (pe_ix ix_seq (pv 0) pe_int (fun _ _ => rfl)) (pa_cons (pe_bltn (v := .ty "int") rfl B.int_ boot_int rfl) pa_nil))))))))),
  ((vs_seq (vs_if (vtt_val (vt_isN vt_var)) (vs_ret (vo_val vt_bl)) vs_nx)
   (vs_seq (vs_if (vtt_or (vtt_not (vtt_b (vt_isi Kt (by decide) vt_var))) (vtt_val (vt_ne (vt_len vt_var) vt_int))) (vs_ret (vo_val vt_bl)) vs_nx)
   (vs_ret (vo_val (vt_and (vt_isi Kt (by decide) (vt_ix vt_var vt_int)) (vt_isi Kt (by decide) (vt_ix vt_var vt_int))))))) : VS P0 _ b_law_is_time)⟩
abbrev s_law_right : Stmt := top 43
theorem sc_law_right : FnScope ["_law_walk", "_law_lines_here", "_law_time", "_law_papers", "_law_order", "_law_one", "_law_k", "_law_other", "_law_till_here"] ["_law_walk", "_law_lines_here", "_law_time"] (defScope s_law_right) := ⟨rfl, rfl, rfl, by decide +kernel, rfl, by decide +kernel, by decide +kernel⟩
theorem ok_law_right {P0 : Addr → Hp → Prop} {P : Program} {w : World} {K : PySem.W.Frag} {mg : Str → Option Value} {base : Heap} {f : Addr} {fd : FuncData} {c : Addr} (cl : Cls K c) {f_time : Addr} {fd_time : FuncData} (M_time : Meth K c "time" f_time) (F_time : FnOk P w K mg base CX0 1 f_time fd_time ["self"] (spM P0 1 (m_w_time c))) (b_time : Binds K fd_time ["self"] []) {f_order : Addr} {fd_order : FuncData} (M_order : Meth K c "order" f_order) (F_order : FnOk P w K mg base CX0 1 f_order fd_order ["self"] (spM P0 1 (m_w_order c))) (b_order : Binds K fd_order ["self"] []) {f_papers : Addr} {fd_papers : FuncData} (M_papers : Meth K c "papers" f_papers) (F_papers : FnOk P w K mg base CX0 9 f_papers fd_papers ["self"] (spM P0 1 (m_w_papers c))) (b_papers : Binds K fd_papers ["self"] []) (F : Fun K "_law_right" "_law_right" s_law_right f fd) (B : Bl K mg) (Kt : Kit K)
  (c_law_is_time : Cal P w K mg base 1 "_law_is_time" ["_law_thing"] (spM P0 1 m_law_is_time))
  (c_law_till : Cal P w K mg base 3 "_law_till" ["_law_lines_here", "_law_one", "_law_other", "_law_time"] (spM P0 4 m_law_till))
  (c_law_ahead : Cal P w K mg base 3 "_law_ahead" ["_law_lines_here", "_law_one", "_law_other", "_law_time"] (spM P0 4 m_law_ahead)) :
  FnOk P w K mg base CX0 10 f fd ["_law_walk", "_law_lines_here", "_law_time"] (spM P0 3 (m_law_right c)) :=
 F.okV sc_law_right rfl rfl fun cdv A outer s H E hr =>
 have hu := hr.units
 ⟨_, (pss_cons (ps_set (i := 3) sc_law_right.nd rfl (by first | exact Or.inl rfl | exact Or.inr rfl) (pe_meth0 (pv 0) cl M_papers F_papers (hr.mono (by decide)) b_papers .nil pass0))
   (pss_cons (ps_set (i := 4) sc_law_right.nd rfl (by first | exact Or.inl rfl | exact Or.inr rfl) (pe_meth0 (pv 0) cl M_order F_order (hr.mono (by decide)) b_order .nil pass0))
   (pss_cons (ps_if (PW.pt (pw_or (pt_cmpR (op_neD hu) (pe_meth0 (pv 0) cl M_time F_time (hr.mono (by decide)) b_time .nil pass0) (pv 2) (nomark _)) (pw_or (pt_not (pt_val (pe_callB call_isi rfl B.isinstance_ boot_isinstance (pa_cons (pv 4) (pa_cons (pe_bltn (v := .ty "list") rfl B.list_ boot_list rfl) pa_nil))))) (pw_or1 (pt_cmpR (op_neD hu) (pe_callB call_sortI rfl B.sorted_ boot_sorted (pa_cons (pv 4) pa_nil)) (pe_callTy (call_list_rng rfl) rfl B.list_ boot_list (pa_cons (pe_callTy call_range1R rfl B.range_ boot_range (pa_cons (pe_callB call_len_seq rfl B.len_ boot_len (pa_cons (pv 1) pa_nil)) pa_nil)) pa_nil)) (nomark _)))))) (pss_one (ps_ret pe_bl)) pss_nil)
   (pss_cons (ps_if (pt_cmpR (op_neD hu) (pe_lcomp (N := ["_law_one"]) (nt := 1) (fv := []) rfl (blk_of (osc := defScope s_law_right) (ON := ["_law_walk", "_law_lines_here", "_law_time", "_law_papers", "_law_order", "_law_one", "_law_k", "_law_other", "_law_till_here"]) (by decide +kernel)) (pi_list (pv 4)) (fun _ _ _ _ => (pg_name (i := 0) (show (["_law_one"] : List Str).Nodup by decide +kernel) rfl (by first | exact Or.inl rfl | exact Or.inr rfl))) (fun _ _ _ _ => (pts_one (PW.pt (pw_or (pt_not (pt_val (pe_callB call_isi rfl B.isinstance_ boot_isinstance (pa_cons (pv 0) (pa_cons (pe_bltn (v := .ty "int") rfl B.int_ boot_int rfl) pa_nil))))) (pw_or1 (pt_val (pe_callB call_isi rfl B.isinstance_ boot_isinstance (pa_cons (pv 0) (pa_cons (pe_bltn (v := .ty "bool") rfl B.bool_ boot_bool rfl) pa_nil))))))))) (fun _ _ _ _ => (pv 0))) (pe_lst pa_nil) (nomark _)) (pss_one (ps_ret pe_bl)) pss_nil)
   (pss_cons (ps_if (PW.pt (pw_or (pt_not (pt_val (pe_callB call_isi rfl B.isinstance_ boot_isinstance (pa_cons (pv 3) (pa_cons (pe_bltn (v := .ty "list") rfl B.list_ boot_list rfl) pa_nil))))) (pw_or1 (pt_cmpR (op_neD hu) (pe_callB call_len_seq rfl B.len_ boot_len (pa_cons (pv 3) pa_nil)) (pe_callB (call_max2 rfl) rfl B.max_ boot_max (pa_cons pe_int (pa_cons (pe_op op_sub (pe_callB call_len_seq rfl B.len_ boot_len (pa_cons (pv 1) pa_nil)) pe_int) pa_nil))) (nomark _))))) (pss_one (ps_ret pe_bl)) pss_nil)
   (pss_cons (ps_for PassesOwn.never rfl (pi_range1 rfl B.range_ (pa_cons (pe_callB call_len_seq rfl B.len_ boot_len (pa_cons (pv 3) pa_nil)) pa_nil)) (pg_name (i := 6) sc_law_right.nd rfl (by first | exact Or.inl rfl | exact Or.inr rfl)) (pss_cons (ps_asg (pe_slice sl_list (pv 4) (po_some (pv 6)) (po_some (pe_op op_add (pv 6) pe_int))) (pg_tupL rfl (pgs_cons (pg_name (i := 5) sc_law_right.nd rfl (by first | exact Or.inl rfl | exact Or.inr rfl)) (pgs_cons (pg_name (i := 7) sc_law_right.nd rfl (by first | exact Or.inl rfl | exact Or.inr rfl)) pgs_nil))))
   (pss_cons (ps_if (PW.pt (pw_or (pt_not (pt_val (pe_callC c_law_ahead hr rfl (pa_cons (pv 1) (pa_cons (pv 5) (pa_cons (pv 7) (pa_cons (pv 2) pa_nil))))))) (pw_or1 (pt_not (pt_val (pe_callB call_isi rfl B.isinstance_ boot_isinstance (pa_cons (pe_ix ix_seq (pv 3) (pv 6) (fun _ _ => rfl)) (pa_cons (pe_bltn (v := .ty "tuple") rfl B.tuple_ boot_tuple rfl) pa_nil)))))))) (pss_one (ps_ret pe_bl)) pss_nil)
   (pss_cons (ps_set (i := 8) sc_law_right.nd rfl (by first | exact Or.inl rfl | exact Or.inr rfl) (pe_callC c_law_till hr rfl (pa_cons (pv 1) (pa_cons (pv 5) (pa_cons (pv 7) (pa_cons (pv 2) pa_nil))))))
   (pss_one (ps_if (PW.pt (pw_or (pt_cmpR (op_neD hu) (pe_ix ix_seq (pv 3) (pv 6) (fun _ _ => rfl)) (pe_tup (pa_cons (pv 5) (pa_cons (pv 7) (pa_cons (pv 8) pa_nil)))) (nomark _)) (pw_or1 (pt_not (pt_val (pe_callC c_law_is_time hr rfl (pa_cons (pe_ix ix_seq (pe_ix ix_seq (pv 3) (pv 6) (fun _ _ => rfl)) pe_int (fun _ _ => rfl)) pa_nil))))))) (pss_one (ps_ret pe_bl)) pss_nil))))))
   (pss_one (ps_ret pe_bl)))))))),
  ((vs_seq (vs_set (vo_val (vt_pub (vo_methR va_nil))))
   (vs_seq (vs_set (vo_val (vt_pub (vo_methR va_nil))))
   (vs_seq (vs_if (vtt_or (vtt_val (vt_ne (vt_pub (vo_methR va_nil)) vt_var)) (vtt_or (vtt_not (vtt_b (vt_isi Kt (by decide) vt_var))) (vtt_val (vt_ne (vt_pub (vo_sortI vt_var)) (vt_pub (vo_listRng (vt_len vt_var))))))) (vs_ret (vo_val vt_bl)) vs_nx)
   (vs_seq (vs_if (vtt_val (vt_ne (vt_pub (vo_comp (vi_list vt_var) vg_name (vtt_or (vtt_not (vtt_b (vt_isi Kt (by decide) vt_var))) (vtt_b (vt_isi Kt (by decide) vt_var))) vt_var)) (vt_pub (vo_lst vd_nil)))) (vs_ret (vo_val vt_bl)) vs_nx)
   (vs_seq (vs_if (vtt_or (vtt_not (vtt_b (vt_isi Kt (by decide) vt_var))) (vtt_val (vt_ne (vt_len vt_var) (vt_max vt_int (vt_sub (vt_len vt_var) vt_int))))) (vs_ret (vo_val vt_bl)) vs_nx)
   (vs_seq (vs_for (vi_rng1 (vd_cons (vt_len vt_var) vd_nil)) vg_name (vs_seq (vs_asg (vt_pub (vo_slL vt_var (vp_so vt_var) (vp_so (vt_add vt_var vt_int)))) (vg_tupL (vgs_cons vg_name (vgs_cons vg_name vgs_nil))))
   (vs_seq (vs_if (vtt_or (vtt_not (vtt_b (vt_pub (vo_call (va_val vt_var (va_val vt_var (va_val vt_var (va_val vt_var va_nil)))))))) (vtt_not (vtt_b (vt_isi Kt (by decide) (vt_ix vt_var vt_var))))) (vs_ret (vo_val vt_bl)) vs_nx)
   (vs_seq (vs_set (vo_val (vt_pub (vo_call (va_val vt_var (va_val vt_var (va_val vt_var (va_val vt_var va_nil))))))))
   (vs_if (vtt_or (vtt_val (vt_ne (vt_ix vt_var vt_var) (vt_tup (vd_cons vt_var (vd_cons vt_var (vd_cons vt_var vd_nil)))))) (vtt_not (vtt_b (vt_pub (vo_call (va_val (vt_ix (vt_ix vt_var vt_var) vt_int) va_nil)))))) (vs_ret (vo_val vt_bl)) vs_nx)))))
   (vs_ret (vo_val vt_bl)))))))) : VS P0 _ (b_law_right c))⟩
abbrev s_law : Stmt := top 44
theorem sc_law : FnScope ["_law_script", "_law_pen_here", "_law_lines_here", "_law_times_here", "_law_k", "_law_handed", "_law_time", "_law_walks", "_law_some", "_law_turn", "_law_walk"] ["_law_script"] (defScope s_law) := ⟨rfl, rfl, rfl, by decide +kernel, rfl, by decide +kernel, by decide +kernel⟩
theorem ok_law {P : Program} {w : World} {K : PySem.W.Frag} {mg : Str → Option Value} {base : Heap} {f : Addr} {fd : FuncData} (F : Fun K "law" "law" s_law f fd) (B : Bl K mg) (Kt : Kit K) {c fI : Addr} {fdI : FuncData} (hmW : mg "Walk" = some (.ref c)) (M : Mk K c fI) (FI : FnOk P w K mg base CX0 8 fI fdI ["self", "lines", "time"] (spInitWk NoP c m_order_at)) (bI : Binds K fdI ["self", "lines", "time"] []) (cl : Cls K c) {f_order : Addr} {fd_order : FuncData} (M_order : Meth K c "order" f_order) (F_order : FnOk P w K mg base CX0 1 f_order fd_order ["self"] (spM NoP 1 (m_w_order c))) (b_order : Binds K fd_order ["self"] []) {f_papers : Addr} {fd_papers : FuncData} (M_papers : Meth K c "papers" f_papers) (F_papers : FnOk P w K mg base CX0 9 f_papers fd_papers ["self"] (spM NoP 1 (m_w_papers c))) (b_papers : Binds K fd_papers ["self"] [])
  (c_law_pen : Cal P w K mg base 1 "_law_pen" ["_law_script", "_law_k"] (spPenC K))
  (c_law_right : Cal P w K mg base 10 "_law_right" ["_law_walk", "_law_lines_here", "_law_time"] (spM NoP 3 (m_law_right c)))
  (c_law_when : Cal P w K mg base 5 "_law_when" ["_law_pen_here", "_law_lines_here"] (spL NoP penF 2 m_law_when))
  (c_law_lines : Cal P w K mg base 4 "_law_lines" ["_law_pen_here"] (spL NoP penF 1 m_law_lines))
  (hL : ∀ pen, (b_law_c c) (.no :: .box (penF.box pen 1) :: List.replicate 9 .no) TrueEnd) :
  FnOk P w K mg base CX0 11 f fd ["_law_script"] (spLaw K) := by
 refine F.ok sc_law (fun vs H Q E h => ?_) (fun cdv A outer s H vs Q E hr h => ?_)
 ·obtain ⟨a, ns, rfl, hS, h63, q⟩ := h
  rfl
 have hu := hr.units
 obtain ⟨a, ns, rfl, hS, h63, q⟩ := h
 exact law_bodyC (k := 9) ⟨by decide, by decide⟩ (ps_set (i := 1) sc_law.nd rfl (by first | exact Or.inl rfl | exact Or.inr rfl) (pe_callC c_law_pen hr rfl (pa_cons (pv 0) (pa_cons pe_int pa_nil)))) ⟨_, (pss_cons (ps_set (i := 2) sc_law.nd rfl (by first | exact Or.inl rfl | exact Or.inr rfl) (pe_callC c_law_lines hr rfl (pa_cons (pv 1) pa_nil)))
   (pss_cons (ps_set (i := 3) sc_law.nd rfl (by first | exact Or.inl rfl | exact Or.inr rfl) (pe_lcomp (N := ["_law_k", "_law_pen_here", "_law_lines_here"]) (nt := 1) (fv := [1, 2]) rfl (blk_of (osc := defScope s_law) (ON := ["_law_script", "_law_pen_here", "_law_lines_here", "_law_times_here", "_law_k", "_law_handed", "_law_time", "_law_walks", "_law_some", "_law_turn", "_law_walk"]) (by decide +kernel)) (pi_range1 rfl B.range_ (pa_cons pe_int pa_nil)) (fun _ _ _ _ => (pg_name (i := 0) (show (["_law_k", "_law_pen_here", "_law_lines_here"] : List Str).Nodup by decide +kernel) rfl (by first | exact Or.inl rfl | exact Or.inr rfl))) (fun _ _ _ _ => pts_nil) (fun _ _ _ _ => (pe_callC c_law_when hr rfl (pa_cons (pv 1) (pa_cons (pv 2) pa_nil))))))
   (pss_cons (ps_set (i := 5) sc_law.nd rfl (by first | exact Or.inl rfl | exact Or.inr rfl) (pe_lcomp (N := ["_law_time", "_law_lines_here"]) (nt := 1) (fv := [2]) rfl (blk_of (osc := defScope s_law) (ON := ["_law_script", "_law_pen_here", "_law_lines_here", "_law_times_here", "_law_k", "_law_handed", "_law_time", "_law_walks", "_law_some", "_law_turn", "_law_walk"]) (by decide +kernel)) (pi_list (pv 3)) (fun _ _ _ _ => (pg_name (i := 0) (show (["_law_time", "_law_lines_here"] : List Str).Nodup by decide +kernel) rfl (by first | exact Or.inl rfl | exact Or.inr rfl))) (fun _ _ _ _ => pts_nil) (fun _ _ _ _ => (pe_callTy call_list_of rfl B.list_ boot_list (pa_cons (pv 1) pa_nil)))))
   (pss_cons (ps_setC (N := ["_law_k", "_law_handed", "_law_times_here"]) (nt := 1) (fv := [5, 3]) (i := 7) sc_law.nd rfl rfl rfl (blk_of (osc := defScope s_law) (ON := ["_law_script", "_law_pen_here", "_law_lines_here", "_law_times_here", "_law_k", "_law_handed", "_law_time", "_law_walks", "_law_some", "_law_turn", "_law_walk"]) (by decide +kernel)) (pi_range1 rfl B.range_ (pa_cons pe_int pa_nil)) (fun _ _ _ _ => (pg_name (i := 0) (show (["_law_k", "_law_handed", "_law_times_here"] : List Str).Nodup by decide +kernel) rfl (by first | exact Or.inl rfl | exact Or.inr rfl))) (fun _ _ _ _ => pts_nil) (fun _ _ _ _ => (pe_make M FI (hr.mono (by decide)) rfl hmW bI .nil pass0 (pa_cons (pe_ix ix_seq (pv 1) (pv 0) (fun _ _ => rfl)) (pa_cons (pe_ix ix_seq (pv 2) (pv 0) (fun _ _ => rfl)) pa_nil)))))
   (pss_cons (ps_if (pt_cmpR (op_neD hu) (pv 5) (pe_op op_rep (pe_lst (pa_cons (pv 2) pa_nil)) pe_int) (nomark _)) (pss_one (ps_ret pe_bl)) pss_nil)
   (pss_cons (ps_for PassesOwn.never rfl (pi_list (pv 5)) (pg_name (i := 8) sc_law.nd rfl (by first | exact Or.inl rfl | exact Or.inr rfl)) (pss_cons (ps_expr (pe_bm PySem.F.plainAttrs_list PySem.F.slot_list_insert PySem.F.type_list_insert mt_insert (pv 8) (pa_cons pe_int (pa_cons (pe_tup (pa_cons (pe_tup (pa_cons pe_int (pa_cons pe_int pa_nil))) (pa_cons (pe_tup (pa_cons pe_int (pa_cons pe_int pa_nil))) pa_nil))) pa_nil)))) (pss_one (ps_expr (pe_bm PySem.F.plainAttrs_list PySem.F.slot_list_append PySem.F.type_list_append mt_append (pv 8) (pa_cons (pe_tup (pa_cons (pe_tup (pa_cons pe_int (pa_cons pe_int pa_nil))) (pa_cons (pe_tup (pa_cons pe_int (pa_cons pe_int pa_nil))) pa_nil))) pa_nil))))))
   (pss_cons (ps_for PassesOwn.never rfl (pi_range1 rfl B.range_ (pa_cons pe_int pa_nil)) (pg_name (i := 9) sc_law.nd rfl (by first | exact Or.inl rfl | exact Or.inr rfl)) (pss_one (ps_for PassesOwn.never rfl (pi_zip rfl B.zip_ (pa_cons (pv 7) (pa_cons (pv 3) pa_nil))) (pg_tup rfl (pgs_cons (pg_name (i := 10) sc_law.nd rfl (by first | exact Or.inl rfl | exact Or.inr rfl)) (pgs_cons (pg_name (i := 6) sc_law.nd rfl (by first | exact Or.inl rfl | exact Or.inr rfl)) pgs_nil))) (pss_cons (ps_if (pt_not (pt_val (pe_callC c_law_right hr rfl (pa_cons (pv 10) (pa_cons (pv 2) (pa_cons (pv 6) pa_nil)))))) (pss_one (ps_ret pe_bl)) pss_nil)
   (pss_cons (ps_expr (pe_bm0 PySem.F.plainAttrs_list PySem.F.slot_list_reverse PySem.F.type_list_reverse mt_reverse (pe_meth0 (pv 10) cl M_order F_order (hr.mono (by decide)) b_order .nil pass0)))
   (pss_one (ps_expr (pe_bm PySem.F.plainAttrs_list PySem.F.slot_list_append PySem.F.type_list_append mt_append (pe_meth0 (pv 10) cl M_papers F_papers (hr.mono (by decide)) b_papers .nil pass0) (pa_cons pe_non pa_nil)))))))))
   (pss_one (ps_ret pe_bl))))))))),
  ((vs_seq (vs_set (vo_val (vt_pub (vo_callL va_nil))))
   (vs_seq (vs_set (vo_val (vt_pub (vo_compLn (i := 1) (k := 1) (by decide) rfl (vi_rng1 (vd_cons vt_int vd_nil)) vg_name vtt_true (vt_pub (vo_callL (va_val vt_var va_nil)))))))
   (vs_seq (vs_set (vo_compM (vi_list vt_var) vg_name vtt_true (vo_listOf vt_var)))
   (vs_seq (vs_setP (vo_peekB (vo_compM (vi_rng1 (vd_cons vt_int vd_nil)) vg_name vtt_true (vo_newWk (vt_ix vt_var vt_var) (vt_ix vt_var vt_var)))))
   (vs_seq (vs_if (vtt_peek (vtt_val (vt_ne vt_var (vt_pub (vo_rep (vt_pub (vo_lst (vd_cons vt_var vd_nil))) vt_int))))) (vs_ret (vo_val vt_bl)) vs_nx)
   (vs_seq (vs_junk (lays_tup2 (lays_tup2 lays_c lays_c) (lays_tup2 lays_c lays_c)) (lays_tup2 (lays_tup2 lays_c lays_c) (lays_tup2 lays_c lays_c)))
   (vs_seq (vs_for (vi_rng1 (vd_cons vt_int vd_nil)) vg_name (vs_forZ vt_var (vs_seq (vs_if (vtt_not (vtt_b (vt_pub (vo_call (va_pb (va_val vt_var (va_val vt_var va_nil))))))) (vs_ret (vo_val vt_bl)) vs_nx)
   (vs_seq (vs_lostRev (vo_methR va_nil))
   (vs_lostApp (vo_methR va_nil))))))
   (vs_ret (vo_val vt_bl))))))))) : VS NoP _ (b_law_c c))⟩ rfl hS hL q
section
variable {Q : Rv → Prop}
theorem t_whole {i : Int} (q : Q (.val (.bool true))) : m_is_whole [.val (.int i)] Q := by
 refine i_fn ?_
 unfold b_is_whole
 walk_at "vs"
 exact q
theorem t_gcd {a b : Int} (q : Q (.val (.int (Int.gcd a b : Nat)))) : m_greatest_divisor [.val (.int a), .val (.int b)] Q := by
 refine i_fn ?_
 unfold b_greatest_divisor b_greatest_divisor_r1 b_greatest_divisor_l1
 walk_at "vs"
 refine while_inv (fun n Γ => ∃ d r x, Γ = [.val (.int a), .val (.int b), .val (.int d), .val (.int r), x] ∧ 0 ≤ d ∧ 0 ≤ r ∧ Int.gcd d r = Int.gcd a b ∧ n = r.toNat) _ ⟨_, _, .no, rfl, abs_nn a, abs_nn b, abs_gcd a b, rfl⟩ ?_
 rintro m Γ ⟨d, r, x, rfl, hd, hr, hg, rfl⟩
 walk_at "vs"
 refine iteN2 (fun c => ?_) (fun c => ?_)
 ·have hp : 0 < r := by omega
  walk_at "vs"
  refine ⟨hp, ?_⟩
  walk_at "vs"
  have h1 := Int.emod_nonneg d (b := r) (by omega)
  have h2 := Int.emod_lt_of_pos d hp
  exact ⟨_, by omega, _, _, _, rfl, hr, h1, (gcd_step hd hp).trans hg, rfl⟩
 ·subst c
  have e := gcd_end hd
  rw [hg] at e
  walk_at "vs"
  rw [e] at q
  exact q
theorem t_number_of {t b : Int} (h0 : b ≠ 0) (hb : Bt 9000 b) (q : Q (.val (dNum (Rat.divInt t b)))) : m_number_of [.val (.int t), .val (.int b)] Q := by
 have g0 := gcd_ne (t := t) h0
 have g1 := gcd_bt (t := t) hb h0
 refine i_fn ?_
 unfold b_number_of b_number_of_r2 b_number_of_r1
 walk_at "vs"
 refine t_whole ?_
 walk_at "vs"
 refine t_whole ?_
 walk_at "vs"
 refine iteD0 h0 ?_
 walk_at "vs"
 refine t_gcd ?_
 walk_at "vs"
 refine iteD2 (fun c => ?_) (fun c => ?_)
 ·have n := norm_neg (t := t) c
  walk_at "vs"
  refine ⟨⟨by omega, g1.neg⟩, ?_⟩
  walk_at "vs"
  refine ⟨⟨by omega, g1.neg⟩, ?_⟩
  walk_at "vs"
  rw [n.1, n.2]
  exact q
 ·have n := norm_pos (t := t) (b := b) (by omega)
  walk_at "vs"
  refine ⟨⟨g0, g1⟩, ?_⟩
  walk_at "vs"
  refine ⟨⟨g0, g1⟩, ?_⟩
  walk_at "vs"
  rw [n.1, n.2]
  exact q
theorem t_sum_of {a b : Rat} (ha : Sz 4000 a) (hb : Sz 4000 b) (q : Q (.val (dNum (a + b)))) : m_sum_of [.val (dNum a), .val (dNum b)] Q := by
 obtain ⟨a0, a1⟩ := id ha
 obtain ⟨b0, b1⟩ := id hb
 refine i_fn ?_
 unfold b_sum_of
 walk_at "vs"
 refine t_number_of (Int.mul_ne_zero (den_ne a) (den_ne b)) ((a1.mul b1).mono (by decide)) ?_
 rw [add_eq]
 exact q
theorem t_difference_of {a b : Rat} (ha : Sz 4000 a) (hb : Sz 4000 b) (q : Q (.val (dNum (a - b)))) : m_difference_of [.val (dNum a), .val (dNum b)] Q := by
 obtain ⟨a0, a1⟩ := id ha
 obtain ⟨b0, b1⟩ := id hb
 refine i_fn ?_
 unfold b_difference_of
 walk_at "vs"
 refine t_number_of (Int.mul_ne_zero (den_ne a) (den_ne b)) ((a1.mul b1).mono (by decide)) ?_
 rw [sub_eq]
 exact q
theorem t_product_of {a b : Rat} (ha : Sz 4000 a) (hb : Sz 4000 b) (q : Q (.val (dNum (a * b)))) : m_product_of [.val (dNum a), .val (dNum b)] Q := by
 obtain ⟨a0, a1⟩ := id ha
 obtain ⟨b0, b1⟩ := id hb
 refine i_fn ?_
 unfold b_product_of
 walk_at "vs"
 refine t_number_of (Int.mul_ne_zero (den_ne a) (den_ne b)) ((a1.mul b1).mono (by decide)) ?_
 rw [mul_eq]
 exact q
theorem t_quotient_of {a b : Rat} (ha : Sz 4000 a) (hb : Sz 4000 b) (h0 : b ≠ 0) (q : Q (.val (dNum (a / b)))) : m_quotient_of [.val (dNum a), .val (dNum b)] Q := by
 obtain ⟨a0, a1⟩ := id ha
 obtain ⟨b0, b1⟩ := id hb
 refine i_fn ?_
 unfold b_quotient_of
 walk_at "vs"
 refine t_number_of (Int.mul_ne_zero (den_ne a) (num_ne h0)) ((a1.mul b0).mono (by decide)) ?_
 rw [div_eq a h0]
 exact q
theorem t_is_less {a b : Rat} (ha : Sz 9000 a) (hb : Sz 9000 b) (q : Q (.val (.bool (decide (a < b))))) : m_is_less [.val (dNum a), .val (dNum b)] Q := by
 obtain ⟨a0, a1⟩ := id ha
 obtain ⟨b0, b1⟩ := id hb
 refine i_fn ?_
 unfold b_is_less
 walk_at "vs"
 rw [lt_eq]
 exact q
theorem t_place_at {l : Rat × Rat} {t : Rat} (h1 : Sz 900 l.1) (h2 : Sz 900 l.2) (h3 : Sz 2900 t) (q : Q (.val (dNum (l.1 + l.2 * t)))) : m_place_at [.val (dLine l), .val (dNum t)] Q := by
 refine i_fn ?_
 unfold b_place_at
 walk_at "vs"
 refine t_product_of (h2.mono (by decide)) (h3.mono (by decide)) ?_
 walk_at "vs"
 exact t_sum_of (h1.mono (by decide)) ((h2.mul h3).mono (by decide)) q
noncomputable def meetD (l k : Rat × Rat) : D := if l.2 = k.2 then (if l.1 = k.1 then .tuple [.str "always"] else .tuple [.str "never"]) else .tuple [.str "at", dNum ((k.1 - l.1) / (l.2 - k.2))]
theorem t_meeting {l k : Rat × Rat} (h1 : Sz 900 l.1) (h2 : Sz 900 l.2) (h3 : Sz 900 k.1) (h4 : Sz 900 k.2) (q : Q (.val (meetD l k))) : m_meeting [.val (dLine l), .val (dLine k)] Q := by
 unfold meetD at q
 refine i_fn ?_
 unfold b_meeting b_meeting_r1
 walk_at "vs"
 refine iteD2 (fun c => ?_) (fun c => ?_)
 ·rw [if_pos c] at q
  walk_at "vs"
  refine iteD2 (fun c2 => ?_) (fun c2 => ?_)
  ·rw [if_pos c2] at q
   walk_at "vs"
   exact q
  ·rw [if_neg c2] at q
   walk_at "vs"
   exact q
 ·rw [if_neg c] at q
  walk_at "vs"
  refine t_difference_of (h3.mono (by decide)) (h1.mono (by decide)) ?_
  walk_at "vs"
  refine t_difference_of (h2.mono (by decide)) (h4.mono (by decide)) ?_
  walk_at "vs"
  refine t_quotient_of ((h3.sub h1).mono (by decide)) ((h2.sub h4).mono (by decide)) (by grind) ?_
  walk_at "vs"
  exact q
theorem t_lowest {t b : Int} (h0 : b ≠ 0) (hb : Bt 9000 b) (q : Q (.val (dNum (Rat.divInt t b)))) : m_law_lowest [.val (.int t), .val (.int b)] Q := by
 have g0 := gcd_ne (t := t) h0
 have g1 := gcd_bt (t := t) hb h0
 refine i_fn ?_
 unfold b_law_lowest b_law_lowest_r2 b_law_lowest_l1 b_law_lowest_r1
 walk_at "vs"
 refine while_inv (fun n Γ => ∃ d r, Γ = [.val (.int t), .val (.int b), .val (.int d), .val (.int r)] ∧ 0 ≤ d ∧ 0 ≤ r ∧ Int.gcd d r = Int.gcd t b ∧ n = r.toNat) _ ⟨_, _, rfl, abs_nn t, abs_nn b, abs_gcd t b, rfl⟩ ?_
 rintro m Γ ⟨d, r, rfl, hd, hr, hg, rfl⟩
 walk_at "vs"
 refine iteD2 (fun c => ?_) (fun c => ?_)
 ·walk_at "vs"
  refine ⟨c, ?_⟩
  walk_at "vs"
  have h1 := Int.emod_nonneg d (b := r) (by omega)
  have h2 := Int.emod_lt_of_pos d c
  exact ⟨_, by omega, _, _, rfl, hr, h1, (gcd_step hd c).trans hg, rfl⟩
 ·have c' : r = 0 := by omega
  subst c'
  have e := gcd_end hd
  rw [hg] at e
  subst e
  walk_at "vs"
  refine iteD2 (fun c => ?_) (fun c => ?_)
  ·have n := norm_neg (t := t) c
   walk_at "vs"
   rw [Int.zero_sub]
   refine ⟨⟨by omega, g1.neg⟩, ?_⟩
   walk_at "vs"
   refine ⟨⟨by omega, g1.neg⟩, ?_⟩
   walk_at "vs"
   rw [n.1, n.2]
   exact q
  ·have n := norm_pos (t := t) (b := b) (by omega)
   walk_at "vs"
   refine ⟨⟨g0, g1⟩, ?_⟩
   walk_at "vs"
   refine ⟨⟨g0, g1⟩, ?_⟩
   walk_at "vs"
   rw [n.1, n.2]
   exact q
theorem t_plus {a b : Rat} {s : Int} (hs : s = 1 ∨ s = -1) (ha : Sz 4000 a) (hb : Sz 4000 b) (q : Q (.val (dNum (pm s a b)))) : m_law_plus [.val (dNum a), .val (dNum b), .val (.int s)] Q := by
 obtain ⟨a0, a1⟩ := id ha
 obtain ⟨b0, b1⟩ := id hb
 have hs1 := bt_sign hs
 have hs2 := hs1.mul b0
 refine i_fn ?_
 unfold b_law_plus
 walk_at "vs"
 refine t_lowest (Int.mul_ne_zero (den_ne a) (den_ne b)) ((a1.mul b1).mono (by decide)) ?_
 rw [pm_eq]
 exact q
theorem t_times {a b : Rat} (ha : Sz 4000 a) (hb : Sz 4000 b) (q : Q (.val (dNum (a * b)))) : m_law_times [.val (dNum a), .val (dNum b)] Q := by
 obtain ⟨a0, a1⟩ := id ha
 obtain ⟨b0, b1⟩ := id hb
 refine i_fn ?_
 unfold b_law_times
 walk_at "vs"
 refine t_lowest (Int.mul_ne_zero (den_ne a) (den_ne b)) ((a1.mul b1).mono (by decide)) ?_
 rw [mul_eq]
 exact q
theorem t_less {a b : Rat} (ha : Sz 9000 a) (hb : Sz 9000 b) (q : Q (.val (.bool (decide (a < b))))) : m_law_less [.val (dNum a), .val (dNum b)] Q := by
 obtain ⟨a0, a1⟩ := id ha
 obtain ⟨b0, b1⟩ := id hb
 refine i_fn ?_
 unfold b_law_less
 walk_at "vs"
 rw [lt_eq]
 exact q
end
theorem dNum_int (i : Int) : PyData.tuple [.int i, .int 1] = dNum (i : Rat) := by
 unfold dNum
 rw [Rat.num_intCast, Rat.den_intCast]
 rfl
theorem bt31 {k : Nat} {i : Int} (h1 : -2147483648 < i) (h2 : i < 2147483648) (hk : 31 ≤ k := by decide) : Bt k i := by
 refine Bt.mono (k := 31) ?_ hk
 show i.natAbs < 2 ^ 31
 have : (2 : Nat) ^ 31 = 2147483648 := by decide
 omega
theorem sz_small {k : Nat} {i : Int} (h1 : -2147483648 < i) (h2 : i < 2147483648) (hk : 31 ≤ k := by decide) : Sz k (i : Rat) := sz_int (bt31 h1 h2 hk) (by omega)
noncomputable def LinesOk (k : Nat) (ls : List (Rat × Rat)) : Prop := ∀ l ∈ ls, Sz k l.1 ∧ Sz k l.2
noncomputable def dLines (ls : List (Rat × Rat)) : List D := ls.map dLine
theorem LinesOk.get {k : Nat} {ls : List (Rat × Rat)} (h : LinesOk k ls) {i : Nat} {l : Rat × Rat} (e : ls[i]? = some l) : Sz k l.1 ∧ Sz k l.2 := h l (List.mem_of_getElem? e)
theorem LinesOk.snoc {k : Nat} {ls : List (Rat × Rat)} {l : Rat × Rat} (h : LinesOk k ls) (h1 : Sz k l.1) (h2 : Sz k l.2) : LinesOk k (ls ++ [l]) := fun x hx => by
 rcases List.mem_append.mp hx with hx | hx
 ·exact h x hx
 ·rw [List.mem_singleton.mp hx]; exact ⟨h1, h2⟩
theorem ix_nat {ds : List D} {i : Nat} {d : D} (h : ds[i]? = some d) : ixD (.list ds) (.int (i : Int)) = some d := atI_nat h
theorem ix_lines {ls : List (Rat × Rat)} {i : Nat} (h : i < ls.length) : ixD (.list (dLines ls)) (.int (i : Int)) = some (dLine ls[i]) := ix_nat (by unfold dLines; rw [List.getElem?_map, List.getElem?_eq_getElem h]; rfl)
theorem dLines_get {ls : List (Rat × Rat)} {i : Nat} {d : D} (h : (dLines ls)[i]? = some d) : ∃ l, ls[i]? = some l ∧ d = dLine l := by
 unfold dLines at h
 rw [List.getElem?_map] at h
 cases e : ls[i]? with
 | none => rw [e] at h; cases h
 | some l => rw [e] at h; cases h; exact ⟨l, rfl, rfl⟩
theorem dLines_snoc (ls : List (Rat × Rat)) (l : Rat × Rat) : dLines ls ++ [dLine l] = dLines (ls ++ [l]) := by simp [dLines]
theorem dLines_len (ls : List (Rat × Rat)) : (dLines ls).length = ls.length := by simp [dLines]
section
variable {Q : Rv → Prop}
end
theorem bt3 {i : Int} (h1 : -8 < i) (h2 : i < 8) : Bt 3 i := by
 show i.natAbs < 2 ^ 3
 have : (2 : Nat) ^ 3 = 8 := by decide
 omega
theorem sz3 {i : Int} (h1 : -8 < i) (h2 : i < 8) : Sz 3 (i : Rat) := sz_int (bt3 h1 h2) (by decide)
theorem abs_gcd1 {t b : Int} (h : 0 < b) : Int.gcd (if t < 0 then -t else t) b = Int.gcd t b := by
 have := abs_gcd t b
 rwa [if_neg (c := b < 0) (by omega)] at this
theorem through3 (p m t : Rat) : Rat.divInt (p.num * m.den * t.den - m.num * t.num * p.den) (p.den * m.den * t.den) = p - m * t := by
 refine dI (Int.mul_ne_zero (Int.mul_ne_zero (den_ne p) (den_ne m)) (den_ne t)) ?_
 simp only [Rat.intCast_sub, Rat.intCast_mul]
 rw [numq p, numq m, numq t]
 grind
theorem met_ne {a b : Rat} (h : a ≠ b) : a.num * b.den - b.num * a.den ≠ 0 := by
 intro z
 apply h
 have e := sub_eq a b
 rw [z, Rat.zero_divInt] at e
 grind
theorem met3 (a0 a1 b0 b1 : Rat) (h : a1 ≠ b1) : Rat.divInt ((b0.num * a0.den - a0.num * b0.den) * a1.den * b1.den) ((a1.num * b1.den - b1.num * a1.den) * a0.den * b0.den) = (b0 - a0) / (a1 - b1) := by
 refine dI (Int.mul_ne_zero (Int.mul_ne_zero (met_ne h) (den_ne a0)) (den_ne b0)) ?_
 have e := Rat.div_mul_cancel (a := b0 - a0) (b := a1 - b1) (by grind)
 simp only [Rat.intCast_sub, Rat.intCast_mul]
 rw [numq a0, numq b0, numq a1, numq b1]
 generalize (b0 - a0) / (a1 - b1) = m at *
 grind
noncomputable def KW (w : Bool) : Nat := if w then 60 else 3
theorem KW3 (w : Bool) : 3 ≤ KW w := by cases w <;> decide
theorem KW60 (w : Bool) : KW w ≤ 60 := by cases w <;> decide
section
variable {Q : Rv → Prop}
end
section
variable {Q : Rv → Prop} {ls : List (Rat × Rat)} {i j : Nat} {l k : Rat × Rat} {t : Rat}
theorem ix_line {ls : List (Rat × Rat)} {i : Nat} {l : Rat × Rat} (h : ls[i]? = some l) : ixD (.list (dLines ls)) (.int (i : Int)) = some (dLine l) := ix_nat (by unfold dLines; rw [List.getElem?_map, h]; rfl)
noncomputable def dOpt : Option Rat → D
 | none => .none
 | some q => dNum q
theorem gd_opt (o : Option Rat) : Gd 1 (dOpt o) := by
 cases o with
 | none => exact gd_none.mono
 | some q => exact gd_num q
theorem good_opt (o : Option Rat) : Good (dOpt o) := (gd_opt o).good
theorem place_sz {l : Rat × Rat} {t : Rat} (h1 : Sz 900 l.1) (h2 : Sz 900 l.2) (h3 : Sz 2900 t) : Sz 9000 (pl l t) := (h1.add (h2.mul h3)).mono (by decide)
noncomputable def dStand (l : Rat × Rat) (t : Rat) (i : Nat) : D := .tuple [dNum (pl l t), dNum l.2, .int (i : Int)]
theorem ix_st0 (l : Rat × Rat) (t : Rat) (i : Nat) : ixD (dStand l t i) (.int 0) = some (dNum (pl l t)) := rfl
theorem ix_st1 (l : Rat × Rat) (t : Rat) (i : Nat) : ixD (dStand l t i) (.int 1) = some (dNum l.2) := rfl
theorem ix_st2 (l : Rat × Rat) (t : Rat) (i : Nat) : ixD (dStand l t i) (.int 2) = some (.int (i : Int)) := rfl
theorem t_standing (hi : ls[i]? = some l) (h1 : Sz 900 l.1) (h2 : Sz 900 l.2) (ht : Sz 2900 t) (q : Q (.val (dStand l t i))) :
  m_standing [.val (.list (dLines ls)), .val (.int (i : Int)), .val (dNum t)] Q := by
 refine i_fn ?_
 unfold b_standing
 walk_at "vs"
 refine i_oQ (ix_line hi) ?_
 walk_at "vs"
 refine t_place_at h1 h2 ht ?_
 walk_at "vs"
 refine i_oQ (ix_line hi) ?_
 walk_at "vs"
 exact q
theorem t_stands_ahead (h1 : Sz 9000 (pl l t)) (h2 : Sz 9000 l.2) (h3 : Sz 9000 (pl k t)) (h4 : Sz 9000 k.2) (q : Q (.val (.bool (ahB l k i j t)))) :
  m_stands_ahead [.val (dStand l t i), .val (dStand k t j)] Q := by
 unfold ahB at q
 refine i_fn ?_
 unfold b_stands_ahead b_stands_ahead_r2 b_stands_ahead_r1
 walk_at "vs"
 refine i_oQ (ix_st0 _ _ _) ?_
 walk_at "vs"
 refine i_oQ (ix_st0 _ _ _) ?_
 walk_at "vs"
 refine iteN2 (fun c => ?_) (fun c => ?_)
 ·rw [if_neg c] at q
  walk_at "vs"
  refine i_oQ (ix_st0 _ _ _) ?_
  walk_at "vs"
  refine i_oQ (ix_st0 _ _ _) ?_
  walk_at "vs"
  exact t_is_less h3 h1 q
 ·rw [if_pos c] at q
  walk_at "vs"
  refine i_oQ (ix_st1 _ _ _) ?_
  walk_at "vs"
  refine i_oQ (ix_st1 _ _ _) ?_
  walk_at "vs"
  refine iteN2 (fun c => ?_) (fun c => ?_)
  ·rw [if_neg c] at q
   walk_at "vs"
   refine i_oQ (ix_st1 _ _ _) ?_
   walk_at "vs"
   refine i_oQ (ix_st1 _ _ _) ?_
   walk_at "vs"
   exact t_is_less h4 h2 q
  ·rw [if_pos c] at q
   walk_at "vs"
   refine i_oQ (ix_st2 _ _ _) ?_
   walk_at "vs"
   refine i_oQ (ix_st2 _ _ _) ?_
   walk_at "vs"
   exact q
theorem t_is_ahead (hi : ls[i]? = some l) (hj : ls[j]? = some k) (h1 : Sz 900 l.1) (h2 : Sz 900 l.2) (h3 : Sz 900 k.1) (h4 : Sz 900 k.2) (ht : Sz 2900 t) (q : Q (.val (.bool (ahB l k i j t)))) :
  m_is_ahead [.val (.list (dLines ls)), .val (.int (i : Int)), .val (.int (j : Int)), .val (dNum t)] Q := by
 refine i_fn ?_
 unfold b_is_ahead
 walk_at "vs"
 refine t_standing hi h1 h2 ht ?_
 walk_at "vs"
 refine t_standing hj h3 h4 ht ?_
 walk_at "vs"
 exact t_stands_ahead (place_sz h1 h2 ht) (h2.mono (by decide)) (place_sz h3 h4 ht) (h4.mono (by decide)) q
theorem t_next_change (hi : ls[i]? = some l) (hj : ls[j]? = some k) (h1 : Sz 900 l.1) (h2 : Sz 900 l.2) (h3 : Sz 900 k.1) (h4 : Sz 900 k.2) (ht : Sz 2900 t) (q : Q (.val (dOpt (nxC l k t)))) :
  m_next_change [.val (.list (dLines ls)), .val (.int (i : Int)), .val (.int (j : Int)), .val (dNum t)] Q := by
 unfold nxC at q
 refine i_fn ?_
 unfold b_next_change b_next_change_r1
 walk_at "vs"
 refine i_oQ (ix_line hi) ?_
 walk_at "vs"
 refine i_oQ (ix_line hj) ?_
 walk_at "vs"
 refine t_meeting h1 h2 h3 h4 ?_
 walk_at "vs"
 unfold meetD
 by_cases hs : l.2 = k.2
 ·rw [if_pos hs] at q ⊢
  obtain ⟨s, hs1, hs2⟩ : ∃ s : Str, (if l.1 = k.1 then PyData.tuple [.str "always"] else .tuple [.str "never"]) = .tuple [.str s] ∧ (s = "always" ∨ s = "never") := by
   by_cases c : l.1 = k.1
   ·rw [if_pos c]; exact ⟨_, rfl, .inl rfl⟩
   ·rw [if_neg c]; exact ⟨_, rfl, .inr rfl⟩
  rw [hs1]
  refine i_oQ (d := .str s) rfl ?_
  walk_at "vs"
  have hz : PyData.eqv (.str s) (.str "at") = false := by rcases hs2 with rfl | rfl <;> decide
  refine ⟨by rcases hs2 with rfl | rfl <;> exact good_str _, good_str _, ?_⟩
  rw [hz]
  walk_at "vs"
  exact q
 ·rw [if_neg hs] at q ⊢
  have zm : Sz 3700 (mt l k) := ((h3.sub h1).div (h2.sub h4) (by grind)).mono (by decide)
  refine i_oQ (d := .str "at") rfl ?_
  walk_at "vs"
  refine ⟨good_str _, good_str _, ?_⟩
  rw [eqv_self (good_str "at")]
  walk_at "vs"
  refine i_oQ (d := dNum (mt l k)) rfl ?_
  walk_at "vs"
  refine t_is_less (ht.mono (by decide)) (zm.mono (by decide)) ?_
  walk_at "vs"
  refine iteD2 (fun c => ?_) (fun c => ?_)
  ·rw [if_pos c] at q
   walk_at "vs"
   refine i_oQ (d := dNum (mt l k)) rfl ?_
   walk_at "vs"
   exact q
  ·rw [if_neg c] at q
   walk_at "vs"
   exact q
end
noncomputable def dNums (ts : List Rat) : List D := ts.map dNum
theorem dNums_get {ts : List Rat} {i : Nat} {d : D} (h : (dNums ts)[i]? = some d) : ∃ t, ts[i]? = some t ∧ d = dNum t := by
 unfold dNums at h
 rw [List.getElem?_map] at h
 cases e : ts[i]? with
 | none => rw [e] at h; cases h
 | some l => rw [e] at h; cases h; exact ⟨l, rfl, rfl⟩
theorem ix_dnum {ts : List Rat} {i : Nat} {t : Rat} (h : ts[i]? = some t) : ixD (.list (dNums ts)) (.int (i : Int)) = some (dNum t) := ix_nat (by unfold dNums; rw [List.getElem?_map, h]; rfl)
theorem dNums_len (ts : List Rat) : (dNums ts).length = ts.length := by simp [dNums]
theorem good_nums (ts : List Rat) : Good (.list (dNums ts)) := (gd_lst (n := 1) fun d h => by
 obtain ⟨t, _, rfl⟩ := List.mem_map.mp h
 exact gd_num t).good
theorem goods_nums (ts : List Rat) : Goods (dNums ts) := gd_goods (n := 1) fun d h => by
 obtain ⟨t, _, rfl⟩ := List.mem_map.mp h
 exact gd_num t
theorem any_num (ts : List Rat) (t : Rat) : ((dNums ts).any fun e => PyData.eqv e (dNum t)) = decide (t ∈ ts) := by
 unfold dNums
 rw [List.any_map]
 rw [Bool.eq_iff_iff, List.any_eq_true, decide_eq_true_eq]
 constructor
 ·rintro ⟨x, hx, e⟩
  have : PyData.eqv (dNum x) (dNum t) = true := e
  rw [eqv_num] at this
  rw [← of_decide_eq_true this]; exact hx
 ·intro h
  exact ⟨t, h, by show PyData.eqv (dNum t) (dNum t) = true; rw [eqv_num]; exact decide_eq_true rfl⟩
noncomputable def dNats (xs : List Nat) : List D := xs.map fun i : Nat => PyData.int (i : Int)
theorem dNats_len (xs : List Nat) : (dNats xs).length = xs.length := by simp [dNats]
theorem goods_nats (xs : List Nat) : Goods (dNats xs) := gd_goods (n := 0) fun d h => by
 obtain ⟨t, _, rfl⟩ := List.mem_map.mp h
 exact gd_int _
theorem good_nats (xs : List Nat) : Good (.list (dNats xs)) := (gd_lst (n := 0) fun d h => by
 obtain ⟨t, _, rfl⟩ := List.mem_map.mp h
 exact gd_int _).good
theorem any_nat (xs : List Nat) (t : Nat) : ((dNats xs).any fun e => PyData.eqv e (.int (t : Int))) = decide (t ∈ xs) := by
 unfold dNats
 rw [List.any_map]
 rw [Bool.eq_iff_iff, List.any_eq_true, decide_eq_true_eq]
 constructor
 ·rintro ⟨x, hx, e⟩
  have : PyData.eqv (.int (x : Int)) (.int (t : Int)) = true := e
  rw [eqv_int] at this
  have := of_decide_eq_true this
  have e2 : x = t := by omega
  rw [← e2]; exact hx
 ·intro h
  exact ⟨t, h, by show PyData.eqv (.int (t : Int)) (.int (t : Int)) = true; rw [eqv_int]; exact decide_eq_true rfl⟩
theorem ix_nats {xs : List Nat} {i : Nat} (h : i < xs.length) : ixD (.list (dNats xs)) (.int (i : Int)) = some (.int (xs[i] : Int)) := ix_nat (by unfold dNats; rw [List.getElem?_map, List.getElem?_eq_getElem h]; rfl)
theorem len_nats (xs : List Nat) : lenD (.list (dNats xs)) = some (.int (xs.length : Int)) := by show some (PyData.int ((dNats xs).length : Int)) = _; rw [dNats_len]
theorem len_lines (ls : List Ln) : lenD (.list (dLines ls)) = some (.int (ls.length : Int)) := by show some (PyData.int ((dLines ls).length : Int)) = _; rw [dLines_len]
noncomputable def insT (ts : List Rat) (o : Option Rat) : List Rat := match o with
 | none => ts
 | some t => if t ∈ ts then ts else insL ts ((ts.filter fun u => decide (u < t)).length : Int) t
noncomputable def mtsIn (ls : List Ln) (i : Nat) : Nat → List Rat → List Rat
 | 0, ts => ts
 | j + 1, ts => insT (mtsIn ls i j ts) (match ls[i]?, ls[j]? with | some l, some k => mtO l k | _, _ => none)
noncomputable def mtsTo (ls : List Ln) : Nat → List Rat
 | 0 => []
 | i + 1 => mtsIn ls i i (mtsTo ls i)
noncomputable def mts (ls : List Ln) : List Rat := mtsTo ls ls.length
theorem insL_map {α β : Type} (f : α → β) (xs : List α) (i : Int) (x : α) : (insL xs i x).map f = insL (xs.map f) i (f x) := by
 unfold insL
 rw [List.map_append, List.map_cons, List.map_take, List.map_drop, List.length_map]
theorem insL_in {α : Type} {xs : List α} {n : Nat} {x : α} (h : n ≤ xs.length) : insL xs (n : Int) x = xs.take n ++ x :: xs.drop n := by
 unfold insL insAt
 rw [if_neg (by omega)]
 simp [Nat.min_eq_left h]
theorem insT_len (ts : List Rat) (o : Option Rat) : (insT ts o).length ≤ ts.length + 1 := by
 unfold insT
 split
 ·omega
 ·split
  ·omega
  ·rw [insL_len]; omega
theorem mem_insL {α : Type} {xs : List α} {i : Int} {x y : α} : y ∈ insL xs i x ↔ y = x ∨ y ∈ xs := by
 unfold insL
 generalize insAt xs.length i = k
 have e : y ∈ xs ↔ y ∈ xs.take k ∨ y ∈ xs.drop k := by
  rw [← List.mem_append, List.take_append_drop]
 rw [List.mem_append, List.mem_cons, e]
 constructor
 ·rintro (h | h | h)
  ·exact .inr (.inl h)
  ·exact .inl h
  ·exact .inr (.inr h)
 ·rintro (h | h | h)
  ·exact .inr (.inl h)
  ·exact .inl h
  ·exact .inr (.inr h)
theorem mem_insT {ts : List Rat} {o : Option Rat} {t : Rat} : t ∈ insT ts o ↔ t ∈ ts ∨ o = some t := by
 unfold insT
 split
 ·simp
 ·rename_i u
  split
  ·rename_i h
   constructor
   ·exact .inl
   ·rintro (z | z)
    ·exact z
    ·cases z; exact h
  ·rw [mem_insL]
   constructor
   ·rintro (z | z)
    ·exact .inr (by rw [z])
    ·exact .inl z
   ·rintro (z | z)
    ·exact .inr z
    ·cases z; exact .inl rfl
theorem mtsIn_len (ls : List Ln) (i j : Nat) (ts : List Rat) : (mtsIn ls i j ts).length ≤ ts.length + j := by
 induction j with
 | zero => exact Nat.le_refl _
 | succ j ih =>
  have := insT_len (mtsIn ls i j ts) (match ls[i]?, ls[j]? with | some l, some k => mtO l k | _, _ => none)
  show (insT _ _).length ≤ _
  omega
theorem mtsTo_len (ls : List Ln) (i : Nat) : (mtsTo ls i).length ≤ i * i := by
 induction i with
 | zero => exact Nat.le_refl _
 | succ i ih =>
  have := mtsIn_len ls i i (mtsTo ls i)
  show (mtsIn ls i i (mtsTo ls i)).length ≤ _
  have e : (i + 1) * (i + 1) = i * i + 2 * i + 1 := by rw [Nat.add_mul, Nat.mul_add]; omega
  omega
theorem mem_mtsIn {ls : List Ln} {i j : Nat} {ts : List Rat} {t : Rat} : t ∈ mtsIn ls i j ts ↔ t ∈ ts ∨ ∃ j', j' < j ∧ ∃ l k, ls[i]? = some l ∧ ls[j']? = some k ∧ mtO l k = some t := by
 induction j with
 | zero => simp [mtsIn]
 | succ j ih =>
  show t ∈ insT _ _ ↔ _
  rw [mem_insT, ih]
  constructor
  ·rintro ((h | ⟨j', h1, h2⟩) | h)
   ·exact .inl h
   ·exact .inr ⟨j', by omega, h2⟩
   ·split at h
    ·rename_i l k e1 e2
     exact .inr ⟨j, by omega, l, k, e1, e2, h⟩
    ·cases h
  ·rintro (h | ⟨j', h1, l, k, e1, e2, h⟩)
   ·exact .inl (.inl h)
   ·by_cases hj : j' = j
    ·subst hj
     right
     rw [e1, e2]
     exact h
    ·exact .inl (.inr ⟨j', by omega, l, k, e1, e2, h⟩)
theorem mem_mtsTo {ls : List Ln} {n : Nat} {t : Rat} : t ∈ mtsTo ls n ↔ ∃ i j l k, i < n ∧ j < i ∧ ls[i]? = some l ∧ ls[j]? = some k ∧ mtO l k = some t := by
 induction n with
 | zero => simp [mtsTo]
 | succ n ih =>
  show t ∈ mtsIn ls n n (mtsTo ls n) ↔ _
  rw [mem_mtsIn, ih]
  constructor
  ·rintro (⟨i, j, l, k, h1, h2⟩ | ⟨j, h1, l, k, h2⟩)
   ·exact ⟨i, j, l, k, by omega, h2⟩
   ·exact ⟨n, j, l, k, by omega, h1, h2⟩
  ·rintro ⟨i, j, l, k, h1, h2, h3⟩
   by_cases hi : i = n
   ·subst hi; exact .inr ⟨j, h2, l, k, h3⟩
   ·exact .inl ⟨i, j, l, k, by omega, h2, h3⟩
theorem mt_sz {l k : Ln} {t : Rat} (h1 : Sz 200 l.1) (h2 : Sz 200 l.2) (h3 : Sz 200 k.1) (h4 : Sz 200 k.2) (h : mtO l k = some t) : Sz 802 t := by
 unfold mtO at h
 split at h
 ·cases h
 ·cases h
  exact ((h3.sub h1).div (h2.sub h4) (by grind)).mono (by decide)
theorem mts_sz {ls : List Ln} (hz : LinesOk 200 ls) {n : Nat} {t : Rat} (h : t ∈ mtsTo ls n) : Sz 802 t := by
 obtain ⟨i, j, l, k, _, _, e1, e2, h⟩ := mem_mtsTo.mp h
 obtain ⟨a, b⟩ := hz.get e1
 obtain ⟨c, d⟩ := hz.get e2
 exact mt_sz a b c d h
noncomputable def earlyT : List Rat → Rat
 | [] => ((0 : Int) : Rat)
 | t :: _ => t - ((1 : Int) : Rat)
noncomputable def hf : Rat := Rat.divInt 1 2
theorem hf_eq : hf = 1 / 2 := by
 unfold hf
 rw [Rat.divInt_eq_div]
 rfl
theorem hf_d : PyData.tuple [.int 1, .int 2] = dNum hf := by
 have n := norm_pos (t := 1) (b := 2) (by decide)
 have h1 : (Rat.divInt 1 2).num = 1 := by rw [← n.1]; decide
 have h2 : ((Rat.divInt 1 2).den : Int) = 2 := by rw [← n.2]; decide
 unfold dNum hf
 rw [h1, h2]
theorem hf_sz : Sz 31 hf := Sz.divInt (bt31 (by decide) (by decide)) (bt31 (by decide) (by decide)) (by decide)
section
variable {Q : Rv → Prop}
end
section
variable {Q : Rv → Prop} {ls : List Ln}
end
section
variable {Q : Rv → Prop} {ls : List Ln}
noncomputable def dStN (ls : List Ln) (t : Rat) (i : Nat) : D := match ls[i]? with
 | some l => dStand l t i
 | none => .none
theorem dStN_eq {t : Rat} {i : Nat} {l : Ln} (h : ls[i]? = some l) : dStN ls t i = dStand l t i := by unfold dStN; rw [h]
noncomputable def dSts (ls : List Ln) (t : Rat) (xs : List Nat) : List D := xs.map (dStN ls t)
theorem dSts_len (t : Rat) (xs : List Nat) : (dSts ls t xs).length = xs.length := by unfold dSts; rw [List.length_map]
theorem nats_get {xs : List Nat} {n : Nat} {d : D} (h : (dNats xs)[n]? = some d) : ∃ o, xs[n]? = some o ∧ d = .int (o : Int) := by
 unfold dNats at h
 rw [List.getElem?_map] at h
 cases e : xs[n]? with
 | none => rw [e] at h; cases h
 | some o => rw [e] at h; cases h; exact ⟨o, rfl, rfl⟩
theorem t_order_among {rs : List Nat} {t : Rat} (hz : LinesOk 200 ls) (hl : rs.length ≤ 30) (hr : ∀ x ∈ rs, x < ls.length) (hn : rs.Nodup) (ht : Sz 2900 t) (q : Q (.own (dNats (ordL (ahN ls t) rs)))) :
  m_order_among [.val (.list (dLines ls)), .val (.list (dNats rs)), .val (dNum t)] Q := by
 refine i_fn ?_
 unfold b_order_among
 walk_at "ws"
 refine for_inv (fun n Γ => ∃ a b c, Γ = [.val (.list (dLines ls)), .val (.list (dNats rs)), .val (dNum t), .own (dSts ls t (ordL (ahN ls t) (rs.take n))), a, b, c]) ⟨_, _, _, rfl⟩ ?_ ?_
 ·rintro n d Γ K hd ⟨a, b, c, rfl⟩ hk
  obtain ⟨o, ho, rfl⟩ := nats_get hd
  have ho' : o ∈ rs := List.mem_of_getElem? ho
  have hlt := hr o ho'
  have e1 : ls[o]? = some ls[o] := List.getElem?_eq_getElem hlt
  obtain ⟨z1, z2⟩ := hz.get e1
  have tk : rs.take (n + 1) = rs.take n ++ [o] := by rw [List.take_succ, ho]; rfl
  have hk3 := hk.nx
  rw [tk, ordL_snoc] at hk3
  have hno : o ∉ rs.take n := by
   have := hn.sublist (List.take_sublist (n + 1) rs)
   rw [tk] at this
   have := (List.nodup_append.mp this).2.2
   exact fun hm => this o hm o (List.mem_singleton.mpr rfl) rfl
  have hsrt := ordL_srt (ah_strict ls t) (rs := rs.take n) (fun x hx => hr x (List.mem_of_mem_take hx)) (hn.sublist (List.take_sublist n rs))
  have hxn : ∀ x ∈ ordL (ahN ls t) (rs.take n), x < ls.length ∧ x ≠ o := fun x hx => by
   have hx := ordL_mem.mp hx
   exact ⟨hr x (List.mem_of_mem_take hx), fun e => hno (by rw [← e]; exact hx)⟩
  have hlen : (ordL (ahN ls t) (rs.take n)).length ≤ 30 := by
   rw [ordL_len, List.length_take]
   omega
  generalize hxs : ordL (ahN ls t) (rs.take n) = xs at *
  have ft := filt_take (ah_strict ls t) hlt hxn hsrt
  have fl : (xs.filter fun x => !ahN ls t o x).length ≤ xs.length := List.length_filter_le _ _
  generalize hF : (xs.filter fun x => !ahN ls t o x).length = m at *
  unfold b_order_among_l2
  walk_at "ws"
  refine t_standing e1 (z1.mono (by decide)) (z2.mono (by decide)) ht ?_
  walk_at "ws"
  refine while_inv (fun w Γ => ∃ k : Nat, w = m - k ∧ k ≤ m ∧ Γ = [.val (.list (dLines ls)), .val (.list (dNats rs)), .val (dNum t), .own (dSts ls t xs), .val (.int (o : Int)), .val (dStand ls[o] t o), .val (.int (k : Int))]) m ⟨0, by omega, by omega, rfl⟩ ?_
  rintro w Γ ⟨k, rfl, hkm, rfl⟩
  have stop : k = m → b_order_among_r2 [.val (.list (dLines ls)), .val (.list (dNats rs)), .val (dNum t), .own (dSts ls t xs), .val (.int (o : Int)), .val (dStand ls[o] t o), .val (.int (k : Int))] K := by
   intro ek
   unfold b_order_among_r2
   walk_at "ws"
   refine i_insK (ds := dSts ls t xs) rfl (by omega) (by omega) (by rw [dSts_len]; omega) ?_
   have ei : insL (dSts ls t xs) (k : Int) (dStand ls[o] t o) = dSts ls t (ordStep (ahN ls t) xs o) := by
    rw [← dStN_eq e1, ek]
    unfold dSts
    rw [← insL_map (dStN ls t), insL_in fl, ft.1, ft.2]
    unfold ordStep
    simp
   rw [ei]
   exact hk3 _ ⟨_, _, _, rfl⟩
  walk_at "ws"
  refine i_oQ (d := .int (xs.length : Int)) (by show some (PyData.int ((dSts ls t xs).length : Int)) = _; rw [dSts_len]) ?_
  walk_at "ws"
  refine iteD2 (fun c => ?_) (fun c => ?_)
  ·have hkx : k < xs.length := by omega
   have m1 := (hxn xs[k] (List.getElem_mem _)).1
   have e2 : ls[xs[k]]? = some ls[xs[k]] := List.getElem?_eq_getElem m1
   obtain ⟨z3, z4⟩ := hz.get e2
   have ix : ixD (.list (dSts ls t xs)) (.int (k : Int)) = some (dStand ls[xs[k]] t xs[k]) := ix_nat (by
    unfold dSts
    rw [List.getElem?_map, List.getElem?_eq_getElem hkx]
    show some (dStN ls t xs[k]) = _
    rw [dStN_eq e2])
   walk_at "ws"
   refine i_oQ ix ?_
   walk_at "ws"
   refine t_stands_ahead (place_sz (z3.mono (by decide)) (z4.mono (by decide)) ht) (z4.mono (by decide)) (place_sz (z1.mono (by decide)) (z2.mono (by decide)) ht) (z2.mono (by decide)) ?_
   rw [← ahN_eq e2 e1]
   by_cases hkm2 : k < m
   ·have hin : xs[k] ∈ xs.filter fun x => !ahN ls t o x := by
     rw [← ft.1]
     exact List.mem_take_iff_getElem.mpr ⟨k, by omega, rfl⟩
    have ha : ahN ls t xs[k] o = true := by
     rw [(ah_strict ls t).flip hlt m1 (Ne.symm (hxn xs[k] (List.getElem_mem _)).2)]
     exact (List.mem_filter.mp hin).2
    rw [ha]
    walk_at "ws"
    unfold b_order_among_l1
    walk_at "ws"
    exact ⟨m - (k + 1), by omega, k + 1, rfl, by omega, by rw [Int.natCast_add]; rfl⟩
   ·have ek : k = m := by omega
    subst ek
    have hin : xs[k] ∈ xs.filter fun x => ahN ls t o x := by
     rw [← ft.2]
     exact List.mem_drop_iff_getElem.mpr ⟨0, by omega, by simp⟩
    have ha : ahN ls t xs[k] o = false := by
     rw [(ah_strict ls t).flip hlt m1 (Ne.symm (hxn xs[k] (List.getElem_mem _)).2), (List.mem_filter.mp hin).2]
     rfl
    rw [ha]
    walk_at "ws"
    exact stop rfl
  ·walk_at "ws"
   exact stop (by omega)
 ·rintro Γ ⟨a, b, c, rfl⟩
  rw [dNats_len, List.take_length]
  have hm : ∀ x ∈ ordL (ahN ls t) rs, x < ls.length := fun x hx => hr x (ordL_mem.mp hx)
  have hlen : (ordL (ahN ls t) rs).length ≤ 30 := by rw [ordL_len]; exact hl
  generalize ordL (ahN ls t) rs = xs at *
  unfold b_order_among_r1
  walk_at "ws"
  refine ⟨by rw [dSts_len]; omega, ?_⟩
  refine comp_fm (α := Nat) (fun _ => true) (fun o => .int (o : Int)) (dStN ls t) xs [] _ (fun o ho _ k k0 h1 h0 => ?_) ?_
  ·have hlt := hm o ho
   have e2 : ls[o]? = some ls[o] := List.getElem?_eq_getElem hlt
   rw [dStN_eq e2]
   walk_at "ws"
   unfold mTrue
   walk_at "ws"
   refine i_oQ (ix_st2 _ _ _) ?_
   walk_at "ws"
   exact h1 rfl
  ·have ef : List.filter (fun _ => true) xs = xs := List.filter_eq_self.mpr fun _ _ => rfl
   rw [ef, List.nil_append]
   walk_at "ws"
   exact q
theorem t_order_at {t : Rat} (hz : LinesOk 200 ls) (hl : ls.length ≤ 30) (ht : Sz 2900 t) (q : Q (.own (dNats (ord ls t)))) : m_order_at [.val (.list (dLines ls)), .val (dNum t)] Q := by
 refine i_fn ?_
 unfold b_order_at
 walk_at "ws"
 refine i_oQ (len_lines ls) ?_
 walk_at "ws"
 refine ⟨⟨by omega, by omega⟩, ?_⟩
 have e : rangeD 0 (ls.length : Int).toNat = dNats (List.range ls.length) := by
  unfold rangeD dNats
  rw [Int.toNat_natCast]
  exact List.map_congr_left fun k _ => by rw [Int.zero_add]
 rw [e]
 walk_at "ws"
 refine t_order_among hz (by rw [List.length_range]; exact hl) (fun x hx => List.mem_range.mp hx) List.nodup_range ht ?_
 rw [ordL_range]
 exact q
end
theorem good_lines (ls : List Ln) : Good (.list (dLines ls)) := (gd_lst (n := 2) fun d h => by
 obtain ⟨l, _, rfl⟩ := List.mem_map.mp h
 exact gd_line l).good
noncomputable def paperD (ls : List Ln) (t : Rat) (i j : Nat) : D := .tuple [.int (i : Int), .int (j : Int), dOpt (nxN ls t i j)]
theorem gd_paper (ls : List Ln) (t : Rat) (i j : Nat) : Gd 2 (paperD ls t i j) := gd_tup (n := 1) fun d h => by
 rcases List.mem_cons.mp h with rfl | h
 ·exact (gd_int _).mono
 ·rcases List.mem_cons.mp h with rfl | h
  ·exact (gd_int _).mono
  ·rw [List.mem_singleton.mp h]; exact gd_opt _
noncomputable def papTo (ls : List Ln) (t : Rat) (xs : List Nat) (n : Nat) : List D := (List.range n).map fun a => paperD ls t (xs.getD a 0) (xs.getD (a + 1) 0)
theorem papTo_succ (ls : List Ln) (t : Rat) (xs : List Nat) (n : Nat) : papTo ls t xs (n + 1) = papTo ls t xs n ++ [paperD ls t (xs.getD n 0) (xs.getD (n + 1) 0)] := by
 unfold papTo
 rw [List.range_succ, List.map_append]
 rfl
theorem papTo_len (ls : List Ln) (t : Rat) (xs : List Nat) (n : Nat) : (papTo ls t xs n).length = n := by simp [papTo]
theorem good_pap (ls : List Ln) (t : Rat) (xs : List Nat) (n : Nat) : Good (.list (papTo ls t xs n)) := (gd_lst (n := 2) fun d h => by
 obtain ⟨a, _, rfl⟩ := List.mem_map.mp h
 exact gd_paper _ _ _ _).good
noncomputable def paps (ls : List Ln) (t : Rat) : List D := papTo ls t (ord ls t) ((ord ls t).length - 1)
section
variable {Q : Rv → Prop} {ls : List Ln}
end
theorem cutTail (xs : List D) : L2.VS.cutD xs (some 1) none = xs.drop 1 := by
 cases xs with
 | nil => rfl
 | cons x xs =>
  have e1 : HT.sIx (x :: xs).length 0 (some 1) = 1 := by
   unfold HT.sIx
   simp
  have e2 : HT.sIx (x :: xs).length (x :: xs).length none = (x :: xs).length := rfl
  unfold L2.VS.cutD
  rw [e1, e2]
  simp
noncomputable def nbrs (xs : List Nat) : List (Nat × Nat) := xs.zip (xs.drop 1)
noncomputable def dPair (p : Nat × Nat) : D := .tuple [.int (p.1 : Int), .int (p.2 : Int)]
theorem ix_pair0 (p : Nat × Nat) : ixD (dPair p) (.int 0) = some (.int (p.1 : Int)) := rfl
theorem ix_pair1 (p : Nat × Nat) : ixD (dPair p) (.int 1) = some (.int (p.2 : Int)) := rfl
theorem nbrs_len (xs : List Nat) : (nbrs xs).length = xs.length - 1 := by unfold nbrs; rw [List.length_zip, List.length_drop]; omega
theorem nbrs_get {xs : List Nat} {n : Nat} (h : n + 1 < xs.length) : (nbrs xs)[n]? = some (xs[n], xs[n + 1]) := by
 unfold nbrs
 rw [List.getElem?_zip_eq_some]
 exact ⟨List.getElem?_eq_getElem (by omega), by rw [List.getElem?_drop, Nat.add_comm]; exact List.getElem?_eq_getElem h⟩
theorem nbrs_mem {xs : List Nat} {p : Nat × Nat} (h : p ∈ nbrs xs) : ∃ n, ∃ h : n + 1 < xs.length, p = (xs[n], xs[n + 1]) := by
 obtain ⟨n, hn⟩ := List.mem_iff_getElem?.mp h
 have hl := (List.getElem?_eq_some_iff.mp hn).1
 rw [nbrs_len] at hl
 refine ⟨n, by omega, ?_⟩
 rw [nbrs_get (by omega)] at hn
 exact (Option.some.inj hn).symm
theorem nbrs_map {α : Type} (f : Nat → Nat → α) (xs : List Nat) : (nbrs xs).map (fun p => f p.1 p.2) = (List.range (xs.length - 1)).map fun a => f (xs.getD a 0) (xs.getD (a + 1) 0) := by
 refine List.ext_getElem? fun n => ?_
 rw [List.getElem?_map, List.getElem?_map]
 by_cases h : n + 1 < xs.length
 ·rw [nbrs_get h, List.getElem?_range (by omega)]
  simp [List.getD_eq_getElem?_getD, List.getElem?_eq_getElem (show n < xs.length by omega), List.getElem?_eq_getElem h]
 ·rw [List.getElem?_eq_none (by rw [nbrs_len]; omega), List.getElem?_eq_none (by rw [List.length_range]; omega)]
  rfl
noncomputable def tillN (ls : List Ln) (t : Rat) (i j : Nat) : Option Rat := if ahN ls t j i = true then some t else nxN ls t i j
noncomputable def paperW (ls : List Ln) (t : Rat) (i j : Nat) : D := .tuple [.int (i : Int), .int (j : Int), dOpt (tillN ls t i j)]
section
variable {Q : Rv → Prop} {ls : List Ln}
theorem t_neighbours {xs : List Nat} (q : Q (.own ((nbrs xs).map dPair))) : m_neighbours [.val (.list (dNats xs))] Q := by
 refine i_fn ?_
 unfold b_neighbours
 walk_at "ws"
 rw [cutTail]
 have e : zipD (dNats xs) ((dNats xs).drop 1) = (nbrs xs).map dPair := by
  unfold zipD dNats nbrs
  rw [← List.map_drop, List.zip_map, List.map_map]
  exact List.map_congr_left fun p _ => rfl
 rw [e]
 exact q
theorem t_till_of {i j : Nat} {l k : Ln} {t : Rat} (hi : ls[i]? = some l) (hj : ls[j]? = some k) (h1 : Sz 900 l.1) (h2 : Sz 900 l.2) (h3 : Sz 900 k.1) (h4 : Sz 900 k.2) (ht : Sz 2900 t) (q : Q (.val (dOpt (tillN ls t i j)))) :
  m_till_of [.val (.list (dLines ls)), .val (.int (i : Int)), .val (.int (j : Int)), .val (dNum t)] Q := by
 unfold tillN at q
 refine i_fn ?_
 unfold b_till_of
 walk_at "ws"
 refine t_is_ahead hj hi h3 h4 h1 h2 ht ?_
 rw [← ahN_eq hj hi]
 cases ha : ahN ls t j i with
 | true =>
  rw [if_pos ha] at q
  walk_at "ws"
  exact q
 | false =>
  rw [if_neg (by rw [ha]; decide)] at q
  walk_at "ws"
  unfold b_till_of_r1
  walk_at "ws"
  refine t_next_change hi hj h1 h2 h3 h4 ht ?_
  rw [← nxN_eq hi hj]
  exact q
theorem t_papers_among {xs : List Nat} {t : Rat} (hz : LinesOk 200 ls) (hl : xs.length ≤ 30) (hm : ∀ x ∈ xs, x < ls.length) (ht : Sz 2900 t) (q : Q (.own ((nbrs xs).map fun p => paperW ls t p.1 p.2))) :
  m_papers_among [.val (.list (dLines ls)), .val (.list (dNats xs)), .val (dNum t)] Q := by
 refine i_fn ?_
 unfold b_papers_among
 walk_at "ws"
 refine t_neighbours ?_
 walk_at "ws"
 refine ⟨by rw [List.length_map, nbrs_len]; omega, ?_⟩
 refine comp_fm (α := Nat × Nat) (fun _ => true) (fun p => paperW ls t p.1 p.2) dPair (nbrs xs) [] _ (fun p hp _ k k0 h1 h0 => ?_) ?_
 ·obtain ⟨n, hn, rfl⟩ := nbrs_mem hp
  have l1 : xs[n] < ls.length := hm _ (List.getElem_mem _)
  have l2 : xs[n + 1] < ls.length := hm _ (List.getElem_mem _)
  have e1 : ls[xs[n]]? = some ls[xs[n]] := List.getElem?_eq_getElem l1
  have e2 : ls[xs[n + 1]]? = some ls[xs[n + 1]] := List.getElem?_eq_getElem l2
  obtain ⟨z1, z2⟩ := hz.get e1
  obtain ⟨z3, z4⟩ := hz.get e2
  walk_at "ws"
  unfold mTrue
  walk_at "ws"
  refine i_oQ (ix_pair0 _) ?_
  walk_at "ws"
  refine i_oQ (ix_pair1 _) ?_
  walk_at "ws"
  refine i_oQ (ix_pair0 _) ?_
  walk_at "ws"
  refine i_oQ (ix_pair1 _) ?_
  walk_at "ws"
  refine t_till_of e1 e2 (z1.mono (by decide)) (z2.mono (by decide)) (z3.mono (by decide)) (z4.mono (by decide)) ht ?_
  walk_at "ws"
  exact h1 rfl
 ·have ef : List.filter (fun _ => true) (nbrs xs) = nbrs xs := List.filter_eq_self.mpr fun _ _ => rfl
  rw [ef, List.nil_append]
  walk_at "ws"
  exact q
theorem papsW_srt {xs : List Nat} {t : Rat} (hm : ∀ x ∈ xs, x < ls.length) (hs : Srt (ahN ls t) xs) : ((nbrs xs).map fun p => paperW ls t p.1 p.2) = papTo ls t xs (xs.length - 1) := by
 unfold papTo
 rw [← nbrs_map]
 refine List.map_congr_left fun p hp => ?_
 obtain ⟨n, hn, rfl⟩ := nbrs_mem hp
 unfold paperW paperD tillN
 have h : ahN ls t xs[n] xs[n + 1] = true := List.pairwise_iff_getElem.mp hs n (n + 1) (by omega) hn (by omega)
 rw [if_neg (by rw [(ah_strict ls t).asymm _ _ (hm _ (List.getElem_mem _)) (hm _ (List.getElem_mem _)) h]; decide)]
end
noncomputable def ln (ls : List Ln) (i : Nat) : Ln := ls.getD i (0, 0)
theorem ln_at {ls : List Ln} {i : Nat} (h : i < ls.length) : ls[i]? = some (ln ls i) := by
 unfold ln
 rw [List.getD_eq_getElem?_getD, List.getElem?_eq_getElem h]
 rfl
theorem ahN_ln {ls : List Ln} {t : Rat} {i j : Nat} (hi : i < ls.length) (hj : j < ls.length) : ahN ls t i j = ahB (ln ls i) (ln ls j) i j t := ahN_eq (ln_at hi) (ln_at hj)
theorem nxN_ln {ls : List Ln} {t : Rat} {i j : Nat} (hi : i < ls.length) (hj : j < ls.length) : nxN ls t i j = nxC (ln ls i) (ln ls j) t := nxN_eq (ln_at hi) (ln_at hj)
theorem rmul_nn {a b : Rat} (ha : 0 ≤ a) (hb : 0 ≤ b) : 0 ≤ a * b := Rat.mul_nonneg ha hb
theorem rmul_np {a b : Rat} (ha : a ≤ 0) (hb : b ≤ 0) : 0 ≤ a * b := by
 have := rmul_nn (a := -a) (b := -b) (by grind) (by grind)
 grind
theorem rdiv_np {a b : Rat} (h : 0 ≤ a * b) (hb : b < 0) : a ≤ 0 := by
 rcases Rat.le_total (a := a) (b := 0) with z | z
 ·exact z
 ·have h1 := rmul_nn (a := a) (b := -b) z (by grind)
  have h2 : a * b = 0 := by grind
  have h3 : a = 0 ∨ b = 0 := Rat.mul_eq_zero.mp h2
  rcases h3 with h3 | h3
  ·rw [h3]; exact Rat.le_refl
  ·rw [h3] at hb; exact absurd hb (by grind)
theorem rdiv_nn {a b : Rat} (h : 0 ≤ a * b) (hb : 0 < b) : 0 ≤ a := by
 have := rdiv_np (a := -a) (b := -b) (by grind) (by grind)
 grind
noncomputable def Wb (ls : List Ln) (t : Rat) (i j : Nat) : Prop := pl (ln ls j) t ≤ pl (ln ls i) t ∧ (ln ls i = ln ls j → i < j)
theorem Wb.on {ls : List Ln} {t u : Rat} {a b : Nat} (ha : a < ls.length) (hb : b < ls.length) (h : Wb ls t a b) (htu : t ≤ u) (hu : ∀ v, tillN ls t a b = some v → u ≤ v) : Wb ls u a b := by
 refine ⟨?_, h.2⟩
 have h1 := h.1
 unfold tillN at hu
 by_cases c : ahN ls t b a = true
 ·rw [if_pos c] at hu
  have : u = t := Rat.le_antisymm (hu t rfl) htu
  rw [this]; exact h1
 ·rw [if_neg c, nxN_ln ha hb] at hu
  rw [ahN_ln hb ha] at c
  generalize ln ls a = l at *
  generalize ln ls b = k at *
  unfold nxC at hu
  by_cases e : l.2 = k.2
  ·unfold pl at *
   rw [e] at h1 ⊢
   grind
  ·rw [if_neg e] at hu
   have s1 := pl_sub e t
   have s2 := pl_sub e u
   by_cases m : t < mt l k
   ·rw [if_pos m] at hu
    have hm := hu _ rfl
    have h2 : 0 ≤ (l.2 - k.2) * (t - mt l k) := by rw [← s1]; grind
    have h3 := rdiv_np h2 (by grind)
    have h4 := rmul_np h3 (show u - mt l k ≤ 0 by grind)
    rw [← s2] at h4
    grind
   ·have h2 : 0 ≤ (l.2 - k.2) * (t - mt l k) := by rw [← s1]; grind
    have h5 : 0 ≤ l.2 - k.2 := by
     by_cases z : mt l k < t
     ·exact rdiv_nn h2 (by grind)
     ·have z : mt k l ≤ t := by rw [mt_symm e]; grind
      rw [ah_ge (fun y => e y.symm) z] at c
      have : ¬ l.2 < k.2 := fun y => c (decide_eq_true y)
      grind
    have h4 := rmul_nn h5 (show 0 ≤ u - mt l k by grind)
    rw [← s2] at h4
    grind
theorem Wb.meet {ls : List Ln} {t u : Rat} {a b : Nat} (ha : a < ls.length) (hb : b < ls.length) (h : Wb ls t a b) (hu : tillN ls t a b = some u) : t ≤ u ∧ (ln ls a).2 < (ln ls b).2 ∧ pl (ln ls a) u = pl (ln ls b) u := by
 obtain ⟨h1, h2⟩ := h
 unfold tillN at hu
 by_cases c : ahN ls t b a = true
 ·rw [if_pos c] at hu
  cases hu
  rw [ahN_ln hb ha, ahB_iff] at c
  rcases c with c | ⟨c1, c2 | ⟨c2, c3⟩⟩
  ·grind
  ·exact ⟨Rat.le_refl, c2, c1.symm⟩
  ·exfalso
   have : ln ls a = ln ls b := by
    generalize ln ls a = l at *
    generalize ln ls b = k at *
    obtain ⟨l1, l2⟩ := l
    obtain ⟨k1, k2⟩ := k
    unfold pl at c1
    dsimp only at c1 c2
    subst c2
    have : l1 = k1 := by grind
    rw [this]
   have := h2 this
   omega
 ·rw [if_neg c, nxN_ln ha hb] at hu
  obtain ⟨e, htm, hm⟩ := nxC_some hu
  have s1 := pl_sub e t
  rw [← hm] at s1
  have h3 := rdiv_np (a := (ln ls a).2 - (ln ls b).2) (b := t - u) (by rw [← s1]; grind) (by grind)
  exact ⟨by grind, by grind, (mt_iff e).mpr hm⟩
noncomputable def ffS (b : Option (Nat × Rat)) (n : Nat) (u : Option Rat) : Option (Nat × Rat) := match u, b with
 | none, b => b
 | some u, none => some (n, u)
 | some u, some c => if u < c.2 then some (n, u) else some c
noncomputable def ffN (us : List (Option Rat)) : Nat → Option (Nat × Rat)
 | 0 => none
 | n + 1 => ffS (ffN us n) n (us.getD n none)
noncomputable def ff (us : List (Option Rat)) : Option (Nat × Rat) := ffN us us.length
theorem ffN_ok (us : List (Option Rat)) : ∀ n, n ≤ us.length → match ffN us n with
  | none => ∀ j, j < n → us[j]? = some none
  | some c => c.1 < n ∧ us[c.1]? = some (some c.2) ∧ ∀ j v, j < n → us[j]? = some (some v) → c.2 ≤ v
 | 0, _ => fun j hj => absurd hj (Nat.not_lt_zero _)
 | n + 1, h => by
  have ih := ffN_ok us n (by omega)
  have hn : us[n]? = some (us.getD n none) := by rw [List.getD_eq_getElem?_getD, List.getElem?_eq_getElem (by omega)]; rfl
  show match ffS (ffN us n) n (us.getD n none) with
   | none => ∀ j, j < n + 1 → us[j]? = some none
   | some c => c.1 < n + 1 ∧ us[c.1]? = some (some c.2) ∧ ∀ j v, j < n + 1 → us[j]? = some (some v) → c.2 ≤ v
  generalize us.getD n none = x at *
  cases x with
  | none =>
   have e : ffS (ffN us n) n none = ffN us n := by unfold ffS; cases ffN us n <;> rfl
   rw [e]
   cases hf : ffN us n with
   | none =>
    rw [hf] at ih
    intro j hj
    by_cases hjn : j = n
    ·rw [hjn]; exact hn
    ·exact ih j (by omega)
   | some c =>
    rw [hf] at ih
    refine ⟨by have := ih.1; omega, ih.2.1, fun j v hj hv => ?_⟩
    by_cases hjn : j = n
    ·rw [hjn, hn] at hv; cases hv
    ·exact ih.2.2 j v (by omega) hv
  | some u =>
   cases hf : ffN us n with
   | none =>
    rw [hf] at ih
    refine ⟨by show n < n + 1; omega, hn, fun j v hj hv => ?_⟩
    by_cases hjn : j = n
    ·rw [hjn, hn] at hv; cases hv; exact Rat.le_refl
    ·rw [ih j (by omega)] at hv; cases hv
   | some c =>
    rw [hf] at ih
    show match (if u < c.2 then some (n, u) else some c) with
     | none => ∀ j, j < n + 1 → us[j]? = some none
     | some c => c.1 < n + 1 ∧ us[c.1]? = some (some c.2) ∧ ∀ j v, j < n + 1 → us[j]? = some (some v) → c.2 ≤ v
    by_cases hc : u < c.2
    ·rw [if_pos hc]
     refine ⟨by show n < n + 1; omega, hn, fun j v hj hv => ?_⟩
     show u ≤ v
     by_cases hjn : j = n
     ·rw [hjn, hn] at hv; cases hv; exact Rat.le_refl
     ·have := ih.2.2 j v (by omega) hv
      grind
    ·rw [if_neg hc]
     refine ⟨by have := ih.1; omega, ih.2.1, fun j v hj hv => ?_⟩
     by_cases hjn : j = n
     ·rw [hjn, hn] at hv; cases hv; grind
     ·exact ih.2.2 j v (by omega) hv
theorem ff_some {us : List (Option Rat)} {k : Nat} {u : Rat} (h : ff us = some (k, u)) : us[k]? = some (some u) ∧ ∀ (j : Nat) (v : Rat), us[j]? = some (some v) → u ≤ v := by
 have := ffN_ok us us.length (Nat.le_refl _)
 unfold ff at h
 rw [h] at this
 exact ⟨this.2.1, fun j v hv => this.2.2 j v (List.getElem?_eq_some_iff.mp hv).1 hv⟩
theorem ff_none {us : List (Option Rat)} (h : ff us = none) : ∀ j, j < us.length → us[j]? = some none := by
 have := ffN_ok us us.length (Nat.le_refl _)
 unfold ff at h
 rw [h] at this
 exact this
noncomputable def tills (ls : List Ln) (t : Rat) (xs : List Nat) : List (Option Rat) := (nbrs xs).map fun p => tillN ls t p.1 p.2
theorem tills_len (ls : List Ln) (t : Rat) (xs : List Nat) : (tills ls t xs).length = xs.length - 1 := by unfold tills; rw [List.length_map, nbrs_len]
theorem tills_at {ls : List Ln} {t : Rat} {xs : List Nat} {n : Nat} (h : n + 1 < xs.length) : (tills ls t xs)[n]? = some (tillN ls t xs[n] xs[n + 1]) := by
 unfold tills
 rw [List.getElem?_map, nbrs_get h]
 rfl
noncomputable def swp (xs : List Nat) (k : Nat) : List Nat := xs.take k ++ [xs.getD (k + 1) 0, xs.getD k 0] ++ xs.drop (k + 2)
theorem cut2 {xs : List Nat} {k : Nat} (h : k + 1 < xs.length) : xs = xs.take k ++ xs[k] :: xs[k + 1] :: xs.drop (k + 2) := by
 conv => lhs; rw [← List.take_append_drop k xs]
 rw [List.drop_eq_getElem_cons (by omega), List.drop_eq_getElem_cons (by omega)]
theorem swp_eq {xs : List Nat} {k : Nat} (h : k + 1 < xs.length) : swp xs k = xs.take k ++ xs[k + 1] :: xs[k] :: xs.drop (k + 2) := by
 unfold swp
 rw [List.getD_eq_getElem?_getD, List.getD_eq_getElem?_getD, List.getElem?_eq_getElem h, List.getElem?_eq_getElem (by omega : k < xs.length), List.append_assoc]
 rfl
theorem swp_perm {xs : List Nat} {k : Nat} (h : k + 1 < xs.length) : (swp xs k).Perm xs := by
 rw [swp_eq h]
 conv => rhs; rw [cut2 h]
 exact List.Perm.append_left _ (List.Perm.swap _ _ _)
theorem swp_len {xs : List Nat} {k : Nat} (h : k + 1 < xs.length) : (swp xs k).length = xs.length := (swp_perm h).length_eq
theorem swp_set {xs : List Nat} {k : Nat} (h : k + 1 < xs.length) : (xs.set k xs[k + 1]).set (k + 1) xs[k] = swp xs k := by
 rw [swp_eq h]
 apply List.ext_getElem?
 intro j
 by_cases h1 : j = k + 1
 ·subst h1
  rw [List.getElem?_set_self (by rw [List.length_set]; exact h), List.getElem?_append_right (by rw [List.length_take]; omega), List.length_take, Nat.min_eq_left (by omega), show k + 1 - k = 1 by omega]
  rfl
 ·rw [List.getElem?_set_ne (fun z => h1 z.symm)]
  by_cases h2 : j = k
  ·subst h2
   rw [List.getElem?_set_self (by omega), List.getElem?_append_right (by rw [List.length_take]; omega), List.length_take, Nat.min_eq_left (by omega), Nat.sub_self]
   rfl
  ·rw [List.getElem?_set_ne (fun z => h2 z.symm)]
   by_cases h3 : j < k
   ·rw [List.getElem?_append_left (by rw [List.length_take]; omega), List.getElem?_take_of_lt h3]
   ·rw [List.getElem?_append_right (by rw [List.length_take]; omega), List.length_take, Nat.min_eq_left (by omega)]
    obtain ⟨m, hm⟩ : ∃ m, j - k = m + 2 := ⟨j - k - 2, by omega⟩
    rw [hm, List.getElem?_cons_succ, List.getElem?_cons_succ, List.getElem?_drop, show k + 2 + m = j by omega]
abbrev WInv (ls : List Ln) (t : Rat) (xs : List Nat) : Prop := xs.Pairwise (Wb ls t)
theorem pw_of_nb {R : Nat → Nat → Prop} (tr : ∀ a b c, R a b → R b c → R a c) : ∀ {xs : List Nat}, (∀ n (h : n + 1 < xs.length), R xs[n] xs[n + 1]) → xs.Pairwise R
 | [], _ => .nil
 | [x], _ => List.pairwise_singleton _ _
 | x :: y :: xs, h => by
  have ih := pw_of_nb tr (xs := y :: xs) fun n hn => h (n + 1) (by simpa using hn)
  refine List.pairwise_cons.mpr ⟨fun z hz => ?_, ih⟩
  have h0 := h 0 (by simp)
  rcases List.mem_cons.mp hz with rfl | hz
  ·exact h0
  ·exact tr _ _ _ h0 ((List.pairwise_cons.mp ih).1 z hz)
theorem WInv.on {ls : List Ln} {t u : Rat} {xs : List Nat} (hm : ∀ x ∈ xs, x < ls.length) (h : WInv ls t xs) (htu : t ≤ u) (hu : ∀ (j : Nat) (v : Rat), (tills ls t xs)[j]? = some (some v) → u ≤ v) : WInv ls u xs := by
 have pw : xs.Pairwise (fun a b => pl (ln ls b) u ≤ pl (ln ls a) u) := by
  refine pw_of_nb (R := fun a b => pl (ln ls b) u ≤ pl (ln ls a) u) (fun a b c h1 h2 => Rat.le_trans h2 h1) fun n hn => ?_
  have h0 := List.pairwise_iff_getElem.mp h n (n + 1) (by omega) hn (by omega)
  exact (h0.on (hm _ (List.getElem_mem _)) (hm _ (List.getElem_mem _)) htu fun v hv => hu n v (by rw [tills_at hn, hv])).1
 exact List.Pairwise.imp₂ (fun a b h1 h2 => ⟨h1, h2.2⟩) pw h
theorem WInv.swp {ls : List Ln} {t : Rat} {xs : List Nat} {k : Nat} (h : WInv ls t xs) (hk : k + 1 < xs.length) (h1 : pl (ln ls xs[k]) t = pl (ln ls xs[k + 1]) t) (h2 : ln ls xs[k] ≠ ln ls xs[k + 1]) : WInv ls t (My.swp xs k) := by
 rw [swp_eq hk]
 have h' := h
 unfold WInv at h'
 rw [cut2 hk] at h'
 generalize xs[k] = a at *
 generalize xs[k + 1] = b at *
 generalize xs.take k = A at *
 generalize xs.drop (k + 2) = B at *
 obtain ⟨hA, hab, hc⟩ := List.pairwise_append.mp h'
 obtain ⟨ha, hbB⟩ := List.pairwise_cons.mp hab
 obtain ⟨hb, hB⟩ := List.pairwise_cons.mp hbB
 refine List.pairwise_append.mpr ⟨hA, List.pairwise_cons.mpr ⟨fun y hy => ?_, List.pairwise_cons.mpr ⟨fun y hy => ha y (List.mem_cons_of_mem _ hy), hB⟩⟩, fun x hx y hy => ?_⟩
 ·rcases List.mem_cons.mp hy with rfl | hy
  ·exact ⟨by rw [h1]; exact Rat.le_refl, fun z => absurd z.symm h2⟩
  ·exact hb y hy
 ·rcases List.mem_cons.mp hy with rfl | hy
  ·exact hc x hx _ (by simp)
  ·rcases List.mem_cons.mp hy with rfl | hy
   ·exact hc x hx _ (by simp)
   ·exact hc x hx y (by simp [hy])
noncomputable def invs (f : Nat → Rat) : List Nat → Nat
 | [] => 0
 | x :: xs => (xs.filter fun y => decide (f x < f y)).length + invs f xs
theorem invs_le (f : Nat → Rat) : ∀ xs : List Nat, invs f xs ≤ xs.length * xs.length
 | [] => Nat.le_refl _
 | x :: xs => by
  have h1 := List.length_filter_le (fun y => decide (f x < f y)) xs
  have h2 := invs_le f xs
  show (xs.filter fun y => decide (f x < f y)).length + invs f xs ≤ (xs.length + 1) * (xs.length + 1)
  have h3 : (xs.length + 1) * (xs.length + 1) = xs.length * xs.length + 2 * xs.length + 1 := by rw [Nat.add_mul, Nat.mul_add]; omega
  omega
theorem invs_swp (f : Nat → Rat) {a b : Nat} (h : f a < f b) : ∀ A B : List Nat, invs f (A ++ a :: b :: B) = invs f (A ++ b :: a :: B) + 1
 | [], B => by
  show ((b :: B).filter fun y => decide (f a < f y)).length + ((B.filter fun y => decide (f b < f y)).length + invs f B) = ((a :: B).filter fun y => decide (f b < f y)).length + ((B.filter fun y => decide (f a < f y)).length + invs f B) + 1
  rw [List.filter_cons, if_pos (decide_eq_true h), List.filter_cons, if_neg (by rw [decide_eq_true_iff]; grind), List.length_cons]
  omega
 | x :: A, B => by
  have ih := invs_swp f h A B
  have hp : ((A ++ a :: b :: B).filter fun y => decide (f x < f y)).length = ((A ++ b :: a :: B).filter fun y => decide (f x < f y)).length := ((List.Perm.append_left A (List.Perm.swap b a B)).filter _).length_eq
  show ((A ++ a :: b :: B).filter fun y => decide (f x < f y)).length + invs f (A ++ a :: b :: B) = ((A ++ b :: a :: B).filter fun y => decide (f x < f y)).length + invs f (A ++ b :: a :: B) + 1
  omega
abbrev togo (ls : List Ln) (xs : List Nat) : Nat := invs (fun i => (ln ls i).2) xs
theorem step_ok {ls : List Ln} {t u : Rat} {xs : List Nat} {k : Nat} (hm : ∀ x ∈ xs, x < ls.length) (h : WInv ls t xs) (hf : ff (tills ls t xs) = some (k, u)) :
  k + 1 < xs.length ∧ t ≤ u ∧ WInv ls u (swp xs k) ∧ togo ls xs = togo ls (swp xs k) + 1 ∧ (u = t ∨ ∃ i j, i < ls.length ∧ j < ls.length ∧ mtO (ln ls i) (ln ls j) = some u) := by
 obtain ⟨h1, h2⟩ := ff_some hf
 have hk : k + 1 < xs.length := by
  have := (List.getElem?_eq_some_iff.mp h1).1
  rw [tills_len] at this
  omega
 rw [tills_at hk] at h1
 have h1 := Option.some.inj h1
 have ha := hm _ (List.getElem_mem (show k < xs.length by omega))
 have hb := hm _ (List.getElem_mem hk)
 have hw := List.pairwise_iff_getElem.mp h k (k + 1) (by omega) hk (by omega)
 obtain ⟨m1, m2, m3⟩ := hw.meet ha hb h1
 refine ⟨hk, m1, (h.on hm m1 h2).swp hk m3 (fun z => by rw [z] at m2; exact absurd m2 (by grind)), ?_, ?_⟩
 ·rw [swp_eq hk]
  conv => lhs; rw [cut2 hk]
  exact invs_swp (fun i => (ln ls i).2) m2 _ _
 ·unfold tillN at h1
  by_cases c : ahN ls t xs[k + 1] xs[k] = true
  ·rw [if_pos c] at h1
   exact .inl (Option.some.inj h1).symm
  ·rw [if_neg c, nxN_ln ha hb] at h1
   obtain ⟨e, _, hu⟩ := nxC_some h1
   refine .inr ⟨_, _, ha, hb, ?_⟩
   unfold mtO
   rw [if_neg e, hu]
theorem WInv.start (ls : List Ln) (t : Rat) : WInv ls t (ord ls t) := by
 have hm : ∀ x ∈ ord ls t, x < ls.length := fun x hx => (ord_mem ls t x).mp hx
 refine List.Pairwise.imp_of_mem (fun {a b} ha hb h => ?_) (ord_srt ls t)
 rw [ahN_ln (hm a ha) (hm b hb), ahB_iff] at h
 refine ⟨by rcases h with h | h <;> grind, fun e => ?_⟩
 rw [e] at h
 rcases h with h | ⟨_, h | h⟩
 ·grind
 ·grind
 ·omega
theorem bt_pow {k j : Nat} {i : Int} (h0 : 0 ≤ i) (h1 : i < 10 ^ (6 * j)) (hk : 20 * j ≤ k) : Bt k i := by
 show i.natAbs < 2 ^ k
 have h2 : (10 : Nat) ^ (6 * j) ≤ 2 ^ (20 * j) := by
  rw [Nat.pow_mul, Nat.pow_mul]
  exact Nat.pow_le_pow_left (by decide) j
 have h3 : (2 : Nat) ^ (20 * j) ≤ 2 ^ k := Nat.pow_le_pow_right (by decide) hk
 have h4 : ((10 : Int) ^ (6 * j)) = (((10 : Nat) ^ (6 * j) : Nat) : Int) := by simp
 rw [h4] at h1
 omega
section
variable {p : Addr} {n : Nat} {Q : Rv → Nat → Prop}
theorem t_far {k : Nat} (hk : k ≤ 10) (hn : n < 1000000) (q : ∀ (r : Int) n', Bt (20 * k) r → n' ≤ n + 11 → Q (.val (.int r)) n') : m_law_far p n [.val (.int (k : Int))] Q := by
 refine i_fnL ?_
 unfold b_law_far
 walk_at "ls"
 refine ⟨by omega, by omega, ?_⟩
 refine range_inv (fun j Γ => ∃ x r n', Γ = [.box (penF.box p n'), .val (.int (k : Int)), .val (.int r), x] ∧ 0 ≤ r ∧ r < 10 ^ (6 * j) ∧ n' = n + j) ⟨_, _, _, rfl, by decide, by decide, rfl⟩ ?_ ?_
 ·rintro j Γ K hj ⟨x, r, n', rfl, r0, r1, hn'⟩ hK
  have hj : j < 10 := by omega
  unfold b_law_far_l1
  walk_at "ls"
  refine ⟨mulB (k := 200) (bt_pow r0 r1 (by omega)) (m := 31) (by show Int.natAbs 1000000 < 2 ^ 31; decide), ?_⟩
  walk_at "ls"
  refine i_takeL (by decide) (by decide) (by omega) fun d d0 d1 => ?_
  walk_at "ls"
  refine hK.nx _ ⟨_, _, _, rfl, by omega, ?_, by omega⟩
  have : (10 : Int) ^ (6 * (j + 1)) = 10 ^ (6 * j) * 1000000 := by
   rw [show 6 * (j + 1) = 6 * j + 6 by omega, Int.pow_add]
   rfl
  rw [this]
  omega
 ·rintro Γ ⟨x, r, n', rfl, r0, r1, hn'⟩
  rw [Int.toNat_natCast] at r1 hn'
  unfold b_law_far_r1
  walk_at "ls"
  refine i_takeL (by decide) (by decide) (by omega) fun d d0 d1 => ?_
  walk_at "ls"
  have hb := bt_pow r0 r1 (Nat.le_refl _)
  have hd : d = 0 ∨ d = 1 := by omega
  rcases hd with rfl | rfl
  ·refine i_oQ (d := .int r) rfl ?_
   walk_at "ls"
   exact q _ _ hb (by omega)
  ·refine i_oQ (d := .int (0 - r)) rfl ?_
   walk_at "ls"
   exact q _ _ (by rw [Int.zero_sub]; exact hb.neg) (by omega)
end
section
variable {p : Addr} {n : Nat} {Q : Rv → Nat → Prop}
theorem t_numberC {kd : Int} (hn : n < 900000) (q : ∀ (r : Rat) n', Sz 60 r → n' ≤ n + 20 → Q (.val (dNum r)) n') : m_law_number p n [.val (.int kd)] Q := by
 refine i_fnL ?_
 unfold b_law_number
 walk_at "ms"
 refine iteD2 (fun c => ?_) (fun c => ?_)
 ·walk_at "ms"
  refine i_takeL (by decide) (by decide) (by omega) fun r r0 r1 => ?_
  walk_at "ms"
  rw [dNum_int]
  exact q _ _ (sz_small (by omega) (by omega)) (by omega)
 ·unfold b_law_number_r2
  walk_at "ms"
  refine iteD2 (fun c => ?_) (fun c => ?_)
  ·walk_at "ms"
   refine i_takeL (by decide) (by decide) (by omega) fun r r0 r1 => ?_
   walk_at "ms"
   refine i_takeL (by decide) (by decide) (by omega) fun s s0 s1 => ?_
   walk_at "ms"
   have h1 : Bt 60 (r - 20) := bt31 (by omega) (by omega)
   have h2 : Bt 60 (1 + s) := bt31 (by omega) (by omega)
   refine t_lowest (by omega) (h2.mono (by decide)) ?_
   walk_at "ms"
   exact q _ _ (Sz.divInt h1 h2 (by omega)) (by omega)
  ·unfold b_law_number_r1
   walk_at "ms"
   refine t_far (k := 3) (n := n) (by decide) (by omega) fun r n' hr hn2 => ?_
   walk_at "ms"
   refine i_takeL (by decide) (by decide) (by omega) fun s s0 s1 => ?_
   walk_at "ms"
   have h2 : Bt 60 (1 + s) := bt31 (by omega) (by omega)
   refine t_lowest (by omega) (h2.mono (by decide)) ?_
   walk_at "ms"
   exact q _ _ (Sz.divInt hr h2 (by omega)) (by omega)
theorem eqv_linesC (ls : List Ln) : PyData.eqv (.list (dLines ls)) (.list []) = decide (ls = []) := by
 cases ls with
 | nil => rfl
 | cons x xs => exact (decide_eq_false (fun z => nomatch z)).symm
theorem gd_linesC (ls : List Ln) : Gd 3 (.list (dLines ls)) := gd_lst (n := 2) fun d h => by
 obtain ⟨l, _, rfl⟩ := List.mem_map.mp h
 exact gd_line l
theorem gd_nilC : Good (.list []) := (gd_lst (n := 0) (ds := []) fun _ h => nomatch h).good
noncomputable def LnS (ls : List Ln) : Prop := ∀ l ∈ ls, Sz 200 l.1 ∧ Sz 60 l.2
theorem LnS.snoc {ls : List Ln} {l : Ln} (h : LnS ls) (h1 : Sz 200 l.1) (h2 : Sz 60 l.2) : LnS (ls ++ [l]) := fun x hx => by
 rcases List.mem_append.mp hx with hx | hx
 ·exact h x hx
 ·rw [List.mem_singleton.mp hx]; exact ⟨h1, h2⟩
theorem LnS.ok {ls : List Ln} (h : LnS ls) : LinesOk 200 ls := fun l hl => ⟨(h l hl).1, (h l hl).2.mono (by decide)⟩
theorem ix_draw {ls : List Ln} {r : Int} (r0 : 0 ≤ r) (r1 : r < (ls.length : Int)) : ∃ l ∈ ls, ixD (.list (dLines ls)) (.int r) = some (dLine l) := by
 have h : r.toNat < ls.length := by omega
 refine ⟨ls[r.toNat], List.getElem_mem h, ?_⟩
 have := ix_lines h
 rwa [Int.toNat_of_nonneg r0] at this
theorem l_r3 {kd way : Int} {pc tm : Rat} {l : Ln} {ls : List Ln} {a4 a6 : Sl} {K : Fl → Prop} (hpc : Sz 60 pc) (htm : Sz 60 tm) (hl : ls.length < 900) (h : LnS ls) (h1 : Sz 200 l.1) (h2 : Sz 60 l.2)
  (hK : ∀ l, Sz 200 l.1 → Sz 60 l.2 → K (.nx [.box (penF.box p n), .val (.int kd), .val (dNum pc), .val (dNum tm), a4, .own (dLines (ls ++ [l])), a6, .val (dLine l), .val (.int way)])) :
  b_law_lines_r3 [.box (penF.box p n), .val (.int kd), .val (dNum pc), .val (dNum tm), a4, .own (dLines ls), a6, .val (dLine l), .val (.int way)] K := by
 have app : ∀ l, Sz 200 l.1 → Sz 60 l.2 → b_law_lines_r2 [.box (penF.box p n), .val (.int kd), .val (dNum pc), .val (dNum tm), a4, .own (dLines ls), a6, .val (dLine l), .val (.int way)] K := fun l h1 h2 => by
  unfold b_law_lines_r2
  walk_at "ms"
  refine i_appK rfl (by rw [dLines_len]; omega) ?_
  rw [dLines_snoc]
  exact hK l h1 h2
 unfold b_law_lines_r3
 walk_at "ms"
 refine ⟨good_int _, gd_goods (n := 0) (fun d hd => ?_), ?_⟩
 ·simp only [List.mem_cons, List.not_mem_nil, or_false] at hd
  rcases hd with rfl | rfl | rfl <;> exact gd_int _
 walk_at "ms"
 generalize (List.any _ _ : Bool) = b
 cases b with
 | false =>
  walk_at "ms"
  exact app l h1 h2
 | true =>
  walk_at "ms"
  refine iteD2 (fun c => ?_) (fun c => ?_)
  ·walk_at "ms"
   refine t_times (h2.mono (by decide)) (htm.mono (by decide)) ?_
   walk_at "ms"
   refine t_plus (.inr rfl) (hpc.mono (by decide)) ((h2.mul htm).mono (by decide)) ?_
   walk_at "ms"
   rw [pm_neg]
   exact app (pc - l.2 * tm, l.2) ((hpc.sub (h2.mul htm)).mono (by decide)) h2
  ·walk_at "ms"
   exact app l h1 h2
theorem l_r4 {kd way : Int} {pc tm : Rat} {l : Ln} {ls : List Ln} {a4 a6 : Sl} {K : Fl → Prop} (hn : n < 900000) (hpc : Sz 60 pc) (htm : Sz 60 tm) (hl : ls.length < 900) (h : LnS ls) (h1 : Sz 200 l.1) (h2 : Sz 60 l.2)
  (hK : ∀ l n', n' ≤ n + 1 → Sz 200 l.1 → Sz 60 l.2 → K (.nx [.box (penF.box p n'), .val (.int kd), .val (dNum pc), .val (dNum tm), a4, .own (dLines (ls ++ [l])), a6, .val (dLine l), .val (.int way)])) :
  b_law_lines_r4 [.box (penF.box p n), .val (.int kd), .val (dNum pc), .val (dNum tm), a4, .own (dLines ls), a6, .val (dLine l), .val (.int way)] K := by
 unfold b_law_lines_r4
 walk_at "ms"
 refine iteD2 (fun c => ?_) (fun c => ?_)
 ·walk_at "ms"
  refine ⟨(gd_linesC ls).good, gd_nilC, ?_⟩
  rw [eqv_linesC]
  refine ⟨rfl, ?_⟩
  refine iteN2 (fun e => ?_) (fun e => ?_)
  ·have hp : 0 < ls.length := by cases ls with | nil => exact absurd rfl e | cons _ _ => exact Nat.zero_lt_succ _
   walk_at "ms"
   refine i_oQ (len_lines ls) ?_
   walk_at "ms"
   refine i_takeL (by omega) (by omega) (by omega) fun r r0 r1 => ?_
   walk_at "ms"
   obtain ⟨k, hk, ek⟩ := ix_draw r0 r1
   refine i_oQ ek ?_
   walk_at "ms"
   exact l_r3 (l := (l.1, k.2)) hpc htm hl h h1 (h k hk).2 fun l g1 g2 => hK l _ (by omega) g1 g2
  ·walk_at "ms"
   exact l_r3 hpc htm hl h h1 h2 fun l g1 g2 => hK l _ (by omega) g1 g2
 ·refine ⟨rfl, ?_⟩
  walk_at "ms"
  exact l_r3 hpc htm hl h h1 h2 fun l g1 g2 => hK l _ (by omega) g1 g2
theorem t_linesC (hn : n < 800000) (q : ∀ (ls : List Ln) n', ls.length ≤ 10 → LinesOk 200 ls → n' ≤ n + 600 → Q (.own (dLines ls)) n') : m_law_lines p n [] Q := by
 refine i_fnL ?_
 unfold b_law_lines
 walk_at "ms"
 refine i_takeL (by decide) (by decide) (by omega) fun r r0 r1 => ?_
 walk_at "ms"
 obtain ⟨kd, hkd⟩ : ∃ kd : Int, ixD (.list [.int 0, .int 1, .int 0, .int 2, .int 0, .int 1]) (.int r) = some (.int kd) := by
  have : r = 0 ∨ r = 1 ∨ r = 2 ∨ r = 3 ∨ r = 4 ∨ r = 5 := by omega
  rcases this with rfl | rfl | rfl | rfl | rfl | rfl
  ·exact ⟨0, rfl⟩
  ·exact ⟨1, rfl⟩
  ·exact ⟨0, rfl⟩
  ·exact ⟨2, rfl⟩
  ·exact ⟨0, rfl⟩
  ·exact ⟨1, rfl⟩
 refine i_oQ hkd ?_
 walk_at "ms"
 refine t_numberC (n := n + 1) (by omega) fun pc n1 hpc hn1 => ?_
 walk_at "ms"
 refine t_numberC (n := n1) (by omega) fun tm n2 htm hn2 => ?_
 walk_at "ms"
 refine i_takeL (by decide) (by decide) (by omega) fun m m0 m1 => ?_
 walk_at "ms"
 refine i_takeL (by decide) (by decide) (by omega) fun r8 r80 r81 => ?_
 walk_at "ms"
 have r5 : ∀ m : Int, 0 ≤ m → m ≤ 10 → b_law_lines_r5 [.box (penF.box p (n2 + 1 + 1)), .val (.int kd), .val (dNum pc), .val (dNum tm), .val (.int m), .no, .no, .no, .no] fun fl => match fl with
   | .rt rv => ∃ rv0 s', rv = .box (bKp penF rv0 p s') ∧ Q rv0 s'
   | .nx Γ => ∃ s', Γ[0]? = some (.box (penF.box p s')) ∧ Q (.val .none) s'
   | _ => False := fun m m0 m1 => by
  unfold b_law_lines_r5
  walk_at "ms"
  refine ⟨by omega, by omega, ?_⟩
  refine range_inv (fun i Γ => ∃ ls nn a6 a7 a8, Γ = [.box (penF.box p nn), .val (.int kd), .val (dNum pc), .val (dNum tm), .val (.int m), .own (dLines ls), a6, a7, a8] ∧ ls.length = i ∧ LnS ls ∧ nn ≤ n + 50 + 50 * i) ⟨[], _, _, _, _, rfl, rfl, fun l hl => (nomatch hl), by omega⟩ ?_ ?_
  ·rintro i Γ K hi ⟨ls, nn, a6, a7, a8, rfl, hl, h, hnn⟩ hK
   unfold b_law_lines_l1
   walk_at "ms"
   refine t_numberC (n := nn) (by omega) fun x k1 hx hk1 => ?_
   walk_at "ms"
   refine t_numberC (n := k1) (by omega) fun y k2 hy hk2 => ?_
   walk_at "ms"
   refine i_takeL (by decide) (by decide) (by omega) fun way w0 w1 => ?_
   walk_at "ms"
   have fin : ∀ l k, k ≤ k2 + 3 → Sz 200 l.1 → Sz 60 l.2 → K (.nx [.box (penF.box p k), .val (.int kd), .val (dNum pc), .val (dNum tm), .val (.int m), .own (dLines (ls ++ [l])), .val (.int (0 + (i : Int))), .val (dLine l), .val (.int way)]) := fun l k hk g1 g2 => hK.nx _ ⟨_, _, _, _, _, rfl, by rw [List.length_append, List.length_singleton, hl], h.snoc g1 g2, by omega⟩
   refine iteD2 (fun c => ?_) (fun c => ?_)
   ·walk_at "ms"
    refine ⟨(gd_linesC ls).good, gd_nilC, ?_⟩
    rw [eqv_linesC]
    refine ⟨rfl, ?_⟩
    refine iteN2 (fun e => ?_) (fun e => ?_)
    ·have hp : 0 < ls.length := by cases ls with | nil => exact absurd rfl e | cons _ _ => exact Nat.zero_lt_succ _
     walk_at "ms"
     refine i_oQ (len_lines ls) ?_
     walk_at "ms"
     refine i_takeL (by omega) (by omega) (by omega) fun r r0 r1 => ?_
     walk_at "ms"
     obtain ⟨k, hk, ek⟩ := ix_draw r0 r1
     refine i_oQ ek ?_
     walk_at "ms"
     exact l_r4 (l := k) (by omega) hpc htm (by omega) h (h k hk).1 (h k hk).2 fun l n' hn' g1 g2 => fin l n' (by omega) g1 g2
    ·walk_at "ms"
     exact l_r4 (l := (x, y)) (by omega) hpc htm (by omega) h (hx.mono (by decide)) hy fun l n' hn' g1 g2 => fin l n' (by omega) g1 g2
   ·refine ⟨rfl, ?_⟩
    walk_at "ms"
    exact l_r4 (l := (x, y)) (by omega) hpc htm (by omega) h (hx.mono (by decide)) hy fun l n' hn' g1 g2 => fin l n' (by omega) g1 g2
  ·rintro Γ ⟨ls, nn, a6, a7, a8, rfl, hl, h, hnn⟩
   unfold b_law_lines_r1
   walk_at "ms"
   exact q _ _ (by omega) h.ok (by omega)
 refine iteD2 (fun c => ?_) (fun c => ?_)
 ·walk_at "ms"
  exact r5 10 (by decide) (by decide)
 ·walk_at "ms"
  exact r5 m m0 (by omega)
end
abbrev Pt := Nat × Nat × Option Rat
noncomputable def pD (p : Pt) : D := .tuple [.int (p.1 : Int), .int (p.2.1 : Int), dOpt p.2.2]
noncomputable def trip (ls : List Ln) (t : Rat) (xs : List Nat) : List Pt := (nbrs xs).map fun p => (p.1, p.2, tillN ls t p.1 p.2)
noncomputable def papsD (ls : List Ln) (t : Rat) (xs : List Nat) : List D := (nbrs xs).map fun p => paperW ls t p.1 p.2
theorem papsD_eq (ls : List Ln) (t : Rat) (xs : List Nat) : papsD ls t xs = (trip ls t xs).map pD := by
 unfold papsD trip
 rw [List.map_map]
 rfl
theorem trip_tills (ls : List Ln) (t : Rat) (xs : List Nat) : (trip ls t xs).map (fun p => p.2.2) = tills ls t xs := by
 unfold trip tills
 rw [List.map_map]
 rfl
noncomputable def PtOk (ps : List Pt) : Prop := ∀ p ∈ ps, ∀ u, p.2.2 = some u → Sz 2900 u
theorem till_sz {ls : List Ln} (hz : LinesOk 200 ls) {t u : Rat} (ht : Sz 2900 t) {i j : Nat} (hi : i < ls.length) (hj : j < ls.length) (h : tillN ls t i j = some u) : Sz 2900 u := by
 unfold tillN at h
 by_cases c : ahN ls t j i = true
 ·rw [if_pos c] at h
  rw [← Option.some.inj h]; exact ht
 ·rw [if_neg c, nxN_ln hi hj] at h
  obtain ⟨e, _, hu⟩ := nxC_some h
  obtain ⟨z1, z2⟩ := hz.get (ln_at hi)
  obtain ⟨z3, z4⟩ := hz.get (ln_at hj)
  exact (mt_sz (t := u) z1 z2 z3 z4 (by unfold mtO; rw [if_neg e, hu])).mono (by decide)
theorem trip_ok {ls : List Ln} (hz : LinesOk 200 ls) {t : Rat} (ht : Sz 2900 t) {xs : List Nat} (hm : ∀ x ∈ xs, x < ls.length) : PtOk (trip ls t xs) := fun p hp u hu => by
 obtain ⟨q, hq, rfl⟩ := List.mem_map.mp hp
 obtain ⟨n, hn, rfl⟩ := nbrs_mem hq
 exact till_sz hz ht (hm _ (List.getElem_mem _)) (hm _ (List.getElem_mem _)) hu
noncomputable def ffD : Option (Nat × Rat) → D
 | none => .none
 | some c => .int (c.1 : Int)
theorem gd_pt (p : Pt) : Gd 2 (pD p) := gd_tup (n := 1) fun d h => by
 simp only [List.mem_cons, List.not_mem_nil, or_false] at h
 rcases h with rfl | rfl | rfl
 ·exact (gd_int _).mono
 ·exact (gd_int _).mono
 ·exact gd_opt _
theorem gd_paps (ls : List Ln) (t : Rat) (xs : List Nat) : Gd 3 (.list (papsD ls t xs)) := gd_lst (n := 2) fun d h => by
 rw [papsD_eq] at h
 obtain ⟨p, _, rfl⟩ := List.mem_map.mp h
 exact gd_pt p
theorem noL_pts : ∀ ps : List Pt, noLsts (ps.map pD) = true
 | [] => rfl
 | p :: ps => by
  show (noLst (pD p) && noLsts (ps.map pD)) = true
  rw [noL_pts ps, Bool.and_true]
  obtain ⟨i, j, o⟩ := p
  cases o <;> rfl
theorem noL_nats : ∀ xs : List Nat, noLsts (dNats xs) = true
 | [] => rfl
 | _ :: xs => noL_nats xs
theorem noL_lines : ∀ ls : List Ln, noLsts (dLines ls) = true
 | [] => rfl
 | _ :: ls => noL_lines ls
section
variable {Q : Rv → Prop} {ls : List Ln}
theorem t_aheadC {i j : Nat} {l k : Ln} {t : Rat} (hi : ls[i]? = some l) (hj : ls[j]? = some k) (h1 : Sz 900 l.1) (h2 : Sz 900 l.2) (h3 : Sz 900 k.1) (h4 : Sz 900 k.2) (ht : Sz 2900 t) (q : Q (.val (.bool (ahB l k i j t)))) :
  m_law_ahead [.val (.list (dLines ls)), .val (.int (i : Int)), .val (.int (j : Int)), .val (dNum t)] Q := by
 unfold ahB pl at q
 refine i_fn ?_
 unfold b_law_ahead b_law_ahead_r2 b_law_ahead_r1
 walk_at "vs"
 refine i_oQ (ix_line hi) ?_
 walk_at "vs"
 refine i_oQ (ix_line hi) ?_
 walk_at "vs"
 refine t_times (h2.mono (by decide)) (ht.mono (by decide)) ?_
 walk_at "vs"
 refine t_plus (.inl rfl) (h1.mono (by decide)) ((h2.mul ht).mono (by decide)) ?_
 rw [pm_one]
 walk_at "vs"
 refine i_oQ (ix_line hj) ?_
 walk_at "vs"
 refine i_oQ (ix_line hj) ?_
 walk_at "vs"
 refine t_times (h4.mono (by decide)) (ht.mono (by decide)) ?_
 walk_at "vs"
 refine t_plus (.inl rfl) (h3.mono (by decide)) ((h4.mul ht).mono (by decide)) ?_
 rw [pm_one]
 walk_at "vs"
 refine iteN2 (fun c => ?_) (fun c => ?_)
 ·rw [if_neg c] at q
  walk_at "vs"
  exact t_less (place_sz h3 h4 ht) (place_sz h1 h2 ht) q
 ·rw [if_pos c] at q
  walk_at "vs"
  refine i_oQ (ix_line hi) ?_
  walk_at "vs"
  refine i_oQ (ix_line hj) ?_
  walk_at "vs"
  refine iteN2 (fun c => ?_) (fun c => ?_)
  ·rw [if_neg c] at q
   walk_at "vs"
   refine i_oQ (ix_line hj) ?_
   walk_at "vs"
   refine i_oQ (ix_line hi) ?_
   walk_at "vs"
   exact t_less (h4.mono (by decide)) (h2.mono (by decide)) q
  ·rw [if_pos c] at q
   walk_at "vs"
   exact q
end
section
variable {Q : Rv → Prop} {ls : List Ln}
end
section
variable {c w : Addr} {d ll lo : Addr} {ls : List Ln} {xs : List Nat} {t : Rat} {Q : Rv → Prop}
theorem eqF {A B : Prop} {d : D} (g : Good d) (b : B) : if (!PyData.eqv d d) = true then A else B := by rw [eqv_self g]; exact iteF b
theorem eqT {A B : Prop} {d : D} (g : Good d) (a : A) : if PyData.eqv d d = true then A else B := by rw [eqv_self g]; exact iteT a
theorem eqS {A B : Prop} {s t : Str} (h : PyData.eqv (.str s) (.str t) = false) (b : B) : if PyData.eqv (.str s) (.str t) = true then A else B := by rw [h]; exact iteF b
theorem ins_w {m : Str} {s : WS} (hm : ∀ s vn, (wkFs s vn).lookup m = none) : InsOf c m (pWalk c w s) := ins_walk hm
theorem t_w_time (q : Q (.val (dNum t))) : m_w_time c [.pub (pWalk c w ⟨d, ll, lo, dLines ls, dNum t, dNats xs⟩)] Q := by
 refine i_fn ?_
 unfold b_w_time
 walk_at "ms"
 refine i_wkNow rfl (.inr rfl) ?_
 walk_at "ms"
 exact q
theorem t_w_order (q : Q (.own (dNats xs))) : m_w_order c [.pub (pWalk c w ⟨d, ll, lo, dLines ls, dNum t, dNats xs⟩)] Q := by
 refine i_fn ?_
 unfold b_w_order
 walk_at "ms"
 refine i_wkListed rfl ?_
 walk_at "ms"
 exact q
theorem t_w_papers (hz : LinesOk 200 ls) (hl : xs.length ≤ 30) (hm : ∀ x ∈ xs, x < ls.length) (ht : Sz 2900 t) (q : Q (.own (papsD ls t xs))) : m_w_papers c [.pub (pWalk c w ⟨d, ll, lo, dLines ls, dNum t, dNats xs⟩)] Q := by
 refine i_fn ?_
 unfold b_w_papers
 walk_at "ms"
 refine i_wkLines rfl ?_
 walk_at "ms"
 refine i_wkListed rfl ?_
 walk_at "ms"
 refine i_wkNow rfl (.inr rfl) ?_
 walk_at "ms"
 refine t_papers_among hz hl hm ht ?_
 exact q
theorem t_tillP {i j : Nat} {t : Rat} (hz : LinesOk 200 ls) (hi : i < ls.length) (hj : j < ls.length) (ht : Sz 2900 t) (q : Q (.val (dOpt (nxN ls t i j)))) :
  m_law_till [.val (.list (dLines ls)), .val (.int (i : Int)), .val (.int (j : Int)), .val (dNum t)] Q := by
 have e1 := ln_at hi
 have e2 := ln_at hj
 obtain ⟨z1, z2⟩ := hz.get e1
 obtain ⟨z3, z4⟩ := hz.get e2
 rw [nxN_eq e1 e2] at q
 unfold nxC at q
 generalize ln ls i = l at *
 generalize ln ls j = k at *
 refine i_fn ?_
 unfold b_law_till
 walk_at "vs"
 refine i_oQ (ix_line e1) ?_
 walk_at "vs"
 refine i_oQ (ix_line e2) ?_
 walk_at "vs"
 refine t_plus (.inr rfl) (z2.mono (by decide)) (z4.mono (by decide)) ?_
 rw [pm_neg]
 walk_at "vs"
 refine iteD2 (fun c => ?_) (fun c => ?_)
 ·have c : l.2 - k.2 = 0 := num_zero.mp c
  rw [if_pos (by grind)] at q
  walk_at "vs"
  exact q
 ·have c : l.2 - k.2 ≠ 0 := fun z => c (num_zero.mpr z)
  rw [if_neg (by grind)] at q
  have s1 : Sz 401 (l.2 - k.2) := (z2.sub z4).mono (by decide)
  have s2 : Sz 401 (k.1 - l.1) := (z3.sub z1).mono (by decide)
  obtain ⟨b0, b1⟩ := id s1
  obtain ⟨c0, c1⟩ := id s2
  unfold b_law_till_r1
  walk_at "vs"
  refine i_oQ (ix_line e2) ?_
  walk_at "vs"
  refine i_oQ (ix_line e1) ?_
  walk_at "vs"
  refine t_plus (.inr rfl) (z3.mono (by decide)) (z1.mono (by decide)) ?_
  rw [pm_neg]
  walk_at "vs"
  refine t_lowest (Int.mul_ne_zero (den_ne _) (num_ne c)) ((c1.mul b0).mono (by decide)) ?_
  rw [div_eq _ c]
  have em : (k.1 - l.1) / (l.2 - k.2) = mt l k := rfl
  rw [em]
  have sm : Sz 802 (mt l k) := (s2.div s1 c).mono (by decide)
  walk_at "vs"
  refine t_less (ht.mono (by decide)) (sm.mono (by decide)) ?_
  walk_at "vs"
  by_cases d : t < mt l k
  ·rw [decide_eq_true d]
   rw [if_pos d] at q
   refine i_oQ (d := dNum (mt l k)) rfl ?_
   walk_at "vs"
   exact q
  ·rw [decide_eq_false d]
   rw [if_neg d] at q
   refine i_oQ (d := .none) rfl ?_
   walk_at "vs"
   exact q
theorem t_is_time (o : Option Rat) (q : Q (.val (.bool true))) : m_law_is_time [.val (dOpt o)] Q := by
 refine i_fn ?_
 unfold b_law_is_time
 cases o with
 | none =>
  unfold dOpt
  walk_at "ms"
  exact q
 | some r =>
  unfold dOpt dNum
  walk_at "ms"
  unfold b_law_is_time_r2
  walk_at "ms"
  unfold b_law_is_time_r1
  walk_at "ms"
  refine i_oQ (d := .int 2) rfl ?_
  walk_at "ms"
  refine iteN2 (fun h => absurd rfl h) (fun _ => ?_)
  walk_at "ms"
  refine i_oQ (d := .int r.num) rfl ?_
  walk_at "ms"
  refine i_oQ (d := .int (r.den : Int)) rfl ?_
  walk_at "ms"
  exact q
end
section
variable {p : Addr} {n : Nat} {Q : Rv → Nat → Prop} {ls : List Ln}
theorem t_when (hz : LinesOk 200 ls) (hl : ls.length ≤ 10) (hn : n < 800000) (q : ∀ (t : Rat) n', Sz 850 t → n' ≤ n + 30 → Q (.val (dNum t)) n') : m_law_when p n [.val (.list (dLines ls))] Q := by
 refine i_fnL ?_
 unfold b_law_when
 walk_at "ms"
 refine i_takeL (by decide) (by decide) (by omega) fun way w0 w1 => ?_
 have fin : ∀ (n1 : Nat) (a3 : Sl), n1 ≤ n + 3 → b_law_when_r1 [.box (penF.box p n1), .val (.list (dLines ls)), .val (.int way), a3] (fun fl => match fl with
   | .rt rv => ∃ rv0 s', rv = .box (bKp penF rv0 p s') ∧ Q rv0 s'
   | .nx Γ => ∃ s', Γ[0]? = some (.box (penF.box p s')) ∧ Q (.val .none) s'
   | _ => False) := by
  intro n1 a3 hn1
  unfold b_law_when_r1
  walk_at "ms"
  obtain ⟨kd, hk⟩ : ∃ kd, ixD (.list [.int 0, .int 0, .int 1, .int 1, .int 0]) (.int way) = some (.int kd) := by
   have z : way = 0 ∨ way = 1 ∨ way = 2 ∨ way = 3 ∨ way = 4 := by omega
   rcases z with rfl | rfl | rfl | rfl | rfl
   ·exact ⟨0, rfl⟩
   ·exact ⟨0, rfl⟩
   ·exact ⟨1, rfl⟩
   ·exact ⟨1, rfl⟩
   ·exact ⟨0, rfl⟩
  refine i_oQ hk ?_
  walk_at "ms"
  refine t_numberC (by omega) fun r n2 hr hn2 => ?_
  walk_at "ms"
  exact q _ _ (hr.mono (by decide)) (by omega)
 walk_at "ms"
 refine iteD2 (fun c1 => ?_) (fun c1 => ?_)
 ·walk_at "ms"
  refine i_oQ (len_lines ls) ?_
  walk_at "ms"
  refine iteD2 (fun c2 => ?_) (fun c2 => ?_)
  ·walk_at "ms"
   refine i_oQ (len_lines ls) ?_
   walk_at "ms"
   refine i_takeL (by omega) (by omega) (by omega) fun r r0 r1 => ?_
   walk_at "ms"
   obtain ⟨l, hl1, el⟩ := ix_draw r0 r1
   refine i_oQ el ?_
   walk_at "ms"
   refine i_oQ (len_lines ls) ?_
   walk_at "ms"
   refine i_takeL (by omega) (by omega) (by omega) fun r r0 r1 => ?_
   walk_at "ms"
   obtain ⟨k, hk1, ek⟩ := ix_draw r0 r1
   refine i_oQ ek ?_
   walk_at "ms"
   obtain ⟨z1, z2⟩ := hz l hl1
   obtain ⟨z3, z4⟩ := hz k hk1
   refine t_meeting (z1.mono (by decide)) (z2.mono (by decide)) (z3.mono (by decide)) (z4.mono (by decide)) ?_
   unfold meetD
   by_cases e2 : l.2 = k.2
   ·rw [if_pos e2]
    by_cases e1 : l.1 = k.1
    ·rw [if_pos e1]
     walk_at "ms"
     refine i_oQ (d := .str "always") rfl ?_
     walk_at "ms"
     refine ⟨good_str _, good_str _, eqS (by decide) ?_⟩
     walk_at "ms"
     exact fin _ _ (by omega)
    ·rw [if_neg e1]
     walk_at "ms"
     refine i_oQ (d := .str "never") rfl ?_
     walk_at "ms"
     refine ⟨good_str _, good_str _, eqS (by decide) ?_⟩
     walk_at "ms"
     exact fin _ _ (by omega)
   ·rw [if_neg e2]
    have sm : Sz 850 ((k.1 - l.1) / (l.2 - k.2)) := by
     have s1 : Sz 401 (l.2 - k.2) := (z2.sub z4).mono (by decide)
     have s2 : Sz 401 (k.1 - l.1) := (z3.sub z1).mono (by decide)
     exact (s2.div s1 (by grind)).mono (by decide)
    walk_at "ms"
    refine i_oQ (d := .str "at") rfl ?_
    walk_at "ms"
    refine ⟨good_str _, good_str _, eqT (good_str _) ?_⟩
    walk_at "ms"
    refine i_oQ (d := dNum ((k.1 - l.1) / (l.2 - k.2))) rfl ?_
    walk_at "ms"
    exact q _ _ sm (by omega)
  ·walk_at "ms"
   exact fin _ _ (by omega)
 ·walk_at "ms"
  exact fin _ _ (by omega)
end
section
variable {c w : Addr} {d ll lo : Addr} {ls : List Ln} {t : Rat} {Q : Rv → Prop}
theorem nxt_of {i : Nat} (h : i + 1 < (ord ls t).length) : tillN ls t (ord ls t)[i] (ord ls t)[i + 1] = nxN ls t (ord ls t)[i] (ord ls t)[i + 1] ∧ ahN ls t (ord ls t)[i] (ord ls t)[i + 1] = true := by
 have hm : ∀ x ∈ ord ls t, x < ls.length := fun x hx => (ord_mem ls t x).mp hx
 have e : ahN ls t (ord ls t)[i] (ord ls t)[i + 1] = true := List.pairwise_iff_getElem.mp (ord_srt ls t) i (i + 1) (by omega) h (by omega)
 refine ⟨?_, e⟩
 unfold tillN
 rw [if_neg (by rw [(ah_strict ls t).asymm _ _ (hm _ (List.getElem_mem _)) (hm _ (List.getElem_mem _)) e]; decide)]
theorem ord_nodup (ls : List Ln) (t : Rat) : (ord ls t).Nodup := by
 have h := (ord_srt ls t)
 have hm : ∀ x ∈ ord ls t, x < ls.length := fun x hx => (ord_mem ls t x).mp hx
 refine List.Pairwise.imp_of_mem (S := fun a b => a ≠ b) (fun {a b} ha hb (z : ahN ls t a b = true) e => ?_) h
 subst e
 rw [(ah_strict ls t).irr (hm a ha)] at z
 cases z
theorem srt_ord (ls : List Ln) (t : Rat) : srtInt ((ord ls t).map fun x : Nat => (x : Int)) = (List.range ls.length).map fun x : Nat => (x : Int) := by
 refine srtInt_of (List.Perm.map _ ((List.perm_ext_iff_of_nodup List.nodup_range (ord_nodup ls t)).mpr fun x => by rw [List.mem_range, ord_mem])) ?_
 refine List.pairwise_map.mpr (List.Pairwise.imp (fun {a b} h => ?_) (List.pairwise_lt_range (n := ls.length)))
 exact Int.ofNat_le.mpr (Nat.le_of_lt h)
theorem cut_two {xs : List Nat} {k : Nat} (h : k + 1 < xs.length) : L2.VS.cutD (dNats xs) (some (k : Int)) (some ((k : Int) + 2)) = [.int (xs[k] : Int), .int (xs[k + 1] : Int)] := by
 unfold L2.VS.cutD
 rw [show ((k : Int) + 2) = ((k + 2 : Nat) : Int) by omega, HT.sIx_nat, HT.sIx_nat, Nat.min_eq_left (by rw [dNats_len]; omega), Nat.min_eq_left (by rw [dNats_len]; omega), show k + 2 - k = 2 by omega]
 unfold dNats
 rw [← List.map_drop, List.drop_eq_getElem_cons (by omega : k < xs.length), List.drop_eq_getElem_cons h]
 rfl
theorem paps_at {xs : List Nat} {k : Nat} (h : k + 1 < xs.length) : (papsD ls t xs)[k]? = some (paperW ls t xs[k] xs[k + 1]) := by
 unfold papsD
 rw [List.getElem?_map, nbrs_get h]
 rfl
theorem papsD_len (xs : List Nat) : (papsD ls t xs).length = xs.length - 1 := by unfold papsD; rw [List.length_map, nbrs_len]
theorem t_right (hz : LinesOk 200 ls) (hl : ls.length ≤ 10) (ht : Sz 2900 t) (q : Q (.val (.bool true))) :
  m_law_right c [.pub (pWalk c w ⟨d, ll, lo, dLines ls, dNum t, dNats (ord ls t)⟩), .val (.list (dLines ls)), .val (dNum t)] Q := by
 have hlx : (ord ls t).length = ls.length := ord_len ls t
 have hm : ∀ x ∈ ord ls t, x < ls.length := fun x hx => (ord_mem ls t x).mp hx
 have go := good_nats (List.range ls.length)
 refine i_fn ?_
 unfold b_law_right
 walk_at "ms"
 refine i_methR rfl (ins_w fun _ _ => rfl) ?_
 walk_at "ms"
 refine t_w_papers hz (by omega) hm ht ?_
 walk_at "ms"
 refine i_methR rfl (ins_w fun _ _ => rfl) ?_
 walk_at "ms"
 refine t_w_order ?_
 walk_at "ms"
 refine i_methR rfl (ins_w fun _ _ => rfl) ?_
 walk_at "ms"
 refine t_w_time ?_
 walk_at "ms"
 refine iteN2 (fun h => absurd rfl h) (fun _ => ?_)
 walk_at "ms"
 refine i_sortI ?_
 walk_at "ms"
 refine ⟨(ord ls t).map fun x : Nat => (x : Int), by unfold dNats; rw [List.map_map]; rfl, by rw [List.length_map]; omega, ?_⟩
 rw [srt_ord]
 walk_at "ms"
 refine i_oQ (len_lines ls) ?_
 walk_at "ms"
 refine ⟨⟨by omega, by omega⟩, ?_⟩
 have er : rangeD 0 ((ls.length : Int)).toNat = dNats (List.range ls.length) := by
  unfold rangeD dNats
  rw [Int.toNat_natCast]
  exact List.map_congr_left fun x _ => by rw [Int.zero_add]
 have es : (((List.range ls.length).map fun x : Nat => (x : Int)).map PyData.int) = dNats (List.range ls.length) := by
  unfold dNats
  rw [List.map_map]
  rfl
 rw [er, es]
 walk_at "ms"
 refine ⟨go, go, eqF go ?_⟩
 walk_at "ms"
 unfold b_law_right_c_r5
 walk_at "ms"
 refine ⟨by rw [dNats_len]; omega, ?_⟩
 refine comp_fm (α := Nat) (fun _ => false) (fun x => .int (x : Int)) (fun x => .int (x : Int)) (ord ls t) [] _ (fun x hx _ k k0 h1 h0 => ?_) ?_
 ·walk_at "ms"
  exact h0 rfl
 ·have e : (ord ls t).filter (fun _ => false) = [] := List.filter_eq_nil_iff.mpr fun _ _ h => nomatch h
  rw [e]
  walk_at "ms"
  have gn : Good (.list []) := (gd_lst (n := 0) (ds := []) fun _ h => nomatch h).good
  refine ⟨gn, gn, eqF gn ?_⟩
  walk_at "ms"
  unfold b_law_right_c_r4
  walk_at "ms"
  have elen : lenD (.list (papsD ls t (ord ls t))) = some (.int ((ls.length - 1 : Nat) : Int)) := by show some (PyData.int ((papsD ls t (ord ls t)).length : Int)) = _; rw [papsD_len, hlx]
  refine i_oQ elen ?_
  walk_at "ms"
  refine i_oQ (len_lines ls) ?_
  walk_at "ms"
  have em : (if (ls.length : Int) - 1 > 0 then (ls.length : Int) - 1 else 0) = ((ls.length - 1 : Nat) : Int) := by split <;> omega
  rw [em]
  walk_at "ms"
  refine iteN2 (fun h => absurd rfl h) (fun _ => ?_)
  walk_at "ms"
  unfold b_law_right_c_r3
  walk_at "ms"
  refine i_oQ elen ?_
  walk_at "ms"
  refine ⟨by omega, by omega, ?_⟩
  rw [Int.toNat_natCast]
  refine range_inv (fun _ Γ => ∃ a5 a6 a7 a8, Γ = [.pub (pWalk c w ⟨d, ll, lo, dLines ls, dNum t, dNats (ord ls t)⟩), .val (.list (dLines ls)), .val (dNum t), .val (.list (papsD ls t (ord ls t))), .val (.list (dNats (ord ls t))), a5, a6, a7, a8]) ⟨_, _, _, _, rfl⟩ ?_ ?_
  ·rintro i Γ K hi ⟨a5, a6, a7, a8, rfl⟩ hK
   have h1 : i + 1 < (ord ls t).length := by omega
   have l1 := hm _ (List.getElem_mem (by omega : i < (ord ls t).length))
   have l2 := hm _ (List.getElem_mem h1)
   obtain ⟨en, ea⟩ := nxt_of h1
   obtain ⟨z1, z2⟩ := hz.get (ln_at l1)
   obtain ⟨z3, z4⟩ := hz.get (ln_at l2)
   have ep : (papsD ls t (ord ls t))[i]? = some (.tuple [.int ((ord ls t)[i] : Int), .int ((ord ls t)[i + 1] : Int), dOpt (nxN ls t (ord ls t)[i] (ord ls t)[i + 1])]) := by
    rw [paps_at h1]
    unfold paperW
    rw [en]
   have g3 : Good (.tuple [.int ((ord ls t)[i] : Int), .int ((ord ls t)[i + 1] : Int), dOpt (nxN ls t (ord ls t)[i] (ord ls t)[i + 1])]) := (gd_tup (n := 1) fun d h => by
    simp only [List.mem_cons, List.not_mem_nil, or_false] at h
    rcases h with rfl | rfl | rfl
    ·exact (gd_int _).mono
    ·exact (gd_int _).mono
    ·exact gd_opt _).good
   walk_at "ms"
   unfold b_law_right_c_l1
   rw [Int.zero_add]
   walk_at "ms"
   rw [cut_two h1]
   refine i_gTL rfl ?_
   walk_at "ms"
   refine t_aheadC (ln_at l1) (ln_at l2) (z1.mono (by decide)) (z2.mono (by decide)) (z3.mono (by decide)) (z4.mono (by decide)) ht ?_
   rw [← ahN_ln l1 l2, ea]
   walk_at "ms"
   refine i_oQ (ix_nat ep) ?_
   walk_at "ms"
   unfold b_law_right_c_r2
   walk_at "ms"
   refine t_tillP hz l1 l2 ht ?_
   walk_at "ms"
   refine i_oQ (ix_nat ep) ?_
   walk_at "ms"
   refine ⟨g3, g3, eqF g3 ?_⟩
   walk_at "ms"
   refine i_oQ (ix_nat ep) ?_
   walk_at "ms"
   refine i_oQ (d := dOpt (nxN ls t (ord ls t)[i] (ord ls t)[i + 1])) rfl ?_
   walk_at "ms"
   refine t_is_time _ ?_
   walk_at "ms"
   exact hK.nx _ ⟨_, _, _, _, rfl⟩
  ·rintro Γ ⟨a5, a6, a7, a8, rfl⟩
   unfold b_law_right_c_r1
   walk_at "ms"
   exact q
end
theorem compM_cons {mg : MG} {mt : MT} {me : MO} {Γb : En} {d : D} {ds : List D} {acc : List Bx} {Q : List Bx → Prop} (h : mg d Γb fun Γ1 => mt Γ1 fun b Γ2 => if b = true then me Γ2 fun rv _ => ∃ B, bxOf rv = some B ∧ compM mg mt me Γb ds (acc ++ [B]) Q else compM mg mt me Γb ds acc Q) : compM mg mt me Γb (d :: ds) acc Q := h
theorem compM_nil {mg : MG} {mt : MT} {me : MO} {Γb : En} {acc : List Bx} {Q : List Bx → Prop} (h : Q acc) : compM mg mt me Γb [] acc Q := h
theorem forZ_inv {a b : Nat} {s : MS} {Q : Fl → Prop} (I : En → Prop) : ∀ (zs : List (Pb × D)) (Γ : En), (∀ z ∈ zs, ∀ (Γ : En) (K : Fl → Prop), I Γ → (∀ Γ', I Γ' → K (.nx Γ')) → s ((Γ.set a (.pub z.1)).set b (.val z.2)) K) → I Γ → (∀ Γ, I Γ → Q (.nx Γ)) → forZ a b s zs Γ Q
 | [], Γ, _, h, q => q Γ h
 | z :: zs, Γ, hs, h, q => hs z List.mem_cons_self Γ _ h fun Γ' h' => forZ_inv I zs Γ' (fun y hy => hs y (List.mem_cons_of_mem _ hy)) h' q
abbrev pW (c : Addr) (ls : List Ln) (t : Rat) (w d ll lo : Addr) : Pb := pWalk c w ⟨d, ll, lo, dLines ls, dNum t, dNats (ord ls t)⟩
theorem law_true (c pen : Addr) : b_law_c c (.no :: .box (penF.box pen 1) :: List.replicate 9 .no) TrueEnd := by
 unfold b_law_c
 walk_at "ms"
 refine t_linesC (n := 1) (by decide) fun ls n1 hl hz hn1 => ?_
 walk_at "ms"
 refine ⟨by decide, by decide, by decide, pen, n1, rfl, ?_⟩
 refine compLn_inv (fun i acc s => ∃ ts : List Rat, acc = ts.map dNum ∧ ts.length = i ∧ (∀ t ∈ ts, Sz 850 t) ∧ s ≤ n1 + 30 * i) ⟨[], rfl, rfl, fun _ h => (nomatch h), by omega⟩ ?_ ?_
 ·rintro i d acc s hd ⟨ts, rfl, h1, h2, h3⟩ K k
  have hi : i < 3 := (List.getElem?_eq_some_iff.mp hd).1
  walk_at "ms"
  unfold mTrue
  walk_at "ms"
  refine t_when hz hl (by omega) fun t n' ht hn' => ?_
  walk_at "ms"
  refine ⟨n', rfl, k _ _ ⟨ts ++ [t], by rw [List.map_append]; rfl, by rw [List.length_append, List.length_singleton, h1], fun x hx => ?_, by omega⟩⟩
  rcases List.mem_append.mp hx with hx | hx
  ·exact h2 x hx
  ·rw [List.mem_singleton.mp hx]; exact ht
 ·rintro acc s ⟨ts, rfl, h1, h2, h3⟩
  obtain ⟨t0, t1, t2, rfl⟩ : ∃ t0 t1 t2, ts = [t0, t1, t2] := by
   match ts, h1 with
   | [a, b, c], _ => exact ⟨a, b, c, rfl⟩
  have z0 := (h2 t0 (by simp)).mono (m := 2900) (by decide)
  have z1 := (h2 t1 (by simp)).mono (m := 2900) (by decide)
  have z2 := (h2 t2 (by simp)).mono (m := 2900) (by decide)
  walk_at "ms"
  refine i_compM ?_
  walk_at "ms"
  have st : ∀ (Γb : En) (d : D) (ds : List D) (acc : List Bx) (K : List Bx → Prop), Γb.length = 2 → Γb[1]? = some (.val (.list (dLines ls))) → compM (gN 0) mTrue (mListOf (mVar 1)) Γb ds (acc ++ [bOwn (dLines ls)]) K → compM (gN 0) mTrue (mListOf (mVar 1)) Γb (d :: ds) acc K := by
   intro Γb d ds acc K hl2 hb h
   obtain ⟨x, y, rfl⟩ : ∃ x y, Γb = [x, y] := by
    match Γb, hl2 with
    | [x, y], _ => exact ⟨x, y, rfl⟩
   cases hb
   refine compM_cons ?_
   walk_at "ms"
   unfold mTrue
   walk_at "ms"
   exact ⟨_, rfl, h⟩
  refine st _ _ _ _ _ rfl rfl (st _ _ _ _ _ rfl rfl (st _ _ _ _ _ rfl rfl (compM_nil ?_)))
  walk_at "ms"
  show mPeekB _ _ _
  unfold mPeekB
  refine i_compM ?_
  walk_at "ms"
  refine ⟨by decide, by decide, by decide, ?_⟩
  have er : rangeD 0 (Int.toNat 3) = [.int 0, .int 1, .int 2] := rfl
  rw [er]
  have wk : ∀ (k : Nat) (t : Rat) (Γb : En) (ds : List D) (acc : List Bx) (K : List Bx → Prop), Sz 2900 t → Γb.length = 3 → Γb[1]? = some (.val (.list [.list (dLines ls), .list (dLines ls), .list (dLines ls)])) → Γb[2]? = some (.val (.list [dNum t0, dNum t1, dNum t2])) →
    ixD (.list [.list (dLines ls), .list (dLines ls), .list (dLines ls)]) (.int (k : Int)) = some (.list (dLines ls)) → ixD (.list [dNum t0, dNum t1, dNum t2]) (.int (k : Int)) = some (dNum t) →
    (∀ w d ll lo, compM (gN 0) mTrue (mNewWk c m_order_at (mIx (mVar 1) (mVar 0)) (mIx (mVar 2) (mVar 0))) Γb ds (acc ++ [(walkF c).box w ⟨d, ll, lo, dLines ls, dNum t, dNats (ord ls t)⟩]) K) → compM (gN 0) mTrue (mNewWk c m_order_at (mIx (mVar 1) (mVar 0)) (mIx (mVar 2) (mVar 0))) Γb (.int (k : Int) :: ds) acc K := by
   intro k t Γb ds acc K hzt hl3 hb1 hb2 e1 e2 h
   obtain ⟨x, y, z, rfl⟩ : ∃ x y z, Γb = [x, y, z] := by
    match Γb, hl3 with
    | [x, y, z], _ => exact ⟨x, y, z, rfl⟩
   cases hb1
   cases hb2
   refine compM_cons ?_
   walk_at "ms"
   unfold mTrue
   walk_at "ms"
   refine i_newWk ?_
   walk_at "ms"
   refine i_oQ e1 ?_
   walk_at "ms"
   refine i_oQ e2 ?_
   refine ⟨dLines ls, dNats (ord ls t), rfl, by rw [dLines_len]; omega, noL_lines ls, rfl, noL_nats _, t_order_at hz (by omega) hzt rfl, fun w d ll lo => ?_⟩
   exact ⟨_, rfl, h w d ll lo⟩
  refine wk 0 t0 _ _ _ _ z0 rfl rfl rfl rfl rfl fun w0 d0 ll0 lo0 => ?_
  refine wk 1 t1 _ _ _ _ z1 rfl rfl rfl rfl rfl fun w1 d1 ll1 lo1 => ?_
  refine wk 2 t2 _ _ _ _ z2 rfl rfl rfl rfl rfl fun w2 d2 ll2 lo2 => ?_
  refine compM_nil ⟨⟨_, rfl, cut_many fun B hB => ?_⟩, rfl, _, _, rfl, rfl, ?_⟩
  ·simp only [List.nil_append, List.cons_append, List.mem_cons, List.not_mem_nil, or_false] at hB
   rcases hB with rfl | rfl | rfl <;> exact cut_walk
  walk_at "ms"
  have g3 : Gd 4 (.list [.list (dLines ls), .list (dLines ls), .list (dLines ls)]) := gd_lst (n := 3) fun d h => by
   simp only [List.mem_cons, List.not_mem_nil, or_false] at h
   rcases h with rfl | rfl | rfl <;> exact gd_linesC ls
  have e3 : (List.replicate (Int.toNat 3) [PyData.list (dLines ls)]).flatten = [.list (dLines ls), .list (dLines ls), .list (dLines ls)] := rfl
  rw [e3]
  refine ⟨⟨by decide, by decide⟩, by show 1 * 3 ≤ 1000; decide, g3.good, g3.good, rfl, eqF g3.good ?_⟩
  walk_at "ms"
  unfold b_law_c_r4
  walk_at "ms"
  refine i_junk ⟨by decide, by show 8 < 11; decide⟩ (dss := [dLines ls, dLines ls, dLines ls]) rfl (fun ds h => ?_) ?_
  ·simp only [List.mem_cons, List.not_mem_nil, or_false] at h
   rcases h with rfl | rfl | rfl <;> rw [dLines_len] <;> omega
  walk_at "ms"
  unfold b_law_c_r3
  walk_at "ms"
  refine ⟨by decide, by decide, ?_⟩
  have hin : ∀ z ∈ [pW c ls t0 w0 d0 ll0 lo0, pW c ls t1 w1 d1 ll1 lo1, pW c ls t2 w2 d2 ll2 lo2].zip [dNum t0, dNum t1, dNum t2], ∃ t w d ll lo, Sz 2900 t ∧ z = (pW c ls t w d ll lo, dNum t) := fun z hz' => by
   simp only [List.zip_cons_cons, List.zip_nil_right, List.mem_cons, List.not_mem_nil, or_false] at hz'
   rcases hz' with rfl | rfl | rfl
   ·exact ⟨t0, w0, d0, ll0, lo0, z0, rfl⟩
   ·exact ⟨t1, w1, d1, ll1, lo1, z1, rfl⟩
   ·exact ⟨t2, w2, d2, ll2, lo2, z2, rfl⟩
  refine range_inv (fun _ Γ => ∃ a6 a9 a10, Γ = [.no, .box (penF.box pen s), .val (.list (dLines ls)), .val (.list [dNum t0, dNum t1, dNum t2]), .no, .no, a6, .pub (pMany [pW c ls t0 w0 d0 ll0 lo0, pW c ls t1 w1 d1 ll1 lo1, pW c ls t2 w2 d2 ll2 lo2]), .no, a9, a10]) ⟨_, _, _, rfl⟩ ?_ ?_
  ·rintro i Γ K hi ⟨a6, a9, a10, rfl⟩ hK
   walk_at "ms"
   unfold b_law_c_l2
   refine ⟨⟨_, rfl⟩, ?_⟩
   walk_at "ms"
   refine ⟨_, _, rfl, rfl, rfl, ?_⟩
   refine forZ_inv (fun Γ => ∃ a6 a9 a10, Γ = [.no, .box (penF.box pen s), .val (.list (dLines ls)), .val (.list [dNum t0, dNum t1, dNum t2]), .no, .no, a6, .pub (pMany [pW c ls t0 w0 d0 ll0 lo0, pW c ls t1 w1 d1 ll1 lo1, pW c ls t2 w2 d2 ll2 lo2]), .no, a9, a10]) _ _ ?_ ⟨_, _, _, rfl⟩ fun Γ h => hK.nx _ h
   rintro z hz' Γ K' ⟨a6, a9, a10, rfl⟩ hK'
   obtain ⟨t, w, d, ll, lo, zt, rfl⟩ := hin z hz'
   have hlx : (ord ls t).length = ls.length := ord_len ls t
   have hm : ∀ x ∈ ord ls t, x < ls.length := fun x hx => (ord_mem ls t x).mp hx
   unfold b_law_c_l1
   walk_at "ms"
   refine i_apb rfl ?_
   walk_at "ms"
   refine t_right hz hl zt ?_
   walk_at "ms"
   unfold b_law_c_r2
   walk_at "ms"
   refine i_methR rfl (ins_w fun _ _ => rfl) ?_
   walk_at "ms"
   refine t_w_order ?_
   refine i_loK (by rw [dNats_len]; omega) ?_
   walk_at "ms"
   refine i_methR rfl (ins_w fun _ _ => rfl) ?_
   walk_at "ms"
   refine t_w_papers hz (by omega) hm zt ?_
   refine i_loK (by rw [papsD_len]; omega) ?_
   exact hK' _ ⟨_, _, _, rfl⟩
  ·rintro Γ ⟨a6, a9, a10, rfl⟩
   unfold b_law_c_r1
   walk_at "ms"
   rfl
theorem ln1 {α : Type} {us : List α} (h : us.length = 1) : ∃ x0, us = [x0] := by
 match us, h with
 | [_], _ => exact ⟨_, rfl⟩
theorem ln2 {α : Type} {us : List α} (h : us.length = 2) : ∃ x0 x1, us = [x0, x1] := by
 match us, h with
 | [_, _], _ => exact ⟨_, _, rfl⟩
theorem ln3 {α : Type} {us : List α} (h : us.length = 3) : ∃ x0 x1 x2, us = [x0, x1, x2] := by
 match us, h with
 | [_, _, _], _ => exact ⟨_, _, _, rfl⟩
theorem ln4 {α : Type} {us : List α} (h : us.length = 4) : ∃ x0 x1 x2 x3, us = [x0, x1, x2, x3] := by
 match us, h with
 | [_, _, _, _], _ => exact ⟨_, _, _, _, rfl⟩
theorem bl_mk {K : PySem.W.Frag} {h : Heap} {mg : Str → Option Value} (X : K.In h) (G : h.Ns mainGlobals mg)
  (z_len : PySem.W.nsIn K mainGlobals "len" = some none)
  (z_abs : PySem.W.nsIn K mainGlobals "abs" = some none)
  (z_range : PySem.W.nsIn K mainGlobals "range" = some none)
  (z_isinstance : PySem.W.nsIn K mainGlobals "isinstance" = some none)
  (z_int : PySem.W.nsIn K mainGlobals "int" = some none)
  (z_bool : PySem.W.nsIn K mainGlobals "bool" = some none)
  (z_tuple : PySem.W.nsIn K mainGlobals "tuple" = some none)
  (z_max : PySem.W.nsIn K mainGlobals "max" = some none)
  (z_min : PySem.W.nsIn K mainGlobals "min" = some none)
  (z_list : PySem.W.nsIn K mainGlobals "list" = some none)
  (z_all : PySem.W.nsIn K mainGlobals "all" = some none)
  (z_any : PySem.W.nsIn K mainGlobals "any" = some none)
  (z_sorted : PySem.W.nsIn K mainGlobals "sorted" = some none)
  (z_zip : PySem.W.nsIn K mainGlobals "zip" = some none)
  (z_set : PySem.W.nsIn K mainGlobals "set" = some none)
  (z_sum : PySem.W.nsIn K mainGlobals "sum" = some none)
  (z_str : PySem.W.nsIn K mainGlobals "str" = some none)
  (z_enumerate : PySem.W.nsIn K mainGlobals "enumerate" = some none)
  (kt_int_bool : PySem.W.kitOne K (.type "int") (.type "bool") = some false)    (kt_bool_int : PySem.W.kitOne K (.type "bool") (.type "int") = some true) : Bl K mg := ⟨PySem.W.mg_none_of X G z_len, PySem.W.mg_none_of X G z_abs, PySem.W.mg_none_of X G z_range, PySem.W.mg_none_of X G z_isinstance, PySem.W.mg_none_of X G z_int, PySem.W.mg_none_of X G z_bool, PySem.W.mg_none_of X G z_tuple, PySem.W.mg_none_of X G z_max, PySem.W.mg_none_of X G z_min, PySem.W.mg_none_of X G z_list, PySem.W.mg_none_of X G z_all, PySem.W.mg_none_of X G z_any, PySem.W.mg_none_of X G z_sorted, PySem.W.mg_none_of X G z_zip, PySem.W.mg_none_of X G z_set, PySem.W.mg_none_of X G z_sum, PySem.W.mg_none_of X G z_str, PySem.W.mg_none_of X G z_enumerate, kt_int_bool, kt_bool_int⟩
theorem kit_mk {K : PySem.W.Frag}
  (kt_NoneType_bool : PySem.W.kitOne K (.type "NoneType") (.type "bool") = some false)
  (kt_NoneType_int : PySem.W.kitOne K (.type "NoneType") (.type "int") = some false)
  (kt_NoneType_str : PySem.W.kitOne K (.type "NoneType") (.type "str") = some false)
  (kt_NoneType_list : PySem.W.kitOne K (.type "NoneType") (.type "list") = some false)
  (kt_NoneType_tuple : PySem.W.kitOne K (.type "NoneType") (.type "tuple") = some false)
  (kt_NoneType_dict : PySem.W.kitOne K (.type "NoneType") (.type "dict") = some false)
  (kt_bool_NoneType : PySem.W.kitOne K (.type "bool") (.type "NoneType") = some false)
  (kt_bool_int : PySem.W.kitOne K (.type "bool") (.type "int") = some true)
  (kt_bool_str : PySem.W.kitOne K (.type "bool") (.type "str") = some false)
  (kt_bool_list : PySem.W.kitOne K (.type "bool") (.type "list") = some false)
  (kt_bool_tuple : PySem.W.kitOne K (.type "bool") (.type "tuple") = some false)
  (kt_bool_dict : PySem.W.kitOne K (.type "bool") (.type "dict") = some false)
  (kt_int_NoneType : PySem.W.kitOne K (.type "int") (.type "NoneType") = some false)
  (kt_int_bool : PySem.W.kitOne K (.type "int") (.type "bool") = some false)
  (kt_int_str : PySem.W.kitOne K (.type "int") (.type "str") = some false)
  (kt_int_list : PySem.W.kitOne K (.type "int") (.type "list") = some false)
  (kt_int_tuple : PySem.W.kitOne K (.type "int") (.type "tuple") = some false)
  (kt_int_dict : PySem.W.kitOne K (.type "int") (.type "dict") = some false)
  (kt_str_NoneType : PySem.W.kitOne K (.type "str") (.type "NoneType") = some false)
  (kt_str_bool : PySem.W.kitOne K (.type "str") (.type "bool") = some false)
  (kt_str_int : PySem.W.kitOne K (.type "str") (.type "int") = some false)
  (kt_str_list : PySem.W.kitOne K (.type "str") (.type "list") = some false)
  (kt_str_tuple : PySem.W.kitOne K (.type "str") (.type "tuple") = some false)
  (kt_str_dict : PySem.W.kitOne K (.type "str") (.type "dict") = some false)
  (kt_list_NoneType : PySem.W.kitOne K (.type "list") (.type "NoneType") = some false)
  (kt_list_bool : PySem.W.kitOne K (.type "list") (.type "bool") = some false)
  (kt_list_int : PySem.W.kitOne K (.type "list") (.type "int") = some false)
  (kt_list_str : PySem.W.kitOne K (.type "list") (.type "str") = some false)
  (kt_list_tuple : PySem.W.kitOne K (.type "list") (.type "tuple") = some false)
  (kt_list_dict : PySem.W.kitOne K (.type "list") (.type "dict") = some false)
  (kt_tuple_NoneType : PySem.W.kitOne K (.type "tuple") (.type "NoneType") = some false)
  (kt_tuple_bool : PySem.W.kitOne K (.type "tuple") (.type "bool") = some false)
  (kt_tuple_int : PySem.W.kitOne K (.type "tuple") (.type "int") = some false)
  (kt_tuple_str : PySem.W.kitOne K (.type "tuple") (.type "str") = some false)
  (kt_tuple_list : PySem.W.kitOne K (.type "tuple") (.type "list") = some false)
  (kt_tuple_dict : PySem.W.kitOne K (.type "tuple") (.type "dict") = some false)
  (kt_dict_NoneType : PySem.W.kitOne K (.type "dict") (.type "NoneType") = some false)
  (kt_dict_bool : PySem.W.kitOne K (.type "dict") (.type "bool") = some false)
  (kt_dict_int : PySem.W.kitOne K (.type "dict") (.type "int") = some false)
  (kt_dict_str : PySem.W.kitOne K (.type "dict") (.type "str") = some false)
  (kt_dict_list : PySem.W.kitOne K (.type "dict") (.type "list") = some false)
  (kt_dict_tuple : PySem.W.kitOne K (.type "dict") (.type "tuple") = some false)
  : Kit K := Kit.mk' (by
  intro a ha b hb
  simp only [tyL, List.mem_cons, List.not_mem_nil, or_false] at ha hb
  rcases ha with rfl | rfl | rfl | rfl | rfl | rfl | rfl <;> rcases hb with rfl | rfl | rfl | rfl | rfl | rfl | rfl <;> intro e <;> first | assumption | exact absurd e (by decide))
noncomputable def DfP (K : PySem.W.Frag) (mg : Str → Option Value) (x : Str) (st : Stmt) : Prop := ∃ (f : Addr) (fd : FuncData), Fun K x x st f fd ∧ mg x = some (.ref f)
theorem df_mk {K : PySem.W.Frag} {h : Heap} {mg : Str → Option Value} (X : K.In h) (G : h.Ns mainGlobals mg) {x : Str} {st : Stmt} {f : Addr} {od an : Option Addr} {sl : Array (Option Value)} {oc kV dc pm cd ct : Value}
  (a : PySem.W.nsIn K mainGlobals x = some (some (.ref f))) (l : K.lookup f = some ⟨oc, od, .func (PySem.W.fnOf x x (defArgs st) (defBody st) (defScope st) .none kV dc pm an cd ct), sl⟩) (c : PySem.W.codeIn K cd x = true) (k : PySem.W.keepIn K (.ref f) = true) : DfP K mg x st :=
 ⟨f, _, fun_mk l c k, PySem.W.mg_of X G a⟩
noncomputable def MeP (K : PySem.W.Frag) (C : Addr) (m q : Str) (st : Stmt) : Prop := ∃ (f : Addr) (fd : FuncData), Fun K m q st f fd ∧ Meth K C m f
theorem me_mk {K : PySem.W.Frag} {C : Addr} {m q : Str} {st : Stmt} {f : Addr} {od an : Option Addr} {sl : Array (Option Value)} {oc kV dc pm cd ct : Value}
  (a : PySem.W.findIn K (.ref C) m = some (some (.ref f))) (n : PySem.W.isFn K (.ref f) = true) (l : K.lookup f = some ⟨oc, od, .func (PySem.W.fnOf m q (defArgs st) (defBody st) (defScope st) .none kV dc pm an cd ct), sl⟩) (c : PySem.W.codeIn K cd q = true) (k : PySem.W.keepIn K (.ref f) = true) : MeP K C m q st := ⟨f, _, fun_mk l c k, a, n, k⟩
noncomputable def InP (K : PySem.W.Frag) (C : Addr) (q : Str) (st : Stmt) : Prop := ∃ (f : Addr) (fd : FuncData), Fun K "__init__" q st f fd ∧ Mk K C f
theorem in_mk {K : PySem.W.Frag} {C : Addr} {q : Str} {st : Stmt} {f : Addr} {od an : Option Addr} {sl : Array (Option Value)} {oc kV dc pm cd ct : Value}
  (y : PySem.W.makesIn K C = true) (a : PySem.W.findIn K (.ref C) "__init__" = some (some (.ref f))) (n : PySem.W.isFn K (.ref f) = true) (z : PySem.W.keepIn K (.ref C) = true) (l : K.lookup f = some ⟨oc, od, .func (PySem.W.fnOf "__init__" q (defArgs st) (defBody st) (defScope st) .none kV dc pm an cd ct), sl⟩) (c : PySem.W.codeIn K cd q = true) (k : PySem.W.keepIn K (.ref f) = true) : InP K C q st := ⟨f, _, fun_mk l c k, y, a, n, z⟩
theorem na_mk {K : PySem.W.Frag} {C : Addr} {f : Str} (h : PySem.W.findIn K (.ref C) f = some none) : NoAttr K C f := h
theorem mk_is_whole {P : Program} {w : World} {K : PySem.W.Frag} {mg : Str → Option Value} {base : Heap} (B : Bl K mg) (Kt : Kit K) (d : DfP K mg "is_whole" s_is_whole) :
  Cal P w K mg base 1 "is_whole" ["thing"] (spM NoP 1 m_is_whole) := by
 obtain ⟨f, fd, F, hm⟩ := d
 exact ⟨f, fd, ok_is_whole F B Kt, hm, F.kp, F.binds fun _ _ _ _ _ _ us hl => by
  obtain ⟨_, rfl⟩ := ln1 hl
  rfl⟩
theorem mk_greatest_divisor {P : Program} {w : World} {K : PySem.W.Frag} {mg : Str → Option Value} {base : Heap} (B : Bl K mg) (Kt : Kit K) (d : DfP K mg "greatest_divisor" s_greatest_divisor) :
  Cal P w K mg base 1 "greatest_divisor" ["one", "other"] (spM NoP 2 m_greatest_divisor) := by
 obtain ⟨f, fd, F, hm⟩ := d
 exact ⟨f, fd, ok_greatest_divisor F B Kt, hm, F.kp, F.binds fun _ _ _ _ _ _ us hl => by
  obtain ⟨_, _, rfl⟩ := ln2 hl
  rfl⟩
theorem mk_number_of {P : Program} {w : World} {K : PySem.W.Frag} {mg : Str → Option Value} {base : Heap} (B : Bl K mg) (Kt : Kit K) (d : DfP K mg "number_of" s_number_of) (C_greatest_divisor : Cal P w K mg base 1 "greatest_divisor" ["one", "other"] (spM NoP 2 m_greatest_divisor)) (C_is_whole : Cal P w K mg base 1 "is_whole" ["thing"] (spM NoP 1 m_is_whole)) :
  Cal P w K mg base 2 "number_of" ["top", "bottom"] (spM NoP 2 m_number_of) := by
 obtain ⟨f, fd, F, hm⟩ := d
 exact ⟨f, fd, ok_number_of F B Kt C_greatest_divisor C_is_whole, hm, F.kp, F.binds fun _ _ _ _ _ _ us hl => by
  obtain ⟨_, _, rfl⟩ := ln2 hl
  rfl⟩
theorem mk_sum_of {P : Program} {w : World} {K : PySem.W.Frag} {mg : Str → Option Value} {base : Heap} (B : Bl K mg) (Kt : Kit K) (d : DfP K mg "sum_of" s_sum_of) (C_number_of : Cal P w K mg base 2 "number_of" ["top", "bottom"] (spM NoP 2 m_number_of)) :
  Cal P w K mg base 3 "sum_of" ["a", "b"] (spM NoP 2 m_sum_of) := by
 obtain ⟨f, fd, F, hm⟩ := d
 exact ⟨f, fd, ok_sum_of F B Kt C_number_of, hm, F.kp, F.binds fun _ _ _ _ _ _ us hl => by
  obtain ⟨_, _, rfl⟩ := ln2 hl
  rfl⟩
theorem mk_difference_of {P : Program} {w : World} {K : PySem.W.Frag} {mg : Str → Option Value} {base : Heap} (B : Bl K mg) (Kt : Kit K) (d : DfP K mg "difference_of" s_difference_of) (C_number_of : Cal P w K mg base 2 "number_of" ["top", "bottom"] (spM NoP 2 m_number_of)) :
  Cal P w K mg base 3 "difference_of" ["a", "b"] (spM NoP 2 m_difference_of) := by
 obtain ⟨f, fd, F, hm⟩ := d
 exact ⟨f, fd, ok_difference_of F B Kt C_number_of, hm, F.kp, F.binds fun _ _ _ _ _ _ us hl => by
  obtain ⟨_, _, rfl⟩ := ln2 hl
  rfl⟩
theorem mk_product_of {P : Program} {w : World} {K : PySem.W.Frag} {mg : Str → Option Value} {base : Heap} (B : Bl K mg) (Kt : Kit K) (d : DfP K mg "product_of" s_product_of) (C_number_of : Cal P w K mg base 2 "number_of" ["top", "bottom"] (spM NoP 2 m_number_of)) :
  Cal P w K mg base 3 "product_of" ["a", "b"] (spM NoP 2 m_product_of) := by
 obtain ⟨f, fd, F, hm⟩ := d
 exact ⟨f, fd, ok_product_of F B Kt C_number_of, hm, F.kp, F.binds fun _ _ _ _ _ _ us hl => by
  obtain ⟨_, _, rfl⟩ := ln2 hl
  rfl⟩
theorem mk_quotient_of {P : Program} {w : World} {K : PySem.W.Frag} {mg : Str → Option Value} {base : Heap} (B : Bl K mg) (Kt : Kit K) (d : DfP K mg "quotient_of" s_quotient_of) (C_number_of : Cal P w K mg base 2 "number_of" ["top", "bottom"] (spM NoP 2 m_number_of)) :
  Cal P w K mg base 3 "quotient_of" ["a", "b"] (spM NoP 2 m_quotient_of) := by
 obtain ⟨f, fd, F, hm⟩ := d
 exact ⟨f, fd, ok_quotient_of F B Kt C_number_of, hm, F.kp, F.binds fun _ _ _ _ _ _ us hl => by
  obtain ⟨_, _, rfl⟩ := ln2 hl
  rfl⟩
theorem mk_is_less {P : Program} {w : World} {K : PySem.W.Frag} {mg : Str → Option Value} {base : Heap} (B : Bl K mg) (Kt : Kit K) (d : DfP K mg "is_less" s_is_less) :
  Cal P w K mg base 1 "is_less" ["a", "b"] (spM NoP 2 m_is_less) := by
 obtain ⟨f, fd, F, hm⟩ := d
 exact ⟨f, fd, ok_is_less F B Kt, hm, F.kp, F.binds fun _ _ _ _ _ _ us hl => by
  obtain ⟨_, _, rfl⟩ := ln2 hl
  rfl⟩
theorem mk_place_at {P : Program} {w : World} {K : PySem.W.Frag} {mg : Str → Option Value} {base : Heap} (B : Bl K mg) (Kt : Kit K) (d : DfP K mg "place_at" s_place_at) (C_sum_of : Cal P w K mg base 3 "sum_of" ["a", "b"] (spM NoP 2 m_sum_of)) (C_product_of : Cal P w K mg base 3 "product_of" ["a", "b"] (spM NoP 2 m_product_of)) :
  Cal P w K mg base 4 "place_at" ["line", "time"] (spM NoP 2 m_place_at) := by
 obtain ⟨f, fd, F, hm⟩ := d
 exact ⟨f, fd, ok_place_at F B Kt C_sum_of C_product_of, hm, F.kp, F.binds fun _ _ _ _ _ _ us hl => by
  obtain ⟨_, _, rfl⟩ := ln2 hl
  rfl⟩
theorem mk_meeting {P : Program} {w : World} {K : PySem.W.Frag} {mg : Str → Option Value} {base : Heap} (B : Bl K mg) (Kt : Kit K) (d : DfP K mg "meeting" s_meeting) (C_quotient_of : Cal P w K mg base 3 "quotient_of" ["a", "b"] (spM NoP 2 m_quotient_of)) (C_difference_of : Cal P w K mg base 3 "difference_of" ["a", "b"] (spM NoP 2 m_difference_of)) :
  Cal P w K mg base 4 "meeting" ["one", "other"] (spM NoP 2 m_meeting) := by
 obtain ⟨f, fd, F, hm⟩ := d
 exact ⟨f, fd, ok_meeting F B Kt C_quotient_of C_difference_of, hm, F.kp, F.binds fun _ _ _ _ _ _ us hl => by
  obtain ⟨_, _, rfl⟩ := ln2 hl
  rfl⟩
theorem mk_standing {P : Program} {w : World} {K : PySem.W.Frag} {mg : Str → Option Value} {base : Heap} (B : Bl K mg) (Kt : Kit K) (d : DfP K mg "standing" s_standing) (C_place_at : Cal P w K mg base 4 "place_at" ["line", "time"] (spM NoP 2 m_place_at)) :
  Cal P w K mg base 5 "standing" ["lines", "runner", "time"] (spM NoP 3 m_standing) := by
 obtain ⟨f, fd, F, hm⟩ := d
 exact ⟨f, fd, ok_standing F B Kt C_place_at, hm, F.kp, F.binds fun _ _ _ _ _ _ us hl => by
  obtain ⟨_, _, _, rfl⟩ := ln3 hl
  rfl⟩
theorem mk_stands_ahead {P : Program} {w : World} {K : PySem.W.Frag} {mg : Str → Option Value} {base : Heap} (B : Bl K mg) (Kt : Kit K) (d : DfP K mg "stands_ahead" s_stands_ahead) (C_is_less : Cal P w K mg base 1 "is_less" ["a", "b"] (spM NoP 2 m_is_less)) :
  Cal P w K mg base 2 "stands_ahead" ["one", "other"] (spM NoP 2 m_stands_ahead) := by
 obtain ⟨f, fd, F, hm⟩ := d
 exact ⟨f, fd, ok_stands_ahead F B Kt C_is_less, hm, F.kp, F.binds fun _ _ _ _ _ _ us hl => by
  obtain ⟨_, _, rfl⟩ := ln2 hl
  rfl⟩
theorem mk_is_ahead {P : Program} {w : World} {K : PySem.W.Frag} {mg : Str → Option Value} {base : Heap} (B : Bl K mg) (Kt : Kit K) (d : DfP K mg "is_ahead" s_is_ahead) (C_stands_ahead : Cal P w K mg base 2 "stands_ahead" ["one", "other"] (spM NoP 2 m_stands_ahead)) (C_standing : Cal P w K mg base 5 "standing" ["lines", "runner", "time"] (spM NoP 3 m_standing)) :
  Cal P w K mg base 6 "is_ahead" ["lines", "one", "other", "time"] (spM NoP 4 m_is_ahead) := by
 obtain ⟨f, fd, F, hm⟩ := d
 exact ⟨f, fd, ok_is_ahead F B Kt C_stands_ahead C_standing, hm, F.kp, F.binds fun _ _ _ _ _ _ us hl => by
  obtain ⟨_, _, _, _, rfl⟩ := ln4 hl
  rfl⟩
theorem mk_next_change {P : Program} {w : World} {K : PySem.W.Frag} {mg : Str → Option Value} {base : Heap} (B : Bl K mg) (Kt : Kit K) (d : DfP K mg "next_change" s_next_change) (C_is_less : Cal P w K mg base 1 "is_less" ["a", "b"] (spM NoP 2 m_is_less)) (C_meeting : Cal P w K mg base 4 "meeting" ["one", "other"] (spM NoP 2 m_meeting)) :
  Cal P w K mg base 5 "next_change" ["lines", "one", "other", "time"] (spM NoP 4 m_next_change) := by
 obtain ⟨f, fd, F, hm⟩ := d
 exact ⟨f, fd, ok_next_change F B Kt C_is_less C_meeting, hm, F.kp, F.binds fun _ _ _ _ _ _ us hl => by
  obtain ⟨_, _, _, _, rfl⟩ := ln4 hl
  rfl⟩
theorem mk_order_among {P : Program} {w : World} {K : PySem.W.Frag} {mg : Str → Option Value} {base : Heap} (B : Bl K mg) (Kt : Kit K) (d : DfP K mg "order_among" s_order_among) (C_stands_ahead : Cal P w K mg base 2 "stands_ahead" ["one", "other"] (spM NoP 2 m_stands_ahead)) (C_standing : Cal P w K mg base 5 "standing" ["lines", "runner", "time"] (spM NoP 3 m_standing)) :
  Cal P w K mg base 6 "order_among" ["lines", "runners", "time"] (spM NoP 3 m_order_among) := by
 obtain ⟨f, fd, F, hm⟩ := d
 exact ⟨f, fd, ok_order_among F B Kt C_stands_ahead C_standing, hm, F.kp, F.binds fun _ _ _ _ _ _ us hl => by
  obtain ⟨_, _, _, rfl⟩ := ln3 hl
  rfl⟩
theorem mk_order_at {P : Program} {w : World} {K : PySem.W.Frag} {mg : Str → Option Value} {base : Heap} (B : Bl K mg) (Kt : Kit K) (d : DfP K mg "order_at" s_order_at) (C_order_among : Cal P w K mg base 6 "order_among" ["lines", "runners", "time"] (spM NoP 3 m_order_among)) :
  Cal P w K mg base 7 "order_at" ["lines", "time"] (spM NoP 2 m_order_at) := by
 obtain ⟨f, fd, F, hm⟩ := d
 exact ⟨f, fd, ok_order_at F B Kt C_order_among, hm, F.kp, F.binds fun _ _ _ _ _ _ us hl => by
  obtain ⟨_, _, rfl⟩ := ln2 hl
  rfl⟩
theorem mk_neighbours {P : Program} {w : World} {K : PySem.W.Frag} {mg : Str → Option Value} {base : Heap} (B : Bl K mg) (Kt : Kit K) (d : DfP K mg "neighbours" s_neighbours) :
  Cal P w K mg base 1 "neighbours" ["order"] (spM NoP 1 m_neighbours) := by
 obtain ⟨f, fd, F, hm⟩ := d
 exact ⟨f, fd, ok_neighbours F B Kt, hm, F.kp, F.binds fun _ _ _ _ _ _ us hl => by
  obtain ⟨_, rfl⟩ := ln1 hl
  rfl⟩
theorem mk_till_of {P : Program} {w : World} {K : PySem.W.Frag} {mg : Str → Option Value} {base : Heap} (B : Bl K mg) (Kt : Kit K) (d : DfP K mg "till_of" s_till_of) (C_next_change : Cal P w K mg base 5 "next_change" ["lines", "one", "other", "time"] (spM NoP 4 m_next_change)) (C_is_ahead : Cal P w K mg base 6 "is_ahead" ["lines", "one", "other", "time"] (spM NoP 4 m_is_ahead)) :
  Cal P w K mg base 7 "till_of" ["lines", "one", "other", "time"] (spM NoP 4 m_till_of) := by
 obtain ⟨f, fd, F, hm⟩ := d
 exact ⟨f, fd, ok_till_of F B Kt C_next_change C_is_ahead, hm, F.kp, F.binds fun _ _ _ _ _ _ us hl => by
  obtain ⟨_, _, _, _, rfl⟩ := ln4 hl
  rfl⟩
theorem mk_papers_among {P : Program} {w : World} {K : PySem.W.Frag} {mg : Str → Option Value} {base : Heap} (B : Bl K mg) (Kt : Kit K) (d : DfP K mg "papers_among" s_papers_among) (C_neighbours : Cal P w K mg base 1 "neighbours" ["order"] (spM NoP 1 m_neighbours)) (C_till_of : Cal P w K mg base 7 "till_of" ["lines", "one", "other", "time"] (spM NoP 4 m_till_of)) :
  Cal P w K mg base 8 "papers_among" ["lines", "order", "time"] (spM NoP 3 m_papers_among) := by
 obtain ⟨f, fd, F, hm⟩ := d
 exact ⟨f, fd, ok_papers_among F B Kt C_neighbours C_till_of, hm, F.kp, F.binds fun _ _ _ _ _ _ us hl => by
  obtain ⟨_, _, _, rfl⟩ := ln3 hl
  rfl⟩
theorem mk_law_pen {P : Program} {w : World} {K : PySem.W.Frag} {mg : Str → Option Value} {base : Heap} (B : Bl K mg) (Kt : Kit K) (d : DfP K mg "_law_pen" s_law_pen) :
  Cal P w K mg base 1 "_law_pen" ["_law_script", "_law_k"] (spPenC K) := by
 obtain ⟨f, fd, F, hm⟩ := d
 exact ⟨f, fd, ok_law_pen F B, hm, F.kp, F.binds fun _ _ _ _ _ _ us hl => by
  obtain ⟨_, _, rfl⟩ := ln2 hl
  rfl⟩
theorem mk_law_take {P : Program} {w : World} {K : PySem.W.Frag} {mg : Str → Option Value} {base : Heap} (B : Bl K mg) (Kt : Kit K) (d : DfP K mg "_law_take" s_law_take) :
  Cal P w K mg base 1 "_law_take" ["_law_pen_here", "_law_many"] (spL NoP penF 2 mTakeL) := by
 obtain ⟨f, fd, F, hm⟩ := d
 exact ⟨f, fd, ok2_law_take F B, hm, F.kp, F.binds fun _ _ _ _ _ _ us hl => by
  obtain ⟨_, _, rfl⟩ := ln2 hl
  rfl⟩
theorem mk_law_lowest {P : Program} {w : World} {K : PySem.W.Frag} {mg : Str → Option Value} {base : Heap} (B : Bl K mg) (Kt : Kit K) (d : DfP K mg "_law_lowest" s_law_lowest) :
  Cal P w K mg base 1 "_law_lowest" ["_law_top", "_law_bottom"] (spM NoP 2 m_law_lowest) := by
 obtain ⟨f, fd, F, hm⟩ := d
 exact ⟨f, fd, ok_law_lowest F B Kt, hm, F.kp, F.binds fun _ _ _ _ _ _ us hl => by
  obtain ⟨_, _, rfl⟩ := ln2 hl
  rfl⟩
theorem mk_law_plus {P : Program} {w : World} {K : PySem.W.Frag} {mg : Str → Option Value} {base : Heap} (B : Bl K mg) (Kt : Kit K) (d : DfP K mg "_law_plus" s_law_plus) (C_law_lowest : Cal P w K mg base 1 "_law_lowest" ["_law_top", "_law_bottom"] (spM NoP 2 m_law_lowest)) :
  Cal P w K mg base 2 "_law_plus" ["_law_a", "_law_b", "_law_sign"] (spM NoP 3 m_law_plus) := by
 obtain ⟨f, fd, F, hm⟩ := d
 exact ⟨f, fd, ok_law_plus F B Kt C_law_lowest, hm, F.kp, F.binds fun _ _ _ _ _ _ us hl => by
  obtain ⟨_, _, _, rfl⟩ := ln3 hl
  rfl⟩
theorem mk_law_times {P : Program} {w : World} {K : PySem.W.Frag} {mg : Str → Option Value} {base : Heap} (B : Bl K mg) (Kt : Kit K) (d : DfP K mg "_law_times" s_law_times) (C_law_lowest : Cal P w K mg base 1 "_law_lowest" ["_law_top", "_law_bottom"] (spM NoP 2 m_law_lowest)) :
  Cal P w K mg base 2 "_law_times" ["_law_a", "_law_b"] (spM NoP 2 m_law_times) := by
 obtain ⟨f, fd, F, hm⟩ := d
 exact ⟨f, fd, ok_law_times F B Kt C_law_lowest, hm, F.kp, F.binds fun _ _ _ _ _ _ us hl => by
  obtain ⟨_, _, rfl⟩ := ln2 hl
  rfl⟩
theorem mk_law_less {P : Program} {w : World} {K : PySem.W.Frag} {mg : Str → Option Value} {base : Heap} (B : Bl K mg) (Kt : Kit K) (d : DfP K mg "_law_less" s_law_less) :
  Cal P w K mg base 1 "_law_less" ["_law_a", "_law_b"] (spM NoP 2 m_law_less) := by
 obtain ⟨f, fd, F, hm⟩ := d
 exact ⟨f, fd, ok_law_less F B Kt, hm, F.kp, F.binds fun _ _ _ _ _ _ us hl => by
  obtain ⟨_, _, rfl⟩ := ln2 hl
  rfl⟩
theorem mk_law_far {P : Program} {w : World} {K : PySem.W.Frag} {mg : Str → Option Value} {base : Heap} (B : Bl K mg) (Kt : Kit K) (d : DfP K mg "_law_far" s_law_far) (C_law_take : Cal P w K mg base 1 "_law_take" ["_law_pen_here", "_law_many"] (spL NoP penF 2 mTakeL)) :
  Cal P w K mg base 2 "_law_far" ["_law_pen_here", "_law_parts"] (spL NoP penF 2 m_law_far) := by
 obtain ⟨f, fd, F, hm⟩ := d
 exact ⟨f, fd, ok_law_far F B Kt C_law_take, hm, F.kp, F.binds fun _ _ _ _ _ _ us hl => by
  obtain ⟨_, _, rfl⟩ := ln2 hl
  rfl⟩
theorem mk_law_number {P : Program} {w : World} {K : PySem.W.Frag} {mg : Str → Option Value} {base : Heap} (B : Bl K mg) (Kt : Kit K) (d : DfP K mg "_law_number" s_law_number) (C_law_lowest : Cal P w K mg base 1 "_law_lowest" ["_law_top", "_law_bottom"] (spM NoP 2 m_law_lowest)) (C_law_take : Cal P w K mg base 1 "_law_take" ["_law_pen_here", "_law_many"] (spL NoP penF 2 mTakeL)) (C_law_far : Cal P w K mg base 2 "_law_far" ["_law_pen_here", "_law_parts"] (spL NoP penF 2 m_law_far)) :
  Cal P w K mg base 3 "_law_number" ["_law_pen_here", "_law_kind"] (spL NoP penF 2 m_law_number) := by
 obtain ⟨f, fd, F, hm⟩ := d
 exact ⟨f, fd, ok_law_number F B Kt C_law_lowest C_law_take C_law_far, hm, F.kp, F.binds fun _ _ _ _ _ _ us hl => by
  obtain ⟨_, _, rfl⟩ := ln2 hl
  rfl⟩
theorem mk_law_lines {P : Program} {w : World} {K : PySem.W.Frag} {mg : Str → Option Value} {base : Heap} (B : Bl K mg) (Kt : Kit K) (d : DfP K mg "_law_lines" s_law_lines) (C_law_plus : Cal P w K mg base 2 "_law_plus" ["_law_a", "_law_b", "_law_sign"] (spM NoP 3 m_law_plus)) (C_law_times : Cal P w K mg base 2 "_law_times" ["_law_a", "_law_b"] (spM NoP 2 m_law_times)) (C_law_take : Cal P w K mg base 1 "_law_take" ["_law_pen_here", "_law_many"] (spL NoP penF 2 mTakeL)) (C_law_number : Cal P w K mg base 3 "_law_number" ["_law_pen_here", "_law_kind"] (spL NoP penF 2 m_law_number)) :
  Cal P w K mg base 4 "_law_lines" ["_law_pen_here"] (spL NoP penF 1 m_law_lines) := by
 obtain ⟨f, fd, F, hm⟩ := d
 exact ⟨f, fd, ok_law_lines F B Kt C_law_plus C_law_times C_law_take C_law_number, hm, F.kp, F.binds fun _ _ _ _ _ _ us hl => by
  obtain ⟨_, rfl⟩ := ln1 hl
  rfl⟩
theorem mk_law_when {P : Program} {w : World} {K : PySem.W.Frag} {mg : Str → Option Value} {base : Heap} (B : Bl K mg) (Kt : Kit K) (d : DfP K mg "_law_when" s_law_when) (C_law_number : Cal P w K mg base 3 "_law_number" ["_law_pen_here", "_law_kind"] (spL NoP penF 2 m_law_number)) (C_meeting : Cal P w K mg base 4 "meeting" ["one", "other"] (spM NoP 2 m_meeting)) (C_law_take : Cal P w K mg base 1 "_law_take" ["_law_pen_here", "_law_many"] (spL NoP penF 2 mTakeL)) :
  Cal P w K mg base 5 "_law_when" ["_law_pen_here", "_law_lines_here"] (spL NoP penF 2 m_law_when) := by
 obtain ⟨f, fd, F, hm⟩ := d
 exact ⟨f, fd, ok_law_when F B Kt C_law_number C_meeting C_law_take, hm, F.kp, F.binds fun _ _ _ _ _ _ us hl => by
  obtain ⟨_, _, rfl⟩ := ln2 hl
  rfl⟩
theorem mk_law_ahead {P : Program} {w : World} {K : PySem.W.Frag} {mg : Str → Option Value} {base : Heap} (B : Bl K mg) (Kt : Kit K) (d : DfP K mg "_law_ahead" s_law_ahead) (C_law_less : Cal P w K mg base 1 "_law_less" ["_law_a", "_law_b"] (spM NoP 2 m_law_less)) (C_law_plus : Cal P w K mg base 2 "_law_plus" ["_law_a", "_law_b", "_law_sign"] (spM NoP 3 m_law_plus)) (C_law_times : Cal P w K mg base 2 "_law_times" ["_law_a", "_law_b"] (spM NoP 2 m_law_times)) :
  Cal P w K mg base 3 "_law_ahead" ["_law_lines_here", "_law_one", "_law_other", "_law_time"] (spM NoP 4 m_law_ahead) := by
 obtain ⟨f, fd, F, hm⟩ := d
 exact ⟨f, fd, ok_law_ahead F B Kt C_law_less C_law_plus C_law_times, hm, F.kp, F.binds fun _ _ _ _ _ _ us hl => by
  obtain ⟨_, _, _, _, rfl⟩ := ln4 hl
  rfl⟩
theorem mk_law_till {P : Program} {w : World} {K : PySem.W.Frag} {mg : Str → Option Value} {base : Heap} (B : Bl K mg) (Kt : Kit K) (d : DfP K mg "_law_till" s_law_till) (C_law_less : Cal P w K mg base 1 "_law_less" ["_law_a", "_law_b"] (spM NoP 2 m_law_less)) (C_law_lowest : Cal P w K mg base 1 "_law_lowest" ["_law_top", "_law_bottom"] (spM NoP 2 m_law_lowest)) (C_law_plus : Cal P w K mg base 2 "_law_plus" ["_law_a", "_law_b", "_law_sign"] (spM NoP 3 m_law_plus)) :
  Cal P w K mg base 3 "_law_till" ["_law_lines_here", "_law_one", "_law_other", "_law_time"] (spM NoP 4 m_law_till) := by
 obtain ⟨f, fd, F, hm⟩ := d
 exact ⟨f, fd, ok_law_till F B Kt C_law_less C_law_lowest C_law_plus, hm, F.kp, F.binds fun _ _ _ _ _ _ us hl => by
  obtain ⟨_, _, _, _, rfl⟩ := ln4 hl
  rfl⟩
theorem mk_law_is_time {P : Program} {w : World} {K : PySem.W.Frag} {mg : Str → Option Value} {base : Heap} (B : Bl K mg) (Kt : Kit K) (d : DfP K mg "_law_is_time" s_law_is_time) :
  Cal P w K mg base 1 "_law_is_time" ["_law_thing"] (spM NoP 1 m_law_is_time) := by
 obtain ⟨f, fd, F, hm⟩ := d
 exact ⟨f, fd, ok_law_is_time F B Kt, hm, F.kp, F.binds fun _ _ _ _ _ _ us hl => by
  obtain ⟨_, rfl⟩ := ln1 hl
  rfl⟩
theorem all_mk {l : PySem.W.OpenLaw} {w : World} {K : PySem.W.Frag} {mg : Str → Option Value} {fa : Addr} (hfa : mg "law" = some (.ref fa)) (B : Bl K mg) (Kt : Kit K)
  (d0 : DfP K mg "is_whole" s_is_whole)
  (d1 : DfP K mg "greatest_divisor" s_greatest_divisor)
  (d2 : DfP K mg "number_of" s_number_of)
  (d3 : DfP K mg "sum_of" s_sum_of)
  (d4 : DfP K mg "difference_of" s_difference_of)
  (d5 : DfP K mg "product_of" s_product_of)
  (d6 : DfP K mg "quotient_of" s_quotient_of)
  (d7 : DfP K mg "is_less" s_is_less)
  (d8 : DfP K mg "place_at" s_place_at)
  (d9 : DfP K mg "meeting" s_meeting)
  (d10 : DfP K mg "standing" s_standing)
  (d11 : DfP K mg "stands_ahead" s_stands_ahead)
  (d12 : DfP K mg "is_ahead" s_is_ahead)
  (d13 : DfP K mg "next_change" s_next_change)
  (d14 : DfP K mg "order_among" s_order_among)
  (d15 : DfP K mg "order_at" s_order_at)
  (d16 : DfP K mg "neighbours" s_neighbours)
  (d17 : DfP K mg "till_of" s_till_of)
  (d18 : DfP K mg "papers_among" s_papers_among)
  (d19 : DfP K mg "_law_pen" s_law_pen)
  (d20 : DfP K mg "_law_take" s_law_take)
  (d21 : DfP K mg "_law_lowest" s_law_lowest)
  (d22 : DfP K mg "_law_plus" s_law_plus)
  (d23 : DfP K mg "_law_times" s_law_times)
  (d24 : DfP K mg "_law_less" s_law_less)
  (d25 : DfP K mg "_law_far" s_law_far)
  (d26 : DfP K mg "_law_number" s_law_number)
  (d27 : DfP K mg "_law_lines" s_law_lines)
  (d28 : DfP K mg "_law_when" s_law_when)
  (d29 : DfP K mg "_law_ahead" s_law_ahead)
  (d30 : DfP K mg "_law_till" s_law_till)
  (d31 : DfP K mg "_law_is_time" s_law_is_time)
  (d32 : DfP K mg "_law_right" s_law_right)
  (d33 : DfP K mg "law" s_law)
  {c : Addr} (hmW : mg "Walk" = some (.ref c)) (cl : Cls K c) (n_lines : NoAttr K c "lines") (n_now : NoAttr K c "now") (n_listed : NoAttr K c "listed") (mI : InP K c "Walk.__init__" s_w_init) (me_time : MeP K c "time" "Walk.time" s_w_time) (me_order : MeP K c "order" "Walk.order" s_w_order) (me_papers : MeP K c "papers" "Walk.papers" s_w_papers)
  (hL : ∀ c pen, (b_law_c c) (.no :: .box (penF.box pen 1) :: List.replicate 9 .no) TrueEnd) :
  ∃ fd : FuncData, (∀ (s : Shared) (v : Value), BindsTo s fd ⟨[v], []⟩ [("_law_script", v)]) ∧ ∀ base : Heap, K.In base → base.Ns mainGlobals mg → FnOk l.prog w K mg base CX0 11 fa fd ["_law_script"] (spLaw K) := by
 obtain ⟨f, fd, F, hm⟩ := d33
 cases hfa.symm.trans hm
 refine ⟨fd, ?_, fun base _ _ => ?_⟩
 ·obtain ⟨oc, od, kV, doc, pm, an, cdv, ct, osl, rfl, lk, hcd⟩ := F.ex
  exact fun s v => .of_eq rfl
 obtain ⟨fi, fdi, FI, M⟩ := mI
 obtain ⟨f_time, fd_time, F_time, M_time⟩ := me_time
 obtain ⟨f_order, fd_order, F_order, M_order⟩ := me_order
 obtain ⟨f_papers, fd_papers, F_papers, M_papers⟩ := me_papers
 have C_is_whole := mk_is_whole (P := l.prog) (w := w) (base := base) B Kt d0
 have C_greatest_divisor := mk_greatest_divisor (P := l.prog) (w := w) (base := base) B Kt d1
 have C_number_of := mk_number_of (P := l.prog) (w := w) (base := base) B Kt d2 C_greatest_divisor C_is_whole
 have C_sum_of := mk_sum_of (P := l.prog) (w := w) (base := base) B Kt d3 C_number_of
 have C_difference_of := mk_difference_of (P := l.prog) (w := w) (base := base) B Kt d4 C_number_of
 have C_product_of := mk_product_of (P := l.prog) (w := w) (base := base) B Kt d5 C_number_of
 have C_quotient_of := mk_quotient_of (P := l.prog) (w := w) (base := base) B Kt d6 C_number_of
 have C_is_less := mk_is_less (P := l.prog) (w := w) (base := base) B Kt d7
 have C_place_at := mk_place_at (P := l.prog) (w := w) (base := base) B Kt d8 C_sum_of C_product_of
 have C_meeting := mk_meeting (P := l.prog) (w := w) (base := base) B Kt d9 C_quotient_of C_difference_of
 have C_standing := mk_standing (P := l.prog) (w := w) (base := base) B Kt d10 C_place_at
 have C_stands_ahead := mk_stands_ahead (P := l.prog) (w := w) (base := base) B Kt d11 C_is_less
 have C_is_ahead := mk_is_ahead (P := l.prog) (w := w) (base := base) B Kt d12 C_stands_ahead C_standing
 have C_next_change := mk_next_change (P := l.prog) (w := w) (base := base) B Kt d13 C_is_less C_meeting
 have C_order_among := mk_order_among (P := l.prog) (w := w) (base := base) B Kt d14 C_stands_ahead C_standing
 have C_order_at := mk_order_at (P := l.prog) (w := w) (base := base) B Kt d15 C_order_among
 have C_neighbours := mk_neighbours (P := l.prog) (w := w) (base := base) B Kt d16
 have C_till_of := mk_till_of (P := l.prog) (w := w) (base := base) B Kt d17 C_next_change C_is_ahead
 have C_papers_among := mk_papers_among (P := l.prog) (w := w) (base := base) B Kt d18 C_neighbours C_till_of
 have C_law_pen := mk_law_pen (P := l.prog) (w := w) (base := base) B Kt d19
 have C_law_take := mk_law_take (P := l.prog) (w := w) (base := base) B Kt d20
 have C_law_lowest := mk_law_lowest (P := l.prog) (w := w) (base := base) B Kt d21
 have C_law_plus := mk_law_plus (P := l.prog) (w := w) (base := base) B Kt d22 C_law_lowest
 have C_law_times := mk_law_times (P := l.prog) (w := w) (base := base) B Kt d23 C_law_lowest
 have C_law_less := mk_law_less (P := l.prog) (w := w) (base := base) B Kt d24
 have C_law_far := mk_law_far (P := l.prog) (w := w) (base := base) B Kt d25 C_law_take
 have C_law_number := mk_law_number (P := l.prog) (w := w) (base := base) B Kt d26 C_law_lowest C_law_take C_law_far
 have C_law_lines := mk_law_lines (P := l.prog) (w := w) (base := base) B Kt d27 C_law_plus C_law_times C_law_take C_law_number
 have C_law_when := mk_law_when (P := l.prog) (w := w) (base := base) B Kt d28 C_law_number C_meeting C_law_take
 have C_law_ahead := mk_law_ahead (P := l.prog) (w := w) (base := base) B Kt d29 C_law_less C_law_plus C_law_times
 have C_law_till := mk_law_till (P := l.prog) (w := w) (base := base) B Kt d30 C_law_less C_law_lowest C_law_plus
 have C_law_is_time := mk_law_is_time (P := l.prog) (w := w) (base := base) B Kt d31
 have O_time := ok_w_time (P0 := NoP) (P := l.prog) (w := w) (mg := mg) (base := base) cl n_lines n_now n_listed F_time B Kt
 have B_time : Binds K fd_time ["self"] [] := (F_time.binds (ps := ["self"]) fun _ _ _ _ _ _ us hl => by
  obtain ⟨_, rfl⟩ := ln1 hl
  rfl)
 have O_order := ok_w_order (P0 := NoP) (P := l.prog) (w := w) (mg := mg) (base := base) cl n_lines n_now n_listed F_order B Kt
 have B_order : Binds K fd_order ["self"] [] := (F_order.binds (ps := ["self"]) fun _ _ _ _ _ _ us hl => by
  obtain ⟨_, rfl⟩ := ln1 hl
  rfl)
 have O_papers := ok_w_papers (P0 := NoP) (P := l.prog) (w := w) (mg := mg) (base := base) cl n_lines n_now n_listed F_papers B Kt C_papers_among
 have B_papers : Binds K fd_papers ["self"] [] := (F_papers.binds (ps := ["self"]) fun _ _ _ _ _ _ us hl => by
  obtain ⟨_, rfl⟩ := ln1 hl
  rfl)
 obtain ⟨f2_law_right, fd2_law_right, F2_law_right, hm2_law_right⟩ := d32
 have C_law_right : Cal l.prog w K mg base 10 "_law_right" ["_law_walk", "_law_lines_here", "_law_time"] (spM NoP 3 (m_law_right c)) := ⟨f2_law_right, fd2_law_right, ok_law_right cl M_time O_time B_time M_order O_order B_order M_papers O_papers B_papers F2_law_right B Kt C_law_is_time C_law_till C_law_ahead, hm2_law_right, F2_law_right.kp, (F2_law_right.binds (ps := ["_law_walk", "_law_lines_here", "_law_time"]) fun _ _ _ _ _ _ us hl => by
  obtain ⟨_, _, _, rfl⟩ := ln3 hl
  rfl)⟩
 exact ok_law F B Kt hmW M (okh_w_init (P0 := NoP) cl n_lines n_now n_listed FI B C_order_at) (FI.binds (ps := ["self", "lines", "time"]) fun _ _ _ _ _ _ us hl => by
  obtain ⟨_, _, _, rfl⟩ := ln3 hl
  rfl) cl M_order O_order B_order M_papers O_papers B_papers C_law_pen C_law_right C_law_when C_law_lines (hL _)
theorem walk {l : PySem.W.OpenLaw} {q : Program} {loose : List Str} {XP : (Str → Option Value) → Heap → Prop} {YP : World → Heap → Prop} {d : DefRec} {K : Params → PySem.W.Frag} (hn : l.most = some 63) (hdf : d.params.defaults = [])
  (hY : ∀ (w : World) (h : Heap), YP w h → (K w.params).In h)
  (F : ∀ (w : World) (mg : Str → Option Value) (fa : Addr) (h : Heap), (K w.params).In h → h.Ns mainGlobals mg → mg d.name = some (.ref fa) →
   ∃ fd : FuncData, (∀ (s : Shared) (u : Value), BindsTo s fd ⟨[u], []⟩ [("_law_script", u)]) ∧ ∀ base : Heap, (K w.params).In base → base.Ns mainGlobals mg → FnOk l.prog w (K w.params) mg base CX0 11 fa fd ["_law_script"] (spLaw (K w.params))) :
  PySem.W.WalkO q loose XP YP l.row.toRowW d [] (fun f vs => PySem.call f vs) :=
 L2.walk_of (n := 63) (k := 11) (x := "_law_script") (CX := fun _ => CX0) (sp := fun w => spLaw (K w.params)) hn (by decide) hdf ⟨rfl, by decide, by decide⟩ hY F (fun _ _ a ns hl _ hS => ⟨a, ns, rfl, hS, hl, fun _ => rfl⟩) fun _ _ _ _ _ z => z
end My
noncomputable def PySem.W.Fast.tw13226758795456946028 : Unit := ()
noncomputable def PySem.W.Fast.tw13934211404340219943 : Unit := ()
noncomputable def PySem.W.Fast.tw15601393968631226303 : Unit := ()
noncomputable def PySem.W.Fast.tw16018002789085738383 : Unit := ()
noncomputable def PySem.W.Fast.tw16024182242400735346 : Unit := ()
noncomputable def PySem.W.Fast.tw4251250638091619195 : Unit := ()
noncomputable def PySem.W.Fast.tw8188925178451982650 : Unit := ()
noncomputable def PySem.W.Fast.tw8254035688713483286 : Unit := ()
open PySem PySem.W PyProof.Rows
set_option maxRecDepth 100000 in
set_option maxHeartbeats 0 in
theorem PySem.Challenge.cw_leadtimes_k25_walks_made_holds : PySem.Challenge.rw_leadtimes_k25_walks_made.Holds := by
 w_on; o_law; k_head; (case hw => w_witness2)
 k_fill
 refine My.walk (l := PySem.Challenge.rw_leadtimes_k25_walks_made) rfl rfl (fun w h Y => PySem.W.kIn_of Y) ?F
 case F =>
  intro w mg fa h KX G hmg
  refine' My.all_mk hmg (My.bl_mk KX G ?z_len ?z_abs ?z_range ?z_isinstance ?z_int ?z_bool ?z_tuple ?z_max ?z_min ?z_list ?z_all ?z_any ?z_sorted ?z_zip ?z_set ?z_sum ?z_str ?z_enumerate ?kt_int_bool ?kt_bool_int) (My.kit_mk ?kt_NoneType_bool ?kt_NoneType_int ?kt_NoneType_str ?kt_NoneType_list ?kt_NoneType_tuple ?kt_NoneType_dict ?kt_bool_NoneType ?kt_bool_int ?kt_bool_str ?kt_bool_list ?kt_bool_tuple ?kt_bool_dict ?kt_int_NoneType ?kt_int_bool ?kt_int_str ?kt_int_list ?kt_int_tuple ?kt_int_dict ?kt_str_NoneType ?kt_str_bool ?kt_str_int ?kt_str_list ?kt_str_tuple ?kt_str_dict ?kt_list_NoneType ?kt_list_bool ?kt_list_int ?kt_list_str ?kt_list_tuple ?kt_list_dict ?kt_tuple_NoneType ?kt_tuple_bool ?kt_tuple_int ?kt_tuple_str ?kt_tuple_list ?kt_tuple_dict ?kt_dict_NoneType ?kt_dict_bool ?kt_dict_int ?kt_dict_str ?kt_dict_list ?kt_dict_tuple) (My.df_mk KX G ?a0 ?l0 ?c0 ?k0) (My.df_mk KX G ?a1 ?l1 ?c1 ?k1) (My.df_mk KX G ?a2 ?l2 ?c2 ?k2) (My.df_mk KX G ?a3 ?l3 ?c3 ?k3) (My.df_mk KX G ?a4 ?l4 ?c4 ?k4) (My.df_mk KX G ?a5 ?l5 ?c5 ?k5) (My.df_mk KX G ?a6 ?l6 ?c6 ?k6) (My.df_mk KX G ?a7 ?l7 ?c7 ?k7) (My.df_mk KX G ?a8 ?l8 ?c8 ?k8) (My.df_mk KX G ?a9 ?l9 ?c9 ?k9) (My.df_mk KX G ?a10 ?l10 ?c10 ?k10) (My.df_mk KX G ?a11 ?l11 ?c11 ?k11) (My.df_mk KX G ?a12 ?l12 ?c12 ?k12) (My.df_mk KX G ?a13 ?l13 ?c13 ?k13) (My.df_mk KX G ?a14 ?l14 ?c14 ?k14) (My.df_mk KX G ?a15 ?l15 ?c15 ?k15) (My.df_mk KX G ?a16 ?l16 ?c16 ?k16) (My.df_mk KX G ?a17 ?l17 ?c17 ?k17) (My.df_mk KX G ?a18 ?l18 ?c18 ?k18) (My.df_mk KX G ?a19 ?l19 ?c19 ?k19) (My.df_mk KX G ?a20 ?l20 ?c20 ?k20) (My.df_mk KX G ?a21 ?l21 ?c21 ?k21) (My.df_mk KX G ?a22 ?l22 ?c22 ?k22) (My.df_mk KX G ?a23 ?l23 ?c23 ?k23) (My.df_mk KX G ?a24 ?l24 ?c24 ?k24) (My.df_mk KX G ?a25 ?l25 ?c25 ?k25) (My.df_mk KX G ?a26 ?l26 ?c26 ?k26) (My.df_mk KX G ?a27 ?l27 ?c27 ?k27) (My.df_mk KX G ?a28 ?l28 ?c28 ?k28) (My.df_mk KX G ?a29 ?l29 ?c29 ?k29) (My.df_mk KX G ?a30 ?l30 ?c30 ?k30) (My.df_mk KX G ?a31 ?l31 ?c31 ?k31) (My.df_mk KX G ?a32 ?l32 ?c32 ?k32) (My.df_mk KX G ?a33 ?l33 ?c33 ?k33) (PySem.W.mg_of KX G ?wa) ⟨?wpg, ?whd, ?wpo, ?wsa⟩ (My.na_mk ?wn1) (My.na_mk ?wn2) (My.na_mk ?wn3) (My.in_mk ?i_y ?i_a ?i_n ?i_z ?i_l ?i_c ?i_k) (My.me_mk ?time_a ?time_n ?time_l ?time_c ?time_k) (My.me_mk ?order_a ?order_n ?order_l ?order_c ?order_k) (My.me_mk ?papers_a ?papers_n ?papers_l ?papers_c ?papers_k) My.law_true
  (case wa => k_is)
  (case wpg => k_is)
  (case whd => k_is)
  (case wpo => k_is)
  (case wsa => k_is)
  (case wn1 => k_is)
  (case wn2 => k_is)
  (case wn3 => k_is)
  (case i_y => k_is)
  (case i_a => k_is)
  (case i_n => k_is)
  (case i_z => k_is)
  (case i_l => k_is)
  (case i_c => k_is)
  (case i_k => k_is)
  (case time_a => k_is)
  (case time_n => k_is)
  (case time_l => k_is)
  (case time_c => k_is)
  (case time_k => k_is)
  (case order_a => k_is)
  (case order_n => k_is)
  (case order_l => k_is)
  (case order_c => k_is)
  (case order_k => k_is)
  (case papers_a => k_is)
  (case papers_n => k_is)
  (case papers_l => k_is)
  (case papers_c => k_is)
  (case papers_k => k_is)
  (case a0 => k_is)
  (case l0 => k_is)
  (case c0 => k_is)
  (case k0 => k_is)
  (case a1 => k_is)
  (case l1 => k_is)
  (case c1 => k_is)
  (case k1 => k_is)
  (case a2 => k_is)
  (case l2 => k_is)
  (case c2 => k_is)
  (case k2 => k_is)
  (case a3 => k_is)
  (case l3 => k_is)
  (case c3 => k_is)
  (case k3 => k_is)
  (case a4 => k_is)
  (case l4 => k_is)
  (case c4 => k_is)
  (case k4 => k_is)
  (case a5 => k_is)
  (case l5 => k_is)
  (case c5 => k_is)
  (case k5 => k_is)
  (case a6 => k_is)
  (case l6 => k_is)
  (case c6 => k_is)
  (case k6 => k_is)
  (case a7 => k_is)
  (case l7 => k_is)
  (case c7 => k_is)
  (case k7 => k_is)
  (case a8 => k_is)
  (case l8 => k_is)
  (case c8 => k_is)
  (case k8 => k_is)
  (case a9 => k_is)
  (case l9 => k_is)
  (case c9 => k_is)
  (case k9 => k_is)
  (case a10 => k_is)
  (case l10 => k_is)
  (case c10 => k_is)
  (case k10 => k_is)
  (case a11 => k_is)
  (case l11 => k_is)
  (case c11 => k_is)
  (case k11 => k_is)
  (case a12 => k_is)
  (case l12 => k_is)
  (case c12 => k_is)
  (case k12 => k_is)
  (case a13 => k_is)
  (case l13 => k_is)
  (case c13 => k_is)
  (case k13 => k_is)
  (case a14 => k_is)
  (case l14 => k_is)
  (case c14 => k_is)
  (case k14 => k_is)
  (case a15 => k_is)
  (case l15 => k_is)
  (case c15 => k_is)
  (case k15 => k_is)
  (case a16 => k_is)
  (case l16 => k_is)
  (case c16 => k_is)
  (case k16 => k_is)
  (case a17 => k_is)
  (case l17 => k_is)
  (case c17 => k_is)
  (case k17 => k_is)
  (case a18 => k_is)
  (case l18 => k_is)
  (case c18 => k_is)
  (case k18 => k_is)
  (case a19 => k_is)
  (case l19 => k_is)
  (case c19 => k_is)
  (case k19 => k_is)
  (case a20 => k_is)
  (case l20 => k_is)
  (case c20 => k_is)
  (case k20 => k_is)
  (case a21 => k_is)
  (case l21 => k_is)
  (case c21 => k_is)
  (case k21 => k_is)
  (case a22 => k_is)
  (case l22 => k_is)
  (case c22 => k_is)
  (case k22 => k_is)
  (case a23 => k_is)
  (case l23 => k_is)
  (case c23 => k_is)
  (case k23 => k_is)
  (case a24 => k_is)
  (case l24 => k_is)
  (case c24 => k_is)
  (case k24 => k_is)
  (case a25 => k_is)
  (case l25 => k_is)
  (case c25 => k_is)
  (case k25 => k_is)
  (case a26 => k_is)
  (case l26 => k_is)
  (case c26 => k_is)
  (case k26 => k_is)
  (case a27 => k_is)
  (case l27 => k_is)
  (case c27 => k_is)
  (case k27 => k_is)
  (case a28 => k_is)
  (case l28 => k_is)
  (case c28 => k_is)
  (case k28 => k_is)
  (case a29 => k_is)
  (case l29 => k_is)
  (case c29 => k_is)
  (case k29 => k_is)
  (case a30 => k_is)
  (case l30 => k_is)
  (case c30 => k_is)
  (case k30 => k_is)
  (case a31 => k_is)
  (case l31 => k_is)
  (case c31 => k_is)
  (case k31 => k_is)
  (case a32 => k_is)
  (case l32 => k_is)
  (case c32 => k_is)
  (case k32 => k_is)
  (case a33 => k_is)
  (case l33 => k_is)
  (case c33 => k_is)
  (case k33 => k_is)
  (case z_len => k_is)
  (case z_abs => k_is)
  (case z_range => k_is)
  (case z_isinstance => k_is)
  (case z_int => k_is)
  (case z_bool => k_is)
  (case z_tuple => k_is)
  (case z_max => k_is)
  (case z_min => k_is)
  (case z_list => k_is)
  (case z_all => k_is)
  (case z_any => k_is)
  (case z_sorted => k_is)
  (case z_zip => k_is)
  (case z_set => k_is)
  (case z_sum => k_is)
  (case z_str => k_is)
  (case z_enumerate => k_is)
  (case kt_NoneType_bool => kit_is)
  (case kt_NoneType_int => kit_is)
  (case kt_NoneType_str => kit_is)
  (case kt_NoneType_list => kit_is)
  (case kt_NoneType_tuple => kit_is)
  (case kt_NoneType_dict => kit_is)
  (case kt_bool_NoneType => kit_is)
  (case kt_bool_int => kit_is)
  (case kt_bool_str => kit_is)
  (case kt_bool_list => kit_is)
  (case kt_bool_tuple => kit_is)
  (case kt_bool_dict => kit_is)
  (case kt_int_NoneType => kit_is)
  (case kt_int_bool => kit_is)
  (case kt_int_str => kit_is)
  (case kt_int_list => kit_is)
  (case kt_int_tuple => kit_is)
  (case kt_int_dict => kit_is)
  (case kt_str_NoneType => kit_is)
  (case kt_str_bool => kit_is)
  (case kt_str_int => kit_is)
  (case kt_str_list => kit_is)
  (case kt_str_tuple => kit_is)
  (case kt_str_dict => kit_is)
  (case kt_list_NoneType => kit_is)
  (case kt_list_bool => kit_is)
  (case kt_list_int => kit_is)
  (case kt_list_str => kit_is)
  (case kt_list_tuple => kit_is)
  (case kt_list_dict => kit_is)
  (case kt_tuple_NoneType => kit_is)
  (case kt_tuple_bool => kit_is)
  (case kt_tuple_int => kit_is)
  (case kt_tuple_str => kit_is)
  (case kt_tuple_list => kit_is)
  (case kt_tuple_dict => kit_is)
  (case kt_dict_NoneType => kit_is)
  (case kt_dict_bool => kit_is)
  (case kt_dict_int => kit_is)
  (case kt_dict_str => kit_is)
  (case kt_dict_list => kit_is)
  (case kt_dict_tuple => kit_is)
#print axioms PySem.Challenge.cw_leadtimes_k25_walks_made_holds
