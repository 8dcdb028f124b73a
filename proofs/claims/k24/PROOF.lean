import PyProof.Rows.All
import Wide.All
import OpenK.AllK
import Wide.FinOn
import Lean
import PyProof.EqAt
import PyProof.EqKinds
import PyProof.TupleCall
import PyProof.P3Eq
import PyProof.P3In
import PyProof.NeData
import PyProof.FitsBits
import PySem.Challenge.RW_leadtimes_k24_whole_waiting_emptied
noncomputable section
set_option compiler.extract_closed false
set_option Elab.async false
set_option linter.all false
set_option maxRecDepth 100000
namespace L2
open PySem PySem.Spec PyProof.Rows
abbrev Key := Sum Int Str
noncomputable def keyIs : Key → Value → Bool
 | .inl k, v => Value.isInt k v
 | .inr x, v => Value.isStrOf x v
noncomputable def keyH (w : World) : Key → Int
 | .inl k => hashInt k
 | .inr x => hashStr w x
theorem keyIs_shape : ∀ {k : Key} {v : Value}, keyIs k v = true → (∃ i t, k = Sum.inl i ∧ v = Value.int i t) ∨ (∃ x t, k = Sum.inr x ∧ v = Value.str x t)
 | .inl i, v, h => by
  obtain ⟨t, e⟩ := Value.isInt_shape (k := i) (v := v) h
  exact .inl ⟨i, t, rfl, e⟩
 | .inr x, v, h => by
  obtain ⟨t, e⟩ := Value.isStrOf_shape (x := x) (v := v) h
  exact .inr ⟨x, t, rfl, e⟩
theorem key_ll (a b : Int) : decide ((Sum.inl a : Key) = Sum.inl b) = (a == b) := by
 by_cases e : a = b
 ·subst e; simp
 ·have h : ¬ (Sum.inl a : Key) = Sum.inl b := fun q => e (Sum.inl.inj q)
  rw [decide_eq_false h]
  exact (beq_eq_false_iff_ne.mpr e).symm
theorem key_rr (a b : Str) : decide ((Sum.inr a : Key) = Sum.inr b) = decide (a = b) := by
 by_cases e : a = b
 ·subst e; simp
 ·have h : ¬ (Sum.inr a : Key) = Sum.inr b := fun q => e (Sum.inr.inj q)
  rw [decide_eq_false h, decide_eq_false e]
theorem key_lr (a : Int) (b : Str) : decide ((Sum.inl a : Key) = Sum.inr b) = false := decide_eq_false (fun q => nomatch q)
theorem key_rl (a : Str) (b : Int) : decide ((Sum.inr a : Key) = Sum.inl b) = false := decide_eq_false (fun q => nomatch q)
noncomputable def mixKind (prog : Program) (w : World) : PySem.KeyKind prog w Key where
 is := keyIs
 hash := keyH w
 inj := fun v a b ha hb => by
  rcases keyIs_shape ha with ⟨i, t, rfl, rfl⟩ | ⟨x, t, rfl, rfl⟩
  ·rcases keyIs_shape hb with ⟨j, u, rfl, e⟩ | ⟨y, u, rfl, e⟩
   ·injection e with e1 _; rw [e1]
   ·exact nomatch e
  ·rcases keyIs_shape hb with ⟨j, u, rfl, e⟩ | ⟨y, u, rfl, e⟩
   ·exact nomatch e
   ·injection e with e1 _; rw [e1]
 byValue := fun k v h => by
  rcases keyIs_shape h with ⟨i, t, rfl, rfl⟩ | ⟨x, t, rfl, rfl⟩ <;> rfl
 pyHash := fun hv h => by
  rcases keyIs_shape hv with ⟨i, t, rfl, rfl⟩ | ⟨x, t, rfl, rfl⟩
  ·exact wpAny_pyHash_int h
  ·exact wpAny_pyHash_str h
 eqBool := fun hu hv h => by
  rcases keyIs_shape hu with ⟨i, t, rfl, rfl⟩ | ⟨x, t, rfl, rfl⟩
  ·rcases keyIs_shape hv with ⟨j, u, rfl, rfl⟩ | ⟨y, u, rfl, rfl⟩
   ·rw [key_ll] at h; exact wpAny_eqBool_int h
   ·rw [key_lr] at h; exact SeqAt.EqAt.int_str i t y u _ _ _ _ h
  ·rcases keyIs_shape hv with ⟨j, u, rfl, rfl⟩ | ⟨y, u, rfl, rfl⟩
   ·rw [key_rl] at h; exact SeqAt.EqAt.str_int x t j u _ _ _ _ h
   ·rw [key_rr] at h; exact wpAny_eqBool_str h
 «strs» := fun k x t v h => by
  rcases keyIs_shape h with ⟨i, u, rfl, e⟩ | ⟨y, u, rfl, e⟩
  ·exact nomatch e
  ·injection e with e1 _
   subst e1
   cases v <;> rfl
theorem mixKind_is (prog : Program) (w : World) (k : Key) (v : Value) : (mixKind prog w).is k v = keyIs k v := rfl
end L2
namespace L2
open PySem PySem.Spec PyProof.Rows
inductive V where
 | non | bl (b : Bool) | int (i : Int) | str (x : Str) | byt (b : Array UInt8) | flt (b : UInt64) | ref (a : Addr) | ty (n : String)
 deriving DecidableEq
noncomputable def RelV : V → Value → Prop
 | .non, u => u = Value.none
 | .bl b, u => u = Value.bool b
 | .int i, u => ∃ t, u = Value.int i t
 | .str x, u => ∃ t, u = Value.str x t
 | .byt b, u => ∃ t, u = Value.bytes b t
 | .flt b, u => ∃ t, u = Value.float b t
 | .ref a, u => u = Value.ref a
 | .ty n, u => u = Value.type n
abbrev Vals : List V → List Value → Prop := Paired RelV
theorem Vals.length {xs : List V} {us : List Value} (r : Vals xs us) : xs.length = us.length := Paired.length r
theorem Vals.get : ∀ {xs : List V} {us : List Value} {i : Nat} {x : V}, Vals xs us → xs[i]? = some x → ∃ u, us[i]? = some u ∧ RelV x u
 | _, _, _, _, .nil, e => by simp at e
 | _, _, 0, _, .cons r _, e => by simp at e; subst e; exact ⟨_, rfl, r⟩
 | _, _, i + 1, x, .cons _ t, e => by
  obtain ⟨u, h1, h2⟩ := Vals.get (i := i) (x := x) t (by simpa using e)
  exact ⟨u, by simpa using h1, h2⟩
theorem Vals.set {x : V} {u : Value} (r : RelV x u) : ∀ {xs : List V} {us : List Value} (i : Nat), Vals xs us → Vals (xs.set i x) (us.set i u)
 | _, _, _, .nil => .nil
 | _, _, 0, .cons _ t => .cons r t
 | _, _, i + 1, .cons q t => .cons q (Vals.set r i t)
theorem Vals.append : ∀ {xs ys : List V} {us ws : List Value}, Vals xs us → Vals ys ws → Vals (xs ++ ys) (us ++ ws) := by
 intro xs ys us ws h q
 induction h with
 | nil => exact q
 | cons r t ih => exact .cons r ih
theorem Vals.take : ∀ {xs : List V} {us : List Value} (n : Nat), Vals xs us → Vals (xs.take n) (us.take n)
 | _, _, 0, _ => .nil
 | _, _, _ + 1, .nil => .nil
 | _, _, n + 1, .cons r t => .cons r (Vals.take n t)
theorem Vals.drop : ∀ {xs : List V} {us : List Value} (n : Nat), Vals xs us → Vals (xs.drop n) (us.drop n)
 | _, _, 0, r => r
 | _, _, _ + 1, .nil => .nil
 | _, _, n + 1, .cons _ t => Vals.drop n t
theorem Vals.none_of : ∀ {xs : List V} {us : List Value} {i : Nat}, Vals xs us → xs[i]? = none → us[i]? = none := fun {xs us i} r e => by
 have h1 := r.length
 have h2 : xs.length ≤ i := List.getElem?_eq_none_iff.mp e
 exact List.getElem?_eq_none_iff.mpr (by omega)
noncomputable def RelO : Option V → Option Value → Prop
 | some v, some u => RelV v u
 | none, none => True
 | _, _ => False
noncomputable def KV {κ : Type} : List (κ × V) → List (κ × Value) → Prop := Paired fun (p : κ × V) (q : κ × Value) => p.1 = q.1 ∧ RelV p.2 q.2
noncomputable def kV : Key → V
 | .inl i => .int i
 | .inr x => .str x
inductive HO where
 | lst (xs : List V)
 | tup (xs : List V)
 | dK (kvs : List (Key × V)) | dT (kvs : List (List Key × V))
 | set (S : Int → Bool) (n : Nat)
 | ins (C dx : Addr) (fs : List (Str × V))
 | own (x : Addr)
 | xd (fs : List (Str × V))
 | met (f x : Addr)
 | rng (lo hi : Int)
 | frz (o : Obj) (u : HO)
 | tbl (ps : Array Value)
 | ext (φ : Heap → Prop)
abbrev Hp := Addr → Option HO
noncomputable def upd (H : Hp) (a : Addr) (o : HO) : Hp := fun b => if b = a then some o else H b
theorem upd_same {H : Hp} {a : Addr} {o : HO} : upd H a o a = some o := by unfold upd; rw [if_pos rfl]
theorem upd_ne {H : Hp} {a b : Addr} {o : HO} (h : b ≠ a) : upd H a o b = H b := by unfold upd; rw [if_neg h]
theorem ne_of {H : Hp} {a b : Addr} {o u : HO} (h : H a = some o) (h' : H b = some u) (d : o ≠ u) : a ≠ b := by
 intro e; subst e; rw [h] at h'; exact d (Option.some.inj h')
theorem ne_of_none {H : Hp} {a b : Addr} {o : HO} (h : H a = some o) (h' : H b = none) : a ≠ b := by
 intro e; subst e; rw [h] at h'; cases h'
section
variable (P : Program) (w : World)
noncomputable def ObjOk (H : Hp) (h : Heap) (a : Addr) : HO → Prop
 | .lst xs => xs.length ≤ sizeLine ∧ ∃ (its : List Value) (n : Nat), Vals xs its ∧ h.get? a = some { cls := .type "list", data := .seq its.toArray n }
 | .tup xs => xs.length ≤ sizeLine ∧ ∃ its : List Value, Vals xs its ∧ IsTup h a its.toArray
 | .dK kvs => kvs.length ≤ sizeLine ∧ (a == sysModules) = false ∧ ∃ vs, KV kvs vs ∧ h.DictOf (mixKind P w) a vs
 | .dT kvs => kvs.length ≤ sizeLine ∧ (a == sysModules) = false ∧ ∃ xs : List (List Key × Addr × Value),
   Paired (fun (p : List Key × V) (q : List Key × Addr × Value) => p.1 = q.1 ∧ H q.2.1 = some (.tup (p.1.map kV)) ∧ RelV p.2 q.2.2) kvs xs ∧
   ∃ o es ep, h.get? a = some o ∧ o.ExactDict ∧ o.data = .dict es ep ∧ es.toList = xs.map (entryOfKey (tupleKind (mixKind P w))) ∧ (xs.map (·.1)).Nodup
 | .set S n => h.SetOf (intKind P w) a S n
 | .ins C dx fs => H dx = some (.own a) ∧ fs.length ≤ 1000 ∧ dx ≠ a ∧ h.get? a = some (PySem.W.instObj C dx) ∧
   ∃ mA, h.Ns1 dx mA ∧ (∀ f, RelO (fs.lookup f) (mA f)) ∧ PySem.Within mA (fs.map (·.1))
 | .own _ => ∃ o, h.get? a = some o
 | .xd fs => ∃ mA, h.Ns1 a mA ∧ ∀ f, RelO (fs.lookup f) (mA f)
 | .rng lo hi => ∃ t u v, h.get? a = some { cls := .type "range", data := .fields #[.int lo t, .int hi u, .int 1 v] }
 | .frz o u => h.get? a = some o ∧ ObjOk H h a u
 | .tbl ps => h.get? a = some { cls := .none, data := .fields ps }
 | .met f x => h.get? a = some (PySem.W.methodObj (.ref f) (.ref x))
 | .ext φ => φ h ∧ (∃ o, h.get? a = some o) ∧ ∀ h1 h2 : Heap, φ h1 → (∀ o, h1.get? a = some o → h2.get? a = some o) → φ h2
noncomputable def HOk (H : Hp) (h : Heap) : Prop := ∀ a o, H a = some o → ObjOk P w H h a o
end
section
variable {P : Program} {w : World} {H H' : Hp} {h h' : Heap} {a : Addr} {o : HO}
theorem ObjOk.lt (x : ObjOk P w H h a o) : a < h.objs.size := by
 cases o with
 | lst xs => obtain ⟨_, _, _, _, e⟩ := x; exact Heap.lt_size e
 | tup xs => obtain ⟨_, _, _, p⟩ := x; exact p.lt
 | dK kvs => obtain ⟨_, _, _, _, o, _, _, e, _⟩ := x; exact Heap.lt_size e
 | dT kvs => obtain ⟨_, _, _, _, o, _, _, e, _⟩ := x; exact Heap.lt_size e
 | set S n => obtain ⟨o, _, _, _, e, _⟩ := x; exact Heap.lt_size e
 | ins C dx fs => obtain ⟨_, _, _, e, _⟩ := x; exact Heap.lt_size e
 | own y => obtain ⟨_, e⟩ := x; exact Heap.lt_size e
 | xd fs => obtain ⟨_, ⟨_, _, _, e, _⟩, _⟩ := x; exact Heap.lt_size e
 | rng lo hi => obtain ⟨_, _, _, e⟩ := x; exact Heap.lt_size e
 | frz ob u => obtain ⟨e, _⟩ := x; exact Heap.lt_size e
 | tbl ps => exact Heap.lt_size (show h.get? a = some _ from x)
 | met f y => exact Heap.lt_size (show h.get? a = some _ from x)
 | ext φ => obtain ⟨_, ⟨_, e⟩, _⟩ := x; exact Heap.lt_size e
theorem Paired.mapP {α β : Type} {F G : α → β → Prop} : ∀ {l₁ : List α} {l₂ : List β}, Paired F l₁ l₂ → (∀ a b, F a b → G a b) → Paired G l₁ l₂ := by
 intro l₁ l₂ h f
 induction h with
 | nil => exact .nil
 | cons r t ih => exact .cons (f _ _ r) ih
theorem Paired.imp' {α β : Type} {F G : α → β → Prop} (f : ∀ a b, F a b → G a b) {l₁ : List α} {l₂ : List β} (r : Paired F l₁ l₂) : Paired G l₁ l₂ := Paired.mapP r f
theorem ObjOk.stay (x : ObjOk P w H h a o) (k : ∀ b u, (b = a ∨ H b = some (.own a)) → h.get? b = some u → h'.get? b = some u)
  (ho : ∀ b, H b = some (.own a) → H' b = some (.own a)) (ht : ∀ b xs, H b = some (.tup xs) → H' b = some (.tup xs)) : ObjOk P w H' h' a o := by
 induction o with
 | lst xs => obtain ⟨z, its, n, r, e⟩ := x; exact ⟨z, its, n, r, k _ _ (.inl rfl) e⟩
 | tup xs => obtain ⟨z, its, r, ob, e, c⟩ := x; exact ⟨z, its, r, ob, k _ _ (.inl rfl) e, c⟩
 | dK kvs => obtain ⟨z, y, vs, r, ob, es, ep, e, c⟩ := x; exact ⟨z, y, vs, r, ob, es, ep, k _ _ (.inl rfl) e, c⟩
 | dT kvs =>
  obtain ⟨z, y, xs, r, ob, es, ep, e, c⟩ := x
  exact ⟨z, y, xs, Paired.mapP r fun p q z => ⟨z.1, ht _ _ z.2.1, z.2.2⟩, ob, es, ep, k _ _ (.inl rfl) e, c⟩
 | set S n => obtain ⟨ob, es, ep, t, e, c⟩ := x; exact ⟨ob, es, ep, t, k _ _ (.inl rfl) e, c⟩
 | ins C dx fs =>
  obtain ⟨d, z, ne, e, mA, ⟨od, es, ep, e2, c⟩, r⟩ := x
  exact ⟨ho _ d, z, ne, k _ _ (.inl rfl) e, mA, ⟨od, es, ep, k _ _ (.inr d) e2, c⟩, r⟩
 | own y => obtain ⟨ob, e⟩ := x; exact ⟨ob, k _ _ (.inl rfl) e⟩
 | xd fs => obtain ⟨mA, ⟨od, es, ep, e, c⟩, r⟩ := x; exact ⟨mA, ⟨od, es, ep, k _ _ (.inl rfl) e, c⟩, r⟩
 | rng lo hi => obtain ⟨t, u, v, e⟩ := x; exact ⟨t, u, v, k _ _ (.inl rfl) e⟩
 | frz ob u ih => obtain ⟨e, q⟩ := x; exact ⟨k _ _ (.inl rfl) e, ih q⟩
 | tbl ps =>
  have e : h.get? a = some { cls := .none, data := .fields ps } := x
  show h'.get? a = some { cls := .none, data := .fields ps }
  exact k a _ (.inl rfl) e
 | met f y =>
  have e : h.get? a = some (PySem.W.methodObj (.ref f) (.ref y)) := x
  show h'.get? a = some (PySem.W.methodObj (.ref f) (.ref y))
  exact k a _ (.inl rfl) e
 | ext φ => obtain ⟨p, ⟨o, e⟩, st⟩ := x; exact ⟨st _ _ p fun o q => k _ _ (.inl rfl) q, ⟨o, k _ _ (.inl rfl) e⟩, st⟩
theorem HOk.lt (x : HOk P w H h) (e : H a = some o) : a < h.objs.size := (x a o e).lt
theorem HOk.fresh (x : HOk P w H h) (e : h.objs.size ≤ a) : H a = none := by
 cases q : H a with
 | none => rfl
 | some u => exact absurd (Nat.lt_of_lt_of_le (x.lt q) e) (Nat.lt_irrefl _)
theorem HOk.kept (x : HOk P w H h) (k : ∀ b u, h.get? b = some u → h'.get? b = some u) : HOk P w H h' := fun a o e =>
 (x a o e).stay (fun b u _ q => k b u q) (fun _ q => q) fun _ _ q => q
theorem HOk.laid (x : HOk P w H h) (k : ∀ b u, h.get? b = some u → h'.get? b = some u) (hp : h.objs.size ≤ a) (new : ObjOk P w (upd H a o) h' a o) : HOk P w (upd H a o) h' := fun b u e => by
 have hn := x.fresh hp
 by_cases hb : b = a
 ·subst hb; rw [upd_same] at e; cases e; exact new
 ·rw [upd_ne hb] at e
  exact (x b u e).stay (fun c v _ q => k c v q) (fun c q => by rw [upd_ne (ne_of_none q hn)]; exact q) fun c xs q => by rw [upd_ne (ne_of_none q hn)]; exact q
end
noncomputable def Rd (H : Hp) (a : Addr) (u : HO) : Prop := H a = some u ∨ ∃ o, H a = some (.frz o u)
theorem Rd.of {H : Hp} {a : Addr} {u : HO} (h : H a = some u) : Rd H a u := .inl h
theorem Rd.ok {P : Program} {w : World} {H : Hp} {h : Heap} {a : Addr} {u : HO} (r : Rd H a u) (x : HOk P w H h) : ObjOk P w H h a u := by
 rcases r with r | ⟨o, r⟩
 ·exact x a u r
 ·obtain ⟨_, q⟩ := x a _ r
  exact q
noncomputable def Mut : Option HO → Prop
 | some (.lst _) => True
 | some (.dK _) => True
 | some (.dT _) => True
 | some (.set _ _) => True
 | some (.ins _ _ _) => True
 | some (.ext _) => True
 | _ => False
section
variable {P : Program} {w : World} {H : Hp} {h h' : Heap} {x e : Addr} {o' : HO}
theorem HOk.write (ok : HOk P w H h) (mu : Mut (H x)) (he : e = x ∨ H e = some (.own x)) (k : ∀ b u, b ≠ e → h.get? b = some u → h'.get? b = some u) (heo : ∃ u, h'.get? e = some u)
  (new : ObjOk P w (upd H x o') h' x o') : HOk P w (upd H x o') h' := fun b u q => by
 have nown : ∀ c y, H c = some (.own y) → c ≠ x := fun c y r z => by subst z; rw [r] at mu; exact mu
 have ntup : ∀ c xs, H c = some (.tup xs) → c ≠ x := fun c xs r z => by subst z; rw [r] at mu; exact mu
 by_cases hb : b = x
 ·subst hb; rw [upd_same] at q; cases q; exact new
 ·rw [upd_ne hb] at q
  by_cases hbe : b = e
  ·have q' : H b = some (.own x) := by
    rcases he with z | z
    ·exact absurd (hbe.trans z) hb
    ·rw [hbe]; exact z
   rw [q] at q'; cases q'
   obtain ⟨v, hv⟩ := heo
   exact ⟨v, by rw [hbe]; exact hv⟩
  ·refine (ok b u q).stay (fun c v hc r => k c v ?_ r) (fun c r => by rw [upd_ne (nown c b r)]; exact r) fun c xs r => by rw [upd_ne (ntup c xs r)]; exact r
   rcases hc with rfl | hc
   ·exact hbe
   ·rintro rfl
    rcases he with z | z
    ·exact nown c b hc z
    ·rw [hc] at z; cases z; exact hb rfl
end
structure Un (fs ex : List Addr) (H H' : Hp) (h h' : Heap) : Prop where
 keep : ∀ b o, h.get? b = some o → H b = none → b ∉ fs → b ∉ ex → h'.get? b = some o
 slot : ∀ b o, h.get? b = some o → H b = none → b ∈ fs → b ∉ ex → ∃ sl, h'.get? b = some { o with slots := sl }
 free : ∀ b o, h.get? b = some o → H b = none → b ∉ ex → H' b = none
 there : ∀ b o, h.get? b = some o → b ∉ ex → ∃ o', h'.get? b = some o'
 tups : ∀ b xs, H b = some (.tup xs) → H' b = some (.tup xs)
 frzs : ∀ b o u, H b = some (.frz o u) → H' b = some (.frz o u)
 tbls : ∀ b ps, H b = some (.tbl ps) → ∃ more, H' b = some (.tbl (ps ++ more))
section
variable {fs fs' ex ex' : List Addr} {H H1 H2 : Hp} {h h1 h2 h' : Heap} {a x e : Addr} {o : HO}
theorem Un.any (u : Un fs ex H H1 h h1) {b : Addr} {ob : Obj} (q : h.get? b = some ob) (n : H b = none) (hx : b ∉ ex) : ∃ sl, h1.get? b = some { ob with slots := sl } := by
 by_cases hb : b ∈ fs
 ·exact u.slot b ob q n hb hx
 ·exact ⟨ob.slots, u.keep b ob q n hb hx⟩
theorem Un.trans (a : Un fs ex H H1 h h1) (b : Un fs ex H1 H2 h1 h2) : Un fs ex H H2 h h2 where
 keep := fun c ob q n hc hx => b.keep c ob (a.keep c ob q n hc hx) (a.free c ob q n hx) hc hx
 slot := fun c ob q n hc hx => by
  obtain ⟨sl, e1⟩ := a.slot c ob q n hc hx
  obtain ⟨sl', e2⟩ := b.slot c _ e1 (a.free c ob q n hx) hc hx
  exact ⟨sl', e2⟩
 free := fun c ob q n hx => by
  obtain ⟨o', e1⟩ := a.there c ob q hx
  exact b.free c o' e1 (a.free c ob q n hx) hx
 there := fun c ob q hx => by
  obtain ⟨o', e1⟩ := a.there c ob q hx
  exact b.there c o' e1 hx
 tups := fun c xs q => b.tups c xs (a.tups c xs q)
 frzs := fun c ob xs q => b.frzs c ob xs (a.frzs c ob xs q)
 tbls := fun c ps q => by
  obtain ⟨m1, e1⟩ := a.tbls c ps q
  obtain ⟨m2, e2⟩ := b.tbls c _ e1
  exact ⟨m1 ++ m2, by rw [e2, Array.append_assoc]⟩
theorem Un.kept (k : ∀ b u, h.get? b = some u → h'.get? b = some u) : Un fs ex H H h h' :=
 ⟨fun b ob q _ _ _ => k b ob q, fun b ob q _ _ _ => ⟨ob.slots, k b ob q⟩, fun _ _ _ n _ => n, fun b ob q _ => ⟨ob, k b ob q⟩, fun _ _ q => q, fun _ _ _ q => q, fun _ ps q => ⟨#[], by rw [q]; simp⟩⟩
theorem Un.refl : Un fs ex H H h h := Un.kept fun _ _ q => q
theorem Un.laid (k : ∀ b u, h.get? b = some u → h'.get? b = some u) (hp : h.objs.size ≤ a) (hn : H a = none) : Un fs ex H (upd H a o) h h' where
 keep := fun b u q _ _ _ => k b u q
 slot := fun b u q _ _ _ => ⟨u.slots, k b u q⟩
 free := fun b u q n _ => by rw [upd_ne (Nat.ne_of_lt (Nat.lt_of_lt_of_le (Heap.lt_size q) hp))]; exact n
 there := fun b u q _ => ⟨u, k b u q⟩
 tups := fun b xs q => by rw [upd_ne (ne_of_none q hn)]; exact q
 frzs := fun b u xs q => by rw [upd_ne (ne_of_none q hn)]; exact q
 tbls := fun b ps q => ⟨#[], by rw [upd_ne (ne_of_none q hn), q]; simp⟩
theorem Un.write (mu : Mut (H x)) (he : e = x ∨ H e = some (.own x)) (k : ∀ b u, b ≠ e → h.get? b = some u → h'.get? b = some u) (heo : ∃ u, h'.get? e = some u) : Un fs ex H (upd H x o) h h' := by
 have hx : ∀ b, H b = none → b ≠ x := fun b n z => by subst z; rw [n] at mu; exact mu
 have hb : ∀ b, H b = none → b ≠ e := fun b n z => by
  subst z
  rcases he with r | r
  ·exact hx b n r
  ·rw [n] at r; cases r
 have hm : ∀ b u, H b = some u → ¬ Mut (some u) → b ≠ x := fun b u q nm z => by subst z; rw [q] at mu; exact nm mu
 refine ⟨fun b u q n _ _ => k b u (hb b n) q, fun b u q n _ _ => ⟨u.slots, k b u (hb b n) q⟩, fun b u q n _ => by rw [upd_ne (hx b n)]; exact n, fun b u q _ => ?_,
  fun b xs q => by rw [upd_ne (hm b _ q fun z => z)]; exact q, fun b u xs q => by rw [upd_ne (hm b _ q fun z => z)]; exact q, fun b ps q => ⟨#[], by rw [upd_ne (hm b _ q fun z => z), q]; simp⟩⟩
 by_cases hbe : b = e
 ·subst hbe; exact heo
 ·exact ⟨u, k b u hbe q⟩
theorem Un.mono (u : Un fs ex H H1 h h1) (hs : ∀ b ∈ fs, b ∈ fs') (hx : ∀ b ∈ ex, b ∈ ex') : Un fs' ex' H H1 h h1 :=
 ⟨fun b ob q n hb he => u.keep b ob q n (fun z => hb (hs b z)) fun z => he (hx b z), fun _ _ q n _ he => u.any q n fun z => he (hx _ z), fun b ob q n he => u.free b ob q n fun z => he (hx b z), fun b ob q he => u.there b ob q fun z => he (hx b z), u.tups, u.frzs, u.tbls⟩
end
noncomputable def trk (h : Heap) (H : Hp) : List Addr := (List.range h.objs.size).filter fun a => (H a).isSome
noncomputable def hidT (h : Heap) (H : Hp) : Heap := PySem.W.hideAll h (trk h H)
theorem hidT_size (h : Heap) (H : Hp) : (hidT h H).objs.size = h.objs.size := PySem.W.hideAll_size _ _
theorem hidT_get {h : Heap} {H : Hp} {b : Addr} {o : Obj} (e : h.get? b = some o) (n : H b = none) : (hidT h H).get? b = some o :=
 PySem.W.hideAll_get _ e fun hm => by
  have q : (H b).isSome = true := (List.mem_filter.mp hm).2
  rw [n] at q; simp at q
theorem of_hidT {h : Heap} {H : Hp} {b : Addr} {o : Obj} (e : (hidT h H).get? b = some o) : h.get? b = some o ∧ H b = none := by
 have e' : h.get? b = some o := PySem.W.of_hideAll (trk h H) e
 refine ⟨e', ?_⟩
 cases q : H b with
 | none => rfl
 | some x =>
  have hm : b ∈ trk h H := List.mem_filter.mpr ⟨List.mem_range.mpr (Heap.lt_size e'), by simp [q]⟩
  have z : (hidT h H).get? b = none := PySem.W.hideAll_none (trk h H) hm
  rw [z] at e; cases e
noncomputable def allNews (g h : Heap) (L : Addr) : List (Addr × Obj) := (List.range h.objs.size).filterMap fun a => if a = L ∨ (g.get? a).isSome = true then none else (h.get? a).map fun o => (a, o)
noncomputable def rest (g h : Heap) (L d : Addr) : List (Addr × Obj) := (allNews g h L).filter fun p => decide (p.1 ≠ d)
end L2
namespace L2
open PySem PySem.Spec PyProof.Rows
structure Mod (K : PySem.W.Frag) (mg : Str → Option Value) (base : Heap) : Prop where
 kin : K.In base
 glob : base.Ns mainGlobals mg
 blt : ∃ mb, base.Ns builtinsNs mb ∧ ∀ x : Str, x ≠ "__name__" → mb x = bootBuiltins x
 nolimit : base.NoLimit
structure Cx where
 prog : Program
 w : World
 K : PySem.W.Frag
 mg : Str → Option Value
 base : Heap
 A : Around
 N : List Str
 s₀ : Shared
 H₀ : Hp
 env : Env
 outer : List Env
 stack : List Env
 ex : List Addr
 fn : Str → Bool
 calm : Bool
 pn : List (Addr × Obj)
 xe : Value → Shared → Prop
noncomputable def frs (l : List Env) : List Addr := l.filterMap (·.frame)
abbrev Cx.fs (X : Cx) : List Addr := frs X.outer
noncomputable def Vis (sc : Scope) (x : Str) : Prop := sc.names.lookup x = some .local ∨ sc.names.lookup x = some .cell ∨ sc.names.lookup x = some .free
noncomputable def Loc (sc : Scope) (x : Str) : Prop := sc.names.lookup x = some .local ∨ sc.names.lookup x = some .cell
noncomputable def Look (env : Env) (h : Heap) (m : Str → Option Value) (x : Str) (u : Value) : Prop :=
 (env.kindOf x = some .local ∧ m x = some u) ∨ ((env.kindOf x = some .cell ∨ env.kindOf x = some .free) ∧ ∃ c, env.cells.lookup x = some c ∧ h.IsCell c (some u))
structure Cx.Ok (X : Cx) : Prop where
 mod : Mod X.K X.mg X.base
 kind : X.env.scope.kind = .function
 glob : X.env.globals = mainGlobals
 blt : X.env.builtins = builtinsNs
 above : X.s₀.heap.objs.size ≤ X.env.locals
 inj : ∀ x y c, X.env.cells.lookup x = some c → X.env.cells.lookup y = some c → x = y
 has : ∀ x, (X.env.kindOf x = some .cell ∨ X.env.kindOf x = some .free) → ∃ c, X.env.cells.lookup x = some c
 cab : ∀ x c, X.fn x = true → X.env.cells.lookup x = some c → X.s₀.heap.objs.size ≤ c
 hd : X.calm = true → X.A.handled = none
 frames : X.A.frames = some X.stack
 stk : X.stack = X.outer ∨ (X.stack = X.env :: X.outer ∧ X.env.frame = some X.env.locals)
 exf : ∀ b ∈ X.ex, b ≠ X.env.locals ∧ ∀ x c, X.env.cells.lookup x = some c → c ≠ b
 bs : ∀ b o, X.base.get? b = some o → X.s₀.heap.get? b = some o ∧ X.H₀ b = none
 bsz : X.base.objs.size ≤ X.s₀.heap.objs.size
 noex : ∀ b o, X.base.get? b = some o → b ∉ X.ex
 exfs : ∀ b ∈ X.ex, b ∉ X.fs
 funs : X.s₀.heap.FunFrames X.base X.outer
 frf : ∀ b ∈ X.fs, X.H₀ b = none
structure Inv (X : Cx) (pins : List (Addr × Obj)) (σ : List (Option V)) (H : Hp) (s : Shared) : Prop where
 ok : X.Ok
 os : s.os = X.s₀.os
 bare : AllBare s.gens
 base : Un X.fs X.ex X.H₀ H X.s₀.heap s.heap
 loc : ∃ m, s.heap.Ns X.env.locals m ∧ ∀ (i : Nat) (x : Str) (v : V), X.N[i]? = some x → σ[i]? = some (some v) → Vis X.env.scope x → ∃ u, RelV v u ∧ Look X.env s.heap m x u
 cell : ∀ x c, X.env.cells.lookup x = some c → ∃ v, s.heap.IsCell c v
 free : H X.env.locals = none
 freeC : ∀ x c, X.env.cells.lookup x = some c → H c = none
 pin : ∀ p ∈ X.pn ++ pins, s.heap.get? p.1 = some p.2 ∧ H p.1 = none ∧ p.1 ≠ X.env.locals ∧ p.1 ∉ X.fs ∧ ∀ v, p.2.data ≠ .cell v
 hok : HOk X.prog X.w H s.heap
 len : σ.length = X.N.length
section
variable {X : Cx} {pins : List (Addr × Obj)} {σ : List (Option V)} {H H' : Hp} {s : Shared} {h' : Heap}
theorem Cx.Ok.nofr (ok : X.Ok) {b : Addr} {o : Obj} (e : X.base.get? b = some o) : b ∉ X.fs := fun hb => by
 have := (ok.funs.mem hb).1
 rw [e] at this; cases this
theorem Inv.bs (I : Inv X pins σ H s) : ∀ b o, X.base.get? b = some o → s.heap.get? b = some o ∧ H b = none := fun b o e =>
 ⟨I.base.keep b o (I.ok.bs b o e).1 (I.ok.bs b o e).2 (I.ok.nofr e) (I.ok.noex b o e), I.base.free b o (I.ok.bs b o e).1 (I.ok.bs b o e).2 (I.ok.noex b o e)⟩
theorem Inv.bk (I : Inv X pins σ H s) : ∀ b o, X.base.get? b = some o → s.heap.get? b = some o := fun b o e => (I.bs b o e).1
theorem Inv.mod (I : Inv X pins σ H s) : Mod X.K X.mg X.base := I.ok.mod
theorem Inv.kIn (I : Inv X pins σ H s) : X.K.In s.heap := I.ok.mod.kin.keeps I.bk
theorem Inv.nolimit (I : Inv X pins σ H s) : s.heap.NoLimit := I.ok.mod.nolimit.keeps I.bk
theorem Inv.fr (I : Inv X pins σ H s) : ∃ m, Fr X.base X.env.locals s.heap m :=
 let ⟨m, hn, _⟩ := I.loc
 ⟨m, hn, I.bk, Nat.le_trans I.ok.bsz I.ok.above⟩
theorem Inv.lt (I : Inv X pins σ H s) : X.env.locals < s.heap.objs.size := let ⟨_, hn, _⟩ := I.loc; hn.lt
theorem Inv.sz (I : Inv X pins σ H s) : X.s₀.heap.objs.size ≤ s.heap.objs.size := Nat.le_trans I.ok.above (Nat.le_of_lt I.lt)
theorem Inv.nofs (I : Inv X pins σ H s) {a : Addr} (h : s.heap.objs.size ≤ a) : a ∉ X.fs := fun hb => by
 obtain ⟨_, o, ho, _⟩ := I.ok.funs.mem hb
 exact absurd (Nat.lt_of_lt_of_le (Heap.lt_size ho) (Nat.le_trans I.sz h)) (Nat.lt_irrefl _)
theorem Inv.cne (I : Inv X pins σ H s) : ∀ x c, X.env.cells.lookup x = some c → c ≠ X.env.locals := fun x c e z => by
 obtain ⟨v, o, ho, hd⟩ := I.cell x c e
 obtain ⟨m, ⟨o', es, ep, ho', hd', _⟩, _⟩ := I.loc
 rw [z, ho'] at ho; cases ho; rw [hd'] at hd; cases hd
theorem Inv.funs (I : Inv X pins σ H s) : s.heap.FunFrames X.base X.outer := by
 have all : ∀ (l : List Env), (∀ b ∈ frs l, b ∈ X.fs) → X.s₀.heap.FunFrames X.base l → s.heap.FunFrames X.base l := by
  intro l
  induction l with
  | nil => intro _ _; trivial
  | cons env r ih =>
   intro hs hl
   obtain ⟨hk, ⟨L, o, hf, hn, ho, hd⟩, hr⟩ := hl
   have hL : L ∈ X.fs := hs L (by unfold frs; rw [List.filterMap_cons, hf]; exact List.mem_cons_self)
   obtain ⟨sl, e⟩ := I.base.slot L o ho (I.ok.frf L hL) hL fun z => I.ok.exfs L z hL
   exact ⟨hk, ⟨L, _, hf, hn, e, hd⟩, ih (fun b hb => hs b (by unfold frs; rw [List.filterMap_cons, hf]; exact List.mem_cons_of_mem _ hb)) hr⟩
 exact all X.outer (fun _ hb => hb) I.ok.funs
theorem Inv.stack (I : Inv X pins σ H s) : s.heap.FunFrames X.base X.stack := by
 rcases I.ok.stk with e | ⟨e, hf⟩
 ·rw [e]; exact I.funs
 ·rw [e]
  obtain ⟨m, hn, _⟩ := I.loc
  refine .cons (by rw [I.ok.kind]; decide) hf hn ?_ I.funs
  exact Heap.get?_none_of_le (Nat.le_trans I.ok.bsz I.ok.above)
theorem Inv.stkSub (I : Inv X pins σ H s) : ∀ b ∈ frs X.stack, b ∈ X.env.locals :: X.fs := fun b hb => by
 rcases I.ok.stk with e | ⟨e, hf⟩
 ·rw [e] at hb; exact List.mem_cons_of_mem _ hb
 ·rw [e] at hb
  unfold frs at hb
  rw [List.filterMap_cons, hf] at hb
  exact hb
theorem Inv.stkFree (I : Inv X pins σ H s) : ∀ b ∈ frs X.stack, H b = none := fun b hb => by
 rcases List.mem_cons.mp (I.stkSub b hb) with e | hb
 ·rw [e]; exact I.free
 ·obtain ⟨_, o, ho, _⟩ := I.ok.funs.mem hb
  exact I.base.free b o ho (I.ok.frf b hb) fun z => I.ok.exfs b z hb
theorem Inv.step {g' : Array GenState} {t' : Nat} {d' : Drawn} {ch : List Addr} (I : Inv X pins σ H s)
  (hch : ∀ b ∈ ch, (b ∈ X.ex ∨ X.s₀.heap.objs.size ≤ b) ∧ b ≠ X.env.locals ∧ (∀ x c, X.env.cells.lookup x = some c → c ≠ b) ∧ ∀ p ∈ X.pn ++ pins, p.1 ≠ b)
  (keep : ∀ b o, b ≠ X.env.locals → b ∉ X.fs → b ∉ ch → s.heap.get? b = some o → H b = none → h'.get? b = some o)
  (slot : ∀ b o, b ≠ X.env.locals → b ∈ X.fs → b ∉ ch → s.heap.get? b = some o → H b = none → ∃ sl, h'.get? b = some { o with slots := sl }) (free : ∀ b o, b ∉ ch → s.heap.get? b = some o → H b = none → H' b = none)
  (there : ∀ b o, b ∉ ch → s.heap.get? b = some o → ∃ o', h'.get? b = some o')
  (tups : ∀ b xs, H b = some (.tup xs) → H' b = some (.tup xs)) (frzs : ∀ b o u, H b = some (.frz o u) → H' b = some (.frz o u)) (tbls : ∀ b ps, H b = some (.tbl ps) → ∃ more, H' b = some (.tbl (ps ++ more)))
  (ns : ∀ m, s.heap.Ns X.env.locals m → h'.Ns X.env.locals m) (hok : HOk X.prog X.w H' h') (hg : AllBare g') :
  Inv X pins σ H' { s with heap := h', gens := g', drawn := d', toks := t' } := by
 have neL : ∀ b o, X.s₀.heap.get? b = some o → b ≠ X.env.locals := fun b o e => Nat.ne_of_lt (Nat.lt_of_lt_of_le (Heap.lt_size e) I.ok.above)
 have neC : ∀ b o, X.s₀.heap.get? b = some o → b ∉ X.ex → b ∉ ch := fun b o e hx hb => by
  rcases (hch b hb).1 with z | z
  ·exact hx z
  ·exact absurd (Nat.lt_of_lt_of_le (Heap.lt_size e) z) (Nat.lt_irrefl _)
 have cellK : ∀ x c, X.env.cells.lookup x = some c → ∀ v, s.heap.IsCell c v → h'.IsCell c v := fun x c e v ⟨o, ho, hd⟩ => by
  have nch : c ∉ ch := fun z => (hch c z).2.2.1 x c e rfl
  by_cases hc : c ∈ X.fs
  ·obtain ⟨sl, q⟩ := slot c o (I.cne x c e) hc nch ho (I.freeC x c e)
   exact ⟨_, q, hd⟩
  ·exact ⟨o, keep c o (I.cne x c e) hc nch ho (I.freeC x c e), hd⟩
 refine ⟨I.ok, I.os, hg, ⟨fun b o e n hb hx => ?_, fun b o e n hb hx => ?_, fun b o e n hx => ?_, fun b o e hx => ?_, fun b xs e => tups b xs (I.base.tups b xs e), fun b o xs e => frzs b o xs (I.base.frzs b o xs e), fun b ps e => ?_⟩, ?_, fun x c e => ?_, ?_, fun x c e => ?_, fun p hp => ?_, hok, I.len⟩
 ·exact keep b o (neL b o e) hb (neC b o e hx) (I.base.keep b o e n hb hx) (I.base.free b o e n hx)
 ·obtain ⟨sl, e1⟩ := I.base.slot b o e n hb hx
  obtain ⟨sl', e2⟩ := slot b _ (neL b o e) hb (neC b o e hx) e1 (I.base.free b o e n hx)
  exact ⟨sl', e2⟩
 ·obtain ⟨o', e1⟩ := I.base.there b o e hx
  exact free b o' (neC b o e hx) e1 (I.base.free b o e n hx)
 ·obtain ⟨o', e1⟩ := I.base.there b o e hx
  exact there b o' (neC b o e hx) e1
 ·obtain ⟨m1, e1⟩ := I.base.tbls b ps e
  obtain ⟨m2, e2⟩ := tbls b _ e1
  exact ⟨m1 ++ m2, by rw [e2, Array.append_assoc]⟩
 ·obtain ⟨m, hn, hl⟩ := I.loc
  refine ⟨m, ns m hn, fun i x v e1 e2 e3 => ?_⟩
  obtain ⟨u, r, l⟩ := hl i x v e1 e2 e3
  refine ⟨u, r, ?_⟩
  rcases l with l | ⟨k, c, e, z⟩
  ·exact .inl l
  ·exact .inr ⟨k, c, e, cellK x c e _ z⟩
 ·obtain ⟨v, z⟩ := I.cell x c e
  exact ⟨v, cellK x c e v z⟩
 ·obtain ⟨m, ⟨o, _, _, ho, _⟩, _⟩ := I.loc
  exact free _ o (fun z => (hch _ z).2.1 rfl) ho I.free
 ·obtain ⟨v, o, ho, hd⟩ := I.cell x c e
  exact free c o (fun z => (hch c z).2.2.1 x c e rfl) ho (I.freeC x c e)
 ·obtain ⟨e, n, ne, nf, d⟩ := I.pin p hp
  have nch : p.1 ∉ ch := fun z => (hch p.1 z).2.2.2 p hp rfl
  exact ⟨keep p.1 p.2 ne nf nch e n, free p.1 p.2 nch e n, ne, nf, d⟩
theorem Inv.un {t' : Nat} (I : Inv X pins σ H s) (u : Un X.fs [] H H' s.heap h') (hok : HOk X.prog X.w H' h') : Inv X pins σ H' { s with heap := h', toks := t' } := by
 obtain ⟨m, ⟨o, es, ep, ho, r⟩, _⟩ := id I.loc
 obtain ⟨sl, hL⟩ := u.any ho I.free (by simp)
 exact I.step (g' := s.gens) (d' := s.drawn) (ch := []) (fun _ z => nomatch z) (fun b o _ hb _ e n => u.keep b o e n hb (by simp)) (fun b o _ hb _ e n => u.slot b o e n hb (by simp)) (fun b o _ e n => u.free b o e n (by simp)) (fun b o _ e => u.there b o e (by simp)) u.tups u.frzs u.tbls (fun m' hm => by
  obtain ⟨o', es', ep', ho', r'⟩ := hm
  rw [ho] at ho'; cases ho'
  exact ⟨_, es', ep', hL, r'⟩) hok I.bare
theorem Inv.call {g' : Array GenState} {t' : Nat} {d' : Drawn} {ch : List Addr} (I : Inv X pins σ H s) (u : Un (frs X.stack) ch H H' s.heap h') (hok : HOk X.prog X.w H' h') (hg : AllBare g')
  (hch : ∀ b ∈ ch, (b ∈ X.ex ∨ X.s₀.heap.objs.size ≤ b) ∧ b ≠ X.env.locals ∧ (∀ x c, X.env.cells.lookup x = some c → c ≠ b) ∧ ∀ p ∈ X.pn ++ pins, p.1 ≠ b) :
  Inv X pins σ H' { s with heap := h', gens := g', drawn := d', toks := t' } := by
 obtain ⟨m, ⟨o, es, ep, ho, r⟩, _⟩ := id I.loc
 obtain ⟨sl, hL⟩ := u.any ho I.free fun z => (hch _ z).2.1 rfl
 exact I.step (ch := ch) hch (fun b o hL hb hc e n => u.keep b o e n (fun z => (List.mem_cons.mp (I.stkSub b z)).elim hL hb) hc) (fun b o _ _ hc e n => u.any e n hc) (fun b o hc e n => u.free b o e n hc) (fun b o hc e => u.there b o e hc) u.tups u.frzs u.tbls (fun m' hm => by
  obtain ⟨o', es', ep', ho', r'⟩ := hm
  rw [ho] at ho'; cases ho'
  exact ⟨_, es', ep', hL, r'⟩) hok hg
theorem Inv.turned {t' : Nat} {it : Addr} (I : Inv X pins σ H s) (k : ∀ b o, b ≠ it → s.heap.get? b = some o → h'.get? b = some o) (hn : H it = none) (hL : it ≠ X.env.locals)
  (h1 : it ∈ X.ex ∨ X.s₀.heap.objs.size ≤ it) (h2 : ∀ x c, X.env.cells.lookup x = some c → c ≠ it) (h3 : ∀ p ∈ X.pn ++ pins, p.1 ≠ it) : Inv X pins σ H { s with heap := h', toks := t' } := by
 have nit : ∀ b u, H b = some u → b ≠ it := fun b u e z => by rw [z, hn] at e; cases e
 refine I.step (g' := s.gens) (d' := s.drawn) (ch := [it]) (fun b hb => ?_) (fun b o _ _ hc e _ => k b o (fun z => hc (by simp [z])) e) (fun b o _ _ hc e _ => ⟨o.slots, k b o (fun z => hc (by simp [z])) e⟩) (fun _ _ _ _ n => n)
  (fun b o hc e => ⟨o, k b o (fun z => hc (by simp [z])) e⟩) (fun _ _ e => e) (fun _ _ _ e => e) (fun b ps e => ⟨#[], by rw [e]; simp⟩) (fun m hm => ?_) (fun b u e => ?_) I.bare
 ·have e : b = it := by simpa using hb
  subst e
  exact ⟨h1, hL, h2, h3⟩
 ·obtain ⟨o, es, ep, ho, r⟩ := hm
  exact ⟨o, es, ep, k _ o (Ne.symm hL) ho, r⟩
 ·refine (I.hok b u e).stay (fun c v hc q => k c v ?_ q) (fun _ q => q) fun _ _ q => q
  rcases hc with z | z
  ·rw [z]; exact nit b u e
  ·exact nit c _ z
theorem Inv.tok (I : Inv X pins σ H s) (t : Nat) : Inv X pins σ H { s with toks := t } := I.un (h' := s.heap) (t' := t) Un.refl I.hok
theorem Inv.kept {t' : Nat} (I : Inv X pins σ H s) (k : ∀ b u, s.heap.get? b = some u → h'.get? b = some u) : Inv X pins σ H { s with heap := h', toks := t' } := I.un (Un.kept k) (I.hok.kept k)
theorem Inv.laid {a : Addr} {o : HO} {t' : Nat} (I : Inv X pins σ H s) (k : ∀ b u, s.heap.get? b = some u → h'.get? b = some u) (hp : s.heap.objs.size ≤ a) (new : ObjOk X.prog X.w (upd H a o) h' a o) :
  Inv X pins σ (upd H a o) { s with heap := h', toks := t' } := I.un (Un.laid k hp (I.hok.fresh hp)) (I.hok.laid k hp new)
theorem Inv.write {x e : Addr} {o : HO} {t' : Nat} (I : Inv X pins σ H s) (mu : Mut (H x)) (he : e = x ∨ H e = some (.own x)) (k : ∀ b u, b ≠ e → s.heap.get? b = some u → h'.get? b = some u) (heo : ∃ u, h'.get? e = some u)
  (new : ObjOk X.prog X.w (upd H x o) h' x o) : Inv X pins σ (upd H x o) { s with heap := h', toks := t' } := I.un (Un.write mu he k heo) (I.hok.write mu he k heo new)
theorem Inv.pins_of {pins' : List (Addr × Obj)} (I : Inv X pins σ H s) (h : ∀ p ∈ pins', s.heap.get? p.1 = some p.2 ∧ H p.1 = none ∧ p.1 ≠ X.env.locals ∧ p.1 ∉ X.fs ∧ ∀ v, p.2.data ≠ .cell v) : Inv X pins' σ H s :=
 ⟨I.ok, I.os, I.bare, I.base, I.loc, I.cell, I.free, I.freeC, fun p hp => (List.mem_append.mp hp).elim (fun z => I.pin p (List.mem_append_left _ z)) (h p), I.hok, I.len⟩
theorem nodup_ix {N : List Str} (hN : N.Nodup) {i j : Nat} {x : Str} (a : N[i]? = some x) (b : N[j]? = some x) : i = j := by
 obtain ⟨h1, e1⟩ := List.getElem?_eq_some_iff.mp a
 obtain ⟨h2, e2⟩ := List.getElem?_eq_some_iff.mp b
 exact (List.getElem_inj hN).mp (e1.trans e2.symm)
theorem store_ok2 {M : Model} {A : Around} {E : Value → Shared → Prop} {i : Nat} {x : Str} {v : V} {u : Value} {Q : Unit → Shared → Prop} (I : Inv X pins σ H s) (hN : X.N.Nodup) (hi : X.N[i]? = some x) (hx : Loc X.env.scope x) (r : RelV v u)
  (h : ∀ s', Inv X pins (σ.set i (some v)) H s' → (∃ a, Heap.SameBut a s.heap s'.heap ∧ (a = X.env.locals ∨ X.env.cells.lookup x = some a)) → Q () s') (hf : X.fn x = true ∨ X.env.scope.names.lookup x = some .local := by first | exact .inl rfl | exact .inr rfl | assumption) : wpAny M A (storeName X.env x u) Q E s := by
 obtain ⟨m, hn, hl⟩ := id I.loc
 have hcls : (X.env.scope.kind == .class || (X.env.scope.kind == .module && X.env.locals != X.env.globals)) = false := by rw [I.ok.kind]; rfl
 have hiσ : i < σ.length := by rw [I.len]; exact (List.getElem?_eq_some_iff.mp hi).1
 have cne := I.cne
 have tracked : ∀ {a : Addr} {h' : Heap}, (∃ o, s.heap.get? a = some o ∧ H a = none) → Heap.SameBut a s.heap h' → HOk X.prog X.w H h' := fun {a h'} ha hs b ob e => by
  obtain ⟨_, _, hfree⟩ := ha
  refine (I.hok b ob e).stay (fun c w' hc q => (hs.2 c ?_).trans q) (fun _ q => q) fun _ _ q => q
  rintro rfl
  rcases hc with rfl | hc
  ·rw [hfree] at e; cases e
  ·rw [hfree] at hc; cases hc
 rcases hx with hk | hk
 ·refine wpAny_storeName_local hk hn (fun h' hn' hs => ?_) hcls
  obtain ⟨oL, _, _, hoL, _⟩ := id hn
  refine h _ ⟨I.ok, I.os, I.bare, ⟨fun b o e n hb hx => ?_, fun b o e n hb hx => ?_, I.base.free, fun b o e hx => ?_, I.base.tups, I.base.frzs, I.base.tbls⟩, ⟨_, hn', fun j y v' e1 e2 e3 => ?_⟩, fun y c e => ?_, I.free, I.freeC, fun p hp => ?_, tracked ⟨oL, hoL, I.free⟩ hs, by simpa using I.len⟩ ⟨_, hs, .inl rfl⟩
  ·exact (hs.2 b (Nat.ne_of_lt (Nat.lt_of_lt_of_le (Heap.lt_size e) I.ok.above))).trans (I.base.keep b o e n hb hx)
  ·obtain ⟨sl, e1⟩ := I.base.slot b o e n hb hx
   exact ⟨sl, (hs.2 b (Nat.ne_of_lt (Nat.lt_of_lt_of_le (Heap.lt_size e) I.ok.above))).trans e1⟩
  ·obtain ⟨o', e1⟩ := I.base.there b o e hx
   exact ⟨o', (hs.2 b (Nat.ne_of_lt (Nat.lt_of_lt_of_le (Heap.lt_size e) I.ok.above))).trans e1⟩
  ·by_cases hj : j = i
   ·subst hj
    rw [hi] at e1; cases e1
    rw [List.getElem?_set_self hiσ] at e2
    cases e2
    exact ⟨u, r, .inl ⟨hk, by simp⟩⟩
   ·rw [List.getElem?_set_ne (Ne.symm hj)] at e2
    obtain ⟨u', r', q⟩ := hl j y v' e1 e2 e3
    refine ⟨u', r', ?_⟩
    rcases q with ⟨k, e⟩ | ⟨k, c, e, z⟩
    ·refine .inl ⟨k, ?_⟩
     have : y ≠ x := fun e => hj (nodup_ix hN e1 (e ▸ hi))
     simp [this, e]
    ·exact .inr ⟨k, c, e, z.sameBut hs (cne y c e)⟩
  ·obtain ⟨w', z⟩ := I.cell y c e
   exact ⟨w', z.sameBut hs (cne y c e)⟩
  ·obtain ⟨e, n, ne, nf, d⟩ := I.pin p hp
   exact ⟨(hs.2 p.1 ne).trans e, n, ne, nf, d⟩
 ·have hfn : X.fn x = true := by
   rcases hf with z | z
   ·exact z
   ·rw [z] at hk; cases hk
  obtain ⟨c, hc⟩ := I.ok.has x (.inl hk)
  obtain ⟨w', z⟩ := I.cell x c hc
  refine wpAny_storeName_cell I.ok.kind hk hc z (fun h' hc' hs => ?_)
  obtain ⟨oc, hoc, hocd⟩ := id z
  refine h { s with heap := h' } ⟨I.ok, I.os, I.bare, ⟨fun b o e n hb hx => ?_, fun b o e n hb hx => ?_, I.base.free, fun b o e hx => ?_, I.base.tups, I.base.frzs, I.base.tbls⟩, ⟨m, hn.sameBut hs (Ne.symm (cne x c hc)), fun j y v' e1 e2 e3 => ?_⟩, fun y c' e => ?_, I.free, I.freeC, fun p hp => ?_, tracked ⟨oc, hoc, I.freeC x c hc⟩ hs, by simpa using I.len⟩ ⟨c, hs, .inr hc⟩
  ·exact (hs.2 b (Nat.ne_of_lt (Nat.lt_of_lt_of_le (Heap.lt_size e) (I.ok.cab x c hfn hc)))).trans (I.base.keep b o e n hb hx)
  ·obtain ⟨sl, e1⟩ := I.base.slot b o e n hb hx
   exact ⟨sl, (hs.2 b (Nat.ne_of_lt (Nat.lt_of_lt_of_le (Heap.lt_size e) (I.ok.cab x c hfn hc)))).trans e1⟩
  ·obtain ⟨o', e1⟩ := I.base.there b o e hx
   exact ⟨o', (hs.2 b (Nat.ne_of_lt (Nat.lt_of_lt_of_le (Heap.lt_size e) (I.ok.cab x c hfn hc)))).trans e1⟩
  ·by_cases hj : j = i
   ·subst hj
    rw [hi] at e1; cases e1
    rw [List.getElem?_set_self hiσ] at e2
    cases e2
    exact ⟨u, r, .inr ⟨.inl hk, c, hc, hc'⟩⟩
   ·rw [List.getElem?_set_ne (Ne.symm hj)] at e2
    obtain ⟨u', r', q⟩ := hl j y v' e1 e2 e3
    refine ⟨u', r', ?_⟩
    rcases q with q | ⟨k, c', e, z'⟩
    ·exact .inl q
    ·refine .inr ⟨k, c', e, z'.sameBut hs ?_⟩
     rintro rfl
     exact hj (nodup_ix hN e1 (I.ok.inj _ _ _ e hc ▸ hi))
  ·by_cases hcc : c' = c
   ·subst hcc; exact ⟨_, hc'⟩
   ·obtain ⟨w2, z2⟩ := I.cell y c' e
    exact ⟨w2, z2.sameBut hs hcc⟩
  ·obtain ⟨e, n, ne, nf, d⟩ := I.pin p hp
   refine ⟨(hs.2 p.1 ?_).trans e, n, ne, nf, d⟩
   intro q
   rw [q, hoc] at e
   have q' : oc = p.2 := Option.some.inj e
   exact d w' (by rw [← q']; exact hocd)
theorem store_ok {M : Model} {A : Around} {E : Value → Shared → Prop} {i : Nat} {x : Str} {v : V} {u : Value} {Q : Unit → Shared → Prop} (I : Inv X pins σ H s) (hN : X.N.Nodup) (hi : X.N[i]? = some x) (hx : Loc X.env.scope x) (r : RelV v u)
  (h : ∀ s', Inv X pins (σ.set i (some v)) H s' → Q () s') (hf : X.fn x = true ∨ X.env.scope.names.lookup x = some .local := by first | exact .inl rfl | exact .inr rfl | assumption) : wpAny M A (storeName X.env x u) Q E s :=
 store_ok2 I hN hi hx r (fun s' I' _ => h s' I') hf
end
abbrev XK := Value → Option Addr → Hp → Prop
abbrev St := List (Option V)
abbrev VK := V → Hp → Prop
abbrev TE := St → Hp → VK → Prop
abbrev TT := St → Hp → (Bool → Hp → Prop) → Prop
abbrev TA := St → Hp → (List V → Hp → Prop) → Prop
structure Ends where
 nx : St → Hp → Prop
 rt : VK
 bk : St → Hp → Prop := fun _ _ => False
 ct : St → Hp → Prop := fun _ _ => False
abbrev TS := Ends → St → Hp → Prop
noncomputable def EP (X : Cx) (pins : List (Addr × Obj)) (σ : St) (Q : VK) (u : Value) (s' : Shared) : Prop := ∃ v H', Inv X pins σ H' s' ∧ RelV v u ∧ Q v H'
noncomputable def TP (X : Cx) (pins : List (Addr × Obj)) (σ : St) (Q : Bool → Hp → Prop) (b : Bool) (s' : Shared) : Prop := ∃ H', Inv X pins σ H' s' ∧ Q b H'
noncomputable def AP (X : Cx) (pins : List (Addr × Obj)) (σ : St) (Q : List V → Hp → Prop) (us : List Value) (s' : Shared) : Prop := ∃ vs H', Inv X pins σ H' s' ∧ Vals vs us ∧ Q vs H'
noncomputable def SP (X : Cx) (pins : List (Addr × Obj)) (D : Ends) (f : Flow) (s' : Shared) : Prop :=
 match f with
 | .next => ∃ σ' H', Inv X pins σ' H' s' ∧ D.nx σ' H'
 | .brk => ∃ σ' H', Inv X pins σ' H' s' ∧ D.bk σ' H'
 | .cont => ∃ σ' H', Inv X pins σ' H' s' ∧ D.ct σ' H'
 | .ret u => ∃ v σ' H', Inv X pins σ' H' s' ∧ RelV v u ∧ D.rt v H'
noncomputable def PE (X : Cx) (e : Expr) (t : TE) : Prop :=
 ∀ (pins : List (Addr × Obj)) (s : Shared) (σ : St) (H : Hp) (Q : VK), Inv X pins σ H s → t σ H Q → wpAny (model X.prog X.w) X.A (eval e X.env) (EP X pins σ Q) X.xe s
noncomputable def PT (X : Cx) (e : Expr) (t : TT) : Prop :=
 ∀ (pins : List (Addr × Obj)) (s : Shared) (σ : St) (H : Hp) (Q : Bool → Hp → Prop), Inv X pins σ H s → t σ H Q → wpAny (model X.prog X.w) X.A (isTrue e X.env (eval e X.env)) (TP X pins σ Q) X.xe s
noncomputable def PW (X : Cx) (e : Expr) (t : TT) : Prop :=
 ∀ (whole : Sem Value) (pins : List (Addr × Obj)) (s : Shared) (σ : St) (H : Hp) (Q : Bool → Hp → Prop), Inv X pins σ H s → t σ H Q → wpAny (model X.prog X.w) X.A (isTrue e X.env whole) (TP X pins σ Q) X.xe s
theorem PW.pt {X : Cx} {e : Expr} {t : TT} (h : PW X e t) : PT X e t := h _
noncomputable def PA (X : Cx) (es : List Expr) (t : TA) : Prop :=
 ∀ (pos : Pos) (pins : List (Addr × Obj)) (s : Shared) (σ : St) (H : Hp) (Q : List V → Hp → Prop), Inv X pins σ H s → t σ H Q → wpAny (model X.prog X.w) X.A (spliced (backTo pos (starEach es X.env))) (AP X pins σ Q) X.xe s
noncomputable def PS (X : Cx) (st : Stmt) (t : TS) : Prop :=
 ∀ (pins : List (Addr × Obj)) (s : Shared) (σ : St) (H : Hp) (D : Ends), Inv X pins σ H s → t D σ H → wpAny (model X.prog X.w) X.A (exec st X.env) (SP X pins D) X.xe s
noncomputable def PSs (X : Cx) (st : List Stmt) (t : TS) : Prop :=
 ∀ (pins : List (Addr × Obj)) (s : Shared) (σ : St) (H : Hp) (D : Ends), Inv X pins σ H s → t D σ H → wpAny (model X.prog X.w) X.A (execs st X.env) (SP X pins D) X.xe s
theorem thn {α : Type} {t : Sem α} {Q Q' : α → Shared → Prop} {M : Model} {A : Around} {E : Value → Shared → Prop} {s : Shared} (h : wpAny M A t Q E s) (hQ : ∀ a s, Q a s → Q' a s) : wpAny M A t Q' E s := wpAny_mono h hQ fun _ _ x => x
end L2
namespace L2
open PySem PySem.Spec PyProof.Rows
section
variable {X : Cx}
noncomputable def tVar (i : Nat) : TE := fun σ H Q => ∃ v, σ[i]? = some (some v) ∧ Q v H
noncomputable def tC (v : V) : TE := fun _ H Q => Q v H
theorem pe_var {i : Nat} {x : Str} {pos : Pos} (hN : X.N[i]? = some x) (hv : Vis X.env.scope x) (hd : (x == ("__debug__" : Str)) = false := by decide) (hcd : (x == ("__classdict__" : Str)) = false := by decide) : PE X (.Name x pos) (tVar i) := by
 intro pins s σ H Q I h
 obtain ⟨v, e, h⟩ := h
 obtain ⟨m, hn, hl⟩ := I.loc
 obtain ⟨u, r, l⟩ := hl i x v hN e hv
 have fin : EP X pins σ Q u s := ⟨v, H, I, r, h⟩
 rcases l with ⟨hk, hm⟩ | ⟨hk, c, hc, hcell⟩
 ·exact wpAny_Name (wpAny_loadName_local I.ok.kind hk hn hm fin) hd
 ·rcases hk with hk | hk
  ·exact wpAny_Name (wpAny_loadName_cell I.ok.kind hk hc hcell fin) hd
  ·exact wpAny_Name (wpAny_loadName_free I.ok.kind hk hc hcell fin hcd) hd
theorem pe_int {i j pos} : PE X (.Constant (.int i) j pos) (tC (.int i)) := fun _ _ _ H _ I h => wpAny_Constant_int ⟨.int i, H, I.tok _, ⟨_, rfl⟩, h⟩
theorem pe_bl {b j pos} : PE X (.Constant (.bool b) j pos) (tC (.bl b)) := fun _ _ _ H _ I h => Constant_bool ⟨.bl b, H, I, rfl, h⟩
theorem pe_non {j pos} : PE X (.Constant .none j pos) (tC .non) := fun _ _ _ H _ I h => Constant_none ⟨.non, H, I, rfl, h⟩
theorem pe_str {x j pos} : PE X (.Constant (.str x) j pos) (tC (.str x)) := fun _ _ _ H _ I h => Calls.Constant_str ⟨.str x, H, I.tok _, ⟨_, rfl⟩, h⟩
noncomputable def Gl (X : Cx) (x : Str) : Prop := X.env.kindOf x = some .globalImplicit
theorem ld_glob {E : Value → Shared → Prop} {pins : List (Addr × Obj)} {s : Shared} {σ : St} {H : Hp} {x : Str} {u : Value} {pos : Pos} {Q : Value → Shared → Prop} (I : Inv X pins σ H s) (hg : Gl X x) (hm : X.mg x = some u) (h : Q u s)
  (hd : (x == ("__debug__" : Str)) = false := by decide) : wpAny (model X.prog X.w) X.A (eval (.Name x pos) X.env) Q E s :=
 Calls.Name_function_global I.ok.kind hg (Calls.loadGlobal_global (by rw [I.ok.glob]; exact I.mod.glob.keeps I.bk) hm h) hd
theorem ld_blt {E : Value → Shared → Prop} {pins : List (Addr × Obj)} {s : Shared} {σ : St} {H : Hp} {x : Str} {u : Value} {pos : Pos} {Q : Value → Shared → Prop} (I : Inv X pins σ H s) (hg : Gl X x) (hm : X.mg x = none) (hv : bootBuiltins x = some u) (h : Q u s)
  (hn : x ≠ "__name__" := by decide) (hd : (x == ("__debug__" : Str)) = false := by decide) : wpAny (model X.prog X.w) X.A (eval (.Name x pos) X.env) Q E s := by
 obtain ⟨mb, h1, h2⟩ := I.mod.blt
 exact Calls.Name_function_global I.ok.kind hg (Calls.loadGlobal_builtin (by rw [I.ok.glob]; exact I.mod.glob.keeps I.bk) hm (by rw [I.ok.blt]; exact h1.keeps I.bk) ((h2 x hn).trans hv) h) hd
theorem pe_bltn {x : Str} {v : V} {u : Value} {pos : Pos} (hg : Gl X x) (hm : X.mg x = none) (hv : bootBuiltins x = some u) (r : RelV v u) (hn : x ≠ "__name__" := by decide) (hd : (x == ("__debug__" : Str)) = false := by decide) : PE X (.Name x pos) (tC v) :=
 fun _ _ _ H _ I h => ld_blt I hg hm hv ⟨v, H, I, r, h⟩ hn hd
variable {a b : Expr} {ta tb : TE} {pos : Pos}
noncomputable def tB (t : TE) : TT := fun σ H Q => t σ H fun x H1 => ∃ c, x = .bl c ∧ Q c H1
theorem pt_val {e : Expr} {t : TE} (h : PE X e t) (he : ∀ whole, isTrue e X.env whole = (do let v ← whole; standAt e.pos; holding [v] (truthy v)) := by intro _; rfl) : PT X e (tB t) := by
 intro pins s σ H Q I hw
 refine isTrue_plain (thn (h pins s σ H _ I hw) fun v s1 ⟨x, H1, I1, r1, q1⟩ => ?_) (he _)
 obtain ⟨d, rfl, q⟩ := q1
 cases r1
 exact wpAny_truthy_bool ⟨H1, I1, q⟩
variable {tA tB' : TT} {rest : List Expr}
noncomputable def tAnd (t u : TT) : TT := fun σ H Q => t σ H fun c H1 => if c = true then u σ H1 Q else Q false H1
noncomputable def tOr (t u : TT) : TT := fun σ H Q => t σ H fun c H1 => if c = true then Q true H1 else u σ H1 Q
noncomputable def tNot (t : TT) : TT := fun σ H Q => t σ H fun c H1 => Q (!c) H1
theorem pw_and1 (ha : PT X a tA) : PW X (.BoolOp .And [a] pos) tA := by
 intro wh pins s σ H Q I h
 refine isTrue_and (thn (ha pins s σ H Q I h) fun c s1 e => ?_)
 cases c with
 | true => exact isTrue_and_nil e
 | false => exact e
theorem pw_or1 (ha : PT X a tA) : PW X (.BoolOp .Or [a] pos) tA := by
 intro wh pins s σ H Q I h
 refine isTrue_or (thn (ha pins s σ H Q I h) fun c s1 e => ?_)
 cases c with
 | false => exact isTrue_or_nil e
 | true => exact e
theorem pw_and (ha : PT X a tA) (hb : PW X (.BoolOp .And (b :: rest) pos) tB') : PW X (.BoolOp .And (a :: b :: rest) pos) (tAnd tA tB') := by
 intro wh pins s σ H Q I h
 refine isTrue_and (thn (ha pins s σ H _ I h) fun c s1 ⟨H1, I1, q1⟩ => ?_)
 cases c with
 | true => exact hb wh pins s1 σ H1 Q I1 q1
 | false => exact ⟨H1, I1, q1⟩
theorem pw_or (ha : PT X a tA) (hb : PW X (.BoolOp .Or (b :: rest) pos) tB') : PW X (.BoolOp .Or (a :: b :: rest) pos) (tOr tA tB') := by
 intro wh pins s σ H Q I h
 refine isTrue_or (thn (ha pins s σ H _ I h) fun c s1 ⟨H1, I1, q1⟩ => ?_)
 cases c with
 | true => exact ⟨H1, I1, q1⟩
 | false => exact hb wh pins s1 σ H1 Q I1 q1
theorem pt_not (ha : PT X a tA) : PT X (.UnaryOp .Not a pos) (tNot tA) := by
 intro pins s σ H Q I h
 exact isTrue_not (ha pins s σ H (fun c H1 => Q (!c) H1) I h)
noncomputable def tAndV (ta tb : TE) : TE := fun σ H Q => ta σ H fun x H1 => ∃ c, x = .bl c ∧ if c = true then tb σ H1 Q else Q (.bl false) H1
noncomputable def tOrV (ta tb : TE) : TE := fun σ H Q => ta σ H fun x H1 => ∃ c, x = .bl c ∧ if c = true then Q (.bl true) H1 else tb σ H1 Q
theorem pe_one {op} {t : TE} (h : PE X a t) : PE X (.BoolOp op [a] pos) t := fun pins s σ H Q I hw => BoolOp_one (h pins s σ H Q I hw)
theorem pe_and (ha : PE X a ta) (hb : PE X (.BoolOp .And (b :: rest) pos) tb) : PE X (.BoolOp .And (a :: b :: rest) pos) (tAndV ta tb) := by
 intro pins s σ H Q I h
 refine BoolOp_and (thn (ha pins s σ H _ I h) fun v s1 ⟨x, H1, I1, r1, q1⟩ => ?_)
 obtain ⟨c, rfl, q1⟩ := q1
 cases r1
 refine wpAny_truthy_bool ?_
 cases c with
 | true => exact hb pins s1 σ H1 Q I1 q1
 | false => exact ⟨.bl false, H1, I1, rfl, q1⟩
theorem pe_or (ha : PE X a ta) (hb : PE X (.BoolOp .Or (b :: rest) pos) tb) : PE X (.BoolOp .Or (a :: b :: rest) pos) (tOrV ta tb) := by
 intro pins s σ H Q I h
 refine BoolOp_or (thn (ha pins s σ H _ I h) fun v s1 ⟨x, H1, I1, r1, q1⟩ => ?_)
 obtain ⟨c, rfl, q1⟩ := q1
 cases r1
 refine wpAny_truthy_bool ?_
 cases c with
 | false => exact hb pins s1 σ H1 Q I1 q1
 | true => exact ⟨.bl true, H1, I1, rfl, q1⟩
noncomputable def tIf (t : TT) (ta tb : TE) : TE := fun σ H Q => t σ H fun c H1 => if c = true then ta σ H1 Q else tb σ H1 Q
theorem pe_ifExp {c : Expr} (hc : PT X c tA) (ha : PE X a ta) (hb : PE X b tb) : PE X (.IfExp c a b pos) (tIf tA ta tb) := by
 intro pins s σ H Q I h
 refine wpAny_IfExp (thn (hc pins s σ H _ I h) fun d s1 ⟨H1, I1, q1⟩ => ?_)
 cases d with
 | true => exact ha pins s1 σ H1 Q I1 q1
 | false => exact hb pins s1 σ H1 Q I1 q1
end
end L2
namespace L2
open PySem PySem.Spec PyProof.Rows
noncomputable def SqL (K : PySem.W.Frag) (H : Hp) (a : Addr) (xs : List V) : Prop :=
 Rd H a (.lst xs) ∨
  ∃ (o : Obj) (its : Array Value) (n : Nat), K.lookup a = some o ∧ o.cls = .type "list" ∧ o.dict = none ∧ o.data = .seq its n ∧ its.size ≤ sizeLine ∧ Vals xs its.toList
noncomputable def SqT (K : PySem.W.Frag) (H : Hp) (a : Addr) (xs : List V) : Prop :=
 Rd H a (.tup xs) ∨
  ∃ (o : Obj) (its : Array Value) (n : Nat), K.lookup a = some o ∧ o.cls = .type "tuple" ∧ o.data = .seq its n ∧ its.size ≤ sizeLine ∧ Vals xs its.toList
noncomputable def absV : Value → Option V
 | .none => some .non
 | .bool b => some (.bl b)
 | .int i _ => some (.int i)
 | .str x _ => some (.str x)
 | .bytes b _ => some (.byt b)
 | .float b _ => some (.flt b)
 | .ref a => some (.ref a)
 | .type n => some (.ty n)
 | _ => none
theorem RelV.abs {x : V} {u : Value} (r : RelV x u) : absV u = some x := by
 cases x with
 | non => cases r; rfl
 | bl _ => cases r; rfl
 | int _ => obtain ⟨t, rfl⟩ := r; rfl
 | str _ => obtain ⟨t, rfl⟩ := r; rfl
 | byt _ => obtain ⟨t, rfl⟩ := r; rfl
 | flt _ => obtain ⟨t, rfl⟩ := r; rfl
 | ref _ => cases r; rfl
 | ty _ => cases r; rfl
theorem RelV.inj {x y : V} {u : Value} (r : RelV x u) (q : RelV y u) : x = y := Option.some.inj (r.abs.symm.trans q.abs)
theorem Vals.inj : ∀ {xs ys : List V} {us : List Value}, Vals xs us → Vals ys us → xs = ys := by
 intro xs ys us h
 induction h generalizing ys with
 | nil => intro q; cases q; rfl
 | cons r t ih => intro q; cases q with | cons r' t' => rw [r.inj r', ih t']
section
variable {X : Cx} {pins : List (Addr × Obj)} {σ : St} {H : Hp} {s : Shared} {a : Addr} {xs ys : List V}
theorem SqL.of {K : PySem.W.Frag} (h : H a = some (.lst xs)) : SqL K H a xs := .inl (.inl h)
theorem SqT.of {K : PySem.W.Frag} (h : H a = some (.tup xs)) : SqT K H a xs := .inl (.inl h)
theorem Inv.list (I : Inv X pins σ H s) (h : SqL X.K H a xs) : ∃ its : List Value, Vals xs its ∧ PlainL s.heap a its.toArray ∧ xs.length ≤ sizeLine := by
 rcases h with h | ⟨o, its, n, hk, hc, hd, hs, hz, r⟩
 ·obtain ⟨z, its, n, r, e⟩ := h.ok I.hok
  exact ⟨its, r, ⟨_, n, e, rfl, rfl, rfl⟩, z⟩
 ·refine ⟨its.toList, r, ⟨o, n, I.kIn a o hk, hc, hd, by simpa using hs⟩, ?_⟩
  have e := r.length
  simp only [Array.length_toList] at e
  omega
theorem Inv.tuple (I : Inv X pins σ H s) (h : SqT X.K H a xs) : ∃ its : List Value, Vals xs its ∧ IsTup s.heap a its.toArray ∧ xs.length ≤ sizeLine := by
 rcases h with h | ⟨o, its, n, hk, hc, hs, hz, r⟩
 ·obtain ⟨z, its, r, p⟩ := h.ok I.hok
  exact ⟨its, r, p, z⟩
 ·refine ⟨its.toList, r, ⟨o, I.kIn a o hk, hc, n, by simpa using hs⟩, ?_⟩
  have e := r.length
  simp only [Array.length_toList] at e
  omega
theorem Inv.list_inj (I : Inv X pins σ H s) (h : SqL X.K H a xs) (h' : SqL X.K H a ys) : xs = ys := by
 obtain ⟨its, r, ⟨o, n, e, _, _, d⟩, _⟩ := I.list h
 obtain ⟨its', r', ⟨o', n', e', _, _, d'⟩, _⟩ := I.list h'
 rw [e] at e'; cases e'
 rw [d] at d'
 injection d' with d1 _
 have : its = its' := by simpa using congrArg Array.toList d1
 subst this
 exact r.inj r'
end
abbrev Cx.wish (X : Cx) (E : Value → Shared → Prop) : Cx := { X with xe := E }
abbrev Cx.nox (X : Cx) : Cx := X.wish fun _ _ => False
theorem Cx.Ok.wish {X : Cx} (ok : X.Ok) (E : Value → Shared → Prop) : (X.wish E).Ok :=
 ⟨ok.mod, ok.kind, ok.glob, ok.blt, ok.above, ok.inj, ok.has, ok.cab, ok.hd, ok.frames, ok.stk, ok.exf, ok.bs, ok.bsz, ok.noex, ok.exfs, ok.funs, ok.frf⟩
theorem Cx.Ok.unwish {X : Cx} {E : Value → Shared → Prop} (ok : (X.wish E).Ok) : X.Ok :=
 ⟨ok.mod, ok.kind, ok.glob, ok.blt, ok.above, ok.inj, ok.has, ok.cab, ok.hd, ok.frames, ok.stk, ok.exf, ok.bs, ok.bsz, ok.noex, ok.exfs, ok.funs, ok.frf⟩
section
variable {X : Cx} {pins : List (Addr × Obj)} {σ : St} {H : Hp} {s : Shared} {E : Value → Shared → Prop}
theorem Inv.wish (I : Inv X pins σ H s) (E : Value → Shared → Prop) : Inv (X.wish E) pins σ H s := ⟨I.ok.wish E, I.os, I.bare, I.base, I.loc, I.cell, I.free, I.freeC, I.pin, I.hok, I.len⟩
theorem Inv.unwish (I : Inv (X.wish E) pins σ H s) : Inv X pins σ H s := ⟨I.ok.unwish, I.os, I.bare, I.base, I.loc, I.cell, I.free, I.freeC, I.pin, I.hok, I.len⟩
theorem SP.unwish {D : Ends} {f : Flow} {s' : Shared} (h : SP (X.wish E) pins D f s') : SP X pins D f s' := by
 cases f with
 | next => obtain ⟨σ', H', I, q⟩ := h; exact ⟨σ', H', I.unwish, q⟩
 | brk => obtain ⟨σ', H', I, q⟩ := h; exact ⟨σ', H', I.unwish, q⟩
 | cont => obtain ⟨σ', H', I, q⟩ := h; exact ⟨σ', H', I.unwish, q⟩
 | ret u => obtain ⟨v, σ', H', I, r, q⟩ := h; exact ⟨v, σ', H', I.unwish, r, q⟩
theorem PE.nox {e : Expr} {t : TE} (h : PE X.nox e t) : PE X e t := fun pins s σ H Q I hw =>
 wpAny_mono (h pins s σ H Q (I.wish _) hw) (fun _ _ ⟨v, H', I', r, q⟩ => ⟨v, H', I'.unwish, r, q⟩) fun _ _ z => False.elim z
theorem PT.nox {e : Expr} {t : TT} (h : PT X.nox e t) : PT X e t := fun pins s σ H Q I hw =>
 wpAny_mono (h pins s σ H Q (I.wish _) hw) (fun _ _ ⟨H', I', q⟩ => ⟨H', I'.unwish, q⟩) fun _ _ z => False.elim z
theorem PSs.nox {st : List Stmt} {t : TS} (h : PSs X.nox st t) : PSs X st t := fun pins s σ H D I hw =>
 wpAny_mono (h pins s σ H D (I.wish _) hw) (fun _ _ q => q.unwish) fun _ _ z => False.elim z
end
section
variable {X : Cx} {st : Stmt} {rest : List Stmt} {t u : TS} {e : Expr} {te : TE} {pos : Pos}
noncomputable def tNext : TS := fun D σ H => D.nx σ H
noncomputable def tSeq (t u : TS) : TS := fun D σ H => t { D with nx := u D } σ H
theorem pss_nil : PSs X [] tNext := fun _ _ σ H _ I h => wpAny_execs_nil ⟨σ, H, I, h⟩
theorem pss_cons (h1 : PS X st t) (h2 : PSs X rest u) : PSs X (st :: rest) (tSeq t u) := by
 intro pins s σ H D I h
 refine wpAny_execs_cons (thn (h1 pins s σ H { D with nx := u D } I h) fun f s1 q => ?_)
 cases f with
 | next =>
  obtain ⟨σ', H', I', q⟩ := q
  exact h2 pins s1 σ' H' D I' q
 | ret v => exact q
 | brk => exact q
 | cont => exact q
theorem pss_one (h1 : PS X st t) : PSs X [st] t := by
 intro pins s σ H D I h
 refine wpAny_execs_cons (thn (h1 pins s σ H D I h) fun f s1 q => ?_)
 cases f with
 | next => exact wpAny_execs_nil q
 | ret v => exact q
 | brk => exact q
 | cont => exact q
theorem Inv.quiet {pins : List (Addr × Obj)} {σ : St} {H : Hp} {s : Shared} (I : Inv X pins σ H s) : interactive X.env = false := by simp [interactive, I.ok.kind]
noncomputable def tDrop (te : TE) : TS := fun D σ H => te σ H fun _ H1 => D.nx σ H1
theorem ps_expr (he : PE X e te) (hs : swapsWith e none pos.line X.env = pure false := by rfl) : PS X (.Expr e pos) (tDrop te) := by
 intro pins s σ H D I h
 exact wpAny_Expr_any (thn (he pins s σ H _ I h) fun v s1 ⟨x, H1, I1, r1, q1⟩ => ⟨σ, H1, I1, q1⟩) I.quiet hs
noncomputable def tRet (te : TE) : TS := fun D σ H => te σ H D.rt
theorem ps_ret (he : PE X e te) : PS X (.Return (some e) pos) (tRet te) := by
 intro pins s σ H D I h
 exact wpAny_Return_some (thn (he pins s σ H _ I h) fun v s1 ⟨x, H1, I1, r1, q1⟩ => ⟨x, σ, H1, I1, r1, q1⟩)
noncomputable def tIfS (c : TT) (t u : TS) : TS := fun D σ H => c σ H fun b H1 => if b = true then t D σ H1 else u D σ H1
theorem ps_if {c : Expr} {a b : List Stmt} {tc : TT} (hc : PT X c tc) (ha : PSs X a t) (hb : PSs X b u) : PS X (.If c a b pos) (tIfS tc t u) := by
 intro pins s σ H D I h
 refine wpAny_If (thn (hc pins s σ H _ I h) fun d s1 ⟨H1, I1, q1⟩ => ?_)
 cases d with
 | true => exact ha pins s1 σ H1 D I1 q1
 | false => exact hb pins s1 σ H1 D I1 q1
end
abbrev TG := V → St → Hp → (St → Hp → Prop) → Prop
noncomputable def PG (X : Cx) (target : Expr) (t : TG) : Prop :=
 ∀ (pins : List (Addr × Obj)) (s : Shared) (σ : St) (H : Hp) (v : V) (u : Value) (Q : St → Hp → Prop), Inv X pins σ H s → RelV v u → t v σ H Q →
  wpAny (model X.prog X.w) X.A (assign target X.env u) (fun _ s' => ∃ σ' H', Inv X pins σ' H' s' ∧ Q σ' H') X.xe s
abbrev TSet := V → V → V → Hp → (Hp → Prop) → Prop
noncomputable def PSet (X : Cx) (t : TSet) : Prop :=
 ∀ (pins : List (Addr × Obj)) (s : Shared) (σ : St) (H : Hp) (o i v : V) (ov iv u : Value) (Q : Hp → Prop), Inv X pins σ H s → RelV o ov → RelV i iv → RelV v u → t o i v H Q →
  wpAny (model X.prog X.w) X.A (setItem ov iv u) (fun _ s' => ∃ H', Inv X pins σ H' s' ∧ Q H') X.xe s
section
variable {X : Cx} {pos : Pos}
noncomputable def gName (i : Nat) : TG := fun v σ H Q => Q (σ.set i (some v)) H
theorem pg_name {i : Nat} {x : Str} (hN : X.N.Nodup) (hi : X.N[i]? = some x) (hx : Loc X.env.scope x) (hf : X.fn x = true ∨ X.env.scope.names.lookup x = some .local := by first | exact .inl rfl | exact .inr rfl | assumption) : PG X (.Name x pos) (gName i) := by
 intro pins s σ H v u Q I r h
 exact wpAny_assign_Name (store_ok I hN hi hx r (fun s' I' => ⟨_, H, I', h⟩) hf)
noncomputable def gSub (to ti : TE) (t : TSet) : TG := fun v σ H Q => to σ H fun o H1 => ti σ H1 fun i H2 => t o i v H2 fun H3 => Q σ H3
theorem pg_sub {o i : Expr} {to ti : TE} {t : TSet} (ho : PE X o to) (hi : PE X i ti) (hs : PSet X t)
  (ha : ∀ v, assign (.Subscript o i pos) X.env v = (do
   let ov ← holding [v] (eval o X.env)
   let iv ← holding [v, ov] (eval i X.env)
   standAt pos
   holding [v, ov, iv] (setItem ov iv v)
   release [v, ov, iv] []) := by intro _; rfl) : PG X (.Subscript o i pos) (gSub to ti t) := by
 intro pins s σ H v u Q I r h
 rw [ha]
 refine wpAny_bind (wpAny_holding (thn (ho pins s σ H _ I h) fun ov s1 ⟨x, H1, I1, r1, q1⟩ => ?_))
 refine wpAny_bind (wpAny_holding (thn (hi pins s1 σ H1 _ I1 q1) fun iv s2 ⟨y, H2, I2, r2, q2⟩ => ?_))
 refine wpAny_bind (wpAny_standAt (wpAny_bind (wpAny_holding (thn (hs pins s2 σ H2 x y v ov iv u _ I2 r1 r2 r q2) fun _ s3 ⟨H3, I3, q3⟩ => ?_))))
 exact wpAny_release ⟨σ, H3, I3, q3⟩
noncomputable def tAsg (te : TE) (g : TG) : TS := fun D σ H => te σ H fun x H1 => g x σ H1 D.nx
theorem ps_asg {tg e : Expr} {te : TE} {g : TG} (he : PE X e te) (hg : PG X tg g) (hs : swapsWithSole [tg] e pos.line X.env = pure false := by rfl) (hw : swappedStores [tg] e X.env = pure none := by rfl)
  (h1 : (assignEach [tg] X.env).map (·.2) = [assign tg X.env] := by rfl) : PS X (.Assign [tg] e pos) (tAsg te g) := by
 intro pins s σ H D I h
 refine wpAny_Assign_stores (thn (he pins s σ H _ I h) fun v s1 ⟨x, H1, I1, r1, q1⟩ => ?_) hs hw
 rw [h1]
 exact thn (hg pins s1 σ H1 x v _ I1 r1 q1) fun _ s2 q => q
theorem ps_set {i : Nat} {x : Str} {e : Expr} {te : TE} {pos' : Pos} (hN : X.N.Nodup) (hi : X.N[i]? = some x) (hx : Loc X.env.scope x) (he : PE X e te) (hs : swapsWith e (some (.Name x pos')) pos.line X.env = pure false := by rfl) (hf : X.fn x = true ∨ X.env.scope.names.lookup x = some .local := by first | exact .inl rfl | exact .inr rfl | assumption) :
  PS X (.Assign [.Name x pos'] e pos) (tAsg te (gName i)) := by
 intro pins s σ H D I h
 refine wpAny_Assign_Name (thn (he pins s σ H _ I h) fun v s1 ⟨y, H1, I1, r1, q1⟩ => ?_) hs
 exact store_ok I1 hN hi hx r1 (fun s2 I2 => ⟨_, H1, I2, q1⟩) hf
noncomputable def tPar (i j : Nat) (ta : TA) : TS := fun D σ H => ta σ H fun vs H1 => ∃ v w, vs = [v, w] ∧ D.nx ((σ.set i (some v)).set j (some w)) H1
theorem ps_par {i j : Nat} {x y : Str} {a b : Expr} {ta : TA} {px py pt : Pos} {kt k2 pt2} (hc : X.calm = true) (hN : X.N.Nodup) (hi : X.N[i]? = some x) (hj : X.N[j]? = some y) (hij : i ≠ j)
  (hx : X.env.scope.names.lookup x = some .local) (hy : X.env.scope.names.lookup y = some .local) (ha : PA X [a, b] ta)
  (hw : swappedStores [.Tuple [.Name x px, .Name y py] kt pt] (.Tuple [a, b] k2 pt2) X.env = pure (some [x, y]))
  (hs : swapsWithSole [.Tuple [.Name x px, .Name y py] kt pt] (.Tuple [a, b] k2 pt2) pos.line X.env = pure false := by rfl) :
  PS X (.Assign [.Tuple [.Name x px, .Name y py] kt pt] (.Tuple [a, b] k2 pt2) pos) (tPar i j ta) := by
 intro pins s σ H D I h
 rw [exec_Assign_arm]
 refine wpAny_bind (wpAny_standAt ?_)
 rw [hs]
 refine wpAny_bind (wpAny_pure ?_)
 rw [if_neg (by decide)]
 refine wpAny_bind (Tuple_ (thn (ha _ pins s σ H _ I h) fun us s1 ⟨vs, H1, I1, r1, q1⟩ => ?_))
 obtain ⟨v, w, e1, q1⟩ := q1
 subst e1
 obtain ⟨u1, u2, rfl, rv, rw'⟩ : ∃ u1 u2, us = [u1, u2] ∧ RelV v u1 ∧ RelV w u2 := by
  cases r1 with
  | cons p q =>
   cases q with
   | cons p' q' =>
    cases q'
    exact ⟨_, _, rfl, p, p'⟩
 refine wpAny_newObj_type ?_ (by show 2 ≤ sizeLine; decide)
 have I2 : Inv X pins σ H1 { s1 with heap := s1.heap.push { cls := .type "tuple", data := .seq [u1, u2].toArray } } := I1.kept (t' := s1.toks) fun b o e => Heap.get?_push_of_some _ e
 rw [hw]
 refine wpAny_bind (wpAny_pure ?_)
 show wpAny (model X.prog X.w) X.A (do rule "assign.swapped-stores"; let items ← unpackItems (.ref s1.heap.objs.size) 2 none; assignInOrder [fun v => bindName X.env y v, fun v => bindName X.env x v] items.reverse; pure Flow.next) _ _ _
 refine wpAny_bind (wpAny_rule (wpAny_bind (unpackItems_tuple (items := #[u1, u2]) (I.ok.hd hc) (IsTup.new s1.heap _) fun h' hx' => ?_)))
 have I3 := I2.kept (h' := h') (t' := s1.toks) fun b o e => hx' b o (Nat.ne_of_lt (Heap.lt_size e)) e
 show wpAny _ _ (assignInOrder [fun v => bindName X.env y v, fun v => bindName X.env x v] [u2, u1] >>= fun _ => pure Flow.next) _ _ _
 refine wpAny_bind (assignInOrder_cons (wpAny_bindName (store_ok I3 hN hj (.inl hy) rw' (fun s2 I4 => ?_) (.inr hy))))
 refine assignInOrder_cons (wpAny_bindName (store_ok I4 hN hi (.inl hx) rv (fun s3 I5 => assignInOrder_nil (wpAny_pure ?_)) (.inr hx)))
 rw [List.set_comm _ _ (Ne.symm hij)] at I5
 exact ⟨_, H1, I5, q1⟩
end
section
variable {X : Cx} {pos : Pos}
noncomputable def tWhile (c : TT) (tb : TS) : TS := fun D σ H => ∃ W : Nat → St → Hp → Prop, (∃ m, W m σ H) ∧ ∀ m σ H, W m σ H →
 c σ H fun b H1 => if b = true then ∃ N : St → Hp → Prop, (∀ σ' H', N σ' H' → ∃ m', m' < m ∧ W m' σ' H') ∧ tb { D with nx := N, ct := N, bk := D.nx } σ H1 else D.nx σ H1
theorem ps_while {c : Expr} {body : List Stmt} {tc : TT} {tb : TS} (hp : PassesOwn (model X.prog X.w) X.A X.env X.xe) (hc : PT X c tc) (hb : PSs X body tb) : PS X (.While c body [] pos) (tWhile tc tb) := by
 intro pins s σ H D I h
 obtain ⟨W, ⟨m0, w0⟩, turn⟩ := h
 refine wpAny_While (codeAny_whileLoop (fun n s' => ∃ σ' H', Inv X pins σ' H' s' ∧ W n σ' H') ?_ m0 ⟨σ, H, I, w0⟩)
 rintro n s1 ⟨σ1, H1, I1, w1⟩
 refine wpAny_passesOwn hp (thn (hc pins s1 σ1 H1 _ I1 (turn n σ1 H1 w1)) fun b s2 ⟨H2, I2, q2⟩ => ?_)
 cases b with
 | true =>
  obtain ⟨N, hN, q2⟩ := q2
  rw [if_pos rfl]
  refine wpAny_passesOwn hp (thn (hb pins s2 σ1 H2 _ I2 q2) fun f s3 q3 => ?_)
  cases f with
  | next =>
   obtain ⟨σ3, H3, I3, n3⟩ := q3
   obtain ⟨m', hm, w3⟩ := hN σ3 H3 n3
   exact ⟨m', hm, σ3, H3, I3, w3⟩
  | cont =>
   obtain ⟨σ3, H3, I3, n3⟩ := q3
   obtain ⟨m', hm, w3⟩ := hN σ3 H3 n3
   exact ⟨m', hm, σ3, H3, I3, w3⟩
  | brk => exact q3
  | ret v => exact q3
 | false =>
  rw [if_neg Bool.false_ne_true]
  exact wpAny_execs_nil ⟨σ1, H2, I2, q2⟩
end
structure It where
 go : Nat → Hp → Prop
 yld : Nat → Hp → V → Hp → Prop
 stop : Nat → Hp → Prop
noncomputable def FpOk (X : Cx) (pins : List (Addr × Obj)) (H : Hp) (b : Addr) : Prop :=
 H b = none ∧ b ≠ X.env.locals ∧ b ∉ X.fs ∧ (b ∈ X.ex ∨ X.s₀.heap.objs.size ≤ b) ∧ (∀ x c, X.env.cells.lookup x = some c → c ≠ b) ∧ ∀ p ∈ X.pn ++ pins, p.1 ≠ b
theorem Inv.fpOk {X : Cx} {pins : List (Addr × Obj)} {σ : St} {H H' : Hp} {s : Shared} {b : Addr} (I : Inv X pins σ H s) (hb : s.heap.objs.size ≤ b) (hn : H' b = none) : FpOk X pins H' b := by
 refine ⟨hn, Nat.ne_of_gt (Nat.lt_of_lt_of_le I.lt hb), I.nofs hb, .inr (Nat.le_trans I.sz hb), fun x c e z => ?_, fun p hp z => ?_⟩
 ·obtain ⟨v, q⟩ := I.cell x c e
  exact absurd (Nat.lt_of_lt_of_le q.lt (by rw [z]; exact hb)) (Nat.lt_irrefl _)
 ·exact absurd (Nat.lt_of_lt_of_le (Heap.lt_size (I.pin p hp).1) (by rw [z]; exact hb)) (Nat.lt_irrefl _)
structure Turn (P : Program) (w : World) (K : PySem.W.Frag) (tg : Expr) (J : It) (fp : List Addr) (it : Addr) (tn : Nat → Heap → Prop) : Prop where
 mem : it ∈ fp
 obj : ∀ i h, tn i h → ∀ b ∈ fp, ∃ o, h.get? b = some o ∧ ∀ v, o.data ≠ .cell v
 keep : ∀ i h h', tn i h → (∀ b ∈ fp, ∀ o, h.get? b = some o → h'.get? b = some o) → tn i h'
 item : ∀ (X : Cx), X.prog = P → X.w = w → X.K = K → X.calm = true → ∀ (i : Nat) (pins : List (Addr × Obj)) (s : Shared) (σ : St) (H : Hp) (E : Value → Shared → Prop), Inv X pins σ H s → (∀ b ∈ fp, FpOk X pins H b) → tn i s.heap → J.go i H →
  wpAny (model P w) X.A (pyNext (.ref it)) (fun r s1 => ∃ u, r = some u ∧
   wpAny (model P w) X.A (letOwnedTupleGo tg (.ref it) u) (fun _ s2 => ∃ x H', Inv X pins σ H' s2 ∧ RelV x u ∧ J.yld i H x H' ∧ tn (i + 1) s2.heap ∧ ∀ b ∈ fp, H' b = none) E s1) E s
 done : ∀ (X : Cx), X.prog = P → X.w = w → X.K = K → X.calm = true → ∀ (i : Nat) (pins : List (Addr × Obj)) (s : Shared) (σ : St) (H : Hp) (E : Value → Shared → Prop), Inv X pins σ H s → (∀ b ∈ fp, FpOk X pins H b) → tn i s.heap → J.stop i H →
  wpAny (model P w) X.A (pyNext (.ref it)) (fun r s1 => r = none ∧ Inv X pins σ H s1) E s
 self : ∀ (A : Around) (i : Nat) (s : Shared) (Q : Value → Shared → Prop) (E : Value → Shared → Prop), tn i s.heap → Q (.ref it) s → wpAny (model P w) A (pyIter (.ref it)) Q E s
abbrev TI := St → Hp → (It → Hp → Prop) → Prop
noncomputable def PIE (X : Cx) (pins : List (Addr × Obj)) (σ : St) (tg : Expr) (R : It → Hp → Prop) (itv : Value) (s2 : Shared) : Prop :=
 ∃ (it : Addr) (fp : List Addr) (tn : Nat → Heap → Prop) (J : It) (H' : Hp), itv = .ref it ∧ Inv X pins σ H' s2 ∧ Turn X.prog X.w X.K tg J fp it tn ∧ tn 0 s2.heap ∧ (∀ b ∈ fp, FpOk X pins H' b) ∧ R J H'
noncomputable def PI (X : Cx) (tg iter : Expr) (wi : TI) : Prop :=
 ∀ (pins : List (Addr × Obj)) (s : Shared) (σ : St) (H : Hp) (R : It → Hp → Prop), Inv X pins σ H s → wi σ H R →
  wpAny (model X.prog X.w) X.A (eval iter X.env) (fun v s1 => wpAny (model X.prog X.w) X.A (pyIter v) (PIE X pins σ tg R) X.xe s1) X.xe s
theorem go_of {M : Model} {A : Around} {E : Value → Shared → Prop} {s : Shared} {tg : Expr} {it : Addr} {u : Value} {o : Obj} {n : String} {vs : Array Value} {Q : Unit → Shared → Prop} (ho : s.heap.get? it = some o) (hc : o.cls = .type n) (hd : o.data = .fields vs)
    (hn : ["enumerate", "zip", "dict_itemiterator", "dict_reverseitemiterator", "odict_iterator", "itertools.zip_longest", "itertools.pairwise"].contains n = false) (hQ : Q () s) : wpAny M A (letOwnedTupleGo tg (.ref it) u) Q E s := by
  unfold letOwnedTupleGo
  cases tg <;> first
    | exact wpAny_pure hQ
    | (cases u <;> first
        | exact wpAny_pure hQ
        | (refine wpAny_bind (wpAny_load ho ?_)
           rw [hc, hd]
           show wpAny M A (if (["enumerate", "zip", "dict_itemiterator", "dict_reverseitemiterator", "odict_iterator", "itertools.zip_longest", "itertools.pairwise"].contains n && vs[0]? == some (rawInt _)) = true then _ else _) Q E s
           rw [if_neg (by intro h; rw [hn, Bool.false_and] at h; cases h)]
           exact wpAny_pure hQ))
noncomputable def Itl (K : PySem.W.Frag) (a : Addr) : It :=
 ⟨fun i H => ∃ xs x, SqL K H a xs ∧ xs[i]? = some x, fun i H x H' => H' = H ∧ ∀ xs, SqL K H a xs → xs[i]? = some x, fun i H => ∃ xs, SqL K H a xs ∧ xs.length ≤ i⟩
noncomputable def Itr (lo : Int) (n : Nat) : It := ⟨fun i _ => i < n, fun i H x H' => H' = H ∧ x = .int (lo + i), fun i _ => n ≤ i⟩
theorem turn_list {P : Program} {w : World} {K : PySem.W.Frag} {tg : Expr} (a it : Addr) : Turn P w K tg (Itl K a) [it] it (fun i h => h.IsListIter it a i) where
 mem := by simp
 obj := fun i h st b hb => by
  have e : b = it := by simpa using hb
  subst e
  obtain ⟨o, e, c, d⟩ := st
  exact ⟨o, e, fun v z => by rw [d] at z; cases z⟩
 keep := fun i h h' st k => st.at fun o e => k it (by simp) o e
 item := by
  intro X hP hw hK hc i pins s σ H E I hf st hg
  subst hP hw hK
  obtain ⟨xs, x, hq, hx⟩ := hg
  obtain ⟨its, rv, p, hz⟩ := I.list hq
  obtain ⟨u, hu, ru⟩ := rv.get hx
  obtain ⟨f0, f1, f2, f3, f4, f5⟩ := hf it (by simp)
  refine wpAny_pyNext_list_item st p.isList (x := u) (by simpa using hu) fun h' st' sb => ?_
  have I1 : Inv X pins σ H { s with heap := h' } := I.turned (t' := s.toks) (fun b o hb e => (sb.2 b hb).trans e) f0 f1 f3 f4 f5
  obtain ⟨o, e, c, d⟩ := id st'
  exact ⟨u, rfl, go_of (s := { s with heap := h' }) e c d (by decide) ⟨x, H, I1, ru, ⟨rfl, fun ys hy => by rw [I.list_inj hy hq]; exact hx⟩, st', fun b hb => (hf b hb).1⟩⟩
 done := by
  intro X hP hw hK hc i pins s σ H E I hf st hg
  subst hP hw hK
  obtain ⟨xs, hq, hx⟩ := hg
  obtain ⟨its, rv, p, hz⟩ := I.list hq
  obtain ⟨f0, f1, f2, f3, f4, f5⟩ := hf it (by simp)
  have hl := rv.length
  exact wpAny_pyNext_list_end (I.ok.hd hc) st p.isList (by simp; omega) fun h' eb => ⟨rfl, I.turned (t' := s.toks) (fun b o hb e => eb b o hb e) f0 f1 f3 f4 f5⟩
 self := fun _ _ _ _ _ st h => wpAny_pyIter_listiter st h
theorem turn_range {P : Program} {w : World} {K : PySem.W.Frag} {tg : Expr} (it : Addr) (lo : Int) (n : Nat) : Turn P w K tg (Itr lo n) [it] it (fun i h => IsRangeIter h it (lo + (i : Nat) * 1) ((n : Int) - (i : Nat)) 1) where
 mem := by simp
 obj := fun i h st b hb => by
  have e : b = it := by simpa using hb
  subst e
  exact ⟨_, st, fun v z => by
   have z' : Data.fields _ = Data.cell v := z
   cases z'⟩
 keep := fun i h h' st k => k it (by simp) _ st
 item := by
  intro X hP hw hK hc i pins s σ H E I hf st hg
  subst hP hw hK
  obtain ⟨f0, f1, f2, f3, f4, f5⟩ := hf it (by simp)
  have W := Walks.range (prog := X.prog) (w := X.w) (I.ok.hd hc) it lo 1 n
  refine W.item i s _ _ hg st fun v h' tk hv st' kk => ?_
  obtain ⟨t, rfl⟩ := hv
  have I1 : Inv X pins σ H { s with heap := h', toks := tk } := I.turned (fun b o hb e => kk b o (by simpa using hb) e) f0 f1 f3 f4 f5
  refine ⟨_, rfl, go_of (s := { s with heap := h', toks := tk }) (n := "range_iterator") st' rfl rfl (by decide) ⟨.int (lo + i), H, I1, ⟨t, ?_⟩, ⟨rfl, rfl⟩, st', fun b hb => (hf b hb).1⟩⟩
  rw [Int.mul_one]
 done := by
  intro X hP hw hK hc i pins s σ H E I hf st hg
  subst hP hw hK
  obtain ⟨f0, f1, f2, f3, f4, f5⟩ := hf it (by simp)
  exact wpAny_pyNext_range_end (I.ok.hd hc) st (by have : n ≤ i := hg; omega) fun h' eb => ⟨rfl, I.turned (t' := s.toks) (fun b o hb e => eb b o hb e) f0 f1 f3 f4 f5⟩
 self := fun _ _ _ _ _ st h => wpAny_pyIter_rangeiter st h
end L2
namespace L2
open PySem PySem.Spec PyProof.Rows
section
variable {X : Cx} {tg : Expr}
noncomputable def iList (K : PySem.W.Frag) (tl : TE) : TI := fun σ H R => tl σ H fun x H1 => ∃ a, x = .ref a ∧ (∃ xs, SqL K H1 a xs) ∧ R (Itl K a) H1
theorem pi_list {l : Expr} {tl : TE} (hl : PE X l tl) : PI X tg l (iList X.K tl) := by
 intro pins s σ H R I h
 refine thn (hl pins s σ H _ I h) fun v s1 ⟨x, H1, I1, r1, q1⟩ => ?_
 obtain ⟨a, e, ⟨xs, hq⟩, q⟩ := q1
 subst e
 cases r1
 obtain ⟨its, rv, p, hz⟩ := I1.list hq
 refine wpAny_pyIter_list p.isList ?_
 refine ⟨s1.heap.objs.size, [s1.heap.objs.size], _, _, H1, rfl, I1.kept (t' := s1.toks) fun b o e => Heap.get?_push_of_some _ e, turn_list a _, ⟨_, Heap.get?_push_size _ rfl, rfl, rfl⟩, fun b hb => ?_, q⟩
 have e : b = s1.heap.objs.size := by simpa using hb
 subst e
 exact I1.fpOk (Nat.le_refl _) (I1.hok.fresh (Nat.le_refl _))
theorem range_it {pins : List (Addr × Obj)} {σ : St} {H : Hp} {s : Shared} {R : It → Hp → Prop} {E : Value → Shared → Prop} {lo hi : Int} {t u v : Tok} {tk : Nat} (I : Inv X pins σ H s) (h1 : -(2 ^ 62) ≤ lo) (h2 : lo < 2 ^ 62) (h3 : -(2 ^ 62) ≤ hi) (h4 : hi < 2 ^ 62)
  (q : R (Itr lo (hi - lo).toNat) H) : wpAny (model X.prog X.w) X.A (pyIter (.ref s.heap.objs.size)) (PIE X pins σ tg R) E { s with heap := s.heap.push { cls := .type "range", data := .fields #[.int lo t, .int hi u, .int 1 v] }, toks := tk } := by
 refine wpAny_pyIter_range (IsRange.new ..) (small_one h1 h2 h3 h4) ?_
 have I1 : Inv X pins σ H { s with heap := s.heap.push { cls := .type "range", data := .fields #[.int lo t, .int hi u, .int 1 v] }, toks := tk } := I.kept fun b o e => Heap.get?_push_of_some _ e
 refine ⟨(s.heap.push { cls := .type "range", data := .fields #[.int lo t, .int hi u, .int 1 v] }).objs.size, [(s.heap.push { cls := .type "range", data := .fields #[.int lo t, .int hi u, .int 1 v] }).objs.size], _, _, H, rfl,
  I1.kept (t' := tk) fun b o e => Heap.get?_push_of_some _ e, turn_range _ lo (hi - lo).toNat, ?_, fun b hb => ?_, q⟩
 ·have e1 : lo + ((0 : Nat) : Int) * 1 = lo := by simp
  have e2 : (((hi - lo).toNat : Nat) : Int) - ((0 : Nat) : Int) = Builtin.Range.rangeSize lo hi 1 := by rw [rangeSize_one]; split <;> omega
  show IsRangeIter _ _ (lo + ((0 : Nat) : Int) * 1) ((((hi - lo).toNat : Nat) : Int) - ((0 : Nat) : Int)) 1
  rw [e1, e2]
  exact Heap.get?_push_size _ rfl
 ·have e : b = (s.heap.push { cls := .type "range", data := .fields #[.int lo t, .int hi u, .int 1 v] }).objs.size := by simpa using hb
  subst e
  exact I1.fpOk (Nat.le_refl _) (I1.hok.fresh (Nat.le_refl _))
noncomputable def iRng1 (ta : TA) : TI := fun σ H R => ta σ H fun vs H1 => ∃ j : Int, vs = [.int j] ∧ -(2 ^ 62) ≤ j ∧ j < 2 ^ 62 ∧ R (Itr 0 j.toNat) H1
noncomputable def iRng2 (ta : TA) : TI := fun σ H R => ta σ H fun vs H1 => ∃ i j : Int, vs = [.int i, .int j] ∧ (-(2 ^ 62) ≤ i ∧ i < 2 ^ 62 ∧ -(2 ^ 62) ≤ j ∧ j < 2 ^ 62) ∧ R (Itr i (j - i).toNat) H1
theorem pi_range1 {a : Expr} {ta : TA} {p pos : Pos} (hg : Gl X "range") (hm : X.mg "range" = none) (ha : PA X [a] ta) (hs : starEach [a] X.env = [(false, eval a X.env)] := by rfl) : PI X tg (.Call (.Name "range" p) [a] [] pos) (iRng1 ta) := by
 intro pins s σ H R I h
 refine Call_ (ld_blt I hg hm boot_range (PyProof.Rows.callWith_type1 (thn (ha pos pins s σ H _ I h) fun us s1 ⟨vs, H1, I1, r1, q1⟩ => ?_) hs rfl))
 obtain ⟨j, e, q1, q2, q⟩ := q1
 subst e
 cases r1 with
 | cons r rr =>
  cases rr
  obtain ⟨t, rfl⟩ := r
  exact call_range_1 (range_it I1 (by omega) (by omega) q1 q2 (by simpa using q))
theorem pi_range2 {a b : Expr} {ta : TA} {p pos : Pos} (hg : Gl X "range") (hm : X.mg "range" = none) (ha : PA X [a, b] ta) (hs : starEach [a, b] X.env = [(false, eval a X.env), (false, eval b X.env)] := by rfl) (hs2 : starEach [b] X.env = [(false, eval b X.env)] := by rfl) :
  PI X tg (.Call (.Name "range" p) [a, b] [] pos) (iRng2 ta) := by
 intro pins s σ H R I h
 refine Call_ (ld_blt I hg hm boot_range (PyProof.Rows.callWith_type1 (thn (ha pos pins s σ H _ I h) fun us s1 ⟨vs, H1, I1, r1, q1⟩ => ?_) (by rw [hs, hs2]) (by rw [hs2]; rfl)))
 obtain ⟨i, j, e, ⟨q1, q2, q3, q4⟩, q⟩ := q1
 subst e
 cases r1 with
 | cons r rr =>
  cases rr with
  | cons r' rr =>
   cases rr
   obtain ⟨t, rfl⟩ := r
   obtain ⟨t', rfl⟩ := r'
   exact call_range_2 (range_it I1 q1 q2 q3 q4 q)
noncomputable def tFor (wi : TI) (g : TG) (tb : TS) : TS := fun D σ H => wi σ H fun J H1 => ∃ W : Nat → Nat → St → Hp → Prop, (∃ m, W 0 m σ H1) ∧ ∀ i m σ H, W i m σ H →
 (J.stop i H ∧ D.nx σ H) ∨ (J.go i H ∧ ∃ N : St → Hp → Prop, (∀ σ' H', N σ' H' → ∃ m', m' < m ∧ W (i + 1) m' σ' H') ∧ ∀ x H', J.yld i H x H' → g x σ H' fun σ2 H2 => tb { D with nx := N, ct := N, bk := D.nx } σ2 H2)
noncomputable def pinsAt (fp : List Addr) (h : Heap) : List (Addr × Obj) := fp.filterMap fun b => (h.get? b).map fun o => (b, o)
theorem mem_pinsAt {fp : List Addr} {h : Heap} {b : Addr} {o : Obj} (hb : b ∈ fp) (e : h.get? b = some o) : (b, o) ∈ pinsAt fp h := List.mem_filterMap.mpr ⟨b, hb, by rw [e]; rfl⟩
theorem of_pinsAt {fp : List Addr} {h : Heap} {p : Addr × Obj} (hp : p ∈ pinsAt fp h) : p.1 ∈ fp ∧ h.get? p.1 = some p.2 := by
 obtain ⟨b, hb, e⟩ := List.mem_filterMap.mp hp
 cases q : h.get? b with
 | none => rw [q] at e; cases e
 | some o =>
  rw [q] at e
  have e' : (b, o) = p := Option.some.inj e
  subst e'
  exact ⟨hb, q⟩
theorem Inv.pinned {pins : List (Addr × Obj)} {σ : St} {H : Hp} {s : Shared} {fp : List Addr} (I : Inv X pins σ H s) (hf : ∀ b ∈ fp, FpOk X pins H b) (ho : ∀ b ∈ fp, ∃ o, s.heap.get? b = some o ∧ ∀ v, o.data ≠ .cell v) : Inv X (pins ++ pinsAt fp s.heap) σ H s :=
 I.pins_of fun p hp => (List.mem_append.mp hp).elim (fun z => I.pin p (List.mem_append_right _ z)) fun z => by
  obtain ⟨hb, e⟩ := of_pinsAt z
  obtain ⟨f0, f1, f2, _⟩ := hf p.1 hb
  obtain ⟨o, e', d⟩ := ho p.1 hb
  rw [e] at e'; cases e'
  exact ⟨e, f0, f1, f2, d⟩
theorem Inv.unpinned {pins pl : List (Addr × Obj)} {σ : St} {H : Hp} {s : Shared} (I : Inv X (pins ++ pl) σ H s) : Inv X pins σ H s := I.pins_of fun p hp => I.pin p (List.mem_append_right _ (List.mem_append_left _ hp))
theorem ps_for {iter : Expr} {body : List Stmt} {wi : TI} {g : TG} {tb : TS} {pos : Pos} (hp : PassesOwn (model X.prog X.w) X.A X.env X.xe) (hc : X.calm = true) (hi : PI X tg iter wi) (hg : PG X tg g) (hb : PSs X body tb)
  (hs : ∀ x, foldedSetIterable iter X.env x = pure x := by intro _; rfl) : PS X (.For tg iter body [] pos) (tFor wi g tb) := by
 intro pins s σ H D I h
 refine wpAny_For (thn (hi pins s σ H _ I h) fun v s1 h1 => thn h1 fun itv s2 h2 => ?_) hs
 obtain ⟨it, fp, tn, J, H2, e, I2, T, st2, f2, W, ⟨m0, w0⟩, turn⟩ := h2
 subst e
 have stat : ∀ {H' : Hp}, (∀ b ∈ fp, H' b = none) → ∀ b ∈ fp, FpOk X pins H' b := fun hn b hb => ⟨hn b hb, (f2 b hb).2⟩
 refine codeAny_forLoop_any (fun n s' => ∃ i σ' H', Inv X pins σ' H' s' ∧ tn i s'.heap ∧ (∀ b ∈ fp, H' b = none) ∧ W i n σ' H') ?_ m0 ⟨0, σ, H2, I2, st2, fun b hb => (f2 b hb).1, w0⟩
 rintro n s3 ⟨i, σ3, H3, I3, st3, fr3, w3⟩
 rcases turn i n σ3 H3 w3 with ⟨stop, qn⟩ | ⟨go, N, hN, step⟩
 ·refine wpAny_passesOwn hp (thn (T.done X rfl rfl rfl hc i pins s3 σ3 H3 X.xe I3 (stat fr3) st3 stop) fun r s4 ⟨hr, I4⟩ => ?_)
  subst hr
  exact wpAny_execs_nil ⟨σ3, H3, I4, qn⟩
 ·refine wpAny_passesOwn hp (thn (T.item X rfl rfl rfl hc i pins s3 σ3 H3 X.xe I3 (stat fr3) st3 go) fun r s4 ⟨u, hr, h4⟩ => ?_)
  subst hr
  refine wpAny_passesOwn hp (thn h4 fun _ s5 ⟨x, H5, I5, r5, y5, st5, fr5⟩ => ?_)
  have I5' := I5.pinned (stat fr5) (T.obj _ _ st5)
  refine wpAny_passesOwn hp (thn (hg _ s5 σ3 H5 x u _ I5' r5 (step x H5 y5)) fun _ s6 ⟨σ6, H6, I6, q6⟩ => ?_)
  refine wpAny_passesOwn hp (thn (hb _ s6 σ6 H6 _ I6 q6) fun f s7 q7 => ?_)
  have again : ∀ {σ7 : St} {H7 : Hp}, Inv X (pins ++ pinsAt fp s5.heap) σ7 H7 s7 → N σ7 H7 → ∃ m, m < n ∧ ∃ i σ' H', Inv X pins σ' H' s7 ∧ tn i s7.heap ∧ (∀ b ∈ fp, H' b = none) ∧ W i m σ' H' := fun {σ7 H7} I7 n7 => by
   obtain ⟨m', hm, w7⟩ := hN σ7 H7 n7
   refine ⟨m', hm, i + 1, σ7, H7, I7.unpinned, T.keep _ _ _ st5 fun b hb o e => (I7.pin (b, o) (List.mem_append_right _ (List.mem_append_right _ (mem_pinsAt hb e)))).1, fun b hb => ?_, w7⟩
   obtain ⟨o, e, d⟩ := T.obj _ _ st5 b hb
   exact (I7.pin (b, o) (List.mem_append_right _ (List.mem_append_right _ (mem_pinsAt hb e)))).2.1
  cases f with
  | next => obtain ⟨σ7, H7, I7, n7⟩ := q7; exact again I7 n7
  | cont => obtain ⟨σ7, H7, I7, n7⟩ := q7; exact again I7 n7
  | brk => obtain ⟨σ7, H7, I7, q7⟩ := q7; exact ⟨σ7, H7, I7.unpinned, q7⟩
  | ret v => obtain ⟨x7, σ7, H7, I7, r7, q7⟩ := q7; exact ⟨x7, σ7, H7, I7.unpinned, r7, q7⟩
end
end L2
namespace L2
open PySem PySem.Spec PyProof.Rows
abbrev R2 := V → V → Hp → VK → Prop
noncomputable def OpR (X : Cx) (f : Value → Value → Sem Value) (r : R2) : Prop :=
 ∀ (pins : List (Addr × Obj)) (s : Shared) (σ : St) (H : Hp) (x y : V) (v u : Value) (Q : VK), Inv X pins σ H s → RelV x v → RelV y u → r x y H Q →
  wpAny (model X.prog X.w) X.A (f v u) (EP X pins σ Q) X.xe s
noncomputable def UnR (X : Cx) (f : Value → Sem Value) (r : V → Hp → VK → Prop) : Prop :=
 ∀ (pins : List (Addr × Obj)) (s : Shared) (σ : St) (H : Hp) (x : V) (v : Value) (Q : VK), Inv X pins σ H s → RelV x v → r x H Q →
  wpAny (model X.prog X.w) X.A (f v) (EP X pins σ Q) X.xe s
noncomputable def CallR (X : Cx) (f : Value) (r : List V → Hp → VK → Prop) : Prop :=
 ∀ (pins : List (Addr × Obj)) (s : Shared) (σ : St) (H : Hp) (xs : List V) (us : List Value) (Q : VK), Inv X pins σ H s → Vals xs us → r xs H Q →
  wpAny (model X.prog X.w) X.A (call f us) (EP X pins σ Q) X.xe s
noncomputable def tOp (r : R2) (ta tb : TE) : TE := fun σ H Q => ta σ H fun x H1 => tb σ H1 fun y H2 => r x y H2 Q
noncomputable def tUn (r : V → Hp → VK → Prop) (ta : TE) : TE := fun σ H Q => ta σ H fun x H1 => r x H1 Q
noncomputable def rI (C : Int → Int → Prop) (g : Int → Int → V) : R2 := fun x y H Q => ∃ i j, x = .int i ∧ y = .int j ∧ C i j ∧ Q (g i j) H
noncomputable def rI0 (g : Int → Int → V) : R2 := fun x y H Q => ∃ i j, x = .int i ∧ y = .int j ∧ Q (g i j) H
noncomputable def rU (g : Int → V) : V → Hp → VK → Prop := fun x H Q => ∃ i, x = .int i ∧ Q (g i) H
section
variable {X : Cx} {a b c : Expr} {ta tb tc : TE} {pos : Pos}
theorem binT (ha : PE X a ta) (hb : PE X b tb) {pins : List (Addr × Obj)} {s : Shared} {σ : St} {H : Hp} {R : V → V → Hp → Prop} (I : Inv X pins σ H s)
  (h : ta σ H fun x H1 => tb σ H1 fun y H2 => R x y H2) {Q : Value → Shared → Prop} {f : Value → Value → Sem Value}
  (hf : ∀ v u s2 x y H2, Inv X pins σ H2 s2 → RelV x v → RelV y u → R x y H2 → wpAny (model X.prog X.w) X.A (f v u) Q X.xe s2) :
  wpAny (model X.prog X.w) X.A (eval a X.env) (fun v s₁ => wpAny (model X.prog X.w) X.A (eval b X.env) (fun u s₂ => wpAny (model X.prog X.w) X.A (f v u) Q X.xe s₂) X.xe s₁) X.xe s := by
 refine thn (ha pins s σ H _ I h) fun v s1 ⟨x, H1, I1, r1, q1⟩ => ?_
 refine thn (hb pins s1 σ H1 _ I1 q1) fun u s2 ⟨y, H2, I2, r2, q2⟩ => ?_
 exact hf v u s2 x y H2 I2 r1 r2 q2
theorem pe_op {op : Operator} {r : R2} (ho : OpR X (binaryOp op) r) (ha : PE X a ta) (hb : PE X b tb) : PE X (.BinOp a op b pos) (tOp r ta tb) := by
 intro pins s σ H Q I h
 exact wpAny_BinOp (binT ha hb I h fun v u s2 x y H2 I2 rx ry q => ho pins s2 σ H2 x y v u Q I2 rx ry q)
theorem pe_un {op : UnaryOp} {r : V → Hp → VK → Prop} (ho : UnR X (unaryOp op) r) (ha : PE X a ta) : PE X (.UnaryOp op a pos) (tUn r ta) := by
 intro pins s σ H Q I h
 exact UnaryOp_ (thn (ha pins s σ H _ I h) fun v s1 ⟨x, H1, I1, r1, q1⟩ => ho pins s1 σ H1 x v Q I1 r1 q1)
theorem opI {f : Value → Value → Sem Value} {C : Int → Int → Prop} {g : Int → Int → Int}
  (rule : ∀ (i j : Int) (t u : Tok) (s : Shared) (Q : Value → Shared → Prop) (E : Value → Shared → Prop), C i j → Q (.int (g i j) s.toks) { s with toks := s.toks + 1 } → wpAny (model X.prog X.w) X.A (f (.int i t) (.int j u)) Q E s) :
  OpR X f (rI C fun i j => .int (g i j)) := by
 intro pins s σ H x y v u Q I rx ry h
 obtain ⟨i, j, rfl, rfl, hc, q⟩ := h
 obtain ⟨t, rfl⟩ := rx
 obtain ⟨t', rfl⟩ := ry
 exact rule i j t t' s _ _ hc ⟨.int (g i j), H, I.tok _, ⟨_, rfl⟩, q⟩
theorem opI0 {f : Value → Value → Sem Value} {g : Int → Int → Int}
  (rule : ∀ (i j : Int) (t u : Tok) (s : Shared) (Q : Value → Shared → Prop) (E : Value → Shared → Prop), Q (.int (g i j) s.toks) { s with toks := s.toks + 1 } → wpAny (model X.prog X.w) X.A (f (.int i t) (.int j u)) Q E s) :
  OpR X f (rI0 fun i j => .int (g i j)) := by
 intro pins s σ H x y v u Q I rx ry h
 obtain ⟨i, j, rfl, rfl, q⟩ := h
 obtain ⟨t, rfl⟩ := rx
 obtain ⟨t', rfl⟩ := ry
 exact rule i j t t' s _ _ ⟨.int (g i j), H, I.tok _, ⟨_, rfl⟩, q⟩
theorem opB0 {f : Value → Value → Sem Value} {g : Int → Int → Bool}
  (rule : ∀ (i j : Int) (t u : Tok) (s : Shared) (Q : Value → Shared → Prop) (E : Value → Shared → Prop), Q (.bool (g i j)) s → wpAny (model X.prog X.w) X.A (f (.int i t) (.int j u)) Q E s) :
  OpR X f (rI0 fun i j => .bl (g i j)) := by
 intro pins s σ H x y v u Q I rx ry h
 obtain ⟨i, j, rfl, rfl, q⟩ := h
 obtain ⟨t, rfl⟩ := rx
 obtain ⟨t', rfl⟩ := ry
 exact rule i j t t' s _ _ ⟨.bl (g i j), H, I, rfl, q⟩
noncomputable def CDiv (i j : Int) : Prop := 0 < j ∧ j < 1073741824
noncomputable def CPow (i j : Int) : Prop := 0 ≤ j ∧ j ≤ 1000000 ∧ i.natAbs < 2 ^ 64
noncomputable def CMul (i j : Int) : Prop := (-(2 ^ 64) < i ∧ i < 2 ^ 64) ∨ (-(2 ^ 64) < j ∧ j < 2 ^ 64)
theorem CMul.ok {i j : Int} (h : CMul i j) : IntMulOk i j := by
 rcases h with ⟨h1, h2⟩ | ⟨h1, h2⟩
 ·exact .of_left (intBits_le_64 h1 h2)
 ·exact .of_right (intBits_le_64 h1 h2)
theorem op_add : OpR X (binaryOp .Add) (rI0 fun i j => .int (i + j)) := opI0 fun _ _ _ _ _ _ _ q => add_int q
theorem op_sub : OpR X (binaryOp .Sub) (rI0 fun i j => .int (i - j)) := opI0 fun _ _ _ _ _ _ _ q => sub_int q
theorem op_fdiv : OpR X (binaryOp .FloorDiv) (rI CDiv fun i j => .int (i / j)) := opI fun i j _ _ _ _ _ hc q => by
 have h1 : (0 : Int) < j := hc.1
 have h2 : j < 1073741824 := hc.2
 exact floordiv_int (by omega) (by rw [Int.fdiv_eq_ediv_of_nonneg i (by omega)]; exact q) (.inl (PyProof.noPylong_small (by omega)))
theorem op_mod : OpR X (binaryOp .Mod) (rI (fun _ j => 0 < j) fun i j => .int (i % j)) := opI fun i j _ _ _ _ _ hc q => by
 have h1 : (0 : Int) < j := hc
 exact mod_int' (by omega) (by rw [Int.fmod_eq_emod_of_nonneg i (by omega)]; exact q)
theorem op_pow : OpR X (binaryOp .Pow) (rI CPow fun i j => .int (i ^ j.toNat)) := opI fun _ _ _ _ _ _ _ hc q => pow_int_small hc.1 hc.2.1 hc.2.2 q
theorem unI {f : Value → Sem Value} {g : Int → Int}
  (rule : ∀ (i : Int) (t : Tok) (s : Shared) (Q : Value → Shared → Prop) (E : Value → Shared → Prop), Q (.int (g i) s.toks) { s with toks := s.toks + 1 } → wpAny (model X.prog X.w) X.A (f (.int i t)) Q E s) :
  UnR X f (rU fun i => .int (g i)) := by
 intro pins s σ H x v Q I rx h
 obtain ⟨i, rfl, q⟩ := h
 obtain ⟨t, rfl⟩ := rx
 exact rule i t s _ _ ⟨.int (g i), H, I.tok _, ⟨_, rfl⟩, q⟩
theorem un_neg : UnR X (unaryOp .USub) (rU fun i => .int (-i)) := unI fun _ _ _ _ _ q => neg_int q
end
section
variable {X : Cx} {a b c : Expr} {ta tb tc : TE} {pos : Pos}
theorem fin_bl {pins : List (Addr × Obj)} {σ : St} {H : Hp} {s : Shared} {Q : VK} {k k' : Bool} (I : Inv X pins σ H s) (q : Q (.bl k) H) (e : k = k') : EP X pins σ Q (.bool k') s := by
 subst e
 exact ⟨.bl k, H, I, rfl, q⟩
theorem op_lt : OpR X (compareOp .Lt) (rI0 fun i j => .bl (decide (i < j))) := opB0 fun _ _ _ _ _ _ _ q => lt_int q
theorem op_gt : OpR X (compareOp .Gt) (rI0 fun i j => .bl (decide (j < i))) := opB0 fun _ _ _ _ _ _ _ q => gt_int q
theorem op_ge : OpR X (compareOp .GtE) (rI0 fun i j => .bl (decide (j ≤ i))) := opB0 fun _ _ _ _ _ _ _ q => ge_int q
theorem op_isN : OpR X (compareOp .Is) (fun x y H Q => y = .non ∧ Q (.bl (decide (x = .non))) H) := by
 intro pins s σ H x y v u Q I rx ry h
 obtain ⟨rfl, q⟩ := h
 cases ry
 refine is_none_gen (fin_bl I q ?_)
 cases x <;> first
  | (cases rx; rfl)
  | (obtain ⟨t, rfl⟩ := rx; rfl)
theorem op_notN : OpR X (compareOp .IsNot) (fun x y H Q => y = .non ∧ Q (.bl (!decide (x = .non))) H) := by
 intro pins s σ H x y v u Q I rx ry h
 obtain ⟨rfl, q⟩ := h
 cases ry
 refine isnot_none_gen (fin_bl I q ?_)
 cases x <;> first
  | (cases rx; rfl)
  | (obtain ⟨t, rfl⟩ := rx; rfl)
theorem OpR.or {f : Value → Value → Sem Value} {r r' : R2} (h : OpR X f r) (h' : OpR X f r') : OpR X f (fun x y H Q => r x y H Q ∨ r' x y H Q) := by
 intro pins s σ H x y v u Q I rx ry q
 rcases q with q | q
 ·exact h pins s σ H x y v u Q I rx ry q
 ·exact h' pins s σ H x y v u Q I rx ry q
theorem nomark (b : Expr) {op : CmpOp} (h : op ≠ .In := by decide) (h2 : op ≠ .NotIn := by decide) : behindInMarks op b = false := by
 have e1 : (op == CmpOp.In) = false := by cases op <;> first | rfl | exact absurd rfl h
 have e2 : (op == CmpOp.NotIn) = false := by cases op <;> first | rfl | exact absurd rfl h2
 cases b <;> simp [behindInMarks, e1, e2]
theorem pe_cmpR {op : CmpOp} {r : R2} (ho : OpR X (compareOp op) r) (ha : PE X a ta) (hb : PE X b tb) (hm : behindInMarks op b = false) : PE X (.Compare a [op] [b] pos) (tOp r ta tb) := by
 intro pins s σ H Q I h
 exact wpAny_Compare1 (binT ha hb I h fun v u s2 x y H2 I2 rx ry q => ho pins s2 σ H2 x y v u Q I2 rx ry q) hm
noncomputable def tTest (t : TE) : TT := fun σ H Q => t σ H fun x H' => ∃ k, x = .bl k ∧ Q k H'
theorem pt_cmpR {op : CmpOp} {r : R2} (ho : OpR X (compareOp op) r) (ha : PE X a ta) (hb : PE X b tb) (hm : behindInMarks op b = false) : PT X (.Compare a [op] [b] pos) (tTest (tOp r ta tb)) := by
 intro pins s σ H Q I h
 refine wpAny_isTrue_Compare1 (thn (ha pins s σ H _ I h) fun v s1 ⟨x, H1, I1, r1, q1⟩ => thn (hb pins s1 σ H1 _ I1 q1) fun u s2 ⟨y, H2, I2, r2, q2⟩ =>
  thn (ho pins s2 σ H2 x y v u _ I2 r1 r2 q2) fun c s3 ⟨z, H3, I3, r3, k, e, q3⟩ => ?_) hm
 subst e
 cases r3
 exact wpAny_truthy_bool ⟨H3, I3, q3⟩
theorem line63 : (sizeLine : Nat) < 2 ^ 63 := by rw [sizeLine_eq]; decide
theorem vals1 {x : V} {us : List Value} (r : Vals [x] us) : ∃ u, us = [u] ∧ RelV x u := by
 cases r with
 | cons r1 r2 => cases r2; exact ⟨_, rfl, r1⟩
theorem vals2 {x y : V} {us : List Value} (r : Vals [x, y] us) : ∃ u w', us = [u, w'] ∧ RelV x u ∧ RelV y w' := by
 cases r with
 | cons r1 r2 =>
  cases r2 with
  | cons r3 r4 => cases r4; exact ⟨_, _, rfl, r1, r3⟩
theorem call_abs : CallR X (.builtin "abs") (fun xs H Q => ∃ i, xs = [.int i] ∧ Q (.int (if i < 0 then -i else i)) H) := by
 intro pins s σ H xs us Q I r h
 obtain ⟨i, rfl, q⟩ := h
 obtain ⟨u, rfl, t, rfl⟩ := vals1 r
 exact call_abs_int fun u tk => ⟨.int (if i < 0 then -i else i), H, I.tok _, ⟨_, rfl⟩, q⟩
theorem call_int1 : CallR X (.type "int") (fun xs H Q => (∃ i, xs = [.int i] ∧ Q (.int i) H) ∨ ∃ k, xs = [.bl k] ∧ Q (.int (if k then 1 else 0)) H) := by
 intro pins s σ H xs us Q I r h
 rcases h with ⟨i, rfl, q⟩ | ⟨k, rfl, q⟩
 ·obtain ⟨u, rfl, t, rfl⟩ := vals1 r
  exact call_int_int ⟨.int i, H, I, ⟨_, rfl⟩, q⟩
 ·obtain ⟨u, rfl, r1⟩ := vals1 r
  cases r1
  exact call_int_bool ⟨.int (if k then 1 else 0), H, I.tok _, ⟨_, rfl⟩, q⟩
end
end L2
namespace L2
open PySem PySem.Spec PyProof.Rows
structure ObjM (h : Heap) (x dx C : Addr) (mA : Str → Option Value) : Prop where
 obj : h.get? x = some (PySem.W.instObj C dx)
 ns : h.Ns1 dx mA
 ne : dx ≠ x
theorem lookIn_ns {h : Heap} {dx : Addr} {mA : Str → Option Value} (n : h.Ns1 dx mA) : ∃ od, h.get? dx = some od ∧ ∀ name, PySem.W.lookIn name od = some (mA name) := by
 obtain ⟨o, es, ep, ho, hd, hk, _, hm⟩ := n
 refine ⟨o, ho, fun name => ?_⟩
 have e := hm name
 unfold nsFind findBy at e
 rw [← Array.find?_toList] at e
 unfold PySem.W.lookIn
 rw [hd]
 dsimp only
 split
 ·rename_i y q
  rw [q] at e
  exact congrArg some e
 ·rename_i q
  rw [q] at e
  have a : es.toList.any (·.refKey) = false := by
   rw [List.any_eq_false]
   intro y hy
   obtain ⟨z, t, hkey⟩ := hk y (Array.mem_toList_iff.mp hy)
   simp [DictEntry.refKey, hkey]
  have a' : ¬ es.toList.any (·.refKey) = true := by rw [a]; exact Bool.false_ne_true
  rw [if_neg a']
  exact congrArg some e
theorem ObjM.look {h : Heap} {x dx C : Addr} {mA : Str → Option Value} (I : ObjM h x dx C mA) : ∃ od, PySem.W.InstAt h x (PySem.W.instObj C dx) C (some od) ∧ ∀ name, PySem.W.lookIn name od = some (mA name) :=
 let ⟨od, ho, hl⟩ := lookIn_ns I.ns
 ⟨od, ⟨I.obj, rfl, rfl, ho⟩, hl⟩
section
variable {prog : Program} {w : World} {A : Around} {E : Value → Shared → Prop} {s : Shared} {K : PySem.W.Frag} {x dx C f : Addr} {mA : Str → Option Value} {name : Str} {v : Value}
theorem get_map {expr : Bool} {Q : Value → Shared → Prop} (X : K.In s.heap) (I : ObjM s.heap x dx C mA) (hg : PySem.W.plainGet K C name = true) (hh : PySem.W.hasDictIn K C = true)
  (ha : PySem.W.findIn K (.ref C) name = some none) (hv : mA name = some v) (hv' : PySem.W.handedIn v = true) (h : Q v { s with toks := s.toks + 1 }) :
  wpAny (model prog w) A (getAttr (.ref x) name expr) Q E s := by
 obtain ⟨od, J, hl⟩ := I.look
 exact PySem.W.get_value X J (PySem.W.plainGet_of hg).1 (PySem.W.findObj_own hh ha rfl (by rw [hl, hv])) hv' h
theorem get_meth {pl : Sem Bool} {Q : Value × List Value → Shared → Prop} (X : K.In s.heap) (I : ObjM s.heap x dx C mA) (hg : PySem.W.plainGet K C name = true)
  (hf : PySem.W.findIn K (.ref C) name = some (some (.ref f))) (ht : PySem.W.isFn K (.ref f) = true) (hv : mA name = none) (h : Q (.ref f, [.ref x]) s) :
  wpAny (model prog w) A (getMethod (.ref x) name pl) Q E s := by
 obtain ⟨od, J, hl⟩ := I.look
 exact PySem.W.method_fn X J (PySem.W.plainGet_of hg).1 (PySem.W.plainGet_of hg).2 hf (beq_iff_eq.mp ht) (by show (PySem.W.lookIn name od).map (·.isSome) = some false; rw [hl, hv]; rfl) h
theorem set_map {ns : List Str} {Q : Unit → Shared → Prop} (X : K.In s.heap) (I : ObjM s.heap x dx C mA)
  (hs : PySem.W.findIn K (.ref C) "__setattr__" = some (some (.builtin "object.__setattr__"))) (hp : PySem.W.plainOver K C = true) (ht : PySem.W.takerIn K C name = some none) (hh : PySem.W.hasDictIn K C = true)
  (hw : PySem.Within mA ns) (hsz : ns.length ≤ sizeLine)
  (h : ∀ h', ObjM h' x dx C (fun y => if y = name then some v else mA y) → Heap.SameBut dx s.heap h' → Q () { s with heap := h', toks := s.toks + 2 }) :
  wpAny (model prog w) A (setAttr (.ref x) name v) Q E s := by
 obtain ⟨od, J, hl⟩ := I.look
 refine PySem.W.set_plain X J hs (PySem.W.osa_open (s := { s with toks := s.toks + 1 }) (r := none) X J hp ht fun b => ?_)
 obtain ⟨cd, hc, hd'⟩ := PySem.W.any_some hh
 have hx : s.heap.get? x = some ⟨.ref C, some dx, .plain, #[]⟩ := I.obj
 refine wpAny_bind (wpAny_pure (wpAny_bind (wpAny_bind (wpAny_loadPart hx (wpAny_bind (PySem.W.Looks.here (s := { s with toks := s.toks + 1 }) (PySem.W.looks_clsIn X hc) ?_))))))
 rw [hd']
 refine wpAny_pure (a := some dx) (wpAny_bind (wpAny_pure (wpAny_bind ?_)))
 refine wpAny_nsSet1 (s := { s with toks := s.toks + 1 }) I.ns fun h' hn2 hs2 => ?_
 obtain ⟨oD, esD, epD, hoD, hdD, hcD⟩ := hn2.count (PySem.Within.cons name v hw)
 refine wpAny_bind (wpAny_lookBehind hoD (by rw [hdD]; exact pastItsLine_dict (Nat.le_trans hcD (by rw [List.length_cons]; omega))) ?_)
 exact wpAny_pure (h _ ⟨(hs2.2 _ (Ne.symm I.ne)).trans I.obj, hn2, I.ne⟩ hs2)
theorem make_map {R : Result → Shared → Prop} {vs : List Value} {kw : List (Str × Value)} (X : K.In s.heap) (hm : PySem.W.makesIn K C = true)
  (hi : PySem.W.findIn K (.ref C) "__init__" = some (some (.ref f))) (hf : PySem.W.typeIn K (.ref f) = some (.type "function"))
  (h : codeAny (model prog w) (A.under (.builtin "type.__call__" ⟨.ref C :: vs, kw⟩)) (.call (.ref f) ⟨.ref (s.heap.objs.size + 1) :: vs, kw⟩) (PySem.W.InitBack (s.heap.objs.size + 1) R)
   { s with heap := (s.heap.push PySem.W.emptyDict).push (PySem.W.instObj C s.heap.objs.size) }) :
  codeAny (model prog w) A (.call (.ref C) ⟨vs, kw⟩) R s := by
 obtain ⟨hh, g, d, t, os⟩ := s
 exact PySem.W.make_core (PySem.W.makes_of X hm) (PySem.W.looks_findIn X hi) (fun self => PySem.W.bind_fn X self hf) (.inl rfl) h
end
noncomputable def putF (f : Str) (v : V) : List (Str × V) → List (Str × V)
 | [] => [(f, v)]
 | (g, x) :: r => if g = f then (g, v) :: r else (g, x) :: putF f v r
theorem lookup_putF (f g : Str) (v : V) : ∀ fs : List (Str × V), (putF f v fs).lookup g = if g = f then some v else fs.lookup g
 | [] => by
  show List.lookup g [(f, v)] = _
  by_cases h : g = f
  ·have hb : (g == f) = true := beq_iff_eq.mpr h
   simp only [List.lookup, hb, if_pos h]
  ·have hb : (g == f) = false := beq_eq_false_iff_ne.mpr h
   simp only [List.lookup, hb, if_neg h]
 | (k, x) :: r => by
  have ih := lookup_putF f g v r
  rw [show putF f v ((k, x) :: r) = (if k = f then (k, v) :: r else (k, x) :: putF f v r) from rfl]
  by_cases hk : k = f
  ·rw [if_pos hk]
   by_cases h : g = k
   ·have hb : (g == k) = true := beq_iff_eq.mpr h
    simp only [List.lookup, hb, if_pos (h.trans hk)]
   ·have hb : (g == k) = false := beq_eq_false_iff_ne.mpr h
    simp only [List.lookup, hb, if_neg (fun e : g = f => h (e.trans hk.symm))]
  ·rw [if_neg hk]
   by_cases h : g = k
   ·have hb : (g == k) = true := beq_iff_eq.mpr h
    simp only [List.lookup, hb, if_neg (fun e : g = f => hk (h.symm.trans e))]
   ·have hb : (g == k) = false := beq_eq_false_iff_ne.mpr h
    simp only [List.lookup, hb]
    exact ih
theorem keys_putF (f : Str) (v : V) : ∀ fs : List (Str × V), f ∈ (putF f v fs).map (·.1) ∧ ∀ g, g ∈ fs.map (·.1) → g ∈ (putF f v fs).map (·.1)
 | [] => ⟨by simp [putF], fun g h => by simp at h⟩
 | (k, x) :: r => by
  obtain ⟨i1, i2⟩ := keys_putF f v r
  rw [show putF f v ((k, x) :: r) = (if k = f then (k, v) :: r else (k, x) :: putF f v r) from rfl]
  by_cases hk : k = f
  ·rw [if_pos hk]
   subst hk
   exact ⟨by simp, fun g h => by simpa using h⟩
  ·rw [if_neg hk]
   refine ⟨?_, fun g h => ?_⟩
   ·rw [List.map_cons]
    exact List.mem_cons_of_mem _ i1
   ·rw [List.map_cons] at h ⊢
    rcases List.mem_cons.mp h with e | e
    ·exact List.mem_cons.mpr (.inl e)
    ·exact List.mem_cons_of_mem _ (i2 g e)
theorem length_putF (f : Str) (v : V) : ∀ fs : List (Str × V), (putF f v fs).length ≤ fs.length + 1
 | [] => by simp [putF]
 | (k, x) :: r => by
  have ih := length_putF f v r
  rw [show putF f v ((k, x) :: r) = (if k = f then (k, v) :: r else (k, x) :: putF f v r) from rfl]
  by_cases hk : k = f
  ·rw [if_pos hk, List.length_cons, List.length_cons]; omega
  ·rw [if_neg hk, List.length_cons, List.length_cons]; omega
theorem RelO.some_of {v : V} {o : Option Value} (r : RelO (some v) o) : ∃ u, o = some u ∧ RelV v u := by
 cases o with
 | none => exact (show False from r).elim
 | some u => exact ⟨u, rfl, r⟩
theorem RelO.none_of {o : Option Value} (r : RelO none o) : o = none := by
 cases o with
 | none => rfl
 | some u => exact (show False from r).elim
theorem handed_of {v : V} {u : Value} (r : RelV v u) : PySem.W.handedIn u = true := by
 cases v with
 | non => cases (show u = Value.none from r); rfl
 | bl b => cases (show u = Value.bool b from r); rfl
 | int i => obtain ⟨t, e⟩ := (show ∃ t, u = Value.int i t from r); cases e; rfl
 | str x => obtain ⟨t, e⟩ := (show ∃ t, u = Value.str x t from r); cases e; rfl
 | byt b => obtain ⟨t, e⟩ := (show ∃ t, u = Value.bytes b t from r); cases e; rfl
 | flt b => obtain ⟨t, e⟩ := (show ∃ t, u = Value.float b t from r); cases e; rfl
 | ref a => cases (show u = Value.ref a from r); rfl
 | ty n => cases (show u = Value.type n from r); rfl
section
variable {P : Program} {w : World} {H H' : Hp} {h h' : Heap} {a C dx : Addr} {fs fs' : List (Str × V)}
theorem ins_get (hok : HOk P w H h) (e : H a = some (.ins C dx fs)) : ∃ mA, ObjM h a dx C mA ∧ (∀ f, RelO (fs.lookup f) (mA f)) ∧ PySem.Within mA (fs.map (·.1)) ∧ fs.length ≤ 1000 ∧ H dx = some (.own a) := by
 obtain ⟨d, z, ne, ob, mA, n, r, q⟩ := (show ObjOk P w H h a (.ins C dx fs) from hok a _ e)
 exact ⟨mA, ⟨ob, n, ne⟩, r, q, z, d⟩
end
structure Cls (K : PySem.W.Frag) (C : Addr) : Prop where
 pg : PySem.W.plainGet K C Str.empty = true
 hd : PySem.W.hasDictIn K C = true
 po : PySem.W.plainOver K C = true
 sa : PySem.W.findIn K (.ref C) "__setattr__" = some (some (.builtin "object.__setattr__"))
theorem Cls.get {K : PySem.W.Frag} {C : Addr} (c : Cls K C) (f : Str) : PySem.W.plainGet K C f = true := c.pg
noncomputable def NoAttr (K : PySem.W.Frag) (C : Addr) (f : Str) : Prop := PySem.W.findIn K (.ref C) f = some none
theorem NoAttr.taker {K : PySem.W.Frag} {C : Addr} {f : Str} (n : NoAttr K C f) : PySem.W.takerIn K C f = some none := by
 unfold PySem.W.takerIn
 rw [show PySem.W.findIn K (.ref C) f = some none from n]
 rfl
structure Con (K : PySem.W.Frag) (C : Addr) (f : Str) (v : V) (u : Value) : Prop where
 at_ : PySem.W.findIn K (.ref C) f = some (some u)
 rel : RelV v u
 get : PySem.W.specialIn K u "__get__" = some none
 cp : PySem.W.copiedNames.contains f = false
structure Meth (K : PySem.W.Frag) (C : Addr) (m : Str) (f : Addr) : Prop where
 at_ : PySem.W.findIn K (.ref C) m = some (some (.ref f))
 fn : PySem.W.isFn K (.ref f) = true
 kp : PySem.W.keepIn K (.ref f) = true
section
variable {X : Cx} {pins : List (Addr × Obj)} {σ : St} {H : Hp} {s : Shared} {a C dx : Addr} {fs : List (Str × V)} {f : Str} {v : V} {A : Around} {E : Value → Shared → Prop}
theorem getattr_ok {b : Bool} {Q : Value → Shared → Prop} (I : Inv X pins σ H s) (e : H a = some (.ins C dx fs)) (c : Cls X.K C) (n : NoAttr X.K C f) (l : fs.lookup f = some v)
  (h : ∀ u s', Inv X pins σ H s' → RelV v u → Q u s') : wpAny (model X.prog X.w) A (getAttr (.ref a) f b) Q E s := by
 obtain ⟨mA, O, r, _, _, _⟩ := ins_get I.hok e
 obtain ⟨u, hu, ru⟩ := RelO.some_of (v := v) (o := mA f) (by rw [← l]; exact r f)
 exact get_map I.kIn O (c.get f) c.hd n hu (handed_of ru) (h u _ (I.tok _) ru)
theorem getmeth_ok {m : Str} {g : Addr} {pl : Sem Bool} {Q : Value × List Value → Shared → Prop} (I : Inv X pins σ H s) (e : H a = some (.ins C dx fs)) (c : Cls X.K C) (k : Meth X.K C m g) (l : fs.lookup m = none)
  (h : Q (.ref g, [.ref a]) s) : wpAny (model X.prog X.w) A (getMethod (.ref a) m pl) Q E s := by
 obtain ⟨mA, O, r, _, _, _⟩ := ins_get I.hok e
 have hn : mA m = none := RelO.none_of (by rw [← l]; exact r m)
 exact get_meth I.kIn O (c.get m) k.at_ k.fn hn h
theorem setattr_ok {y : V} {u : Value} {Q : Unit → Shared → Prop} (I : Inv X pins σ H s) (e : H a = some (.ins C dx fs)) (c : Cls X.K C) (n : NoAttr X.K C f) (hl : fs.length < 1000) (ry : RelV y u)
  (h : ∀ s', Inv X pins σ (upd H a (.ins C dx (putF f y fs))) s' → Q () s') : wpAny (model X.prog X.w) A (setAttr (.ref a) f u) Q E s := by
 obtain ⟨mA, O, r, wi, _, ho⟩ := ins_get I.hok e
 have hz : (fs.map (·.1)).length ≤ sizeLine := by rw [List.length_map, sizeLine_eq]; omega
 refine set_map I.kIn O c.sa c.po n.taker c.hd wi hz fun h' O' sb => h _ ?_
 have hd : ∃ o, h'.get? dx = some o := let ⟨o, _, _, e', _⟩ := O'.ns; ⟨o, e'⟩
 refine I.write (x := a) (e := dx) (by rw [e]; exact True.intro) (.inr ho) (fun b q hb z => (sb.2 b hb).trans z) hd ?_
 refine ⟨by rw [upd_ne O.ne]; exact ho, ?_, O.ne, O'.obj, _, O'.ns, fun g => ?_, fun g hg => ?_⟩
 ·have := length_putF f y fs; omega
 ·show RelO ((putF f y fs).lookup g) (if g = f then some u else mA g)
  rw [lookup_putF]
  by_cases q : g = f
  ·rw [if_pos q, if_pos q]; exact ry
  ·rw [if_neg q, if_neg q]; exact r g
 ·by_cases q : g = f
  ·rw [q]; exact (keys_putF f y fs).1
  ·refine (keys_putF f y fs).2 g (wi g fun z => hg ?_)
   show (if g = f then some u else mA g) = none
   rw [if_neg q]; exact z
theorem Inv.made (I : Inv X pins σ H s) : Inv X pins σ (upd (upd H s.heap.objs.size (.own (s.heap.objs.size + 1))) (s.heap.objs.size + 1) (.ins C s.heap.objs.size []))
  { s with heap := (s.heap.push PySem.W.emptyDict).push (PySem.W.instObj C s.heap.objs.size) } := by
 have e1 : (s.heap.push PySem.W.emptyDict).get? s.heap.objs.size = some PySem.W.emptyDict := Heap.get?_push_size s.heap rfl
 have e2 : ((s.heap.push PySem.W.emptyDict).push (PySem.W.instObj C s.heap.objs.size)).get? (s.heap.objs.size + 1) = some (PySem.W.instObj C s.heap.objs.size) := by
  have := Heap.get?_push_size (s.heap.push PySem.W.emptyDict) (o := PySem.W.instObj C s.heap.objs.size) rfl
  rwa [Heap.size_push] at this
 have e3 : (s.heap.push PySem.W.emptyDict).Ns s.heap.objs.size (fun _ => none) := ⟨PySem.W.emptyDict, #[], _, e1, rfl, (fun e he => absurd he (by simp)), fun _ => rfl⟩
 have I1 := I.laid (a := s.heap.objs.size) (o := .own (s.heap.objs.size + 1)) (h' := s.heap.push PySem.W.emptyDict) (t' := s.toks) (fun b u q => Heap.get?_push_of_some _ q) (Nat.le_refl _) ⟨_, e1⟩
 refine I1.laid (a := s.heap.objs.size + 1) (o := .ins C s.heap.objs.size []) (t' := s.toks) (fun b u q => Heap.get?_push_of_some _ q) (Nat.le_of_eq (Heap.size_push _ _)) ?_
 have ne : s.heap.objs.size ≠ s.heap.objs.size + 1 := Nat.ne_of_lt (Nat.lt_succ_self _)
 refine ⟨by rw [upd_ne ne, upd_same], Nat.zero_le _, ne, e2, fun _ => none, (Heap.Ns1.of_empty e3).at fun o q => Heap.get?_push_of_some _ q, fun _ => True.intro, fun y hy => absurd rfl hy⟩
theorem attr_of {prog : Program} {w : World} {env : Env} {e : Expr} {f : Str} {pos : Pos} {s : Shared} {Q : Value → Shared → Prop} (hb : attributeBase e f env (eval e env) = eval e env)
  (h : wpAny (model prog w) A (eval e env) (fun o s₁ => wpAny (model prog w) A (getAttr o f true) Q E s₁) E s) : wpAny (model prog w) A (eval (.Attribute e f pos) env) Q E s :=
 Attribute_any_ h (by rw [arm_eval_Attribute, hb])
end
noncomputable def tFld (K : PySem.W.Frag) (ta : TE) (f : Str) : TE := fun σ H Q => ta σ H fun x H1 => ∃ a C dx fs v, x = .ref a ∧ H1 a = some (.ins C dx fs) ∧ Cls K C ∧ NoAttr K C f ∧ fs.lookup f = some v ∧ Q v H1
noncomputable def sFld (K : PySem.W.Frag) (ta tv : TE) (f : Str) : TS := fun D σ H => tv σ H fun y H1 => ta σ H1 fun x H2 => ∃ a C dx fs, x = .ref a ∧ H2 a = some (.ins C dx fs) ∧ Cls K C ∧ NoAttr K C f ∧ fs.length < 1000 ∧
 D.nx σ (upd H2 a (.ins C dx (putF f y fs)))
section
variable {X : Cx} {o e value : Expr} {f : Str} {pos pos' tpos : Pos} {ta tv : TE}
theorem pe_fld (he : PE X e ta) (hb : attributeBase e f X.env (eval e X.env) = eval e X.env) : PE X (.Attribute e f pos) (tFld X.K ta f) := by
 intro pins s σ H Q I h
 refine attr_of hb (thn (he pins s σ H _ I h) fun u s1 ⟨x, H1, I1, rx, a, C, dx, fs, v, ex, ea, c, n, l, q⟩ => ?_)
 subst ex
 obtain rfl : u = Value.ref a := rx
 exact getattr_ok I1 ea c n l fun u' s2 I2 ru => ⟨v, H1, I2, ru, q⟩
theorem ps_fld (ha : PE X o ta) (hv : PE X value tv) (hs : swapsWith value (some (.Attribute o f pos')) pos.line X.env = pure false) : PS X (.Assign [.Attribute o f pos'] value pos) (sFld X.K ta tv f) := by
 intro pins s σ H D I h
 refine plainObj_wpAny_Assign_Attribute (thn (hv pins s σ H _ I h) fun u s1 ⟨y, H1, I1, ry, q⟩ => thn (ha pins s1 σ H1 _ I1 q) fun ov s2 ⟨x, H2, I2, rx, a, C, dx, fs, ex, ea, c, n, l, q2⟩ => ?_) hs
 subst ex
 obtain rfl : ov = Value.ref a := rx
 exact setattr_ok I2 ea c n l ry fun s3 I3 => ⟨σ, _, I3, q2⟩
end
section
variable {X : Cx} {pins : List (Addr × Obj)} {σ : St} {H : Hp} {s : Shared} {A : Around} {E : Value → Shared → Prop} {Q : Value → Shared → Prop} {c : Value} {b : Bool}
inductive TyOf (K : PySem.W.Frag) (H : Hp) : V → Value → Prop where
 | non : TyOf K H .non (.type "NoneType")
 | bl (x : Bool) : TyOf K H (.bl x) (.type "bool")
 | int (i : Int) : TyOf K H (.int i) (.type "int")
 | str (x : Str) : TyOf K H (.str x) (.type "str")
 | flt (x : UInt64) : TyOf K H (.flt x) (.type "float")
 | lst {a : Addr} {xs : List V} (e : H a = some (.lst xs)) : TyOf K H (.ref a) (.type "list")
 | frz {a : Addr} {o : Obj} {xs : List V} (e : H a = some (.frz o (.lst xs))) : TyOf K H (.ref a) (.type "list")
 | tup {a : Addr} {xs : List V} (e : H a = some (.tup xs)) : TyOf K H (.ref a) (.type "tuple")
 | dK {a : Addr} {kvs : List (Key × V)} (e : H a = some (.dK kvs)) : TyOf K H (.ref a) (.type "dict")
 | dT {a : Addr} {kvs : List (List Key × V)} (e : H a = some (.dT kvs)) : TyOf K H (.ref a) (.type "dict")
 | ins {a C dx : Addr} {fs : List (Str × V)} (e : H a = some (.ins C dx fs)) (cl : Cls K C) (ha : PySem.W.findIn K (.ref C) "__class__" = some (some (.builtin "object.__class__")))
   (hn : PySem.W.specialIn K (.builtin "object.__class__") "__get__" = some (some (.builtin "getset_descriptor.__get__"))) (htk : PySem.W.takesIn K (.builtin "object.__class__") = some true)
   (hm : PySem.W.mroIn K C (.type "object") = some true) : TyOf K H (.ref a) (.ref C)
theorem isinst_ok {x : V} {u t : Value} (I : Inv X pins σ H s) (rx : RelV x u) (ty : TyOf X.K H x t) (e : PySem.W.kitOne X.K t c = some b) (h : ∀ tk, Q (.bool b) { s with toks := tk }) :
  wpAny (model X.prog X.w) A (call (.builtin "isinstance") [u, c]) Q E s := by
 cases ty with
 | non => cases (show u = Value.none from rx); exact PySem.W.kia_one PySem.W.kitx_none I.kIn True.intro e (fun z => nomatch z) h
 | bl y => cases (show u = Value.bool y from rx); exact PySem.W.kia_one PySem.W.kitx_bool I.kIn True.intro e (fun z => nomatch z) h
 | int i => obtain ⟨t, q⟩ := (show ∃ t, u = Value.int i t from rx); cases q; exact PySem.W.kia_one PySem.W.kitx_int I.kIn True.intro e (fun z => nomatch z) h
 | str y => obtain ⟨t, q⟩ := (show ∃ t, u = Value.str y t from rx); cases q; exact PySem.W.kia_one PySem.W.kitx_str I.kIn True.intro e (fun z => nomatch z) h
 | flt y => obtain ⟨t, q⟩ := (show ∃ t, u = Value.float y t from rx); cases q; exact PySem.W.kia_one PySem.W.kitx_float I.kIn True.intro e (fun z => nomatch z) h
 | @lst a xs ea =>
  cases (show u = Value.ref a from rx)
  obtain ⟨_, _, n, _, h1⟩ := (show ObjOk X.prog X.w H s.heap a (.lst xs) from I.hok a _ ea)
  exact PySem.W.kia_one PySem.W.kitx_list I.kIn ⟨_, h1, rfl⟩ e (fun z => nomatch z) h
 | @frz a ob xs ea =>
  cases (show u = Value.ref a from rx)
  obtain ⟨_, _, _, n, _, h1⟩ := (show ObjOk X.prog X.w H s.heap a (.frz ob (.lst xs)) from I.hok a _ ea)
  exact PySem.W.kia_one PySem.W.kitx_list I.kIn ⟨_, h1, rfl⟩ e (fun z => nomatch z) h
 | @tup a xs ea =>
  cases (show u = Value.ref a from rx)
  obtain ⟨_, _, _, p⟩ := (show ObjOk X.prog X.w H s.heap a (.tup xs) from I.hok a _ ea)
  obtain ⟨o, h1, h2, _⟩ := p
  exact PySem.W.kia_one PySem.W.kitx_tuple I.kIn ⟨o, h1, h2⟩ e (fun z => nomatch z) h
 | @dK a kvs ea =>
  cases (show u = Value.ref a from rx)
  obtain ⟨_, _, vs, _, p⟩ := (show ObjOk X.prog X.w H s.heap a (.dK kvs) from I.hok a _ ea)
  obtain ⟨o, es, ep, h1, h2, _⟩ := p
  exact PySem.W.kia_one PySem.W.kitx_dict I.kIn ⟨o, h1, h2.1⟩ e (fun z => nomatch z) h
 | @dT a kvs ea =>
  cases (show u = Value.ref a from rx)
  obtain ⟨_, _, xs, _, o, es, ep, h1, h2, _⟩ := (show ObjOk X.prog X.w H s.heap a (.dT kvs) from I.hok a _ ea)
  exact PySem.W.kia_one PySem.W.kitx_dict I.kIn ⟨o, h1, h2.1⟩ e (fun z => nomatch z) h
 | @ins a C dx fs ea cl ha hn htk hm =>
  cases (show u = Value.ref a from rx)
  obtain ⟨mA, O, _⟩ := ins_get I.hok ea
  obtain ⟨od, J, _⟩ := O.look
  exact PySem.W.kia_one (PySem.W.kitx_own (cl.get _) cl.hd ha hn htk hm) I.kIn J e (fun z => nomatch z) h
end
end L2
namespace L2
open PySem PySem.Spec PyProof.Rows
structure Room (k : Nat) (A : Around) : Prop where
 hd : A.handled = none
 dp : A.depth + 3 * k + 5 < recursionLimit
 un : A.units + 16 * k + 200 < cLine
theorem Room.mono {j k : Nat} {A : Around} (r : Room k A) (h : j ≤ k) : Room j A := ⟨r.hd, by have := r.dp; omega, by have := r.un; omega⟩
theorem Room.deeper {k : Nat} {A : Around} (r : Room (k + 1) A) (env : Env) : Room k (A.deeper env) :=
 ⟨r.hd, by have := r.dp; show A.depth + 1 + 3 * k + 5 < _; omega, by have := r.un; show A.units + 3 + 16 * k + 200 < _; omega⟩
theorem Room.in1 {k : Nat} {A : Around} (r : Room (k + 1) A) : Room k A.in1 :=
 ⟨r.hd, by have := r.dp; show A.depth + 3 * k + 5 < _; omega, by have := r.un; show A.units + 1 + 16 * k + 200 < _; omega⟩
theorem make_depth {A : Around} {C : Addr} {us : List Value} {kw : List (Str × Value)} : (A.under (.builtin "type.__call__" ⟨.ref C :: us, kw⟩)).depth = A.depth + 1 := by
 first | rfl | simp [Around.under, Code.weight, Code.isCreation, Code.isGuard, Code.isCaller, Code.frames, Code.isFrame, guardIds]
theorem make_units {A : Around} {C : Addr} {us : List Value} {kw : List (Str × Value)} : (A.under (.builtin "type.__call__" ⟨.ref C :: us, kw⟩)).units = A.units + 1 := by
 first | rfl | simp [Around.under, Code.cUnits, Code.frames, Code.isFrame]
theorem Room.make {k : Nat} {A : Around} (r : Room (k + 1) A) (C : Addr) (us : List Value) (kw : List (Str × Value)) : Room k (A.under (.builtin "type.__call__" ⟨.ref C :: us, kw⟩)) :=
 ⟨r.hd, by have := r.dp; rw [make_depth]; omega, by have := r.un; rw [make_units]; omega⟩
theorem Room.depth {k : Nat} {A : Around} (r : Room k A) : A.depth < recursionLimit := by have := r.dp; omega
theorem Room.units {k : Nat} {A : Around} (r : Room k A) : A.units + 64 < cLine := by have := r.un; omega
theorem Room.units0 {k : Nat} {A : Around} (r : Room k A) : A.units < cLine := by have := r.un; omega
noncomputable def tNil : TA := fun _ H Q => Q [] H
noncomputable def tCons (ta : TE) (tr : TA) : TA := fun σ H Q => ta σ H fun x H1 => tr σ H1 fun xs H2 => Q (x :: xs) H2
section
variable {X : Cx} {e : Expr} {es : List Expr} {te : TE} {t : TA} {pos : Pos}
theorem pa_nil : PA X [] tNil := fun _ _ _ _ H Q I h => Calls.spliced_nil ⟨[], H, I, .nil, h⟩
theorem pa_cons (ha : PE X e te) (hr : PA X es t) (hs : starEach (e :: es) X.env = (false, eval e X.env) :: starEach es X.env := by rfl) : PA X (e :: es) (tCons te t) := by
 intro pos pins s σ H Q I h
 rw [hs]
 show wpAny _ _ (spliced ((false, eval e X.env) :: backTo pos (starEach es X.env))) _ _ s
 refine Calls.spliced_cons (thn (ha pins s σ H _ I h) fun u s1 ⟨x, H1, I1, r1, q1⟩ => ?_)
 exact thn (hr pos pins s1 σ H1 _ I1 q1) fun us s2 ⟨xs, H2, I2, r2, q2⟩ => ⟨x :: xs, H2, I2, .cons r1 r2, q2⟩
noncomputable def tTup (t : TA) : TE := fun σ H Q => t σ H fun xs H1 => xs.length ≤ sizeLine ∧ ∀ p, H1 p = none → Q (.ref p) (upd H1 p (.tup xs))
noncomputable def tLst (t : TA) : TE := fun σ H Q => t σ H fun xs H1 => xs.length ≤ sizeLine ∧ ∀ p, H1 p = none → Q (.ref p) (upd H1 p (.lst xs))
theorem pe_tup {x1} (h : PA X es t) : PE X (.Tuple es x1 pos) (tTup t) := by
 intro pins s σ H Q I hq
 refine wpAny_Tuple_spliced (thn (h pos pins s σ H _ I hq) fun us s1 ⟨xs, H1, I1, r, z, q⟩ => ⟨by rw [← r.length]; exact z, ?_⟩)
 have hf : H1 s1.heap.objs.size = none := I1.hok.fresh (Nat.le_refl _)
 refine ⟨.ref s1.heap.objs.size, upd H1 s1.heap.objs.size (.tup xs), I1.laid (t' := s1.toks) (fun b u e => Heap.get?_push_of_some _ e) (Nat.le_refl _) ?_, rfl, q _ hf⟩
 exact ⟨z, us, r, ⟨_, Heap.get?_push_size _ rfl, rfl, _, rfl⟩⟩
theorem pe_lst (h : PA X es t) : PE X (.List es pos) (tLst t) := by
 intro pins s σ H Q I hq
 refine wpAny_List_spliced (thn (h pos pins s σ H _ I hq) fun us s1 ⟨xs, H1, I1, r, z, q⟩ => ⟨by rw [← r.length]; exact z, ?_⟩)
 have hf : H1 s1.heap.objs.size = none := I1.hok.fresh (Nat.le_refl _)
 refine ⟨.ref s1.heap.objs.size, upd H1 s1.heap.objs.size (.lst xs), I1.laid (t' := s1.toks) (fun b u e => Heap.get?_push_of_some _ e) (Nat.le_refl _) ?_, rfl, q _ hf⟩
 exact ⟨z, us, 0, r, Heap.get?_push_size _ rfl⟩
end
abbrev Sp := List V → Hp → VK → XK → Prop
abbrev CXT := List Env → Hp → Shared → XK → Value → Shared → Prop
structure Env0 (P : Program) (w : World) (K : PySem.W.Frag) (mg : Str → Option Value) (base : Heap) (A : Around) (outer : List Env) (s : Shared) (H : Hp) : Prop where
 frames : A.frames = some outer
 mod : Mod K mg base
 bs : ∀ b o, base.get? b = some o → s.heap.get? b = some o ∧ H b = none
 bsz : base.objs.size ≤ s.heap.objs.size
 funs : s.heap.FunFrames base outer
 frf : ∀ b ∈ frs outer, H b = none
 hok : HOk P w H s.heap
 bare : AllBare s.gens
noncomputable def CE (outer : List Env) (P : Program) (w : World) (H : Hp) (s : Shared) (Q : VK) (u : Value) (s' : Shared) : Prop :=
 ∃ v H', s'.os = s.os ∧ AllBare s'.gens ∧ Un (frs outer) [] H H' s.heap s'.heap ∧ HOk P w H' s'.heap ∧ RelV v u ∧ Q v H'
noncomputable def CR (CX : CXT) (outer : List Env) (P : Program) (w : World) (H : Hp) (s : Shared) (Q : VK) (E : XK) (r : Result) (s' : Shared) : Prop :=
 match r with
 | .ok (.ret u) => CE outer P w H s Q u s'
 | .ok _ => False
 | .error e => CX outer H s E e s'
structure FnOk (P : Program) (w : World) (K : PySem.W.Frag) (mg : Str → Option Value) (base : Heap) (CX : CXT) (k : Nat) (f : Addr) (fd : FuncData) (ps : List Str) (sp : Sp) : Prop where
 len : ∀ vs H Q E, sp vs H Q E → vs.length = ps.length
 run : ∀ (A : Around) (outer : List Env) (s : Shared) (H : Hp) (args : Args) (us : List Value) (vs : List V) (Q : VK) (E : XK), Room k A → Env0 P w K mg base A outer s H → BindsTo s fd args (ps.zip us) → Vals vs us → sp vs H Q E →
  codeAny (model P w) A (.call (.ref f) args) (CR CX outer P w H s Q E) s
theorem FnOk.mono {P : Program} {w : World} {K : PySem.W.Frag} {mg : Str → Option Value} {base : Heap} {CX : CXT} {j k : Nat} {f : Addr} {fd : FuncData} {ps : List Str} {sp : Sp} (F : FnOk P w K mg base CX j f fd ps sp) (h : j ≤ k) :
  FnOk P w K mg base CX k f fd ps sp := ⟨F.len, fun A outer s H args us vs Q E hr => F.run A outer s H args us vs Q E (hr.mono h)⟩
theorem FnOk.imp {P : Program} {w : World} {K : PySem.W.Frag} {mg : Str → Option Value} {base : Heap} {CX : CXT} {k : Nat} {f : Addr} {fd : FuncData} {ps : List Str} {sp sp' : Sp} (F : FnOk P w K mg base CX k f fd ps sp)
  (h : ∀ vs H Q E, sp' vs H Q E → sp vs H Q E) : FnOk P w K mg base CX k f fd ps sp' :=
 ⟨fun vs H Q E q => F.len vs H Q E (h _ _ _ _ q), fun A outer s H args us vs Q E hr he hb hv hs => F.run A outer s H args us vs Q E hr he hb hv (h _ _ _ _ hs)⟩
theorem Env0.make {P : Program} {w : World} {K : PySem.W.Frag} {mg : Str → Option Value} {base : Heap} {A : Around} {outer : List Env} {s : Shared} {H : Hp} (e : Env0 P w K mg base A outer s H) (C : Addr) (us : List Value) (kw : List (Str × Value)) :
  Env0 P w K mg base (A.under (.builtin "type.__call__" ⟨.ref C :: us, kw⟩)) outer s H := ⟨by first | exact e.frames | (simpa [Around.under, Code.envs, Code.isFrame, pushEnvs] using e.frames), e.mod, e.bs, e.bsz, e.funs, e.frf, e.hok, e.bare⟩
theorem Env0.in1 {P : Program} {w : World} {K : PySem.W.Frag} {mg : Str → Option Value} {base : Heap} {A : Around} {outer : List Env} {s : Shared} {H : Hp} (e : Env0 P w K mg base A outer s H) :
  Env0 P w K mg base A.in1 outer s H := ⟨e.frames, e.mod, e.bs, e.bsz, e.funs, e.frf, e.hok, e.bare⟩
section
variable {X : Cx} {pins : List (Addr × Obj)} {σ : St} {H : Hp} {s s' : Shared}
theorem Inv.env0 (I : Inv X pins σ H s) : Env0 X.prog X.w X.K X.mg X.base X.A X.stack s H :=
 ⟨I.ok.frames, I.ok.mod, I.bs, Nat.le_trans I.ok.bsz I.sz, I.stack, I.stkFree, I.hok, I.bare⟩
theorem Inv.after {Q : VK} {u : Value} (I : Inv X pins σ H s) (h : CE X.stack X.prog X.w H s Q u s') : EP X pins σ Q u s' := by
 obtain ⟨v, H', os, bare, un, hok, r, q⟩ := h
 obtain ⟨hh, g, d, t, os'⟩ := s'
 obtain rfl : os' = s.os := os
 exact ⟨v, H', I.call (h' := hh) (g' := g) (d' := d) (t' := t) (ch := []) un hok bare (fun b z => absurd z (by simp)), r, q⟩
end
noncomputable def tCall (sp : Sp) (dvs : List V) (E : XK) (t : TA) : TE := fun σ H Q => t σ H fun vs H1 => sp (vs ++ dvs) H1 Q E
noncomputable def tMeth (C : Addr) (m : Str) (sp : Sp) (dvs : List V) (E : XK) (ta : TE) (t : TA) : TE := fun σ H Q => ta σ H fun x H1 => ∃ a dx fs, x = .ref a ∧ H1 a = some (.ins C dx fs) ∧ fs.lookup m = none ∧
 t σ H1 fun vs H2 => sp (x :: (vs ++ dvs)) H2 Q E
noncomputable def tMake (C : Addr) (sp : Sp) (dvs : List V) (E : XK) (t : TA) : TE := fun σ H Q => t σ H fun vs H1 => ∀ x dx, H1 x = none → H1 dx = none → dx ≠ x →
 sp (.ref x :: (vs ++ dvs)) (upd (upd H1 dx (.own x)) x (.ins C dx [])) (fun v H2 => v = .non ∧ Q (.ref x) H2) E
noncomputable def Binds (K : PySem.W.Frag) (fd : FuncData) (ps : List Str) (ds : List Value) : Prop :=
 ∀ (s : Shared) (us : List Value), K.In s.heap → (us ++ ds).length = ps.length → BindsTo s fd ⟨us, []⟩ (ps.zip (us ++ ds))
theorem Binds.all {K : PySem.W.Frag} {fd : FuncData} {ps : List Str} (h : ∀ us : List Value, us.length = ps.length → bindArgs fd ⟨us, []⟩ = pure (ps.zip us)) : Binds K fd ps [] := fun s us _ hl => by
 rw [List.append_nil] at hl ⊢
 exact .of_eq (h us hl)
noncomputable def Passes (CX : CXT) (X : Cx) (E : XK) : Prop := ∀ (pins : List (Addr × Obj)) (σ : St) (H : Hp) (s : Shared) (e : Value) (s' : Shared), Inv X pins σ H s → CX X.stack H s E e s' → X.xe e s'
section
variable {X : Cx} {CX : CXT} {k : Nat} {f C : Addr} {fd : FuncData} {ps : List Str} {sp : Sp} {dvs : List V} {ds : List Value} {E : XK} {x m : Str} {p pos apos : Pos} {e o : Expr} {es : List Expr} {ta : TE} {t : TA}
theorem run_fn {pins : List (Addr × Obj)} {σ : St} {H : Hp} {s : Shared} {Q : VK} {us : List Value} {vs : List V} (F : FnOk X.prog X.w X.K X.mg X.base CX k f fd ps sp) (hr : Room k X.A) (hb : Binds X.K fd ps ds) (hd : Vals dvs ds) (hx : Passes CX X E)
  (I : Inv X pins σ H s) (r : Vals vs us) (h : sp (vs ++ dvs) H Q E) : wpAny (model X.prog X.w) X.A (call (.ref f) us) (EP X pins σ Q) X.xe s := by
 have r2 : Vals (vs ++ dvs) (us ++ ds) := r.append hd
 have hl : (us ++ ds).length = ps.length := by rw [← r2.length]; exact F.len _ _ _ _ h
 refine wpAny_call (codeAny_mono (F.run X.A X.stack s H ⟨us, []⟩ (us ++ ds) (vs ++ dvs) Q E hr I.env0 (hb s us I.kIn hl) r2 h) fun r s' hq => ?_)
 cases r with
 | error e => exact hx pins σ H s e s' I hq
 | ok fl =>
  cases fl with
  | ret u => exact I.after hq
  | next => exact False.elim hq
  | brk => exact False.elim hq
  | cont => exact False.elim hq
theorem pe_call (F : FnOk X.prog X.w X.K X.mg X.base CX k f fd ps sp) (hr : Room k X.A) (hg : Gl X x) (hm : X.mg x = some (.ref f)) (hk : PySem.W.keepIn X.K (.ref f) = true) (hb : Binds X.K fd ps ds) (hd : Vals dvs ds) (hx : Passes CX X E)
  (ha : PA X (e :: es) t) (hdb : (x == ("__debug__" : Str)) = false := by decide) (he : starEach (e :: es) X.env = (false, eval e X.env) :: starEach es X.env := by rfl) (hpl : (backTo pos (starEach es X.env)).any (·.1) = false := by rfl) :
  PE X (.Call (.Name x p) (e :: es) [] pos) (tCall sp dvs E t) := by
 intro pins s σ H Q I h
 refine wpAny_Call_Name_kw (ld_glob I hg hm ?_ hdb)
 refine PySem.W.callWith_K (h₀ := X.base) I.ok.mod.kin hk (thn (ha pos pins s σ H _ I h) fun us s1 ⟨vs, H1, I1, r, q⟩ => ⟨I1.kIn, ?_⟩) he hpl
 exact run_fn F hr hb hd hx I1 r q
theorem pe_meth {pl : Sem Bool} (he : PE X o ta) (c : Cls X.K C) (hm : Meth X.K C m f) (F : FnOk X.prog X.w X.K X.mg X.base CX k f fd ps sp) (hr : Room k X.A) (hb : Binds X.K fd ps ds) (hd : Vals dvs ds) (hx : Passes CX X E) (ha : PA X (e :: es) t)
  (hst : starEach (e :: es) X.env = (false, eval e X.env) :: starEach es X.env := by rfl) (hpl : (backTo pos (starEach es X.env)).any (·.1) = false := by rfl)
  (ht : eval (.Call (.Attribute o m apos) (e :: es) [] pos) X.env = (do
   let ov ← eval o X.env
   standAt apos.atName
   let (f, first) ← holding [ov] (getMethod ov m pl)
   callWith pos f first (backTo pos (starEach (e :: es) X.env)) (backToKw pos (keywordEach [] X.env))) := by rfl) :
  PE X (.Call (.Attribute o m apos) (e :: es) [] pos) (tMeth C m sp dvs E ta t) := by
 intro pins s σ H Q I h
 refine PySem.W.methodCall_KW (pl := pl) (thn (he pins s σ H _ I h) fun u s1 ⟨x, H1, I1, rx, a, dx, fs, ex, ea, l, q⟩ => ?_) ht
 subst ex
 obtain rfl : u = Value.ref a := rx
 refine getmeth_ok I1 ea c hm l ?_
 refine PySem.W.callWith_K (first := [.ref a]) (h₀ := X.base) I.ok.mod.kin hm.kp (thn (ha pos pins s1 σ H1 _ I1 q) fun us s2 ⟨vs, H2, I2, r, q2⟩ => ⟨I2.kIn, ?_⟩) hst hpl
 exact run_fn (us := .ref a :: us) (vs := .ref a :: vs) F hr hb hd hx I2 (.cons rfl r) q2
theorem pe_meth0 {pl : Sem Bool} (he : PE X o ta) (c : Cls X.K C) (hm : Meth X.K C m f) (F : FnOk X.prog X.w X.K X.mg X.base CX k f fd ps sp) (hr : Room k X.A) (hb : Binds X.K fd ps ds) (hd : Vals dvs ds) (hx : Passes CX X E)
  (ht : eval (.Call (.Attribute o m apos) [] [] pos) X.env = (do
   let ov ← eval o X.env
   standAt apos.atName
   let (f, first) ← holding [ov] (getMethod ov m pl)
   callWith pos f first (backTo pos (starEach [] X.env)) (backToKw pos (keywordEach [] X.env))) := by rfl) :
  PE X (.Call (.Attribute o m apos) [] [] pos) (tMeth C m sp dvs E ta tNil) := by
 intro pins s σ H Q I h
 refine PySem.W.methodCall_KW (pl := pl) (thn (he pins s σ H _ I h) fun u s1 ⟨x, H1, I1, rx, a, dx, fs, ex, ea, l, q⟩ => ?_) ht
 subst ex
 obtain rfl : u = Value.ref a := rx
 refine getmeth_ok I1 ea c hm l ?_
 exact PySem.W.callWith_K0 (first := [.ref a]) I1.kIn hm.kp (run_fn (us := [.ref a]) (vs := [.ref a]) F hr hb hd hx I1 (.cons rfl .nil) q)
structure Mk (K : PySem.W.Frag) (C f : Addr) : Prop where
 makes : PySem.W.makesIn K C = true
 init : PySem.W.findIn K (.ref C) "__init__" = some (some (.ref f))
 fn : PySem.W.isFn K (.ref f) = true
 kp : PySem.W.keepIn K (.ref C) = true
theorem run_make {pins : List (Addr × Obj)} {σ : St} {H : Hp} {s : Shared} {Q : VK} {us : List Value} {vs : List V} (M : Mk X.K C f) (F : FnOk X.prog X.w X.K X.mg X.base CX k f fd ps sp) (hr : Room (k + 1) X.A) (hb : Binds X.K fd ps ds) (hd : Vals dvs ds)
  (hx : Passes CX X E) (I : Inv X pins σ H s) (r : Vals vs us)
  (h : ∀ x dx, H x = none → H dx = none → dx ≠ x → sp (.ref x :: (vs ++ dvs)) (upd (upd H dx (.own x)) x (.ins C dx [])) (fun v H2 => v = .non ∧ Q (.ref x) H2) E) :
  wpAny (model X.prog X.w) X.A (call (.ref C) us) (EP X pins σ Q) X.xe s := by
 have hq := h (s.heap.objs.size + 1) s.heap.objs.size (I.hok.fresh (Nat.le_succ _)) (I.hok.fresh (Nat.le_refl _)) (Nat.ne_of_lt (Nat.lt_succ_self _))
 have I2 := Inv.made (C := C) I
 have r2 : Vals (V.ref (s.heap.objs.size + 1) :: (vs ++ dvs)) (Value.ref (s.heap.objs.size + 1) :: (us ++ ds)) := .cons rfl (r.append hd)
 have hl : (Value.ref (s.heap.objs.size + 1) :: us ++ ds).length = ps.length := by
  have e := r2.length
  rw [F.len _ _ _ _ hq] at e
  exact e.symm
 refine wpAny_call (make_map (f := f) I.kIn M.makes M.init (beq_iff_eq.mp M.fn) (codeAny_mono (F.run _ X.stack _ _ ⟨Value.ref (s.heap.objs.size + 1) :: us, []⟩ (Value.ref (s.heap.objs.size + 1) :: (us ++ ds)) _ _ E (hr.make C us [])
  (I2.env0.make C us []) (hb _ (Value.ref (s.heap.objs.size + 1) :: us) I2.kIn hl) r2 hq) fun r s' hq' => ?_))
 cases r with
 | error e => exact hx pins σ _ _ e s' I2 hq'
 | ok fl =>
  cases fl with
  | ret u =>
   obtain ⟨v, H', I3, rv, ev, q3⟩ := I2.after hq'
   subst ev
   exact ⟨rv, ⟨V.ref (s.heap.objs.size + 1), H', I3, rfl, q3⟩⟩
  | next => exact False.elim hq'
  | brk => exact False.elim hq'
  | cont => exact False.elim hq'
theorem pe_make0 (M : Mk X.K C f) (F : FnOk X.prog X.w X.K X.mg X.base CX k f fd ps sp) (hr : Room (k + 1) X.A) (hg : Gl X x) (hm : X.mg x = some (.ref C)) (hb : Binds X.K fd ps ds) (hd : Vals dvs ds) (hx : Passes CX X E)
  (hdb : (x == ("__debug__" : Str)) = false := by decide) : PE X (.Call (.Name x p) [] [] pos) (tMake C sp dvs E tNil) := by
 intro pins s σ H Q I h
 refine wpAny_Call_Name_kw (ld_glob I hg hm ?_ hdb)
 exact PySem.W.callWith_K0 I.kIn M.kp (run_make (us := []) M F hr hb hd hx I .nil h)
end
section
variable {X : Cx} {CX : CXT} {k : Nat} {f C : Addr} {fd : FuncData} {ps ks : List Str} {sp : Sp} {E : XK} {x m : Str} {p pos apos kpos : Pos} {e o : Expr} {es : List Expr} {kws : List Keyword} {te ta : TE} {t tk : TA} {nm : Option Str}
structure KBinds (K : PySem.W.Frag) (fd : FuncData) (ps ks : List Str) (g : List Value → List Value → List Value) (gV : List V → List V → List V) : Prop where
 to : ∀ (s : Shared) (us ws : List Value), K.In s.heap → (g us ws).length = ps.length → BindsTo s fd ⟨us, ks.zip ws⟩ (ps.zip (g us ws))
 rel : ∀ {vs : List V} {us : List Value} {zs : List V} {ws : List Value}, Vals vs us → Vals zs ws → Vals (gV vs zs) (g us ws)
variable {g : List Value → List Value → List Value} {gV : List V → List V → List V}
end
structure FnScope (N P : List Str) (sc : Scope) : Prop where
 kind : sc.kind = .function
 co : sc.isCoroutine = false
 gen : sc.isGenerator = false
 nd : N.Nodup
 pre : N.take P.length = P
 par : ∀ x ∈ P, sc.names.lookup x = some .local ∨ sc.names.lookup x = some .cell
 nofree : ∀ y ∈ sc.names, y.2 ≠ .free
theorem bindL_out {kindOf : Str → Option NameKind} {x : Str} : ∀ {binds : List (Str × Value)} {m : Str → Option Value}, (∀ v, (x, v) ∉ binds) → bindL kindOf binds m x = m x
 | [], _, _ => rfl
 | (n, v) :: r, m, h => by
  unfold bindL
  rw [bindL_out fun w hw => h w (List.mem_cons_of_mem _ hw)]
  split
  ·have : x ≠ n := by rintro rfl; exact h v List.mem_cons_self
   simp [this]
  ·rfl
theorem bindC_out {kindOf : Str → Option NameKind} {x : Str} : ∀ {binds : List (Str × Value)} {m : Str → Option Value}, (∀ v, (x, v) ∉ binds) → bindC kindOf binds m x = m x
 | [], _, _ => rfl
 | (n, v) :: r, m, h => by
  unfold bindC
  rw [bindC_out fun w hw => h w (List.mem_cons_of_mem _ hw)]
  split
  ·rfl
  ·have : x ≠ n := by rintro rfl; exact h v List.mem_cons_self
   simp [this]
theorem bindL_get {kindOf : Str → Option NameKind} {x : Str} {v : Value} : ∀ {P : List Str} {vs : List Value} {i : Nat} {m : Str → Option Value}, P.Nodup → P[i]? = some x → vs[i]? = some v → kindOf x = some .local →
  bindL kindOf (P.zip vs) m x = some v
 | [], _, _, _, _, h, _, _ => by simp at h
 | _ :: _, [], _, _, _, _, h, _ => by simp at h
 | p :: P, w :: vs, 0, m, nd, h1, h2, hk => by
  simp at h1 h2; subst h1; subst h2
  show bindL kindOf ((p, w) :: P.zip vs) m p = _
  unfold bindL
  rw [bindL_out fun v hv => (List.nodup_cons.mp nd).1 (List.of_mem_zip hv).1, if_pos hk]
  simp
 | p :: P, w :: vs, i + 1, m, nd, h1, h2, hk => by
  show bindL kindOf ((p, w) :: P.zip vs) m x = _
  unfold bindL
  exact bindL_get (i := i) (List.nodup_cons.mp nd).2 (by simpa using h1) (by simpa using h2) hk
theorem bindC_get {kindOf : Str → Option NameKind} {x : Str} {v : Value} : ∀ {P : List Str} {vs : List Value} {i : Nat} {m : Str → Option Value}, P.Nodup → P[i]? = some x → vs[i]? = some v → kindOf x ≠ some .local →
  bindC kindOf (P.zip vs) m x = some v
 | [], _, _, _, _, h, _, _ => by simp at h
 | _ :: _, [], _, _, _, _, h, _ => by simp at h
 | p :: P, w :: vs, 0, m, nd, h1, h2, hk => by
  simp at h1 h2; subst h1; subst h2
  show bindC kindOf ((p, w) :: P.zip vs) m p = _
  unfold bindC
  rw [bindC_out fun v hv => (List.nodup_cons.mp nd).1 (List.of_mem_zip hv).1, if_neg hk]
  simp
 | p :: P, w :: vs, i + 1, m, nd, h1, h2, hk => by
  show bindC kindOf ((p, w) :: P.zip vs) m x = _
  unfold bindC
  exact bindC_get (i := i) (List.nodup_cons.mp nd).2 (by simpa using h1) (by simpa using h2) hk
noncomputable def start (N : List Str) (vs : List V) : St := vs.map some ++ List.replicate (N.length - vs.length) none
noncomputable def cxOf (CX : CXT) (P : Program) (w : World) (K : PySem.W.Frag) (mg : Str → Option Value) (base : Heap) (N : List Str) (qual : Str) (scope : Scope) (f : Addr) (cd : Value) (A : Around) (outer : List Env) (s : Shared) (H : Hp) (E : XK) : Cx where
 prog := P
 w := w
 K := K
 mg := mg
 base := base
 A := A.deeper (envOfC qual scope s.heap.objs.size f cd)
 N := N
 s₀ := s
 H₀ := H
 env := envOfC qual scope s.heap.objs.size f cd
 outer := outer
 stack := envOfC qual scope s.heap.objs.size f cd :: outer
 ex := []
 calm := true
 fn := fun _ => true
 pn := []
 xe := fun e s' => wpAny (model P w) (A.deeper (envOfC qual scope s.heap.objs.size f cd)) (leaving (envOfC qual scope s.heap.objs.size f cd) e) (fun _ s'' => CX outer H s E e s'') (fun e' s'' => CX outer H s E e' s'') s'
theorem cell_has {sc : Scope} {n : Nat} {x : Str} (h : sc.names.lookup x = some .cell) : ∃ c, (cellsFrom n sc.names []).lookup x = some c := by
 have q := PySem.W.cellsFrom_some sc.names n [] (.inl h)
 exact Option.isSome_iff_exists.mp q
theorem inv_start {CX : CXT} {P : Program} {w : World} {K : PySem.W.Frag} {mg : Str → Option Value} {base : Heap} {N ps : List Str} {qual : Str} {scope : Scope} {f : Addr} {cd : Value} {A : Around} {outer : List Env} {s s1 : Shared} {H : Hp} {E : XK} {us : List Value} {vs : List V}
  (S : FnScope N ps scope) (hd : A.handled = none) (e0 : Env0 P w K mg base A outer s H) (hl : vs.length = ps.length) (r : Vals vs us)
  (x : InCallC s s.heap.objs.size (bindL (envOfC qual scope s.heap.objs.size f cd).kindOf (ps.zip us) fun _ => none) (cellsFrom (s.heap.objs.size + 1) scope.names []) (bindC (envOfC qual scope s.heap.objs.size f cd).kindOf (ps.zip us) fun _ => none) s1) :
  Inv (cxOf CX P w K mg base N qual scope f cd A outer s H E) [] (start N vs) H s1 := by
 have hpl : ps.length ≤ N.length := by have := congrArg List.length S.pre; rw [List.length_take] at this; omega
 obtain ⟨h1, tk, rfl, hk⟩ := x.done
 have noA : ∀ b : Addr, b ∉ (cxOf CX P w K mg base N qual scope f cd A outer s H E).ex := fun b z => absurd (show b ∈ ([] : List Addr) from z) (by simp)
 refine ⟨⟨e0.mod, S.kind, rfl, rfl, Nat.le_refl _, fun y z c h1 h2 => ?_, fun y hy => ?_, fun y c _ h => ?_, fun _ => hd, Around.frames_deeper e0.frames, .inr ⟨rfl, rfl⟩, fun b z => absurd z (noA b), e0.bs, e0.bsz, fun b _ _ => noA b, fun b z => absurd z (noA b), e0.funs, e0.frf⟩,
  rfl, e0.bare, Un.kept hk, ⟨_, x.toInCall.ns, fun i y v h1 h2 h3 => ?_⟩, fun y c h => ⟨_, x.cell y c h⟩, e0.hok.fresh (Nat.le_refl _), fun y c h => ?_, fun p hp => absurd (show p ∈ ([] : List (Addr × Obj)) from hp) (by simp), e0.hok.kept hk, ?_⟩
 ·exact name_of_addr x.apart (PySem.mem_of_lookup h1) (PySem.mem_of_lookup h2)
 ·have hy : scope.names.lookup y = some .cell ∨ scope.names.lookup y = some .free := hy
  rcases hy with hy | hy
  ·exact cell_has hy
  ·exact absurd rfl (S.nofree _ (PySem.mem_of_lookup hy))
 ·exact Nat.le_of_lt (x.above y c (PySem.mem_of_lookup h))
 ·have hi : i < vs.length := by
   unfold start at h2
   by_cases hi : i < vs.length
   ·exact hi
   ·rw [List.getElem?_append_right (by simpa using hi)] at h2
    rw [List.getElem?_replicate] at h2
    split at h2 <;> cases h2
  have ha : vs[i]? = some v := by
   unfold start at h2
   rw [List.getElem?_append_left (by simpa using hi), List.getElem?_map] at h2
   cases e : vs[i]? with
   | none => rw [e] at h2; cases h2
   | some a => rw [e] at h2; cases h2; rfl
  obtain ⟨u, hu, rv⟩ := r.get ha
  have hp : ps[i]? = some y := by
   rw [← S.pre, List.getElem?_take_of_lt (by omega)]; exact h1
  have ndP : ps.Nodup := by rw [← S.pre]; exact S.nd.sublist (List.take_sublist _ _)
  refine ⟨u, rv, ?_⟩
  rcases S.par y (List.mem_of_getElem? hp) with k | k
  ·exact .inl ⟨k, bindL_get ndP hp hu k⟩
  ·obtain ⟨c, e⟩ := cell_has (n := s.heap.objs.size + 1) k
   refine .inr ⟨.inl k, c, e, ?_⟩
   have q := x.cell y c e
   rw [bindC_get ndP hp hu (by show scope.names.lookup y ≠ _; rw [k]; decide)] at q
   exact q
 ·exact e0.hok.fresh (Nat.le_of_lt (x.above y c (PySem.mem_of_lookup h)))
 ·unfold start
  show _ = N.length
  rw [List.length_append, List.length_map, List.length_replicate]
  omega
theorem fn_of {CX : CXT} {P : Program} {w : World} {K : PySem.W.Frag} {mg : Str → Option Value} {base : Heap} {k : Nat} {f : Addr} {name qual : Str} {params : Arguments} {body : List Stmt} {scope : Scope} {dV kV doc pm cdv ct oc : Value} {an od : Option Addr}
  {osl : Array (Option Value)} {N ps : List Str} {sp : Sp} (lk : K.lookup f = some ⟨oc, od, .func (PySem.W.fnOf name qual params body scope dV kV doc pm an cdv ct), osl⟩) (hcd : PySem.W.codeIn K cdv qual = true) (S : FnScope N ps scope)
  (len : ∀ vs H Q E, sp vs H Q E → vs.length = ps.length)
  (hbody : ∀ (A : Around) (outer : List Env) (s : Shared) (H : Hp) (vs : List V) (Q : VK) (E : XK), Room k (A.deeper (envOfC qual scope s.heap.objs.size f cdv)) → sp vs H Q E →
   ∃ t, PSs (cxOf CX P w K mg base N qual scope f cdv A outer s H E) body t ∧ t { nx := fun _ H' => Q .non H', rt := Q } (start N vs) H) :
  FnOk P w K mg base CX (k + 1) f (PySem.W.fnOf name qual params body scope dV kV doc pm an cdv ct) ps sp := by
 refine ⟨len, fun A outer s H args us vs Q E hr e0 hb r hsp => ?_⟩
 have hl := len _ _ _ _ hsp
 have KX : K.In s.heap := e0.mod.kin.keeps fun b o e => (e0.bs b o e).1
 have lim : s.heap.NoLimit := e0.mod.nolimit.keeps fun b o e => (e0.bs b o e).1
 have hkind : ∀ y ∈ ps.zip us, scope.names.lookup y.1 = some .local ∨ (scope.names.lookup y.1 = some .cell ∧ ((cellsFrom (s.heap.objs.size + 1) scope.names []).lookup y.1).isSome = true) := fun ⟨n, v⟩ hy => by
  rcases S.par n (List.of_mem_zip hy).1 with q | q
  ·exact .inl q
  ·exact .inr ⟨q, PySem.W.cellsFrom_some _ _ _ (.inl q)⟩
 refine codeAny_call_function hr.depth (KX _ _ lk) rfl S.co S.gen rfl (PySem.W.codeRec_of KX hcd) (hb _ _ _ _ ?_)
 refine wpAny_newFunctionEnv_cells S.kind hkind fun env he s1 x => ?_
 subst he
 refine ⟨lim.keeps x.toInCall.keep, codeAny_func ?_⟩
 obtain ⟨t, ht, hq⟩ := hbody A outer s H vs Q E (hr.deeper _) hsp
 have I : Inv (cxOf CX P w K mg base N qual scope f cdv A outer s H E) [] (start N vs) H s1 := inv_start S hr.hd e0 hl r x
 refine wpAny_mono (ht [] s1 (start N vs) H _ I hq) (fun fl s' hs => ?_) fun e s' hs => hs
 have fin : ∀ {σ' : St} {H' : Hp} {v : V} {u : Value}, Inv (cxOf CX P w K mg base N qual scope f cdv A outer s H E) [] σ' H' s' → RelV v u → Q v H' → CE outer P w H s Q u s' :=
  fun {σ' H' v u} J rv q => ⟨v, H', J.os, J.bare, J.base, J.hok, rv, q⟩
 cases fl with
 | ret u =>
  obtain ⟨v, σ', H', J, rv, q⟩ := hs
  exact fin J rv q
 | next =>
  obtain ⟨σ', H', J, q⟩ := hs
  exact fin (v := V.non) (u := Value.none) J rfl q
 | brk =>
  obtain ⟨_, _, _, q⟩ := hs
  exact False.elim q
 | cont =>
  obtain ⟨_, _, _, q⟩ := hs
  exact False.elim q
end L2
namespace L2
open PySem PySem.Spec PyProof.Rows
section
variable {X : Cx} {x : Str} {p pos : Pos} {e : Expr} {es : List Expr} {t : TA} {id T : String} {r : List V → Hp → VK → Prop}
noncomputable def tCB (r : List V → Hp → VK → Prop) (t : TA) : TE := fun σ H Q => t σ H fun vs H1 => r vs H1 Q
theorem pe_callB (hc : CallR X (.builtin id) r) (hg : Gl X x) (hm : X.mg x = none) (hv : bootBuiltins x = some (.builtin id)) (ha : PA X (e :: es) t) (hn : x ≠ "__name__" := by decide) (hdb : (x == ("__debug__" : Str)) = false := by decide)
  (he : starEach (e :: es) X.env = (false, eval e X.env) :: starEach es X.env := by rfl) (hpl : (backTo pos (starEach es X.env)).any (·.1) = false := by rfl) : PE X (.Call (.Name x p) (e :: es) [] pos) (tCB r t) := by
 intro pins s σ H Q I h
 refine wpAny_Call_Name_kw (ld_blt I hg hm hv ?_ hn hdb)
 exact PyProof.Rows.callWith_builtin1 (thn (ha pos pins s σ H _ I h) fun us s1 ⟨vs, H1, I1, r1, q1⟩ => hc pins s1 σ H1 vs us Q I1 r1 q1) he hpl
theorem pe_callTy (hc : CallR X (.type T) r) (hg : Gl X x) (hm : X.mg x = none) (hv : bootBuiltins x = some (.type T)) (ha : PA X (e :: es) t) (hn : x ≠ "__name__" := by decide) (hdb : (x == ("__debug__" : Str)) = false := by decide)
  (he : starEach (e :: es) X.env = (false, eval e X.env) :: starEach es X.env := by rfl) (hpl : (backTo pos (starEach es X.env)).any (·.1) = false := by rfl) : PE X (.Call (.Name x p) (e :: es) [] pos) (tCB r t) := by
 intro pins s σ H Q I h
 refine wpAny_Call_Name_kw (ld_blt I hg hm hv ?_ hn hdb)
 exact PyProof.Rows.callWith_type1 (thn (ha pos pins s σ H _ I h) fun us s1 ⟨vs, H1, I1, r1, q1⟩ => hc pins s1 σ H1 vs us Q I1 r1 q1) he hpl
end
end L2
namespace HT
open PySem PyProof.Rows
noncomputable def lexLt : List Int → List Int → Bool
 | [], [] => false
 | [], _ :: _ => true
 | _ :: _, [] => false
 | x :: xs, y :: ys => if x = y then lexLt xs ys else decide (x < y)
theorem lexLt_cons (x y : Int) (xs ys : List Int) : lexLt (x :: xs) (y :: ys) = if x = y then lexLt xs ys else decide (x < y) := rfl
theorem lexLt_nil_nil : lexLt [] [] = false := rfl
theorem lexLt_nil_cons (y : Int) (ys : List Int) : lexLt [] (y :: ys) = true := rfl
theorem lexLt_cons_nil (x : Int) (xs : List Int) : lexLt (x :: xs) [] = false := rfl
theorem eqAt_int (A : Around) (s : Shared) (a : Int) (t : Tok) (c : Int) (u : Tok) : ∃ e, SeqAt.EqAt A s (.int a t) (.int c u) e ∧ (e = true ↔ a = c) :=
 ⟨(a == c), SeqAt.EqAt.int_int a t c u, by simp⟩
theorem rcLt_int (A : Around) (s : Shared) (a : Int) (t : Tok) (c : Int) (u : Tok) (prog : Program) (w : World) (E : Value → Shared → Prop) (Q : Value → Shared → Prop) (h : Q (.bool (decide (a < c))) s) :
  wpAny (model prog w) A (richCompare .Lt (.int a t) (.int c u)) Q E s :=
 (PyProof.Rows.lt_int h : wpAny (model prog w) A (compareOp .Lt (.int a t) (.int c u)) Q E s)
section
open PySem.SeqAt
open PySem.AutoSeq1 (wpAny_loadPart')
open PySem.MeetsSeq PySem.MeetsSeq2 PySem.MeetsSeq3
theorem tuple_lt_ints (l b : Addr) (items items2 : Array Value) (n n2 : Nat) (dd dd2 : Option Addr) (sl sl2 : Array (Option Value)) (ns ms : List Int) (hi : IntsAre items.toList ns) (hj : IntsAre items2.toList ms) :
  Meets (Builtin.«tuple.__lt__» ⟨[.ref l, .ref b], []⟩)
   (fun _ R s => s.heap.get? l = some { cls := .type "tuple", dict := dd, data := .seq items n, slots := sl } ∧ s.heap.get? b = some { cls := .type "tuple", dict := dd2, data := .seq items2 n2, slots := sl2 } ∧
    R (.ok (.ret (.bool (lexLt ns ms)))) s) :=
 .of_wp fun prog w A R s h => by
  obtain ⟨hp, g, d, tk, os⟩ := s; obtain ⟨hl, hb, h⟩ := h
  have f2 := AutoSeq1.sub_tuple_tuple
  have z1 : items.size = ns.length := by rw [← hi.length]; simp
  have z2 : items2.size = ms.length := by rw [← hj.length]; simp
  wp_walk using wpAny_loadPart' hl, wpAny_loadPart' hb, wpAny_forIn_list _ (fun rest b s' => b.1 = none ∧ s' = ⟨hp, g, d, tk, os⟩ ∧ ∃ (vs ws : List Value) (ns' ms' : List Int), rest = vs.zip ws ∧
   IntsAre vs ns' ∧ IntsAre ws ms' ∧ ns'.length + items2.size = ms'.length + items.size ∧ R (.ok (.ret (.bool (lexLt ns' ms')))) ⟨hp, g, d, tk, os⟩) _
  case turn =>
   rintro ⟨y, x⟩ rest b s' ⟨hb', rfl, vs, ws, ns', ms', hz, hvi, hwi, hlen, hR⟩
   cases hvi with
   | nil => rw [List.zip_nil_left] at hz; cases hz
   | cons a t hvi' =>
    cases hwi with
    | nil => rw [List.zip_nil_right] at hz; cases hz
    | cons c u hwi' =>
     rw [List.zip_cons_cons] at hz
     injection hz with hyx hrest
     injection hyx with hy hx
     subst hy hx
     rw [lexLt_cons] at hR
     simp only [List.length_cons] at hlen
     obtain ⟨e, he, hiff⟩ := eqAt_int A.in1 ⟨hp, g, d, tk, os⟩ a t c u
     refine wpAny_bind (he prog w _ _ ?_)
     cases e with
     | true =>
      rw [if_pos (hiff.mp rfl)] at hR
      wp_walk
      exact ⟨rfl, rfl, _, _, _, _, hrest, hvi', hwi', by omega, hR⟩
     | false =>
      rw [if_neg (fun q => absurd (hiff.mpr q) Bool.false_ne_true)] at hR
      have hri := rcLt_int A.in1 ⟨hp, g, d, tk, os⟩ a t c u prog w
      wp_walk using hri
      exact ⟨_, rfl, by simpa using hR⟩
  case fin =>
   rintro ⟨b1, b2⟩ s' ⟨hb', rfl, vs, ws, ns', ms', hz, hvi, hwi, hlen, hR⟩
   simp only at hb'
   subst hb'
   have hv : lexLt ns' ms' = decide (items.size < items2.size) := by
    cases hvi with
    | nil =>
     cases hwi with
     | nil =>
      simp only [List.length_nil] at hlen
      rw [lexLt_nil_nil]
      exact (decide_eq_false (by omega)).symm
     | cons c u hw =>
      simp only [List.length_nil, List.length_cons] at hlen
      rw [lexLt_nil_cons]
      exact (decide_eq_true (by omega)).symm
    | cons a t hv =>
     cases hwi with
     | nil =>
      simp only [List.length_nil, List.length_cons] at hlen
      rw [lexLt_cons_nil]
      exact (decide_eq_false (by omega)).symm
     | cons c u hw =>
      rw [List.zip_cons_cons] at hz
      cases hz
   rw [hv] at hR
   wp_walk
   exact ⟨_, rfl, by simpa [Builtin.Tuple.tupleCompareSizes] using hR⟩
  case h =>
   exact ⟨rfl, rfl, items.toList, items2.toList, ns, ms, rfl, hi, hj, by omega, h⟩
end
section
variable {prog : Program} {w : World} {A : Around} {E : Value → Shared → Prop} {s : Shared}
theorem lt_tupInts {l b : Addr} {items items2 : Array Value} {ns ms : List Int} {Q : Value → Shared → Prop} (hl : IsTup s.heap l items) (hb : IsTup s.heap b items2) (hi : IntsAre items.toList ns) (hj : IntsAre items2.toList ms)
  (hu : A.units < cLine) (h : Q (.bool (lexLt ns ms)) s) : wpAny (model prog w) A (compareOp .Lt (.ref l) (.ref b)) Q E s := by
 obtain ⟨⟨cls, dd, data, sl⟩, ho, hc, n, hd⟩ := id hl
 obtain ⟨⟨cls2, dd2, data2, sl2⟩, ho2, hc2, n2, hd2⟩ := id hb
 simp only at hc hd hc2 hd2
 subst hc hd hc2 hd2
 exact richCompare_meets_room (op := .Lt) ⟨_, ho, rfl⟩ ⟨_, ho2, rfl⟩ PySem.F.slot_tuple_lt PySem.F.entry_tuple_lt (PySem.F.args_tuple_lt_2 _ _) (tuple_lt_ints l b items items2 n n2 dd dd2 sl sl2 ns ms hi hj)
  ⟨ho, ho2, show Value.bool (lexLt ns ms) ≠ Value.notImplemented ∧ Q (.bool (lexLt ns ms)) s from ⟨(fun x => nomatch x), h⟩⟩ hu
noncomputable def sIx (n d : Nat) : Option Int → Nat
 | none => d
 | some v => if v < 0 then (v + (n : Int)).toNat else min v.toNat n
theorem sIx_none (n d : Nat) : sIx n d none = d := rfl
theorem sIx_nat (n d k : Nat) : sIx n d (some (k : Int)) = min k n := by
 show (if (k : Int) < 0 then ((k : Int) + (n : Int)).toNat else min (k : Int).toNat n) = min k n
 rw [if_neg (by omega), Int.toNat_natCast]
end
end HT
namespace L2
open PySem PySem.Spec PyProof.Rows
abbrev TO := St → Hp → (Option Int → Hp → Prop) → Prop
noncomputable def PO (X : Cx) (e : Option Expr) (t : TO) : Prop :=
 ∀ (pins : List (Addr × Obj)) (s : Shared) (σ : St) (H : Hp) (Q : Option Int → Hp → Prop), Inv X pins σ H s → t σ H Q →
  wpAny (model X.prog X.w) X.A (evalPart e X.env) (fun u s' => ∃ o H', Inv X pins σ H' s' ∧ IsPart u o ∧ Q o H') X.xe s
noncomputable def tNoPart : TO := fun _ H Q => Q none H
noncomputable def tPart (t : TE) : TO := fun σ H Q => t σ H fun x H1 => ∃ i, x = .int i ∧ Q (some i) H1
theorem intsAre_of {ns : List Int} : ∀ {us : List Value}, Vals (ns.map V.int) us → IntsAre us ns := by
 induction ns with
 | nil => intro us r; rw [List.map_nil] at r; cases r; exact .nil
 | cons n ns ih =>
  intro us r
  rw [List.map_cons] at r
  cases r with
  | cons r1 r2 =>
   obtain ⟨t, e⟩ := r1
   subst e
   exact .cons n t (ih r2)
section
variable {X : Cx} {e : Expr} {te : TE} {lo hi : Option Expr} {tl th : TO} {pos p2 : Pos}
theorem po_none : PO X none tNoPart := by
 intro pins s σ H Q I h
 rw [evalPart_none]
 exact wpAny_pure ⟨none, H, I, .none, h⟩
theorem po_some (h : PE X e te) : PO X (some e) (tPart te) := by
 intro pins s σ H Q I hw
 rw [evalPart_some]
 refine thn (h pins s σ H _ I hw) fun u s1 ⟨x, H1, I1, r1, q1⟩ => ?_
 obtain ⟨i, rfl, q⟩ := q1
 obtain ⟨t, rfl⟩ := r1
 exact ⟨some i, H1, I1, .int i t, q⟩
noncomputable def SlR (X : Cx) (r : V → Option Int → Option Int → Hp → VK → Prop) : Prop :=
 ∀ (pins : List (Addr × Obj)) (s : Shared) (σ : St) (H : Hp) (x : V) (v vl vu : Value) (lo hi : Option Int) (sl : Addr) (Q : VK), Inv X pins σ H s → RelV x v → s.heap.IsSliceOf sl vl vu .none → IsPart vl lo → IsPart vu hi → r x lo hi H Q →
  ∃ T id, typeLookup (.type T) "__getitem__" = pure (some (.builtin id)) ∧ s.TypeIs v T ∧ wpAny (model X.prog X.w) X.A (getItem v (.ref sl)) (EP X pins σ Q) X.xe s
theorem SlR.or {r r' : V → Option Int → Option Int → Hp → VK → Prop} (h : SlR X r) (h' : SlR X r') : SlR X (fun x lo hi H Q => r x lo hi H Q ∨ r' x lo hi H Q) := by
 intro pins s σ H x v vl vu lo hi sl Q I rx hs pl pu q
 rcases q with q | q
 ·exact h pins s σ H x v vl vu lo hi sl Q I rx hs pl pu q
 ·exact h' pins s σ H x v vl vu lo hi sl Q I rx hs pl pu q
noncomputable def tSl (r : V → Option Int → Option Int → Hp → VK → Prop) (te : TE) (tl th : TO) : TE := fun σ H Q => te σ H fun x H1 => tl σ H1 fun l H2 => th σ H2 fun u H3 => r x l u H3 Q
theorem pe_slice {r : V → Option Int → Option Int → Hp → VK → Prop} (hr : SlR X r) (he : PE X e te) (hl : PO X lo tl) (hu : PO X hi th) : PE X (.Subscript e (.Slice lo hi none p2) pos) (tSl r te tl th) := by
 intro pins s σ H Q I h
 refine Subscript_ (thn (he pins s σ H _ I h) fun v s1 ⟨x, H1, I1, r1, q1⟩ => ?_)
 refine wpAny_Slice (thn (hl pins s1 σ H1 _ I1 q1) fun vl s2 ⟨l, H2, I2, pl, q2⟩ => thn (hu pins s2 σ H2 _ I2 q2) fun vu s3 ⟨u, H3, I3, pu, q3⟩ => ?_)
 rw [evalPart_none]
 refine wpAny_pure ?_
 have I4 : Inv X pins σ H3 { s3 with heap := s3.heap.push { cls := .type "slice", data := .fields #[vl, vu, .none] } } := I3.kept (t' := s3.toks) fun b ob q => Heap.get?_push_of_some _ q
 obtain ⟨T, id, hT, ht, hg⟩ := hr pins { s3 with heap := s3.heap.push { cls := .type "slice", data := .fields #[vl, vu, .none] } } σ H3 x v vl vu l u s3.heap.objs.size Q I4 r1 (Heap.IsSliceOf.new ..) pl pu q3
 show wpAny (model X.prog X.w) X.A (subscriptTail e (.Slice lo hi none p2) v (.ref s3.heap.objs.size)) (EP X pins σ Q) X.xe { s3 with heap := s3.heap.push { cls := .type "slice", data := .fields #[vl, vu, .none] } }
 exact tail_any (ops := [.ref s3.heap.objs.size, v]) ht hT hg (by with_unfolding_all rfl)
noncomputable def cutV (xs : List V) (lo hi : Option Int) : List V := (xs.drop (HT.sIx xs.length 0 lo)).take (HT.sIx xs.length xs.length hi - HT.sIx xs.length 0 lo)
theorem cutV_length (xs : List V) (lo hi : Option Int) : (cutV xs lo hi).length ≤ xs.length := by
 unfold cutV
 rw [List.length_take, List.length_drop]
 omega
noncomputable def rLtT (K : PySem.W.Frag) : R2 := fun x y H Q => ∃ a b ns ms, x = .ref a ∧ y = .ref b ∧ SqT K H a (ns.map V.int) ∧ SqT K H b (ms.map V.int) ∧ Q (.bl (HT.lexLt ns ms)) H
theorem op_ltT (hu : X.A.units < cLine) : OpR X (compareOp .Lt) (rLtT X.K) := by
 intro pins s σ H x y v u Q I rx ry h
 obtain ⟨a, b, ns, ms, rfl, rfl, ha, hb, q⟩ := h
 cases rx
 cases ry
 obtain ⟨its, r1, p1, _⟩ := I.tuple ha
 obtain ⟨its2, r2, p2, _⟩ := I.tuple hb
 have i1 : IntsAre its.toArray.toList ns := intsAre_of r1
 have i2 : IntsAre its2.toArray.toList ms := intsAre_of r2
 exact HT.lt_tupInts p1 p2 i1 i2 hu ⟨.bl (HT.lexLt ns ms), H, I, rfl, q⟩
end
end L2
namespace L2
open PySem PySem.Spec PyProof.Rows
noncomputable def ixN (n : Nat) (i : Int) : Option Nat := if 0 ≤ i then (if i < n then some i.toNat else none) else if -(n : Int) ≤ i then some (i + n).toNat else none
noncomputable def atI {α : Type} (xs : List α) (i : Int) : Option α := (ixN xs.length i).bind fun j => xs[j]?
theorem ixN_seq {n : Nat} {i : Int} {j : Nat} (h : ixN n i = some j) : seqIndex? i n = some j ∧ j < n ∧ -(n : Int) ≤ i ∧ i < n := by
 unfold ixN at h
 by_cases h0 : 0 ≤ i
 ·rw [if_pos h0] at h
  by_cases h1 : i < n
  ·rw [if_pos h1] at h
   have e : i.toNat = j := Option.some.inj h
   exact ⟨by rw [seqIndex_of h0 h1, e], by omega, by omega, h1⟩
  ·rw [if_neg h1] at h; cases h
 ·rw [if_neg h0] at h
  by_cases h1 : -(n : Int) ≤ i
  ·rw [if_pos h1] at h
   have e : (i + n).toNat = j := Option.some.inj h
   exact ⟨by rw [seqIndex_neg (by omega) h1, e], by omega, h1, by omega⟩
  ·rw [if_neg h1] at h; cases h
theorem atI_get {α : Type} {xs : List α} {i : Int} {v : α} (h : atI xs i = some v) : ∃ j, seqIndex? i xs.length = some j ∧ xs[j]? = some v ∧ j < xs.length ∧ -(xs.length : Int) ≤ i ∧ i < xs.length := by
 unfold atI at h
 cases e : ixN xs.length i with
 | none => rw [e] at h; cases h
 | some j =>
  rw [e] at h
  obtain ⟨h1, h2, h3, h4⟩ := ixN_seq e
  exact ⟨j, h1, h, h2, h3, h4⟩
theorem atI_nat {α : Type} {xs : List α} {j : Nat} {v : α} (h : xs[j]? = some v) : atI xs (j : Int) = some v := by
 have hj : j < xs.length := (List.getElem?_eq_some_iff.mp h).1
 have e : ixN xs.length (j : Int) = some j := by
  unfold ixN
  rw [if_pos (by omega), if_pos (by omega)]; simp
 unfold atI; rw [e]; exact h
noncomputable def PlainIx (b : Expr) : Prop := ∀ o i, subscripted b false o i = operate [o, i] (getItem o i)
noncomputable def IxR (X : Cx) (r : R2) : Prop :=
 ∀ (value slice : Expr) (pins : List (Addr × Obj)) (s : Shared) (σ : St) (H : Hp) (x y : V) (v u : Value) (Q : VK), Inv X pins σ H s → RelV x v → RelV y u → r x y H Q →
  subscripted slice false v u = operate [v, u] (getItem v u) → wpAny (model X.prog X.w) X.A (subscriptTail value slice v u) (EP X pins σ Q) X.xe s
noncomputable def MtR (X : Cx) (id : String) (r : V → List V → Hp → VK → Prop) : Prop :=
 ∀ (pins : List (Addr × Obj)) (s : Shared) (σ : St) (H : Hp) (x : V) (xs : List V) (v : Value) (us : List Value) (Q : VK), Inv X pins σ H s → RelV x v → Vals xs us → r x xs H Q →
  wpAny (model X.prog X.w) X.A (call (.builtin id) (v :: us)) (EP X pins σ Q) X.xe s
section
variable {X : Cx} {a b : Expr} {ta tb : TE} {pos : Pos}
theorem IxR.or {r r' : R2} (h : IxR X r) (h' : IxR X r') : IxR X (fun x y H Q => r x y H Q ∨ r' x y H Q) := by
 intro value slice pins s σ H x y v u Q I rx ry q hs
 rcases q with q | q
 ·exact h value slice pins s σ H x y v u Q I rx ry q hs
 ·exact h' value slice pins s σ H x y v u Q I rx ry q hs
theorem MtR.or {id : String} {r r' : V → List V → Hp → VK → Prop} (h : MtR X id r) (h' : MtR X id r') : MtR X id (fun x xs H Q => r x xs H Q ∨ r' x xs H Q) := by
 intro pins s σ H x xs v us Q I rx rs q
 rcases q with q | q
 ·exact h pins s σ H x xs v us Q I rx rs q
 ·exact h' pins s σ H x xs v us Q I rx rs q
theorem pe_ix {r : R2} (hr : IxR X r) (ha : PE X a ta) (hb : PE X b tb) (hs : PlainIx b) : PE X (.Subscript a b pos) (tOp r ta tb) := by
 intro pins s σ H Q I h
 exact Subscript_ (binT ha hb I h fun v u s2 x y H2 I2 rx ry q => hr a b pins s2 σ H2 x y v u Q I2 rx ry q (hs _ _))
noncomputable def rIxL (K : PySem.W.Frag) : R2 := fun x y H Q => ∃ p xs i v, x = .ref p ∧ y = .int i ∧ SqL K H p xs ∧ atI xs i = some v ∧ Q v H
noncomputable def rIxT (K : PySem.W.Frag) : R2 := fun x y H Q => ∃ p xs i v, x = .ref p ∧ y = .int i ∧ SqT K H p xs ∧ atI xs i = some v ∧ Q v H
noncomputable def rIxS : R2 := fun x y H Q => ∃ z i c, x = .str z ∧ y = .int i ∧ z.length ≤ sizeLine ∧ atI z.cps.toList i = some c ∧ Q (.str ⟨#[c]⟩) H
theorem ix_list : IxR X (rIxL X.K) := by
 intro value slice pins s σ H x y v u Q I rx ry h hs
 obtain ⟨p, xs, i, z, rfl, rfl, hq, he, q⟩ := h
 cases rx
 obtain ⟨t, rfl⟩ := ry
 obtain ⟨its, r, pl, hz⟩ := I.list hq
 obtain ⟨j, h1, h2, h3, h4, h5⟩ := atI_get he
 obtain ⟨w, ew, rw'⟩ := r.get h2
 have hl := r.length
 have hn := line63
 have fin : EP X pins σ Q w s := ⟨z, H, I, rw', q⟩
 by_cases h0 : 0 ≤ i
 ·have hj : i.toNat = j := by
   rw [seqIndex_of h0 h5] at h1
   exact Option.some.inj h1
  exact item_listR pl.isList h0 (by omega) (by rw [hj]; simpa using ew) fin hs
 ·have hj : (i + (its.toArray.size : Int)).toNat = j := by
   rw [seqIndex_neg (by omega) h4] at h1
   rw [List.size_toArray, ← hl]
   exact Option.some.inj h1
  exact subscriptTail_builtinR (x := w) pl.isList.typeIs slot_list_getitem.lookup
   (wpAny_getItem_list_neg (Q := fun r s' => r = w ∧ EP X pins σ Q r s') pl.isList (by omega) (by rw [List.size_toArray] <;> omega) (by omega) (by rw [hj]; simpa using ew) ⟨rfl, fin⟩) hs
theorem ix_tup : IxR X (rIxT X.K) := by
 intro value slice pins s σ H x y v u Q I rx ry h hs
 obtain ⟨p, xs, i, z, rfl, rfl, hq, he, q⟩ := h
 cases rx
 obtain ⟨t, rfl⟩ := ry
 obtain ⟨its, r, pl, hz⟩ := I.tuple hq
 obtain ⟨j, h1, h2, h3, h4, h5⟩ := atI_get he
 obtain ⟨w, ew, rw'⟩ := r.get h2
 have hl := r.length
 have hn := line63
 have fin : EP X pins σ Q w s := ⟨z, H, I, rw', q⟩
 exact subscriptTail_builtinR (x := w) pl.typeIs slot_tuple_getitem.lookup
  (getItem_tuple (j := j) (Q := fun r s' => r = w ∧ EP X pins σ Q r s') pl (by omega) (by omega) (by rw [List.size_toArray, ← hl]; exact h1) (by simpa using ew) ⟨rfl, fin⟩) hs
theorem ix_str : IxR X rIxS := by
 intro value slice pins s σ H x y v u Q I rx ry h hs
 obtain ⟨z, i, c, rfl, rfl, hz, he, q⟩ := h
 obtain ⟨t, rfl⟩ := rx
 obtain ⟨t', rfl⟩ := ry
 obtain ⟨j, h1, h2, h3, h4, h5⟩ := atI_get he
 have hl : z.cps.toList.length = z.length := by simp [Str.length]
 rw [hl] at h1 h4 h5
 have hn := line63
 exact tail_any (typeIs_str s z t) slot_str_getitem.lookup (getItem_str (c := c) (by
  have e1 : decide (i < -(2 ^ 63 : Int)) = false := decide_eq_false (by omega)
  have e2 : decide (i ≥ 2 ^ 63) = false := decide_eq_false (by omega)
  rw [e1, e2, Bool.or_false]) (by rw [h1]; simpa using h2) ⟨.str ⟨#[c]⟩, H, I.tok _, ⟨_, rfl⟩, q⟩) hs
noncomputable def rIx (K : PySem.W.Frag) : R2 := fun x y H Q => rIxL K x y H Q ∨ rIxT K x y H Q ∨ rIxS x y H Q
theorem ix_seq : IxR X (rIx X.K) := ix_list.or (ix_tup.or ix_str)
theorem mapSeq_set (its : List Value) (n j : Nat) (u : Value) : Obj.mapSeq (·.setIfInBounds j u) { cls := .type "list", data := .seq its.toArray n } = { cls := .type "list", data := .seq (its.set j u).toArray n } := by
 simp [Obj.mapSeq]
theorem Inv.lst {pins : List (Addr × Obj)} {σ : St} {H : Hp} {s : Shared} {p : Addr} {xs : List V} (I : Inv X pins σ H s) (h : H p = some (.lst xs)) :
  ∃ (its : List Value) (n : Nat), Vals xs its ∧ s.heap.get? p = some { cls := .type "list", data := .seq its.toArray n } ∧ xs.length ≤ sizeLine := by
 obtain ⟨z, its, n, r, e⟩ := I.hok p _ h
 exact ⟨its, n, r, e, z⟩
theorem Inv.lstUpd {pins : List (Addr × Obj)} {σ : St} {H : Hp} {s : Shared} {p : Addr} {xs ys : List V} {its its' : List Value} {n n' : Nat} {f : Obj → Obj} (I : Inv X pins σ H s) (h : H p = some (.lst xs))
  (ho : s.heap.get? p = some { cls := .type "list", data := .seq its.toArray n }) (hf : f { cls := .type "list", data := .seq its.toArray n } = { cls := .type "list", data := .seq its'.toArray n' }) (r : Vals ys its') (hz : ys.length ≤ sizeLine) (t : Nat) :
  Inv X pins σ (upd H p (.lst ys)) { s with heap := s.heap.update p f, toks := t } := by
 have e : (s.heap.update p f).get? p = some { cls := .type "list", data := .seq its'.toArray n' } := by
  rw [Heap.get?_update_self f ho (by rw [hf] <;> rfl), hf]
 refine I.write (x := p) (e := p) (by rw [h]; trivial) (.inl rfl) (fun b u hb q => (Heap.get?_update_other _ _ (Ne.symm hb)).trans q) ⟨_, e⟩ ?_
 exact ⟨hz, its', n', r, e⟩
noncomputable def rSetL : V → V → V → Hp → (Hp → Prop) → Prop := fun o i v H Q => ∃ p xs k j, o = .ref p ∧ i = .int k ∧ H p = some (.lst xs) ∧ ixN xs.length k = some j ∧ Q (upd H p (.lst (xs.set j v)))
theorem set_list : PSet X rSetL := by
 intro pins s σ H o i v ov iv u Q I ro ri rv h
 obtain ⟨p, xs, k, j, rfl, rfl, hp, hj, q⟩ := h
 cases ro
 obtain ⟨t, rfl⟩ := ri
 obtain ⟨its, n, r, ho, hz⟩ := I.lst hp
 obtain ⟨h1, h2, h3, h4⟩ := ixN_seq hj
 have hl := r.length
 have hn := line63
 have I' : Inv X pins σ (upd H p (.lst (xs.set j v))) { s with heap := s.heap.update p (Obj.mapSeq (·.setIfInBounds j u)) } :=
  I.lstUpd hp ho (mapSeq_set its n j u) (r.set rv j) (by rw [List.length_set]; exact hz) s.toks
 by_cases h0 : 0 ≤ k
 ·have hk : k.toNat = j := by
   rw [seqIndex_of h0 h4] at h1
   exact Option.some.inj h1
  exact PySem.W.ki_setAt ho h0 (by omega) (by rw [List.size_toArray, ← hl]; exact h4) (by rw [hk]; exact ⟨_, I', q⟩)
 ·have hk : (k + (its.toArray.size : Int)).toNat = j := by
   rw [seqIndex_neg (by omega) h3] at h1
   rw [List.size_toArray, ← hl]
   exact Option.some.inj h1
  exact PySem.W.ki_setBack ho (by omega) (by rw [List.size_toArray, ← hl]; exact h3) (by omega) (by rw [hk]; exact ⟨_, I', q⟩)
theorem slice_bounds (lo hi : Option Int) (n : Nat) : (sliceBounds lo hi none n).1 = ((HT.sIx n 0 lo : Nat) : Int) ∧ (sliceBounds lo hi none n).2.1 = ((HT.sIx n n hi : Nat) : Int) ∧ (sliceBounds lo hi none n).2.2 = 1 := by
 refine ⟨?_, ?_, rfl⟩
 ·cases lo with
  | none => simp [sliceBounds, HT.sIx]
  | some i =>
   simp only [sliceBounds, HT.sIx, Option.getD_none, show (1 : Int) > 0 by decide, if_true]
   by_cases h : i < 0
   ·simp only [h, if_true] <;> omega
   ·simp only [h, if_false] <;> omega
 ·cases hi with
  | none => simp [sliceBounds, HT.sIx]
  | some i =>
   simp only [sliceBounds, HT.sIx, Option.getD_none, show (1 : Int) > 0 by decide, if_true]
   by_cases h : i < 0
   ·simp only [h, if_true] <;> omega
   ·simp only [h, if_false] <;> omega
theorem slicePick_cut (its : List Value) (lo hi : Option Int) : slicePick its.toArray lo hi none = ((its.drop (HT.sIx its.length 0 lo)).take (HT.sIx its.length its.length hi - HT.sIx its.length 0 lo)).toArray := by
 obtain ⟨h1, h2, h3⟩ := slice_bounds lo hi its.toArray.size
 unfold slicePick
 rw [h1, h2, h3]
 simp only [sliceRange_one, pick_run, List.size_toArray] <;> rfl
noncomputable def rSlL (K : PySem.W.Frag) : V → Option Int → Option Int → Hp → VK → Prop := fun x lo hi H Q => ∃ a xs, x = .ref a ∧ SqL K H a xs ∧ ∀ p, H p = none → Q (.ref p) (upd H p (.lst (cutV xs lo hi)))
theorem sl_list : SlR X (rSlL X.K) := by
 intro pins s σ H x v vl vu lo hi sl Q I rx hs pl pu h
 obtain ⟨a, xs, rfl, hx, q⟩ := h
 cases rx
 obtain ⟨its, r, ht, hz⟩ := I.list hx
 have hlen := r.length
 refine ⟨"list", _, slot_list_getitem.lookup, ht.isList.typeIs, ?_⟩
 refine wpAny_getItem_list_slice ht.isList hs pl pu .none (by simp) ?_ (by rw [List.size_toArray] <;> omega)
 rw [slicePick_cut, ← hlen]
 refine ⟨.ref s.heap.objs.size, _, I.laid (t' := s.toks) (o := .lst (cutV xs lo hi)) (fun b ob q => Heap.get?_push_of_some _ q) (Nat.le_refl _) ?_, rfl, q _ (I.hok.fresh (Nat.le_refl _))⟩
 exact ⟨Nat.le_trans (cutV_length xs lo hi) hz, _, 0, (r.drop (HT.sIx xs.length 0 lo)).take (HT.sIx xs.length xs.length hi - HT.sIx xs.length 0 lo), Heap.get?_push_size _ rfl⟩
theorem call_len_seq : CallR X (.builtin "len") (fun xs H Q => ∃ p ys, xs = [.ref p] ∧ (SqL X.K H p ys ∨ SqT X.K H p ys) ∧ Q (.int ys.length) H) := by
 intro pins s σ H xs us Q I r h
 obtain ⟨p, ys, rfl, hq, q⟩ := h
 obtain ⟨u, rfl, rx⟩ := vals1 r
 cases rx
 have hn := line63
 rcases hq with hq | hq
 ·obtain ⟨its, r', pl, hz⟩ := I.list hq
  have hlen := r'.length
  exact Calls.call_len_list pl.isList (by simp only [List.size_toArray] <;> omega) ⟨.int ys.length, H, I.tok _, ⟨s.toks + 1, by rw [List.size_toArray, hlen]⟩, q⟩
 ·obtain ⟨its, r', pl, hz⟩ := I.tuple hq
  have hlen := r'.length
  exact len_tuple pl (by simp only [List.size_toArray] <;> omega) ⟨.int ys.length, H, I.tok _, ⟨s.toks + 1, by rw [List.size_toArray, hlen]⟩, q⟩
theorem CallR.or {f : Value} {r r' : List V → Hp → VK → Prop} (h : CallR X f r) (h' : CallR X f r') : CallR X f (fun xs H Q => r xs H Q ∨ r' xs H Q) := by
 intro pins s σ H xs us Q I rs q
 rcases q with q | q
 ·exact h pins s σ H xs us Q I rs q
 ·exact h' pins s σ H xs us Q I rs q
theorem call_list_of : CallR X (.type "list") (fun xs H Q => ∃ p ys, xs = [.ref p] ∧ (SqL X.K H p ys ∨ SqT X.K H p ys) ∧ ∀ l, H l = none → Q (.ref l) (upd H l (.lst ys))) := by
 intro pins s σ H xs us Q I r h
 obtain ⟨p, ys, rfl, hq, q⟩ := h
 obtain ⟨u, rfl, rx⟩ := vals1 r
 cases rx
 have fin : ∀ (its : List Value), Vals ys its → ys.length ≤ sizeLine → ∀ (h' : Heap) (c' : Nat), (∀ b o', s.heap.get? b = some o' → h'.get? b = some o') →
   h'.get? s.heap.objs.size = some { cls := .type "list", dict := none, data := .seq its.toArray c', slots := #[] } → EP X pins σ Q (.ref s.heap.objs.size) { s with heap := h' } := fun its r' hz h' c' kp e =>
  ⟨.ref s.heap.objs.size, _, I.laid (t' := s.toks) kp (Nat.le_refl _) (show ObjOk X.prog X.w _ h' _ (.lst ys) from ⟨hz, its, c', r', e⟩), rfl, q _ (I.hok.fresh (Nat.le_refl _))⟩
 rcases hq with hq | hq
 ·obtain ⟨its, r', pl, hz⟩ := I.list hq
  have hlen := r'.length
  obtain ⟨o, ho, hc, n, hd⟩ := pl.isList
  exact call_list_seq p (.inl rfl) ho hc hd (fun h' c' kp e => fin its r' hz h' c' kp e) (by simp only [List.size_toArray] <;> omega)
 ·obtain ⟨its, r', pl, hz⟩ := I.tuple hq
  have hlen := r'.length
  obtain ⟨o, ho, hc, n, hd⟩ := pl
  exact call_list_seq p (.inr rfl) ho hc hd (fun h' c' kp e => fin its r' hz h' c' kp e) (by simp only [List.size_toArray] <;> omega)
noncomputable def tyV (K : PySem.W.Frag) (T : String) (x : V) (H : Hp) : Prop := match x with
 | .str _ => T = "str"
 | .int _ => T = "int"
 | .ref p => (T = "list" ∧ ∃ xs, SqL K H p xs) ∨ (T = "tuple" ∧ ∃ o, K.lookup p = some o ∧ o.cls = .type "tuple" ∧ o.dict = none) ∨
   (T = "dict" ∧ ((∃ kvs, H p = some (.dK kvs)) ∨ ∃ kvs, H p = some (.dT kvs))) ∨ (T = "set" ∧ ∃ S n, H p = some (.set S n))
 | _ => False
theorem tyV_is {pins : List (Addr × Obj)} {σ : St} {H : Hp} {s : Shared} {T : String} {x : V} {v : Value} (I : Inv X pins σ H s) (r : RelV x v) (ty : tyV X.K T x H) :
  s.TypeIs v T ∧ ∀ a, v = .ref a → ∃ ob, s.heap.get? a = some ob ∧ ob.dict = none := by
 cases x with
 | str z =>
  obtain ⟨t, rfl⟩ := r
  cases (show T = "str" from ty)
  exact ⟨typeIs_str s z t, fun _ e => nomatch e⟩
 | int i =>
  obtain ⟨t, rfl⟩ := r
  cases (show T = "int" from ty)
  exact ⟨typeIs_int s i t, fun _ e => nomatch e⟩
 | ref p =>
  cases r
  rcases ty with ⟨rfl, xs, hq⟩ | ⟨rfl, o, hk, hc, hd⟩ | ⟨rfl, hk⟩ | ⟨rfl, S, n, hk⟩
  ·obtain ⟨its, _, pl, _⟩ := I.list hq
   refine ⟨pl.isList.typeIs, fun a e => ?_⟩
   cases e
   obtain ⟨o, n, e, c, hd, _⟩ := pl
   exact ⟨o, e, hd⟩
  ·refine ⟨⟨o, I.kIn p o hk, hc⟩, fun a e => ?_⟩
   cases e
   exact ⟨o, I.kIn _ o hk, hd⟩
  ·have z : ∃ o, s.heap.get? p = some o ∧ o.ExactDict := by
    rcases hk with ⟨kvs, hk⟩ | ⟨kvs, hk⟩
    ·obtain ⟨_, _, _, _, o, _, _, e, ex, _⟩ := I.hok p _ hk
     exact ⟨o, e, ex⟩
    ·obtain ⟨_, _, _, _, o, _, _, e, ex, _⟩ := I.hok p _ hk
     exact ⟨o, e, ex⟩
   obtain ⟨o, e, ex⟩ := z
   refine ⟨⟨o, e, ex.1⟩, fun a e2 => ?_⟩
   cases e2
   exact ⟨o, e, ex.2.1⟩
  ·obtain ⟨o, _, _, _, e, ex, _⟩ := I.hok p _ hk
   refine ⟨⟨o, e, ex.1⟩, fun a e2 => ?_⟩
   cases e2
   exact ⟨o, e, ex.2.1⟩
 | _ => exact False.elim ty
noncomputable def tBM (K : PySem.W.Frag) (T : String) (r : V → List V → Hp → VK → Prop) (to : TE) (t : TA) : TE := fun σ H Q => to σ H fun x H1 => tyV K T x H1 ∧ t σ H1 fun xs H2 => r x xs H2 Q
variable {o e : Expr} {es : List Expr} {to : TE} {t : TA} {name : Str} {apos cpos : Pos} {T id : String} {r : V → List V → Hp → VK → Prop}
theorem pe_bm (pa : PlainAttrs T) (slot : Slot T name id) (hty : typeOf (.builtin id) = pure (.type "method_descriptor")) (hm : MtR X id r) (ho : PE X o to) (ha : PA X (e :: es) t)
  (hbase : attributeBase o name X.env (eval o X.env) = eval o X.env := by rfl)
  (hfew : ((backTo cpos (starEach (e :: es) X.env)).all (fun x => !x.1) && (backToKw cpos (keywordEach [] X.env)).all (fun x => x.1.isSome)
   && decide ((e :: es).length + ([] : List Keyword).length + (if ([] : List Keyword).isEmpty then 0 else 1) < 30)) = true := by rfl)
  (hline : (apos.endLine == cpos.line) = true := by rfl) (hs : starEach (e :: es) X.env = (false, eval e X.env) :: starEach es X.env := by rfl) (hplain : (backTo cpos (starEach es X.env)).any (·.1) = false := by rfl) :
  PE X (.Call (.Attribute o name apos) (e :: es) [] cpos) (tBM X.K T r to t) := by
 intro pins s σ H Q I h
 refine wpAny_Call_method_late hbase hfew hline rfl (thn (ho pins s σ H _ I h) fun v s1 ⟨x, H1, I1, r1, ty, q1⟩ => ?_)
 obtain ⟨h1, h2⟩ := tyV_is I1 r1 ty
 refine ⟨T, id, pa, slot, hty, h1, h2, ?_⟩
 have hA := ha cpos pins s1 σ H1 _ I1 q1
 rw [hs] at hA ⊢
 refine Calls.callWith_builtin (by show (false || (backTo cpos (starEach es X.env)).any (·.1)) = false; rw [hplain] <;> rfl) (Calls.evalArgs_plain ?_)
 exact thn hA fun us s2 ⟨vs, H2, I2, r2, q2⟩ => hm pins s2 σ H2 x vs v us Q I2 r1 r2 q2
end
end L2
namespace L2
open PySem PySem.Spec PyProof.Rows
noncomputable def MtM (X : Cx) (id : String) (r : V → List V → Hp → VK → Prop) : Prop :=
 ∀ (pins : List (Addr × Obj)) (s : Shared) (σ : St) (H : Hp) (x : V) (xs : List V) (v : Value) (us : List Value) (Q : VK), Inv X pins σ H s → RelV x v → Vals xs us → r x xs H Q →
  wpAny (model X.prog X.w) X.A (call (.builtin id) (v :: us)) (EP X pins σ Q) X.xe s
theorem Vals.one : ∀ {x : V} {us : List Value}, Vals [x] us → ∃ u, us = [u] ∧ RelV x u := by
 intro x us h
 cases h with
 | cons r t => cases t; exact ⟨_, rfl, r⟩
theorem Vals.two : ∀ {x y : V} {us : List Value}, Vals [x, y] us → ∃ u v, us = [u, v] ∧ RelV x u ∧ RelV y v := by
 intro x y us h
 cases h with
 | cons r t =>
  obtain ⟨v, rfl, q⟩ := Vals.one t
  exact ⟨_, _, rfl, r, q⟩
theorem Vals.zero : ∀ {us : List Value}, Vals [] us → us = []
 | _, .nil => rfl
theorem Vals.dropLast {xs : List V} {us : List Value} (h : Vals xs us) : Vals xs.dropLast us.dropLast := by
 induction h with
 | nil => exact .nil
 | cons r t ih =>
  cases t with
  | nil => exact .nil
  | cons q t' => exact .cons r ih
theorem Vals.eraseIdx : ∀ {xs : List V} {us : List Value} (i : Nat), Vals xs us → Vals (xs.eraseIdx i) (us.eraseIdx i)
 | _, _, _, .nil => .nil
 | _, _, 0, .cons _ t => t
 | _, _, i + 1, .cons r t => .cons r (Vals.eraseIdx i t)
theorem Vals.reverse {xs : List V} {us : List Value} (h : Vals xs us) : Vals xs.reverse us.reverse := by
 induction h with
 | nil => exact .nil
 | cons r t ih => rw [List.reverse_cons, List.reverse_cons]; exact Vals.append ih (.cons r .nil)
theorem len_erase {α : Type} : ∀ (l : List α) (i : Nat), (l.eraseIdx i).length ≤ l.length
 | [], _ => Nat.le_refl _
 | _ :: _, 0 => Nat.le_succ _
 | _ :: r, i + 1 => Nat.succ_le_succ (len_erase r i)
section
variable {X : Cx} {pins : List (Addr × Obj)} {σ : St} {H : Hp} {s : Shared} {l b : Addr} {xs ys zs : List V}
theorem Inv.lset {its its' : List Value} {n : Nat} {f : Array Value → Array Value} {t' : Nat} (I : Inv X pins σ H s) (hH : H l = some (.lst xs))
  (e : s.heap.get? l = some { cls := .type "list", data := .seq its.toArray n }) (hf : f its.toArray = its'.toArray) (hv : Vals ys its') (hz : ys.length ≤ sizeLine) :
  Inv X pins σ (upd H l (.lst ys)) { s with heap := s.heap.update l (Obj.mapSeq f), toks := t' } := by
 have q := PySem.IsL.update e f
 rw [hf] at q
 refine I.write (x := l) (e := l) (by rw [hH]; exact trivial) (.inl rfl) (fun b' u hb hu => (Heap.get?_update_other s.heap (Obj.mapSeq f) (Ne.symm hb)).trans hu) ⟨_, q⟩ ?_
 exact ⟨hz, its', _, hv, q⟩
theorem Inv.fresh (I : Inv X pins σ H s) : H s.heap.objs.size = none := I.hok.fresh (Nat.le_refl _)
theorem Inv.lstM (I : Inv X pins σ H s) (hH : H l = some (.lst xs)) : xs.length ≤ sizeLine ∧ ∃ (its : List Value) (n : Nat), Vals xs its ∧ xs.length = its.length ∧ s.heap.get? l = some { cls := .type "list", data := .seq its.toArray n } := by
 obtain ⟨z, its, n, r, e⟩ := I.hok l _ hH
 exact ⟨z, its, n, r, r.length, e⟩
end
section
variable {X : Cx}
noncomputable def rAppend : V → List V → Hp → VK → Prop := fun x vs H Q => ∃ l xs y, x = .ref l ∧ vs = [y] ∧ H l = some (.lst xs) ∧ xs.length < sizeLine ∧ Q .non (upd H l (.lst (xs ++ [y])))
theorem mt_append : MtM X "list.append" rAppend := by
 intro pins s σ H x vs v us Q I rx rv h
 obtain ⟨l, xs, y, rfl, rfl, hH, hz, q⟩ := h
 cases rx
 obtain ⟨u, rfl, ru⟩ := rv.one
 obtain ⟨z, its, n, r, hl, e⟩ := I.lstM hH
 refine call_meets F.slot_list_append ⟨_, e, rfl⟩ F.entry_list_append (F.args_list_append_2 _ _) (PySem.list_append l its.toArray n u (by rw [List.size_toArray]; omega)) ⟨e, ?_⟩
 refine ⟨.non, _, I.lset (its' := its ++ [u]) hH e (by simp) (r.append (.cons ru .nil)) ?_, rfl, q⟩
 rw [List.length_append, List.length_singleton]
 omega
noncomputable def rPopAt : V → List V → Hp → VK → Prop := fun x vs H Q => ∃ l xs i k y, x = .ref l ∧ vs = [.int i] ∧ H l = some (.lst xs) ∧ -(2 ^ 63) ≤ i ∧ i < 2 ^ 63 ∧ seqIndex? i xs.length = some k ∧ xs[k]? = some y ∧ Q y (upd H l (.lst (xs.eraseIdx k)))
theorem mt_popAt : MtM X "list.pop" rPopAt := by
 intro pins s σ H x vs v us Q I rx rv h
 obtain ⟨l, xs, i, k, y, rfl, rfl, hH, h1, h2, hk, hy, q⟩ := h
 cases rx
 obtain ⟨u, rfl, ru⟩ := rv.one
 obtain ⟨t, rfl⟩ := ru
 obtain ⟨z, its, n, r, hl, e⟩ := I.lstM hH
 obtain ⟨w, hw, rw'⟩ := r.get hy
 refine call_meets F.slot_list_pop ⟨_, e, rfl⟩ F.entry_list_pop (F.args_list_pop_2 _ _)
  (MeetsSeq.list_pop_at l its.toArray n i t k w (fitsIndex_both h1 h2) (by rw [List.size_toArray, ← hl]; exact hk) (by rw [← Array.getElem?_toList]; exact hw) (by rw [List.size_toArray]; omega)) ⟨e, ?_⟩
 refine ⟨y, _, I.lset (its' := its.eraseIdx k) hH e ?_ (r.eraseIdx k) ?_, rw', q⟩
 ·show its.toArray.eraseIdxIfInBounds k = (its.eraseIdx k).toArray
  rw [List.eraseIdxIfInBounds_toArray]
 ·have := len_erase xs k
  omega
end
section
variable {prog : Program} {w : World} {A : Around} {E : Value → Shared → Prop} {s : Shared}
end
section
variable {X : Cx}
end
end L2
namespace Att
open PySem PySem.W PySem.Calls PyProof.Rows
theorem ints_of_wellAll {P : Params} {h : Heap} : ∀ (ns : List Int) (vs : List Value), WellAll P h vs (ns.map WData.int) → IntsAre vs ns := by
 intro ns
 induction ns with
 | nil =>
  intro vs w
  rw [List.map_nil] at w
  cases w
  exact .nil
 | cons n ns ih =>
  intro vs w
  rw [List.map_cons] at w
  cases w with
  | cons a b =>
   cases a
   exact .cons _ _ (ih _ b)
theorem script_of {l : OpenLaw} {n : Nat} (hn : l.most = some n) {P : Params} {h : Heap} {args : List WData} {vals : List Value}
  (hpre : l.row.toRowW.claim.pre args = true) (hwl : WellAll P h vals args) :
  ∃ a vs ns, vals = [Value.ref a] ∧ args = [WData.list (ns.map WData.int)] ∧ h.get? a = some { cls := .type "list", data := .seq vs.toArray } ∧ IntsAre vs ns ∧ ns.length ≤ n := by
 have hsh : WShape.hasAll [] args [.list .int] = true := (pre_splitW hpre).1
 have hc : l.pre.holds [] { args := args } = true := (pre_splitW hpre).2
 obtain ⟨d, r, rfl, h1, h2⟩ := hasAllW_cons hsh
 obtain rfl := hasAllW_nil h2
 obtain ⟨xs, rfl, h3⟩ := hasW_list h1
 obtain ⟨ns, rfl⟩ := items_int h3
 have hlen : ns.length ≤ n := by
  unfold OpenLaw.pre at hc
  have h4 : (WTm.not (.lt (.lit (.int (n : Int))) (.len (.arg 0)))).holds [] { args := [.list (ns.map .int)] } = true := by
   have h4 := (holds_andW hc).1
   rw [hn] at h4
   exact h4
  have h5 := condW_of h4 (w_not (w_lt w_lit (w_len_list (w_arg rfl))))
  rw [List.length_map] at h5
  refine Nat.le_of_not_lt fun q => ?_
  have q' : (n : Int) < ((ns.length : Nat) : Int) := by omega
  first
   | (rw [decide_eq_true q'] at h5; exact absurd h5 (by decide))
   | (simp at h5; omega)
 cases hwl with
 | cons w1 w2 =>
  cases w2
  cases w1 with
  | list ho hall => exact ⟨_, _, ns, rfl, rfl, ho, ints_of_wellAll ns _ hall, hlen⟩
theorem post_true (l : OpenLaw) (args : List WData) : l.row.toRowW.claim.post args (.bool true) args = true :=
 postW_of (r := l.row.toRowW) (X := (true == true))
  (show WShape.has [] (.bool true) .bool = true by first | rfl | decide | simp [WShape.has, WShape.arms, WShape.armsAll])
  (show (WTm.eq .res (.lit (.bool true))).value [] { args := args, res := some (.bool true), after := args } = some (.bool (true == true)) from w_eq_bool (w_res rfl) w_lit) rfl
theorem attach_call {l : OpenLaw} {n : Nat} {q : Program} {loose : List Str} {XP : (Str → Option Value) → Heap → Prop} {YP : World → Heap → Prop} {d : DefRec}
  (hn : l.most = some n) (hdf : d.params.defaults = [])
  (call : ∀ (w : World) (s₀ s₁ : Shared) (mg mb : Str → Option Value) (fa : Addr) (o : Obj) (pm cd doc : Value) (a : Addr) (vs : List Value) (ns : List Int),
   Ground q loose [] XP w s₀ mg mb s₁.heap → YP w s₁.heap →
   s₁.heap.get? fa = some o → o.data = .func (docDef d.name d.params d.body d.scope pm cd doc) → s₁.heap.CodeRec cd d.name → mg d.name = some (.ref fa) →
   s₁.heap.get? a = some { cls := .type "list", data := .seq vs.toArray } → IntsAre vs ns → ns.length ≤ n → s₁.gens = #[] →
   codeAny (model l.prog w) callerA (.call (.ref fa) ⟨[.ref a], []⟩) (fun r s' => r = .ok (.ret (.bool true)) ∧ OldK s₁.heap s'.heap ∧ s'.os = s₁.os ∧ AllBare s'.gens) s₁) :
  WalkO q loose XP YP l.row.toRowW d [] (fun f vs => PySem.call f vs) := by
 intro w s₀ s₁ mg mb G Y fa o pm cd doc dV kV ho hd hcd hD hmg hg args vals as hpre hlay hrd hwl hlo
 obtain rfl : dV = .none := Dflts.none hD hdf
 obtain rfl : kV = .none := Dflts.noKw hD
 obtain ⟨a, vs, ns, rfl, rfl, hobj, hints, hlen⟩ := script_of hn hpre hwl
 refine enter_call (codeAny_mono (call w s₀ s₁ mg mb fa o pm cd doc a vs ns G Y ho (fd_plain hd) hcd hmg hobj hints hlen hg) fun r s' hq => ?_)
 obtain ⟨rfl, h2, h3, h4⟩ := hq
 exact ⟨.inl ⟨.bool true, .bool true, [], rfl, fun _ => rfl, .bool true, post_true l _, fun _ => ⟨List.Pairwise.nil, fun _ hm => (nomatch hm)⟩⟩, h2, h3, h4⟩
section
variable {prog : Program} {w : World} {A : Around} {E : Value → Shared → Prop} {s : Shared} {K : Frag}
end
end Att
namespace L2
open PySem PySem.Spec PyProof.Rows
theorem vals_ints : ∀ {vs : List Value} {ns : List Int}, IntsAre vs ns → Vals (ns.map V.int) vs := by
 intro vs ns h
 induction h with
 | nil => exact .nil
 | cons n t h ih => exact .cons ⟨t, rfl⟩ ih
noncomputable def Only (H : Hp) : Prop := ∀ b, H b = none ∨ ∃ o xs, H b = some (.frz o (.lst xs))
theorem law_call {P : Program} {w : World} {K : PySem.W.Frag} {mg mb : Str → Option Value} {CX : CXT} {k : Nat} {fa a : Addr} {fd : FuncData} {x : Str} {sp : Sp} {s₁ : Shared} {vs : List Value} {ns : List Int}
  (KX : K.In s₁.heap) (hns : s₁.heap.Ns mainGlobals mg) (hb : s₁.heap.Ns builtinsNs mb) (hbb : ∀ x : Str, x ≠ "__name__" → mb x = bootBuiltins x) (hlim : s₁.heap.NoLimit) (hg : s₁.gens = #[])
  (ha : s₁.heap.get? a = some { cls := .type "list", data := .seq vs.toArray }) (hi : IntsAre vs ns) (hl : ns.length ≤ sizeLine) (hr : Room k callerA)
  (F : ∀ base : Heap, K.In base → base.Ns mainGlobals mg → FnOk P w K mg base CX k fa fd [x] sp) (hbind : ∀ (s : Shared) (u : Value), BindsTo s fd ⟨[u], []⟩ [(x, u)])
  (hsp : ∀ H : Hp, Only H → SqL K H a (ns.map V.int) → sp [.ref a] H (fun v _ => v = .bl true) fun _ _ _ => False)
  (hCX : ∀ H e s', CX [] H s₁ (fun _ _ _ => False) e s' → False) :
  codeAny (model P w) callerA (.call (.ref fa) ⟨[.ref a], []⟩) (fun r s' => r = .ok (.ret (.bool true)) ∧ OldK s₁.heap s'.heap ∧ s'.os = s₁.os ∧ AllBare s'.gens) s₁ := by
 have rv := vals_ints hi
 have lenV := hi.length
 have core : ∀ H : Hp, Only H → SqL K H a (ns.map V.int) → HOk P w H s₁.heap → (∀ b, H b ≠ none → b = a) → (H a ≠ none → K.lookup a = none) →
   codeAny (model P w) callerA (.call (.ref fa) ⟨[.ref a], []⟩) (fun r s' => r = .ok (.ret (.bool true)) ∧ OldK s₁.heap s'.heap ∧ s'.os = s₁.os ∧ AllBare s'.gens) s₁ := by
  intro H hO hS hok hA hK
  have base_of : ∀ {b : Addr} {o : Obj}, s₁.heap.get? b = some o → H b = none → (hidT s₁.heap H).get? b = some o := fun e n => hidT_get e n
  have noA : ∀ {b : Addr} {o : Obj} {es : Array DictEntry} {ep : Nat}, s₁.heap.get? b = some o → o.data = .dict es ep → H b = none := fun {b o es ep} e d => by
   cases q : H b with
   | none => rfl
   | some u =>
    have e' : b = a := hA b (by rw [q]; simp)
    subst e'
    rw [ha] at e; cases e
    have d' : Data.seq vs.toArray _ = Data.dict es ep := d
    cases d'
  have nsK : ∀ {b : Addr} {m : Str → Option Value}, s₁.heap.Ns b m → (hidT s₁.heap H).Ns b m := fun {b m} ⟨o, es, ep, e, d, r⟩ => ⟨o, es, ep, base_of e (noA e d), d, r⟩
  have hKb : K.In (hidT s₁.heap H) := fun b o e => base_of (KX b o e) (by
   cases q : H b with
   | none => rfl
   | some u =>
    have e' : b = a := hA b (by rw [q]; simp)
    subst e'
    rw [hK (by rw [q]; simp)] at e; cases e)
  have hM : Mod K mg (hidT s₁.heap H) := ⟨hKb, nsK hns, ⟨mb, nsK hb, hbb⟩, let ⟨mc, h1, h2⟩ := hlim; ⟨mc, nsK h1, h2⟩⟩
  have e0 : Env0 P w K mg (hidT s₁.heap H) callerA [] s₁ H := ⟨rfl, hM, fun b o e => of_hidT e, Nat.le_of_eq (hidT_size _ _), trivial, fun b hb => absurd (show b ∈ ([] : List Addr) from hb) (by simp), hok, .of_eq hg⟩
  refine codeAny_mono ((F _ hKb (nsK hns)).run callerA [] s₁ H ⟨[.ref a], []⟩ [.ref a] [.ref a] _ _ hr e0 (hbind s₁ (.ref a)) (.cons rfl .nil) (hsp H hO hS)) fun r s' h => ?_
  cases r with
  | error e => exact (hCX H e s' h).elim
  | ok fl =>
   cases fl with
   | next => exact False.elim h
   | brk => exact False.elim h
   | cont => exact False.elim h
   | ret u =>
    obtain ⟨v, H', os, bare, un, hok', r', q⟩ := h
    have q' : v = .bl true := q
    subst q'
    obtain rfl : u = Value.bool true := r'
    refine ⟨rfl, OldK.of_keep fun b o e => ?_, os, bare⟩
    cases q : H b with
    | none => exact un.keep b o e q (by intro z; exact absurd (show b ∈ ([] : List Addr) from z) (by simp)) (by simp)
    | some u =>
     rcases hO b with z | ⟨ob, xs, z⟩
     ·rw [q] at z; cases z
     ·have z2 := un.frzs b ob _ z
      obtain ⟨e1, _⟩ := hok b _ z
      obtain ⟨e2, _⟩ := hok' b _ z2
      rw [e] at e1; cases e1
      exact e2
 cases hk : K.lookup a with
 | some o =>
  have e := KX a o hk
  rw [ha] at e
  cases e
  refine core (fun _ => none) (fun _ => .inl rfl) (.inr ⟨_, vs.toArray, _, hk, rfl, rfl, rfl, by rw [List.size_toArray, lenV]; exact hl, by simpa using rv⟩) (fun b u z => by have z' : (none : Option HO) = some u := z; cases z') (fun b z => absurd rfl z) fun z => absurd rfl z
 | none =>
  refine core (fun b => if b = a then some (.frz { cls := .type "list", data := .seq vs.toArray } (.lst (ns.map V.int))) else none) (fun b => ?_) (.inl (.inr ⟨{ cls := .type "list", data := .seq vs.toArray }, if_pos rfl⟩)) (fun b u z => ?_) (fun b z => ?_) fun _ => hk
  ·by_cases hb : b = a
   ·exact .inr ⟨_, _, if_pos hb⟩
   ·exact .inl (if_neg hb)
  ·by_cases hb : b = a
   ·have z' := (if_pos hb).symm.trans z
    cases z'
    subst hb
    exact ⟨ha, by rw [List.length_map]; exact hl, vs, _, rv, ha⟩
   ·have z' := (if_neg hb).symm.trans z
    cases z'
  ·by_cases hb : b = a
   ·exact hb
   ·exact absurd (if_neg hb) z
end L2
namespace L2
open PySem PySem.Spec PyProof.Rows
theorem walk_of {l : PySem.W.OpenLaw} {n k : Nat} {q : Program} {loose : List Str} {XP : (Str → Option Value) → Heap → Prop} {YP : World → Heap → Prop} {d : DefRec} {K : Params → PySem.W.Frag} {CX : World → CXT} {sp : World → Sp} {x : Str}
  (hn : l.most = some n) (hn2 : n ≤ sizeLine) (hdf : d.params.defaults = []) (hr : Room k callerA)
  (hY : ∀ (w : World) (h : Heap), YP w h → (K w.params).In h)
  (F : ∀ (w : World) (mg : Str → Option Value) (fa : Addr) (h : Heap), (K w.params).In h → h.Ns mainGlobals mg → mg d.name = some (.ref fa) →
   ∃ fd : FuncData, (∀ (s : Shared) (u : Value), BindsTo s fd ⟨[u], []⟩ [(x, u)]) ∧
    ∀ base : Heap, (K w.params).In base → base.Ns mainGlobals mg → FnOk l.prog w (K w.params) mg base (CX w) k fa fd [x] (sp w))
  (hsp : ∀ (w : World) (H : Hp) (a : Addr) (ns : List Int), ns.length ≤ n → Only H → SqL (K w.params) H a (ns.map V.int) → sp w [.ref a] H (fun v _ => v = .bl true) fun _ _ _ => False)
  (hCX : ∀ (w : World) (H : Hp) (s : Shared) (e : Value) (s' : Shared), CX w [] H s (fun _ _ _ => False) e s' → False) :
  PySem.W.WalkO q loose XP YP l.row.toRowW d [] (fun f vs => PySem.call f vs) := by
 refine Att.attach_call hn hdf fun w s₀ s₁ mg mb fa o pm cd doc a vs ns G Y ho hd hcd hmg hobj hints hlen hg => ?_
 have KX := hY w _ Y
 obtain ⟨fd, hb, hF⟩ := F w mg fa _ KX G.T.g hmg
 exact law_call KX G.T.g G.T.b G.T.builtins G.T.nolimit hg hobj hints (Nat.le_trans hlen hn2) hr hF hb (fun H hO hS => hsp w H a ns hlen hO hS) fun H e s' => hCX w H s₁ e s'
end L2
namespace L2
open PySem PySem.Spec PyProof.Rows
noncomputable def inClass (s : Stmt) (j : Nat) : Stmt := match s with
 | .ClassDef _ _ _ body _ _ _ _ _ _ _ => body.getD j (.Pass ⟨0, 0, 0, 0⟩)
 | _ => .Pass ⟨0, 0, 0, 0⟩
noncomputable def defArgs (s : Stmt) : Arguments := match s with
 | .FunctionDef _ a _ _ _ _ _ _ _ _ => a
 | _ => { posonlyargs := [], args := [], vararg := none, kwonlyargs := [], kw_defaults := [], kwarg := none, defaults := [] }
noncomputable def defBody (s : Stmt) : List Stmt := match s with
 | .FunctionDef _ _ b _ _ _ _ _ _ _ => b
 | _ => []
noncomputable def defScope (s : Stmt) : Scope := match s with
 | .FunctionDef _ _ _ _ _ _ sc _ _ _ => sc
 | _ => { kind := .function, names := [], isGenerator := false, isCoroutine := false }
abbrev CX0 : CXT := fun _ _ _ _ _ _ => False
abbrev E0 : XK := fun _ _ _ => False
theorem pass0 {X : Cx} : Passes CX0 X E0 := fun _ _ _ _ _ _ _ h => h.elim
structure Fun (K : PySem.W.Frag) (x qual : Str) (st : Stmt) (f : Addr) (fd : FuncData) : Prop where
 ex : ∃ (oc : Value) (od : Option Addr) (kV doc pm : Value) (an : Option Addr) (cdv ct : Value) (osl : Array (Option Value)),
  fd = PySem.W.fnOf x qual (defArgs st) (defBody st) (defScope st) .none kV doc pm an cdv ct ∧ K.lookup f = some ⟨oc, od, .func fd, osl⟩ ∧ PySem.W.codeIn K cdv qual = true
 kp : PySem.W.keepIn K (.ref f) = true
section
variable {P : Program} {w : World} {K : PySem.W.Frag} {mg : Str → Option Value} {base : Heap}
theorem Fun.ok {x qual : Str} {st : Stmt} {f : Addr} {fd : FuncData} {N ps : List Str} {k : Nat} {sp : Sp} (F : Fun K x qual st f fd) (S : FnScope N ps (defScope st)) (len : ∀ vs H Q E, sp vs H Q E → vs.length = ps.length)
  (hbody : ∀ (cdv : Value) (A : Around) (outer : List Env) (s : Shared) (H : Hp) (vs : List V) (Q : VK) (E : XK), Room k (A.deeper (envOfC qual (defScope st) s.heap.objs.size f cdv)) → sp vs H Q E →
   ∃ t, PSs (cxOf CX0 P w K mg base N qual (defScope st) f cdv A outer s H E).nox (defBody st) t ∧ t { nx := fun _ H' => Q .non H', rt := Q } (start N vs) H) : FnOk P w K mg base CX0 (k + 1) f fd ps sp := by
 obtain ⟨oc, od, kV, doc, pm, an, cdv, ct, osl, rfl, lk, hcd⟩ := F.ex
 refine fn_of lk hcd S len fun A outer s H vs Q E hr hsp => ?_
 obtain ⟨t, h, q⟩ := hbody cdv A outer s H vs Q E hr hsp
 exact ⟨t, h.nox, q⟩
theorem Fun.binds {x qual : Str} {st : Stmt} {f : Addr} {fd : FuncData} {ps : List Str} (F : Fun K x qual st f fd)
  (h : ∀ (kV doc pm : Value) (an : Option Addr) (cdv ct : Value) (us : List Value), us.length = ps.length → bindArgs (PySem.W.fnOf x qual (defArgs st) (defBody st) (defScope st) .none kV doc pm an cdv ct) ⟨us, []⟩ = pure (ps.zip us)) : Binds K fd ps [] := by
 obtain ⟨oc, od, kV, doc, pm, an, cdv, ct, osl, rfl, lk, hcd⟩ := F.ex
 exact .all (h kV doc pm an cdv ct)
theorem fun_mk {x qual : Str} {st : Stmt} {f : Addr} {oc : Value} {od an : Option Addr} {osl : Array (Option Value)} {kV doc pm cdv ct : Value} (l : K.lookup f = some ⟨oc, od, .func (PySem.W.fnOf x qual (defArgs st) (defBody st) (defScope st) .none kV doc pm an cdv ct), osl⟩)
  (c : PySem.W.codeIn K cdv qual = true) (k : PySem.W.keepIn K (.ref f) = true) : Fun K x qual st f (PySem.W.fnOf x qual (defArgs st) (defBody st) (defScope st) .none kV doc pm an cdv ct) := ⟨⟨oc, od, kV, doc, pm, an, cdv, ct, osl, rfl, l, c⟩, k⟩
end
theorem small1000 {n : Nat} (h : n ≤ 1000) : n < sizeLine := Nat.lt_of_le_of_lt h (by decide)
section
variable {X : Cx}
theorem pv (i : Nat) {x : Str} {pos : Pos} (hN : X.N[i]? = some x := by rfl) (hv : Vis X.env.scope x := by first | exact Or.inl rfl | exact Or.inr (Or.inl rfl) | exact Or.inr (Or.inr rfl)) (hd : (x == ("__debug__" : Str)) = false := by decide)
  (hcd : (x == ("__classdict__" : Str)) = false := by decide) : PE X (.Name x pos) (tVar i) := pe_var hN hv hd hcd
end
theorem iteF {A B : Prop} (h : B) : if false = true then A else B := by
 rw [if_neg Bool.false_ne_true]
 exact h
theorem iteT {A B : Prop} (h : A) : if true = true then A else B := by
 rw [if_pos rfl]
 exact h
theorem iteNS {c A B : Prop} [Decidable c] (hc : c) (h : B) : if (!decide c) = true then A else B := by
 rw [decide_eq_true hc]
 exact iteF h
noncomputable def Same (H H' : Hp) : Prop := ∀ b o, H b = some o → H' b = some o
theorem Same.refl (H : Hp) : Same H H := fun _ _ h => h
theorem Same.trans {H H1 H2 : Hp} (a : Same H H1) (b : Same H1 H2) : Same H H2 := fun c o h => b c o (a c o h)
theorem Same.free {H H' : Hp} (e : Same H H') {l : Addr} (h : H' l = Option.none) : H l = Option.none := by
 cases q : H l with
 | none => rfl
 | some o =>
  rw [e l o q] at h
  cases h
theorem Same.seq {K : PySem.W.Frag} {H H' : Hp} {a : Addr} {xs : List V} (e : Same H H') (h : SqL K H a xs) : SqL K H' a xs := by
 rcases h with (h | ⟨o, h⟩) | h
 ·exact .inl (.inl (e _ _ h))
 ·exact .inl (.inr ⟨o, e _ _ h⟩)
 ·exact .inr h
end L2
set_option maxHeartbeats 4000000
namespace LT
theorem den_ne (a : Rat) : (a.den : Int) ≠ 0 := by have := a.den_nz; omega
theorem add_eq (a b : Rat) : Rat.divInt (a.num * b.den + b.num * a.den) (a.den * b.den) = a + b := by
 rw [← Rat.divInt_add_divInt _ _ (den_ne a) (den_ne b), Rat.num_divInt_den, Rat.num_divInt_den]
theorem sub_eq (a b : Rat) : Rat.divInt (a.num * b.den - b.num * a.den) (a.den * b.den) = a - b := by
 rw [Rat.sub_eq_add_neg, ← add_eq a (-b), Rat.neg_num, Rat.neg_den, Int.neg_mul, Int.sub_eq_add_neg]
theorem mul_eq (a b : Rat) : Rat.divInt (a.num * b.num) (a.den * b.den) = a * b := by
 rw [← Rat.divInt_mul_divInt, Rat.num_divInt_den, Rat.num_divInt_den]
theorem lt_eq (a b : Rat) : decide (a.num * b.den < b.num * a.den) = decide (a < b) := by
 rw [decide_eq_decide, Rat.lt_iff]
theorem fd (t : Int) (g : Nat) : t.fdiv (g : Int) = t / (g : Int) := Int.fdiv_eq_ediv_of_nonneg t (by omega)
theorem norm_pos {t b : Int} (h : 0 < b) : t.fdiv (Int.gcd t b : Nat) = (Rat.divInt t b).num ∧ b.fdiv (Int.gcd t b : Nat) = ((Rat.divInt t b).den : Int) := by
 rw [Rat.num_divInt, Rat.den_divInt, fd, fd, if_neg (by omega), Int.sign_eq_one_of_pos h, Int.one_mul, Int.gcd_comm b t]
 refine ⟨rfl, ?_⟩
 obtain ⟨n, rfl⟩ : ∃ n : Nat, b = (n : Int) := ⟨b.toNat, by omega⟩
 rw [← Int.natCast_ediv, Int.natAbs_natCast]
theorem gcd_step {d r : Int} (hd : 0 ≤ d) (h : 0 < r) : Int.gcd r (d % r) = Int.gcd d r := by
 obtain ⟨m, rfl⟩ : ∃ n : Nat, d = (n : Int) := ⟨d.toNat, by omega⟩
 obtain ⟨n, rfl⟩ : ∃ n : Nat, r = (n : Int) := ⟨r.toNat, by omega⟩
 rw [← Int.natCast_emod]
 show Nat.gcd n (m % n) = Nat.gcd m n
 rw [Nat.gcd_comm n, ← Nat.gcd_rec, Nat.gcd_comm]
theorem gcd_end {d : Int} (h : 0 ≤ d) : (Int.gcd d 0 : Int) = d := by
 rw [Int.gcd_zero_right]; omega
theorem abs_nn (i : Int) : 0 ≤ (if i < 0 then -i else i) := by split <;> omega
theorem abs_gcd (i j : Int) : Int.gcd (if i < 0 then -i else i) (if j < 0 then -j else j) = Int.gcd i j := by
 split <;> split <;> simp only [Int.gcd_neg, Int.neg_gcd]
noncomputable def Bt (k : Nat) (i : Int) : Prop := i.natAbs < 2 ^ k
noncomputable def Sz (k : Nat) (q : Rat) : Prop := Bt k q.num ∧ Bt k q.den
theorem Bt.mono {k m : Nat} {i : Int} (h : Bt k i) (l : k ≤ m) : Bt m i := Nat.lt_of_lt_of_le h (Nat.pow_le_pow_right (by decide) l)
theorem Sz.mono {k m : Nat} {q : Rat} (h : Sz k q) (l : k ≤ m) : Sz m q := ⟨h.1.mono l, h.2.mono l⟩
theorem Bt.mul {k m : Nat} {i j : Int} (h : Bt k i) (g : Bt m j) : Bt (k + m) (i * j) := by
 unfold Bt at *; rw [Int.natAbs_mul, Nat.pow_add]
 exact Nat.mul_lt_mul'' h g
theorem Bt.add {k : Nat} {i j : Int} (h : Bt k i) (g : Bt k j) : Bt (k + 1) (i + j) := by
 unfold Bt at *; have := Int.natAbs_add_le i j; rw [Nat.pow_succ]; omega
theorem Bt.neg {k : Nat} {i : Int} (h : Bt k i) : Bt k (-i) := by unfold Bt at *; omega
theorem Bt.sub {k : Nat} {i j : Int} (h : Bt k i) (g : Bt k j) : Bt (k + 1) (i - j) := by
 rw [Int.sub_eq_add_neg]; exact h.add g.neg
theorem Bt.ediv {k : Nat} {i : Int} (h : Bt k i) (g : Nat) : Bt k (i / (g : Int)) := by
 unfold Bt at *
 exact Nat.lt_of_le_of_lt (by exact Int.natAbs_ediv_le_natAbs _ _) h
theorem Sz.divInt {k : Nat} {t b : Int} (h : Bt k t) (g : Bt k b) (h0 : b ≠ 0) : Sz k (Rat.divInt t b) := by
 rcases Int.lt_or_gt_of_ne h0 with hb | hb
 ·have e : Rat.divInt (-t) (-b) = Rat.divInt t b := by
   have := Rat.divInt_mul_right (n := t) (d := b) (a := -1) (by decide)
   rw [← this]; congr 1 <;> omega
  rw [← e]
  have n := norm_pos (t := -t) (b := -b) (by omega)
  rw [fd, fd] at n
  exact ⟨by rw [← n.1]; exact h.neg.ediv _, by rw [← n.2]; exact g.neg.ediv _⟩
 ·have n := norm_pos (t := t) (b := b) hb
  rw [fd, fd] at n
  exact ⟨by rw [← n.1]; exact h.ediv _, by rw [← n.2]; exact g.ediv _⟩
theorem Sz.add {k m : Nat} {a b : Rat} (h : Sz k a) (g : Sz m b) : Sz (k + m + 1) (a + b) := by
 rw [← add_eq]
 refine Sz.divInt (Bt.add (h.1.mul g.2) ?_) ((h.2.mul g.2).mono (by omega)) (Int.mul_ne_zero (den_ne a) (den_ne b))
 exact (g.1.mul h.2).mono (by omega)
theorem Sz.sub {k m : Nat} {a b : Rat} (h : Sz k a) (g : Sz m b) : Sz (k + m + 1) (a - b) := by
 rw [← sub_eq]
 refine Sz.divInt (Bt.sub (h.1.mul g.2) ?_) ((h.2.mul g.2).mono (by omega)) (Int.mul_ne_zero (den_ne a) (den_ne b))
 exact (g.1.mul h.2).mono (by omega)
theorem Sz.mul {k m : Nat} {a b : Rat} (h : Sz k a) (g : Sz m b) : Sz (k + m) (a * b) := by
 rw [← mul_eq]
 exact Sz.divInt (h.1.mul g.1) (h.2.mul g.2) (Int.mul_ne_zero (den_ne a) (den_ne b))
end LT
namespace LT
theorem bt60 {i : Int} (h1 : -1152921504606846976 < i) (h2 : i < 1152921504606846976) : Bt 60 i := by
 show i.natAbs < 2 ^ 60
 have : (2 : Nat) ^ 60 = 1152921504606846976 := by decide
 omega
theorem sz_int {k : Nat} {i : Int} (h : Bt k i) (hk : 1 ≤ k) : Sz k (i : Rat) := by
 refine ⟨by rw [Rat.num_intCast]; exact h, ?_⟩
 rw [Rat.den_intCast]
 exact Nat.lt_of_lt_of_le (by decide : (1 : Nat) < 2 ^ 1) (Nat.pow_le_pow_right (by decide) hk)
end LT
namespace LT
noncomputable def pm (s : Int) (a b : Rat) : Rat := a + (s : Rat) * b
end LT
namespace L2
open PySem PySem.Spec PyProof.Rows
mutual
inductive Dt (H : Hp) : V → PyData → Prop
 | non : Dt H .non .none
 | bl (b : Bool) : Dt H (.bl b) (.bool b)
 | int (i : Int) : Dt H (.int i) (.int i)
 | str (x : Str) : Dt H (.str x) (.str x)
 | tup {p : Addr} {xs : List V} {ds : List PyData} : H p = some (.tup xs) → Dts H xs ds → Dt H (.ref p) (.tuple ds)
 | lst {p : Addr} {xs : List V} {ds : List PyData} : H p = some (.lst xs) → Dts H xs ds → Dt H (.ref p) (.list ds)
 | dic {p : Addr} {kvs : List (Key × V)} {kds : List (PyData × PyData)} : H p = some (.dK kvs) → Dtk H kvs kds → Dt H (.ref p) (.dict kds)
inductive Dts (H : Hp) : List V → List PyData → Prop
 | nil : Dts H [] []
 | cons {x : V} {xs : List V} {d : PyData} {ds : List PyData} : Dt H x d → Dts H xs ds → Dts H (x :: xs) (d :: ds)
inductive Dtk (H : Hp) : List (Key × V) → List (PyData × PyData) → Prop
 | nil : Dtk H [] []
 | cons {n : Int} {x : V} {d : PyData} {kvs : List (Key × V)} {kds : List (PyData × PyData)} : Dt H x d → Dtk H kvs kds → Dtk H ((Sum.inl n, x) :: kvs) ((.int n, d) :: kds)
end
mutual
theorem Dt.reads {P : Program} {w : World} {H : Hp} {h : Heap} (ok : HOk P w H h) : ∀ (d : PyData) (x : V) (v : Value), Dt H x d → RelV x v → ∃ as, Reads h v d as
 | .none, _, _, e, r => by cases e; cases r; exact ⟨_, .none⟩
 | .bool _, _, _, e, r => by cases e; cases r; exact ⟨_, .bool _⟩
 | .int _, _, _, e, r => by cases e; obtain ⟨t, rfl⟩ := r; exact ⟨_, .int _ _⟩
 | .str _, _, _, e, r => by cases e; obtain ⟨t, rfl⟩ := r; exact ⟨_, .str _ _⟩
 | .list ds, _, _, e, r => by
  cases e with
  | @lst p xs _ hp rs =>
   cases r
   obtain ⟨_, its, n, r', hg⟩ := (show ObjOk P w H h p (.lst xs) from ok p _ hp)
   obtain ⟨as, q⟩ := Dts.reads ok ds xs its rs r'
   exact ⟨_, .list hg rfl rfl (by simpa using q)⟩
 | .tuple ds, _, _, e, r => by
  cases e with
  | @tup p xs _ hp rs =>
   cases r
   obtain ⟨_, its, r', o, h1, h2, n, h3⟩ := (show ObjOk P w H h p (.tup xs) from ok p _ hp)
   obtain ⟨as, q⟩ := Dts.reads ok ds xs its rs r'
   exact ⟨_, .tuple h1 h2 h3 (by simpa using q)⟩
 | .dict kds, _, _, e, r => by
  cases e with
  | @dic p kvs _ hp rs =>
   cases r
   obtain ⟨_, _, vs, kv, o, es, ep, h1, h2, h3, _, h4, _⟩ := (show ObjOk P w H h p (.dK kvs) from ok p _ hp)
   obtain ⟨as, bs, q1, q2⟩ := Dtk.reads ok kds kvs vs es.toList rs kv h4
   exact ⟨_, .dict h1 h2.1 h3 q1 q2⟩
theorem Dts.reads {P : Program} {w : World} {H : Hp} {h : Heap} (ok : HOk P w H h) : ∀ (ds : List PyData) (xs : List V) (vs : List Value), Dts H xs ds → Vals xs vs → ∃ as, ReadsAll h vs ds as
 | [], _, _, e, r => by cases e; cases r; exact ⟨_, .nil⟩
 | d :: ds, _, _, e, r => by
  cases e with
  | cons e1 e2 =>
   cases r with
   | cons r1 r2 =>
    obtain ⟨as, q1⟩ := Dt.reads ok d _ _ e1 r1
    obtain ⟨bs, q2⟩ := Dts.reads ok ds _ _ e2 r2
    exact ⟨_, .cons q1 q2⟩
theorem Dtk.reads {P : Program} {w : World} {H : Hp} {h : Heap} (ok : HOk P w H h) : ∀ (kds : List (PyData × PyData)) (kvs : List (Key × V)) (vs : List (Key × Value)) (es : List DictEntry), Dtk H kvs kds → KV kvs vs → Pairs (mixKind P w) es vs →
  ∃ as bs, ReadsAll h (es.map (·.key)) (kds.map (·.1)) as ∧ ReadsAll h (es.map (·.val)) (kds.map (·.2)) bs
 | [], _, _, _, e, r, z => by cases e; cases r; cases z; exact ⟨_, _, .nil, .nil⟩
 | (k, d) :: kds, _, _, _, e, r, z => by
  cases e with
  | @cons n _ _ _ _ e1 e2 =>
   cases r with
   | cons r1 r2 =>
    cases z with
    | @cons en kv _ _ z1 z2 z3 =>
     obtain ⟨k1, rv⟩ := r1
     obtain ⟨as, q1⟩ := Dt.reads ok d _ _ e1 rv
     obtain ⟨as2, bs2, q3, q4⟩ := Dtk.reads ok kds _ _ _ e2 r2 z3
     have kr : ∃ cs, Reads h en.key (.int n) cs := by
      rcases keyIs_shape ((mixKind_is P w _ _).symm.trans z1) with ⟨i, t, a, b⟩ | ⟨_, _, a, _⟩
      ·rw [← k1] at a
       cases a
       rw [b]
       exact ⟨_, .int _ _⟩
      ·rw [← k1] at a
       cases a
     obtain ⟨cs, kr⟩ := kr
     exact ⟨_, _, .cons kr q3, .cons (z2 ▸ q1 : Reads h en.val d as) q4⟩
end
mutual
theorem Dt.same {H H' : Hp} (g : Same H H') : ∀ (d : PyData) (x : V), Dt H x d → Dt H' x d
 | .none, _, e => by cases e; exact .non
 | .bool _, _, e => by cases e; exact .bl _
 | .int _, _, e => by cases e; exact .int _
 | .str _, _, e => by cases e; exact .str _
 | .list ds, _, e => by
  cases e with
  | lst hp rs => exact .lst (g _ _ hp) (Dts.same g ds _ rs)
 | .tuple ds, _, e => by
  cases e with
  | tup hp rs => exact .tup (g _ _ hp) (Dts.same g ds _ rs)
 | .dict kds, _, e => by
  cases e with
  | dic hp rs => exact .dic (g _ _ hp) (Dtk.same g kds _ rs)
theorem Dts.same {H H' : Hp} (g : Same H H') : ∀ (ds : List PyData) (xs : List V), Dts H xs ds → Dts H' xs ds
 | [], _, e => by cases e; exact .nil
 | d :: ds, _, e => by
  cases e with
  | cons e1 e2 => exact .cons (Dt.same g d _ e1) (Dts.same g ds _ e2)
theorem Dtk.same {H H' : Hp} (g : Same H H') : ∀ (kds : List (PyData × PyData)) (kvs : List (Key × V)), Dtk H kvs kds → Dtk H' kvs kds
 | [], _, e => by cases e; exact .nil
 | (_, d) :: kds, _, e => by
  cases e with
  | cons e1 e2 => exact .cons (Dt.same g d _ e1) (Dtk.same g kds _ e2)
end
mutual
noncomputable def noLst : PyData → Bool
 | .list _ => false
 | .dict _ => false
 | .tuple ds => noLsts ds
 | _ => true
noncomputable def noLsts : List PyData → Bool
 | [] => true
 | d :: ds => noLst d && noLsts ds
end
noncomputable def SameT (H H' : Hp) : Prop := ∀ b xs, H b = some (.tup xs) → H' b = some (.tup xs)
noncomputable def SameX (x : Addr) (H H' : Hp) : Prop := ∀ b o, b ≠ x → H b = some o → H' b = some o
theorem SameX.refl (x : Addr) (H : Hp) : SameX x H H := fun _ _ _ e => e
theorem SameX.trans {x : Addr} {H H1 H2 : Hp} (a : SameX x H H1) (b : SameX x H1 H2) : SameX x H H2 := fun c o n e => b c o n (a c o n e)
theorem Same.x {x : Addr} {H H' : Hp} (g : Same H H') : SameX x H H' := fun b o _ e => g b o e
theorem SameX.t {x : Addr} {H H' : Hp} {ys : List V} (g : SameX x H H') (h : H x = some (.lst ys)) : SameT H H' := fun b xs e => g b _ (ne_of e h (by intro z; cases z)) e
theorem Same.t {H H' : Hp} (g : Same H H') : SameT H H' := fun b _ e => g b _ e
theorem SameT.trans {H H1 H2 : Hp} (a : SameT H H1) (b : SameT H1 H2) : SameT H H2 := fun c o e => b c o (a c o e)
theorem same_new {H : Hp} {p : Addr} (h : H p = none) (o : HO) : Same H (upd H p o) := fun b u q => by rw [upd_ne (ne_of_none q h)]; exact q
theorem sameX_upd {H : Hp} {p : Addr} (o : HO) : SameX p H (upd H p o) := fun b u n q => by rw [upd_ne n]; exact q
theorem SameX.seq {K : PySem.W.Frag} {H H' : Hp} {x a : Addr} {xs : List V} (e : SameX x H H') (n : a ≠ x) (h : SqL K H a xs) : SqL K H' a xs := by
 rcases h with (h | ⟨o, h⟩) | h
 ·exact .inl (.inl (e _ _ n h))
 ·exact .inl (.inr ⟨o, e _ _ n h⟩)
 ·exact .inr h
structure Good (d : PyData) : Prop where
 lay : d.canLay0 = true
 dep : d.depth ≤ 60
section
variable {X : Cx}
theorem roomD {u a b : Nat} (h : u + 64 < cLine) (ha : a ≤ 60) : u + min a b < cLine := by
 have : min a b ≤ a := Nat.min_le_left _ _
 omega
noncomputable def rEqD : R2 := fun x y H Q => ∃ dx dy, Dt H x dx ∧ Dt H y dy ∧ Good dx ∧ Good dy ∧ Q (.bl (PyData.eqv dx dy)) H
noncomputable def rNeD : R2 := fun x y H Q => ∃ dx dy, Dt H x dx ∧ Dt H y dy ∧ Good dx ∧ Good dy ∧ Q (.bl (!PyData.eqv dx dy)) H
theorem op_eqD (hu : X.A.units + 64 < cLine) : OpR X (compareOp .Eq) rEqD := by
 intro pins s σ H x y v u Q I rx ry h
 obtain ⟨dx, dy, ex, ey, gx, gy, q⟩ := h
 obtain ⟨as, r1⟩ := Dt.reads I.hok dx x v ex rx
 obtain ⟨bs, r2⟩ := Dt.reads I.hok dy y u ey ry
 exact SeqAt.compareEq_reads r1 r2 gx.lay gy.lay (roomD hu gx.dep) ⟨.bl _, H, I, rfl, q⟩
theorem op_neD (hu : X.A.units + 64 < cLine) : OpR X (compareOp .NotEq) rNeD := by
 intro pins s σ H x y v u Q I rx ry h
 obtain ⟨dx, dy, ex, ey, gx, gy, q⟩ := h
 obtain ⟨as, r1⟩ := Dt.reads I.hok dx x v ex rx
 obtain ⟨bs, r2⟩ := Dt.reads I.hok dy y u ey ry
 exact SeqAt.compareNe_reads r1 r2 gx.lay gy.lay (roomD hu gx.dep) ⟨.bl _, H, I, rfl, q⟩
theorem op_mulX : OpR X (binaryOp .Mult) (rI IntMulOk fun i j => .int (i * j)) := opI fun _ _ _ _ _ _ _ hc q => mul_int q hc
noncomputable def CDivX (_ j : Int) : Prop := j ≠ 0 ∧ LT.Bt 9000 j
theorem noPy {i j : Int} (h : CDivX i j) : Builtin.divisionGoesByPylong i j = false := by
 refine PyProof.noPylong_of_log2 ((Nat.log2_lt ?_).mpr h.2)
 have := h.1
 omega
theorem op_fdivX : OpR X (binaryOp .FloorDiv) (rI CDivX fun i j => .int (i.fdiv j)) := opI fun _ _ _ _ _ _ _ hc q => floordiv_int hc.1 q (.inl (noPy hc))
theorem bits_le {k : Nat} {i : Int} (h : LT.Bt k i) : Builtin.Int.intBits i ≤ k := by
 unfold Builtin.Int.intBits
 split
 ·exact Nat.zero_le _
 ·rename_i h0
  have : i.natAbs ≠ 0 := by
   intro e
   exact h0 (by simpa using e)
  exact (Nat.log2_lt this).mpr h
theorem mulB {k m : Nat} {i j : Int} (h : LT.Bt k i) (g : LT.Bt m j) (hk : k ≤ 1048576 := by decide) (hm : m ≤ 1048576 := by decide) : IntMulOk i j :=
 IntMulOk.of_bits (Nat.le_trans (bits_le h) hk) (Nat.le_trans (bits_le g) hm)
theorem pe_powC {a b v : Int} {j j' : Nat} {p p' pos : Pos} (h : a ^ b.toNat = v) (hc : CPow a b) : PE X (.BinOp (.Constant (.int a) j p) .Pow (.Constant (.int b) j' p') pos) (tC (.int v)) := by
 intro pins s σ H Q I hq
 subst h
 exact pe_op op_pow pe_int pe_int pins s σ H Q I ⟨_, _, rfl, rfl, hc, hq⟩
theorem CMul_mod {x c y : Int} (h : 0 < c) (h2 : c < 2 ^ 64) : CMul (x % c) y := by
 have h3 := Int.emod_nonneg x (b := c) (by omega)
 have h4 := Int.emod_lt_of_pos x h
 exact .inl ⟨by omega, by omega⟩
noncomputable def clsV : V → Option Value
 | .ty n => some (.type n)
 | .ref a => some (.ref a)
 | _ => none
noncomputable def rIsi (K : PySem.W.Frag) : List V → Hp → VK → Prop := fun xs H Q => ∃ x c cv t b, xs = [x, c] ∧ clsV c = some cv ∧ TyOf K H x t ∧ PySem.W.kitOne K t cv = some b ∧ Q (.bl b) H
theorem call_isi : CallR X (.builtin "isinstance") (rIsi X.K) := by
 intro pins s σ H xs us Q I r h
 obtain ⟨x, c, cv, t, b, rfl, ec, ty, e, q⟩ := h
 obtain ⟨u, v, rfl, rx, rc⟩ := vals2 r
 have ev : v = cv := by
  cases c <;> first
   | (cases ec; exact rc)
   | cases ec
 subst ev
 exact isinst_ok I rx ty e fun tk => ⟨.bl b, H, I.tok tk, rfl, q⟩
structure Cal (P : Program) (w : World) (K : PySem.W.Frag) (mg : Str → Option Value) (base : Heap) (k : Nat) (x : Str) (ps : List Str) (sp : Sp) : Prop where
 ex : ∃ (f : Addr) (fd : FuncData), FnOk P w K mg base CX0 k f fd ps sp ∧ mg x = some (.ref f) ∧ PySem.W.keepIn K (.ref f) = true ∧ Binds K fd ps []
variable {j k : Nat} {x : Str} {ps : List Str} {sp : Sp} {e : Expr} {es : List Expr} {t : TA} {p pos : Pos}
theorem pe_callC (c : Cal X.prog X.w X.K X.mg X.base j x ps sp) (hr : Room k X.A) (hg : Gl X x) (ha : PA X (e :: es) t) (hjk : j ≤ k := by decide)
  (hdb : (x == ("__debug__" : Str)) = false := by decide) (he : starEach (e :: es) X.env = (false, eval e X.env) :: starEach es X.env := by rfl) (hpl : (backTo pos (starEach es X.env)).any (·.1) = false := by rfl) :
  PE X (.Call (.Name x p) (e :: es) [] pos) (tCall sp [] E0 t) := by
 obtain ⟨f, fd, F, hm, hk, hb⟩ := c.ex
 exact pe_call F (hr.mono hjk) hg hm hk hb .nil pass0 ha hdb he hpl
end
structure Bl (K : PySem.W.Frag) (mg : Str → Option Value) : Prop where
 len_ : mg "len" = none
 abs_ : mg "abs" = none
 range_ : mg "range" = none
 isinstance_ : mg "isinstance" = none
 int_ : mg "int" = none
 bool_ : mg "bool" = none
 tuple_ : mg "tuple" = none
 max_ : mg "max" = none
 min_ : mg "min" = none
 list_ : mg "list" = none
 all_ : mg "all" = none
 any_ : mg "any" = none
 sorted_ : mg "sorted" = none
 zip_ : mg "zip" = none
 set_ : mg "set" = none
 sum_ : mg "sum" = none
 str_ : mg "str" = none
 enumerate_ : mg "enumerate" = none
 kib : PySem.W.kitOne K (.type "int") (.type "bool") = some false
 kbi : PySem.W.kitOne K (.type "bool") (.type "int") = some true
theorem kit_same (K : PySem.W.Frag) (t : Value) : PySem.W.kitOne K t t = some true := by
 unfold PySem.W.kitOne
 rw [if_pos (beq_self_eq_true t)]
end L2
namespace L2
open PySem PySem.Spec PyProof.Rows LT
theorem iteD1 {c A B : Prop} [Decidable c] (h : c) (a : A) : if decide c = true then A else B := by rw [decide_eq_true h]; exact iteT a
theorem iteD0 {c A B : Prop} [Decidable c] (h : ¬ c) (b : B) : if decide c = true then A else B := by rw [decide_eq_false h]; exact iteF b
theorem iteN1 {c A B : Prop} [Decidable c] (h : ¬ c) (a : A) : if (!decide c) = true then A else B := by rw [decide_eq_false h]; exact iteT a
theorem iteD2 {c A B : Prop} [Decidable c] (h1 : c → A) (h2 : ¬ c → B) : if decide c = true then A else B := by
 by_cases h : c
 ·exact iteD1 h (h1 h)
 ·exact iteD0 h (h2 h)
theorem iteN2 {c A B : Prop} [Decidable c] (h1 : ¬ c → A) (h2 : c → B) : if (!decide c) = true then A else B := by
 by_cases h : c
 ·exact iteNS h (h2 h)
 ·exact iteN1 h (h1 h)
theorem small_le {n : Nat} (h : n ≤ 1000) : n ≤ sizeLine := Nat.le_of_lt (small1000 h)
theorem small_b {n : Nat} (h : Nat.ble n 1000 = true) : n ≤ sizeLine := small_le (Nat.le_of_ble_eq_true h)
noncomputable def dNum (q : Rat) : PyData := .tuple [.int q.num, .int (q.den : Int)]
theorem good_num (q : Rat) : Good (dNum q) := ⟨rfl, by show 1 ≤ 60; decide⟩
theorem Dt.num {H : Hp} {p : Addr} {q : Rat} (h : H p = some (.tup [.int q.num, .int (q.den : Int)])) : Dt H (.ref p) (dNum q) := .tup h (.cons (.int _) (.cons (.int _) .nil))
theorem eqv_num (a b : Rat) : PyData.eqv (dNum a) (dNum b) = decide (a = b) := by
 show ((a.num == b.num) && (((a.den : Int) == (b.den : Int)) && true)) = decide (a = b)
 rw [Bool.and_true]
 by_cases e : a = b
 ·subst e; simp
 ·rw [decide_eq_false e]
  refine Bool.eq_false_iff.mpr fun h => e ?_
  rw [Bool.and_eq_true] at h
  have h1 : a.num = b.num := beq_iff_eq.mp h.1
  have h2 : (a.den : Int) = (b.den : Int) := beq_iff_eq.mp h.2
  exact Rat.ext h1 (by omega)
noncomputable def dLine (l : Rat × Rat) : PyData := .tuple [dNum l.1, dNum l.2]
theorem good_line (l : Rat × Rat) : Good (dLine l) := ⟨rfl, by show 2 ≤ 60; decide⟩
theorem Dt.line {H : Hp} {p : Addr} {a b : V} {l : Rat × Rat} (h : H p = some (.tup [a, b])) (ha : Dt H a (dNum l.1)) (hb : Dt H b (dNum l.2)) : Dt H (.ref p) (dLine l) := .tup h (.cons ha (.cons hb .nil))
theorem eqv_line (a b : Rat × Rat) : PyData.eqv (dLine a) (dLine b) = decide (a = b) := by
 show (PyData.eqv (dNum a.1) (dNum b.1) && (PyData.eqv (dNum a.2) (dNum b.2) && true)) = decide (a = b)
 rw [Bool.and_true, eqv_num, eqv_num]
 obtain ⟨a1, a2⟩ := a
 obtain ⟨b1, b2⟩ := b
 by_cases e : a1 = b1 <;> by_cases f : a2 = b2 <;> simp [e, f]
noncomputable def Pen (K : PySem.W.Frag) (pen a : Addr) (ns : List Int) (H : Hp) : Prop := ∃ z k : Int, 0 ≤ z ∧ 0 ≤ k ∧ H pen = some (.lst [.ref a, .int z, .int k]) ∧ SqL K H a (ns.map V.int)
theorem Pen.lst {K : PySem.W.Frag} {pen a : Addr} {ns : List Int} {H : Hp} (h : Pen K pen a ns H) : ∃ ys, H pen = some (.lst ys) := let ⟨_, _, _, _, e, _⟩ := h; ⟨_, e⟩
theorem Pen.same {K : PySem.W.Frag} {pen a : Addr} {ns : List Int} {H H' : Hp} (h : Pen K pen a ns H) (g : Same H H') : Pen K pen a ns H' :=
 let ⟨z, k, h1, h2, h3, h4⟩ := h; ⟨z, k, h1, h2, g _ _ h3, g.seq h4⟩
theorem Pen.t {K : PySem.W.Frag} {pen a : Addr} {ns : List Int} {H H' : Hp} (h : Pen K pen a ns H) (g : SameX pen H H') : SameT H H' := let ⟨_, e⟩ := h.lst; g.t e
noncomputable def spLaw (K : PySem.W.Frag) : Sp := fun vs H Q _ => ∃ (a : Addr) (ns : List Int), vs = [.ref a] ∧ SqL K H a (ns.map V.int) ∧ ns.length ≤ 63 ∧ ∀ H', Q (.bl true) H'
theorem gcd_bt {k : Nat} {t b : Int} (h : Bt k b) (h0 : b ≠ 0) : Bt k (Int.gcd t b : Nat) := by
 unfold Bt at *
 refine Nat.lt_of_le_of_lt ?_ h
 show Int.gcd t b ≤ b.natAbs
 exact Nat.le_of_dvd (by omega) (Nat.gcd_dvd_right _ _)
theorem gcd_ne {t b : Int} (h0 : b ≠ 0) : ((Int.gcd t b : Nat) : Int) ≠ 0 := by
 have := Int.gcd_pos_of_ne_zero_right t h0
 omega
end L2
namespace L2.VS
open PySem PySem.Spec PyProof.Rows
abbrev D := PyData
structure Pb where
 P : V → Hp → Prop
 mono : ∀ {v G G'}, Same G G' → P v G → P v G'
structure Bx where
 P : V → List Addr → Hp → Hp → Prop
 mono : ∀ {v fp G G' H}, Same G G' → P v fp G H → P v fp G' H
 loc : ∀ {v fp G H H'}, (∀ b ∈ fp, H' b = H b) → P v fp G H → P v fp G H'
 dom : ∀ {v fp G H}, P v fp G H → ∀ b ∈ fp, ∃ o, H b = some o
 uniq : ∀ {v fp fp' G H}, P v fp G H → P v fp' G H → fp = fp'
 nt : ∀ {v fp G H}, P v fp G H → ∀ b ∈ fp, ∀ xs, H b = some (.tup xs) → ∃ q ∈ fp, V.ref q ∈ xs ∧ ∃ vs, H q = some (.lst vs)
 view : Option D
 vok : ∀ {v fp G H G' d}, P v fp G H → view = some d → Same G G' → (∀ b ∈ fp, G' b = H b) → Dt G' v d
 pv : Option Pb := none
 pok : ∀ {v fp G H G' B}, P v fp G H → pv = some B → Same G G' → (∀ b ∈ fp, G' b = H b) → B.P v G' := by intro _ _ _ _ _ _ _ z; cases z
inductive Sl where
 | no | val (d : D) | own (ds : List D) | pen | con (p : Addr) | box (B : Bx) | pub (B : Pb)
abbrev En := List Sl
inductive Rv where
 | val (d : D) | own (ds : List D) | box (B : Bx)
noncomputable def Rv.d : Rv → D
 | .val d => d
 | .own ds => .list ds
 | .box B => B.view.getD .none
noncomputable def Rv.sl : Rv → Sl
 | .val d => .val d
 | .own ds => .own ds
 | .box B => .box B
inductive Fl where
 | nx (Γ : En) | rt (r : Rv) | bk (Γ : En) | ct (Γ : En)
variable {P0 : Addr → Hp → Prop}
structure Fra (P0 : Addr → Hp → Prop) where
 H0 : Hp
 G0 : Hp
 pen : Option Addr
 stab : ∀ p, pen = some p → ∀ H H', (∀ b o, H0 b = some o → H' b = H b) → P0 p H → P0 p H'
 pin : ∀ p, pen = some p → ∀ H, P0 p H → ∃ o, H p = some o
 pin0 : ∀ p, pen = some p → ∃ o, H0 p = some o
 pg : ∀ p, pen = some p → G0 p = none
noncomputable def Fra.PI (F : Fra P0) (H : Hp) : Prop := ∀ p, F.pen = some p → P0 p H
theorem Fra.stab' (F : Fra P0) : ∀ H H', (∀ b o, F.H0 b = some o → H' b = H b) → F.PI H → F.PI H' := fun H H' h pi p e => F.stab p e H H' h (pi p e)
structure Rf (F : Fra P0) (G H : Hp) : Prop where
 sub : Same G H
 g0 : ∀ b o, F.H0 b = some o → G b = F.G0 b
 h0 : ∀ b o, F.H0 b = some o → F.pen ≠ some b → H b = some o
 pn : F.PI H
noncomputable def SlF (F : Fra P0) (G H : Hp) (x : Option (Option V)) (fp : List Addr) : Sl → Prop
 | .no => fp = []
 | .val d => fp = [] ∧ ∃ v, x = some (some v) ∧ Dt G v d
 | .own ds => ∃ p vs, fp = [p] ∧ x = some (some (.ref p)) ∧ F.H0 p = none ∧ G p = none ∧ H p = some (.lst vs) ∧ Dts G vs ds
 | .pen => fp = [] ∧ ∃ p, x = some (some (.ref p)) ∧ F.pen = some p
 | .con p => fp = [] ∧ x = some (some (.ref p))
 | .pub B => fp = [] ∧ ∃ v, x = some (some v) ∧ B.P v G
 | .box B => ∃ v, x = some (some v) ∧ B.P v fp G H ∧ ∀ b ∈ fp, F.H0 b = none ∧ G b = none
noncomputable def SlOk (F : Fra P0) (G H : Hp) (x : Option (Option V)) : Sl → Prop
 | .no => True
 | .val d => ∃ v, x = some (some v) ∧ Dt G v d
 | .own ds => ∃ p vs, x = some (some (.ref p)) ∧ F.H0 p = none ∧ G p = none ∧ H p = some (.lst vs) ∧ Dts G vs ds
 | .pen => ∃ p, x = some (some (.ref p)) ∧ F.pen = some p
 | .con p => x = some (some (.ref p))
 | .pub B => ∃ v, x = some (some v) ∧ B.P v G
 | .box B => ∃ v fp, x = some (some v) ∧ B.P v fp G H ∧ ∀ b ∈ fp, F.H0 b = none ∧ G b = none
theorem SlF.ok {F : Fra P0} {G H : Hp} {x : Option (Option V)} {fp : List Addr} : ∀ {s : Sl}, SlF F G H x fp s → SlOk F G H x s
 | .no, _ => trivial
 | .val _, h => h.2
 | .own _, h => let ⟨p, vs, _, r⟩ := h; ⟨p, vs, r⟩
 | .pen, h => h.2
 | .con _, h => h.2
 | .pub _, h => h.2
 | .box _, h => let ⟨v, r⟩ := h; ⟨v, fp, r⟩
theorem SlF.mine {F : Fra P0} {G H : Hp} {x : Option (Option V)} {fp : List Addr} {b : Addr} (hb : b ∈ fp) : ∀ {s : Sl}, SlF F G H x fp s → F.H0 b = none ∧ G b = none ∧ ∃ o, H b = some o
 | .no, h => by rw [show fp = [] from h] at hb; cases hb
 | .val _, h => by rw [h.1] at hb; cases hb
 | .own _, h => by
  obtain ⟨p, vs, e, _, h1, h2, h3, _⟩ := h
  rw [e] at hb
  rw [List.mem_singleton.mp hb]
  exact ⟨h1, h2, _, h3⟩
 | .pen, h => by rw [h.1] at hb; cases hb
 | .con _, h => by rw [h.1] at hb; cases hb
 | .pub _, h => by rw [h.1] at hb; cases hb
 | .box B, h => by
  obtain ⟨v, _, h2, h3⟩ := h
  exact ⟨(h3 b hb).1, (h3 b hb).2, B.dom h2 b hb⟩
theorem SlF.go {F : Fra P0} {G H G' H' : Hp} {x : Option (Option V)} {fp : List Addr} (g : Same G G') (k : ∀ b ∈ fp, G' b = none ∧ H' b = H b) : ∀ {s : Sl}, SlF F G H x fp s → SlF F G' H' x fp s
 | .no, h => h
 | .val _, h => let ⟨e, v, e1, d1⟩ := h; ⟨e, v, e1, Dt.same g _ _ d1⟩
 | .own _, h => by
  obtain ⟨p, vs, e, e1, e2, e3, e4, e5⟩ := h
  have := k p (by rw [e]; exact List.mem_singleton.mpr rfl)
  exact ⟨p, vs, e, e1, e2, this.1, this.2.trans e4, Dts.same g _ _ e5⟩
 | .pen, h => h
 | .con _, h => h
 | .pub B, h => let ⟨e, v, e1, d1⟩ := h; ⟨e, v, e1, B.mono g d1⟩
 | .box B, h => by
  obtain ⟨v, h1, h2, h3⟩ := h
  exact ⟨v, h1, B.loc (fun b hb => (k b hb).2) (B.mono g h2), fun b hb => ⟨(h3 b hb).1, (k b hb).1⟩⟩
structure R (F : Fra P0) (Γ : En) (σ : St) (G H : Hp) : Prop where
 fr : Rf F G H
 len : Γ.length = σ.length
 fps : ∃ fps : Nat → List Addr, (∀ (i : Nat) s, Γ[i]? = some s → SlF F G H σ[i]? (fps i) s) ∧ ∀ (i j : Nat) (s t : Sl), Γ[i]? = some s → Γ[j]? = some t → i ≠ j → ∀ b ∈ fps i, b ∉ fps j
theorem R.sl {F : Fra P0} {Γ : En} {σ : St} {G H : Hp} (r : R F Γ σ G H) (i : Nat) (s : Sl) (e : Γ[i]? = some s) : SlOk F G H σ[i]? s :=
 let ⟨_, h, _⟩ := r.fps; (h i s e).ok
theorem R.ap {F : Fra P0} {Γ : En} {σ : St} {G H : Hp} (r : R F Γ σ G H) (i j : Nat) (x y : List D) (hij : i ≠ j) (ei : Γ[i]? = some (.own x)) (ej : Γ[j]? = some (.own y)) : σ[i]? ≠ σ[j]? := by
 obtain ⟨fps, h1, h2⟩ := r.fps
 obtain ⟨p, vs, e, e1, _⟩ := h1 i _ ei
 obtain ⟨q, ws, f, f1, _⟩ := h1 j _ ej
 intro z
 rw [e1, f1] at z
 cases z
 exact h2 i j _ _ ei ej hij p (by rw [e]; exact List.mem_singleton.mpr rfl) (by rw [f]; exact List.mem_singleton.mpr rfl)
theorem R.of {F : Fra P0} {Γ : En} {σ : St} {G H : Hp} (fr : Rf F G H) (len : Γ.length = σ.length) (sl : ∀ (i : Nat) s, Γ[i]? = some s → SlOk F G H σ[i]? s) (nb : ∀ (i : Nat) B, Γ[i]? ≠ some (.box B))
  (ap : ∀ (i j : Nat) x y, i ≠ j → Γ[i]? = some (.own x) → Γ[j]? = some (.own y) → σ[i]? ≠ σ[j]?) : R F Γ σ G H := by
 refine ⟨fr, len, fun i => match Γ[i]?, σ[i]? with | some (.own _), some (some (.ref p)) => [p] | _, _ => [], fun i s e => ?_, fun i j s t ei ej hij b hb hc => ?_⟩
 ·have h := sl i s e
  cases s with
  | no => simp only [e]; rfl
  | val d => simp only [e]; exact ⟨rfl, h⟩
  | own ds =>
   obtain ⟨p, vs, e1, r⟩ := h
   simp only [e, e1]
   exact ⟨p, vs, rfl, rfl, r⟩
  | pen => simp only [e]; exact ⟨rfl, h⟩
  | con q => simp only [e]; exact ⟨rfl, h⟩
  | pub B => simp only [e]; exact ⟨rfl, h⟩
  | box B => exact absurd e (nb i B)
 ·simp only [ei] at hb
  simp only [ej] at hc
  cases s with
  | own x =>
   cases t with
   | own y =>
    split at hb
    ·rename_i p _ e1
     split at hc
     ·rename_i q _ e2
      have e1 := List.mem_singleton.mp hb
      have e2 := List.mem_singleton.mp hc
      exact ap i j x y hij ei ej (by simp_all)
     ·cases hc
    ·cases hb
   | _ => simp at hc
  | _ => simp at hb
section
variable {F : Fra P0} {Γ : En} {σ : St} {G H G' H' : Hp} {p : Addr} {o : HO}
theorem Rf.dom (h : Rf F G H) {b : Addr} (e : F.H0 b = some o) : ∃ o', H b = some o' := by
 by_cases hb : F.pen = some b
 ·exact F.pin b hb H (h.pn b hb)
 ·exact ⟨o, h.h0 b o e hb⟩
theorem Rf.fresh (h : Rf F G H) (hp : H p = none) : F.H0 p = none := by
 cases e : F.H0 p with
 | none => rfl
 | some o =>
  obtain ⟨o', e'⟩ := h.dom e
  rw [hp] at e'; cases e'
theorem Rf.gfresh (h : Rf F G H) (hp : H p = none) : G p = none := h.sub.free hp
theorem Rf.pub (h : Rf F G H) (hp : H p = none) : Rf F (upd G p o) (upd H p o) := by
 have hf := h.fresh hp
 have hn : ∀ b u, F.H0 b = some u → b ≠ p := fun b u e z => by rw [z, hf] at e; cases e
 refine ⟨fun b u e => ?_, fun b u e => ?_, fun b u e hb => ?_, F.stab' H _ (fun b u e => upd_ne (hn b u e)) h.pn⟩
 ·by_cases hb : b = p
  ·subst hb; rw [upd_same] at e; cases e; exact upd_same
  ·rw [upd_ne hb] at e ⊢; exact h.sub b u e
 ·rw [upd_ne (hn b u e)]; exact h.g0 b u e
 ·rw [upd_ne (hn b u e)]; exact h.h0 b u e hb
theorem Rf.priv (h : Rf F G H) (hp : F.H0 p = none) (hg : G p = none) : Rf F G (upd H p o) := by
 have hn : ∀ b u, F.H0 b = some u → b ≠ p := fun b u e z => by rw [z, hp] at e; cases e
 refine ⟨fun b u e => ?_, h.g0, fun b u e hb => ?_, F.stab' H _ (fun b u e => upd_ne (hn b u e)) h.pn⟩
 ·rw [upd_ne (ne_of_none e hg)]; exact h.sub b u e
 ·rw [upd_ne (hn b u e)]; exact h.h0 b u e hb
theorem Rf.give (h : Rf F G H) (hp : F.H0 p = none) (hH : H p = some o) : Rf F (upd G p o) H := by
 have hn : ∀ b u, F.H0 b = some u → b ≠ p := fun b u e z => by rw [z, hp] at e; cases e
 refine ⟨fun b u e => ?_, fun b u e => ?_, h.h0, h.pn⟩
 ·by_cases hb : b = p
  ·subst hb; rw [upd_same] at e; cases e; exact hH
  ·rw [upd_ne hb] at e; exact h.sub b u e
 ·rw [upd_ne (hn b u e)]; exact h.g0 b u e
noncomputable def R.Has (_ : R F Γ σ G H) (b : Addr) : Prop := ∃ (i : Nat) (s : Sl) (fp : List Addr), Γ[i]? = some s ∧ SlF F G H σ[i]? fp s ∧ b ∈ fp
theorem R.keep (r : R F Γ σ G H) (f : Rf F G' H') (g : Same G G')
  (k : ∀ b o, r.Has b → F.H0 b = none → G b = none → H b = some o → G' b = none ∧ H' b = some o) : R F Γ σ G' H' := by
 obtain ⟨fps, h1, h2⟩ := r.fps
 refine ⟨f, r.len, fps, fun i s e => (h1 i s e).go g fun b hb => ?_, h2⟩
 obtain ⟨m1, m2, o, m3⟩ := (h1 i s e).mine hb
 obtain ⟨k1, k2⟩ := k b o ⟨i, s, fps i, e, h1 i s e, hb⟩ m1 m2 m3
 exact ⟨k1, k2.trans m3.symm⟩
theorem R.new (r : R F Γ σ G H) (hp : H p = none) : R F Γ σ (upd G p o) (upd H p o) := by
 refine r.keep (r.fr.pub hp) (same_new (r.fr.gfresh hp) o) fun q u _ _ g h => ?_
 have hq : q ≠ p := ne_of_none h hp
 rw [upd_ne hq, upd_ne hq]
 exact ⟨g, h⟩
theorem R.newP (r : R F Γ σ G H) (hp : H p = none) : R F Γ σ G (upd H p o) := by
 refine r.keep (r.fr.priv (r.fr.fresh hp) (r.fr.gfresh hp)) (Same.refl _) fun q u _ _ g h => ?_
 have hq : q ≠ p := ne_of_none h hp
 rw [upd_ne hq]
 exact ⟨g, h⟩
noncomputable def RvO (F : Fra P0) (G H : Hp) (r : V) : Rv → Prop
 | .val d => Dt G r d
 | .own ds => ∃ p vs, r = .ref p ∧ F.H0 p = none ∧ G p = none ∧ H p = some (.lst vs) ∧ Dts G vs ds
 | .box B => ∃ fp, B.P r fp G H ∧ ∀ b ∈ fp, F.H0 b = none ∧ G b = none
noncomputable def Apart (F : Fra P0) (Γ : En) (σ : St) (G H : Hp) (r : V) : Rv → Prop
 | .val _ => True
 | .own _ => ∀ (i : Nat) s fp, Γ[i]? = some s → SlF F G H σ[i]? fp s → ∀ p, r = .ref p → p ∉ fp
 | .box B => ∀ (i : Nat) s fp f, Γ[i]? = some s → SlF F G H σ[i]? fp s → B.P r f G H → ∀ b ∈ f, b ∉ fp
theorem R.give (r : R F Γ σ G H) {v : V} {ds : List D} (h : RvO F G H v (.own ds)) (ha : Apart F Γ σ G H v (.own ds)) : ∃ G', Same G G' ∧ R F Γ σ G' H ∧ Dt G' v (.list ds) := by
 obtain ⟨p, vs, rfl, e1, e2, e3, e4⟩ := h
 have g := same_new e2 (.lst vs)
 refine ⟨upd G p (.lst vs), g, r.keep (r.fr.give e1 e3) g fun q u hq _ eg eh => ⟨?_, eh⟩, .lst upd_same (Dts.same g _ _ e4)⟩
 have hqp : q ≠ p := fun z => by
  obtain ⟨i, s, fp, a1, a2, a3⟩ := hq
  rw [z] at a3
  exact ha i s fp a1 a2 p rfl a3
 rw [upd_ne hqp]
 exact eg
theorem R.giveB (r : R F Γ σ G H) {v : V} {B : Bx} {d : D} (h : RvO F G H v (.box B)) (ha : Apart F Γ σ G H v (.box B)) (hv : B.view = some d) : ∃ G', Same G G' ∧ R F Γ σ G' H ∧ Dt G' v d := by
 obtain ⟨fp, e1, e2⟩ := h
 have g : Same G (fun b => if b ∈ fp then H b else G b) := fun b o e => by
  show (if b ∈ fp then H b else G b) = some o
  rw [if_neg (fun z => by rw [(e2 b z).2] at e; cases e)]
  exact e
 refine ⟨fun b => if b ∈ fp then H b else G b, g, r.keep ⟨fun b o e => ?_, fun b o e => ?_, r.fr.h0, r.fr.pn⟩ g fun q u hq _ eg eh => ⟨?_, eh⟩, B.vok e1 hv g fun b hb => if_pos hb⟩
 ·have e : (if b ∈ fp then H b else G b) = some o := e
  split at e
  ·exact e
  ·exact r.fr.sub b o e
 ·show (if b ∈ fp then H b else G b) = _
  rw [if_neg (fun z => by rw [(e2 b z).1] at e; cases e)]
  exact r.fr.g0 b o e
 ·obtain ⟨i, s, f, a1, a2, a3⟩ := hq
  show (if q ∈ fp then H q else G q) = none
  rw [if_neg fun z => ha i s f fp a1 a2 e1 q z a3]
  exact eg
theorem R.set (r : R F Γ σ G H) {i : Nat} {v : V} {rv : Rv} (h : RvO F G H v rv) (ha : Apart F Γ σ G H v rv) : R F (Γ.set i rv.sl) (σ.set i (some v)) G H := by
 obtain ⟨fps, h1, h2⟩ := r.fps
 obtain ⟨fp, hf, hd⟩ : ∃ fp, SlF F G H (some (some v)) fp rv.sl ∧ ∀ (j : Nat) s, Γ[j]? = some s → ∀ b ∈ fp, b ∉ fps j := by
  cases rv with
  | val d => exact ⟨[], ⟨rfl, v, rfl, h⟩, fun j s _ b hb => nomatch hb⟩
  | own ds =>
   obtain ⟨p, vs, rfl, q⟩ := h
   exact ⟨[p], ⟨p, vs, rfl, rfl, q⟩, fun j s ej b hb => by rw [List.mem_singleton.mp hb]; exact ha j s (fps j) ej (h1 j s ej) p rfl⟩
  | box B =>
   obtain ⟨fp, q1, q2⟩ := h
   exact ⟨fp, ⟨v, rfl, q1, q2⟩, fun j s ej b hb => ha j s (fps j) fp ej (h1 j s ej) q1 b hb⟩
 have lt : ∀ {m : Nat} {z}, (Γ.set i rv.sl)[m]? = some z → m < Γ.length := fun e => by
  have := (List.getElem?_eq_some_iff.mp e).1
  simpa using this
 have old : ∀ {m : Nat} {z}, m ≠ i → (Γ.set i rv.sl)[m]? = some z → Γ[m]? = some z := fun hm e => by rw [List.getElem?_set_ne (Ne.symm hm)] at e; exact e
 refine ⟨r.fr, by rw [List.length_set, List.length_set]; exact r.len, fun j => if j = i then fp else fps j, fun j s e => ?_, fun j k s t ej ek hjk b hb hc => ?_⟩
 ·dsimp only
  by_cases hj : j = i
  ·subst hj
   have hi := lt e
   rw [List.getElem?_set_self hi] at e
   rw [if_pos rfl, List.getElem?_set_self (by rw [← r.len]; exact hi)]
   cases e
   exact hf
  ·rw [if_neg hj, List.getElem?_set_ne (Ne.symm hj)]
   exact h1 j s (old hj e)
 ·dsimp only at hb hc
  by_cases hj : j = i
  ·have hk : k ≠ i := fun z => hjk (hj.trans z.symm)
   rw [if_pos hj] at hb
   rw [if_neg hk] at hc
   exact hd k t (old hk ek) b hb hc
  ·rw [if_neg hj] at hb
   by_cases hk : k = i
   ·rw [if_pos hk] at hc
    exact hd j s (old hj ej) b hc hb
   ·rw [if_neg hk] at hc
    exact h2 j k s t (old hj ej) (old hk ek) hjk b hb hc
theorem R.setV (r : R F Γ σ G H) {i : Nat} {v : V} {d : D} (h : Dt G v d) : R F (Γ.set i (.val d)) (σ.set i (some v)) G H := r.set (rv := .val d) h trivial
theorem R.drop (r : R F Γ σ G H) (i : Nat) : R F (Γ.set i .no) σ G H := by
 obtain ⟨fps, h1, h2⟩ := r.fps
 have back : ∀ {m z}, m ≠ i → (Γ.set i .no)[m]? = some z → Γ[m]? = some z := fun {m z} hm e => by rw [List.getElem?_set_ne (Ne.symm hm)] at e; exact e
 refine ⟨r.fr, by rw [List.length_set]; exact r.len, fun j => if j = i then [] else fps j, fun j s e => ?_, fun j k s t ej ek hjk b hb hc => ?_⟩
 ·dsimp only
  by_cases hj : j = i
  ·subst hj
   have hi : j < Γ.length := by
    have := (List.getElem?_eq_some_iff.mp e).1
    simpa using this
   rw [List.getElem?_set_self hi] at e
   cases e
   rw [if_pos rfl]
   rfl
  ·rw [if_neg hj]
   exact h1 j s (back hj e)
 ·dsimp only at hb hc
  by_cases hj : j = i
  ·rw [if_pos hj] at hb; cases hb
  ·rw [if_neg hj] at hb
   by_cases hk : k = i
   ·rw [if_pos hk] at hc; cases hc
   ·rw [if_neg hk] at hc
    exact h2 j k s t (back hj ej) (back hk ek) hjk b hb hc
theorem R.writeF (r : R F Γ σ G H) {i : Nat} {s0 s1 : Sl} {H' : Hp} (e : Γ[i]? = some s0) (fr : Rf F G H') (h : ∀ fp, SlF F G H σ[i]? fp s0 → ∃ fp', SlF F G H' σ[i]? fp' s1 ∧ (∀ b, b ∉ fp → (∃ o, H b = some o) → H' b = H b ∧ b ∉ fp')) : R F (Γ.set i s1) σ G H' := by
 obtain ⟨fps, h1, h2⟩ := r.fps
 obtain ⟨fp', w1, w2⟩ := h (fps i) (h1 i s0 e)
 have hi : i < Γ.length := (List.getElem?_eq_some_iff.mp e).1
 have back : ∀ {m z}, m ≠ i → (Γ.set i s1)[m]? = some z → Γ[m]? = some z := fun {m z} hm e => by rw [List.getElem?_set_ne (Ne.symm hm)] at e; exact e
 have away : ∀ {j : Nat} {s : Sl}, j ≠ i → Γ[j]? = some s → ∀ b ∈ fps j, H' b = H b ∧ b ∉ fp' := fun hj ej b hb =>
  w2 b (fun z => h2 _ i _ s0 ej e hj b hb z) ((h1 _ _ ej).mine hb).2.2
 refine ⟨fr, by rw [List.length_set]; exact r.len, fun j => if j = i then fp' else fps j, fun j s ej => ?_, fun j k s t ej ek hjk b hb hc => ?_⟩
 ·dsimp only
  by_cases hj : j = i
  ·subst hj
   rw [List.getElem?_set_self hi] at ej
   cases ej
   rw [if_pos rfl]
   exact w1
  ·rw [if_neg hj]
   have e0 := back hj ej
   exact (h1 j s e0).go (Same.refl _) fun b hb => ⟨((h1 j s e0).mine hb).2.1, (away hj e0 b hb).1⟩
 ·dsimp only at hb hc
  by_cases hj : j = i
  ·have hk : k ≠ i := fun z => hjk (hj.trans z.symm)
   rw [if_pos hj] at hb
   rw [if_neg hk] at hc
   exact (away hk (back hk ek) b hc).2 hb
  ·rw [if_neg hj] at hb
   by_cases hk : k = i
   ·rw [if_pos hk] at hc
    exact (away hj (back hj ej) b hb).2 hc
   ·rw [if_neg hk] at hc
    exact h2 j k s t (back hj ej) (back hk ek) hjk b hb hc
theorem R.write (r : R F Γ σ G H) {i : Nat} {ds es : List D} {p : Addr} {ws : List V} (e : Γ[i]? = some (.own ds)) (ep : σ[i]? = some (some (.ref p))) (hw : Dts G ws es) : R F (Γ.set i (.own es)) σ G (upd H p (.lst ws)) := by
 obtain ⟨p', vs, e1, e2, e3, e4, e5⟩ := r.sl i _ e
 rw [ep] at e1; cases e1
 refine r.writeF e (r.fr.priv e2 e3) fun fp h => ?_
 obtain ⟨q, us, f0, f1, f2, f3, f4, f5⟩ := h
 rw [ep] at f1; cases f1
 refine ⟨[p], ⟨p, ws, rfl, ep, e2, e3, upd_same, hw⟩, fun b hb _ => ?_⟩
 have hbp : b ≠ p := fun z => hb (by rw [f0, z]; exact List.mem_singleton.mpr rfl)
 exact ⟨upd_ne hbp, fun z => hbp (List.mem_singleton.mp z)⟩
end
abbrev ME := En → (D → En → Prop) → Prop
abbrev MO := En → (Rv → En → Prop) → Prop
abbrev MT := En → (Bool → En → Prop) → Prop
abbrev MA := En → (List Sl → En → Prop) → Prop
abbrev MD := En → (List D → En → Prop) → Prop
abbrev MG := D → En → (En → Prop) → Prop
abbrev MGs := List D → En → (En → Prop) → Prop
abbrev MS := En → (Fl → Prop) → Prop
abbrev Fm := List Sl → (Rv → Prop) → Prop
noncomputable def VT (P0 : Addr → Hp → Prop) (t : TE) (m : ME) : Prop := ∀ (F : Fra P0) (Γ : En) (σ : St) (G H : Hp) (Q : VK) (Qm : D → En → Prop), R F Γ σ G H → m Γ Qm →
 (∀ d Γ' r G' H', Qm d Γ' → Same G G' → R F Γ' σ G' H' → Dt G' r d → Q r H') → t σ H Q
noncomputable def VO (P0 : Addr → Hp → Prop) (t : TE) (m : MO) : Prop := ∀ (F : Fra P0) (Γ : En) (σ : St) (G H : Hp) (Q : VK) (Qm : Rv → En → Prop), R F Γ σ G H → m Γ Qm →
 (∀ rv Γ' r G' H', Qm rv Γ' → Same G G' → R F Γ' σ G' H' → RvO F G' H' r rv → Apart F Γ' σ G' H' r rv → Q r H') → t σ H Q
noncomputable def VTT (P0 : Addr → Hp → Prop) (t : TT) (m : MT) : Prop := ∀ (F : Fra P0) (Γ : En) (σ : St) (G H : Hp) (Q : Bool → Hp → Prop) (Qm : Bool → En → Prop), R F Γ σ G H → m Γ Qm →
 (∀ b Γ' G' H', Qm b Γ' → Same G G' → R F Γ' σ G' H' → Q b H') → t σ H Q
noncomputable def VD (P0 : Addr → Hp → Prop) (t : TA) (m : MD) : Prop := ∀ (F : Fra P0) (Γ : En) (σ : St) (G H : Hp) (Q : List V → Hp → Prop) (Qm : List D → En → Prop), R F Γ σ G H → m Γ Qm →
 (∀ ds Γ' rs G' H', Qm ds Γ' → Same G G' → R F Γ' σ G' H' → Dts G' rs ds → Q rs H') → t σ H Q
noncomputable def ArgOk (F : Fra P0) (G : Hp) (r : V) : Sl → Prop
 | .val d => Dt G r d
 | .pen => ∃ p, r = .ref p ∧ F.pen = some p
 | .con p => r = .ref p
 | .pub B => B.P r G
 | _ => False
noncomputable def VA (P0 : Addr → Hp → Prop) (t : TA) (m : MA) : Prop := ∀ (F : Fra P0) (Γ : En) (σ : St) (G H : Hp) (Q : List V → Hp → Prop) (Qm : List Sl → En → Prop), R F Γ σ G H → m Γ Qm →
 (∀ as Γ' rs G' H', Qm as Γ' → Same G G' → R F Γ' σ G' H' → Paired (ArgOk F G') rs as → Q rs H') → t σ H Q
noncomputable def VG (P0 : Addr → Hp → Prop) (A : Nat → Bool) (g : TG) (m : MG) : Prop := ∀ (F : Fra P0) (Γ : En) (σ : St) (G H : Hp) (v : V) (d : D) (Q : St → Hp → Prop) (Qm : En → Prop), R F Γ σ G H → Dt G v d → m d Γ Qm →
 (∀ Γ' σ', Qm Γ' → R F Γ' σ' G H → (∀ i, A i = false → σ'[i]? = σ[i]?) → Q σ' H) → g v σ H Q
noncomputable def Post (F : Fra P0) (A : Nat → Bool) (σ0 : St) (G : Hp) (E : Ends) : Fl → Prop
 | .nx Γ => ∀ σ G' H', Same G G' → R F Γ σ G' H' → (∀ i, A i = false → σ[i]? = σ0[i]?) → E.nx σ H'
 | .rt rv => ∀ r G' H', Same G G' → Rf F G' H' → RvO F G' H' r rv → E.rt r H'
 | .bk Γ => ∀ σ G' H', Same G G' → R F Γ σ G' H' → (∀ i, A i = false → σ[i]? = σ0[i]?) → E.bk σ H'
 | .ct Γ => ∀ σ G' H', Same G G' → R F Γ σ G' H' → (∀ i, A i = false → σ[i]? = σ0[i]?) → E.ct σ H'
noncomputable def VSA (P0 : Addr → Hp → Prop) (A : Nat → Bool) (t : TS) (m : MS) : Prop := ∀ (F : Fra P0) (Γ : En) (σ : St) (G H : Hp) (E : Ends) (Qm : Fl → Prop), R F Γ σ G H → m Γ Qm → (∀ fl, Qm fl → Post F A σ G E fl) → t E σ H
abbrev aAll : Nat → Bool := fun _ => true
abbrev VS (P0 : Addr → Hp → Prop) (t : TS) (m : MS) : Prop := VSA P0 aAll t m
theorem Post.same {F : Fra P0} {A : Nat → Bool} {σ0 σ1 : St} {G G' : Hp} {E : Ends} (g : Same G G') (hσ : ∀ i, A i = false → σ1[i]? = σ0[i]?) : ∀ {fl : Fl}, Post F A σ0 G E fl → Post F A σ1 G' E fl
 | .nx _, h => fun σ G2 H2 s r e => h σ G2 H2 (g.trans s) r fun i hi => (e i hi).trans (hσ i hi)
 | .rt _, h => fun r G2 H2 s => h r G2 H2 (g.trans s)
 | .bk _, h => fun σ G2 H2 s r e => h σ G2 H2 (g.trans s) r fun i hi => (e i hi).trans (hσ i hi)
 | .ct _, h => fun σ G2 H2 s r e => h σ G2 H2 (g.trans s) r fun i hi => (e i hi).trans (hσ i hi)
noncomputable def SsX (P0 : Addr → Hp → Prop) (X : Cx) (sts : List Stmt) (m : MS) : Prop := ∃ t, PSs X sts t ∧ VS P0 t m
end L2.VS
namespace L2.VS
open PySem PySem.Spec PyProof.Rows
variable {P0 : Addr → Hp → Prop}
theorem _root_.L2.Dts.get {G : Hp} : ∀ {vs : List V} {ds : List D} {i : Nat} {d : D}, Dts G vs ds → ds[i]? = some d → ∃ v, vs[i]? = some v ∧ Dt G v d
 := by
  intro vs ds i d h e
  induction ds generalizing vs i with
  | nil => cases e
  | cons x ds ih =>
    cases h with
    | cons a b =>
      cases i with
      | zero => cases e; exact ⟨_, rfl, a⟩
      | succ i =>
        have q := ih b (show ds[i]? = some d from e)
        exact q
theorem _root_.L2.Dts.len {G : Hp} : ∀ {vs : List V} {ds : List D}, Dts G vs ds → vs.length = ds.length
 := by
  intro vs ds h
  induction ds generalizing vs with
  | nil => cases h; rfl
  | cons x ds ih => cases h with | cons a b => exact congrArg Nat.succ (ih b)
theorem _root_.L2.Dts.app {G : Hp} : ∀ {vs ws : List V} {ds es : List D}, Dts G vs ds → Dts G ws es → Dts G (vs ++ ws) (ds ++ es)
 := by
  intro vs ws ds es h g
  induction ds generalizing vs with
  | nil => cases h; exact g
  | cons x ds ih => cases h with | cons a b => exact .cons a (ih b)
theorem _root_.L2.Dts.drp {G : Hp} : ∀ {vs : List V} {ds : List D} (n : Nat), Dts G vs ds → Dts G (vs.drop n) (ds.drop n)
 | _, _, 0, h => h
 | _, _, _ + 1, .nil => .nil
 | _, _, n + 1, .cons _ b => Dts.drp n b
theorem _root_.L2.Dts.tak {G : Hp} : ∀ {vs : List V} {ds : List D} (n : Nat), Dts G vs ds → Dts G (vs.take n) (ds.take n)
 | _, _, 0, _ => .nil
 | _, _, _ + 1, .nil => .nil
 | _, _, n + 1, .cons a b => .cons a (Dts.tak n b)
noncomputable def oQ (o : Option D) (k : D → Prop) : Prop := match o with
 | some d => k d
 | none => False
theorem oQ_out {o : Option D} {k : D → Prop} (h : oQ o k) : ∃ d, o = some d ∧ k d := by
 cases o with
 | none => exact h.elim
 | some d => exact ⟨d, rfl, h⟩
noncomputable def mC (d : D) : ME := fun Γ Q => Q d Γ
noncomputable def mVar (i : Nat) : ME := fun Γ Q => match Γ[i]? with
 | some (.val d) => Q d Γ
 | _ => False
noncomputable def mI0 (g : Int → Int → D) (ma mb : ME) : ME := fun Γ Q => ma Γ fun x Γ1 => mb Γ1 fun y Γ2 => match x, y with
 | .int i, .int j => Q (g i j) Γ2
 | _, _ => False
noncomputable def mI (C : Int → Int → Prop) (g : Int → Int → D) (ma mb : ME) : ME := fun Γ Q => ma Γ fun x Γ1 => mb Γ1 fun y Γ2 => match x, y with
 | .int i, .int j => C i j ∧ Q (g i j) Γ2
 | _, _ => False
noncomputable def mU (g : Int → D) (ma : ME) : ME := fun Γ Q => ma Γ fun x Γ1 => match x with
 | .int i => Q (g i) Γ1
 | _ => False
noncomputable def mEq (ma mb : ME) : ME := fun Γ Q => ma Γ fun x Γ1 => mb Γ1 fun y Γ2 => Good x ∧ Good y ∧ Q (.bool (PyData.eqv x y)) Γ2
noncomputable def mNe (ma mb : ME) : ME := fun Γ Q => ma Γ fun x Γ1 => mb Γ1 fun y Γ2 => Good x ∧ Good y ∧ Q (.bool (!PyData.eqv x y)) Γ2
noncomputable def isN : D → Bool
 | .none => true
 | _ => false
noncomputable def mIsN (ma : ME) : ME := fun Γ Q => ma Γ fun x Γ1 => Q (.bool (isN x)) Γ1
noncomputable def mNotN (ma : ME) : ME := fun Γ Q => ma Γ fun x Γ1 => Q (.bool (!isN x)) Γ1
noncomputable def mAndV (ma mb : ME) : ME := fun Γ Q => ma Γ fun x Γ1 => match x with
 | .bool c => if c = true then mb Γ1 Q else Q (.bool false) Γ1
 | _ => False
noncomputable def mOrV (ma mb : ME) : ME := fun Γ Q => ma Γ fun x Γ1 => match x with
 | .bool c => if c = true then Q (.bool true) Γ1 else mb Γ1 Q
 | _ => False
noncomputable def mNotV (ma : ME) : ME := fun Γ Q => ma Γ fun x Γ1 => match x with
 | .bool c => Q (.bool (!c)) Γ1
 | _ => False
noncomputable def mTst (ma : ME) : MT := fun Γ Q => ma Γ fun x Γ1 => match x with
 | .bool c => Q c Γ1
 | _ => False
noncomputable def mAnd (ma mb : MT) : MT := fun Γ Q => ma Γ fun c Γ1 => if c = true then mb Γ1 Q else Q false Γ1
noncomputable def mOr (ma mb : MT) : MT := fun Γ Q => ma Γ fun c Γ1 => if c = true then Q true Γ1 else mb Γ1 Q
noncomputable def mNot (ma : MT) : MT := fun Γ Q => ma Γ fun c Γ1 => Q (!c) Γ1
noncomputable def mIfE (mc : MT) (ma mb : ME) : ME := fun Γ Q => mc Γ fun c Γ1 => if c = true then ma Γ1 Q else mb Γ1 Q
noncomputable def mIfO (mc : MT) (ma mb : MO) : MO := fun Γ Q => mc Γ fun c Γ1 => if c = true then ma Γ1 Q else mb Γ1 Q
noncomputable def mNil : MD := fun Γ Q => Q [] Γ
noncomputable def mCons (ma : ME) (mr : MD) : MD := fun Γ Q => ma Γ fun x Γ1 => mr Γ1 fun xs Γ2 => Q (x :: xs) Γ2
noncomputable def aNil : MA := fun Γ Q => Q [] Γ
noncomputable def aVal (ma : ME) (mr : MA) : MA := fun Γ Q => ma Γ fun x Γ1 => mr Γ1 fun xs Γ2 => Q (.val x :: xs) Γ2
noncomputable def aPen (i : Nat) (mr : MA) : MA := fun Γ Q => match Γ[i]? with
 | some .pen => mr Γ fun xs Γ2 => Q (.pen :: xs) Γ2
 | _ => False
noncomputable def mTup (md : MD) : ME := fun Γ Q => md Γ fun ds Γ1 => ds.length ≤ 1000 ∧ Q (.tuple ds) Γ1
noncomputable def mLst (md : MD) : MO := fun Γ Q => md Γ fun ds Γ1 => ds.length ≤ 1000 ∧ Q (.own ds) Γ1
noncomputable def ixD : D → D → Option D
 | .tuple ds, .int i => atI ds i
 | .list ds, .int i => atI ds i
 | _, _ => none
noncomputable def mIx (ma mb : ME) : ME := fun Γ Q => ma Γ fun x Γ1 => mb Γ1 fun y Γ2 => oQ (ixD x y) fun d => Q d Γ2
noncomputable def nbQ : Rv → Prop → Prop
 | .box B, p => B.view.isSome = true ∧ p
 | _, p => p
noncomputable def mPub (mo : MO) : ME := fun Γ Q => mo Γ fun rv Γ1 => nbQ rv (Q rv.d Γ1)
noncomputable def mVal (m : ME) : MO := fun Γ Q => m Γ fun d Γ1 => Q (.val d) Γ1
noncomputable def mMove (i : Nat) : MO := fun Γ Q => match Γ[i]? with
 | some (.val d) => Q (.val d) Γ
 | some (.own ds) => Q (.own ds) (Γ.set i .no)
 | some (.box B) => Q (.box B) (Γ.set i .no)
 | _ => False
noncomputable def mCall (n : Nat) (f : Fm) (ma : MA) : MO := fun Γ Q => ma Γ fun as Γ1 => as.length = n ∧ f as fun rv => Q rv Γ1
noncomputable def lenD : D → Option D
 | .tuple ds => some (.int ds.length)
 | .list ds => some (.int ds.length)
 | _ => none
noncomputable def mLen (ma : ME) : ME := fun Γ Q => ma Γ fun x Γ1 => oQ (lenD x) fun d => Q d Γ1
noncomputable def itemsD : D → Option (List D)
 | .tuple ds => some ds
 | .list ds => some ds
 | _ => none
noncomputable def mListOf (ma : ME) : MO := fun Γ Q => ma Γ fun x Γ1 => match itemsD x with
 | some ds => Q (.own ds) Γ1
 | none => False
noncomputable def cutD (xs : List D) (lo hi : Option Int) : List D := (xs.drop (HT.sIx xs.length 0 lo)).take (HT.sIx xs.length xs.length hi - HT.sIx xs.length 0 lo)
abbrev MP := En → (Option Int → En → Prop) → Prop
noncomputable def pNo : MP := fun Γ Q => Q none Γ
noncomputable def pSo (m : ME) : MP := fun Γ Q => m Γ fun x Γ1 => match x with
 | .int i => Q (some i) Γ1
 | _ => False
noncomputable def mSlL (ma : ME) (ml mh : MP) : MO := fun Γ Q => ma Γ fun x Γ1 => ml Γ1 fun lo Γ2 => mh Γ2 fun hi Γ3 => match x with
 | .list ds => Q (.own (cutD ds lo hi)) Γ3
 | _ => False
noncomputable def mCat (ma mb : ME) : MO := fun Γ Q => ma Γ fun x Γ1 => mb Γ1 fun y Γ2 => match x, y with
 | .list ds, .list es => ds.length + es.length ≤ 1000 ∧ Q (.own (ds ++ es)) Γ2
 | _, _ => False
noncomputable def VP (P0 : Addr → Hp → Prop) (t : TO) (m : MP) : Prop := ∀ (F : Fra P0) (Γ : En) (σ : St) (G H : Hp) (Q : Option Int → Hp → Prop) (Qm : Option Int → En → Prop), R F Γ σ G H → m Γ Qm →
 (∀ d Γ' G' H', Qm d Γ' → Same G G' → R F Γ' σ G' H' → Q d H') → t σ H Q
section
variable {ta tb tc : TE} {ma mb : ME} {tA tB' : TT} {mA mB : MT} {K : PySem.W.Frag}
theorem vt_c {v : V} {d : D} (h : ∀ G, Dt G v d) : VT P0 (tC v) (mC d) := fun _ _ _ G _ _ _ r m k => k _ _ _ _ _ m (Same.refl _) r (h G)
theorem vt_var {i : Nat} : VT P0 (tVar i) (mVar i) := by
 intro F Γ σ G H Q Qm r m k
 unfold mVar at m
 split at m
 ·rename_i d e
  obtain ⟨v, e1, d1⟩ := r.sl i _ e
  exact ⟨v, e1, k _ _ _ _ _ m (Same.refl _) r d1⟩
 ·exact m.elim
theorem vt_2 {r2 : R2} {m2 : D → D → (D → Prop) → Prop} (ha : VT P0 ta ma) (hb : VT P0 tb mb)
  (h : ∀ (F : Fra P0) (Γ : En) (σ : St) (G H : Hp) (x y : V) (d e : D) (Q : VK) (Qm : D → Prop), R F Γ σ G H → Dt G x d → Dt G y e → m2 d e Qm → (∀ u r G' H', Qm u → Same G G' → R F Γ σ G' H' → Dt G' r u → Q r H') → r2 x y H Q) :
  VT P0 (tOp r2 ta tb) (fun Γ Q => ma Γ fun x Γ1 => mb Γ1 fun y Γ2 => m2 x y fun d => Q d Γ2) := by
 intro F Γ σ G H Q Qm r m k
 refine ha F Γ σ G H _ _ r m fun d Γ1 x G1 H1 m1 s1 r1 d1 => ?_
 refine hb F Γ1 σ G1 H1 _ _ r1 m1 fun e Γ2 y G2 H2 m2 s2 r2 d2 => ?_
 exact h F Γ2 σ G2 H2 x y d e _ _ r2 (Dt.same s2 _ _ d1) d2 m2 fun u w G3 H3 q s3 r3 d3 => k _ _ _ _ _ q ((s1.trans s2).trans s3) r3 d3
theorem vt_i0 {gv : Int → Int → V} {g : Int → Int → D} (hg : ∀ G i j, Dt G (gv i j) (g i j)) (ha : VT P0 ta ma) (hb : VT P0 tb mb) : VT P0 (tOp (rI0 gv) ta tb) (mI0 g ma mb) := by
 refine vt_2 (m2 := fun x y Q => match x, y with | .int i, .int j => Q (g i j) | _, _ => False) ha hb fun F Γ σ G H x y d e Q Qm r d1 d2 m k => ?_
 split at m
 ·cases d1; cases d2
  exact ⟨_, _, rfl, rfl, k _ _ _ _ m (Same.refl _) r (hg _ _ _)⟩
 ·exact m.elim
theorem vt_i {C : Int → Int → Prop} {gv : Int → Int → V} {g : Int → Int → D} (hg : ∀ G i j, Dt G (gv i j) (g i j)) (ha : VT P0 ta ma) (hb : VT P0 tb mb) : VT P0 (tOp (rI C gv) ta tb) (mI C g ma mb) := by
 refine vt_2 (m2 := fun x y Q => match x, y with | .int i, .int j => C i j ∧ Q (g i j) | _, _ => False) ha hb fun F Γ σ G H x y d e Q Qm r d1 d2 m k => ?_
 split at m
 ·cases d1; cases d2
  exact ⟨_, _, rfl, rfl, m.1, k _ _ _ _ m.2 (Same.refl _) r (hg _ _ _)⟩
 ·exact m.elim
theorem vt_u {gv : Int → V} {g : Int → D} (hg : ∀ G i, Dt G (gv i) (g i)) (ha : VT P0 ta ma) : VT P0 (tUn (rU gv) ta) (mU g ma) := by
 intro F Γ σ G H Q Qm r m k
 refine ha F Γ σ G H _ _ r m fun d Γ1 x G1 H1 m1 s1 r1 d1 => ?_
 split at m1
 ·cases d1
  exact ⟨_, rfl, k _ _ _ _ _ m1 s1 r1 (hg _ _)⟩
 ·exact m1.elim
theorem vt_eq (ha : VT P0 ta ma) (hb : VT P0 tb mb) : VT P0 (tOp rEqD ta tb) (mEq ma mb) := by
 refine vt_2 (m2 := fun x y Q => Good x ∧ Good y ∧ Q (.bool (PyData.eqv x y))) ha hb fun F Γ σ G H x y d e Q Qm r d1 d2 m k => ?_
 exact ⟨d, e, Dt.same r.fr.sub _ _ d1, Dt.same r.fr.sub _ _ d2, m.1, m.2.1, k _ _ _ _ m.2.2 (Same.refl _) r (.bl _)⟩
theorem vt_ne (ha : VT P0 ta ma) (hb : VT P0 tb mb) : VT P0 (tOp rNeD ta tb) (mNe ma mb) := by
 refine vt_2 (m2 := fun x y Q => Good x ∧ Good y ∧ Q (.bool (!PyData.eqv x y))) ha hb fun F Γ σ G H x y d e Q Qm r d1 d2 m k => ?_
 exact ⟨d, e, Dt.same r.fr.sub _ _ d1, Dt.same r.fr.sub _ _ d2, m.1, m.2.1, k _ _ _ _ m.2.2 (Same.refl _) r (.bl _)⟩
theorem isN_of {G : Hp} {x : V} {d : D} (h : Dt G x d) : decide (x = V.non) = isN d := by
 cases h <;> first | rfl | exact decide_eq_false (by intro z; cases z)
theorem vt_isN (ha : VT P0 ta ma) : VT P0 (tOp (fun x y H Q => y = .non ∧ Q (.bl (decide (x = .non))) H) ta (tC .non)) (mIsN ma) := by
 intro F Γ σ G H Q Qm r m k
 refine ha F Γ σ G H _ _ r m fun d Γ1 x G1 H1 m1 s1 r1 d1 => ⟨rfl, ?_⟩
 rw [isN_of d1]
 exact k _ _ _ _ _ m1 s1 r1 (.bl _)
theorem vt_notN (ha : VT P0 ta ma) : VT P0 (tOp (fun x y H Q => y = .non ∧ Q (.bl (!decide (x = .non))) H) ta (tC .non)) (mNotN ma) := by
 intro F Γ σ G H Q Qm r m k
 refine ha F Γ σ G H _ _ r m fun d Γ1 x G1 H1 m1 s1 r1 d1 => ⟨rfl, ?_⟩
 rw [isN_of d1]
 exact k _ _ _ _ _ m1 s1 r1 (.bl _)
theorem vt_and (ha : VT P0 ta ma) (hb : VT P0 tb mb) : VT P0 (tAndV ta tb) (mAndV ma mb) := by
 intro F Γ σ G H Q Qm r m k
 refine ha F Γ σ G H _ _ r m fun d Γ1 x G1 H1 m1 s1 r1 d1 => ?_
 split at m1
 ·rename_i c
  cases d1
  refine ⟨c, rfl, ?_⟩
  cases c with
  | true => exact iteT (hb F Γ1 σ G1 H1 _ _ r1 m1 fun e Γ2 y G2 H2 m2 s2 r2 d2 => k _ _ _ _ _ m2 (s1.trans s2) r2 d2)
  | false => exact iteF (k _ _ _ _ _ m1 s1 r1 (.bl _))
 ·exact m1.elim
theorem vt_or (ha : VT P0 ta ma) (hb : VT P0 tb mb) : VT P0 (tOrV ta tb) (mOrV ma mb) := by
 intro F Γ σ G H Q Qm r m k
 refine ha F Γ σ G H _ _ r m fun d Γ1 x G1 H1 m1 s1 r1 d1 => ?_
 split at m1
 ·rename_i c
  cases d1
  refine ⟨c, rfl, ?_⟩
  cases c with
  | true => exact iteT (k _ _ _ _ _ m1 s1 r1 (.bl _))
  | false => exact iteF (hb F Γ1 σ G1 H1 _ _ r1 m1 fun e Γ2 y G2 H2 m2 s2 r2 d2 => k _ _ _ _ _ m2 (s1.trans s2) r2 d2)
 ·exact m1.elim
theorem vtt_val (ha : VT P0 ta ma) : VTT P0 (tTest ta) (mTst ma) := by
 intro F Γ σ G H Q Qm r m k
 refine ha F Γ σ G H _ _ r m fun d Γ1 x G1 H1 m1 s1 r1 d1 => ?_
 split at m1
 ·cases d1
  exact ⟨_, rfl, k _ _ _ _ m1 s1 r1⟩
 ·exact m1.elim
theorem vtt_b (ha : VT P0 ta ma) : VTT P0 (tB ta) (mTst ma) := vtt_val ha
theorem vtt_or (ha : VTT P0 tA mA) (hb : VTT P0 tB' mB) : VTT P0 (tOr tA tB') (mOr mA mB) := by
 intro F Γ σ G H Q Qm r m k
 refine ha F Γ σ G H _ _ r m fun c Γ1 G1 H1 m1 s1 r1 => ?_
 cases c with
 | true => exact iteT (k _ _ _ _ m1 s1 r1)
 | false => exact iteF (hb F Γ1 σ G1 H1 _ _ r1 m1 fun e Γ2 G2 H2 m2 s2 r2 => k _ _ _ _ m2 (s1.trans s2) r2)
theorem vtt_not (ha : VTT P0 tA mA) : VTT P0 (tNot tA) (mNot mA) := by
 intro F Γ σ G H Q Qm r m k
 exact ha F Γ σ G H _ _ r m fun c Γ1 G1 H1 m1 s1 r1 => k _ _ _ _ m1 s1 r1
theorem vd_nil : VD P0 tNil mNil := fun _ _ _ _ _ _ _ r m k => k _ _ _ _ _ m (Same.refl _) r .nil
theorem vd_cons {tr : TA} {mr : MD} (ha : VT P0 ta ma) (hr : VD P0 tr mr) : VD P0 (tCons ta tr) (mCons ma mr) := by
 intro F Γ σ G H Q Qm r m k
 refine ha F Γ σ G H _ _ r m fun d Γ1 x G1 H1 m1 s1 r1 d1 => ?_
 exact hr F Γ1 σ G1 H1 _ _ r1 m1 fun e Γ2 y G2 H2 m2 s2 r2 d2 => k _ _ _ _ _ m2 (s1.trans s2) r2 (.cons (Dt.same s2 _ _ d1) d2)
theorem ArgOk.same {F : Fra P0} {G G' : Hp} (g : Same G G') {r : V} : ∀ {s : Sl}, ArgOk F G r s → ArgOk F G' r s
 | .val _, h => Dt.same g _ _ h
 | .pen, h => h
 | .con _, h => h
 | .pub B, h => B.mono g h
 | .no, h => h.elim
 | .own _, h => h.elim
 | .box _, h => h.elim
theorem va_nil : VA P0 tNil aNil := fun _ _ _ _ _ _ _ r m k => k _ _ _ _ _ m (Same.refl _) r .nil
theorem va_val {tr : TA} {mr : MA} (ha : VT P0 ta ma) (hr : VA P0 tr mr) : VA P0 (tCons ta tr) (aVal ma mr) := by
 intro F Γ σ G H Q Qm r m k
 refine ha F Γ σ G H _ _ r m fun d Γ1 x G1 H1 m1 s1 r1 d1 => ?_
 exact hr F Γ1 σ G1 H1 _ _ r1 m1 fun e Γ2 y G2 H2 m2 s2 r2 d2 => k _ _ _ _ _ m2 (s1.trans s2) r2 (.cons (Dt.same s2 _ _ d1) d2)
theorem vt_tup {t : TA} {md : MD} (h : VD P0 t md) : VT P0 (tTup t) (mTup md) := by
 intro F Γ σ G H Q Qm r m k
 refine h F Γ σ G H _ _ r m fun ds Γ1 xs G1 H1 m1 s1 r1 d1 => ⟨small_le (by rw [d1.len]; exact m1.1), fun p hp => ?_⟩
 have g := same_new (r1.fr.gfresh hp) (.tup xs)
 exact k _ _ _ _ _ m1.2 (s1.trans g) (r1.new hp) (.tup upd_same (Dts.same g _ _ d1))
theorem SlF.det {F : Fra P0} {G H : Hp} {x : Option (Option V)} {fp fp' : List Addr} : ∀ {s : Sl}, SlF F G H x fp s → SlF F G H x fp' s → fp = fp'
 | .no, h, g => (show fp = [] from h).trans (show fp' = [] from g).symm
 | .val _, h, g => h.1.trans g.1.symm
 | .pen, h, g => h.1.trans g.1.symm
 | .con _, h, g => h.1.trans g.1.symm
 | .pub _, h, g => h.1.trans g.1.symm
 | .own _, h, g => by
  obtain ⟨p, vs, e, e1, _⟩ := h
  obtain ⟨q, ws, f, f1, _⟩ := g
  rw [e1] at f1; cases f1
  rw [e, f]
 | .box B, h, g => by
  obtain ⟨v, e1, e2, _⟩ := h
  obtain ⟨v', f1, f2, _⟩ := g
  rw [e1] at f1; cases f1
  exact B.uniq e2 f2
theorem R.before {F : Fra P0} {Γ : En} {σ : St} {G H G' H' : Hp} (r : R F Γ σ G H) (g : Same G G') (k : ∀ b o, F.H0 b = none → G b = none → H b = some o → G' b = none ∧ H' b = some o) {i : Nat} {s : Sl} {fp : List Addr} (e : Γ[i]? = some s) (h : SlF F G' H' σ[i]? fp s) : ∀ b ∈ fp, ∃ o, H b = some o := by
 obtain ⟨fps, h1, h2⟩ := r.fps
 have h0 := h1 i s e
 have h3 : SlF F G' H' σ[i]? (fps i) s := h0.go g fun b hb => by
  obtain ⟨m1, m2, o, m3⟩ := h0.mine hb
  obtain ⟨k1, k2⟩ := k b o m1 m2 m3
  exact ⟨k1, k2.trans m3.symm⟩
 rw [h.det h3]
 exact fun b hb => (h0.mine hb).2.2
theorem Apart.new {F : Fra P0} {Γ : En} {σ : St} {G H G' H' : Hp} (r : R F Γ σ G H) {p : Addr} (hp : H p = none) {ds : List D} (g : Same G G') (k : ∀ b o, F.H0 b = none → G b = none → H b = some o → G' b = none ∧ H' b = some o) : Apart F Γ σ G' H' (.ref p) (.own ds) := by
 intro i s fp e h q eq hq
 cases eq
 obtain ⟨o, eo⟩ := r.before g k e h p hq
 rw [hp] at eo; cases eo
theorem Apart.newB {F : Fra P0} {Γ : En} {σ : St} {G H G' H' : Hp} (r : R F Γ σ G H) {v : V} {B : Bx} (hp : ∀ fp, B.P v fp G' H' → ∀ b ∈ fp, H b = none) (g : Same G G') (k : ∀ b o, F.H0 b = none → G b = none → H b = some o → G' b = none ∧ H' b = some o) : Apart F Γ σ G' H' v (.box B) := by
 intro i s fp f e h hf b hb hc
 obtain ⟨o, eo⟩ := r.before g k e h b hc
 rw [hp f hf b hb] at eo; cases eo
theorem own_new {F : Fra P0} {Γ : En} {σ : St} {G H : Hp} (r : R F Γ σ G H) {p : Addr} {xs : List V} {ds : List D} (hp : H p = none) (d : Dts G xs ds) :
  R F Γ σ G (upd H p (.lst xs)) ∧ RvO F G (upd H p (.lst xs)) (.ref p) (.own ds) ∧ Apart F Γ σ G (upd H p (.lst xs)) (.ref p) (.own ds) :=
 ⟨r.newP hp, ⟨p, xs, rfl, r.fr.fresh hp, r.fr.gfresh hp, upd_same, d⟩, Apart.new r hp (Same.refl _) fun b o _ g e => ⟨g, by rw [upd_ne (ne_of_none e hp)]; exact e⟩⟩
theorem vo_lst {t : TA} {md : MD} (h : VD P0 t md) : VO P0 (tLst t) (mLst md) := by
 intro F Γ σ G H Q Qm r m k
 refine h F Γ σ G H _ _ r m fun ds Γ1 xs G1 H1 m1 s1 r1 d1 => ⟨small_le (by rw [d1.len]; exact m1.1), fun p hp => ?_⟩
 obtain ⟨a, b, c⟩ := own_new r1 hp d1
 exact k _ _ _ _ _ m1.2 s1 a b c
theorem vt_pub {mo : MO} (h : VO P0 ta mo) : VT P0 ta (mPub mo) := by
 intro F Γ σ G H Q Qm r m k
 refine h F Γ σ G H _ _ r m fun rv Γ1 x G1 H1 m1 s1 r1 d1 a1 => ?_
 cases rv with
 | val d => exact k _ _ _ _ _ m1 s1 r1 d1
 | own ds =>
  obtain ⟨G2, s2, r2, d2⟩ := r1.give d1 a1
  exact k _ _ _ _ _ m1 (s1.trans s2) r2 d2
 | box B =>
  obtain ⟨hv, m1⟩ := m1
  obtain ⟨d, hd⟩ := Option.isSome_iff_exists.mp hv
  obtain ⟨G2, s2, r2, d2⟩ := r1.giveB d1 a1 hd
  have m1 : Qm (B.view.getD .none) Γ1 := m1
  rw [hd] at m1
  exact k _ _ _ _ _ m1 (s1.trans s2) r2 d2
theorem vo_val (h : VT P0 ta ma) : VO P0 ta (mVal ma) := by
 intro F Γ σ G H Q Qm r m k
 exact h F Γ σ G H _ _ r m fun d Γ1 x G1 H1 m1 s1 r1 d1 => k _ _ _ _ _ m1 s1 r1 d1 trivial
theorem R.apart {F : Fra P0} {Γ : En} {σ : St} {G H : Hp} (r : R F Γ σ G H) {i j : Nat} {s t : Sl} {fp fq : List Addr} (hij : i ≠ j) (ei : Γ[i]? = some s) (ej : Γ[j]? = some t) (hi : SlF F G H σ[i]? fp s) (hj : SlF F G H σ[j]? fq t) : ∀ b ∈ fp, b ∉ fq := by
 obtain ⟨fps, h1, h2⟩ := r.fps
 rw [hi.det (h1 i s ei), hj.det (h1 j t ej)]
 exact h2 i j s t ei ej hij
theorem vo_move {i : Nat} : VO P0 (tVar i) (mMove i) := by
 intro F Γ σ G H Q Qm r m k
 have other : ∀ {j : Nat} {s s0 : Sl} {fp fq : List Addr}, Γ[i]? = some s0 → SlF F G H σ[i]? fp s0 → (Γ.set i .no)[j]? = some s → SlF F G H σ[j]? fq s → ∀ b ∈ fp, b ∉ fq := by
  intro j s s0 fp fq e h ej hj b hb hc
  by_cases hij : i = j
  ·subst hij
   have hi : i < Γ.length := (List.getElem?_eq_some_iff.mp e).1
   rw [List.getElem?_set_self hi] at ej
   cases ej
   rw [show fq = [] from hj] at hc; cases hc
  ·rw [List.getElem?_set_ne hij] at ej
   exact r.apart hij e ej h hj b hb hc
 unfold mMove at m
 split at m
 ·rename_i d e
  obtain ⟨v, e1, d1⟩ := r.sl i _ e
  exact ⟨v, e1, k _ _ _ _ _ m (Same.refl _) r d1 trivial⟩
 ·rename_i ds e
  obtain ⟨p, vs, e1, e2⟩ := r.sl i _ e
  refine ⟨_, e1, k _ _ _ _ _ m (Same.refl _) (r.drop i) ⟨p, vs, rfl, e2⟩ fun j s fp ej hj q eq hq => ?_⟩
  cases eq
  exact other e (fp := [p]) ⟨p, vs, rfl, e1, e2⟩ ej hj p (List.mem_singleton.mpr rfl) hq
 ·rename_i B e
  obtain ⟨v, fp, e1, e2, e3⟩ := r.sl i _ e
  refine ⟨_, e1, k _ _ _ _ _ m (Same.refl _) (r.drop i) ⟨fp, e2, e3⟩ fun j s fq f ej hj hf b hb => ?_⟩
  rw [B.uniq hf e2] at hb
  exact other e (fp := fp) ⟨v, e1, e2, e3⟩ ej hj b hb
 ·exact m.elim
theorem vt_ix (ha : VT P0 ta ma) (hb : VT P0 tb mb) : VT P0 (tOp (rIx K) ta tb) (mIx ma mb) := by
 refine vt_2 (m2 := fun x y Q => oQ (ixD x y) Q) ha hb fun F Γ σ G H x y d e Q Qm r d1 d2 m k => ?_
 obtain ⟨u, hu, q⟩ := oQ_out m
 unfold ixD at hu
 split at hu
 ·rename_i ds i
  cases d2
  cases d1 with
  | @tup p xs _ hp rs =>
   obtain ⟨j, h1, h2⟩ : ∃ j, ixN ds.length i = some j ∧ ds[j]? = some u := by
    unfold atI at hu
    cases e : ixN ds.length i with
    | none => rw [e] at hu; cases hu
    | some j => rw [e] at hu; exact ⟨j, rfl, hu⟩
   obtain ⟨v, hv, dv⟩ := Dts.get rs h2
   refine .inr (.inl ⟨p, xs, i, v, rfl, rfl, SqT.of (r.fr.sub _ _ hp), ?_, k _ _ _ _ q (Same.refl _) r dv⟩)
   unfold atI
   rw [rs.len, h1]
   exact hv
 ·rename_i ds i
  cases d2
  cases d1 with
  | @lst p xs _ hp rs =>
   obtain ⟨j, h1, h2⟩ : ∃ j, ixN ds.length i = some j ∧ ds[j]? = some u := by
    unfold atI at hu
    cases e : ixN ds.length i with
    | none => rw [e] at hu; cases hu
    | some j => rw [e] at hu; exact ⟨j, rfl, hu⟩
   obtain ⟨v, hv, dv⟩ := Dts.get rs h2
   refine .inl ⟨p, xs, i, v, rfl, rfl, SqL.of (r.fr.sub _ _ hp), ?_, k _ _ _ _ q (Same.refl _) r dv⟩
   unfold atI
   rw [rs.len, h1]
   exact hv
 ·cases hu
theorem vt_cb1 {rr : List V → Hp → VK → Prop} {m1 : D → (D → Prop) → Prop} (ha : VT P0 ta ma)
  (h : ∀ (F : Fra P0) (Γ : En) (σ : St) (G H : Hp) (x : V) (d : D) (Q : VK) (Qm : D → Prop), R F Γ σ G H → Dt G x d → m1 d Qm → (∀ u r G' H', Qm u → Same G G' → R F Γ σ G' H' → Dt G' r u → Q r H') → rr [x] H Q) :
  VT P0 (tCB rr (tCons ta tNil)) (fun Γ Q => ma Γ fun x Γ1 => m1 x fun d => Q d Γ1) := by
 intro F Γ σ G H Q Qm r m k
 refine ha F Γ σ G H _ _ r m fun d Γ1 x G1 H1 m1 s1 r1 d1 => ?_
 exact h F Γ1 σ G1 H1 x d _ _ r1 d1 m1 fun u w G3 H3 q s3 r3 d3 => k _ _ _ _ _ q (s1.trans s3) r3 d3
theorem vt_len (ha : VT P0 ta ma) : VT P0 (tCB (fun xs H Q => ∃ p ys, xs = [.ref p] ∧ (SqL K H p ys ∨ SqT K H p ys) ∧ Q (.int ys.length) H) (tCons ta tNil)) (mLen ma) := by
 refine vt_cb1 (m1 := fun x Q => oQ (lenD x) Q) ha fun F Γ σ G H x d Q Qm r d1 m k => ?_
 obtain ⟨u, hu, q⟩ := oQ_out m
 unfold lenD at hu
 split at hu
 ·cases hu
  cases d1 with
  | @tup p xs _ hp rs => exact ⟨p, xs, rfl, .inr (SqT.of (r.fr.sub _ _ hp)), by rw [rs.len]; exact k _ _ _ _ q (Same.refl _) r (.int _)⟩
 ·cases hu
  cases d1 with
  | @lst p xs _ hp rs => exact ⟨p, xs, rfl, .inl (SqL.of (r.fr.sub _ _ hp)), by rw [rs.len]; exact k _ _ _ _ q (Same.refl _) r (.int _)⟩
 ·cases hu
noncomputable def mAbs (ma : ME) : ME := fun Γ Q => ma Γ fun x Γ1 => match x with
 | .int i => Q (.int (if i < 0 then -i else i)) Γ1
 | _ => False
theorem vt_abs (ha : VT P0 ta ma) : VT P0 (tCB (fun xs H Q => ∃ i, xs = [.int i] ∧ Q (.int (if i < 0 then -i else i)) H) (tCons ta tNil)) (mAbs ma) := by
 refine vt_cb1 (m1 := fun x Q => match x with | .int i => Q (.int (if i < 0 then -i else i)) | _ => False) ha fun F Γ σ G H x d Q Qm r d1 m k => ?_
 split at m
 ·cases d1
  exact ⟨_, rfl, k _ _ _ _ m (Same.refl _) r (.int _)⟩
 ·exact m.elim
noncomputable def mInt1 (ma : ME) : ME := fun Γ Q => ma Γ fun x Γ1 => match x with
 | .int i => Q (.int i) Γ1
 | .bool b => Q (.int (if b then 1 else 0)) Γ1
 | _ => False
theorem vt_int1 (ha : VT P0 ta ma) : VT P0 (tCB (fun xs H Q => (∃ i, xs = [.int i] ∧ Q (.int i) H) ∨ ∃ k, xs = [.bl k] ∧ Q (.int (if k then 1 else 0)) H) (tCons ta tNil)) (mInt1 ma) := by
 refine vt_cb1 (m1 := fun x Q => match x with | .int i => Q (.int i) | .bool b => Q (.int (if b then 1 else 0)) | _ => False) ha fun F Γ σ G H x d Q Qm r d1 m k => ?_
 split at m
 ·cases d1
  exact .inl ⟨_, rfl, k _ _ _ _ m (Same.refl _) r (.int _)⟩
 ·cases d1
  exact .inr ⟨_, rfl, k _ _ _ _ m (Same.refl _) r (.int _)⟩
 ·exact m.elim
noncomputable def m2I (g : Int → Int → Int) (ma mb : ME) : ME := fun Γ Q => ma Γ fun x Γ1 => mb Γ1 fun y Γ2 => match x, y with
 | .int i, .int j => Q (.int (g i j)) Γ2
 | _, _ => False
theorem vo_listOf (ha : VT P0 ta ma) : VO P0 (tCB (fun xs H Q => ∃ p ys, xs = [.ref p] ∧ (SqL K H p ys ∨ SqT K H p ys) ∧ ∀ l, H l = none → Q (.ref l) (upd H l (.lst ys))) (tCons ta tNil)) (mListOf ma) := by
 intro F Γ σ G H Q Qm r m k
 refine ha F Γ σ G H _ _ r m fun d Γ1 x G1 H1 m1 s1 r1 d1 => ?_
 split at m1
 ·rename_i ds e
  cases d1 <;> simp only [itemsD] at e <;> try (cases e)
  ·rename_i p xs hp rs
   refine ⟨p, xs, rfl, .inr (SqT.of (r1.fr.sub _ _ hp)), fun l hl => ?_⟩
   obtain ⟨a, b, c⟩ := own_new r1 hl rs
   exact k _ _ _ _ _ m1 s1 a b c
  ·rename_i p xs hp rs
   refine ⟨p, xs, rfl, .inl (SqL.of (r1.fr.sub _ _ hp)), fun l hl => ?_⟩
   obtain ⟨a, b, c⟩ := own_new r1 hl rs
   exact k _ _ _ _ _ m1 s1 a b c
 ·exact m1.elim
theorem vp_no : VP P0 tNoPart pNo := fun _ _ _ _ _ _ _ r m k => k _ _ _ _ m (Same.refl _) r
theorem vp_so (ha : VT P0 ta ma) : VP P0 (tPart ta) (pSo ma) := by
 intro F Γ σ G H Q Qm r m k
 refine ha F Γ σ G H _ _ r m fun d Γ1 x G1 H1 m1 s1 r1 d1 => ?_
 split at m1
 ·cases d1
  exact ⟨_, rfl, k _ _ _ _ m1 s1 r1⟩
 ·exact m1.elim
theorem _root_.L2.Dts.cut {G : Hp} {vs : List V} {ds : List D} (h : Dts G vs ds) (lo hi : Option Int) : Dts G (cutV vs lo hi) (cutD ds lo hi) := by
 unfold cutV cutD
 rw [h.len]
 exact Dts.tak _ (Dts.drp _ h)
theorem vo_slL {tl th : TO} {ml mh : MP} (ha : VT P0 ta ma) (hl : VP P0 tl ml) (hh : VP P0 th mh) : VO P0 (tSl (rSlL K) ta tl th) (mSlL ma ml mh) := by
 intro F Γ σ G H Q Qm r m k
 refine ha F Γ σ G H _ _ r m fun d Γ1 x G1 H1 m1 s1 r1 d1 => ?_
 refine hl F Γ1 σ G1 H1 _ _ r1 m1 fun lo Γ2 G2 H2 m2 s2 r2 => ?_
 refine hh F Γ2 σ G2 H2 _ _ r2 m2 fun hi Γ3 G3 H3 m3 s3 r3 => ?_
 split at m3
 ·have d1 := Dt.same (s2.trans s3) _ _ d1
  cases d1 with
  | @lst p xs _ hp rs =>
   refine ⟨p, xs, rfl, SqL.of (r3.fr.sub _ _ hp), fun l hl => ?_⟩
   obtain ⟨a, b, c⟩ := own_new r3 hl (rs.cut lo hi)
   exact k _ _ _ _ _ m3 ((s1.trans s2).trans s3) a b c
 ·exact m3.elim
noncomputable def spM (P0 : Addr → Hp → Prop) (n : Nat) (f : Fm) : Sp := fun vs H Q _ => ∃ (F : Fra P0) (as : List Sl) (Qm : Rv → Prop), F.H0 = H ∧ Rf F F.G0 H ∧ Paired (ArgOk F F.G0) vs as ∧ as.length = n ∧ f as Qm ∧
 ∀ rv r G' H', Qm rv → Rf F G' H' → RvO F G' H' r rv → Q r H'
noncomputable def Fra.sub (F : Fra P0) {G H : Hp} (r : Rf F G H) : Fra P0 where
 H0 := H
 G0 := G
 pen := F.pen
 stab := fun p e H1 H2 h => F.stab p e H1 H2 fun b o e => let ⟨o', e'⟩ := r.dom e; h b o' e'
 pin := F.pin
 pin0 := fun p e => F.pin p e H (r.pn p e)
 pg := fun p e => by
  obtain ⟨o, e0⟩ := F.pin0 p e
  rw [r.g0 p o e0]
  exact F.pg p e
theorem Fra.subRf (F : Fra P0) {G H : Hp} (r : Rf F G H) : Rf (F.sub r) G H := ⟨r.sub, fun _ _ _ => rfl, fun _ _ e _ => e, r.pn⟩
theorem Rf.back {F : Fra P0} {G H G' H' : Hp} (r : Rf F G H) (h : Rf (F.sub r) G' H') : Rf F G' H' ∧ Same G G' := by
 refine ⟨⟨h.sub, fun b o e => ?_, fun b o e hb => ?_, h.pn⟩, fun b o e => ?_⟩
 ·obtain ⟨o', e'⟩ := r.dom e
  exact (h.g0 b o' e').trans (r.g0 b o e)
 ·exact h.h0 b o (r.h0 b o e hb) hb
 ·exact (h.g0 b o (r.sub b o e)).trans e
theorem Fra.pen_ne (F : Fra P0) {p : Addr} (h : F.H0 p = none) : F.pen ≠ some p := fun e => by
 obtain ⟨o, e0⟩ := F.pin0 p e
 rw [h] at e0; cases e0
theorem R.after {F : Fra P0} {Γ : En} {σ : St} {G H G' H' : Hp} (r : R F Γ σ G H) (h : Rf (F.sub r.fr) G' H') : R F Γ σ G' H' ∧ Same G G' := by
 obtain ⟨a, b⟩ := r.fr.back h
 refine ⟨r.keep a b fun p u _ e1 e2 e3 => ⟨(h.g0 p _ e3).trans e2, h.h0 p _ e3 (F.pen_ne e1)⟩, b⟩
theorem vo_call {n : Nat} {f : Fm} {t : TA} {m : MA} {E : XK} (h : VA P0 t m) : VO P0 (tCall (spM P0 n f) [] E t) (mCall n f m) := by
 intro F Γ σ G H Q Qm r hm k
 refine h F Γ σ G H _ _ r hm fun as Γ1 rs G1 H1 m1 s1 r1 d1 => ?_
 refine ⟨F.sub r1.fr, as, fun rv => Qm rv Γ1, rfl, F.subRf r1.fr, ?_, m1.1, m1.2, fun rv v G2 H2 q f2 v2 => ?_⟩
 ·rw [List.append_nil]
  exact Paired.imp' (fun a s h => by cases s <;> exact h) d1
 ·obtain ⟨r2, s2⟩ := r1.after f2
  refine k _ _ _ _ _ q (s1.trans s2) r2 ?_ ?_
  ·cases rv with
   | val d => exact v2
   | own ds =>
    obtain ⟨p, vs, e, e1, e2, e3, e4⟩ := v2
    exact ⟨p, vs, e, r1.fr.fresh e1, e2, e3, e4⟩
   | box B =>
    obtain ⟨fp, e1, e2⟩ := v2
    exact ⟨fp, e1, fun b hb => ⟨r1.fr.fresh (e2 b hb).1, (e2 b hb).2⟩⟩
  ·have kp : ∀ b o, F.H0 b = none → G1 b = none → H1 b = some o → G2 b = none ∧ H2 b = some o := fun b o h1 h2 h3 => ⟨(f2.g0 b _ h3).trans h2, f2.h0 b _ h3 (F.pen_ne h1)⟩
   cases rv with
   | val d => trivial
   | own ds =>
    obtain ⟨p, vs, rfl, e1, e2, e3, e4⟩ := v2
    exact Apart.new r1 e1 s2 kp
   | box B =>
    obtain ⟨fp, e1, e2⟩ := v2
    exact Apart.newB r1 (fun f hf b hb => by rw [B.uniq hf e1] at hb; exact (e2 b hb).1) s2 kp
end
end L2.VS
namespace L2.VS
open PySem PySem.Spec PyProof.Rows
variable {P0 : Addr → Hp → Prop} {A : Nat → Bool}
noncomputable def gN (i : Nat) : MG := fun d Γ Q => Q (Γ.set i (.val d))
noncomputable def gsNil : MGs := fun ds Γ Q => match ds with
 | [] => Q Γ
 | _ => False
noncomputable def gsCons (g : MG) (gs : MGs) : MGs := fun ds Γ Q => match ds with
 | d :: r => g d Γ fun Γ1 => gs r Γ1 Q
 | [] => False
noncomputable def gT (n : Nat) (gs : MGs) : MG := fun d Γ Q => match d with
 | .tuple ds => ds.length = n ∧ gs ds Γ Q
 | _ => False
theorem set_off {i : Nat} {v : Option V} {σ : St} (hA : A i = true) : ∀ j, A j = false → (σ.set i v)[j]? = σ[j]? := fun j hj => List.getElem?_set_ne (fun z => by rw [z, hj] at hA; cases hA)
theorem vg_name {i : Nat} (hA : A i = true := by rfl) : VG P0 A (gName i) (gN i) := fun _ _ _ _ _ _ _ _ _ r h m k => k _ _ m (r.setV h) (set_off hA)
noncomputable def Walk (P0 : Addr → Hp → Prop) (J : It) (G0 : Hp) (ds : List D) : Prop := ∀ (F : Fra P0) (Γ : En) (σ : St) (G H : Hp), Same G0 G → R F Γ σ G H →
 (∀ i d, ds[i]? = some d → J.go i H ∧ ∀ x H', J.yld i H x H' → ∃ G', Same G G' ∧ R F Γ σ G' H' ∧ Dt G' x d) ∧ J.stop ds.length H
noncomputable def VI (P0 : Addr → Hp → Prop) (wi : TI) (m : MD) : Prop := ∀ (F : Fra P0) (Γ : En) (σ : St) (G H : Hp) (Q : It → Hp → Prop) (Qm : List D → En → Prop), R F Γ σ G H → m Γ Qm →
 (∀ ds Γ' J G' H', Qm ds Γ' → Same G G' → R F Γ' σ G' H' → Walk P0 J G' ds → Q J H') → wi σ H Q
noncomputable def mItL (ma : ME) : MD := fun Γ Q => ma Γ fun x Γ1 => match x with
 | .list ds => Q ds Γ1
 | _ => False
noncomputable def mItT (ma : ME) : MD := fun Γ Q => ma Γ fun x Γ1 => match x with
 | .tuple ds => Q ds Γ1
 | _ => False
noncomputable def rangeD (lo : Int) (n : Nat) : List D := (List.range n).map fun (k : Nat) => PyData.int (lo + k)
noncomputable def mRng1 (md : MD) : MD := fun Γ Q => md Γ fun ds Γ1 => match ds with
 | [.int j] => -(2 ^ 62) ≤ j ∧ j < 2 ^ 62 ∧ Q (rangeD 0 j.toNat) Γ1
 | _ => False
noncomputable def mRng2 (md : MD) : MD := fun Γ Q => md Γ fun ds Γ1 => match ds with
 | [.int i, .int j] => (-(2 ^ 62) ≤ i ∧ i < 2 ^ 62 ∧ -(2 ^ 62) ≤ j ∧ j < 2 ^ 62) ∧ Q (rangeD i (j - i).toNat) Γ1
 | _ => False
theorem vi_list {K : PySem.W.Frag} {ta : TE} {ma : ME} (ha : VT P0 ta ma) : VI P0 (iList K ta) (mItL ma) := by
 intro F Γ σ G H Q Qm r m k
 refine ha F Γ σ G H _ _ r m fun d Γ1 x G1 H1 m1 s1 r1 d1 => ?_
 split at m1
 ·cases d1 with
  | @lst p xs ds hp rs =>
   refine ⟨p, rfl, ⟨xs, SqL.of (r1.fr.sub _ _ hp)⟩, k _ _ _ _ _ m1 s1 r1 fun F2 Γ2 σ2 G2 H2 s2 r2 => ⟨fun i d e => ?_, ?_⟩⟩
   ·have hq : H2 p = some (.lst xs) := r2.fr.sub _ _ (s2 _ _ hp)
    obtain ⟨v, ev, dv⟩ := Dts.get rs e
    refine ⟨⟨xs, v, SqL.of hq, ev⟩, fun y H3 hy => ⟨G2, Same.refl _, ?_⟩⟩
    obtain ⟨rfl, hy⟩ := hy
    have := hy xs (SqL.of hq)
    rw [ev] at this
    cases this
    exact ⟨r2, Dt.same s2 _ _ dv⟩
   ·exact ⟨xs, SqL.of (r2.fr.sub _ _ (s2 _ _ hp)), by rw [rs.len]; exact Nat.le_refl _⟩
 ·exact m1.elim
theorem walk_range {G : Hp} (lo : Int) (n : Nat) : Walk P0 (Itr lo n) G (rangeD lo n) := by
 intro F Γ σ G2 H2 _ r
 have hl : (rangeD lo n).length = n := by simp [rangeD]
 refine ⟨fun i d e => ?_, by rw [hl]; exact Nat.le_refl _⟩
 have hi : i < n := by have := (List.getElem?_eq_some_iff.mp e).1; omega
 refine ⟨hi, fun x H' hy => ?_⟩
 obtain ⟨rfl, rfl⟩ := hy
 refine ⟨G2, Same.refl _, r, ?_⟩
 unfold rangeD at e
 rw [List.getElem?_map, List.getElem?_range hi] at e
 cases e
 exact .int _
theorem vi_rng1 {t : TA} {md : MD} (h : VD P0 t md) : VI P0 (iRng1 t) (mRng1 md) := by
 intro F Γ σ G H Q Qm r m k
 refine h F Γ σ G H _ _ r m fun ds Γ1 xs G1 H1 m1 s1 r1 d1 => ?_
 split at m1
 ·rename_i j
  cases d1 with
  | cons a b =>
   cases a; cases b
   exact ⟨j, rfl, m1.1, m1.2.1, k _ _ _ _ _ m1.2.2 s1 r1 (walk_range _ _)⟩
 ·exact m1.elim
theorem vi_rng2 {t : TA} {md : MD} (h : VD P0 t md) : VI P0 (iRng2 t) (mRng2 md) := by
 intro F Γ σ G H Q Qm r m k
 refine h F Γ σ G H _ _ r m fun ds Γ1 xs G1 H1 m1 s1 r1 d1 => ?_
 split at m1
 ·rename_i i j
  cases d1 with
  | cons a b =>
   cases a
   cases b with
   | cons b c =>
    cases b; cases c
    exact ⟨i, j, rfl, m1.1, k _ _ _ _ _ m1.2 s1 r1 (walk_range _ _)⟩
 ·exact m1.elim
noncomputable def mNx : MS := fun Γ Q => Q (.nx Γ)
noncomputable def mSeq (a b : MS) : MS := fun Γ Q => a Γ fun fl => match fl with
 | .nx Γ1 => b Γ1 Q
 | fl => Q fl
noncomputable def mDrop (m : ME) : MS := fun Γ Q => m Γ fun _ Γ1 => Q (.nx Γ1)
noncomputable def mSet (i : Nat) (m : MO) : MS := fun Γ Q => m Γ fun rv Γ1 => Q (.nx (Γ1.set i rv.sl))
noncomputable def mAsg (m : ME) (g : MG) : MS := fun Γ Q => m Γ fun d Γ1 => g d Γ1 fun Γ2 => Q (.nx Γ2)
noncomputable def mPar (i j : Nat) (m : MD) : MS := fun Γ Q => m Γ fun ds Γ1 => match ds with
 | [d, e] => Q (.nx ((Γ1.set i (.val d)).set j (.val e)))
 | _ => False
noncomputable def mRet (m : MO) : MS := fun Γ Q => m Γ fun rv _ => Q (.rt rv)
noncomputable def mRetN : MS := fun _ Q => Q (.rt (.val .none))
noncomputable def mIf (c : MT) (a b : MS) : MS := fun Γ Q => c Γ fun k Γ1 => if k = true then a Γ1 Q else b Γ1 Q
noncomputable def forL (g : MG) (b : MS) : List D → En → (Fl → Prop) → Prop
 | [], Γ, Q => Q (.nx Γ)
 | d :: ds, Γ, Q => g d Γ fun Γ1 => b Γ1 fun fl => match fl with
  | .nx Γ2 => forL g b ds Γ2 Q
  | .ct Γ2 => forL g b ds Γ2 Q
  | .bk Γ2 => Q (.nx Γ2)
  | .rt rv => Q (.rt rv)
noncomputable def mFor (mi : MD) (g : MG) (b : MS) : MS := fun Γ Q => mi Γ fun ds Γ1 => forL g b ds Γ1 Q
noncomputable def mWhile (c : MT) (b : MS) : MS := fun Γ Q => ∃ W : Nat → En → Prop, (∃ n, W n Γ) ∧ ∀ n Γ, W n Γ → c Γ fun k Γ1 => if k = true then b Γ1 fun fl => match fl with
  | .nx Γ2 => ∃ n', n' < n ∧ W n' Γ2
  | .ct Γ2 => ∃ n', n' < n ∧ W n' Γ2
  | .bk Γ2 => Q (.nx Γ2)
  | .rt rv => Q (.rt rv)
 else Q (.nx Γ1)
noncomputable def mAppend (i : Nat) (m : ME) : MS := fun Γ Q => match Γ[i]? with
 | some (.own _) => m Γ fun d Γ1 => match Γ1[i]? with
  | some (.own ds) => ds.length < 1000 ∧ Q (.nx (Γ1.set i (.own (ds ++ [d]))))
  | _ => False
 | _ => False
noncomputable def mClear (i : Nat) : MS := fun Γ Q => match Γ[i]? with
 | some (.own _) => Q (.nx (Γ.set i (.own [])))
 | _ => False
noncomputable def mPubS (i : Nat) (m : MS) : MS := fun Γ Q => match Γ[i]? with
 | some (.own ds) => m (Γ.set i (.val (.list ds))) Q
 | _ => m Γ Q
theorem vs_nx : VSA P0 A tNext mNx := fun _ _ _ _ _ _ _ r m k => k _ m _ _ _ (Same.refl _) r fun _ _ => rfl
theorem vs_seq {t u : TS} {a b : MS} (ha : VSA P0 A t a) (hb : VSA P0 A u b) : VSA P0 A (tSeq t u) (mSeq a b) := by
 intro F Γ σ G H E Qm r m k
 refine ha F Γ σ G H _ _ r m fun fl q => ?_
 cases fl with
 | nx Γ1 => exact fun σ1 G1 H1 s1 r1 e1 => hb F Γ1 σ1 G1 H1 E Qm r1 q fun fl q => (k fl q).same s1 e1
 | rt rv => exact k _ q
 | bk Γ1 => exact k _ q
 | ct Γ1 => exact k _ q
theorem vs_drop {t : TE} {m : ME} (h : VT P0 t m) : VSA P0 A (tDrop t) (mDrop m) := by
 intro F Γ σ G H E Qm r hm k
 exact h F Γ σ G H _ _ r hm fun d Γ1 x G1 H1 m1 s1 r1 d1 => k _ m1 _ _ _ s1 r1 fun _ _ => rfl
theorem vs_set {i : Nat} {t : TE} {m : MO} (h : VO P0 t m) (hA : A i = true := by rfl) : VSA P0 A (tAsg t (gName i)) (mSet i m) := by
 intro F Γ σ G H E Qm r hm k
 exact h F Γ σ G H _ _ r hm fun rv Γ1 x G1 H1 m1 s1 r1 d1 a1 => k _ m1 _ _ _ s1 (r1.set d1 a1) (set_off hA)
theorem vs_par {i j : Nat} {t : TA} {m : MD} (h : VD P0 t m) (hA : A i = true := by rfl) (hB : A j = true := by rfl) : VSA P0 A (tPar i j t) (mPar i j m) := by
 intro F Γ σ G H E Qm r hm k
 refine h F Γ σ G H _ _ r hm fun ds Γ1 x G1 H1 m1 s1 r1 d1 => ?_
 split at m1
 ·cases d1 with
  | cons a b =>
   cases b with
   | cons b c =>
    cases c
    exact ⟨_, _, rfl, k _ m1 _ _ _ s1 ((r1.setV a).setV b) fun q hq => (set_off hB q hq).trans (set_off hA q hq)⟩
 ·exact m1.elim
theorem vs_ret {t : TE} {m : MO} (h : VO P0 t m) : VSA P0 A (tRet t) (mRet m) := by
 intro F Γ σ G H E Qm r hm k
 exact h F Γ σ G H _ _ r hm fun rv Γ1 x G1 H1 m1 s1 r1 d1 _ => k _ m1 _ _ _ s1 r1.fr d1
theorem vs_if {c : TT} {t u : TS} {mc : MT} {a b : MS} (hc : VTT P0 c mc) (ha : VSA P0 A t a) (hb : VSA P0 A u b) : VSA P0 A (tIfS c t u) (mIf mc a b) := by
 intro F Γ σ G H E Qm r m k
 refine hc F Γ σ G H _ _ r m fun k1 Γ1 G1 H1 m1 s1 r1 => ?_
 cases k1 with
 | true => exact iteT (ha F Γ1 σ G1 H1 E Qm r1 m1 fun fl q => (k fl q).same s1 fun _ _ => rfl)
 | false => exact iteF (hb F Γ1 σ G1 H1 E Qm r1 m1 fun fl q => (k fl q).same s1 fun _ _ => rfl)
theorem vs_while {c : TT} {t : TS} {mc : MT} {b : MS} (hc : VTT P0 c mc) (hb : VSA P0 A t b) : VSA P0 A (tWhile c t) (mWhile mc b) := by
 intro F Γ σ G H E Qm r m k
 obtain ⟨W, ⟨n0, w0⟩, turn⟩ := m
 refine ⟨fun n σ1 H1 => ∃ Γ1 G1, Same G G1 ∧ R F Γ1 σ1 G1 H1 ∧ W n Γ1 ∧ ∀ i, A i = false → σ1[i]? = σ[i]?, ⟨n0, Γ, G, Same.refl _, r, w0, fun _ _ => rfl⟩, ?_⟩
 rintro n σ1 H1 ⟨Γ1, G1, s1, r1, w1, e1⟩
 refine hc F Γ1 σ1 G1 H1 _ _ r1 (turn n Γ1 w1) fun k2 Γ2 G2 H2 m2 s2 r2 => ?_
 cases k2 with
 | true =>
  refine iteT ⟨_, fun _ _ h => h, ?_⟩
  refine hb F Γ2 σ1 G2 H2 _ _ r2 m2 fun fl q => ?_
  cases fl with
  | nx Γ3 =>
   obtain ⟨n', hn, w3⟩ := q
   exact fun σ3 G3 H3 s3 r3 e3 => ⟨n', hn, Γ3, G3, (s1.trans s2).trans s3, r3, w3, fun i hi => (e3 i hi).trans (e1 i hi)⟩
  | ct Γ3 =>
   obtain ⟨n', hn, w3⟩ := q
   exact fun σ3 G3 H3 s3 r3 e3 => ⟨n', hn, Γ3, G3, (s1.trans s2).trans s3, r3, w3, fun i hi => (e3 i hi).trans (e1 i hi)⟩
  | bk Γ3 => exact fun σ3 G3 H3 s3 r3 e3 => k _ q _ _ _ ((s1.trans s2).trans s3) r3 fun i hi => (e3 i hi).trans (e1 i hi)
  | rt rv => exact fun v G3 H3 s3 r3 => k _ q _ _ _ ((s1.trans s2).trans s3) r3
 | false => exact iteF (k _ m2 _ _ _ (s1.trans s2) r2 e1)
theorem vs_for {wi : TI} {g : TG} {t : TS} {mi : MD} {mg : MG} {b : MS} (hi : VI P0 wi mi) (hg : VG P0 A g mg) (hb : VSA P0 A t b) : VSA P0 A (tFor wi g t) (mFor mi mg b) := by
 intro F Γ σ G H E Qm r m k
 refine hi F Γ σ G H _ _ r m fun ds Γ1 J G1 H1 m1 s1 r1 wk => ?_
 refine ⟨fun i n σ2 H2 => n = ds.length - i ∧ i ≤ ds.length ∧ ∃ Γ2 G2, Same G1 G2 ∧ R F Γ2 σ2 G2 H2 ∧ forL mg b (ds.drop i) Γ2 Qm ∧ ∀ i, A i = false → σ2[i]? = σ[i]?, ⟨ds.length, by simp, Nat.zero_le _, Γ1, G1, Same.refl _, r1, m1, fun _ _ => rfl⟩, ?_⟩
 rintro i n σ2 H2 ⟨rfl, hle, Γ2, G2, s2, r2, m2, e2⟩
 obtain ⟨go, stop⟩ := wk F Γ2 σ2 G2 H2 s2 r2
 by_cases hlt : i < ds.length
 ·refine .inr ⟨(go i ds[i] (by simp [hlt])).1, fun σ' H' => ds.length - (i + 1) < ds.length - i ∧ i + 1 ≤ ds.length ∧ ∃ Γ3 G3, Same G1 G3 ∧ R F Γ3 σ' G3 H' ∧ forL mg b (ds.drop (i + 1)) Γ3 Qm ∧ ∀ i, A i = false → σ'[i]? = σ[i]?, fun σ' H' h => ⟨_, h.1, rfl, h.2⟩, fun x H' hy => ?_⟩
  obtain ⟨G3, s3, r3, d3⟩ := (go i ds[i] (by simp [hlt])).2 x H' hy
  rw [List.drop_eq_getElem_cons hlt] at m2
  refine hg F Γ2 σ2 G3 H' x _ _ _ r3 d3 m2 fun Γ4 σ4 m4 r4 e4 => ?_
  refine hb F Γ4 σ4 G3 H' _ _ r4 m4 fun fl q => ?_
  cases fl with
  | nx Γ5 => exact fun σ5 G5 H5 s5 r5 e5 => ⟨by omega, hlt, Γ5, G5, (s2.trans s3).trans s5, r5, q, fun i hi => ((e5 i hi).trans (e4 i hi)).trans (e2 i hi)⟩
  | ct Γ5 => exact fun σ5 G5 H5 s5 r5 e5 => ⟨by omega, hlt, Γ5, G5, (s2.trans s3).trans s5, r5, q, fun i hi => ((e5 i hi).trans (e4 i hi)).trans (e2 i hi)⟩
  | bk Γ5 => exact fun σ5 G5 H5 s5 r5 e5 => k _ q _ _ _ ((s1.trans s2).trans (s3.trans s5)) r5 fun i hi => ((e5 i hi).trans (e4 i hi)).trans (e2 i hi)
  | rt rv => exact fun v G5 H5 s5 r5 => k _ q _ _ _ ((s1.trans s2).trans (s3.trans s5)) r5
 ·have e : i = ds.length := by omega
  subst e
  rw [List.drop_length] at m2
  exact .inl ⟨stop, k _ m2 _ _ _ (s1.trans s2) r2 e2⟩
theorem vs_append {K : PySem.W.Frag} {i : Nat} {t : TE} {m : ME} (h : VT P0 t m) : VSA P0 A (tDrop (tBM K "list" rAppend (tVar i) (tCons t tNil))) (mAppend i m) := by
 intro F Γ σ G H E Qm r hm k
 unfold mAppend at hm
 split at hm
 ·rename_i ds0 e0
  obtain ⟨p, vs, e1, e2, e3, e4, e5⟩ := r.sl i _ e0
  refine ⟨_, e1, .inl ⟨rfl, _, SqL.of e4⟩, ?_⟩
  refine h F Γ σ G H _ _ r hm fun d Γ1 x G1 H1 m1 s1 r1 d1 => ?_
  split at m1
  ·rename_i ds e
   obtain ⟨p', ws, f1, f2, f3, f4, f5⟩ := r1.sl i _ e
   rw [e1] at f1; cases f1
   refine ⟨p, ws, x, rfl, rfl, f4, small1000 (by rw [f5.len]; exact Nat.le_of_lt m1.1), ?_⟩
   exact k _ m1.2 _ _ _ s1 (r1.write e e1 (f5.app (.cons d1 .nil))) fun _ _ => rfl
  ·exact m1.elim
 ·exact hm.elim
theorem R.pub1 {F : Fra P0} {Γ : En} {σ : St} {G H : Hp} (r : R F Γ σ G H) {i : Nat} {ds : List D} (e : Γ[i]? = some (.own ds)) : ∃ G', Same G G' ∧ R F (Γ.set i (.val (.list ds))) σ G' H := by
 obtain ⟨p, vs, e1, e2, e3, e4, e5⟩ := r.sl i _ e
 have hap : Apart F (Γ.set i .no) σ G H (.ref p) (.own ds) := fun j s fp ej hj q eq hq => by
  cases eq
  by_cases hji : i = j
  ·subst hji
   have hi : i < Γ.length := (List.getElem?_eq_some_iff.mp e).1
   rw [List.getElem?_set_self hi] at ej
   cases ej
   rw [show fp = [] from hj] at hq; cases hq
  ·rw [List.getElem?_set_ne hji] at ej
   exact r.apart hji e ej (fp := [p]) ⟨p, vs, rfl, e1, e2, e3, e4, e5⟩ hj p (List.mem_singleton.mpr rfl) hq
 obtain ⟨G', s, r', d'⟩ := (r.drop i).give (ds := ds) ⟨p, vs, rfl, e2, e3, e4, e5⟩ hap
 refine ⟨G', s, ?_⟩
 have q := r'.setV (i := i) d'
 rw [List.set_set] at q
 have hs : σ.set i (some (.ref p)) = σ := by
  apply List.ext_getElem?
  intro j
  by_cases hj : i = j
  ·subst hj
   have hi : i < σ.length := (List.getElem?_eq_some_iff.mp e1).1
   rw [List.getElem?_set_self hi, e1]
  ·rw [List.getElem?_set_ne hj]
 rw [hs] at q
 exact q
theorem vs_pub {i : Nat} {t : TS} {m : MS} (h : VSA P0 A t m) : VSA P0 A t (mPubS i m) := by
 intro F Γ σ G H E Qm r hm k
 unfold mPubS at hm
 split at hm
 ·rename_i ds e
  obtain ⟨G', s, r'⟩ := r.pub1 e
  exact h F _ σ G' H E Qm r' hm fun fl q => (k fl q).same s fun _ _ => rfl
 ·exact h F Γ σ G H E Qm r hm k
noncomputable def mFn (n : Nat) (b : MS) : Fm := fun as Q => b (as ++ List.replicate n .no) fun fl => match fl with
 | .rt rv => Q rv
 | .nx _ => Q (.val .none)
 | _ => False
theorem fn_start {n k : Nat} {N : List Str} {t : TS} {b : MS} (h : VS P0 t b) (hN : N.length = n + k) {vs : List V} {H : Hp} {Q : VK} {E : XK} (hs : spM P0 n (mFn k b) vs H Q E) :
  t { nx := fun _ H' => Q .non H', rt := Q } (start N vs) H := by
 obtain ⟨F, as, Qm, rfl, rf, pr, hl, hm, q⟩ := hs
 have hlen : vs.length = as.length := Paired.length pr
 have get : ∀ {vs : List V} {as : List Sl} {i : Nat} {s : Sl}, Paired (ArgOk F F.G0) vs as → as[i]? = some s → ∃ v, vs[i]? = some v ∧ ArgOk F F.G0 v s := by
  intro vs as i s pr
  induction pr generalizing i with
  | nil => intro e; simp at e
  | cons a b ih =>
   cases i with
   | zero => intro e; simp at e; subst e; exact ⟨_, rfl, a⟩
   | succ i => intro e; simpa using ih (i := i) (by simpa using e)
 have at_ : ∀ {i : Nat} {s : Sl}, (as ++ List.replicate k Sl.no)[i]? = some s → s ≠ .no → ∃ v, (start N vs)[i]? = some (some v) ∧ ArgOk F F.G0 v s := by
  intro i s e hne
  by_cases hi : i < as.length
  ·rw [List.getElem?_append_left hi] at e
   obtain ⟨v, ev, av⟩ := get pr e
   refine ⟨v, ?_, av⟩
   unfold start
   rw [List.getElem?_append_left (by rw [List.length_map]; omega), List.getElem?_map, ev]
   rfl
  ·rw [List.getElem?_append_right (by omega), List.getElem?_replicate] at e
   split at e
   ·cases e; exact absurd rfl hne
   ·cases e
 have r : R F (as ++ List.replicate k .no) (start N vs) F.G0 F.H0 := by
  refine R.of rf ?_ (fun i s e => ?_) (fun i B e => ?_) (fun i j x y _ e _ => ?_)
  ·unfold start
   simp only [List.length_append, List.length_replicate, List.length_map]
   omega
  ·cases s with
   | no => trivial
   | val d =>
    obtain ⟨v, ev, av⟩ := at_ e (by intro z; cases z)
    exact ⟨v, ev, av⟩
   | own ds =>
    obtain ⟨v, ev, av⟩ := at_ e (by intro z; cases z)
    exact av.elim
   | pen =>
    obtain ⟨v, ev, p, rfl, ep⟩ := at_ e (by intro z; cases z)
    exact ⟨p, ev, ep⟩
   | con q =>
    obtain ⟨v, ev, av⟩ := at_ e (by intro z; cases z)
    have av : v = .ref q := av
    rw [av] at ev
    exact ev
   | pub B =>
    obtain ⟨v, ev, av⟩ := at_ e (by intro z; cases z)
    exact ⟨v, ev, av⟩
   | box B =>
    obtain ⟨v, ev, av⟩ := at_ e (by intro z; cases z)
    exact av.elim
  ·obtain ⟨v, ev, av⟩ := at_ e (by intro z; cases z)
   exact av.elim
  ·obtain ⟨v, ev, av⟩ := at_ e (by intro z; cases z)
   exact av.elim
 refine h F _ _ _ _ _ _ r hm fun fl hq => ?_
 cases fl with
 | nx Γ => exact fun σ G' H' _ r' _ => q _ _ _ _ hq r'.fr .non
 | rt rv => exact fun v G' H' _ f' v' => q _ _ _ _ hq f' v'
 | bk Γ => exact hq.elim
 | ct Γ => exact hq.elim
theorem spM_len {n : Nat} {f : Fm} {ps : List Str} (h : ps.length = n) : ∀ vs H Q E, spM P0 n f vs H Q E → vs.length = ps.length := by
 rintro vs H Q E ⟨F, as, Qm, _, _, pr, hl, _⟩
 rw [Paired.length pr, hl, h]
theorem _root_.L2.Fun.okV {P : Program} {w : World} {K : PySem.W.Frag} {mg : Str → Option Value} {base : Heap} {x qual : Str} {st : Stmt} {f : Addr} {fd : FuncData} {N ps : List Str} {k n j : Nat} {b : MS}
  (F : Fun K x qual st f fd) (S : FnScope N ps (defScope st)) (hn : ps.length = n) (hN : N.length = n + j)
  (hbody : ∀ (cdv : Value) (A : Around) (outer : List Env) (s : Shared) (H : Hp) (E : XK), Room k (A.deeper (envOfC qual (defScope st) s.heap.objs.size f cdv)) →
   SsX P0 (cxOf CX0 P w K mg base N qual (defScope st) f cdv A outer s H E).nox (defBody st) b) : FnOk P w K mg base CX0 (k + 1) f fd ps (spM P0 n (mFn j b)) := by
 refine F.ok S (spM_len hn) fun cdv A outer s H vs Q E hr hs => ?_
 obtain ⟨t, h1, h2⟩ := hbody cdv A outer s H E hr
 exact ⟨t, h1, fn_start h2 hN hs⟩
end L2.VS
namespace L2.VS
open PySem PySem.Spec PyProof.Rows
variable {P0 : Addr → Hp → Prop}
noncomputable def kindD : D → String
 | .none => "NoneType"
 | .bool _ => "bool"
 | .int _ => "int"
 | .str _ => "str"
 | .list _ => "list"
 | .tuple _ => "tuple"
 | .dict _ => "dict"
noncomputable def subT (a b : String) : Bool := a == b || (a == "bool" && b == "int")
noncomputable def tyL : List String := ["NoneType", "bool", "int", "str", "list", "tuple", "dict"]
noncomputable def Kit (K : PySem.W.Frag) : Prop := ∀ a ∈ tyL, ∀ b ∈ tyL, PySem.W.kitOne K (.type a) (.type b) = some (subT a b)
theorem Kit.mk' {K : PySem.W.Frag} (h : ∀ a ∈ tyL, ∀ b ∈ tyL, (a == b) = false → PySem.W.kitOne K (.type a) (.type b) = some (a == "bool" && b == "int")) : Kit K := by
 intro a ha b hb
 by_cases e : a = b
 ·subst e
  rw [kit_same]
  simp [subT]
 ·have e' : (a == b) = false := by simpa using e
  rw [h a ha b hb e']
  simp [subT, e']
theorem tyOf_of {K : PySem.W.Frag} {H : Hp} {x : V} {d : D} (h : Dt H x d) : TyOf K H x (.type (kindD d)) ∧ kindD d ∈ tyL := by
 cases h with
 | non => exact ⟨.non, by simp [kindD, tyL]⟩
 | bl b => exact ⟨.bl b, by simp [kindD, tyL]⟩
 | int i => exact ⟨.int i, by simp [kindD, tyL]⟩
 | str x => exact ⟨.str x, by simp [kindD, tyL]⟩
 | tup hp _ => exact ⟨.tup hp, by simp [kindD, tyL]⟩
 | lst hp _ => exact ⟨.lst hp, by simp [kindD, tyL]⟩
 | dic hp _ => exact ⟨.dK hp, by simp [kindD, tyL]⟩
noncomputable def mIsi (n : String) (ma : ME) : ME := fun Γ Q => ma Γ fun x Γ1 => Q (.bool (subT (kindD x) n)) Γ1
theorem vt_isi {K : PySem.W.Frag} {n : String} {ta : TE} {ma : ME} (hk : Kit K) (hn : n ∈ tyL) (ha : VT P0 ta ma) : VT P0 (tCB (rIsi K) (tCons ta (tCons (tC (.ty n)) tNil))) (mIsi n ma) := by
 intro F Γ σ G H Q Qm r m k
 refine ha F Γ σ G H _ _ r m fun d Γ1 x G1 H1 m1 s1 r1 d1 => ?_
 obtain ⟨h1, h2⟩ := tyOf_of (K := K) (Dt.same r1.fr.sub _ _ d1)
 exact ⟨x, .ty n, .type n, _, _, rfl, rfl, h1, hk _ h2 _ hn, k _ _ _ _ _ m1 s1 r1 (.bl _)⟩
section
variable {X : Cx}
structure Goods (ds : List D) : Prop where
 lay : PyData.canLayAll0 ds = true
 dep : PyData.depthAll ds ≤ 59
noncomputable def rInD (neg : Bool) : R2 := fun x y H Q => ∃ dx ds, Dt H x dx ∧ (Dt H y (.list ds) ∨ Dt H y (.tuple ds)) ∧ Good dx ∧ Goods ds ∧ Q (.bl (if neg then !(ds.any fun e => PyData.eqv e dx) else ds.any fun e => PyData.eqv e dx)) H
theorem roomI {u a b : Nat} (h : u + 64 < cLine) (ha : a ≤ 59) : u + 1 + min a b < cLine := by
 have : min a b ≤ a := Nat.min_le_left _ _
 omega
theorem op_notInD (hu : X.A.units + 64 < cLine) : OpR X (compareOp .NotIn) (rInD true) := by
 intro pins s σ H x y v u Q I rx ry h
 obtain ⟨dx, ds, ex, ey, gx, gs, q⟩ := h
 obtain ⟨as, r1⟩ := Dt.reads I.hok dx x v ex rx
 rcases ey with ey | ey
 ·obtain ⟨bs, r2⟩ := Dt.reads I.hok _ y u ey ry
  exact SeqAt.notIn_list_reads r2 r1 gs.lay gx.lay (roomI hu gs.dep) ⟨.bl _, H, I, rfl, q⟩
 ·obtain ⟨bs, r2⟩ := Dt.reads I.hok _ y u ey ry
  exact SeqAt.notIn_tuple_reads r2 r1 gs.lay gx.lay (roomI hu gs.dep) ⟨.bl _, H, I, rfl, q⟩
noncomputable def mIn (neg : Bool) (ma mb : ME) : ME := fun Γ Q => ma Γ fun x Γ1 => mb Γ1 fun y Γ2 => match itemsD y with
 | some ds => Good x ∧ Goods ds ∧ Q (.bool (if neg then !(ds.any fun e => PyData.eqv e x) else ds.any fun e => PyData.eqv e x)) Γ2
 | none => False
theorem vt_in {neg : Bool} {ta tb : TE} {ma mb : ME} (ha : VT P0 ta ma) (hb : VT P0 tb mb) : VT P0 (tOp (rInD neg) ta tb) (mIn neg ma mb) := by
 refine vt_2 (m2 := fun x y Q => match itemsD y with | some ds => Good x ∧ Goods ds ∧ Q (.bool (if neg then !(ds.any fun e => PyData.eqv e x) else ds.any fun e => PyData.eqv e x)) | none => False) ha hb fun F Γ σ G H x y d e Q Qm r d1 d2 m k => ?_
 split at m
 ·rename_i ds hds
  refine ⟨d, ds, Dt.same r.fr.sub _ _ d1, ?_, m.1, m.2.1, k _ _ _ _ m.2.2 (Same.refl _) r (.bl _)⟩
  have d2 := Dt.same r.fr.sub _ _ d2
  cases d2 <;> simp only [itemsD] at hds <;> try (cases hds)
  ·exact .inr (.tup (by assumption) (by assumption))
  ·exact .inl (.lst (by assumption) (by assumption))
 ·exact m.elim
end
noncomputable def SameU (H H' : Hp) : Prop := ∀ b xs, H b = some (.tup xs) → H' b = some (.tup xs) ∨ ∃ q vs, V.ref q ∈ xs ∧ H q = some (.lst vs)
theorem no_ref {H : Hp} {q : Addr} {vs : List V} (hq : H q = some (.lst vs)) : ∀ (ds : List D) (xs : List V), noLsts ds = true → Dts H xs ds → V.ref q ∉ xs
 | [], xs, _, e, h => by cases e; cases h
 | d :: ds, xs, z, e, h => by
  have z' : noLst d = true ∧ noLsts ds = true := by simpa [noLsts] using z
  cases e with
  | cons e1 e2 =>
   rcases List.mem_cons.mp h with e | e
   ·subst e
    cases e1 with
    | tup hp _ => rw [hq] at hp; cases hp
    | lst hp _ => exact absurd z'.1 (by simp [noLst])
    | dic hp _ => exact absurd z'.1 (by simp [noLst])
   ·exact no_ref hq ds _ z'.2 e2 e
mutual
theorem Dt.sameU {H H' : Hp} (g : SameU H H') : ∀ (d : PyData) (x : V), noLst d = true → Dt H x d → Dt H' x d
 | .none, _, _, e => by cases e; exact .non
 | .bool _, _, _, e => by cases e; exact .bl _
 | .int _, _, _, e => by cases e; exact .int _
 | .str _, _, _, e => by cases e; exact .str _
 | .list _, _, z, _ => absurd z (by simp [noLst])
 | .tuple ds, _, z, e => by
  have z' : noLsts ds = true := by simpa [noLst] using z
  cases e with
  | tup hp rs =>
   rcases g _ _ hp with h | ⟨q, vs, h1, h2⟩
   ·exact .tup h (Dts.sameU g ds _ z' rs)
   ·exact absurd h1 (no_ref h2 ds _ z' rs)
 | .dict _, _, z, _ => absurd z (by simp [noLst])
theorem Dts.sameU {H H' : Hp} (g : SameU H H') : ∀ (ds : List PyData) (xs : List V), noLsts ds = true → Dts H xs ds → Dts H' xs ds
 | [], _, _, e => by cases e; exact .nil
 | d :: ds, _, z, e => by
  have z' : noLst d = true ∧ noLsts ds = true := by simpa [noLsts] using z
  cases e with
  | cons e1 e2 => exact .cons (Dt.sameU g d _ z'.1 e1) (Dts.sameU g ds _ z'.2 e2)
end
noncomputable def pubA : En → En := List.map fun s => match s with
 | .own ds => .val (.list ds)
 | .box B => match B.view with
  | some d => .val d
  | none => match B.pv with
   | some b => .pub b
   | none => .no
 | s => s
noncomputable def mPeek (m : ME) : ME := fun Γ Q => m (pubA Γ) fun d Γ1 => noLst d = true ∧ Γ1 = pubA Γ ∧ Q d Γ
noncomputable def mPeekT (m : MT) : MT := fun Γ Q => m (pubA Γ) fun b Γ1 => Γ1 = pubA Γ ∧ Q b Γ
noncomputable def mPeekO (m : MO) : MO := fun Γ Q => m (pubA Γ) fun rv Γ1 => noLsts (match rv with | .val d => [d] | .own ds => ds | .box _ => [.list []]) = true ∧ Γ1 = pubA Γ ∧ Q rv Γ
noncomputable def OwnA (F : Fra P0) (Γ : En) (σ : St) (G H : Hp) (b : Addr) : Prop := ∃ (i : Nat) (s : Sl) (fp : List Addr), Γ[i]? = some s ∧ SlF F G H σ[i]? fp s ∧ b ∈ fp
section
variable {F : Fra P0} {Γ : En} {σ : St} {G H : Hp}
open Classical in
noncomputable def gPub (F : Fra P0) (Γ : En) (σ : St) (G H : Hp) : Hp := fun b => if OwnA F Γ σ G H b then H b else G b
noncomputable def gBack (F : Fra P0) (Γ : En) (σ : St) (G H : Hp) (G1 : Hp) : Hp := fun b => open Classical in if OwnA F Γ σ G H b then none else G1 b
theorem OwnA.at {b : Addr} (h : OwnA F Γ σ G H b) : F.H0 b = none ∧ G b = none ∧ ∃ o, H b = some o := by
 obtain ⟨i, s, fp, _, e, hb⟩ := h
 exact e.mine hb
theorem OwnA.tup {b : Addr} (h : OwnA F Γ σ G H b) {xs : List V} (e : H b = some (.tup xs)) : ∃ q vs, V.ref q ∈ xs ∧ OwnA F Γ σ G H q ∧ H q = some (.lst vs) := by
 obtain ⟨i, s, fp, e0, e1, hb⟩ := h
 cases s with
 | no => rw [show fp = [] from e1] at hb; cases hb
 | val d => rw [e1.1] at hb; cases hb
 | pen => rw [e1.1] at hb; cases hb
 | con q => rw [e1.1] at hb; cases hb
 | pub B => rw [e1.1] at hb; cases hb
 | own ds =>
  obtain ⟨p, vs, f0, _, _, _, f3, _⟩ := e1
  rw [f0] at hb
  rw [List.mem_singleton.mp hb, f3] at e
  cases e
 | box B =>
  have e1' := e1
  obtain ⟨v, _, h2, _⟩ := e1
  obtain ⟨q, q1, q2, vs, q3⟩ := B.nt h2 b hb xs e
  exact ⟨q, vs, q2, ⟨i, _, fp, e0, e1', q1⟩, q3⟩
theorem R.pubAll (r : R F Γ σ G H) : Same G (gPub F Γ σ G H) ∧ R F (pubA Γ) σ (gPub F Γ σ G H) H := by
 have g : Same G (gPub F Γ σ G H) := fun b o e => by
  unfold gPub
  by_cases h : OwnA F Γ σ G H b
  ·have := h.at.2.1
   rw [e] at this; cases this
  ·rw [if_neg h]; exact e
 have nob : ∀ (i : Nat) s, (pubA Γ)[i]? = some s → (∀ x, s ≠ .own x) ∧ ∀ B, s ≠ .box B := by
  intro i s e
  unfold pubA at e
  rw [List.getElem?_map] at e
  cases e0 : Γ[i]? with
  | none => rw [e0] at e; cases e
  | some s0 =>
   rw [e0] at e
   cases s0 with
   | box B =>
    have e : (match B.view with | some d => Sl.val d | none => match B.pv with | some b => Sl.pub b | none => Sl.no) = s := Option.some.inj e
    cases hv : B.view with
    | none =>
     cases hw : B.pv with
     | none => rw [hv, hw] at e; subst e; exact ⟨fun x z => (nomatch z), fun x z => (nomatch z)⟩
     | some b => rw [hv, hw] at e; subst e; exact ⟨fun x z => (nomatch z), fun x z => (nomatch z)⟩
    | some d => rw [hv] at e; subst e; exact ⟨fun x z => (nomatch z), fun x z => (nomatch z)⟩
   | _ => cases e; exact ⟨fun x z => (nomatch z), fun x z => (nomatch z)⟩
 refine ⟨g, R.of ⟨fun b o e => ?_, fun b o e => ?_, r.fr.h0, r.fr.pn⟩ ?_ (fun i s e => ?_) (fun i B e => (nob i _ e).2 B rfl) (fun i j x y _ e => ((nob i _ e).1 x rfl).elim)⟩
 ·unfold gPub at e
  split at e
  ·exact e
  ·exact r.fr.sub b o e
 ·have h : ¬ OwnA F Γ σ G H b := fun h => by
   have := h.at.1
   rw [e] at this; cases this
  unfold gPub
  rw [if_neg h]
  exact r.fr.g0 b o e
 ·unfold pubA
  rw [List.length_map]
  exact r.len
 ·unfold pubA at e
  rw [List.getElem?_map] at e
  cases e0 : Γ[i]? with
  | none => rw [e0] at e; cases e
  | some s0 =>
   rw [e0] at e
   have h := r.sl i s0 e0
   cases s0 with
   | no => cases e; trivial
   | val d => cases e; obtain ⟨v, e1, d1⟩ := h; exact ⟨v, e1, Dt.same g _ _ d1⟩
   | own ds =>
    cases e
    obtain ⟨p, vs, e1, e2, e3, e4, e5⟩ := h
    refine ⟨_, e1, .lst ?_ (Dts.same g _ _ e5)⟩
    unfold gPub
    rw [if_pos ⟨i, _, [p], e0, ⟨p, vs, rfl, e1, e2, e3, e4, e5⟩, List.mem_singleton.mpr rfl⟩]
    exact e4
   | pen => cases e; exact h
   | con q => cases e; exact h
   | pub B => cases e; obtain ⟨v, e1, e2⟩ := h; exact ⟨v, e1, B.mono g e2⟩
   | box B =>
    have e : (match B.view with | some d => Sl.val d | none => match B.pv with | some b => Sl.pub b | none => Sl.no) = s := Option.some.inj e
    obtain ⟨v, fp, e1, e2, e3⟩ := h
    cases hv : B.view with
    | none =>
     cases hw : B.pv with
     | none => rw [hv, hw] at e; subst e; trivial
     | some b0 =>
      rw [hv, hw] at e
      subst e
      refine ⟨v, e1, B.pok e2 hw g fun b hb => ?_⟩
      unfold gPub
      rw [if_pos ⟨i, _, fp, e0, ⟨v, e1, e2, e3⟩, hb⟩]
    | some d =>
     rw [hv] at e
     subst e
     refine ⟨v, e1, B.vok e2 hv g fun b hb => ?_⟩
     unfold gPub
     rw [if_pos ⟨i, _, fp, e0, ⟨v, e1, e2, e3⟩, hb⟩]
theorem R.backG (r : R F Γ σ G H) {G1 H1 : Hp} (s : Same (gPub F Γ σ G H) G1) (f1 : Rf F G1 H1) :
  (∀ b, OwnA F Γ σ G H b → G1 b = H b ∧ H1 b = H b) ∧ Same G (gBack F Γ σ G H G1) ∧ Rf F (gBack F Γ σ G H G1) H1 ∧ SameU G1 (gBack F Γ σ G H G1) := by
 have s0 := (r.pubAll).1
 have own : ∀ b, OwnA F Γ σ G H b → G1 b = H b ∧ H1 b = H b := fun b h => by
  obtain ⟨_, _, o, e⟩ := h.at
  have q : gPub F Γ σ G H b = H b := by unfold gPub; rw [if_pos h]
  rw [e] at q ⊢
  exact ⟨s b _ q, f1.sub b _ (s b _ q)⟩
 have g : Same G (gBack F Γ σ G H G1) := fun b o e => by
  have h : ¬ OwnA F Γ σ G H b := fun h => by
   have := h.at.2.1
   rw [e] at this; cases this
  unfold gBack
  rw [if_neg h]
  exact s b o (s0 b o e)
 refine ⟨own, g, ⟨fun b o e => ?_, fun b o e => ?_, f1.h0, f1.pn⟩, fun b xs e => ?_⟩
 ·unfold gBack at e
  split at e
  ·cases e
  ·exact f1.sub b o e
 ·have h : ¬ OwnA F Γ σ G H b := fun h => by
   have := h.at.1
   rw [e] at this; cases this
  unfold gBack
  rw [if_neg h]
  exact f1.g0 b o e
 ·by_cases h : OwnA F Γ σ G H b
  ·have e' : H b = some (.tup xs) := by rw [← (own b h).1]; exact e
   obtain ⟨q, vs, q1, q2, q3⟩ := h.tup e'
   exact .inr ⟨q, vs, q1, by rw [(own q q2).1]; exact q3⟩
  ·refine .inl ?_
   unfold gBack
   rw [if_neg h]
   exact e
theorem gBack_own {G1 : Hp} {b : Addr} (h : OwnA F Γ σ G H b) : gBack F Γ σ G H G1 b = none := by
 unfold gBack
 rw [if_pos h]
theorem R.back (r : R F Γ σ G H) {G' H' : Hp} (s : Same (gPub F Γ σ G H) G') (r' : R F (pubA Γ) σ G' H') : Same G (gBack F Γ σ G H G') ∧ R F Γ σ (gBack F Γ σ G H G') H' ∧ SameU G' (gBack F Γ σ G H G') := by
 obtain ⟨own, g, f, t⟩ := r.backG s r'.fr
 obtain ⟨fps, h1, h2⟩ := r.fps
 refine ⟨g, ⟨f, r.len, fps, fun i sl e => (h1 i sl e).go g fun b hb => ?_, h2⟩, t⟩
 have ho : OwnA F Γ σ G H b := ⟨i, sl, fps i, e, h1 i sl e, hb⟩
 exact ⟨gBack_own ho, (own b ho).2⟩
end
theorem vtt_peek {t : TT} {m : MT} (h : VTT P0 t m) : VTT P0 t (mPeekT m) := by
 intro F Γ σ G H Q Qm r hm k
 obtain ⟨s0, r0⟩ := r.pubAll
 refine h F _ σ _ H _ _ r0 hm fun b Γ1 G1 H1 m1 s1 r1 => ?_
 obtain ⟨rfl, q⟩ := m1
 obtain ⟨s2, r2, t2⟩ := r.back s1 r1
 exact k _ _ _ _ q s2 r2
section
variable {ta tb : TE} {ma mb : ME}
abbrev mAdd := mI0 fun i j => PyData.int (i + j)
abbrev mSub := mI0 fun i j => PyData.int (i - j)
abbrev mMul := mI IntMulOk fun i j => PyData.int (i * j)
abbrev mDivX := mI CDivX fun i j => PyData.int (i.fdiv j)
abbrev mDiv := mI CDiv fun i j => PyData.int (i / j)
abbrev mMod := mI (fun _ j => 0 < j) fun i j => PyData.int (i % j)
abbrev mNeg := mU fun i => PyData.int (-i)
abbrev mLt := mI0 fun i j => PyData.bool (decide (i < j))
abbrev mGt := mI0 fun i j => PyData.bool (decide (j < i))
abbrev mGe := mI0 fun i j => PyData.bool (decide (j ≤ i))
theorem vt_add (ha : VT P0 ta ma) (hb : VT P0 tb mb) : VT P0 (tOp (rI0 fun i j => .int (i + j)) ta tb) (mAdd ma mb) := vt_i0 (fun _ _ _ => .int _) ha hb
theorem vt_sub (ha : VT P0 ta ma) (hb : VT P0 tb mb) : VT P0 (tOp (rI0 fun i j => .int (i - j)) ta tb) (mSub ma mb) := vt_i0 (fun _ _ _ => .int _) ha hb
theorem vt_mul (ha : VT P0 ta ma) (hb : VT P0 tb mb) : VT P0 (tOp (rI IntMulOk fun i j => .int (i * j)) ta tb) (mMul ma mb) := vt_i (fun _ _ _ => .int _) ha hb
theorem vt_divX (ha : VT P0 ta ma) (hb : VT P0 tb mb) : VT P0 (tOp (rI CDivX fun i j => .int (i.fdiv j)) ta tb) (mDivX ma mb) := vt_i (fun _ _ _ => .int _) ha hb
theorem vt_div (ha : VT P0 ta ma) (hb : VT P0 tb mb) : VT P0 (tOp (rI CDiv fun i j => .int (i / j)) ta tb) (mDiv ma mb) := vt_i (fun _ _ _ => .int _) ha hb
theorem vt_mod (ha : VT P0 ta ma) (hb : VT P0 tb mb) : VT P0 (tOp (rI (fun _ j => 0 < j) fun i j => .int (i % j)) ta tb) (mMod ma mb) := vt_i (fun _ _ _ => .int _) ha hb
theorem vt_neg (ha : VT P0 ta ma) : VT P0 (tUn (rU fun i => .int (-i)) ta) (mNeg ma) := vt_u (fun _ _ => .int _) ha
theorem vt_lt (ha : VT P0 ta ma) (hb : VT P0 tb mb) : VT P0 (tOp (rI0 fun i j => .bl (decide (i < j))) ta tb) (mLt ma mb) := vt_i0 (fun _ _ _ => .bl _) ha hb
theorem vt_gt (ha : VT P0 ta ma) (hb : VT P0 tb mb) : VT P0 (tOp (rI0 fun i j => .bl (decide (j < i))) ta tb) (mGt ma mb) := vt_i0 (fun _ _ _ => .bl _) ha hb
theorem vt_ge (ha : VT P0 ta ma) (hb : VT P0 tb mb) : VT P0 (tOp (rI0 fun i j => .bl (decide (j ≤ i))) ta tb) (mGe ma mb) := vt_i0 (fun _ _ _ => .bl _) ha hb
theorem vt_int {i : Int} : VT P0 (tC (.int i)) (mC (.int i)) := vt_c fun _ => .int i
theorem vt_bl {b : Bool} : VT P0 (tC (.bl b)) (mC (.bool b)) := vt_c fun _ => .bl b
theorem vt_non : VT P0 (tC .non) (mC .none) := vt_c fun _ => .non
end
end L2.VS
namespace L2.VS
open PySem PySem.Spec PyProof.Rows
noncomputable def TrueEnd : Fl → Prop := fun fl => fl = .rt (.val (.bool true))
end L2.VS
namespace L2.VS
open PySem PySem.Spec PyProof.Rows LT
section
variable {Γ : En} {i j n : Nat} {d e x y : D} {ma mb : ME} {oa ob : MO} {ta tb : MT} {md : MD} {aa : MA} {sa sb : MS} {g : MG} {gs : MGs} {mp mq : MP}
theorem i_seq {Q : Fl → Prop} (h : sa Γ fun fl => match fl with | .nx Γ1 => sb Γ1 Q | fl => Q fl) : mSeq sa sb Γ Q := h
theorem i_nx {Q : Fl → Prop} (h : Q (.nx Γ)) : mNx Γ Q := h
theorem i_drop {Q : Fl → Prop} (h : ma Γ fun _ Γ1 => Q (.nx Γ1)) : mDrop ma Γ Q := h
theorem i_set {Q : Fl → Prop} (h : oa Γ fun rv Γ1 => Q (.nx (Γ1.set i rv.sl))) : mSet i oa Γ Q := h
theorem i_asg {Q : Fl → Prop} (h : ma Γ fun d Γ1 => g d Γ1 fun Γ2 => Q (.nx Γ2)) : mAsg ma g Γ Q := h
theorem i_par {Q : Fl → Prop} (h : md Γ fun ds Γ1 => match ds with | [d, e] => Q (.nx ((Γ1.set i (.val d)).set j (.val e))) | _ => False) : mPar i j md Γ Q := h
theorem i_ret {Q : Fl → Prop} (h : oa Γ fun rv _ => Q (.rt rv)) : mRet oa Γ Q := h
theorem i_retN {Q : Fl → Prop} (h : Q (.rt (.val .none))) : mRetN Γ Q := h
theorem i_if {Q : Fl → Prop} (h : ta Γ fun k Γ1 => if k = true then sa Γ1 Q else sb Γ1 Q) : mIf ta sa sb Γ Q := h
theorem i_for {Q : Fl → Prop} (h : md Γ fun ds Γ1 => forL g sa ds Γ1 Q) : mFor md g sa Γ Q := h
noncomputable def appK (i : Nat) (d : D) (Γ1 : En) (Q : Fl → Prop) : Prop := match Γ1[i]? with
 | some (.own ds) => ds.length < 1000 ∧ Q (.nx (Γ1.set i (.own (ds ++ [d]))))
 | _ => False
theorem i_append {Q : Fl → Prop} {ds : List D} (h0 : Γ[i]? = some (.own ds)) (h : ma Γ fun d Γ1 => appK i d Γ1 Q) : mAppend i ma Γ Q := by
 unfold mAppend
 rw [h0]
 exact h
theorem i_appK {Q : Fl → Prop} {Γ1 : En} {ds : List D} (h0 : Γ1[i]? = some (.own ds)) (h1 : ds.length < 1000) (h : Q (.nx (Γ1.set i (.own (ds ++ [d]))))) : appK i d Γ1 Q := by
 unfold appK
 rw [h0]
 exact ⟨h1, h⟩
theorem i_clear {Q : Fl → Prop} {ds : List D} (h0 : Γ[i]? = some (.own ds)) (h : Q (.nx (Γ.set i (.own [])))) : mClear i Γ Q := by
 unfold mClear
 rw [h0]
 exact h
theorem i_pubS {Q : Fl → Prop} {ds : List D} (h0 : Γ[i]? = some (.own ds)) (h : sa (Γ.set i (.val (.list ds))) Q) : mPubS i sa Γ Q := by
 unfold mPubS
 rw [h0]
 exact h
theorem i_pubS0 {Q : Fl → Prop} (h0 : Γ[i]? = some (.val d)) (h : sa Γ Q) : mPubS i sa Γ Q := by
 unfold mPubS
 rw [h0]
 exact h
theorem i_c {Q : D → En → Prop} (h : Q d Γ) : mC d Γ Q := h
theorem i_var {Q : D → En → Prop} (h0 : Γ[i]? = some (.val d)) (h : Q d Γ) : mVar i Γ Q := by
 unfold mVar
 rw [h0]
 exact h
theorem i_I0 {f : Int → Int → D} {Q : D → En → Prop} (h : ma Γ fun x Γ1 => mb Γ1 fun y Γ2 => match x, y with | .int i, .int j => Q (f i j) Γ2 | _, _ => False) : mI0 f ma mb Γ Q := h
theorem i_I {C : Int → Int → Prop} {f : Int → Int → D} {Q : D → En → Prop} (h : ma Γ fun x Γ1 => mb Γ1 fun y Γ2 => match x, y with | .int i, .int j => C i j ∧ Q (f i j) Γ2 | _, _ => False) : mI C f ma mb Γ Q := h
theorem i_U {f : Int → D} {Q : D → En → Prop} (h : ma Γ fun x Γ1 => match x with | .int i => Q (f i) Γ1 | _ => False) : mU f ma Γ Q := h
theorem i_abs {Q : D → En → Prop} (h : ma Γ fun x Γ1 => match x with | .int i => Q (.int (if i < 0 then -i else i)) Γ1 | _ => False) : mAbs ma Γ Q := h
theorem i_int1 {Q : D → En → Prop} (h : ma Γ fun x Γ1 => match x with | .int i => Q (.int i) Γ1 | .bool b => Q (.int (if b then 1 else 0)) Γ1 | _ => False) : mInt1 ma Γ Q := h
theorem i_2I {f : Int → Int → Int} {Q : D → En → Prop} (h : ma Γ fun x Γ1 => mb Γ1 fun y Γ2 => match x, y with | .int i, .int j => Q (.int (f i j)) Γ2 | _, _ => False) : m2I f ma mb Γ Q := h
theorem i_eq {Q : D → En → Prop} (h : ma Γ fun x Γ1 => mb Γ1 fun y Γ2 => Good x ∧ Good y ∧ Q (.bool (PyData.eqv x y)) Γ2) : mEq ma mb Γ Q := h
theorem i_ne {Q : D → En → Prop} (h : ma Γ fun x Γ1 => mb Γ1 fun y Γ2 => Good x ∧ Good y ∧ Q (.bool (!PyData.eqv x y)) Γ2) : mNe ma mb Γ Q := h
theorem i_isN {Q : D → En → Prop} (h : ma Γ fun x Γ1 => Q (.bool (isN x)) Γ1) : mIsN ma Γ Q := h
theorem i_notN {Q : D → En → Prop} (h : ma Γ fun x Γ1 => Q (.bool (!isN x)) Γ1) : mNotN ma Γ Q := h
theorem i_andV {Q : D → En → Prop} (h : ma Γ fun x Γ1 => match x with | .bool c => if c = true then mb Γ1 Q else Q (.bool false) Γ1 | _ => False) : mAndV ma mb Γ Q := h
theorem i_orV {Q : D → En → Prop} (h : ma Γ fun x Γ1 => match x with | .bool c => if c = true then Q (.bool true) Γ1 else mb Γ1 Q | _ => False) : mOrV ma mb Γ Q := h
theorem i_notV {Q : D → En → Prop} (h : ma Γ fun x Γ1 => match x with | .bool c => Q (.bool (!c)) Γ1 | _ => False) : mNotV ma Γ Q := h
theorem i_tst {Q : Bool → En → Prop} (h : ma Γ fun x Γ1 => match x with | .bool c => Q c Γ1 | _ => False) : mTst ma Γ Q := h
theorem i_and {Q : Bool → En → Prop} (h : ta Γ fun c Γ1 => if c = true then tb Γ1 Q else Q false Γ1) : mAnd ta tb Γ Q := h
theorem i_or {Q : Bool → En → Prop} (h : ta Γ fun c Γ1 => if c = true then Q true Γ1 else tb Γ1 Q) : mOr ta tb Γ Q := h
theorem i_not {Q : Bool → En → Prop} (h : ta Γ fun c Γ1 => Q (!c) Γ1) : mNot ta Γ Q := h
theorem i_ifE {Q : D → En → Prop} (h : ta Γ fun c Γ1 => if c = true then ma Γ1 Q else mb Γ1 Q) : mIfE ta ma mb Γ Q := h
theorem i_ifO {Q : Rv → En → Prop} (h : ta Γ fun c Γ1 => if c = true then oa Γ1 Q else ob Γ1 Q) : mIfO ta oa ob Γ Q := h
theorem i_nil {Q : List D → En → Prop} (h : Q [] Γ) : mNil Γ Q := h
theorem i_cons {Q : List D → En → Prop} (h : ma Γ fun x Γ1 => md Γ1 fun xs Γ2 => Q (x :: xs) Γ2) : mCons ma md Γ Q := h
theorem i_anil {Q : List Sl → En → Prop} (h : Q [] Γ) : aNil Γ Q := h
theorem i_aval {Q : List Sl → En → Prop} (h : ma Γ fun x Γ1 => aa Γ1 fun xs Γ2 => Q (.val x :: xs) Γ2) : aVal ma aa Γ Q := h
theorem i_apen {Q : List Sl → En → Prop} (h0 : Γ[i]? = some .pen) (h : aa Γ fun xs Γ2 => Q (.pen :: xs) Γ2) : aPen i aa Γ Q := by
 unfold aPen
 rw [h0]
 exact h
theorem i_tup {Q : D → En → Prop} (h : md Γ fun ds Γ1 => ds.length ≤ 1000 ∧ Q (.tuple ds) Γ1) : mTup md Γ Q := h
theorem i_lst {Q : Rv → En → Prop} (h : md Γ fun ds Γ1 => ds.length ≤ 1000 ∧ Q (.own ds) Γ1) : mLst md Γ Q := h
theorem i_ix {Q : D → En → Prop} (h : ma Γ fun x Γ1 => mb Γ1 fun y Γ2 => oQ (ixD x y) fun d => Q d Γ2) : mIx ma mb Γ Q := h
theorem i_len {Q : D → En → Prop} (h : ma Γ fun x Γ1 => oQ (lenD x) fun d => Q d Γ1) : mLen ma Γ Q := h
theorem i_isi {s : String} {Q : D → En → Prop} (h : ma Γ fun x Γ1 => Q (.bool (subT (kindD x) s)) Γ1) : mIsi s ma Γ Q := h
theorem i_pub {Q : D → En → Prop} (h : oa Γ fun rv Γ1 => nbQ rv (Q rv.d Γ1)) : mPub oa Γ Q := h
theorem i_val {Q : Rv → En → Prop} (h : ma Γ fun d Γ1 => Q (.val d) Γ1) : mVal ma Γ Q := h
theorem i_move {Q : Rv → En → Prop} {ds : List D} (h0 : Γ[i]? = some (.own ds)) (h : Q (.own ds) (Γ.set i .no)) : mMove i Γ Q := by
 unfold mMove
 rw [h0]
 exact h
theorem i_moveV {Q : Rv → En → Prop} (h0 : Γ[i]? = some (.val d)) (h : Q (.val d) Γ) : mMove i Γ Q := by
 unfold mMove
 rw [h0]
 exact h
theorem i_call {f : Fm} {Q : Rv → En → Prop} (h : aa Γ fun as Γ1 => as.length = n ∧ f as fun rv => Q rv Γ1) : mCall n f aa Γ Q := h
theorem i_listOf {Q : Rv → En → Prop} (h : ma Γ fun x Γ1 => match itemsD x with | some ds => Q (.own ds) Γ1 | none => False) : mListOf ma Γ Q := h
theorem i_slL {Q : Rv → En → Prop} (h : ma Γ fun x Γ1 => mp Γ1 fun lo Γ2 => mq Γ2 fun hi Γ3 => match x with | .list ds => Q (.own (cutD ds lo hi)) Γ3 | _ => False) : mSlL ma mp mq Γ Q := h
theorem i_pNo {Q : Option Int → En → Prop} (h : Q none Γ) : pNo Γ Q := h
theorem i_pSo {Q : Option Int → En → Prop} (h : ma Γ fun x Γ1 => match x with | .int i => Q (some i) Γ1 | _ => False) : pSo ma Γ Q := h
theorem i_cat {Q : Rv → En → Prop} (h : ma Γ fun x Γ1 => mb Γ1 fun y Γ2 => match x, y with | .list ds, .list es => ds.length + es.length ≤ 1000 ∧ Q (.own (ds ++ es)) Γ2 | _, _ => False) : mCat ma mb Γ Q := h
theorem i_in {neg : Bool} {Q : D → En → Prop} (h : ma Γ fun x Γ1 => mb Γ1 fun y Γ2 => match itemsD y with | some ds => Good x ∧ Goods ds ∧ Q (.bool (if neg then !(ds.any fun e => PyData.eqv e x) else ds.any fun e => PyData.eqv e x)) Γ2 | none => False) : mIn neg ma mb Γ Q := h
theorem i_peek {Q : D → En → Prop} (h : ma (pubA Γ) fun d Γ1 => noLst d = true ∧ Γ1 = pubA Γ ∧ Q d Γ) : mPeek ma Γ Q := h
theorem i_peekT {Q : Bool → En → Prop} (h : ta (pubA Γ) fun b Γ1 => Γ1 = pubA Γ ∧ Q b Γ) : mPeekT ta Γ Q := h
theorem i_peekO {Q : Rv → En → Prop} (h : oa (pubA Γ) fun rv Γ1 => noLsts (match rv with | .val d => [d] | .own ds => ds | .box _ => [.list []]) = true ∧ Γ1 = pubA Γ ∧ Q rv Γ) : mPeekO oa Γ Q := h
theorem i_itL {Q : List D → En → Prop} (h : ma Γ fun x Γ1 => match x with | .list ds => Q ds Γ1 | _ => False) : mItL ma Γ Q := h
theorem i_itT {Q : List D → En → Prop} (h : ma Γ fun x Γ1 => match x with | .tuple ds => Q ds Γ1 | _ => False) : mItT ma Γ Q := h
theorem i_rng1 {Q : List D → En → Prop} (h : md Γ fun ds Γ1 => match ds with | [.int j] => -(2 ^ 62) ≤ j ∧ j < 2 ^ 62 ∧ Q (rangeD 0 j.toNat) Γ1 | _ => False) : mRng1 md Γ Q := h
theorem i_rng2 {Q : List D → En → Prop} (h : md Γ fun ds Γ1 => match ds with | [.int i, .int j] => (-(2 ^ 62) ≤ i ∧ i < 2 ^ 62 ∧ -(2 ^ 62) ≤ j ∧ j < 2 ^ 62) ∧ Q (rangeD i (j - i).toNat) Γ1 | _ => False) : mRng2 md Γ Q := h
theorem i_gN {Q : En → Prop} (h : Q (Γ.set i (.val d))) : gN i d Γ Q := h
theorem i_gT {Q : En → Prop} {ds : List D} (hl : ds.length = n) (h : gs ds Γ Q) : gT n gs (.tuple ds) Γ Q := ⟨hl, h⟩
theorem i_gsNil {Q : En → Prop} (h : Q Γ) : gsNil [] Γ Q := h
theorem i_gsCons {Q : En → Prop} {ds : List D} (h : g d Γ fun Γ1 => gs ds Γ1 Q) : gsCons g gs (d :: ds) Γ Q := h
theorem i_fn {k : Nat} {as : List Sl} {Q : Rv → Prop} (h : sa (as ++ List.replicate k .no) fun fl => match fl with | .rt rv => Q rv | .nx _ => Q (.val .none) | _ => False) : mFn k sa as Q := h
theorem i_oQ {o : Option D} {k : D → Prop} (h0 : o = some d) (h : k d) : oQ o k := by rw [h0]; exact h
structure KOk (I : En → Prop) (Q K : Fl → Prop) : Prop where
 nx : ∀ Γ, I Γ → K (.nx Γ)
 ct : ∀ Γ, I Γ → K (.ct Γ)
 bk : ∀ Γ, Q (.nx Γ) → K (.bk Γ)
 rt : ∀ rv, Q (.rt rv) → K (.rt rv)
theorem for_inv {ds : List D} {Q : Fl → Prop} (I : Nat → En → Prop) (h0 : I 0 Γ) (hs : ∀ i d Γ K, ds[i]? = some d → I i Γ → KOk (I (i + 1)) Q K → g d Γ fun Γ1 => sa Γ1 K) (he : ∀ Γ, I ds.length Γ → Q (.nx Γ)) : forL g sa ds Γ Q := by
 have aux : ∀ (es : List D) (k : Nat) (Γ : En), (∀ i d, es[i]? = some d → ds[k + i]? = some d) → k + es.length = ds.length → I k Γ → forL g sa es Γ Q := by
  intro es
  induction es with
  | nil => intro k Γ _ hl hi; exact he Γ (by rw [← hl]; simpa using hi)
  | cons d es ih =>
   intro k Γ hd hl hi
   have next : ∀ Γ2, I (k + 1) Γ2 → forL g sa es Γ2 Q := fun Γ2 h3 => ih (k + 1) Γ2 (fun i e he' => by
    have := hd (i + 1) e (by simpa using he')
    rw [show k + 1 + i = k + (i + 1) by omega]; exact this) (by rw [← hl, List.length_cons]; omega) h3
   exact hs k d Γ _ (by simpa using hd 0 d rfl) hi ⟨next, next, fun _ h => h, fun _ h => h⟩
 exact aux ds 0 Γ (fun i d h => by simpa using h) (by simp) h0
theorem range_inv {lo : Int} {n : Nat} {Q : Fl → Prop} (I : Nat → En → Prop) (h0 : I 0 Γ) (hs : ∀ i Γ K, i < n → I i Γ → KOk (I (i + 1)) Q K → g (.int (lo + i)) Γ fun Γ1 => sa Γ1 K) (he : ∀ Γ, I n Γ → Q (.nx Γ)) : forL g sa (rangeD lo n) Γ Q := by
 have hl : (rangeD lo n).length = n := by simp [rangeD]
 refine for_inv I h0 (fun i d Γ K e hi hk => ?_) (by rw [hl]; exact he)
 have hi' : i < n := by have := (List.getElem?_eq_some_iff.mp e).1; omega
 unfold rangeD at e
 rw [List.getElem?_map, List.getElem?_range hi'] at e
 cases e
 exact hs i Γ K hi' hi hk
theorem while_inv {Q : Fl → Prop} (I : Nat → En → Prop) (m0 : Nat) (h0 : I m0 Γ) (hs : ∀ m Γ, I m Γ → ta Γ fun k Γ1 => if k = true then sa Γ1 fun fl => match fl with
  | .nx Γ2 => ∃ n', n' < m ∧ I n' Γ2
  | .ct Γ2 => ∃ n', n' < m ∧ I n' Γ2
  | .bk Γ2 => Q (.nx Γ2)
  | .rt rv => Q (.rt rv)
 else Q (.nx Γ1)) : mWhile ta sa Γ Q := ⟨I, ⟨m0, h0⟩, hs⟩
end
theorem iteNT {A B : Prop} (h : B) : if (!true) = true then A else B := iteF h
theorem iteNF {A B : Prop} (h : A) : if (!false) = true then A else B := iteT h
theorem good_int (i : Int) : Good (.int i) := ⟨rfl, by show 0 ≤ 60; decide⟩
theorem good_bool (b : Bool) : Good (.bool b) := ⟨rfl, by show 0 ≤ 60; decide⟩
theorem eqv_int (i j : Int) : PyData.eqv (.int i) (.int j) = decide (i = j) := by
 show (i == j) = _
 exact Bool.beq_eq_decide_eq i j
theorem eqv_bool (i j : Bool) : PyData.eqv (.bool i) (.bool j) = decide (i = j) := by
 show (i == j) = _
 exact Bool.beq_eq_decide_eq i j
section
variable {P : D → Prop} {Γ : En} {Q : D → En → Prop}
end
noncomputable def Gd (n : Nat) (d : D) : Prop := d.canLay0 = true ∧ d.depth ≤ n
theorem Gd.good {n : Nat} {d : D} (h : Gd n d) (hn : n ≤ 60 := by decide) : Good d := ⟨h.1, Nat.le_trans h.2 hn⟩
theorem Gd.mono {n m : Nat} {d : D} (h : Gd n d) (hn : n ≤ m := by decide) : Gd m d := ⟨h.1, Nat.le_trans h.2 hn⟩
theorem gds {n : Nat} : ∀ {ds : List D}, (∀ d ∈ ds, Gd n d) → PyData.canLayAll0 ds = true ∧ PyData.depthAll ds ≤ n
 | [], _ => ⟨rfl, Nat.zero_le _⟩
 | d :: ds, h => by
  have h1 := h d List.mem_cons_self
  have h2 := gds (ds := ds) fun e he => h e (List.mem_cons_of_mem _ he)
  refine ⟨by show (d.canLay0 && PyData.canLayAll0 ds) = true; rw [h1.1, h2.1]; rfl, ?_⟩
  show max d.depth (PyData.depthAll ds) ≤ n
  exact Nat.max_le.mpr ⟨h1.2, h2.2⟩
theorem gd_tup {n : Nat} {ds : List D} (h : ∀ d ∈ ds, Gd n d) : Gd (n + 1) (.tuple ds) := ⟨(gds h).1, Nat.succ_le_succ (gds h).2⟩
theorem gd_lst {n : Nat} {ds : List D} (h : ∀ d ∈ ds, Gd n d) : Gd (n + 1) (.list ds) := ⟨(gds h).1, Nat.succ_le_succ (gds h).2⟩
theorem gd_goods {n : Nat} {ds : List D} (h : ∀ d ∈ ds, Gd n d) (hn : n ≤ 59 := by decide) : Goods ds := ⟨(gds h).1, Nat.le_trans (gds h).2 hn⟩
theorem gd_int (i : Int) : Gd 0 (.int i) := ⟨rfl, Nat.le_refl _⟩
theorem gd_num (q : Rat) : Gd 1 (dNum q) := gd_tup (n := 0) fun d h => by
 rcases List.mem_cons.mp h with rfl | h
 ·exact gd_int _
 ·rw [List.mem_singleton.mp h]; exact gd_int _
theorem gd_2 {n : Nat} {a b : D} (ha : Gd n a) (hb : Gd n b) : Gd (n + 1) (.tuple [a, b]) := gd_tup fun d h => by
 rcases List.mem_cons.mp h with rfl | h
 ·exact ha
 ·rw [List.mem_singleton.mp h]; exact hb
theorem eqv_self {d : D} (h : Good d) : PyData.eqv d d = true := SeqAt.eqv_refl d h.lay
theorem isT {d : D} {n : String} {A B : Prop} (h : subT (kindD d) n = true) (a : A) : if subT (kindD d) n = true then A else B := by rw [h]; exact iteT a
theorem isF {d : D} {n : String} {A B : Prop} (h : subT (kindD d) n = false) (b : B) : if subT (kindD d) n = true then A else B := by rw [h]; exact iteF b
theorem isNT {d : D} {n : String} {A B : Prop} (h : subT (kindD d) n = true) (b : B) : if (!subT (kindD d) n) = true then A else B := by rw [h]; exact iteF b
theorem isNF {d : D} {n : String} {A B : Prop} (h : subT (kindD d) n = false) (a : A) : if (!subT (kindD d) n) = true then A else B := by rw [h]; exact iteT a
theorem ix_num0 (q : Rat) : ixD (dNum q) (.int 0) = some (.int q.num) := rfl
theorem ix_num1 (q : Rat) : ixD (dNum q) (.int 1) = some (.int (q.den : Int)) := rfl
theorem ix_line0 (l : Rat × Rat) : ixD (dLine l) (.int 0) = some (dNum l.1) := rfl
theorem ix_line1 (l : Rat × Rat) : ixD (dLine l) (.int 1) = some (dNum l.2) := rfl
end L2.VS
namespace L2
open PySem PySem.Spec PyProof.Rows
structure BlkOk (X : Cx) (N : List Str) (scope : Scope) (nt : Nat) (fv : List Nat) : Prop where
 kind : scope.kind = .function
 ncell : ∀ y ∈ scope.names, y.2 ≠ .cell
 names : ∀ y ∈ scope.names, y.2 = .local → scope.names.lookup y.1 = some .local
 free : ∀ y ∈ scope.names, y.2 = .free → X.env.kindOf y.1 = some .cell
 len : N.length = nt + fv.length
 fv : ∀ i x, N[nt + i]? = some x → ∃ j, fv[i]? = some j ∧ X.N[j]? = some x ∧ X.env.kindOf x = some .cell ∧ (relabel scope X.env).names.lookup x = some .cell
section
variable {X : Cx} {N : List Str} {scope : Scope} {nt : Nat} {fv : List Nat} {pins : List (Addr × Obj)} {σ : St} {H : Hp} {s : Shared}
theorem BlkOk.cells (B : BlkOk X N scope nt fv) (I : Inv X pins σ H s) : ∀ y ∈ scope.names, y.2 = .free → ∃ c, X.env.cells.lookup y.1 = some c := fun y hy hf => I.ok.has y.1 (.inl (B.free y hy hf))
end
section
variable {prog : Program} {w : World} {A : Around} {R : Result → Shared → Prop} {s : Shared}
end
end L2
namespace L2
open PySem PySem.Spec PyProof.Rows
section
variable {X : Cx} {N : List Str} {scope : Scope} {nt : Nat} {fv : List Nat} {elt tg iter : Expr} {ifs : List Expr} {wi : TI} {g : TG} {ti : TT} {te : TE} {pos : Pos}
end
end L2
namespace L2
open PySem PySem.Spec PyProof.Rows
end L2
namespace L2.VS
open PySem PySem.Spec PyProof.Rows
variable {P0 : Addr → Hp → Prop}
noncomputable def blkS : Option Sl → Sl
 | some (.val d) => .val d
 | some .pen => .pen
 | some (.pub B) => .pub B
 | _ => .no
noncomputable def blkE (nt : Nat) (fv : List Nat) (Γ : En) : En := List.replicate nt .no ++ fv.map fun j => blkS Γ[j]?
noncomputable def compL (g : MG) (t : MT) (e : ME) (Γb : En) : List D → List D → (List D → Prop) → Prop
 | [], acc, Q => Q acc
 | d :: ds, acc, Q => g d Γb fun Γ1 => t Γ1 fun b Γ2 => if b = true then e Γ2 fun v _ => compL g t e Γb ds (acc ++ [v]) Q else compL g t e Γb ds acc Q
noncomputable def mComp (nt : Nat) (fv : List Nat) (mi : MD) (g : MG) (t : MT) (e : ME) : MO := fun Γ Q => mi Γ fun ds Γ1 => ds.length ≤ 1000 ∧ compL g t e (blkE nt fv Γ1) ds [] fun out => Q (.own out) Γ1
theorem i_comp {nt : Nat} {fv : List Nat} {mi : MD} {mg : MG} {mt : MT} {me : ME} {Γ : En} {Q : Rv → En → Prop} (h : mi Γ fun ds Γ1 => ds.length ≤ 1000 ∧ compL mg mt me (blkE nt fv Γ1) ds [] fun out => Q (.own out) Γ1) : mComp nt fv mi mg mt me Γ Q := h
end L2.VS
namespace L2
open PySem PySem.Spec PyProof.Rows
section
variable {X : Cx}
noncomputable def insAt (n : Nat) (x : Int) : Nat := if x < 0 then (x + (n : Int)).toNat else min x.toNat n
noncomputable def insL {α : Type} (xs : List α) (x : Int) (y : α) : List α := xs.take (insAt xs.length x) ++ y :: xs.drop (insAt xs.length x)
theorem insL_len {α : Type} (xs : List α) (x : Int) (y : α) : (insL xs x y).length = xs.length + 1 := by
 unfold insL
 rw [List.length_append, List.length_cons, List.length_take, List.length_drop]
 omega
theorem Vals.ins {xs : List V} {us : List Value} (r : Vals xs us) (x : Int) {y : V} {u : Value} (h : RelV y u) : Vals (insL xs x y) (insL us x u) := by
 unfold insL
 rw [r.length]
 exact (r.take _).append (.cons h (r.drop _))
noncomputable def rInsert : V → List V → Hp → VK → Prop := fun x vs H Q => ∃ l xs i y, x = .ref l ∧ vs = [.int i, y] ∧ H l = some (.lst xs) ∧ -(2 ^ 63) ≤ i ∧ i < 2 ^ 63 ∧ xs.length < sizeLine ∧ Q .non (upd H l (.lst (insL xs i y)))
theorem mt_insert : MtM X "list.insert" rInsert := by
 intro pins s σ H x vs v us Q I rx rv h
 obtain ⟨l, xs, i, y, rfl, rfl, hH, h1, h2, hz, q⟩ := h
 cases rx
 obtain ⟨u0, u, rfl, ru0, ru⟩ := rv.two
 obtain ⟨t, rfl⟩ := ru0
 obtain ⟨z, its, n, r, hl, e⟩ := I.lstM hH
 have hf : Builtin.List.listFitsIndex i = true := by
  unfold Builtin.List.listFitsIndex
  rw [Bool.and_eq_true]
  exact ⟨decide_eq_true h1, decide_eq_true h2⟩
 refine call_meets F.slot_list_insert ⟨_, e, rfl⟩ F.entry_list_insert (F.args_list_insert_3 _ _ _) (PySem.AutoSeq1.list_insert_list_int_val_1 l its.toArray n i t u (by simp [hf]) (by rw [List.size_toArray]; omega)) ⟨e, ?_⟩
 refine ⟨.non, _, I.lset (its' := insL its i u) hH e ?_ (r.ins i ru) ?_, rfl, q⟩
 ·show (its.toArray.extract 0 (if i < 0 then (i + (its.toArray.size : Int)).toNat else min i.toNat its.toArray.size)).push u ++ its.toArray.extract (if i < 0 then (i + (its.toArray.size : Int)).toNat else min i.toNat its.toArray.size) = (insL its i u).toArray
  rw [List.size_toArray]
  unfold insL insAt
  generalize (if i < 0 then (i + (its.length : Int)).toNat else min i.toNat its.length) = k
  apply Array.toList_inj.mp
  simp
  exact List.take_of_length_le (by simp)
 ·rw [insL_len]
  omega
noncomputable def pickL {α : Type} (ix : List Nat) (xs : List α) : List α := ix.filterMap fun i => xs[i]?
noncomputable def stepIx (n : Nat) (st : Int) : List Nat := let b := sliceBounds none none (some st) n; sliceRange b.1 b.2.1 b.2.2
end
end L2
namespace L2.VS
open PySem PySem.Spec PyProof.Rows
variable {P0 : Addr → Hp → Prop}
theorem _root_.L2.Dts.ins {G : Hp} {vs : List V} {ds : List D} (r : Dts G vs ds) (x : Int) {y : V} {d : D} (h : Dt G y d) : Dts G (insL vs x y) (insL ds x d) := by
 unfold insL
 rw [r.len]
 exact (r.tak _).app (.cons h (r.drp _))
noncomputable def insK (i : Nat) (x : D) (d : D) (Γ1 : En) (Q : Fl → Prop) : Prop := match Γ1[i]?, x with
 | some (.own ds), .int k => -(2 ^ 63) ≤ k ∧ k < 2 ^ 63 ∧ ds.length < 1000 ∧ Q (.nx (Γ1.set i (.own (insL ds k d))))
 | _, _ => False
noncomputable def mInsert (i : Nat) (ma mb : ME) : MS := fun Γ Q => match Γ[i]? with
 | some (.own _) => ma Γ fun x Γ1 => mb Γ1 fun d Γ2 => insK i x d Γ2 Q
 | _ => False
noncomputable def mStep (ma mb : ME) : MO := fun Γ Q => ma Γ fun x Γ1 => mb Γ1 fun y Γ2 => match x, y with
 | .list ds, .int st => st ≠ 0 ∧ Q (.own (pickL (stepIx ds.length st) ds)) Γ2
 | _, _ => False
theorem i_insert {i : Nat} {ma mb : ME} {Γ : En} {Q : Fl → Prop} {ds : List D} (h0 : Γ[i]? = some (.own ds)) (h : ma Γ fun x Γ1 => mb Γ1 fun d Γ2 => insK i x d Γ2 Q) : mInsert i ma mb Γ Q := by
 unfold mInsert
 rw [h0]
 exact h
theorem i_step {ma mb : ME} {Γ : En} {Q : Rv → En → Prop} (h : ma Γ fun x Γ1 => mb Γ1 fun y Γ2 => match x, y with | .list ds, .int st => st ≠ 0 ∧ Q (.own (pickL (stepIx ds.length st) ds)) Γ2 | _, _ => False) : mStep ma mb Γ Q := h
end L2.VS
namespace L2.VS
open PySem PySem.Spec PyProof.Rows
variable {P0 : Addr → Hp → Prop}
noncomputable def tameS : Option Sl → Sl
 | some (.val d) => if noLst d = true then .val d else .no
 | some (.own es) => if noLsts es = true then .own es else .no
 | some .pen => .pen
 | _ => .no
noncomputable def backE (as : List Nat) (Γ Γ1 : En) : En := (List.range Γ.length).map fun j => if as.contains j = true then tameS Γ1[j]? else (Γ[j]?).getD .no
noncomputable def mPeekS (as : List Nat) (m : MS) : MS := fun Γ Q => m (pubA Γ) fun fl => match fl with
 | .nx Γ1 => Γ1.length = Γ.length ∧ Q (.nx (backE as Γ Γ1))
 | .bk Γ1 => Γ1.length = Γ.length ∧ Q (.bk (backE as Γ Γ1))
 | .ct Γ1 => Γ1.length = Γ.length ∧ Q (.ct (backE as Γ Γ1))
 | .rt rv => Q (.rt rv)
theorem i_peekS {as : List Nat} {m : MS} {Γ : En} {Q : Fl → Prop} (h : m (pubA Γ) fun fl => match fl with
 | .nx Γ1 => Γ1.length = Γ.length ∧ Q (.nx (backE as Γ Γ1))
 | .bk Γ1 => Γ1.length = Γ.length ∧ Q (.bk (backE as Γ Γ1))
 | .ct Γ1 => Γ1.length = Γ.length ∧ Q (.ct (backE as Γ Γ1))
 | .rt rv => Q (.rt rv)) : mPeekS as m Γ Q := h
end L2.VS
namespace L2
open PySem PySem.Spec PyProof.Rows
section
variable {X : Cx}
end
end L2
namespace L2.VS
open PySem PySem.Spec PyProof.Rows
variable {P0 : Addr → Hp → Prop}
noncomputable def mIsB (neg : Bool) (ma mb : ME) : ME := fun Γ Q => ma Γ fun x Γ1 => mb Γ1 fun y Γ2 => match x, y with
 | .bool b, .bool c => Q (.bool (if neg then !decide (b = c) else decide (b = c))) Γ2
 | _, _ => False
theorem i_isB {neg : Bool} {ma mb : ME} {Γ : En} {Q : D → En → Prop} (h : ma Γ fun x Γ1 => mb Γ1 fun y Γ2 => match x, y with | .bool b, .bool c => Q (.bool (if neg then !decide (b = c) else decide (b = c))) Γ2 | _, _ => False) : mIsB neg ma mb Γ Q := h
end L2.VS
namespace L2.VS
open PySem PySem.Spec PyProof.Rows
variable {P0 : Addr → Hp → Prop} {ta tb : TE} {ma mb : ME}
noncomputable def mRep (ma mb : ME) : MO := fun Γ Q => ma Γ fun x Γ1 => mb Γ1 fun y Γ2 => match x, y with
 | .list ds, .int k => (-(2 ^ 62) ≤ k ∧ k < 2 ^ 62) ∧ ds.length * k.toNat ≤ 1000 ∧ Q (.own (List.replicate k.toNat ds).flatten) Γ2
 | _, _ => False
theorem i_rep {ma mb : ME} {Γ : En} {Q : Rv → En → Prop} (h : ma Γ fun x Γ1 => mb Γ1 fun y Γ2 => match x, y with
 | .list ds, .int k => (-(2 ^ 62) ≤ k ∧ k < 2 ^ 62) ∧ ds.length * k.toNat ≤ 1000 ∧ Q (.own (List.replicate k.toNat ds).flatten) Γ2
 | _, _ => False) : mRep ma mb Γ Q := h
end L2.VS
namespace L2
open PySem PySem.Calls PyProof.Rows PySem.W
section
variable {cmp : Nat → Nat → (Bool → Shared → Prop) → Shared → Prop}
end
section
variable {prog : Program} {w : World} {A : Around} {E : Value → Shared → Prop} {s : Shared} {Q : Bool → Shared → Prop}
noncomputable def prLt (p q : Int × Int) : Bool := if p.1 = q.1 then decide (p.2 < q.2) else decide (p.1 < q.1)
end
theorem cutHeap (h : Heap) (L : Nat) : ∃ h₀ : Heap, h₀.objs.size ≤ L ∧ (∀ b o, h₀.get? b = some o → h.get? b = some o) ∧ ∀ b o, b < L → h.get? b = some o → h₀.get? b = some o := by
 have sz : (h.objs.extract 0 L).size = min L h.objs.size := by simp
 have at_ : ∀ b : Nat, b < L → b < h.objs.size → (h.objs.extract 0 L)[b]? = h.objs[b]? := fun b h1 h2 => by
  rw [Array.getElem?_extract, if_pos (by omega), Nat.zero_add]
 refine ⟨{ h with objs := h.objs.extract 0 L }, by show (h.objs.extract 0 L).size ≤ L; rw [sz]; exact Nat.min_le_left _ _, fun b o e => ?_, fun b o hb e => ?_⟩
 ·have hb : b < min L h.objs.size := by rw [← sz]; exact Heap.lt_size e
  have z := at_ b (Nat.lt_of_lt_of_le hb (Nat.min_le_left _ _)) (Nat.lt_of_lt_of_le hb (Nat.min_le_right _ _))
  unfold Heap.get? at e ⊢
  simp only [z] at e
  exact e
 ·have z := at_ b hb (Heap.lt_size e)
  unfold Heap.get? at e ⊢
  simp only [z]
  exact e
theorem newsAbove (h : Heap) (L : Nat) : ∃ news : List (Addr × Obj), (∀ p ∈ news, h.get? p.1 = some p.2 ∧ L < p.1) ∧ ∀ b o, L < b → h.get? b = some o → (b, o) ∈ news := by
 refine ⟨(List.range h.objs.size).filterMap fun b => if L < b then (h.get? b).map fun o => (b, o) else none, fun p hp => ?_, fun b o hb e => ?_⟩
 ·obtain ⟨b, _, hb⟩ := List.mem_filterMap.mp hp
  split at hb
  ·rename_i hl
   cases e : h.get? b with
   | none => rw [e] at hb; cases hb
   | some o => rw [e] at hb; cases hb; exact ⟨e, hl⟩
  ·cases hb
 ·refine List.mem_filterMap.mpr ⟨b, List.mem_range.mpr (Heap.lt_size e), ?_⟩
  rw [if_pos hb, e]
  rfl
noncomputable def PrAt (h : Heap) (L : Addr) (v : Value) (k : Int × Int) : Prop := ∃ a o n t u, v = .ref a ∧ a ≠ L ∧ h.get? a = some o ∧ o.cls = .type "tuple" ∧ o.data = .seq #[.int k.1 t, .int k.2 u] n
theorem prs_at {h : Heap} {L : Addr} {vs : List Value} {ks : List (Int × Int)} (hp : Paired (PrAt h L) vs ks) : ∀ {i : Nat}, i < vs.length → PrAt h L (vs.getD i .none) (ks.getD i (0, 0)) := by
 induction hp with
 | nil => intro i hi; cases hi
 | cons r t ih =>
  intro i hi
  cases i with
  | zero => exact r
  | succ i => exact ih (Nat.lt_of_succ_lt_succ hi)
section
variable {prog : Program} {w : World} {A : Around} {E : Value → Shared → Prop} {s : Shared}
end
end L2
namespace L2
open PySem PySem.Spec PyProof.Rows
theorem ObjOk.there {P : Program} {w : World} {H : Hp} {h : Heap} {a : Addr} {o : HO} (x : ObjOk P w H h a o) : ∃ u, h.get? a = some u := by
 cases o with
 | lst xs => obtain ⟨_, _, _, _, e⟩ := x; exact ⟨_, e⟩
 | tup xs => obtain ⟨_, _, _, o, e, _⟩ := x; exact ⟨_, e⟩
 | dK kvs => obtain ⟨_, _, _, _, o, _, _, e, _⟩ := x; exact ⟨_, e⟩
 | dT kvs => obtain ⟨_, _, _, _, o, _, _, e, _⟩ := x; exact ⟨_, e⟩
 | set S n => obtain ⟨o, _, _, _, e, _⟩ := x; exact ⟨_, e⟩
 | ins C dx fs => obtain ⟨_, _, _, e, _⟩ := x; exact ⟨_, e⟩
 | own y => obtain ⟨_, e⟩ := x; exact ⟨_, e⟩
 | xd fs => obtain ⟨_, ⟨_, _, _, e, _⟩, _⟩ := x; exact ⟨_, e⟩
 | rng lo hi => obtain ⟨_, _, _, e⟩ := x; exact ⟨_, e⟩
 | frz ob u => obtain ⟨e, _⟩ := x; exact ⟨_, e⟩
 | tbl ps => exact ⟨_, show h.get? a = some _ from x⟩
 | met f y => exact ⟨_, show h.get? a = some _ from x⟩
 | ext φ => obtain ⟨_, ⟨_, e⟩, _⟩ := x; exact ⟨_, e⟩
theorem ns_one {h : Heap} {L : Addr} {m m' : Str → Option Value} (a : h.Ns L m) (b : h.Ns L m') : m = m' := by
 obtain ⟨o, es, ep, h1, h2, _, h3⟩ := a
 obtain ⟨o', es', ep', g1, g2, _, g3⟩ := b
 rw [h1] at g1; cases g1
 rw [h2] at g2; cases g2
 funext x
 rw [← h3 x, g3 x]
section
variable {X : Cx}
end
end L2
namespace L2.VS
open PySem PySem.Spec PyProof.Rows
variable {P0 : Addr → Hp → Prop} {ta : TE} {ma : ME} {K : PySem.W.Frag}
noncomputable def prsD (ks : List (Int × Int)) : List D := ks.map fun k => .tuple [.int k.1, .int k.2]
end L2.VS
namespace L2
open PySem PySem.Calls PyProof.Rows PySem.W
structure Tot (lt : Nat → Nat → Bool) (n : Nat) : Prop where
 total : ∀ i j, i < n → j < n → i ≠ j → lt i j = true ∨ lt j i = true
 asymm : ∀ i j, i < n → j < n → lt i j = true → lt j i = false
 trans : ∀ i j k, i < n → j < n → k < n → lt i j = true → lt j k = true → lt i k = true
noncomputable def Pm (p : Array Nat) (n : Nat) : Prop := p.Perm (List.toArray (List.range n))
theorem Pm.size {p : Array Nat} {n : Nat} (h : Pm p n) : p.size = n := by
 have := h.size_eq
 simpa using this
theorem Pm.lt {p : Array Nat} {n i : Nat} (h : Pm p n) (hi : i < n) : p.getD i 0 < n := by
 have hs := h.size
 have hm : p.getD i 0 ∈ p.toList := by
  rw [Array.getD_eq_getD_getElem?, Array.getElem?_eq_getElem (by omega)]
  exact List.mem_of_getElem? (i := i) (by rw [Array.getElem?_toList, Array.getElem?_eq_getElem (by omega)]; rfl)
 have := (Array.perm_iff_toList_perm.mp h).mem_iff.mp hm
 simpa using this
theorem Pm.inj {p : Array Nat} {n i j : Nat} (h : Pm p n) (hi : i < n) (hj : j < n) (hij : i ≠ j) : p.getD i 0 ≠ p.getD j 0 := by
 have hs := h.size
 have nd : p.toList.Nodup := (Array.perm_iff_toList_perm.mp h).nodup_iff.mpr (by simpa using List.nodup_range)
 intro e
 rw [Array.getD_eq_getD_getElem?, Array.getD_eq_getD_getElem?, Array.getElem?_eq_getElem (by omega), Array.getElem?_eq_getElem (by omega)] at e
 have e : p[i]'(by omega) = p[j]'(by omega) := e
 rw [← Array.getElem_toList, ← Array.getElem_toList] at e
 have np := List.pairwise_iff_getElem.mp nd
 rcases Nat.lt_or_gt_of_ne hij with c | c
 ·exact np i j (by simpa using (by omega : i < p.size)) (by simpa using (by omega : j < p.size)) c e
 ·exact np j i (by simpa using (by omega : j < p.size)) (by simpa using (by omega : i < p.size)) c e.symm
noncomputable def Up (lt : Nat → Nat → Bool) (p : Array Nat) (m : Nat) : Prop := ∀ i j, i < j → j < m → lt (p.getD i 0) (p.getD j 0) = true
noncomputable def Dn (lt : Nat → Nat → Bool) (p : Array Nat) (m : Nat) : Prop := ∀ i j, i < j → j < m → lt (p.getD j 0) (p.getD i 0) = true
section
variable {cmp : Nat → Nat → (Bool → Shared → Prop) → Shared → Prop} {lt : Nat → Nat → Bool} {n : Nat} {I : Shared → Prop}
noncomputable def Asks (cmp : Nat → Nat → (Bool → Shared → Prop) → Shared → Prop) (lt : Nat → Nat → Bool) (n : Nat) (I : Shared → Prop) : Prop :=
 ∀ (i j : Nat) (C : Bool → Shared → Prop) (s : Shared), i < n → j < n → I s → (∀ s', I s' → C (lt i j) s') → cmp i j C s
theorem up_more {p : Array Nat} {m : Nat} (T : Tot lt n) (hp : Pm p n) (hm : 0 < m) (hn : m < n) (h : Up lt p m) (h1 : lt (p.getD (m - 1) 0) (p.getD m 0) = true) : Up lt p (m + 1) := fun i j hij hj => by
 by_cases c : j < m
 ·exact h i j hij c
 ·have : j = m := by omega
  subst this
  by_cases d : i = j - 1
  ·rw [d]; exact h1
  ·exact T.trans _ _ _ (hp.lt (by omega)) (hp.lt (by omega)) (hp.lt hn) (h i (j - 1) (by omega) (by omega)) h1
theorem dn_more {p : Array Nat} {m : Nat} (T : Tot lt n) (hp : Pm p n) (hm : 0 < m) (hn : m < n) (h : Dn lt p m) (h1 : lt (p.getD m 0) (p.getD (m - 1) 0) = true) : Dn lt p (m + 1) := fun i j hij hj => by
 by_cases c : j < m
 ·exact h i j hij c
 ·have : j = m := by omega
  subst this
  by_cases d : i = j - 1
  ·rw [d]; exact h1
  ·exact T.trans _ _ _ (hp.lt hn) (hp.lt (by omega)) (hp.lt (by omega)) h1 (h i (j - 1) (by omega) (by omega))
theorem kas_asc_any {p : Array Nat} {Q : Nat → Shared → Prop} (A : Asks cmp lt n I) (T : Tot lt n) (hp : Pm p n) :
  ∀ (f m : Nat) (s : Shared), 0 < m → m + f = n → Up lt p m → I s → (∀ m' s', m ≤ m' → m' ≤ n → Up lt p m' → (m' < n → lt (p.getD m' 0) (p.getD (m' - 1) 0) = true) → I s' → Q m' s') → (kas_asc p f m).kasWp cmp Q s
 | 0, m, s, _, hn, hu, hi, q => q m s (Nat.le_refl _) (by omega) hu (fun z => by omega) hi
 | f + 1, m, s, h0, hn, hu, hi, q => by
  show cmp _ _ _ s
  refine A _ _ _ s (hp.lt (by omega)) (hp.lt (by omega)) hi fun s' hi' => ?_
  cases c : lt (p.getD m 0) (p.getD (m - 1) 0) with
  | true => exact q m s' (Nat.le_refl _) (by omega) hu (fun _ => c) hi'
  | false =>
   have h1 := (T.total _ _ (hp.lt (by omega)) (hp.lt (by omega)) (hp.inj (i := m) (j := m - 1) (by omega) (by omega) (by omega))).resolve_left (by rw [c]; decide)
   exact kas_asc_any A T hp f (m + 1) s' (by omega) (by omega) (up_more T hp h0 (by omega) hu h1) hi' fun m' s2 g => q m' s2 (by omega)
theorem kas_desc_any {p : Array Nat} {Q : Array Nat × Nat × Nat → Shared → Prop} (A : Asks cmp lt n I) (T : Tot lt n) (hp : Pm p n) :
  ∀ (f m : Nat) (s : Shared), 0 < m → m + f = n → Dn lt p m → I s → (∀ m' s', m ≤ m' → m' ≤ n → Dn lt p m' → I s' → Q (p, m', 0) s') → (kas_desc f p m 0).kasWp cmp Q s
 | 0, m, s, _, hn, hu, hi, q => q m s (Nat.le_refl _) (by omega) hu hi
 | f + 1, m, s, h0, hn, hu, hi, q => by
  show cmp _ _ _ s
  refine A _ _ _ s (hp.lt (by omega)) (hp.lt (by omega)) hi fun s' hi' => ?_
  cases c : lt (p.getD m 0) (p.getD (m - 1) 0) with
  | true => exact kas_desc_any A T hp f (m + 1) s' (by omega) (by omega) (dn_more T hp h0 (by omega) hu c) hi' fun m' s2 g => q m' s2 (by omega)
  | false =>
   have h1 := (T.total _ _ (hp.lt (by omega)) (hp.lt (by omega)) (hp.inj (i := m) (j := m - 1) (by omega) (by omega) (by omega))).resolve_left (by rw [c]; decide)
   show cmp _ _ _ s'
   refine A _ _ _ s' (hp.lt (by omega)) (hp.lt (by omega)) hi' fun s2 hi2 => ?_
   rw [h1]
   exact q m s2 (Nat.le_refl _) (by omega) hu hi2
theorem rev_at {p : Array Nat} {m k : Nat} (hm : m ≤ p.size) (hk : k < m) : (kas_rev p 0 m).getD k 0 = p.getD (m - 1 - k) 0 := by
 unfold kas_rev
 rw [Array.getD_eq_getD_getElem?, Array.getD_eq_getD_getElem?, getElem?_mirror_all hm, if_pos ⟨Nat.zero_le _, hk⟩, Nat.zero_add]
theorem rev_pm {p : Array Nat} {m : Nat} (hp : Pm p n) : Pm (kas_rev p 0 m) n := Array.Perm.trans (mirror_perm _ _ _ _) hp
theorem kas_tail3_any {p : Array Nat} {m : Nat} {Q : Nat × Array Nat → Shared → Prop} {s : Shared} (A : Asks cmp lt n I) (T : Tot lt n) (hp : Pm p n) (hm : 0 < m) (hn : m ≤ n) (hd : Dn lt p m) (hi : I s)
  (q : ∀ m' p' s', 0 < m' → m' ≤ n → Pm p' n → Up lt p' m' → I s' → Q (m', p') s') : (kas_tail3 m n p).kasWp cmp Q s := by
 unfold kas_tail3
 rw [KasT.kasWp_bind]
 refine kas_asc_any A T (rev_pm hp) (n - m) m s hm (by omega) (fun i j hij hj => ?_) hi fun m' s' g1 g2 g3 _ g5 => q m' _ s' (by omega) g2 (rev_pm hp) g3 g5
 have hs := hp.size
 rw [rev_at (by omega) (by omega), rev_at (by omega) hj]
 exact hd _ _ (by omega) (by omega)
theorem kas_count_any {p : Array Nat} {Q : Nat × Array Nat → Shared → Prop} {s : Shared} (A : Asks cmp lt n I) (T : Tot lt n) (hp : Pm p n) (h1 : 1 ≤ n) (hi : I s)
  (q : ∀ m' p' s', 0 < m' → m' ≤ n → Pm p' n → Up lt p' m' → I s' → Q (m', p') s') : (kas_count n p).kasWp cmp Q s := by
 unfold kas_count
 rw [KasT.kasWp_bind]
 refine kas_asc_any A T hp (n - 1) 1 s (by decide) (by omega) (fun i j hij hj => by omega) hi fun m s' g1 g2 g3 g4 g5 => ?_
 by_cases c : m = n
 ·rw [if_pos (beq_iff_eq.mpr c)]
  exact q m p s' (by omega) g2 hp g3 g5
 ·rw [if_neg (by rw [beq_iff_eq]; exact c)]
  by_cases d : m > 1
  ·rw [if_pos d]
   show cmp _ _ _ s'
   refine A _ _ _ s' (hp.lt (by omega)) (hp.lt (by omega)) g5 fun s2 hi2 => ?_
   rw [g3 0 (m - 1) (by omega) (by omega)]
   exact q m p s2 (by omega) g2 hp g3 hi2
  ·rw [if_neg d]
   have e : m = 1 := by omega
   subst e
   have hl := g4 (by omega)
   unfold kas_descPart
   rw [KasT.kasWp_bind]
   refine kas_desc_any A T hp (n - (1 + 1)) (1 + 1) s' (by decide) (by omega) (fun i j hij hj => ?_) g5 fun m' s2 k1 k2 k3 k4 => ?_
   ·have : i = 0 := by omega
    have : j = 1 := by omega
    subst i j
    exact hl
   ·rw [if_neg (show ¬ (p, m', 0).2.2 > 0 from Nat.lt_irrefl _)]
    exact kas_tail3_any A T hp (show 0 < m' by omega) k2 k3 k4 q
theorem kas_place_any {p : Array Nat} {k : Nat} {Q : Nat → Shared → Prop} (A : Asks cmp lt n I) (T : Tot lt n) (hp : Pm p n) (hk : k < n) (hu : Up lt p k) :
  ∀ (f l r : Nat) (s : Shared), l ≤ r → r ≤ k → r - l ≤ f → (∀ i, i < l → lt (p.getD i 0) (p.getD k 0) = true) → (∀ i, r ≤ i → i < k → lt (p.getD k 0) (p.getD i 0) = true) → I s →
   (∀ l s', l ≤ k → (∀ i, i < l → lt (p.getD i 0) (p.getD k 0) = true) → (∀ i, l ≤ i → i < k → lt (p.getD k 0) (p.getD i 0) = true) → I s' → Q l s') → (kas_place p k f l r).kasWp cmp Q s
 | 0, l, r, s, h1, h2, h3, h4, h5, hi, q => q l s (by omega) h4 (fun i a b => h5 i (by omega) b) hi
 | f + 1, l, r, s, h1, h2, h3, h4, h5, hi, q => by
  unfold kas_place
  by_cases c : l ≥ r
  ·rw [if_pos c]
   exact q l s (by omega) h4 (fun i a b => h5 i (by omega) b) hi
  ·rw [if_neg c]
   show cmp _ _ _ s
   have hm : (l + r) / 2 < r ∧ l ≤ (l + r) / 2 := by omega
   generalize (l + r) / 2 = m at *
   refine A _ _ _ s (hp.lt hk) (hp.lt (by omega)) hi fun s' hi' => ?_
   cases d : lt (p.getD k 0) (p.getD m 0) with
   | true =>
    refine kas_place_any A T hp hk hu f l m s' hm.2 (by omega) (by omega) h4 (fun i a b => ?_) hi' q
    by_cases e : i = m
    ·rw [e]; exact d
    ·exact T.trans _ _ _ (hp.lt hk) (hp.lt (by omega)) (hp.lt (by omega)) d (hu m i (by omega) b)
   | false =>
    have d2 := (T.total _ _ (hp.lt hk) (hp.lt (by omega)) (hp.inj (i := k) (j := m) hk (by omega) (by omega))).resolve_left (by rw [d]; decide)
    refine kas_place_any A T hp hk hu f (m + 1) r s' (by omega) h2 (by omega) (fun i a => ?_) h5 hi' q
    by_cases e : i = m
    ·rw [e]; exact d2
    ·exact T.trans _ _ _ (hp.lt (by omega)) (hp.lt (by omega)) (hp.lt hk) (hu i m (by omega) (by omega)) d2
theorem bub_at {p : Array Nat} {k l i : Nat} (hk : k < p.size) (hl : l ≤ k) : (bubble p k (k - l)).getD i 0 = if i = l then p.getD k 0 else if l < i ∧ i ≤ k then p.getD (i - 1) 0 else p.getD i 0 := by
 have e : ∀ (q : Array Nat) (j : Nat), q.getD j 0 = q[j]?.getD 0 := fun q j => Array.getD_eq_getD_getElem? ..
 rw [e, e, e, e, getElem?_bubble hk (k - l) (by omega), show k - (k - l) = l by omega]
 split
 ·rfl
 ·split <;> rfl
theorem kas_bin_any {Q : Array Nat → Shared → Prop} (A : Asks cmp lt n I) (T : Tot lt n) :
  ∀ (f k : Nat) (p : Array Nat) (s : Shared), k + f = n → Pm p n → Up lt p k → I s → (∀ p' s', Pm p' n → Up lt p' n → I s' → Q p' s') → (kas_bin f p k).kasWp cmp Q s
 | 0, k, p, s, hk, hp, hu, hi, q => q p s hp (by rw [← show k = n by omega]; exact hu) hi
 | f + 1, k, p, s, hk, hp, hu, hi, q => by
  unfold kas_bin
  rw [KasT.kasWp_bind]
  refine kas_place_any A T hp (by omega) hu k 0 k s (Nat.zero_le _) (Nat.le_refl _) (by omega) (fun i z => absurd z (Nat.not_lt_zero _)) (fun i a b => by omega) hi fun l s' h1 h2 h3 hi' => ?_
  have hs := hp.size
  refine kas_bin_any A T f (k + 1) _ s' (by omega) (Array.Perm.trans (bubble_perm _ _ _) hp) (fun i j hij hj => ?_) hi' q
  rw [bub_at (by omega) h1, bub_at (by omega) h1]
  by_cases c1 : i = l
  ·rw [if_pos c1, if_neg (by omega), if_pos (by omega)]
   exact h3 _ (by omega) (by omega)
  ·rw [if_neg c1]
   by_cases c2 : j = l
   ·rw [if_pos c2, if_neg (by omega)]
    exact h2 i (by omega)
   ·rw [if_neg c2]
    by_cases c3 : l < i ∧ i ≤ k
    ·rw [if_pos c3, if_pos (by omega)]
     exact hu _ _ (by omega) (by omega)
    ·rw [if_neg c3]
     by_cases c4 : l < j ∧ j ≤ k
     ·rw [if_pos c4]
      exact hu _ _ (by omega) (by omega)
     ·rw [if_neg c4]
      exact hu _ _ hij (by omega)
theorem kas_sort_any {Q : Array Nat → Shared → Prop} {s : Shared} (A : Asks cmp lt n I) (T : Tot lt n) (h1 : 1 ≤ n) (hi : I s) (q : ∀ p' s', Pm p' n → Up lt p' n → I s' → Q p' s') : (kas_sort n).kasWp cmp Q s := by
 unfold kas_sort
 rw [KasT.kasWp_bind]
 refine kas_count_any A T (Array.Perm.refl _) h1 hi fun m p s' g1 g2 g3 g4 g5 => ?_
 by_cases c : m < n
 ·rw [if_pos c]
  show (kas_bin (n - max m 1) p (max m 1)).kasWp cmp Q s'
  rw [show max m 1 = m by omega]
  exact kas_bin_any A T _ m p s' (by omega) g3 g4 g5 q
 ·rw [if_neg c]
  exact q p s' g3 (by rw [← show m = n by omega]; exact g4) g5
end
end L2
namespace L2
open PySem PySem.Calls PyProof.Rows PySem.W
section
variable {prog : Program} {w : World} {A : Around} {E : Value → Shared → Prop} {s : Shared}
theorem sort_few {a : Addr} {vs : List Value} {n : Nat} {P : PySem.Fin → Shared → Prop} (h1 : vs.length ≤ 1) (ho : s.heap.get? a = some (seqObj "list" vs.toArray n))
  (k : ∀ h' c, (∀ b o, b ≠ a → s.heap.get? b = some o → h'.get? b = some o) → h'.get? a = some (seqObj "list" vs.toArray c) → P (.done (.ret .none)) { s with heap := h' }) : wpAny (model prog w) A (Builtin.«list.sort» ⟨[.ref a], []⟩) P E s := by
 have hsz : vs.toArray.size = vs.length := rfl
 obtain ⟨e1, ho1⟩ : ∃ e1, (s.heap.update a (Obj.mapSeq fun _ => (#[] : Array Value))).get? a = some (seqObj "list" #[] e1) := ⟨_, get?_update_seq ho fun _ => #[]⟩
 have s1 := Heap.SameBut.update s.heap a (Obj.mapSeq fun _ => (#[] : Array Value))
 have ho2 : (((s.heap.update a (Obj.mapSeq fun _ => (#[] : Array Value))).push (seqObj "tuple" vs.toArray 0)).push (seqObj "list" #[] 0)).get? a = some (seqObj "list" #[] e1) := Heap.get?_push_of_some _ (Heap.get?_push_of_some _ ho1)
 rw [list_sort_plain]
 refine wpAny_bind (listItems_at ho rfl (wpAny_bind (listUpdate_at ho rfl ?_ (by rw [hsz, sizeLine_eq]; omega) (Nat.zero_le _))))
 refine wpAny_bind (seqEpoch_at ho1 rfl (wpAny_bind (wpAny_newTuple ?_ (by rw [sizeLine_eq]; show vs.toArray.toList.length ≤ _; rw [show vs.toArray.toList.length = vs.length from rfl]; omega))))
 refine wpAny_bind (wpAny_newList (wpAny_holding ?_) (Nat.zero_le _))
 show wpAny (model prog w) A _ P E { s with heap := ((s.heap.update a (Obj.mapSeq fun _ => (#[] : Array Value))).push (seqObj "tuple" vs.toArray 0)).push (seqObj "list" #[] 0) }
 dsimp only
 have h12 : vs.toArray.size < 2 := by rw [hsz]; omega
 rw [if_pos h12, if_pos h12]
 refine wpAny_bind (wpAny_pure (wpAny_bind (wpAny_pure ?_)))
 dsimp only
 have ea : (arrOf (SortSt.mk' general' (vs.toArray.zip vs.toArray) #[] 7 none)).map (·.2) = vs.toArray := by
  show (vs.toArray.zip vs.toArray).map (·.2) = vs.toArray
  match vs, h1 with
  | [], _ => simp
  | [v], _ => simp
 rw [ea]
 have s2 := Heap.SameBut.update (((s.heap.update a (Obj.mapSeq fun _ => (#[] : Array Value))).push (seqObj "tuple" vs.toArray 0)).push (seqObj "list" #[] 0)) a (Obj.mapSeq fun _ => vs.toArray)
 obtain ⟨c2, hc2⟩ : ∃ c2, ((((s.heap.update a (Obj.mapSeq fun _ => (#[] : Array Value))).push (seqObj "tuple" vs.toArray 0)).push (seqObj "list" #[] 0)).update a (Obj.mapSeq fun _ => vs.toArray)).get? a = some (seqObj "list" vs.toArray c2) := ⟨_, get?_update_seq ho2 fun _ => vs.toArray⟩
 refine wpAny_bind (seqEpoch_at ho2 rfl (wpAny_bind (listUpdate_at ho2 rfl ?_ (Nat.zero_le _) (by rw [hsz, sizeLine_eq]; omega))))
 rw [if_neg (by simp)]
 refine wpAny_pure (k _ c2 (fun b o hb e => ?_) hc2)
 exact (s2.2 b hb).trans (Heap.get?_push_of_some _ (Heap.get?_push_of_some _ ((s1.2 b hb).trans e)))
theorem sorted_few {l : Addr} {vs : List Value} {Q : Value → Shared → Prop} (h1 : vs.length ≤ 1) (hl : s.heap.IsList l vs.toArray)
  (q : ∀ (D : Addr) (h' : Heap) (c : Nat), s.heap.objs.size ≤ D → (∀ b o, s.heap.get? b = some o → h'.get? b = some o) → h'.get? D = some (listOf vs.toArray c) → Q (.ref D) { s with heap := h' }) :
  wpAny (model prog w) A (call (.builtin "sorted") [.ref l]) Q E s := by
 refine Calls.call_function_entry kind_sorted plain_sorted entry_sorted (args_sorted1 _) ?_
 unfold Builtin.«sorted»; refine wpAny_bind (m := checkCount "sorted" 1 1 _) (wpAny_pure ?_)
 refine wpAny_bind (collect_list (vs := vs) hl ?_ (by rw [sizeLine_eq]; omega))
 refine wpAny_bind (wpAny_newList ?_ (by rw [sizeLine_eq]; omega))
 have kU : ∀ b o, s.heap.get? b = some o → ((s.heap.push (seqObj "list" #[] 0)).update s.heap.objs.size (Obj.mapSeq fun x => x ++ vs.toArray)).get? b = some o := fun b o e => by
  rw [Heap.get?_update_ne _ _ _ _ (Nat.ne_of_lt (Heap.lt_size e))]
  exact Heap.get?_push_of_some _ e
 have zU : s.heap.objs.size ≤ ((s.heap.push (seqObj "list" #[] 0)).update s.heap.objs.size (Obj.mapSeq fun x => x ++ vs.toArray)).objs.size := by
  rw [Heap.size_update, Heap.size_push]
  exact Nat.le_succ _
 show wpAny _ _ _ _ _ { s with heap := ((s.heap.push (seqObj "list" #[] 0)).update s.heap.objs.size (Obj.mapSeq fun x => x ++ vs.toArray)).push (seqObj "list" vs.toArray 0) }
 dsimp only
 generalize (s.heap.push (seqObj "list" #[] 0)).update s.heap.objs.size (Obj.mapSeq fun x => x ++ vs.toArray) = U at *
 have hoL : (U.push (seqObj "list" vs.toArray 0)).get? U.objs.size = some (seqObj "list" vs.toArray 0) := Heap.get?_push_size _ rfl
 refine wpAny_bind (wpAny_holding (wpAny_call_entry slot_list_sort ⟨_, hoL, rfl⟩ entry_list_sort ?body (args_list_sort _)))
 case body =>
  refine sort_few (s := { s with heap := U.push (seqObj "list" vs.toArray 0) }) h1 hoL fun h' c kp hd => ⟨_, rfl, wpAny_pure ⟨_, rfl, q _ h' c zU (fun b o e => kp b o ?_ (Heap.get?_push_of_some _ (kU b o e))) hd⟩⟩
  exact Nat.ne_of_lt (Nat.lt_of_lt_of_le (Heap.lt_size e) zU)
end
end L2
namespace L2
open PySem PySem.Spec PyProof.Rows
noncomputable def rSort0 (K : PySem.W.Frag) : List V → Hp → VK → Prop := fun xs H Q => ∃ l qs, xs = [.ref l] ∧ SqL K H l qs ∧ qs.length ≤ 1 ∧ ∀ p, H p = none → Q (.ref p) (upd H p (.lst qs))
theorem vals_pick {qs : List V} {its : List Value} (h : Paired RelV qs its) : ∀ {is : List Nat}, (∀ i ∈ is, i < qs.length) → Paired RelV (is.map fun i => qs.getD i .non) (is.map fun i => its.getD i .none) := by
 have at_ : ∀ i, i < qs.length → RelV (qs.getD i .non) (its.getD i .none) := by
  induction h with
  | nil => intro i hi; cases hi
  | cons r t ih =>
   intro i hi
   cases i with
   | zero => exact r
   | succ i => exact ih i (Nat.lt_of_succ_lt_succ hi)
 intro is hm
 induction is with
 | nil => exact .nil
 | cons i is ih => exact .cons (at_ i (hm i List.mem_cons_self)) (ih fun j hj => hm j (List.mem_cons_of_mem _ hj))
section
variable {X : Cx}
theorem call_sort0 : CallR X (.builtin "sorted") (rSort0 X.K) := by
 intro pins s σ H xs us Q I r h
 obtain ⟨l, qs, rfl, hq, h1, q⟩ := h
 obtain ⟨u, rfl, rx⟩ := vals1 r
 cases rx
 obtain ⟨its, rv, pl, hz⟩ := I.list hq
 have hlen : qs.length = its.length := rv.length
 refine sorted_few (by omega) pl.isList fun D h' c hD kp hd => ?_
 exact ⟨.ref D, _, I.laid (t' := s.toks) kp hD (show ObjOk X.prog X.w _ h' D (.lst qs) from ⟨hz, its, c, rv, hd⟩), rfl, q D (I.hok.fresh hD)⟩
end
noncomputable def srtP (ks : List (Int × Int)) : List (Int × Int) := ks.mergeSort fun a b => !prLt b a
end L2
namespace L2.VS
open PySem PySem.Spec PyProof.Rows
variable {P0 : Addr → Hp → Prop} {ta : TE} {ma : ME} {K : PySem.W.Frag}
noncomputable def mSortN (ma : ME) : MO := fun Γ Q => ma Γ fun x Γ1 => ∃ ks : List (Int × Int), x = .list (prsD ks) ∧ ks.length < 64 ∧ ks.Nodup ∧ Q (.own (prsD (srtP ks))) Γ1
theorem i_sortN {ma : ME} {Γ : En} {Q : Rv → En → Prop} (h : ma Γ fun x Γ1 => ∃ ks : List (Int × Int), x = .list (prsD ks) ∧ ks.length < 64 ∧ ks.Nodup ∧ Q (.own (prsD (srtP ks))) Γ1) : mSortN ma Γ Q := h
end L2.VS
namespace L2
open PySem PySem.Spec PyProof.Rows
structure UnB (fs : List Addr) (H H' : Hp) (h B h' : Heap) : Prop where
 keep : ∀ b o, h.get? b = some o → H b = none → b ∉ fs → B.get? b = some o
 slot : ∀ b o, h.get? b = some o → b ∈ fs → ∃ sl, h'.get? b = some { o with slots := sl }
 free : ∀ b o, h.get? b = some o → H b = none → H' b = none
 there : ∀ b o, h.get? b = some o → b ∉ fs → ∃ o', B.get? b = some o'
 tups : ∀ b xs, H b = some (.tup xs) → H' b = some (.tup xs)
 frzs : ∀ b o u, H b = some (.frz o u) → H' b = some (.frz o u)
 tbls : ∀ b ps, H b = some (.tbl ps) → ∃ more, H' b = some (.tbl (ps ++ more))
noncomputable def CX1 (P : Program) (w : World) : CXT := fun outer H s E e s' => ∃ (ea C : Addr) (a0 : Value) (B : Heap) (H' : Hp), e = .ref ea ∧ s'.os = s.os ∧ AllBare s'.gens ∧
 Heap.FlyingW B outer ea (.ref C) a0 s'.heap ∧ UnB (frs outer) H H' s.heap B s'.heap ∧ HOk P w H' B ∧ E (.ref C) (some ea) H'
section
variable {X : Cx} {pins : List (Addr × Obj)} {σ : St} {H : Hp} {s : Shared} {M : Model} {F : Value → Shared → Prop} {E E' : XK}
theorem Inv.frsS (hs : X.stack = X.env :: X.outer) (hf : X.env.frame = some X.env.locals) : frs X.stack = X.env.locals :: frs X.outer := by
 rw [hs]
 unfold frs
 rw [List.filterMap_cons, hf]
theorem Inv.nstk (I : Inv X pins σ H s) (hs : X.stack = X.env :: X.outer) (hf : X.env.frame = some X.env.locals) {b : Addr} {o : Obj} (q : X.s₀.heap.get? b = some o) (hb : b ∉ frs X.outer) : b ∉ frs X.stack := fun z => by
 rw [Inv.frsS hs hf] at z
 rcases List.mem_cons.mp z with e | e
 ·exact absurd (Nat.lt_of_lt_of_le (Heap.lt_size q) I.ok.above) (by rw [e]; exact Nat.lt_irrefl _)
 ·exact hb e
theorem Inv.leave1 {e C : Addr} {vs : List Value} {h' : Heap} (I : Inv X pins σ H s) (hs : X.stack = X.env :: X.outer) (hf : X.env.frame = some X.env.locals) (hex : X.ex = [])
  (hx : Heap.MadeExcOf s.heap h' e (.ref C) vs) (hE : ∀ ea, E (.ref C) (some ea) H) :
  wpAny M X.A (leaving X.env (.ref e)) (fun _ s2 => CX1 X.prog X.w X.outer X.H₀ X.s₀ E (.ref e) s2) F { s with heap := h' } := by
 have hin : ∀ env ∈ X.stack, ∀ b, env.frame = some b → b ∈ frs X.stack := fun env he b hb => List.mem_filterMap.mpr ⟨env, he, hb⟩
 have stk := PySem.W.funFrames_hide I.stack hin
 have nex : ∀ b : Addr, b ∉ X.ex := fun b z => by rw [hex] at z; exact nomatch z
 refine wpAny_leaves_madeW (base := PySem.W.hideAll s.heap (frs X.stack)) (h := s.heap) (outer := X.outer) (L := X.env.locals) (by rw [← hs]; exact I.ok.frames) hf (fun b o q => PySem.W.of_hideAll _ q) (by rw [← hs]; exact stk) hx fun h2 t fl tup _ ups => ?_
 refine ⟨e, C, _, _, H, rfl, I.os, I.bare, fl, ⟨fun b o q n hb => ?_, fun b o q hb => ?_, fun b o q n => I.base.free b o q n (nex b), fun b o q hb => ?_, I.base.tups, I.base.frzs, I.base.tbls⟩, fun b o q => ?_, hE e⟩
 ·exact PySem.W.hideAll_get _ (I.base.keep b o q n hb (nex b)) (I.nstk hs hf q hb)
 ·obtain ⟨sl, q1⟩ := I.base.slot b o q (I.ok.frf b hb) hb (nex b)
  obtain ⟨_, o', q2, nf⟩ := I.ok.funs.mem hb
  rw [q] at q2
  cases q2
  obtain ⟨sl2, q3⟩ := ups b _ (hx.keeps _ _ q1) nf
  exact ⟨sl2, q3⟩
 ·obtain ⟨o', q1⟩ := I.base.there b o q (nex b)
  exact ⟨o', PySem.W.hideAll_get _ q1 (I.nstk hs hf q hb)⟩
 ·refine (I.hok b o q).stay (fun c u hc q1 => PySem.W.hideAll_get _ q1 fun z => ?_) (fun _ q => q) fun _ _ q => q
  have hn := I.stkFree c z
  rcases hc with hc | hc
  ·rw [hc, q] at hn; cases hn
  ·rw [hc] at hn; cases hn
end
section
variable {P : Program} {w : World} {K : PySem.W.Frag} {mg : Str → Option Value} {base : Heap} {N : List Str} {qual : Str} {scope : Scope} {f : Addr} {cd : Value} {A : Around} {outer : List Env} {s : Shared} {H : Hp} {E E' : XK}
end
theorem exc_in {K : PySem.W.Frag} {C : Addr} {bmB : List Value} {newId : String} {h : Heap} (G : K.In h) (z : PySem.W.excIn K C bmB newId = true) :
  ∃ bm N nm q bs hdct sn sub ab col dd k0 k1 k2 k3 k5 mN, h.get? C = some (excClassObj nm q C N bs bm hdct sn sub ab col dd k0 k1 k2 k3 k5 newId) ∧ h.Ns N mN ∧ mN "__init__" = none ∧ OwnTail h bmB bm ∧ K.lookup C = some (excClassObj nm q C N bs bm hdct sn sub ab col dd k0 k1 k2 k3 k5 newId) := by
 unfold PySem.W.excIn at z
 split at z
 next dd cd sl ho =>
  split at z
  next D bm k0 k1 k2 k3 n k5 hm hs =>
   simp only [Bool.and_eq_true, beq_iff_eq, Bool.not_eq_true'] at z
   obtain ⟨⟨⟨⟨⟨e1, e2⟩, e3⟩, e4⟩, e5⟩, e6⟩ := z
   obtain ⟨nm, bs, mro, ns, qn, hd, sn, sub, ab, col, del⟩ := cd
   obtain ⟨l⟩ := sl
   dsimp only at hm hs e3 e5 e6
   subst e1 e2 hm hs e3
   exact ⟨bm, ns, nm, qn, bs, hd, sn, sub, ab, col, dd, k0, k1, k2, k3, k5, _, G _ _ ho, Heap.Ns.of_isNs (PySem.W.isNs_of_in G e5), PySem.W.nsMap_none_of_in G e5 e6, PySem.W.tail_of_in G e4, ho⟩
  next => cases z
 next => cases z
section
variable {X : Cx} {E : XK} {x : Str} {C : Addr} {B newId initId : String} {bmB : List Value} {e0 : Expr} {np cpos pos : Pos} {t : TA}
noncomputable def tRaise (C : Addr) (E : XK) (t : TA) : TS := fun _ σ H => t σ H fun vs H1 => vs.length ≤ sizeLine ∧ ∀ ea, E (.ref C) (some ea) H1
theorem ps_raise (hxe : ∀ (pins : List (Addr × Obj)) (σ : St) (H : Hp) (s : Shared) (h' : Heap) (e : Addr) (vs : List Value), Inv X pins σ H s → Heap.MadeExcOf s.heap h' e (.ref C) vs → (∀ ea, E (.ref C) (some ea) H) → X.xe (.ref e) { s with heap := h' })
  (hcalm : X.calm = true) (hg : Gl X x) (hm : X.mg x = some (.ref C)) (z : PySem.W.excIn X.K C bmB newId = true) (FB : ExcBaseFacts B newId initId bmB) (ha : PA X [e0] t)
  (he : starEach [e0] X.env = [(false, eval e0 X.env)] := by rfl) (hd : (x == ("__debug__" : Str)) = false := by decide) :
  PS X (.Raise (some (.Call (.Name x np) [e0] [] cpos)) none pos) (tRaise C E t) := by
 intro pins s σ H D I h
 obtain ⟨bm, Nn, nm, q, bs, hdct, sn, sub, ab, col, dd, k0, k1, k2, k3, k5, mN, hC, hN, hni, T, hl⟩ := exc_in I.mod.kin z
 refine wpAny_Raise_call_subT (C := C) (nm := nm) (q := q) (N := Nn) (bs := bs) (bm := bm) (hdct := hdct) (sn := sn) (sub := sub) (ab := ab) (col := col) (dd := dd) (k0 := k0) (k1 := k1) (k2 := k2) (k3 := k3) (k5 := k5)
  FB (mN := mN) (T.hasType FB.hasBase) (I.ok.hd hcalm) (by rw [he]; rfl) hni (ld_glob I hg hm ⟨rfl, ?_⟩ hd)
 have hh := ha cpos pins s σ H _ I h
 rw [he] at hh ⊢
 refine Calls.evalArgs_plain (wpAny_mono hh (fun vs s2 h2 => ?_) fun _ _ y => y)
 obtain ⟨ws, H1, I1, r1, hw, hE⟩ := h2
 exact ⟨rfl, by rw [← r1.length]; exact hw, I1.bk _ _ hC, hN.keeps I1.bk, T.keeps I1.bk, fun h' e hx => hxe pins σ H1 s2 h' e vs I1 hx hE⟩
end
theorem Fun.ok1 {P : Program} {w : World} {K : PySem.W.Frag} {mg : Str → Option Value} {base : Heap} {x qual : Str} {st : Stmt} {f : Addr} {fd : FuncData} {N ps : List Str} {k : Nat} {sp : Sp} (F : Fun K x qual st f fd) (S : FnScope N ps (defScope st)) (len : ∀ vs H Q E, sp vs H Q E → vs.length = ps.length)
  (hb : ∀ (cdv : Value) (A : Around) (outer : List Env) (s : Shared) (H : Hp) (vs : List V) (Q : VK) (E : XK), Room k (A.deeper (envOfC qual (defScope st) s.heap.objs.size f cdv)) → sp vs H Q E →
   ∃ t, PSs (cxOf (CX1 P w) P w K mg base N qual (defScope st) f cdv A outer s H E) (defBody st) t ∧ t { nx := fun _ H' => Q .non H', rt := Q } (start N vs) H) : FnOk P w K mg base (CX1 P w) (k + 1) f fd ps sp := by
 obtain ⟨oc, od, kV, doc, pm, an, cdv, ct, osl, rfl, lk, hcd⟩ := F.ex
 exact fn_of lk hcd S len fun A outer s H vs Q E hr hsp => hb cdv A outer s H vs Q E hr hsp
end L2
namespace L2
open PySem PySem.Spec PyProof.Rows
set_option maxRecDepth 100000
section
variable {prog : Program} {w : World} {A : Around} {E : Value → Shared → Prop} {h : Heap} {g : Array GenState} {d : Drawn} {t : Nat} {os : OsState} {a : Addr} {o : Obj}
 {nm q : Str} {C N : Addr} {bs bm : List Value} {hdct : Bool} {sn : List Str} {sub : List Value} {ab : Bool} {col : Option Bool} {dd : Option Addr} {k0 k1 k2 k3 k5 : Option Value} {newId : String}
noncomputable def Lk (prog : Program) (w : World) (h : Heap) (c : Value) (n : Str) (r : Option Value) : Prop := ∀ (A : Around) (Q : Option Value → Shared → Prop) (E : Value → Shared → Prop) (s : Shared), s.heap = h → Q r s → wpAny (model prog w) A (typeLookup c n) Q E s
theorem Lk.at {c : Value} {n : Str} {r : Option Value} {Q : Option Value → Shared → Prop} (l : Lk prog w h c n r) (hq : Q r ⟨h, g, d, t, os⟩) : wpAny (model prog w) A (typeLookup c n) Q E ⟨h, g, d, t, os⟩ := l _ _ _ _ rfl hq
theorem xc_get {R : Result → Shared → Prop} (hC : h.get? C = some (excClassObj nm q C N bs bm hdct sn sub ab col dd k0 k1 k2 k3 k5 newId)) (ho : bm.contains (.type "object") = true)
  (hx : h.get? a = some o) (hc : o.cls = .ref C) (hq : R (.ok (.ret (.ref C))) ⟨h, g, d, t, os⟩) :
  codeAny (model prog w) A (.call (.builtin "getset_descriptor.__get__") ⟨[.builtin "object.__class__", .ref a, .ref C], []⟩) R ⟨h, g, d, t, os⟩ := by
 have y1 : (⟨h, g, d, t, os⟩ : Shared).TypeIs (.builtin "object.__class__") "getset_descriptor" := F.typeOf_object_class
 have y2 : (Value.ref C :: bm).contains (.type (".".intercalate ("object.__class__".cutAt '.').dropLast)) = true := by
  rw [F.owner_object_class, List.contains_cons, ho, Bool.or_true]
 refine codeAny_call_builtin F.slot_gs_get.plain F.entry_gs_get (F.slot_gs_get.check _ _ _ _ _ _ _ _ y1 (F.args_gs_get _ _ _) ?_)
 repeat (any_goals (first | assumption | (with_reducible refine wpAny_loadPart_at hx ?_; rw [hc]) | (with_reducible refine wpAny_isSubtype_exc hC ?_; rw [y2]) | wp_step))
 refine ⟨Code.quiet_builtin _ (by decide +kernel), codeAny_builtin F.entry_object_class ?_⟩
 repeat (any_goals (first | assumption | (with_reducible refine wpAny_loadPart_at hx ?_; rw [hc]) | wp_step))
theorem xc_entry {tk : Tok} {Q : Fin → Shared → Prop} (hC : h.get? C = some (excClassObj nm q C N bs bm hdct sn sub ab col dd k0 k1 k2 k3 k5 newId)) (ho : bm.contains (.type "object") = true)
  (l1 : Lk prog w h (.ref C) "__class__" (some (.builtin "object.__class__"))) (hx : h.get? a = some o) (hc : o.cls = .ref C) (hq : Q (.done (.ret (.ref C))) ⟨h, g, d, t, os⟩) :
  wpAny (model prog w) A (Builtin.«object.__getattribute__» ⟨[.ref a, .str "__class__" tk], []⟩) Q E ⟨h, g, d, t, os⟩ := by
 have y1 : (⟨h, g, d, t, os⟩ : Shared).TypeIs (.builtin "object.__class__") "getset_descriptor" := F.typeOf_object_class
 have y2 := F.typeOf_object_class
 have y3 := F.slot_gs_get.lookup
 have y4 := F.slot_gs_set.lookup
 repeat (any_goals (first | assumption | (with_reducible refine wpAny_loadPart_at hx ?_; rw [hc]) | with_reducible refine l1.at ?_ | wp_step))
 refine xc_get hC ho hx hc ?_
 repeat (any_goals (first | assumption | wp_step))
theorem xc_check {M : Model} {v : Value} {Q : Unit → Shared → Prop} (hC : h.get? C = some (excClassObj nm q C N bs bm hdct sn sub ab col dd k0 k1 k2 k3 k5 newId)) (hb : bm.contains (.type "BaseException") = true)
  (hx : h.get? a = some o) (hc : o.cls = .ref C) (hq : Q () ⟨h, g, d, t, os⟩) : wpAny M A (checkBuiltinCall "BaseException.__getattribute__" ⟨[.ref a, v], []⟩) Q E ⟨h, g, d, t, os⟩ := by
 have y1 : builtinKind "BaseException.__getattribute__" = some .slot := by decide +kernel
 have y2 : splitId "BaseException.__getattribute__" = some ("BaseException", "__getattribute__") := by decide +kernel
 have y3 : (Value.ref C :: bm).contains (.type "BaseException") = true := by rw [List.contains_cons, hb, Bool.or_true]
 have y4 := F.args_bexc_ga (.ref a) v
 simp only [checkBuiltinCall, y1, y2]
 refine wpAny_bind ?_
 unfold isInstance
 repeat (first | (with_reducible refine wpAny_loadPart_at hx ?_; rw [hc]) | (with_reducible refine wpAny_isSubtype_exc hC ?_; rw [y3]) | wp_step)
 exact hq
theorem xc_attr {Q : Option Value → Shared → Prop} (ga : Slot "ValueError" "__getattribute__" "BaseException.__getattribute__") (hC : h.get? C = some (excClassObj nm q C N bs bm hdct sn sub ab col dd k0 k1 k2 k3 k5 newId)) (ho : bm.contains (.type "object") = true) (hb : bm.contains (.type "BaseException") = true)
  (l1 : Lk prog w h (.ref C) "__class__" (some (.builtin "object.__class__"))) (l2 : Lk prog w h (.ref C) "__getattribute__" (some (.builtin "BaseException.__getattribute__")))
  (l3 : Lk prog w h (.ref C) "__getattr__" none) (hx : h.get? a = some o) (hc : o.cls = .ref C) (hq : Q (some (.ref C)) ⟨h, g, d, t + 1, os⟩) : wpAny (model prog w) A (getAttr? (.ref a) "__class__") Q E ⟨h, g, d, t, os⟩ := by
 have y1 := ga.bind (.ref a)
 have y2 : (Value.builtin "BaseException.__getattribute__" == Value.builtin "object.__getattribute__") = false := by decide +kernel
 have y3 : (onTheHeap (Value.ref C) && Value.builtin "BaseException.__getattribute__" == Value.builtin "object.__getattribute__") = false := by rw [y2]; rfl
 have ht : ∀ t, (⟨h, g, d, t, os⟩ : Shared).heap = h := fun _ => rfl
 unfold getAttr? getAttrBy? getAttrBy
 repeat (any_goals (first | assumption | (with_reducible refine wpAny_loadPart_at hx ?_; rw [hc]) | with_reducible refine l2.at ?_ | with_reducible refine l3.at ?_ | wp_step))
 refine codeAny_call_builtin ga.plain F.entry_bexc_ga (xc_check hC hb hx hc (xc_entry hC ho l1 hx hc ?_))
 repeat (any_goals (first | assumption | wp_step))
theorem xc_matches {M : Model} {e D N' : Addr} {nm' q' : Str} {bs' bm' : List Value} {hdct' : Bool} {sn' : List Str} {sub' : List Value} {ab' : Bool} {col' : Option Bool} {dd' : Option Addr} {j0 j1 j2 j3 j5 : Option Value} {newId' : String} {Q : Bool → Shared → Prop}
  (hC : h.get? C = some (excClassObj nm q C N bs bm hdct sn sub ab col dd k0 k1 k2 k3 k5 newId)) (hD : h.get? D = some (excClassObj nm' q' D N' bs' bm' hdct' sn' sub' ab' col' dd' j0 j1 j2 j3 j5 newId'))
  (he : h.get? e = some o) (hc : o.cls = .ref C) (hb : bm'.contains (.type "BaseException") = true) (y2 : (Value.ref C :: bm).contains (.ref D) = true) (hq : Q true ⟨h, g, d, t, os⟩) : wpAny M A (excMatches (.ref e) (.ref D)) Q E ⟨h, g, d, t, os⟩ := by
 have y1 : (Value.ref D :: bm').contains (.type "BaseException") = true := by rw [List.contains_cons, hb, Bool.or_true]
 have y3 := tc_notTuple
 unfold excMatches
 repeat (first | (with_reducible refine wpAny_loadPart_at he ?_; rw [hc]) | with_reducible refine wpAny_loadPart_at hD ?_ | (with_reducible refine wpAny_isSubtype_exc hD ?_; rw [y1]) | (with_reducible refine wpAny_isSubtype_exc hC ?_; rw [y2]) | wp_step)
 exact hq
end
noncomputable def ExAt (a C : Addr) (h : Heap) : Prop := ∃ o, h.get? a = some o ∧ o.cls = .ref C
noncomputable def ExO (a C : Addr) : HO := .ext (ExAt a C)
theorem exo_ok {P : Program} {w : World} {H : Hp} {h : Heap} {a C : Addr} {o : Obj} (q : h.get? a = some o) (c : o.cls = .ref C) : ObjOk P w H h a (ExO a C) :=
 ⟨⟨o, q, c⟩, ⟨o, q⟩, fun _ _ ⟨o, q, c⟩ k => ⟨o, k o q, c⟩⟩
noncomputable def vmro : List Value := [.type "ValueError", .type "Exception", .type "BaseException", .type "object"]
structure XCls (K : PySem.W.Frag) (C : Addr) : Prop where
 ex : PySem.W.excIn K C vmro "ValueError.__new__" = true
 l1 : PySem.W.findIn K (.ref C) "__class__" = some (some (.builtin "object.__class__"))
 l2 : PySem.W.findIn K (.ref C) "__getattribute__" = some (some (.builtin "BaseException.__getattribute__"))
 l3 : PySem.W.findIn K (.ref C) "__getattr__" = some none
theorem Lk.of {K : PySem.W.Frag} {prog : Program} {w : World} {h : Heap} {c : Value} {n : Str} {r : Option Value} (X : K.In h) (e : PySem.W.findIn K c n = some r) : Lk prog w h c n r := fun A Q E s hs hq => by
 obtain ⟨hh, g, d, t, os⟩ := s
 cases hs
 exact (PySem.W.looks_findIn X e).at hq
theorem XCls.kit {K : PySem.W.Frag} {a C : Addr} (z : XCls K C) : PySem.W.KitX K (.ref a) (.ref C) (ExAt a C) where
 ty := fun M h _ ⟨o, q, c⟩ => c ▸ (PySem.W.Looks.ld q).andThen .now
 it := fun M h G _ => by
  obtain ⟨bm, Nn, nm, q, bs, hdct, sn, sub, ab, col, dd, k0, k1, k2, k3, k5, mN, hC, hN, hni, T, hl⟩ := exc_in G z.ex
  intro A Q E s k r
  unfold isType loadHead
  exact wpAny_bind (wpAny_loadPart (k _ _ hC) (wpAny_pure r))
 ne := fun h tp dd its n sl G htp => by
  obtain ⟨bm, Nn, nm, q, bs, hdct, sn, sub, ab, col, dd, k0, k1, k2, k3, k5, mN, hC, hN, hni, T, hl⟩ := exc_in G z.ex
  refine Bool.eq_false_iff.mpr fun q => ?_
  have e : C = tp := Value.ref.inj (beq_iff_eq.mp q)
  subst e
  rw [hC] at htp
  have z2 := congrArg Obj.data (Option.some.inj htp)
  cases z2
 ca := fun {prog w A E Q s} G p k => by
  obtain ⟨bm, Nn, nm, q, bs, hdct, sn, sub, ab, col, dd, k0, k1, k2, k3, k5, mN, hC, hN, hni, T, hl⟩ := exc_in G z.ex
  obtain ⟨hh, g, d, t, os⟩ := s
  obtain ⟨o, q, c⟩ := p
  exact xc_attr PySem.F.attrBase_ValueError.ga hC (T.hasType (by decide)) (T.hasType (by decide)) (Lk.of G z.l1) (Lk.of G z.l2) (Lk.of G z.l3) q c k
noncomputable def rIsX (K : PySem.W.Frag) : List V → Hp → VK → Prop := fun xs H Q => ∃ (ea C : Addr) (c : V) (b : Bool), xs = [.ref ea, c] ∧ H ea = some (ExO ea C) ∧ XCls K C ∧
 ((∃ u, (∀ v, RelV c v → v = u) ∧ PySem.W.kitOne K (.ref C) u = some b) ∨ ∃ (tp : Addr) (cs : List V) (us : List Value), c = .ref tp ∧ H tp = some (.tup cs) ∧ (∀ vs, Vals cs vs → vs = us) ∧ PySem.W.kitAny K (.ref C) us = some b) ∧ Q (.bl b) H
theorem call_isX {X : Cx} : CallR X (.builtin "isinstance") (rIsX X.K) := by
 intro pins s σ H xs us Q I r h
 obtain ⟨ea, C, c, b, rfl, hE, z, hc, q⟩ := h
 cases r with
 | cons r1 r =>
  cases r with
  | cons r2 r =>
   cases r
   have e1 := (show _ = Value.ref ea from r1)
   subst e1
   obtain ⟨hx, _, _⟩ := (show ObjOk X.prog X.w H s.heap ea (ExO ea C) from I.hok ea _ hE)
   rcases hc with ⟨u, hu, hk⟩ | ⟨tp, cs, us, rfl, ht, hu, hk⟩
   ·rw [hu _ r2]
    exact PySem.W.kia_one z.kit I.kIn hx hk (fun z => nomatch z) fun tk => ⟨.bl b, H, I.tok _, rfl, q⟩
   ·have e2 := (show _ = Value.ref tp from r2)
    subst e2
    obtain ⟨_, its, rv, o, h1, h2, n, h3⟩ := (show ObjOk X.prog X.w H s.heap tp (.tup cs) from I.hok tp _ ht)
    rw [hu _ rv] at h3
    obtain ⟨oc, od, dt, sl⟩ := o
    dsimp only at h2 h3
    subst h2 h3
    exact PySem.W.kia_tup z.kit I.kIn hx h1 hk (fun z => nomatch z) fun tk => ⟨.bl b, H, I.tok _, rfl, q⟩
end L2
namespace L2
open PySem PySem.Spec PyProof.Rows
section
variable {X : Cx} {pins : List (Addr × Obj)} {σ : St} {H : Hp} {s : Shared}
abbrev Cx.marked (X : Cx) (e : Value) : Cx := { X with A := X.A.mark (some e), calm := false, xe := fun _ _ => False }
theorem Inv.marked (I : Inv X pins σ H s) (e : Value) : Inv (X.marked e) pins σ H s :=
 ⟨⟨I.ok.mod, I.ok.kind, I.ok.glob, I.ok.blt, I.ok.above, I.ok.inj, I.ok.has, I.ok.cab, (fun h => nomatch h), I.ok.frames, I.ok.stk, I.ok.exf, I.ok.bs, I.ok.bsz, I.ok.noex, I.ok.exfs, I.ok.funs, I.ok.frf⟩, I.os, I.bare, I.base, I.loc, I.cell, I.free, I.freeC, I.pin, I.hok, I.len⟩
theorem Inv.unmarked {e : Value} (ok : X.Ok) (I : Inv (X.marked e) pins σ H s) : Inv X pins σ H s :=
 ⟨ok, I.os, I.bare, I.base, I.loc, I.cell, I.free, I.freeC, I.pin, I.hok, I.len⟩
end
theorem ObjOk.has {P : Program} {w : World} {H : Hp} {h : Heap} {a : Addr} {o : HO} (x : ObjOk P w H h a o) : ∃ ob, h.get? a = some ob := by
 cases o with
 | lst xs => obtain ⟨_, _, _, _, e⟩ := x; exact ⟨_, e⟩
 | tup xs => obtain ⟨_, _, _, ob, e, _⟩ := x; exact ⟨ob, e⟩
 | dK kvs => obtain ⟨_, _, _, _, ob, _, _, e, _⟩ := x; exact ⟨ob, e⟩
 | dT kvs => obtain ⟨_, _, _, _, ob, _, _, e, _⟩ := x; exact ⟨ob, e⟩
 | set S n => obtain ⟨ob, _, _, _, e, _⟩ := x; exact ⟨ob, e⟩
 | ins C dx fs => obtain ⟨_, _, _, e, _⟩ := x; exact ⟨_, e⟩
 | own y => exact x
 | xd fs => obtain ⟨_, ⟨ob, _, _, e, _⟩, _⟩ := x; exact ⟨ob, e⟩
 | met f y => exact ⟨_, x⟩
 | rng lo hi => obtain ⟨_, _, _, e⟩ := x; exact ⟨_, e⟩
 | frz ob u => exact ⟨ob, x.1⟩
 | tbl ps => exact ⟨_, x⟩
 | ext φ => exact x.2.1
theorem Inv.caught {X : Cx} {pins : List (Addr × Obj)} {σ : St} {H H' : Hp} {s : Shared} {B h h6 : Heap} {ea C : Addr} {a0 : Value} {g : Array GenState} {d : Drawn} {t : Nat} (I : Inv X pins σ H s)
    (u : UnB (frs X.stack) H H' s.heap B h) (hok : HOk X.prog X.w H' B) (bare : AllBare g) (fl : Heap.FlyingW B X.stack ea (.ref C) a0 h6) (ups : h.UpToSlots h6) :
    H' ea = none ∧ Inv X pins σ (upd H' ea (ExO ea C)) { s with heap := h6, gens := g, drawn := d, toks := t } := by
  have hnB : B.get? ea = none := fl.2.1
  have tB : ∀ b o, H' b = some o → ∃ o', B.get? b = some o' := fun b o q => (hok b o q).has
  have hne : H' ea = none := by
    cases z : H' ea with
    | none => rfl
    | some o =>
      obtain ⟨o', q⟩ := tB ea o z
      rw [hnB] at q; cases q
  obtain ⟨oe, vs, hoe, hoc, hod, _⟩ := fl.first
  have nfr : ea ∉ frs X.stack := fun z => by
    obtain ⟨_, o, q, nf⟩ := fl.2.2.1.mem z
    rw [hoe] at q; cases q
    exact nf _ hod
  have nea : ∀ b o, s.heap.get? b = some o → b ≠ ea := fun b o q z => by
    subst z
    obtain ⟨o', q'⟩ := u.there b o q nfr
    rw [hnB] at q'; cases q'
  have slot : ∀ b o, s.heap.get? b = some o → b ∈ frs X.stack → ∃ sl, h6.get? b = some { o with slots := sl } := fun b o q hb => by
    obtain ⟨sl, q1⟩ := u.slot b o q hb
    obtain ⟨_, o', q2, nf⟩ := I.stack.mem hb
    rw [q] at q2; cases q2
    exact ups b { o with slots := sl } q1 nf
  have un : Un (frs X.stack) [] H (upd H' ea (ExO ea C)) s.heap h6 :=
    ⟨fun b o q n hb _ => fl.1 b o (u.keep b o q n hb), fun b o q n hb _ => slot b o q hb, fun b o q n _ => by rw [upd_ne (nea b o q)]; exact u.free b o q n, fun b o q _ => by
      by_cases hb : b ∈ frs X.stack
      · obtain ⟨sl, q1⟩ := slot b o q hb; exact ⟨_, q1⟩
      · obtain ⟨o', q1⟩ := u.there b o q hb; exact ⟨o', fl.1 b o' q1⟩,
     fun b xs q => by rw [upd_ne (ne_of_none (u.tups b xs q) hne)]; exact u.tups b xs q, fun b o x q => by rw [upd_ne (ne_of_none (u.frzs b o x q) hne)]; exact u.frzs b o x q,
     fun b ps q => by
      obtain ⟨more, z⟩ := u.tbls b ps q
      exact ⟨more, by rw [upd_ne (ne_of_none z hne)]; exact z⟩⟩
  refine ⟨hne, I.call (ch := []) un (fun b o q => ?_) bare fun _ z => nomatch z⟩
  by_cases hb : b = ea
  · subst hb
    rw [upd_same] at q
    cases q
    exact exo_ok hoe hoc
  · rw [upd_ne hb] at q
    exact (hok b o q).stay (fun c v _ q => fl.1 c v q) (fun c q => by rw [upd_ne (ne_of_none q hne)]; exact q) fun c xs q => by rw [upd_ne (ne_of_none q hne)]; exact q
section
variable {X : Cx} {k : Nat} {f C D0 : Addr} {fd : FuncData} {ps : List Str} {sp : Sp} {x lx ex cx : Str} {p cp ep lp p1 p2 p3 hp pos : Pos} {e : Expr} {es : List Expr} {t : TA} {i j : Nat}
end
end L2
namespace L2
open PySem PySem.Spec PyProof.Rows
namespace VS
variable {P0 : Addr → Hp → Prop}
noncomputable def mDic0 : ME := fun Γ Q => Q (.dict []) Γ
theorem i_dic0 {Γ : En} {Q : D → En → Prop} (h : Q (.dict []) Γ) : mDic0 Γ Q := h
end VS
end L2
namespace L2
open PySem PySem.Spec PyProof.Rows
@[irreducible] def PSi (X : Cx) (L : List Stmt) (t : TS) : Prop := PSs X L t
@[irreducible] def PSd (X : Cx) (st : Stmt) (t : TS) : Prop := PS X st t
@[irreducible] def PEd (X : Cx) (e : Expr) (t : TE) : Prop := PE X e t
@[irreducible] def PAd (X : Cx) (es : List Expr) (t : TA) : Prop := PA X es t
section
variable {X : Cx} {L rest : List Stmt} {st : Stmt} {t u : TS} {e a b : Expr} {es : List Expr} {te ta tb : TE} {tl : TA} {pos : Pos}
end
end L2
namespace L2.VS
open PySem PySem.Spec PyProof.Rows
variable {P0 : Addr → Hp → Prop} {S : Type}
structure Fam (S : Type) where
 box : Addr → S → Bx
 pin : ∀ {p s v fp G H}, (box p s).P v fp G H → v = .ref p
noncomputable def RvP (G H : Hp) (v : V) (fp : List Addr) : Rv → Prop
 | .val d => fp = [] ∧ Dt G v d
 | .own ds => ∃ p vs, fp = [p] ∧ v = .ref p ∧ H p = some (.lst vs) ∧ Dts G vs ds
 | .box B => B.P v fp G H
section
variable {G G' H H' : Hp} {v : V} {fp fp' : List Addr}
theorem RvP.mono (g : Same G G') : ∀ {rv : Rv}, RvP G H v fp rv → RvP G' H v fp rv
 | .val _, h => ⟨h.1, Dt.same g _ _ h.2⟩
 | .own _, h => let ⟨p, vs, a, b, c, d⟩ := h; ⟨p, vs, a, b, c, Dts.same g _ _ d⟩
 | .box B, h => B.mono g h
theorem RvP.loc (k : ∀ b ∈ fp, H' b = H b) : ∀ {rv : Rv}, RvP G H v fp rv → RvP G H' v fp rv
 | .val _, h => h
 | .own _, h => let ⟨p, vs, a, b, c, d⟩ := h; ⟨p, vs, a, b, (k p (by rw [a]; exact List.mem_singleton.mpr rfl)).trans c, d⟩
 | .box B, h => B.loc k h
theorem RvP.dom : ∀ {rv : Rv}, RvP G H v fp rv → ∀ b ∈ fp, ∃ o, H b = some o
 | .val _, h => fun b hb => by rw [h.1] at hb; cases hb
 | .own _, h => fun b hb => by
  obtain ⟨p, vs, a, _, c, _⟩ := h
  rw [a] at hb
  rw [List.mem_singleton.mp hb]
  exact ⟨_, c⟩
 | .box B, h => B.dom h
theorem RvP.uniq : ∀ {rv : Rv}, RvP G H v fp rv → RvP G H v fp' rv → fp = fp'
 | .val _, h, g => h.1.trans g.1.symm
 | .own _, h, g => by
  obtain ⟨p, _, a, b, _⟩ := h
  obtain ⟨q, _, c, d, _⟩ := g
  rw [b] at d
  cases d
  rw [a, c]
 | .box B, h, g => B.uniq h g
theorem RvP.nt : ∀ {rv : Rv}, RvP G H v fp rv → ∀ b ∈ fp, ∀ xs, H b = some (.tup xs) → ∃ q ∈ fp, V.ref q ∈ xs ∧ ∃ vs, H q = some (.lst vs)
 | .val _, h => fun b hb => by rw [h.1] at hb; cases hb
 | .own _, h => fun b hb xs e => by
  obtain ⟨p, vs, a, _, c, _⟩ := h
  rw [a] at hb
  rw [List.mem_singleton.mp hb, c] at e
  cases e
 | .box B, h => B.nt h
end
noncomputable def bKp (W : Fam S) (rv : Rv) (p : Addr) (s : S) : Bx where
 P := fun v fp G H => ∃ f1 f2, fp = f1 ++ f2 ∧ RvP G H v f1 rv ∧ (W.box p s).P (.ref p) f2 G H ∧ ∀ b ∈ f1, b ∉ f2
 mono := fun g ⟨f1, f2, e, a, b, c⟩ => ⟨f1, f2, e, a.mono g, (W.box p s).mono g b, c⟩
 loc := fun k ⟨f1, f2, e, a, b, c⟩ => ⟨f1, f2, e, a.loc fun x hx => k x (by rw [e]; exact List.mem_append_left _ hx), (W.box p s).loc (fun x hx => k x (by rw [e]; exact List.mem_append_right _ hx)) b, c⟩
 dom := fun ⟨f1, f2, e, a, b, c⟩ x hx => by
  rw [e] at hx
  exact (List.mem_append.mp hx).elim (a.dom x) ((W.box p s).dom b x)
 uniq := fun ⟨f1, f2, e, a, b, _⟩ ⟨g1, g2, e', a', b', _⟩ => by rw [e, e', a.uniq a', (W.box p s).uniq b b']
 nt := fun ⟨f1, f2, e, a, b, _⟩ x hx xs z => by
  rw [e] at hx
  rcases List.mem_append.mp hx with h | h
  ·obtain ⟨q, h1, h2⟩ := a.nt x h xs z
   exact ⟨q, by rw [e]; exact List.mem_append_left _ h1, h2⟩
  ·obtain ⟨q, h1, h2⟩ := (W.box p s).nt b x h xs z
   exact ⟨q, by rw [e]; exact List.mem_append_right _ h1, h2⟩
 view := none
 vok := fun _ z => nomatch z
noncomputable def mRetK (W : Fam S) (m : MO) : MS := fun Γ Q => m Γ fun rv Γ1 => ∃ p s, Γ1[0]? = some (.box (W.box p s)) ∧ Q (.rt (.box (bKp W rv p s)))
theorem vs_retK {W : Fam S} {A : Nat → Bool} {t : TE} {m : MO} (h : VO P0 t m) : VSA P0 A (tRet t) (mRetK W m) := by
 intro F Γ σ G H E Qm r hm k
 refine h F Γ σ G H _ _ r hm fun rv Γ1 v G1 H1 m1 s1 r1 v1 a1 => ?_
 obtain ⟨p, s, e, q⟩ := m1
 obtain ⟨fps, h1, h2⟩ := r1.fps
 have h0 := h1 0 _ e
 obtain ⟨w, ew, pw, nw⟩ := id h0
 have z := W.pin pw
 subst z
 refine k _ q v G1 H1 s1 r1.fr ?_
 cases rv with
 | val d => exact ⟨_, ⟨[], fps 0, rfl, ⟨rfl, v1⟩, pw, fun b hb => nomatch hb⟩, nw⟩
 | own ds =>
  obtain ⟨u, vs, rfl, e1, e2, e3, e4⟩ := v1
  refine ⟨_, ⟨[u], fps 0, rfl, ⟨u, vs, rfl, rfl, e3, e4⟩, pw, fun b hb => ?_⟩, fun b hb => ?_⟩
  ·rw [List.mem_singleton.mp hb]
   exact a1 0 _ _ e h0 u rfl
  ·rcases List.mem_append.mp hb with hb | hb
   ·rw [List.mem_singleton.mp hb]
    exact ⟨e1, e2⟩
   ·exact nw b hb
 | box B =>
  obtain ⟨fp, e1, e2⟩ := v1
  refine ⟨_, ⟨fp, fps 0, rfl, e1, pw, fun b hb => a1 0 _ _ fp e h0 e1 b hb⟩, fun b hb => ?_⟩
  rcases List.mem_append.mp hb with hb | hb
  ·exact e2 b hb
  ·exact nw b hb
abbrev Lm (S : Type) := Addr → S → List Sl → (Rv → S → Prop) → Prop
noncomputable def mFnL (W : Fam S) (n : Nat) (b : MS) : Lm S := fun p s as Q => b (.box (W.box p s) :: (as ++ List.replicate n .no)) fun fl => match fl with
 | .rt rv => ∃ rv0 s', rv = .box (bKp W rv0 p s') ∧ Q rv0 s'
 | .nx Γ => ∃ s', Γ[0]? = some (.box (W.box p s')) ∧ Q (.val .none) s'
 | _ => False
noncomputable def spL (P0 : Addr → Hp → Prop) (W : Fam S) (n : Nat) (f : Lm S) : Sp := fun vs H Q _ => ∃ (F : Fra P0) (p : Addr) (s : S) (fp : List Addr) (ws : List V) (as : List Sl) (Qm : Rv → S → Prop), vs = .ref p :: ws ∧ (∀ b, F.H0 b = if b ∈ fp then none else H b) ∧ Rf F F.G0 H ∧
 (W.box p s).P (.ref p) fp F.G0 H ∧ (∀ b ∈ fp, F.G0 b = none) ∧ Paired (ArgOk F F.G0) ws as ∧ as.length + 1 = n ∧ f p s as Qm ∧
 ∀ rv s' r f1 f2 G' H', Qm rv s' → Rf F G' H' → RvP G' H' r f1 rv → (W.box p s').P (.ref p) f2 G' H' → (∀ b ∈ f1, b ∉ f2) → (∀ b ∈ f1 ++ f2, F.H0 b = none ∧ G' b = none) → Q r H'
theorem arg_at {F : Fra P0} {G : Hp} {ws : List V} {as : List Sl} {i k m : Nat} {s : Sl} (pr : Paired (ArgOk F G) ws as) (e : (as ++ List.replicate k Sl.no)[i]? = some s) (hne : s ≠ .no) :
  ∃ v, (ws.map some ++ List.replicate m none)[i]? = some (some v) ∧ ArgOk F G v s := by
 induction pr generalizing i with
 | nil =>
  rw [List.nil_append, List.getElem?_replicate] at e
  split at e
  ·cases e; exact absurd rfl hne
  ·cases e
 | cons a b ih =>
  cases i with
  | zero => cases e; exact ⟨_, rfl, a⟩
  | succ i => exact ih e
theorem fn_startL {W : Fam S} {n k : Nat} {N : List Str} {t : TS} {b : MS} (h : VS P0 t b) (hN : N.length = n + k) {vs : List V} {H : Hp} {Q : VK} {E : XK} (hs : spL P0 W n (mFnL W k b) vs H Q E) :
  t { nx := fun _ H' => Q .non H', rt := Q } (start N vs) H := by
 obtain ⟨F, p, s, fp, ws, as, Qm, rfl, hH, rf, hP, hG, pr, hl, hm, q⟩ := hs
 have hlen : ws.length = as.length := Paired.length pr
 have r : R F (.box (W.box p s) :: (as ++ List.replicate k .no)) (start N (.ref p :: ws)) F.G0 H := by
  refine ⟨rf, ?_, fun i => if i = 0 then fp else [], fun i u e => ?_, fun i j u z _ _ hij b hb hc => ?_⟩
  ·unfold start
   simp only [List.length_cons, List.length_append, List.length_replicate, List.length_map]
   omega
  ·cases i with
   | zero =>
    cases e
    exact ⟨.ref p, rfl, hP, fun b hb => ⟨by have hb : b ∈ fp := hb; rw [hH, if_pos hb], hG b hb⟩⟩
   | succ i =>
    have e : (as ++ List.replicate k Sl.no)[i]? = some u := e
    have at_ : u ≠ .no → ∃ v, (start N (.ref p :: ws))[i + 1]? = some (some v) ∧ ArgOk F F.G0 v u := fun hne => by
     obtain ⟨v, ev, av⟩ := arg_at (m := N.length - (ws.length + 1)) pr e hne
     exact ⟨v, ev, av⟩
    cases u with
    | no => rfl
    | val d =>
     obtain ⟨v, ev, av⟩ := at_ (by intro z; cases z)
     exact ⟨rfl, v, ev, av⟩
    | own ds =>
     obtain ⟨v, ev, av⟩ := at_ (by intro z; cases z)
     exact av.elim
    | pen =>
     obtain ⟨v, ev, q, rfl, eq⟩ := at_ (by intro z; cases z)
     exact ⟨rfl, q, ev, eq⟩
    | con q =>
     obtain ⟨v, ev, av⟩ := at_ (by intro z; cases z)
     have av : v = .ref q := av
     rw [av] at ev
     exact ⟨rfl, ev⟩
    | pub B =>
     obtain ⟨v, ev, av⟩ := at_ (by intro z; cases z)
     exact ⟨rfl, v, ev, av⟩
    | box B =>
     obtain ⟨v, ev, av⟩ := at_ (by intro z; cases z)
     exact av.elim
  ·dsimp only at hb hc
   split at hb
   ·rename_i hi
    split at hc
    ·rename_i hj; exact hij (hi.trans hj.symm)
    ·cases hc
   ·cases hb
 refine h F _ _ _ _ _ _ r hm fun fl hq => ?_
 cases fl with
 | nx Γ =>
  intro σ G' H' _ r' _
  obtain ⟨s', e, hq⟩ := hq
  obtain ⟨fps, h1, _⟩ := r'.fps
  obtain ⟨w, ew, pw, nw⟩ := h1 0 _ e
  have z := W.pin pw
  subst z
  exact q _ _ _ [] _ _ _ hq r'.fr ⟨rfl, .non⟩ pw (fun b hb => nomatch hb) nw
 | rt rv =>
  intro v G' H' _ f' v'
  obtain ⟨rv0, s', rfl, hq⟩ := hq
  obtain ⟨g, ⟨f1, f2, rfl, a, b, c⟩, d⟩ := v'
  exact q _ _ _ _ _ _ _ hq f' a b c d
 | bk Γ => exact hq.elim
 | ct Γ => exact hq.elim
theorem spL_len {W : Fam S} {n : Nat} {f : Lm S} {ps : List Str} (h : ps.length = n) : ∀ vs H Q E, spL P0 W n f vs H Q E → vs.length = ps.length := by
 rintro vs H Q E ⟨F, p, s, fp, ws, as, Qm, rfl, _, _, _, _, pr, hl, _⟩
 rw [List.length_cons, Paired.length pr, hl, h]
theorem _root_.L2.Fun.okL {P : Program} {w : World} {K : PySem.W.Frag} {mg : Str → Option Value} {base : Heap} {x qual : Str} {st : Stmt} {f : Addr} {fd : FuncData} {N ps : List Str} {k n j : Nat} {b : MS} {W : Fam S}
  (F : Fun K x qual st f fd) (S0 : FnScope N ps (defScope st)) (hn : ps.length = n) (hN : N.length = n + j)
  (hb : ∀ (cdv : Value) (A : Around) (outer : List Env) (s : Shared) (H : Hp) (E : XK), Room k (A.deeper (envOfC qual (defScope st) s.heap.objs.size f cdv)) →
   SsX P0 (cxOf CX0 P w K mg base N qual (defScope st) f cdv A outer s H E).nox (defBody st) b) : FnOk P w K mg base CX0 (k + 1) f fd ps (spL P0 W n (mFnL W j b)) := by
 refine F.ok S0 (spL_len hn) fun cdv A outer s H vs Q E hr hs => ?_
 obtain ⟨t, h1, h2⟩ := hb cdv A outer s H E hr
 exact ⟨t, h1, fn_startL h2 hN hs⟩
noncomputable def mCallL (W : Fam S) (n : Nat) (f : Lm S) (i : Nat) (m : MA) : MO := fun Γ Q => ∃ p, (∃ s, Γ[i]? = some (.box (W.box p s))) ∧ m Γ fun as Γ1 => ∃ s1, Γ1[i]? = some (.box (W.box p s1)) ∧ as.length + 1 = n ∧ f p s1 as fun rv s' => Q rv (Γ1.set i (.box (W.box p s')))
noncomputable def Fra.less (F : Fra P0) {G H : Hp} (r : Rf F G H) (fp : List Addr) (hf : ∀ b ∈ fp, F.H0 b = none) : Fra P0 where
 H0 := fun b => if b ∈ fp then none else H b
 G0 := G
 pen := F.pen
 stab := fun p e H1 H2 h => F.stab p e H1 H2 fun b o z => by
  obtain ⟨o', e'⟩ := r.dom z
  exact h b o' (by rw [if_neg (fun hb => by rw [hf b hb] at z; cases z)]; exact e')
 pin := F.pin
 pin0 := fun p e => by
  obtain ⟨o, z⟩ := F.pin0 p e
  obtain ⟨o', e'⟩ := F.pin p e H (r.pn p e)
  exact ⟨o', by rw [if_neg (fun hb => by rw [hf p hb] at z; cases z)]; exact e'⟩
 pg := fun p e => by
  obtain ⟨o, e0⟩ := F.pin0 p e
  rw [r.g0 p o e0]
  exact F.pg p e
theorem vo_callL {W : Fam S} {n i : Nat} {f : Lm S} {t : TA} {m : MA} {E : XK} (h : VA P0 t m) : VO P0 (tCall (spL P0 W n f) [] E (tCons (tVar i) t)) (mCallL W n f i m) := by
 intro F Γ σ G H Q Qm r hm k
 obtain ⟨p, ⟨s, e⟩, hm⟩ := hm
 obtain ⟨fps0, g1, _⟩ := r.fps
 obtain ⟨w, ew, pw, _⟩ := g1 i _ e
 have z := W.pin pw
 subst z
 refine ⟨.ref p, ew, h F Γ σ G H _ _ r hm fun as Γ1 rs G1 H1 m1 s1 r1 d1 => ?_⟩
 obtain ⟨s1', e1, hl, hf⟩ := m1
 obtain ⟨fps, h1, h2⟩ := r1.fps
 have hi := h1 i _ e1
 obtain ⟨w, ew', pw', nw⟩ := id hi
 have z := W.pin pw'
 subst z
 have hF : ∀ b ∈ fps i, F.H0 b = none := fun b hb => (nw b hb).1
 have inH : ∀ b o, F.H0 b = some o → (if b ∈ fps i then none else H1 b) ≠ none := fun b o z => by
  obtain ⟨o', e'⟩ := r1.fr.dom z
  rw [if_neg (fun hb => by rw [hF b hb] at z; cases z), e']
  exact fun y => nomatch y
 refine ⟨F.less r1.fr (fps i) hF, p, s1', fps i, rs, as, fun rv s' => Qm rv (Γ1.set i (.box (W.box p s'))), by rw [List.append_nil], fun b => rfl,
  ⟨r1.fr.sub, fun _ _ _ => rfl, fun b o z _ => ?_, r1.fr.pn⟩, pw', fun b hb => (nw b hb).2, Paired.imp' (fun a s h => by cases s <;> exact h) d1, hl, hf, fun rv s' v f1 f2 G' H' hq f' a b c d => ?_⟩
 ·have z : (if b ∈ fps i then none else H1 b) = some o := z
  split at z
  ·cases z
  ·exact z
 ·have h0 : ∀ b, (F.less r1.fr (fps i) hF).H0 b = if b ∈ fps i then none else H1 b := fun _ => rfl
  have nF : ∀ b, (F.less r1.fr (fps i) hF).H0 b = none → F.H0 b = none := fun b z => by
   cases y : F.H0 b with
   | none => rfl
   | some o => exact absurd z (inH b o y)
  have sG : Same G1 G' := fun b o z => by
   have hH := r1.fr.sub b o z
   have hb : b ∉ fps i := fun hb => by rw [(nw b hb).2] at z; cases z
   have y := f'.g0 b o (by rw [h0, if_neg hb]; exact hH)
   exact y.trans z
  have rf : Rf F G' H' := by
   refine ⟨f'.sub, fun b o z => ?_, fun b o z hb => ?_, f'.pn⟩
   ·obtain ⟨o', e'⟩ := r1.fr.dom z
    have hb : b ∉ fps i := fun hb => by rw [hF b hb] at z; cases z
    exact (f'.g0 b o' (by rw [h0, if_neg hb]; exact e')).trans (r1.fr.g0 b o z)
   ·have hb' : b ∉ fps i := fun hb => by rw [hF b hb] at z; cases z
    exact f'.h0 b o (by rw [h0, if_neg hb']; exact r1.fr.h0 b o z hb) hb
  have oth : ∀ (j : Nat) (u : Sl), j ≠ i → Γ1[j]? = some u → ∀ b ∈ fps j, (F.less r1.fr (fps i) hF).H0 b ≠ none ∧ G' b = none ∧ H' b = H1 b := fun j u hj ej b hb => by
   obtain ⟨m1, m2, o, m3⟩ := (h1 j u ej).mine hb
   have hb' := h2 j i u _ ej e1 hj b hb
   have y : (F.less r1.fr (fps i) hF).H0 b = some o := by rw [h0, if_neg hb']; exact m3
   refine ⟨by rw [y]; exact (fun z => nomatch z), (f'.g0 b o y).trans m2, ?_⟩
   rw [m3]
   exact f'.h0 b o y (F.pen_ne m1)
  have back : ∀ (j : Nat) (u : Sl), j ≠ i → (Γ1.set i (.box (W.box p s')))[j]? = some u → Γ1[j]? = some u := fun j u hj ej => by rw [List.getElem?_set_ne (Ne.symm hj)] at ej; exact ej
  have hil : i < Γ1.length := (List.getElem?_eq_some_iff.mp e1).1
  have new : R F (Γ1.set i (.box (W.box p s'))) σ G' H' := by
   refine ⟨rf, by rw [List.length_set]; exact r1.len, fun j => if j = i then f2 else fps j, fun j u ej => ?_, fun j l u z ej el hjl b hb hc => ?_⟩
   ·dsimp only
    by_cases hj : j = i
    ·subst hj
     rw [if_pos rfl]
     rw [List.getElem?_set_self hil] at ej
     cases ej
     exact ⟨.ref p, ew', b, fun x hx => ⟨nF x (d x (List.mem_append_right _ hx)).1, (d x (List.mem_append_right _ hx)).2⟩⟩
    ·rw [if_neg hj]
     have ej := back j u hj ej
     exact (h1 j u ej).go sG fun x hx => (oth j u hj ej x hx).2
   ·dsimp only at hb hc
    by_cases hj : j = i
    ·rw [if_pos hj] at hb
     have hl' : l ≠ i := fun y => hjl (hj.trans y.symm)
     rw [if_neg hl'] at hc
     exact (oth l z hl' (back l z hl' el) b hc).1 (d b (List.mem_append_right _ hb)).1
    ·rw [if_neg hj] at hb
     by_cases hl' : l = i
     ·rw [if_pos hl'] at hc
      exact (oth j u hj (back j u hj ej) b hb).1 (d b (List.mem_append_right _ hc)).1
     ·rw [if_neg hl'] at hc
      exact h2 j l u z (back j u hj ej) (back l z hl' el) hjl b hb hc
  have apart : ∀ (j : Nat) (u : Sl) (fp : List Addr), (Γ1.set i (.box (W.box p s')))[j]? = some u → SlF F G' H' σ[j]? fp u → ∀ x ∈ f1, x ∉ fp := fun j u fp ej hu x hx hxf => by
   by_cases hj : j = i
   ·subst hj
    rw [List.getElem?_set_self hil] at ej
    cases ej
    obtain ⟨w, ew2, pw2, _⟩ := hu
    rw [ew'] at ew2
    cases ew2
    rw [(W.box p s').uniq pw2 b] at hxf
    exact c x hx hxf
   ·have ej := back j u hj ej
    have y := SlF.det hu ((h1 j u ej).go sG fun x hx => (oth j u hj ej x hx).2)
    rw [y] at hxf
    exact (oth j u hj ej x hxf).1 (d x (List.mem_append_left _ hx)).1
  refine k rv _ v G' H' hq (s1.trans sG) new ?_ ?_
  ·cases rv with
   | val d' => exact a.2
   | own ds =>
    obtain ⟨u, vs, e2, e3, e4, e5⟩ := a
    have hu := d u (List.mem_append_left _ (by rw [e2]; exact List.mem_singleton.mpr rfl))
    exact ⟨u, vs, e3, nF u hu.1, hu.2, e4, e5⟩
   | box B => exact ⟨f1, a, fun x hx => ⟨nF x (d x (List.mem_append_left _ hx)).1, (d x (List.mem_append_left _ hx)).2⟩⟩
  ·cases rv with
   | val d' => trivial
   | own ds =>
    intro j u fp ej hu y ey hy
    obtain ⟨u', vs, e2, e3, e4, e5⟩ := a
    rw [e3] at ey
    cases ey
    exact apart j u fp ej hu _ (by rw [e2]; exact List.mem_singleton.mpr rfl) hy
   | box B =>
    intro j u fp g ej hu hg x hx
    have y : g = f1 := B.uniq hg a
    rw [y] at hx
    exact apart j u fp ej hu x hx
end L2.VS
namespace L2.VS
open PySem PySem.Spec PyProof.Rows
variable {P0 : Addr → Hp → Prop}
noncomputable def PenC (p : Addr) (n : Nat) (H : Hp) : Prop := ∃ z c k : Int, H p = some (.lst [.int z, .int c, .int k]) ∧ 0 ≤ z ∧ 0 ≤ c ∧ c < 1099511627776 ∧ 0 ≤ k ∧ k ≤ (n : Int)
noncomputable def penF : Fam Nat where
  box := fun p n =>
    { P := fun v fp _ H => v = .ref p ∧ fp = [p] ∧ PenC p n H
      mono := fun _ h => h
      loc := fun k ⟨a, b, z, c, m, e, r⟩ => ⟨a, b, z, c, m, (k p (by rw [b]; exact List.mem_singleton.mpr rfl)).trans e, r⟩
      dom := fun ⟨_, b, z, c, m, e, _⟩ x hx => by
        rw [b] at hx
        rw [List.mem_singleton.mp hx]
        exact ⟨_, e⟩
      uniq := fun h g => h.2.1.trans g.2.1.symm
      nt := fun ⟨_, b, z, c, m, e, _⟩ x hx xs y => by
        rw [b] at hx
        rw [List.mem_singleton.mp hx, e] at y
        cases y
      view := none
      vok := fun _ z => nomatch z }
  pin := fun h => h.1
noncomputable def spTakeC : Sp := fun vs H Q _ => ∃ (pen : Addr) (m z c k : Int) (n : Nat), vs = [.ref pen, .int m] ∧ H pen = some (.lst [.int z, .int c, .int k]) ∧ 0 ≤ z ∧ 0 ≤ c ∧ c < 1099511627776 ∧ 0 ≤ k ∧ k ≤ (n : Int) ∧ n < 1000000000 ∧ 0 < m ∧ m < 1073741824 ∧
 ∀ (r : Int) (H' : Hp), 0 ≤ r → r < m → PenC pen (n + 1) H' → SameX pen H H' → Q (.int r) H'
noncomputable def mTakeL : Lm Nat := fun _ n as Q => match as with
 | [.val (.int m)] => 0 < m ∧ m < 1073741824 ∧ n < 1000000000 ∧ ∀ r : Int, 0 ≤ r → r < m → Q (.val (.int r)) (n + 1)
 | _ => False
theorem take_ofL : ∀ vs H Q E, spL P0 penF 2 mTakeL vs H Q E → spTakeC vs H Q E := by
 rintro vs H Q E ⟨F, p, n, fp, ws, as, Qm, rfl, hH, rf, hP, hG, pr, hl, hm, q⟩
 unfold mTakeL at hm
 split at hm
 ·rename_i m
  cases pr with
  | cons a1 b1 =>
   cases b1
   have a1 : Dt F.G0 _ (.int m) := a1
   cases a1
   obtain ⟨_, rfl, z, c, k, e, hz, hc, hc2, hk, hkn⟩ := hP
   refine ⟨p, m, z, c, k, n, rfl, e, hz, hc, hc2, hk, hkn, hm.2.2.1, hm.1, hm.2.1, fun r H' r0 r1 hp hx => ?_⟩
   have nb : ∀ b o, F.H0 b = some o → b ≠ p ∧ H b = some o := fun b o y => by
    rw [hH] at y
    split at y
    ·cases y
    ·rename_i hb
     exact ⟨fun w => hb (by rw [w]; exact List.mem_singleton.mpr rfl), y⟩
   refine q _ _ _ [] [p] F.G0 H' (hm.2.2.2 r r0 r1) ⟨fun b o y => hx b o (fun w => ?_) (rf.sub b o y), fun _ _ _ => rfl, fun b o y _ => hx b o (nb b o y).1 (nb b o y).2, F.stab' H H' (fun b o y => ?_) rf.pn⟩ ⟨rfl, .int _⟩ ⟨rfl, rfl, hp⟩ (fun b hb => nomatch hb) fun b hb => ?_
   ·rw [w, hG p (List.mem_singleton.mpr rfl)] at y; cases y
   ·rw [(nb b o y).2]; exact hx b o (nb b o y).1 (nb b o y).2
   ·have hb : b ∈ [p] := hb
    refine ⟨by rw [hH, if_pos hb], hG b hb⟩
 ·exact hm.elim
theorem i_takeL {p : Addr} {n : Nat} {m : Int} {Q : Rv → Nat → Prop} (h1 : 0 < m) (h2 : m < 1073741824) (hn : n < 1000000000) (h : ∀ r : Int, 0 ≤ r → r < m → Q (.val (.int r)) (n + 1)) : mTakeL p n [.val (.int m)] Q := ⟨h1, h2, hn, h⟩
theorem i_fnL {S : Type} {W : Fam S} {n : Nat} {b : MS} {p : Addr} {s : S} {as : List Sl} {Q : Rv → S → Prop} (h : b (.box (W.box p s) :: (as ++ List.replicate n .no)) fun fl => match fl with
 | .rt rv => ∃ rv0 s', rv = .box (bKp W rv0 p s') ∧ Q rv0 s'
 | .nx Γ => ∃ s', Γ[0]? = some (.box (W.box p s')) ∧ Q (.val .none) s'
 | _ => False) : mFnL W n b p s as Q := h
end L2.VS
namespace L2.VS
open PySem PySem.Spec PyProof.Rows
variable {P0 : Addr → Hp → Prop}
noncomputable def mLtT (ma mb : ME) : ME := fun Γ Q => ma Γ fun x Γ1 => mb Γ1 fun y Γ2 => ∃ ns ms : List Int, x = .tuple (ns.map .int) ∧ y = .tuple (ms.map .int) ∧ Q (.bool (HT.lexLt ns ms)) Γ2
theorem ints_back {G : Hp} : ∀ {ns : List Int} {vs : List V}, Dts G vs (ns.map .int) → vs = ns.map V.int
 | [], _, h => by cases h; rfl
 | n :: ns, _, h => by
  cases h with
  | cons h1 h2 =>
   cases h1
   rw [ints_back h2]
   rfl
theorem vt_ltT {K : PySem.W.Frag} {ta tb : TE} {ma mb : ME} (ha : VT P0 ta ma) (hb : VT P0 tb mb) : VT P0 (tOp (rLtT K) ta tb) (mLtT ma mb) := by
 refine vt_2 (m2 := fun x y Q => ∃ ns ms : List Int, x = .tuple (ns.map .int) ∧ y = .tuple (ms.map .int) ∧ Q (.bool (HT.lexLt ns ms))) ha hb fun F Γ σ G H x y d e Q Qm r d1 d2 m k => ?_
 obtain ⟨ns, ms, rfl, rfl, q⟩ := m
 cases d1 with
 | tup h1 r1 =>
  cases d2 with
  | tup h2 r2 =>
   rw [ints_back r1] at h1
   rw [ints_back r2] at h2
   exact ⟨_, _, ns, ms, rfl, rfl, .of (r.fr.sub _ _ h1), .of (r.fr.sub _ _ h2), k _ _ _ _ q (Same.refl _) r (.bl _)⟩
theorem i_ltT {ma mb : ME} {Γ : En} {Q : D → En → Prop} (h : ma Γ fun x Γ1 => mb Γ1 fun y Γ2 => ∃ ns ms : List Int, x = .tuple (ns.map .int) ∧ y = .tuple (ms.map .int) ∧ Q (.bool (HT.lexLt ns ms)) Γ2) : mLtT ma mb Γ Q := h
end L2.VS
namespace L2.VS
open PySem PySem.Spec PyProof.Rows
abbrev NoP : Addr → Hp → Prop := fun _ _ => False
noncomputable def spPenC (K : PySem.W.Frag) : Sp := fun vs H Q _ => ∃ (a : Addr) (ns : List Int) (j : Int), vs = [.ref a, .int j] ∧ SqL K H a (ns.map V.int) ∧ 0 ≤ j ∧ j < 1000 ∧ ∀ p z c, H p = none → 0 ≤ z → 0 ≤ c → c < 1099511627776 → Q (.ref p) (upd H p (.lst [.int z, .int c, .int 1]))
theorem law_goC {k : Nat} {t : TS} {b : MS} {H : Hp} {a pen : Addr} {z c : Int} {Q : VK} {nx : St → Hp → Prop} (h : VS NoP t b) (hp : H pen = none) (hz : 0 ≤ z) (hc : 0 ≤ c) (hc2 : c < 1099511627776)
    (hb : b (.no :: .box (penF.box pen 1) :: List.replicate k .no) TrueEnd) (q : ∀ H', Q (.bl true) H') :
    t { nx := nx, rt := Q } (some (.ref a) :: some (.ref pen) :: List.replicate k none) (upd H pen (.lst [.int z, .int c, .int 1])) := by
  have g := same_new hp (.lst [.int z, .int c, .int 1])
  let F : Fra NoP :=
    { H0 := H
      G0 := fun _ => none
      pen := none
      stab := fun p e => nomatch e
      pin := fun p e => nomatch e
      pin0 := fun p e => nomatch e
      pg := fun _ _ => rfl }
  have r : R F (.no :: .box (penF.box pen 1) :: List.replicate k .no) (some (.ref a) :: some (.ref pen) :: List.replicate k none) F.G0 (upd H pen (.lst [.int z, .int c, .int 1])) := by
    refine ⟨⟨fun b o e => (nomatch e), fun _ _ _ => rfl, fun b o e _ => g b o e, fun p e => nomatch e⟩, by simp, fun i => if i = 1 then [pen] else [], fun i s e => ?_, fun i j s u _ _ hij b hb hc => ?_⟩
    · match i with
      | 0 => cases e; rfl
      | 1 =>
        cases e
        refine ⟨.ref pen, rfl, ⟨rfl, rfl, z, c, 1, upd_same, hz, hc, hc2, by decide, by decide⟩, fun b hb => ?_⟩
        have hb : b ∈ [pen] := hb
        rw [List.mem_singleton.mp hb]
        exact ⟨hp, rfl⟩
      | i + 2 =>
        have e' : (List.replicate k Sl.no)[i]? = some s := by simpa using e
        rw [List.getElem?_replicate] at e'
        split at e'
        · cases e'; rfl
        · cases e'
    · dsimp only at hb hc
      split at hb
      · rename_i hi
        split at hc
        · rename_i hj; exact hij (hi.trans hj.symm)
        · cases hc
      · cases hb
  refine h F _ _ F.G0 _ _ TrueEnd r hb fun fl e => ?_
  unfold TrueEnd at e
  subst e
  intro v G' H' _ _ hr
  have hr : Dt G' v (.bool true) := hr
  cases hr
  exact q H'
theorem law_bodyC {K : PySem.W.Frag} {a : Addr} {ns : List Int} {k : Nat} {j : Int} {b : MS} {H : Hp} {Q : VK} {nx : St → Hp → Prop} {X : Cx} {st : Stmt} {rest : List Stmt} {N : List Str} (hj : 0 ≤ j ∧ j < 1000)
  (h1 : PS X st (tAsg (tCall (spPenC K) [] E0 (tCons (tVar 0) (tCons (tC (.int j)) tNil))) (gName 1))) (h2 : ∃ t, PSs X rest t ∧ VS NoP t b) (hN : N.length = k + 2) (hS : SqL K H a (ns.map V.int))
  (hb : ∀ pen, b (.no :: .box (penF.box pen 1) :: List.replicate k .no) TrueEnd) (q : ∀ H', Q (.bl true) H') : ∃ t, PSs X (st :: rest) t ∧ t { nx := nx, rt := Q } (start N [.ref a]) H := by
 obtain ⟨t, h2, h3⟩ := h2
 refine ⟨_, pss_cons h1 h2, ?_⟩
 have e : start N [.ref a] = some (.ref a) :: none :: List.replicate k none := by
  unfold start
  rw [hN]
  rfl
 rw [e]
 refine ⟨.ref a, rfl, a, ns, j, rfl, hS, hj.1, hj.2, fun p z c hp hz hc hc2 => ?_⟩
 exact law_goC (t := t) h3 hp hz hc hc2 (hb p) q
end L2.VS
namespace L2.VS
open PySem PySem.Spec PyProof.Rows
noncomputable def pureF (H : Hp) : Fra NoP where
 H0 := H
 G0 := H
 pen := none
 stab := fun _ e => nomatch e
 pin := fun _ e => nomatch e
 pin0 := fun _ e => nomatch e
 pg := fun _ e => nomatch e
theorem args_of {H : Hp} : ∀ {vs : List V} {ds : List D}, Dts H vs ds → Paired (ArgOk (pureF H) H) vs (ds.map Sl.val)
 | _, _, .nil => .nil
 | _, _, .cons a b => .cons a (args_of b)
theorem spM_pure {n : Nat} {f : Fm} {vs : List V} {ds : List D} {H : Hp} {Q : VK} {E : XK} (Qm : Rv → Prop) (hv : Dts H vs ds) (hl : ds.length = n) (hf : f (ds.map Sl.val) Qm)
  (q : ∀ rv r G' H', Qm rv → Same H H' → Same G' H' → RvO (pureF H) G' H' r rv → Q r H') : spM NoP n f vs H Q E :=
 ⟨pureF H, _, Qm, rfl, ⟨Same.refl _, fun _ _ _ => rfl, fun _ _ e _ => e, fun _ e => nomatch e⟩, args_of hv, by rw [List.length_map]; exact hl, hf, fun rv r G' H' a b c => q rv r G' H' a (fun x o e => b.h0 x o e (fun z => nomatch z)) b.sub c⟩
noncomputable def thereD (ds : List D) (k : Nat) (e : D) : Bool := match ds[k]? with
 | some d => PyData.eqv d e
 | none => false
theorem thereD_at {ds : List D} {k : Nat} {e : D} (h : k < ds.length) : thereD ds k e = PyData.eqv ds[k] e := by
 unfold thereD
 rw [List.getElem?_eq_getElem h]
theorem thereD_no {ds : List D} {k : Nat} {e : D} (h : ds.length ≤ k) : thereD ds k e = false := by
 unfold thereD
 rw [List.getElem?_eq_none h]
structure Ins1 (C : Addr) (x : Str) (w d l : Addr) (vs : List V) (H : Hp) : Prop where
 i : H w = some (.ins C d [(x, .ref l)])
 d : H d = some (.own w)
 l : H l = some (.lst vs)
theorem Ins1.same {C w d l : Addr} {x : Str} {vs : List V} {H H' : Hp} (h : Ins1 C x w d l vs H) (g : Same H H') : Ins1 C x w d l vs H' := ⟨g _ _ h.i, g _ _ h.d, g _ _ h.l⟩
theorem Ins1.upd {C w d l : Addr} {x : Str} {vs us : List V} {H : Hp} (h : Ins1 C x w d l vs H) : Ins1 C x w d l us (upd H l (.lst us)) := by
 refine ⟨?_, ?_, upd_same⟩
 ·rw [upd_ne (ne_of h.i h.l (by intro z; cases z))]; exact h.i
 ·rw [upd_ne (ne_of h.d h.l (by intro z; cases z))]; exact h.d
theorem erase_dts {H : Hp} : ∀ {us : List V} {ds : List D} {k : Nat}, Dts H us ds → Dts H (us.eraseIdx k) (ds.eraseIdx k)
 | _, _, _, .nil => .nil
 | _, _, 0, .cons _ b => b
 | _, _, k + 1, .cons a b => .cons a (erase_dts b)
end L2.VS
namespace L2
open PySem PySem.Spec PyProof.Rows
noncomputable def XP (X : Cx) (pins : List (Addr × Obj)) (W : List (Option V) → XK) (e : Value) (s' : Shared) : Prop := ∃ (σ1 : List (Option V)) (H1 : Hp) (s1 : Shared), Inv X pins σ1 H1 s1 ∧ CX1 X.prog X.w X.stack H1 s1 (W σ1) e s'
abbrev TX := Ends → (List (Option V) → XK) → List (Option V) → Hp → Prop
noncomputable def PX (X : Cx) (sts : List Stmt) (t : TX) : Prop :=
 ∀ (pins : List (Addr × Obj)) (s : Shared) (σ : List (Option V)) (H : Hp) (D : Ends) (W : List (Option V) → XK), Inv X pins σ H s → t D W σ H → wpAny (model X.prog X.w) X.A (execs sts X.env) (SP X pins D) (XP X pins W) s
section
variable {X : Cx} {k : Nat} {f C D0 : Addr} {fd : FuncData} {ps : List Str} {sp : Sp} {x m lx ex cx : Str} {p cp ep lp p1 p2 p3 hp pos pos' apos : Pos} {o e : Expr} {es : List Expr} {ta : TE} {t : TA} {i j : Nat}
end
end L2
namespace L2
open PySem PySem.Spec PyProof.Rows
section
variable {X : Cx} {k : Nat} {f C : Addr} {fd : FuncData} {ps : List Str} {sp : Sp} {m : Str} {cp pos apos : Pos} {o e : Expr} {es : List Expr} {ta : TE} {t : TA}
noncomputable def tExprM (C : Addr) (m : Str) (sp : Sp) (ta : TE) (t : TA) : TX := fun D W σ H => ta σ H fun v H1 => ∃ a dx fs, v = .ref a ∧ H1 a = some (.ins C dx fs) ∧ fs.lookup m = none ∧ t σ H1 fun vs H2 => sp (v :: vs) H2 (fun _ H3 => D.nx σ H3) (W σ)
theorem px_exprM {pl : Sem Bool} (he : PE X.nox o ta) (c : Cls X.K C) (hm : Meth X.K C m f) (F : FnOk X.prog X.w X.K X.mg X.base (CX1 X.prog X.w) k f fd ps sp) (hr : Room k X.A) (hb : Binds X.K fd ps []) (ha : PA X.nox (e :: es) t)
  (hs : swapsWith (.Call (.Attribute o m apos) (e :: es) [] cp) none pos.line X.env = pure false := by rfl)
  (hst : starEach (e :: es) X.env = (false, eval e X.env) :: starEach es X.env := by rfl) (hpl : (backTo cp (starEach es X.env)).any (·.1) = false := by rfl)
  (ht : eval (.Call (.Attribute o m apos) (e :: es) [] cp) X.env = (do
   let ov ← eval o X.env
   standAt apos.atName
   let (f, first) ← holding [ov] (getMethod ov m pl)
   callWith cp f first (backTo cp (starEach (e :: es) X.env)) (backToKw cp (keywordEach [] X.env))) := by rfl) :
  PX X [.Expr (.Call (.Attribute o m apos) (e :: es) [] cp) pos] (tExprM C m sp ta t) := by
 intro pins s σ H D W I h
 refine wpAny_execs_cons (wpAny_Expr_any (Q := fun f s1 => match f with | .next => wpAny (model X.prog X.w) X.A (execs [] X.env) (SP X pins D) (XP X pins W) s1 | f => SP X pins D f s1) ?_ I.quiet hs)
 refine PySem.W.methodCall_KW (pl := pl) (wpAny_mono (he pins s σ H _ (I.wish _) h) (fun u s1 z => ?_) fun _ _ z => z.elim) ht
 obtain ⟨v, H1, I1, rx, a, dx, fs, ev, ea, l, q⟩ := z
 have I1 := I1.unwish
 subst ev
 obtain rfl : u = Value.ref a := rx
 refine getmeth_ok I1 ea c hm l ?_
 refine PySem.W.callWith_K (first := [.ref a]) (h₀ := X.base) I.ok.mod.kin hm.kp (wpAny_mono (ha cp pins s1 σ H1 _ (I1.wish _) q) (fun us s2 z => ?_) fun _ _ z => z.elim) hst hpl
 obtain ⟨vs, H2, I2, r, q2⟩ := z
 have I2 := I2.unwish
 refine ⟨I2.kIn, ?_⟩
 have r2 : Vals (V.ref a :: vs) (Value.ref a :: us) := .cons rfl r
 have hl2 : (Value.ref a :: us).length = ps.length := by rw [← r2.length]; exact F.len _ _ _ _ q2
 have hbn := hb s2 (Value.ref a :: us) I2.kIn (by rw [List.append_nil]; exact hl2)
 rw [List.append_nil] at hbn
 refine wpAny_call (codeAny_mono (F.run X.A X.stack s2 H2 ⟨Value.ref a :: us, []⟩ (Value.ref a :: us) (V.ref a :: vs) _ _ hr I2.env0 hbn r2 q2) fun r s' hq => ?_)
 cases r with
 | error ev => exact ⟨σ, H2, s2, I2, hq⟩
 | ok fl =>
  cases fl with
  | ret u =>
   obtain ⟨v3, H3, I3, rv3, q3⟩ := I2.after hq
   exact wpAny_execs_nil ⟨_, H3, I3, q3⟩
  | next => exact False.elim hq
  | brk => exact False.elim hq
  | cont => exact False.elim hq
end
end L2
namespace L2.VS
open PySem PySem.Spec PyProof.Rows
variable {P0 : Addr → Hp → Prop}
noncomputable def pIns (C : Addr) (x : Str) (w : Addr) (ds : List D) : Pb where
 P := fun v G => v = .ref w ∧ ∃ d l us, Ins1 C x w d l us G ∧ Dts G us ds
 mono := fun g ⟨a, d, l, us, b, c⟩ => ⟨a, d, l, us, b.same g, Dts.same g _ _ c⟩
noncomputable def insF (C : Addr) (x : Str) : Fam (List D) where
  box := fun w ds =>
    { P := fun v fp G H => v = .ref w ∧ ∃ d l us, fp = [w, d, l] ∧ Ins1 C x w d l us H ∧ Dts G us ds
      mono := fun g ⟨a, d, l, us, b, c, e⟩ => ⟨a, d, l, us, b, c, Dts.same g _ _ e⟩
      loc := fun k ⟨a, d, l, us, b, c, e⟩ => by
        refine ⟨a, d, l, us, b, ⟨?_, ?_, ?_⟩, e⟩
        · rw [k w (by rw [b]; simp)]; exact c.i
        · rw [k d (by rw [b]; simp)]; exact c.d
        · rw [k l (by rw [b]; simp)]; exact c.l
      dom := fun ⟨_, d, l, us, b, c, _⟩ y hy => by
        rw [b] at hy
        simp only [List.mem_cons, List.not_mem_nil, or_false] at hy
        rcases hy with rfl | rfl | rfl
        · exact ⟨_, c.i⟩
        · exact ⟨_, c.d⟩
        · exact ⟨_, c.l⟩
      uniq := fun ⟨_, d, l, us, b, c, _⟩ ⟨_, d', l', us', b', c', _⟩ => by
        have z := c.i.symm.trans c'.i
        injection z with z
        injection z with z1 z2 z3
        injection z3 with z3 z4
        injection z3 with z5 z6
        injection z6 with z6
        rw [b, b', z2, z6]
      nt := fun ⟨_, d, l, us, b, c, _⟩ y hy xs z => by
        rw [b] at hy
        simp only [List.mem_cons, List.not_mem_nil, or_false] at hy
        rcases hy with rfl | rfl | rfl
        · rw [c.i] at z; cases z
        · rw [c.d] at z; cases z
        · rw [c.l] at z; cases z
      view := none
      vok := fun _ z => nomatch z
      pv := some (pIns C x w ds)
      pok := fun ⟨a, d, l, us, b, c, e⟩ z g k => by
        cases z
        refine ⟨a, d, l, us, ⟨?_, ?_, ?_⟩, Dts.same g _ _ e⟩
        · rw [k w (by rw [b]; simp)]; exact c.i
        · rw [k d (by rw [b]; simp)]; exact c.d
        · rw [k l (by rw [b]; simp)]; exact c.l }
  pin := fun h => h.1
noncomputable def InsAt (C : Addr) (x : Str) (w : Addr) (ds : List D) (s : Sl) : Prop := s = .box ((insF C x).box w ds) ∨ s = .pub (pIns C x w ds)
section
variable {C : Addr} {x : Str} {i : Nat}
theorem R.ins {F : Fra P0} {Γ : En} {σ : List (Option V)} {G H : Hp} {w : Addr} {ds : List D} {s : Sl} (r : R F Γ σ G H) (e : Γ[i]? = some s) (h : InsAt C x w ds s) : ∃ d l us, σ[i]? = some (some (.ref w)) ∧ Ins1 C x w d l us H ∧ Dts G us ds := by
 rcases h with rfl | rfl
 ·obtain ⟨v, fp, e1, ⟨rfl, d, l, us, _, b, c⟩, _⟩ := r.sl i _ e
  exact ⟨d, l, us, e1, b, c⟩
 ·obtain ⟨v, e1, rfl, d, l, us, b, c⟩ := r.sl i _ e
  exact ⟨d, l, us, e1, b.same r.fr.sub, c⟩
theorem R.more {F : Fra P0} {Γ : En} {σ : List (Option V)} {G H H' : Hp} (r : R F Γ σ G H) (g : Same H H') : R F Γ σ G H' := by
 refine r.keep ⟨fun b o e => g b o (r.fr.sub b o e), r.fr.g0, fun b o e hb => g b o (r.fr.h0 b o e hb), F.stab' H H' (fun b o e => ?_) r.fr.pn⟩ (Same.refl _) fun b o _ _ hg hH => ⟨hg, g b o hH⟩
 obtain ⟨o', e'⟩ := r.fr.dom e
 rw [g b o' e', e']
noncomputable def spMany (C : Addr) : Sp := fun vs H Q _ => ∃ (w d l : Addr) (us : List V), vs = [.ref w] ∧ Ins1 C "kept" w d l us H ∧ Q (.int (us.length : Int)) H
noncomputable def spPairs (C : Addr) : Sp := fun vs H Q _ => ∃ (w d l : Addr) (us : List V), vs = [.ref w] ∧ Ins1 C "kept" w d l us H ∧ us.length ≤ 1000 ∧ ∀ p, H p = none → Q (.ref p) (upd H p (.lst us))
noncomputable def spFirst (C : Addr) : Sp := fun vs H Q _ => ∃ (w d l : Addr) (us : List V) (ds : List D), vs = [.ref w] ∧ Ins1 C "kept" w d l us H ∧ Dts H us ds ∧ Good (.list ds) ∧ ∀ H', Same H H' → Q (us.headD .non) H'
noncomputable def mManyW (C : Addr) (i : Nat) : ME := fun Γ Q => ∃ w ds s, Γ[i]? = some s ∧ InsAt C "kept" w ds s ∧ Q (.int (ds.length : Int)) Γ
noncomputable def mFirstW (C : Addr) (i : Nat) : ME := fun Γ Q => ∃ w ds s, Γ[i]? = some s ∧ InsAt C "kept" w ds s ∧ Good (.list ds) ∧ Q (ds.headD .none) Γ
noncomputable def mPairsW (C : Addr) (i : Nat) : MO := fun Γ Q => ∃ w ds s, Γ[i]? = some s ∧ InsAt C "kept" w ds s ∧ ds.length ≤ 1000 ∧ Q (.own ds) Γ
variable {E : XK}
theorem vt_manyW : VT P0 (tMeth C "many" (spMany C) [] E (tVar i) tNil) (mManyW C i) := by
 intro F Γ σ G H Q Qm r hm k
 obtain ⟨w, ds, s, e, hs, q⟩ := hm
 obtain ⟨d, l, us, ew, hI, hus⟩ := r.ins e hs
 refine ⟨.ref w, ew, w, d, _, rfl, hI.i, rfl, w, d, l, us, rfl, hI, ?_⟩
 rw [hus.len]
 exact k _ _ _ _ _ q (Same.refl _) r (.int _)
theorem vt_firstW : VT P0 (tMeth C "first" (spFirst C) [] E (tVar i) tNil) (mFirstW C i) := by
 intro F Γ σ G H Q Qm r hm k
 obtain ⟨w, ds, s, e, hs, gd, q⟩ := hm
 obtain ⟨d, l, us, ew, hI, hus⟩ := r.ins e hs
 refine ⟨.ref w, ew, w, d, _, rfl, hI.i, rfl, w, d, l, us, ds, rfl, hI, Dts.same r.fr.sub _ _ hus, gd, fun H' g => ?_⟩
 refine k _ _ _ _ _ q (Same.refl _) (r.more g) ?_
 cases hus with
 | nil => exact .non
 | cons a b => exact a
theorem vo_pairsW : VO P0 (tMeth C "pairs" (spPairs C) [] E (tVar i) tNil) (mPairsW C i) := by
 intro F Γ σ G H Q Qm r hm k
 obtain ⟨w, ds, s, e, hs, hl, q⟩ := hm
 obtain ⟨d, l, us, ew, hI, hus⟩ := r.ins e hs
 refine ⟨.ref w, ew, w, d, _, rfl, hI.i, rfl, w, d, l, us, rfl, hI, by rw [hus.len]; exact hl, fun p hp => ?_⟩
 obtain ⟨a, b, c⟩ := own_new r hp hus
 exact k _ _ _ _ _ q (Same.refl _) a b c
theorem i_manyW {Γ : En} {Q : D → En → Prop} {w : Addr} {ds : List D} {s : Sl} (h0 : Γ[i]? = some s) (hs : InsAt C "kept" w ds s) (h : Q (.int (ds.length : Int)) Γ) : mManyW C i Γ Q := ⟨w, ds, s, h0, hs, h⟩
theorem i_firstW {Γ : En} {Q : D → En → Prop} {w : Addr} {ds : List D} {s : Sl} (h0 : Γ[i]? = some s) (hs : InsAt C "kept" w ds s) (h : Good (.list ds) ∧ Q (ds.headD .none) Γ) : mFirstW C i Γ Q := ⟨w, ds, s, h0, hs, h⟩
theorem i_pairsW {Γ : En} {Q : Rv → En → Prop} {w : Addr} {ds : List D} {s : Sl} (h0 : Γ[i]? = some s) (hs : InsAt C "kept" w ds s) (h : ds.length ≤ 1000 ∧ Q (.own ds) Γ) : mPairsW C i Γ Q := ⟨w, ds, s, h0, hs, h⟩
end
end L2.VS
namespace L2.VS
open PySem PySem.Spec PyProof.Rows
variable {P0 : Addr → Hp → Prop}
noncomputable def bW2 {S : Type} (W : Fam S) (L w0 w1 : Addr) (c0 c1 : S) : Bx where
 P := fun v fp G H => ∃ f0 f1, v = .ref L ∧ fp = L :: (f0 ++ f1) ∧ H L = some (.lst [.ref w0, .ref w1]) ∧ (W.box w0 c0).P (.ref w0) f0 G H ∧ (W.box w1 c1).P (.ref w1) f1 G H ∧ L ∉ f0 ∧ L ∉ f1 ∧ ∀ b ∈ f0, b ∉ f1
 mono := fun g ⟨f0, f1, a, b, c, d, e, r⟩ => ⟨f0, f1, a, b, c, Bx.mono _ g d, Bx.mono _ g e, r⟩
 loc := fun k ⟨f0, f1, a, b, c, d, e, r⟩ => ⟨f0, f1, a, b, (k L (by rw [b]; simp)).trans c, Bx.loc _ (fun y hy => k y (by rw [b]; simp [hy])) d, Bx.loc _ (fun y hy => k y (by rw [b]; simp [hy])) e, r⟩
 dom := fun ⟨f0, f1, a, b, c, d, e, r⟩ y hy => by
  rw [b] at hy
  rcases List.mem_cons.mp hy with rfl | hy
  ·exact ⟨_, c⟩
  ·rcases List.mem_append.mp hy with hy | hy
   ·exact Bx.dom _ d y hy
   ·exact Bx.dom _ e y hy
 uniq := fun ⟨f0, f1, a, b, c, d, e, r⟩ ⟨f0', f1', a', b', c', d', e', r'⟩ => by
  rw [b, b', Bx.uniq _ d d', Bx.uniq _ e e']
 nt := fun ⟨f0, f1, a, b, c, d, e, r⟩ y hy xs z => by
  rw [b] at hy
  rcases List.mem_cons.mp hy with rfl | hy
  ·rw [c] at z; cases z
  ·rcases List.mem_append.mp hy with hy | hy
   ·obtain ⟨q, h1, h2⟩ := Bx.nt _ d y hy xs z
    exact ⟨q, by rw [b]; simp [h1], h2⟩
   ·obtain ⟨q, h1, h2⟩ := Bx.nt _ e y hy xs z
    exact ⟨q, by rw [b]; simp [h1], h2⟩
 view := none
 vok := fun _ z => nomatch z
noncomputable def spInitW (C : Addr) : Sp := fun vs H Q _ => ∃ (w d : Addr), vs = [.ref w] ∧ H w = some (.ins C d []) ∧ H d = some (.own w) ∧ ∀ l, H l = none → Q .non (upd (upd H l (.lst [])) w (.ins C d [("kept", .ref l)]))
noncomputable def mNewW2 (C : Addr) : MO := fun Γ Q => ∀ L w0 w1, Q (.box (bW2 (insF C "kept") L w0 w1 [] [])) Γ
theorem make_W {C : Addr} {H : Hp} {E : XK} {Q : VK} (q : ∀ w d l H', Same H H' → H w = none → H d = none → H l = none → d ≠ w → l ≠ w → l ≠ d → Ins1 C "kept" w d l [] H' → (∀ b, b ≠ w → b ≠ d → b ≠ l → H' b = H b) → Q (.ref w) H') :
  ∀ w d, H w = none → H d = none → d ≠ w → spInitW C (.ref w :: ([] ++ [])) (upd (upd H d (.own w)) w (.ins C d [])) (fun v H2 => v = .non ∧ Q (.ref w) H2) E := by
 intro w d hw hd hdw
 refine ⟨w, d, rfl, upd_same, by rw [upd_ne hdw]; exact upd_same, fun l hl => ⟨rfl, ?_⟩⟩
 have hlw : l ≠ w := fun z => by rw [z, upd_same] at hl; cases hl
 have hl1 : upd H d (.own w) l = none := by rw [upd_ne hlw] at hl; exact hl
 have hld : l ≠ d := fun z => by rw [z, upd_same] at hl1; cases hl1
 have hl0 : H l = none := by rw [upd_ne hld] at hl1; exact hl1
 refine q w d l _ (fun b o e => ?_) hw hd hl0 hdw hlw hld ⟨upd_same, ?_, ?_⟩ fun b h1 h2 h3 => ?_
 ·rw [upd_ne (ne_of_none e hw), upd_ne (ne_of_none e hl0), upd_ne (ne_of_none e hw), upd_ne (ne_of_none e hd)]
  exact e
 ·rw [upd_ne hdw, upd_ne (Ne.symm hld), upd_ne hdw]
  exact upd_same
 ·rw [upd_ne hlw]
  exact upd_same
 ·rw [upd_ne h1, upd_ne h3, upd_ne h1, upd_ne h2]
theorem i_newW2 {C : Addr} {Γ : En} {Q : Rv → En → Prop} (h : ∀ L w0 w1, Q (.box (bW2 (insF C "kept") L w0 w1 [] [])) Γ) : mNewW2 C Γ Q := h
end L2.VS
namespace L2.VS
open PySem PySem.Spec PyProof.Rows
variable {P0 : Addr → Hp → Prop}
noncomputable def gNew (H H' G : Hp) : Hp := fun b => match H b with
 | none => H' b
 | some _ => G b
theorem gNew_new {H H' G : Hp} {b : Addr} (h : H b = none) : gNew H H' G b = H' b := by unfold gNew; rw [h]
theorem gNew_old {H H' G : Hp} {b : Addr} {o : HO} (h : H b = some o) : gNew H H' G b = G b := by unfold gNew; rw [h]
theorem gNew_same {H H' G : Hp} (g : Same G H) : Same G (gNew H H' G) := fun b o e => by rw [gNew_old (g b o e)]; exact e
end L2.VS
namespace L2.VS
open PySem PySem.Spec PyProof.Rows
variable {P0 : Addr → Hp → Prop} {A : Nat → Bool}
noncomputable def bEl (d : D) (ds : List D) : Bx where
 P v fp G H := ∃ p q x vs, v = .ref p ∧ fp = [p, q] ∧ p ≠ q ∧ H p = some (.tup [x, .ref q]) ∧ H q = some (.lst vs) ∧ Dt G x d ∧ Dts G vs ds
 mono g h := by
  obtain ⟨p, q, x, vs, h1, h2, h3, h4, h5, h6, h7⟩ := h
  exact ⟨p, q, x, vs, h1, h2, h3, h4, h5, Dt.same g _ _ h6, Dts.same g _ _ h7⟩
 loc k h := by
  obtain ⟨p, q, x, vs, h1, h2, h3, h4, h5, h6, h7⟩ := h
  subst h2
  exact ⟨p, q, x, vs, h1, rfl, h3, (k p (by simp)).trans h4, (k q (by simp)).trans h5, h6, h7⟩
 dom h b hb := by
  obtain ⟨p, q, x, vs, h1, h2, h3, h4, h5, h6, h7⟩ := h
  subst h2
  rcases List.mem_cons.mp hb with e | e
  ·rw [e]; exact ⟨_, h4⟩
  ·rw [List.mem_singleton.mp e]; exact ⟨_, h5⟩
 uniq h g := by
  obtain ⟨p, q, x, vs, h1, h2, h3, h4, h5, h6, h7⟩ := h
  obtain ⟨p', q', x', vs', g1, g2, g3, g4, g5, g6, g7⟩ := g
  rw [h1] at g1; cases g1
  rw [h4] at g4; cases g4
  rw [h2, g2]
 nt h b hb xs e := by
  obtain ⟨p, q, x, vs, h1, h2, h3, h4, h5, h6, h7⟩ := h
  subst h2
  rcases List.mem_cons.mp hb with z | z
  ·rw [z, h4] at e; cases e
   exact ⟨q, by simp, by simp, vs, h5⟩
  ·rw [List.mem_singleton.mp z, h5] at e; cases e
 view := some (.tuple [d, .list ds])
 vok h hv g k := by
  obtain ⟨p, q, x, vs, h1, h2, h3, h4, h5, h6, h7⟩ := h
  cases hv
  subst h1 h2
  exact .tup ((k p (by simp)).trans h4) (.cons (Dt.same g _ _ h6) (.cons (.lst ((k q (by simp)).trans h5) (Dts.same g _ _ h7)) .nil))
noncomputable def mTupE (ma : ME) (mb : MO) : MO := fun Γ Q => ma Γ fun d Γ1 => mb Γ1 fun rv Γ2 => ∃ ds, rv = .own ds ∧ Q (.box (bEl d ds)) Γ2
abbrev It4 := Addr × Addr × V × List V
noncomputable def fpE (its : List It4) : List Addr := its.flatMap fun i => [i.1, i.2.1]
noncomputable def ElOk (G H : Hp) (i : It4) (e : D × List D) : Prop := H i.1 = some (.tup [i.2.2.1, .ref i.2.1]) ∧ H i.2.1 = some (.lst i.2.2.2) ∧ Dt G i.2.2.1 e.1 ∧ Dts G i.2.2.2 e.2
noncomputable def ElsOk (G H : Hp) (its : List It4) (es : List (D × List D)) : Prop := Paired (ElOk G H) its es
theorem ElsOk.go {G H G' H' : Hp} {its : List It4} {es : List (D × List D)} (h : ElsOk G H its es) (g : Same G G') (k : ∀ b ∈ fpE its, H' b = H b) : ElsOk G' H' its es := by
 unfold ElsOk at h ⊢
 induction h with
 | nil => exact .nil
 | cons r t ih =>
  obtain ⟨r1, r2, r3, r4⟩ := r
  refine .cons ⟨(k _ (by unfold fpE; simp)).trans r1, (k _ (by unfold fpE; simp)).trans r2, Dt.same g _ _ r3, Dts.same g _ _ r4⟩ (ih fun b hb => k b ?_)
  unfold fpE at hb ⊢
  rw [List.flatMap_cons]
  exact List.mem_append_right _ hb
theorem ElsOk.mem {G H : Hp} {its : List It4} {es : List (D × List D)} (h : ElsOk G H its es) {i : It4} (hi : i ∈ its) : H i.1 = some (.tup [i.2.2.1, .ref i.2.1]) ∧ H i.2.1 = some (.lst i.2.2.2) := by
 unfold ElsOk at h
 induction h with
 | nil => cases hi
 | cons r t ih =>
  rcases List.mem_cons.mp hi with e | e
  ·rw [e]; exact ⟨r.1, r.2.1⟩
  ·exact ih e
theorem mem_fpE {its : List It4} {b : Addr} : b ∈ fpE its ↔ ∃ i ∈ its, b = i.1 ∨ b = i.2.1 := by
 unfold fpE
 rw [List.mem_flatMap]
 constructor
 ·rintro ⟨i, h, hb⟩
  rcases List.mem_cons.mp hb with e | e
  ·exact ⟨i, h, .inl e⟩
  ·exact ⟨i, h, .inr (List.mem_singleton.mp e)⟩
 ·rintro ⟨i, h, e | e⟩
  ·exact ⟨i, h, by rw [e]; exact List.mem_cons_self⟩
  ·exact ⟨i, h, by rw [e]; exact List.mem_cons_of_mem _ List.mem_cons_self⟩
noncomputable def nxt (H : Hp) (p : Addr) : List Addr := p :: match H p with
 | some (.tup [_, .ref q]) => [q]
 | _ => []
theorem ElsOk.fp {G H : Hp} {its : List It4} {es : List (D × List D)} (h : ElsOk G H its es) : fpE its = (its.map (·.1)).flatMap (nxt H) := by
 unfold ElsOk at h
 induction h with
 | nil => rfl
 | @cons i e its es r t ih =>
  show [i.1, i.2.1] ++ fpE its = nxt H i.1 ++ (its.map (·.1)).flatMap (nxt H)
  have en : nxt H i.1 = [i.1, i.2.1] := by unfold nxt; rw [r.1]
  rw [ih, en]
theorem ElsOk.view {G G' H : Hp} {its : List It4} {es : List (D × List D)} (h : ElsOk G H its es) (g : Same G G') (k : ∀ b ∈ fpE its, G' b = H b) : Dts G' (its.map fun i => V.ref i.1) (es.map fun e => .tuple [e.1, .list e.2]) := by
 unfold ElsOk at h
 induction h with
 | nil => exact .nil
 | cons r t ih =>
  obtain ⟨r1, r2, r3, r4⟩ := r
  refine .cons (.tup ((k _ (by unfold fpE; simp)).trans r1) (.cons (Dt.same g _ _ r3) (.cons (.lst ((k _ (by unfold fpE; simp)).trans r2) (Dts.same g _ _ r4)) .nil))) (ih fun b hb => k b ?_)
  unfold fpE at hb ⊢
  rw [List.flatMap_cons]
  exact List.mem_append_right _ hb
noncomputable def bChs (es : List (D × List D)) : Bx where
 P v fp G H := ∃ l its, v = .ref l ∧ fp = l :: fpE its ∧ H l = some (.lst (its.map fun i => V.ref i.1)) ∧ ElsOk G H its es ∧ (l :: fpE its).Nodup
 mono g h := by
  obtain ⟨l, its, h1, h2, h3, h4, h5⟩ := h
  exact ⟨l, its, h1, h2, h3, h4.go g fun _ _ => rfl, h5⟩
 loc k h := by
  obtain ⟨l, its, h1, h2, h3, h4, h5⟩ := h
  subst h2
  exact ⟨l, its, h1, rfl, (k l List.mem_cons_self).trans h3, h4.go (Same.refl _) fun b hb => k b (List.mem_cons_of_mem _ hb), h5⟩
 dom h b hb := by
  obtain ⟨l, its, h1, h2, h3, h4, h5⟩ := h
  subst h2
  rcases List.mem_cons.mp hb with e | e
  ·rw [e]; exact ⟨_, h3⟩
  ·obtain ⟨i, hi, z | z⟩ := mem_fpE.mp e
   ·rw [z]; exact ⟨_, (h4.mem hi).1⟩
   ·rw [z]; exact ⟨_, (h4.mem hi).2⟩
 uniq h g := by
  obtain ⟨l, its, h1, h2, h3, h4, h5⟩ := h
  obtain ⟨l', its', g1, g2, g3, g4, g5⟩ := g
  rw [h1] at g1; cases g1
  rw [h3] at g3
  have e : (its.map fun i => V.ref i.1) = its'.map fun i => V.ref i.1 := by injection g3 with z; injection z
  have e2 := congrArg (List.map fun v : V => match v with | .ref a => a | _ => 0) e
  rw [List.map_map, List.map_map] at e2
  have e3 : its.map (·.1) = its'.map (·.1) := e2
  rw [h2, g2, h4.fp, g4.fp, e3]
 nt h b hb xs e := by
  obtain ⟨l, its, h1, h2, h3, h4, h5⟩ := h
  subst h2
  rcases List.mem_cons.mp hb with z | z
  ·rw [z, h3] at e; cases e
  ·obtain ⟨i, hi, z | z⟩ := mem_fpE.mp z
   ·rw [z, (h4.mem hi).1] at e; cases e
    exact ⟨i.2.1, List.mem_cons_of_mem _ (mem_fpE.mpr ⟨i, hi, .inr rfl⟩), by simp, _, (h4.mem hi).2⟩
   ·rw [z, (h4.mem hi).2] at e; cases e
 view := some (.list (es.map fun e => .tuple [e.1, .list e.2]))
 vok h hv g k := by
  obtain ⟨l, its, h1, h2, h3, h4, h5⟩ := h
  cases hv
  subst h1 h2
  exact .lst ((k l List.mem_cons_self).trans h3) (h4.view g fun b hb => k b (List.mem_cons_of_mem _ hb))
end L2.VS
namespace L2.VS
open PySem PySem.Spec PyProof.Rows
variable {P0 : Addr → Hp → Prop} {A : Nat → Bool}
noncomputable def compB (g : MG) (t : MT) (e : MO) (Γb : En) : List D → List (D × List D) → (List (D × List D) → Prop) → Prop
 | [], acc, Q => Q acc
 | d :: ds, acc, Q => g d Γb fun Γ1 => t Γ1 fun b Γ2 => if b = true then e Γ2 fun rv _ => ∃ x xs, rv = .box (bEl x xs) ∧ compB g t e Γb ds (acc ++ [(x, xs)]) Q else compB g t e Γb ds acc Q
noncomputable def mCompB (nt : Nat) (fv : List Nat) (mi : MD) (g : MG) (t : MT) (e : MO) : MO := fun Γ Q => mi Γ fun ds Γ1 => ds.length ≤ 1000 ∧ compB g t e (blkE nt fv Γ1) ds [] fun out => Q (.box (bChs out)) Γ1
theorem i_compB {nt : Nat} {fv : List Nat} {mi : MD} {mg : MG} {mt : MT} {me : MO} {Γ : En} {Q : Rv → En → Prop} (h : mi Γ fun ds Γ1 => ds.length ≤ 1000 ∧ compB mg mt me (blkE nt fv Γ1) ds [] fun out => Q (.box (bChs out)) Γ1) : mCompB nt fv mi mg mt me Γ Q := h
theorem i_tupE {ma : ME} {mb : MO} {Γ : En} {Q : Rv → En → Prop} (h : ma Γ fun d Γ1 => mb Γ1 fun rv Γ2 => ∃ ds, rv = .own ds ∧ Q (.box (bEl d ds)) Γ2) : mTupE ma mb Γ Q := h
end L2.VS
namespace L2.VS
open PySem PySem.Spec PyProof.Rows
variable {P0 : Addr → Hp → Prop} {S : Type}
structure PartAt (W : Fam S) (p : Addr) (B : S → Bx) (v : V) (s : S) (fp f0 : List Addr) (G H : Hp) : Prop where
 sub : ∀ b ∈ f0, b ∈ fp
 own : (W.box p s).P (.ref p) f0 G H
 back : ∀ s' f0' G' H', Same G G' → (W.box p s').P (.ref p) f0' G' H' → (∀ b ∈ fp, b ∉ f0 → H' b = H b ∧ b ∉ f0') → ∃ fp', (B s').P v fp' G' H' ∧ ∀ b ∈ fp', b ∈ f0' ∨ (b ∈ fp ∧ b ∉ f0)
noncomputable def PartOf (W : Fam S) (p : Addr) (B : S → Bx) : Prop := ∀ {s v fp G H}, (B s).P v fp G H → ∃ f0, PartAt W p B v s fp f0 G H
theorem PartOf.self {W : Fam S} {p : Addr} : PartOf W p (W.box p) := fun {s v fp G H} h => by
 have z := W.pin h
 subst z
 exact ⟨fp, fun _ h => h, h, fun s' f' G' H' _ h' _ => ⟨f', h', fun b hb => .inl hb⟩⟩
theorem PartOf.fst {W : Fam S} {L w0 w1 : Addr} {c1 : S} : PartOf W w0 (fun c0 => bW2 W L w0 w1 c0 c1) := fun {s v fp G H} h => by
 obtain ⟨f0, f1, rfl, rfl, c, d, e, n0, n1, ap⟩ := h
 refine ⟨f0, fun b hb => by simp [hb], d, fun s' f' G' H' g h' k => ?_⟩
 have hL := k L (by simp) n0
 have k1 : ∀ b ∈ f1, H' b = H b ∧ b ∉ f' := fun b hb => k b (by simp [hb]) fun z => ap b z hb
 refine ⟨L :: (f' ++ f1), ⟨f', f1, rfl, rfl, hL.1.trans c, h', Bx.loc _ (fun b hb => (k1 b hb).1) (Bx.mono _ g e), hL.2, n1, fun b hb hc => (k1 b hc).2 hb⟩, fun b hb => ?_⟩
 rcases List.mem_cons.mp hb with rfl | hb
 ·exact .inr ⟨by simp, n0⟩
 ·rcases List.mem_append.mp hb with hb | hb
  ·exact .inl hb
  ·exact .inr ⟨by simp [hb], fun z => ap b z hb⟩
theorem PartOf.snd {W : Fam S} {L w0 w1 : Addr} {c0 : S} : PartOf W w1 (fun c1 => bW2 W L w0 w1 c0 c1) := fun {s v fp G H} h => by
 obtain ⟨f0, f1, rfl, rfl, c, d, e, n0, n1, ap⟩ := h
 refine ⟨f1, fun b hb => by simp [hb], e, fun s' f' G' H' g h' k => ?_⟩
 have hL := k L (by simp) n1
 have k1 : ∀ b ∈ f0, H' b = H b ∧ b ∉ f' := fun b hb => k b (by simp [hb]) fun z => ap b hb z
 refine ⟨L :: (f0 ++ f'), ⟨f0, f', rfl, rfl, hL.1.trans c, Bx.loc _ (fun b hb => (k1 b hb).1) (Bx.mono _ g d), h', n0, hL.2, fun b hb hc => (k1 b hb).2 hc⟩, fun b hb => ?_⟩
 rcases List.mem_cons.mp hb with rfl | hb
 ·exact .inr ⟨by simp, n1⟩
 ·rcases List.mem_append.mp hb with hb | hb
  ·exact .inr ⟨by simp [hb], fun z => ap b hb z⟩
  ·exact .inl hb
section
variable {W : Fam S} {B : S → Bx} {i : Nat} {p : Addr} {s1 s' : S} {F : Fra P0} {Γ1 : En} {σ : St} {G1 H1 G' H' : Hp} {v : V} {fp f0 f1 f2 : List Addr}
theorem R.unlend (r1 : R F Γ1 σ G1 H1) (e1 : Γ1[i]? = some (.box (B s1))) (hi : SlF F G1 H1 σ[i]? fp (.box (B s1))) (hv : σ[i]? = some (some v)) (hp : PartAt W p B v s1 fp f0 G1 H1) (hF : ∀ b ∈ f0, F.H0 b = none)
  (f' : Rf (F.less r1.fr f0 hF) G' H') (b2 : (W.box p s').P (.ref p) f2 G' H') (d2 : ∀ b ∈ f2, (F.less r1.fr f0 hF).H0 b = none ∧ G' b = none) :
  Same G1 G' ∧ R F (Γ1.set i (.box (B s'))) σ G' H' ∧ (∀ b, (F.less r1.fr f0 hF).H0 b = none → F.H0 b = none) ∧
  ∀ f1 : List Addr, (∀ b ∈ f1, (F.less r1.fr f0 hF).H0 b = none) → (∀ b ∈ f1, b ∉ f2) → ∀ (j : Nat) (u : Sl) (fq : List Addr), (Γ1.set i (.box (B s')))[j]? = some u → SlF F G' H' σ[j]? fq u → ∀ x ∈ f1, x ∉ fq := by
 obtain ⟨fps, h1, h2⟩ := r1.fps
 have z := SlF.det hi (h1 i _ e1)
 subst z
 obtain ⟨v', ev', pv', nw⟩ := id hi
 rw [hv] at ev'
 cases ev'
 have h0 : ∀ b, (F.less r1.fr f0 hF).H0 b = if b ∈ f0 then none else H1 b := fun _ => rfl
 have inH : ∀ b o, F.H0 b = some o → (if b ∈ f0 then none else H1 b) ≠ none := fun b o z => by
  obtain ⟨o', e'⟩ := r1.fr.dom z
  rw [if_neg (fun hb => by rw [hF b hb] at z; cases z), e']
  exact fun y => nomatch y
 have nF : ∀ b, (F.less r1.fr f0 hF).H0 b = none → F.H0 b = none := fun b z => by
  cases y : F.H0 b with
  | none => rfl
  | some o => exact absurd z (inH b o y)
 have nw0 : ∀ b ∈ f0, G1 b = none := fun b hb => (nw b (hp.sub b hb)).2
 have sG : Same G1 G' := fun b o z => by
  have hH := r1.fr.sub b o z
  have hb : b ∉ f0 := fun hb => by rw [nw0 b hb] at z; cases z
  exact (f'.g0 b o (by rw [h0, if_neg hb]; exact hH)).trans z
 have rf : Rf F G' H' := by
  refine ⟨f'.sub, fun b o z => ?_, fun b o z hb => ?_, f'.pn⟩
  ·obtain ⟨o', e'⟩ := r1.fr.dom z
   have hb : b ∉ f0 := fun hb => by rw [hF b hb] at z; cases z
   exact (f'.g0 b o' (by rw [h0, if_neg hb]; exact e')).trans (r1.fr.g0 b o z)
  ·have hb' : b ∉ f0 := fun hb => by rw [hF b hb] at z; cases z
   exact f'.h0 b o (by rw [h0, if_neg hb']; exact r1.fr.h0 b o z hb) hb
 have stay : ∀ b, F.H0 b = none → G1 b = none → (∃ o, H1 b = some o) → b ∉ f0 → (F.less r1.fr f0 hF).H0 b ≠ none ∧ G' b = none ∧ H' b = H1 b := fun b m1 m2 m3 hb => by
  obtain ⟨o, m3⟩ := m3
  have y : (F.less r1.fr f0 hF).H0 b = some o := by rw [h0, if_neg hb]; exact m3
  refine ⟨by rw [y]; exact (fun z => nomatch z), (f'.g0 b o y).trans m2, ?_⟩
  rw [m3]
  exact f'.h0 b o y (F.pen_ne m1)
 have oth : ∀ (j : Nat) (u : Sl), j ≠ i → Γ1[j]? = some u → ∀ b ∈ fps j, (F.less r1.fr f0 hF).H0 b ≠ none ∧ G' b = none ∧ H' b = H1 b := fun j u hj ej b hb => by
  obtain ⟨m1, m2, m3⟩ := (h1 j u ej).mine hb
  exact stay b m1 m2 m3 fun z => h2 j i u _ ej e1 hj b hb (hp.sub b z)
 have mine : ∀ b ∈ fps i, b ∉ f0 → (F.less r1.fr f0 hF).H0 b ≠ none ∧ G' b = none ∧ H' b = H1 b := fun b hb hn => by
  obtain ⟨m1, m2, m3⟩ := (h1 i _ e1).mine hb
  exact stay b m1 m2 m3 hn
 obtain ⟨fp', pB, hfp⟩ := hp.back s' f2 G' H' sG b2 fun b hb hn => ⟨(mine b hb hn).2.2, fun z => (mine b hb hn).1 (d2 b z).1⟩
 have back : ∀ (j : Nat) (u : Sl), j ≠ i → (Γ1.set i (.box (B s')))[j]? = some u → Γ1[j]? = some u := fun j u hj ej => by rw [List.getElem?_set_ne (Ne.symm hj)] at ej; exact ej
 have hil : i < Γ1.length := (List.getElem?_eq_some_iff.mp e1).1
 have new : R F (Γ1.set i (.box (B s'))) σ G' H' := by
  refine ⟨rf, by rw [List.length_set]; exact r1.len, fun j => if j = i then fp' else fps j, fun j u ej => ?_, fun j l u z ej el hjl b hb hc => ?_⟩
  ·dsimp only
   by_cases hj : j = i
   ·subst hj
    rw [if_pos rfl]
    rw [List.getElem?_set_self hil] at ej
    cases ej
    refine ⟨v, hv, pB, fun x hx => ?_⟩
    rcases hfp x hx with hx | ⟨hx, hn⟩
    ·exact ⟨nF x (d2 x hx).1, (d2 x hx).2⟩
    ·exact ⟨(nw x hx).1, (mine x hx hn).2.1⟩
   ·rw [if_neg hj]
    have ej := back j u hj ej
    exact (h1 j u ej).go sG fun x hx => (oth j u hj ej x hx).2
  ·dsimp only at hb hc
   have cross : ∀ (l : Nat) (z : Sl), l ≠ i → Γ1[l]? = some z → ∀ b ∈ fp', b ∉ fps l := fun l z hl el b hb hc => by
    rcases hfp b hb with hb | ⟨hb, _⟩
    ·exact (oth l z hl el b hc).1 (d2 b hb).1
    ·exact h2 i l _ z e1 el (Ne.symm hl) b hb hc
   by_cases hj : j = i
   ·rw [if_pos hj] at hb
    have hl' : l ≠ i := fun y => hjl (hj.trans y.symm)
    rw [if_neg hl'] at hc
    exact cross l z hl' (back l z hl' el) b hb hc
   ·rw [if_neg hj] at hb
    by_cases hl' : l = i
    ·rw [if_pos hl'] at hc
     exact cross j u hj (back j u hj ej) b hc hb
    ·rw [if_neg hl'] at hc
     exact h2 j l u z (back j u hj ej) (back l z hl' el) hjl b hb hc
 refine ⟨sG, new, nF, fun f1 hf1 ap j u fq ej hu x hx hxf => ?_⟩
 by_cases hj : j = i
 ·subst hj
  rw [List.getElem?_set_self hil] at ej
  cases ej
  obtain ⟨w, ew2, pw2, _⟩ := hu
  rw [hv] at ew2
  cases ew2
  rw [(B s').uniq pw2 pB] at hxf
  rcases hfp x hxf with h | ⟨h, hn⟩
  ·exact ap x hx h
  ·exact (mine x h hn).1 (hf1 x hx)
 ·have ej := back j u hj ej
  have y := SlF.det hu ((h1 j u ej).go sG fun x hx => (oth j u hj ej x hx).2)
  rw [y] at hxf
  exact (oth j u hj ej x hxf).1 (hf1 x hx)
theorem part_call {n : Nat} {f : Lm S} {as : List Sl} {rs : List V} {Q : VK} {E : XK} {Qm : Rv → En → Prop} (hB : PartOf W p B) (r1 : R F Γ1 σ G1 H1) (e1 : Γ1[i]? = some (.box (B s1))) (d1 : Paired (ArgOk F G1) rs as) (hl : as.length + 1 = n)
  (hf : f p s1 as fun rv s' => Qm rv (Γ1.set i (.box (B s')))) (k : ∀ rv Γ' r G' H', Qm rv Γ' → Same G1 G' → R F Γ' σ G' H' → RvO F G' H' r rv → Apart F Γ' σ G' H' r rv → Q r H') : spL P0 W n f (.ref p :: (rs ++ [])) H1 Q E := by
 obtain ⟨fps, h1, h2⟩ := r1.fps
 have hi := h1 i _ e1
 obtain ⟨v, ew', pw', nw⟩ := id hi
 obtain ⟨f0, hp⟩ := hB pw'
 have hF : ∀ b ∈ f0, F.H0 b = none := fun b hb => (nw b (hp.sub b hb)).1
 refine ⟨F.less r1.fr f0 hF, p, s1, f0, rs, as, fun rv s' => Qm rv (Γ1.set i (.box (B s'))), by rw [List.append_nil], fun b => rfl,
  ⟨r1.fr.sub, fun _ _ _ => rfl, fun b o z _ => ?_, r1.fr.pn⟩, hp.own, fun b hb => (nw b (hp.sub b hb)).2, Paired.imp' (fun a s h => by cases s <;> exact h) d1, hl, hf, fun rv s' v1 f1 f2 G' H' hq f' a b c d => ?_⟩
 ·have z : (if b ∈ f0 then none else H1 b) = some o := z
  split at z
  ·cases z
  ·exact z
 ·obtain ⟨sG, new, nF, apart⟩ := r1.unlend e1 hi ew' hp hF f' b (fun x hx => d x (List.mem_append_right _ hx))
  have apart := apart f1 (fun x hx => (d x (List.mem_append_left _ hx)).1) c
  refine k rv _ v1 G' H' hq sG new ?_ ?_
  ·cases rv with
   | val d' => exact a.2
   | own ds =>
    obtain ⟨u, vs, e2, e3, e4, e5⟩ := a
    have hu := d u (List.mem_append_left _ (by rw [e2]; exact List.mem_singleton.mpr rfl))
    exact ⟨u, vs, e3, nF u hu.1, hu.2, e4, e5⟩
   | box B => exact ⟨f1, a, fun x hx => ⟨nF x (d x (List.mem_append_left _ hx)).1, (d x (List.mem_append_left _ hx)).2⟩⟩
  ·cases rv with
   | val d' => trivial
   | own ds =>
    intro j u fq ej hu y ey hy
    obtain ⟨u', vs, e2, e3, e4, e5⟩ := a
    rw [e3] at ey
    cases ey
    exact apart j u fq ej hu _ (by rw [e2]; exact List.mem_singleton.mpr rfl) hy
   | box B =>
    intro j u fq g ej hu hg x hx
    have y : g = f1 := B.uniq hg a
    rw [y] at hx
    exact apart j u fq ej hu x hx
end
noncomputable def mCallW2 (W : Fam S) (n : Nat) (f : Lm S) (i : Nat) (mj : ME) (m : MA) : MO := fun Γ Q => ∃ L w0 w1, (∃ s0 s1, Γ[i]? = some (.box (bW2 W L w0 w1 s0 s1))) ∧ mj Γ fun d Γ0 => (∃ s0 s1, Γ0[i]? = some (.box (bW2 W L w0 w1 s0 s1))) ∧ (d = .int 0 ∨ d = .int 1) ∧ m Γ0 fun as Γ1 => ∃ s0 s1, Γ1[i]? = some (.box (bW2 W L w0 w1 s0 s1)) ∧ as.length + 1 = n ∧
 (d = .int 0 → f w0 s0 as fun rv s' => Q rv (Γ1.set i (.box (bW2 W L w0 w1 s' s1)))) ∧ (d = .int 1 → f w1 s1 as fun rv s' => Q rv (Γ1.set i (.box (bW2 W L w0 w1 s0 s'))))
theorem vo_callW2 {K : PySem.W.Frag} {W : Fam S} {n i : Nat} {f : Lm S} {tj : TE} {t : TA} {mj : ME} {m : MA} {E : XK} (hj : VT P0 tj mj) (h : VA P0 t m) : VO P0 (tCall (spL P0 W n f) [] E (tCons (tOp (rIx K) (tVar i) tj) t)) (mCallW2 W n f i mj m) := by
 intro F Γ σ G H Q Qm r hm k
 obtain ⟨L, w0, w1, ⟨s0, s1, e⟩, hm⟩ := hm
 obtain ⟨v, _, ev, ⟨f0, f1, rfl, _⟩, _⟩ := r.sl i _ e
 refine ⟨.ref L, ev, hj F Γ σ G H _ _ r hm fun d Γ0 x G0 H0 m0 g0 r0 d0 => ?_⟩
 obtain ⟨⟨t0, t1, e0⟩, hd, m0⟩ := m0
 obtain ⟨v, _, ev', ⟨f0', f1', rfl, _, hL, _⟩, _⟩ := r0.sl i _ e0
 rcases hd with rfl | rfl
 ·cases d0
  refine .inl ⟨L, _, 0, .ref w0, rfl, rfl, SqL.of hL, rfl, h F Γ0 σ G0 H0 _ _ r0 m0 fun as Γ1 rs G1 H1 m1 g1 r1 d1 => ?_⟩
  obtain ⟨u0, u1, e1, hl, a0, a1⟩ := m1
  exact part_call (Qm := Qm) PartOf.fst r1 e1 d1 hl (a0 rfl) fun rv Γ' r' G' H' q g' => k rv Γ' r' G' H' q ((g0.trans g1).trans g')
 ·cases d0
  refine .inl ⟨L, _, 1, .ref w1, rfl, rfl, SqL.of hL, rfl, h F Γ0 σ G0 H0 _ _ r0 m0 fun as Γ1 rs G1 H1 m1 g1 r1 d1 => ?_⟩
  obtain ⟨u0, u1, e1, hl, a0, a1⟩ := m1
  exact part_call (Qm := Qm) PartOf.snd r1 e1 d1 hl (a1 rfl) fun rv Γ' r' G' H' q g' => k rv Γ' r' G' H' q ((g0.trans g1).trans g')
noncomputable def mOwnIx (i : Nat) (mj : ME) : ME := fun Γ Q => (∃ ds, Γ[i]? = some (.own ds)) ∧ mj Γ fun d Γ1 => ∃ ds, Γ1[i]? = some (.own ds) ∧ oQ (ixD (.list ds) d) fun e => Q e Γ1
noncomputable def mSetIx (i : Nat) (m mj : ME) : MS := fun Γ Q => m Γ fun d Γ1 => (∃ ds, Γ1[i]? = some (.own ds)) ∧ mj Γ1 fun x Γ2 => ∃ ds k j, Γ2[i]? = some (.own ds) ∧ x = .int k ∧ ixN ds.length k = some j ∧ Q (.nx (Γ2.set i (.own (ds.set j d))))
noncomputable def compLn (W : Fam S) (p : Addr) (k : Nat) (g : MG) (t : MT) (e : ME) (Γb : S → En) : List D → List D → S → (List D → S → Prop) → Prop
 | [], acc, s, Q => Q acc s
 | d :: ds, acc, s, Q => g d (Γb s) fun Γ1 => t Γ1 fun b Γ2 => if b = true then e Γ2 fun v Γ3 => ∃ s', Γ3[k]? = some (.box (W.box p s')) ∧ compLn W p k g t e Γb ds (acc ++ [v]) s' Q else ∃ s', Γ2[k]? = some (.box (W.box p s')) ∧ compLn W p k g t e Γb ds acc s' Q
noncomputable def mCompLn (W : Fam S) (i k : Nat) (nt : Nat) (fv : List Nat) (mi : MD) (g : MG) (t : MT) (e : ME) : MO := fun Γ Q => mi Γ fun ds Γ1 => ds.length ≤ 1000 ∧ ∃ p s, Γ1[i]? = some (.box (W.box p s)) ∧ compLn W p k g t e (fun s => (blkE nt fv Γ1).set k (.box (W.box p s))) ds [] s fun out s' => Q (.own out) (Γ1.set i (.box (W.box p s')))
theorem i_compLn {W : Fam S} {i k nt : Nat} {fv : List Nat} {mi : MD} {mg : MG} {mt : MT} {me : ME} {Γ : En} {Q : Rv → En → Prop} (h : mi Γ fun ds Γ1 => ds.length ≤ 1000 ∧ ∃ p s, Γ1[i]? = some (.box (W.box p s)) ∧ compLn W p k mg mt me (fun s => (blkE nt fv Γ1).set k (.box (W.box p s))) ds [] s fun out s' => Q (.own out) (Γ1.set i (.box (W.box p s')))) : mCompLn W i k nt fv mi mg mt me Γ Q := h
end L2.VS
namespace L2.VS
open PySem PySem.Spec PyProof.Rows
section
variable {S : Type} {W : Fam S} {n i : Nat} {f : Lm S} {m : MA} {Γ Γ1 : En} {p : Addr} {s : S} {as : List Sl}
noncomputable def lnK (W : Fam S) (n : Nat) (f : Lm S) (i : Nat) (p : Addr) (Q : Rv → En → Prop) (as : List Sl) (Γ1 : En) : Prop := ∃ s1, Γ1[i]? = some (.box (W.box p s1)) ∧ as.length + 1 = n ∧ f p s1 as fun rv s' => Q rv (Γ1.set i (.box (W.box p s')))
theorem i_lend {Q : Rv → En → Prop} (h0 : Γ[i]? = some (.box (W.box p s))) (h : m Γ (lnK W n f i p Q)) : mCallL W n f i m Γ Q := ⟨p, ⟨s, h0⟩, h⟩
theorem i_lnK {Q : Rv → En → Prop} (h0 : Γ1[i]? = some (.box (W.box p s))) (hl : as.length + 1 = n) (h : f p s as fun rv s' => Q rv (Γ1.set i (.box (W.box p s')))) : lnK W n f i p Q as Γ1 := ⟨s, h0, hl, h⟩
noncomputable def rtK (W : Fam S) (Q : Fl → Prop) (rv : Rv) (Γ1 : En) : Prop := ∃ p s, Γ1[0]? = some (.box (W.box p s)) ∧ Q (.rt (.box (bKp W rv p s)))
theorem i_retL {mo : MO} {Q : Fl → Prop} (h : mo Γ (rtK W Q)) : mRetK W mo Γ Q := h
theorem i_rtK {rv : Rv} {Q : Fl → Prop} (h0 : Γ1[0]? = some (.box (W.box p s))) (h : Q (.rt (.box (bKp W rv p s)))) : rtK W Q rv Γ1 := ⟨p, s, h0, h⟩
theorem i_endK {rv : Rv} {Q : Rv → S → Prop} (h : Q rv s) : ∃ rv0 s', Rv.box (bKp W rv p s) = .box (bKp W rv0 p s') ∧ Q rv0 s' := ⟨rv, s, rfl, h⟩
noncomputable def w2K (W : Fam S) (n : Nat) (f : Lm S) (i : Nat) (L w0 w1 : Addr) (d : D) (Q : Rv → En → Prop) (as : List Sl) (Γ1 : En) : Prop := ∃ s0 s1, Γ1[i]? = some (.box (bW2 W L w0 w1 s0 s1)) ∧ as.length + 1 = n ∧
 (d = .int 0 → f w0 s0 as fun rv s' => Q rv (Γ1.set i (.box (bW2 W L w0 w1 s' s1)))) ∧ (d = .int 1 → f w1 s1 as fun rv s' => Q rv (Γ1.set i (.box (bW2 W L w0 w1 s0 s'))))
noncomputable def w2J (W : Fam S) (n : Nat) (f : Lm S) (i : Nat) (L w0 w1 : Addr) (m : MA) (Q : Rv → En → Prop) (d : D) (Γ0 : En) : Prop := (∃ s0 s1, Γ0[i]? = some (.box (bW2 W L w0 w1 s0 s1))) ∧ (d = .int 0 ∨ d = .int 1) ∧ m Γ0 (w2K W n f i L w0 w1 d Q)
variable {L w0 w1 : Addr} {s0 s1 : S} {mj : ME}
theorem i_lend2 {Q : Rv → En → Prop} (h0 : Γ[i]? = some (.box (bW2 W L w0 w1 s0 s1))) (h : mj Γ (w2J W n f i L w0 w1 m Q)) : mCallW2 W n f i mj m Γ Q := ⟨L, w0, w1, ⟨s0, s1, h0⟩, h⟩
theorem i_w2J {Q : Rv → En → Prop} {d : D} (h0 : Γ[i]? = some (.box (bW2 W L w0 w1 s0 s1))) (hd : d = .int 0 ∨ d = .int 1) (h : m Γ (w2K W n f i L w0 w1 d Q)) : w2J W n f i L w0 w1 m Q d Γ := ⟨⟨s0, s1, h0⟩, hd, h⟩
theorem i_w2K0 {Q : Rv → En → Prop} (h0 : Γ1[i]? = some (.box (bW2 W L w0 w1 s0 s1))) (hl : as.length + 1 = n) (h : f w0 s0 as fun rv s' => Q rv (Γ1.set i (.box (bW2 W L w0 w1 s' s1)))) : w2K W n f i L w0 w1 (.int 0) Q as Γ1 := ⟨s0, s1, h0, hl, fun _ => h, fun z => nomatch z⟩
theorem i_w2K1 {Q : Rv → En → Prop} (h0 : Γ1[i]? = some (.box (bW2 W L w0 w1 s0 s1))) (hl : as.length + 1 = n) (h : f w1 s1 as fun rv s' => Q rv (Γ1.set i (.box (bW2 W L w0 w1 s0 s')))) : w2K W n f i L w0 w1 (.int 1) Q as Γ1 := ⟨s0, s1, h0, hl, fun z => (nomatch z), fun _ => h⟩
end
noncomputable def oxK (i : Nat) (Q : D → En → Prop) (d : D) (Γ1 : En) : Prop := ∃ ds, Γ1[i]? = some (.own ds) ∧ oQ (ixD (.list ds) d) fun e => Q e Γ1
theorem i_ownIx' {i : Nat} {mj : ME} {Γ : En} {Q : D → En → Prop} {ds : List D} (h0 : Γ[i]? = some (.own ds)) (h : mj Γ (oxK i Q)) : mOwnIx i mj Γ Q := ⟨⟨ds, h0⟩, h⟩
theorem i_oxK {i : Nat} {Γ : En} {Q : D → En → Prop} {ds : List D} {d : D} (h0 : Γ[i]? = some (.own ds)) (h : oQ (ixD (.list ds) d) fun e => Q e Γ) : oxK i Q d Γ := ⟨ds, h0, h⟩
noncomputable def sxK (i : Nat) (d : D) (Q : Fl → Prop) (x : D) (Γ2 : En) : Prop := ∃ ds k j, Γ2[i]? = some (.own ds) ∧ x = .int k ∧ ixN ds.length k = some j ∧ Q (.nx (Γ2.set i (.own (ds.set j d))))
noncomputable def sxJ (i : Nat) (mj : ME) (Q : Fl → Prop) (d : D) (Γ1 : En) : Prop := (∃ ds, Γ1[i]? = some (.own ds)) ∧ mj Γ1 (sxK i d Q)
theorem i_setIx' {i : Nat} {m mj : ME} {Γ : En} {Q : Fl → Prop} (h : m Γ (sxJ i mj Q)) : mSetIx i m mj Γ Q := h
theorem i_sxJ {i : Nat} {mj : ME} {Q : Fl → Prop} {d : D} {Γ1 : En} {ds : List D} (h0 : Γ1[i]? = some (.own ds)) (h : mj Γ1 (sxK i d Q)) : sxJ i mj Q d Γ1 := ⟨⟨ds, h0⟩, h⟩
end L2.VS
namespace L2.VS
open PySem PySem.Spec PyProof.Rows
variable {P0 : Addr → Hp → Prop}
noncomputable def pubS : Sl → Sl
 | .own ds => .val (.list ds)
 | .box B => match B.view with
  | some d => .val d
  | none => match B.pv with
   | some b => .pub b
   | none => .no
 | s => s
noncomputable def pubM : List Bool → En → En
 | _, [] => []
 | true :: bs, s :: Γ => s :: pubM bs Γ
 | false :: bs, s :: Γ => pubS s :: pubM bs Γ
 | [], s :: Γ => pubS s :: pubM [] Γ
noncomputable def mixM : List Bool → En → En → En
 | true :: bs, _ :: Γ, t :: Γ1 => t :: mixM bs Γ Γ1
 | false :: bs, s :: Γ, _ :: Γ1 => s :: mixM bs Γ Γ1
 | _, Γ, _ => Γ
noncomputable def Bx.Cut (B : Bx) : Prop := ∀ {v fp G G' H}, SameU G G' → B.P v fp G H → B.P v fp G' H
noncomputable def KeptOk : List Bool → En → Prop
 | true :: bs, .box B :: Γ => B.Cut ∧ KeptOk bs Γ
 | false :: bs, _ :: Γ => KeptOk bs Γ
 | [], _ => True
 | _, _ => False
theorem pubM_at : ∀ {bs : List Bool} {Γ : En} (j : Nat), (pubM bs Γ)[j]? = if bs[j]? = some true then Γ[j]? else (Γ[j]?).map pubS
 | bs, [], j => by
  have : pubM bs [] = [] := by cases bs <;> rfl
  rw [this]; simp
 | true :: bs, s :: Γ, 0 => rfl
 | false :: bs, s :: Γ, 0 => rfl
 | [], s :: Γ, 0 => rfl
 | true :: bs, s :: Γ, j + 1 => pubM_at (bs := bs) (Γ := Γ) j
 | false :: bs, s :: Γ, j + 1 => pubM_at (bs := bs) (Γ := Γ) j
 | [], s :: Γ, j + 1 => pubM_at (bs := []) (Γ := Γ) j
theorem mixM_at : ∀ {bs : List Bool} {Γ Γ1 : En} (j : Nat), Γ1.length = Γ.length → (mixM bs Γ Γ1)[j]? = if bs[j]? = some true then Γ1[j]? else Γ[j]?
 | [], Γ, Γ1, j, _ => by
  have : mixM [] Γ Γ1 = Γ := rfl
  rw [this]; simp
 | b :: bs, [], Γ1, j, h => by
  have h : Γ1 = [] := List.length_eq_zero_iff.mp h
  subst h
  have : mixM (b :: bs) [] [] = [] := by cases b <;> rfl
  rw [this]; simp
 | true :: bs, s :: Γ, [], j, h => absurd h (by simp)
 | false :: bs, s :: Γ, [], j, h => absurd h (by simp)
 | true :: bs, s :: Γ, t :: Γ1, 0, h => rfl
 | false :: bs, s :: Γ, t :: Γ1, 0, h => rfl
 | true :: bs, s :: Γ, t :: Γ1, j + 1, h => mixM_at (bs := bs) (Γ := Γ) (Γ1 := Γ1) j (by simpa using h)
 | false :: bs, s :: Γ, t :: Γ1, j + 1, h => mixM_at (bs := bs) (Γ := Γ) (Γ1 := Γ1) j (by simpa using h)
theorem KeptOk.at : ∀ {bs : List Bool} {Γ : En} {j : Nat}, KeptOk bs Γ → bs[j]? = some true → ∃ B, Γ[j]? = some (.box B) ∧ B.Cut
 | [], _, _, _, e => nomatch e
 | true :: bs, [], _, h, _ => h.elim
 | true :: bs, .box B :: Γ, 0, h, _ => ⟨B, rfl, h.1⟩
 | true :: bs, .box B :: Γ, j + 1, h, e => KeptOk.at (bs := bs) (Γ := Γ) h.2 e
 | false :: bs, s :: Γ, 0, h, e => nomatch e
 | false :: bs, s :: Γ, j + 1, h, e => KeptOk.at (bs := bs) (Γ := Γ) h e
 | false :: bs, [], _, h, _ => h.elim
section
variable {F : Fra P0} {Γ Γ1 : En} {σ : St} {G H G1 H1 : Hp} {bs : List Bool}
noncomputable def OwnM (bs : List Bool) (F : Fra P0) (Γ : En) (σ : St) (G H : Hp) (b : Addr) : Prop := ∃ (i : Nat) (s : Sl) (fp : List Addr), bs[i]? ≠ some true ∧ Γ[i]? = some s ∧ SlF F G H σ[i]? fp s ∧ b ∈ fp
open Classical in
noncomputable def gPubM (bs : List Bool) (F : Fra P0) (Γ : En) (σ : St) (G H : Hp) : Hp := fun b => if OwnM bs F Γ σ G H b then H b else G b
noncomputable def gBackM (bs : List Bool) (F : Fra P0) (Γ : En) (σ : St) (G H G1 : Hp) : Hp := fun b => open Classical in if OwnM bs F Γ σ G H b then none else G1 b
theorem OwnM.all {b : Addr} (h : OwnM bs F Γ σ G H b) : OwnA F Γ σ G H b := let ⟨i, s, fp, _, e⟩ := h; ⟨i, s, fp, e⟩
theorem OwnM.tup {b : Addr} (h : OwnM bs F Γ σ G H b) {xs : List V} (e : H b = some (.tup xs)) : ∃ q vs, V.ref q ∈ xs ∧ OwnM bs F Γ σ G H q ∧ H q = some (.lst vs) := by
 obtain ⟨i, s, fp, en, e0, e1, hb⟩ := h
 cases s with
 | no => rw [show fp = [] from e1] at hb; cases hb
 | val d => rw [e1.1] at hb; cases hb
 | pen => rw [e1.1] at hb; cases hb
 | con q => rw [e1.1] at hb; cases hb
 | pub B => rw [e1.1] at hb; cases hb
 | own ds =>
  obtain ⟨p, vs, f0, _, _, _, f3, _⟩ := e1
  rw [f0] at hb
  rw [List.mem_singleton.mp hb, f3] at e
  cases e
 | box B =>
  have e1' := e1
  obtain ⟨v, _, h2, _⟩ := e1
  obtain ⟨q, q1, q2, vs, q3⟩ := B.nt h2 b hb xs e
  exact ⟨q, vs, q2, ⟨i, _, fp, en, e0, e1', q1⟩, q3⟩
theorem SlF.pubS {s : Sl} {x : Option (Option V)} {fp : List Addr} {G' : Hp} (h : SlF F G H x fp s) (g : Same G G') (k : ∀ b ∈ fp, G' b = H b) : SlF F G' H x [] (pubS s) := by
 cases s with
 | no => rfl
 | val d => obtain ⟨_, v, e1, d1⟩ := h; exact ⟨rfl, v, e1, Dt.same g _ _ d1⟩
 | own ds =>
  obtain ⟨p, vs, e0, e1, e2, e3, e4, e5⟩ := h
  refine ⟨rfl, _, e1, .lst ?_ (Dts.same g _ _ e5)⟩
  rw [k p (by rw [e0]; exact List.mem_singleton.mpr rfl)]
  exact e4
 | pen => exact ⟨rfl, h.2⟩
 | con q => exact ⟨rfl, h.2⟩
 | pub B => obtain ⟨_, v, e1, e2⟩ := h; exact ⟨rfl, v, e1, B.mono g e2⟩
 | box B =>
  obtain ⟨v, e1, e2, e3⟩ := h
  show SlF F G' H x [] (match B.view with | some d => Sl.val d | none => match B.pv with | some b => Sl.pub b | none => Sl.no)
  cases hv : B.view with
  | none =>
   cases hw : B.pv with
   | none => exact rfl
   | some b0 => exact ⟨rfl, v, e1, B.pok e2 hw g k⟩
  | some d => exact ⟨rfl, v, e1, B.vok e2 hv g k⟩
theorem R.pubSome (r : R F Γ σ G H) : Same G (gPubM bs F Γ σ G H) ∧ R F (pubM bs Γ) σ (gPubM bs F Γ σ G H) H := by
 have g : Same G (gPubM bs F Γ σ G H) := fun b o e => by
  unfold gPubM
  by_cases h : OwnM bs F Γ σ G H b
  ·have := h.all.at.2.1
   rw [e] at this; cases this
  ·rw [if_neg h]; exact e
 obtain ⟨fps, h1, h2⟩ := r.fps
 have keep : ∀ i s, bs[i]? = some true → Γ[i]? = some s → ∀ b ∈ fps i, gPubM bs F Γ σ G H b = none := fun i s hb e b hbf => by
  unfold gPubM
  rw [if_neg]
  ·exact ((h1 i s e).mine hbf).2.1
  ·rintro ⟨j, u, fp, hj, ej, hu, hbu⟩
   rw [SlF.det hu (h1 j u ej)] at hbu
   exact h2 i j s u e ej (fun z => hj (by rw [← z]; exact hb)) b hbf hbu
 have get : ∀ (i : Nat) s, (pubM bs Γ)[i]? = some s → ∃ s0, Γ[i]? = some s0 ∧ s = if bs[i]? = some true then s0 else VS.pubS s0 := fun i s e => by
  rw [pubM_at] at e
  by_cases hb : bs[i]? = some true
  ·rw [if_pos hb] at e
   exact ⟨s, e, by rw [if_pos hb]⟩
  ·rw [if_neg hb] at e
   cases e0 : Γ[i]? with
   | none => rw [e0] at e; cases e
   | some s0 => rw [e0] at e; exact ⟨s0, rfl, by rw [if_neg hb]; exact (Option.some.inj e).symm⟩
 refine ⟨g, ⟨fun b o e => ?_, fun b o e => ?_, r.fr.h0, r.fr.pn⟩, ?_, fun i => if bs[i]? = some true then fps i else [], fun i s e => ?_, fun i j s t ei ej hij b hb hc => ?_⟩
 ·unfold gPubM at e
  split at e
  ·exact e
  ·exact r.fr.sub b o e
 ·have h : ¬ OwnM bs F Γ σ G H b := fun h => by
   have := h.all.at.1
   rw [e] at this; cases this
  unfold gPubM
  rw [if_neg h]
  exact r.fr.g0 b o e
 ·rw [← r.len]
  have : ∀ (bs : List Bool) (Γ : En), (pubM bs Γ).length = Γ.length := fun bs Γ => by
   induction Γ generalizing bs with
   | nil => cases bs <;> rfl
   | cons s Γ ih =>
    rcases bs with _ | ⟨b, bs⟩
    ·show (pubM [] Γ).length + 1 = _; rw [ih]; rfl
    ·cases b
     ·show (pubM bs Γ).length + 1 = _; rw [ih]; rfl
     ·show (pubM bs Γ).length + 1 = _; rw [ih]; rfl
  exact this bs Γ
 ·obtain ⟨s0, e0, rfl⟩ := get i s e
  dsimp only
  by_cases hb : bs[i]? = some true
  ·rw [if_pos hb, if_pos hb]
   exact (h1 i s0 e0).go g fun b hbf => ⟨keep i s0 hb e0 b hbf, rfl⟩
  ·rw [if_neg hb, if_neg hb]
   refine (h1 i s0 e0).pubS g fun b hbf => ?_
   unfold gPubM
   rw [if_pos ⟨i, s0, fps i, hb, e0, h1 i s0 e0, hbf⟩]
 ·dsimp only at hb hc
  split at hb
  ·split at hc
   ·obtain ⟨s0, e0, _⟩ := get i s ei
    obtain ⟨t0, f0, _⟩ := get j t ej
    exact h2 i j s0 t0 e0 f0 hij b hb hc
   ·cases hc
  ·cases hb
structure PkEnd (bs : List Bool) (Γ Γ1 : En) : Prop where
 len : Γ1.length = Γ.length
 oth : Γ1 = mixM bs (pubM [] Γ) Γ1
 cut : KeptOk bs Γ1
theorem R.backSome (r : R F Γ σ G H) (s : Same (gPubM bs F Γ σ G H) G1) (r1 : R F Γ1 σ G1 H1) (e : PkEnd bs Γ Γ1) : Same G (gBackM bs F Γ σ G H G1) ∧ R F (mixM bs Γ Γ1) σ (gBackM bs F Γ σ G H G1) H1 ∧ SameU G1 (gBackM bs F Γ σ G H G1) ∧
  (∀ b, OwnM bs F Γ σ G H b → G1 b = H b ∧ H1 b = H b) := by
 have s0 := (r.pubSome (bs := bs)).1
 have own : ∀ b, OwnM bs F Γ σ G H b → G1 b = H b ∧ H1 b = H b := fun b h => by
  obtain ⟨_, _, o, e⟩ := h.all.at
  have q : gPubM bs F Γ σ G H b = H b := by unfold gPubM; rw [if_pos h]
  rw [e] at q ⊢
  exact ⟨s b _ q, r1.fr.sub b _ (s b _ q)⟩
 have g : Same G (gBackM bs F Γ σ G H G1) := fun b o e => by
  have h : ¬ OwnM bs F Γ σ G H b := fun h => by
   have := h.all.at.2.1
   rw [e] at this; cases this
  unfold gBackM
  rw [if_neg h]
  exact s b o (s0 b o e)
 have un : SameU G1 (gBackM bs F Γ σ G H G1) := fun b xs e => by
  by_cases h : OwnM bs F Γ σ G H b
  ·have e' : H b = some (.tup xs) := by rw [← (own b h).1]; exact e
   obtain ⟨q, vs, q1, q2, q3⟩ := h.tup e'
   exact .inr ⟨q, vs, q1, by rw [(own q q2).1]; exact q3⟩
  ·refine .inl ?_
   unfold gBackM
   rw [if_neg h]
   exact e
 obtain ⟨fps, h1, h2⟩ := r.fps
 obtain ⟨fqs, k1, k2⟩ := r1.fps
 have get : ∀ {i : Nat} {u : Sl}, (mixM bs Γ Γ1)[i]? = some u → if bs[i]? = some true then Γ1[i]? = some u else Γ[i]? = some u := fun {i u} ei => by
  rw [mixM_at i e.len] at ei
  by_cases hb : bs[i]? = some true
  ·rw [if_pos hb] at ei ⊢; exact ei
  ·rw [if_neg hb] at ei ⊢; exact ei
 have none1 : ∀ b, G1 b = none → gBackM bs F Γ σ G H G1 b = none := fun b hb => by
  unfold gBackM
  split
  ·rfl
  ·exact hb
 have cross : ∀ {i j : Nat} {u z : Sl}, bs[i]? = some true → bs[j]? ≠ some true → Γ1[i]? = some u → Γ[j]? = some z → ∀ b ∈ fqs i, b ∉ fps j := fun {i j u z} hi hj ei ej b hb hc => by
  have m := (k1 i u ei).mine hb
  have o := own b ⟨j, z, fps j, hj, ej, h1 j z ej, hc⟩
  obtain ⟨_, _, o', e'⟩ := (h1 j z ej).mine hc
  rw [m.2.1, e'] at o
  cases o.1
 refine ⟨g, ⟨⟨fun b o e => ?_, fun b o e => ?_, r1.fr.h0, r1.fr.pn⟩, ?_, fun i => if bs[i]? = some true then fqs i else fps i, fun i u ei => ?_, fun i j u z ei ej hij b hb hc => ?_⟩, un, own⟩
 ·unfold gBackM at e
  split at e
  ·cases e
  ·exact r1.fr.sub b o e
 ·have h : ¬ OwnM bs F Γ σ G H b := fun h => by
   have := h.all.at.1
   rw [e] at this; cases this
  unfold gBackM
  rw [if_neg h]
  exact r1.fr.g0 b o e
 ·have hl : ∀ (bs : List Bool) (Γ Γ1 : En), Γ1.length = Γ.length → (mixM bs Γ Γ1).length = Γ.length := fun bs Γ Γ1 h => by
   induction bs generalizing Γ Γ1 with
   | nil => rfl
   | cons b bs ih =>
    cases Γ with
    | nil => cases Γ1 with
     | nil => cases b <;> rfl
     | cons t Γ1 => cases h
    | cons s Γ => cases Γ1 with
     | nil => cases h
     | cons t Γ1 =>
      have h : Γ1.length = Γ.length := by simpa using h
      cases b
      ·show (mixM bs Γ Γ1).length + 1 = _; rw [ih Γ Γ1 h]; rfl
      ·show (mixM bs Γ Γ1).length + 1 = _; rw [ih Γ Γ1 h]; rfl
  rw [hl bs Γ Γ1 e.len]
  exact r.len
 ·have ei := get ei
  dsimp only
  by_cases hb : bs[i]? = some true
  ·rw [if_pos hb] at ei ⊢
   obtain ⟨B, eB, cB⟩ := e.cut.at hb
   rw [ei] at eB
   cases eB
   obtain ⟨v, ev, pv, nv⟩ := k1 i _ ei
   exact ⟨v, ev, cB un pv, fun x hx => ⟨(nv x hx).1, none1 x (nv x hx).2⟩⟩
  ·rw [if_neg hb] at ei ⊢
   refine (h1 i u ei).go g fun b hbf => ?_
   have ho : OwnM bs F Γ σ G H b := ⟨i, u, fps i, hb, ei, h1 i u ei, hbf⟩
   refine ⟨?_, (own b ho).2⟩
   unfold gBackM
   rw [if_pos ho]
 ·have ei := get ei
  have ej := get ej
  dsimp only at hb hc
  by_cases hi : bs[i]? = some true
  ·rw [if_pos hi] at ei hb
   by_cases hj : bs[j]? = some true
   ·rw [if_pos hj] at ej hc
    exact k2 i j u z ei ej hij b hb hc
   ·rw [if_neg hj] at ej hc
    exact cross hi hj ei ej b hb hc
  ·rw [if_neg hi] at ei hb
   by_cases hj : bs[j]? = some true
   ·rw [if_pos hj] at ej hc
    exact cross hj hi ej ei b hc hb
   ·rw [if_neg hj] at ej hc
    exact h2 i j u z ei ej hij b hb hc
end
noncomputable def mPeekL (bs : List Bool) (m : ME) : ME := fun Γ Q => m (pubM bs Γ) fun d Γ1 => noLst d = true ∧ PkEnd bs Γ Γ1 ∧ Q d (mixM bs Γ Γ1)
noncomputable def mPeekLT (bs : List Bool) (m : MT) : MT := fun Γ Q => m (pubM bs Γ) fun b Γ1 => PkEnd bs Γ Γ1 ∧ Q b (mixM bs Γ Γ1)
noncomputable def mPeekLO (bs : List Bool) (m : MO) : MO := fun Γ Q => m (pubM bs Γ) fun rv Γ1 => noLsts (match rv with | .val d => [d] | .own ds => ds | .box _ => [.list []]) = true ∧ PkEnd bs Γ Γ1 ∧ Q rv (mixM bs Γ Γ1)
theorem vtt_peekL {bs : List Bool} {t : TT} {m : MT} (h : VTT P0 t m) : VTT P0 t (mPeekLT bs m) := by
 intro F Γ σ G H Q Qm r hm k
 obtain ⟨s0, r0⟩ := r.pubSome (bs := bs)
 refine h F _ σ _ H _ _ r0 hm fun b Γ1 G1 H1 m1 s1 r1 => ?_
 obtain ⟨he, q⟩ := m1
 obtain ⟨s2, r2, t2, _⟩ := r.backSome s1 r1 he
 exact k _ _ _ _ q s2 r2
theorem cut_pen {p : Addr} {n : Nat} : (penF.box p n).Cut := fun _ h => h
noncomputable def pkK (bs : List Bool) (Γ : En) (Q : D → En → Prop) (d : D) (Γ1 : En) : Prop := noLst d = true ∧ PkEnd bs Γ Γ1 ∧ Q d (mixM bs Γ Γ1)
noncomputable def pkKT (bs : List Bool) (Γ : En) (Q : Bool → En → Prop) (b : Bool) (Γ1 : En) : Prop := PkEnd bs Γ Γ1 ∧ Q b (mixM bs Γ Γ1)
noncomputable def pkKO (bs : List Bool) (Γ : En) (Q : Rv → En → Prop) (rv : Rv) (Γ1 : En) : Prop := noLsts (match rv with | .val d => [d] | .own ds => ds | .box _ => [.list []]) = true ∧ PkEnd bs Γ Γ1 ∧ Q rv (mixM bs Γ Γ1)
section
variable {bs : List Bool} {Γ Γ1 : En}
theorem i_pkL {m : ME} {Q : D → En → Prop} (h : m (pubM bs Γ) (pkK bs Γ Q)) : mPeekL bs m Γ Q := h
theorem i_pkLT {m : MT} {Q : Bool → En → Prop} (h : m (pubM bs Γ) (pkKT bs Γ Q)) : mPeekLT bs m Γ Q := h
theorem i_pkLO {m : MO} {Q : Rv → En → Prop} (h : m (pubM bs Γ) (pkKO bs Γ Q)) : mPeekLO bs m Γ Q := h
theorem i_pkK {Q : D → En → Prop} {d : D} (h1 : noLst d = true) (hl : Γ1.length = Γ.length) (ho : Γ1 = mixM bs (pubM [] Γ) Γ1) (hc : KeptOk bs Γ1) (h : Q d (mixM bs Γ Γ1)) : pkK bs Γ Q d Γ1 := ⟨h1, ⟨hl, ho, hc⟩, h⟩
theorem i_pkKT {Q : Bool → En → Prop} {d : Bool} (hl : Γ1.length = Γ.length) (ho : Γ1 = mixM bs (pubM [] Γ) Γ1) (hc : KeptOk bs Γ1) (h : Q d (mixM bs Γ Γ1)) : pkKT bs Γ Q d Γ1 := ⟨⟨hl, ho, hc⟩, h⟩
end
end L2.VS
namespace L2.VS
open PySem PySem.Spec PyProof.Rows
variable {P0 : Addr → Hp → Prop} {S : Type}
noncomputable def lstF : Fam (List D) where
  box := fun p ds =>
    { P := fun v fp G H => v = .ref p ∧ fp = [p] ∧ noLsts ds = true ∧ ∃ vs, H p = some (.lst vs) ∧ Dts G vs ds
      mono := fun g ⟨a, b, z, vs, c, d⟩ => ⟨a, b, z, vs, c, Dts.same g _ _ d⟩
      loc := fun k ⟨a, b, z, vs, c, d⟩ => ⟨a, b, z, vs, (k p (by rw [b]; exact List.mem_singleton.mpr rfl)).trans c, d⟩
      dom := fun ⟨_, b, _, vs, c, _⟩ x hx => by
        rw [b] at hx
        rw [List.mem_singleton.mp hx]
        exact ⟨_, c⟩
      uniq := fun h g => h.2.1.trans g.2.1.symm
      nt := fun ⟨_, b, _, vs, c, _⟩ x hx xs y => by
        rw [b] at hx
        rw [List.mem_singleton.mp hx, c] at y
        cases y
      view := some (.list ds)
      vok := fun ⟨a, b, _, vs, c, d⟩ z g k => by
        cases z
        subst a
        refine .lst ?_ (Dts.same g _ _ d)
        rw [k p (by rw [b]; exact List.mem_singleton.mpr rfl)]
        exact c }
  pin := fun h => h.1
theorem cut_lst {p : Addr} {ds : List D} : (lstF.box p ds).Cut := fun g ⟨a, b, z, vs, c, d⟩ => ⟨a, b, z, vs, c, Dts.sameU g _ _ z d⟩
noncomputable def mRetKj (W : Fam S) (j : Nat) (m : MO) : MS := fun Γ Q => m Γ fun rv Γ1 => ∃ p s, Γ1[j]? = some (.box (W.box p s)) ∧ Q (.rt (.box (bKp W rv p s)))
noncomputable def mSetIxB (i : Nat) (m mj : ME) : MS := fun Γ Q => m Γ fun d Γ1 => noLst d = true ∧ ∃ p, (∃ ds, Γ1[i]? = some (.box (lstF.box p ds))) ∧ mj Γ1 fun x Γ2 => ∃ ds k j, Γ2[i]? = some (.box (lstF.box p ds)) ∧ x = .int k ∧ ixN ds.length k = some j ∧ Q (.nx (Γ2.set i (.box (lstF.box p (ds.set j d)))))
noncomputable def rtKj (W : Fam S) (j : Nat) (Q : Fl → Prop) (rv : Rv) (Γ1 : En) : Prop := ∃ p s, Γ1[j]? = some (.box (W.box p s)) ∧ Q (.rt (.box (bKp W rv p s)))
theorem i_retLj {W : Fam S} {j : Nat} {mo : MO} {Γ : En} {Q : Fl → Prop} (h : mo Γ (rtKj W j Q)) : mRetKj W j mo Γ Q := h
theorem i_rtKj {W : Fam S} {j : Nat} {p : Addr} {s : S} {rv : Rv} {Γ1 : En} {Q : Fl → Prop} (h0 : Γ1[j]? = some (.box (W.box p s))) (h : Q (.rt (.box (bKp W rv p s)))) : rtKj W j Q rv Γ1 := ⟨p, s, h0, h⟩
noncomputable def sbK (i : Nat) (p : Addr) (d : D) (Q : Fl → Prop) (x : D) (Γ2 : En) : Prop := ∃ ds k j, Γ2[i]? = some (.box (lstF.box p ds)) ∧ x = .int k ∧ ixN ds.length k = some j ∧ Q (.nx (Γ2.set i (.box (lstF.box p (ds.set j d)))))
noncomputable def sbJ (i : Nat) (mj : ME) (Q : Fl → Prop) (d : D) (Γ1 : En) : Prop := noLst d = true ∧ ∃ p, (∃ ds, Γ1[i]? = some (.box (lstF.box p ds))) ∧ mj Γ1 (sbK i p d Q)
theorem i_setIxB {i : Nat} {m mj : ME} {Γ : En} {Q : Fl → Prop} (h : m Γ (sbJ i mj Q)) : mSetIxB i m mj Γ Q := h
theorem i_sbJ {i : Nat} {mj : ME} {Q : Fl → Prop} {d : D} {Γ1 : En} {p : Addr} {ds : List D} (h0 : Γ1[i]? = some (.box (lstF.box p ds))) (hd : noLst d = true) (h : mj Γ1 (sbK i p d Q)) : sbJ i mj Q d Γ1 := ⟨hd, p, ⟨ds, h0⟩, h⟩
end L2.VS
namespace L2.VS
open PySem PySem.Spec PyProof.Rows
variable {P0 : Addr → Hp → Prop} {S : Type}
structure WS where
 d : Addr
 ll : Addr
 lo : Addr
 ls : List D
 now : D
 os : List D
noncomputable def wkFs (s : WS) (vn : V) : List (Str × V) := [("lines", .ref s.ll), ("now", vn), ("listed", .ref s.lo)]
structure WkAt (C w : Addr) (s : WS) (us : List V) (vn : V) (vs : List V) (H : Hp) : Prop where
 i : H w = some (.ins C s.d (wkFs s vn))
 d : H s.d = some (.own w)
 l : H s.ll = some (.lst us)
 o : H s.lo = some (.lst vs)
structure WkDt (s : WS) (us : List V) (vn : V) (vs : List V) (G : Hp) : Prop where
 l : Dts G us s.ls
 n : Dt G vn s.now
 o : Dts G vs s.os
structure WkNl (s : WS) : Prop where
 ne : s.ll ≠ s.lo
 nl : noLsts s.ls = true
 nn : noLst s.now = true
 no : noLsts s.os = true
theorem WkAt.at {C w : Addr} {s : WS} {us vs : List V} {vn : V} {H H' : Hp} (h : WkAt C w s us vn vs H) (k : ∀ b ∈ [w, s.d, s.ll, s.lo], H' b = H b) : WkAt C w s us vn vs H' :=
 ⟨(k w (by simp)).trans h.i, (k s.d (by simp)).trans h.d, (k s.ll (by simp)).trans h.l, (k s.lo (by simp)).trans h.o⟩
theorem WkAt.same {C w : Addr} {s : WS} {us vs : List V} {vn : V} {H H' : Hp} (h : WkAt C w s us vn vs H) (g : Same H H') : WkAt C w s us vn vs H' := ⟨g _ _ h.i, g _ _ h.d, g _ _ h.l, g _ _ h.o⟩
theorem WkDt.same {s : WS} {us vs : List V} {vn : V} {G G' : Hp} (h : WkDt s us vn vs G) (g : Same G G') : WkDt s us vn vs G' := ⟨Dts.same g _ _ h.l, Dt.same g _ _ h.n, Dts.same g _ _ h.o⟩
theorem WkAt.dom {C w : Addr} {s : WS} {us vs : List V} {vn : V} {H : Hp} (h : WkAt C w s us vn vs H) : ∀ y ∈ [w, s.d, s.ll, s.lo], ∃ o, H y = some o ∧ ∀ xs, o ≠ .tup xs := fun y hy => by
 simp only [List.mem_cons, List.not_mem_nil, or_false] at hy
 rcases hy with rfl | rfl | rfl | rfl
 ·exact ⟨_, h.i, fun _ z => nomatch z⟩
 ·exact ⟨_, h.d, fun _ z => nomatch z⟩
 ·exact ⟨_, h.l, fun _ z => nomatch z⟩
 ·exact ⟨_, h.o, fun _ z => nomatch z⟩
noncomputable def pWalk (C w : Addr) (s : WS) : Pb where
 P := fun v G => v = .ref w ∧ ∃ us vn vs, WkAt C w s us vn vs G ∧ WkDt s us vn vs G
 mono := fun g ⟨a, us, vn, vs, b, c⟩ => ⟨a, us, vn, vs, b.same g, c.same g⟩
noncomputable def walkF (C : Addr) : Fam WS where
  box := fun w s =>
    { P := fun v fp G H => v = .ref w ∧ fp = [w, s.d, s.ll, s.lo] ∧ WkNl s ∧ ∃ us vn vs, WkAt C w s us vn vs H ∧ WkDt s us vn vs G
      mono := fun g ⟨a, b, z, us, vn, vs, c, e⟩ => ⟨a, b, z, us, vn, vs, c, e.same g⟩
      loc := fun k ⟨a, b, z, us, vn, vs, c, e⟩ => ⟨a, b, z, us, vn, vs, c.at (fun y hy => k y (by rw [b]; exact hy)), e⟩
      dom := fun ⟨a, b, z, us, vn, vs, c, e⟩ y hy => by
        rw [b] at hy
        obtain ⟨o, ho, _⟩ := c.dom y hy
        exact ⟨o, ho⟩
      uniq := fun h g => h.2.1.trans g.2.1.symm
      nt := fun ⟨a, b, z, us, vn, vs, c, e⟩ y hy xs q => by
        rw [b] at hy
        obtain ⟨o, ho, hn⟩ := c.dom y hy
        rw [ho] at q
        exact absurd (Option.some.inj q) (hn xs)
      view := none
      vok := fun _ z => nomatch z
      pv := some (pWalk C w s)
      pok := fun ⟨a, b, z, us, vn, vs, c, e⟩ y g k => by
        cases y
        exact ⟨a, us, vn, vs, c.at (fun y hy => k y (by rw [b]; exact hy)), e.same g⟩ }
  pin := fun h => h.1
theorem cut_walk {C w : Addr} {s : WS} : ((walkF C).box w s).Cut := fun g ⟨a, b, z, us, vn, vs, c, e⟩ => ⟨a, b, z, us, vn, vs, c, Dts.sameU g _ _ z.nl e.l, Dt.sameU g _ _ z.nn e.n, Dts.sameU g _ _ z.no e.o⟩
noncomputable def InW (C w : Addr) (s : WS) (sl : Sl) : Prop := sl = .box ((walkF C).box w s) ∨ sl = .pub (pWalk C w s)
section
variable {C : Addr} {i : Nat}
theorem R.wk {F : Fra P0} {Γ : En} {σ : St} {G H : Hp} {w : Addr} {s : WS} {sl : Sl} (r : R F Γ σ G H) (e : Γ[i]? = some sl) (h : InW C w s sl) : ∃ us vn vs, σ[i]? = some (some (.ref w)) ∧ WkAt C w s us vn vs H ∧ WkDt s us vn vs G := by
 rcases h with rfl | rfl
 ·obtain ⟨v, fp, e1, ⟨rfl, _, _, us, vn, vs, b, c⟩, _⟩ := r.sl i _ e
  exact ⟨us, vn, vs, e1, b, c⟩
 ·obtain ⟨v, e1, rfl, us, vn, vs, b, c⟩ := r.sl i _ e
  exact ⟨us, vn, vs, e1, b.same r.fr.sub, c⟩
theorem PartOf.listed {w : Addr} {s : WS} : PartOf lstF s.lo (fun os => (walkF C).box w { s with os := os }) := fun {os v fp G H} h => by
 obtain ⟨rfl, rfl, z, us, vn, vs, a, b⟩ := h
 have nw : w ≠ s.lo := ne_of a.i a.o (by intro z; cases z)
 have nd : s.d ≠ s.lo := ne_of a.d a.o (by intro z; cases z)
 have in1 : w ∉ [s.lo] := fun y => nw (List.mem_singleton.mp y)
 have in2 : s.d ∉ [s.lo] := fun y => nd (List.mem_singleton.mp y)
 have in3 : s.ll ∉ [s.lo] := fun y => z.ne (List.mem_singleton.mp y)
 refine ⟨[s.lo], fun b hb => by rw [List.mem_singleton.mp hb]; simp, ⟨rfl, rfl, z.no, vs, a.o, b.o⟩, fun os' f' G' H' g h' k => ?_⟩
 obtain ⟨_, rfl, zo, vs', c', d'⟩ := h'
 refine ⟨[w, s.d, s.ll, s.lo], ⟨rfl, rfl, ⟨z.ne, z.nl, z.nn, zo⟩, us, vn, vs', ⟨(k w (by simp) in1).1.trans a.i, (k s.d (by simp) in2).1.trans a.d, (k s.ll (by simp) in3).1.trans a.l, c'⟩, ⟨Dts.same g _ _ b.l, Dt.same g _ _ b.n, d'⟩⟩, fun y hy => ?_⟩
 by_cases hyo : y ∈ [s.lo]
 ·exact .inl hyo
 ·exact .inr ⟨hy, hyo⟩
theorem vo_methL {W : Fam S} {n : Nat} {m : Str} {f : Lm S} {t : TA} {ma : MA} {E : XK} (hW : ∀ {p s v fp G H}, (W.box p s).P v fp G H → ∃ dx fs, H p = some (.ins C dx fs) ∧ fs.lookup m = none) (h : VA P0 t ma) : VO P0 (tMeth C m (spL P0 W n f) [] E (tVar i) t) (mCallL W n f i ma) := by
 intro F Γ σ G H Q Qm r hm k
 obtain ⟨p, ⟨s, e⟩, hm⟩ := hm
 obtain ⟨v, fp, ev, pv, _⟩ := r.sl i _ e
 have z := W.pin pv
 subst z
 obtain ⟨dx, fs, hp, hl⟩ := hW pv
 refine ⟨.ref p, ev, p, dx, fs, rfl, hp, hl, h F Γ σ G H _ _ r hm fun as Γ1 rs G1 H1 m1 g1 r1 d1 => ?_⟩
 obtain ⟨s1, e1, hn, hf⟩ := m1
 exact part_call (Qm := Qm) PartOf.self r1 e1 d1 hn hf fun rv Γ' r' G' H' q g' => k rv Γ' r' G' H' q (g1.trans g')
end
end L2.VS
namespace L2.VS
open PySem PySem.Spec PyProof.Rows
theorem kept_n {Γ : En} : KeptOk [] Γ := by cases Γ <;> exact trivial
theorem kept_f {s : Sl} {bs : List Bool} {Γ : En} (h : KeptOk bs Γ) : KeptOk (false :: bs) (s :: Γ) := h
theorem kept_t {B : Bx} {bs : List Bool} {Γ : En} (c : B.Cut) (h : KeptOk bs Γ) : KeptOk (true :: bs) (.box B :: Γ) := ⟨c, h⟩
end L2.VS
namespace L2.VS
open PySem PySem.Spec PyProof.Rows
variable {P0 : Addr → Hp → Prop}
noncomputable def mPopAt (i : Nat) (m : ME) : ME := fun Γ Q => (∃ ds, Γ[i]? = some (.own ds)) ∧ m Γ fun x Γ1 => ∃ ds d, ∃ k : Nat, Γ1[i]? = some (.own ds) ∧ x = .int (k : Int) ∧ k < 1000000 ∧ ds[k]? = some d ∧ Q d (Γ1.set i (.own (ds.eraseIdx k)))
theorem dts_erase {G : Hp} : ∀ {vs : List V} {ds : List D} {k : Nat}, Dts G vs ds → Dts G (vs.eraseIdx k) (ds.eraseIdx k)
 | _, _, _, .nil => .nil
 | _, _, 0, .cons _ b => b
 | _, _, k + 1, .cons a b => .cons a (dts_erase b)
theorem vt_popAt {K : PySem.W.Frag} {i : Nat} {t : TE} {m : ME} (h : VT P0 t m) : VT P0 (tBM K "list" rPopAt (tVar i) (tCons t tNil)) (mPopAt i m) := by
 intro F Γ σ G H Q Qm r hm k
 obtain ⟨⟨ds0, e0⟩, hm⟩ := hm
 obtain ⟨p, vs0, ep, _, _, hp0, _⟩ := r.sl i _ e0
 refine ⟨.ref p, ep, .inl ⟨rfl, _, SqL.of hp0⟩, ?_⟩
 refine h F Γ σ G H _ _ r hm fun x Γ1 v G1 H1 m1 g1 r1 d1 => ?_
 obtain ⟨ds, d, n, e1, rfl, hn, hd, q⟩ := m1
 obtain ⟨p', vs, ep', _, _, hp, hvs⟩ := r1.sl i _ e1
 rw [ep] at ep'
 cases ep'
 cases d1
 obtain ⟨u, hu, du⟩ := Dts.get hvs hd
 have hlt : n < vs.length := (List.getElem?_eq_some_iff.mp hu).1
 refine ⟨p, vs, (n : Int), n, u, rfl, rfl, hp, by omega, by omega, ?_, hu, ?_⟩
 ·unfold seqIndex?
  have h1 : ¬ (n : Int) < 0 := by omega
  have h2 : (decide (0 ≤ (n : Int)) && decide ((n : Int) < (vs.length : Int))) = true := by
   rw [decide_eq_true (by omega), decide_eq_true (by omega)]
   rfl
  simp only [if_neg h1, h2, if_true, Int.toNat_natCast]
 ·exact k _ _ _ _ _ q g1 (r1.write e1 ep (dts_erase hvs)) du
noncomputable def ppK (i : Nat) (Q : D → En → Prop) (x : D) (Γ1 : En) : Prop := ∃ ds d, ∃ k : Nat, Γ1[i]? = some (.own ds) ∧ x = .int (k : Int) ∧ k < 1000000 ∧ ds[k]? = some d ∧ Q d (Γ1.set i (.own (ds.eraseIdx k)))
theorem i_popAt {i : Nat} {m : ME} {Γ : En} {Q : D → En → Prop} {ds : List D} (h0 : Γ[i]? = some (.own ds)) (h : m Γ (ppK i Q)) : mPopAt i m Γ Q := ⟨⟨ds, h0⟩, h⟩
theorem i_ppK {i : Nat} {Q : D → En → Prop} {Γ1 : En} {ds : List D} {d : D} {k : Nat} (h0 : Γ1[i]? = some (.own ds)) (hk : k < 1000000) (hd : ds[k]? = some d) (h : Q d (Γ1.set i (.own (ds.eraseIdx k)))) : ppK i Q (.int (k : Int)) Γ1 := ⟨ds, d, k, h0, rfl, hk, hd, h⟩
noncomputable def mLenO (i : Nat) : ME := fun Γ Q => ∃ ds, (Γ[i]? = some (.own ds) ∨ Γ[i]? = some (.val (.list ds))) ∧ Q (.int (ds.length : Int)) Γ
theorem vt_lenO {K : PySem.W.Frag} {i : Nat} : VT P0 (tCB (fun xs H Q => ∃ p ys, xs = [.ref p] ∧ (SqL K H p ys ∨ SqT K H p ys) ∧ Q (.int ys.length) H) (tCons (tVar i) tNil)) (mLenO i) := by
 intro F Γ σ G H Q Qm r hm k
 obtain ⟨ds, e | e, q⟩ := hm
 ·obtain ⟨p, vs, ep, _, _, hp, hvs⟩ := r.sl i _ e
  exact ⟨.ref p, ep, p, vs, rfl, .inl (SqL.of hp), by rw [hvs.len]; exact k _ _ _ _ _ q (Same.refl _) r (.int _)⟩
 ·obtain ⟨v, ev, dv⟩ := r.sl i _ e
  cases dv with
  | @lst p vs _ hp rs => exact ⟨.ref p, ev, p, vs, rfl, .inl (SqL.of (r.fr.sub _ _ hp)), by rw [rs.len]; exact k _ _ _ _ _ q (Same.refl _) r (.int _)⟩
theorem i_lenO {i : Nat} {Γ : En} {Q : D → En → Prop} {ds : List D} (h0 : Γ[i]? = some (.own ds)) (h : Q (.int (ds.length : Int)) Γ) : mLenO i Γ Q := ⟨ds, .inl h0, h⟩
end L2.VS
namespace L2
open PySem PySem.Spec PyProof.Rows
end L2
namespace L2.VS
open PySem PySem.Spec PyProof.Rows
variable {P0 : Addr → Hp → Prop}
noncomputable def mNo : Fm := fun _ _ => False
theorem cal_no {P : Program} {w : World} {K : PySem.W.Frag} {mg : Str → Option Value} {base : Heap} {k n : Nat} {x : Str} {ps : List Str} {f : Addr} {fd : FuncData} (hm : mg x = some (.ref f)) (kp : PySem.W.keepIn K (.ref f) = true) (b : Binds K fd ps []) : Cal P w K mg base k x ps (spM P0 n mNo) :=
 ⟨f, fd, ⟨fun vs H Q E h => by obtain ⟨_, _, _, _, _, _, _, hm, _⟩ := h; exact hm.elim, fun _ _ _ _ _ _ _ _ _ _ _ _ _ h => by obtain ⟨_, _, _, _, _, _, _, hm, _⟩ := h; exact hm.elim⟩, hm, kp, b⟩
end L2.VS
namespace L2
open PySem PySem.Calls PyProof.Rows PySem.W
abbrev NK2 := (Int × Int) × (Int × Int)
noncomputable def nk0 : NK2 := ((0, 0), (0, 0))
noncomputable def npLt (p q : NK2) : Bool := decide ((p.1.1 < q.1.1 ∨ p.1.1 = q.1.1 ∧ p.1.2 < q.1.2) ∨ (p.1.1 = q.1.1 ∧ p.1.2 = q.1.2) ∧ (p.2.1 < q.2.1 ∨ p.2.1 = q.2.1 ∧ p.2.2 < q.2.2))
theorem npLt_iff {p q : NK2} : npLt p q = true ↔ (p.1.1 < q.1.1 ∨ p.1.1 = q.1.1 ∧ p.1.2 < q.1.2) ∨ (p.1.1 = q.1.1 ∧ p.1.2 = q.1.2) ∧ (p.2.1 < q.2.1 ∨ p.2.1 = q.2.1 ∧ p.2.2 < q.2.2) := decide_eq_true_iff
theorem npLt_asymm {p q : NK2} (h : npLt p q = true) : npLt q p = false := by
 rw [Bool.eq_false_iff]
 intro g
 rw [npLt_iff] at h g
 omega
theorem npLt_trans {p q r : NK2} (h : npLt p q = true) (g : npLt q r = true) : npLt p r = true := by
 rw [npLt_iff] at h g ⊢
 omega
theorem npLt_tot {p q : NK2} (h : p ≠ q) : npLt p q = true ∨ npLt q p = true := by
 rw [npLt_iff, npLt_iff]
 obtain ⟨⟨a, b⟩, c, d⟩ := p
 obtain ⟨⟨e, f⟩, g, i⟩ := q
 have : ¬ (a = e ∧ b = f ∧ c = g ∧ d = i) := fun ⟨h1, h2, h3, h4⟩ => h (by rw [h1, h2, h3, h4])
 dsimp only
 omega
theorem tot_np {ks : List NK2} (nd : ks.Nodup) : Tot (fun i j => npLt (ks.getD i nk0) (ks.getD j nk0)) ks.length where
 total i j hi hj hij := npLt_tot fun e => by
  rw [List.getD_eq_getElem?_getD, List.getD_eq_getElem?_getD, List.getElem?_eq_getElem hi, List.getElem?_eq_getElem hj] at e
  exact hij ((List.getElem_inj nd).mp e)
 asymm i j _ _ h := npLt_asymm h
 trans i j k _ _ _ h g := npLt_trans h g
noncomputable def TupI (h : Heap) (k : Int × Int) (x : Addr) : Prop := ∃ o n t u, h.get? x = some o ∧ o.cls = .type "tuple" ∧ o.data = .seq #[.int k.1 t, .int k.2 u] n
theorem TupI.key {prog : Program} {w : World} {h : Heap} {k : Int × Int} {x : Addr} (hx : TupI h k x) : IsTupleKey (intKind prog w) h [k.1, k.2] x := by
 obtain ⟨o, n, t, u, h1, h2, h3⟩ := hx
 exact ⟨o, _, n, h1, h2, h3, .cons (intKind_is _ _ _ _) (.cons (intKind_is _ _ _ _) .nil)⟩
theorem lex2 (a b : Int × Int) : HT.lexLt [a.1, a.2] [b.1, b.2] = decide (a.1 < b.1 ∨ a.1 = b.1 ∧ a.2 < b.2) := by
 rw [HT.lexLt_cons, HT.lexLt_cons, HT.lexLt_nil_nil]
 by_cases h : a.1 = b.1
 ·rw [if_pos h]
  by_cases h2 : a.2 = b.2
  ·rw [if_pos h2]
   exact (decide_eq_false (by omega)).symm
  ·rw [if_neg h2]
   exact decide_eq_decide.mpr (by omega)
 ·rw [if_neg h]
  exact decide_eq_decide.mpr (by omega)
noncomputable def NpAt (h : Heap) (L : Addr) (v : Value) (k : NK2) : Prop := ∃ a o n x y, v = .ref a ∧ a ≠ L ∧ h.get? a = some o ∧ o.cls = .type "tuple" ∧ o.data = .seq #[.ref x, .ref y] n ∧ x ≠ L ∧ y ≠ L ∧ TupI h k.1 x ∧ TupI h k.2 y
theorem NpAt.go {h h' : Heap} {L : Addr} {v : Value} {k : NK2} (keep : ∀ b o, b ≠ L → h.get? b = some o → h'.get? b = some o) (z : NpAt h L v k) : NpAt h' L v k := by
 obtain ⟨a, o, n, x, y, r1, r2, r3, r4, r5, r6, r7, ⟨o1, n1, t1, u1, a1, a2, a3⟩, o2, n2, t2, u2, b1, b2, b3⟩ := z
 exact ⟨a, o, n, x, y, r1, r2, keep a o r2 r3, r4, r5, r6, r7, ⟨o1, n1, t1, u1, keep _ _ r6 a1, a2, a3⟩, o2, n2, t2, u2, keep _ _ r7 b1, b2, b3⟩
section
variable {prog : Program} {w : World} {A : Around} {E : Value → Shared → Prop} {s : Shared} {Q : Bool → Shared → Prop}
theorem tup_lt {a b : Addr} {k l : Int × Int} (ta : TupI s.heap k a) (tb : TupI s.heap l b) (hu : A.units < cLine) (h : Q (decide (k.1 < l.1 ∨ k.1 = l.1 ∧ k.2 < l.2)) s) : wpAny (model prog w) A (oneLt' false (.ref a) (.ref b)) Q E s := by
 obtain ⟨o, n, t, u, h1, h2, h3⟩ := ta
 obtain ⟨o', n', t', u', h1', h2', h3'⟩ := tb
 refine kat_one _ _ (HT.lt_tupInts (ns := [k.1, k.2]) (ms := [l.1, l.2]) ⟨o, h1, h2, n, h3⟩ ⟨o', h1', h2', n', h3'⟩ (intsAre_of (.cons ⟨t, rfl⟩ (.cons ⟨u, rfl⟩ .nil))) (intsAre_of (.cons ⟨t', rfl⟩ (.cons ⟨u', rfl⟩ .nil))) hu ?_)
 show Q (HT.lexLt [k.1, k.2] [l.1, l.2]) s
 rw [lex2]
 exact h
theorem np_lt {x y : Addr} {ox oy : Obj} {n m : Nat} {a b c d : Addr} {p q : NK2} (hx : s.heap.get? x = some ox) (dx : ox.data = .seq #[.ref a, .ref b] n) (hy : s.heap.get? y = some oy) (dy : oy.data = .seq #[.ref c, .ref d] m)
  (ta : TupI s.heap p.1 a) (tb : TupI s.heap p.2 b) (tc : TupI s.heap q.1 c) (td : TupI s.heap q.2 d) (hu : A.units < cLine)
  (h : Q (npLt p q) s) : wpAny (model prog w) A (keyLt' (tuples' false) (.ref x) (.ref y)) Q E s := by
 refine kat_lt hx dx hy dy ?_
 show KatLex prog w A false _ Q [(.ref a, .ref c), (.ref b, .ref d)] 0 s
 refine kat_cons (wpAny_eqBool_tuple hu ta.key tc.key ?_)
 obtain ⟨⟨p1, p2⟩, p3, p4⟩ := p
 obtain ⟨⟨q1, q2⟩, q3, q4⟩ := q
 dsimp only at ta tb tc td ⊢
 unfold npLt at h
 dsimp only at h
 by_cases e : [p1, p2] = [q1, q2]
 ·rw [decide_eq_true e]
  injection e with e1 e2
  injection e2 with e2 _
  refine kat_yes (kat_cons (wpAny_eqBool_tuple hu tb.key td.key ?_))
  dsimp only
  by_cases f : [p3, p4] = [q3, q4]
  ·rw [decide_eq_true f]
   injection f with f1 f2
   injection f2 with f2 _
   refine kat_yes (kat_nil ?_)
   rw [decide_eq_false (by omega)] at h
   exact h
  ·rw [decide_eq_false f]
   refine kat_no (tup_lt tb td hu ?_)
   rw [decide_eq_decide.mpr (show _ ↔ (p3 < q3 ∨ p3 = q3 ∧ p4 < q4) by omega)] at h
   exact h
 ·rw [decide_eq_false e]
  have e' : ¬ (p1 = q1 ∧ p2 = q2) := fun ⟨h1, h2⟩ => e (by rw [h1, h2])
  refine kat_no (tup_lt ta tc hu ?_)
  rw [decide_eq_decide.mpr (show _ ↔ (p1 < q1 ∨ p1 = q1 ∧ p2 < q2) by omega)] at h
  exact h
end
section
variable {prog : Program} {w : World} {A : Around} {E : Value → Shared → Prop} {s : Shared}
theorem nps_firsts {h : Heap} {L : Addr} {vs : List Value} {ks : List NK2} (hp : Paired (NpAt h L) vs ks) : ∃ fs, KatTups h vs fs ∧ fs.length = vs.length ∧ ∀ f ∈ fs, Looks (model prog w) h (typeOf f) (.type "tuple") := by
 induction hp with
 | nil => exact ⟨[], trivial, rfl, fun _ h => (nomatch h)⟩
 | @cons v k vs ks r t ih =>
  obtain ⟨fs, a1, a2, a3⟩ := ih
  obtain ⟨a, o, n, x, y, rfl, _, ho, hc, hd, _, _, ⟨o', _, _, _, h1, h2, _⟩, _⟩ := r
  refine ⟨.ref x :: fs, .cons ho hc hd rfl a1, congrArg Nat.succ a2, fun f hf => ?_⟩
  rcases List.mem_cons.mp hf with e | e
  ·rw [e]
   exact h2 ▸ (show Looks (model prog w) h (typeOf (.ref x)) o'.cls from (Looks.ld h1).andThen .now)
  ·exact a3 f e
theorem nps_at {h : Heap} {L : Addr} {vs : List Value} {ks : List NK2} (hp : Paired (NpAt h L) vs ks) : ∀ {i : Nat}, i < vs.length → NpAt h L (vs.getD i .none) (ks.getD i nk0) := by
 induction hp with
 | nil => intro i hi; cases hi
 | cons r t ih =>
  intro i hi
  cases i with
  | zero => exact r
  | succ i => exact ih (Nat.lt_of_succ_lt_succ hi)
theorem sorted_np {l L : Addr} {m : Str → Option Value} {vs : List Value} {ks : List NK2} {Q : Value → Shared → Prop} (hu : A.units + 64 < cLine) (hL : s.heap.Ns L m) (hl : s.heap.IsList l vs.toArray) (h2 : 2 ≤ vs.length) (h64 : vs.length < 64) (hp : Paired (NpAt s.heap L) vs ks) (nd : ks.Nodup)
  (q : ∀ (is : List Nat) (D : Addr) (h' : Heap) (c : Nat), is.Perm (List.range vs.length) → (is.map fun i => ks.getD i nk0).Pairwise (fun a b => npLt a b = true) → s.heap.get? D = none → D ≠ L → (∀ b o, b ≠ L → s.heap.get? b = some o → h'.get? b = some o) → h'.Ns L m → h'.get? D = some (listOf (is.map fun i => vs.getD i .none).toArray c) → Q (.ref D) { s with heap := h' }) :
  wpAny (model prog w) A (call (.builtin "sorted") [.ref l]) Q E s := by
 obtain ⟨h₀, z1, z2, z3⟩ := cutHeap s.heap L
 obtain ⟨news, n1, n2⟩ := newsAbove s.heap L
 have F : Fr h₀ L s.heap m := ⟨hL, z2, z1⟩
 have N : News h₀ L s.heap news := fun p hp => ⟨(n1 p hp).1, Nat.ne_of_gt (n1 p hp).2, by
  cases e : h₀.get? p.1 with
  | none => rfl
  | some o => exact absurd (Nat.lt_of_lt_of_le (Heap.lt_size e) z1) (Nat.not_lt.mpr (Nat.le_of_lt (n1 p hp).2))⟩
 have all : ∀ {h' : Heap}, Fr h₀ L h' m → News h₀ L h' news → ∀ b o, b ≠ L → s.heap.get? b = some o → h'.get? b = some o := fun F' N' b o hb e => by
  rcases Nat.lt_trichotomy b L with y | y | y
  ·exact F'.keep b o (z3 b o y e)
  ·exact absurd y hb
  ·exact (N' _ (n2 b o y e)).1
 refine kat_sorted F N hl h2 h64 fun D e1 h' F' N' fresh => ?_
 have N2 : News h₀ L h' news := fun p hp => N' p (List.mem_cons_of_mem _ hp)
 have keep := all F' N2
 have hd := N' _ List.mem_cons_self
 have hD : s.heap.get? D = none := by
  cases e : s.heap.get? D with
  | none => rfl
  | some o =>
   rcases Nat.lt_trichotomy D L with y | y | y
   ·have := z3 D o y e
    rw [hd.2.2] at this; cases this
   ·exact absurd y hd.2.1
   ·exact absurd (fresh _ (n2 D o y e)) (Nat.lt_irrefl _)
 have hp' : Paired (NpAt h' L) vs ks := Paired.mapP hp fun v k h => h.go keep
 have hlen : vs.length = ks.length := hp.length
 obtain ⟨fs, f1, f2, f3⟩ := nps_firsts (prog := prog) (w := w) hp'
 refine kat_kind (T := .type "tuple") (s := { s with heap := h' }) f1 (by rw [f2]; omega) (fun v hv => f3 v hv) rfl ?_
 show KasT.kasWp (kas_ask prog w A.in1.in1 (tuples' false) vs) (kas_sort vs.length) _ _
 refine kas_sort_any (I := fun s' => s' = { s with heap := h' }) (lt := fun i j => npLt (ks.getD i nk0) (ks.getD j nk0)) (fun i j C s' h0 h1 hi k => ?_) (hlen ▸ tot_np nd) (by omega) rfl fun p s' hpm hup hs' => ?_
 ·subst hi
  obtain ⟨a, o, n, x, y, ra, _, r3, _, r5, _, _, tx, ty⟩ := nps_at hp' h0
  obtain ⟨a', o', n', x', y', ra', _, r3', _, r5', _, _, tx', ty'⟩ := nps_at hp' h1
  unfold kas_ask
  rw [ra, ra']
  exact np_lt (s := { s with heap := h' }) r3 r5 r3' r5' tx ty tx' ty' (by show A.units + 1 + 1 < cLine; omega) (k _ rfl)
 ·subst hs'
  refine KasFin.intro F' N' (.head fun p hp => Nat.ne_of_lt (fresh p hp)) fun h2' c F2 N3 => ?_
  refine q p.toList D h2' c (by simpa using Array.perm_iff_toList_perm.mp hpm) ?_ hD hd.2.1 (all F2 fun p hp => N3 p (List.mem_cons_of_mem _ hp)) F2.ns (N3 _ List.mem_cons_self).1
  have hsz := hpm.size
  rw [List.pairwise_iff_getElem]
  intro i j hi hj hij
  rw [List.length_map, Array.length_toList, hsz] at hi hj
  have := hup i j hij hj
  rw [Array.getD_eq_getD_getElem?, Array.getD_eq_getD_getElem?, Array.getElem?_eq_getElem (by omega), Array.getElem?_eq_getElem (by omega)] at this
  rw [List.getElem_map, List.getElem_map, Array.getElem_toList, Array.getElem_toList]
  exact this
end
end L2
namespace L2
open PySem PySem.Spec PyProof.Rows
noncomputable def NpsAre (H : Hp) : List V → List NK2 → Prop := Paired fun v k => ∃ b x y, v = .ref b ∧ H b = some (.tup [.ref x, .ref y]) ∧ H x = some (.tup [.int k.1.1, .int k.1.2]) ∧ H y = some (.tup [.int k.2.1, .int k.2.2])
theorem tupI_of {P : Program} {w : World} {H : Hp} {h : Heap} {k : Int × Int} {x : Addr} (ok : HOk P w H h) (e : H x = some (.tup [.int k.1, .int k.2])) : TupI h k x := by
 obtain ⟨_, items, ri, o, h1, h2, n, h3⟩ := (show ObjOk P w H h x (.tup [.int k.1, .int k.2]) from ok x _ e)
 obtain ⟨u1, u2, rfl, r1, r2⟩ := ri.two
 obtain ⟨t1, rfl⟩ := r1
 obtain ⟨t2, rfl⟩ := r2
 exact ⟨o, n, t1, t2, h1, h2, h3⟩
noncomputable def rSortQ (K : PySem.W.Frag) : List V → Hp → VK → Prop := fun xs H Q => ∃ l qs ks, xs = [.ref l] ∧ SqL K H l qs ∧ NpsAre H qs ks ∧ 2 ≤ qs.length ∧ qs.length < 64 ∧ ks.Nodup ∧
 ∀ (is : List Nat) p, is.Perm (List.range qs.length) → (is.map fun i => ks.getD i nk0).Pairwise (fun a b => npLt a b = true) → H p = none → Q (.ref p) (upd H p (.lst (is.map fun i => qs.getD i .non)))
section
variable {X : Cx}
theorem call_sortQ (hu : X.A.units + 64 < cLine) : CallR X (.builtin "sorted") (rSortQ X.K) := by
 intro pins s σ H xs us Q I r h
 obtain ⟨l, qs, ks, rfl, hq, hp, h2, h64, nd, q⟩ := h
 obtain ⟨u, rfl, rx⟩ := vals1 r
 cases rx
 obtain ⟨its, rv, pl, hz⟩ := I.list hq
 have hlen : qs.length = its.length := rv.length
 obtain ⟨m, hn, _⟩ := id I.loc
 have hpr : Paired (NpAt s.heap X.env.locals) its ks := by
  clear h2 h64 hz hlen hq nd
  unfold NpsAre at hp
  clear pl q
  induction hp generalizing its with
  | nil => cases rv; exact .nil
  | @cons v k qs ks a t ih =>
   cases rv with
   | cons b c =>
    refine .cons ?_ (ih _ c)
    obtain ⟨bk, x, y, rfl, hb, hx, hy⟩ := a
    cases b
    obtain ⟨_, items, ri, o, h1, h2, n, h3⟩ := (show ObjOk X.prog X.w H s.heap bk (.tup [.ref x, .ref y]) from I.hok bk _ hb)
    obtain ⟨u1, u2, rfl, r1, r2⟩ := ri.two
    cases r1
    cases r2
    exact ⟨bk, o, n, x, y, rfl, (fun z => by rw [z, I.free] at hb; cases hb), h1, h2, h3, (fun z => by rw [z, I.free] at hx; cases hx), (fun z => by rw [z, I.free] at hy; cases hy), tupI_of I.hok hx, tupI_of I.hok hy⟩
 refine sorted_np hu hn pl.isList (by omega) (by omega) hpr nd fun is D h' c his hup hD hDL keep hn' hd => ?_
 have his2 : is.Perm (List.range qs.length) := hlen ▸ his
 have hmem : ∀ i ∈ is, i < qs.length := fun i hi => List.mem_range.mp (his2.mem_iff.mp hi)
 have rv2 := vals_pick rv hmem
 have hil : (is.map fun i => qs.getD i .non).length = qs.length := by rw [List.length_map, his2.length_eq, List.length_range]
 have HD : H D = none := by
  cases e : H D with
  | none => rfl
  | some o =>
   obtain ⟨u, hu⟩ := (I.hok D o e).there
   rw [hD] at hu; cases hu
 have noL : ∀ b o, H b = some o → b ≠ X.env.locals := fun b o e z => by rw [z, I.free] at e; cases e
 have neD : ∀ b o, H b = some o → b ≠ D := fun b o e z => by rw [z, HD] at e; cases e
 have hok : HOk X.prog X.w (upd H D (.lst (is.map fun i => qs.getD i .non))) h' := fun b o e => by
  by_cases hb : b = D
  ·subst hb
   rw [upd_same] at e
   cases e
   exact ⟨by rw [hil]; exact hz, _, c, rv2, hd⟩
  ·rw [upd_ne hb] at e
   refine (I.hok b o e).stay (fun b' u hb' hu => keep b' u ?_ hu) (fun b' z => by rw [upd_ne (neD _ _ z)]; exact z) fun b' xs z => by rw [upd_ne (neD _ _ z)]; exact z
   rcases hb' with z | z
   ·rw [z]; exact noL _ _ e
   ·exact noL _ _ z
 have I' : Inv X pins σ (upd H D (.lst (is.map fun i => qs.getD i .non))) { s with heap := h', gens := s.gens, drawn := s.drawn, toks := s.toks } := I.step (ch := []) (fun _ z => nomatch z) (fun b o hb _ _ e _ => keep b o hb e) (fun b o hb _ _ e _ => ⟨o.slots, keep b o hb e⟩)
  (fun b o _ e n => by rw [upd_ne (fun z => by rw [z, hD] at e; cases e)]; exact n)
  (fun b o _ e => by
   by_cases hb : b = X.env.locals
   ·subst hb
    obtain ⟨o', _, _, h1, _⟩ := hn'
    exact ⟨o', h1⟩
   ·exact ⟨o, keep b o hb e⟩)
  (fun b xs z => by rw [upd_ne (neD _ _ z)]; exact z) (fun b o u z => by rw [upd_ne (neD _ _ z)]; exact z) (fun b ps z => ⟨#[], by rw [upd_ne (neD _ _ z)]; simpa using z⟩)
  (fun m' hm => ns_one hn hm ▸ hn') hok I.bare
 exact ⟨.ref D, _, I', rfl, q is D his2 hup HD⟩
noncomputable def rSortM (K : PySem.W.Frag) : List V → Hp → VK → Prop := fun xs H Q => rSortQ K xs H Q ∨ rSort0 K xs H Q
theorem call_sortM (hu : X.A.units + 64 < cLine) : CallR X (.builtin "sorted") (rSortM X.K) := CallR.or (call_sortQ hu) call_sort0
end
noncomputable def srtN (ks : List NK2) : List NK2 := ks.mergeSort fun a b => !npLt b a
theorem srtN_perm (ks : List NK2) : (srtN ks).Perm ks := List.mergeSort_perm _ _
theorem npLt_ne {a b : NK2} (h : npLt a b = true) : a ≠ b := fun e => by
 rw [e, npLt_iff] at h
 omega
theorem srtN_up {ks : List NK2} (nd : ks.Nodup) : (srtN ks).Pairwise fun a b => npLt a b = true := by
 have h1 : (srtN ks).Pairwise fun a b => (!npLt b a) = true := by
  refine List.pairwise_mergeSort (fun a b c h g => ?_) (fun a b => ?_) ks
  ·simp only [Bool.not_eq_true', ← Bool.not_eq_true, npLt_iff] at h g ⊢
   omega
  ·by_cases e : a = b
   ·subst e
    have : npLt a a = false := by rw [← Bool.not_eq_true, npLt_iff]; omega
    rw [this]; rfl
   ·rcases npLt_tot e with h | h
    ·rw [npLt_asymm h]; rfl
    ·rw [npLt_asymm h]; simp
 have h2 : (srtN ks).Nodup := (srtN_perm ks).nodup_iff.mpr nd
 refine (h1.and h2).imp fun {a b} h => ?_
 exact (npLt_tot h.2).resolve_right (by simpa using h.1)
theorem srtN_of {xs ks : List NK2} (hp : xs.Perm ks) (hu : xs.Pairwise fun a b => npLt a b = true) : srtN ks = xs := by
 have nx : xs.Nodup := hu.imp fun h => npLt_ne h
 have nd : ks.Nodup := hp.nodup_iff.mp nx
 refine List.Perm.eq_of_pairwise (le := fun a b => npLt a b = true) (fun a b _ _ h g => ?_) (srtN_up nd) hu ((srtN_perm ks).trans hp.symm)
 rw [npLt_asymm h] at g
 cases g
end L2
namespace L2.VS
open PySem PySem.Spec PyProof.Rows
variable {P0 : Addr → Hp → Prop} {ta : TE} {ma : ME} {K : PySem.W.Frag}
noncomputable def npD (k : NK2) : D := .tuple [.tuple [.int k.1.1, .int k.1.2], .tuple [.int k.2.1, .int k.2.2]]
noncomputable def npsD (ks : List NK2) : List D := ks.map npD
theorem np_back {G H : Hp} (sub : ∀ b o, G b = some o → H b = some o) : ∀ {ks : List NK2} {vs : List V}, Dts G vs (npsD ks) → NpsAre H vs ks := by
 intro ks vs h
 induction ks generalizing vs with
 | nil => cases h; exact .nil
 | cons k ks ih =>
  cases h with
  | cons a b =>
   refine .cons ?_ (ih b)
   cases a with
   | tup h1 r1 =>
    cases r1 with
    | cons a1 r1 =>
     cases r1 with
     | cons a2 r2 =>
      cases r2
      cases a1 with
      | tup h2 r2 =>
       cases a2 with
       | tup h3 r3 =>
        have z2 := ints_back (ns := [k.1.1, k.1.2]) r2
        have z3 := ints_back (ns := [k.2.1, k.2.2]) r3
        subst z2 z3
        exact ⟨_, _, _, rfl, sub _ _ h1, sub _ _ h2, sub _ _ h3⟩
theorem pick_np {G : Hp} {qs : List V} {ks : List NK2} (h : Dts G qs (npsD ks)) {is : List Nat} (hm : ∀ i ∈ is, i < qs.length) : Dts G (is.map fun i => qs.getD i .non) (npsD (is.map fun i => ks.getD i nk0)) := by
 have at_ : ∀ i, i < qs.length → Dt G (qs.getD i .non) (npD (ks.getD i nk0)) := by
  clear hm
  induction ks generalizing qs with
  | nil => cases h; intro i hi; cases hi
  | cons k ks ih =>
   cases h with
   | cons a b =>
    intro i hi
    cases i with
    | zero => exact a
    | succ i => exact ih b i (Nat.lt_of_succ_lt_succ hi)
 induction is with
 | nil => exact .nil
 | cons i is ih => exact .cons (at_ i (hm i List.mem_cons_self)) (ih fun j hj => hm j (List.mem_cons_of_mem _ hj))
noncomputable def mSortM (ma : ME) : MO := fun Γ Q => ma Γ fun x Γ1 => ∃ ks : List NK2, x = .list (npsD ks) ∧ ks.length < 64 ∧ ks.Nodup ∧ Q (.own (npsD (srtN ks))) Γ1
theorem vo_sortM (ha : VT P0 ta ma) : VO P0 (tCB (rSortM K) (tCons ta tNil)) (mSortM ma) := by
 intro F Γ σ G H Q Qm r m k
 refine ha F Γ σ G H _ _ r m fun x Γ1 v G1 H1 m1 s1 r1 d1 => ?_
 obtain ⟨ks, rfl, h64, nd, m1⟩ := m1
 cases d1 with
 | @lst p qs _ hp rs =>
  have hl : qs.length = ks.length := by rw [rs.len]; unfold npsD; rw [List.length_map]
  by_cases h1 : 2 ≤ ks.length
  ·refine .inl ⟨p, qs, ks, rfl, SqL.of (r1.fr.sub _ _ hp), np_back (fun b o e => r1.fr.sub b o e) rs, by omega, by omega, nd, fun is l his hup hl2 => ?_⟩
   have hmem : ∀ i ∈ is, i < qs.length := fun i hi => List.mem_range.mp (his.mem_iff.mp hi)
   obtain ⟨a, b, c⟩ := own_new r1 hl2 (pick_np rs hmem)
   have e : srtN ks = is.map fun i => ks.getD i nk0 := by
    refine srtN_of ?_ hup
    have e1 : ((List.range qs.length).map fun i => ks.getD i nk0) = ks := by
     refine List.ext_getElem? fun i => ?_
     rw [List.getElem?_map, hl]
     by_cases hi : i < ks.length
     ·simp [hi]
     ·simp [hi]
    have := his.map fun i => ks.getD i nk0
    rw [e1] at this
    exact this
   rw [e] at m1
   exact k _ _ _ _ _ m1 s1 a b c
  ·refine .inr ⟨p, qs, rfl, SqL.of (r1.fr.sub _ _ hp), by omega, fun l hl2 => ?_⟩
   obtain ⟨a, b, c⟩ := own_new r1 hl2 rs
   have e : srtN ks = ks := srtN_of (List.Perm.refl _) (by
    match ks, h1 with
    | [], _ => exact .nil
    | [x], _ => exact List.pairwise_singleton _ _
    | x :: y :: r, h => exact absurd (show 2 ≤ (x :: y :: r).length from by simp) h)
   rw [e] at m1
   exact k _ _ _ _ _ m1 s1 a b c
theorem i_sortM {ma : ME} {Γ : En} {Q : Rv → En → Prop} (h : ma Γ fun x Γ1 => ∃ ks : List NK2, x = .list (npsD ks) ∧ ks.length < 64 ∧ ks.Nodup ∧ Q (.own (npsD (srtN ks))) Γ1) : mSortM ma Γ Q := h
end L2.VS
namespace L2
open PySem PySem.Spec PyProof.Rows
theorem caught_do {X : Cx} {C D0 : Addr} {lx : Str} {lp hp : Pos} {pins : List (Addr × Obj)} {σ : St} {H1 : Hp} {s1 s' : Shared} {D : Ends} {ev : Value} {b0 : Stmt} {rest : List Stmt} {tb : TS} (hs : X.stack = X.env :: X.outer) (hf : X.env.frame = some X.env.locals)
  (hgL : Gl X lx) (hmL : X.mg lx = some (.ref D0)) (zC : XCls X.K C) (zD : XCls X.K D0) (zs : PySem.W.mroIn X.K C (.ref D0) = some true)
  (hdl : (lx == ("__debug__" : Str)) = false) (hb : ∀ e, PSs (X.marked e) (b0 :: rest) tb) (I1 : Inv X pins σ H1 s1)
  (hq : CX1 X.prog X.w X.stack H1 s1 (fun c o H' => ∃ ea, c = .ref C ∧ o = some ea ∧ (H' ea = none → tb D σ (upd H' ea (ExO ea C)))) ev s') :
  wpAny (model X.prog X.w) X.A (noteFrame ev X.env) (fun _ s₂ => wpAny (model X.prog X.w) X.A (setFlight ev none) (fun _ s₃ => wpAny (model X.prog X.w) X.A (handleBy ev X.env [.ExceptHandler (some (.Name lx lp)) none (b0 :: rest) hp]) (SP X pins D) X.xe s₃) X.xe s₂) X.xe s' := by
 obtain ⟨ea, C', a0, B, H', rfl, os, bare, fl, u, hok, ea', hC', ho', hD⟩ := hq
 cases hC'
 cases ho'
 obtain ⟨h3, g3, d3, t3, os3⟩ := s'
 dsimp only at os bare fl u
 subst os
 have fl' := fl
 rw [hs] at fl'
 refine wpAny_looks_onW (by rw [← hs]; exact I1.ok.frames) hf fl' fun h4 held4 ups4 => ?_
 refine wpAny_landsW held4 fun h5 fl5 ups5 => ?_
 have bK : ∀ b o, X.base.get? b = some o → h5.get? b = some o := fun b o q => fl5.1 b o (u.keep b o (I1.bs b o q).1 (I1.bs b o q).2 fun z => by
  rw [(I1.stack.mem z).1] at q; cases q)
 have G5 : X.K.In h5 := I1.ok.mod.kin.keeps bK
 refine wpAny_handleBy_cons (codeAny_handlers_test (Calls.Name_function_global I1.ok.kind hgL (Calls.loadGlobal_global (by rw [I1.ok.glob]; exact I1.mod.glob.keeps bK) hmL ?_) hdl)) (by intro q; cases q)
 obtain ⟨bm, Nn, nm, qn, bs, hdct, sn, sub, ab, col, dd, k0, k1, k2, k3, k5, mN, hCo, _, _, T, lC⟩ := exc_in G5 zC.ex
 obtain ⟨bm', Nn', nm', qn', bs', hdct', sn', sub', ab', col', dd', j0, j1, j2, j3, j5, mN', hDo, _, _, T', lD⟩ := exc_in G5 zD.ex
 have hin : (Value.ref C :: bm).contains (.ref D0) = true := by
  unfold PySem.W.mroIn PySem.W.clsIn at zs
  rw [lC] at zs
  exact Option.some.inj zs
 obtain ⟨oe, hoe, hoc⟩ := fl5.there
 refine xc_matches hCo hDo hoe hoc (T'.hasType (by decide)) hin (codeAny_handlers_suite ?_)
 refine lands_againW fl5 fun h6 fl6 ups6 => ?_
 rw [← hs] at fl6
 obtain ⟨hne, I6⟩ := I1.caught (g := g3) (d := d3) (t := t3) u hok bare fl6 ((ups4.trans ups5).trans ups6)
 refine wpAny_mono (hb (.ref ea) pins _ _ _ D (I6.marked _) (hD hne)) (fun fl s8 z => ?_) fun _ _ z => z.elim
 cases fl with
 | next =>
  obtain ⟨σ', H2, I8, z⟩ := z
  exact ⟨σ', H2, I8.unmarked I1.ok, z⟩
 | brk =>
  obtain ⟨σ', H2, I8, z⟩ := z
  exact ⟨σ', H2, I8.unmarked I1.ok, z⟩
 | cont =>
  obtain ⟨σ', H2, I8, z⟩ := z
  exact ⟨σ', H2, I8.unmarked I1.ok, z⟩
 | ret u =>
  obtain ⟨v, σ', H2, I8, r, z⟩ := z
  exact ⟨v, σ', H2, I8.unmarked I1.ok, r, z⟩
section
variable {X : Cx} {C D0 : Addr} {lx : Str} {lp hp pos : Pos} {b0 : Stmt} {rest : List Stmt} {tb : TS}
noncomputable def tTryD (C : Addr) (t : TX) (tb : TS) : TS := fun D σ H => t D (fun σ1 c o H' => ∃ ea, c = .ref C ∧ o = some ea ∧ (H' ea = none → tb D σ1 (upd H' ea (ExO ea C)))) σ H
theorem ps_tryD {body : List Stmt} {t : TX} (hbody : PX X body t) (hs : X.stack = X.env :: X.outer) (hf : X.env.frame = some X.env.locals)
  (hgL : Gl X lx) (hmL : X.mg lx = some (.ref D0)) (zC : XCls X.K C) (zD : XCls X.K D0) (zs : PySem.W.mroIn X.K C (.ref D0) = some true) (hb : ∀ e, PSs (X.marked e) (b0 :: rest) tb)
  (hdl : (lx == ("__debug__" : Str)) = false := by decide) :
  PS X (.Try body [.ExceptHandler (some (.Name lx lp)) none (b0 :: rest) hp] [] [] pos) (tTryD C t tb) := by
 intro pins s σ H D I h
 refine wpAny_Try_except (wpAny_mono (hbody pins s σ H D _ I h) (fun f s1 q => ?_) fun ev s' q => ?_)
 ·cases f with
  | next => exact wpAny_execs_nil q
  | ret v => exact q
  | brk => exact q
  | cont => exact q
 ·obtain ⟨σ1, H1, s1, I1, q⟩ := q
  exact caught_do hs hf hgL hmL zC zD zs hdl hb I1 q
end
theorem FnOk.noX {P : Program} {w : World} {K : PySem.W.Frag} {mg : Str → Option Value} {base : Heap} {k : Nat} {f : Addr} {fd : FuncData} {ps : List Str} {sp : Sp} (F : FnOk P w K mg base (CX1 P w) k f fd ps sp) :
  FnOk P w K mg base CX0 k f fd ps (fun vs H Q _ => sp vs H Q fun _ _ _ => False) :=
 ⟨fun vs H Q E h => F.len vs H Q _ h, fun A outer s H args us vs Q E hr he hb hv hs => codeAny_mono (F.run A outer s H args us vs Q _ hr he hb hv hs) fun r s' hq => by
  cases r with
  | ok fl =>
   cases fl with
   | ret u => exact hq
   | next => exact hq
   | brk => exact hq
   | cont => exact hq
  | error e =>
   obtain ⟨_, _, _, _, _, _, _, _, _, _, _, z⟩ := hq
   exact z.elim⟩
end L2
namespace L2.VS
open PySem PySem.Spec PyProof.Rows
variable {P0 : Addr → Hp → Prop} {S : Type}
section
variable {F : Fra P0} {H H' : Hp} {fp : List Addr} {l : Addr}
theorem lent_at (hH : ∀ b, F.H0 b = if b ∈ fp then none else H b) {b : Addr} {o : HO} (z : F.H0 b = some o) : b ∉ fp ∧ H b = some o := by
 rw [hH] at z
 split at z
 ·cases z
 ·exact ⟨by assumption, z⟩
theorem lent_end (hH : ∀ b, F.H0 b = if b ∈ fp then none else H b) (rf : Rf F F.G0 H) (hG : ∀ b ∈ fp, F.G0 b = none) (hd : ∀ b ∈ fp, ∃ o, H b = some o) (hl : l ∈ fp) (hX : SameX l H H') :
  Rf F (gNew H H' F.G0) H' ∧ ∀ b ∈ fp, F.H0 b = none ∧ gNew H H' F.G0 b = none := by
 have nl : ∀ {b}, b ∉ fp → b ≠ l := fun h z => h (z ▸ hl)
 refine ⟨⟨fun b o z => ?_, fun b o z => ?_, fun b o z hb => ?_, F.stab' H H' (fun b o z => ?_) rf.pn⟩, fun b hb => ⟨by rw [hH, if_pos hb], ?_⟩⟩
 ·cases y : H b with
  | none => rw [gNew_new y] at z; exact z
  | some u =>
   rw [gNew_old y] at z
   exact hX b o (fun w => by rw [w, hG l hl] at z; cases z) (rf.sub b o z)
 ·obtain ⟨h1, h2⟩ := lent_at hH z
  rw [gNew_old h2]
 ·obtain ⟨h1, h2⟩ := lent_at hH z
  exact hX b o (nl h1) h2
 ·obtain ⟨h1, h2⟩ := lent_at hH z
  rw [hX b o (nl h1) h2, h2]
 ·obtain ⟨o, ho⟩ := hd b hb
  rw [gNew_old ho]
  exact hG b hb
theorem lent_same (hH : ∀ b, F.H0 b = if b ∈ fp then none else H b) (rf : Rf F F.G0 H) (g : Same H H') : Rf F F.G0 H' :=
 ⟨fun b o z => g b o (rf.sub b o z), fun _ _ _ => rfl, fun b o z _ => g b o (lent_at hH z).2, F.stab' H H' (fun b o z => by rw [g b o (lent_at hH z).2, (lent_at hH z).2]) rf.pn⟩
end
section
variable {C NK : Addr} {pl : List D → D → Nat → Prop}
noncomputable def spShape (sh : Prop) (C : Addr) : Sp := fun vs H Q _ => ∃ (w d l : Addr), vs = [.ref w] ∧ Ins1 C "kept" w d l [] H ∧ sh ∧ ∀ H', Same H H' → Q .non H'
noncomputable def spPutP (pl : List D → D → Nat → Prop) (C NK : Addr) : Sp := fun vs H Q E => ∃ (w d l : Addr) (us : List V) (ds : List D) (x y : V) (a b : D) (k : Nat), vs = [.ref w, x, y] ∧ Ins1 C "kept" w d l us H ∧ Dts H us ds ∧ Dt H x a ∧ Dt H y b ∧ Good (.tuple [a, b]) ∧ (∀ d ∈ ds, Good d) ∧ ds.length < 1000 ∧ k ≤ ds.length ∧
 pl ds (.tuple [a, b]) k ∧
 (thereD ds k (.tuple [a, b]) = true → ∀ ea H', Same H H' → E (.ref NK) (some ea) H') ∧
 (thereD ds k (.tuple [a, b]) = false → ∀ p H', H p = none → H' p = some (.tup [x, y]) → SameX l H H' → Ins1 C "kept" w d l (insL us (k : Int) (.ref p)) H' → Q .non H')
noncomputable def spTakeP (pl : List D → D → Nat → Prop) (C NK : Addr) : Sp := fun vs H Q E => ∃ (w d l : Addr) (us : List V) (ds : List D) (x y : V) (a b : D) (k : Nat), vs = [.ref w, x, y] ∧ Ins1 C "kept" w d l us H ∧ Dts H us ds ∧ Dt H x a ∧ Dt H y b ∧ Good (.tuple [a, b]) ∧ (∀ d ∈ ds, Good d) ∧ ds.length < 1000 ∧ k ≤ ds.length ∧
 pl ds (.tuple [a, b]) k ∧
 (thereD ds k (.tuple [a, b]) = false → ∀ ea H', Same H H' → E (.ref NK) (some ea) H') ∧
 (thereD ds k (.tuple [a, b]) = true → ∀ H', SameX l H H' → Ins1 C "kept" w d l (us.eraseIdx k) H' → Q .non H')
noncomputable def spThere (pl : List D → D → Nat → Prop) (C : Addr) : Sp := fun vs H Q _ => ∃ (w d l : Addr) (us : List V) (ds : List D) (z : V) (a b : D) (k : Nat), vs = [.ref w, z] ∧ Ins1 C "kept" w d l us H ∧ Dts H us ds ∧ Dt H z (.tuple [a, b]) ∧ Good (.tuple [a, b]) ∧ (∀ d ∈ ds, Good d) ∧ ds.length < 1000 ∧ k ≤ ds.length ∧
 pl ds (.tuple [a, b]) k ∧ thereD ds k (.tuple [a, b]) = true ∧ ∀ H', Same H H' → Q (.bl true) H'
noncomputable def lmMany : Lm (List D) := fun _ s as Q => as = [] ∧ Q (.val (.int (s.length : Int))) s
noncomputable def lmFirst : Lm (List D) := fun _ s as Q => as = [] ∧ Good (.list s) ∧ Q (.val (s.headD .none)) s
noncomputable def lmPairs : Lm (List D) := fun _ s as Q => as = [] ∧ s.length ≤ 1000 ∧ Q (.own s) s
noncomputable def lmShape (sh : Prop) : Lm (List D) := fun _ s as Q => as = [] ∧ s = [] ∧ sh ∧ Q (.val .none) s
noncomputable def lmPut (pl : List D → D → Nat → Prop) : Lm (List D) := fun _ s as Q => ∃ a b k, as = [.val a, .val b] ∧ Good (.tuple [a, b]) ∧ (∀ d ∈ s, Good d) ∧ s.length < 1000 ∧ k ≤ s.length ∧ pl s (.tuple [a, b]) k ∧ thereD s k (.tuple [a, b]) = false ∧ Q (.val .none) (insL s (k : Int) (.tuple [a, b]))
noncomputable def lmTake (pl : List D → D → Nat → Prop) : Lm (List D) := fun _ s as Q => ∃ a b k, as = [.val a, .val b] ∧ Good (.tuple [a, b]) ∧ (∀ d ∈ s, Good d) ∧ s.length < 1000 ∧ k ≤ s.length ∧ pl s (.tuple [a, b]) k ∧ thereD s k (.tuple [a, b]) = true ∧ Q (.val .none) (s.eraseIdx k)
noncomputable def lmThere (pl : List D → D → Nat → Prop) : Lm (List D) := fun _ s as Q => ∃ a b k, as = [.val (.tuple [a, b])] ∧ Good (.tuple [a, b]) ∧ (∀ d ∈ s, Good d) ∧ s.length < 1000 ∧ k ≤ s.length ∧ pl s (.tuple [a, b]) k ∧ thereD s k (.tuple [a, b]) = true ∧ Q (.val (.bool true)) s
theorem ins3 {w d l : Addr} {us : List V} {H : Hp} (I : Ins1 C "kept" w d l us H) : ∀ b ∈ [w, d, l], ∃ o, H b = some o := fun y hy => by
 simp only [List.mem_cons, List.not_mem_nil, or_false] at hy
 rcases hy with rfl | rfl | rfl
 ·exact ⟨_, I.i⟩
 ·exact ⟨_, I.d⟩
 ·exact ⟨_, I.l⟩
theorem of_many : ∀ vs H Q E, spL P0 (insF C "kept") 1 lmMany vs H Q E → spMany C vs H Q E := by
 rintro vs H Q E ⟨F, p, s, fp, ws, as, Qm, rfl, hH, rf, ⟨_, d, l, us, rfl, I, dts⟩, hG, pr, hl, ⟨rfl, hf⟩, q⟩
 cases pr
 refine ⟨p, d, l, us, rfl, I, ?_⟩
 rw [dts.len]
 exact q _ _ _ [] _ F.G0 H hf rf ⟨rfl, .int _⟩ ⟨rfl, d, l, us, rfl, I, dts⟩ (fun b hb => nomatch hb) fun b (hb : b ∈ [p, d, l]) => ⟨by rw [hH, if_pos hb], hG b hb⟩
theorem of_first : ∀ vs H Q E, spL P0 (insF C "kept") 1 lmFirst vs H Q E → spFirst C vs H Q E := by
 rintro vs H Q E ⟨F, p, s, fp, ws, as, Qm, rfl, hH, rf, ⟨_, d, l, us, rfl, I, dts⟩, hG, pr, hl, ⟨rfl, gd, hf⟩, q⟩
 cases pr
 refine ⟨p, d, l, us, s, rfl, I, Dts.same rf.sub _ _ dts, gd, fun H' g => ?_⟩
 refine q _ _ _ [] _ F.G0 H' hf (lent_same hH rf g) ⟨rfl, ?_⟩ ⟨rfl, d, l, us, rfl, I.same g, dts⟩ (fun b hb => nomatch hb) fun b (hb : b ∈ [p, d, l]) => ⟨by rw [hH, if_pos hb], hG b hb⟩
 cases dts with
 | nil => exact .non
 | cons a b => exact a
theorem of_pairs : ∀ vs H Q E, spL P0 (insF C "kept") 1 lmPairs vs H Q E → spPairs C vs H Q E := by
 rintro vs H Q E ⟨F, p, s, fp, ws, as, Qm, rfl, hH, rf, ⟨_, d, l, us, rfl, I, dts⟩, hG, pr, hl, ⟨rfl, hz, hf⟩, q⟩
 cases pr
 refine ⟨p, d, l, us, rfl, I, by rw [dts.len]; exact hz, fun x hx => ?_⟩
 have g := same_new hx (.lst us)
 have nx : ∀ b ∈ [p, d, l], b ≠ x := fun b hb z => by
  obtain ⟨o, ho⟩ := ins3 I b hb
  rw [z, hx] at ho; cases ho
 refine q _ _ _ [x] [p, d, l] F.G0 _ hf (lent_same hH rf g) ⟨x, us, rfl, rfl, upd_same, dts⟩ ⟨rfl, d, l, us, rfl, I.same g, dts⟩ (fun b hb hc => nx b hc (List.mem_singleton.mp hb)) fun b hb => ?_
 rcases List.mem_append.mp hb with hb | hb
 ·rw [List.mem_singleton.mp hb]
  refine ⟨by rw [hH]; split <;> first | rfl | exact hx, ?_⟩
  cases z : F.G0 x with
  | none => rfl
  | some o => have := rf.sub x o z; rw [hx] at this; cases this
 ·exact ⟨by rw [hH, if_pos hb], hG b hb⟩
theorem of_shape {sh : Prop} : ∀ vs H Q E, spL P0 (insF C "kept") 1 (lmShape sh) vs H Q E → spShape sh C vs H Q E := by
 rintro vs H Q E ⟨F, p, s, fp, ws, as, Qm, rfl, hH, rf, ⟨_, d, l, us, rfl, I, dts⟩, hG, pr, hl, ⟨rfl, rfl, hsh, hf⟩, q⟩
 cases pr
 cases dts
 exact ⟨p, d, l, rfl, I, hsh, fun H' g => q _ _ _ [] _ F.G0 H' hf (lent_same hH rf g) ⟨rfl, .non⟩ ⟨rfl, d, l, [], rfl, I.same g, .nil⟩ (fun b hb => nomatch hb) fun b (hb : b ∈ [p, d, l]) => ⟨by rw [hH, if_pos hb], hG b hb⟩⟩
theorem two_args {F : Fra P0} {G : Hp} {ws : List V} {a b : D} (h : Paired (ArgOk F G) ws [.val a, .val b]) : ∃ x y, ws = [x, y] ∧ Dt G x a ∧ Dt G y b := by
 cases h with
 | cons h1 h2 =>
  cases h2 with
  | cons h3 h4 =>
   cases h4
   exact ⟨_, _, rfl, h1, h3⟩
theorem of_put : ∀ vs H Q E, spL P0 (insF C "kept") 3 (lmPut pl) vs H Q E → spPutP pl C NK vs H Q (fun _ _ _ => False) := by
 rintro vs H Q E ⟨F, p, s, fp, ws, as, Qm, rfl, hH, rf, ⟨_, d, l, us, rfl, I, dts⟩, hG, pr, hl, ⟨a, b, k, rfl, gp, gs, hz, hk, hpl, ht, hf⟩, q⟩
 obtain ⟨x, y, rfl, dx, dy⟩ := two_args pr
 refine ⟨p, d, l, us, s, x, y, a, b, k, rfl, I, Dts.same rf.sub _ _ dts, Dt.same rf.sub _ _ dx, Dt.same rf.sub _ _ dy, gp, gs, hz, hk, hpl, (fun z => by rw [ht] at z; cases z), fun _ e H' he he' hX I' => ?_⟩
 obtain ⟨rf', hG'⟩ := lent_end (l := l) hH rf hG (ins3 I) (by simp) hX
 have gs := gNew_same (H' := H') rf.sub
 refine q _ _ _ [] _ _ H' hf rf' ⟨rfl, .non⟩ ⟨rfl, d, l, _, rfl, I', (Dts.same gs _ _ dts).ins _ (.tup ((gNew_new he).trans he') (.cons (Dt.same gs _ _ dx) (.cons (Dt.same gs _ _ dy) .nil)))⟩ (fun b hb => nomatch hb) fun b hb => hG' b hb
theorem of_take : ∀ vs H Q E, spL P0 (insF C "kept") 3 (lmTake pl) vs H Q E → spTakeP pl C NK vs H Q (fun _ _ _ => False) := by
 rintro vs H Q E ⟨F, p, s, fp, ws, as, Qm, rfl, hH, rf, ⟨_, d, l, us, rfl, I, dts⟩, hG, pr, hl, ⟨a, b, k, rfl, gp, gs, hz, hk, hpl, ht, hf⟩, q⟩
 obtain ⟨x, y, rfl, dx, dy⟩ := two_args pr
 refine ⟨p, d, l, us, s, x, y, a, b, k, rfl, I, Dts.same rf.sub _ _ dts, Dt.same rf.sub _ _ dx, Dt.same rf.sub _ _ dy, gp, gs, hz, hk, hpl, (fun z => by rw [ht] at z; cases z), fun _ H' hX I' => ?_⟩
 obtain ⟨rf', hG'⟩ := lent_end (l := l) hH rf hG (ins3 I) (by simp) hX
 have gs := gNew_same (H' := H') rf.sub
 exact q _ _ _ [] _ _ H' hf rf' ⟨rfl, .non⟩ ⟨rfl, d, l, _, rfl, I', erase_dts (Dts.same gs _ _ dts)⟩ (fun b hb => nomatch hb) fun b hb => hG' b hb
theorem of_there : ∀ vs H Q E, spL P0 (insF C "kept") 2 (lmThere pl) vs H Q E → spThere pl C vs H Q E := by
 rintro vs H Q E ⟨F, p, s, fp, ws, as, Qm, rfl, hH, rf, ⟨_, d, l, us, rfl, I, dts⟩, hG, pr, hl, ⟨a, b, k, rfl, gp, gs, hz, hk, hpl, ht, hf⟩, q⟩
 cases pr with
 | cons h1 h2 =>
  cases h2
  exact ⟨p, d, l, us, s, _, a, b, k, rfl, I, Dts.same rf.sub _ _ dts, Dt.same rf.sub _ _ h1, gp, gs, hz, hk, hpl, ht, fun H' g => q _ _ _ [] _ F.G0 H' hf (lent_same hH rf g) ⟨rfl, .bl _⟩ ⟨rfl, d, l, us, rfl, I.same g, dts⟩ (fun b hb => nomatch hb) fun b (hb : b ∈ [p, d, l]) => ⟨by rw [hH, if_pos hb], hG b hb⟩⟩
theorem ins_meth {m : Str} (hm : ∀ l : V, ([("kept", l)] : List (Str × V)).lookup m = none) {p : Addr} {s : List D} {v : V} {fp : List Addr} {G H : Hp} (h : ((insF C "kept").box p s).P v fp G H) : ∃ dx fs, H p = some (.ins C dx fs) ∧ fs.lookup m = none := by
 obtain ⟨_, d, l, us, _, I, _⟩ := h
 exact ⟨_, _, I.i, hm _⟩
noncomputable def mNewW (C : Addr) : MO := fun Γ Q => ∀ w, Q (.box ((insF C "kept").box w [])) Γ
theorem vo_newW {E : XK} : VO P0 (tMake C (spInitW C) [] E tNil) (mNewW C) := by
 intro F Γ σ G H Q Qm r hm k
 refine make_W (Q := Q) fun w d l H' g hw hd hl n1 n2 n3 I k1 => ?_
 have fr : ∀ b ∈ [w, d, l], H b = none := fun b hb => by
  simp only [List.mem_cons, List.not_mem_nil, or_false] at hb
  rcases hb with rfl | rfl | rfl
  ·exact hw
  ·exact hd
  ·exact hl
 have hP : ((insF C "kept").box w []).P (.ref w) [w, d, l] G H' := ⟨rfl, d, l, [], rfl, I, .nil⟩
 refine k _ _ _ _ _ (hm w) (Same.refl _) (r.more g) ⟨[w, d, l], hP, fun b hb => ⟨r.fr.fresh (fr b hb), r.fr.gfresh (fr b hb)⟩⟩ (Apart.newB r (fun fp h b hb => ?_) (Same.refl _) fun b o _ gn e => ⟨gn, g b o e⟩)
 rw [Bx.uniq _ h hP] at hb
 exact fr b hb
theorem i_newW {Γ : En} {Q : Rv → En → Prop} (h : ∀ w, Q (.box ((insF C "kept").box w [])) Γ) : mNewW C Γ Q := h
theorem vo_methW2 {K : PySem.W.Frag} {W : Fam S} {n i : Nat} {m : Str} {f : Lm S} {tj : TE} {t : TA} {mj : ME} {ma : MA} {E : XK} (hW : ∀ {p s v fp G H}, (W.box p s).P v fp G H → ∃ dx fs, H p = some (.ins C dx fs) ∧ fs.lookup m = none) (hj : VT P0 tj mj) (h : VA P0 t ma) :
  VO P0 (tMeth C m (spL P0 W n f) [] E (tOp (rIx K) (tVar i) tj) t) (mCallW2 W n f i mj ma) := by
 intro F Γ σ G H Q Qm r hm k
 obtain ⟨L, w0, w1, ⟨s0, s1, e⟩, hm⟩ := hm
 obtain ⟨v, _, ev, ⟨f0, f1, rfl, _⟩, _⟩ := r.sl i _ e
 refine ⟨.ref L, ev, hj F Γ σ G H _ _ r hm fun d Γ0 x G0 H0 m0 g0 r0 d0 => ?_⟩
 obtain ⟨⟨t0, t1, e0⟩, hd, m0⟩ := m0
 obtain ⟨v, _, ev', ⟨f0', f1', rfl, _, hL, p0, p1, _⟩, _⟩ := r0.sl i _ e0
 rcases hd with rfl | rfl
 ·cases d0
  obtain ⟨dx, fs, hp, hl0⟩ := hW p0
  refine .inl ⟨L, _, 0, .ref w0, rfl, rfl, SqL.of hL, rfl, w0, dx, fs, rfl, hp, hl0, h F Γ0 σ G0 H0 _ _ r0 m0 fun as Γ1 rs G1 H1 m1 g1 r1 d1 => ?_⟩
  obtain ⟨u0, u1, e1, hl, a0, a1⟩ := m1
  exact part_call (Qm := Qm) PartOf.fst r1 e1 d1 hl (a0 rfl) fun rv Γ' r' G' H' q g' => k rv Γ' r' G' H' q ((g0.trans g1).trans g')
 ·cases d0
  obtain ⟨dx, fs, hp, hl0⟩ := hW p1
  refine .inl ⟨L, _, 1, .ref w1, rfl, rfl, SqL.of hL, rfl, w1, dx, fs, rfl, hp, hl0, h F Γ0 σ G0 H0 _ _ r0 m0 fun as Γ1 rs G1 H1 m1 g1 r1 d1 => ?_⟩
  obtain ⟨u0, u1, e1, hl, a0, a1⟩ := m1
  exact part_call (Qm := Qm) PartOf.snd r1 e1 d1 hl (a1 rfl) fun rv Γ' r' G' H' q g' => k rv Γ' r' G' H' q ((g0.trans g1).trans g')
end
noncomputable def mList2 (W : Fam S) (i j : Nat) : MO := fun Γ Q => ∃ w0 w1 s0 s1, Γ[i]? = some (.box (W.box w0 s0)) ∧ Γ[j]? = some (.box (W.box w1 s1)) ∧ i ≠ j ∧ ∀ L, Q (.box (bW2 W L w0 w1 s0 s1)) ((Γ.set i .no).set j .no)
theorem vo_list2 {W : Fam S} {i j : Nat} : VO P0 (tLst (tCons (tVar i) (tCons (tVar j) tNil))) (mList2 W i j) := by
 intro F Γ σ G H Q Qm r hm k
 obtain ⟨w0, w1, s0, s1, e1, e2, hij, q⟩ := hm
 obtain ⟨fps, h1, h2⟩ := r.fps
 obtain ⟨v0, ev0, p0, n0⟩ := h1 i _ e1
 obtain ⟨v1, ev1, p1, n1⟩ := h1 j _ e2
 have z := W.pin p0
 subst z
 have z := W.pin p1
 subst z
 refine ⟨.ref w0, ev0, .ref w1, ev1, small_b rfl, fun L hL => ?_⟩
 have g := same_new hL (.lst [.ref w0, .ref w1])
 have r1 : R F ((Γ.set i .no).set j .no) σ G (upd H L (.lst [.ref w0, .ref w1])) := ((r.drop i).drop j).newP hL
 have i0 : ∀ b ∈ fps i, ∃ o, H b = some o := Bx.dom _ p0
 have i1 : ∀ b ∈ fps j, ∃ o, H b = some o := Bx.dom _ p1
 have nL : ∀ b, (∃ o, H b = some o) → b ≠ L := fun b ⟨o, ho⟩ z => by rw [z, hL] at ho; cases ho
 have hP : (bW2 W L w0 w1 s0 s1).P (.ref L) (L :: (fps i ++ fps j)) G (upd H L (.lst [.ref w0, .ref w1])) :=
  ⟨fps i, fps j, rfl, rfl, upd_same, Bx.loc _ (fun b hb => upd_ne (nL b (i0 b hb))) p0, Bx.loc _ (fun b hb => upd_ne (nL b (i1 b hb))) p1, fun h => nL L (i0 L h) rfl, fun h => nL L (i1 L h) rfl, h2 i j _ _ e1 e2 hij⟩
 refine k _ _ _ _ _ (q L) (Same.refl _) r1 ⟨_, hP, fun b hb => ?_⟩ fun m s fp f em hs hf b hb hc => ?_
 ·rcases List.mem_cons.mp hb with rfl | hb
  ·exact ⟨r.fr.fresh hL, r.fr.gfresh hL⟩
  ·rcases List.mem_append.mp hb with hb | hb
   ·exact n0 b hb
   ·exact n1 b hb
 ·have z : f = _ := Bx.uniq _ hf hP
  rw [z] at hb
  have hmj : m ≠ j := fun z => by
   subst z
   rw [List.getElem?_set_self (by rw [List.length_set]; exact (List.getElem?_eq_some_iff.mp e2).1)] at em
   cases em
   rw [show fp = [] from hs] at hc
   cases hc
  rw [List.getElem?_set_ne (Ne.symm hmj)] at em
  have hmi : m ≠ i := fun z => by
   subst z
   rw [List.getElem?_set_self (List.getElem?_eq_some_iff.mp e1).1] at em
   cases em
   rw [show fp = [] from hs] at hc
   cases hc
  rw [List.getElem?_set_ne (Ne.symm hmi)] at em
  have hs0 := (h1 m s em).go (Same.refl G) (H' := upd H L (.lst [.ref w0, .ref w1])) fun b hb => by
   obtain ⟨_, m2, oo, m3⟩ := (h1 m s em).mine hb
   exact ⟨m2, (g b oo m3).trans m3.symm⟩
  rw [SlF.det hs hs0] at hc
  rcases List.mem_cons.mp hb with rfl | hb
  ·obtain ⟨_, _, oo, m3⟩ := (h1 m s em).mine hc
   rw [hL] at m3; cases m3
  ·rcases List.mem_append.mp hb with hb | hb
   ·exact h2 m i s _ em e1 hmi b hc hb
   ·exact h2 m j s _ em e2 hmj b hc hb
theorem i_list2 {W : Fam S} {i j : Nat} {Γ : En} {Q : Rv → En → Prop} {w0 w1 : Addr} {s0 s1 : S} (h0 : Γ[i]? = some (.box (W.box w0 s0))) (h1 : Γ[j]? = some (.box (W.box w1 s1))) (hij : i ≠ j) (h : ∀ L, Q (.box (bW2 W L w0 w1 s0 s1)) ((Γ.set i .no).set j .no)) : mList2 W i j Γ Q := ⟨w0, w1, s0, s1, h0, h1, hij, h⟩
noncomputable def mPopI (i : Nat) (m : ME) : ME := fun Γ Q => (∃ ds, Γ[i]? = some (.own ds)) ∧ m Γ fun x Γ1 => ∃ ds d n, ∃ k : Nat, Γ1[i]? = some (.own ds) ∧ x = .int n ∧ ds.length < 1000000 ∧ ixN ds.length n = some k ∧ ds[k]? = some d ∧ Q d (Γ1.set i (.own (ds.eraseIdx k)))
theorem vt_popI {K : PySem.W.Frag} {i : Nat} {t : TE} {m : ME} (h : VT P0 t m) : VT P0 (tBM K "list" rPopAt (tVar i) (tCons t tNil)) (mPopI i m) := by
 intro F Γ σ G H Q Qm r hm k
 obtain ⟨⟨ds0, e0⟩, hm⟩ := hm
 obtain ⟨p, vs0, ep, _, _, hp0, _⟩ := r.sl i _ e0
 refine ⟨.ref p, ep, .inl ⟨rfl, _, SqL.of hp0⟩, ?_⟩
 refine h F Γ σ G H _ _ r hm fun x Γ1 v G1 H1 m1 g1 r1 d1 => ?_
 obtain ⟨ds, d, n, j, e1, rfl, hn, hj, hd, q⟩ := m1
 obtain ⟨p', vs, ep', _, _, hp, hvs⟩ := r1.sl i _ e1
 rw [ep] at ep'
 cases ep'
 cases d1
 obtain ⟨u, hu, du⟩ := Dts.get hvs hd
 obtain ⟨s1, s2, s3, s4⟩ := ixN_seq hj
 have hl : vs.length = ds.length := hvs.len
 refine ⟨p, vs, n, j, u, rfl, rfl, hp, by omega, by omega, by rw [hl]; exact s1, hu, ?_⟩
 exact k _ _ _ _ _ q g1 (r1.write e1 ep (erase_dts hvs)) du
noncomputable def piK (i : Nat) (Q : D → En → Prop) (x : D) (Γ1 : En) : Prop := ∃ ds d n, ∃ k : Nat, Γ1[i]? = some (.own ds) ∧ x = .int n ∧ ds.length < 1000000 ∧ ixN ds.length n = some k ∧ ds[k]? = some d ∧ Q d (Γ1.set i (.own (ds.eraseIdx k)))
theorem i_popI {i : Nat} {m : ME} {Γ : En} {Q : D → En → Prop} {ds : List D} (h0 : Γ[i]? = some (.own ds)) (h : m Γ (piK i Q)) : mPopI i m Γ Q := ⟨⟨ds, h0⟩, h⟩
theorem i_piK {i : Nat} {Q : D → En → Prop} {Γ1 : En} {ds : List D} {d : D} {n : Int} {k : Nat} (h0 : Γ1[i]? = some (.own ds)) (hk : ds.length < 1000000) (hn : ixN ds.length n = some k) (hd : ds[k]? = some d) (h : Q d (Γ1.set i (.own (ds.eraseIdx k)))) : piK i Q (.int n) Γ1 := ⟨ds, d, n, k, h0, rfl, hk, hn, hd, h⟩
end L2.VS
namespace My
open PySem PySem.Spec PyProof.Rows L2 L2.VS LT
noncomputable def top (i : Nat) : Stmt := PySem.Challenge.pw_leadtimes_k24_whole_waiting_emptied.main.body.getD i (.Pass ⟨0, 0, 0, 0⟩)
set_option hygiene false in
local macro_rules | `(tactic| walk_at "vn") => `(tactic| dsimp only [List.set_cons_zero, List.set_cons_succ, List.set_nil, Rv.sl, Rv.d, nbQ, List.replicate, List.cons_append, List.nil_append, pubA, List.map_cons, List.map_nil])
set_option hygiene false in
local macro_rules | `(tactic| walk_at "v1") => `(tactic| first
 | (with_reducible first
  | apply i_seq | apply i_set | apply i_val | apply i_ret | apply i_if | apply i_tst
  | refine i_var (by with_unfolding_all rfl) ?_
  | apply i_c | apply i_pub | apply i_call | apply i_aval
  | refine i_apen (by with_unfolding_all rfl) ?_
  | apply i_anil | apply i_nil | apply i_cons | apply i_tup | apply i_lst | apply i_ix | apply i_I0 | apply i_I | apply i_U | apply i_eq | apply i_ne
  | apply i_and | apply i_or | apply i_not | apply i_andV | apply i_orV | apply i_notV | apply i_isN | apply i_notN | apply i_isi | apply i_len | apply i_abs | apply i_2I | apply i_int1 | apply i_ifE | apply i_ifO
  | apply i_for | apply i_itL | apply i_itT | apply i_rng1 | apply i_rng2 | apply i_gN
  | refine i_gT (by with_unfolding_all rfl) ?_
  | apply i_gsCons | apply i_gsNil | apply i_asg | apply i_par | apply i_nx | apply i_retN | apply i_drop | apply i_peek | apply i_peekT | apply i_peekO | apply i_listOf | apply i_slL | apply i_pNo | apply i_pSo | apply i_cat | apply i_in
  | refine i_append (by with_unfolding_all rfl) ?_
  | refine i_clear (by with_unfolding_all rfl) ?_
  | refine i_pubS (by with_unfolding_all rfl) ?_
  | refine i_pubS0 (by with_unfolding_all rfl) ?_
  | refine i_move (by with_unfolding_all rfl) ?_
  | refine i_moveV (by with_unfolding_all rfl) ?_
  | apply i_oQ (ix_num0 _) | apply i_oQ (ix_num1 _) | apply i_oQ (ix_line0 _) | apply i_oQ (ix_line1 _)
  | apply iteT | apply iteF
  | refine isT (by with_unfolding_all rfl) ?_
  | refine isF (by with_unfolding_all rfl) ?_
  | refine isNT (by with_unfolding_all rfl) ?_
  | refine isNF (by with_unfolding_all rfl) ?_
  | apply iteNT | apply iteNF
  | refine And.intro rfl ?_
  | refine And.intro (Nat.le_of_ble_eq_true (by with_unfolding_all rfl)) ?_
  | refine And.intro (mulB (by assumption) (by assumption)) ?_
  | (refine And.intro (good_int _) (And.intro (good_int _) ?_); rw [eqv_int])
  | (refine And.intro (good_num _) (And.intro (good_num _) ?_); rw [eqv_num])
  | (refine And.intro (good_line _) (And.intro (good_line _) ?_); rw [eqv_line])
  | (refine And.intro (good_bool _) (And.intro (good_bool _) ?_); rw [eqv_bool]))
 | dsimp only [Rv.d, Rv.sl, nbQ, Bool.not_true, Bool.not_false, isN, itemsD])
set_option hygiene false in
local macro_rules | `(tactic| walk_at "vs") => `(tactic| repeat (walk_at "v1"))
set_option hygiene false in
local macro_rules | `(tactic| walk_at "w1") => `(tactic| first
 | walk_at "v1"
 | with_reducible apply i_comp
 | with_reducible refine i_insert (by with_unfolding_all rfl) ?_
 | with_reducible apply i_step
 | with_reducible apply i_bs
 | with_reducible apply i_chain
 | with_reducible apply i_peekS
 | with_reducible apply i_slT
 | with_reducible apply i_catT
 | with_reducible refine i_aug (by with_unfolding_all rfl) ?_
 | with_reducible apply i_listRng
 | with_reducible apply i_listZip
 | with_reducible apply i_itZ
 | with_reducible apply i_itE
 | with_reducible apply i_isB
 | with_reducible apply i_lenSet
 | with_reducible apply i_lenSetT
 | with_reducible apply i_dnew
 | with_reducible apply i_listD
 | with_reducible apply i_setD
 | with_reducible refine i_itD (by with_unfolding_all rfl) ?_
 | with_reducible refine i_ixD (by with_unfolding_all rfl) ?_
 | with_reducible apply i_sortN
 | with_reducible apply i_dnewB
 | with_reducible apply i_putB
 | with_reducible apply i_setB
 | with_reducible refine i_itB (by with_unfolding_all rfl) ?_
 | with_reducible refine i_ixB (by with_unfolding_all rfl) ?_
 | with_reducible refine i_isNB (by with_unfolding_all rfl) ?_
 | with_reducible apply i_neB
 | with_reducible apply i_compB
 | with_reducible apply i_tupE
 | with_reducible apply i_dic0
 | with_reducible apply i_acon
 | with_reducible refine i_acv (by with_unfolding_all rfl) ?_
 | with_reducible refine i_ixC (by with_unfolding_all rfl) ?_)
set_option hygiene false in
local macro_rules | `(tactic| walk_at "ws") => `(tactic| repeat (walk_at "w1"))
set_option hygiene false in
local macro_rules | `(tactic| walk_at "l1") => `(tactic| first
 | walk_at "w1"
 | with_reducible refine i_lend (by with_unfolding_all rfl) ?_
 | with_reducible refine i_lnK (by with_unfolding_all rfl) rfl ?_
 | with_reducible apply i_retL
 | with_reducible refine i_rtK (by with_unfolding_all rfl) ?_
 | with_reducible apply i_endK
 | with_reducible refine i_lend2 (by with_unfolding_all rfl) ?_
 | with_reducible refine i_ownIx' (by with_unfolding_all rfl) ?_
 | with_reducible refine i_oxK (by with_unfolding_all rfl) ?_
 | with_reducible apply i_setIx'
 | with_reducible refine i_sxJ (by with_unfolding_all rfl) ?_
 | with_reducible apply i_ltT
 | with_reducible apply i_rep
 | with_reducible apply i_newW2
 | with_reducible apply i_compLn)
set_option hygiene false in
local macro_rules | `(tactic| walk_at "ls") => `(tactic| repeat (walk_at "l1"))
set_option hygiene false in
local macro_rules | `(tactic| walk_at "kp") => `(tactic| repeat (with_unfolding_all first
 | exact kept_n
 | apply kept_f
 | refine kept_t cut_pen ?_
 | refine kept_t cut_walk ?_
 | refine kept_t cut_lst ?_))
set_option hygiene false in
local macro_rules | `(tactic| walk_at "m1") => `(tactic| first
 | walk_at "l1"
 | with_reducible apply i_pkL
 | with_reducible apply i_pkLT
 | with_reducible apply i_pkLO
 | with_reducible refine i_pkK (by with_unfolding_all rfl) (by with_unfolding_all rfl) (by with_unfolding_all rfl) (by walk_at "kp") ?_
 | with_reducible refine i_pkKT (by with_unfolding_all rfl) (by with_unfolding_all rfl) (by walk_at "kp") ?_
 | with_reducible apply i_retLj
 | with_reducible refine i_rtKj (by with_unfolding_all rfl) ?_
 | with_reducible apply i_setIxB
 | with_reducible refine i_sbJ (by with_unfolding_all rfl) (by with_unfolding_all rfl) ?_
 | with_reducible apply i_lost
 | with_reducible apply i_setSl
 | with_reducible refine i_slJ (by with_unfolding_all rfl) ?_)
set_option hygiene false in
local macro_rules | `(tactic| walk_at "ms") => `(tactic| repeat (walk_at "m1"))
noncomputable def b_is_less : MS :=
 (mRet (mVal (mLt (mMul (mIx (mVar 0) (mC (.int 0))) (mIx (mVar 1) (mC (.int 1)))) (mMul (mIx (mVar 1) (mC (.int 0))) (mIx (mVar 0) (mC (.int 1)))))))
noncomputable def m_is_less : Fm := mFn 0 b_is_less
noncomputable def b_comes_ahead_r1 : MS :=
 (mRet (mVal (mLtT (mIx (mVar 0) (mC (.int 1))) (mIx (mVar 1) (mC (.int 1))))))
noncomputable def b_comes_ahead : MS :=
 (mSeq (mIf (mTst (mNe (mIx (mVar 0) (mC (.int 0))) (mIx (mVar 1) (mC (.int 0)))))
  (mRet (mCall 2 m_is_less (aVal (mIx (mVar 0) (mC (.int 0))) (aVal (mIx (mVar 1) (mC (.int 0))) aNil))))
  mNx)
  b_comes_ahead_r1)
noncomputable def m_comes_ahead : Fm := mFn 0 b_comes_ahead
noncomputable def b_place_of_r1 : MS :=
 (mRet (mVal (mVar 2)))
noncomputable def b_place_of_l1 : MS :=
 (mSeq (mSet 4 (mVal (mDiv (mAdd (mVar 2) (mVar 3)) (mC (.int 2)))))
  (mIf (mTst (mPub (mCall 2 m_comes_ahead (aVal (mIx (mVar 0) (mVar 4)) (aVal (mVar 1) aNil)))))
  (mSet 2 (mVal (mAdd (mVar 4) (mC (.int 1)))))
  (mSet 3 (mVal (mVar 4)))))
noncomputable def b_place_of : MS :=
 (mSeq (mSet 2 (mVal (mC (.int 0))))
  (mSeq (mSet 3 (mVal (mLen (mVar 0))))
  (mSeq (mWhile (mTst (mLt (mVar 2) (mVar 3)))
  b_place_of_l1)
  b_place_of_r1)))
noncomputable def m_place_of : Fm := mFn 3 b_place_of
noncomputable def b_shape_from_c_r1 (c : Fm) : MS :=
 (mRet (mVal (mTup (mCons (mIx (mVar 0) (mVar 1)) (mCons (mPub (mCall 2 c (aVal (mVar 0) (aVal (mAdd (mMul (mC (.int 2)) (mVar 1)) (mC (.int 1))) aNil)))) (mCons (mPub (mCall 2 c (aVal (mVar 0) (aVal (mAdd (mMul (mC (.int 2)) (mVar 1)) (mC (.int 2))) aNil)))) mNil))))))
noncomputable def b_shape_from (c : Fm) : MS :=
 (mSeq (mIf (mTst (mGe (mVar 1) (mLen (mVar 0))))
  (mRet (mVal (mC .none)))
  mNx)
  (b_shape_from_c_r1 c))
noncomputable def m_shape_from_0 : Fm := mNo
noncomputable def m_shape_from_1 : Fm := mFn 0 (b_shape_from m_shape_from_0)
noncomputable def m_shape_from : Fm := m_shape_from_1
noncomputable def plD : List D → D → Nat → Prop := fun ds e k => m_place_of [.val (.list ds), .val e] (fun rv => rv = .val (.int (k : Int)))
noncomputable def m_law_there : Lm (List D) := lmThere plD
noncomputable def b_law_lowest_r1 : MS :=
 (mRet (mVal (mTup (mCons (mDivX (mVar 0) (mVar 2)) (mCons (mDivX (mVar 1) (mVar 2)) mNil)))))
noncomputable def b_law_lowest_l1 : MS :=
 (mPar 2 3 (mCons (mVar 3) (mCons (mMod (mVar 2) (mVar 3)) mNil)))
noncomputable def b_law_lowest : MS :=
 (mSeq (mSet 2 (mVal (mAbs (mVar 0))))
  (mSeq (mSet 3 (mVal (mVar 1)))
  (mSeq (mWhile (mTst (mGt (mVar 3) (mC (.int 0))))
  b_law_lowest_l1)
  b_law_lowest_r1)))
noncomputable def m_law_lowest : Fm := mFn 2 b_law_lowest
noncomputable def b_law_far_r1 : MS :=
 (mRetK penF (mVal (mIx (mPub (mLst (mCons (mVar 2) (mCons (mSub (mC (.int 0)) (mVar 2)) mNil)))) (mPub (mCallL penF 2 mTakeL 0 (aVal (mC (.int 2)) aNil))))))
noncomputable def b_law_far_l1 : MS :=
 (mSet 2 (mVal (mAdd (mMul (mVar 2) (mC (.int 1000000))) (mPub (mCallL penF 2 mTakeL 0 (aVal (mC (.int 1000000)) aNil))))))
noncomputable def b_law_far : MS :=
 (mSeq (mSet 2 (mVal (mC (.int 0))))
  (mSeq (mFor (mRng1 (mCons (mVar 1) mNil)) (gN 3)
  b_law_far_l1)
  b_law_far_r1))
noncomputable def m_law_far : Lm Nat := mFnL penF 2 b_law_far
noncomputable def b_law_time_r1 : MS :=
 (mRetK penF (mCall 2 m_law_lowest (aVal (mPub (mCallL penF 2 m_law_far 0 (aVal (mC (.int 3)) aNil))) (aVal (mAdd (mC (.int 1)) (mPub (mCallL penF 2 mTakeL 0 (aVal (mC (.int 999999)) aNil)))) aNil))))
noncomputable def b_law_time_r2 : MS :=
 (mSeq (mIf (mTst (mEq (mVar 1) (mC (.int 3))))
  (mRetK penF (mCall 2 m_law_lowest (aVal (mSub (mPub (mCallL penF 2 mTakeL 0 (aVal (mC (.int 13)) aNil))) (mC (.int 6))) (aVal (mAdd (mC (.int 1)) (mPub (mCallL penF 2 mTakeL 0 (aVal (mC (.int 4)) aNil)))) aNil))))
  mNx)
  b_law_time_r1)
noncomputable def b_law_time : MS :=
 (mSeq (mSet 1 (mVal (mPub (mCallL penF 2 mTakeL 0 (aVal (mC (.int 5)) aNil)))))
  (mSeq (mIf (mTst (mLt (mVar 1) (mC (.int 3))))
  (mRetK penF (mVal (mTup (mCons (mSub (mPub (mCallL penF 2 mTakeL 0 (aVal (mC (.int 5)) aNil))) (mC (.int 2))) (mCons (mC (.int 1)) mNil)))))
  mNx)
  b_law_time_r2))
noncomputable def m_law_time : Lm Nat := mFnL penF 1 b_law_time
noncomputable def b_law_before : MS :=
 (mSeq (mSet 2 (mVal (mMul (mIx (mIx (mVar 0) (mC (.int 0))) (mC (.int 0))) (mIx (mIx (mVar 1) (mC (.int 0))) (mC (.int 1))))))
  (mSeq (mSet 3 (mVal (mMul (mIx (mIx (mVar 1) (mC (.int 0))) (mC (.int 0))) (mIx (mIx (mVar 0) (mC (.int 0))) (mC (.int 1))))))
  (mRet (mVal (mOrV (mLt (mVar 2) (mVar 3)) (mAndV (mEq (mVar 2) (mVar 3)) (mLtT (mIx (mVar 0) (mC (.int 1))) (mIx (mVar 1) (mC (.int 1))))))))))
noncomputable def m_law_before : Fm := mFn 2 b_law_before
noncomputable def b_law_turned_r1 : MS :=
 (mRetK penF (mMove 3))
noncomputable def b_law_turned_l1 : MS :=
 (mAppend 3 (mPopAt 2 (mPub (mCallL penF 2 mTakeL 0 (aVal (mLenO 2) aNil)))))
noncomputable def b_law_turned : MS :=
 (mSeq (mSet 2 (mListOf (mVar 1)))
  (mSeq (mSet 3 (mLst mNil))
  (mSeq (mWhile (mPeekT (mTst (mNe (mVar 2) (mPub (mLst mNil)))))
  b_law_turned_l1)
  b_law_turned_r1)))
noncomputable def m_law_turned : Lm Nat := mFnL penF 2 b_law_turned
noncomputable def b_law_filled_c_r1 (c : Addr) : MS :=
 (mRetK penF (mList2 (insF c "kept") 2 3))
noncomputable def b_law_filled_c_l1 (c : Addr) : MS :=
 (mSeq (mSet 5 (mVal (mTup (mCons (mPub (mCallL penF 1 m_law_time 0 aNil)) (mCons (mTup (mCons (mC (.int 7)) (mCons (mPub (mCallL penF 2 mTakeL 0 (aVal (mC (.int 3)) aNil))) mNil))) mNil)))))
  (mSeq (mDrop (mPub (mCallL (insF c "kept") 3 (lmPut plD) 3 (aVal (mIx (mVar 5) (mC (.int 0))) (aVal (mIx (mVar 5) (mC (.int 1))) aNil)))))
  (mSeq (mDrop (mPub (mCallL (insF c "kept") 3 (lmPut plD) 3 (aVal (mIx (mVar 4) (mC (.int 0))) (aVal (mIx (mVar 4) (mC (.int 1))) aNil)))))
  (mDrop (mPub (mCallL (insF c "kept") 3 (lmTake plD) 3 (aVal (mIx (mVar 5) (mC (.int 0))) (aVal (mIx (mVar 5) (mC (.int 1))) aNil))))))))
noncomputable def b_law_filled_c_r2 (c : Addr) : MS :=
 (mSeq (mFor (mItL (mPub (mCallL penF 2 m_law_turned 0 (aVal (mVar 1) aNil)))) (gN 4)
  (b_law_filled_c_l1 c))
  (b_law_filled_c_r1 c))
noncomputable def b_law_filled_c_l2 (c : Addr) : MS :=
 (mDrop (mPub (mCallL (insF c "kept") 3 (lmPut plD) 2 (aVal (mIx (mVar 4) (mC (.int 0))) (aVal (mIx (mVar 4) (mC (.int 1))) aNil)))))
noncomputable def b_law_filled (c : Addr) : MS :=
 (mSeq (mSet 2 (mNewW c))
  (mSeq (mSet 3 (mNewW c))
  (mSeq (mFor (mItL (mVar 1)) (gN 4)
  (b_law_filled_c_l2 c))
  (b_law_filled_c_r2 c))))
noncomputable def m_law_filled (c : Addr) : Lm Nat := mFnL penF 4 (b_law_filled c)
noncomputable def b_law_emptied_c_r1 (c : Addr) : MS :=
 (mRetK (insF c "kept") (mVal (mAndV (mEq (mPub (mPairsW c 0)) (mPub (mLst mNil))) (mAndV (mIsN (mFirstW c 0)) (mAndV (mIsN (mPub (mCallL (insF c "kept") 1 (lmShape (m_shape_from [.val (.list []), .val (.int 0)] fun rv => rv = .val .none)) 0 aNil))) (mEq (mManyW c 0) (mC (.int 0))))))))
noncomputable def b_law_emptied_c_r2 (c : Addr) : MS :=
 (mSeq (mSet 5 (mVal (mPopI 3 (mIx (mPub (mLst (mCons (mC (.int 0)) (mCons (mNeg (mC (.int 1))) mNil)))) (mMul (mMod (mVar 4) (mC (.int 2))) (mInt1 (mVar 2)))))))
  (mDrop (mPub (mCallL (insF c "kept") 3 (lmTake plD) 0 (aVal (mIx (mVar 5) (mC (.int 0))) (aVal (mIx (mVar 5) (mC (.int 1))) aNil))))))
noncomputable def b_law_emptied_c_l1 (c : Addr) : MS :=
 (mSeq (mIf (mPeekLT [true] (mOr (mTst (mNe (mFirstW c 0) (mIx (mVar 3) (mC (.int 0))))) (mOr (mTst (mNe (mPub (mPairsW c 0)) (mVar 3))) (mNot (mTst (mPub (mCallL (insF c "kept") 2 m_law_there 0 (aVal (mIx (mVar 3) (mMod (mVar 4) (mLen (mVar 3)))) aNil))))))))
  (mRetK (insF c "kept") (mVal (mC (.bool false))))
  mNx)
  (b_law_emptied_c_r2 c))
noncomputable def b_law_emptied (c : Addr) : MS :=
 (mSeq (mSet 3 (mListOf (mVar 1)))
  (mSeq (mFor (mRng1 (mCons (mLen (mVar 1)) mNil)) (gN 4)
  (b_law_emptied_c_l1 c))
  (b_law_emptied_c_r1 c)))
noncomputable def m_law_emptied (c : Addr) : Lm (List D) := mFnL (insF c "kept") 3 (b_law_emptied c)
noncomputable def b_law_c_r1 (c : Addr) : MS :=
 (mRet (mVal (mAndV (mEq (mPub (mCallW2 (insF c "kept") 1 lmPairs 5 (mC (.int 0)) aNil)) (mPub (mSlL (mVar 7) pNo (pSo (mC (.int 1)))))) (mEq (mPub (mCallW2 (insF c "kept") 1 lmMany 5 (mC (.int 1)) aNil)) (mC (.int 0))))))
noncomputable def b_law_c_r2 (c : Addr) : MS :=
 (mSeq (mIf (mOr (mTst (mNotN (mPub (mCallW2 (insF c "kept") 3 (lmPut plD) 5 (mC (.int 0)) (aVal (mIx (mIx (mVar 7) (mC (.int 0))) (mC (.int 0))) (aVal (mIx (mIx (mVar 7) (mC (.int 0))) (mC (.int 1))) aNil)))))) (mNot (mTst (mPub (mCallW2 (insF c "kept") 2 m_law_there 5 (mC (.int 0)) (aVal (mIx (mVar 7) (mC (.int 0))) aNil))))))
  (mRet (mVal (mC (.bool false))))
  mNx)
  (b_law_c_r1 c))
noncomputable def b_law_c_r3 (c : Addr) : MS :=
 (mSeq (mIf (mOr (mNot (mTst (mPub (mCallW2 (insF c "kept") 3 (m_law_emptied c) 5 (mC (.int 0)) (aVal (mVar 7) (aVal (mC (.bool false)) aNil)))))) (mNot (mTst (mPub (mCallW2 (insF c "kept") 3 (m_law_emptied c) 5 (mC (.int 1)) (aVal (mVar 7) (aVal (mC (.bool true)) aNil)))))))
  (mRet (mVal (mC (.bool false))))
  mNx)
  (b_law_c_r2 c))
noncomputable def b_law_c_r4 (c : Addr) : MS :=
 (mSeq (mIf (mOr (mTst (mNe (mPub (mCallW2 (insF c "kept") 1 lmPairs 5 (mC (.int 1)) aNil)) (mVar 7))) (mOr (mTst (mNe (mPub (mCallW2 (insF c "kept") 1 lmMany 5 (mC (.int 1)) aNil)) (mLen (mVar 7)))) (mTst (mNe (mPub (mCallW2 (insF c "kept") 1 lmFirst 5 (mC (.int 1)) aNil)) (mPub (mCallW2 (insF c "kept") 1 lmFirst 5 (mC (.int 0)) aNil))))))
  (mRet (mVal (mC (.bool false))))
  mNx)
  (b_law_c_r3 c))
noncomputable def b_law_c_l1 (c : Addr) : MS :=
 (mIf (mNot (mTst (mPub (mCall 2 m_law_before (aVal (mIx (mVar 7) (mSub (mVar 3) (mC (.int 1)))) (aVal (mIx (mVar 7) (mVar 3)) aNil))))))
  (mRet (mVal (mC (.bool false))))
  mNx)
noncomputable def b_law_c_r5 (c : Addr) : MS :=
 (mSeq (mFor (mRng2 (mCons (mC (.int 1)) (mCons (mLen (mVar 7)) mNil))) (gN 3)
  (b_law_c_l1 c))
  (b_law_c_r4 c))
noncomputable def b_law_c_r6 (c : Addr) : MS :=
 (mSeq (mSet 7 (mVal (mPub (mCallW2 (insF c "kept") 1 lmPairs 5 (mC (.int 0)) aNil))))
  (mSeq (mPubS 2 (mIf (mOr (mNot (mTst (mIsi "list" (mVar 7)))) (mTst (mNe (mPub (mSortM (mVar 7))) (mPub (mSortM (mVar 2))))))
  (mRet (mVal (mC (.bool false))))
  mNx))
  (b_law_c_r5 c)))
noncomputable def b_law_c_r7 (c : Addr) : MS :=
 (mSeq (mIf (mOr (mTst (mNe (mPub (mCallW2 (insF c "kept") 1 lmFirst 5 (mC (.int 0)) aNil)) (mVar 6))) (mTst (mNe (mPub (mCallW2 (insF c "kept") 1 lmFirst 5 (mC (.int 1)) aNil)) (mVar 6))))
  (mRet (mVal (mC (.bool false))))
  mNx)
  (b_law_c_r6 c))
noncomputable def b_law_c_l2 (c : Addr) : MS :=
 (mIf (mTst (mPub (mCall 2 m_law_before (aVal (mVar 4) (aVal (mVar 6) aNil)))))
  (mSet 6 (mVal (mVar 4)))
  mNx)
noncomputable def b_law_c_r8 (c : Addr) : MS :=
 (mSeq (mPubS 2 (mSet 5 (mCallL penF 2 (m_law_filled c) 1 (aVal (mVar 2) aNil))))
  (mSeq (mPubS 2 (mSet 6 (mVal (mIx (mVar 2) (mC (.int 0))))))
  (mSeq (mPubS 2 (mFor (mItL (mVar 2)) (gN 4)
  (b_law_c_l2 c)))
  (b_law_c_r7 c))))
noncomputable def b_law_c_l3 (c : Addr) : MS :=
 (mSeq (mSet 4 (mVal (mTup (mCons (mPub (mCallL penF 1 m_law_time 1 aNil)) (mCons (mTup (mCons (mSub (mPub (mCallL penF 2 mTakeL 1 (aVal (mC (.int 3)) aNil))) (mC (.int 1))) (mCons (mPub (mCallL penF 2 mTakeL 1 (aVal (mC (.int 3)) aNil))) mNil))) mNil)))))
  (mIf (mPeekT (mTst (mIn true (mVar 4) (mVar 2))))
  (mAppend 2 (mVar 4))
  mNx))
noncomputable def b_law_c (c : Addr) : MS :=
 (mSeq (mSet 2 (mLst mNil))
  (mSeq (mFor (mRng1 (mCons (mAdd (mC (.int 1)) (mPub (mCallL penF 2 mTakeL 1 (aVal (mC (.int 40)) aNil)))) mNil)) (gN 3)
  (b_law_c_l3 c))
  (b_law_c_r8 c)))
abbrev s_is_less : Stmt := top 4
theorem sc_is_less : FnScope ["a", "b"] ["a", "b"] (defScope s_is_less) := ⟨rfl, rfl, rfl, by decide +kernel, rfl, by decide +kernel, by decide +kernel⟩
theorem ok_is_less {P0 : Addr → Hp → Prop} {P : Program} {w : World} {K : PySem.W.Frag} {mg : Str → Option Value} {base : Heap} {f : Addr} {fd : FuncData} (F : Fun K "is_less" "is_less" s_is_less f fd) (B : Bl K mg) (Kt : Kit K) :
  FnOk P w K mg base CX0 1 f fd ["a", "b"] (spM P0 2 m_is_less) :=
 F.okV sc_is_less rfl rfl fun cdv A outer s H E hr =>
 have hu := hr.units
 ⟨_, (pss_one (ps_ret (pe_cmpR op_lt (pe_op op_mulX (pe_ix ix_seq (pv 0) pe_int (fun _ _ => rfl)) (pe_ix ix_seq (pv 1) pe_int (fun _ _ => rfl))) (pe_op op_mulX (pe_ix ix_seq (pv 1) pe_int (fun _ _ => rfl)) (pe_ix ix_seq (pv 0) pe_int (fun _ _ => rfl))) (nomark _)))),
  ((vs_ret (vo_val (vt_lt (vt_mul (vt_ix vt_var vt_int) (vt_ix vt_var vt_int)) (vt_mul (vt_ix vt_var vt_int) (vt_ix vt_var vt_int))))) : VS P0 _ b_is_less)⟩
abbrev s_comes_ahead : Stmt := top 6
theorem sc_comes_ahead : FnScope ["one", "other"] ["one", "other"] (defScope s_comes_ahead) := ⟨rfl, rfl, rfl, by decide +kernel, rfl, by decide +kernel, by decide +kernel⟩
theorem ok_comes_ahead {P0 : Addr → Hp → Prop} {P : Program} {w : World} {K : PySem.W.Frag} {mg : Str → Option Value} {base : Heap} {f : Addr} {fd : FuncData} (F : Fun K "comes_ahead" "comes_ahead" s_comes_ahead f fd) (B : Bl K mg) (Kt : Kit K)
  (c_is_less : Cal P w K mg base 1 "is_less" ["a", "b"] (spM P0 2 m_is_less)) :
  FnOk P w K mg base CX0 2 f fd ["one", "other"] (spM P0 2 m_comes_ahead) :=
 F.okV sc_comes_ahead rfl rfl fun cdv A outer s H E hr =>
 have hu := hr.units
 ⟨_, (pss_cons (ps_if (pt_cmpR (op_neD hu) (pe_ix ix_seq (pv 0) pe_int (fun _ _ => rfl)) (pe_ix ix_seq (pv 1) pe_int (fun _ _ => rfl)) (nomark _)) (pss_one (ps_ret (pe_callC c_is_less hr rfl (pa_cons (pe_ix ix_seq (pv 0) pe_int (fun _ _ => rfl)) (pa_cons (pe_ix ix_seq (pv 1) pe_int (fun _ _ => rfl)) pa_nil))))) pss_nil)
   (pss_one (ps_ret (pe_cmpR (op_ltT hr.units0) (pe_ix ix_seq (pv 0) pe_int (fun _ _ => rfl)) (pe_ix ix_seq (pv 1) pe_int (fun _ _ => rfl)) (nomark _))))),
  ((vs_seq (vs_if (vtt_val (vt_ne (vt_ix vt_var vt_int) (vt_ix vt_var vt_int))) (vs_ret (vo_call (va_val (vt_ix vt_var vt_int) (va_val (vt_ix vt_var vt_int) va_nil)))) vs_nx)
   (vs_ret (vo_val (vt_ltT (vt_ix vt_var vt_int) (vt_ix vt_var vt_int))))) : VS P0 _ b_comes_ahead)⟩
abbrev s_place_of : Stmt := top 7
theorem sc_place_of : FnScope ["pairs", "pair", "low", "high", "middle"] ["pairs", "pair"] (defScope s_place_of) := ⟨rfl, rfl, rfl, by decide +kernel, rfl, by decide +kernel, by decide +kernel⟩
theorem ok_place_of {P0 : Addr → Hp → Prop} {P : Program} {w : World} {K : PySem.W.Frag} {mg : Str → Option Value} {base : Heap} {f : Addr} {fd : FuncData} (F : Fun K "place_of" "place_of" s_place_of f fd) (B : Bl K mg) (Kt : Kit K)
  (c_comes_ahead : Cal P w K mg base 2 "comes_ahead" ["one", "other"] (spM P0 2 m_comes_ahead)) :
  FnOk P w K mg base CX0 3 f fd ["pairs", "pair"] (spM P0 2 m_place_of) :=
 F.okV sc_place_of rfl rfl fun cdv A outer s H E hr =>
 have hu := hr.units
 ⟨_, (pss_cons (ps_set (i := 2) sc_place_of.nd rfl (by first | exact Or.inl rfl | exact Or.inr rfl) pe_int)
   (pss_cons (ps_set (i := 3) sc_place_of.nd rfl (by first | exact Or.inl rfl | exact Or.inr rfl) (pe_callB call_len_seq rfl B.len_ boot_len (pa_cons (pv 0) pa_nil)))
   (pss_cons (ps_while PassesOwn.never (pt_cmpR op_lt (pv 2) (pv 3) (nomark _)) (pss_cons (ps_set (i := 4) sc_place_of.nd rfl (by first | exact Or.inl rfl | exact Or.inr rfl) (pe_op op_fdiv (pe_op op_add (pv 2) (pv 3)) pe_int))
   (pss_one (ps_if (pt_val (pe_callC c_comes_ahead hr rfl (pa_cons (pe_ix ix_seq (pv 0) (pv 4) (fun _ _ => rfl)) (pa_cons (pv 1) pa_nil)))) (pss_one (ps_set (i := 2) sc_place_of.nd rfl (by first | exact Or.inl rfl | exact Or.inr rfl) (pe_op op_add (pv 4) pe_int))) (pss_one (ps_set (i := 3) sc_place_of.nd rfl (by first | exact Or.inl rfl | exact Or.inr rfl) (pv 4)))))))
   (pss_one (ps_ret (pv 2)))))),
  ((vs_seq (vs_set (vo_val vt_int))
   (vs_seq (vs_set (vo_val (vt_len vt_var)))
   (vs_seq (vs_while (vtt_val (vt_lt vt_var vt_var)) (vs_seq (vs_set (vo_val (vt_div (vt_add vt_var vt_var) vt_int)))
   (vs_if (vtt_b (vt_pub (vo_call (va_val (vt_ix vt_var vt_var) (va_val vt_var va_nil))))) (vs_set (vo_val (vt_add vt_var vt_int))) (vs_set (vo_val vt_var)))))
   (vs_ret (vo_val vt_var))))) : VS P0 _ b_place_of)⟩
abbrev s_shape_from : Stmt := top 8
theorem sc_shape_from : FnScope ["pairs", "at"] ["pairs", "at"] (defScope s_shape_from) := ⟨rfl, rfl, rfl, by decide +kernel, rfl, by decide +kernel, by decide +kernel⟩
theorem ok_shape_from_1 {P0 : Addr → Hp → Prop} {P : Program} {w : World} {K : PySem.W.Frag} {mg : Str → Option Value} {base : Heap} {f : Addr} {fd : FuncData} (F : Fun K "shape_from" "shape_from" s_shape_from f fd) (B : Bl K mg) (Kt : Kit K)
  (c_shape_from : Cal P w K mg base 1 "shape_from" ["pairs", "at"] (spM P0 2 m_shape_from_0)) :
  FnOk P w K mg base CX0 2 f fd ["pairs", "at"] (spM P0 2 m_shape_from_1) :=
 F.okV sc_shape_from rfl rfl fun cdv A outer s H E hr =>
 have hu := hr.units
 ⟨_, (pss_cons (ps_if (pt_cmpR op_ge (pv 1) (pe_callB call_len_seq rfl B.len_ boot_len (pa_cons (pv 0) pa_nil)) (nomark _)) (pss_one (ps_ret pe_non)) pss_nil)
   (pss_one (ps_ret (pe_tup (pa_cons (pe_ix ix_seq (pv 0) (pv 1) (fun _ _ => rfl)) (pa_cons (pe_callC c_shape_from hr rfl (pa_cons (pv 0) (pa_cons (pe_op op_add (pe_op op_mulX pe_int (pv 1)) pe_int) pa_nil))) (pa_cons (pe_callC c_shape_from hr rfl (pa_cons (pv 0) (pa_cons (pe_op op_add (pe_op op_mulX pe_int (pv 1)) pe_int) pa_nil))) pa_nil))))))),
  ((vs_seq (vs_if (vtt_val (vt_ge vt_var (vt_len vt_var))) (vs_ret (vo_val vt_non)) vs_nx)
   (vs_ret (vo_val (vt_tup (vd_cons (vt_ix vt_var vt_var) (vd_cons (vt_pub (vo_call (va_val vt_var (va_val (vt_add (vt_mul vt_int vt_var) vt_int) va_nil)))) (vd_cons (vt_pub (vo_call (va_val vt_var (va_val (vt_add (vt_mul vt_int vt_var) vt_int) va_nil)))) vd_nil))))))) : VS P0 _ (b_shape_from m_shape_from_0))⟩
abbrev s_w_put : Stmt := inClass (top 9) 1
theorem sc_w_put : FnScope ["self", "time", "key", "pair", "at"] ["self", "time", "key"] (defScope s_w_put) := ⟨rfl, rfl, rfl, by decide +kernel, rfl, by decide +kernel, by decide +kernel⟩
theorem ok1_put {P : Program} {w : World} {K : PySem.W.Frag} {mg : Str → Option Value} {base : Heap} {f : Addr} {fd : FuncData} {C NK : Addr} (F : Fun K "put" "Waiting.put" s_w_put f fd) (B : Bl K mg) (cl : Cls K C) (na : NoAttr K C "kept") (hNK : mg "NoKey" = some (.ref NK)) (zNK : XCls K NK)
  (c_place_of : Cal P w K mg base 3 "place_of" ["pairs", "pair"] (spM NoP 2 m_place_of)) :
  FnOk P w K mg base (CX1 P w) 4 f fd ["self", "time", "key"] (spPutP plD C NK) := by
 refine F.ok1 sc_w_put (fun vs H Q E h => ?_) (fun cdv A outer s H vs Q E hr h => ?_)
 ·obtain ⟨w, d, l, us, ds, x, y, a, b, k, rfl, _⟩ := h
  rfl
 have hu := hr.units
 obtain ⟨w, d, l, us, ds, x, y, a, b, k, rfl, hI, hus, hx, hy, gp, gd, hlen, hk, hpl, yes, no⟩ := h
 refine ⟨_, (pss_cons (ps_set (i := 3) sc_w_put.nd rfl (by first | exact Or.inl rfl | exact Or.inr rfl) (pe_tup (pa_cons (pv 1) (pa_cons (pv 2) pa_nil))))
   (pss_cons (ps_set (i := 4) sc_w_put.nd rfl (by first | exact Or.inl rfl | exact Or.inr rfl) (pe_callC c_place_of hr rfl (pa_cons (pe_fld (pv 0) rfl) (pa_cons (pv 3) pa_nil))))
   (pss_cons (ps_if (PW.pt (pw_and (pt_cmpR op_lt (pv 4) (pe_callB call_len_seq rfl B.len_ boot_len (pa_cons (pe_fld (pv 0) rfl) pa_nil)) (nomark _)) (pw_and1 (pt_cmpR (op_eqD hu) (pe_ix ix_seq (pe_fld (pv 0) rfl) (pv 4) (fun _ _ => rfl)) (pv 3) (nomark _))))) (pss_one (ps_raise (C := NK) (E := E) (fun _ _ _ _ _ _ _ I hx hE => I.leave1 rfl rfl rfl hx hE) rfl rfl hNK zNK.ex PySem.F.excBase_ValueError (pa_cons pe_str pa_nil))) pss_nil)
   (pss_one (ps_expr (pe_bm PySem.F.plainAttrs_list PySem.F.slot_list_insert PySem.F.type_list_insert mt_insert (pe_fld (pv 0) rfl) (pa_cons (pv 4) (pa_cons (pv 3) pa_nil)))))))), ?_⟩
 refine ⟨_, rfl, _, rfl, small_b rfl, fun p hp => ?_⟩
 have g1 := same_new hp (.tup [x, y])
 have I1 := hI.same g1
 refine ⟨_, rfl, w, C, d, _, _, rfl, I1.i, cl, na, rfl, _, rfl, ?_⟩
 refine spM_pure (E := E0) (ds := [.list ds, .tuple [a, b]]) _ (.cons (.lst I1.l (Dts.same g1 _ _ hus)) (.cons (.tup upd_same (.cons (Dt.same g1 _ _ hx) (.cons (Dt.same g1 _ _ hy) .nil))) .nil)) rfl hpl fun rv r G' H2 hq g2 _ hr2 => ?_
 subst hq
 have hr2 : Dt G' r (.int (k : Int)) := hr2
 cases hr2
 have I2 := I1.same g2
 refine ⟨_, rfl, _, rfl, w, C, d, _, _, rfl, I2.i, cl, na, rfl, _, us, rfl, .inl (SqL.of I2.l), _, _, rfl, rfl, _, rfl, ?_⟩
 have hul : us.length = ds.length := hus.len
 have hp2 : H2 p = some (.tup [x, y]) := g2 _ _ upd_same
 have dp : Dt H2 (.ref p) (.tuple [a, b]) := .tup hp2 (.cons (Dt.same (g1.trans g2) _ _ hx) (.cons (Dt.same (g1.trans g2) _ _ hy) .nil))
 have fin : thereD ds k (.tuple [a, b]) = false → Q .non (upd H2 l (.lst (insL us (k : Int) (.ref p)))) := fun z => by
  have hpl' : p ≠ l := ne_of hp2 I2.l (by intro z; cases z)
  refine no z p _ hp (by rw [upd_ne hpl']; exact hp2) (fun c o hc e => ?_) I2.upd
  rw [upd_ne hc]
  exact (g1.trans g2) _ _ e
 refine iteD2 (fun c => ?_) (fun c => ?_)
 ·have hkl : k < ds.length := by omega
  obtain ⟨v, hv, dv⟩ := hus.get (List.getElem?_eq_getElem hkl)
  refine ⟨_, rfl, w, C, d, _, _, rfl, I2.i, cl, na, rfl, _, rfl, .inl ⟨l, us, (k : Int), v, rfl, rfl, SqL.of I2.l, atI_nat hv, ?_⟩⟩
  refine ⟨_, rfl, _, _, Dt.same (g1.trans g2) _ _ dv, dp, gd _ (List.getElem_mem hkl), gp, _, rfl, ?_⟩
  have et : thereD ds k (.tuple [a, b]) = PyData.eqv ds[k] (.tuple [a, b]) := by
   unfold thereD
   rw [List.getElem?_eq_getElem hkl]
  rw [← et]
  cases z : thereD ds k (.tuple [a, b]) with
  | true =>
   refine iteT ?_
   exact ⟨small_b rfl, fun ea => yes z ea _ (g1.trans g2)⟩
  | false =>
   refine iteF ?_
   exact ⟨_, rfl, w, C, d, _, _, rfl, I2.i, cl, na, rfl, .inl ⟨rfl, us, SqL.of I2.l⟩, _, rfl, _, rfl, l, us, (k : Int), _, rfl, rfl, I2.l, by omega, by omega, small1000 (by omega), fin z⟩
 ·refine iteF ?_
  have z : thereD ds k (.tuple [a, b]) = false := by
   unfold thereD
   rw [List.getElem?_eq_none (by omega)]
  exact ⟨_, rfl, w, C, d, _, _, rfl, I2.i, cl, na, rfl, .inl ⟨rfl, us, SqL.of I2.l⟩, _, rfl, _, rfl, l, us, (k : Int), _, rfl, rfl, I2.l, by omega, by omega, small1000 (by omega), fin z⟩
abbrev s_w_take : Stmt := inClass (top 9) 2
theorem sc_w_take : FnScope ["self", "time", "key", "pair", "at"] ["self", "time", "key"] (defScope s_w_take) := ⟨rfl, rfl, rfl, by decide +kernel, rfl, by decide +kernel, by decide +kernel⟩
theorem ok1_take {P : Program} {w : World} {K : PySem.W.Frag} {mg : Str → Option Value} {base : Heap} {f : Addr} {fd : FuncData} {C NK : Addr} (F : Fun K "take" "Waiting.take" s_w_take f fd) (B : Bl K mg) (cl : Cls K C) (na : NoAttr K C "kept") (hNK : mg "NoKey" = some (.ref NK)) (zNK : XCls K NK)
  (c_place_of : Cal P w K mg base 3 "place_of" ["pairs", "pair"] (spM NoP 2 m_place_of)) :
  FnOk P w K mg base (CX1 P w) 4 f fd ["self", "time", "key"] (spTakeP plD C NK) := by
 refine F.ok1 sc_w_take (fun vs H Q E h => ?_) (fun cdv A outer s H vs Q E hr h => ?_)
 ·obtain ⟨w, d, l, us, ds, x, y, a, b, k, rfl, _⟩ := h
  rfl
 have hu := hr.units
 obtain ⟨w, d, l, us, ds, x, y, a, b, k, rfl, hI, hus, hx, hy, gp, gd, hlen, hk, hpl, no, yes⟩ := h
 refine ⟨_, (pss_cons (ps_set (i := 3) sc_w_take.nd rfl (by first | exact Or.inl rfl | exact Or.inr rfl) (pe_tup (pa_cons (pv 1) (pa_cons (pv 2) pa_nil))))
   (pss_cons (ps_set (i := 4) sc_w_take.nd rfl (by first | exact Or.inl rfl | exact Or.inr rfl) (pe_callC c_place_of hr rfl (pa_cons (pe_fld (pv 0) rfl) (pa_cons (pv 3) pa_nil))))
   (pss_cons (ps_if (PW.pt (pw_or (pt_cmpR (op_eqD hu) (pv 4) (pe_callB call_len_seq rfl B.len_ boot_len (pa_cons (pe_fld (pv 0) rfl) pa_nil)) (nomark _)) (pw_or1 (pt_cmpR (op_neD hu) (pe_ix ix_seq (pe_fld (pv 0) rfl) (pv 4) (fun _ _ => rfl)) (pv 3) (nomark _))))) (pss_one (ps_raise (C := NK) (E := E) (fun _ _ _ _ _ _ _ I hx hE => I.leave1 rfl rfl rfl hx hE) rfl rfl hNK zNK.ex PySem.F.excBase_ValueError (pa_cons pe_str pa_nil))) pss_nil)
   (pss_one (ps_expr (pe_bm PySem.F.plainAttrs_list PySem.F.slot_list_pop PySem.F.type_list_pop mt_popAt (pe_fld (pv 0) rfl) (pa_cons (pv 4) pa_nil))))))), ?_⟩
 refine ⟨_, rfl, _, rfl, small_b rfl, fun p hp => ?_⟩
 have g1 := same_new hp (.tup [x, y])
 have I1 := hI.same g1
 refine ⟨_, rfl, w, C, d, _, _, rfl, I1.i, cl, na, rfl, _, rfl, ?_⟩
 refine spM_pure (E := E0) (ds := [.list ds, .tuple [a, b]]) _ (.cons (.lst I1.l (Dts.same g1 _ _ hus)) (.cons (.tup upd_same (.cons (Dt.same g1 _ _ hx) (.cons (Dt.same g1 _ _ hy) .nil))) .nil)) rfl hpl fun rv r G' H2 hq g2 _ hr2 => ?_
 subst hq
 have hr2 : Dt G' r (.int (k : Int)) := hr2
 cases hr2
 have I2 := I1.same g2
 have hul : us.length = ds.length := hus.len
 have hp2 : H2 p = some (.tup [x, y]) := g2 _ _ upd_same
 have dp : Dt H2 (.ref p) (.tuple [a, b]) := .tup hp2 (.cons (Dt.same (g1.trans g2) _ _ hx) (.cons (Dt.same (g1.trans g2) _ _ hy) .nil))
 refine ⟨_, rfl, _, rfl, w, C, d, _, _, rfl, I2.i, cl, na, rfl, _, us, rfl, .inl (SqL.of I2.l), ?_⟩
 refine ⟨_, _, .int _, .int _, good_int _, good_int _, _, rfl, ?_⟩
 rw [eqv_int]
 refine iteD2 (fun c => ?_) (fun c => ?_)
 ·refine iteT ?_
  exact ⟨small_b rfl, fun ea => no (thereD_no (by omega)) ea _ (g1.trans g2)⟩
 ·have hkl : k < ds.length := by omega
  obtain ⟨v, hv, dv⟩ := hus.get (List.getElem?_eq_getElem hkl)
  refine ⟨_, rfl, w, C, d, _, _, rfl, I2.i, cl, na, rfl, _, rfl, .inl ⟨l, us, (k : Int), v, rfl, rfl, SqL.of I2.l, atI_nat hv, ?_⟩⟩
  refine ⟨_, rfl, _, _, Dt.same (g1.trans g2) _ _ dv, dp, gd _ (List.getElem_mem hkl), gp, _, rfl, ?_⟩
  rw [← thereD_at hkl]
  cases z : thereD ds k (.tuple [a, b]) with
  | false =>
   refine iteT ?_
   exact ⟨small_b rfl, fun ea => no z ea _ (g1.trans g2)⟩
  | true =>
   refine iteF ?_
   refine ⟨_, rfl, w, C, d, _, _, rfl, I2.i, cl, na, rfl, .inl ⟨rfl, us, SqL.of I2.l⟩, _, rfl, l, us, (k : Int), k, v, rfl, rfl, I2.l, by omega, by omega, ?_, hv, yes z _ (fun c o hc e => ?_) I2.upd⟩
   ·unfold seqIndex?
    have h1 : ¬ (k : Int) < 0 := by omega
    have h2 : (decide (0 ≤ (k : Int)) && decide ((k : Int) < (us.length : Int))) = true := by
     rw [decide_eq_true (by omega), decide_eq_true (by omega)]
     rfl
    simp only [if_neg h1, h2, if_true, Int.toNat_natCast]
   ·rw [upd_ne hc]
    exact (g1.trans g2) _ _ e
abbrev s_w_init : Stmt := inClass (top 9) 0
theorem sc_w_init : FnScope ["self"] ["self"] (defScope s_w_init) := ⟨rfl, rfl, rfl, by decide +kernel, rfl, by decide +kernel, by decide +kernel⟩
theorem okh_w_init {P : Program} {w : World} {K : PySem.W.Frag} {mg : Str → Option Value} {base : Heap} {f : Addr} {fd : FuncData} {C : Addr} (F : Fun K "__init__" "Waiting.__init__" s_w_init f fd) (B : Bl K mg) (cl : Cls K C) (na : NoAttr K C "kept") :
  FnOk P w K mg base CX0 1 f fd ["self"] (spInitW C) := by
 refine F.ok sc_w_init (fun vs H Q E h => ?_) (fun cdv A outer s H vs Q E hr h => ?_)
 ·obtain ⟨w, d, rfl, _⟩ := h
  rfl
 have hu := hr.units
 obtain ⟨w, d, rfl, hw, hd, q⟩ := h
 refine ⟨_, (pss_one (ps_fld (pv 0) (pe_lst pa_nil) rfl)), ?_⟩
 refine ⟨small_b rfl, fun l hl => ?_⟩
 refine ⟨_, rfl, w, C, d, [], rfl, ?_, cl, na, by decide, q l hl⟩
 rw [upd_ne (ne_of_none hw hl)]
 exact hw
abbrev s_w_many : Stmt := inClass (top 9) 4
theorem sc_w_many : FnScope ["self"] ["self"] (defScope s_w_many) := ⟨rfl, rfl, rfl, by decide +kernel, rfl, by decide +kernel, by decide +kernel⟩
theorem okh_w_many {P : Program} {w : World} {K : PySem.W.Frag} {mg : Str → Option Value} {base : Heap} {f : Addr} {fd : FuncData} {C : Addr} (F : Fun K "many" "Waiting.many" s_w_many f fd) (B : Bl K mg) (cl : Cls K C) (na : NoAttr K C "kept") :
  FnOk P w K mg base CX0 1 f fd ["self"] (spMany C) := by
 refine F.ok sc_w_many (fun vs H Q E h => ?_) (fun cdv A outer s H vs Q E hr h => ?_)
 ·obtain ⟨w, d, l, us, rfl, _⟩ := h
  rfl
 have hu := hr.units
 obtain ⟨w, d, l, us, rfl, hI, q⟩ := h
 refine ⟨_, (pss_one (ps_ret (pe_callB call_len_seq rfl B.len_ boot_len (pa_cons (pe_fld (pv 0) rfl) pa_nil)))), ?_⟩
 exact ⟨_, rfl, w, C, d, _, _, rfl, hI.i, cl, na, rfl, _, us, rfl, .inl (SqL.of hI.l), q⟩
abbrev s_w_pairs : Stmt := inClass (top 9) 5
theorem sc_w_pairs : FnScope ["self"] ["self"] (defScope s_w_pairs) := ⟨rfl, rfl, rfl, by decide +kernel, rfl, by decide +kernel, by decide +kernel⟩
theorem okh_w_pairs {P : Program} {w : World} {K : PySem.W.Frag} {mg : Str → Option Value} {base : Heap} {f : Addr} {fd : FuncData} {C : Addr} (F : Fun K "pairs" "Waiting.pairs" s_w_pairs f fd) (B : Bl K mg) (cl : Cls K C) (na : NoAttr K C "kept") :
  FnOk P w K mg base CX0 1 f fd ["self"] (spPairs C) := by
 refine F.ok sc_w_pairs (fun vs H Q E h => ?_) (fun cdv A outer s H vs Q E hr h => ?_)
 ·obtain ⟨w, d, l, us, rfl, _⟩ := h
  rfl
 have hu := hr.units
 obtain ⟨w, d, l, us, rfl, hI, hl, q⟩ := h
 refine ⟨_, (pss_one (ps_ret (pe_callTy call_list_of rfl B.list_ boot_list (pa_cons (pe_fld (pv 0) rfl) pa_nil)))), ?_⟩
 exact ⟨_, rfl, w, C, d, _, _, rfl, hI.i, cl, na, rfl, _, us, rfl, .inl (SqL.of hI.l), q⟩
abbrev s_w_first : Stmt := inClass (top 9) 3
theorem sc_w_first : FnScope ["self"] ["self"] (defScope s_w_first) := ⟨rfl, rfl, rfl, by decide +kernel, rfl, by decide +kernel, by decide +kernel⟩
theorem okh_w_first {P : Program} {w : World} {K : PySem.W.Frag} {mg : Str → Option Value} {base : Heap} {f : Addr} {fd : FuncData} {C : Addr} (F : Fun K "first" "Waiting.first" s_w_first f fd) (B : Bl K mg) (cl : Cls K C) (na : NoAttr K C "kept") :
  FnOk P w K mg base CX0 1 f fd ["self"] (spFirst C) := by
 refine F.ok sc_w_first (fun vs H Q E h => ?_) (fun cdv A outer s H vs Q E hr h => ?_)
 ·obtain ⟨w, d, l, us, ds, rfl, _⟩ := h
  rfl
 have hu := hr.units
 obtain ⟨w, d, l, us, ds, rfl, hI, hus, gd, q⟩ := h
 refine ⟨_, (pss_one (ps_ret (pe_ifExp (pt_cmpR (op_neD hu) (pe_fld (pv 0) rfl) (pe_lst pa_nil) (nomark _)) (pe_ix ix_seq (pe_fld (pv 0) rfl) pe_int (fun _ _ => rfl)) pe_non))), ?_⟩
 refine ⟨_, rfl, w, C, d, _, _, rfl, hI.i, cl, na, rfl, small_b rfl, fun p hp => ?_⟩
 have g1 := same_new hp (.lst [])
 have I1 := hI.same g1
 have hus1 := Dts.same g1 _ _ hus
 refine ⟨.list ds, .list [], .lst I1.l hus1, .lst upd_same .nil, gd, (gd_lst (n := 0) (ds := []) fun _ h => nomatch h).good, _, rfl, ?_⟩
 cases ds with
 | nil =>
  refine iteF ?_
  cases hus
  exact q _ g1
 | cons e ds =>
  refine iteT ?_
  cases hus with
  | cons a b => exact ⟨_, rfl, w, C, d, _, _, rfl, I1.i, cl, na, rfl, .inl ⟨l, _, 0, _, rfl, rfl, SqL.of I1.l, atI_nat (j := 0) rfl, q _ g1⟩⟩
abbrev s_w_shape : Stmt := inClass (top 9) 6
theorem sc_w_shape : FnScope ["self"] ["self"] (defScope s_w_shape) := ⟨rfl, rfl, rfl, by decide +kernel, rfl, by decide +kernel, by decide +kernel⟩
theorem okh_w_shape {P : Program} {w : World} {K : PySem.W.Frag} {mg : Str → Option Value} {base : Heap} {f : Addr} {fd : FuncData} {C : Addr} (F : Fun K "shape" "Waiting.shape" s_w_shape f fd) (B : Bl K mg) (cl : Cls K C) (na : NoAttr K C "kept")
  (c_shape_from : Cal P w K mg base 2 "shape_from" ["pairs", "at"] (spM NoP 2 m_shape_from)) :
  FnOk P w K mg base CX0 3 f fd ["self"] (spShape (m_shape_from [.val (.list []), .val (.int 0)] fun rv => rv = .val .none) C) := by
 refine F.ok sc_w_shape (fun vs H Q E h => ?_) (fun cdv A outer s H vs Q E hr h => ?_)
 ·obtain ⟨w, d, l, rfl, _⟩ := h
  rfl
 have hu := hr.units
 obtain ⟨w, d, l, rfl, hI, hsh, q⟩ := h
 refine ⟨_, (pss_one (ps_ret (pe_callC c_shape_from hr rfl (pa_cons (pe_fld (pv 0) rfl) (pa_cons pe_int pa_nil))))), ?_⟩
 refine ⟨_, rfl, w, C, d, _, _, rfl, hI.i, cl, na, rfl, ?_⟩
 refine spM_pure (E := E0) (ds := [.list [], .int 0]) _ (.cons (.lst hI.l .nil) (.cons (.int _) .nil)) rfl hsh fun rv r G' H2 hq g2 _ hr2 => ?_
 subst hq
 have hr2 : Dt G' r .none := hr2
 cases hr2
 exact q _ g2
abbrev s_law_there : Stmt := top 18
theorem sc_law_there : FnScope ["_law_wait", "_law_pair"] ["_law_wait", "_law_pair"] (defScope s_law_there) := ⟨rfl, rfl, rfl, by decide +kernel, rfl, by decide +kernel, by decide +kernel⟩
structure Xcs (K : PySem.W.Frag) (mg : Str → Option Value) (NK : Addr) : Prop where
 hC : mg "NoKey" = some (.ref NK)
 zC : XCls K NK
 sub : PySem.W.mroIn K NK (.ref NK) = some true
theorem okh_law_there {P : Program} {w : World} {K : PySem.W.Frag} {mg : Str → Option Value} {base : Heap} {f : Addr} {fd : FuncData} {C NK : Addr} {fP : Addr} {fdP : FuncData} (F : Fun K "_law_there" "_law_there" s_law_there f fd) (B : Bl K mg) (cl : Cls K C) (x : Xcs K mg NK)
  (mP : Meth K C "put" fP) (FP : FnOk P w K mg base (CX1 P w) 4 fP fdP ["self", "time", "key"] (spPutP plD C NK)) (bP : Binds K fdP ["self", "time", "key"] []) :
  FnOk P w K mg base CX0 5 f fd ["_law_wait", "_law_pair"] (spThere plD C) := by
 refine F.ok sc_law_there (fun vs H Q E h => ?_) (fun cdv A outer s H vs Q E hr h => ?_)
 ·obtain ⟨w, d, l, us, ds, z, a, b, k, rfl, _⟩ := h
  rfl
 have hu := hr.units
 obtain ⟨w, d, l, us, ds, z, a, b, k, rfl, hI, hus, hz, gp, gd, hlen, hk, hpl, ht, qq⟩ := h
 refine ⟨_, (pss_cons (ps_tryD (px_exprM (pv 0) cl mP FP hr bP (pa_cons (pe_ix ix_seq (pv 1) pe_int (fun _ _ => rfl)) (pa_cons (pe_ix ix_seq (pv 1) pe_int (fun _ _ => rfl)) pa_nil))) rfl rfl rfl x.hC x.zC x.zC x.sub (fun e => pss_one (ps_ret pe_bl))) (pss_one (ps_ret pe_bl))), ?_⟩
 obtain ⟨q, xs, rfl, hq, hxs⟩ : ∃ q xs, z = .ref q ∧ H q = some (.tup xs) ∧ Dts H xs [a, b] := by
  cases hz with
  | tup h1 h2 => exact ⟨_, _, rfl, h1, h2⟩
 obtain ⟨v0, v1, rfl, h0, h1⟩ : ∃ v0 v1, xs = [v0, v1] ∧ Dt H v0 a ∧ Dt H v1 b := by
  cases hxs with
  | cons a1 r1 =>
   cases r1 with
   | cons a2 r2 =>
    cases r2
    exact ⟨_, _, rfl, a1, a2⟩
 refine ⟨_, rfl, w, d, _, rfl, hI.i, rfl, _, rfl, .inr (.inl ⟨q, _, 0, v0, rfl, rfl, SqT.of hq, rfl, _, rfl, .inr (.inl ⟨q, _, 1, v1, rfl, rfl, SqT.of hq, rfl, ?_⟩)⟩)⟩
 exact ⟨w, d, l, us, ds, v0, v1, a, b, k, rfl, hI, hus, h0, h1, gp, gd, hlen, hk, hpl, fun _ ea H' g => ⟨ea, rfl, rfl, fun hne => qq _ (g.trans (same_new hne _))⟩, fun z => by rw [ht] at z; cases z⟩
local macro_rules | `(tactic| walk_at "rd1") => `(tactic| first
 | refine ⟨_, rfl, ?_⟩
 | refine ⟨_, _, rfl, rfl, ?_⟩
 | refine And.intro rfl ?_
 | refine And.intro (small_b rfl) ?_
 | refine ⟨_, _, _, _, rfl, rfl, SqT.of (by assumption), rfl, ?_⟩
 | refine ⟨_, _, _, _, rfl, rfl, SqL.of (by assumption), rfl, ?_⟩
 | refine ⟨_, _, _, _, rfl, rfl, SqL.of upd_same, rfl, ?_⟩
 | refine ⟨_, _, _, _, rfl, rfl, (by assumption), rfl, ?_⟩
 | refine ⟨_, _, _, _, rfl, rfl, upd_same, rfl, ?_⟩
 | refine ⟨_, _, by assumption, by assumption, good_num _, good_num _, ?_⟩
 | refine ⟨_, _, by assumption, by assumption, good_line _, good_line _, ?_⟩
 | refine And.intro (mulB (by assumption) (by assumption)) ?_
 | refine And.intro (.inl (by decide)) ?_
 | refine And.intro (CMul_mod (by decide) (by decide)) ?_
 | refine And.intro (.inr (by decide)) ?_
 | refine ⟨_, _, rfl, .inl (by assumption), ?_⟩
 | refine ⟨_, _, rfl, .inr (SqT.of (by assumption)), ?_⟩
 | refine And.intro (by assumption) ?_
 | refine And.intro ⟨by decide, by decide⟩ ?_
 | refine And.intro ⟨by decide, by decide, by decide⟩ ?_
 | refine And.intro (show (0 : Int) < _ by decide) ?_
 | refine And.intro (by decide) ?_
 | refine ⟨_, _, rfl, ?_⟩)
local macro_rules | `(tactic| walk_at "rd") => `(tactic| repeat walk_at "rd1")
abbrev s_law_pen : Stmt := top 11
theorem sc_law_pen : FnScope ["_law_script", "_law_k", "_law_cell"] ["_law_script", "_law_k"] (defScope s_law_pen) := ⟨rfl, rfl, rfl, by decide +kernel, rfl, by decide +kernel, by decide +kernel⟩
theorem ok_law_pen {P : Program} {w : World} {K : PySem.W.Frag} {mg : Str → Option Value} {base : Heap} {f : Addr} {fd : FuncData} (F : Fun K "_law_pen" "_law_pen" s_law_pen f fd) (B : Bl K mg) :
  FnOk P w K mg base CX0 1 f fd ["_law_script", "_law_k"] (spPenC K) := by
 refine F.ok sc_law_pen (fun vs H Q E h => ?_) (fun cdv A outer s H vs Q E hr h => ?_)
 ·obtain ⟨a, ns, j, rfl, hS, j0, j1, q⟩ := h
  rfl
 have hu := hr.units
 obtain ⟨a, ns, j, rfl, hS, j0, j1, q⟩ := h
 refine ⟨_, (pss_cons (ps_set (i := 2) sc_law_pen.nd rfl (Or.inl rfl) (pe_op op_add (pe_op op_add (pe_op op_mulX (pe_op op_mulX pe_int (pv 1)) (pv 1)) (pe_op op_mulX pe_int (pv 1))) pe_int))
   (pss_cons (ps_if (pt_cmpR op_lt (pv 1) (pe_callB call_len_seq rfl B.len_ boot_len (pa_cons (pv 0) pa_nil)) (nomark _)) (pss_one (ps_set (i := 2) sc_law_pen.nd rfl (Or.inl rfl) (pe_ix ix_list (pv 0) (pv 1) (fun _ _ => rfl)))) (pss_one (ps_if (pt_cmpR op_gt (pe_callB call_len_seq rfl B.len_ boot_len (pa_cons (pv 0) pa_nil)) pe_int (nomark _)) (pss_one (ps_set (i := 2) sc_law_pen.nd rfl (Or.inl rfl) (pe_op op_add (pe_op op_mod (pe_ix ix_list (pv 0) (pe_op op_mod (pe_op op_mulX (pv 1) pe_int) (pe_callB call_len_seq rfl B.len_ boot_len (pa_cons (pv 0) pa_nil))) (fun _ _ => rfl)) (pe_powC (v := 100000000000000000) (by decide) ⟨by decide, by decide, by decide⟩)) (pe_op op_mulX pe_int (pv 1))))) pss_nil)))
   (pss_cons (ps_if (pt_cmpR op_ge (pv 2) (pe_powC (v := 1000000000000000000) (by decide) ⟨by decide, by decide, by decide⟩) (nomark _)) (pss_one (ps_ret (pe_lst (pa_cons (pe_op op_sub (pv 2) (pe_powC (v := 1000000000000000000) (by decide) ⟨by decide, by decide, by decide⟩)) (pa_cons (pe_op op_add (pe_op op_mod (pv 2) pe_int) (pv 1)) (pa_cons pe_int pa_nil)))))) pss_nil)
   (pss_one (ps_ret (pe_lst (pa_cons pe_int (pa_cons (pe_op op_add (pe_op op_mod (pv 2) pe_int) (pe_op op_mulX pe_int (pv 1))) (pa_cons pe_int pa_nil))))))))), ?_⟩
 have hl : (ns.map V.int).length = ns.length := List.length_map _
 have bs : ∀ x : Int, 0 ≤ x → x < 2147483648 → LT.Bt 31 x := fun x h1 h2 => by
  show x.natAbs < 2 ^ 31
  omega
 have a1 := bs j (by omega) (by omega)
 have a2 := bs 104729 (by decide) (by decide)
 have a3 := bs 7 (by decide) (by decide)
 have a4 := bs 65537 (by decide) (by decide)
 have a5 := bs 40503 (by decide) (by decide)
 have a6 := a2.mul a1
 have fin : ∀ cell x : Int, 0 ≤ x → x < 100000000 → 0 ≤ cell % 2147483629 + x ∧ cell % 2147483629 + x < 1099511627776 := fun cell x h1 h2 => by
  have h3 := Int.emod_nonneg cell (b := 2147483629) (by decide)
  have h4 := Int.emod_lt_of_pos cell (b := 2147483629) (by decide)
  omega
 walk_at "rd"
 refine iteD2 (fun e => ?a) (fun e => ?b)
 case' a =>
  have e' : j < (ns.length : Int) := by rw [hl] at e; exact e
  obtain ⟨i, rfl⟩ : ∃ i : Nat, j = (i : Int) := ⟨j.toNat, by omega⟩
  have hi : i < ns.length := by omega
  have hv : atI (ns.map V.int) (i : Int) = some (.int ns[i]) := by
   refine atI_nat ?_
   rw [List.getElem?_map, List.getElem?_eq_getElem hi]
   rfl
  walk_at "rd"
  refine ⟨_, _, _, _, rfl, rfl, hS, hv, ?_⟩
 case' b =>
  walk_at "rd"
  refine iteD2 (fun e2 => ?b1) (fun e2 => ?b2)
  case' b1 =>
   have e3 : 0 < (ns.length : Int) := by rw [hl] at e2; exact e2
   have h1 := Int.emod_nonneg (j * 7) (b := (ns.length : Int)) (by omega)
   have h2 := Int.emod_lt_of_pos (j * 7) e3
   obtain ⟨i, hi0⟩ : ∃ i : Nat, j * 7 % (ns.length : Int) = (i : Int) := ⟨(j * 7 % (ns.length : Int)).toNat, by omega⟩
   have hi : i < ns.length := by omega
   have hv : atI (ns.map V.int) (j * 7 % ((ns.map V.int).length : Int)) = some (.int ns[i]) := by
    rw [hl, hi0]
    refine atI_nat ?_
    rw [List.getElem?_map, List.getElem?_eq_getElem hi]
    rfl
   have hpos : 0 < ((ns.map V.int).length : Int) := by rw [hl]; exact e3
   walk_at "rd"
   refine ⟨_, _, _, _, rfl, rfl, hS, hv, ?_⟩
 all_goals
  walk_at "rd"
  refine iteD2 (fun e9 => ?_) (fun e9 => ?_)
  ·walk_at "rd"
   intro p hp
   exact q _ _ _ hp (by omega) (fin _ _ (by omega) (by omega)).1 (fin _ _ (by omega) (by omega)).2
  ·walk_at "rd"
   intro p hp
   exact q _ _ _ hp (by decide) (fin _ _ (by omega) (by omega)).1 (fin _ _ (by omega) (by omega)).2
local macro_rules | `(tactic| walk_at "rd1") => `(tactic| first
 | refine ⟨_, rfl, ?_⟩
 | refine ⟨_, _, rfl, rfl, ?_⟩
 | refine And.intro rfl ?_
 | refine And.intro (small_b rfl) ?_
 | refine ⟨_, _, _, _, rfl, rfl, SqT.of (by assumption), rfl, ?_⟩
 | refine ⟨_, _, _, _, rfl, rfl, SqL.of (by assumption), rfl, ?_⟩
 | refine ⟨_, _, _, _, rfl, rfl, SqL.of upd_same, rfl, ?_⟩
 | refine ⟨_, _, _, _, rfl, rfl, (by assumption), rfl, ?_⟩
 | refine ⟨_, _, _, _, rfl, rfl, upd_same, rfl, ?_⟩
 | refine ⟨_, _, by assumption, by assumption, good_num _, good_num _, ?_⟩
 | refine ⟨_, _, by assumption, by assumption, good_line _, good_line _, ?_⟩
 | refine And.intro (mulB (by assumption) (by assumption)) ?_
 | refine And.intro (.inl (by decide)) ?_
 | refine And.intro (CMul_mod (by decide) (by decide)) ?_
 | refine And.intro (.inr (by decide)) ?_
 | refine ⟨_, _, rfl, .inl (by assumption), ?_⟩
 | refine ⟨_, _, rfl, .inr (SqT.of (by assumption)), ?_⟩
 | refine And.intro (by assumption) ?_
 | refine And.intro ⟨by decide, by decide⟩ ?_
 | refine And.intro ⟨by decide, by decide, by decide⟩ ?_
 | refine And.intro (show (0 : Int) < _ by decide) ?_
 | refine And.intro (by decide) ?_
 | refine ⟨_, _, rfl, ?_⟩)
local macro_rules | `(tactic| walk_at "rd") => `(tactic| repeat walk_at "rd1")
abbrev s_law_take : Stmt := top 12
theorem sc_law_take : FnScope ["_law_pen_here", "_law_many", "_law_digit", "_law_number"] ["_law_pen_here", "_law_many"] (defScope s_law_take) := ⟨rfl, rfl, rfl, by decide +kernel, rfl, by decide +kernel, by decide +kernel⟩
theorem ok_law_take {P : Program} {w : World} {K : PySem.W.Frag} {mg : Str → Option Value} {base : Heap} {f : Addr} {fd : FuncData} (F : Fun K "_law_take" "_law_take" s_law_take f fd) (B : Bl K mg) :
  FnOk P w K mg base CX0 1 f fd ["_law_pen_here", "_law_many"] spTakeC := by
 refine F.ok sc_law_take (fun vs H Q E h => ?_) (fun cdv A outer s H vs Q E hr h => ?_)
 ·obtain ⟨pen, m, z, c, k, n, rfl, hp, hz, hc, hc2, hk, hkn, hn, hm, hm2, q⟩ := h
  rfl
 have hu := hr.units
 obtain ⟨pen, m, z, c, k, n, rfl, hp, hz, hc, hc2, hk, hkn, hn, hm, hm2, q⟩ := h
 refine ⟨_, (pss_cons (ps_if (pt_cmpR op_gt (pe_ix ix_list (pv 0) pe_int (fun _ _ => rfl)) pe_int (nomark _)) (pss_cons (ps_set (i := 2) sc_law_take.nd rfl (Or.inl rfl) (pe_op op_mod (pe_ix ix_list (pv 0) pe_int (fun _ _ => rfl)) (pv 1)))
   (pss_cons (ps_asg (pe_op op_fdiv (pe_ix ix_list (pv 0) pe_int (fun _ _ => rfl)) (pv 1)) (pg_sub (pv 0) pe_int set_list))
   (pss_one (ps_ret (pv 2))))) pss_nil)
   (pss_cons (ps_asg (pe_op op_add (pe_ix ix_list (pv 0) pe_int (fun _ _ => rfl)) pe_int) (pg_sub (pv 0) pe_int set_list))
   (pss_cons (ps_set (i := 3) sc_law_take.nd rfl (Or.inl rfl) (pe_op op_mod (pe_op op_mulX (pe_op op_mod (pe_op op_add (pe_ix ix_list (pv 0) pe_int (fun _ _ => rfl)) (pe_op op_mulX (pe_op op_mulX (pe_ix ix_list (pv 0) pe_int (fun _ _ => rfl)) (pe_ix ix_list (pv 0) pe_int (fun _ _ => rfl))) pe_int)) pe_int) pe_int) pe_int))
   (pss_cons (ps_set (i := 3) sc_law_take.nd rfl (Or.inl rfl) (pe_op op_mod (pe_op op_add (pe_op op_add (pe_op op_mulX (pv 3) (pv 3)) (pe_op op_mulX pe_int (pv 3))) (pe_ix ix_list (pv 0) pe_int (fun _ _ => rfl))) pe_int))
   (pss_one (ps_ret (pe_op op_mod (pe_op op_fdiv (pv 3) pe_int) (pv 1)))))))), ?_⟩
 have hcd : CDiv z m := ⟨hm, hm2⟩
 walk_at "rd"
 refine iteD2 (fun e => ?_) (fun e => ?_)
 ·walk_at "rd"
  exact q _ _ (Int.emod_nonneg _ (by omega)) (Int.emod_lt_of_pos _ hm) ⟨z / m, c, k, upd_same, Int.ediv_nonneg hz (by omega), hc, hc2, hk, by omega⟩ (sameX_upd _)
 ·have bm : ∀ x y : Int, 0 < y → y < 2147483648 → LT.Bt 31 (x % y) := fun x y h1 h2 => by
   have := Int.emod_nonneg x (b := y) (by omega)
   have := Int.emod_lt_of_pos x h1
   show (x % y).natAbs < 2 ^ 31
   omega
  have bs : ∀ x : Int, 0 ≤ x → x < 2147483648 → LT.Bt 31 x := fun x h1 h2 => by
   show x.natAbs < 2 ^ 31
   omega
  have a1 := bs (k + 1) (by omega) (by omega)
  have a2 := bs 7919 (by decide) (by decide)
  have a3 := bs 48271 (by decide) (by decide)
  have a4 := bs 69621 (by decide) (by decide)
  have a5 := a1.mul a1
  have a6 := bm (c + (k + 1) * (k + 1) * 7919) 2147483629 (by decide) (by decide)
  have a7 := bm ((c + (k + 1) * (k + 1) * 7919) % 2147483629 * 48271) 2147483587 (by decide) (by decide)
  walk_at "rd"
  exact q _ _ (Int.emod_nonneg _ (by omega)) (Int.emod_lt_of_pos _ hm) ⟨z, c, k + 1, upd_same, hz, hc, hc2, by omega, by omega⟩ (sameX_upd _)
theorem ok2_law_take {P0 : Addr → Hp → Prop} {P : Program} {w : World} {K : PySem.W.Frag} {mg : Str → Option Value} {base : Heap} {f : Addr} {fd : FuncData} (F : Fun K "_law_take" "_law_take" s_law_take f fd) (B : Bl K mg) :
  FnOk P w K mg base CX0 1 f fd ["_law_pen_here", "_law_many"] (spL P0 penF 2 mTakeL) := (ok_law_take F B).imp take_ofL
abbrev s_law_lowest : Stmt := top 13
theorem sc_law_lowest : FnScope ["_law_top", "_law_bottom", "_law_one", "_law_other"] ["_law_top", "_law_bottom"] (defScope s_law_lowest) := ⟨rfl, rfl, rfl, by decide +kernel, rfl, by decide +kernel, by decide +kernel⟩
theorem ok_law_lowest {P0 : Addr → Hp → Prop} {P : Program} {w : World} {K : PySem.W.Frag} {mg : Str → Option Value} {base : Heap} {f : Addr} {fd : FuncData} (F : Fun K "_law_lowest" "_law_lowest" s_law_lowest f fd) (B : Bl K mg) (Kt : Kit K) :
  FnOk P w K mg base CX0 1 f fd ["_law_top", "_law_bottom"] (spM P0 2 m_law_lowest) :=
 F.okV sc_law_lowest rfl rfl fun cdv A outer s H E hr =>
 have hu := hr.units
 ⟨_, (pss_cons (ps_set (i := 2) sc_law_lowest.nd rfl (by first | exact Or.inl rfl | exact Or.inr rfl) (pe_callB call_abs rfl B.abs_ boot_abs (pa_cons (pv 0) pa_nil)))
   (pss_cons (ps_set (i := 3) sc_law_lowest.nd rfl (by first | exact Or.inl rfl | exact Or.inr rfl) (pv 1))
   (pss_cons (ps_while PassesOwn.never (pt_cmpR op_gt (pv 3) pe_int (nomark _)) (pss_one (ps_par (i := 2) (j := 3) rfl sc_law_lowest.nd rfl rfl (by decide) rfl rfl (pa_cons (pv 3) (pa_cons (pe_op op_mod (pv 2) (pv 3)) pa_nil)) rfl)))
   (pss_one (ps_ret (pe_tup (pa_cons (pe_op op_fdivX (pv 0) (pv 2)) (pa_cons (pe_op op_fdivX (pv 1) (pv 2)) pa_nil)))))))),
  ((vs_seq (vs_set (vo_val (vt_abs vt_var)))
   (vs_seq (vs_set (vo_val vt_var))
   (vs_seq (vs_while (vtt_val (vt_gt vt_var vt_int)) (vs_par (vd_cons vt_var (vd_cons (vt_mod vt_var vt_var) vd_nil))))
   (vs_ret (vo_val (vt_tup (vd_cons (vt_divX vt_var vt_var) (vd_cons (vt_divX vt_var vt_var) vd_nil)))))))) : VS P0 _ b_law_lowest)⟩
abbrev s_law_far : Stmt := top 14
theorem sc_law_far : FnScope ["_law_pen_here", "_law_parts", "_law_number", "_law_k"] ["_law_pen_here", "_law_parts"] (defScope s_law_far) := ⟨rfl, rfl, rfl, by decide +kernel, rfl, by decide +kernel, by decide +kernel⟩
theorem ok_law_far {P0 : Addr → Hp → Prop} {P : Program} {w : World} {K : PySem.W.Frag} {mg : Str → Option Value} {base : Heap} {f : Addr} {fd : FuncData} (F : Fun K "_law_far" "_law_far" s_law_far f fd) (B : Bl K mg) (Kt : Kit K)
  (c_law_take : Cal P w K mg base 1 "_law_take" ["_law_pen_here", "_law_many"] (spL P0 penF 2 mTakeL)) :
  FnOk P w K mg base CX0 2 f fd ["_law_pen_here", "_law_parts"] (spL P0 penF 2 m_law_far) :=
 F.okL sc_law_far rfl rfl fun cdv A outer s H E hr =>
 have hu := hr.units
 ⟨_, (pss_cons (ps_set (i := 2) sc_law_far.nd rfl (by first | exact Or.inl rfl | exact Or.inr rfl) pe_int)
   (pss_cons (ps_for PassesOwn.never rfl (pi_range1 rfl B.range_ (pa_cons (pv 1) pa_nil)) (pg_name (i := 3) sc_law_far.nd rfl (by first | exact Or.inl rfl | exact Or.inr rfl)) (pss_one (ps_set (i := 2) sc_law_far.nd rfl (by first | exact Or.inl rfl | exact Or.inr rfl) (pe_op op_add (pe_op op_mulX (pv 2) (pe_powC (v := 1000000) (by decide) ⟨by decide, by decide, by decide⟩)) (pe_callC c_law_take hr rfl (pa_cons (pv 0) (pa_cons (pe_powC (v := 1000000) (by decide) ⟨by decide, by decide, by decide⟩) pa_nil)))))))
   (pss_one (ps_ret (pe_ix ix_seq (pe_lst (pa_cons (pv 2) (pa_cons (pe_op op_sub pe_int (pv 2)) pa_nil))) (pe_callC c_law_take hr rfl (pa_cons (pv 0) (pa_cons pe_int pa_nil))) (fun _ _ => rfl)))))),
  ((vs_seq (vs_set (vo_val vt_int))
   (vs_seq (vs_for (vi_rng1 (vd_cons vt_var vd_nil)) vg_name (vs_set (vo_val (vt_add (vt_mul vt_var vt_int) (vt_pub (vo_callL (va_val vt_int va_nil)))))))
   (vs_retK (vo_val (vt_ix (vt_pub (vo_lst (vd_cons vt_var (vd_cons (vt_sub vt_int vt_var) vd_nil)))) (vt_pub (vo_callL (va_val vt_int va_nil)))))))) : VS P0 _ b_law_far)⟩
abbrev s_law_time : Stmt := top 15
theorem sc_law_time : FnScope ["_law_pen_here", "_law_way"] ["_law_pen_here"] (defScope s_law_time) := ⟨rfl, rfl, rfl, by decide +kernel, rfl, by decide +kernel, by decide +kernel⟩
theorem ok_law_time {P0 : Addr → Hp → Prop} {P : Program} {w : World} {K : PySem.W.Frag} {mg : Str → Option Value} {base : Heap} {f : Addr} {fd : FuncData} (F : Fun K "_law_time" "_law_time" s_law_time f fd) (B : Bl K mg) (Kt : Kit K)
  (c_law_lowest : Cal P w K mg base 1 "_law_lowest" ["_law_top", "_law_bottom"] (spM P0 2 m_law_lowest))
  (c_law_take : Cal P w K mg base 1 "_law_take" ["_law_pen_here", "_law_many"] (spL P0 penF 2 mTakeL))
  (c_law_far : Cal P w K mg base 2 "_law_far" ["_law_pen_here", "_law_parts"] (spL P0 penF 2 m_law_far)) :
  FnOk P w K mg base CX0 3 f fd ["_law_pen_here"] (spL P0 penF 1 m_law_time) :=
 F.okL sc_law_time rfl rfl fun cdv A outer s H E hr =>
 have hu := hr.units
 ⟨_, (pss_cons (ps_set (i := 1) sc_law_time.nd rfl (by first | exact Or.inl rfl | exact Or.inr rfl) (pe_callC c_law_take hr rfl (pa_cons (pv 0) (pa_cons pe_int pa_nil))))
   (pss_cons (ps_if (pt_cmpR op_lt (pv 1) pe_int (nomark _)) (pss_one (ps_ret (pe_tup (pa_cons (pe_op op_sub (pe_callC c_law_take hr rfl (pa_cons (pv 0) (pa_cons pe_int pa_nil))) pe_int) (pa_cons pe_int pa_nil))))) pss_nil)
   (pss_cons (ps_if (pt_cmpR (op_eqD hu) (pv 1) pe_int (nomark _)) (pss_one (ps_ret (pe_callC c_law_lowest hr rfl (pa_cons (pe_op op_sub (pe_callC c_law_take hr rfl (pa_cons (pv 0) (pa_cons pe_int pa_nil))) pe_int) (pa_cons (pe_op op_add pe_int (pe_callC c_law_take hr rfl (pa_cons (pv 0) (pa_cons pe_int pa_nil)))) pa_nil))))) pss_nil)
   (pss_one (ps_ret (pe_callC c_law_lowest hr rfl (pa_cons (pe_callC c_law_far hr rfl (pa_cons (pv 0) (pa_cons pe_int pa_nil))) (pa_cons (pe_op op_add pe_int (pe_callC c_law_take hr rfl (pa_cons (pv 0) (pa_cons pe_int pa_nil)))) pa_nil)))))))),
  ((vs_seq (vs_set (vo_val (vt_pub (vo_callL (va_val vt_int va_nil)))))
   (vs_seq (vs_if (vtt_val (vt_lt vt_var vt_int)) (vs_retK (vo_val (vt_tup (vd_cons (vt_sub (vt_pub (vo_callL (va_val vt_int va_nil))) vt_int) (vd_cons vt_int vd_nil))))) vs_nx)
   (vs_seq (vs_if (vtt_val (vt_eq vt_var vt_int)) (vs_retK (vo_call (va_val (vt_sub (vt_pub (vo_callL (va_val vt_int va_nil))) vt_int) (va_val (vt_add vt_int (vt_pub (vo_callL (va_val vt_int va_nil)))) va_nil)))) vs_nx)
   (vs_retK (vo_call (va_val (vt_pub (vo_callL (va_val vt_int va_nil))) (va_val (vt_add vt_int (vt_pub (vo_callL (va_val vt_int va_nil)))) va_nil))))))) : VS P0 _ b_law_time)⟩
abbrev s_law_before : Stmt := top 16
theorem sc_law_before : FnScope ["_law_pair", "_law_other", "_law_here", "_law_there_here"] ["_law_pair", "_law_other"] (defScope s_law_before) := ⟨rfl, rfl, rfl, by decide +kernel, rfl, by decide +kernel, by decide +kernel⟩
theorem ok_law_before {P0 : Addr → Hp → Prop} {P : Program} {w : World} {K : PySem.W.Frag} {mg : Str → Option Value} {base : Heap} {f : Addr} {fd : FuncData} (F : Fun K "_law_before" "_law_before" s_law_before f fd) (B : Bl K mg) (Kt : Kit K) :
  FnOk P w K mg base CX0 1 f fd ["_law_pair", "_law_other"] (spM P0 2 m_law_before) :=
 F.okV sc_law_before rfl rfl fun cdv A outer s H E hr =>
 have hu := hr.units
 ⟨_, (pss_cons (ps_set (i := 2) sc_law_before.nd rfl (by first | exact Or.inl rfl | exact Or.inr rfl) (pe_op op_mulX (pe_ix ix_seq (pe_ix ix_seq (pv 0) pe_int (fun _ _ => rfl)) pe_int (fun _ _ => rfl)) (pe_ix ix_seq (pe_ix ix_seq (pv 1) pe_int (fun _ _ => rfl)) pe_int (fun _ _ => rfl))))
   (pss_cons (ps_set (i := 3) sc_law_before.nd rfl (by first | exact Or.inl rfl | exact Or.inr rfl) (pe_op op_mulX (pe_ix ix_seq (pe_ix ix_seq (pv 1) pe_int (fun _ _ => rfl)) pe_int (fun _ _ => rfl)) (pe_ix ix_seq (pe_ix ix_seq (pv 0) pe_int (fun _ _ => rfl)) pe_int (fun _ _ => rfl))))
   (pss_one (ps_ret (pe_or (pe_cmpR op_lt (pv 2) (pv 3) (nomark _)) (pe_one (pe_and (pe_cmpR (op_eqD hu) (pv 2) (pv 3) (nomark _)) (pe_one (pe_cmpR (op_ltT hr.units0) (pe_ix ix_seq (pv 0) pe_int (fun _ _ => rfl)) (pe_ix ix_seq (pv 1) pe_int (fun _ _ => rfl)) (nomark _)))))))))),
  ((vs_seq (vs_set (vo_val (vt_mul (vt_ix (vt_ix vt_var vt_int) vt_int) (vt_ix (vt_ix vt_var vt_int) vt_int))))
   (vs_seq (vs_set (vo_val (vt_mul (vt_ix (vt_ix vt_var vt_int) vt_int) (vt_ix (vt_ix vt_var vt_int) vt_int))))
   (vs_ret (vo_val (vt_or (vt_lt vt_var vt_var) (vt_and (vt_eq vt_var vt_var) (vt_ltT (vt_ix vt_var vt_int) (vt_ix vt_var vt_int)))))))) : VS P0 _ b_law_before)⟩
abbrev s_law_turned : Stmt := top 17
theorem sc_law_turned : FnScope ["_law_pen_here", "_law_some", "_law_left", "_law_found"] ["_law_pen_here", "_law_some"] (defScope s_law_turned) := ⟨rfl, rfl, rfl, by decide +kernel, rfl, by decide +kernel, by decide +kernel⟩
theorem ok_law_turned {P0 : Addr → Hp → Prop} {P : Program} {w : World} {K : PySem.W.Frag} {mg : Str → Option Value} {base : Heap} {f : Addr} {fd : FuncData} (F : Fun K "_law_turned" "_law_turned" s_law_turned f fd) (B : Bl K mg) (Kt : Kit K)
  (c_law_take : Cal P w K mg base 1 "_law_take" ["_law_pen_here", "_law_many"] (spL P0 penF 2 mTakeL)) :
  FnOk P w K mg base CX0 2 f fd ["_law_pen_here", "_law_some"] (spL P0 penF 2 m_law_turned) :=
 F.okL sc_law_turned rfl rfl fun cdv A outer s H E hr =>
 have hu := hr.units
 ⟨_, (pss_cons (ps_set (i := 2) sc_law_turned.nd rfl (by first | exact Or.inl rfl | exact Or.inr rfl) (pe_callTy call_list_of rfl B.list_ boot_list (pa_cons (pv 1) pa_nil)))
   (pss_cons (ps_set (i := 3) sc_law_turned.nd rfl (by first | exact Or.inl rfl | exact Or.inr rfl) (pe_lst pa_nil))
   (pss_cons (ps_while PassesOwn.never (pt_cmpR (op_neD hu) (pv 2) (pe_lst pa_nil) (nomark _)) (pss_one (ps_expr (pe_bm PySem.F.plainAttrs_list PySem.F.slot_list_append PySem.F.type_list_append mt_append (pv 3) (pa_cons (pe_bm PySem.F.plainAttrs_list PySem.F.slot_list_pop PySem.F.type_list_pop mt_popAt (pv 2) (pa_cons (pe_callC c_law_take hr rfl (pa_cons (pv 0) (pa_cons (pe_callB call_len_seq rfl B.len_ boot_len (pa_cons (pv 2) pa_nil)) pa_nil))) pa_nil)) pa_nil)))))
   (pss_one (ps_ret (pv 3)))))),
  ((vs_seq (vs_set (vo_listOf vt_var))
   (vs_seq (vs_set (vo_lst vd_nil))
   (vs_seq (vs_while (vtt_peek (vtt_val (vt_ne vt_var (vt_pub (vo_lst vd_nil))))) (vs_append (vt_popAt (vt_pub (vo_callL (va_val vt_lenO va_nil))))))
   (vs_retK vo_move)))) : VS P0 _ b_law_turned)⟩
abbrev s_law_filled : Stmt := top 19
theorem sc_law_filled : FnScope ["_law_pen_here", "_law_some", "_law_one", "_law_other", "_law_pair", "_law_strange"] ["_law_pen_here", "_law_some"] (defScope s_law_filled) := ⟨rfl, rfl, rfl, by decide +kernel, rfl, by decide +kernel, by decide +kernel⟩
theorem ok_law_filled {P : Program} {w : World} {K : PySem.W.Frag} {mg : Str → Option Value} {base : Heap} {f : Addr} {fd : FuncData} {c : Addr} (cl : Cls K c) {fI : Addr} {fdI : FuncData} (hmW : mg "Waiting" = some (.ref c)) (M : Mk K c fI) (FI : FnOk P w K mg base CX0 1 fI fdI ["self"] (spInitW c)) (bI : Binds K fdI ["self"] []) {f_put : Addr} {fd_put : FuncData} (M_put : Meth K c "put" f_put) (F_put : FnOk P w K mg base CX0 4 f_put fd_put ["self", "time", "key"] (spL NoP (insF c "kept") 3 (lmPut plD))) (b_put : Binds K fd_put ["self", "time", "key"] []) {f_take : Addr} {fd_take : FuncData} (M_take : Meth K c "take" f_take) (F_take : FnOk P w K mg base CX0 4 f_take fd_take ["self", "time", "key"] (spL NoP (insF c "kept") 3 (lmTake plD))) (b_take : Binds K fd_take ["self", "time", "key"] []) (F : Fun K "_law_filled" "_law_filled" s_law_filled f fd) (B : Bl K mg) (Kt : Kit K)
  (c_law_turned : Cal P w K mg base 2 "_law_turned" ["_law_pen_here", "_law_some"] (spL NoP penF 2 m_law_turned))
  (c_law_take : Cal P w K mg base 1 "_law_take" ["_law_pen_here", "_law_many"] (spL NoP penF 2 mTakeL))
  (c_law_time : Cal P w K mg base 3 "_law_time" ["_law_pen_here"] (spL NoP penF 1 m_law_time)) :
  FnOk P w K mg base CX0 5 f fd ["_law_pen_here", "_law_some"] (spL NoP penF 2 (m_law_filled c)) :=
 F.okL sc_law_filled rfl rfl fun cdv A outer s H E hr =>
 have hu := hr.units
 ⟨_, (pss_cons (ps_set (i := 2) sc_law_filled.nd rfl (by first | exact Or.inl rfl | exact Or.inr rfl) (pe_make0 M FI (hr.mono (by decide)) rfl hmW bI .nil pass0))
   (pss_cons (ps_set (i := 3) sc_law_filled.nd rfl (by first | exact Or.inl rfl | exact Or.inr rfl) (pe_make0 M FI (hr.mono (by decide)) rfl hmW bI .nil pass0))
   (pss_cons (ps_for PassesOwn.never rfl (pi_list (pv 1)) (pg_name (i := 4) sc_law_filled.nd rfl (by first | exact Or.inl rfl | exact Or.inr rfl)) (pss_one (ps_expr (pe_meth (pv 2) cl M_put F_put (hr.mono (by decide)) b_put .nil pass0 (pa_cons (pe_ix ix_seq (pv 4) pe_int (fun _ _ => rfl)) (pa_cons (pe_ix ix_seq (pv 4) pe_int (fun _ _ => rfl)) pa_nil))))))
   (pss_cons (ps_for PassesOwn.never rfl (pi_list (pe_callC c_law_turned hr rfl (pa_cons (pv 0) (pa_cons (pv 1) pa_nil)))) (pg_name (i := 4) sc_law_filled.nd rfl (by first | exact Or.inl rfl | exact Or.inr rfl)) (pss_cons (ps_set (i := 5) sc_law_filled.nd rfl (by first | exact Or.inl rfl | exact Or.inr rfl) (pe_tup (pa_cons (pe_callC c_law_time hr rfl (pa_cons (pv 0) pa_nil)) (pa_cons (pe_tup (pa_cons pe_int (pa_cons (pe_callC c_law_take hr rfl (pa_cons (pv 0) (pa_cons pe_int pa_nil))) pa_nil))) pa_nil))))
   (pss_cons (ps_expr (pe_meth (pv 3) cl M_put F_put (hr.mono (by decide)) b_put .nil pass0 (pa_cons (pe_ix ix_seq (pv 5) pe_int (fun _ _ => rfl)) (pa_cons (pe_ix ix_seq (pv 5) pe_int (fun _ _ => rfl)) pa_nil))))
   (pss_cons (ps_expr (pe_meth (pv 3) cl M_put F_put (hr.mono (by decide)) b_put .nil pass0 (pa_cons (pe_ix ix_seq (pv 4) pe_int (fun _ _ => rfl)) (pa_cons (pe_ix ix_seq (pv 4) pe_int (fun _ _ => rfl)) pa_nil))))
   (pss_one (ps_expr (pe_meth (pv 3) cl M_take F_take (hr.mono (by decide)) b_take .nil pass0 (pa_cons (pe_ix ix_seq (pv 5) pe_int (fun _ _ => rfl)) (pa_cons (pe_ix ix_seq (pv 5) pe_int (fun _ _ => rfl)) pa_nil)))))))))
   (pss_one (ps_ret (pe_lst (pa_cons (pv 2) (pa_cons (pv 3) pa_nil))))))))),
  ((vs_seq (vs_set vo_newW)
   (vs_seq (vs_set vo_newW)
   (vs_seq (vs_for (vi_list vt_var) vg_name (vs_drop (vt_pub (vo_methL (ins_meth (fun _ => rfl)) (va_val (vt_ix vt_var vt_int) (va_val (vt_ix vt_var vt_int) va_nil))))))
   (vs_seq (vs_for (vi_list (vt_pub (vo_callL (va_val vt_var va_nil)))) vg_name (vs_seq (vs_set (vo_val (vt_tup (vd_cons (vt_pub (vo_callL va_nil)) (vd_cons (vt_tup (vd_cons vt_int (vd_cons (vt_pub (vo_callL (va_val vt_int va_nil))) vd_nil))) vd_nil)))))
   (vs_seq (vs_drop (vt_pub (vo_methL (ins_meth (fun _ => rfl)) (va_val (vt_ix vt_var vt_int) (va_val (vt_ix vt_var vt_int) va_nil)))))
   (vs_seq (vs_drop (vt_pub (vo_methL (ins_meth (fun _ => rfl)) (va_val (vt_ix vt_var vt_int) (va_val (vt_ix vt_var vt_int) va_nil)))))
   (vs_drop (vt_pub (vo_methL (ins_meth (fun _ => rfl)) (va_val (vt_ix vt_var vt_int) (va_val (vt_ix vt_var vt_int) va_nil)))))))))
   (vs_retK vo_list2))))) : VS NoP _ (b_law_filled c))⟩
abbrev s_law_emptied : Stmt := top 20
theorem sc_law_emptied : FnScope ["_law_wait", "_law_told", "_law_by_turns", "_law_left", "_law_turn", "_law_gone"] ["_law_wait", "_law_told", "_law_by_turns"] (defScope s_law_emptied) := ⟨rfl, rfl, rfl, by decide +kernel, rfl, by decide +kernel, by decide +kernel⟩
theorem ok_law_emptied {P : Program} {w : World} {K : PySem.W.Frag} {mg : Str → Option Value} {base : Heap} {f : Addr} {fd : FuncData} {c : Addr} (cl : Cls K c) {f_first : Addr} {fd_first : FuncData} (M_first : Meth K c "first" f_first) (F_first : FnOk P w K mg base CX0 1 f_first fd_first ["self"] (spFirst c)) (b_first : Binds K fd_first ["self"] []) {f_many : Addr} {fd_many : FuncData} (M_many : Meth K c "many" f_many) (F_many : FnOk P w K mg base CX0 1 f_many fd_many ["self"] (spMany c)) (b_many : Binds K fd_many ["self"] []) {f_pairs : Addr} {fd_pairs : FuncData} (M_pairs : Meth K c "pairs" f_pairs) (F_pairs : FnOk P w K mg base CX0 1 f_pairs fd_pairs ["self"] (spPairs c)) (b_pairs : Binds K fd_pairs ["self"] []) {f_shape : Addr} {fd_shape : FuncData} (M_shape : Meth K c "shape" f_shape) (F_shape : FnOk P w K mg base CX0 3 f_shape fd_shape ["self"] (spL NoP (insF c "kept") 1 (lmShape (m_shape_from [.val (.list []), .val (.int 0)] fun rv => rv = .val .none)))) (b_shape : Binds K fd_shape ["self"] []) {f_take : Addr} {fd_take : FuncData} (M_take : Meth K c "take" f_take) (F_take : FnOk P w K mg base CX0 4 f_take fd_take ["self", "time", "key"] (spL NoP (insF c "kept") 3 (lmTake plD))) (b_take : Binds K fd_take ["self", "time", "key"] []) (F : Fun K "_law_emptied" "_law_emptied" s_law_emptied f fd) (B : Bl K mg) (Kt : Kit K)
  (c_law_there : Cal P w K mg base 5 "_law_there" ["_law_wait", "_law_pair"] (spL NoP (insF c "kept") 2 m_law_there)) :
  FnOk P w K mg base CX0 6 f fd ["_law_wait", "_law_told", "_law_by_turns"] (spL NoP (insF c "kept") 3 (m_law_emptied c)) :=
 F.okL sc_law_emptied rfl rfl fun cdv A outer s H E hr =>
 have hu := hr.units
 ⟨_, (pss_cons (ps_set (i := 3) sc_law_emptied.nd rfl (by first | exact Or.inl rfl | exact Or.inr rfl) (pe_callTy call_list_of rfl B.list_ boot_list (pa_cons (pv 1) pa_nil)))
   (pss_cons (ps_for PassesOwn.never rfl (pi_range1 rfl B.range_ (pa_cons (pe_callB call_len_seq rfl B.len_ boot_len (pa_cons (pv 1) pa_nil)) pa_nil)) (pg_name (i := 4) sc_law_emptied.nd rfl (by first | exact Or.inl rfl | exact Or.inr rfl)) (pss_cons (ps_if (PW.pt (pw_or (pt_cmpR (op_neD hu) (pe_meth0 (pv 0) cl M_first F_first (hr.mono (by decide)) b_first .nil pass0) (pe_ix ix_seq (pv 3) pe_int (fun _ _ => rfl)) (nomark _)) (pw_or (pt_cmpR (op_neD hu) (pe_meth0 (pv 0) cl M_pairs F_pairs (hr.mono (by decide)) b_pairs .nil pass0) (pv 3) (nomark _)) (pw_or1 (pt_not (pt_val (pe_callC c_law_there hr rfl (pa_cons (pv 0) (pa_cons (pe_ix ix_seq (pv 3) (pe_op op_mod (pv 4) (pe_callB call_len_seq rfl B.len_ boot_len (pa_cons (pv 3) pa_nil))) (fun _ _ => rfl)) pa_nil))))))))) (pss_one (ps_ret pe_bl)) pss_nil)
   (pss_cons (ps_set (i := 5) sc_law_emptied.nd rfl (by first | exact Or.inl rfl | exact Or.inr rfl) (pe_bm PySem.F.plainAttrs_list PySem.F.slot_list_pop PySem.F.type_list_pop mt_popAt (pv 3) (pa_cons (pe_ix ix_seq (pe_lst (pa_cons pe_int (pa_cons (pe_un un_neg pe_int) pa_nil))) (pe_op op_mulX (pe_op op_mod (pv 4) pe_int) (pe_callTy call_int1 rfl B.int_ boot_int (pa_cons (pv 2) pa_nil))) (fun _ _ => rfl)) pa_nil)))
   (pss_one (ps_expr (pe_meth (pv 0) cl M_take F_take (hr.mono (by decide)) b_take .nil pass0 (pa_cons (pe_ix ix_seq (pv 5) pe_int (fun _ _ => rfl)) (pa_cons (pe_ix ix_seq (pv 5) pe_int (fun _ _ => rfl)) pa_nil))))))))
   (pss_one (ps_ret (pe_and (pe_cmpR (op_eqD hu) (pe_meth0 (pv 0) cl M_pairs F_pairs (hr.mono (by decide)) b_pairs .nil pass0) (pe_lst pa_nil) (nomark _)) (pe_and (pe_cmpR op_isN (pe_meth0 (pv 0) cl M_first F_first (hr.mono (by decide)) b_first .nil pass0) pe_non (nomark _)) (pe_and (pe_cmpR op_isN (pe_meth0 (pv 0) cl M_shape F_shape (hr.mono (by decide)) b_shape .nil pass0) pe_non (nomark _)) (pe_one (pe_cmpR (op_eqD hu) (pe_meth0 (pv 0) cl M_many F_many (hr.mono (by decide)) b_many .nil pass0) pe_int (nomark _)))))))))),
  ((vs_seq (vs_set (vo_listOf vt_var))
   (vs_seq (vs_for (vi_rng1 (vd_cons (vt_len vt_var) vd_nil)) vg_name (vs_seq (vs_if (vtt_peekL (bs := [true]) (vtt_or (vtt_val (vt_ne vt_firstW (vt_ix vt_var vt_int))) (vtt_or (vtt_val (vt_ne (vt_pub vo_pairsW) vt_var)) (vtt_not (vtt_b (vt_pub (vo_callL (va_val (vt_ix vt_var (vt_mod vt_var (vt_len vt_var))) va_nil)))))))) (vs_retK (vo_val vt_bl)) vs_nx)
   (vs_seq (vs_set (vo_val (vt_popI (vt_ix (vt_pub (vo_lst (vd_cons vt_int (vd_cons (vt_neg vt_int) vd_nil)))) (vt_mul (vt_mod vt_var vt_int) (vt_int1 vt_var))))))
   (vs_drop (vt_pub (vo_methL (ins_meth (fun _ => rfl)) (va_val (vt_ix vt_var vt_int) (va_val (vt_ix vt_var vt_int) va_nil))))))))
   (vs_retK (vo_val (vt_and (vt_eq (vt_pub vo_pairsW) (vt_pub (vo_lst vd_nil))) (vt_and (vt_isN vt_firstW) (vt_and (vt_isN (vt_pub (vo_methL (ins_meth (fun _ => rfl)) va_nil))) (vt_eq vt_manyW vt_int)))))))) : VS NoP _ (b_law_emptied c))⟩
abbrev s_law : Stmt := top 21
theorem sc_law : FnScope ["_law_script", "_law_pen_here", "_law_some", "_law_k", "_law_pair", "_law_waits", "_law_least", "_law_told"] ["_law_script"] (defScope s_law) := ⟨rfl, rfl, rfl, by decide +kernel, rfl, by decide +kernel, by decide +kernel⟩
theorem ok_law {P : Program} {w : World} {K : PySem.W.Frag} {mg : Str → Option Value} {base : Heap} {f : Addr} {fd : FuncData} (F : Fun K "law" "law" s_law f fd) (B : Bl K mg) (Kt : Kit K) {c : Addr} (cl : Cls K c) {f_first : Addr} {fd_first : FuncData} (M_first : Meth K c "first" f_first) (F_first : FnOk P w K mg base CX0 1 f_first fd_first ["self"] (spL NoP (insF c "kept") 1 lmFirst)) (b_first : Binds K fd_first ["self"] []) {f_many : Addr} {fd_many : FuncData} (M_many : Meth K c "many" f_many) (F_many : FnOk P w K mg base CX0 1 f_many fd_many ["self"] (spL NoP (insF c "kept") 1 lmMany)) (b_many : Binds K fd_many ["self"] []) {f_pairs : Addr} {fd_pairs : FuncData} (M_pairs : Meth K c "pairs" f_pairs) (F_pairs : FnOk P w K mg base CX0 1 f_pairs fd_pairs ["self"] (spL NoP (insF c "kept") 1 lmPairs)) (b_pairs : Binds K fd_pairs ["self"] []) {f_put : Addr} {fd_put : FuncData} (M_put : Meth K c "put" f_put) (F_put : FnOk P w K mg base CX0 4 f_put fd_put ["self", "time", "key"] (spL NoP (insF c "kept") 3 (lmPut plD))) (b_put : Binds K fd_put ["self", "time", "key"] [])
  (c_law_pen : Cal P w K mg base 1 "_law_pen" ["_law_script", "_law_k"] (spPenC K))
  (c_law_before : Cal P w K mg base 1 "_law_before" ["_law_pair", "_law_other"] (spM NoP 2 m_law_before))
  (c_law_filled : Cal P w K mg base 5 "_law_filled" ["_law_pen_here", "_law_some"] (spL NoP penF 2 (m_law_filled c)))
  (c_law_take : Cal P w K mg base 1 "_law_take" ["_law_pen_here", "_law_many"] (spL NoP penF 2 mTakeL))
  (c_law_time : Cal P w K mg base 3 "_law_time" ["_law_pen_here"] (spL NoP penF 1 m_law_time))
  (c_law_there : Cal P w K mg base 5 "_law_there" ["_law_wait", "_law_pair"] (spL NoP (insF c "kept") 2 m_law_there))
  (c_law_emptied : Cal P w K mg base 6 "_law_emptied" ["_law_wait", "_law_told", "_law_by_turns"] (spL NoP (insF c "kept") 3 (m_law_emptied c)))
  (hL : ∀ pen, (b_law_c c) (.no :: .box (penF.box pen 1) :: List.replicate 6 .no) TrueEnd) :
  FnOk P w K mg base CX0 7 f fd ["_law_script"] (spLaw K) := by
 refine F.ok sc_law (fun vs H Q E h => ?_) (fun cdv A outer s H vs Q E hr h => ?_)
 ·obtain ⟨a, ns, rfl, hS, h63, q⟩ := h
  rfl
 have hu := hr.units
 obtain ⟨a, ns, rfl, hS, h63, q⟩ := h
 exact law_bodyC (k := 6) ⟨by decide, by decide⟩ (ps_set (i := 1) sc_law.nd rfl (by first | exact Or.inl rfl | exact Or.inr rfl) (pe_callC c_law_pen hr rfl (pa_cons (pv 0) (pa_cons pe_int pa_nil)))) ⟨_, (pss_cons (ps_set (i := 2) sc_law.nd rfl (by first | exact Or.inl rfl | exact Or.inr rfl) (pe_lst pa_nil))
   (pss_cons (ps_for PassesOwn.never rfl (pi_range1 rfl B.range_ (pa_cons (pe_op op_add pe_int (pe_callC c_law_take hr rfl (pa_cons (pv 1) (pa_cons pe_int pa_nil)))) pa_nil)) (pg_name (i := 3) sc_law.nd rfl (by first | exact Or.inl rfl | exact Or.inr rfl)) (pss_cons (ps_set (i := 4) sc_law.nd rfl (by first | exact Or.inl rfl | exact Or.inr rfl) (pe_tup (pa_cons (pe_callC c_law_time hr rfl (pa_cons (pv 1) pa_nil)) (pa_cons (pe_tup (pa_cons (pe_op op_sub (pe_callC c_law_take hr rfl (pa_cons (pv 1) (pa_cons pe_int pa_nil))) pe_int) (pa_cons (pe_callC c_law_take hr rfl (pa_cons (pv 1) (pa_cons pe_int pa_nil))) pa_nil))) pa_nil))))
   (pss_one (ps_if (pt_cmpR (op_notInD hu) (pv 4) (pv 2) (by with_unfolding_all rfl)) (pss_one (ps_expr (pe_bm PySem.F.plainAttrs_list PySem.F.slot_list_append PySem.F.type_list_append mt_append (pv 2) (pa_cons (pv 4) pa_nil)))) pss_nil))))
   (pss_cons (ps_set (i := 5) sc_law.nd rfl (by first | exact Or.inl rfl | exact Or.inr rfl) (pe_callC c_law_filled hr rfl (pa_cons (pv 1) (pa_cons (pv 2) pa_nil))))
   (pss_cons (ps_set (i := 6) sc_law.nd rfl (by first | exact Or.inl rfl | exact Or.inr rfl) (pe_ix ix_seq (pv 2) pe_int (fun _ _ => rfl)))
   (pss_cons (ps_for PassesOwn.never rfl (pi_list (pv 2)) (pg_name (i := 4) sc_law.nd rfl (by first | exact Or.inl rfl | exact Or.inr rfl)) (pss_one (ps_if (pt_val (pe_callC c_law_before hr rfl (pa_cons (pv 4) (pa_cons (pv 6) pa_nil)))) (pss_one (ps_set (i := 6) sc_law.nd rfl (by first | exact Or.inl rfl | exact Or.inr rfl) (pv 4))) pss_nil)))
   (pss_cons (ps_if (PW.pt (pw_or (pt_cmpR (op_neD hu) (pe_meth0 (pe_ix ix_seq (pv 5) pe_int (fun _ _ => rfl)) cl M_first F_first (hr.mono (by decide)) b_first .nil pass0) (pv 6) (nomark _)) (pw_or1 (pt_cmpR (op_neD hu) (pe_meth0 (pe_ix ix_seq (pv 5) pe_int (fun _ _ => rfl)) cl M_first F_first (hr.mono (by decide)) b_first .nil pass0) (pv 6) (nomark _))))) (pss_one (ps_ret pe_bl)) pss_nil)
   (pss_cons (ps_set (i := 7) sc_law.nd rfl (by first | exact Or.inl rfl | exact Or.inr rfl) (pe_meth0 (pe_ix ix_seq (pv 5) pe_int (fun _ _ => rfl)) cl M_pairs F_pairs (hr.mono (by decide)) b_pairs .nil pass0))
   (pss_cons (ps_if (PW.pt (pw_or (pt_not (pt_val (pe_callB call_isi rfl B.isinstance_ boot_isinstance (pa_cons (pv 7) (pa_cons (pe_bltn (v := .ty "list") rfl B.list_ boot_list rfl) pa_nil))))) (pw_or1 (pt_cmpR (op_neD hu) (pe_callB (call_sortM hu) rfl B.sorted_ boot_sorted (pa_cons (pv 7) pa_nil)) (pe_callB (call_sortM hu) rfl B.sorted_ boot_sorted (pa_cons (pv 2) pa_nil)) (nomark _))))) (pss_one (ps_ret pe_bl)) pss_nil)
   (pss_cons (ps_for PassesOwn.never rfl (pi_range2 rfl B.range_ (pa_cons pe_int (pa_cons (pe_callB call_len_seq rfl B.len_ boot_len (pa_cons (pv 7) pa_nil)) pa_nil))) (pg_name (i := 3) sc_law.nd rfl (by first | exact Or.inl rfl | exact Or.inr rfl)) (pss_one (ps_if (pt_not (pt_val (pe_callC c_law_before hr rfl (pa_cons (pe_ix ix_seq (pv 7) (pe_op op_sub (pv 3) pe_int) (fun _ _ => rfl)) (pa_cons (pe_ix ix_seq (pv 7) (pv 3) (fun _ _ => rfl)) pa_nil))))) (pss_one (ps_ret pe_bl)) pss_nil)))
   (pss_cons (ps_if (PW.pt (pw_or (pt_cmpR (op_neD hu) (pe_meth0 (pe_ix ix_seq (pv 5) pe_int (fun _ _ => rfl)) cl M_pairs F_pairs (hr.mono (by decide)) b_pairs .nil pass0) (pv 7) (nomark _)) (pw_or (pt_cmpR (op_neD hu) (pe_meth0 (pe_ix ix_seq (pv 5) pe_int (fun _ _ => rfl)) cl M_many F_many (hr.mono (by decide)) b_many .nil pass0) (pe_callB call_len_seq rfl B.len_ boot_len (pa_cons (pv 7) pa_nil)) (nomark _)) (pw_or1 (pt_cmpR (op_neD hu) (pe_meth0 (pe_ix ix_seq (pv 5) pe_int (fun _ _ => rfl)) cl M_first F_first (hr.mono (by decide)) b_first .nil pass0) (pe_meth0 (pe_ix ix_seq (pv 5) pe_int (fun _ _ => rfl)) cl M_first F_first (hr.mono (by decide)) b_first .nil pass0) (nomark _)))))) (pss_one (ps_ret pe_bl)) pss_nil)
   (pss_cons (ps_if (PW.pt (pw_or (pt_not (pt_val (pe_callC c_law_emptied hr rfl (pa_cons (pe_ix ix_seq (pv 5) pe_int (fun _ _ => rfl)) (pa_cons (pv 7) (pa_cons pe_bl pa_nil)))))) (pw_or1 (pt_not (pt_val (pe_callC c_law_emptied hr rfl (pa_cons (pe_ix ix_seq (pv 5) pe_int (fun _ _ => rfl)) (pa_cons (pv 7) (pa_cons pe_bl pa_nil))))))))) (pss_one (ps_ret pe_bl)) pss_nil)
   (pss_cons (ps_if (PW.pt (pw_or (pt_cmpR op_notN (pe_meth (pe_ix ix_seq (pv 5) pe_int (fun _ _ => rfl)) cl M_put F_put (hr.mono (by decide)) b_put .nil pass0 (pa_cons (pe_ix ix_seq (pe_ix ix_seq (pv 7) pe_int (fun _ _ => rfl)) pe_int (fun _ _ => rfl)) (pa_cons (pe_ix ix_seq (pe_ix ix_seq (pv 7) pe_int (fun _ _ => rfl)) pe_int (fun _ _ => rfl)) pa_nil))) pe_non (nomark _)) (pw_or1 (pt_not (pt_val (pe_callC c_law_there hr rfl (pa_cons (pe_ix ix_seq (pv 5) pe_int (fun _ _ => rfl)) (pa_cons (pe_ix ix_seq (pv 7) pe_int (fun _ _ => rfl)) pa_nil)))))))) (pss_one (ps_ret pe_bl)) pss_nil)
   (pss_one (ps_ret (pe_and (pe_cmpR (op_eqD hu) (pe_meth0 (pe_ix ix_seq (pv 5) pe_int (fun _ _ => rfl)) cl M_pairs F_pairs (hr.mono (by decide)) b_pairs .nil pass0) (pe_slice sl_list (pv 7) po_none (po_some pe_int)) (nomark _)) (pe_one (pe_cmpR (op_eqD hu) (pe_meth0 (pe_ix ix_seq (pv 5) pe_int (fun _ _ => rfl)) cl M_many F_many (hr.mono (by decide)) b_many .nil pass0) pe_int (nomark _)))))))))))))))))),
  ((vs_seq (vs_set (vo_lst vd_nil))
   (vs_seq (vs_for (vi_rng1 (vd_cons (vt_add vt_int (vt_pub (vo_callL (va_val vt_int va_nil)))) vd_nil)) vg_name (vs_seq (vs_set (vo_val (vt_tup (vd_cons (vt_pub (vo_callL va_nil)) (vd_cons (vt_tup (vd_cons (vt_sub (vt_pub (vo_callL (va_val vt_int va_nil))) vt_int) (vd_cons (vt_pub (vo_callL (va_val vt_int va_nil))) vd_nil))) vd_nil)))))
   (vs_if (vtt_peek (vtt_val (vt_in vt_var vt_var))) (vs_append vt_var) vs_nx)))
   (vs_seq (vs_pub (vs_set (vo_callL (va_val vt_var va_nil))))
   (vs_seq (vs_pub (vs_set (vo_val (vt_ix vt_var vt_int))))
   (vs_seq (vs_pub (vs_for (vi_list vt_var) vg_name (vs_if (vtt_b (vt_pub (vo_call (va_val vt_var (va_val vt_var va_nil))))) (vs_set (vo_val vt_var)) vs_nx)))
   (vs_seq (vs_if (vtt_or (vtt_val (vt_ne (vt_pub (vo_methW2 (ins_meth (fun _ => rfl)) vt_int va_nil)) vt_var)) (vtt_val (vt_ne (vt_pub (vo_methW2 (ins_meth (fun _ => rfl)) vt_int va_nil)) vt_var))) (vs_ret (vo_val vt_bl)) vs_nx)
   (vs_seq (vs_set (vo_val (vt_pub (vo_methW2 (ins_meth (fun _ => rfl)) vt_int va_nil))))
   (vs_seq (vs_pub (vs_if (vtt_or (vtt_not (vtt_b (vt_isi Kt (by decide) vt_var))) (vtt_val (vt_ne (vt_pub (vo_sortM vt_var)) (vt_pub (vo_sortM vt_var))))) (vs_ret (vo_val vt_bl)) vs_nx))
   (vs_seq (vs_for (vi_rng2 (vd_cons vt_int (vd_cons (vt_len vt_var) vd_nil))) vg_name (vs_if (vtt_not (vtt_b (vt_pub (vo_call (va_val (vt_ix vt_var (vt_sub vt_var vt_int)) (va_val (vt_ix vt_var vt_var) va_nil)))))) (vs_ret (vo_val vt_bl)) vs_nx))
   (vs_seq (vs_if (vtt_or (vtt_val (vt_ne (vt_pub (vo_methW2 (ins_meth (fun _ => rfl)) vt_int va_nil)) vt_var)) (vtt_or (vtt_val (vt_ne (vt_pub (vo_methW2 (ins_meth (fun _ => rfl)) vt_int va_nil)) (vt_len vt_var))) (vtt_val (vt_ne (vt_pub (vo_methW2 (ins_meth (fun _ => rfl)) vt_int va_nil)) (vt_pub (vo_methW2 (ins_meth (fun _ => rfl)) vt_int va_nil)))))) (vs_ret (vo_val vt_bl)) vs_nx)
   (vs_seq (vs_if (vtt_or (vtt_not (vtt_b (vt_pub (vo_callW2 vt_int (va_val vt_var (va_val vt_bl va_nil)))))) (vtt_not (vtt_b (vt_pub (vo_callW2 vt_int (va_val vt_var (va_val vt_bl va_nil))))))) (vs_ret (vo_val vt_bl)) vs_nx)
   (vs_seq (vs_if (vtt_or (vtt_val (vt_notN (vt_pub (vo_methW2 (ins_meth (fun _ => rfl)) vt_int (va_val (vt_ix (vt_ix vt_var vt_int) vt_int) (va_val (vt_ix (vt_ix vt_var vt_int) vt_int) va_nil)))))) (vtt_not (vtt_b (vt_pub (vo_callW2 vt_int (va_val (vt_ix vt_var vt_int) va_nil)))))) (vs_ret (vo_val vt_bl)) vs_nx)
   (vs_ret (vo_val (vt_and (vt_eq (vt_pub (vo_methW2 (ins_meth (fun _ => rfl)) vt_int va_nil)) (vt_pub (vo_slL vt_var vp_no (vp_so vt_int)))) (vt_eq (vt_pub (vo_methW2 (ins_meth (fun _ => rfl)) vt_int va_nil)) vt_int)))))))))))))))) : VS NoP _ (b_law_c c))⟩ rfl hS hL q
abbrev Pr := Rat × (Int × Int)
noncomputable def dKey (k : Int × Int) : D := .tuple [.int k.1, .int k.2]
noncomputable def dPr (p : Pr) : D := .tuple [dNum p.1, dKey p.2]
noncomputable def dPrs (xs : List Pr) : List D := xs.map dPr
noncomputable def kLt (a b : Int × Int) : Prop := a.1 < b.1 ∨ a.1 = b.1 ∧ a.2 < b.2
noncomputable def pLt (a b : Pr) : Prop := a.1 < b.1 ∨ a.1 = b.1 ∧ kLt a.2 b.2
instance (a b : Int × Int) : Decidable (kLt a b) := inferInstanceAs (Decidable (_ ∨ _))
instance (a b : Pr) : Decidable (pLt a b) := inferInstanceAs (Decidable (_ ∨ _))
theorem lex_key (a b : Int × Int) : HT.lexLt [a.1, a.2] [b.1, b.2] = decide (kLt a b) := by
 rw [HT.lexLt_cons, HT.lexLt_cons, HT.lexLt_nil_nil]
 by_cases h : a.1 = b.1
 ·rw [if_pos h]
  by_cases h2 : a.2 = b.2
  ·rw [if_pos h2]
   exact (decide_eq_false (by unfold kLt; omega)).symm
  ·rw [if_neg h2]
   exact decide_eq_decide.mpr (by unfold kLt; omega)
 ·rw [if_neg h]
  exact decide_eq_decide.mpr (by unfold kLt; omega)
theorem gd_key (k : Int × Int) : Gd 1 (dKey k) := gd_2 (gd_int _) (gd_int _)
theorem gd_pr (p : Pr) : Gd 2 (dPr p) := gd_2 (gd_num _) (gd_key _)
theorem gd_prs (xs : List Pr) : Gd 3 (.list (dPrs xs)) := gd_lst (n := 2) fun d h => by
 obtain ⟨p, _, rfl⟩ := List.mem_map.mp h
 exact gd_pr p
theorem eqv_key (a b : Int × Int) : PyData.eqv (dKey a) (dKey b) = decide (a = b) := by
 show ((a.1 == b.1) && ((a.2 == b.2) && true)) = decide (a = b)
 obtain ⟨a1, a2⟩ := a
 obtain ⟨b1, b2⟩ := b
 by_cases e : a1 = b1 <;> by_cases f : a2 = b2 <;> simp [e, f]
theorem eqv_pr (a b : Pr) : PyData.eqv (dPr a) (dPr b) = decide (a = b) := by
 show (PyData.eqv (dNum a.1) (dNum b.1) && (PyData.eqv (dKey a.2) (dKey b.2) && true)) = decide (a = b)
 rw [Bool.and_true, eqv_num, eqv_key]
 obtain ⟨a1, a2⟩ := a
 obtain ⟨b1, b2⟩ := b
 by_cases e : a1 = b1 <;> by_cases f : a2 = b2 <;> simp [e, f]
theorem dPrs_len (xs : List Pr) : (dPrs xs).length = xs.length := List.length_map _
theorem dPrs_get {xs : List Pr} {i : Nat} {d : D} (h : (dPrs xs)[i]? = some d) : ∃ p, xs[i]? = some p ∧ d = dPr p := by
 unfold dPrs at h
 rw [List.getElem?_map] at h
 cases e : xs[i]? with
 | none => rw [e] at h; cases h
 | some l => rw [e] at h; cases h; exact ⟨l, rfl, rfl⟩
theorem ixN_nat {n i : Nat} (h : i < n) : ixN n (i : Int) = some i := by
 unfold ixN
 rw [if_pos (by omega), if_pos (by omega), Int.toNat_natCast]
theorem ixD_nat {ds : List D} {i : Nat} {d : D} (h : ds[i]? = some d) : ixD (.list ds) (.int (i : Int)) = some d := by
 show atI ds (i : Int) = some d
 unfold atI
 rw [ixN_nat (List.getElem?_eq_some_iff.mp h).1]
 exact h
theorem ix_prs {xs : List Pr} {i : Nat} (h : i < xs.length) : ixD (.list (dPrs xs)) (.int (i : Int)) = some (dPr xs[i]) := ixD_nat (by unfold dPrs; rw [List.getElem?_map, List.getElem?_eq_getElem h]; rfl)
theorem len_prs (xs : List Pr) : lenD (.list (dPrs xs)) = some (.int (xs.length : Int)) := by show some (PyData.int ((dPrs xs).length : Int)) = _; rw [dPrs_len]
theorem any_prs (xs : List Pr) (p : Pr) : ((dPrs xs).any fun e => PyData.eqv e (dPr p)) = decide (p ∈ xs) := by
 unfold dPrs
 rw [List.any_map]
 induction xs with
 | nil => rfl
 | cons x xs ih =>
  rw [List.any_cons, ih]
  show (PyData.eqv (dPr x) (dPr p) || _) = _
  rw [eqv_pr]
  by_cases e : x = p
  ·subst e; simp
  ·have : p ≠ x := fun z => e z.symm
   simp [e, this]
theorem pLt.irrefl (a : Pr) : ¬ pLt a a := by unfold pLt kLt; grind
theorem pLt.trans {a b c : Pr} (h : pLt a b) (g : pLt b c) : pLt a c := by unfold pLt kLt at *; grind
theorem kLt.tri (a b : Int × Int) : kLt a b ∨ a = b ∨ kLt b a := by
 obtain ⟨a, b'⟩ := a
 obtain ⟨d, e⟩ := b
 unfold kLt
 simp only [Prod.mk.injEq]
 omega
theorem pLt.tri (a b : Pr) : pLt a b ∨ a = b ∨ pLt b a := by
 obtain ⟨a, k⟩ := a
 obtain ⟨b, l⟩ := b
 unfold pLt
 simp only [Prod.mk.injEq]
 by_cases h : a = b
 ·rcases kLt.tri k l with z | z | z
  ·exact .inl (.inr ⟨h, z⟩)
  ·exact .inr (.inl ⟨h, z⟩)
  ·exact .inr (.inr (.inr ⟨h.symm, z⟩))
 ·grind
abbrev Srt (xs : List Pr) : Prop := xs.Pairwise pLt
noncomputable def posP (xs : List Pr) (p : Pr) : Nat := (xs.filter fun x => decide (pLt x p)).length
theorem posP_le (xs : List Pr) (p : Pr) : posP xs p ≤ xs.length := List.length_filter_le _ _
theorem posP_cons (x : Pr) (xs : List Pr) (p : Pr) : posP (x :: xs) p = (if pLt x p then 1 else 0) + posP xs p := by
 unfold posP
 rw [List.filter_cons]
 by_cases h : pLt x p
 ·rw [if_pos (by simpa using h), if_pos h, List.length_cons]; omega
 ·rw [if_neg (by simpa using h), if_neg h]; omega
theorem posP_zero {xs : List Pr} {p : Pr} (h : ∀ x ∈ xs, ¬ pLt x p) : posP xs p = 0 := by
 unfold posP
 rw [List.filter_eq_nil_iff.mpr fun x hx => by simpa using h x hx]
 rfl
theorem posP_is {xs : List Pr} {p : Pr} {k : Nat} (hk : k ≤ xs.length) (h1 : ∀ j (h : j < xs.length), j < k → pLt xs[j] p) (h2 : ∀ j (h : j < xs.length), k ≤ j → ¬ pLt xs[j] p) : posP xs p = k := by
 induction xs generalizing k with
 | nil => simp only [List.length_nil, Nat.le_zero_eq] at hk; subst hk; rfl
 | cons x xs ih =>
  rw [posP_cons]
  cases k with
  | zero =>
   have := h2 0 (by simp) (Nat.le_refl _)
   rw [if_neg (by simpa using this)]
   rw [posP_zero fun y hy => ?_]
   obtain ⟨j, hj, rfl⟩ := List.getElem_of_mem hy
   exact h2 (j + 1) (by simpa using hj) (Nat.zero_le _)
  | succ k =>
   have := h1 0 (by simp) (by omega)
   rw [if_pos (by simpa using this), ih (k := k) (by simpa using hk) (fun j hj hjk => h1 (j + 1) (by simpa using hj) (by omega)) fun j hj hjk => h2 (j + 1) (by simpa using hj) (by omega)]
   omega
theorem Srt.lt {xs : List Pr} (h : Srt xs) {i j : Nat} (hi : i < xs.length) (hj : j < xs.length) (hij : i < j) : pLt xs[i] xs[j] := List.pairwise_iff_getElem.mp h i j hi hj hij
theorem posP_mem {xs : List Pr} (h : Srt xs) {i : Nat} (hi : i < xs.length) : posP xs xs[i] = i := by
 refine posP_is (by omega) (fun j hj hji => h.lt hj hi hji) fun j hj hij z => ?_
 by_cases e : i = j
 ·subst e; exact pLt.irrefl _ z
 ·exact pLt.irrefl _ (z.trans (h.lt hi hj (by omega)))
theorem there_prs {xs : List Pr} (h : Srt xs) (p : Pr) : thereD (dPrs xs) (posP xs p) (dPr p) = decide (p ∈ xs) := by
 by_cases hp : p ∈ xs
 ·obtain ⟨i, hi, rfl⟩ := List.getElem_of_mem hp
  rw [posP_mem h hi, thereD_at (by rw [dPrs_len]; exact hi), decide_eq_true hp]
  have e : (dPrs xs)[i]'(by rw [dPrs_len]; exact hi) = dPr xs[i] := by unfold dPrs; rw [List.getElem_map]
  rw [e, eqv_pr, decide_eq_true rfl]
 ·rw [decide_eq_false hp]
  by_cases hk : posP xs p < xs.length
  ·rw [thereD_at (by rw [dPrs_len]; exact hk)]
   have e : (dPrs xs)[posP xs p]'(by rw [dPrs_len]; exact hk) = dPr xs[posP xs p] := by unfold dPrs; rw [List.getElem_map]
   rw [e, eqv_pr, decide_eq_false fun z => hp (by rw [← z]; exact List.getElem_mem _)]
  ·exact thereD_no (by rw [dPrs_len]; omega)
theorem srt_split {xs : List Pr} (h : Srt xs) (p : Pr) : xs.take (posP xs p) = xs.filter (fun x => decide (pLt x p)) ∧ xs.drop (posP xs p) = xs.filter (fun x => !decide (pLt x p)) := by
 induction xs with
 | nil => exact ⟨rfl, rfl⟩
 | cons x xs ih =>
  obtain ⟨hx, hs⟩ := List.pairwise_cons.mp h
  rw [posP_cons]
  by_cases c : pLt x p
  ·obtain ⟨a, b⟩ := ih hs
   rw [if_pos c, Nat.add_comm, List.take_succ_cons, List.drop_succ_cons, a, b, List.filter_cons, List.filter_cons, if_pos (by simpa using c), if_neg (by simpa using c)]
   exact ⟨rfl, rfl⟩
  ·have hn : ∀ y ∈ xs, ¬ pLt y p := fun y hy z => c ((hx y hy).trans z)
   rw [if_neg c, posP_zero hn, List.filter_cons, if_neg (by simpa using c), List.filter_cons, if_pos (by simpa using c), List.filter_eq_nil_iff.mpr fun y hy => by simpa using hn y hy, List.filter_eq_self.mpr fun y hy => by simpa using hn y hy]
   exact ⟨rfl, rfl⟩
noncomputable def insP (xs : List Pr) (p : Pr) : List Pr := xs.take (posP xs p) ++ p :: xs.drop (posP xs p)
theorem mem_insP {xs : List Pr} {p x : Pr} : x ∈ insP xs p ↔ x = p ∨ x ∈ xs := by
 unfold insP
 rw [List.mem_append, List.mem_cons]
 have : x ∈ xs ↔ x ∈ xs.take (posP xs p) ∨ x ∈ xs.drop (posP xs p) := by rw [← List.mem_append, List.take_append_drop]
 rw [this]
 constructor
 ·rintro (h | h | h)
  ·exact .inr (.inl h)
  ·exact .inl h
  ·exact .inr (.inr h)
 ·rintro (h | h | h)
  ·exact .inr (.inl h)
  ·exact .inl h
  ·exact .inr (.inr h)
theorem insP_len (xs : List Pr) (p : Pr) : (insP xs p).length = xs.length + 1 := by
 unfold insP
 rw [List.length_append, List.length_cons, List.length_take, List.length_drop]
 have := posP_le xs p
 omega
theorem insP_srt {xs : List Pr} (h : Srt xs) {p : Pr} (hp : p ∉ xs) : Srt (insP xs p) := by
 obtain ⟨a, b⟩ := srt_split h p
 unfold insP
 rw [a, b]
 refine List.pairwise_append.mpr ⟨h.sublist List.filter_sublist, List.pairwise_cons.mpr ⟨fun y hy => ?_, h.sublist List.filter_sublist⟩, fun x hx y hy => ?_⟩
 ·obtain ⟨h1, h2⟩ := List.mem_filter.mp hy
  have h2 : ¬ pLt y p := by simpa using h2
  rcases pLt.tri p y with z | z | z
  ·exact z
  ·exact absurd (z ▸ h1) hp
  ·exact absurd z h2
 ·obtain ⟨_, h2⟩ := List.mem_filter.mp hx
  have h2 : pLt x p := by simpa using h2
  rcases List.mem_cons.mp hy with rfl | hy
  ·exact h2
  ·obtain ⟨h3, h4⟩ := List.mem_filter.mp hy
   have h4 : ¬ pLt y p := by simpa using h4
   rcases pLt.tri p y with z | z | z
   ·exact h2.trans z
   ·exact absurd (z ▸ h3) hp
   ·exact absurd z h4
theorem ins_prs (xs : List Pr) (p : Pr) : insL (dPrs xs) (posP xs p : Int) (dPr p) = dPrs (insP xs p) := by
 have hk := posP_le xs p
 unfold insL insAt insP dPrs
 rw [if_neg (by omega), List.length_map, Int.toNat_natCast, Nat.min_eq_left hk, List.map_append, List.map_cons, List.map_take, List.map_drop]
noncomputable def delP (xs : List Pr) (p : Pr) : List Pr := xs.filter fun x => decide (x ≠ p)
theorem delP_srt {xs : List Pr} (h : Srt xs) (p : Pr) : Srt (delP xs p) := h.sublist List.filter_sublist
theorem mem_delP {xs : List Pr} {p x : Pr} : x ∈ delP xs p ↔ x ∈ xs ∧ x ≠ p := by
 unfold delP
 rw [List.mem_filter, decide_eq_true_iff]
theorem delP_len (xs : List Pr) (p : Pr) : (delP xs p).length ≤ xs.length := List.length_filter_le _ _
theorem erase_delP {xs : List Pr} (h : Srt xs) {i : Nat} (hi : i < xs.length) : xs.eraseIdx i = delP xs xs[i] := by
 induction xs generalizing i with
 | nil => exact absurd hi (Nat.not_lt_zero _)
 | cons x xs ih =>
  obtain ⟨hx, hs⟩ := List.pairwise_cons.mp h
  cases i with
  | zero =>
   show xs = delP (x :: xs) x
   unfold delP
   rw [List.filter_cons, if_neg (by simp), List.filter_eq_self.mpr fun y hy => ?_]
   exact decide_eq_true fun z => pLt.irrefl x (by have := hx y hy; rwa [z] at this)
  | succ i =>
   have hi' : i < xs.length := by simpa using hi
   show x :: xs.eraseIdx i = delP (x :: xs) xs[i]
   rw [ih hs hi']
   unfold delP
   have hne : x ≠ xs[i] := fun z => pLt.irrefl x (by have := hx _ (List.getElem_mem hi'); rwa [← z] at this)
   rw [List.filter_cons, if_pos (decide_eq_true hne)]
theorem map_erase : ∀ (xs : List Pr) (i : Nat), (dPrs xs).eraseIdx i = dPrs (xs.eraseIdx i)
 | [], _ => rfl
 | _ :: _, 0 => rfl
 | x :: xs, i + 1 => by
  show dPr x :: (dPrs xs).eraseIdx i = dPr x :: dPrs (xs.eraseIdx i)
  rw [map_erase xs i]
theorem erase_prs {xs : List Pr} (h : Srt xs) {p : Pr} (hp : p ∈ xs) : (dPrs xs).eraseIdx (posP xs p) = dPrs (delP xs p) := by
 obtain ⟨i, hi, rfl⟩ := List.getElem_of_mem hp
 rw [posP_mem h hi, ← erase_delP h hi]
 exact map_erase xs i
section
variable {Q : Rv → Prop}
theorem t_is_less {a b : Rat} (ha : Sz 9000 a) (hb : Sz 9000 b) (q : Q (.val (.bool (decide (a < b))))) : m_is_less [.val (dNum a), .val (dNum b)] Q := by
 obtain ⟨a0, a1⟩ := id ha
 obtain ⟨b0, b1⟩ := id hb
 refine i_fn ?_
 unfold b_is_less
 walk_at "vs"
 rw [lt_eq]
 exact q
end
theorem bt_pow {k j : Nat} {i : Int} (h0 : 0 ≤ i) (h1 : i < 10 ^ (6 * j)) (hk : 20 * j ≤ k) : Bt k i := by
 show i.natAbs < 2 ^ k
 have h2 : (10 : Nat) ^ (6 * j) ≤ 2 ^ (20 * j) := by
  rw [Nat.pow_mul, Nat.pow_mul]
  exact Nat.pow_le_pow_left (by decide) j
 have h3 : (2 : Nat) ^ (20 * j) ≤ 2 ^ k := Nat.pow_le_pow_right (by decide) hk
 have h4 : ((10 : Int) ^ (6 * j)) = (((10 : Nat) ^ (6 * j) : Nat) : Int) := by simp
 rw [h4] at h1
 omega
section
variable {p : Addr} {n : Nat} {Q : Rv → Nat → Prop}
theorem t_lowestC {Q : Rv → Prop} {t b : Int} (h0 : 0 < b) (hb : Bt 9000 b) (q : Q (.val (dNum (Rat.divInt t b)))) : m_law_lowest [.val (.int t), .val (.int b)] Q := by
 have g0 := gcd_ne (t := t) (b := b) (by omega)
 have g1 := gcd_bt (t := t) hb (by omega)
 refine i_fn ?_
 unfold b_law_lowest b_law_lowest_l1 b_law_lowest_r1
 walk_at "vs"
 refine while_inv (fun n Γ => ∃ d r, Γ = [.val (.int t), .val (.int b), .val (.int d), .val (.int r)] ∧ 0 ≤ d ∧ 0 ≤ r ∧ Int.gcd d r = Int.gcd t b ∧ n = r.toNat) _ ⟨_, _, rfl, abs_nn t, by omega, by
  have := abs_gcd t b
  rwa [if_neg (c := b < 0) (by omega)] at this, rfl⟩ ?_
 rintro m Γ ⟨d, r, rfl, hd, hr, hg, rfl⟩
 walk_at "vs"
 refine iteD2 (fun c => ?_) (fun c => ?_)
 ·walk_at "vs"
  refine ⟨c, ?_⟩
  walk_at "vs"
  have h1 := Int.emod_nonneg d (b := r) (by omega)
  have h2 := Int.emod_lt_of_pos d c
  exact ⟨_, by omega, _, _, rfl, hr, h1, (gcd_step hd c).trans hg, rfl⟩
 ·have c' : r = 0 := by omega
  subst c'
  have e := gcd_end hd
  rw [hg] at e
  subst e
  have n := norm_pos (t := t) (b := b) h0
  walk_at "vs"
  refine ⟨⟨g0, g1⟩, ?_⟩
  walk_at "vs"
  refine ⟨⟨g0, g1⟩, ?_⟩
  walk_at "vs"
  rw [n.1, n.2]
  exact q
theorem t_far {k : Nat} (hk : k ≤ 10) (hn : n < 1000000) (q : ∀ (r : Int) n', Bt (20 * k) r → n' ≤ n + 11 → Q (.val (.int r)) n') : m_law_far p n [.val (.int (k : Int))] Q := by
 refine i_fnL ?_
 unfold b_law_far
 walk_at "ls"
 refine ⟨by omega, by omega, ?_⟩
 refine range_inv (fun j Γ => ∃ x r n', Γ = [.box (penF.box p n'), .val (.int (k : Int)), .val (.int r), x] ∧ 0 ≤ r ∧ r < 10 ^ (6 * j) ∧ n' = n + j) ⟨_, _, _, rfl, by decide, by decide, rfl⟩ ?_ ?_
 ·rintro j Γ K hj ⟨x, r, n', rfl, r0, r1, hn'⟩ hK
  have hj : j < 10 := by omega
  unfold b_law_far_l1
  walk_at "ls"
  refine ⟨mulB (k := 200) (bt_pow r0 r1 (by omega)) (m := 31) (by show Int.natAbs 1000000 < 2 ^ 31; decide), ?_⟩
  walk_at "ls"
  refine i_takeL (by decide) (by decide) (by omega) fun d d0 d1 => ?_
  walk_at "ls"
  refine hK.nx _ ⟨_, _, _, rfl, by omega, ?_, by omega⟩
  have : (10 : Int) ^ (6 * (j + 1)) = 10 ^ (6 * j) * 1000000 := by
   rw [show 6 * (j + 1) = 6 * j + 6 by omega, Int.pow_add]
   rfl
  rw [this]
  omega
 ·rintro Γ ⟨x, r, n', rfl, r0, r1, hn'⟩
  rw [Int.toNat_natCast] at r1 hn'
  unfold b_law_far_r1
  walk_at "ls"
  refine i_takeL (by decide) (by decide) (by omega) fun d d0 d1 => ?_
  walk_at "ls"
  have hb := bt_pow r0 r1 (Nat.le_refl _)
  have hd : d = 0 ∨ d = 1 := by omega
  rcases hd with rfl | rfl
  ·refine i_oQ (d := .int r) rfl ?_
   walk_at "ls"
   exact q _ _ hb (by omega)
  ·refine i_oQ (d := .int (0 - r)) rfl ?_
   walk_at "ls"
   exact q _ _ (by rw [Int.zero_sub]; exact hb.neg) (by omega)
end
section
variable {p : Addr} {n : Nat} {Q : Rv → Nat → Prop}
end
section
variable {Q : Rv → Prop} {a b : Pr}
theorem ix_pr0 (a : Pr) : ixD (dPr a) (.int 0) = some (dNum a.1) := rfl
theorem ix_pr1 (a : Pr) : ixD (dPr a) (.int 1) = some (dKey a.2) := rfl
theorem key_ints (k : Int × Int) : dKey k = .tuple ([k.1, k.2].map .int) := rfl
theorem t_before (ha : Sz 60 a.1) (hb : Sz 60 b.1) (q : Q (.val (.bool (decide (pLt a b))))) : m_law_before [.val (dPr a), .val (dPr b)] Q := by
 obtain ⟨a0, a1⟩ := id ha
 obtain ⟨b0, b1⟩ := id hb
 refine i_fn ?_
 unfold b_law_before
 walk_at "ls"
 refine i_oQ (ix_pr0 a) ?_
 walk_at "ls"
 refine i_oQ (ix_pr0 b) ?_
 walk_at "ls"
 refine i_oQ (ix_pr0 b) ?_
 walk_at "ls"
 refine i_oQ (ix_pr0 a) ?_
 walk_at "ls"
 rw [lt_eq]
 refine iteD2 (fun c => ?_) (fun c => ?_)
 ·rw [decide_eq_true (show pLt a b from .inl c)] at q
  exact q
 ·walk_at "ls"
  have he : a.1.num * b.1.den = b.1.num * a.1.den ↔ a.1 = b.1 := by
   have h1 := lt_eq a.1 b.1
   have h2 := lt_eq b.1 a.1
   rw [decide_eq_decide] at h1 h2
   constructor
   ·intro z; grind
   ·intro z; rw [z]
  refine iteD2 (fun d => ?_) (fun d => ?_)
  ·have d := he.mp d
   walk_at "ls"
   refine i_oQ (ix_pr1 a) ?_
   walk_at "ls"
   refine i_oQ (ix_pr1 b) ?_
   refine ⟨_, _, key_ints a.2, key_ints b.2, ?_⟩
   rw [lex_key]
   have e : decide (pLt a b) = decide (kLt a.2 b.2) := decide_eq_decide.mpr ⟨fun z => z.elim (fun y => absurd y c) (fun y => y.2), fun z => .inr ⟨d, z⟩⟩
   rw [e] at q
   exact q
  ·have d : ¬ a.1 = b.1 := fun z => d (he.mpr z)
   rw [decide_eq_false (show ¬ pLt a b from fun z => z.elim c fun y => d y.1)] at q
   exact q
theorem t_comes (ha : Sz 60 a.1) (hb : Sz 60 b.1) (q : Q (.val (.bool (decide (pLt a b))))) : m_comes_ahead [.val (dPr a), .val (dPr b)] Q := by
 refine i_fn ?_
 unfold b_comes_ahead
 walk_at "ls"
 refine i_oQ (ix_pr0 a) ?_
 walk_at "ls"
 refine i_oQ (ix_pr0 b) ?_
 walk_at "ls"
 refine iteN2 (fun c => ?_) (fun c => ?_)
 ·walk_at "ls"
  refine i_oQ (ix_pr0 a) ?_
  walk_at "ls"
  refine i_oQ (ix_pr0 b) ?_
  walk_at "ls"
  refine t_is_less (ha.mono (by decide)) (hb.mono (by decide)) ?_
  have e : decide (pLt a b) = decide (a.1 < b.1) := decide_eq_decide.mpr ⟨fun z => z.elim (fun y => y) (fun y => absurd y.1 c), fun z => .inl z⟩
  rw [e] at q
  exact q
 ·unfold b_comes_ahead_r1
  walk_at "ls"
  refine i_oQ (ix_pr1 a) ?_
  walk_at "ls"
  refine i_oQ (ix_pr1 b) ?_
  refine ⟨_, _, key_ints a.2, key_ints b.2, ?_⟩
  rw [lex_key]
  have e : decide (pLt a b) = decide (kLt a.2 b.2) := decide_eq_decide.mpr ⟨fun z => z.elim (fun y => by rw [c] at y; exact absurd y (by grind)) (fun y => y.2), fun z => .inr ⟨c, z⟩⟩
  rw [e] at q
  exact q
theorem t_place {xs : List Pr} {e : Pr} (h : Srt xs) (hz : ∀ x ∈ xs, Sz 60 x.1) (he : Sz 60 e.1) (q : Q (.val (.int (posP xs e : Int)))) : m_place_of [.val (.list (dPrs xs)), .val (dPr e)] Q := by
 refine i_fn ?_
 unfold b_place_of
 walk_at "ls"
 refine i_oQ (len_prs xs) ?_
 walk_at "ls"
 refine while_inv (fun m Γ => ∃ (lo : Nat) (hi : Nat) (x : Sl), Γ = [.val (.list (dPrs xs)), .val (dPr e), .val (.int (lo : Int)), .val (.int (hi : Int)), x] ∧ lo ≤ hi ∧ hi ≤ xs.length ∧ m = hi - lo ∧ (∀ j (h : j < xs.length), j < lo → pLt xs[j] e) ∧ (∀ j (h : j < xs.length), hi ≤ j → ¬ pLt xs[j] e)) xs.length ⟨0, xs.length, _, rfl, by omega, by omega, by omega, fun j _ h => absurd h (by omega), fun j h1 h2 => absurd h1 (by omega)⟩ ?_
 rintro m Γ ⟨lo, hi, x, rfl, h1, h2, rfl, h3, h4⟩
 walk_at "ls"
 refine iteD2 (fun c => ?_) (fun c => ?_)
 ·unfold b_place_of_l1
  walk_at "ls"
  refine ⟨⟨by decide, by decide⟩, ?_⟩
  walk_at "ls"
  have hm : ((lo : Int) + (hi : Int)) / 2 = (((lo + hi) / 2 : Nat) : Int) := by omega
  rw [hm]
  have hml : (lo + hi) / 2 < xs.length := by omega
  refine i_oQ (ix_prs hml) ?_
  walk_at "ls"
  refine t_comes (hz _ (List.getElem_mem _)) he ?_
  walk_at "ls"
  refine iteD2 (fun d => ?_) (fun d => ?_)
  ·walk_at "ls"
   refine ⟨hi - ((lo + hi) / 2 + 1), by omega, (lo + hi) / 2 + 1, hi, _, rfl, by omega, h2, rfl, fun j hj hjk => ?_, h4⟩
   by_cases ej : j = (lo + hi) / 2
   ·subst ej; exact d
   ·exact (h.lt hj hml (by omega)).trans d
  ·walk_at "ls"
   refine ⟨(lo + hi) / 2 - lo, by omega, lo, (lo + hi) / 2, _, rfl, by omega, by omega, rfl, h3, fun j hj hjk z => ?_⟩
   by_cases ej : j = (lo + hi) / 2
   ·subst ej; exact d z
   ·exact d ((h.lt hml hj (by omega)).trans z)
 ·have e1 : lo = hi := by omega
  subst e1
  unfold b_place_of_r1
  walk_at "ls"
  rw [posP_is h2 h3 h4] at q
  exact q
theorem cut_to {ds : List D} {k : Nat} (h : k ≤ ds.length) : L2.VS.cutD ds none (some (k : Int)) = ds.take k := by
 unfold L2.VS.cutD
 rw [HT.sIx_none, HT.sIx_nat, Nat.min_eq_left h, List.drop_zero, Nat.sub_zero]
theorem cut_from {ds : List D} {k : Nat} (h : k ≤ ds.length) : L2.VS.cutD ds (some (k : Int)) none = ds.drop k := by
 unfold L2.VS.cutD
 rw [HT.sIx_none, HT.sIx_nat, Nat.min_eq_left h, List.take_of_length_le (by rw [List.length_drop]; omega)]
end
theorem good_prs (xs : List Pr) : ∀ d ∈ dPrs xs, Good d := fun d hd => by
 obtain ⟨p, _, rfl⟩ := List.mem_map.mp hd
 exact (gd_pr p).good
theorem nl_prs : ∀ xs : List Pr, noLsts (dPrs xs) = true
 | [] => rfl
 | _ :: xs => nl_prs xs
theorem cut_ins {C w : Addr} {ds : List D} (h : noLsts ds = true) : ((insF C "kept").box w ds).Cut := fun g ⟨a, d, l, us, b, c, e⟩ => ⟨a, d, l, us, b, c, Dts.sameU g _ _ h e⟩
theorem Srt.nodup {xs : List Pr} (h : Srt xs) : xs.Nodup := List.Pairwise.imp (S := fun a b => a ≠ b) (fun {a b} (z : pLt a b) (e : a = b) => pLt.irrefl a (by rw [← e] at z; exact z)) h
theorem srt_ext {xs ys : List Pr} (h : Srt xs) (g : Srt ys) (e : ∀ x, x ∈ xs ↔ x ∈ ys) : xs = ys :=
 List.Perm.eq_of_pairwise (le := pLt) (fun a b _ _ z y => absurd (z.trans y) (pLt.irrefl a)) h g ((List.perm_ext_iff_of_nodup h.nodup g.nodup).mpr e)
theorem erase_perm {α : Type} : ∀ (xs : List α) (j : Nat) (h : j < xs.length), (xs[j] :: xs.eraseIdx j).Perm xs
 | _ :: _, 0, _ => List.Perm.refl _
 | x :: xs, j + 1, h => (List.Perm.swap x (xs[j]'(Nat.lt_of_succ_lt_succ h)) (xs.eraseIdx j)).trans ((erase_perm xs j (Nat.lt_of_succ_lt_succ h)).cons x)
theorem eqv_prs_nil (xs : List Pr) : PyData.eqv (.list (dPrs xs)) (.list []) = decide (xs = []) := by
 cases xs with
 | nil => rfl
 | cons x xs => exact (decide_eq_false (fun z => nomatch z)).symm
theorem eqF {A B : Prop} {d : D} (g : Good d) (b : B) : if (!PyData.eqv d d) = true then A else B := by rw [eqv_self g]; exact iteF b
theorem eqT {A B : Prop} {d : D} (g : Good d) (a : A) : if PyData.eqv d d = true then A else B := by rw [eqv_self g]; exact iteT a
section
variable {p : Addr} {n : Nat} {Q : Rv → Nat → Prop}
theorem t_time (hn : n < 900000) (q : ∀ (r : Rat) n', Sz 60 r → n' ≤ n + 20 → Q (.val (dNum r)) n') : m_law_time p n [] Q := by
 refine i_fnL ?_
 unfold b_law_time
 walk_at "ls"
 refine i_takeL (by decide) (by decide) (by omega) fun d d0 d1 => ?_
 walk_at "ls"
 refine iteD2 (fun c => ?_) (fun c => ?_)
 ·walk_at "ls"
  refine i_takeL (by decide) (by decide) (by omega) fun r r0 r1 => ?_
  walk_at "ls"
  have e : PyData.tuple [.int (r - 2), .int 1] = dNum ((r - 2 : Int) : Rat) := by
   unfold dNum
   rw [Rat.num_intCast, Rat.den_intCast]
   rfl
  rw [e]
  exact q _ _ (sz_int (bt60 (by omega) (by omega)) (by decide)) (by omega)
 ·unfold b_law_time_r2
  walk_at "ls"
  refine iteD2 (fun c => ?_) (fun c => ?_)
  ·walk_at "ls"
   refine i_takeL (by decide) (by decide) (by omega) fun r r0 r1 => ?_
   walk_at "ls"
   refine i_takeL (by decide) (by decide) (by omega) fun s s0 s1 => ?_
   walk_at "ls"
   have h1 : Bt 60 (r - 6) := bt60 (by omega) (by omega)
   have h2 : Bt 60 (1 + s) := bt60 (by omega) (by omega)
   refine t_lowestC (by omega) (h2.mono (by decide)) ?_
   walk_at "ls"
   exact q _ _ (Sz.divInt h1 h2 (by omega)) (by omega)
  ·unfold b_law_time_r1
   walk_at "ls"
   refine t_far (k := 3) (n := n + 1) (by decide) (by omega) fun r n' hr hn2 => ?_
   walk_at "ls"
   refine i_takeL (by decide) (by decide) (by omega) fun s s0 s1 => ?_
   walk_at "ls"
   have h2 : Bt 60 (1 + s) := bt60 (by omega) (by omega)
   refine t_lowestC (by omega) (h2.mono (by decide)) ?_
   walk_at "ls"
   exact q _ _ (Sz.divInt hr h2 (by omega)) (by omega)
theorem t_turned {xs : List Pr} (hx : xs.length ≤ 40) (hn : n < 900000) (q : ∀ ys n', ys.Perm xs → n' ≤ n + 40 → Q (.own (dPrs ys)) n') : m_law_turned p n [.val (.list (dPrs xs))] Q := by
 refine i_fnL ?_
 unfold b_law_turned
 walk_at "ls"
 refine while_inv (fun m Γ => ∃ (left found : List Pr) (n' : Nat), Γ = [.box (penF.box p n'), .val (.list (dPrs xs)), .own (dPrs left), .own (dPrs found)] ∧ (found ++ left).Perm xs ∧ m = left.length ∧ n' + left.length = n + xs.length) xs.length ⟨xs, [], n, rfl, List.Perm.refl _, rfl, rfl⟩ ?_
 rintro m Γ ⟨left, found, n', rfl, hp, rfl, hn'⟩
 have hlen := hp.length_eq
 rw [List.length_append] at hlen
 walk_at "ls"
 refine ⟨(gd_prs left).good, (gd_lst (n := 0) (ds := []) fun _ h => nomatch h).good, ?_⟩
 rw [eqv_prs_nil]
 walk_at "ls"
 refine iteN2 (fun c => ?_) (fun c => ?_)
 ·unfold b_law_turned_l1
  have h0 : 0 < left.length := List.length_pos_iff.mpr c
  walk_at "ls"
  refine i_popAt rfl ?_
  walk_at "ls"
  refine i_lenO rfl ?_
  rw [dPrs_len]
  walk_at "ls"
  refine i_takeL (by omega) (by omega) (by omega) fun d d0 d1 => ?_
  obtain ⟨j, rfl⟩ := Int.eq_ofNat_of_zero_le d0
  have hj : j < left.length := by omega
  walk_at "ls"
  refine i_ppK rfl (by omega) (show (dPrs left)[j]? = some (dPr left[j]) by unfold dPrs; rw [List.getElem?_map, List.getElem?_eq_getElem hj]; rfl) ?_
  rw [map_erase]
  refine i_appK rfl (by rw [dPrs_len]; omega) ?_
  refine ⟨left.length - 1, by omega, left.eraseIdx j, found ++ [left[j]], n' + 1, ?_, ?_, ?_, ?_⟩
  ·show _ = [_, _, _, Sl.own (dPrs (found ++ [left[j]]))]
   unfold dPrs
   rw [List.map_append]
   rfl
  ·rw [List.append_assoc]
   exact ((erase_perm left j hj).append_left found).trans hp
  ·rw [List.length_eraseIdx_of_lt hj]
  ·rw [List.length_eraseIdx_of_lt hj]; omega
 ·unfold b_law_turned_r1
  walk_at "ls"
  subst c
  rw [List.append_nil] at hp
  exact q _ _ hp (by simp only [List.length_nil] at hn'; omega)
end
structure WOk (xs : List Pr) : Prop where
 srt : Srt xs
 sz : ∀ x ∈ xs, Sz 60 x.1
 len : xs.length ≤ 50
theorem WOk.ins {xs : List Pr} {e : Pr} (h : WOk xs) (he : Sz 60 e.1) (hn : e ∉ xs) (hl : xs.length < 50) : WOk (insP xs e) := ⟨insP_srt h.srt hn, fun x hx => (mem_insP.mp hx).elim (fun z => by rw [z]; exact he) (h.sz x), by rw [insP_len]; omega⟩
theorem WOk.del {xs : List Pr} {e : Pr} (h : WOk xs) : WOk (delP xs e) := ⟨delP_srt h.srt e, fun x hx => h.sz x (mem_delP.mp hx).1, by have := delP_len xs e; have := h.len; omega⟩
section
variable {w : Addr} {xs : List Pr} {e : Pr} {Q : Rv → List D → Prop}
theorem t_put (h : WOk xs) (he : Sz 60 e.1) (hn : e ∉ xs) (q : Q (.val .none) (dPrs (insP xs e))) : lmPut plD w (dPrs xs) [.val (dNum e.1), .val (dKey e.2)] Q := by
 have hl := h.len
 refine ⟨_, _, posP xs e, rfl, (gd_pr e).good, good_prs xs, by rw [dPrs_len]; omega, by rw [dPrs_len]; exact posP_le xs e, t_place h.srt h.sz he rfl, ?_, ?_⟩
 ·exact (there_prs h.srt e).trans (decide_eq_false hn)
 ·rw [← ins_prs] at q
  exact q
theorem t_takeW (h : WOk xs) (he : Sz 60 e.1) (hn : e ∈ xs) (q : Q (.val .none) (dPrs (delP xs e))) : lmTake plD w (dPrs xs) [.val (dNum e.1), .val (dKey e.2)] Q := by
 have hl := h.len
 refine ⟨_, _, posP xs e, rfl, (gd_pr e).good, good_prs xs, by rw [dPrs_len]; omega, by rw [dPrs_len]; exact posP_le xs e, t_place h.srt h.sz he rfl, ?_, ?_⟩
 ·exact (there_prs h.srt e).trans (decide_eq_true hn)
 ·rw [← erase_prs h.srt hn] at q
  exact q
theorem t_there (h : WOk xs) (he : Sz 60 e.1) (hn : e ∈ xs) (q : Q (.val (.bool true)) (dPrs xs)) : m_law_there w (dPrs xs) [.val (dPr e)] Q := by
 have hl := h.len
 exact ⟨_, _, posP xs e, rfl, (gd_pr e).good, good_prs xs, by rw [dPrs_len]; omega, by rw [dPrs_len]; exact posP_le xs e, t_place h.srt h.sz he rfl, (there_prs h.srt e).trans (decide_eq_true hn), q⟩
end
theorem t_shape : m_shape_from [.val (.list []), .val (.int 0)] fun rv => rv = .val .none := by
 show m_shape_from_1 _ _
 refine i_fn ?_
 unfold b_shape_from
 walk_at "ls"
 rfl
theorem take_mem {xs : List Pr} {i : Nat} (hi : i < xs.length) {x : Pr} : x ∈ xs.take (i + 1) ↔ x = xs[i] ∨ x ∈ xs.take i := by
 rw [List.take_succ_eq_append_getElem hi, List.mem_append, List.mem_singleton]
 exact Or.comm
theorem not_take {xs : List Pr} (nd : xs.Nodup) {i : Nat} (hi : i < xs.length) : xs[i] ∉ xs.take i := fun h => by
 obtain ⟨j, hj, e⟩ := List.getElem_of_mem h
 rw [List.length_take] at hj
 rw [List.getElem_take] at e
 have := (List.getElem_inj (h₀ := by omega) (h₁ := hi) nd).mp e
 omega
structure Holds (xs s : List Pr) : Prop where
 ok : WOk s
 mem : ∀ x, x ∈ s ↔ x ∈ xs
theorem prs_at {xs : List Pr} {i : Nat} {d : D} (h : (dPrs xs)[i]? = some d) : ∃ hi : i < xs.length, d = dPr xs[i] := by
 obtain ⟨p, e, rfl⟩ := dPrs_get h
 obtain ⟨hi, e⟩ := List.getElem?_eq_some_iff.mp e
 exact ⟨hi, by rw [e]⟩
theorem Holds.len {xs s : List Pr} (nd : xs.Nodup) (h : Holds xs s) : s.length = xs.length := ((List.perm_ext_iff_of_nodup h.ok.srt.nodup nd).mpr h.mem).length_eq
theorem nodup_take {xs : List Pr} (nd : xs.Nodup) (i : Nat) : (xs.take i).Nodup := nd.sublist (List.take_sublist _ _)
theorem t_filled {c p : Addr} {n : Nat} {Q : Rv → Nat → Prop} {xs : List Pr} (nd : xs.Nodup) (hz : ∀ x ∈ xs, Sz 60 x.1) (hk : ∀ x ∈ xs, x.2.1 ≤ 1) (hx : xs.length ≤ 40) (hn : n < 800000)
  (q : ∀ s L w0 w1 n', Holds xs s → Q (.box (bW2 (insF c "kept") L w0 w1 (dPrs s) (dPrs s))) n') : m_law_filled c p n [.val (.list (dPrs xs))] Q := by
 refine i_fnL ?_
 unfold b_law_filled
 walk_at "ls"
 refine i_newW fun w0 => ?_
 walk_at "ls"
 refine i_newW fun w1 => ?_
 walk_at "ls"
 refine for_inv (fun i Γ => ∃ s x, Γ = [.box (penF.box p n), .val (.list (dPrs xs)), .box ((insF c "kept").box w0 (dPrs s)), .box ((insF c "kept").box w1 []), x, .no] ∧ Holds (xs.take i) s) ⟨[], _, rfl, ⟨.nil, fun _ h => (nomatch h), by decide⟩, fun x => by rw [List.take_zero]⟩ ?_ ?_
 ·rintro i d Γ K hd ⟨s, x, rfl, hs⟩ hK
  obtain ⟨hi, rfl⟩ := prs_at hd
  have hl := hs.len (nodup_take nd i)
  rw [List.length_take] at hl
  have hmem := List.getElem_mem hi
  walk_at "ls"
  unfold b_law_filled_c_l2
  walk_at "ls"
  refine i_oQ (ix_pr0 _) ?_
  walk_at "ls"
  refine i_oQ (ix_pr1 _) ?_
  walk_at "ls"
  have ne : xs[i] ∉ s := fun z => not_take nd hi ((hs.mem _).mp z)
  refine t_put hs.ok (hz _ hmem) ne ?_
  walk_at "ls"
  exact hK.nx _ ⟨_, _, rfl, hs.ok.ins (hz _ hmem) ne (by omega), fun x => by rw [mem_insP, take_mem hi, hs.mem]⟩
 ·rintro Γ ⟨s, x, rfl, hs⟩
  rw [dPrs_len, List.take_length] at hs
  unfold b_law_filled_c_r2
  walk_at "ls"
  refine t_turned hx (by omega) fun ys n1 hp hn1 => ?_
  walk_at "ls"
  have ndy : ys.Nodup := hp.nodup_iff.mpr nd
  have hly := hp.length_eq
  refine for_inv (fun i Γ => ∃ s' x y n', Γ = [.box (penF.box p n'), .val (.list (dPrs xs)), .box ((insF c "kept").box w0 (dPrs s)), .box ((insF c "kept").box w1 (dPrs s')), x, y] ∧ Holds (ys.take i) s' ∧ n' ≤ n1 + 21 * i) ⟨[], _, _, _, rfl, ⟨⟨.nil, fun _ h => (nomatch h), by decide⟩, fun x => by rw [List.take_zero]⟩, by omega⟩ ?_ ?_
  ·rintro i d Γ K hd ⟨s', x, y, n', rfl, hs', hn'⟩ hK
   obtain ⟨hi, rfl⟩ := prs_at hd
   have hl := hs'.len (nodup_take ndy i)
   rw [List.length_take] at hl
   have hmem : ys[i] ∈ xs := hp.mem_iff.mp (List.getElem_mem hi)
   walk_at "ls"
   unfold b_law_filled_c_l1
   walk_at "ls"
   refine t_time (by omega) fun r n2 hr hn2 => ?_
   walk_at "ls"
   refine i_takeL (by decide) (by decide) (by omega) fun k k0 k1 => ?_
   walk_at "ls"
   have es : PyData.tuple [dNum r, .tuple [.int 7, .int k]] = dPr (r, (7, k)) := rfl
   rw [es]
   refine i_oQ (ix_pr0 _) ?_
   walk_at "ls"
   refine i_oQ (ix_pr1 _) ?_
   walk_at "ls"
   have n7 : ∀ z ∈ xs, z ≠ (r, (7, k)) := fun z hz' e => by have := hk z hz'; rw [e] at this; exact absurd this (by show ¬ (7 : Int) ≤ 1; decide)
   have sx : ∀ z ∈ s', z ∈ xs := fun z h => hp.mem_iff.mp (List.mem_of_mem_take ((hs'.mem z).mp h))
   have m1 : ((r, (7, k)) : Pr) ∉ s' := fun h => n7 _ (sx _ h) rfl
   refine t_put hs'.ok hr m1 ?_
   walk_at "ls"
   have o1 := hs'.ok.ins hr m1 (by omega)
   have ne : ys[i] ∉ s' := fun z => not_take ndy hi ((hs'.mem _).mp z)
   have m2 : ys[i] ∉ insP s' (r, (7, k)) := fun h => (mem_insP.mp h).elim (n7 _ hmem) ne
   refine i_oQ (ix_pr0 _) ?_
   walk_at "ls"
   refine i_oQ (ix_pr1 _) ?_
   walk_at "ls"
   refine t_put o1 (hz _ hmem) m2 ?_
   walk_at "ls"
   have o2 := o1.ins (hz _ hmem) m2 (by rw [insP_len]; omega)
   refine i_oQ (ix_pr0 _) ?_
   walk_at "ls"
   refine i_oQ (ix_pr1 _) ?_
   walk_at "ls"
   refine t_takeW o2 hr (mem_insP.mpr (.inr (mem_insP.mpr (.inl rfl)))) ?_
   walk_at "ls"
   refine hK.nx _ ⟨_, _, _, _, rfl, ⟨o2.del, fun z => ?_⟩, by omega⟩
   rw [mem_delP, mem_insP, mem_insP, take_mem hi, hs'.mem]
   constructor
   ·rintro ⟨h1 | h1 | h1, h2⟩
    ·exact .inl h1
    ·exact absurd h1 h2
    ·exact .inr h1
   ·rintro (h1 | h1)
    ·exact ⟨.inl h1, by rw [h1]; exact n7 _ hmem⟩
    ·exact ⟨.inr (.inr h1), n7 _ (hp.mem_iff.mp (List.mem_of_mem_take h1))⟩
  ·rintro Γ ⟨s', x, y, n', rfl, hs', hn'⟩
   rw [dPrs_len, List.take_length] at hs'
   have e : s' = s := srt_ext hs'.ok.srt hs.ok.srt fun z => by rw [hs'.mem, hs.mem, hp.mem_iff]
   subst e
   unfold b_law_filled_c_r1
   walk_at "ls"
   refine i_list2 rfl rfl (by decide) fun L => ?_
   walk_at "ls"
   exact q _ _ _ _ _ hs
theorem head_prs {x : Pr} {xs : List Pr} : (dPrs (x :: xs)).headD .none = dPr x := rfl
theorem pop_at {s : List Pr} (hs : s ≠ []) {t : Nat} {b : Bool} : ∃ (m : Int) (k : Nat) (hk : k < s.length), ixD (.list [.int 0, .int (-1)]) (.int ((t : Int) % 2 * (if b = true then 1 else 0))) = some (.int m) ∧ ixN s.length m = some k := by
 have h0 : 0 < s.length := List.length_pos_iff.mpr hs
 have z : ((t : Int) % 2 * (if b = true then 1 else 0)) = 0 ∨ ((t : Int) % 2 * (if b = true then 1 else 0)) = 1 := by
  cases b
  ·left; simp
  ·rw [if_pos rfl]; omega
 rcases z with z | z
 ·rw [z]
  exact ⟨0, 0, h0, rfl, ixN_nat h0⟩
 ·rw [z]
  refine ⟨-1, s.length - 1, by omega, rfl, ?_⟩
  unfold ixN
  rw [if_neg (by decide), if_pos (by omega)]
  congr 1
  omega
theorem t_emptied {c w : Addr} {s : List Pr} {b : Bool} {Q : Rv → List D → Prop} (hs : WOk s) (q : Q (.val (.bool true)) []) : m_law_emptied c w (dPrs s) [.val (.list (dPrs s)), .val (.bool b)] Q := by
 have hl := hs.len
 refine i_fnL ?_
 unfold b_law_emptied
 walk_at "ms"
 refine i_oQ (len_prs s) ?_
 walk_at "ms"
 refine ⟨by omega, by omega, ?_⟩
 rw [Int.toNat_natCast]
 refine range_inv (fun i Γ => ∃ left x y, Γ = [.box ((insF c "kept").box w (dPrs left)), .val (.list (dPrs s)), .val (.bool b), .own (dPrs left), x, y] ∧ WOk left ∧ left.length + i = s.length) ⟨s, _, _, rfl, hs, rfl⟩ ?_ ?_
 ·rintro i Γ K hi ⟨left, x, y, rfl, ho, hlen⟩ hK
  have hne : left ≠ [] := fun z => by rw [z] at hlen; simp only [List.length_nil] at hlen; omega
  have h0 : 0 < left.length := List.length_pos_iff.mpr hne
  have hll := ho.len
  have gx := gd_prs left
  walk_at "ms"
  unfold b_law_emptied_c_l1
  walk_at "ms"
  refine i_firstW rfl (.inl rfl) ⟨gx.good, ?_⟩
  walk_at "ms"
  refine i_oQ (ix_prs h0) ?_
  have eh : (dPrs left).headD .none = dPr left[0] := by
   cases left with
   | nil => exact absurd rfl hne
   | cons x xs => rfl
  rw [eh]
  refine ⟨(gd_pr _).good, (gd_pr _).good, eqF (gd_pr _).good ?_⟩
  walk_at "ms"
  refine i_pairsW rfl (.inl rfl) ⟨by rw [dPrs_len]; omega, ?_⟩
  walk_at "ms"
  refine ⟨gx.good, gx.good, eqF gx.good ?_⟩
  walk_at "ms"
  refine i_oQ (len_prs left) ?_
  walk_at "ms"
  refine ⟨by omega, ?_⟩
  have em : ((0 : Int) + i) % left.length = ((i % left.length : Nat) : Int) := by rw [Int.zero_add]; rfl
  rw [em]
  have hm := Nat.mod_lt i h0
  refine i_oQ (ix_prs hm) ?_
  walk_at "ms"
  refine t_there ho (ho.sz _ (List.getElem_mem hm)) (List.getElem_mem hm) ?_
  walk_at "ls"
  refine i_pkKT (by with_unfolding_all rfl) (by with_unfolding_all rfl) (by with_unfolding_all exact kept_t (cut_ins (nl_prs _)) kept_n) ?_
  walk_at "ms"
  unfold b_law_emptied_c_r2
  walk_at "ms"
  refine i_popI rfl ?_
  walk_at "ms"
  refine ⟨by decide, ?_⟩
  walk_at "ms"
  rw [Int.zero_add]
  refine ⟨?_, ?_⟩
  ·exact mulB (bt60 (by omega) (by omega)) (bt60 (by split <;> decide) (by split <;> decide))
  obtain ⟨m, k, hk, e1, e2⟩ := pop_at hne (t := i) (b := b)
  refine i_oQ e1 ?_
  refine i_piK rfl (by rw [dPrs_len]; omega) (by rw [dPrs_len]; exact e2) (show (dPrs left)[k]? = some (dPr left[k]) by unfold dPrs; rw [List.getElem?_map, List.getElem?_eq_getElem hk]; rfl) ?_
  have hd : (delP left left[k]).length = left.length - 1 := by rw [← erase_delP ho.srt hk, List.length_eraseIdx_of_lt hk]
  rw [map_erase, erase_delP ho.srt hk]
  have hmem := List.getElem_mem hk
  walk_at "ms"
  refine i_oQ (ix_pr0 _) ?_
  walk_at "ms"
  refine i_oQ (ix_pr1 _) ?_
  walk_at "ms"
  refine t_takeW ho (ho.sz _ hmem) hmem ?_
  walk_at "ms"
  exact hK.nx _ ⟨delP left left[k], _, _, rfl, ho.del, by omega⟩
 ·rintro Γ ⟨left, x, y, rfl, ho, hlen⟩
  obtain rfl : left = [] := List.eq_nil_of_length_eq_zero (by omega)
  unfold b_law_emptied_c_r1
  walk_at "ms"
  refine i_pairsW rfl (.inl rfl) ⟨by decide, ?_⟩
  walk_at "ms"
  refine ⟨(gd_prs []).good, (gd_prs []).good, eqT (gd_prs []).good ?_⟩
  walk_at "ms"
  refine i_firstW rfl (.inl rfl) ⟨(gd_prs []).good, ?_⟩
  have e0 : (dPrs ([] : List Pr)).headD PyData.none = .none := rfl
  rw [e0]
  walk_at "ms"
  refine ⟨rfl, rfl, t_shape, ?_⟩
  walk_at "ms"
  refine i_manyW rfl (.inl rfl) ?_
  walk_at "ms"
  exact q
structure SomeOk (xs : List Pr) : Prop where
 nd : xs.Nodup
 sz : ∀ x ∈ xs, Sz 60 x.1
 key : ∀ x ∈ xs, x.2.1 ≤ 1
theorem least_first {xs s : List Pr} {l : Pr} (h : Holds xs s) (hl : l ∈ xs) (hm : ∀ x ∈ xs, ¬ pLt x l) : (dPrs s).headD .none = dPr l := by
 have ls : l ∈ s := (h.mem l).mpr hl
 cases s with
 | nil => cases ls
 | cons x s =>
  show dPr x = dPr l
  rcases List.mem_cons.mp ls with e | e
  ·rw [e]
  ·exact absurd ((List.pairwise_cons.mp h.ok.srt).1 l e) (hm x ((h.mem x).mp List.mem_cons_self))
noncomputable def toK (p : Pr) : NK2 := ((p.1.num, (p.1.den : Int)), p.2)
theorem toK_inj {a b : Pr} (h : toK a = toK b) : a = b := by
 obtain ⟨a, k⟩ := a
 obtain ⟨b, l⟩ := b
 simp only [toK, Prod.mk.injEq] at h
 obtain ⟨⟨h1, h2⟩, h3⟩ := h
 rw [h3, Rat.ext h1 (by omega)]
theorem prs_nps (xs : List Pr) : dPrs xs = npsD (xs.map toK) := by
 unfold dPrs npsD
 rw [List.map_map]
 rfl
theorem nodup_toK {xs : List Pr} (h : xs.Nodup) : (xs.map toK).Nodup := List.pairwise_map.mpr (List.Pairwise.imp (fun {a b} (z : a ≠ b) e => z (toK_inj e)) h)
theorem srt_same {xs s : List Pr} (nd : xs.Nodup) (h : Holds xs s) : srtN (s.map toK) = srtN (xs.map toK) :=
 srtN_of ((srtN_perm _).trans (((List.perm_ext_iff_of_nodup h.ok.srt.nodup nd).mpr h.mem).map toK).symm) (srtN_up (nodup_toK nd))
theorem gd_nps (ks : List NK2) : Gd 3 (.list (npsD ks)) := gd_lst (n := 2) fun d h => by
 obtain ⟨p, _, rfl⟩ := List.mem_map.mp h
 exact gd_2 (gd_2 (gd_int _) (gd_int _)) (gd_2 (gd_int _) (gd_int _))
theorem cut1 {s : List Pr} (h : 0 < s.length) : L2.VS.cutD (dPrs s) none (some 1) = dPrs [s[0]] := by
 have := cut_to (ds := dPrs s) (k := 1) (by rw [dPrs_len]; exact h)
 rw [show (some (1 : Int)) = some ((1 : Nat) : Int) from rfl, this]
 cases s with
 | nil => cases h
 | cons x xs => rfl
theorem law_true (c pen : Addr) : b_law_c c (.no :: .box (penF.box pen 1) :: List.replicate 6 .no) TrueEnd := by
 unfold b_law_c
 walk_at "ls"
 refine i_takeL (by decide) (by decide) (by omega) fun d d0 d1 => ?_
 walk_at "ls"
 refine ⟨by omega, by omega, ?_⟩
 refine range_inv (fun i Γ => ∃ xs x3 x4 n', Γ = [.no, .box (penF.box pen n'), .own (dPrs xs), x3, x4, .no, .no, .no] ∧ SomeOk xs ∧ xs.length ≤ i ∧ (0 < i → xs ≠ []) ∧ n' ≤ 2 + 22 * i) ⟨[], _, _, _, rfl, ⟨.nil, fun _ h => (nomatch h), fun _ h => (nomatch h)⟩, Nat.le_refl _, fun h => absurd h (by decide), by omega⟩ ?_ ?_
 ·rintro i Γ K hi ⟨xs, x3, x4, n', rfl, ho, hlen, hne, hn'⟩ hK
  walk_at "ls"
  unfold b_law_c_l3
  walk_at "ls"
  refine t_time (by omega) fun r n2 hr hn2 => ?_
  walk_at "ls"
  refine i_takeL (by decide) (by decide) (by omega) fun k k0 k1 => ?_
  walk_at "ls"
  refine i_takeL (by decide) (by decide) (by omega) fun l l0 l1 => ?_
  walk_at "ls"
  have es : PyData.tuple [dNum r, .tuple [.int (k - 1), .int l]] = dPr (r, (k - 1, l)) := rfl
  rw [es]
  refine ⟨(gd_pr _).good, gd_goods (n := 2) (fun d hd => by
   obtain ⟨p, _, rfl⟩ := List.mem_map.mp hd
   exact gd_pr p), ?_⟩
  rw [any_prs]
  walk_at "ls"
  rw [if_pos (rfl : true = true)]
  refine iteN2 (fun hm => ?_) (fun hm => ?_)
  ·walk_at "ls"
   refine i_appK rfl (by rw [dPrs_len]; omega) ?_
   refine hK.nx _ ⟨xs ++ [(r, (k - 1, l))], _, _, _, by unfold dPrs; rw [List.map_append]; rfl, ⟨?_, fun x hx => ?_, fun x hx => ?_⟩, by rw [List.length_append, List.length_singleton]; omega, (fun _ z => by simp at z), by omega⟩
   ·exact List.nodup_append.mpr ⟨ho.nd, by simp, fun a ha b hb e => hm (by rw [← List.mem_singleton.mp hb, ← e]; exact ha)⟩
   ·rcases List.mem_append.mp hx with hx | hx
    ·exact ho.sz x hx
    ·rw [List.mem_singleton.mp hx]; exact hr
   ·rcases List.mem_append.mp hx with hx | hx
    ·exact ho.key x hx
    ·rw [List.mem_singleton.mp hx]; show k - 1 ≤ 1; omega
  ·walk_at "ls"
   exact hK.nx _ ⟨xs, _, _, _, rfl, ho, by omega, (fun _ z => by rw [z] at hm; cases hm), by omega⟩
 ·rintro Γ ⟨xs, x3, x4, n', rfl, ho, hlen, hne, hn'⟩
  have hx : xs ≠ [] := hne (by omega)
  have hl40 : xs.length ≤ 40 := by omega
  have gx := gd_prs xs
  unfold b_law_c_r8
  walk_at "ls"
  refine t_filled ho.nd ho.sz ho.key hl40 (by omega) fun s L w0 w1 n2 hs => ?_
  walk_at "ls"
  have h0 : 0 < xs.length := List.length_pos_iff.mpr hx
  refine i_oQ (ix_prs h0) ?_
  walk_at "ls"
  refine for_inv (fun i Γ => ∃ l x4, Γ = [.no, .box (penF.box pen n2), .val (.list (dPrs xs)), x3, x4, .box (bW2 (insF c "kept") L w0 w1 (dPrs s) (dPrs s)), .val (dPr l), .no] ∧ l ∈ xs ∧ ∀ x ∈ xs.take i, ¬ pLt x l) ⟨xs[0], _, rfl, List.getElem_mem h0, fun x hx => by rw [List.take_zero] at hx; cases hx⟩ ?_ ?_
  ·rintro i d Γ K hd ⟨l, x4, rfl, hl, hmin⟩ hK
   obtain ⟨hi, rfl⟩ := prs_at hd
   have hmem := List.getElem_mem hi
   walk_at "ls"
   unfold b_law_c_l2
   walk_at "ls"
   refine t_before (ho.sz _ hmem) (ho.sz _ hl) ?_
   walk_at "ls"
   refine iteD2 (fun z => ?_) (fun z => ?_)
   ·walk_at "ls"
    refine hK.nx _ ⟨_, _, rfl, hmem, fun x hx => ?_⟩
    rcases (take_mem hi).mp hx with e | e
    ·rw [e]; exact pLt.irrefl _
    ·exact fun y => hmin x e (y.trans z)
   ·walk_at "ls"
    refine hK.nx _ ⟨_, _, rfl, hl, fun x hx => ?_⟩
    rcases (take_mem hi).mp hx with e | e
    ·rw [e]; exact z
    ·exact hmin x e
  ·rintro Γ ⟨l, x4, rfl, hl, hmin⟩
   rw [dPrs_len, List.take_length] at hmin
   have ef := least_first hs hl hmin
   have gs := gd_prs s
   have hls := hs.ok.len
   have hl40s := hs.len ho.nd
   unfold b_law_c_r7
   walk_at "ls"
   refine i_w2J rfl (.inl rfl) ?_
   walk_at "ls"
   refine i_w2K0 rfl rfl ⟨rfl, gs.good, ?_⟩
   rw [ef]
   walk_at "ls"
   refine ⟨(gd_pr _).good, (gd_pr _).good, eqF (gd_pr _).good ?_⟩
   walk_at "ls"
   refine i_w2J rfl (.inr rfl) ?_
   walk_at "ls"
   refine i_w2K1 rfl rfl ⟨rfl, gs.good, ?_⟩
   rw [ef]
   walk_at "ls"
   refine ⟨(gd_pr _).good, (gd_pr _).good, eqF (gd_pr _).good ?_⟩
   walk_at "ls"
   unfold b_law_c_r6
   walk_at "ls"
   refine i_w2J rfl (.inl rfl) ?_
   walk_at "ls"
   refine i_w2K0 rfl rfl ⟨rfl, by rw [dPrs_len]; omega, ?_⟩
   walk_at "ls"
   refine i_sortM ?_
   walk_at "ls"
   refine ⟨s.map toK, by rw [prs_nps], by rw [List.length_map]; omega, nodup_toK hs.ok.srt.nodup, ?_⟩
   rw [srt_same ho.nd hs]
   walk_at "ls"
   refine i_sortM ?_
   walk_at "ls"
   refine ⟨xs.map toK, by rw [prs_nps], by rw [List.length_map]; omega, nodup_toK ho.nd, ?_⟩
   walk_at "ls"
   refine ⟨(gd_nps _).good, (gd_nps _).good, eqF (gd_nps _).good ?_⟩
   walk_at "ls"
   unfold b_law_c_r5
   walk_at "ls"
   refine i_oQ (len_prs s) ?_
   walk_at "ls"
   refine ⟨⟨by decide, by decide, by omega, by omega⟩, ?_⟩
   have hs0 : 0 < s.length := by omega
   refine range_inv (fun i Γ => ∃ x3, Γ = [.no, .box (penF.box pen n2), .val (.list (dPrs xs)), x3, x4, .box (bW2 (insF c "kept") L w0 w1 (dPrs s) (dPrs s)), .val (dPr l), .val (.list (dPrs s))]) ⟨_, rfl⟩ ?_ ?_
   ·rintro i Γ K hi ⟨x3, rfl⟩ hK
    have hi1 : i + 1 < s.length := by omega
    walk_at "ls"
    unfold b_law_c_l1
    walk_at "ls"
    rw [show (1 : Int) + (i : Int) - 1 = ((i : Nat) : Int) by omega]
    refine i_oQ (ix_prs (by omega : i < s.length)) ?_
    walk_at "ls"
    rw [show (1 : Int) + (i : Int) = ((i + 1 : Nat) : Int) by omega]
    refine i_oQ (ix_prs hi1) ?_
    walk_at "ls"
    refine t_before (hs.ok.sz _ (List.getElem_mem _)) (hs.ok.sz _ (List.getElem_mem _)) ?_
    rw [decide_eq_true (hs.ok.srt.lt (by omega : i < s.length) hi1 (by omega))]
    walk_at "ls"
    exact hK.nx _ ⟨_, rfl⟩
   ·rintro Γ ⟨x3, rfl⟩
    unfold b_law_c_r4
    walk_at "ls"
    refine i_w2J rfl (.inr rfl) ?_
    walk_at "ls"
    refine i_w2K1 rfl rfl ⟨rfl, by rw [dPrs_len]; omega, ?_⟩
    walk_at "ls"
    refine ⟨gs.good, gs.good, eqF gs.good ?_⟩
    walk_at "ls"
    refine i_w2J rfl (.inr rfl) ?_
    walk_at "ls"
    refine i_w2K1 rfl rfl ⟨rfl, ?_⟩
    rw [dPrs_len]
    walk_at "ls"
    refine i_oQ (len_prs s) ?_
    walk_at "ls"
    refine iteN2 (fun h => absurd rfl h) (fun _ => ?_)
    walk_at "ls"
    refine i_w2J rfl (.inr rfl) ?_
    walk_at "ls"
    refine i_w2K1 rfl rfl ⟨rfl, gs.good, ?_⟩
    walk_at "ls"
    refine i_w2J rfl (.inl rfl) ?_
    walk_at "ls"
    refine i_w2K0 rfl rfl ⟨rfl, gs.good, ?_⟩
    rw [ef]
    walk_at "ls"
    refine ⟨(gd_pr _).good, (gd_pr _).good, eqF (gd_pr _).good ?_⟩
    walk_at "ls"
    unfold b_law_c_r3
    walk_at "ls"
    refine i_w2J rfl (.inl rfl) ?_
    walk_at "ls"
    refine i_w2K0 rfl rfl ?_
    refine t_emptied hs.ok ?_
    walk_at "ls"
    refine i_w2J rfl (.inr rfl) ?_
    walk_at "ls"
    refine i_w2K1 rfl rfl ?_
    refine t_emptied hs.ok ?_
    walk_at "ls"
    unfold b_law_c_r2
    walk_at "ls"
    refine i_w2J rfl (.inl rfl) ?_
    walk_at "ls"
    refine i_oQ (ix_prs hs0) ?_
    walk_at "ls"
    refine i_oQ (ix_pr0 _) ?_
    walk_at "ls"
    refine i_oQ (ix_prs hs0) ?_
    walk_at "ls"
    refine i_oQ (ix_pr1 _) ?_
    walk_at "ls"
    have wk0 : WOk [] := ⟨.nil, fun _ h => (nomatch h), by decide⟩
    have hz0 := hs.ok.sz _ (List.getElem_mem hs0)
    have e1 : insP [] s[0] = [s[0]] := rfl
    have wk1 : WOk [s[0]] := ⟨List.pairwise_singleton _ _, fun x h => by rw [List.mem_singleton.mp h]; exact hz0, by show 1 ≤ 50; decide⟩
    refine i_w2K0 rfl rfl (t_put (xs := []) wk0 hz0 (fun h => nomatch h) ?_)
    rw [e1]
    walk_at "ls"
    refine i_w2J rfl (.inl rfl) ?_
    walk_at "ls"
    refine i_oQ (ix_prs hs0) ?_
    walk_at "ls"
    refine i_w2K0 rfl rfl (t_there wk1 hz0 (List.mem_singleton.mpr rfl) ?_)
    walk_at "ls"
    unfold b_law_c_r1
    walk_at "ls"
    refine i_w2J rfl (.inl rfl) ?_
    walk_at "ls"
    refine i_w2K0 rfl rfl ⟨rfl, by rw [dPrs_len]; show 1 ≤ 1000; decide, ?_⟩
    walk_at "ls"
    rw [cut1 hs0]
    refine ⟨(gd_prs _).good, (gd_prs _).good, eqT (gd_prs _).good ?_⟩
    walk_at "ls"
    refine i_w2J rfl (.inr rfl) ?_
    walk_at "ls"
    refine i_w2K1 rfl rfl ⟨rfl, ?_⟩
    walk_at "ls"
    rfl
theorem ln1 {α : Type} {us : List α} (h : us.length = 1) : ∃ x0, us = [x0] := by
 match us, h with
 | [_], _ => exact ⟨_, rfl⟩
theorem ln2 {α : Type} {us : List α} (h : us.length = 2) : ∃ x0 x1, us = [x0, x1] := by
 match us, h with
 | [_, _], _ => exact ⟨_, _, rfl⟩
theorem ln3 {α : Type} {us : List α} (h : us.length = 3) : ∃ x0 x1 x2, us = [x0, x1, x2] := by
 match us, h with
 | [_, _, _], _ => exact ⟨_, _, _, rfl⟩
theorem bl_mk {K : PySem.W.Frag} {h : Heap} {mg : Str → Option Value} (X : K.In h) (G : h.Ns mainGlobals mg)
  (z_len : PySem.W.nsIn K mainGlobals "len" = some none)
  (z_abs : PySem.W.nsIn K mainGlobals "abs" = some none)
  (z_range : PySem.W.nsIn K mainGlobals "range" = some none)
  (z_isinstance : PySem.W.nsIn K mainGlobals "isinstance" = some none)
  (z_int : PySem.W.nsIn K mainGlobals "int" = some none)
  (z_bool : PySem.W.nsIn K mainGlobals "bool" = some none)
  (z_tuple : PySem.W.nsIn K mainGlobals "tuple" = some none)
  (z_max : PySem.W.nsIn K mainGlobals "max" = some none)
  (z_min : PySem.W.nsIn K mainGlobals "min" = some none)
  (z_list : PySem.W.nsIn K mainGlobals "list" = some none)
  (z_all : PySem.W.nsIn K mainGlobals "all" = some none)
  (z_any : PySem.W.nsIn K mainGlobals "any" = some none)
  (z_sorted : PySem.W.nsIn K mainGlobals "sorted" = some none)
  (z_zip : PySem.W.nsIn K mainGlobals "zip" = some none)
  (z_set : PySem.W.nsIn K mainGlobals "set" = some none)
  (z_sum : PySem.W.nsIn K mainGlobals "sum" = some none)
  (z_str : PySem.W.nsIn K mainGlobals "str" = some none)
  (z_enumerate : PySem.W.nsIn K mainGlobals "enumerate" = some none)
  (kt_int_bool : PySem.W.kitOne K (.type "int") (.type "bool") = some false)    (kt_bool_int : PySem.W.kitOne K (.type "bool") (.type "int") = some true) : Bl K mg := ⟨PySem.W.mg_none_of X G z_len, PySem.W.mg_none_of X G z_abs, PySem.W.mg_none_of X G z_range, PySem.W.mg_none_of X G z_isinstance, PySem.W.mg_none_of X G z_int, PySem.W.mg_none_of X G z_bool, PySem.W.mg_none_of X G z_tuple, PySem.W.mg_none_of X G z_max, PySem.W.mg_none_of X G z_min, PySem.W.mg_none_of X G z_list, PySem.W.mg_none_of X G z_all, PySem.W.mg_none_of X G z_any, PySem.W.mg_none_of X G z_sorted, PySem.W.mg_none_of X G z_zip, PySem.W.mg_none_of X G z_set, PySem.W.mg_none_of X G z_sum, PySem.W.mg_none_of X G z_str, PySem.W.mg_none_of X G z_enumerate, kt_int_bool, kt_bool_int⟩
theorem kit_mk {K : PySem.W.Frag}
  (kt_NoneType_bool : PySem.W.kitOne K (.type "NoneType") (.type "bool") = some false)
  (kt_NoneType_int : PySem.W.kitOne K (.type "NoneType") (.type "int") = some false)
  (kt_NoneType_str : PySem.W.kitOne K (.type "NoneType") (.type "str") = some false)
  (kt_NoneType_list : PySem.W.kitOne K (.type "NoneType") (.type "list") = some false)
  (kt_NoneType_tuple : PySem.W.kitOne K (.type "NoneType") (.type "tuple") = some false)
  (kt_NoneType_dict : PySem.W.kitOne K (.type "NoneType") (.type "dict") = some false)
  (kt_bool_NoneType : PySem.W.kitOne K (.type "bool") (.type "NoneType") = some false)
  (kt_bool_int : PySem.W.kitOne K (.type "bool") (.type "int") = some true)
  (kt_bool_str : PySem.W.kitOne K (.type "bool") (.type "str") = some false)
  (kt_bool_list : PySem.W.kitOne K (.type "bool") (.type "list") = some false)
  (kt_bool_tuple : PySem.W.kitOne K (.type "bool") (.type "tuple") = some false)
  (kt_bool_dict : PySem.W.kitOne K (.type "bool") (.type "dict") = some false)
  (kt_int_NoneType : PySem.W.kitOne K (.type "int") (.type "NoneType") = some false)
  (kt_int_bool : PySem.W.kitOne K (.type "int") (.type "bool") = some false)
  (kt_int_str : PySem.W.kitOne K (.type "int") (.type "str") = some false)
  (kt_int_list : PySem.W.kitOne K (.type "int") (.type "list") = some false)
  (kt_int_tuple : PySem.W.kitOne K (.type "int") (.type "tuple") = some false)
  (kt_int_dict : PySem.W.kitOne K (.type "int") (.type "dict") = some false)
  (kt_str_NoneType : PySem.W.kitOne K (.type "str") (.type "NoneType") = some false)
  (kt_str_bool : PySem.W.kitOne K (.type "str") (.type "bool") = some false)
  (kt_str_int : PySem.W.kitOne K (.type "str") (.type "int") = some false)
  (kt_str_list : PySem.W.kitOne K (.type "str") (.type "list") = some false)
  (kt_str_tuple : PySem.W.kitOne K (.type "str") (.type "tuple") = some false)
  (kt_str_dict : PySem.W.kitOne K (.type "str") (.type "dict") = some false)
  (kt_list_NoneType : PySem.W.kitOne K (.type "list") (.type "NoneType") = some false)
  (kt_list_bool : PySem.W.kitOne K (.type "list") (.type "bool") = some false)
  (kt_list_int : PySem.W.kitOne K (.type "list") (.type "int") = some false)
  (kt_list_str : PySem.W.kitOne K (.type "list") (.type "str") = some false)
  (kt_list_tuple : PySem.W.kitOne K (.type "list") (.type "tuple") = some false)
  (kt_list_dict : PySem.W.kitOne K (.type "list") (.type "dict") = some false)
  (kt_tuple_NoneType : PySem.W.kitOne K (.type "tuple") (.type "NoneType") = some false)
  (kt_tuple_bool : PySem.W.kitOne K (.type "tuple") (.type "bool") = some false)
  (kt_tuple_int : PySem.W.kitOne K (.type "tuple") (.type "int") = some false)
  (kt_tuple_str : PySem.W.kitOne K (.type "tuple") (.type "str") = some false)
  (kt_tuple_list : PySem.W.kitOne K (.type "tuple") (.type "list") = some false)
  (kt_tuple_dict : PySem.W.kitOne K (.type "tuple") (.type "dict") = some false)
  (kt_dict_NoneType : PySem.W.kitOne K (.type "dict") (.type "NoneType") = some false)
  (kt_dict_bool : PySem.W.kitOne K (.type "dict") (.type "bool") = some false)
  (kt_dict_int : PySem.W.kitOne K (.type "dict") (.type "int") = some false)
  (kt_dict_str : PySem.W.kitOne K (.type "dict") (.type "str") = some false)
  (kt_dict_list : PySem.W.kitOne K (.type "dict") (.type "list") = some false)
  (kt_dict_tuple : PySem.W.kitOne K (.type "dict") (.type "tuple") = some false)
  : Kit K := Kit.mk' (by
  intro a ha b hb
  simp only [tyL, List.mem_cons, List.not_mem_nil, or_false] at ha hb
  rcases ha with rfl | rfl | rfl | rfl | rfl | rfl | rfl <;> rcases hb with rfl | rfl | rfl | rfl | rfl | rfl | rfl <;> intro e <;> first | assumption | exact absurd e (by decide))
noncomputable def DfP (K : PySem.W.Frag) (mg : Str → Option Value) (x : Str) (st : Stmt) : Prop := ∃ (f : Addr) (fd : FuncData), Fun K x x st f fd ∧ mg x = some (.ref f)
theorem df_mk {K : PySem.W.Frag} {h : Heap} {mg : Str → Option Value} (X : K.In h) (G : h.Ns mainGlobals mg) {x : Str} {st : Stmt} {f : Addr} {od an : Option Addr} {sl : Array (Option Value)} {oc kV dc pm cd ct : Value}
  (a : PySem.W.nsIn K mainGlobals x = some (some (.ref f))) (l : K.lookup f = some ⟨oc, od, .func (PySem.W.fnOf x x (defArgs st) (defBody st) (defScope st) .none kV dc pm an cd ct), sl⟩) (c : PySem.W.codeIn K cd x = true) (k : PySem.W.keepIn K (.ref f) = true) : DfP K mg x st :=
 ⟨f, _, fun_mk l c k, PySem.W.mg_of X G a⟩
noncomputable def MeP (K : PySem.W.Frag) (C : Addr) (m q : Str) (st : Stmt) : Prop := ∃ (f : Addr) (fd : FuncData), Fun K m q st f fd ∧ Meth K C m f
theorem me_mk {K : PySem.W.Frag} {C : Addr} {m q : Str} {st : Stmt} {f : Addr} {od an : Option Addr} {sl : Array (Option Value)} {oc kV dc pm cd ct : Value}
  (a : PySem.W.findIn K (.ref C) m = some (some (.ref f))) (n : PySem.W.isFn K (.ref f) = true) (l : K.lookup f = some ⟨oc, od, .func (PySem.W.fnOf m q (defArgs st) (defBody st) (defScope st) .none kV dc pm an cd ct), sl⟩) (c : PySem.W.codeIn K cd q = true) (k : PySem.W.keepIn K (.ref f) = true) : MeP K C m q st := ⟨f, _, fun_mk l c k, a, n, k⟩
noncomputable def InP (K : PySem.W.Frag) (C : Addr) (q : Str) (st : Stmt) : Prop := ∃ (f : Addr) (fd : FuncData), Fun K "__init__" q st f fd ∧ Mk K C f
theorem in_mk {K : PySem.W.Frag} {C : Addr} {q : Str} {st : Stmt} {f : Addr} {od an : Option Addr} {sl : Array (Option Value)} {oc kV dc pm cd ct : Value}
  (y : PySem.W.makesIn K C = true) (a : PySem.W.findIn K (.ref C) "__init__" = some (some (.ref f))) (n : PySem.W.isFn K (.ref f) = true) (z : PySem.W.keepIn K (.ref C) = true) (l : K.lookup f = some ⟨oc, od, .func (PySem.W.fnOf "__init__" q (defArgs st) (defBody st) (defScope st) .none kV dc pm an cd ct), sl⟩) (c : PySem.W.codeIn K cd q = true) (k : PySem.W.keepIn K (.ref f) = true) : InP K C q st := ⟨f, _, fun_mk l c k, y, a, n, z⟩
theorem na_mk {K : PySem.W.Frag} {C : Addr} {f : Str} (h : PySem.W.findIn K (.ref C) f = some none) : NoAttr K C f := h
theorem xcs_mk {K : PySem.W.Frag} {h : Heap} {mg : Str → Option Value} (X : K.In h) (G : h.Ns mainGlobals mg) {NK : Addr}
  (xa : PySem.W.nsIn K mainGlobals "NoKey" = some (some (.ref NK)))
  (xl1 : PySem.W.findIn K (.ref NK) "__class__" = some (some (.builtin "object.__class__"))) (xl2 : PySem.W.findIn K (.ref NK) "__getattribute__" = some (some (.builtin "BaseException.__getattribute__"))) (xl3 : PySem.W.findIn K (.ref NK) "__getattr__" = some none)
  (xs : PySem.W.mroIn K NK (.ref NK) = some true) (xe : PySem.W.excIn K NK [.type "ValueError", .type "Exception", .type "BaseException", .type "object"] "ValueError.__new__" = true) : Xcs K mg NK :=
 ⟨PySem.W.mg_of X G xa, ⟨xe, xl1, xl2, xl3⟩, xs⟩
theorem mk_is_less {P : Program} {w : World} {K : PySem.W.Frag} {mg : Str → Option Value} {base : Heap} (B : Bl K mg) (Kt : Kit K) (d : DfP K mg "is_less" s_is_less) :
  Cal P w K mg base 1 "is_less" ["a", "b"] (spM NoP 2 m_is_less) := by
 obtain ⟨f, fd, F, hm⟩ := d
 exact ⟨f, fd, ok_is_less F B Kt, hm, F.kp, F.binds fun _ _ _ _ _ _ us hl => by
  obtain ⟨_, _, rfl⟩ := ln2 hl
  rfl⟩
theorem mk_comes_ahead {P : Program} {w : World} {K : PySem.W.Frag} {mg : Str → Option Value} {base : Heap} (B : Bl K mg) (Kt : Kit K) (d : DfP K mg "comes_ahead" s_comes_ahead) (C_is_less : Cal P w K mg base 1 "is_less" ["a", "b"] (spM NoP 2 m_is_less)) :
  Cal P w K mg base 2 "comes_ahead" ["one", "other"] (spM NoP 2 m_comes_ahead) := by
 obtain ⟨f, fd, F, hm⟩ := d
 exact ⟨f, fd, ok_comes_ahead F B Kt C_is_less, hm, F.kp, F.binds fun _ _ _ _ _ _ us hl => by
  obtain ⟨_, _, rfl⟩ := ln2 hl
  rfl⟩
theorem mk_place_of {P : Program} {w : World} {K : PySem.W.Frag} {mg : Str → Option Value} {base : Heap} (B : Bl K mg) (Kt : Kit K) (d : DfP K mg "place_of" s_place_of) (C_comes_ahead : Cal P w K mg base 2 "comes_ahead" ["one", "other"] (spM NoP 2 m_comes_ahead)) :
  Cal P w K mg base 3 "place_of" ["pairs", "pair"] (spM NoP 2 m_place_of) := by
 obtain ⟨f, fd, F, hm⟩ := d
 exact ⟨f, fd, ok_place_of F B Kt C_comes_ahead, hm, F.kp, F.binds fun _ _ _ _ _ _ us hl => by
  obtain ⟨_, _, rfl⟩ := ln2 hl
  rfl⟩
theorem mk_law_pen {P : Program} {w : World} {K : PySem.W.Frag} {mg : Str → Option Value} {base : Heap} (B : Bl K mg) (Kt : Kit K) (d : DfP K mg "_law_pen" s_law_pen) :
  Cal P w K mg base 1 "_law_pen" ["_law_script", "_law_k"] (spPenC K) := by
 obtain ⟨f, fd, F, hm⟩ := d
 exact ⟨f, fd, ok_law_pen F B, hm, F.kp, F.binds fun _ _ _ _ _ _ us hl => by
  obtain ⟨_, _, rfl⟩ := ln2 hl
  rfl⟩
theorem mk_law_take {P : Program} {w : World} {K : PySem.W.Frag} {mg : Str → Option Value} {base : Heap} (B : Bl K mg) (Kt : Kit K) (d : DfP K mg "_law_take" s_law_take) :
  Cal P w K mg base 1 "_law_take" ["_law_pen_here", "_law_many"] (spL NoP penF 2 mTakeL) := by
 obtain ⟨f, fd, F, hm⟩ := d
 exact ⟨f, fd, ok2_law_take F B, hm, F.kp, F.binds fun _ _ _ _ _ _ us hl => by
  obtain ⟨_, _, rfl⟩ := ln2 hl
  rfl⟩
theorem mk_law_lowest {P : Program} {w : World} {K : PySem.W.Frag} {mg : Str → Option Value} {base : Heap} (B : Bl K mg) (Kt : Kit K) (d : DfP K mg "_law_lowest" s_law_lowest) :
  Cal P w K mg base 1 "_law_lowest" ["_law_top", "_law_bottom"] (spM NoP 2 m_law_lowest) := by
 obtain ⟨f, fd, F, hm⟩ := d
 exact ⟨f, fd, ok_law_lowest F B Kt, hm, F.kp, F.binds fun _ _ _ _ _ _ us hl => by
  obtain ⟨_, _, rfl⟩ := ln2 hl
  rfl⟩
theorem mk_law_far {P : Program} {w : World} {K : PySem.W.Frag} {mg : Str → Option Value} {base : Heap} (B : Bl K mg) (Kt : Kit K) (d : DfP K mg "_law_far" s_law_far) (C_law_take : Cal P w K mg base 1 "_law_take" ["_law_pen_here", "_law_many"] (spL NoP penF 2 mTakeL)) :
  Cal P w K mg base 2 "_law_far" ["_law_pen_here", "_law_parts"] (spL NoP penF 2 m_law_far) := by
 obtain ⟨f, fd, F, hm⟩ := d
 exact ⟨f, fd, ok_law_far F B Kt C_law_take, hm, F.kp, F.binds fun _ _ _ _ _ _ us hl => by
  obtain ⟨_, _, rfl⟩ := ln2 hl
  rfl⟩
theorem mk_law_time {P : Program} {w : World} {K : PySem.W.Frag} {mg : Str → Option Value} {base : Heap} (B : Bl K mg) (Kt : Kit K) (d : DfP K mg "_law_time" s_law_time) (C_law_lowest : Cal P w K mg base 1 "_law_lowest" ["_law_top", "_law_bottom"] (spM NoP 2 m_law_lowest)) (C_law_take : Cal P w K mg base 1 "_law_take" ["_law_pen_here", "_law_many"] (spL NoP penF 2 mTakeL)) (C_law_far : Cal P w K mg base 2 "_law_far" ["_law_pen_here", "_law_parts"] (spL NoP penF 2 m_law_far)) :
  Cal P w K mg base 3 "_law_time" ["_law_pen_here"] (spL NoP penF 1 m_law_time) := by
 obtain ⟨f, fd, F, hm⟩ := d
 exact ⟨f, fd, ok_law_time F B Kt C_law_lowest C_law_take C_law_far, hm, F.kp, F.binds fun _ _ _ _ _ _ us hl => by
  obtain ⟨_, rfl⟩ := ln1 hl
  rfl⟩
theorem mk_law_before {P : Program} {w : World} {K : PySem.W.Frag} {mg : Str → Option Value} {base : Heap} (B : Bl K mg) (Kt : Kit K) (d : DfP K mg "_law_before" s_law_before) :
  Cal P w K mg base 1 "_law_before" ["_law_pair", "_law_other"] (spM NoP 2 m_law_before) := by
 obtain ⟨f, fd, F, hm⟩ := d
 exact ⟨f, fd, ok_law_before F B Kt, hm, F.kp, F.binds fun _ _ _ _ _ _ us hl => by
  obtain ⟨_, _, rfl⟩ := ln2 hl
  rfl⟩
theorem mk_law_turned {P : Program} {w : World} {K : PySem.W.Frag} {mg : Str → Option Value} {base : Heap} (B : Bl K mg) (Kt : Kit K) (d : DfP K mg "_law_turned" s_law_turned) (C_law_take : Cal P w K mg base 1 "_law_take" ["_law_pen_here", "_law_many"] (spL NoP penF 2 mTakeL)) :
  Cal P w K mg base 2 "_law_turned" ["_law_pen_here", "_law_some"] (spL NoP penF 2 m_law_turned) := by
 obtain ⟨f, fd, F, hm⟩ := d
 exact ⟨f, fd, ok_law_turned F B Kt C_law_take, hm, F.kp, F.binds fun _ _ _ _ _ _ us hl => by
  obtain ⟨_, _, rfl⟩ := ln2 hl
  rfl⟩
theorem all_mk {l : PySem.W.OpenLaw} {w : World} {K : PySem.W.Frag} {mg : Str → Option Value} {fa : Addr} (hfa : mg "law" = some (.ref fa)) (B : Bl K mg) (Kt : Kit K)
  (d0 : DfP K mg "is_less" s_is_less)
  (d1 : DfP K mg "comes_ahead" s_comes_ahead)
  (d2 : DfP K mg "place_of" s_place_of)
  (d3 : DfP K mg "shape_from" s_shape_from)
  (d4 : DfP K mg "_law_there" s_law_there)
  (d5 : DfP K mg "_law_pen" s_law_pen)
  (d6 : DfP K mg "_law_take" s_law_take)
  (d7 : DfP K mg "_law_lowest" s_law_lowest)
  (d8 : DfP K mg "_law_far" s_law_far)
  (d9 : DfP K mg "_law_time" s_law_time)
  (d10 : DfP K mg "_law_before" s_law_before)
  (d11 : DfP K mg "_law_turned" s_law_turned)
  (d12 : DfP K mg "_law_filled" s_law_filled)
  (d13 : DfP K mg "_law_emptied" s_law_emptied)
  (d14 : DfP K mg "law" s_law)
  {c : Addr} (hmW : mg "Waiting" = some (.ref c)) (cl : Cls K c) (na : NoAttr K c "kept") (mI : InP K c "Waiting.__init__" s_w_init) (me_put : MeP K c "put" "Waiting.put" s_w_put) (me_take : MeP K c "take" "Waiting.take" s_w_take) (me_first : MeP K c "first" "Waiting.first" s_w_first) (me_many : MeP K c "many" "Waiting.many" s_w_many) (me_pairs : MeP K c "pairs" "Waiting.pairs" s_w_pairs) (me_shape : MeP K c "shape" "Waiting.shape" s_w_shape)
  {NK : Addr} (xc : Xcs K mg NK)
  (hL : ∀ c pen, (b_law_c c) (.no :: .box (penF.box pen 1) :: List.replicate 6 .no) TrueEnd) :
  ∃ fd : FuncData, (∀ (s : Shared) (v : Value), BindsTo s fd ⟨[v], []⟩ [("_law_script", v)]) ∧ ∀ base : Heap, K.In base → base.Ns mainGlobals mg → FnOk l.prog w K mg base CX0 7 fa fd ["_law_script"] (spLaw K) := by
 obtain ⟨f, fd, F, hm⟩ := d14
 cases hfa.symm.trans hm
 refine ⟨fd, ?_, fun base _ _ => ?_⟩
 ·obtain ⟨oc, od, kV, doc, pm, an, cdv, ct, osl, rfl, lk, hcd⟩ := F.ex
  exact fun s v => .of_eq rfl
 obtain ⟨fi, fdi, FI, M⟩ := mI
 obtain ⟨f_put, fd_put, F_put, M_put⟩ := me_put
 obtain ⟨f_take, fd_take, F_take, M_take⟩ := me_take
 obtain ⟨f_first, fd_first, F_first, M_first⟩ := me_first
 obtain ⟨f_many, fd_many, F_many, M_many⟩ := me_many
 obtain ⟨f_pairs, fd_pairs, F_pairs, M_pairs⟩ := me_pairs
 obtain ⟨f_shape, fd_shape, F_shape, M_shape⟩ := me_shape
 have C_is_less := mk_is_less (P := l.prog) (w := w) (base := base) B Kt d0
 have C_comes_ahead := mk_comes_ahead (P := l.prog) (w := w) (base := base) B Kt d1 C_is_less
 have C_place_of := mk_place_of (P := l.prog) (w := w) (base := base) B Kt d2 C_comes_ahead
 obtain ⟨f2_shape_from, fd2_shape_from, F2_shape_from, hm2_shape_from⟩ := d3
 have B2_shape_from : Binds K fd2_shape_from ["pairs", "at"] [] := (F2_shape_from.binds fun _ _ _ _ _ _ us hl => by
  obtain ⟨_, _, rfl⟩ := ln2 hl
  rfl)
 have R0_shape_from : Cal l.prog w K mg base 1 "shape_from" ["pairs", "at"] (spM NoP 2 m_shape_from_0) := cal_no hm2_shape_from F2_shape_from.kp B2_shape_from
 have R1_shape_from : Cal l.prog w K mg base 2 "shape_from" ["pairs", "at"] (spM NoP 2 m_shape_from_1) := ⟨f2_shape_from, fd2_shape_from, ok_shape_from_1 F2_shape_from B Kt R0_shape_from, hm2_shape_from, F2_shape_from.kp, B2_shape_from⟩
 have C_shape_from : Cal l.prog w K mg base 2 "shape_from" ["pairs", "at"] (spM NoP 2 m_shape_from) := R1_shape_from
 obtain ⟨f_law_there, fd_law_there, F_law_there, hm_law_there⟩ := d4
 have C_law_there : Cal l.prog w K mg base 5 "_law_there" ["_law_wait", "_law_pair"] (spL NoP (insF c "kept") 2 m_law_there) := ⟨f_law_there, fd_law_there, (okh_law_there F_law_there B cl xc M_put (ok1_put F_put B cl na xc.hC xc.zC C_place_of) (F_put.binds fun _ _ _ _ _ _ us hl => by
  obtain ⟨_, _, _, rfl⟩ := ln3 hl
  rfl)).imp of_there, hm_law_there, F_law_there.kp, (F_law_there.binds fun _ _ _ _ _ _ us hl => by
  obtain ⟨_, _, rfl⟩ := ln2 hl
  rfl)⟩
 have C_law_pen := mk_law_pen (P := l.prog) (w := w) (base := base) B Kt d5
 have C_law_take := mk_law_take (P := l.prog) (w := w) (base := base) B Kt d6
 have C_law_lowest := mk_law_lowest (P := l.prog) (w := w) (base := base) B Kt d7
 have C_law_far := mk_law_far (P := l.prog) (w := w) (base := base) B Kt d8 C_law_take
 have C_law_time := mk_law_time (P := l.prog) (w := w) (base := base) B Kt d9 C_law_lowest C_law_take C_law_far
 have C_law_before := mk_law_before (P := l.prog) (w := w) (base := base) B Kt d10
 have C_law_turned := mk_law_turned (P := l.prog) (w := w) (base := base) B Kt d11 C_law_take
 obtain ⟨f_law_filled, fd_law_filled, F_law_filled, hm_law_filled⟩ := d12
 have C_law_filled : Cal l.prog w K mg base 5 "_law_filled" ["_law_pen_here", "_law_some"] (spL NoP penF 2 (m_law_filled c)) := ⟨f_law_filled, fd_law_filled, ok_law_filled cl hmW M (okh_w_init FI B cl na) (FI.binds (ps := ["self"]) fun _ _ _ _ _ _ us hl => by
  obtain ⟨_, rfl⟩ := ln1 hl
  rfl) M_put ((ok1_put F_put B cl na xc.hC xc.zC C_place_of).noX.imp of_put) (F_put.binds fun _ _ _ _ _ _ us hl => by
  obtain ⟨_, _, _, rfl⟩ := ln3 hl
  rfl) M_take ((ok1_take F_take B cl na xc.hC xc.zC C_place_of).noX.imp of_take) (F_take.binds fun _ _ _ _ _ _ us hl => by
  obtain ⟨_, _, _, rfl⟩ := ln3 hl
  rfl) F_law_filled B Kt C_law_turned C_law_take C_law_time, hm_law_filled, F_law_filled.kp, (F_law_filled.binds fun _ _ _ _ _ _ us hl => by
  obtain ⟨_, _, rfl⟩ := ln2 hl
  rfl)⟩
 obtain ⟨f_law_emptied, fd_law_emptied, F_law_emptied, hm_law_emptied⟩ := d13
 have C_law_emptied : Cal l.prog w K mg base 6 "_law_emptied" ["_law_wait", "_law_told", "_law_by_turns"] (spL NoP (insF c "kept") 3 (m_law_emptied c)) := ⟨f_law_emptied, fd_law_emptied, ok_law_emptied cl M_first (okh_w_first F_first B cl na) (F_first.binds fun _ _ _ _ _ _ us hl => by
  obtain ⟨_, rfl⟩ := ln1 hl
  rfl) M_many (okh_w_many F_many B cl na) (F_many.binds fun _ _ _ _ _ _ us hl => by
  obtain ⟨_, rfl⟩ := ln1 hl
  rfl) M_pairs (okh_w_pairs F_pairs B cl na) (F_pairs.binds fun _ _ _ _ _ _ us hl => by
  obtain ⟨_, rfl⟩ := ln1 hl
  rfl) M_shape ((okh_w_shape F_shape B cl na C_shape_from).imp of_shape) (F_shape.binds fun _ _ _ _ _ _ us hl => by
  obtain ⟨_, rfl⟩ := ln1 hl
  rfl) M_take ((ok1_take F_take B cl na xc.hC xc.zC C_place_of).noX.imp of_take) (F_take.binds fun _ _ _ _ _ _ us hl => by
  obtain ⟨_, _, _, rfl⟩ := ln3 hl
  rfl) F_law_emptied B Kt C_law_there, hm_law_emptied, F_law_emptied.kp, (F_law_emptied.binds fun _ _ _ _ _ _ us hl => by
  obtain ⟨_, _, _, rfl⟩ := ln3 hl
  rfl)⟩
 exact ok_law F B Kt cl M_first ((okh_w_first F_first B cl na).imp of_first) (F_first.binds fun _ _ _ _ _ _ us hl => by
  obtain ⟨_, rfl⟩ := ln1 hl
  rfl) M_many ((okh_w_many F_many B cl na).imp of_many) (F_many.binds fun _ _ _ _ _ _ us hl => by
  obtain ⟨_, rfl⟩ := ln1 hl
  rfl) M_pairs ((okh_w_pairs F_pairs B cl na).imp of_pairs) (F_pairs.binds fun _ _ _ _ _ _ us hl => by
  obtain ⟨_, rfl⟩ := ln1 hl
  rfl) M_put ((ok1_put F_put B cl na xc.hC xc.zC C_place_of).noX.imp of_put) (F_put.binds fun _ _ _ _ _ _ us hl => by
  obtain ⟨_, _, _, rfl⟩ := ln3 hl
  rfl) C_law_pen C_law_before C_law_filled C_law_take C_law_time C_law_there C_law_emptied (hL _)
theorem walk {l : PySem.W.OpenLaw} {q : Program} {loose : List Str} {XP : (Str → Option Value) → Heap → Prop} {YP : World → Heap → Prop} {d : DefRec} {K : Params → PySem.W.Frag} (hn : l.most = some 63) (hdf : d.params.defaults = [])
  (hY : ∀ (w : World) (h : Heap), YP w h → (K w.params).In h)
  (F : ∀ (w : World) (mg : Str → Option Value) (fa : Addr) (h : Heap), (K w.params).In h → h.Ns mainGlobals mg → mg d.name = some (.ref fa) →
   ∃ fd : FuncData, (∀ (s : Shared) (u : Value), BindsTo s fd ⟨[u], []⟩ [("_law_script", u)]) ∧ ∀ base : Heap, (K w.params).In base → base.Ns mainGlobals mg → FnOk l.prog w (K w.params) mg base CX0 7 fa fd ["_law_script"] (spLaw (K w.params))) :
  PySem.W.WalkO q loose XP YP l.row.toRowW d [] (fun f vs => PySem.call f vs) :=
 L2.walk_of (n := 63) (k := 7) (x := "_law_script") (CX := fun _ => CX0) (sp := fun w => spLaw (K w.params)) hn (by decide) hdf ⟨rfl, by decide, by decide⟩ hY F (fun _ _ a ns hl _ hS => ⟨a, ns, rfl, hS, hl, fun _ => rfl⟩) fun _ _ _ _ _ z => z
end My
noncomputable def PySem.W.Fast.tw1105416612085647668 : Unit := ()
noncomputable def PySem.W.Fast.tw11390399190772794732 : Unit := ()
noncomputable def PySem.W.Fast.tw1314034095961688702 : Unit := ()
noncomputable def PySem.W.Fast.tw1484427132225876543 : Unit := ()
noncomputable def PySem.W.Fast.tw15920712592037050267 : Unit := ()
open PySem PySem.W PyProof.Rows
set_option maxRecDepth 100000 in
set_option maxHeartbeats 0 in
theorem PySem.Challenge.cw_leadtimes_k24_whole_waiting_emptied_holds : PySem.Challenge.rw_leadtimes_k24_whole_waiting_emptied.Holds := by
 w_on; o_law; k_head; (case hw => w_witness2)
 k_fill
 refine My.walk (l := PySem.Challenge.rw_leadtimes_k24_whole_waiting_emptied) rfl rfl (fun w h Y => PySem.W.kIn_of Y) ?F
 case F =>
  intro w mg fa h KX G hmg
  refine' My.all_mk hmg (My.bl_mk KX G ?z_len ?z_abs ?z_range ?z_isinstance ?z_int ?z_bool ?z_tuple ?z_max ?z_min ?z_list ?z_all ?z_any ?z_sorted ?z_zip ?z_set ?z_sum ?z_str ?z_enumerate ?kt_int_bool ?kt_bool_int) (My.kit_mk ?kt_NoneType_bool ?kt_NoneType_int ?kt_NoneType_str ?kt_NoneType_list ?kt_NoneType_tuple ?kt_NoneType_dict ?kt_bool_NoneType ?kt_bool_int ?kt_bool_str ?kt_bool_list ?kt_bool_tuple ?kt_bool_dict ?kt_int_NoneType ?kt_int_bool ?kt_int_str ?kt_int_list ?kt_int_tuple ?kt_int_dict ?kt_str_NoneType ?kt_str_bool ?kt_str_int ?kt_str_list ?kt_str_tuple ?kt_str_dict ?kt_list_NoneType ?kt_list_bool ?kt_list_int ?kt_list_str ?kt_list_tuple ?kt_list_dict ?kt_tuple_NoneType ?kt_tuple_bool ?kt_tuple_int ?kt_tuple_str ?kt_tuple_list ?kt_tuple_dict ?kt_dict_NoneType ?kt_dict_bool ?kt_dict_int ?kt_dict_str ?kt_dict_list ?kt_dict_tuple) (My.df_mk KX G ?a0 ?l0 ?c0 ?k0) (My.df_mk KX G ?a1 ?l1 ?c1 ?k1) (My.df_mk KX G ?a2 ?l2 ?c2 ?k2) (My.df_mk KX G ?a3 ?l3 ?c3 ?k3) (My.df_mk KX G ?a4 ?l4 ?c4 ?k4) (My.df_mk KX G ?a5 ?l5 ?c5 ?k5) (My.df_mk KX G ?a6 ?l6 ?c6 ?k6) (My.df_mk KX G ?a7 ?l7 ?c7 ?k7) (My.df_mk KX G ?a8 ?l8 ?c8 ?k8) (My.df_mk KX G ?a9 ?l9 ?c9 ?k9) (My.df_mk KX G ?a10 ?l10 ?c10 ?k10) (My.df_mk KX G ?a11 ?l11 ?c11 ?k11) (My.df_mk KX G ?a12 ?l12 ?c12 ?k12) (My.df_mk KX G ?a13 ?l13 ?c13 ?k13) (My.df_mk KX G ?a14 ?l14 ?c14 ?k14) (PySem.W.mg_of KX G ?wa) ⟨?wpg, ?whd, ?wpo, ?wsa⟩ (My.na_mk ?wna) (My.in_mk ?i_y ?i_a ?i_n ?i_z ?i_l ?i_c ?i_k) (My.me_mk ?put_a ?put_n ?put_l ?put_c ?put_k) (My.me_mk ?take_a ?take_n ?take_l ?take_c ?take_k) (My.me_mk ?first_a ?first_n ?first_l ?first_c ?first_k) (My.me_mk ?many_a ?many_n ?many_l ?many_c ?many_k) (My.me_mk ?pairs_a ?pairs_n ?pairs_l ?pairs_c ?pairs_k) (My.me_mk ?shape_a ?shape_n ?shape_l ?shape_c ?shape_k) (My.xcs_mk KX G ?xa ?xl1 ?xl2 ?xl3 ?xs ?xe) My.law_true
  (case wa => k_is)
  (case wpg => k_is)
  (case whd => k_is)
  (case wpo => k_is)
  (case wsa => k_is)
  (case wna => k_is)
  (case i_y => k_is)
  (case i_a => k_is)
  (case i_n => k_is)
  (case i_z => k_is)
  (case i_l => k_is)
  (case i_c => k_is)
  (case i_k => k_is)
  (case put_a => k_is)
  (case put_n => k_is)
  (case put_l => k_is)
  (case put_c => k_is)
  (case put_k => k_is)
  (case take_a => k_is)
  (case take_n => k_is)
  (case take_l => k_is)
  (case take_c => k_is)
  (case take_k => k_is)
  (case first_a => k_is)
  (case first_n => k_is)
  (case first_l => k_is)
  (case first_c => k_is)
  (case first_k => k_is)
  (case many_a => k_is)
  (case many_n => k_is)
  (case many_l => k_is)
  (case many_c => k_is)
  (case many_k => k_is)
  (case pairs_a => k_is)
  (case pairs_n => k_is)
  (case pairs_l => k_is)
  (case pairs_c => k_is)
  (case pairs_k => k_is)
  (case shape_a => k_is)
  (case shape_n => k_is)
  (case shape_l => k_is)
  (case shape_c => k_is)
  (case shape_k => k_is)
  (case xa => k_is)
  (case xl1 => k_is)
  (case xl2 => k_is)
  (case xl3 => k_is)
  (case xs => k_is)
  (case xe => k_exc)
  (case a0 => k_is)
  (case l0 => k_is)
  (case c0 => k_is)
  (case k0 => k_is)
  (case a1 => k_is)
  (case l1 => k_is)
  (case c1 => k_is)
  (case k1 => k_is)
  (case a2 => k_is)
  (case l2 => k_is)
  (case c2 => k_is)
  (case k2 => k_is)
  (case a3 => k_is)
  (case l3 => k_is)
  (case c3 => k_is)
  (case k3 => k_is)
  (case a4 => k_is)
  (case l4 => k_is)
  (case c4 => k_is)
  (case k4 => k_is)
  (case a5 => k_is)
  (case l5 => k_is)
  (case c5 => k_is)
  (case k5 => k_is)
  (case a6 => k_is)
  (case l6 => k_is)
  (case c6 => k_is)
  (case k6 => k_is)
  (case a7 => k_is)
  (case l7 => k_is)
  (case c7 => k_is)
  (case k7 => k_is)
  (case a8 => k_is)
  (case l8 => k_is)
  (case c8 => k_is)
  (case k8 => k_is)
  (case a9 => k_is)
  (case l9 => k_is)
  (case c9 => k_is)
  (case k9 => k_is)
  (case a10 => k_is)
  (case l10 => k_is)
  (case c10 => k_is)
  (case k10 => k_is)
  (case a11 => k_is)
  (case l11 => k_is)
  (case c11 => k_is)
  (case k11 => k_is)
  (case a12 => k_is)
  (case l12 => k_is)
  (case c12 => k_is)
  (case k12 => k_is)
  (case a13 => k_is)
  (case l13 => k_is)
  (case c13 => k_is)
  (case k13 => k_is)
  (case a14 => k_is)
  (case l14 => k_is)
  (case c14 => k_is)
  (case k14 => k_is)
  (case z_len => k_is)
  (case z_abs => k_is)
  (case z_range => k_is)
  (case z_isinstance => k_is)
  (case z_int => k_is)
  (case z_bool => k_is)
  (case z_tuple => k_is)
  (case z_max => k_is)
  (case z_min => k_is)
  (case z_list => k_is)
  (case z_all => k_is)
  (case z_any => k_is)
  (case z_sorted => k_is)
  (case z_zip => k_is)
  (case z_set => k_is)
  (case z_sum => k_is)
  (case z_str => k_is)
  (case z_enumerate => k_is)
  (case kt_NoneType_bool => kit_is)
  (case kt_NoneType_int => kit_is)
  (case kt_NoneType_str => kit_is)
  (case kt_NoneType_list => kit_is)
  (case kt_NoneType_tuple => kit_is)
  (case kt_NoneType_dict => kit_is)
  (case kt_bool_NoneType => kit_is)
  (case kt_bool_int => kit_is)
  (case kt_bool_str => kit_is)
  (case kt_bool_list => kit_is)
  (case kt_bool_tuple => kit_is)
  (case kt_bool_dict => kit_is)
  (case kt_int_NoneType => kit_is)
  (case kt_int_bool => kit_is)
  (case kt_int_str => kit_is)
  (case kt_int_list => kit_is)
  (case kt_int_tuple => kit_is)
  (case kt_int_dict => kit_is)
  (case kt_str_NoneType => kit_is)
  (case kt_str_bool => kit_is)
  (case kt_str_int => kit_is)
  (case kt_str_list => kit_is)
  (case kt_str_tuple => kit_is)
  (case kt_str_dict => kit_is)
  (case kt_list_NoneType => kit_is)
  (case kt_list_bool => kit_is)
  (case kt_list_int => kit_is)
  (case kt_list_str => kit_is)
  (case kt_list_tuple => kit_is)
  (case kt_list_dict => kit_is)
  (case kt_tuple_NoneType => kit_is)
  (case kt_tuple_bool => kit_is)
  (case kt_tuple_int => kit_is)
  (case kt_tuple_str => kit_is)
  (case kt_tuple_list => kit_is)
  (case kt_tuple_dict => kit_is)
  (case kt_dict_NoneType => kit_is)
  (case kt_dict_bool => kit_is)
  (case kt_dict_int => kit_is)
  (case kt_dict_str => kit_is)
  (case kt_dict_list => kit_is)
  (case kt_dict_tuple => kit_is)
#print axioms PySem.Challenge.cw_leadtimes_k24_whole_waiting_emptied_holds
