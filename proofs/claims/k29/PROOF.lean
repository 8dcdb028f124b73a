import PyProof.Rows.All
import Wide.All
import OpenK.AllK
import Wide.FinOn
import Lean
import PyProof.EqAt
import PyProof.EqKinds
import PyProof.TupleCall
import PyProof.P3Eq
import PyProof.P3In
import PyProof.NeData
import PyProof.FitsBits
import PySem.Challenge.RW_leadtimes_k29_logs_made
noncomputable section
set_option compiler.extract_closed false
set_option Elab.async false
set_option linter.all false
set_option maxRecDepth 100000
namespace L2
open PySem PySem.Spec PyProof.Rows
abbrev Key := Sum Int Str
noncomputable def keyIs : Key → Value → Bool
 | .inl k, v => Value.isInt k v
 | .inr x, v => Value.isStrOf x v
noncomputable def keyH (w : World) : Key → Int
 | .inl k => hashInt k
 | .inr x => hashStr w x
theorem keyIs_shape : ∀ {k : Key} {v : Value}, keyIs k v = true → (∃ i t, k = Sum.inl i ∧ v = Value.int i t) ∨ (∃ x t, k = Sum.inr x ∧ v = Value.str x t)
 | .inl i, v, h => by
  obtain ⟨t, e⟩ := Value.isInt_shape (k := i) (v := v) h
  exact .inl ⟨i, t, rfl, e⟩
 | .inr x, v, h => by
  obtain ⟨t, e⟩ := Value.isStrOf_shape (x := x) (v := v) h
  exact .inr ⟨x, t, rfl, e⟩
theorem keyIs_int (i : Int) (t : Tok) : keyIs (.inl i) (.int i t) = true := by simp [keyIs, Value.isInt]
theorem keyIs_str (x : Str) (t : Tok) : keyIs (.inr x) (.str x t) = true := by simp [keyIs, Value.isStrOf]
theorem key_ll (a b : Int) : decide ((Sum.inl a : Key) = Sum.inl b) = (a == b) := by
 by_cases e : a = b
 ·subst e; simp
 ·have h : ¬ (Sum.inl a : Key) = Sum.inl b := fun q => e (Sum.inl.inj q)
  rw [decide_eq_false h]
  exact (beq_eq_false_iff_ne.mpr e).symm
theorem key_rr (a b : Str) : decide ((Sum.inr a : Key) = Sum.inr b) = decide (a = b) := by
 by_cases e : a = b
 ·subst e; simp
 ·have h : ¬ (Sum.inr a : Key) = Sum.inr b := fun q => e (Sum.inr.inj q)
  rw [decide_eq_false h, decide_eq_false e]
theorem key_lr (a : Int) (b : Str) : decide ((Sum.inl a : Key) = Sum.inr b) = false := decide_eq_false (fun q => nomatch q)
theorem key_rl (a : Str) (b : Int) : decide ((Sum.inr a : Key) = Sum.inl b) = false := decide_eq_false (fun q => nomatch q)
noncomputable def mixKind (prog : Program) (w : World) : PySem.KeyKind prog w Key where
 is := keyIs
 hash := keyH w
 inj := fun v a b ha hb => by
  rcases keyIs_shape ha with ⟨i, t, rfl, rfl⟩ | ⟨x, t, rfl, rfl⟩
  ·rcases keyIs_shape hb with ⟨j, u, rfl, e⟩ | ⟨y, u, rfl, e⟩
   ·injection e with e1 _; rw [e1]
   ·exact nomatch e
  ·rcases keyIs_shape hb with ⟨j, u, rfl, e⟩ | ⟨y, u, rfl, e⟩
   ·exact nomatch e
   ·injection e with e1 _; rw [e1]
 byValue := fun k v h => by
  rcases keyIs_shape h with ⟨i, t, rfl, rfl⟩ | ⟨x, t, rfl, rfl⟩ <;> rfl
 pyHash := fun hv h => by
  rcases keyIs_shape hv with ⟨i, t, rfl, rfl⟩ | ⟨x, t, rfl, rfl⟩
  ·exact wpAny_pyHash_int h
  ·exact wpAny_pyHash_str h
 eqBool := fun hu hv h => by
  rcases keyIs_shape hu with ⟨i, t, rfl, rfl⟩ | ⟨x, t, rfl, rfl⟩
  ·rcases keyIs_shape hv with ⟨j, u, rfl, rfl⟩ | ⟨y, u, rfl, rfl⟩
   ·rw [key_ll] at h; exact wpAny_eqBool_int h
   ·rw [key_lr] at h; exact SeqAt.EqAt.int_str i t y u _ _ _ _ h
  ·rcases keyIs_shape hv with ⟨j, u, rfl, rfl⟩ | ⟨y, u, rfl, rfl⟩
   ·rw [key_rl] at h; exact SeqAt.EqAt.str_int x t j u _ _ _ _ h
   ·rw [key_rr] at h; exact wpAny_eqBool_str h
 «strs» := fun k x t v h => by
  rcases keyIs_shape h with ⟨i, u, rfl, e⟩ | ⟨y, u, rfl, e⟩
  ·exact nomatch e
  ·injection e with e1 _
   subst e1
   cases v <;> rfl
theorem mixKind_is (prog : Program) (w : World) (k : Key) (v : Value) : (mixKind prog w).is k v = keyIs k v := rfl
theorem mixKind_int (prog : Program) (w : World) (i : Int) (t : Tok) : (mixKind prog w).is (.inl i) (.int i t) = true := keyIs_int i t
theorem mixKind_str (prog : Program) (w : World) (x : Str) (t : Tok) : (mixKind prog w).is (.inr x) (.str x t) = true := keyIs_str x t
end L2
namespace L2
open PySem PySem.Spec PyProof.Rows
inductive V where
 | non | bl (b : Bool) | int (i : Int) | str (x : Str) | byt (b : Array UInt8) | flt (b : UInt64) | ref (a : Addr) | ty (n : String)
 deriving DecidableEq
noncomputable def RelV : V → Value → Prop
 | .non, u => u = Value.none
 | .bl b, u => u = Value.bool b
 | .int i, u => ∃ t, u = Value.int i t
 | .str x, u => ∃ t, u = Value.str x t
 | .byt b, u => ∃ t, u = Value.bytes b t
 | .flt b, u => ∃ t, u = Value.float b t
 | .ref a, u => u = Value.ref a
 | .ty n, u => u = Value.type n
abbrev Vals : List V → List Value → Prop := Paired RelV
theorem Vals.length {xs : List V} {us : List Value} (r : Vals xs us) : xs.length = us.length := Paired.length r
theorem Vals.get : ∀ {xs : List V} {us : List Value} {i : Nat} {x : V}, Vals xs us → xs[i]? = some x → ∃ u, us[i]? = some u ∧ RelV x u
 | _, _, _, _, .nil, e => by simp at e
 | _, _, 0, _, .cons r _, e => by simp at e; subst e; exact ⟨_, rfl, r⟩
 | _, _, i + 1, x, .cons _ t, e => by
  obtain ⟨u, h1, h2⟩ := Vals.get (i := i) (x := x) t (by simpa using e)
  exact ⟨u, by simpa using h1, h2⟩
theorem Vals.set {x : V} {u : Value} (r : RelV x u) : ∀ {xs : List V} {us : List Value} (i : Nat), Vals xs us → Vals (xs.set i x) (us.set i u)
 | _, _, _, .nil => .nil
 | _, _, 0, .cons _ t => .cons r t
 | _, _, i + 1, .cons q t => .cons q (Vals.set r i t)
theorem Vals.append : ∀ {xs ys : List V} {us ws : List Value}, Vals xs us → Vals ys ws → Vals (xs ++ ys) (us ++ ws) := by
 intro xs ys us ws h q
 induction h with
 | nil => exact q
 | cons r t ih => exact .cons r ih
theorem Vals.take : ∀ {xs : List V} {us : List Value} (n : Nat), Vals xs us → Vals (xs.take n) (us.take n)
 | _, _, 0, _ => .nil
 | _, _, _ + 1, .nil => .nil
 | _, _, n + 1, .cons r t => .cons r (Vals.take n t)
theorem Vals.drop : ∀ {xs : List V} {us : List Value} (n : Nat), Vals xs us → Vals (xs.drop n) (us.drop n)
 | _, _, 0, r => r
 | _, _, _ + 1, .nil => .nil
 | _, _, n + 1, .cons _ t => Vals.drop n t
theorem Vals.none_of : ∀ {xs : List V} {us : List Value} {i : Nat}, Vals xs us → xs[i]? = none → us[i]? = none := fun {xs us i} r e => by
 have h1 := r.length
 have h2 : xs.length ≤ i := List.getElem?_eq_none_iff.mp e
 exact List.getElem?_eq_none_iff.mpr (by omega)
noncomputable def RelO : Option V → Option Value → Prop
 | some v, some u => RelV v u
 | none, none => True
 | _, _ => False
noncomputable def KV {κ : Type} : List (κ × V) → List (κ × Value) → Prop := Paired fun (p : κ × V) (q : κ × Value) => p.1 = q.1 ∧ RelV p.2 q.2
noncomputable def kV : Key → V
 | .inl i => .int i
 | .inr x => .str x
inductive HO where
 | lst (xs : List V)
 | tup (xs : List V)
 | dK (kvs : List (Key × V)) | dT (kvs : List (List Key × V))
 | set (S : Int → Bool) (n : Nat)
 | ins (C dx : Addr) (fs : List (Str × V))
 | own (x : Addr)
 | xd (fs : List (Str × V))
 | met (f x : Addr)
 | rng (lo hi : Int)
 | frz (o : Obj) (u : HO)
 | tbl (ps : Array Value)
 | ext (φ : Heap → Prop)
abbrev Hp := Addr → Option HO
noncomputable def upd (H : Hp) (a : Addr) (o : HO) : Hp := fun b => if b = a then some o else H b
theorem upd_same {H : Hp} {a : Addr} {o : HO} : upd H a o a = some o := by unfold upd; rw [if_pos rfl]
theorem upd_ne {H : Hp} {a b : Addr} {o : HO} (h : b ≠ a) : upd H a o b = H b := by unfold upd; rw [if_neg h]
theorem ne_of {H : Hp} {a b : Addr} {o u : HO} (h : H a = some o) (h' : H b = some u) (d : o ≠ u) : a ≠ b := by
 intro e; subst e; rw [h] at h'; exact d (Option.some.inj h')
theorem ne_of_none {H : Hp} {a b : Addr} {o : HO} (h : H a = some o) (h' : H b = none) : a ≠ b := by
 intro e; subst e; rw [h] at h'; cases h'
section
variable (P : Program) (w : World)
noncomputable def ObjOk (H : Hp) (h : Heap) (a : Addr) : HO → Prop
 | .lst xs => xs.length ≤ sizeLine ∧ ∃ (its : List Value) (n : Nat), Vals xs its ∧ h.get? a = some { cls := .type "list", data := .seq its.toArray n }
 | .tup xs => xs.length ≤ sizeLine ∧ ∃ its : List Value, Vals xs its ∧ IsTup h a its.toArray
 | .dK kvs => kvs.length ≤ sizeLine ∧ (a == sysModules) = false ∧ ∃ vs, KV kvs vs ∧ h.DictOf (mixKind P w) a vs
 | .dT kvs => kvs.length ≤ sizeLine ∧ (a == sysModules) = false ∧ ∃ xs : List (List Key × Addr × Value),
   Paired (fun (p : List Key × V) (q : List Key × Addr × Value) => p.1 = q.1 ∧ H q.2.1 = some (.tup (p.1.map kV)) ∧ RelV p.2 q.2.2) kvs xs ∧
   ∃ o es ep, h.get? a = some o ∧ o.ExactDict ∧ o.data = .dict es ep ∧ es.toList = xs.map (entryOfKey (tupleKind (mixKind P w))) ∧ (xs.map (·.1)).Nodup
 | .set S n => h.SetOf (intKind P w) a S n
 | .ins C dx fs => H dx = some (.own a) ∧ fs.length ≤ 1000 ∧ dx ≠ a ∧ h.get? a = some (PySem.W.instObj C dx) ∧
   ∃ mA, h.Ns1 dx mA ∧ (∀ f, RelO (fs.lookup f) (mA f)) ∧ PySem.Within mA (fs.map (·.1))
 | .own _ => ∃ o, h.get? a = some o
 | .xd fs => ∃ mA, h.Ns1 a mA ∧ ∀ f, RelO (fs.lookup f) (mA f)
 | .rng lo hi => ∃ t u v, h.get? a = some { cls := .type "range", data := .fields #[.int lo t, .int hi u, .int 1 v] }
 | .frz o u => h.get? a = some o ∧ ObjOk H h a u
 | .tbl ps => h.get? a = some { cls := .none, data := .fields ps }
 | .met f x => h.get? a = some (PySem.W.methodObj (.ref f) (.ref x))
 | .ext φ => φ h ∧ (∃ o, h.get? a = some o) ∧ ∀ h1 h2 : Heap, φ h1 → (∀ o, h1.get? a = some o → h2.get? a = some o) → φ h2
noncomputable def HOk (H : Hp) (h : Heap) : Prop := ∀ a o, H a = some o → ObjOk P w H h a o
end
section
variable {P : Program} {w : World} {H H' : Hp} {h h' : Heap} {a : Addr} {o : HO}
theorem ObjOk.lt (x : ObjOk P w H h a o) : a < h.objs.size := by
 cases o with
 | lst xs => obtain ⟨_, _, _, _, e⟩ := x; exact Heap.lt_size e
 | tup xs => obtain ⟨_, _, _, p⟩ := x; exact p.lt
 | dK kvs => obtain ⟨_, _, _, _, o, _, _, e, _⟩ := x; exact Heap.lt_size e
 | dT kvs => obtain ⟨_, _, _, _, o, _, _, e, _⟩ := x; exact Heap.lt_size e
 | set S n => obtain ⟨o, _, _, _, e, _⟩ := x; exact Heap.lt_size e
 | ins C dx fs => obtain ⟨_, _, _, e, _⟩ := x; exact Heap.lt_size e
 | own y => obtain ⟨_, e⟩ := x; exact Heap.lt_size e
 | xd fs => obtain ⟨_, ⟨_, _, _, e, _⟩, _⟩ := x; exact Heap.lt_size e
 | rng lo hi => obtain ⟨_, _, _, e⟩ := x; exact Heap.lt_size e
 | frz ob u => obtain ⟨e, _⟩ := x; exact Heap.lt_size e
 | tbl ps => exact Heap.lt_size (show h.get? a = some _ from x)
 | met f y => exact Heap.lt_size (show h.get? a = some _ from x)
 | ext φ => obtain ⟨_, ⟨_, e⟩, _⟩ := x; exact Heap.lt_size e
theorem Paired.mapP {α β : Type} {F G : α → β → Prop} : ∀ {l₁ : List α} {l₂ : List β}, Paired F l₁ l₂ → (∀ a b, F a b → G a b) → Paired G l₁ l₂ := by
 intro l₁ l₂ h f
 induction h with
 | nil => exact .nil
 | cons r t ih => exact .cons (f _ _ r) ih
theorem Paired.imp' {α β : Type} {F G : α → β → Prop} (f : ∀ a b, F a b → G a b) {l₁ : List α} {l₂ : List β} (r : Paired F l₁ l₂) : Paired G l₁ l₂ := Paired.mapP r f
theorem ObjOk.stay (x : ObjOk P w H h a o) (k : ∀ b u, (b = a ∨ H b = some (.own a)) → h.get? b = some u → h'.get? b = some u)
  (ho : ∀ b, H b = some (.own a) → H' b = some (.own a)) (ht : ∀ b xs, H b = some (.tup xs) → H' b = some (.tup xs)) : ObjOk P w H' h' a o := by
 induction o with
 | lst xs => obtain ⟨z, its, n, r, e⟩ := x; exact ⟨z, its, n, r, k _ _ (.inl rfl) e⟩
 | tup xs => obtain ⟨z, its, r, ob, e, c⟩ := x; exact ⟨z, its, r, ob, k _ _ (.inl rfl) e, c⟩
 | dK kvs => obtain ⟨z, y, vs, r, ob, es, ep, e, c⟩ := x; exact ⟨z, y, vs, r, ob, es, ep, k _ _ (.inl rfl) e, c⟩
 | dT kvs =>
  obtain ⟨z, y, xs, r, ob, es, ep, e, c⟩ := x
  exact ⟨z, y, xs, Paired.mapP r fun p q z => ⟨z.1, ht _ _ z.2.1, z.2.2⟩, ob, es, ep, k _ _ (.inl rfl) e, c⟩
 | set S n => obtain ⟨ob, es, ep, t, e, c⟩ := x; exact ⟨ob, es, ep, t, k _ _ (.inl rfl) e, c⟩
 | ins C dx fs =>
  obtain ⟨d, z, ne, e, mA, ⟨od, es, ep, e2, c⟩, r⟩ := x
  exact ⟨ho _ d, z, ne, k _ _ (.inl rfl) e, mA, ⟨od, es, ep, k _ _ (.inr d) e2, c⟩, r⟩
 | own y => obtain ⟨ob, e⟩ := x; exact ⟨ob, k _ _ (.inl rfl) e⟩
 | xd fs => obtain ⟨mA, ⟨od, es, ep, e, c⟩, r⟩ := x; exact ⟨mA, ⟨od, es, ep, k _ _ (.inl rfl) e, c⟩, r⟩
 | rng lo hi => obtain ⟨t, u, v, e⟩ := x; exact ⟨t, u, v, k _ _ (.inl rfl) e⟩
 | frz ob u ih => obtain ⟨e, q⟩ := x; exact ⟨k _ _ (.inl rfl) e, ih q⟩
 | tbl ps =>
  have e : h.get? a = some { cls := .none, data := .fields ps } := x
  show h'.get? a = some { cls := .none, data := .fields ps }
  exact k a _ (.inl rfl) e
 | met f y =>
  have e : h.get? a = some (PySem.W.methodObj (.ref f) (.ref y)) := x
  show h'.get? a = some (PySem.W.methodObj (.ref f) (.ref y))
  exact k a _ (.inl rfl) e
 | ext φ => obtain ⟨p, ⟨o, e⟩, st⟩ := x; exact ⟨st _ _ p fun o q => k _ _ (.inl rfl) q, ⟨o, k _ _ (.inl rfl) e⟩, st⟩
theorem HOk.lt (x : HOk P w H h) (e : H a = some o) : a < h.objs.size := (x a o e).lt
theorem HOk.fresh (x : HOk P w H h) (e : h.objs.size ≤ a) : H a = none := by
 cases q : H a with
 | none => rfl
 | some u => exact absurd (Nat.lt_of_lt_of_le (x.lt q) e) (Nat.lt_irrefl _)
theorem HOk.kept (x : HOk P w H h) (k : ∀ b u, h.get? b = some u → h'.get? b = some u) : HOk P w H h' := fun a o e =>
 (x a o e).stay (fun b u _ q => k b u q) (fun _ q => q) fun _ _ q => q
theorem HOk.laid (x : HOk P w H h) (k : ∀ b u, h.get? b = some u → h'.get? b = some u) (hp : h.objs.size ≤ a) (new : ObjOk P w (upd H a o) h' a o) : HOk P w (upd H a o) h' := fun b u e => by
 have hn := x.fresh hp
 by_cases hb : b = a
 ·subst hb; rw [upd_same] at e; cases e; exact new
 ·rw [upd_ne hb] at e
  exact (x b u e).stay (fun c v _ q => k c v q) (fun c q => by rw [upd_ne (ne_of_none q hn)]; exact q) fun c xs q => by rw [upd_ne (ne_of_none q hn)]; exact q
end
noncomputable def Rd (H : Hp) (a : Addr) (u : HO) : Prop := H a = some u ∨ ∃ o, H a = some (.frz o u)
theorem Rd.of {H : Hp} {a : Addr} {u : HO} (h : H a = some u) : Rd H a u := .inl h
theorem Rd.ok {P : Program} {w : World} {H : Hp} {h : Heap} {a : Addr} {u : HO} (r : Rd H a u) (x : HOk P w H h) : ObjOk P w H h a u := by
 rcases r with r | ⟨o, r⟩
 ·exact x a u r
 ·obtain ⟨_, q⟩ := x a _ r
  exact q
noncomputable def Mut : Option HO → Prop
 | some (.lst _) => True
 | some (.dK _) => True
 | some (.dT _) => True
 | some (.set _ _) => True
 | some (.ins _ _ _) => True
 | some (.ext _) => True
 | _ => False
section
variable {P : Program} {w : World} {H : Hp} {h h' : Heap} {x e : Addr} {o' : HO}
theorem HOk.write (ok : HOk P w H h) (mu : Mut (H x)) (he : e = x ∨ H e = some (.own x)) (k : ∀ b u, b ≠ e → h.get? b = some u → h'.get? b = some u) (heo : ∃ u, h'.get? e = some u)
  (new : ObjOk P w (upd H x o') h' x o') : HOk P w (upd H x o') h' := fun b u q => by
 have nown : ∀ c y, H c = some (.own y) → c ≠ x := fun c y r z => by subst z; rw [r] at mu; exact mu
 have ntup : ∀ c xs, H c = some (.tup xs) → c ≠ x := fun c xs r z => by subst z; rw [r] at mu; exact mu
 by_cases hb : b = x
 ·subst hb; rw [upd_same] at q; cases q; exact new
 ·rw [upd_ne hb] at q
  by_cases hbe : b = e
  ·have q' : H b = some (.own x) := by
    rcases he with z | z
    ·exact absurd (hbe.trans z) hb
    ·rw [hbe]; exact z
   rw [q] at q'; cases q'
   obtain ⟨v, hv⟩ := heo
   exact ⟨v, by rw [hbe]; exact hv⟩
  ·refine (ok b u q).stay (fun c v hc r => k c v ?_ r) (fun c r => by rw [upd_ne (nown c b r)]; exact r) fun c xs r => by rw [upd_ne (ntup c xs r)]; exact r
   rcases hc with rfl | hc
   ·exact hbe
   ·rintro rfl
    rcases he with z | z
    ·exact nown c b hc z
    ·rw [hc] at z; cases z; exact hb rfl
end
structure Un (fs ex : List Addr) (H H' : Hp) (h h' : Heap) : Prop where
 keep : ∀ b o, h.get? b = some o → H b = none → b ∉ fs → b ∉ ex → h'.get? b = some o
 slot : ∀ b o, h.get? b = some o → H b = none → b ∈ fs → b ∉ ex → ∃ sl, h'.get? b = some { o with slots := sl }
 free : ∀ b o, h.get? b = some o → H b = none → b ∉ ex → H' b = none
 there : ∀ b o, h.get? b = some o → b ∉ ex → ∃ o', h'.get? b = some o'
 tups : ∀ b xs, H b = some (.tup xs) → H' b = some (.tup xs)
 frzs : ∀ b o u, H b = some (.frz o u) → H' b = some (.frz o u)
 tbls : ∀ b ps, H b = some (.tbl ps) → ∃ more, H' b = some (.tbl (ps ++ more))
section
variable {fs fs' ex ex' : List Addr} {H H1 H2 : Hp} {h h1 h2 h' : Heap} {a x e : Addr} {o : HO}
theorem Un.any (u : Un fs ex H H1 h h1) {b : Addr} {ob : Obj} (q : h.get? b = some ob) (n : H b = none) (hx : b ∉ ex) : ∃ sl, h1.get? b = some { ob with slots := sl } := by
 by_cases hb : b ∈ fs
 ·exact u.slot b ob q n hb hx
 ·exact ⟨ob.slots, u.keep b ob q n hb hx⟩
theorem Un.trans (a : Un fs ex H H1 h h1) (b : Un fs ex H1 H2 h1 h2) : Un fs ex H H2 h h2 where
 keep := fun c ob q n hc hx => b.keep c ob (a.keep c ob q n hc hx) (a.free c ob q n hx) hc hx
 slot := fun c ob q n hc hx => by
  obtain ⟨sl, e1⟩ := a.slot c ob q n hc hx
  obtain ⟨sl', e2⟩ := b.slot c _ e1 (a.free c ob q n hx) hc hx
  exact ⟨sl', e2⟩
 free := fun c ob q n hx => by
  obtain ⟨o', e1⟩ := a.there c ob q hx
  exact b.free c o' e1 (a.free c ob q n hx) hx
 there := fun c ob q hx => by
  obtain ⟨o', e1⟩ := a.there c ob q hx
  exact b.there c o' e1 hx
 tups := fun c xs q => b.tups c xs (a.tups c xs q)
 frzs := fun c ob xs q => b.frzs c ob xs (a.frzs c ob xs q)
 tbls := fun c ps q => by
  obtain ⟨m1, e1⟩ := a.tbls c ps q
  obtain ⟨m2, e2⟩ := b.tbls c _ e1
  exact ⟨m1 ++ m2, by rw [e2, Array.append_assoc]⟩
theorem Un.kept (k : ∀ b u, h.get? b = some u → h'.get? b = some u) : Un fs ex H H h h' :=
 ⟨fun b ob q _ _ _ => k b ob q, fun b ob q _ _ _ => ⟨ob.slots, k b ob q⟩, fun _ _ _ n _ => n, fun b ob q _ => ⟨ob, k b ob q⟩, fun _ _ q => q, fun _ _ _ q => q, fun _ ps q => ⟨#[], by rw [q]; simp⟩⟩
theorem Un.refl : Un fs ex H H h h := Un.kept fun _ _ q => q
theorem Un.laid (k : ∀ b u, h.get? b = some u → h'.get? b = some u) (hp : h.objs.size ≤ a) (hn : H a = none) : Un fs ex H (upd H a o) h h' where
 keep := fun b u q _ _ _ => k b u q
 slot := fun b u q _ _ _ => ⟨u.slots, k b u q⟩
 free := fun b u q n _ => by rw [upd_ne (Nat.ne_of_lt (Nat.lt_of_lt_of_le (Heap.lt_size q) hp))]; exact n
 there := fun b u q _ => ⟨u, k b u q⟩
 tups := fun b xs q => by rw [upd_ne (ne_of_none q hn)]; exact q
 frzs := fun b u xs q => by rw [upd_ne (ne_of_none q hn)]; exact q
 tbls := fun b ps q => ⟨#[], by rw [upd_ne (ne_of_none q hn), q]; simp⟩
theorem Un.write (mu : Mut (H x)) (he : e = x ∨ H e = some (.own x)) (k : ∀ b u, b ≠ e → h.get? b = some u → h'.get? b = some u) (heo : ∃ u, h'.get? e = some u) : Un fs ex H (upd H x o) h h' := by
 have hx : ∀ b, H b = none → b ≠ x := fun b n z => by subst z; rw [n] at mu; exact mu
 have hb : ∀ b, H b = none → b ≠ e := fun b n z => by
  subst z
  rcases he with r | r
  ·exact hx b n r
  ·rw [n] at r; cases r
 have hm : ∀ b u, H b = some u → ¬ Mut (some u) → b ≠ x := fun b u q nm z => by subst z; rw [q] at mu; exact nm mu
 refine ⟨fun b u q n _ _ => k b u (hb b n) q, fun b u q n _ _ => ⟨u.slots, k b u (hb b n) q⟩, fun b u q n _ => by rw [upd_ne (hx b n)]; exact n, fun b u q _ => ?_,
  fun b xs q => by rw [upd_ne (hm b _ q fun z => z)]; exact q, fun b u xs q => by rw [upd_ne (hm b _ q fun z => z)]; exact q, fun b ps q => ⟨#[], by rw [upd_ne (hm b _ q fun z => z), q]; simp⟩⟩
 by_cases hbe : b = e
 ·subst hbe; exact heo
 ·exact ⟨u, k b u hbe q⟩
theorem Un.mono (u : Un fs ex H H1 h h1) (hs : ∀ b ∈ fs, b ∈ fs') (hx : ∀ b ∈ ex, b ∈ ex') : Un fs' ex' H H1 h h1 :=
 ⟨fun b ob q n hb he => u.keep b ob q n (fun z => hb (hs b z)) fun z => he (hx b z), fun _ _ q n _ he => u.any q n fun z => he (hx _ z), fun b ob q n he => u.free b ob q n fun z => he (hx b z), fun b ob q he => u.there b ob q fun z => he (hx b z), u.tups, u.frzs, u.tbls⟩
end
noncomputable def trk (h : Heap) (H : Hp) : List Addr := (List.range h.objs.size).filter fun a => (H a).isSome
noncomputable def hidT (h : Heap) (H : Hp) : Heap := PySem.W.hideAll h (trk h H)
theorem hidT_size (h : Heap) (H : Hp) : (hidT h H).objs.size = h.objs.size := PySem.W.hideAll_size _ _
theorem hidT_get {h : Heap} {H : Hp} {b : Addr} {o : Obj} (e : h.get? b = some o) (n : H b = none) : (hidT h H).get? b = some o :=
 PySem.W.hideAll_get _ e fun hm => by
  have q : (H b).isSome = true := (List.mem_filter.mp hm).2
  rw [n] at q; simp at q
theorem of_hidT {h : Heap} {H : Hp} {b : Addr} {o : Obj} (e : (hidT h H).get? b = some o) : h.get? b = some o ∧ H b = none := by
 have e' : h.get? b = some o := PySem.W.of_hideAll (trk h H) e
 refine ⟨e', ?_⟩
 cases q : H b with
 | none => rfl
 | some x =>
  have hm : b ∈ trk h H := List.mem_filter.mpr ⟨List.mem_range.mpr (Heap.lt_size e'), by simp [q]⟩
  have z : (hidT h H).get? b = none := PySem.W.hideAll_none (trk h H) hm
  rw [z] at e; cases e
noncomputable def allNews (g h : Heap) (L : Addr) : List (Addr × Obj) := (List.range h.objs.size).filterMap fun a => if a = L ∨ (g.get? a).isSome = true then none else (h.get? a).map fun o => (a, o)
noncomputable def rest (g h : Heap) (L d : Addr) : List (Addr × Obj) := (allNews g h L).filter fun p => decide (p.1 ≠ d)
end L2
namespace L2
open PySem PySem.Spec PyProof.Rows
structure Mod (K : PySem.W.Frag) (mg : Str → Option Value) (base : Heap) : Prop where
 kin : K.In base
 glob : base.Ns mainGlobals mg
 blt : ∃ mb, base.Ns builtinsNs mb ∧ ∀ x : Str, x ≠ "__name__" → mb x = bootBuiltins x
 nolimit : base.NoLimit
structure Cx where
 prog : Program
 w : World
 K : PySem.W.Frag
 mg : Str → Option Value
 base : Heap
 A : Around
 N : List Str
 s₀ : Shared
 H₀ : Hp
 env : Env
 outer : List Env
 stack : List Env
 ex : List Addr
 fn : Str → Bool
 calm : Bool
 pn : List (Addr × Obj)
 xe : Value → Shared → Prop
noncomputable def frs (l : List Env) : List Addr := l.filterMap (·.frame)
abbrev Cx.fs (X : Cx) : List Addr := frs X.outer
noncomputable def Vis (sc : Scope) (x : Str) : Prop := sc.names.lookup x = some .local ∨ sc.names.lookup x = some .cell ∨ sc.names.lookup x = some .free
noncomputable def Loc (sc : Scope) (x : Str) : Prop := sc.names.lookup x = some .local ∨ sc.names.lookup x = some .cell
noncomputable def Look (env : Env) (h : Heap) (m : Str → Option Value) (x : Str) (u : Value) : Prop :=
 (env.kindOf x = some .local ∧ m x = some u) ∨ ((env.kindOf x = some .cell ∨ env.kindOf x = some .free) ∧ ∃ c, env.cells.lookup x = some c ∧ h.IsCell c (some u))
structure Cx.Ok (X : Cx) : Prop where
 mod : Mod X.K X.mg X.base
 kind : X.env.scope.kind = .function
 glob : X.env.globals = mainGlobals
 blt : X.env.builtins = builtinsNs
 above : X.s₀.heap.objs.size ≤ X.env.locals
 inj : ∀ x y c, X.env.cells.lookup x = some c → X.env.cells.lookup y = some c → x = y
 has : ∀ x, (X.env.kindOf x = some .cell ∨ X.env.kindOf x = some .free) → ∃ c, X.env.cells.lookup x = some c
 cab : ∀ x c, X.fn x = true → X.env.cells.lookup x = some c → X.s₀.heap.objs.size ≤ c
 hd : X.calm = true → X.A.handled = none
 frames : X.A.frames = some X.stack
 stk : X.stack = X.outer ∨ (X.stack = X.env :: X.outer ∧ X.env.frame = some X.env.locals)
 exf : ∀ b ∈ X.ex, b ≠ X.env.locals ∧ ∀ x c, X.env.cells.lookup x = some c → c ≠ b
 bs : ∀ b o, X.base.get? b = some o → X.s₀.heap.get? b = some o ∧ X.H₀ b = none
 bsz : X.base.objs.size ≤ X.s₀.heap.objs.size
 noex : ∀ b o, X.base.get? b = some o → b ∉ X.ex
 exfs : ∀ b ∈ X.ex, b ∉ X.fs
 funs : X.s₀.heap.FunFrames X.base X.outer
 frf : ∀ b ∈ X.fs, X.H₀ b = none
structure Inv (X : Cx) (pins : List (Addr × Obj)) (σ : List (Option V)) (H : Hp) (s : Shared) : Prop where
 ok : X.Ok
 os : s.os = X.s₀.os
 bare : AllBare s.gens
 base : Un X.fs X.ex X.H₀ H X.s₀.heap s.heap
 loc : ∃ m, s.heap.Ns X.env.locals m ∧ ∀ (i : Nat) (x : Str) (v : V), X.N[i]? = some x → σ[i]? = some (some v) → Vis X.env.scope x → ∃ u, RelV v u ∧ Look X.env s.heap m x u
 cell : ∀ x c, X.env.cells.lookup x = some c → ∃ v, s.heap.IsCell c v
 free : H X.env.locals = none
 freeC : ∀ x c, X.env.cells.lookup x = some c → H c = none
 pin : ∀ p ∈ X.pn ++ pins, s.heap.get? p.1 = some p.2 ∧ H p.1 = none ∧ p.1 ≠ X.env.locals ∧ p.1 ∉ X.fs ∧ ∀ v, p.2.data ≠ .cell v
 hok : HOk X.prog X.w H s.heap
 len : σ.length = X.N.length
section
variable {X : Cx} {pins : List (Addr × Obj)} {σ : List (Option V)} {H H' : Hp} {s : Shared} {h' : Heap}
theorem Cx.Ok.nofr (ok : X.Ok) {b : Addr} {o : Obj} (e : X.base.get? b = some o) : b ∉ X.fs := fun hb => by
 have := (ok.funs.mem hb).1
 rw [e] at this; cases this
theorem Inv.bs (I : Inv X pins σ H s) : ∀ b o, X.base.get? b = some o → s.heap.get? b = some o ∧ H b = none := fun b o e =>
 ⟨I.base.keep b o (I.ok.bs b o e).1 (I.ok.bs b o e).2 (I.ok.nofr e) (I.ok.noex b o e), I.base.free b o (I.ok.bs b o e).1 (I.ok.bs b o e).2 (I.ok.noex b o e)⟩
theorem Inv.bk (I : Inv X pins σ H s) : ∀ b o, X.base.get? b = some o → s.heap.get? b = some o := fun b o e => (I.bs b o e).1
theorem Inv.mod (I : Inv X pins σ H s) : Mod X.K X.mg X.base := I.ok.mod
theorem Inv.kIn (I : Inv X pins σ H s) : X.K.In s.heap := I.ok.mod.kin.keeps I.bk
theorem Inv.nolimit (I : Inv X pins σ H s) : s.heap.NoLimit := I.ok.mod.nolimit.keeps I.bk
theorem Inv.fr (I : Inv X pins σ H s) : ∃ m, Fr X.base X.env.locals s.heap m :=
 let ⟨m, hn, _⟩ := I.loc
 ⟨m, hn, I.bk, Nat.le_trans I.ok.bsz I.ok.above⟩
theorem Inv.lt (I : Inv X pins σ H s) : X.env.locals < s.heap.objs.size := let ⟨_, hn, _⟩ := I.loc; hn.lt
theorem Inv.sz (I : Inv X pins σ H s) : X.s₀.heap.objs.size ≤ s.heap.objs.size := Nat.le_trans I.ok.above (Nat.le_of_lt I.lt)
theorem Inv.nofs (I : Inv X pins σ H s) {a : Addr} (h : s.heap.objs.size ≤ a) : a ∉ X.fs := fun hb => by
 obtain ⟨_, o, ho, _⟩ := I.ok.funs.mem hb
 exact absurd (Nat.lt_of_lt_of_le (Heap.lt_size ho) (Nat.le_trans I.sz h)) (Nat.lt_irrefl _)
theorem Inv.cne (I : Inv X pins σ H s) : ∀ x c, X.env.cells.lookup x = some c → c ≠ X.env.locals := fun x c e z => by
 obtain ⟨v, o, ho, hd⟩ := I.cell x c e
 obtain ⟨m, ⟨o', es, ep, ho', hd', _⟩, _⟩ := I.loc
 rw [z, ho'] at ho; cases ho; rw [hd'] at hd; cases hd
theorem Inv.funs (I : Inv X pins σ H s) : s.heap.FunFrames X.base X.outer := by
 have all : ∀ (l : List Env), (∀ b ∈ frs l, b ∈ X.fs) → X.s₀.heap.FunFrames X.base l → s.heap.FunFrames X.base l := by
  intro l
  induction l with
  | nil => intro _ _; trivial
  | cons env r ih =>
   intro hs hl
   obtain ⟨hk, ⟨L, o, hf, hn, ho, hd⟩, hr⟩ := hl
   have hL : L ∈ X.fs := hs L (by unfold frs; rw [List.filterMap_cons, hf]; exact List.mem_cons_self)
   obtain ⟨sl, e⟩ := I.base.slot L o ho (I.ok.frf L hL) hL fun z => I.ok.exfs L z hL
   exact ⟨hk, ⟨L, _, hf, hn, e, hd⟩, ih (fun b hb => hs b (by unfold frs; rw [List.filterMap_cons, hf]; exact List.mem_cons_of_mem _ hb)) hr⟩
 exact all X.outer (fun _ hb => hb) I.ok.funs
theorem Inv.stack (I : Inv X pins σ H s) : s.heap.FunFrames X.base X.stack := by
 rcases I.ok.stk with e | ⟨e, hf⟩
 ·rw [e]; exact I.funs
 ·rw [e]
  obtain ⟨m, hn, _⟩ := I.loc
  refine .cons (by rw [I.ok.kind]; decide) hf hn ?_ I.funs
  exact Heap.get?_none_of_le (Nat.le_trans I.ok.bsz I.ok.above)
theorem Inv.stkSub (I : Inv X pins σ H s) : ∀ b ∈ frs X.stack, b ∈ X.env.locals :: X.fs := fun b hb => by
 rcases I.ok.stk with e | ⟨e, hf⟩
 ·rw [e] at hb; exact List.mem_cons_of_mem _ hb
 ·rw [e] at hb
  unfold frs at hb
  rw [List.filterMap_cons, hf] at hb
  exact hb
theorem Inv.stkFree (I : Inv X pins σ H s) : ∀ b ∈ frs X.stack, H b = none := fun b hb => by
 rcases List.mem_cons.mp (I.stkSub b hb) with e | hb
 ·rw [e]; exact I.free
 ·obtain ⟨_, o, ho, _⟩ := I.ok.funs.mem hb
  exact I.base.free b o ho (I.ok.frf b hb) fun z => I.ok.exfs b z hb
theorem Inv.step {g' : Array GenState} {t' : Nat} {d' : Drawn} {ch : List Addr} (I : Inv X pins σ H s)
  (hch : ∀ b ∈ ch, (b ∈ X.ex ∨ X.s₀.heap.objs.size ≤ b) ∧ b ≠ X.env.locals ∧ (∀ x c, X.env.cells.lookup x = some c → c ≠ b) ∧ ∀ p ∈ X.pn ++ pins, p.1 ≠ b)
  (keep : ∀ b o, b ≠ X.env.locals → b ∉ X.fs → b ∉ ch → s.heap.get? b = some o → H b = none → h'.get? b = some o)
  (slot : ∀ b o, b ≠ X.env.locals → b ∈ X.fs → b ∉ ch → s.heap.get? b = some o → H b = none → ∃ sl, h'.get? b = some { o with slots := sl }) (free : ∀ b o, b ∉ ch → s.heap.get? b = some o → H b = none → H' b = none)
  (there : ∀ b o, b ∉ ch → s.heap.get? b = some o → ∃ o', h'.get? b = some o')
  (tups : ∀ b xs, H b = some (.tup xs) → H' b = some (.tup xs)) (frzs : ∀ b o u, H b = some (.frz o u) → H' b = some (.frz o u)) (tbls : ∀ b ps, H b = some (.tbl ps) → ∃ more, H' b = some (.tbl (ps ++ more)))
  (ns : ∀ m, s.heap.Ns X.env.locals m → h'.Ns X.env.locals m) (hok : HOk X.prog X.w H' h') (hg : AllBare g') :
  Inv X pins σ H' { s with heap := h', gens := g', drawn := d', toks := t' } := by
 have neL : ∀ b o, X.s₀.heap.get? b = some o → b ≠ X.env.locals := fun b o e => Nat.ne_of_lt (Nat.lt_of_lt_of_le (Heap.lt_size e) I.ok.above)
 have neC : ∀ b o, X.s₀.heap.get? b = some o → b ∉ X.ex → b ∉ ch := fun b o e hx hb => by
  rcases (hch b hb).1 with z | z
  ·exact hx z
  ·exact absurd (Nat.lt_of_lt_of_le (Heap.lt_size e) z) (Nat.lt_irrefl _)
 have cellK : ∀ x c, X.env.cells.lookup x = some c → ∀ v, s.heap.IsCell c v → h'.IsCell c v := fun x c e v ⟨o, ho, hd⟩ => by
  have nch : c ∉ ch := fun z => (hch c z).2.2.1 x c e rfl
  by_cases hc : c ∈ X.fs
  ·obtain ⟨sl, q⟩ := slot c o (I.cne x c e) hc nch ho (I.freeC x c e)
   exact ⟨_, q, hd⟩
  ·exact ⟨o, keep c o (I.cne x c e) hc nch ho (I.freeC x c e), hd⟩
 refine ⟨I.ok, I.os, hg, ⟨fun b o e n hb hx => ?_, fun b o e n hb hx => ?_, fun b o e n hx => ?_, fun b o e hx => ?_, fun b xs e => tups b xs (I.base.tups b xs e), fun b o xs e => frzs b o xs (I.base.frzs b o xs e), fun b ps e => ?_⟩, ?_, fun x c e => ?_, ?_, fun x c e => ?_, fun p hp => ?_, hok, I.len⟩
 ·exact keep b o (neL b o e) hb (neC b o e hx) (I.base.keep b o e n hb hx) (I.base.free b o e n hx)
 ·obtain ⟨sl, e1⟩ := I.base.slot b o e n hb hx
  obtain ⟨sl', e2⟩ := slot b _ (neL b o e) hb (neC b o e hx) e1 (I.base.free b o e n hx)
  exact ⟨sl', e2⟩
 ·obtain ⟨o', e1⟩ := I.base.there b o e hx
  exact free b o' (neC b o e hx) e1 (I.base.free b o e n hx)
 ·obtain ⟨o', e1⟩ := I.base.there b o e hx
  exact there b o' (neC b o e hx) e1
 ·obtain ⟨m1, e1⟩ := I.base.tbls b ps e
  obtain ⟨m2, e2⟩ := tbls b _ e1
  exact ⟨m1 ++ m2, by rw [e2, Array.append_assoc]⟩
 ·obtain ⟨m, hn, hl⟩ := I.loc
  refine ⟨m, ns m hn, fun i x v e1 e2 e3 => ?_⟩
  obtain ⟨u, r, l⟩ := hl i x v e1 e2 e3
  refine ⟨u, r, ?_⟩
  rcases l with l | ⟨k, c, e, z⟩
  ·exact .inl l
  ·exact .inr ⟨k, c, e, cellK x c e _ z⟩
 ·obtain ⟨v, z⟩ := I.cell x c e
  exact ⟨v, cellK x c e v z⟩
 ·obtain ⟨m, ⟨o, _, _, ho, _⟩, _⟩ := I.loc
  exact free _ o (fun z => (hch _ z).2.1 rfl) ho I.free
 ·obtain ⟨v, o, ho, hd⟩ := I.cell x c e
  exact free c o (fun z => (hch c z).2.2.1 x c e rfl) ho (I.freeC x c e)
 ·obtain ⟨e, n, ne, nf, d⟩ := I.pin p hp
  have nch : p.1 ∉ ch := fun z => (hch p.1 z).2.2.2 p hp rfl
  exact ⟨keep p.1 p.2 ne nf nch e n, free p.1 p.2 nch e n, ne, nf, d⟩
theorem Inv.un {t' : Nat} (I : Inv X pins σ H s) (u : Un X.fs [] H H' s.heap h') (hok : HOk X.prog X.w H' h') : Inv X pins σ H' { s with heap := h', toks := t' } := by
 obtain ⟨m, ⟨o, es, ep, ho, r⟩, _⟩ := id I.loc
 obtain ⟨sl, hL⟩ := u.any ho I.free (by simp)
 exact I.step (g' := s.gens) (d' := s.drawn) (ch := []) (fun _ z => nomatch z) (fun b o _ hb _ e n => u.keep b o e n hb (by simp)) (fun b o _ hb _ e n => u.slot b o e n hb (by simp)) (fun b o _ e n => u.free b o e n (by simp)) (fun b o _ e => u.there b o e (by simp)) u.tups u.frzs u.tbls (fun m' hm => by
  obtain ⟨o', es', ep', ho', r'⟩ := hm
  rw [ho] at ho'; cases ho'
  exact ⟨_, es', ep', hL, r'⟩) hok I.bare
theorem Inv.call {g' : Array GenState} {t' : Nat} {d' : Drawn} {ch : List Addr} (I : Inv X pins σ H s) (u : Un (frs X.stack) ch H H' s.heap h') (hok : HOk X.prog X.w H' h') (hg : AllBare g')
  (hch : ∀ b ∈ ch, (b ∈ X.ex ∨ X.s₀.heap.objs.size ≤ b) ∧ b ≠ X.env.locals ∧ (∀ x c, X.env.cells.lookup x = some c → c ≠ b) ∧ ∀ p ∈ X.pn ++ pins, p.1 ≠ b) :
  Inv X pins σ H' { s with heap := h', gens := g', drawn := d', toks := t' } := by
 obtain ⟨m, ⟨o, es, ep, ho, r⟩, _⟩ := id I.loc
 obtain ⟨sl, hL⟩ := u.any ho I.free fun z => (hch _ z).2.1 rfl
 exact I.step (ch := ch) hch (fun b o hL hb hc e n => u.keep b o e n (fun z => (List.mem_cons.mp (I.stkSub b z)).elim hL hb) hc) (fun b o _ _ hc e n => u.any e n hc) (fun b o hc e n => u.free b o e n hc) (fun b o hc e => u.there b o e hc) u.tups u.frzs u.tbls (fun m' hm => by
  obtain ⟨o', es', ep', ho', r'⟩ := hm
  rw [ho] at ho'; cases ho'
  exact ⟨_, es', ep', hL, r'⟩) hok hg
theorem Inv.turned {t' : Nat} {it : Addr} (I : Inv X pins σ H s) (k : ∀ b o, b ≠ it → s.heap.get? b = some o → h'.get? b = some o) (hn : H it = none) (hL : it ≠ X.env.locals)
  (h1 : it ∈ X.ex ∨ X.s₀.heap.objs.size ≤ it) (h2 : ∀ x c, X.env.cells.lookup x = some c → c ≠ it) (h3 : ∀ p ∈ X.pn ++ pins, p.1 ≠ it) : Inv X pins σ H { s with heap := h', toks := t' } := by
 have nit : ∀ b u, H b = some u → b ≠ it := fun b u e z => by rw [z, hn] at e; cases e
 refine I.step (g' := s.gens) (d' := s.drawn) (ch := [it]) (fun b hb => ?_) (fun b o _ _ hc e _ => k b o (fun z => hc (by simp [z])) e) (fun b o _ _ hc e _ => ⟨o.slots, k b o (fun z => hc (by simp [z])) e⟩) (fun _ _ _ _ n => n)
  (fun b o hc e => ⟨o, k b o (fun z => hc (by simp [z])) e⟩) (fun _ _ e => e) (fun _ _ _ e => e) (fun b ps e => ⟨#[], by rw [e]; simp⟩) (fun m hm => ?_) (fun b u e => ?_) I.bare
 ·have e : b = it := by simpa using hb
  subst e
  exact ⟨h1, hL, h2, h3⟩
 ·obtain ⟨o, es, ep, ho, r⟩ := hm
  exact ⟨o, es, ep, k _ o (Ne.symm hL) ho, r⟩
 ·refine (I.hok b u e).stay (fun c v hc q => k c v ?_ q) (fun _ q => q) fun _ _ q => q
  rcases hc with z | z
  ·rw [z]; exact nit b u e
  ·exact nit c _ z
theorem Inv.tok (I : Inv X pins σ H s) (t : Nat) : Inv X pins σ H { s with toks := t } := I.un (h' := s.heap) (t' := t) Un.refl I.hok
theorem Inv.kept {t' : Nat} (I : Inv X pins σ H s) (k : ∀ b u, s.heap.get? b = some u → h'.get? b = some u) : Inv X pins σ H { s with heap := h', toks := t' } := I.un (Un.kept k) (I.hok.kept k)
theorem Inv.laid {a : Addr} {o : HO} {t' : Nat} (I : Inv X pins σ H s) (k : ∀ b u, s.heap.get? b = some u → h'.get? b = some u) (hp : s.heap.objs.size ≤ a) (new : ObjOk X.prog X.w (upd H a o) h' a o) :
  Inv X pins σ (upd H a o) { s with heap := h', toks := t' } := I.un (Un.laid k hp (I.hok.fresh hp)) (I.hok.laid k hp new)
theorem Inv.write {x e : Addr} {o : HO} {t' : Nat} (I : Inv X pins σ H s) (mu : Mut (H x)) (he : e = x ∨ H e = some (.own x)) (k : ∀ b u, b ≠ e → s.heap.get? b = some u → h'.get? b = some u) (heo : ∃ u, h'.get? e = some u)
  (new : ObjOk X.prog X.w (upd H x o) h' x o) : Inv X pins σ (upd H x o) { s with heap := h', toks := t' } := I.un (Un.write mu he k heo) (I.hok.write mu he k heo new)
theorem Inv.weak {σ' : List (Option V)} (I : Inv X pins σ H s) (hl : σ'.length = σ.length) (w : ∀ (i : Nat) v, σ'[i]? = some (some v) → σ[i]? = some (some v)) : Inv X pins σ' H s :=
 ⟨I.ok, I.os, I.bare, I.base, let ⟨m, hn, hl'⟩ := I.loc; ⟨m, hn, fun i x v e1 e2 e3 => hl' i x v e1 (w i v e2) e3⟩, I.cell, I.free, I.freeC, I.pin, I.hok, hl.trans I.len⟩
theorem Inv.pins_of {pins' : List (Addr × Obj)} (I : Inv X pins σ H s) (h : ∀ p ∈ pins', s.heap.get? p.1 = some p.2 ∧ H p.1 = none ∧ p.1 ≠ X.env.locals ∧ p.1 ∉ X.fs ∧ ∀ v, p.2.data ≠ .cell v) : Inv X pins' σ H s :=
 ⟨I.ok, I.os, I.bare, I.base, I.loc, I.cell, I.free, I.freeC, fun p hp => (List.mem_append.mp hp).elim (fun z => I.pin p (List.mem_append_left _ z)) (h p), I.hok, I.len⟩
theorem nodup_ix {N : List Str} (hN : N.Nodup) {i j : Nat} {x : Str} (a : N[i]? = some x) (b : N[j]? = some x) : i = j := by
 obtain ⟨h1, e1⟩ := List.getElem?_eq_some_iff.mp a
 obtain ⟨h2, e2⟩ := List.getElem?_eq_some_iff.mp b
 exact (List.getElem_inj hN).mp (e1.trans e2.symm)
theorem store_ok2 {M : Model} {A : Around} {E : Value → Shared → Prop} {i : Nat} {x : Str} {v : V} {u : Value} {Q : Unit → Shared → Prop} (I : Inv X pins σ H s) (hN : X.N.Nodup) (hi : X.N[i]? = some x) (hx : Loc X.env.scope x) (r : RelV v u)
  (h : ∀ s', Inv X pins (σ.set i (some v)) H s' → (∃ a, Heap.SameBut a s.heap s'.heap ∧ (a = X.env.locals ∨ X.env.cells.lookup x = some a)) → Q () s') (hf : X.fn x = true ∨ X.env.scope.names.lookup x = some .local := by first | exact .inl rfl | exact .inr rfl | assumption) : wpAny M A (storeName X.env x u) Q E s := by
 obtain ⟨m, hn, hl⟩ := id I.loc
 have hcls : (X.env.scope.kind == .class || (X.env.scope.kind == .module && X.env.locals != X.env.globals)) = false := by rw [I.ok.kind]; rfl
 have hiσ : i < σ.length := by rw [I.len]; exact (List.getElem?_eq_some_iff.mp hi).1
 have cne := I.cne
 have tracked : ∀ {a : Addr} {h' : Heap}, (∃ o, s.heap.get? a = some o ∧ H a = none) → Heap.SameBut a s.heap h' → HOk X.prog X.w H h' := fun {a h'} ha hs b ob e => by
  obtain ⟨_, _, hfree⟩ := ha
  refine (I.hok b ob e).stay (fun c w' hc q => (hs.2 c ?_).trans q) (fun _ q => q) fun _ _ q => q
  rintro rfl
  rcases hc with rfl | hc
  ·rw [hfree] at e; cases e
  ·rw [hfree] at hc; cases hc
 rcases hx with hk | hk
 ·refine wpAny_storeName_local hk hn (fun h' hn' hs => ?_) hcls
  obtain ⟨oL, _, _, hoL, _⟩ := id hn
  refine h _ ⟨I.ok, I.os, I.bare, ⟨fun b o e n hb hx => ?_, fun b o e n hb hx => ?_, I.base.free, fun b o e hx => ?_, I.base.tups, I.base.frzs, I.base.tbls⟩, ⟨_, hn', fun j y v' e1 e2 e3 => ?_⟩, fun y c e => ?_, I.free, I.freeC, fun p hp => ?_, tracked ⟨oL, hoL, I.free⟩ hs, by simpa using I.len⟩ ⟨_, hs, .inl rfl⟩
  ·exact (hs.2 b (Nat.ne_of_lt (Nat.lt_of_lt_of_le (Heap.lt_size e) I.ok.above))).trans (I.base.keep b o e n hb hx)
  ·obtain ⟨sl, e1⟩ := I.base.slot b o e n hb hx
   exact ⟨sl, (hs.2 b (Nat.ne_of_lt (Nat.lt_of_lt_of_le (Heap.lt_size e) I.ok.above))).trans e1⟩
  ·obtain ⟨o', e1⟩ := I.base.there b o e hx
   exact ⟨o', (hs.2 b (Nat.ne_of_lt (Nat.lt_of_lt_of_le (Heap.lt_size e) I.ok.above))).trans e1⟩
  ·by_cases hj : j = i
   ·subst hj
    rw [hi] at e1; cases e1
    rw [List.getElem?_set_self hiσ] at e2
    cases e2
    exact ⟨u, r, .inl ⟨hk, by simp⟩⟩
   ·rw [List.getElem?_set_ne (Ne.symm hj)] at e2
    obtain ⟨u', r', q⟩ := hl j y v' e1 e2 e3
    refine ⟨u', r', ?_⟩
    rcases q with ⟨k, e⟩ | ⟨k, c, e, z⟩
    ·refine .inl ⟨k, ?_⟩
     have : y ≠ x := fun e => hj (nodup_ix hN e1 (e ▸ hi))
     simp [this, e]
    ·exact .inr ⟨k, c, e, z.sameBut hs (cne y c e)⟩
  ·obtain ⟨w', z⟩ := I.cell y c e
   exact ⟨w', z.sameBut hs (cne y c e)⟩
  ·obtain ⟨e, n, ne, nf, d⟩ := I.pin p hp
   exact ⟨(hs.2 p.1 ne).trans e, n, ne, nf, d⟩
 ·have hfn : X.fn x = true := by
   rcases hf with z | z
   ·exact z
   ·rw [z] at hk; cases hk
  obtain ⟨c, hc⟩ := I.ok.has x (.inl hk)
  obtain ⟨w', z⟩ := I.cell x c hc
  refine wpAny_storeName_cell I.ok.kind hk hc z (fun h' hc' hs => ?_)
  obtain ⟨oc, hoc, hocd⟩ := id z
  refine h { s with heap := h' } ⟨I.ok, I.os, I.bare, ⟨fun b o e n hb hx => ?_, fun b o e n hb hx => ?_, I.base.free, fun b o e hx => ?_, I.base.tups, I.base.frzs, I.base.tbls⟩, ⟨m, hn.sameBut hs (Ne.symm (cne x c hc)), fun j y v' e1 e2 e3 => ?_⟩, fun y c' e => ?_, I.free, I.freeC, fun p hp => ?_, tracked ⟨oc, hoc, I.freeC x c hc⟩ hs, by simpa using I.len⟩ ⟨c, hs, .inr hc⟩
  ·exact (hs.2 b (Nat.ne_of_lt (Nat.lt_of_lt_of_le (Heap.lt_size e) (I.ok.cab x c hfn hc)))).trans (I.base.keep b o e n hb hx)
  ·obtain ⟨sl, e1⟩ := I.base.slot b o e n hb hx
   exact ⟨sl, (hs.2 b (Nat.ne_of_lt (Nat.lt_of_lt_of_le (Heap.lt_size e) (I.ok.cab x c hfn hc)))).trans e1⟩
  ·obtain ⟨o', e1⟩ := I.base.there b o e hx
   exact ⟨o', (hs.2 b (Nat.ne_of_lt (Nat.lt_of_lt_of_le (Heap.lt_size e) (I.ok.cab x c hfn hc)))).trans e1⟩
  ·by_cases hj : j = i
   ·subst hj
    rw [hi] at e1; cases e1
    rw [List.getElem?_set_self hiσ] at e2
    cases e2
    exact ⟨u, r, .inr ⟨.inl hk, c, hc, hc'⟩⟩
   ·rw [List.getElem?_set_ne (Ne.symm hj)] at e2
    obtain ⟨u', r', q⟩ := hl j y v' e1 e2 e3
    refine ⟨u', r', ?_⟩
    rcases q with q | ⟨k, c', e, z'⟩
    ·exact .inl q
    ·refine .inr ⟨k, c', e, z'.sameBut hs ?_⟩
     rintro rfl
     exact hj (nodup_ix hN e1 (I.ok.inj _ _ _ e hc ▸ hi))
  ·by_cases hcc : c' = c
   ·subst hcc; exact ⟨_, hc'⟩
   ·obtain ⟨w2, z2⟩ := I.cell y c' e
    exact ⟨w2, z2.sameBut hs hcc⟩
  ·obtain ⟨e, n, ne, nf, d⟩ := I.pin p hp
   refine ⟨(hs.2 p.1 ?_).trans e, n, ne, nf, d⟩
   intro q
   rw [q, hoc] at e
   have q' : oc = p.2 := Option.some.inj e
   exact d w' (by rw [← q']; exact hocd)
theorem store_ok {M : Model} {A : Around} {E : Value → Shared → Prop} {i : Nat} {x : Str} {v : V} {u : Value} {Q : Unit → Shared → Prop} (I : Inv X pins σ H s) (hN : X.N.Nodup) (hi : X.N[i]? = some x) (hx : Loc X.env.scope x) (r : RelV v u)
  (h : ∀ s', Inv X pins (σ.set i (some v)) H s' → Q () s') (hf : X.fn x = true ∨ X.env.scope.names.lookup x = some .local := by first | exact .inl rfl | exact .inr rfl | assumption) : wpAny M A (storeName X.env x u) Q E s :=
 store_ok2 I hN hi hx r (fun s' I' _ => h s' I') hf
theorem Inv.call' {s' : Shared} {ch : List Addr} (I : Inv X pins σ H s) (ho : s'.os = s.os) (u : Un (frs X.stack) ch H H' s.heap s'.heap) (hok : HOk X.prog X.w H' s'.heap) (hg : AllBare s'.gens)
  (hch : ∀ b ∈ ch, (b ∈ X.ex ∨ X.s₀.heap.objs.size ≤ b) ∧ b ≠ X.env.locals ∧ (∀ x c, X.env.cells.lookup x = some c → c ≠ b) ∧ ∀ p ∈ X.pn ++ pins, p.1 ≠ b) : Inv X pins σ H' s' := by
 obtain ⟨h', g', d', t', o'⟩ := s'
 have e : o' = s.os := ho
 subst e
 exact I.call (g' := g') (t' := t') (d' := d') u hok hg hch
end
abbrev XK := Value → Option Addr → Hp → Prop
abbrev St := List (Option V)
abbrev VK := V → Hp → Prop
abbrev TE := St → Hp → VK → Prop
abbrev TT := St → Hp → (Bool → Hp → Prop) → Prop
abbrev TA := St → Hp → (List V → Hp → Prop) → Prop
structure Ends where
 nx : St → Hp → Prop
 rt : VK
 bk : St → Hp → Prop := fun _ _ => False
 ct : St → Hp → Prop := fun _ _ => False
abbrev TS := Ends → St → Hp → Prop
noncomputable def EP (X : Cx) (pins : List (Addr × Obj)) (σ : St) (Q : VK) (u : Value) (s' : Shared) : Prop := ∃ v H', Inv X pins σ H' s' ∧ RelV v u ∧ Q v H'
noncomputable def TP (X : Cx) (pins : List (Addr × Obj)) (σ : St) (Q : Bool → Hp → Prop) (b : Bool) (s' : Shared) : Prop := ∃ H', Inv X pins σ H' s' ∧ Q b H'
noncomputable def AP (X : Cx) (pins : List (Addr × Obj)) (σ : St) (Q : List V → Hp → Prop) (us : List Value) (s' : Shared) : Prop := ∃ vs H', Inv X pins σ H' s' ∧ Vals vs us ∧ Q vs H'
noncomputable def SP (X : Cx) (pins : List (Addr × Obj)) (D : Ends) (f : Flow) (s' : Shared) : Prop :=
 match f with
 | .next => ∃ σ' H', Inv X pins σ' H' s' ∧ D.nx σ' H'
 | .brk => ∃ σ' H', Inv X pins σ' H' s' ∧ D.bk σ' H'
 | .cont => ∃ σ' H', Inv X pins σ' H' s' ∧ D.ct σ' H'
 | .ret u => ∃ v σ' H', Inv X pins σ' H' s' ∧ RelV v u ∧ D.rt v H'
noncomputable def PE (X : Cx) (e : Expr) (t : TE) : Prop :=
 ∀ (pins : List (Addr × Obj)) (s : Shared) (σ : St) (H : Hp) (Q : VK), Inv X pins σ H s → t σ H Q → wpAny (model X.prog X.w) X.A (eval e X.env) (EP X pins σ Q) X.xe s
noncomputable def PT (X : Cx) (e : Expr) (t : TT) : Prop :=
 ∀ (pins : List (Addr × Obj)) (s : Shared) (σ : St) (H : Hp) (Q : Bool → Hp → Prop), Inv X pins σ H s → t σ H Q → wpAny (model X.prog X.w) X.A (isTrue e X.env (eval e X.env)) (TP X pins σ Q) X.xe s
noncomputable def PW (X : Cx) (e : Expr) (t : TT) : Prop :=
 ∀ (whole : Sem Value) (pins : List (Addr × Obj)) (s : Shared) (σ : St) (H : Hp) (Q : Bool → Hp → Prop), Inv X pins σ H s → t σ H Q → wpAny (model X.prog X.w) X.A (isTrue e X.env whole) (TP X pins σ Q) X.xe s
theorem PW.pt {X : Cx} {e : Expr} {t : TT} (h : PW X e t) : PT X e t := h _
noncomputable def PA (X : Cx) (es : List Expr) (t : TA) : Prop :=
 ∀ (pos : Pos) (pins : List (Addr × Obj)) (s : Shared) (σ : St) (H : Hp) (Q : List V → Hp → Prop), Inv X pins σ H s → t σ H Q → wpAny (model X.prog X.w) X.A (spliced (backTo pos (starEach es X.env))) (AP X pins σ Q) X.xe s
noncomputable def PS (X : Cx) (st : Stmt) (t : TS) : Prop :=
 ∀ (pins : List (Addr × Obj)) (s : Shared) (σ : St) (H : Hp) (D : Ends), Inv X pins σ H s → t D σ H → wpAny (model X.prog X.w) X.A (exec st X.env) (SP X pins D) X.xe s
noncomputable def PSs (X : Cx) (st : List Stmt) (t : TS) : Prop :=
 ∀ (pins : List (Addr × Obj)) (s : Shared) (σ : St) (H : Hp) (D : Ends), Inv X pins σ H s → t D σ H → wpAny (model X.prog X.w) X.A (execs st X.env) (SP X pins D) X.xe s
theorem thn {α : Type} {t : Sem α} {Q Q' : α → Shared → Prop} {M : Model} {A : Around} {E : Value → Shared → Prop} {s : Shared} (h : wpAny M A t Q E s) (hQ : ∀ a s, Q a s → Q' a s) : wpAny M A t Q' E s := wpAny_mono h hQ fun _ _ x => x
end L2
namespace L2
open PySem PySem.Spec PyProof.Rows
section
variable {X : Cx}
noncomputable def tVar (i : Nat) : TE := fun σ H Q => ∃ v, σ[i]? = some (some v) ∧ Q v H
noncomputable def tC (v : V) : TE := fun _ H Q => Q v H
theorem pe_var {i : Nat} {x : Str} {pos : Pos} (hN : X.N[i]? = some x) (hv : Vis X.env.scope x) (hd : (x == ("__debug__" : Str)) = false := by decide) (hcd : (x == ("__classdict__" : Str)) = false := by decide) : PE X (.Name x pos) (tVar i) := by
 intro pins s σ H Q I h
 obtain ⟨v, e, h⟩ := h
 obtain ⟨m, hn, hl⟩ := I.loc
 obtain ⟨u, r, l⟩ := hl i x v hN e hv
 have fin : EP X pins σ Q u s := ⟨v, H, I, r, h⟩
 rcases l with ⟨hk, hm⟩ | ⟨hk, c, hc, hcell⟩
 ·exact wpAny_Name (wpAny_loadName_local I.ok.kind hk hn hm fin) hd
 ·rcases hk with hk | hk
  ·exact wpAny_Name (wpAny_loadName_cell I.ok.kind hk hc hcell fin) hd
  ·exact wpAny_Name (wpAny_loadName_free I.ok.kind hk hc hcell fin hcd) hd
theorem pe_int {i j pos} : PE X (.Constant (.int i) j pos) (tC (.int i)) := fun _ _ _ H _ I h => wpAny_Constant_int ⟨.int i, H, I.tok _, ⟨_, rfl⟩, h⟩
theorem pe_bl {b j pos} : PE X (.Constant (.bool b) j pos) (tC (.bl b)) := fun _ _ _ H _ I h => Constant_bool ⟨.bl b, H, I, rfl, h⟩
theorem pe_non {j pos} : PE X (.Constant .none j pos) (tC .non) := fun _ _ _ H _ I h => Constant_none ⟨.non, H, I, rfl, h⟩
theorem pe_str {x j pos} : PE X (.Constant (.str x) j pos) (tC (.str x)) := fun _ _ _ H _ I h => Calls.Constant_str ⟨.str x, H, I.tok _, ⟨_, rfl⟩, h⟩
noncomputable def Gl (X : Cx) (x : Str) : Prop := X.env.kindOf x = some .globalImplicit
theorem ld_glob {E : Value → Shared → Prop} {pins : List (Addr × Obj)} {s : Shared} {σ : St} {H : Hp} {x : Str} {u : Value} {pos : Pos} {Q : Value → Shared → Prop} (I : Inv X pins σ H s) (hg : Gl X x) (hm : X.mg x = some u) (h : Q u s)
  (hd : (x == ("__debug__" : Str)) = false := by decide) : wpAny (model X.prog X.w) X.A (eval (.Name x pos) X.env) Q E s :=
 Calls.Name_function_global I.ok.kind hg (Calls.loadGlobal_global (by rw [I.ok.glob]; exact I.mod.glob.keeps I.bk) hm h) hd
theorem ld_blt {E : Value → Shared → Prop} {pins : List (Addr × Obj)} {s : Shared} {σ : St} {H : Hp} {x : Str} {u : Value} {pos : Pos} {Q : Value → Shared → Prop} (I : Inv X pins σ H s) (hg : Gl X x) (hm : X.mg x = none) (hv : bootBuiltins x = some u) (h : Q u s)
  (hn : x ≠ "__name__" := by decide) (hd : (x == ("__debug__" : Str)) = false := by decide) : wpAny (model X.prog X.w) X.A (eval (.Name x pos) X.env) Q E s := by
 obtain ⟨mb, h1, h2⟩ := I.mod.blt
 exact Calls.Name_function_global I.ok.kind hg (Calls.loadGlobal_builtin (by rw [I.ok.glob]; exact I.mod.glob.keeps I.bk) hm (by rw [I.ok.blt]; exact h1.keeps I.bk) ((h2 x hn).trans hv) h) hd
theorem pe_glob {x : Str} {v : V} {u : Value} {pos : Pos} (hg : Gl X x) (hm : X.mg x = some u) (r : RelV v u) (hd : (x == ("__debug__" : Str)) = false := by decide) : PE X (.Name x pos) (tC v) :=
 fun _ _ _ H _ I h => ld_glob I hg hm ⟨v, H, I, r, h⟩ hd
theorem pe_bltn {x : Str} {v : V} {u : Value} {pos : Pos} (hg : Gl X x) (hm : X.mg x = none) (hv : bootBuiltins x = some u) (r : RelV v u) (hn : x ≠ "__name__" := by decide) (hd : (x == ("__debug__" : Str)) = false := by decide) : PE X (.Name x pos) (tC v) :=
 fun _ _ _ H _ I h => ld_blt I hg hm hv ⟨v, H, I, r, h⟩ hn hd
variable {a b : Expr} {ta tb : TE} {pos : Pos}
noncomputable def PC (X : Cx) (op : CmpOp) (a b : Expr) (t : TE) : Prop :=
 ∀ (pins : List (Addr × Obj)) (s : Shared) (σ : St) (H : Hp) (Q : VK), Inv X pins σ H s → t σ H Q →
  wpAny (model X.prog X.w) X.A (eval a X.env) (fun v s₁ => wpAny (model X.prog X.w) X.A (eval b X.env) (fun u s₂ => wpAny (model X.prog X.w) X.A (compareOp op v u) (EP X pins σ Q) X.xe s₂) X.xe s₁) X.xe s
theorem nobehind (b : Expr) {op : CmpOp} (h : op ≠ .In) (h2 : op ≠ .NotIn) : behindInMarks op b = false := by
 have e1 : (op == CmpOp.In) = false := by cases op <;> first | rfl | exact absurd rfl h
 have e2 : (op == CmpOp.NotIn) = false := by cases op <;> first | rfl | exact absurd rfl h2
 cases b <;> simp [behindInMarks, e1, e2]
noncomputable def tB (t : TE) : TT := fun σ H Q => t σ H fun x H1 => ∃ c, x = .bl c ∧ Q c H1
theorem pe_cmp {op : CmpOp} {t : TE} (h : PC X op a b t) (h1 : behindInMarks op b = false := by first | exact nobehind _ (by decide) (by decide) | rfl) : PE X (.Compare a [op] [b] pos) t := fun pins s σ H Q I hw => wpAny_Compare1 (h pins s σ H Q I hw) h1
theorem pt_val {e : Expr} {t : TE} (h : PE X e t) (he : ∀ whole, isTrue e X.env whole = (do let v ← whole; standAt e.pos; holding [v] (truthy v)) := by intro _; rfl) : PT X e (tB t) := by
 intro pins s σ H Q I hw
 refine isTrue_plain (thn (h pins s σ H _ I hw) fun v s1 ⟨x, H1, I1, r1, q1⟩ => ?_) (he _)
 obtain ⟨d, rfl, q⟩ := q1
 cases r1
 exact wpAny_truthy_bool ⟨H1, I1, q⟩
variable {tA tB' : TT} {rest : List Expr}
noncomputable def tAnd (t u : TT) : TT := fun σ H Q => t σ H fun c H1 => if c = true then u σ H1 Q else Q false H1
noncomputable def tOr (t u : TT) : TT := fun σ H Q => t σ H fun c H1 => if c = true then Q true H1 else u σ H1 Q
noncomputable def tNot (t : TT) : TT := fun σ H Q => t σ H fun c H1 => Q (!c) H1
theorem pw_and1 (ha : PT X a tA) : PW X (.BoolOp .And [a] pos) tA := by
 intro wh pins s σ H Q I h
 refine isTrue_and (thn (ha pins s σ H Q I h) fun c s1 e => ?_)
 cases c with
 | true => exact isTrue_and_nil e
 | false => exact e
theorem pw_or1 (ha : PT X a tA) : PW X (.BoolOp .Or [a] pos) tA := by
 intro wh pins s σ H Q I h
 refine isTrue_or (thn (ha pins s σ H Q I h) fun c s1 e => ?_)
 cases c with
 | false => exact isTrue_or_nil e
 | true => exact e
theorem pw_and (ha : PT X a tA) (hb : PW X (.BoolOp .And (b :: rest) pos) tB') : PW X (.BoolOp .And (a :: b :: rest) pos) (tAnd tA tB') := by
 intro wh pins s σ H Q I h
 refine isTrue_and (thn (ha pins s σ H _ I h) fun c s1 ⟨H1, I1, q1⟩ => ?_)
 cases c with
 | true => exact hb wh pins s1 σ H1 Q I1 q1
 | false => exact ⟨H1, I1, q1⟩
theorem pw_or (ha : PT X a tA) (hb : PW X (.BoolOp .Or (b :: rest) pos) tB') : PW X (.BoolOp .Or (a :: b :: rest) pos) (tOr tA tB') := by
 intro wh pins s σ H Q I h
 refine isTrue_or (thn (ha pins s σ H _ I h) fun c s1 ⟨H1, I1, q1⟩ => ?_)
 cases c with
 | true => exact ⟨H1, I1, q1⟩
 | false => exact hb wh pins s1 σ H1 Q I1 q1
theorem pt_not (ha : PT X a tA) : PT X (.UnaryOp .Not a pos) (tNot tA) := by
 intro pins s σ H Q I h
 exact isTrue_not (ha pins s σ H (fun c H1 => Q (!c) H1) I h)
noncomputable def tAndV (ta tb : TE) : TE := fun σ H Q => ta σ H fun x H1 => ∃ c, x = .bl c ∧ if c = true then tb σ H1 Q else Q (.bl false) H1
noncomputable def tNotV (ta : TE) : TE := fun σ H Q => ta σ H fun x H1 => ∃ c, x = .bl c ∧ Q (.bl (!c)) H1
theorem pe_one {op} {t : TE} (h : PE X a t) : PE X (.BoolOp op [a] pos) t := fun pins s σ H Q I hw => BoolOp_one (h pins s σ H Q I hw)
theorem pe_and (ha : PE X a ta) (hb : PE X (.BoolOp .And (b :: rest) pos) tb) : PE X (.BoolOp .And (a :: b :: rest) pos) (tAndV ta tb) := by
 intro pins s σ H Q I h
 refine BoolOp_and (thn (ha pins s σ H _ I h) fun v s1 ⟨x, H1, I1, r1, q1⟩ => ?_)
 obtain ⟨c, rfl, q1⟩ := q1
 cases r1
 refine wpAny_truthy_bool ?_
 cases c with
 | true => exact hb pins s1 σ H1 Q I1 q1
 | false => exact ⟨.bl false, H1, I1, rfl, q1⟩
theorem pe_not (ha : PE X a ta) : PE X (.UnaryOp .Not a pos) (tNotV ta) := by
 intro pins s σ H Q I h
 refine UnaryOp_ (thn (ha pins s σ H _ I h) fun v s1 ⟨x, H1, I1, r1, q1⟩ => ?_)
 obtain ⟨c, rfl, q1⟩ := q1
 cases r1
 exact not_of (wpAny_truthy_bool ⟨.bl (!c), H1, I1, rfl, q1⟩)
end
end L2
namespace L2
open PySem PySem.Spec PyProof.Rows
noncomputable def SqL (K : PySem.W.Frag) (H : Hp) (a : Addr) (xs : List V) : Prop :=
 Rd H a (.lst xs) ∨
  ∃ (o : Obj) (its : Array Value) (n : Nat), K.lookup a = some o ∧ o.cls = .type "list" ∧ o.dict = none ∧ o.data = .seq its n ∧ its.size ≤ sizeLine ∧ Vals xs its.toList
noncomputable def SqT (K : PySem.W.Frag) (H : Hp) (a : Addr) (xs : List V) : Prop :=
 Rd H a (.tup xs) ∨
  ∃ (o : Obj) (its : Array Value) (n : Nat), K.lookup a = some o ∧ o.cls = .type "tuple" ∧ o.data = .seq its n ∧ its.size ≤ sizeLine ∧ Vals xs its.toList
noncomputable def absV : Value → Option V
 | .none => some .non
 | .bool b => some (.bl b)
 | .int i _ => some (.int i)
 | .str x _ => some (.str x)
 | .bytes b _ => some (.byt b)
 | .float b _ => some (.flt b)
 | .ref a => some (.ref a)
 | .type n => some (.ty n)
 | _ => none
theorem RelV.abs {x : V} {u : Value} (r : RelV x u) : absV u = some x := by
 cases x with
 | non => cases r; rfl
 | bl _ => cases r; rfl
 | int _ => obtain ⟨t, rfl⟩ := r; rfl
 | str _ => obtain ⟨t, rfl⟩ := r; rfl
 | byt _ => obtain ⟨t, rfl⟩ := r; rfl
 | flt _ => obtain ⟨t, rfl⟩ := r; rfl
 | ref _ => cases r; rfl
 | ty _ => cases r; rfl
theorem RelV.inj {x y : V} {u : Value} (r : RelV x u) (q : RelV y u) : x = y := Option.some.inj (r.abs.symm.trans q.abs)
theorem Vals.inj : ∀ {xs ys : List V} {us : List Value}, Vals xs us → Vals ys us → xs = ys := by
 intro xs ys us h
 induction h generalizing ys with
 | nil => intro q; cases q; rfl
 | cons r t ih => intro q; cases q with | cons r' t' => rw [r.inj r', ih t']
section
variable {X : Cx} {pins : List (Addr × Obj)} {σ : St} {H : Hp} {s : Shared} {a : Addr} {xs ys : List V}
theorem SqL.of {K : PySem.W.Frag} (h : H a = some (.lst xs)) : SqL K H a xs := .inl (.inl h)
theorem SqT.of {K : PySem.W.Frag} (h : H a = some (.tup xs)) : SqT K H a xs := .inl (.inl h)
theorem Inv.list (I : Inv X pins σ H s) (h : SqL X.K H a xs) : ∃ its : List Value, Vals xs its ∧ PlainL s.heap a its.toArray ∧ xs.length ≤ sizeLine := by
 rcases h with h | ⟨o, its, n, hk, hc, hd, hs, hz, r⟩
 ·obtain ⟨z, its, n, r, e⟩ := h.ok I.hok
  exact ⟨its, r, ⟨_, n, e, rfl, rfl, rfl⟩, z⟩
 ·refine ⟨its.toList, r, ⟨o, n, I.kIn a o hk, hc, hd, by simpa using hs⟩, ?_⟩
  have e := r.length
  simp only [Array.length_toList] at e
  omega
theorem Inv.tuple (I : Inv X pins σ H s) (h : SqT X.K H a xs) : ∃ its : List Value, Vals xs its ∧ IsTup s.heap a its.toArray ∧ xs.length ≤ sizeLine := by
 rcases h with h | ⟨o, its, n, hk, hc, hs, hz, r⟩
 ·obtain ⟨z, its, r, p⟩ := h.ok I.hok
  exact ⟨its, r, p, z⟩
 ·refine ⟨its.toList, r, ⟨o, I.kIn a o hk, hc, n, by simpa using hs⟩, ?_⟩
  have e := r.length
  simp only [Array.length_toList] at e
  omega
theorem Inv.list_inj (I : Inv X pins σ H s) (h : SqL X.K H a xs) (h' : SqL X.K H a ys) : xs = ys := by
 obtain ⟨its, r, ⟨o, n, e, _, _, d⟩, _⟩ := I.list h
 obtain ⟨its', r', ⟨o', n', e', _, _, d'⟩, _⟩ := I.list h'
 rw [e] at e'; cases e'
 rw [d] at d'
 injection d' with d1 _
 have : its = its' := by simpa using congrArg Array.toList d1
 subst this
 exact r.inj r'
theorem Inv.tuple_inj (I : Inv X pins σ H s) (h : SqT X.K H a xs) (h' : SqT X.K H a ys) : xs = ys := by
 obtain ⟨its, r, ⟨o, e, _, n, d⟩, _⟩ := I.tuple h
 obtain ⟨its', r', ⟨o', e', _, n', d'⟩, _⟩ := I.tuple h'
 rw [e] at e'; cases e'
 rw [d] at d'
 injection d' with d1 _
 have : its = its' := by simpa using congrArg Array.toList d1
 subst this
 exact r.inj r'
end
abbrev Cx.wish (X : Cx) (E : Value → Shared → Prop) : Cx := { X with xe := E }
abbrev Cx.nox (X : Cx) : Cx := X.wish fun _ _ => False
theorem Cx.Ok.wish {X : Cx} (ok : X.Ok) (E : Value → Shared → Prop) : (X.wish E).Ok :=
 ⟨ok.mod, ok.kind, ok.glob, ok.blt, ok.above, ok.inj, ok.has, ok.cab, ok.hd, ok.frames, ok.stk, ok.exf, ok.bs, ok.bsz, ok.noex, ok.exfs, ok.funs, ok.frf⟩
theorem Cx.Ok.unwish {X : Cx} {E : Value → Shared → Prop} (ok : (X.wish E).Ok) : X.Ok :=
 ⟨ok.mod, ok.kind, ok.glob, ok.blt, ok.above, ok.inj, ok.has, ok.cab, ok.hd, ok.frames, ok.stk, ok.exf, ok.bs, ok.bsz, ok.noex, ok.exfs, ok.funs, ok.frf⟩
section
variable {X : Cx} {pins : List (Addr × Obj)} {σ : St} {H : Hp} {s : Shared} {E : Value → Shared → Prop}
theorem Inv.wish (I : Inv X pins σ H s) (E : Value → Shared → Prop) : Inv (X.wish E) pins σ H s := ⟨I.ok.wish E, I.os, I.bare, I.base, I.loc, I.cell, I.free, I.freeC, I.pin, I.hok, I.len⟩
theorem Inv.unwish (I : Inv (X.wish E) pins σ H s) : Inv X pins σ H s := ⟨I.ok.unwish, I.os, I.bare, I.base, I.loc, I.cell, I.free, I.freeC, I.pin, I.hok, I.len⟩
theorem SP.unwish {D : Ends} {f : Flow} {s' : Shared} (h : SP (X.wish E) pins D f s') : SP X pins D f s' := by
 cases f with
 | next => obtain ⟨σ', H', I, q⟩ := h; exact ⟨σ', H', I.unwish, q⟩
 | brk => obtain ⟨σ', H', I, q⟩ := h; exact ⟨σ', H', I.unwish, q⟩
 | cont => obtain ⟨σ', H', I, q⟩ := h; exact ⟨σ', H', I.unwish, q⟩
 | ret u => obtain ⟨v, σ', H', I, r, q⟩ := h; exact ⟨v, σ', H', I.unwish, r, q⟩
theorem PE.nox {e : Expr} {t : TE} (h : PE X.nox e t) : PE X e t := fun pins s σ H Q I hw =>
 wpAny_mono (h pins s σ H Q (I.wish _) hw) (fun _ _ ⟨v, H', I', r, q⟩ => ⟨v, H', I'.unwish, r, q⟩) fun _ _ z => False.elim z
theorem PT.nox {e : Expr} {t : TT} (h : PT X.nox e t) : PT X e t := fun pins s σ H Q I hw =>
 wpAny_mono (h pins s σ H Q (I.wish _) hw) (fun _ _ ⟨H', I', q⟩ => ⟨H', I'.unwish, q⟩) fun _ _ z => False.elim z
theorem PSs.nox {st : List Stmt} {t : TS} (h : PSs X.nox st t) : PSs X st t := fun pins s σ H D I hw =>
 wpAny_mono (h pins s σ H D (I.wish _) hw) (fun _ _ q => q.unwish) fun _ _ z => False.elim z
end
section
variable {X : Cx} {st : Stmt} {rest : List Stmt} {t u : TS} {e : Expr} {te : TE} {pos : Pos}
noncomputable def tNext : TS := fun D σ H => D.nx σ H
noncomputable def tSeq (t u : TS) : TS := fun D σ H => t { D with nx := u D } σ H
theorem pss_nil : PSs X [] tNext := fun _ _ σ H _ I h => wpAny_execs_nil ⟨σ, H, I, h⟩
theorem pss_cons (h1 : PS X st t) (h2 : PSs X rest u) : PSs X (st :: rest) (tSeq t u) := by
 intro pins s σ H D I h
 refine wpAny_execs_cons (thn (h1 pins s σ H { D with nx := u D } I h) fun f s1 q => ?_)
 cases f with
 | next =>
  obtain ⟨σ', H', I', q⟩ := q
  exact h2 pins s1 σ' H' D I' q
 | ret v => exact q
 | brk => exact q
 | cont => exact q
theorem pss_one (h1 : PS X st t) : PSs X [st] t := by
 intro pins s σ H D I h
 refine wpAny_execs_cons (thn (h1 pins s σ H D I h) fun f s1 q => ?_)
 cases f with
 | next => exact wpAny_execs_nil q
 | ret v => exact q
 | brk => exact q
 | cont => exact q
theorem Inv.quiet {pins : List (Addr × Obj)} {σ : St} {H : Hp} {s : Shared} (I : Inv X pins σ H s) : interactive X.env = false := by simp [interactive, I.ok.kind]
noncomputable def tDrop (te : TE) : TS := fun D σ H => te σ H fun _ H1 => D.nx σ H1
theorem ps_expr (he : PE X e te) (hs : swapsWith e none pos.line X.env = pure false := by rfl) : PS X (.Expr e pos) (tDrop te) := by
 intro pins s σ H D I h
 exact wpAny_Expr_any (thn (he pins s σ H _ I h) fun v s1 ⟨x, H1, I1, r1, q1⟩ => ⟨σ, H1, I1, q1⟩) I.quiet hs
noncomputable def tRet (te : TE) : TS := fun D σ H => te σ H D.rt
theorem ps_ret (he : PE X e te) : PS X (.Return (some e) pos) (tRet te) := by
 intro pins s σ H D I h
 exact wpAny_Return_some (thn (he pins s σ H _ I h) fun v s1 ⟨x, H1, I1, r1, q1⟩ => ⟨x, σ, H1, I1, r1, q1⟩)
noncomputable def tIfS (c : TT) (t u : TS) : TS := fun D σ H => c σ H fun b H1 => if b = true then t D σ H1 else u D σ H1
theorem ps_if {c : Expr} {a b : List Stmt} {tc : TT} (hc : PT X c tc) (ha : PSs X a t) (hb : PSs X b u) : PS X (.If c a b pos) (tIfS tc t u) := by
 intro pins s σ H D I h
 refine wpAny_If (thn (hc pins s σ H _ I h) fun d s1 ⟨H1, I1, q1⟩ => ?_)
 cases d with
 | true => exact ha pins s1 σ H1 D I1 q1
 | false => exact hb pins s1 σ H1 D I1 q1
noncomputable def tNever : TS := fun _ _ _ => False
theorem ps_never : PS X st tNever := fun _ _ _ _ _ _ h => h.elim
end
abbrev TG := V → St → Hp → (St → Hp → Prop) → Prop
abbrev TGs := List V → St → Hp → (St → Hp → Prop) → Prop
noncomputable def PG (X : Cx) (target : Expr) (t : TG) : Prop :=
 ∀ (pins : List (Addr × Obj)) (s : Shared) (σ : St) (H : Hp) (v : V) (u : Value) (Q : St → Hp → Prop), Inv X pins σ H s → RelV v u → t v σ H Q →
  wpAny (model X.prog X.w) X.A (assign target X.env u) (fun _ s' => ∃ σ' H', Inv X pins σ' H' s' ∧ Q σ' H') X.xe s
noncomputable def PGs (X : Cx) (ts : List Expr) (t : TGs) : Prop :=
 ∀ (pins : List (Addr × Obj)) (s : Shared) (σ : St) (H : Hp) (vs : List V) (us : List Value) (Q : St → Hp → Prop), Inv X pins σ H s → Vals vs us → t vs σ H Q →
  wpAny (model X.prog X.w) X.A (assignInOrder ((assignEach ts X.env).map (·.2)) us) (fun _ s' => ∃ σ' H', Inv X pins σ' H' s' ∧ Q σ' H') X.xe s
abbrev TSet := V → V → V → Hp → (Hp → Prop) → Prop
noncomputable def PSet (X : Cx) (t : TSet) : Prop :=
 ∀ (pins : List (Addr × Obj)) (s : Shared) (σ : St) (H : Hp) (o i v : V) (ov iv u : Value) (Q : Hp → Prop), Inv X pins σ H s → RelV o ov → RelV i iv → RelV v u → t o i v H Q →
  wpAny (model X.prog X.w) X.A (setItem ov iv u) (fun _ s' => ∃ H', Inv X pins σ H' s' ∧ Q H') X.xe s
section
variable {X : Cx} {pos : Pos}
noncomputable def gName (i : Nat) : TG := fun v σ H Q => Q (σ.set i (some v)) H
theorem pg_name {i : Nat} {x : Str} (hN : X.N.Nodup) (hi : X.N[i]? = some x) (hx : Loc X.env.scope x) (hf : X.fn x = true ∨ X.env.scope.names.lookup x = some .local := by first | exact .inl rfl | exact .inr rfl | assumption) : PG X (.Name x pos) (gName i) := by
 intro pins s σ H v u Q I r h
 exact wpAny_assign_Name (store_ok I hN hi hx r (fun s' I' => ⟨_, H, I', h⟩) hf)
noncomputable def gNil : TGs := fun vs σ H Q => vs = [] ∧ Q σ H
noncomputable def gCons (t : TG) (u : TGs) : TGs := fun vs σ H Q => ∃ v r, vs = v :: r ∧ t v σ H fun σ' H' => u r σ' H' Q
theorem pgs_nil : PGs X [] gNil := by
 intro pins s σ H vs us Q I r h
 obtain ⟨e, h⟩ := h
 subst e
 cases r
 exact assignInOrder_nil ⟨σ, H, I, h⟩
theorem pgs_cons {e : Expr} {es : List Expr} {t : TG} {u : TGs} (h1 : PG X e t) (h2 : PGs X es u)
  (hs : (assignEach (e :: es) X.env).map (·.2) = assign e X.env :: (assignEach es X.env).map (·.2) := by rfl) : PGs X (e :: es) (gCons t u) := by
 intro pins s σ H vs us Q I r h
 obtain ⟨v, vr, e1, h⟩ := h
 subst e1
 cases r with
 | cons r rr =>
  rw [hs]
  refine assignInOrder_cons (thn (h1 pins s σ H _ _ _ I r h) fun _ s1 ⟨σ1, H1, I1, q1⟩ => ?_)
  exact h2 pins s1 σ1 H1 _ _ Q I1 rr q1
noncomputable def gTup (K : PySem.W.Frag) (n : Nat) (t : TGs) : TG := fun v σ H Q => ∃ a xs, v = .ref a ∧ SqT K H a xs ∧ xs.length = n ∧ t xs σ H Q
theorem pg_tup {es : List Expr} {k : Nat} {t : TGs} {n : Nat} (hc : X.calm = true) (h : PGs X es t)
  (hn : (assignEach es X.env).length = n := by rfl) (hst : (assignEach es X.env).findIdx? (·.1) = none := by rfl) : PG X (.Tuple es k pos) (gTup X.K n t) := by
 intro pins s σ H v u Q I r hw
 obtain ⟨a, xs, e1, hq, hl, hw⟩ := hw
 subst e1
 cases r
 obtain ⟨its, rv, ht, hz⟩ := I.tuple hq
 refine assign_Tuple_tuple (I.ok.hd hc) ht (by simp [hn, ← hl, rv.length]) hst fun h' hx => ?_
 have I1 : Inv X pins σ H { s with heap := h' } := I.kept (t' := s.toks) fun b o e => hx b o (Nat.ne_of_lt (Heap.lt_size e)) e
 exact h pins _ σ H xs _ Q I1 (by simpa using rv) hw
noncomputable def gSub (to ti : TE) (t : TSet) : TG := fun v σ H Q => to σ H fun o H1 => ti σ H1 fun i H2 => t o i v H2 fun H3 => Q σ H3
theorem pg_sub {o i : Expr} {to ti : TE} {t : TSet} (ho : PE X o to) (hi : PE X i ti) (hs : PSet X t)
  (ha : ∀ v, assign (.Subscript o i pos) X.env v = (do
   let ov ← holding [v] (eval o X.env)
   let iv ← holding [v, ov] (eval i X.env)
   standAt pos
   holding [v, ov, iv] (setItem ov iv v)
   release [v, ov, iv] []) := by intro _; rfl) : PG X (.Subscript o i pos) (gSub to ti t) := by
 intro pins s σ H v u Q I r h
 rw [ha]
 refine wpAny_bind (wpAny_holding (thn (ho pins s σ H _ I h) fun ov s1 ⟨x, H1, I1, r1, q1⟩ => ?_))
 refine wpAny_bind (wpAny_holding (thn (hi pins s1 σ H1 _ I1 q1) fun iv s2 ⟨y, H2, I2, r2, q2⟩ => ?_))
 refine wpAny_bind (wpAny_standAt (wpAny_bind (wpAny_holding (thn (hs pins s2 σ H2 x y v ov iv u _ I2 r1 r2 r q2) fun _ s3 ⟨H3, I3, q3⟩ => ?_))))
 exact wpAny_release ⟨σ, H3, I3, q3⟩
noncomputable def tAsg (te : TE) (g : TG) : TS := fun D σ H => te σ H fun x H1 => g x σ H1 D.nx
theorem ps_asg {tg e : Expr} {te : TE} {g : TG} (he : PE X e te) (hg : PG X tg g) (hs : swapsWithSole [tg] e pos.line X.env = pure false := by rfl) (hw : swappedStores [tg] e X.env = pure none := by rfl)
  (h1 : (assignEach [tg] X.env).map (·.2) = [assign tg X.env] := by rfl) : PS X (.Assign [tg] e pos) (tAsg te g) := by
 intro pins s σ H D I h
 refine wpAny_Assign_stores (thn (he pins s σ H _ I h) fun v s1 ⟨x, H1, I1, r1, q1⟩ => ?_) hs hw
 rw [h1]
 exact thn (hg pins s1 σ H1 x v _ I1 r1 q1) fun _ s2 q => q
theorem ps_set {i : Nat} {x : Str} {e : Expr} {te : TE} {pos' : Pos} (hN : X.N.Nodup) (hi : X.N[i]? = some x) (hx : Loc X.env.scope x) (he : PE X e te) (hs : swapsWith e (some (.Name x pos')) pos.line X.env = pure false := by rfl) (hf : X.fn x = true ∨ X.env.scope.names.lookup x = some .local := by first | exact .inl rfl | exact .inr rfl | assumption) :
  PS X (.Assign [.Name x pos'] e pos) (tAsg te (gName i)) := by
 intro pins s σ H D I h
 refine wpAny_Assign_Name (thn (he pins s σ H _ I h) fun v s1 ⟨y, H1, I1, r1, q1⟩ => ?_) hs
 exact store_ok I1 hN hi hx r1 (fun s2 I2 => ⟨_, H1, I2, q1⟩) hf
noncomputable def tPar (i j : Nat) (ta : TA) : TS := fun D σ H => ta σ H fun vs H1 => ∃ v w, vs = [v, w] ∧ D.nx ((σ.set i (some v)).set j (some w)) H1
theorem ps_par {i j : Nat} {x y : Str} {a b : Expr} {ta : TA} {px py pt : Pos} {kt k2 pt2} (hc : X.calm = true) (hN : X.N.Nodup) (hi : X.N[i]? = some x) (hj : X.N[j]? = some y) (hij : i ≠ j)
  (hx : X.env.scope.names.lookup x = some .local) (hy : X.env.scope.names.lookup y = some .local) (ha : PA X [a, b] ta)
  (hw : swappedStores [.Tuple [.Name x px, .Name y py] kt pt] (.Tuple [a, b] k2 pt2) X.env = pure (some [x, y]))
  (hs : swapsWithSole [.Tuple [.Name x px, .Name y py] kt pt] (.Tuple [a, b] k2 pt2) pos.line X.env = pure false := by rfl) :
  PS X (.Assign [.Tuple [.Name x px, .Name y py] kt pt] (.Tuple [a, b] k2 pt2) pos) (tPar i j ta) := by
 intro pins s σ H D I h
 rw [exec_Assign_arm]
 refine wpAny_bind (wpAny_standAt ?_)
 rw [hs]
 refine wpAny_bind (wpAny_pure ?_)
 rw [if_neg (by decide)]
 refine wpAny_bind (Tuple_ (thn (ha _ pins s σ H _ I h) fun us s1 ⟨vs, H1, I1, r1, q1⟩ => ?_))
 obtain ⟨v, w, e1, q1⟩ := q1
 subst e1
 obtain ⟨u1, u2, rfl, rv, rw'⟩ : ∃ u1 u2, us = [u1, u2] ∧ RelV v u1 ∧ RelV w u2 := by
  cases r1 with
  | cons p q =>
   cases q with
   | cons p' q' =>
    cases q'
    exact ⟨_, _, rfl, p, p'⟩
 refine wpAny_newObj_type ?_ (by show 2 ≤ sizeLine; decide)
 have I2 : Inv X pins σ H1 { s1 with heap := s1.heap.push { cls := .type "tuple", data := .seq [u1, u2].toArray } } := I1.kept (t' := s1.toks) fun b o e => Heap.get?_push_of_some _ e
 rw [hw]
 refine wpAny_bind (wpAny_pure ?_)
 show wpAny (model X.prog X.w) X.A (do rule "assign.swapped-stores"; let items ← unpackItems (.ref s1.heap.objs.size) 2 none; assignInOrder [fun v => bindName X.env y v, fun v => bindName X.env x v] items.reverse; pure Flow.next) _ _ _
 refine wpAny_bind (wpAny_rule (wpAny_bind (unpackItems_tuple (items := #[u1, u2]) (I.ok.hd hc) (IsTup.new s1.heap _) fun h' hx' => ?_)))
 have I3 := I2.kept (h' := h') (t' := s1.toks) fun b o e => hx' b o (Nat.ne_of_lt (Heap.lt_size e)) e
 show wpAny _ _ (assignInOrder [fun v => bindName X.env y v, fun v => bindName X.env x v] [u2, u1] >>= fun _ => pure Flow.next) _ _ _
 refine wpAny_bind (assignInOrder_cons (wpAny_bindName (store_ok I3 hN hj (.inl hy) rw' (fun s2 I4 => ?_) (.inr hy))))
 refine assignInOrder_cons (wpAny_bindName (store_ok I4 hN hi (.inl hx) rv (fun s3 I5 => assignInOrder_nil (wpAny_pure ?_)) (.inr hx)))
 rw [List.set_comm _ _ (Ne.symm hij)] at I5
 exact ⟨_, H1, I5, q1⟩
end
section
variable {X : Cx} {pos : Pos}
noncomputable def tWhile (c : TT) (tb : TS) : TS := fun D σ H => ∃ W : Nat → St → Hp → Prop, (∃ m, W m σ H) ∧ ∀ m σ H, W m σ H →
 c σ H fun b H1 => if b = true then ∃ N : St → Hp → Prop, (∀ σ' H', N σ' H' → ∃ m', m' < m ∧ W m' σ' H') ∧ tb { D with nx := N, ct := N, bk := D.nx } σ H1 else D.nx σ H1
theorem ps_while {c : Expr} {body : List Stmt} {tc : TT} {tb : TS} (hp : PassesOwn (model X.prog X.w) X.A X.env X.xe) (hc : PT X c tc) (hb : PSs X body tb) : PS X (.While c body [] pos) (tWhile tc tb) := by
 intro pins s σ H D I h
 obtain ⟨W, ⟨m0, w0⟩, turn⟩ := h
 refine wpAny_While (codeAny_whileLoop (fun n s' => ∃ σ' H', Inv X pins σ' H' s' ∧ W n σ' H') ?_ m0 ⟨σ, H, I, w0⟩)
 rintro n s1 ⟨σ1, H1, I1, w1⟩
 refine wpAny_passesOwn hp (thn (hc pins s1 σ1 H1 _ I1 (turn n σ1 H1 w1)) fun b s2 ⟨H2, I2, q2⟩ => ?_)
 cases b with
 | true =>
  obtain ⟨N, hN, q2⟩ := q2
  rw [if_pos rfl]
  refine wpAny_passesOwn hp (thn (hb pins s2 σ1 H2 _ I2 q2) fun f s3 q3 => ?_)
  cases f with
  | next =>
   obtain ⟨σ3, H3, I3, n3⟩ := q3
   obtain ⟨m', hm, w3⟩ := hN σ3 H3 n3
   exact ⟨m', hm, σ3, H3, I3, w3⟩
  | cont =>
   obtain ⟨σ3, H3, I3, n3⟩ := q3
   obtain ⟨m', hm, w3⟩ := hN σ3 H3 n3
   exact ⟨m', hm, σ3, H3, I3, w3⟩
  | brk => exact q3
  | ret v => exact q3
 | false =>
  rw [if_neg Bool.false_ne_true]
  exact wpAny_execs_nil ⟨σ1, H2, I2, q2⟩
end
structure It where
 go : Nat → Hp → Prop
 yld : Nat → Hp → V → Hp → Prop
 stop : Nat → Hp → Prop
noncomputable def FpOk (X : Cx) (pins : List (Addr × Obj)) (H : Hp) (b : Addr) : Prop :=
 H b = none ∧ b ≠ X.env.locals ∧ b ∉ X.fs ∧ (b ∈ X.ex ∨ X.s₀.heap.objs.size ≤ b) ∧ (∀ x c, X.env.cells.lookup x = some c → c ≠ b) ∧ ∀ p ∈ X.pn ++ pins, p.1 ≠ b
theorem Inv.fpOk {X : Cx} {pins : List (Addr × Obj)} {σ : St} {H H' : Hp} {s : Shared} {b : Addr} (I : Inv X pins σ H s) (hb : s.heap.objs.size ≤ b) (hn : H' b = none) : FpOk X pins H' b := by
 refine ⟨hn, Nat.ne_of_gt (Nat.lt_of_lt_of_le I.lt hb), I.nofs hb, .inr (Nat.le_trans I.sz hb), fun x c e z => ?_, fun p hp z => ?_⟩
 ·obtain ⟨v, q⟩ := I.cell x c e
  exact absurd (Nat.lt_of_lt_of_le q.lt (by rw [z]; exact hb)) (Nat.lt_irrefl _)
 ·exact absurd (Nat.lt_of_lt_of_le (Heap.lt_size (I.pin p hp).1) (by rw [z]; exact hb)) (Nat.lt_irrefl _)
structure Turn (P : Program) (w : World) (K : PySem.W.Frag) (tg : Expr) (J : It) (fp : List Addr) (it : Addr) (tn : Nat → Heap → Prop) : Prop where
 mem : it ∈ fp
 obj : ∀ i h, tn i h → ∀ b ∈ fp, ∃ o, h.get? b = some o ∧ ∀ v, o.data ≠ .cell v
 keep : ∀ i h h', tn i h → (∀ b ∈ fp, ∀ o, h.get? b = some o → h'.get? b = some o) → tn i h'
 item : ∀ (X : Cx), X.prog = P → X.w = w → X.K = K → X.calm = true → ∀ (i : Nat) (pins : List (Addr × Obj)) (s : Shared) (σ : St) (H : Hp) (E : Value → Shared → Prop), Inv X pins σ H s → (∀ b ∈ fp, FpOk X pins H b) → tn i s.heap → J.go i H →
  wpAny (model P w) X.A (pyNext (.ref it)) (fun r s1 => ∃ u, r = some u ∧
   wpAny (model P w) X.A (letOwnedTupleGo tg (.ref it) u) (fun _ s2 => ∃ x H', Inv X pins σ H' s2 ∧ RelV x u ∧ J.yld i H x H' ∧ tn (i + 1) s2.heap ∧ ∀ b ∈ fp, H' b = none) E s1) E s
 done : ∀ (X : Cx), X.prog = P → X.w = w → X.K = K → X.calm = true → ∀ (i : Nat) (pins : List (Addr × Obj)) (s : Shared) (σ : St) (H : Hp) (E : Value → Shared → Prop), Inv X pins σ H s → (∀ b ∈ fp, FpOk X pins H b) → tn i s.heap → J.stop i H →
  wpAny (model P w) X.A (pyNext (.ref it)) (fun r s1 => r = none ∧ Inv X pins σ H s1) E s
 self : ∀ (A : Around) (i : Nat) (s : Shared) (Q : Value → Shared → Prop) (E : Value → Shared → Prop), tn i s.heap → Q (.ref it) s → wpAny (model P w) A (pyIter (.ref it)) Q E s
abbrev TI := St → Hp → (It → Hp → Prop) → Prop
noncomputable def PIE (X : Cx) (pins : List (Addr × Obj)) (σ : St) (tg : Expr) (R : It → Hp → Prop) (itv : Value) (s2 : Shared) : Prop :=
 ∃ (it : Addr) (fp : List Addr) (tn : Nat → Heap → Prop) (J : It) (H' : Hp), itv = .ref it ∧ Inv X pins σ H' s2 ∧ Turn X.prog X.w X.K tg J fp it tn ∧ tn 0 s2.heap ∧ (∀ b ∈ fp, FpOk X pins H' b) ∧ R J H'
noncomputable def PI (X : Cx) (tg iter : Expr) (wi : TI) : Prop :=
 ∀ (pins : List (Addr × Obj)) (s : Shared) (σ : St) (H : Hp) (R : It → Hp → Prop), Inv X pins σ H s → wi σ H R →
  wpAny (model X.prog X.w) X.A (eval iter X.env) (fun v s1 => wpAny (model X.prog X.w) X.A (pyIter v) (PIE X pins σ tg R) X.xe s1) X.xe s
theorem go_of {M : Model} {A : Around} {E : Value → Shared → Prop} {s : Shared} {tg : Expr} {it : Addr} {u : Value} {o : Obj} {n : String} {vs : Array Value} {Q : Unit → Shared → Prop} (ho : s.heap.get? it = some o) (hc : o.cls = .type n) (hd : o.data = .fields vs)
    (hn : ["enumerate", "zip", "dict_itemiterator", "dict_reverseitemiterator", "odict_iterator", "itertools.zip_longest", "itertools.pairwise"].contains n = false) (hQ : Q () s) : wpAny M A (letOwnedTupleGo tg (.ref it) u) Q E s := by
  unfold letOwnedTupleGo
  cases tg <;> first
    | exact wpAny_pure hQ
    | (cases u <;> first
        | exact wpAny_pure hQ
        | (refine wpAny_bind (wpAny_load ho ?_)
           rw [hc, hd]
           show wpAny M A (if (["enumerate", "zip", "dict_itemiterator", "dict_reverseitemiterator", "odict_iterator", "itertools.zip_longest", "itertools.pairwise"].contains n && vs[0]? == some (rawInt _)) = true then _ else _) Q E s
           rw [if_neg (by intro h; rw [hn, Bool.false_and] at h; cases h)]
           exact wpAny_pure hQ))
noncomputable def Itl (K : PySem.W.Frag) (a : Addr) : It :=
 ⟨fun i H => ∃ xs x, SqL K H a xs ∧ xs[i]? = some x, fun i H x H' => H' = H ∧ ∀ xs, SqL K H a xs → xs[i]? = some x, fun i H => ∃ xs, SqL K H a xs ∧ xs.length ≤ i⟩
noncomputable def Itt (K : PySem.W.Frag) (a : Addr) : It :=
 ⟨fun i H => ∃ xs x, SqT K H a xs ∧ xs[i]? = some x, fun i H x H' => H' = H ∧ ∀ xs, SqT K H a xs → xs[i]? = some x, fun i H => ∃ xs, SqT K H a xs ∧ xs.length ≤ i⟩
noncomputable def Itr (lo : Int) (n : Nat) : It := ⟨fun i _ => i < n, fun i H x H' => H' = H ∧ x = .int (lo + i), fun i _ => n ≤ i⟩
theorem turn_list {P : Program} {w : World} {K : PySem.W.Frag} {tg : Expr} (a it : Addr) : Turn P w K tg (Itl K a) [it] it (fun i h => h.IsListIter it a i) where
 mem := by simp
 obj := fun i h st b hb => by
  have e : b = it := by simpa using hb
  subst e
  obtain ⟨o, e, c, d⟩ := st
  exact ⟨o, e, fun v z => by rw [d] at z; cases z⟩
 keep := fun i h h' st k => st.at fun o e => k it (by simp) o e
 item := by
  intro X hP hw hK hc i pins s σ H E I hf st hg
  subst hP hw hK
  obtain ⟨xs, x, hq, hx⟩ := hg
  obtain ⟨its, rv, p, hz⟩ := I.list hq
  obtain ⟨u, hu, ru⟩ := rv.get hx
  obtain ⟨f0, f1, f2, f3, f4, f5⟩ := hf it (by simp)
  refine wpAny_pyNext_list_item st p.isList (x := u) (by simpa using hu) fun h' st' sb => ?_
  have I1 : Inv X pins σ H { s with heap := h' } := I.turned (t' := s.toks) (fun b o hb e => (sb.2 b hb).trans e) f0 f1 f3 f4 f5
  obtain ⟨o, e, c, d⟩ := id st'
  exact ⟨u, rfl, go_of (s := { s with heap := h' }) e c d (by decide) ⟨x, H, I1, ru, ⟨rfl, fun ys hy => by rw [I.list_inj hy hq]; exact hx⟩, st', fun b hb => (hf b hb).1⟩⟩
 done := by
  intro X hP hw hK hc i pins s σ H E I hf st hg
  subst hP hw hK
  obtain ⟨xs, hq, hx⟩ := hg
  obtain ⟨its, rv, p, hz⟩ := I.list hq
  obtain ⟨f0, f1, f2, f3, f4, f5⟩ := hf it (by simp)
  have hl := rv.length
  exact wpAny_pyNext_list_end (I.ok.hd hc) st p.isList (by simp; omega) fun h' eb => ⟨rfl, I.turned (t' := s.toks) (fun b o hb e => eb b o hb e) f0 f1 f3 f4 f5⟩
 self := fun _ _ _ _ _ st h => wpAny_pyIter_listiter st h
theorem turn_tuple {P : Program} {w : World} {K : PySem.W.Frag} {tg : Expr} (a it : Addr) : Turn P w K tg (Itt K a) [it] it (fun i h => h.IsTupleIter it a i) where
 mem := by simp
 obj := fun i h st b hb => by
  have e : b = it := by simpa using hb
  subst e
  obtain ⟨o, e, c, d⟩ := st
  exact ⟨o, e, fun v z => by rw [d] at z; cases z⟩
 keep := fun i h h' st k => st.at fun o e => k it (by simp) o e
 item := by
  intro X hP hw hK hc i pins s σ H E I hf st hg
  subst hP hw hK
  obtain ⟨xs, x, hq, hx⟩ := hg
  obtain ⟨its, rv, p, hz⟩ := I.tuple hq
  obtain ⟨u, hu, ru⟩ := rv.get hx
  obtain ⟨f0, f1, f2, f3, f4, f5⟩ := hf it (by simp)
  refine wpAny_pyNext_tuple_item st (show s.heap.IsTuple a its.toArray from p) (x := u) (by simpa using hu) fun h' st' sb => ?_
  have I1 : Inv X pins σ H { s with heap := h' } := I.turned (t' := s.toks) (fun b o hb e => (sb.2 b hb).trans e) f0 f1 f3 f4 f5
  obtain ⟨o, e, c, d⟩ := id st'
  exact ⟨u, rfl, go_of (s := { s with heap := h' }) e c d (by decide) ⟨x, H, I1, ru, ⟨rfl, fun ys hy => by rw [I.tuple_inj hy hq]; exact hx⟩, st', fun b hb => (hf b hb).1⟩⟩
 done := by
  intro X hP hw hK hc i pins s σ H E I hf st hg
  subst hP hw hK
  obtain ⟨xs, hq, hx⟩ := hg
  obtain ⟨its, rv, p, hz⟩ := I.tuple hq
  obtain ⟨f0, f1, f2, f3, f4, f5⟩ := hf it (by simp)
  have hl := rv.length
  exact wpAny_pyNext_tuple_end (I.ok.hd hc) st (show s.heap.IsTuple a its.toArray from p) (by simp; omega) fun h' eb => ⟨rfl, I.turned (t' := s.toks) (fun b o hb e => eb b o hb e) f0 f1 f3 f4 f5⟩
 self := fun _ _ _ _ _ st h => wpAny_pyIter_tupleiter st h
theorem turn_range {P : Program} {w : World} {K : PySem.W.Frag} {tg : Expr} (it : Addr) (lo : Int) (n : Nat) : Turn P w K tg (Itr lo n) [it] it (fun i h => IsRangeIter h it (lo + (i : Nat) * 1) ((n : Int) - (i : Nat)) 1) where
 mem := by simp
 obj := fun i h st b hb => by
  have e : b = it := by simpa using hb
  subst e
  exact ⟨_, st, fun v z => by
   have z' : Data.fields _ = Data.cell v := z
   cases z'⟩
 keep := fun i h h' st k => k it (by simp) _ st
 item := by
  intro X hP hw hK hc i pins s σ H E I hf st hg
  subst hP hw hK
  obtain ⟨f0, f1, f2, f3, f4, f5⟩ := hf it (by simp)
  have W := Walks.range (prog := X.prog) (w := X.w) (I.ok.hd hc) it lo 1 n
  refine W.item i s _ _ hg st fun v h' tk hv st' kk => ?_
  obtain ⟨t, rfl⟩ := hv
  have I1 : Inv X pins σ H { s with heap := h', toks := tk } := I.turned (fun b o hb e => kk b o (by simpa using hb) e) f0 f1 f3 f4 f5
  refine ⟨_, rfl, go_of (s := { s with heap := h', toks := tk }) (n := "range_iterator") st' rfl rfl (by decide) ⟨.int (lo + i), H, I1, ⟨t, ?_⟩, ⟨rfl, rfl⟩, st', fun b hb => (hf b hb).1⟩⟩
  rw [Int.mul_one]
 done := by
  intro X hP hw hK hc i pins s σ H E I hf st hg
  subst hP hw hK
  obtain ⟨f0, f1, f2, f3, f4, f5⟩ := hf it (by simp)
  exact wpAny_pyNext_range_end (I.ok.hd hc) st (by have : n ≤ i := hg; omega) fun h' eb => ⟨rfl, I.turned (t' := s.toks) (fun b o hb e => eb b o hb e) f0 f1 f3 f4 f5⟩
 self := fun _ _ _ _ _ st h => wpAny_pyIter_rangeiter st h
end L2
namespace L2
open PySem PySem.Spec PyProof.Rows
section
variable {X : Cx} {tg : Expr}
noncomputable def iList (K : PySem.W.Frag) (tl : TE) : TI := fun σ H R => tl σ H fun x H1 => ∃ a, x = .ref a ∧ (∃ xs, SqL K H1 a xs) ∧ R (Itl K a) H1
noncomputable def iTup (K : PySem.W.Frag) (tl : TE) : TI := fun σ H R => tl σ H fun x H1 => ∃ a, x = .ref a ∧ (∃ xs, SqT K H1 a xs) ∧ R (Itt K a) H1
theorem pi_list {l : Expr} {tl : TE} (hl : PE X l tl) : PI X tg l (iList X.K tl) := by
 intro pins s σ H R I h
 refine thn (hl pins s σ H _ I h) fun v s1 ⟨x, H1, I1, r1, q1⟩ => ?_
 obtain ⟨a, e, ⟨xs, hq⟩, q⟩ := q1
 subst e
 cases r1
 obtain ⟨its, rv, p, hz⟩ := I1.list hq
 refine wpAny_pyIter_list p.isList ?_
 refine ⟨s1.heap.objs.size, [s1.heap.objs.size], _, _, H1, rfl, I1.kept (t' := s1.toks) fun b o e => Heap.get?_push_of_some _ e, turn_list a _, ⟨_, Heap.get?_push_size _ rfl, rfl, rfl⟩, fun b hb => ?_, q⟩
 have e : b = s1.heap.objs.size := by simpa using hb
 subst e
 exact I1.fpOk (Nat.le_refl _) (I1.hok.fresh (Nat.le_refl _))
theorem pi_tup {l : Expr} {tl : TE} (hl : PE X l tl) : PI X tg l (iTup X.K tl) := by
 intro pins s σ H R I h
 refine thn (hl pins s σ H _ I h) fun v s1 ⟨x, H1, I1, r1, q1⟩ => ?_
 obtain ⟨a, e, ⟨xs, hq⟩, q⟩ := q1
 subst e
 cases r1
 obtain ⟨its, rv, p, hz⟩ := I1.tuple hq
 refine wpAny_pyIter_tuple (show s1.heap.IsTuple a its.toArray from p) ?_
 refine ⟨s1.heap.objs.size, [s1.heap.objs.size], _, _, H1, rfl, I1.kept (t' := s1.toks) fun b o e => Heap.get?_push_of_some _ e, turn_tuple a _, ⟨_, Heap.get?_push_size _ rfl, rfl, rfl⟩, fun b hb => ?_, q⟩
 have e : b = s1.heap.objs.size := by simpa using hb
 subst e
 exact I1.fpOk (Nat.le_refl _) (I1.hok.fresh (Nat.le_refl _))
theorem range_it {pins : List (Addr × Obj)} {σ : St} {H : Hp} {s : Shared} {R : It → Hp → Prop} {E : Value → Shared → Prop} {lo hi : Int} {t u v : Tok} {tk : Nat} (I : Inv X pins σ H s) (h1 : -(2 ^ 62) ≤ lo) (h2 : lo < 2 ^ 62) (h3 : -(2 ^ 62) ≤ hi) (h4 : hi < 2 ^ 62)
  (q : R (Itr lo (hi - lo).toNat) H) : wpAny (model X.prog X.w) X.A (pyIter (.ref s.heap.objs.size)) (PIE X pins σ tg R) E { s with heap := s.heap.push { cls := .type "range", data := .fields #[.int lo t, .int hi u, .int 1 v] }, toks := tk } := by
 refine wpAny_pyIter_range (IsRange.new ..) (small_one h1 h2 h3 h4) ?_
 have I1 : Inv X pins σ H { s with heap := s.heap.push { cls := .type "range", data := .fields #[.int lo t, .int hi u, .int 1 v] }, toks := tk } := I.kept fun b o e => Heap.get?_push_of_some _ e
 refine ⟨(s.heap.push { cls := .type "range", data := .fields #[.int lo t, .int hi u, .int 1 v] }).objs.size, [(s.heap.push { cls := .type "range", data := .fields #[.int lo t, .int hi u, .int 1 v] }).objs.size], _, _, H, rfl,
  I1.kept (t' := tk) fun b o e => Heap.get?_push_of_some _ e, turn_range _ lo (hi - lo).toNat, ?_, fun b hb => ?_, q⟩
 ·have e1 : lo + ((0 : Nat) : Int) * 1 = lo := by simp
  have e2 : (((hi - lo).toNat : Nat) : Int) - ((0 : Nat) : Int) = Builtin.Range.rangeSize lo hi 1 := by rw [rangeSize_one]; split <;> omega
  show IsRangeIter _ _ (lo + ((0 : Nat) : Int) * 1) ((((hi - lo).toNat : Nat) : Int) - ((0 : Nat) : Int)) 1
  rw [e1, e2]
  exact Heap.get?_push_size _ rfl
 ·have e : b = (s.heap.push { cls := .type "range", data := .fields #[.int lo t, .int hi u, .int 1 v] }).objs.size := by simpa using hb
  subst e
  exact I1.fpOk (Nat.le_refl _) (I1.hok.fresh (Nat.le_refl _))
noncomputable def iRng1 (ta : TA) : TI := fun σ H R => ta σ H fun vs H1 => ∃ j : Int, vs = [.int j] ∧ -(2 ^ 62) ≤ j ∧ j < 2 ^ 62 ∧ R (Itr 0 j.toNat) H1
theorem pi_range1 {a : Expr} {ta : TA} {p pos : Pos} (hg : Gl X "range") (hm : X.mg "range" = none) (ha : PA X [a] ta) (hs : starEach [a] X.env = [(false, eval a X.env)] := by rfl) : PI X tg (.Call (.Name "range" p) [a] [] pos) (iRng1 ta) := by
 intro pins s σ H R I h
 refine Call_ (ld_blt I hg hm boot_range (PyProof.Rows.callWith_type1 (thn (ha pos pins s σ H _ I h) fun us s1 ⟨vs, H1, I1, r1, q1⟩ => ?_) hs rfl))
 obtain ⟨j, e, q1, q2, q⟩ := q1
 subst e
 cases r1 with
 | cons r rr =>
  cases rr
  obtain ⟨t, rfl⟩ := r
  exact call_range_1 (range_it I1 (by omega) (by omega) q1 q2 (by simpa using q))
noncomputable def tFor (wi : TI) (g : TG) (tb : TS) : TS := fun D σ H => wi σ H fun J H1 => ∃ W : Nat → Nat → St → Hp → Prop, (∃ m, W 0 m σ H1) ∧ ∀ i m σ H, W i m σ H →
 (J.stop i H ∧ D.nx σ H) ∨ (J.go i H ∧ ∃ N : St → Hp → Prop, (∀ σ' H', N σ' H' → ∃ m', m' < m ∧ W (i + 1) m' σ' H') ∧ ∀ x H', J.yld i H x H' → g x σ H' fun σ2 H2 => tb { D with nx := N, ct := N, bk := D.nx } σ2 H2)
noncomputable def pinsAt (fp : List Addr) (h : Heap) : List (Addr × Obj) := fp.filterMap fun b => (h.get? b).map fun o => (b, o)
theorem mem_pinsAt {fp : List Addr} {h : Heap} {b : Addr} {o : Obj} (hb : b ∈ fp) (e : h.get? b = some o) : (b, o) ∈ pinsAt fp h := List.mem_filterMap.mpr ⟨b, hb, by rw [e]; rfl⟩
theorem of_pinsAt {fp : List Addr} {h : Heap} {p : Addr × Obj} (hp : p ∈ pinsAt fp h) : p.1 ∈ fp ∧ h.get? p.1 = some p.2 := by
 obtain ⟨b, hb, e⟩ := List.mem_filterMap.mp hp
 cases q : h.get? b with
 | none => rw [q] at e; cases e
 | some o =>
  rw [q] at e
  have e' : (b, o) = p := Option.some.inj e
  subst e'
  exact ⟨hb, q⟩
theorem Inv.pinned {pins : List (Addr × Obj)} {σ : St} {H : Hp} {s : Shared} {fp : List Addr} (I : Inv X pins σ H s) (hf : ∀ b ∈ fp, FpOk X pins H b) (ho : ∀ b ∈ fp, ∃ o, s.heap.get? b = some o ∧ ∀ v, o.data ≠ .cell v) : Inv X (pins ++ pinsAt fp s.heap) σ H s :=
 I.pins_of fun p hp => (List.mem_append.mp hp).elim (fun z => I.pin p (List.mem_append_right _ z)) fun z => by
  obtain ⟨hb, e⟩ := of_pinsAt z
  obtain ⟨f0, f1, f2, _⟩ := hf p.1 hb
  obtain ⟨o, e', d⟩ := ho p.1 hb
  rw [e] at e'; cases e'
  exact ⟨e, f0, f1, f2, d⟩
theorem Inv.unpinned {pins pl : List (Addr × Obj)} {σ : St} {H : Hp} {s : Shared} (I : Inv X (pins ++ pl) σ H s) : Inv X pins σ H s := I.pins_of fun p hp => I.pin p (List.mem_append_right _ (List.mem_append_left _ hp))
theorem ps_for {iter : Expr} {body : List Stmt} {wi : TI} {g : TG} {tb : TS} {pos : Pos} (hp : PassesOwn (model X.prog X.w) X.A X.env X.xe) (hc : X.calm = true) (hi : PI X tg iter wi) (hg : PG X tg g) (hb : PSs X body tb)
  (hs : ∀ x, foldedSetIterable iter X.env x = pure x := by intro _; rfl) : PS X (.For tg iter body [] pos) (tFor wi g tb) := by
 intro pins s σ H D I h
 refine wpAny_For (thn (hi pins s σ H _ I h) fun v s1 h1 => thn h1 fun itv s2 h2 => ?_) hs
 obtain ⟨it, fp, tn, J, H2, e, I2, T, st2, f2, W, ⟨m0, w0⟩, turn⟩ := h2
 subst e
 have stat : ∀ {H' : Hp}, (∀ b ∈ fp, H' b = none) → ∀ b ∈ fp, FpOk X pins H' b := fun hn b hb => ⟨hn b hb, (f2 b hb).2⟩
 refine codeAny_forLoop_any (fun n s' => ∃ i σ' H', Inv X pins σ' H' s' ∧ tn i s'.heap ∧ (∀ b ∈ fp, H' b = none) ∧ W i n σ' H') ?_ m0 ⟨0, σ, H2, I2, st2, fun b hb => (f2 b hb).1, w0⟩
 rintro n s3 ⟨i, σ3, H3, I3, st3, fr3, w3⟩
 rcases turn i n σ3 H3 w3 with ⟨stop, qn⟩ | ⟨go, N, hN, step⟩
 ·refine wpAny_passesOwn hp (thn (T.done X rfl rfl rfl hc i pins s3 σ3 H3 X.xe I3 (stat fr3) st3 stop) fun r s4 ⟨hr, I4⟩ => ?_)
  subst hr
  exact wpAny_execs_nil ⟨σ3, H3, I4, qn⟩
 ·refine wpAny_passesOwn hp (thn (T.item X rfl rfl rfl hc i pins s3 σ3 H3 X.xe I3 (stat fr3) st3 go) fun r s4 ⟨u, hr, h4⟩ => ?_)
  subst hr
  refine wpAny_passesOwn hp (thn h4 fun _ s5 ⟨x, H5, I5, r5, y5, st5, fr5⟩ => ?_)
  have I5' := I5.pinned (stat fr5) (T.obj _ _ st5)
  refine wpAny_passesOwn hp (thn (hg _ s5 σ3 H5 x u _ I5' r5 (step x H5 y5)) fun _ s6 ⟨σ6, H6, I6, q6⟩ => ?_)
  refine wpAny_passesOwn hp (thn (hb _ s6 σ6 H6 _ I6 q6) fun f s7 q7 => ?_)
  have again : ∀ {σ7 : St} {H7 : Hp}, Inv X (pins ++ pinsAt fp s5.heap) σ7 H7 s7 → N σ7 H7 → ∃ m, m < n ∧ ∃ i σ' H', Inv X pins σ' H' s7 ∧ tn i s7.heap ∧ (∀ b ∈ fp, H' b = none) ∧ W i m σ' H' := fun {σ7 H7} I7 n7 => by
   obtain ⟨m', hm, w7⟩ := hN σ7 H7 n7
   refine ⟨m', hm, i + 1, σ7, H7, I7.unpinned, T.keep _ _ _ st5 fun b hb o e => (I7.pin (b, o) (List.mem_append_right _ (List.mem_append_right _ (mem_pinsAt hb e)))).1, fun b hb => ?_, w7⟩
   obtain ⟨o, e, d⟩ := T.obj _ _ st5 b hb
   exact (I7.pin (b, o) (List.mem_append_right _ (List.mem_append_right _ (mem_pinsAt hb e)))).2.1
  cases f with
  | next => obtain ⟨σ7, H7, I7, n7⟩ := q7; exact again I7 n7
  | cont => obtain ⟨σ7, H7, I7, n7⟩ := q7; exact again I7 n7
  | brk => obtain ⟨σ7, H7, I7, q7⟩ := q7; exact ⟨σ7, H7, I7.unpinned, q7⟩
  | ret v => obtain ⟨x7, σ7, H7, I7, r7, q7⟩ := q7; exact ⟨x7, σ7, H7, I7.unpinned, r7, q7⟩
end
end L2
namespace L2
open PySem PySem.Spec PyProof.Rows
abbrev R2 := V → V → Hp → VK → Prop
noncomputable def OpR (X : Cx) (f : Value → Value → Sem Value) (r : R2) : Prop :=
 ∀ (pins : List (Addr × Obj)) (s : Shared) (σ : St) (H : Hp) (x y : V) (v u : Value) (Q : VK), Inv X pins σ H s → RelV x v → RelV y u → r x y H Q →
  wpAny (model X.prog X.w) X.A (f v u) (EP X pins σ Q) X.xe s
noncomputable def UnR (X : Cx) (f : Value → Sem Value) (r : V → Hp → VK → Prop) : Prop :=
 ∀ (pins : List (Addr × Obj)) (s : Shared) (σ : St) (H : Hp) (x : V) (v : Value) (Q : VK), Inv X pins σ H s → RelV x v → r x H Q →
  wpAny (model X.prog X.w) X.A (f v) (EP X pins σ Q) X.xe s
noncomputable def CallR (X : Cx) (f : Value) (r : List V → Hp → VK → Prop) : Prop :=
 ∀ (pins : List (Addr × Obj)) (s : Shared) (σ : St) (H : Hp) (xs : List V) (us : List Value) (Q : VK), Inv X pins σ H s → Vals xs us → r xs H Q →
  wpAny (model X.prog X.w) X.A (call f us) (EP X pins σ Q) X.xe s
noncomputable def tOp (r : R2) (ta tb : TE) : TE := fun σ H Q => ta σ H fun x H1 => tb σ H1 fun y H2 => r x y H2 Q
noncomputable def tUn (r : V → Hp → VK → Prop) (ta : TE) : TE := fun σ H Q => ta σ H fun x H1 => r x H1 Q
noncomputable def rI (C : Int → Int → Prop) (g : Int → Int → V) : R2 := fun x y H Q => ∃ i j, x = .int i ∧ y = .int j ∧ C i j ∧ Q (g i j) H
noncomputable def rI0 (g : Int → Int → V) : R2 := fun x y H Q => ∃ i j, x = .int i ∧ y = .int j ∧ Q (g i j) H
noncomputable def rU (g : Int → V) : V → Hp → VK → Prop := fun x H Q => ∃ i, x = .int i ∧ Q (g i) H
section
variable {X : Cx} {a b c : Expr} {ta tb tc : TE} {pos : Pos}
theorem binT (ha : PE X a ta) (hb : PE X b tb) {pins : List (Addr × Obj)} {s : Shared} {σ : St} {H : Hp} {R : V → V → Hp → Prop} (I : Inv X pins σ H s)
  (h : ta σ H fun x H1 => tb σ H1 fun y H2 => R x y H2) {Q : Value → Shared → Prop} {f : Value → Value → Sem Value}
  (hf : ∀ v u s2 x y H2, Inv X pins σ H2 s2 → RelV x v → RelV y u → R x y H2 → wpAny (model X.prog X.w) X.A (f v u) Q X.xe s2) :
  wpAny (model X.prog X.w) X.A (eval a X.env) (fun v s₁ => wpAny (model X.prog X.w) X.A (eval b X.env) (fun u s₂ => wpAny (model X.prog X.w) X.A (f v u) Q X.xe s₂) X.xe s₁) X.xe s := by
 refine thn (ha pins s σ H _ I h) fun v s1 ⟨x, H1, I1, r1, q1⟩ => ?_
 refine thn (hb pins s1 σ H1 _ I1 q1) fun u s2 ⟨y, H2, I2, r2, q2⟩ => ?_
 exact hf v u s2 x y H2 I2 r1 r2 q2
theorem pe_op {op : Operator} {r : R2} (ho : OpR X (binaryOp op) r) (ha : PE X a ta) (hb : PE X b tb) : PE X (.BinOp a op b pos) (tOp r ta tb) := by
 intro pins s σ H Q I h
 exact wpAny_BinOp (binT ha hb I h fun v u s2 x y H2 I2 rx ry q => ho pins s2 σ H2 x y v u Q I2 rx ry q)
theorem pe_un {op : UnaryOp} {r : V → Hp → VK → Prop} (ho : UnR X (unaryOp op) r) (ha : PE X a ta) : PE X (.UnaryOp op a pos) (tUn r ta) := by
 intro pins s σ H Q I h
 exact UnaryOp_ (thn (ha pins s σ H _ I h) fun v s1 ⟨x, H1, I1, r1, q1⟩ => ho pins s1 σ H1 x v Q I1 r1 q1)
theorem opI {f : Value → Value → Sem Value} {C : Int → Int → Prop} {g : Int → Int → Int}
  (rule : ∀ (i j : Int) (t u : Tok) (s : Shared) (Q : Value → Shared → Prop) (E : Value → Shared → Prop), C i j → Q (.int (g i j) s.toks) { s with toks := s.toks + 1 } → wpAny (model X.prog X.w) X.A (f (.int i t) (.int j u)) Q E s) :
  OpR X f (rI C fun i j => .int (g i j)) := by
 intro pins s σ H x y v u Q I rx ry h
 obtain ⟨i, j, rfl, rfl, hc, q⟩ := h
 obtain ⟨t, rfl⟩ := rx
 obtain ⟨t', rfl⟩ := ry
 exact rule i j t t' s _ _ hc ⟨.int (g i j), H, I.tok _, ⟨_, rfl⟩, q⟩
theorem opI0 {f : Value → Value → Sem Value} {g : Int → Int → Int}
  (rule : ∀ (i j : Int) (t u : Tok) (s : Shared) (Q : Value → Shared → Prop) (E : Value → Shared → Prop), Q (.int (g i j) s.toks) { s with toks := s.toks + 1 } → wpAny (model X.prog X.w) X.A (f (.int i t) (.int j u)) Q E s) :
  OpR X f (rI0 fun i j => .int (g i j)) := by
 intro pins s σ H x y v u Q I rx ry h
 obtain ⟨i, j, rfl, rfl, q⟩ := h
 obtain ⟨t, rfl⟩ := rx
 obtain ⟨t', rfl⟩ := ry
 exact rule i j t t' s _ _ ⟨.int (g i j), H, I.tok _, ⟨_, rfl⟩, q⟩
theorem opB0 {f : Value → Value → Sem Value} {g : Int → Int → Bool}
  (rule : ∀ (i j : Int) (t u : Tok) (s : Shared) (Q : Value → Shared → Prop) (E : Value → Shared → Prop), Q (.bool (g i j)) s → wpAny (model X.prog X.w) X.A (f (.int i t) (.int j u)) Q E s) :
  OpR X f (rI0 fun i j => .bl (g i j)) := by
 intro pins s σ H x y v u Q I rx ry h
 obtain ⟨i, j, rfl, rfl, q⟩ := h
 obtain ⟨t, rfl⟩ := rx
 obtain ⟨t', rfl⟩ := ry
 exact rule i j t t' s _ _ ⟨.bl (g i j), H, I, rfl, q⟩
noncomputable def CDiv (i j : Int) : Prop := 0 < j ∧ j < 1073741824
noncomputable def CPow (i j : Int) : Prop := 0 ≤ j ∧ j ≤ 1000000 ∧ i.natAbs < 2 ^ 64
noncomputable def CMul (i j : Int) : Prop := (-(2 ^ 64) < i ∧ i < 2 ^ 64) ∨ (-(2 ^ 64) < j ∧ j < 2 ^ 64)
theorem CMul.ok {i j : Int} (h : CMul i j) : IntMulOk i j := by
 rcases h with ⟨h1, h2⟩ | ⟨h1, h2⟩
 ·exact .of_left (intBits_le_64 h1 h2)
 ·exact .of_right (intBits_le_64 h1 h2)
theorem op_add : OpR X (binaryOp .Add) (rI0 fun i j => .int (i + j)) := opI0 fun _ _ _ _ _ _ _ q => add_int q
theorem op_sub : OpR X (binaryOp .Sub) (rI0 fun i j => .int (i - j)) := opI0 fun _ _ _ _ _ _ _ q => sub_int q
theorem op_fdiv : OpR X (binaryOp .FloorDiv) (rI CDiv fun i j => .int (i / j)) := opI fun i j _ _ _ _ _ hc q => by
 have h1 : (0 : Int) < j := hc.1
 have h2 : j < 1073741824 := hc.2
 exact floordiv_int (by omega) (by rw [Int.fdiv_eq_ediv_of_nonneg i (by omega)]; exact q) (.inl (PyProof.noPylong_small (by omega)))
theorem op_mod : OpR X (binaryOp .Mod) (rI (fun _ j => 0 < j) fun i j => .int (i % j)) := opI fun i j _ _ _ _ _ hc q => by
 have h1 : (0 : Int) < j := hc
 exact mod_int' (by omega) (by rw [Int.fmod_eq_emod_of_nonneg i (by omega)]; exact q)
theorem op_pow : OpR X (binaryOp .Pow) (rI CPow fun i j => .int (i ^ j.toNat)) := opI fun _ _ _ _ _ _ _ hc q => pow_int_small hc.1 hc.2.1 hc.2.2 q
theorem unI {f : Value → Sem Value} {g : Int → Int}
  (rule : ∀ (i : Int) (t : Tok) (s : Shared) (Q : Value → Shared → Prop) (E : Value → Shared → Prop), Q (.int (g i) s.toks) { s with toks := s.toks + 1 } → wpAny (model X.prog X.w) X.A (f (.int i t)) Q E s) :
  UnR X f (rU fun i => .int (g i)) := by
 intro pins s σ H x v Q I rx h
 obtain ⟨i, rfl, q⟩ := h
 obtain ⟨t, rfl⟩ := rx
 exact rule i t s _ _ ⟨.int (g i), H, I.tok _, ⟨_, rfl⟩, q⟩
theorem un_neg : UnR X (unaryOp .USub) (rU fun i => .int (-i)) := unI fun _ _ _ _ _ q => neg_int q
end
section
variable {X : Cx} {a b c : Expr} {ta tb tc : TE} {pos : Pos}
theorem fin_bl {pins : List (Addr × Obj)} {σ : St} {H : Hp} {s : Shared} {Q : VK} {k k' : Bool} (I : Inv X pins σ H s) (q : Q (.bl k) H) (e : k = k') : EP X pins σ Q (.bool k') s := by
 subst e
 exact ⟨.bl k, H, I, rfl, q⟩
theorem op_lt : OpR X (compareOp .Lt) (rI0 fun i j => .bl (decide (i < j))) := opB0 fun _ _ _ _ _ _ _ q => lt_int q
theorem op_le : OpR X (compareOp .LtE) (rI0 fun i j => .bl (decide (i ≤ j))) := opB0 fun _ _ _ _ _ _ _ q => le_int q
theorem op_gt : OpR X (compareOp .Gt) (rI0 fun i j => .bl (decide (j < i))) := opB0 fun _ _ _ _ _ _ _ q => gt_int q
theorem op_ge : OpR X (compareOp .GtE) (rI0 fun i j => .bl (decide (j ≤ i))) := opB0 fun _ _ _ _ _ _ _ q => ge_int q
theorem op_notN : OpR X (compareOp .IsNot) (fun x y H Q => y = .non ∧ Q (.bl (!decide (x = .non))) H) := by
 intro pins s σ H x y v u Q I rx ry h
 obtain ⟨rfl, q⟩ := h
 cases ry
 refine isnot_none_gen (fin_bl I q ?_)
 cases x <;> first
  | (cases rx; rfl)
  | (obtain ⟨t, rfl⟩ := rx; rfl)
theorem OpR.or {f : Value → Value → Sem Value} {r r' : R2} (h : OpR X f r) (h' : OpR X f r') : OpR X f (fun x y H Q => r x y H Q ∨ r' x y H Q) := by
 intro pins s σ H x y v u Q I rx ry q
 rcases q with q | q
 ·exact h pins s σ H x y v u Q I rx ry q
 ·exact h' pins s σ H x y v u Q I rx ry q
theorem nomark (b : Expr) {op : CmpOp} (h : op ≠ .In := by decide) (h2 : op ≠ .NotIn := by decide) : behindInMarks op b = false := by
 have e1 : (op == CmpOp.In) = false := by cases op <;> first | rfl | exact absurd rfl h
 have e2 : (op == CmpOp.NotIn) = false := by cases op <;> first | rfl | exact absurd rfl h2
 cases b <;> simp [behindInMarks, e1, e2]
theorem pe_cmpR {op : CmpOp} {r : R2} (ho : OpR X (compareOp op) r) (ha : PE X a ta) (hb : PE X b tb) (hm : behindInMarks op b = false) : PE X (.Compare a [op] [b] pos) (tOp r ta tb) := by
 intro pins s σ H Q I h
 exact wpAny_Compare1 (binT ha hb I h fun v u s2 x y H2 I2 rx ry q => ho pins s2 σ H2 x y v u Q I2 rx ry q) hm
noncomputable def tTest (t : TE) : TT := fun σ H Q => t σ H fun x H' => ∃ k, x = .bl k ∧ Q k H'
theorem pt_cmpR {op : CmpOp} {r : R2} (ho : OpR X (compareOp op) r) (ha : PE X a ta) (hb : PE X b tb) (hm : behindInMarks op b = false) : PT X (.Compare a [op] [b] pos) (tTest (tOp r ta tb)) := by
 intro pins s σ H Q I h
 refine wpAny_isTrue_Compare1 (thn (ha pins s σ H _ I h) fun v s1 ⟨x, H1, I1, r1, q1⟩ => thn (hb pins s1 σ H1 _ I1 q1) fun u s2 ⟨y, H2, I2, r2, q2⟩ =>
  thn (ho pins s2 σ H2 x y v u _ I2 r1 r2 q2) fun c s3 ⟨z, H3, I3, r3, k, e, q3⟩ => ?_) hm
 subst e
 cases r3
 exact wpAny_truthy_bool ⟨H3, I3, q3⟩
theorem line63 : (sizeLine : Nat) < 2 ^ 63 := by rw [sizeLine_eq]; decide
theorem vals1 {x : V} {us : List Value} (r : Vals [x] us) : ∃ u, us = [u] ∧ RelV x u := by
 cases r with
 | cons r1 r2 => cases r2; exact ⟨_, rfl, r1⟩
theorem vals2 {x y : V} {us : List Value} (r : Vals [x, y] us) : ∃ u w', us = [u, w'] ∧ RelV x u ∧ RelV y w' := by
 cases r with
 | cons r1 r2 =>
  cases r2 with
  | cons r3 r4 => cases r4; exact ⟨_, _, rfl, r1, r3⟩
theorem call_abs : CallR X (.builtin "abs") (fun xs H Q => ∃ i, xs = [.int i] ∧ Q (.int (if i < 0 then -i else i)) H) := by
 intro pins s σ H xs us Q I r h
 obtain ⟨i, rfl, q⟩ := h
 obtain ⟨u, rfl, t, rfl⟩ := vals1 r
 exact call_abs_int fun u tk => ⟨.int (if i < 0 then -i else i), H, I.tok _, ⟨_, rfl⟩, q⟩
end
end L2
namespace L2
open PySem PySem.Spec PyProof.Rows
structure ObjM (h : Heap) (x dx C : Addr) (mA : Str → Option Value) : Prop where
 obj : h.get? x = some (PySem.W.instObj C dx)
 ns : h.Ns1 dx mA
 ne : dx ≠ x
theorem lookIn_ns {h : Heap} {dx : Addr} {mA : Str → Option Value} (n : h.Ns1 dx mA) : ∃ od, h.get? dx = some od ∧ ∀ name, PySem.W.lookIn name od = some (mA name) := by
 obtain ⟨o, es, ep, ho, hd, hk, _, hm⟩ := n
 refine ⟨o, ho, fun name => ?_⟩
 have e := hm name
 unfold nsFind findBy at e
 rw [← Array.find?_toList] at e
 unfold PySem.W.lookIn
 rw [hd]
 dsimp only
 split
 ·rename_i y q
  rw [q] at e
  exact congrArg some e
 ·rename_i q
  rw [q] at e
  have a : es.toList.any (·.refKey) = false := by
   rw [List.any_eq_false]
   intro y hy
   obtain ⟨z, t, hkey⟩ := hk y (Array.mem_toList_iff.mp hy)
   simp [DictEntry.refKey, hkey]
  have a' : ¬ es.toList.any (·.refKey) = true := by rw [a]; exact Bool.false_ne_true
  rw [if_neg a']
  exact congrArg some e
theorem ObjM.look {h : Heap} {x dx C : Addr} {mA : Str → Option Value} (I : ObjM h x dx C mA) : ∃ od, PySem.W.InstAt h x (PySem.W.instObj C dx) C (some od) ∧ ∀ name, PySem.W.lookIn name od = some (mA name) :=
 let ⟨od, ho, hl⟩ := lookIn_ns I.ns
 ⟨od, ⟨I.obj, rfl, rfl, ho⟩, hl⟩
section
variable {prog : Program} {w : World} {A : Around} {E : Value → Shared → Prop} {s : Shared} {K : PySem.W.Frag} {x dx C f : Addr} {mA : Str → Option Value} {name : Str} {v : Value}
theorem get_map {expr : Bool} {Q : Value → Shared → Prop} (X : K.In s.heap) (I : ObjM s.heap x dx C mA) (hg : PySem.W.plainGet K C name = true) (hh : PySem.W.hasDictIn K C = true)
  (ha : PySem.W.findIn K (.ref C) name = some none) (hv : mA name = some v) (hv' : PySem.W.handedIn v = true) (h : Q v { s with toks := s.toks + 1 }) :
  wpAny (model prog w) A (getAttr (.ref x) name expr) Q E s := by
 obtain ⟨od, J, hl⟩ := I.look
 exact PySem.W.get_value X J (PySem.W.plainGet_of hg).1 (PySem.W.findObj_own hh ha rfl (by rw [hl, hv])) hv' h
theorem get_meth {pl : Sem Bool} {Q : Value × List Value → Shared → Prop} (X : K.In s.heap) (I : ObjM s.heap x dx C mA) (hg : PySem.W.plainGet K C name = true)
  (hf : PySem.W.findIn K (.ref C) name = some (some (.ref f))) (ht : PySem.W.isFn K (.ref f) = true) (hv : mA name = none) (h : Q (.ref f, [.ref x]) s) :
  wpAny (model prog w) A (getMethod (.ref x) name pl) Q E s := by
 obtain ⟨od, J, hl⟩ := I.look
 exact PySem.W.method_fn X J (PySem.W.plainGet_of hg).1 (PySem.W.plainGet_of hg).2 hf (beq_iff_eq.mp ht) (by show (PySem.W.lookIn name od).map (·.isSome) = some false; rw [hl, hv]; rfl) h
theorem set_map {ns : List Str} {Q : Unit → Shared → Prop} (X : K.In s.heap) (I : ObjM s.heap x dx C mA)
  (hs : PySem.W.findIn K (.ref C) "__setattr__" = some (some (.builtin "object.__setattr__"))) (hp : PySem.W.plainOver K C = true) (ht : PySem.W.takerIn K C name = some none) (hh : PySem.W.hasDictIn K C = true)
  (hw : PySem.Within mA ns) (hsz : ns.length ≤ sizeLine)
  (h : ∀ h', ObjM h' x dx C (fun y => if y = name then some v else mA y) → Heap.SameBut dx s.heap h' → Q () { s with heap := h', toks := s.toks + 2 }) :
  wpAny (model prog w) A (setAttr (.ref x) name v) Q E s := by
 obtain ⟨od, J, hl⟩ := I.look
 refine PySem.W.set_plain X J hs (PySem.W.osa_open (s := { s with toks := s.toks + 1 }) (r := none) X J hp ht fun b => ?_)
 obtain ⟨cd, hc, hd'⟩ := PySem.W.any_some hh
 have hx : s.heap.get? x = some ⟨.ref C, some dx, .plain, #[]⟩ := I.obj
 refine wpAny_bind (wpAny_pure (wpAny_bind (wpAny_bind (wpAny_loadPart hx (wpAny_bind (PySem.W.Looks.here (s := { s with toks := s.toks + 1 }) (PySem.W.looks_clsIn X hc) ?_))))))
 rw [hd']
 refine wpAny_pure (a := some dx) (wpAny_bind (wpAny_pure (wpAny_bind ?_)))
 refine wpAny_nsSet1 (s := { s with toks := s.toks + 1 }) I.ns fun h' hn2 hs2 => ?_
 obtain ⟨oD, esD, epD, hoD, hdD, hcD⟩ := hn2.count (PySem.Within.cons name v hw)
 refine wpAny_bind (wpAny_lookBehind hoD (by rw [hdD]; exact pastItsLine_dict (Nat.le_trans hcD (by rw [List.length_cons]; omega))) ?_)
 exact wpAny_pure (h _ ⟨(hs2.2 _ (Ne.symm I.ne)).trans I.obj, hn2, I.ne⟩ hs2)
theorem make_map {R : Result → Shared → Prop} {vs : List Value} {kw : List (Str × Value)} (X : K.In s.heap) (hm : PySem.W.makesIn K C = true)
  (hi : PySem.W.findIn K (.ref C) "__init__" = some (some (.ref f))) (hf : PySem.W.typeIn K (.ref f) = some (.type "function"))
  (h : codeAny (model prog w) (A.under (.builtin "type.__call__" ⟨.ref C :: vs, kw⟩)) (.call (.ref f) ⟨.ref (s.heap.objs.size + 1) :: vs, kw⟩) (PySem.W.InitBack (s.heap.objs.size + 1) R)
   { s with heap := (s.heap.push PySem.W.emptyDict).push (PySem.W.instObj C s.heap.objs.size) }) :
  codeAny (model prog w) A (.call (.ref C) ⟨vs, kw⟩) R s := by
 obtain ⟨hh, g, d, t, os⟩ := s
 exact PySem.W.make_core (PySem.W.makes_of X hm) (PySem.W.looks_findIn X hi) (fun self => PySem.W.bind_fn X self hf) (.inl rfl) h
end
noncomputable def putF (f : Str) (v : V) : List (Str × V) → List (Str × V)
 | [] => [(f, v)]
 | (g, x) :: r => if g = f then (g, v) :: r else (g, x) :: putF f v r
theorem lookup_putF (f g : Str) (v : V) : ∀ fs : List (Str × V), (putF f v fs).lookup g = if g = f then some v else fs.lookup g
 | [] => by
  show List.lookup g [(f, v)] = _
  by_cases h : g = f
  ·have hb : (g == f) = true := beq_iff_eq.mpr h
   simp only [List.lookup, hb, if_pos h]
  ·have hb : (g == f) = false := beq_eq_false_iff_ne.mpr h
   simp only [List.lookup, hb, if_neg h]
 | (k, x) :: r => by
  have ih := lookup_putF f g v r
  rw [show putF f v ((k, x) :: r) = (if k = f then (k, v) :: r else (k, x) :: putF f v r) from rfl]
  by_cases hk : k = f
  ·rw [if_pos hk]
   by_cases h : g = k
   ·have hb : (g == k) = true := beq_iff_eq.mpr h
    simp only [List.lookup, hb, if_pos (h.trans hk)]
   ·have hb : (g == k) = false := beq_eq_false_iff_ne.mpr h
    simp only [List.lookup, hb, if_neg (fun e : g = f => h (e.trans hk.symm))]
  ·rw [if_neg hk]
   by_cases h : g = k
   ·have hb : (g == k) = true := beq_iff_eq.mpr h
    simp only [List.lookup, hb, if_neg (fun e : g = f => hk (h.symm.trans e))]
   ·have hb : (g == k) = false := beq_eq_false_iff_ne.mpr h
    simp only [List.lookup, hb]
    exact ih
theorem keys_putF (f : Str) (v : V) : ∀ fs : List (Str × V), f ∈ (putF f v fs).map (·.1) ∧ ∀ g, g ∈ fs.map (·.1) → g ∈ (putF f v fs).map (·.1)
 | [] => ⟨by simp [putF], fun g h => by simp at h⟩
 | (k, x) :: r => by
  obtain ⟨i1, i2⟩ := keys_putF f v r
  rw [show putF f v ((k, x) :: r) = (if k = f then (k, v) :: r else (k, x) :: putF f v r) from rfl]
  by_cases hk : k = f
  ·rw [if_pos hk]
   subst hk
   exact ⟨by simp, fun g h => by simpa using h⟩
  ·rw [if_neg hk]
   refine ⟨?_, fun g h => ?_⟩
   ·rw [List.map_cons]
    exact List.mem_cons_of_mem _ i1
   ·rw [List.map_cons] at h ⊢
    rcases List.mem_cons.mp h with e | e
    ·exact List.mem_cons.mpr (.inl e)
    ·exact List.mem_cons_of_mem _ (i2 g e)
theorem length_putF (f : Str) (v : V) : ∀ fs : List (Str × V), (putF f v fs).length ≤ fs.length + 1
 | [] => by simp [putF]
 | (k, x) :: r => by
  have ih := length_putF f v r
  rw [show putF f v ((k, x) :: r) = (if k = f then (k, v) :: r else (k, x) :: putF f v r) from rfl]
  by_cases hk : k = f
  ·rw [if_pos hk, List.length_cons, List.length_cons]; omega
  ·rw [if_neg hk, List.length_cons, List.length_cons]; omega
theorem RelO.some_of {v : V} {o : Option Value} (r : RelO (some v) o) : ∃ u, o = some u ∧ RelV v u := by
 cases o with
 | none => exact (show False from r).elim
 | some u => exact ⟨u, rfl, r⟩
theorem RelO.none_of {o : Option Value} (r : RelO none o) : o = none := by
 cases o with
 | none => rfl
 | some u => exact (show False from r).elim
theorem handed_of {v : V} {u : Value} (r : RelV v u) : PySem.W.handedIn u = true := by
 cases v with
 | non => cases (show u = Value.none from r); rfl
 | bl b => cases (show u = Value.bool b from r); rfl
 | int i => obtain ⟨t, e⟩ := (show ∃ t, u = Value.int i t from r); cases e; rfl
 | str x => obtain ⟨t, e⟩ := (show ∃ t, u = Value.str x t from r); cases e; rfl
 | byt b => obtain ⟨t, e⟩ := (show ∃ t, u = Value.bytes b t from r); cases e; rfl
 | flt b => obtain ⟨t, e⟩ := (show ∃ t, u = Value.float b t from r); cases e; rfl
 | ref a => cases (show u = Value.ref a from r); rfl
 | ty n => cases (show u = Value.type n from r); rfl
section
variable {P : Program} {w : World} {H H' : Hp} {h h' : Heap} {a C dx : Addr} {fs fs' : List (Str × V)}
theorem ins_get (hok : HOk P w H h) (e : H a = some (.ins C dx fs)) : ∃ mA, ObjM h a dx C mA ∧ (∀ f, RelO (fs.lookup f) (mA f)) ∧ PySem.Within mA (fs.map (·.1)) ∧ fs.length ≤ 1000 ∧ H dx = some (.own a) := by
 obtain ⟨d, z, ne, ob, mA, n, r, q⟩ := (show ObjOk P w H h a (.ins C dx fs) from hok a _ e)
 exact ⟨mA, ⟨ob, n, ne⟩, r, q, z, d⟩
end
structure Cls (K : PySem.W.Frag) (C : Addr) : Prop where
 pg : PySem.W.plainGet K C Str.empty = true
 hd : PySem.W.hasDictIn K C = true
 po : PySem.W.plainOver K C = true
 sa : PySem.W.findIn K (.ref C) "__setattr__" = some (some (.builtin "object.__setattr__"))
theorem Cls.get {K : PySem.W.Frag} {C : Addr} (c : Cls K C) (f : Str) : PySem.W.plainGet K C f = true := c.pg
noncomputable def NoAttr (K : PySem.W.Frag) (C : Addr) (f : Str) : Prop := PySem.W.findIn K (.ref C) f = some none
theorem NoAttr.taker {K : PySem.W.Frag} {C : Addr} {f : Str} (n : NoAttr K C f) : PySem.W.takerIn K C f = some none := by
 unfold PySem.W.takerIn
 rw [show PySem.W.findIn K (.ref C) f = some none from n]
 rfl
structure Con (K : PySem.W.Frag) (C : Addr) (f : Str) (v : V) (u : Value) : Prop where
 at_ : PySem.W.findIn K (.ref C) f = some (some u)
 rel : RelV v u
 get : PySem.W.specialIn K u "__get__" = some none
 cp : PySem.W.copiedNames.contains f = false
structure Meth (K : PySem.W.Frag) (C : Addr) (m : Str) (f : Addr) : Prop where
 at_ : PySem.W.findIn K (.ref C) m = some (some (.ref f))
 fn : PySem.W.isFn K (.ref f) = true
 kp : PySem.W.keepIn K (.ref f) = true
section
variable {X : Cx} {pins : List (Addr × Obj)} {σ : St} {H : Hp} {s : Shared} {a C dx : Addr} {fs : List (Str × V)} {f : Str} {v : V} {A : Around} {E : Value → Shared → Prop}
theorem getattr_ok {b : Bool} {Q : Value → Shared → Prop} (I : Inv X pins σ H s) (e : H a = some (.ins C dx fs)) (c : Cls X.K C) (n : NoAttr X.K C f) (l : fs.lookup f = some v)
  (h : ∀ u s', Inv X pins σ H s' → RelV v u → Q u s') : wpAny (model X.prog X.w) A (getAttr (.ref a) f b) Q E s := by
 obtain ⟨mA, O, r, _, _, _⟩ := ins_get I.hok e
 obtain ⟨u, hu, ru⟩ := RelO.some_of (v := v) (o := mA f) (by rw [← l]; exact r f)
 exact get_map I.kIn O (c.get f) c.hd n hu (handed_of ru) (h u _ (I.tok _) ru)
theorem getmeth_ok {m : Str} {g : Addr} {pl : Sem Bool} {Q : Value × List Value → Shared → Prop} (I : Inv X pins σ H s) (e : H a = some (.ins C dx fs)) (c : Cls X.K C) (k : Meth X.K C m g) (l : fs.lookup m = none)
  (h : Q (.ref g, [.ref a]) s) : wpAny (model X.prog X.w) A (getMethod (.ref a) m pl) Q E s := by
 obtain ⟨mA, O, r, _, _, _⟩ := ins_get I.hok e
 have hn : mA m = none := RelO.none_of (by rw [← l]; exact r m)
 exact get_meth I.kIn O (c.get m) k.at_ k.fn hn h
theorem setattr_ok {y : V} {u : Value} {Q : Unit → Shared → Prop} (I : Inv X pins σ H s) (e : H a = some (.ins C dx fs)) (c : Cls X.K C) (n : NoAttr X.K C f) (hl : fs.length < 1000) (ry : RelV y u)
  (h : ∀ s', Inv X pins σ (upd H a (.ins C dx (putF f y fs))) s' → Q () s') : wpAny (model X.prog X.w) A (setAttr (.ref a) f u) Q E s := by
 obtain ⟨mA, O, r, wi, _, ho⟩ := ins_get I.hok e
 have hz : (fs.map (·.1)).length ≤ sizeLine := by rw [List.length_map, sizeLine_eq]; omega
 refine set_map I.kIn O c.sa c.po n.taker c.hd wi hz fun h' O' sb => h _ ?_
 have hd : ∃ o, h'.get? dx = some o := let ⟨o, _, _, e', _⟩ := O'.ns; ⟨o, e'⟩
 refine I.write (x := a) (e := dx) (by rw [e]; exact True.intro) (.inr ho) (fun b q hb z => (sb.2 b hb).trans z) hd ?_
 refine ⟨by rw [upd_ne O.ne]; exact ho, ?_, O.ne, O'.obj, _, O'.ns, fun g => ?_, fun g hg => ?_⟩
 ·have := length_putF f y fs; omega
 ·show RelO ((putF f y fs).lookup g) (if g = f then some u else mA g)
  rw [lookup_putF]
  by_cases q : g = f
  ·rw [if_pos q, if_pos q]; exact ry
  ·rw [if_neg q, if_neg q]; exact r g
 ·by_cases q : g = f
  ·rw [q]; exact (keys_putF f y fs).1
  ·refine (keys_putF f y fs).2 g (wi g fun z => hg ?_)
   show (if g = f then some u else mA g) = none
   rw [if_neg q]; exact z
theorem Inv.made (I : Inv X pins σ H s) : Inv X pins σ (upd (upd H s.heap.objs.size (.own (s.heap.objs.size + 1))) (s.heap.objs.size + 1) (.ins C s.heap.objs.size []))
  { s with heap := (s.heap.push PySem.W.emptyDict).push (PySem.W.instObj C s.heap.objs.size) } := by
 have e1 : (s.heap.push PySem.W.emptyDict).get? s.heap.objs.size = some PySem.W.emptyDict := Heap.get?_push_size s.heap rfl
 have e2 : ((s.heap.push PySem.W.emptyDict).push (PySem.W.instObj C s.heap.objs.size)).get? (s.heap.objs.size + 1) = some (PySem.W.instObj C s.heap.objs.size) := by
  have := Heap.get?_push_size (s.heap.push PySem.W.emptyDict) (o := PySem.W.instObj C s.heap.objs.size) rfl
  rwa [Heap.size_push] at this
 have e3 : (s.heap.push PySem.W.emptyDict).Ns s.heap.objs.size (fun _ => none) := ⟨PySem.W.emptyDict, #[], _, e1, rfl, (fun e he => absurd he (by simp)), fun _ => rfl⟩
 have I1 := I.laid (a := s.heap.objs.size) (o := .own (s.heap.objs.size + 1)) (h' := s.heap.push PySem.W.emptyDict) (t' := s.toks) (fun b u q => Heap.get?_push_of_some _ q) (Nat.le_refl _) ⟨_, e1⟩
 refine I1.laid (a := s.heap.objs.size + 1) (o := .ins C s.heap.objs.size []) (t' := s.toks) (fun b u q => Heap.get?_push_of_some _ q) (Nat.le_of_eq (Heap.size_push _ _)) ?_
 have ne : s.heap.objs.size ≠ s.heap.objs.size + 1 := Nat.ne_of_lt (Nat.lt_succ_self _)
 refine ⟨by rw [upd_ne ne, upd_same], Nat.zero_le _, ne, e2, fun _ => none, (Heap.Ns1.of_empty e3).at fun o q => Heap.get?_push_of_some _ q, fun _ => True.intro, fun y hy => absurd rfl hy⟩
theorem attr_of {prog : Program} {w : World} {env : Env} {e : Expr} {f : Str} {pos : Pos} {s : Shared} {Q : Value → Shared → Prop} (hb : attributeBase e f env (eval e env) = eval e env)
  (h : wpAny (model prog w) A (eval e env) (fun o s₁ => wpAny (model prog w) A (getAttr o f true) Q E s₁) E s) : wpAny (model prog w) A (eval (.Attribute e f pos) env) Q E s :=
 Attribute_any_ h (by rw [arm_eval_Attribute, hb])
end
noncomputable def tFld (K : PySem.W.Frag) (ta : TE) (f : Str) : TE := fun σ H Q => ta σ H fun x H1 => ∃ a C dx fs v, x = .ref a ∧ H1 a = some (.ins C dx fs) ∧ Cls K C ∧ NoAttr K C f ∧ fs.lookup f = some v ∧ Q v H1
noncomputable def sFld (K : PySem.W.Frag) (ta tv : TE) (f : Str) : TS := fun D σ H => tv σ H fun y H1 => ta σ H1 fun x H2 => ∃ a C dx fs, x = .ref a ∧ H2 a = some (.ins C dx fs) ∧ Cls K C ∧ NoAttr K C f ∧ fs.length < 1000 ∧
 D.nx σ (upd H2 a (.ins C dx (putF f y fs)))
noncomputable def InOp (X : Cx) (op : Operator) (rd : V → V → Hp → VK → Prop) : Prop :=
 ∀ (pins : List (Addr × Obj)) (s : Shared) (σ : St) (H : Hp) (x y : V) (u v : Value) (Q : VK), Inv X pins σ H s → RelV x u → RelV y v → rd x y H Q → wpAny (model X.prog X.w) X.A (inplaceOp op u v) (EP X pins σ Q) X.xe s
noncomputable def sFldAug (K : PySem.W.Frag) (ta tv : TE) (rd : V → V → Hp → VK → Prop) (f : Str) : TS := fun D σ H => ta σ H fun x H1 => ∃ a C dx fs v, x = .ref a ∧ H1 a = some (.ins C dx fs) ∧ Cls K C ∧ NoAttr K C f ∧ fs.lookup f = some v ∧
 tv σ H1 fun y H2 => rd v y H2 fun z H3 => ∃ dx' fs', H3 a = some (.ins C dx' fs') ∧ fs'.length < 1000 ∧ D.nx σ (upd H3 a (.ins C dx' (putF f z fs')))
section
variable {X : Cx} {o e value : Expr} {f : Str} {pos pos' tpos : Pos} {ta tv : TE}
theorem pe_fld (he : PE X e ta) (hb : attributeBase e f X.env (eval e X.env) = eval e X.env) : PE X (.Attribute e f pos) (tFld X.K ta f) := by
 intro pins s σ H Q I h
 refine attr_of hb (thn (he pins s σ H _ I h) fun u s1 ⟨x, H1, I1, rx, a, C, dx, fs, v, ex, ea, c, n, l, q⟩ => ?_)
 subst ex
 obtain rfl : u = Value.ref a := rx
 exact getattr_ok I1 ea c n l fun u' s2 I2 ru => ⟨v, H1, I2, ru, q⟩
theorem ps_fld (ha : PE X o ta) (hv : PE X value tv) (hs : swapsWith value (some (.Attribute o f pos')) pos.line X.env = pure false) : PS X (.Assign [.Attribute o f pos'] value pos) (sFld X.K ta tv f) := by
 intro pins s σ H D I h
 refine plainObj_wpAny_Assign_Attribute (thn (hv pins s σ H _ I h) fun u s1 ⟨y, H1, I1, ry, q⟩ => thn (ha pins s1 σ H1 _ I1 q) fun ov s2 ⟨x, H2, I2, rx, a, C, dx, fs, ex, ea, c, n, l, q2⟩ => ?_) hs
 subst ex
 obtain rfl : ov = Value.ref a := rx
 exact setattr_ok I2 ea c n l ry fun s3 I3 => ⟨σ, _, I3, q2⟩
theorem ps_fldaug {op : Operator} {rd : V → V → Hp → VK → Prop} (ha : PE X o ta) (hv : PE X value tv) (hop : InOp X op rd) : PS X (.AugAssign (.Attribute o f tpos) op value pos) (sFldAug X.K ta tv rd f) := by
 intro pins s σ H D I h
 refine wpAny_AugAssign_AttributeAny (thn (ha pins s σ H _ I h) fun ov s1 ⟨x, H1, I1, rx, a, C, dx, fs, v, ex, ea, c, n, l, q⟩ => ?_)
 subst ex
 obtain rfl : ov = Value.ref a := rx
 refine getattr_ok I1 ea c n l fun u s2 I2 ru => thn (hv pins s2 σ H1 _ I2 q) fun w3 s3 ⟨y, H2, I3, ry, q3⟩ => thn (hop pins s3 σ H2 v y u w3 _ I3 ru ry q3) fun w4 s4 ⟨z, H3, I4, rz, dx', fs', ea', l', q4⟩ => ?_
 exact setattr_ok I4 ea' c n l' rz fun s5 I5 => ⟨σ, _, I5, q4⟩
noncomputable def rAdd : V → V → Hp → VK → Prop := fun x y H Q => ∃ i j, x = .int i ∧ y = .int j ∧ Q (.int (i + j)) H
theorem in_add : InOp X .Add rAdd := by
 rintro pins s σ H x y u v Q I rx ry ⟨i, j, rfl, rfl, q⟩
 obtain ⟨t, rfl⟩ := (show ∃ t, u = Value.int i t from rx)
 obtain ⟨t', rfl⟩ := (show ∃ t', v = Value.int j t' from ry)
 exact PyProof.Rows.iadd_int ⟨.int (i + j), H, I.tok _, ⟨_, rfl⟩, q⟩
end
section
variable {X : Cx} {pins : List (Addr × Obj)} {σ : St} {H : Hp} {s : Shared} {A : Around} {E : Value → Shared → Prop} {Q : Value → Shared → Prop} {c : Value} {b : Bool}
inductive TyOf (K : PySem.W.Frag) (H : Hp) : V → Value → Prop where
 | non : TyOf K H .non (.type "NoneType")
 | bl (x : Bool) : TyOf K H (.bl x) (.type "bool")
 | int (i : Int) : TyOf K H (.int i) (.type "int")
 | str (x : Str) : TyOf K H (.str x) (.type "str")
 | flt (x : UInt64) : TyOf K H (.flt x) (.type "float")
 | lst {a : Addr} {xs : List V} (e : H a = some (.lst xs)) : TyOf K H (.ref a) (.type "list")
 | frz {a : Addr} {o : Obj} {xs : List V} (e : H a = some (.frz o (.lst xs))) : TyOf K H (.ref a) (.type "list")
 | tup {a : Addr} {xs : List V} (e : H a = some (.tup xs)) : TyOf K H (.ref a) (.type "tuple")
 | dK {a : Addr} {kvs : List (Key × V)} (e : H a = some (.dK kvs)) : TyOf K H (.ref a) (.type "dict")
 | dT {a : Addr} {kvs : List (List Key × V)} (e : H a = some (.dT kvs)) : TyOf K H (.ref a) (.type "dict")
 | ins {a C dx : Addr} {fs : List (Str × V)} (e : H a = some (.ins C dx fs)) (cl : Cls K C) (ha : PySem.W.findIn K (.ref C) "__class__" = some (some (.builtin "object.__class__")))
   (hn : PySem.W.specialIn K (.builtin "object.__class__") "__get__" = some (some (.builtin "getset_descriptor.__get__"))) (htk : PySem.W.takesIn K (.builtin "object.__class__") = some true)
   (hm : PySem.W.mroIn K C (.type "object") = some true) : TyOf K H (.ref a) (.ref C)
theorem isinst_ok {x : V} {u t : Value} (I : Inv X pins σ H s) (rx : RelV x u) (ty : TyOf X.K H x t) (e : PySem.W.kitOne X.K t c = some b) (h : ∀ tk, Q (.bool b) { s with toks := tk }) :
  wpAny (model X.prog X.w) A (call (.builtin "isinstance") [u, c]) Q E s := by
 cases ty with
 | non => cases (show u = Value.none from rx); exact PySem.W.kia_one PySem.W.kitx_none I.kIn True.intro e (fun z => nomatch z) h
 | bl y => cases (show u = Value.bool y from rx); exact PySem.W.kia_one PySem.W.kitx_bool I.kIn True.intro e (fun z => nomatch z) h
 | int i => obtain ⟨t, q⟩ := (show ∃ t, u = Value.int i t from rx); cases q; exact PySem.W.kia_one PySem.W.kitx_int I.kIn True.intro e (fun z => nomatch z) h
 | str y => obtain ⟨t, q⟩ := (show ∃ t, u = Value.str y t from rx); cases q; exact PySem.W.kia_one PySem.W.kitx_str I.kIn True.intro e (fun z => nomatch z) h
 | flt y => obtain ⟨t, q⟩ := (show ∃ t, u = Value.float y t from rx); cases q; exact PySem.W.kia_one PySem.W.kitx_float I.kIn True.intro e (fun z => nomatch z) h
 | @lst a xs ea =>
  cases (show u = Value.ref a from rx)
  obtain ⟨_, _, n, _, h1⟩ := (show ObjOk X.prog X.w H s.heap a (.lst xs) from I.hok a _ ea)
  exact PySem.W.kia_one PySem.W.kitx_list I.kIn ⟨_, h1, rfl⟩ e (fun z => nomatch z) h
 | @frz a ob xs ea =>
  cases (show u = Value.ref a from rx)
  obtain ⟨_, _, _, n, _, h1⟩ := (show ObjOk X.prog X.w H s.heap a (.frz ob (.lst xs)) from I.hok a _ ea)
  exact PySem.W.kia_one PySem.W.kitx_list I.kIn ⟨_, h1, rfl⟩ e (fun z => nomatch z) h
 | @tup a xs ea =>
  cases (show u = Value.ref a from rx)
  obtain ⟨_, _, _, p⟩ := (show ObjOk X.prog X.w H s.heap a (.tup xs) from I.hok a _ ea)
  obtain ⟨o, h1, h2, _⟩ := p
  exact PySem.W.kia_one PySem.W.kitx_tuple I.kIn ⟨o, h1, h2⟩ e (fun z => nomatch z) h
 | @dK a kvs ea =>
  cases (show u = Value.ref a from rx)
  obtain ⟨_, _, vs, _, p⟩ := (show ObjOk X.prog X.w H s.heap a (.dK kvs) from I.hok a _ ea)
  obtain ⟨o, es, ep, h1, h2, _⟩ := p
  exact PySem.W.kia_one PySem.W.kitx_dict I.kIn ⟨o, h1, h2.1⟩ e (fun z => nomatch z) h
 | @dT a kvs ea =>
  cases (show u = Value.ref a from rx)
  obtain ⟨_, _, xs, _, o, es, ep, h1, h2, _⟩ := (show ObjOk X.prog X.w H s.heap a (.dT kvs) from I.hok a _ ea)
  exact PySem.W.kia_one PySem.W.kitx_dict I.kIn ⟨o, h1, h2.1⟩ e (fun z => nomatch z) h
 | @ins a C dx fs ea cl ha hn htk hm =>
  cases (show u = Value.ref a from rx)
  obtain ⟨mA, O, _⟩ := ins_get I.hok ea
  obtain ⟨od, J, _⟩ := O.look
  exact PySem.W.kia_one (PySem.W.kitx_own (cl.get _) cl.hd ha hn htk hm) I.kIn J e (fun z => nomatch z) h
end
end L2
namespace L2
open PySem PySem.Spec PyProof.Rows
structure Room (k : Nat) (A : Around) : Prop where
 hd : A.handled = none
 dp : A.depth + 3 * k + 5 < recursionLimit
 un : A.units + 16 * k + 200 < cLine
theorem Room.mono {j k : Nat} {A : Around} (r : Room k A) (h : j ≤ k) : Room j A := ⟨r.hd, by have := r.dp; omega, by have := r.un; omega⟩
theorem Room.deeper {k : Nat} {A : Around} (r : Room (k + 1) A) (env : Env) : Room k (A.deeper env) :=
 ⟨r.hd, by have := r.dp; show A.depth + 1 + 3 * k + 5 < _; omega, by have := r.un; show A.units + 3 + 16 * k + 200 < _; omega⟩
theorem Room.in1 {k : Nat} {A : Around} (r : Room (k + 1) A) : Room k A.in1 :=
 ⟨r.hd, by have := r.dp; show A.depth + 3 * k + 5 < _; omega, by have := r.un; show A.units + 1 + 16 * k + 200 < _; omega⟩
theorem make_depth {A : Around} {C : Addr} {us : List Value} {kw : List (Str × Value)} : (A.under (.builtin "type.__call__" ⟨.ref C :: us, kw⟩)).depth = A.depth + 1 := by
 first | rfl | simp [Around.under, Code.weight, Code.isCreation, Code.isGuard, Code.isCaller, Code.frames, Code.isFrame, guardIds]
theorem make_units {A : Around} {C : Addr} {us : List Value} {kw : List (Str × Value)} : (A.under (.builtin "type.__call__" ⟨.ref C :: us, kw⟩)).units = A.units + 1 := by
 first | rfl | simp [Around.under, Code.cUnits, Code.frames, Code.isFrame]
theorem Room.make {k : Nat} {A : Around} (r : Room (k + 1) A) (C : Addr) (us : List Value) (kw : List (Str × Value)) : Room k (A.under (.builtin "type.__call__" ⟨.ref C :: us, kw⟩)) :=
 ⟨r.hd, by have := r.dp; rw [make_depth]; omega, by have := r.un; rw [make_units]; omega⟩
theorem Room.depth {k : Nat} {A : Around} (r : Room k A) : A.depth < recursionLimit := by have := r.dp; omega
theorem Room.units {k : Nat} {A : Around} (r : Room k A) : A.units + 64 < cLine := by have := r.un; omega
noncomputable def tNil : TA := fun _ H Q => Q [] H
noncomputable def tCons (ta : TE) (tr : TA) : TA := fun σ H Q => ta σ H fun x H1 => tr σ H1 fun xs H2 => Q (x :: xs) H2
section
variable {X : Cx} {e : Expr} {es : List Expr} {te : TE} {t : TA} {pos : Pos}
theorem pa_nil : PA X [] tNil := fun _ _ _ _ H Q I h => Calls.spliced_nil ⟨[], H, I, .nil, h⟩
theorem pa_cons (ha : PE X e te) (hr : PA X es t) (hs : starEach (e :: es) X.env = (false, eval e X.env) :: starEach es X.env := by rfl) : PA X (e :: es) (tCons te t) := by
 intro pos pins s σ H Q I h
 rw [hs]
 show wpAny _ _ (spliced ((false, eval e X.env) :: backTo pos (starEach es X.env))) _ _ s
 refine Calls.spliced_cons (thn (ha pins s σ H _ I h) fun u s1 ⟨x, H1, I1, r1, q1⟩ => ?_)
 exact thn (hr pos pins s1 σ H1 _ I1 q1) fun us s2 ⟨xs, H2, I2, r2, q2⟩ => ⟨x :: xs, H2, I2, .cons r1 r2, q2⟩
noncomputable def tTup (t : TA) : TE := fun σ H Q => t σ H fun xs H1 => xs.length ≤ sizeLine ∧ ∀ p, H1 p = none → Q (.ref p) (upd H1 p (.tup xs))
noncomputable def tLst (t : TA) : TE := fun σ H Q => t σ H fun xs H1 => xs.length ≤ sizeLine ∧ ∀ p, H1 p = none → Q (.ref p) (upd H1 p (.lst xs))
theorem pe_tup {x1} (h : PA X es t) : PE X (.Tuple es x1 pos) (tTup t) := by
 intro pins s σ H Q I hq
 refine wpAny_Tuple_spliced (thn (h pos pins s σ H _ I hq) fun us s1 ⟨xs, H1, I1, r, z, q⟩ => ⟨by rw [← r.length]; exact z, ?_⟩)
 have hf : H1 s1.heap.objs.size = none := I1.hok.fresh (Nat.le_refl _)
 refine ⟨.ref s1.heap.objs.size, upd H1 s1.heap.objs.size (.tup xs), I1.laid (t' := s1.toks) (fun b u e => Heap.get?_push_of_some _ e) (Nat.le_refl _) ?_, rfl, q _ hf⟩
 exact ⟨z, us, r, ⟨_, Heap.get?_push_size _ rfl, rfl, _, rfl⟩⟩
theorem pe_lst (h : PA X es t) : PE X (.List es pos) (tLst t) := by
 intro pins s σ H Q I hq
 refine wpAny_List_spliced (thn (h pos pins s σ H _ I hq) fun us s1 ⟨xs, H1, I1, r, z, q⟩ => ⟨by rw [← r.length]; exact z, ?_⟩)
 have hf : H1 s1.heap.objs.size = none := I1.hok.fresh (Nat.le_refl _)
 refine ⟨.ref s1.heap.objs.size, upd H1 s1.heap.objs.size (.lst xs), I1.laid (t' := s1.toks) (fun b u e => Heap.get?_push_of_some _ e) (Nat.le_refl _) ?_, rfl, q _ hf⟩
 exact ⟨z, us, 0, r, Heap.get?_push_size _ rfl⟩
end
abbrev Sp := List V → Hp → VK → XK → Prop
abbrev CXT := List Env → Hp → Shared → XK → Value → Shared → Prop
structure Env0 (P : Program) (w : World) (K : PySem.W.Frag) (mg : Str → Option Value) (base : Heap) (A : Around) (outer : List Env) (s : Shared) (H : Hp) : Prop where
 frames : A.frames = some outer
 mod : Mod K mg base
 bs : ∀ b o, base.get? b = some o → s.heap.get? b = some o ∧ H b = none
 bsz : base.objs.size ≤ s.heap.objs.size
 funs : s.heap.FunFrames base outer
 frf : ∀ b ∈ frs outer, H b = none
 hok : HOk P w H s.heap
 bare : AllBare s.gens
noncomputable def CE (outer : List Env) (P : Program) (w : World) (H : Hp) (s : Shared) (Q : VK) (u : Value) (s' : Shared) : Prop :=
 ∃ v H', s'.os = s.os ∧ AllBare s'.gens ∧ Un (frs outer) [] H H' s.heap s'.heap ∧ HOk P w H' s'.heap ∧ RelV v u ∧ Q v H'
noncomputable def CR (CX : CXT) (outer : List Env) (P : Program) (w : World) (H : Hp) (s : Shared) (Q : VK) (E : XK) (r : Result) (s' : Shared) : Prop :=
 match r with
 | .ok (.ret u) => CE outer P w H s Q u s'
 | .ok _ => False
 | .error e => CX outer H s E e s'
structure FnOk (P : Program) (w : World) (K : PySem.W.Frag) (mg : Str → Option Value) (base : Heap) (CX : CXT) (k : Nat) (f : Addr) (fd : FuncData) (ps : List Str) (sp : Sp) : Prop where
 len : ∀ vs H Q E, sp vs H Q E → vs.length = ps.length
 run : ∀ (A : Around) (outer : List Env) (s : Shared) (H : Hp) (args : Args) (us : List Value) (vs : List V) (Q : VK) (E : XK), Room k A → Env0 P w K mg base A outer s H → BindsTo s fd args (ps.zip us) → Vals vs us → sp vs H Q E →
  codeAny (model P w) A (.call (.ref f) args) (CR CX outer P w H s Q E) s
theorem FnOk.mono {P : Program} {w : World} {K : PySem.W.Frag} {mg : Str → Option Value} {base : Heap} {CX : CXT} {j k : Nat} {f : Addr} {fd : FuncData} {ps : List Str} {sp : Sp} (F : FnOk P w K mg base CX j f fd ps sp) (h : j ≤ k) :
  FnOk P w K mg base CX k f fd ps sp := ⟨F.len, fun A outer s H args us vs Q E hr => F.run A outer s H args us vs Q E (hr.mono h)⟩
theorem FnOk.imp {P : Program} {w : World} {K : PySem.W.Frag} {mg : Str → Option Value} {base : Heap} {CX : CXT} {k : Nat} {f : Addr} {fd : FuncData} {ps : List Str} {sp sp' : Sp} (F : FnOk P w K mg base CX k f fd ps sp)
  (h : ∀ vs H Q E, sp' vs H Q E → sp vs H Q E) : FnOk P w K mg base CX k f fd ps sp' :=
 ⟨fun vs H Q E q => F.len vs H Q E (h _ _ _ _ q), fun A outer s H args us vs Q E hr he hb hv hs => F.run A outer s H args us vs Q E hr he hb hv (h _ _ _ _ hs)⟩
theorem Env0.make {P : Program} {w : World} {K : PySem.W.Frag} {mg : Str → Option Value} {base : Heap} {A : Around} {outer : List Env} {s : Shared} {H : Hp} (e : Env0 P w K mg base A outer s H) (C : Addr) (us : List Value) (kw : List (Str × Value)) :
  Env0 P w K mg base (A.under (.builtin "type.__call__" ⟨.ref C :: us, kw⟩)) outer s H := ⟨by first | exact e.frames | (simpa [Around.under, Code.envs, Code.isFrame, pushEnvs] using e.frames), e.mod, e.bs, e.bsz, e.funs, e.frf, e.hok, e.bare⟩
theorem Env0.in1 {P : Program} {w : World} {K : PySem.W.Frag} {mg : Str → Option Value} {base : Heap} {A : Around} {outer : List Env} {s : Shared} {H : Hp} (e : Env0 P w K mg base A outer s H) :
  Env0 P w K mg base A.in1 outer s H := ⟨e.frames, e.mod, e.bs, e.bsz, e.funs, e.frf, e.hok, e.bare⟩
section
variable {X : Cx} {pins : List (Addr × Obj)} {σ : St} {H : Hp} {s s' : Shared}
theorem Inv.env0 (I : Inv X pins σ H s) : Env0 X.prog X.w X.K X.mg X.base X.A X.stack s H :=
 ⟨I.ok.frames, I.ok.mod, I.bs, Nat.le_trans I.ok.bsz I.sz, I.stack, I.stkFree, I.hok, I.bare⟩
theorem Inv.after {Q : VK} {u : Value} (I : Inv X pins σ H s) (h : CE X.stack X.prog X.w H s Q u s') : EP X pins σ Q u s' := by
 obtain ⟨v, H', os, bare, un, hok, r, q⟩ := h
 obtain ⟨hh, g, d, t, os'⟩ := s'
 obtain rfl : os' = s.os := os
 exact ⟨v, H', I.call (h' := hh) (g' := g) (d' := d) (t' := t) (ch := []) un hok bare (fun b z => absurd z (by simp)), r, q⟩
end
noncomputable def tCall (sp : Sp) (dvs : List V) (E : XK) (t : TA) : TE := fun σ H Q => t σ H fun vs H1 => sp (vs ++ dvs) H1 Q E
noncomputable def tMeth (C : Addr) (m : Str) (sp : Sp) (dvs : List V) (E : XK) (ta : TE) (t : TA) : TE := fun σ H Q => ta σ H fun x H1 => ∃ a dx fs, x = .ref a ∧ H1 a = some (.ins C dx fs) ∧ fs.lookup m = none ∧
 t σ H1 fun vs H2 => sp (x :: (vs ++ dvs)) H2 Q E
noncomputable def tMake (C : Addr) (sp : Sp) (dvs : List V) (E : XK) (t : TA) : TE := fun σ H Q => t σ H fun vs H1 => ∀ x dx, H1 x = none → H1 dx = none → dx ≠ x →
 sp (.ref x :: (vs ++ dvs)) (upd (upd H1 dx (.own x)) x (.ins C dx [])) (fun v H2 => v = .non ∧ Q (.ref x) H2) E
noncomputable def Binds (K : PySem.W.Frag) (fd : FuncData) (ps : List Str) (ds : List Value) : Prop :=
 ∀ (s : Shared) (us : List Value), K.In s.heap → (us ++ ds).length = ps.length → BindsTo s fd ⟨us, []⟩ (ps.zip (us ++ ds))
theorem Binds.all {K : PySem.W.Frag} {fd : FuncData} {ps : List Str} (h : ∀ us : List Value, us.length = ps.length → bindArgs fd ⟨us, []⟩ = pure (ps.zip us)) : Binds K fd ps [] := fun s us _ hl => by
 rw [List.append_nil] at hl ⊢
 exact .of_eq (h us hl)
noncomputable def Passes (CX : CXT) (X : Cx) (E : XK) : Prop := ∀ (pins : List (Addr × Obj)) (σ : St) (H : Hp) (s : Shared) (e : Value) (s' : Shared), Inv X pins σ H s → CX X.stack H s E e s' → X.xe e s'
section
variable {X : Cx} {CX : CXT} {k : Nat} {f C : Addr} {fd : FuncData} {ps : List Str} {sp : Sp} {dvs : List V} {ds : List Value} {E : XK} {x m : Str} {p pos apos : Pos} {e o : Expr} {es : List Expr} {ta : TE} {t : TA}
theorem run_fn {pins : List (Addr × Obj)} {σ : St} {H : Hp} {s : Shared} {Q : VK} {us : List Value} {vs : List V} (F : FnOk X.prog X.w X.K X.mg X.base CX k f fd ps sp) (hr : Room k X.A) (hb : Binds X.K fd ps ds) (hd : Vals dvs ds) (hx : Passes CX X E)
  (I : Inv X pins σ H s) (r : Vals vs us) (h : sp (vs ++ dvs) H Q E) : wpAny (model X.prog X.w) X.A (call (.ref f) us) (EP X pins σ Q) X.xe s := by
 have r2 : Vals (vs ++ dvs) (us ++ ds) := r.append hd
 have hl : (us ++ ds).length = ps.length := by rw [← r2.length]; exact F.len _ _ _ _ h
 refine wpAny_call (codeAny_mono (F.run X.A X.stack s H ⟨us, []⟩ (us ++ ds) (vs ++ dvs) Q E hr I.env0 (hb s us I.kIn hl) r2 h) fun r s' hq => ?_)
 cases r with
 | error e => exact hx pins σ H s e s' I hq
 | ok fl =>
  cases fl with
  | ret u => exact I.after hq
  | next => exact False.elim hq
  | brk => exact False.elim hq
  | cont => exact False.elim hq
theorem pe_call (F : FnOk X.prog X.w X.K X.mg X.base CX k f fd ps sp) (hr : Room k X.A) (hg : Gl X x) (hm : X.mg x = some (.ref f)) (hk : PySem.W.keepIn X.K (.ref f) = true) (hb : Binds X.K fd ps ds) (hd : Vals dvs ds) (hx : Passes CX X E)
  (ha : PA X (e :: es) t) (hdb : (x == ("__debug__" : Str)) = false := by decide) (he : starEach (e :: es) X.env = (false, eval e X.env) :: starEach es X.env := by rfl) (hpl : (backTo pos (starEach es X.env)).any (·.1) = false := by rfl) :
  PE X (.Call (.Name x p) (e :: es) [] pos) (tCall sp dvs E t) := by
 intro pins s σ H Q I h
 refine wpAny_Call_Name_kw (ld_glob I hg hm ?_ hdb)
 refine PySem.W.callWith_K (h₀ := X.base) I.ok.mod.kin hk (thn (ha pos pins s σ H _ I h) fun us s1 ⟨vs, H1, I1, r, q⟩ => ⟨I1.kIn, ?_⟩) he hpl
 exact run_fn F hr hb hd hx I1 r q
theorem pe_meth {pl : Sem Bool} (he : PE X o ta) (c : Cls X.K C) (hm : Meth X.K C m f) (F : FnOk X.prog X.w X.K X.mg X.base CX k f fd ps sp) (hr : Room k X.A) (hb : Binds X.K fd ps ds) (hd : Vals dvs ds) (hx : Passes CX X E) (ha : PA X (e :: es) t)
  (hst : starEach (e :: es) X.env = (false, eval e X.env) :: starEach es X.env := by rfl) (hpl : (backTo pos (starEach es X.env)).any (·.1) = false := by rfl)
  (ht : eval (.Call (.Attribute o m apos) (e :: es) [] pos) X.env = (do
   let ov ← eval o X.env
   standAt apos.atName
   let (f, first) ← holding [ov] (getMethod ov m pl)
   callWith pos f first (backTo pos (starEach (e :: es) X.env)) (backToKw pos (keywordEach [] X.env))) := by rfl) :
  PE X (.Call (.Attribute o m apos) (e :: es) [] pos) (tMeth C m sp dvs E ta t) := by
 intro pins s σ H Q I h
 refine PySem.W.methodCall_KW (pl := pl) (thn (he pins s σ H _ I h) fun u s1 ⟨x, H1, I1, rx, a, dx, fs, ex, ea, l, q⟩ => ?_) ht
 subst ex
 obtain rfl : u = Value.ref a := rx
 refine getmeth_ok I1 ea c hm l ?_
 refine PySem.W.callWith_K (first := [.ref a]) (h₀ := X.base) I.ok.mod.kin hm.kp (thn (ha pos pins s1 σ H1 _ I1 q) fun us s2 ⟨vs, H2, I2, r, q2⟩ => ⟨I2.kIn, ?_⟩) hst hpl
 exact run_fn (us := .ref a :: us) (vs := .ref a :: vs) F hr hb hd hx I2 (.cons rfl r) q2
structure Mk (K : PySem.W.Frag) (C f : Addr) : Prop where
 makes : PySem.W.makesIn K C = true
 init : PySem.W.findIn K (.ref C) "__init__" = some (some (.ref f))
 fn : PySem.W.isFn K (.ref f) = true
 kp : PySem.W.keepIn K (.ref C) = true
theorem run_make {pins : List (Addr × Obj)} {σ : St} {H : Hp} {s : Shared} {Q : VK} {us : List Value} {vs : List V} (M : Mk X.K C f) (F : FnOk X.prog X.w X.K X.mg X.base CX k f fd ps sp) (hr : Room (k + 1) X.A) (hb : Binds X.K fd ps ds) (hd : Vals dvs ds)
  (hx : Passes CX X E) (I : Inv X pins σ H s) (r : Vals vs us)
  (h : ∀ x dx, H x = none → H dx = none → dx ≠ x → sp (.ref x :: (vs ++ dvs)) (upd (upd H dx (.own x)) x (.ins C dx [])) (fun v H2 => v = .non ∧ Q (.ref x) H2) E) :
  wpAny (model X.prog X.w) X.A (call (.ref C) us) (EP X pins σ Q) X.xe s := by
 have hq := h (s.heap.objs.size + 1) s.heap.objs.size (I.hok.fresh (Nat.le_succ _)) (I.hok.fresh (Nat.le_refl _)) (Nat.ne_of_lt (Nat.lt_succ_self _))
 have I2 := Inv.made (C := C) I
 have r2 : Vals (V.ref (s.heap.objs.size + 1) :: (vs ++ dvs)) (Value.ref (s.heap.objs.size + 1) :: (us ++ ds)) := .cons rfl (r.append hd)
 have hl : (Value.ref (s.heap.objs.size + 1) :: us ++ ds).length = ps.length := by
  have e := r2.length
  rw [F.len _ _ _ _ hq] at e
  exact e.symm
 refine wpAny_call (make_map (f := f) I.kIn M.makes M.init (beq_iff_eq.mp M.fn) (codeAny_mono (F.run _ X.stack _ _ ⟨Value.ref (s.heap.objs.size + 1) :: us, []⟩ (Value.ref (s.heap.objs.size + 1) :: (us ++ ds)) _ _ E (hr.make C us [])
  (I2.env0.make C us []) (hb _ (Value.ref (s.heap.objs.size + 1) :: us) I2.kIn hl) r2 hq) fun r s' hq' => ?_))
 cases r with
 | error e => exact hx pins σ _ _ e s' I2 hq'
 | ok fl =>
  cases fl with
  | ret u =>
   obtain ⟨v, H', I3, rv, ev, q3⟩ := I2.after hq'
   subst ev
   exact ⟨rv, ⟨V.ref (s.heap.objs.size + 1), H', I3, rfl, q3⟩⟩
  | next => exact False.elim hq'
  | brk => exact False.elim hq'
  | cont => exact False.elim hq'
theorem pe_make0 (M : Mk X.K C f) (F : FnOk X.prog X.w X.K X.mg X.base CX k f fd ps sp) (hr : Room (k + 1) X.A) (hg : Gl X x) (hm : X.mg x = some (.ref C)) (hb : Binds X.K fd ps ds) (hd : Vals dvs ds) (hx : Passes CX X E)
  (hdb : (x == ("__debug__" : Str)) = false := by decide) : PE X (.Call (.Name x p) [] [] pos) (tMake C sp dvs E tNil) := by
 intro pins s σ H Q I h
 refine wpAny_Call_Name_kw (ld_glob I hg hm ?_ hdb)
 exact PySem.W.callWith_K0 I.kIn M.kp (run_make (us := []) M F hr hb hd hx I .nil h)
end
section
variable {X : Cx} {CX : CXT} {k : Nat} {f C : Addr} {fd : FuncData} {ps ks : List Str} {sp : Sp} {E : XK} {x m : Str} {p pos apos kpos : Pos} {e o : Expr} {es : List Expr} {kws : List Keyword} {te ta : TE} {t tk : TA} {nm : Option Str}
structure KBinds (K : PySem.W.Frag) (fd : FuncData) (ps ks : List Str) (g : List Value → List Value → List Value) (gV : List V → List V → List V) : Prop where
 to : ∀ (s : Shared) (us ws : List Value), K.In s.heap → (g us ws).length = ps.length → BindsTo s fd ⟨us, ks.zip ws⟩ (ps.zip (g us ws))
 rel : ∀ {vs : List V} {us : List Value} {zs : List V} {ws : List Value}, Vals vs us → Vals zs ws → Vals (gV vs zs) (g us ws)
variable {g : List Value → List Value → List Value} {gV : List V → List V → List V}
end
structure FnScope (N P : List Str) (sc : Scope) : Prop where
 kind : sc.kind = .function
 co : sc.isCoroutine = false
 gen : sc.isGenerator = false
 nd : N.Nodup
 pre : N.take P.length = P
 par : ∀ x ∈ P, sc.names.lookup x = some .local ∨ sc.names.lookup x = some .cell
 nofree : ∀ y ∈ sc.names, y.2 ≠ .free
theorem bindL_out {kindOf : Str → Option NameKind} {x : Str} : ∀ {binds : List (Str × Value)} {m : Str → Option Value}, (∀ v, (x, v) ∉ binds) → bindL kindOf binds m x = m x
 | [], _, _ => rfl
 | (n, v) :: r, m, h => by
  unfold bindL
  rw [bindL_out fun w hw => h w (List.mem_cons_of_mem _ hw)]
  split
  ·have : x ≠ n := by rintro rfl; exact h v List.mem_cons_self
   simp [this]
  ·rfl
theorem bindC_out {kindOf : Str → Option NameKind} {x : Str} : ∀ {binds : List (Str × Value)} {m : Str → Option Value}, (∀ v, (x, v) ∉ binds) → bindC kindOf binds m x = m x
 | [], _, _ => rfl
 | (n, v) :: r, m, h => by
  unfold bindC
  rw [bindC_out fun w hw => h w (List.mem_cons_of_mem _ hw)]
  split
  ·rfl
  ·have : x ≠ n := by rintro rfl; exact h v List.mem_cons_self
   simp [this]
theorem bindL_get {kindOf : Str → Option NameKind} {x : Str} {v : Value} : ∀ {P : List Str} {vs : List Value} {i : Nat} {m : Str → Option Value}, P.Nodup → P[i]? = some x → vs[i]? = some v → kindOf x = some .local →
  bindL kindOf (P.zip vs) m x = some v
 | [], _, _, _, _, h, _, _ => by simp at h
 | _ :: _, [], _, _, _, _, h, _ => by simp at h
 | p :: P, w :: vs, 0, m, nd, h1, h2, hk => by
  simp at h1 h2; subst h1; subst h2
  show bindL kindOf ((p, w) :: P.zip vs) m p = _
  unfold bindL
  rw [bindL_out fun v hv => (List.nodup_cons.mp nd).1 (List.of_mem_zip hv).1, if_pos hk]
  simp
 | p :: P, w :: vs, i + 1, m, nd, h1, h2, hk => by
  show bindL kindOf ((p, w) :: P.zip vs) m x = _
  unfold bindL
  exact bindL_get (i := i) (List.nodup_cons.mp nd).2 (by simpa using h1) (by simpa using h2) hk
theorem bindC_get {kindOf : Str → Option NameKind} {x : Str} {v : Value} : ∀ {P : List Str} {vs : List Value} {i : Nat} {m : Str → Option Value}, P.Nodup → P[i]? = some x → vs[i]? = some v → kindOf x ≠ some .local →
  bindC kindOf (P.zip vs) m x = some v
 | [], _, _, _, _, h, _, _ => by simp at h
 | _ :: _, [], _, _, _, _, h, _ => by simp at h
 | p :: P, w :: vs, 0, m, nd, h1, h2, hk => by
  simp at h1 h2; subst h1; subst h2
  show bindC kindOf ((p, w) :: P.zip vs) m p = _
  unfold bindC
  rw [bindC_out fun v hv => (List.nodup_cons.mp nd).1 (List.of_mem_zip hv).1, if_neg hk]
  simp
 | p :: P, w :: vs, i + 1, m, nd, h1, h2, hk => by
  show bindC kindOf ((p, w) :: P.zip vs) m x = _
  unfold bindC
  exact bindC_get (i := i) (List.nodup_cons.mp nd).2 (by simpa using h1) (by simpa using h2) hk
noncomputable def start (N : List Str) (vs : List V) : St := vs.map some ++ List.replicate (N.length - vs.length) none
noncomputable def cxOf (CX : CXT) (P : Program) (w : World) (K : PySem.W.Frag) (mg : Str → Option Value) (base : Heap) (N : List Str) (qual : Str) (scope : Scope) (f : Addr) (cd : Value) (A : Around) (outer : List Env) (s : Shared) (H : Hp) (E : XK) : Cx where
 prog := P
 w := w
 K := K
 mg := mg
 base := base
 A := A.deeper (envOfC qual scope s.heap.objs.size f cd)
 N := N
 s₀ := s
 H₀ := H
 env := envOfC qual scope s.heap.objs.size f cd
 outer := outer
 stack := envOfC qual scope s.heap.objs.size f cd :: outer
 ex := []
 calm := true
 fn := fun _ => true
 pn := []
 xe := fun e s' => wpAny (model P w) (A.deeper (envOfC qual scope s.heap.objs.size f cd)) (leaving (envOfC qual scope s.heap.objs.size f cd) e) (fun _ s'' => CX outer H s E e s'') (fun e' s'' => CX outer H s E e' s'') s'
theorem cell_has {sc : Scope} {n : Nat} {x : Str} (h : sc.names.lookup x = some .cell) : ∃ c, (cellsFrom n sc.names []).lookup x = some c := by
 have q := PySem.W.cellsFrom_some sc.names n [] (.inl h)
 exact Option.isSome_iff_exists.mp q
theorem inv_start {CX : CXT} {P : Program} {w : World} {K : PySem.W.Frag} {mg : Str → Option Value} {base : Heap} {N ps : List Str} {qual : Str} {scope : Scope} {f : Addr} {cd : Value} {A : Around} {outer : List Env} {s s1 : Shared} {H : Hp} {E : XK} {us : List Value} {vs : List V}
  (S : FnScope N ps scope) (hd : A.handled = none) (e0 : Env0 P w K mg base A outer s H) (hl : vs.length = ps.length) (r : Vals vs us)
  (x : InCallC s s.heap.objs.size (bindL (envOfC qual scope s.heap.objs.size f cd).kindOf (ps.zip us) fun _ => none) (cellsFrom (s.heap.objs.size + 1) scope.names []) (bindC (envOfC qual scope s.heap.objs.size f cd).kindOf (ps.zip us) fun _ => none) s1) :
  Inv (cxOf CX P w K mg base N qual scope f cd A outer s H E) [] (start N vs) H s1 := by
 have hpl : ps.length ≤ N.length := by have := congrArg List.length S.pre; rw [List.length_take] at this; omega
 obtain ⟨h1, tk, rfl, hk⟩ := x.done
 have noA : ∀ b : Addr, b ∉ (cxOf CX P w K mg base N qual scope f cd A outer s H E).ex := fun b z => absurd (show b ∈ ([] : List Addr) from z) (by simp)
 refine ⟨⟨e0.mod, S.kind, rfl, rfl, Nat.le_refl _, fun y z c h1 h2 => ?_, fun y hy => ?_, fun y c _ h => ?_, fun _ => hd, Around.frames_deeper e0.frames, .inr ⟨rfl, rfl⟩, fun b z => absurd z (noA b), e0.bs, e0.bsz, fun b _ _ => noA b, fun b z => absurd z (noA b), e0.funs, e0.frf⟩,
  rfl, e0.bare, Un.kept hk, ⟨_, x.toInCall.ns, fun i y v h1 h2 h3 => ?_⟩, fun y c h => ⟨_, x.cell y c h⟩, e0.hok.fresh (Nat.le_refl _), fun y c h => ?_, fun p hp => absurd (show p ∈ ([] : List (Addr × Obj)) from hp) (by simp), e0.hok.kept hk, ?_⟩
 ·exact name_of_addr x.apart (PySem.mem_of_lookup h1) (PySem.mem_of_lookup h2)
 ·have hy : scope.names.lookup y = some .cell ∨ scope.names.lookup y = some .free := hy
  rcases hy with hy | hy
  ·exact cell_has hy
  ·exact absurd rfl (S.nofree _ (PySem.mem_of_lookup hy))
 ·exact Nat.le_of_lt (x.above y c (PySem.mem_of_lookup h))
 ·have hi : i < vs.length := by
   unfold start at h2
   by_cases hi : i < vs.length
   ·exact hi
   ·rw [List.getElem?_append_right (by simpa using hi)] at h2
    rw [List.getElem?_replicate] at h2
    split at h2 <;> cases h2
  have ha : vs[i]? = some v := by
   unfold start at h2
   rw [List.getElem?_append_left (by simpa using hi), List.getElem?_map] at h2
   cases e : vs[i]? with
   | none => rw [e] at h2; cases h2
   | some a => rw [e] at h2; cases h2; rfl
  obtain ⟨u, hu, rv⟩ := r.get ha
  have hp : ps[i]? = some y := by
   rw [← S.pre, List.getElem?_take_of_lt (by omega)]; exact h1
  have ndP : ps.Nodup := by rw [← S.pre]; exact S.nd.sublist (List.take_sublist _ _)
  refine ⟨u, rv, ?_⟩
  rcases S.par y (List.mem_of_getElem? hp) with k | k
  ·exact .inl ⟨k, bindL_get ndP hp hu k⟩
  ·obtain ⟨c, e⟩ := cell_has (n := s.heap.objs.size + 1) k
   refine .inr ⟨.inl k, c, e, ?_⟩
   have q := x.cell y c e
   rw [bindC_get ndP hp hu (by show scope.names.lookup y ≠ _; rw [k]; decide)] at q
   exact q
 ·exact e0.hok.fresh (Nat.le_of_lt (x.above y c (PySem.mem_of_lookup h)))
 ·unfold start
  show _ = N.length
  rw [List.length_append, List.length_map, List.length_replicate]
  omega
theorem fn_of {CX : CXT} {P : Program} {w : World} {K : PySem.W.Frag} {mg : Str → Option Value} {base : Heap} {k : Nat} {f : Addr} {name qual : Str} {params : Arguments} {body : List Stmt} {scope : Scope} {dV kV doc pm cdv ct oc : Value} {an od : Option Addr}
  {osl : Array (Option Value)} {N ps : List Str} {sp : Sp} (lk : K.lookup f = some ⟨oc, od, .func (PySem.W.fnOf name qual params body scope dV kV doc pm an cdv ct), osl⟩) (hcd : PySem.W.codeIn K cdv qual = true) (S : FnScope N ps scope)
  (len : ∀ vs H Q E, sp vs H Q E → vs.length = ps.length)
  (hbody : ∀ (A : Around) (outer : List Env) (s : Shared) (H : Hp) (vs : List V) (Q : VK) (E : XK), Room k (A.deeper (envOfC qual scope s.heap.objs.size f cdv)) → sp vs H Q E →
   ∃ t, PSs (cxOf CX P w K mg base N qual scope f cdv A outer s H E) body t ∧ t { nx := fun _ H' => Q .non H', rt := Q } (start N vs) H) :
  FnOk P w K mg base CX (k + 1) f (PySem.W.fnOf name qual params body scope dV kV doc pm an cdv ct) ps sp := by
 refine ⟨len, fun A outer s H args us vs Q E hr e0 hb r hsp => ?_⟩
 have hl := len _ _ _ _ hsp
 have KX : K.In s.heap := e0.mod.kin.keeps fun b o e => (e0.bs b o e).1
 have lim : s.heap.NoLimit := e0.mod.nolimit.keeps fun b o e => (e0.bs b o e).1
 have hkind : ∀ y ∈ ps.zip us, scope.names.lookup y.1 = some .local ∨ (scope.names.lookup y.1 = some .cell ∧ ((cellsFrom (s.heap.objs.size + 1) scope.names []).lookup y.1).isSome = true) := fun ⟨n, v⟩ hy => by
  rcases S.par n (List.of_mem_zip hy).1 with q | q
  ·exact .inl q
  ·exact .inr ⟨q, PySem.W.cellsFrom_some _ _ _ (.inl q)⟩
 refine codeAny_call_function hr.depth (KX _ _ lk) rfl S.co S.gen rfl (PySem.W.codeRec_of KX hcd) (hb _ _ _ _ ?_)
 refine wpAny_newFunctionEnv_cells S.kind hkind fun env he s1 x => ?_
 subst he
 refine ⟨lim.keeps x.toInCall.keep, codeAny_func ?_⟩
 obtain ⟨t, ht, hq⟩ := hbody A outer s H vs Q E (hr.deeper _) hsp
 have I : Inv (cxOf CX P w K mg base N qual scope f cdv A outer s H E) [] (start N vs) H s1 := inv_start S hr.hd e0 hl r x
 refine wpAny_mono (ht [] s1 (start N vs) H _ I hq) (fun fl s' hs => ?_) fun e s' hs => hs
 have fin : ∀ {σ' : St} {H' : Hp} {v : V} {u : Value}, Inv (cxOf CX P w K mg base N qual scope f cdv A outer s H E) [] σ' H' s' → RelV v u → Q v H' → CE outer P w H s Q u s' :=
  fun {σ' H' v u} J rv q => ⟨v, H', J.os, J.bare, J.base, J.hok, rv, q⟩
 cases fl with
 | ret u =>
  obtain ⟨v, σ', H', J, rv, q⟩ := hs
  exact fin J rv q
 | next =>
  obtain ⟨σ', H', J, q⟩ := hs
  exact fin (v := V.non) (u := Value.none) J rfl q
 | brk =>
  obtain ⟨_, _, _, q⟩ := hs
  exact False.elim q
 | cont =>
  obtain ⟨_, _, _, q⟩ := hs
  exact False.elim q
end L2
namespace L2
open PySem PySem.Spec PyProof.Rows
section
variable {X : Cx} {x : Str} {p pos : Pos} {e : Expr} {es : List Expr} {t : TA} {id T : String} {r : List V → Hp → VK → Prop}
noncomputable def tCB (r : List V → Hp → VK → Prop) (t : TA) : TE := fun σ H Q => t σ H fun vs H1 => r vs H1 Q
theorem pe_callB (hc : CallR X (.builtin id) r) (hg : Gl X x) (hm : X.mg x = none) (hv : bootBuiltins x = some (.builtin id)) (ha : PA X (e :: es) t) (hn : x ≠ "__name__" := by decide) (hdb : (x == ("__debug__" : Str)) = false := by decide)
  (he : starEach (e :: es) X.env = (false, eval e X.env) :: starEach es X.env := by rfl) (hpl : (backTo pos (starEach es X.env)).any (·.1) = false := by rfl) : PE X (.Call (.Name x p) (e :: es) [] pos) (tCB r t) := by
 intro pins s σ H Q I h
 refine wpAny_Call_Name_kw (ld_blt I hg hm hv ?_ hn hdb)
 exact PyProof.Rows.callWith_builtin1 (thn (ha pos pins s σ H _ I h) fun us s1 ⟨vs, H1, I1, r1, q1⟩ => hc pins s1 σ H1 vs us Q I1 r1 q1) he hpl
theorem pe_callTy (hc : CallR X (.type T) r) (hg : Gl X x) (hm : X.mg x = none) (hv : bootBuiltins x = some (.type T)) (ha : PA X (e :: es) t) (hn : x ≠ "__name__" := by decide) (hdb : (x == ("__debug__" : Str)) = false := by decide)
  (he : starEach (e :: es) X.env = (false, eval e X.env) :: starEach es X.env := by rfl) (hpl : (backTo pos (starEach es X.env)).any (·.1) = false := by rfl) : PE X (.Call (.Name x p) (e :: es) [] pos) (tCB r t) := by
 intro pins s σ H Q I h
 refine wpAny_Call_Name_kw (ld_blt I hg hm hv ?_ hn hdb)
 exact PyProof.Rows.callWith_type1 (thn (ha pos pins s σ H _ I h) fun us s1 ⟨vs, H1, I1, r1, q1⟩ => hc pins s1 σ H1 vs us Q I1 r1 q1) he hpl
end
end L2
namespace HT
open PySem PyProof.Rows
section
open PySem.SeqAt
open PySem.AutoSeq1 (wpAny_loadPart')
open PySem.MeetsSeq PySem.MeetsSeq2 PySem.MeetsSeq3
end
section
variable {prog : Program} {w : World} {A : Around} {E : Value → Shared → Prop} {s : Shared}
noncomputable def sIx (n d : Nat) : Option Int → Nat
 | none => d
 | some v => if v < 0 then (v + (n : Int)).toNat else min v.toNat n
theorem sIx_le (n d : Nat) (hd : d ≤ n) (o : Option Int) : sIx n d o ≤ n := by
 cases o with
 | none => exact hd
 | some v =>
  show (if v < 0 then (v + (n : Int)).toNat else min v.toNat n) ≤ n
  by_cases hv : v < 0
  ·rw [if_pos hv]; omega
  ·rw [if_neg hv]; exact Nat.min_le_right _ _
theorem clip_eq (v : Int) (n d : Nat) : (if v < 0 then max (v + (n : Int)) 0 else min v (n : Int)) = ((sIx n d (some v) : Nat) : Int) := by
 show (if v < 0 then max (v + (n : Int)) 0 else min v (n : Int)) = (((if v < 0 then (v + (n : Int)).toNat else min v.toNat n) : Nat) : Int)
 by_cases hv : v < 0
 ·simp only [if_pos hv]; omega
 ·simp only [if_neg hv]; omega
theorem adjust_gen (lo hi : Option Int) (n : Nat) : Builtin.Slice.sliceAdjust lo hi 1 (n : Int) = (((sIx n 0 lo : Nat) : Int), ((sIx n n hi : Nat) : Int)) := by
 have h1 : ¬ ((1 : Int) < 0) := by omega
 unfold Builtin.Slice.sliceAdjust
 simp only [h1, if_false]
 refine Prod.ext ?_ ?_
 ·cases lo with
  | none => rfl
  | some v => exact clip_eq v n 0
 ·cases hi with
  | none => rfl
  | some v => exact clip_eq v n n
theorem places_gen (i j : Nat) : Builtin.Slice.slicePlaces (i : Int) (j : Int) 1 = j - i := by
 unfold Builtin.Slice.slicePlaces
 have h1 : (1 : Int) > 0 := by omega
 simp only [h1, if_true, Int.ediv_one]
 split <;> omega
theorem slicePart_ {v : Value} {o : Option Int} {Q : Option Int → Shared → Prop} (p : IsPart v o) (h : Q o s) : wpAny (model prog w) A (Builtin.Slice.slicePartIndex v) Q E s := by
 cases p with
 | none => exact slicePart_none h
 | int i t => exact slicePart_int h
theorem sliceApplied_gen {sl : Addr} {vl vu : Value} {lo hi : Option Int} {n : Nat} {Q : Int × Int × Nat → Shared → Prop} (hs : s.heap.IsSliceOf sl vl vu .none) (pl : IsPart vl lo) (pu : IsPart vu hi)
  (h : Q (((sIx n 0 lo : Nat) : Int), 1, sIx n n hi - sIx n 0 lo) s) : wpAny (model prog w) A (Builtin.Slice.sliceApplied (.ref sl) (pure (n : Int))) Q E s := by
 obtain ⟨os, hos, hcs, hds⟩ := id hs
 unfold Builtin.Slice.sliceApplied Builtin.Slice.sliceFields
 refine wpAny_bind (wpAny_bind (wpAny_field hos hds (x := vl) rfl (wpAny_bind (wpAny_field hos hds (x := vu) rfl (wpAny_bind (wpAny_field hos hds (x := .none) rfl (wpAny_pure ?_)))))))
 refine wpAny_bind (slicePart_none ?_)
 show wpAny _ _ (if ((1 : Int) == 0) = true then _ else _) _ _ s
 rw [if_neg (by decide)]
 refine wpAny_bind (slicePart_ pl (wpAny_bind (slicePart_ pu (wpAny_bind (wpAny_pure ?_)))))
 show wpAny _ _ (match Builtin.Slice.sliceAdjust lo hi 1 (n : Int) with | (lo, hi) => pure (lo, (1 : Int), Builtin.Slice.slicePlaces lo hi 1)) _ _ s
 rw [adjust_gen lo hi n]
 show wpAny _ _ (pure (((sIx n 0 lo : Nat) : Int), (1 : Int), Builtin.Slice.slicePlaces ((sIx n 0 lo : Nat) : Int) ((sIx n n hi : Nat) : Int) 1)) _ _ s
 rw [places_gen]
 exact wpAny_pure h
theorem pick_gen (xs : Array Value) (i k : Nat) : ((List.range k).filterMap fun (m : Nat) => xs[((i : Int) + (m : Int) * 1).toNat]?).toArray = ((xs.toList.drop i).take k).toArray := by
 have e : (fun (m : Nat) => xs[((i : Int) + (m : Int) * 1).toNat]?) = fun m => xs[i + m]? := by
  funext m
  have : ((i : Int) + (m : Int) * 1).toNat = i + m := by omega
  rw [this]
 rw [e]
 have := pick_run xs i k
 rw [List.filterMap_map] at this
 have e2 : ((fun x => xs[x]?) ∘ fun x => i + x) = fun m => xs[i + m]? := rfl
 rw [e2] at this
 rw [this]
theorem getItem_tuple_cut {t sl : Addr} {items : Array Value} {vl vu : Value} {lo hi : Option Int} {Q : Value → Shared → Prop} (ht : IsTup s.heap t items) (hs : s.heap.IsSliceOf sl vl vu .none) (pl : IsPart vl lo) (pu : IsPart vu hi)
  (hw : ¬ (sIx items.size 0 lo = 0 ∧ sIx items.size items.size hi = items.size))
  (h : Q (.ref s.heap.objs.size) { s with heap := s.heap.push { cls := .type "tuple", data := .seq ((items.toList.drop (sIx items.size 0 lo)).take (sIx items.size items.size hi - sIx items.size 0 lo)).toArray } })
  (hsz : items.size ≤ sizeLine) : wpAny (model prog w) A (getItem (.ref t) (.ref sl)) Q E s := by
 have htake : sizeOk (.seq ((items.toList.drop (sIx items.size 0 lo)).take (sIx items.size items.size hi - sIx items.size 0 lo)).toArray) := by
  show ((items.toList.drop (sIx items.size 0 lo)).take (sIx items.size items.size hi - sIx items.size 0 lo)).toArray.size ≤ sizeLine
  rw [List.size_toArray, List.length_take, List.length_drop, Array.length_toList]
  omega
 have hj : sIx items.size items.size hi ≤ items.size := sIx_le _ _ (Nat.le_refl _) hi
 obtain ⟨os, hos, hcs, hds⟩ := id hs
 have hTs : s.TypeIs (.ref sl) "slice" := ⟨os, hos, hcs⟩
 unfold getItem
 try with_reducible refine wpAny_holding ?_
 first | refine wpAny_bind (wpAny_pure ?_) | skip
 refine wpAny_bind (wpAny_sequenceKey ht.typeIs (by decide) ?_)
 refine wpAny_bind (wpAny_callSpecial?_slot (name := Str.ofString "__getitem__") ht.typeIs PyProof.Rows.slot_tuple_getitem
  (wpAny_call_entry PyProof.Rows.slot_tuple_getitem ht.typeIs entry_tuple_getitem ?_ (args_tuple_getitem _ _)))
 show wpAny _ _ (Builtin.Tuple.tupleItemsOf (.ref t) >>= _) _ _ s
 refine wpAny_bind (tupleItemsOf_ ht ?_)
 refine wpAny_bind (wpAny_typeOf hTs ?_)
 rw [if_pos (by decide)]
 refine wpAny_bind (sliceApplied_gen hs pl pu ?_)
 have hno : ¬ ((((sIx items.size 0 lo : Nat) : Int) == 0 && (1 : Int) == 1 && (sIx items.size items.size hi - sIx items.size 0 lo) == items.size) = true) := by
  intro q
  rw [Bool.and_eq_true, Bool.and_eq_true] at q
  have q1 : ((sIx items.size 0 lo : Nat) : Int) = 0 := eq_of_beq q.1.1
  have q2 : sIx items.size items.size hi - sIx items.size 0 lo = items.size := eq_of_beq q.2
  exact hw ⟨by omega, by omega⟩
 show wpAny _ _ (if (((sIx items.size 0 lo : Nat) : Int) == 0 && (1 : Int) == 1 && (sIx items.size items.size hi - sIx items.size 0 lo) == items.size) = true then _ else _) _ _ s
 rw [if_neg hno, pick_gen]
 first
  | exact wpAny_bind (m := Builtin.Tuple.tupleExact _) (wpAny_newObj_type (wpAny_pure ⟨_, rfl, wpAny_pure h⟩) htake)
  | exact wpAny_bind (m := Builtin.Tuple.tupleExact _) (wpAny_newObj_type (wpAny_bind (wpAny_pure (wpAny_pure ⟨_, rfl, wpAny_pure h⟩))) htake)
  | exact wpAny_bind (wpAny_bind (m := Builtin.Tuple.tupleExact _) (wpAny_newObj_type (wpAny_pure (wpAny_pure ⟨_, rfl, wpAny_pure h⟩)) htake))
  | exact wpAny_bind (wpAny_bind (m := Builtin.Tuple.tupleExact _) (wpAny_newObj_type (wpAny_pure ⟨_, rfl, wpAny_pure h⟩) htake))
end
end HT
namespace L2
open PySem PySem.Spec PyProof.Rows
abbrev TO := St → Hp → (Option Int → Hp → Prop) → Prop
noncomputable def PO (X : Cx) (e : Option Expr) (t : TO) : Prop :=
 ∀ (pins : List (Addr × Obj)) (s : Shared) (σ : St) (H : Hp) (Q : Option Int → Hp → Prop), Inv X pins σ H s → t σ H Q →
  wpAny (model X.prog X.w) X.A (evalPart e X.env) (fun u s' => ∃ o H', Inv X pins σ H' s' ∧ IsPart u o ∧ Q o H') X.xe s
noncomputable def tNoPart : TO := fun _ H Q => Q none H
noncomputable def tPart (t : TE) : TO := fun σ H Q => t σ H fun x H1 => ∃ i, x = .int i ∧ Q (some i) H1
section
variable {X : Cx} {e : Expr} {te : TE} {lo hi : Option Expr} {tl th : TO} {pos p2 : Pos}
theorem po_none : PO X none tNoPart := by
 intro pins s σ H Q I h
 rw [evalPart_none]
 exact wpAny_pure ⟨none, H, I, .none, h⟩
theorem po_some (h : PE X e te) : PO X (some e) (tPart te) := by
 intro pins s σ H Q I hw
 rw [evalPart_some]
 refine thn (h pins s σ H _ I hw) fun u s1 ⟨x, H1, I1, r1, q1⟩ => ?_
 obtain ⟨i, rfl, q⟩ := q1
 obtain ⟨t, rfl⟩ := r1
 exact ⟨some i, H1, I1, .int i t, q⟩
noncomputable def SlR (X : Cx) (r : V → Option Int → Option Int → Hp → VK → Prop) : Prop :=
 ∀ (pins : List (Addr × Obj)) (s : Shared) (σ : St) (H : Hp) (x : V) (v vl vu : Value) (lo hi : Option Int) (sl : Addr) (Q : VK), Inv X pins σ H s → RelV x v → s.heap.IsSliceOf sl vl vu .none → IsPart vl lo → IsPart vu hi → r x lo hi H Q →
  ∃ T id, typeLookup (.type T) "__getitem__" = pure (some (.builtin id)) ∧ s.TypeIs v T ∧ wpAny (model X.prog X.w) X.A (getItem v (.ref sl)) (EP X pins σ Q) X.xe s
theorem SlR.or {r r' : V → Option Int → Option Int → Hp → VK → Prop} (h : SlR X r) (h' : SlR X r') : SlR X (fun x lo hi H Q => r x lo hi H Q ∨ r' x lo hi H Q) := by
 intro pins s σ H x v vl vu lo hi sl Q I rx hs pl pu q
 rcases q with q | q
 ·exact h pins s σ H x v vl vu lo hi sl Q I rx hs pl pu q
 ·exact h' pins s σ H x v vl vu lo hi sl Q I rx hs pl pu q
noncomputable def tSl (r : V → Option Int → Option Int → Hp → VK → Prop) (te : TE) (tl th : TO) : TE := fun σ H Q => te σ H fun x H1 => tl σ H1 fun l H2 => th σ H2 fun u H3 => r x l u H3 Q
theorem pe_slice {r : V → Option Int → Option Int → Hp → VK → Prop} (hr : SlR X r) (he : PE X e te) (hl : PO X lo tl) (hu : PO X hi th) : PE X (.Subscript e (.Slice lo hi none p2) pos) (tSl r te tl th) := by
 intro pins s σ H Q I h
 refine Subscript_ (thn (he pins s σ H _ I h) fun v s1 ⟨x, H1, I1, r1, q1⟩ => ?_)
 refine wpAny_Slice (thn (hl pins s1 σ H1 _ I1 q1) fun vl s2 ⟨l, H2, I2, pl, q2⟩ => thn (hu pins s2 σ H2 _ I2 q2) fun vu s3 ⟨u, H3, I3, pu, q3⟩ => ?_)
 rw [evalPart_none]
 refine wpAny_pure ?_
 have I4 : Inv X pins σ H3 { s3 with heap := s3.heap.push { cls := .type "slice", data := .fields #[vl, vu, .none] } } := I3.kept (t' := s3.toks) fun b ob q => Heap.get?_push_of_some _ q
 obtain ⟨T, id, hT, ht, hg⟩ := hr pins { s3 with heap := s3.heap.push { cls := .type "slice", data := .fields #[vl, vu, .none] } } σ H3 x v vl vu l u s3.heap.objs.size Q I4 r1 (Heap.IsSliceOf.new ..) pl pu q3
 show wpAny (model X.prog X.w) X.A (subscriptTail e (.Slice lo hi none p2) v (.ref s3.heap.objs.size)) (EP X pins σ Q) X.xe { s3 with heap := s3.heap.push { cls := .type "slice", data := .fields #[vl, vu, .none] } }
 exact tail_any (ops := [.ref s3.heap.objs.size, v]) ht hT hg (by with_unfolding_all rfl)
noncomputable def cutV (xs : List V) (lo hi : Option Int) : List V := (xs.drop (HT.sIx xs.length 0 lo)).take (HT.sIx xs.length xs.length hi - HT.sIx xs.length 0 lo)
theorem cutV_length (xs : List V) (lo hi : Option Int) : (cutV xs lo hi).length ≤ xs.length := by
 unfold cutV
 rw [List.length_take, List.length_drop]
 omega
noncomputable def rSlT (K : PySem.W.Frag) : V → Option Int → Option Int → Hp → VK → Prop := fun x lo hi H Q => ∃ a xs, x = .ref a ∧ SqT K H a xs ∧
 ¬ (HT.sIx xs.length 0 lo = 0 ∧ HT.sIx xs.length xs.length hi = xs.length) ∧ ∀ p, H p = none → Q (.ref p) (upd H p (.tup (cutV xs lo hi)))
theorem sl_tup : SlR X (rSlT X.K) := by
 intro pins s σ H x v vl vu lo hi sl Q I rx hs pl pu h
 obtain ⟨a, xs, rfl, hx, hw, q⟩ := h
 cases rx
 obtain ⟨its, r, ht, hz⟩ := I.tuple hx
 have hlen : its.toArray.size = xs.length := by rw [List.size_toArray]; exact r.length.symm
 refine ⟨"tuple", _, PyProof.Rows.slot_tuple_getitem.lookup, ht.typeIs, ?_⟩
 refine HT.getItem_tuple_cut ht hs pl pu (by rw [hlen]; exact hw) ?_ (by rw [hlen]; exact hz)
 rw [hlen]
 refine ⟨.ref s.heap.objs.size, _, I.laid (t' := s.toks) (o := .tup (cutV xs lo hi)) (fun b ob q => Heap.get?_push_of_some _ q) (Nat.le_refl _) ?_, rfl, q _ (I.hok.fresh (Nat.le_refl _))⟩
 exact ⟨Nat.le_trans (cutV_length xs lo hi) hz, _, (r.drop (HT.sIx xs.length 0 lo)).take (HT.sIx xs.length xs.length hi - HT.sIx xs.length 0 lo), IsTup.new _ _⟩
end
end L2
namespace L2
open PySem PySem.Spec PyProof.Rows
noncomputable def ixN (n : Nat) (i : Int) : Option Nat := if 0 ≤ i then (if i < n then some i.toNat else none) else if -(n : Int) ≤ i then some (i + n).toNat else none
noncomputable def atI {α : Type} (xs : List α) (i : Int) : Option α := (ixN xs.length i).bind fun j => xs[j]?
theorem ixN_seq {n : Nat} {i : Int} {j : Nat} (h : ixN n i = some j) : seqIndex? i n = some j ∧ j < n ∧ -(n : Int) ≤ i ∧ i < n := by
 unfold ixN at h
 by_cases h0 : 0 ≤ i
 ·rw [if_pos h0] at h
  by_cases h1 : i < n
  ·rw [if_pos h1] at h
   have e : i.toNat = j := Option.some.inj h
   exact ⟨by rw [seqIndex_of h0 h1, e], by omega, by omega, h1⟩
  ·rw [if_neg h1] at h; cases h
 ·rw [if_neg h0] at h
  by_cases h1 : -(n : Int) ≤ i
  ·rw [if_pos h1] at h
   have e : (i + n).toNat = j := Option.some.inj h
   exact ⟨by rw [seqIndex_neg (by omega) h1, e], by omega, h1, by omega⟩
  ·rw [if_neg h1] at h; cases h
theorem atI_get {α : Type} {xs : List α} {i : Int} {v : α} (h : atI xs i = some v) : ∃ j, seqIndex? i xs.length = some j ∧ xs[j]? = some v ∧ j < xs.length ∧ -(xs.length : Int) ≤ i ∧ i < xs.length := by
 unfold atI at h
 cases e : ixN xs.length i with
 | none => rw [e] at h; cases h
 | some j =>
  rw [e] at h
  obtain ⟨h1, h2, h3, h4⟩ := ixN_seq e
  exact ⟨j, h1, h, h2, h3, h4⟩
theorem atI_nat {α : Type} {xs : List α} {j : Nat} {v : α} (h : xs[j]? = some v) : atI xs (j : Int) = some v := by
 have hj : j < xs.length := (List.getElem?_eq_some_iff.mp h).1
 have e : ixN xs.length (j : Int) = some j := by
  unfold ixN
  rw [if_pos (by omega), if_pos (by omega)]; simp
 unfold atI; rw [e]; exact h
noncomputable def PlainIx (b : Expr) : Prop := ∀ o i, subscripted b false o i = operate [o, i] (getItem o i)
noncomputable def IxR (X : Cx) (r : R2) : Prop :=
 ∀ (value slice : Expr) (pins : List (Addr × Obj)) (s : Shared) (σ : St) (H : Hp) (x y : V) (v u : Value) (Q : VK), Inv X pins σ H s → RelV x v → RelV y u → r x y H Q →
  subscripted slice false v u = operate [v, u] (getItem v u) → wpAny (model X.prog X.w) X.A (subscriptTail value slice v u) (EP X pins σ Q) X.xe s
noncomputable def MtR (X : Cx) (id : String) (r : V → List V → Hp → VK → Prop) : Prop :=
 ∀ (pins : List (Addr × Obj)) (s : Shared) (σ : St) (H : Hp) (x : V) (xs : List V) (v : Value) (us : List Value) (Q : VK), Inv X pins σ H s → RelV x v → Vals xs us → r x xs H Q →
  wpAny (model X.prog X.w) X.A (call (.builtin id) (v :: us)) (EP X pins σ Q) X.xe s
section
variable {X : Cx} {a b : Expr} {ta tb : TE} {pos : Pos}
theorem IxR.or {r r' : R2} (h : IxR X r) (h' : IxR X r') : IxR X (fun x y H Q => r x y H Q ∨ r' x y H Q) := by
 intro value slice pins s σ H x y v u Q I rx ry q hs
 rcases q with q | q
 ·exact h value slice pins s σ H x y v u Q I rx ry q hs
 ·exact h' value slice pins s σ H x y v u Q I rx ry q hs
theorem MtR.or {id : String} {r r' : V → List V → Hp → VK → Prop} (h : MtR X id r) (h' : MtR X id r') : MtR X id (fun x xs H Q => r x xs H Q ∨ r' x xs H Q) := by
 intro pins s σ H x xs v us Q I rx rs q
 rcases q with q | q
 ·exact h pins s σ H x xs v us Q I rx rs q
 ·exact h' pins s σ H x xs v us Q I rx rs q
theorem pe_ix {r : R2} (hr : IxR X r) (ha : PE X a ta) (hb : PE X b tb) (hs : PlainIx b) : PE X (.Subscript a b pos) (tOp r ta tb) := by
 intro pins s σ H Q I h
 exact Subscript_ (binT ha hb I h fun v u s2 x y H2 I2 rx ry q => hr a b pins s2 σ H2 x y v u Q I2 rx ry q (hs _ _))
noncomputable def rIxL (K : PySem.W.Frag) : R2 := fun x y H Q => ∃ p xs i v, x = .ref p ∧ y = .int i ∧ SqL K H p xs ∧ atI xs i = some v ∧ Q v H
noncomputable def rIxT (K : PySem.W.Frag) : R2 := fun x y H Q => ∃ p xs i v, x = .ref p ∧ y = .int i ∧ SqT K H p xs ∧ atI xs i = some v ∧ Q v H
noncomputable def rIxS : R2 := fun x y H Q => ∃ z i c, x = .str z ∧ y = .int i ∧ z.length ≤ sizeLine ∧ atI z.cps.toList i = some c ∧ Q (.str ⟨#[c]⟩) H
theorem ix_list : IxR X (rIxL X.K) := by
 intro value slice pins s σ H x y v u Q I rx ry h hs
 obtain ⟨p, xs, i, z, rfl, rfl, hq, he, q⟩ := h
 cases rx
 obtain ⟨t, rfl⟩ := ry
 obtain ⟨its, r, pl, hz⟩ := I.list hq
 obtain ⟨j, h1, h2, h3, h4, h5⟩ := atI_get he
 obtain ⟨w, ew, rw'⟩ := r.get h2
 have hl := r.length
 have hn := line63
 have fin : EP X pins σ Q w s := ⟨z, H, I, rw', q⟩
 by_cases h0 : 0 ≤ i
 ·have hj : i.toNat = j := by
   rw [seqIndex_of h0 h5] at h1
   exact Option.some.inj h1
  exact item_listR pl.isList h0 (by omega) (by rw [hj]; simpa using ew) fin hs
 ·have hj : (i + (its.toArray.size : Int)).toNat = j := by
   rw [seqIndex_neg (by omega) h4] at h1
   rw [List.size_toArray, ← hl]
   exact Option.some.inj h1
  exact subscriptTail_builtinR (x := w) pl.isList.typeIs slot_list_getitem.lookup
   (wpAny_getItem_list_neg (Q := fun r s' => r = w ∧ EP X pins σ Q r s') pl.isList (by omega) (by rw [List.size_toArray] <;> omega) (by omega) (by rw [hj]; simpa using ew) ⟨rfl, fin⟩) hs
theorem ix_tup : IxR X (rIxT X.K) := by
 intro value slice pins s σ H x y v u Q I rx ry h hs
 obtain ⟨p, xs, i, z, rfl, rfl, hq, he, q⟩ := h
 cases rx
 obtain ⟨t, rfl⟩ := ry
 obtain ⟨its, r, pl, hz⟩ := I.tuple hq
 obtain ⟨j, h1, h2, h3, h4, h5⟩ := atI_get he
 obtain ⟨w, ew, rw'⟩ := r.get h2
 have hl := r.length
 have hn := line63
 have fin : EP X pins σ Q w s := ⟨z, H, I, rw', q⟩
 exact subscriptTail_builtinR (x := w) pl.typeIs slot_tuple_getitem.lookup
  (getItem_tuple (j := j) (Q := fun r s' => r = w ∧ EP X pins σ Q r s') pl (by omega) (by omega) (by rw [List.size_toArray, ← hl]; exact h1) (by simpa using ew) ⟨rfl, fin⟩) hs
theorem ix_str : IxR X rIxS := by
 intro value slice pins s σ H x y v u Q I rx ry h hs
 obtain ⟨z, i, c, rfl, rfl, hz, he, q⟩ := h
 obtain ⟨t, rfl⟩ := rx
 obtain ⟨t', rfl⟩ := ry
 obtain ⟨j, h1, h2, h3, h4, h5⟩ := atI_get he
 have hl : z.cps.toList.length = z.length := by simp [Str.length]
 rw [hl] at h1 h4 h5
 have hn := line63
 exact tail_any (typeIs_str s z t) slot_str_getitem.lookup (getItem_str (c := c) (by
  have e1 : decide (i < -(2 ^ 63 : Int)) = false := decide_eq_false (by omega)
  have e2 : decide (i ≥ 2 ^ 63) = false := decide_eq_false (by omega)
  rw [e1, e2, Bool.or_false]) (by rw [h1]; simpa using h2) ⟨.str ⟨#[c]⟩, H, I.tok _, ⟨_, rfl⟩, q⟩) hs
noncomputable def rIx (K : PySem.W.Frag) : R2 := fun x y H Q => rIxL K x y H Q ∨ rIxT K x y H Q ∨ rIxS x y H Q
theorem ix_seq : IxR X (rIx X.K) := ix_list.or (ix_tup.or ix_str)
theorem mapSeq_set (its : List Value) (n j : Nat) (u : Value) : Obj.mapSeq (·.setIfInBounds j u) { cls := .type "list", data := .seq its.toArray n } = { cls := .type "list", data := .seq (its.set j u).toArray n } := by
 simp [Obj.mapSeq]
theorem Inv.lst {pins : List (Addr × Obj)} {σ : St} {H : Hp} {s : Shared} {p : Addr} {xs : List V} (I : Inv X pins σ H s) (h : H p = some (.lst xs)) :
  ∃ (its : List Value) (n : Nat), Vals xs its ∧ s.heap.get? p = some { cls := .type "list", data := .seq its.toArray n } ∧ xs.length ≤ sizeLine := by
 obtain ⟨z, its, n, r, e⟩ := I.hok p _ h
 exact ⟨its, n, r, e, z⟩
theorem Inv.lstUpd {pins : List (Addr × Obj)} {σ : St} {H : Hp} {s : Shared} {p : Addr} {xs ys : List V} {its its' : List Value} {n n' : Nat} {f : Obj → Obj} (I : Inv X pins σ H s) (h : H p = some (.lst xs))
  (ho : s.heap.get? p = some { cls := .type "list", data := .seq its.toArray n }) (hf : f { cls := .type "list", data := .seq its.toArray n } = { cls := .type "list", data := .seq its'.toArray n' }) (r : Vals ys its') (hz : ys.length ≤ sizeLine) (t : Nat) :
  Inv X pins σ (upd H p (.lst ys)) { s with heap := s.heap.update p f, toks := t } := by
 have e : (s.heap.update p f).get? p = some { cls := .type "list", data := .seq its'.toArray n' } := by
  rw [Heap.get?_update_self f ho (by rw [hf] <;> rfl), hf]
 refine I.write (x := p) (e := p) (by rw [h]; trivial) (.inl rfl) (fun b u hb q => (Heap.get?_update_other _ _ (Ne.symm hb)).trans q) ⟨_, e⟩ ?_
 exact ⟨hz, its', n', r, e⟩
noncomputable def rSetL : V → V → V → Hp → (Hp → Prop) → Prop := fun o i v H Q => ∃ p xs k j, o = .ref p ∧ i = .int k ∧ H p = some (.lst xs) ∧ ixN xs.length k = some j ∧ Q (upd H p (.lst (xs.set j v)))
theorem set_list : PSet X rSetL := by
 intro pins s σ H o i v ov iv u Q I ro ri rv h
 obtain ⟨p, xs, k, j, rfl, rfl, hp, hj, q⟩ := h
 cases ro
 obtain ⟨t, rfl⟩ := ri
 obtain ⟨its, n, r, ho, hz⟩ := I.lst hp
 obtain ⟨h1, h2, h3, h4⟩ := ixN_seq hj
 have hl := r.length
 have hn := line63
 have I' : Inv X pins σ (upd H p (.lst (xs.set j v))) { s with heap := s.heap.update p (Obj.mapSeq (·.setIfInBounds j u)) } :=
  I.lstUpd hp ho (mapSeq_set its n j u) (r.set rv j) (by rw [List.length_set]; exact hz) s.toks
 by_cases h0 : 0 ≤ k
 ·have hk : k.toNat = j := by
   rw [seqIndex_of h0 h4] at h1
   exact Option.some.inj h1
  exact PySem.W.ki_setAt ho h0 (by omega) (by rw [List.size_toArray, ← hl]; exact h4) (by rw [hk]; exact ⟨_, I', q⟩)
 ·have hk : (k + (its.toArray.size : Int)).toNat = j := by
   rw [seqIndex_neg (by omega) h3] at h1
   rw [List.size_toArray, ← hl]
   exact Option.some.inj h1
  exact PySem.W.ki_setBack ho (by omega) (by rw [List.size_toArray, ← hl]; exact h3) (by omega) (by rw [hk]; exact ⟨_, I', q⟩)
theorem call_len_seq : CallR X (.builtin "len") (fun xs H Q => ∃ p ys, xs = [.ref p] ∧ (SqL X.K H p ys ∨ SqT X.K H p ys) ∧ Q (.int ys.length) H) := by
 intro pins s σ H xs us Q I r h
 obtain ⟨p, ys, rfl, hq, q⟩ := h
 obtain ⟨u, rfl, rx⟩ := vals1 r
 cases rx
 have hn := line63
 rcases hq with hq | hq
 ·obtain ⟨its, r', pl, hz⟩ := I.list hq
  have hlen := r'.length
  exact Calls.call_len_list pl.isList (by simp only [List.size_toArray] <;> omega) ⟨.int ys.length, H, I.tok _, ⟨s.toks + 1, by rw [List.size_toArray, hlen]⟩, q⟩
 ·obtain ⟨its, r', pl, hz⟩ := I.tuple hq
  have hlen := r'.length
  exact len_tuple pl (by simp only [List.size_toArray] <;> omega) ⟨.int ys.length, H, I.tok _, ⟨s.toks + 1, by rw [List.size_toArray, hlen]⟩, q⟩
theorem CallR.or {f : Value} {r r' : List V → Hp → VK → Prop} (h : CallR X f r) (h' : CallR X f r') : CallR X f (fun xs H Q => r xs H Q ∨ r' xs H Q) := by
 intro pins s σ H xs us Q I rs q
 rcases q with q | q
 ·exact h pins s σ H xs us Q I rs q
 ·exact h' pins s σ H xs us Q I rs q
theorem call_list_of : CallR X (.type "list") (fun xs H Q => ∃ p ys, xs = [.ref p] ∧ (SqL X.K H p ys ∨ SqT X.K H p ys) ∧ ∀ l, H l = none → Q (.ref l) (upd H l (.lst ys))) := by
 intro pins s σ H xs us Q I r h
 obtain ⟨p, ys, rfl, hq, q⟩ := h
 obtain ⟨u, rfl, rx⟩ := vals1 r
 cases rx
 have fin : ∀ (its : List Value), Vals ys its → ys.length ≤ sizeLine → ∀ (h' : Heap) (c' : Nat), (∀ b o', s.heap.get? b = some o' → h'.get? b = some o') →
   h'.get? s.heap.objs.size = some { cls := .type "list", dict := none, data := .seq its.toArray c', slots := #[] } → EP X pins σ Q (.ref s.heap.objs.size) { s with heap := h' } := fun its r' hz h' c' kp e =>
  ⟨.ref s.heap.objs.size, _, I.laid (t' := s.toks) kp (Nat.le_refl _) (show ObjOk X.prog X.w _ h' _ (.lst ys) from ⟨hz, its, c', r', e⟩), rfl, q _ (I.hok.fresh (Nat.le_refl _))⟩
 rcases hq with hq | hq
 ·obtain ⟨its, r', pl, hz⟩ := I.list hq
  have hlen := r'.length
  obtain ⟨o, ho, hc, n, hd⟩ := pl.isList
  exact call_list_seq p (.inl rfl) ho hc hd (fun h' c' kp e => fin its r' hz h' c' kp e) (by simp only [List.size_toArray] <;> omega)
 ·obtain ⟨its, r', pl, hz⟩ := I.tuple hq
  have hlen := r'.length
  obtain ⟨o, ho, hc, n, hd⟩ := pl
  exact call_list_seq p (.inr rfl) ho hc hd (fun h' c' kp e => fin its r' hz h' c' kp e) (by simp only [List.size_toArray] <;> omega)
noncomputable def tyV (K : PySem.W.Frag) (T : String) (x : V) (H : Hp) : Prop := match x with
 | .str _ => T = "str"
 | .int _ => T = "int"
 | .ref p => (T = "list" ∧ ∃ xs, SqL K H p xs) ∨ (T = "tuple" ∧ ∃ o, K.lookup p = some o ∧ o.cls = .type "tuple" ∧ o.dict = none) ∨
   (T = "dict" ∧ ((∃ kvs, H p = some (.dK kvs)) ∨ ∃ kvs, H p = some (.dT kvs))) ∨ (T = "set" ∧ ∃ S n, H p = some (.set S n))
 | _ => False
theorem tyV_is {pins : List (Addr × Obj)} {σ : St} {H : Hp} {s : Shared} {T : String} {x : V} {v : Value} (I : Inv X pins σ H s) (r : RelV x v) (ty : tyV X.K T x H) :
  s.TypeIs v T ∧ ∀ a, v = .ref a → ∃ ob, s.heap.get? a = some ob ∧ ob.dict = none := by
 cases x with
 | str z =>
  obtain ⟨t, rfl⟩ := r
  cases (show T = "str" from ty)
  exact ⟨typeIs_str s z t, fun _ e => nomatch e⟩
 | int i =>
  obtain ⟨t, rfl⟩ := r
  cases (show T = "int" from ty)
  exact ⟨typeIs_int s i t, fun _ e => nomatch e⟩
 | ref p =>
  cases r
  rcases ty with ⟨rfl, xs, hq⟩ | ⟨rfl, o, hk, hc, hd⟩ | ⟨rfl, hk⟩ | ⟨rfl, S, n, hk⟩
  ·obtain ⟨its, _, pl, _⟩ := I.list hq
   refine ⟨pl.isList.typeIs, fun a e => ?_⟩
   cases e
   obtain ⟨o, n, e, c, hd, _⟩ := pl
   exact ⟨o, e, hd⟩
  ·refine ⟨⟨o, I.kIn p o hk, hc⟩, fun a e => ?_⟩
   cases e
   exact ⟨o, I.kIn _ o hk, hd⟩
  ·have z : ∃ o, s.heap.get? p = some o ∧ o.ExactDict := by
    rcases hk with ⟨kvs, hk⟩ | ⟨kvs, hk⟩
    ·obtain ⟨_, _, _, _, o, _, _, e, ex, _⟩ := I.hok p _ hk
     exact ⟨o, e, ex⟩
    ·obtain ⟨_, _, _, _, o, _, _, e, ex, _⟩ := I.hok p _ hk
     exact ⟨o, e, ex⟩
   obtain ⟨o, e, ex⟩ := z
   refine ⟨⟨o, e, ex.1⟩, fun a e2 => ?_⟩
   cases e2
   exact ⟨o, e, ex.2.1⟩
  ·obtain ⟨o, _, _, _, e, ex, _⟩ := I.hok p _ hk
   refine ⟨⟨o, e, ex.1⟩, fun a e2 => ?_⟩
   cases e2
   exact ⟨o, e, ex.2.1⟩
 | _ => exact False.elim ty
noncomputable def tBM0 (K : PySem.W.Frag) (T : String) (r : V → List V → Hp → VK → Prop) (to : TE) : TE := fun σ H Q => to σ H fun x H1 => tyV K T x H1 ∧ r x [] H1 Q
noncomputable def tBM (K : PySem.W.Frag) (T : String) (r : V → List V → Hp → VK → Prop) (to : TE) (t : TA) : TE := fun σ H Q => to σ H fun x H1 => tyV K T x H1 ∧ t σ H1 fun xs H2 => r x xs H2 Q
variable {o e : Expr} {es : List Expr} {to : TE} {t : TA} {name : Str} {apos cpos : Pos} {T id : String} {r : V → List V → Hp → VK → Prop}
theorem pe_bm0 (pa : PlainAttrs T) (slot : Slot T name id) (hty : typeOf (.builtin id) = pure (.type "method_descriptor")) (hm : MtR X id r) (ho : PE X o to)
  (hbase : attributeBase o name X.env (eval o X.env) = eval o X.env := by rfl) (hline : (apos.endLine == cpos.line) = true := by rfl) : PE X (.Call (.Attribute o name apos) [] [] cpos) (tBM0 X.K T r to) := by
 intro pins s σ H Q I h
 refine wpAny_Call_method0_late hbase hline (thn (ho pins s σ H _ I h) fun v s1 ⟨x, H1, I1, r1, ty, q1⟩ => ?_)
 obtain ⟨h1, h2⟩ := tyV_is I1 r1 ty
 exact ⟨T, id, pa, slot, hty, h1, h2, Calls.callWith_builtin rfl (PySem.evalArgs_none (hm pins s1 σ H1 x [] v [] Q I1 r1 .nil q1))⟩
theorem pe_bm (pa : PlainAttrs T) (slot : Slot T name id) (hty : typeOf (.builtin id) = pure (.type "method_descriptor")) (hm : MtR X id r) (ho : PE X o to) (ha : PA X (e :: es) t)
  (hbase : attributeBase o name X.env (eval o X.env) = eval o X.env := by rfl)
  (hfew : ((backTo cpos (starEach (e :: es) X.env)).all (fun x => !x.1) && (backToKw cpos (keywordEach [] X.env)).all (fun x => x.1.isSome)
   && decide ((e :: es).length + ([] : List Keyword).length + (if ([] : List Keyword).isEmpty then 0 else 1) < 30)) = true := by rfl)
  (hline : (apos.endLine == cpos.line) = true := by rfl) (hs : starEach (e :: es) X.env = (false, eval e X.env) :: starEach es X.env := by rfl) (hplain : (backTo cpos (starEach es X.env)).any (·.1) = false := by rfl) :
  PE X (.Call (.Attribute o name apos) (e :: es) [] cpos) (tBM X.K T r to t) := by
 intro pins s σ H Q I h
 refine wpAny_Call_method_late hbase hfew hline rfl (thn (ho pins s σ H _ I h) fun v s1 ⟨x, H1, I1, r1, ty, q1⟩ => ?_)
 obtain ⟨h1, h2⟩ := tyV_is I1 r1 ty
 refine ⟨T, id, pa, slot, hty, h1, h2, ?_⟩
 have hA := ha cpos pins s1 σ H1 _ I1 q1
 rw [hs] at hA ⊢
 refine Calls.callWith_builtin (by show (false || (backTo cpos (starEach es X.env)).any (·.1)) = false; rw [hplain] <;> rfl) (Calls.evalArgs_plain ?_)
 exact thn hA fun us s2 ⟨vs, H2, I2, r2, q2⟩ => hm pins s2 σ H2 x vs v us Q I2 r1 r2 q2
end
end L2
namespace L2
open PySem PySem.Spec PyProof.Rows
noncomputable def MtM (X : Cx) (id : String) (r : V → List V → Hp → VK → Prop) : Prop :=
 ∀ (pins : List (Addr × Obj)) (s : Shared) (σ : St) (H : Hp) (x : V) (xs : List V) (v : Value) (us : List Value) (Q : VK), Inv X pins σ H s → RelV x v → Vals xs us → r x xs H Q →
  wpAny (model X.prog X.w) X.A (call (.builtin id) (v :: us)) (EP X pins σ Q) X.xe s
theorem Vals.one : ∀ {x : V} {us : List Value}, Vals [x] us → ∃ u, us = [u] ∧ RelV x u := by
 intro x us h
 cases h with
 | cons r t => cases t; exact ⟨_, rfl, r⟩
theorem Vals.two : ∀ {x y : V} {us : List Value}, Vals [x, y] us → ∃ u v, us = [u, v] ∧ RelV x u ∧ RelV y v := by
 intro x y us h
 cases h with
 | cons r t =>
  obtain ⟨v, rfl, q⟩ := Vals.one t
  exact ⟨_, _, rfl, r, q⟩
theorem Vals.zero : ∀ {us : List Value}, Vals [] us → us = []
 | _, .nil => rfl
theorem Vals.eraseIdx : ∀ {xs : List V} {us : List Value} (i : Nat), Vals xs us → Vals (xs.eraseIdx i) (us.eraseIdx i)
 | _, _, _, .nil => .nil
 | _, _, 0, .cons _ t => t
 | _, _, i + 1, .cons r t => .cons r (Vals.eraseIdx i t)
theorem Vals.reverse {xs : List V} {us : List Value} (h : Vals xs us) : Vals xs.reverse us.reverse := by
 induction h with
 | nil => exact .nil
 | cons r t ih => rw [List.reverse_cons, List.reverse_cons]; exact Vals.append ih (.cons r .nil)
theorem len_erase {α : Type} : ∀ (l : List α) (i : Nat), (l.eraseIdx i).length ≤ l.length
 | [], _ => Nat.le_refl _
 | _ :: _, 0 => Nat.le_succ _
 | _ :: r, i + 1 => Nat.succ_le_succ (len_erase r i)
section
variable {X : Cx} {pins : List (Addr × Obj)} {σ : St} {H : Hp} {s : Shared} {l b : Addr} {xs ys zs : List V}
theorem Inv.lset {its its' : List Value} {n : Nat} {f : Array Value → Array Value} {t' : Nat} (I : Inv X pins σ H s) (hH : H l = some (.lst xs))
  (e : s.heap.get? l = some { cls := .type "list", data := .seq its.toArray n }) (hf : f its.toArray = its'.toArray) (hv : Vals ys its') (hz : ys.length ≤ sizeLine) :
  Inv X pins σ (upd H l (.lst ys)) { s with heap := s.heap.update l (Obj.mapSeq f), toks := t' } := by
 have q := PySem.IsL.update e f
 rw [hf] at q
 refine I.write (x := l) (e := l) (by rw [hH]; exact trivial) (.inl rfl) (fun b' u hb hu => (Heap.get?_update_other s.heap (Obj.mapSeq f) (Ne.symm hb)).trans hu) ⟨_, q⟩ ?_
 exact ⟨hz, its', _, hv, q⟩
theorem Inv.lnew {its : List Value} {t' : Nat} (I : Inv X pins σ H s) (hv : Vals ys its) (hz : ys.length ≤ sizeLine) :
  Inv X pins σ (upd H s.heap.objs.size (.lst ys)) { s with heap := s.heap.push { cls := .type "list", data := .seq its.toArray }, toks := t' } :=
 I.laid (fun _ _ q => Heap.get?_push_of_some _ q) (Nat.le_refl _) ⟨hz, its, 0, hv, Heap.get?_push_size _ rfl⟩
theorem Inv.fresh (I : Inv X pins σ H s) : H s.heap.objs.size = none := I.hok.fresh (Nat.le_refl _)
theorem Inv.lstM (I : Inv X pins σ H s) (hH : H l = some (.lst xs)) : xs.length ≤ sizeLine ∧ ∃ (its : List Value) (n : Nat), Vals xs its ∧ xs.length = its.length ∧ s.heap.get? l = some { cls := .type "list", data := .seq its.toArray n } := by
 obtain ⟨z, its, n, r, e⟩ := I.hok l _ hH
 exact ⟨z, its, n, r, r.length, e⟩
end
section
variable {X : Cx}
noncomputable def rAppend : V → List V → Hp → VK → Prop := fun x vs H Q => ∃ l xs y, x = .ref l ∧ vs = [y] ∧ H l = some (.lst xs) ∧ xs.length < sizeLine ∧ Q .non (upd H l (.lst (xs ++ [y])))
theorem mt_append : MtM X "list.append" rAppend := by
 intro pins s σ H x vs v us Q I rx rv h
 obtain ⟨l, xs, y, rfl, rfl, hH, hz, q⟩ := h
 cases rx
 obtain ⟨u, rfl, ru⟩ := rv.one
 obtain ⟨z, its, n, r, hl, e⟩ := I.lstM hH
 refine call_meets F.slot_list_append ⟨_, e, rfl⟩ F.entry_list_append (F.args_list_append_2 _ _) (PySem.list_append l its.toArray n u (by rw [List.size_toArray]; omega)) ⟨e, ?_⟩
 refine ⟨.non, _, I.lset (its' := its ++ [u]) hH e (by simp) (r.append (.cons ru .nil)) ?_, rfl, q⟩
 rw [List.length_append, List.length_singleton]
 omega
noncomputable def rPopAt : V → List V → Hp → VK → Prop := fun x vs H Q => ∃ l xs i k y, x = .ref l ∧ vs = [.int i] ∧ H l = some (.lst xs) ∧ -(2 ^ 63) ≤ i ∧ i < 2 ^ 63 ∧ seqIndex? i xs.length = some k ∧ xs[k]? = some y ∧ Q y (upd H l (.lst (xs.eraseIdx k)))
theorem mt_popAt : MtM X "list.pop" rPopAt := by
 intro pins s σ H x vs v us Q I rx rv h
 obtain ⟨l, xs, i, k, y, rfl, rfl, hH, h1, h2, hk, hy, q⟩ := h
 cases rx
 obtain ⟨u, rfl, ru⟩ := rv.one
 obtain ⟨t, rfl⟩ := ru
 obtain ⟨z, its, n, r, hl, e⟩ := I.lstM hH
 obtain ⟨w, hw, rw'⟩ := r.get hy
 refine call_meets F.slot_list_pop ⟨_, e, rfl⟩ F.entry_list_pop (F.args_list_pop_2 _ _)
  (MeetsSeq.list_pop_at l its.toArray n i t k w (fitsIndex_both h1 h2) (by rw [List.size_toArray, ← hl]; exact hk) (by rw [← Array.getElem?_toList]; exact hw) (by rw [List.size_toArray]; omega)) ⟨e, ?_⟩
 refine ⟨y, _, I.lset (its' := its.eraseIdx k) hH e ?_ (r.eraseIdx k) ?_, rw', q⟩
 ·show its.toArray.eraseIdxIfInBounds k = (its.eraseIdx k).toArray
  rw [List.eraseIdxIfInBounds_toArray]
 ·have := len_erase xs k
  omega
noncomputable def rReverse : V → List V → Hp → VK → Prop := fun x vs H Q => ∃ l xs, x = .ref l ∧ vs = [] ∧ H l = some (.lst xs) ∧ Q .non (upd H l (.lst xs.reverse))
theorem mt_reverse : MtM X "list.reverse" rReverse := by
 intro pins s σ H x vs v us Q I rx rv h
 obtain ⟨l, xs, rfl, rfl, hH, q⟩ := h
 cases rx
 have hus := rv.zero
 subst hus
 obtain ⟨z, its, n, r, hl, e⟩ := I.lstM hH
 refine call_meets F.slot_list_reverse ⟨_, e, rfl⟩ F.entry_list_reverse (F.args_list_reverse_1 _) (AutoSeq1.list_reverse_list_0 l its.toArray n (by rw [List.size_toArray]; omega)) ⟨e, ?_⟩
 refine ⟨.non, _, I.lset (its' := its.reverse) hH e (by simp) r.reverse ?_, rfl, q⟩
 rw [List.length_reverse]
 omega
noncomputable def rCat : R2 := fun x y H Q => ∃ l b xs zs, x = .ref l ∧ y = .ref b ∧ H l = some (.lst xs) ∧ H b = some (.lst zs) ∧ xs.length + zs.length ≤ sizeLine ∧ ∀ p, H p = none → Q (.ref p) (upd H p (.lst (xs ++ zs)))
theorem op_cat : OpR X (binaryOp .Add) rCat := by
 intro pins s σ H x y v u Q I rx ry h
 obtain ⟨l, b, xs, zs, rfl, rfl, hH, hB, hz, q⟩ := h
 cases rx
 cases ry
 obtain ⟨z, its, n, r, hl, e⟩ := I.lstM hH
 obtain ⟨z2, its2, n2, r2, hl2, e2⟩ := I.lstM hB
 refine PySem.P.add_list e e2 ?_ (by rw [List.size_toArray, List.size_toArray]; omega)
 have ea : its.toArray ++ its2.toArray = (its ++ its2).toArray := by simp
 rw [ea]
 exact ⟨.ref _, _, I.lnew (t' := s.toks) (r.append r2) (by rw [List.length_append]; omega), rfl, q _ I.fresh⟩
end
section
variable {prog : Program} {w : World} {A : Around} {E : Value → Shared → Prop} {s : Shared}
end
section
variable {X : Cx}
end
end L2
namespace Att
open PySem PySem.W PySem.Calls PyProof.Rows
theorem ints_of_wellAll {P : Params} {h : Heap} : ∀ (ns : List Int) (vs : List Value), WellAll P h vs (ns.map WData.int) → IntsAre vs ns := by
 intro ns
 induction ns with
 | nil =>
  intro vs w
  rw [List.map_nil] at w
  cases w
  exact .nil
 | cons n ns ih =>
  intro vs w
  rw [List.map_cons] at w
  cases w with
  | cons a b =>
   cases a
   exact .cons _ _ (ih _ b)
theorem script_of {l : OpenLaw} {n : Nat} (hn : l.most = some n) {P : Params} {h : Heap} {args : List WData} {vals : List Value}
  (hpre : l.row.toRowW.claim.pre args = true) (hwl : WellAll P h vals args) :
  ∃ a vs ns, vals = [Value.ref a] ∧ args = [WData.list (ns.map WData.int)] ∧ h.get? a = some { cls := .type "list", data := .seq vs.toArray } ∧ IntsAre vs ns ∧ ns.length ≤ n := by
 have hsh : WShape.hasAll [] args [.list .int] = true := (pre_splitW hpre).1
 have hc : l.pre.holds [] { args := args } = true := (pre_splitW hpre).2
 obtain ⟨d, r, rfl, h1, h2⟩ := hasAllW_cons hsh
 obtain rfl := hasAllW_nil h2
 obtain ⟨xs, rfl, h3⟩ := hasW_list h1
 obtain ⟨ns, rfl⟩ := items_int h3
 have hlen : ns.length ≤ n := by
  unfold OpenLaw.pre at hc
  have h4 : (WTm.not (.lt (.lit (.int (n : Int))) (.len (.arg 0)))).holds [] { args := [.list (ns.map .int)] } = true := by
   have h4 := (holds_andW hc).1
   rw [hn] at h4
   exact h4
  have h5 := condW_of h4 (w_not (w_lt w_lit (w_len_list (w_arg rfl))))
  rw [List.length_map] at h5
  refine Nat.le_of_not_lt fun q => ?_
  have q' : (n : Int) < ((ns.length : Nat) : Int) := by omega
  first
   | (rw [decide_eq_true q'] at h5; exact absurd h5 (by decide))
   | (simp at h5; omega)
 cases hwl with
 | cons w1 w2 =>
  cases w2
  cases w1 with
  | list ho hall => exact ⟨_, _, ns, rfl, rfl, ho, ints_of_wellAll ns _ hall, hlen⟩
theorem post_true (l : OpenLaw) (args : List WData) : l.row.toRowW.claim.post args (.bool true) args = true :=
 postW_of (r := l.row.toRowW) (X := (true == true))
  (show WShape.has [] (.bool true) .bool = true by first | rfl | decide | simp [WShape.has, WShape.arms, WShape.armsAll])
  (show (WTm.eq .res (.lit (.bool true))).value [] { args := args, res := some (.bool true), after := args } = some (.bool (true == true)) from w_eq_bool (w_res rfl) w_lit) rfl
theorem attach_call {l : OpenLaw} {n : Nat} {q : Program} {loose : List Str} {XP : (Str → Option Value) → Heap → Prop} {YP : World → Heap → Prop} {d : DefRec}
  (hn : l.most = some n) (hdf : d.params.defaults = [])
  (call : ∀ (w : World) (s₀ s₁ : Shared) (mg mb : Str → Option Value) (fa : Addr) (o : Obj) (pm cd doc : Value) (a : Addr) (vs : List Value) (ns : List Int),
   Ground q loose [] XP w s₀ mg mb s₁.heap → YP w s₁.heap →
   s₁.heap.get? fa = some o → o.data = .func (docDef d.name d.params d.body d.scope pm cd doc) → s₁.heap.CodeRec cd d.name → mg d.name = some (.ref fa) →
   s₁.heap.get? a = some { cls := .type "list", data := .seq vs.toArray } → IntsAre vs ns → ns.length ≤ n → s₁.gens = #[] →
   codeAny (model l.prog w) callerA (.call (.ref fa) ⟨[.ref a], []⟩) (fun r s' => r = .ok (.ret (.bool true)) ∧ OldK s₁.heap s'.heap ∧ s'.os = s₁.os ∧ AllBare s'.gens) s₁) :
  WalkO q loose XP YP l.row.toRowW d [] (fun f vs => PySem.call f vs) := by
 intro w s₀ s₁ mg mb G Y fa o pm cd doc dV kV ho hd hcd hD hmg hg args vals as hpre hlay hrd hwl hlo
 obtain rfl : dV = .none := Dflts.none hD hdf
 obtain rfl : kV = .none := Dflts.noKw hD
 obtain ⟨a, vs, ns, rfl, rfl, hobj, hints, hlen⟩ := script_of hn hpre hwl
 refine enter_call (codeAny_mono (call w s₀ s₁ mg mb fa o pm cd doc a vs ns G Y ho (fd_plain hd) hcd hmg hobj hints hlen hg) fun r s' hq => ?_)
 obtain ⟨rfl, h2, h3, h4⟩ := hq
 exact ⟨.inl ⟨.bool true, .bool true, [], rfl, fun _ => rfl, .bool true, post_true l _, fun _ => ⟨List.Pairwise.nil, fun _ hm => (nomatch hm)⟩⟩, h2, h3, h4⟩
section
variable {prog : Program} {w : World} {A : Around} {E : Value → Shared → Prop} {s : Shared} {K : Frag}
end
end Att
namespace L2
open PySem PySem.Spec PyProof.Rows
theorem vals_ints : ∀ {vs : List Value} {ns : List Int}, IntsAre vs ns → Vals (ns.map V.int) vs := by
 intro vs ns h
 induction h with
 | nil => exact .nil
 | cons n t h ih => exact .cons ⟨t, rfl⟩ ih
noncomputable def Only (H : Hp) : Prop := ∀ b, H b = none ∨ ∃ o xs, H b = some (.frz o (.lst xs))
theorem law_call {P : Program} {w : World} {K : PySem.W.Frag} {mg mb : Str → Option Value} {CX : CXT} {k : Nat} {fa a : Addr} {fd : FuncData} {x : Str} {sp : Sp} {s₁ : Shared} {vs : List Value} {ns : List Int}
  (KX : K.In s₁.heap) (hns : s₁.heap.Ns mainGlobals mg) (hb : s₁.heap.Ns builtinsNs mb) (hbb : ∀ x : Str, x ≠ "__name__" → mb x = bootBuiltins x) (hlim : s₁.heap.NoLimit) (hg : s₁.gens = #[])
  (ha : s₁.heap.get? a = some { cls := .type "list", data := .seq vs.toArray }) (hi : IntsAre vs ns) (hl : ns.length ≤ sizeLine) (hr : Room k callerA)
  (F : ∀ base : Heap, K.In base → base.Ns mainGlobals mg → FnOk P w K mg base CX k fa fd [x] sp) (hbind : ∀ (s : Shared) (u : Value), BindsTo s fd ⟨[u], []⟩ [(x, u)])
  (hsp : ∀ H : Hp, Only H → SqL K H a (ns.map V.int) → sp [.ref a] H (fun v _ => v = .bl true) fun _ _ _ => False)
  (hCX : ∀ H e s', CX [] H s₁ (fun _ _ _ => False) e s' → False) :
  codeAny (model P w) callerA (.call (.ref fa) ⟨[.ref a], []⟩) (fun r s' => r = .ok (.ret (.bool true)) ∧ OldK s₁.heap s'.heap ∧ s'.os = s₁.os ∧ AllBare s'.gens) s₁ := by
 have rv := vals_ints hi
 have lenV := hi.length
 have core : ∀ H : Hp, Only H → SqL K H a (ns.map V.int) → HOk P w H s₁.heap → (∀ b, H b ≠ none → b = a) → (H a ≠ none → K.lookup a = none) →
   codeAny (model P w) callerA (.call (.ref fa) ⟨[.ref a], []⟩) (fun r s' => r = .ok (.ret (.bool true)) ∧ OldK s₁.heap s'.heap ∧ s'.os = s₁.os ∧ AllBare s'.gens) s₁ := by
  intro H hO hS hok hA hK
  have base_of : ∀ {b : Addr} {o : Obj}, s₁.heap.get? b = some o → H b = none → (hidT s₁.heap H).get? b = some o := fun e n => hidT_get e n
  have noA : ∀ {b : Addr} {o : Obj} {es : Array DictEntry} {ep : Nat}, s₁.heap.get? b = some o → o.data = .dict es ep → H b = none := fun {b o es ep} e d => by
   cases q : H b with
   | none => rfl
   | some u =>
    have e' : b = a := hA b (by rw [q]; simp)
    subst e'
    rw [ha] at e; cases e
    have d' : Data.seq vs.toArray _ = Data.dict es ep := d
    cases d'
  have nsK : ∀ {b : Addr} {m : Str → Option Value}, s₁.heap.Ns b m → (hidT s₁.heap H).Ns b m := fun {b m} ⟨o, es, ep, e, d, r⟩ => ⟨o, es, ep, base_of e (noA e d), d, r⟩
  have hKb : K.In (hidT s₁.heap H) := fun b o e => base_of (KX b o e) (by
   cases q : H b with
   | none => rfl
   | some u =>
    have e' : b = a := hA b (by rw [q]; simp)
    subst e'
    rw [hK (by rw [q]; simp)] at e; cases e)
  have hM : Mod K mg (hidT s₁.heap H) := ⟨hKb, nsK hns, ⟨mb, nsK hb, hbb⟩, let ⟨mc, h1, h2⟩ := hlim; ⟨mc, nsK h1, h2⟩⟩
  have e0 : Env0 P w K mg (hidT s₁.heap H) callerA [] s₁ H := ⟨rfl, hM, fun b o e => of_hidT e, Nat.le_of_eq (hidT_size _ _), trivial, fun b hb => absurd (show b ∈ ([] : List Addr) from hb) (by simp), hok, .of_eq hg⟩
  refine codeAny_mono ((F _ hKb (nsK hns)).run callerA [] s₁ H ⟨[.ref a], []⟩ [.ref a] [.ref a] _ _ hr e0 (hbind s₁ (.ref a)) (.cons rfl .nil) (hsp H hO hS)) fun r s' h => ?_
  cases r with
  | error e => exact (hCX H e s' h).elim
  | ok fl =>
   cases fl with
   | next => exact False.elim h
   | brk => exact False.elim h
   | cont => exact False.elim h
   | ret u =>
    obtain ⟨v, H', os, bare, un, hok', r', q⟩ := h
    have q' : v = .bl true := q
    subst q'
    obtain rfl : u = Value.bool true := r'
    refine ⟨rfl, OldK.of_keep fun b o e => ?_, os, bare⟩
    cases q : H b with
    | none => exact un.keep b o e q (by intro z; exact absurd (show b ∈ ([] : List Addr) from z) (by simp)) (by simp)
    | some u =>
     rcases hO b with z | ⟨ob, xs, z⟩
     ·rw [q] at z; cases z
     ·have z2 := un.frzs b ob _ z
      obtain ⟨e1, _⟩ := hok b _ z
      obtain ⟨e2, _⟩ := hok' b _ z2
      rw [e] at e1; cases e1
      exact e2
 cases hk : K.lookup a with
 | some o =>
  have e := KX a o hk
  rw [ha] at e
  cases e
  refine core (fun _ => none) (fun _ => .inl rfl) (.inr ⟨_, vs.toArray, _, hk, rfl, rfl, rfl, by rw [List.size_toArray, lenV]; exact hl, by simpa using rv⟩) (fun b u z => by have z' : (none : Option HO) = some u := z; cases z') (fun b z => absurd rfl z) fun z => absurd rfl z
 | none =>
  refine core (fun b => if b = a then some (.frz { cls := .type "list", data := .seq vs.toArray } (.lst (ns.map V.int))) else none) (fun b => ?_) (.inl (.inr ⟨{ cls := .type "list", data := .seq vs.toArray }, if_pos rfl⟩)) (fun b u z => ?_) (fun b z => ?_) fun _ => hk
  ·by_cases hb : b = a
   ·exact .inr ⟨_, _, if_pos hb⟩
   ·exact .inl (if_neg hb)
  ·by_cases hb : b = a
   ·have z' := (if_pos hb).symm.trans z
    cases z'
    subst hb
    exact ⟨ha, by rw [List.length_map]; exact hl, vs, _, rv, ha⟩
   ·have z' := (if_neg hb).symm.trans z
    cases z'
  ·by_cases hb : b = a
   ·exact hb
   ·exact absurd (if_neg hb) z
end L2
namespace L2
open PySem PySem.Spec PyProof.Rows
theorem walk_of {l : PySem.W.OpenLaw} {n k : Nat} {q : Program} {loose : List Str} {XP : (Str → Option Value) → Heap → Prop} {YP : World → Heap → Prop} {d : DefRec} {K : Params → PySem.W.Frag} {CX : World → CXT} {sp : World → Sp} {x : Str}
  (hn : l.most = some n) (hn2 : n ≤ sizeLine) (hdf : d.params.defaults = []) (hr : Room k callerA)
  (hY : ∀ (w : World) (h : Heap), YP w h → (K w.params).In h)
  (F : ∀ (w : World) (mg : Str → Option Value) (fa : Addr) (h : Heap), (K w.params).In h → h.Ns mainGlobals mg → mg d.name = some (.ref fa) →
   ∃ fd : FuncData, (∀ (s : Shared) (u : Value), BindsTo s fd ⟨[u], []⟩ [(x, u)]) ∧
    ∀ base : Heap, (K w.params).In base → base.Ns mainGlobals mg → FnOk l.prog w (K w.params) mg base (CX w) k fa fd [x] (sp w))
  (hsp : ∀ (w : World) (H : Hp) (a : Addr) (ns : List Int), ns.length ≤ n → Only H → SqL (K w.params) H a (ns.map V.int) → sp w [.ref a] H (fun v _ => v = .bl true) fun _ _ _ => False)
  (hCX : ∀ (w : World) (H : Hp) (s : Shared) (e : Value) (s' : Shared), CX w [] H s (fun _ _ _ => False) e s' → False) :
  PySem.W.WalkO q loose XP YP l.row.toRowW d [] (fun f vs => PySem.call f vs) := by
 refine Att.attach_call hn hdf fun w s₀ s₁ mg mb fa o pm cd doc a vs ns G Y ho hd hcd hmg hobj hints hlen hg => ?_
 have KX := hY w _ Y
 obtain ⟨fd, hb, hF⟩ := F w mg fa _ KX G.T.g hmg
 exact law_call KX G.T.g G.T.b G.T.builtins G.T.nolimit hg hobj hints (Nat.le_trans hlen hn2) hr hF hb (fun H hO hS => hsp w H a ns hlen hO hS) fun H e s' => hCX w H s₁ e s'
end L2
namespace L2
open PySem PySem.Spec PyProof.Rows
noncomputable def inClass (s : Stmt) (j : Nat) : Stmt := match s with
 | .ClassDef _ _ _ body _ _ _ _ _ _ _ => body.getD j (.Pass ⟨0, 0, 0, 0⟩)
 | _ => .Pass ⟨0, 0, 0, 0⟩
noncomputable def defArgs (s : Stmt) : Arguments := match s with
 | .FunctionDef _ a _ _ _ _ _ _ _ _ => a
 | _ => { posonlyargs := [], args := [], vararg := none, kwonlyargs := [], kw_defaults := [], kwarg := none, defaults := [] }
noncomputable def defBody (s : Stmt) : List Stmt := match s with
 | .FunctionDef _ _ b _ _ _ _ _ _ _ => b
 | _ => []
noncomputable def defScope (s : Stmt) : Scope := match s with
 | .FunctionDef _ _ _ _ _ _ sc _ _ _ => sc
 | _ => { kind := .function, names := [], isGenerator := false, isCoroutine := false }
abbrev CX0 : CXT := fun _ _ _ _ _ _ => False
abbrev E0 : XK := fun _ _ _ => False
theorem pass0 {X : Cx} : Passes CX0 X E0 := fun _ _ _ _ _ _ _ h => h.elim
structure Fun (K : PySem.W.Frag) (x qual : Str) (st : Stmt) (f : Addr) (fd : FuncData) : Prop where
 ex : ∃ (oc : Value) (od : Option Addr) (kV doc pm : Value) (an : Option Addr) (cdv ct : Value) (osl : Array (Option Value)),
  fd = PySem.W.fnOf x qual (defArgs st) (defBody st) (defScope st) .none kV doc pm an cdv ct ∧ K.lookup f = some ⟨oc, od, .func fd, osl⟩ ∧ PySem.W.codeIn K cdv qual = true
 kp : PySem.W.keepIn K (.ref f) = true
section
variable {P : Program} {w : World} {K : PySem.W.Frag} {mg : Str → Option Value} {base : Heap}
theorem Fun.ok {x qual : Str} {st : Stmt} {f : Addr} {fd : FuncData} {N ps : List Str} {k : Nat} {sp : Sp} (F : Fun K x qual st f fd) (S : FnScope N ps (defScope st)) (len : ∀ vs H Q E, sp vs H Q E → vs.length = ps.length)
  (hbody : ∀ (cdv : Value) (A : Around) (outer : List Env) (s : Shared) (H : Hp) (vs : List V) (Q : VK) (E : XK), Room k (A.deeper (envOfC qual (defScope st) s.heap.objs.size f cdv)) → sp vs H Q E →
   ∃ t, PSs (cxOf CX0 P w K mg base N qual (defScope st) f cdv A outer s H E).nox (defBody st) t ∧ t { nx := fun _ H' => Q .non H', rt := Q } (start N vs) H) : FnOk P w K mg base CX0 (k + 1) f fd ps sp := by
 obtain ⟨oc, od, kV, doc, pm, an, cdv, ct, osl, rfl, lk, hcd⟩ := F.ex
 refine fn_of lk hcd S len fun A outer s H vs Q E hr hsp => ?_
 obtain ⟨t, h, q⟩ := hbody cdv A outer s H vs Q E hr hsp
 exact ⟨t, h.nox, q⟩
theorem Fun.binds {x qual : Str} {st : Stmt} {f : Addr} {fd : FuncData} {ps : List Str} (F : Fun K x qual st f fd)
  (h : ∀ (kV doc pm : Value) (an : Option Addr) (cdv ct : Value) (us : List Value), us.length = ps.length → bindArgs (PySem.W.fnOf x qual (defArgs st) (defBody st) (defScope st) .none kV doc pm an cdv ct) ⟨us, []⟩ = pure (ps.zip us)) : Binds K fd ps [] := by
 obtain ⟨oc, od, kV, doc, pm, an, cdv, ct, osl, rfl, lk, hcd⟩ := F.ex
 exact .all (h kV doc pm an cdv ct)
theorem fun_mk {x qual : Str} {st : Stmt} {f : Addr} {oc : Value} {od an : Option Addr} {osl : Array (Option Value)} {kV doc pm cdv ct : Value} (l : K.lookup f = some ⟨oc, od, .func (PySem.W.fnOf x qual (defArgs st) (defBody st) (defScope st) .none kV doc pm an cdv ct), osl⟩)
  (c : PySem.W.codeIn K cdv qual = true) (k : PySem.W.keepIn K (.ref f) = true) : Fun K x qual st f (PySem.W.fnOf x qual (defArgs st) (defBody st) (defScope st) .none kV doc pm an cdv ct) := ⟨⟨oc, od, kV, doc, pm, an, cdv, ct, osl, rfl, l, c⟩, k⟩
end
theorem small1000 {n : Nat} (h : n ≤ 1000) : n < sizeLine := Nat.lt_of_le_of_lt h (by decide)
section
variable {X : Cx}
theorem pv (i : Nat) {x : Str} {pos : Pos} (hN : X.N[i]? = some x := by rfl) (hv : Vis X.env.scope x := by first | exact Or.inl rfl | exact Or.inr (Or.inl rfl) | exact Or.inr (Or.inr rfl)) (hd : (x == ("__debug__" : Str)) = false := by decide)
  (hcd : (x == ("__classdict__" : Str)) = false := by decide) : PE X (.Name x pos) (tVar i) := pe_var hN hv hd hcd
end
theorem iteF {A B : Prop} (h : B) : if false = true then A else B := by
 rw [if_neg Bool.false_ne_true]
 exact h
theorem iteT {A B : Prop} (h : A) : if true = true then A else B := by
 rw [if_pos rfl]
 exact h
theorem iteNS {c A B : Prop} [Decidable c] (hc : c) (h : B) : if (!decide c) = true then A else B := by
 rw [decide_eq_true hc]
 exact iteF h
noncomputable def Same (H H' : Hp) : Prop := ∀ b o, H b = some o → H' b = some o
theorem Same.refl (H : Hp) : Same H H := fun _ _ h => h
theorem Same.trans {H H1 H2 : Hp} (a : Same H H1) (b : Same H1 H2) : Same H H2 := fun c o h => b c o (a c o h)
theorem Same.free {H H' : Hp} (e : Same H H') {l : Addr} (h : H' l = Option.none) : H l = Option.none := by
 cases q : H l with
 | none => rfl
 | some o =>
  rw [e l o q] at h
  cases h
theorem Same.seq {K : PySem.W.Frag} {H H' : Hp} {a : Addr} {xs : List V} (e : Same H H') (h : SqL K H a xs) : SqL K H' a xs := by
 rcases h with (h | ⟨o, h⟩) | h
 ·exact .inl (.inl (e _ _ h))
 ·exact .inl (.inr ⟨o, e _ _ h⟩)
 ·exact .inr h
end L2
set_option maxHeartbeats 4000000
namespace LT
theorem den_ne (a : Rat) : (a.den : Int) ≠ 0 := by have := a.den_nz; omega
theorem den_pos (a : Rat) : (0 : Int) < a.den := by have := a.den_nz; omega
theorem add_eq (a b : Rat) : Rat.divInt (a.num * b.den + b.num * a.den) (a.den * b.den) = a + b := by
 rw [← Rat.divInt_add_divInt _ _ (den_ne a) (den_ne b), Rat.num_divInt_den, Rat.num_divInt_den]
theorem sub_eq (a b : Rat) : Rat.divInt (a.num * b.den - b.num * a.den) (a.den * b.den) = a - b := by
 rw [Rat.sub_eq_add_neg, ← add_eq a (-b), Rat.neg_num, Rat.neg_den, Int.neg_mul, Int.sub_eq_add_neg]
theorem mul_eq (a b : Rat) : Rat.divInt (a.num * b.num) (a.den * b.den) = a * b := by
 rw [← Rat.divInt_mul_divInt, Rat.num_divInt_den, Rat.num_divInt_den]
theorem num_ne {b : Rat} (h : b ≠ 0) : b.num ≠ 0 := fun e => h (by rw [← Rat.num_divInt_den b, e, Rat.zero_divInt])
theorem inv_eq {b : Rat} (h : b ≠ 0) : Rat.divInt b.den b.num = b⁻¹ := by
 have e : b * Rat.divInt b.den b.num = 1 := by
  conv => lhs; arg 1; rw [← Rat.num_divInt_den b]
  rw [Rat.divInt_mul_divInt, Int.mul_comm b.num]
  exact Rat.divInt_self' (Int.mul_ne_zero (den_ne b) (num_ne h))
 grind
theorem div_eq (a : Rat) {b : Rat} (h : b ≠ 0) : Rat.divInt (a.num * b.den) (a.den * b.num) = a / b := by
 rw [← Rat.divInt_mul_divInt, Rat.num_divInt_den, inv_eq h, Rat.div_def]
theorem lt_eq (a b : Rat) : decide (a.num * b.den < b.num * a.den) = decide (a < b) := by
 rw [decide_eq_decide, Rat.lt_iff]
theorem fd (t : Int) (g : Nat) : t.fdiv (g : Int) = t / (g : Int) := Int.fdiv_eq_ediv_of_nonneg t (by omega)
theorem norm_pos {t b : Int} (h : 0 < b) : t.fdiv (Int.gcd t b : Nat) = (Rat.divInt t b).num ∧ b.fdiv (Int.gcd t b : Nat) = ((Rat.divInt t b).den : Int) := by
 rw [Rat.num_divInt, Rat.den_divInt, fd, fd, if_neg (by omega), Int.sign_eq_one_of_pos h, Int.one_mul, Int.gcd_comm b t]
 refine ⟨rfl, ?_⟩
 obtain ⟨n, rfl⟩ : ∃ n : Nat, b = (n : Int) := ⟨b.toNat, by omega⟩
 rw [← Int.natCast_ediv, Int.natAbs_natCast]
theorem norm_neg {t b : Int} (h : b < 0) : t.fdiv (-(Int.gcd t b : Nat)) = (Rat.divInt t b).num ∧ b.fdiv (-(Int.gcd t b : Nat)) = ((Rat.divInt t b).den : Int) := by
 have h1 := norm_pos (t := -t) (b := -b) (by omega)
 have e : Rat.divInt (-t) (-b) = Rat.divInt t b := by
  have := Rat.divInt_mul_right (n := t) (d := b) (a := -1) (by decide)
  rw [← this]; congr 1 <;> omega
 rw [e, Int.gcd_neg, Int.neg_gcd] at h1
 rw [← h1.1, ← h1.2]
 constructor
 ·rw [← Int.neg_neg t, Int.neg_fdiv_neg]; simp
 ·rw [← Int.neg_neg b, Int.neg_fdiv_neg]; simp
theorem gcd_step {d r : Int} (hd : 0 ≤ d) (h : 0 < r) : Int.gcd r (d % r) = Int.gcd d r := by
 obtain ⟨m, rfl⟩ : ∃ n : Nat, d = (n : Int) := ⟨d.toNat, by omega⟩
 obtain ⟨n, rfl⟩ : ∃ n : Nat, r = (n : Int) := ⟨r.toNat, by omega⟩
 rw [← Int.natCast_emod]
 show Nat.gcd n (m % n) = Nat.gcd m n
 rw [Nat.gcd_comm n, ← Nat.gcd_rec, Nat.gcd_comm]
theorem gcd_end {d : Int} (h : 0 ≤ d) : (Int.gcd d 0 : Int) = d := by
 rw [Int.gcd_zero_right]; omega
theorem abs_nn (i : Int) : 0 ≤ (if i < 0 then -i else i) := by split <;> omega
theorem abs_gcd (i j : Int) : Int.gcd (if i < 0 then -i else i) (if j < 0 then -j else j) = Int.gcd i j := by
 split <;> split <;> simp only [Int.gcd_neg, Int.neg_gcd]
noncomputable def Bt (k : Nat) (i : Int) : Prop := i.natAbs < 2 ^ k
noncomputable def Sz (k : Nat) (q : Rat) : Prop := Bt k q.num ∧ Bt k q.den
theorem Bt.mono {k m : Nat} {i : Int} (h : Bt k i) (l : k ≤ m) : Bt m i := Nat.lt_of_lt_of_le h (Nat.pow_le_pow_right (by decide) l)
theorem Sz.mono {k m : Nat} {q : Rat} (h : Sz k q) (l : k ≤ m) : Sz m q := ⟨h.1.mono l, h.2.mono l⟩
theorem Bt.mul {k m : Nat} {i j : Int} (h : Bt k i) (g : Bt m j) : Bt (k + m) (i * j) := by
 unfold Bt at *; rw [Int.natAbs_mul, Nat.pow_add]
 exact Nat.mul_lt_mul'' h g
theorem Bt.add {k : Nat} {i j : Int} (h : Bt k i) (g : Bt k j) : Bt (k + 1) (i + j) := by
 unfold Bt at *; have := Int.natAbs_add_le i j; rw [Nat.pow_succ]; omega
theorem Bt.neg {k : Nat} {i : Int} (h : Bt k i) : Bt k (-i) := by unfold Bt at *; omega
theorem Bt.sub {k : Nat} {i j : Int} (h : Bt k i) (g : Bt k j) : Bt (k + 1) (i - j) := by
 rw [Int.sub_eq_add_neg]; exact h.add g.neg
theorem Bt.ediv {k : Nat} {i : Int} (h : Bt k i) (g : Nat) : Bt k (i / (g : Int)) := by
 unfold Bt at *
 exact Nat.lt_of_le_of_lt (by exact Int.natAbs_ediv_le_natAbs _ _) h
theorem Sz.divInt {k : Nat} {t b : Int} (h : Bt k t) (g : Bt k b) (h0 : b ≠ 0) : Sz k (Rat.divInt t b) := by
 rcases Int.lt_or_gt_of_ne h0 with hb | hb
 ·have e : Rat.divInt (-t) (-b) = Rat.divInt t b := by
   have := Rat.divInt_mul_right (n := t) (d := b) (a := -1) (by decide)
   rw [← this]; congr 1 <;> omega
  rw [← e]
  have n := norm_pos (t := -t) (b := -b) (by omega)
  rw [fd, fd] at n
  exact ⟨by rw [← n.1]; exact h.neg.ediv _, by rw [← n.2]; exact g.neg.ediv _⟩
 ·have n := norm_pos (t := t) (b := b) hb
  rw [fd, fd] at n
  exact ⟨by rw [← n.1]; exact h.ediv _, by rw [← n.2]; exact g.ediv _⟩
theorem Sz.add {k m : Nat} {a b : Rat} (h : Sz k a) (g : Sz m b) : Sz (k + m + 1) (a + b) := by
 rw [← add_eq]
 refine Sz.divInt (Bt.add (h.1.mul g.2) ?_) ((h.2.mul g.2).mono (by omega)) (Int.mul_ne_zero (den_ne a) (den_ne b))
 exact (g.1.mul h.2).mono (by omega)
theorem Sz.sub {k m : Nat} {a b : Rat} (h : Sz k a) (g : Sz m b) : Sz (k + m + 1) (a - b) := by
 rw [← sub_eq]
 refine Sz.divInt (Bt.sub (h.1.mul g.2) ?_) ((h.2.mul g.2).mono (by omega)) (Int.mul_ne_zero (den_ne a) (den_ne b))
 exact (g.1.mul h.2).mono (by omega)
theorem Sz.mul {k m : Nat} {a b : Rat} (h : Sz k a) (g : Sz m b) : Sz (k + m) (a * b) := by
 rw [← mul_eq]
 exact Sz.divInt (h.1.mul g.1) (h.2.mul g.2) (Int.mul_ne_zero (den_ne a) (den_ne b))
theorem Sz.div {k m : Nat} {a b : Rat} (h : Sz k a) (g : Sz m b) (b0 : b ≠ 0) : Sz (k + m) (a / b) := by
 rw [← div_eq a b0]
 exact Sz.divInt (h.1.mul g.2) (h.2.mul g.1) (Int.mul_ne_zero (den_ne a) (num_ne b0))
end LT
namespace LT
theorem dI {t b : Int} {q : Rat} (hb : b ≠ 0) (h : (t : Rat) = q * (b : Rat)) : Rat.divInt t b = q := by
 have h0 : (b : Rat) ≠ 0 := fun e => hb (by exact_mod_cast e)
 rw [Rat.divInt_eq_div, h]
 grind
theorem sz_int {k : Nat} {i : Int} (h : Bt k i) (hk : 1 ≤ k) : Sz k (i : Rat) := by
 refine ⟨by rw [Rat.num_intCast]; exact h, ?_⟩
 rw [Rat.den_intCast]
 exact Nat.lt_of_lt_of_le (by decide : (1 : Nat) < 2 ^ 1) (Nat.pow_le_pow_right (by decide) hk)
end LT
namespace LT
noncomputable def pm (s : Int) (a b : Rat) : Rat := a + (s : Rat) * b
theorem pm_one (a b : Rat) : pm 1 a b = a + b := by show a + ((1 : Int) : Rat) * b = a + b; grind
end LT
namespace L2
open PySem PySem.Spec PyProof.Rows
mutual
inductive Dt (H : Hp) : V → PyData → Prop
 | non : Dt H .non .none
 | bl (b : Bool) : Dt H (.bl b) (.bool b)
 | int (i : Int) : Dt H (.int i) (.int i)
 | str (x : Str) : Dt H (.str x) (.str x)
 | tup {p : Addr} {xs : List V} {ds : List PyData} : H p = some (.tup xs) → Dts H xs ds → Dt H (.ref p) (.tuple ds)
 | lst {p : Addr} {xs : List V} {ds : List PyData} : H p = some (.lst xs) → Dts H xs ds → Dt H (.ref p) (.list ds)
 | dic {p : Addr} {kvs : List (Key × V)} {kds : List (PyData × PyData)} : H p = some (.dK kvs) → Dtk H kvs kds → Dt H (.ref p) (.dict kds)
inductive Dts (H : Hp) : List V → List PyData → Prop
 | nil : Dts H [] []
 | cons {x : V} {xs : List V} {d : PyData} {ds : List PyData} : Dt H x d → Dts H xs ds → Dts H (x :: xs) (d :: ds)
inductive Dtk (H : Hp) : List (Key × V) → List (PyData × PyData) → Prop
 | nil : Dtk H [] []
 | cons {n : Int} {x : V} {d : PyData} {kvs : List (Key × V)} {kds : List (PyData × PyData)} : Dt H x d → Dtk H kvs kds → Dtk H ((Sum.inl n, x) :: kvs) ((.int n, d) :: kds)
end
mutual
theorem Dt.reads {P : Program} {w : World} {H : Hp} {h : Heap} (ok : HOk P w H h) : ∀ (d : PyData) (x : V) (v : Value), Dt H x d → RelV x v → ∃ as, Reads h v d as
 | .none, _, _, e, r => by cases e; cases r; exact ⟨_, .none⟩
 | .bool _, _, _, e, r => by cases e; cases r; exact ⟨_, .bool _⟩
 | .int _, _, _, e, r => by cases e; obtain ⟨t, rfl⟩ := r; exact ⟨_, .int _ _⟩
 | .str _, _, _, e, r => by cases e; obtain ⟨t, rfl⟩ := r; exact ⟨_, .str _ _⟩
 | .list ds, _, _, e, r => by
  cases e with
  | @lst p xs _ hp rs =>
   cases r
   obtain ⟨_, its, n, r', hg⟩ := (show ObjOk P w H h p (.lst xs) from ok p _ hp)
   obtain ⟨as, q⟩ := Dts.reads ok ds xs its rs r'
   exact ⟨_, .list hg rfl rfl (by simpa using q)⟩
 | .tuple ds, _, _, e, r => by
  cases e with
  | @tup p xs _ hp rs =>
   cases r
   obtain ⟨_, its, r', o, h1, h2, n, h3⟩ := (show ObjOk P w H h p (.tup xs) from ok p _ hp)
   obtain ⟨as, q⟩ := Dts.reads ok ds xs its rs r'
   exact ⟨_, .tuple h1 h2 h3 (by simpa using q)⟩
 | .dict kds, _, _, e, r => by
  cases e with
  | @dic p kvs _ hp rs =>
   cases r
   obtain ⟨_, _, vs, kv, o, es, ep, h1, h2, h3, _, h4, _⟩ := (show ObjOk P w H h p (.dK kvs) from ok p _ hp)
   obtain ⟨as, bs, q1, q2⟩ := Dtk.reads ok kds kvs vs es.toList rs kv h4
   exact ⟨_, .dict h1 h2.1 h3 q1 q2⟩
theorem Dts.reads {P : Program} {w : World} {H : Hp} {h : Heap} (ok : HOk P w H h) : ∀ (ds : List PyData) (xs : List V) (vs : List Value), Dts H xs ds → Vals xs vs → ∃ as, ReadsAll h vs ds as
 | [], _, _, e, r => by cases e; cases r; exact ⟨_, .nil⟩
 | d :: ds, _, _, e, r => by
  cases e with
  | cons e1 e2 =>
   cases r with
   | cons r1 r2 =>
    obtain ⟨as, q1⟩ := Dt.reads ok d _ _ e1 r1
    obtain ⟨bs, q2⟩ := Dts.reads ok ds _ _ e2 r2
    exact ⟨_, .cons q1 q2⟩
theorem Dtk.reads {P : Program} {w : World} {H : Hp} {h : Heap} (ok : HOk P w H h) : ∀ (kds : List (PyData × PyData)) (kvs : List (Key × V)) (vs : List (Key × Value)) (es : List DictEntry), Dtk H kvs kds → KV kvs vs → Pairs (mixKind P w) es vs →
  ∃ as bs, ReadsAll h (es.map (·.key)) (kds.map (·.1)) as ∧ ReadsAll h (es.map (·.val)) (kds.map (·.2)) bs
 | [], _, _, _, e, r, z => by cases e; cases r; cases z; exact ⟨_, _, .nil, .nil⟩
 | (k, d) :: kds, _, _, _, e, r, z => by
  cases e with
  | @cons n _ _ _ _ e1 e2 =>
   cases r with
   | cons r1 r2 =>
    cases z with
    | @cons en kv _ _ z1 z2 z3 =>
     obtain ⟨k1, rv⟩ := r1
     obtain ⟨as, q1⟩ := Dt.reads ok d _ _ e1 rv
     obtain ⟨as2, bs2, q3, q4⟩ := Dtk.reads ok kds _ _ _ e2 r2 z3
     have kr : ∃ cs, Reads h en.key (.int n) cs := by
      rcases keyIs_shape ((mixKind_is P w _ _).symm.trans z1) with ⟨i, t, a, b⟩ | ⟨_, _, a, _⟩
      ·rw [← k1] at a
       cases a
       rw [b]
       exact ⟨_, .int _ _⟩
      ·rw [← k1] at a
       cases a
     obtain ⟨cs, kr⟩ := kr
     exact ⟨_, _, .cons kr q3, .cons (z2 ▸ q1 : Reads h en.val d as) q4⟩
end
mutual
theorem Dt.same {H H' : Hp} (g : Same H H') : ∀ (d : PyData) (x : V), Dt H x d → Dt H' x d
 | .none, _, e => by cases e; exact .non
 | .bool _, _, e => by cases e; exact .bl _
 | .int _, _, e => by cases e; exact .int _
 | .str _, _, e => by cases e; exact .str _
 | .list ds, _, e => by
  cases e with
  | lst hp rs => exact .lst (g _ _ hp) (Dts.same g ds _ rs)
 | .tuple ds, _, e => by
  cases e with
  | tup hp rs => exact .tup (g _ _ hp) (Dts.same g ds _ rs)
 | .dict kds, _, e => by
  cases e with
  | dic hp rs => exact .dic (g _ _ hp) (Dtk.same g kds _ rs)
theorem Dts.same {H H' : Hp} (g : Same H H') : ∀ (ds : List PyData) (xs : List V), Dts H xs ds → Dts H' xs ds
 | [], _, e => by cases e; exact .nil
 | d :: ds, _, e => by
  cases e with
  | cons e1 e2 => exact .cons (Dt.same g d _ e1) (Dts.same g ds _ e2)
theorem Dtk.same {H H' : Hp} (g : Same H H') : ∀ (kds : List (PyData × PyData)) (kvs : List (Key × V)), Dtk H kvs kds → Dtk H' kvs kds
 | [], _, e => by cases e; exact .nil
 | (_, d) :: kds, _, e => by
  cases e with
  | cons e1 e2 => exact .cons (Dt.same g d _ e1) (Dtk.same g kds _ e2)
end
mutual
noncomputable def noLst : PyData → Bool
 | .list _ => false
 | .dict _ => false
 | .tuple ds => noLsts ds
 | _ => true
noncomputable def noLsts : List PyData → Bool
 | [] => true
 | d :: ds => noLst d && noLsts ds
end
noncomputable def SameT (H H' : Hp) : Prop := ∀ b xs, H b = some (.tup xs) → H' b = some (.tup xs)
noncomputable def SameX (x : Addr) (H H' : Hp) : Prop := ∀ b o, b ≠ x → H b = some o → H' b = some o
theorem SameX.refl (x : Addr) (H : Hp) : SameX x H H := fun _ _ _ e => e
theorem SameX.trans {x : Addr} {H H1 H2 : Hp} (a : SameX x H H1) (b : SameX x H1 H2) : SameX x H H2 := fun c o n e => b c o n (a c o n e)
theorem Same.x {x : Addr} {H H' : Hp} (g : Same H H') : SameX x H H' := fun b o _ e => g b o e
theorem SameX.t {x : Addr} {H H' : Hp} {ys : List V} (g : SameX x H H') (h : H x = some (.lst ys)) : SameT H H' := fun b xs e => g b _ (ne_of e h (by intro z; cases z)) e
theorem Same.t {H H' : Hp} (g : Same H H') : SameT H H' := fun b _ e => g b _ e
theorem SameT.trans {H H1 H2 : Hp} (a : SameT H H1) (b : SameT H1 H2) : SameT H H2 := fun c o e => b c o (a c o e)
theorem same_new {H : Hp} {p : Addr} (h : H p = none) (o : HO) : Same H (upd H p o) := fun b u q => by rw [upd_ne (ne_of_none q h)]; exact q
theorem sameX_upd {H : Hp} {p : Addr} (o : HO) : SameX p H (upd H p o) := fun b u n q => by rw [upd_ne n]; exact q
theorem SameX.seq {K : PySem.W.Frag} {H H' : Hp} {x a : Addr} {xs : List V} (e : SameX x H H') (n : a ≠ x) (h : SqL K H a xs) : SqL K H' a xs := by
 rcases h with (h | ⟨o, h⟩) | h
 ·exact .inl (.inl (e _ _ n h))
 ·exact .inl (.inr ⟨o, e _ _ n h⟩)
 ·exact .inr h
structure Good (d : PyData) : Prop where
 lay : d.canLay0 = true
 dep : d.depth ≤ 60
section
variable {X : Cx}
theorem roomD {u a b : Nat} (h : u + 64 < cLine) (ha : a ≤ 60) : u + min a b < cLine := by
 have : min a b ≤ a := Nat.min_le_left _ _
 omega
noncomputable def rEqD : R2 := fun x y H Q => ∃ dx dy, Dt H x dx ∧ Dt H y dy ∧ Good dx ∧ Good dy ∧ Q (.bl (PyData.eqv dx dy)) H
noncomputable def rNeD : R2 := fun x y H Q => ∃ dx dy, Dt H x dx ∧ Dt H y dy ∧ Good dx ∧ Good dy ∧ Q (.bl (!PyData.eqv dx dy)) H
theorem op_eqD (hu : X.A.units + 64 < cLine) : OpR X (compareOp .Eq) rEqD := by
 intro pins s σ H x y v u Q I rx ry h
 obtain ⟨dx, dy, ex, ey, gx, gy, q⟩ := h
 obtain ⟨as, r1⟩ := Dt.reads I.hok dx x v ex rx
 obtain ⟨bs, r2⟩ := Dt.reads I.hok dy y u ey ry
 exact SeqAt.compareEq_reads r1 r2 gx.lay gy.lay (roomD hu gx.dep) ⟨.bl _, H, I, rfl, q⟩
theorem op_neD (hu : X.A.units + 64 < cLine) : OpR X (compareOp .NotEq) rNeD := by
 intro pins s σ H x y v u Q I rx ry h
 obtain ⟨dx, dy, ex, ey, gx, gy, q⟩ := h
 obtain ⟨as, r1⟩ := Dt.reads I.hok dx x v ex rx
 obtain ⟨bs, r2⟩ := Dt.reads I.hok dy y u ey ry
 exact SeqAt.compareNe_reads r1 r2 gx.lay gy.lay (roomD hu gx.dep) ⟨.bl _, H, I, rfl, q⟩
theorem op_mulX : OpR X (binaryOp .Mult) (rI IntMulOk fun i j => .int (i * j)) := opI fun _ _ _ _ _ _ _ hc q => mul_int q hc
noncomputable def CDivX (_ j : Int) : Prop := j ≠ 0 ∧ LT.Bt 9000 j
theorem noPy {i j : Int} (h : CDivX i j) : Builtin.divisionGoesByPylong i j = false := by
 refine PyProof.noPylong_of_log2 ((Nat.log2_lt ?_).mpr h.2)
 have := h.1
 omega
theorem op_fdivX : OpR X (binaryOp .FloorDiv) (rI CDivX fun i j => .int (i.fdiv j)) := opI fun _ _ _ _ _ _ _ hc q => floordiv_int hc.1 q (.inl (noPy hc))
theorem bits_le {k : Nat} {i : Int} (h : LT.Bt k i) : Builtin.Int.intBits i ≤ k := by
 unfold Builtin.Int.intBits
 split
 ·exact Nat.zero_le _
 ·rename_i h0
  have : i.natAbs ≠ 0 := by
   intro e
   exact h0 (by simpa using e)
  exact (Nat.log2_lt this).mpr h
theorem mulB {k m : Nat} {i j : Int} (h : LT.Bt k i) (g : LT.Bt m j) (hk : k ≤ 1048576 := by decide) (hm : m ≤ 1048576 := by decide) : IntMulOk i j :=
 IntMulOk.of_bits (Nat.le_trans (bits_le h) hk) (Nat.le_trans (bits_le g) hm)
theorem pe_powC {a b v : Int} {j j' : Nat} {p p' pos : Pos} (h : a ^ b.toNat = v) (hc : CPow a b) : PE X (.BinOp (.Constant (.int a) j p) .Pow (.Constant (.int b) j' p') pos) (tC (.int v)) := by
 intro pins s σ H Q I hq
 subst h
 exact pe_op op_pow pe_int pe_int pins s σ H Q I ⟨_, _, rfl, rfl, hc, hq⟩
theorem CMul_mod {x c y : Int} (h : 0 < c) (h2 : c < 2 ^ 64) : CMul (x % c) y := by
 have h3 := Int.emod_nonneg x (b := c) (by omega)
 have h4 := Int.emod_lt_of_pos x h
 exact .inl ⟨by omega, by omega⟩
noncomputable def clsV : V → Option Value
 | .ty n => some (.type n)
 | .ref a => some (.ref a)
 | _ => none
noncomputable def rIsi (K : PySem.W.Frag) : List V → Hp → VK → Prop := fun xs H Q => ∃ x c cv t b, xs = [x, c] ∧ clsV c = some cv ∧ TyOf K H x t ∧ PySem.W.kitOne K t cv = some b ∧ Q (.bl b) H
theorem call_isi : CallR X (.builtin "isinstance") (rIsi X.K) := by
 intro pins s σ H xs us Q I r h
 obtain ⟨x, c, cv, t, b, rfl, ec, ty, e, q⟩ := h
 obtain ⟨u, v, rfl, rx, rc⟩ := vals2 r
 have ev : v = cv := by
  cases c <;> first
   | (cases ec; exact rc)
   | cases ec
 subst ev
 exact isinst_ok I rx ty e fun tk => ⟨.bl b, H, I.tok tk, rfl, q⟩
structure Cal (P : Program) (w : World) (K : PySem.W.Frag) (mg : Str → Option Value) (base : Heap) (k : Nat) (x : Str) (ps : List Str) (sp : Sp) : Prop where
 ex : ∃ (f : Addr) (fd : FuncData), FnOk P w K mg base CX0 k f fd ps sp ∧ mg x = some (.ref f) ∧ PySem.W.keepIn K (.ref f) = true ∧ Binds K fd ps []
variable {j k : Nat} {x : Str} {ps : List Str} {sp : Sp} {e : Expr} {es : List Expr} {t : TA} {p pos : Pos}
theorem pe_callC (c : Cal X.prog X.w X.K X.mg X.base j x ps sp) (hr : Room k X.A) (hg : Gl X x) (ha : PA X (e :: es) t) (hjk : j ≤ k := by decide)
  (hdb : (x == ("__debug__" : Str)) = false := by decide) (he : starEach (e :: es) X.env = (false, eval e X.env) :: starEach es X.env := by rfl) (hpl : (backTo pos (starEach es X.env)).any (·.1) = false := by rfl) :
  PE X (.Call (.Name x p) (e :: es) [] pos) (tCall sp [] E0 t) := by
 obtain ⟨f, fd, F, hm, hk, hb⟩ := c.ex
 exact pe_call F (hr.mono hjk) hg hm hk hb .nil pass0 ha hdb he hpl
end
structure Bl (K : PySem.W.Frag) (mg : Str → Option Value) : Prop where
 len_ : mg "len" = none
 abs_ : mg "abs" = none
 range_ : mg "range" = none
 isinstance_ : mg "isinstance" = none
 int_ : mg "int" = none
 bool_ : mg "bool" = none
 tuple_ : mg "tuple" = none
 max_ : mg "max" = none
 min_ : mg "min" = none
 list_ : mg "list" = none
 all_ : mg "all" = none
 any_ : mg "any" = none
 sorted_ : mg "sorted" = none
 zip_ : mg "zip" = none
 set_ : mg "set" = none
 sum_ : mg "sum" = none
 str_ : mg "str" = none
 enumerate_ : mg "enumerate" = none
 kib : PySem.W.kitOne K (.type "int") (.type "bool") = some false
 kbi : PySem.W.kitOne K (.type "bool") (.type "int") = some true
theorem kit_same (K : PySem.W.Frag) (t : Value) : PySem.W.kitOne K t t = some true := by
 unfold PySem.W.kitOne
 rw [if_pos (beq_self_eq_true t)]
end L2
namespace L2
open PySem PySem.Spec PyProof.Rows LT
theorem iteD1 {c A B : Prop} [Decidable c] (h : c) (a : A) : if decide c = true then A else B := by rw [decide_eq_true h]; exact iteT a
theorem iteD0 {c A B : Prop} [Decidable c] (h : ¬ c) (b : B) : if decide c = true then A else B := by rw [decide_eq_false h]; exact iteF b
theorem iteN1 {c A B : Prop} [Decidable c] (h : ¬ c) (a : A) : if (!decide c) = true then A else B := by rw [decide_eq_false h]; exact iteT a
theorem iteD2 {c A B : Prop} [Decidable c] (h1 : c → A) (h2 : ¬ c → B) : if decide c = true then A else B := by
 by_cases h : c
 ·exact iteD1 h (h1 h)
 ·exact iteD0 h (h2 h)
theorem iteN2 {c A B : Prop} [Decidable c] (h1 : ¬ c → A) (h2 : c → B) : if (!decide c) = true then A else B := by
 by_cases h : c
 ·exact iteNS h (h2 h)
 ·exact iteN1 h (h1 h)
theorem small_le {n : Nat} (h : n ≤ 1000) : n ≤ sizeLine := Nat.le_of_lt (small1000 h)
theorem small_b {n : Nat} (h : Nat.ble n 1000 = true) : n ≤ sizeLine := small_le (Nat.le_of_ble_eq_true h)
noncomputable def dNum (q : Rat) : PyData := .tuple [.int q.num, .int (q.den : Int)]
theorem good_num (q : Rat) : Good (dNum q) := ⟨rfl, by show 1 ≤ 60; decide⟩
theorem Dt.num {H : Hp} {p : Addr} {q : Rat} (h : H p = some (.tup [.int q.num, .int (q.den : Int)])) : Dt H (.ref p) (dNum q) := .tup h (.cons (.int _) (.cons (.int _) .nil))
theorem eqv_num (a b : Rat) : PyData.eqv (dNum a) (dNum b) = decide (a = b) := by
 show ((a.num == b.num) && (((a.den : Int) == (b.den : Int)) && true)) = decide (a = b)
 rw [Bool.and_true]
 by_cases e : a = b
 ·subst e; simp
 ·rw [decide_eq_false e]
  refine Bool.eq_false_iff.mpr fun h => e ?_
  rw [Bool.and_eq_true] at h
  have h1 : a.num = b.num := beq_iff_eq.mp h.1
  have h2 : (a.den : Int) = (b.den : Int) := beq_iff_eq.mp h.2
  exact Rat.ext h1 (by omega)
noncomputable def dLine (l : Rat × Rat) : PyData := .tuple [dNum l.1, dNum l.2]
theorem good_line (l : Rat × Rat) : Good (dLine l) := ⟨rfl, by show 2 ≤ 60; decide⟩
theorem Dt.line {H : Hp} {p : Addr} {a b : V} {l : Rat × Rat} (h : H p = some (.tup [a, b])) (ha : Dt H a (dNum l.1)) (hb : Dt H b (dNum l.2)) : Dt H (.ref p) (dLine l) := .tup h (.cons ha (.cons hb .nil))
theorem eqv_line (a b : Rat × Rat) : PyData.eqv (dLine a) (dLine b) = decide (a = b) := by
 show (PyData.eqv (dNum a.1) (dNum b.1) && (PyData.eqv (dNum a.2) (dNum b.2) && true)) = decide (a = b)
 rw [Bool.and_true, eqv_num, eqv_num]
 obtain ⟨a1, a2⟩ := a
 obtain ⟨b1, b2⟩ := b
 by_cases e : a1 = b1 <;> by_cases f : a2 = b2 <;> simp [e, f]
noncomputable def Pen (K : PySem.W.Frag) (pen a : Addr) (ns : List Int) (H : Hp) : Prop := ∃ z k : Int, 0 ≤ z ∧ 0 ≤ k ∧ H pen = some (.lst [.ref a, .int z, .int k]) ∧ SqL K H a (ns.map V.int)
theorem Pen.lst {K : PySem.W.Frag} {pen a : Addr} {ns : List Int} {H : Hp} (h : Pen K pen a ns H) : ∃ ys, H pen = some (.lst ys) := let ⟨_, _, _, _, e, _⟩ := h; ⟨_, e⟩
theorem Pen.same {K : PySem.W.Frag} {pen a : Addr} {ns : List Int} {H H' : Hp} (h : Pen K pen a ns H) (g : Same H H') : Pen K pen a ns H' :=
 let ⟨z, k, h1, h2, h3, h4⟩ := h; ⟨z, k, h1, h2, g _ _ h3, g.seq h4⟩
theorem Pen.t {K : PySem.W.Frag} {pen a : Addr} {ns : List Int} {H H' : Hp} (h : Pen K pen a ns H) (g : SameX pen H H') : SameT H H' := let ⟨_, e⟩ := h.lst; g.t e
noncomputable def spLaw (K : PySem.W.Frag) : Sp := fun vs H Q _ => ∃ (a : Addr) (ns : List Int), vs = [.ref a] ∧ SqL K H a (ns.map V.int) ∧ ns.length ≤ 63 ∧ ∀ H', Q (.bl true) H'
theorem gcd_bt {k : Nat} {t b : Int} (h : Bt k b) (h0 : b ≠ 0) : Bt k (Int.gcd t b : Nat) := by
 unfold Bt at *
 refine Nat.lt_of_le_of_lt ?_ h
 show Int.gcd t b ≤ b.natAbs
 exact Nat.le_of_dvd (by omega) (Nat.gcd_dvd_right _ _)
theorem gcd_ne {t b : Int} (h0 : b ≠ 0) : ((Int.gcd t b : Nat) : Int) ≠ 0 := by
 have := Int.gcd_pos_of_ne_zero_right t h0
 omega
end L2
namespace L2
open PySem PySem.Spec PyProof.Rows
section
variable {κ : Type} [DecidableEq κ]
noncomputable def valV (kvs : List (κ × V)) (k : κ) : Option V := (kvs.find? fun kv => decide (kv.1 = k)).map (·.2)
noncomputable def putK (kvs : List (κ × V)) (k : κ) (v : V) : List (κ × V) :=
 if (kvs.any fun kv => decide (kv.1 = k)) = true then kvs.map (fun kv => if kv.1 = k then (kv.1, v) else kv) else kvs ++ [(k, v)]
noncomputable def dropK (kvs : List (κ × V)) (k : κ) : List (κ × V) := kvs.filter fun kv => decide (kv.1 ≠ k)
theorem valV_pos {p : κ × V} {r : List (κ × V)} {k : κ} (e : p.1 = k) : valV (p :: r) k = some p.2 := by simp [valV, List.find?_cons, e]
theorem valV_neg {p : κ × V} {r : List (κ × V)} {k : κ} (e : ¬ p.1 = k) : valV (p :: r) k = valV r k := by simp [valV, List.find?_cons, e]
theorem valV_any (k : κ) : ∀ kvs : List (κ × V), (kvs.any fun kv => decide (kv.1 = k)) = (valV kvs k).isSome
 | [] => rfl
 | p :: r => by
  rw [List.any_cons]
  by_cases e : p.1 = k
  ·simp only [valV_pos e, decide_eq_true e, Bool.true_or, Option.isSome_some]
  ·rw [valV_neg e, decide_eq_false e, Bool.false_or]; exact valV_any k r
theorem length_putK (kvs : List (κ × V)) (k : κ) (v : V) : (putK kvs k v).length ≤ kvs.length + 1 := by
 unfold putK
 split
 ·rw [List.length_map]; omega
 ·rw [List.length_append, List.length_cons, List.length_nil]; omega
theorem RelO.isSome_eq {o : Option V} {u : Option Value} (r : RelO o u) : o.isSome = u.isSome := by
 cases o with
 | none => cases u with
  | none => rfl
  | some _ => exact (show False from r).elim
 | some _ => cases u with
  | none => exact (show False from r).elim
  | some _ => rfl
theorem RelO.getD {o : Option V} {u : Option Value} {d : V} {d' : Value} (r : RelO o u) (rd : RelV d d') : RelV (o.getD d) (u.getD d') := by
 cases o with
 | none => cases u with
  | none => exact rd
  | some _ => exact (show False from r).elim
 | some _ => cases u with
  | none => exact (show False from r).elim
  | some _ => exact r
theorem KV.val {kvs : List (κ × V)} {vs : List (κ × Value)} (r : KV kvs vs) (k : κ) : RelO (valV kvs k) (valueAt vs k) := by
 unfold KV at r
 induction r with
 | nil => exact True.intro
 | @cons p q ps qs h t ih =>
  obtain ⟨h1, h2⟩ := h
  by_cases e : p.1 = k
  ·have e' : q.1 = k := h1.symm.trans e
   have b : valueAt (q :: qs) k = some q.2 := by simp [valueAt, List.find?_cons, e']
   rw [valV_pos e, b]; exact h2
  ·have e' : ¬ q.1 = k := fun z => e (h1.trans z)
   have b : valueAt (q :: qs) k = valueAt qs k := by simp [valueAt, List.find?_cons, e']
   rw [valV_neg e, b]; exact ih
theorem KV.any {kvs : List (κ × V)} {vs : List (κ × Value)} (r : KV kvs vs) (k : κ) : (kvs.any fun kv => decide (kv.1 = k)) = vs.any fun kv => decide (kv.1 = k) := by
 unfold KV at r
 induction r with
 | nil => rfl
 | cons h t ih => rw [List.any_cons, List.any_cons, ih, h.1]
theorem KV.repl {kvs : List (κ × V)} {vs : List (κ × Value)} (r : KV kvs vs) (k : κ) {y : V} {u : Value} (ry : RelV y u) :
  KV (kvs.map fun kv => if kv.1 = k then (kv.1, y) else kv) (vs.map fun kv => if kv.1 = k then (kv.1, u) else kv) := by
 unfold KV at r ⊢
 induction r with
 | nil => exact .nil
 | @cons p q ps qs h t ih =>
  rw [List.map_cons, List.map_cons]
  refine .cons ?_ ih
  obtain ⟨h1, h2⟩ := h
  by_cases e : p.1 = k
  ·rw [if_pos e, if_pos (h1.symm.trans e)]; exact ⟨h1, ry⟩
  ·rw [if_neg e, if_neg (fun z => e (h1.trans z))]; exact ⟨h1, h2⟩
theorem KV.put {kvs : List (κ × V)} {vs : List (κ × Value)} (r : KV kvs vs) (k : κ) {y : V} {u : Value} (ry : RelV y u) : KV (putK kvs k y) (stored vs k u) := by
 unfold putK stored
 rw [r.any k]
 by_cases e : (vs.any fun kv => decide (kv.1 = k)) = true
 ·rw [if_pos e, if_pos e]; exact r.repl k ry
 ·rw [if_neg e, if_neg e]; exact Paired.snoc r ⟨rfl, ry⟩
theorem KV.drop {kvs : List (κ × V)} {vs : List (κ × Value)} (r : KV kvs vs) (k : κ) : KV (dropK kvs k) (without vs k) := by
 unfold KV at r ⊢
 unfold dropK without
 induction r with
 | nil => exact .nil
 | @cons p q ps qs h t ih =>
  obtain ⟨h1, h2⟩ := h
  rw [List.filter_cons, List.filter_cons]
  by_cases e : p.1 = k
  ·have a : ¬ decide (p.1 ≠ k) = true := by simp [e]
   have b : ¬ decide (q.1 ≠ k) = true := by simp [h1.symm.trans e]
   rw [if_neg a, if_neg b]; exact ih
  ·have e' : ¬ q.1 = k := fun z => e (h1.trans z)
   have a : decide (p.1 ≠ k) = true := by simp [e]
   have b : decide (q.1 ≠ k) = true := by simp [e']
   rw [if_pos a, if_pos b]; exact .cons ⟨h1, h2⟩ ih
theorem KV.length {kvs : List (κ × V)} {vs : List (κ × Value)} (r : KV kvs vs) : kvs.length = vs.length := Paired.length r
theorem dropK_le (kvs : List (κ × V)) (k : κ) : (dropK kvs k).length ≤ kvs.length := List.length_filter_le _ _
end
theorem kV_is {P : Program} {w : World} {k : Key} {u : Value} (r : RelV (kV k) u) : (mixKind P w).is k u = true := by
 cases k with
 | inl i => obtain ⟨t, e⟩ := (show ∃ t, u = Value.int i t from r); subst e; exact mixKind_int P w i t
 | inr x => obtain ⟨t, e⟩ := (show ∃ t, u = Value.str x t from r); subst e; exact mixKind_str P w x t
theorem items_are {P : Program} {w : World} : ∀ {ks : List Key} {us : List Value}, Vals (ks.map kV) us → ItemsAre (mixKind P w) ks us
 | [], _, r => by rw [List.map_nil] at r; cases r; exact .nil
 | k :: ks, _, r => by
  rw [List.map_cons] at r
  cases r with
  | cons h t => exact .cons (kV_is h) (items_are t)
abbrev KT (H : Hp) : List (List Key × V) → List (List Key × Addr × Value) → Prop := Paired fun p q => p.1 = q.1 ∧ H q.2.1 = some (.tup (p.1.map kV)) ∧ RelV p.2 q.2.2
theorem KT.val {H : Hp} {kvs : List (List Key × V)} {xs : List (List Key × Addr × Value)} (r : KT H kvs xs) (k : List Key) : RelO (valV kvs k) ((atKey xs k).map (·.2)) := by
 induction r with
 | nil => exact True.intro
 | @cons p q ps qs h t ih =>
  obtain ⟨h1, _, h2⟩ := h
  by_cases e : p.1 = k
  ·have e' : q.1 = k := h1.symm.trans e
   have b : atKey (q :: qs) k = some q.2 := by simp [atKey, List.find?_cons, e']
   rw [valV_pos e, b]; exact h2
  ·have e' : ¬ q.1 = k := fun z => e (h1.trans z)
   have b : atKey (q :: qs) k = atKey qs k := by simp [atKey, List.find?_cons, e']
   rw [valV_neg e, b]; exact ih
theorem KT.repl {H : Hp} {kvs : List (List Key × V)} {xs : List (List Key × Addr × Value)} (r : KT H kvs xs) (k : List Key) {y : V} {u : Value} (ry : RelV y u) :
  KT H (kvs.map fun kv => if kv.1 = k then (kv.1, y) else kv) (xs.map (putAt k u)) := by
 induction r with
 | nil => exact .nil
 | @cons p q ps qs h t ih =>
  rw [List.map_cons, List.map_cons]
  refine .cons ?_ ih
  obtain ⟨h1, h2, h3⟩ := h
  unfold putAt
  by_cases e : p.1 = k
  ·rw [if_pos e, if_pos (h1.symm.trans e)]; exact ⟨h1, h2, ry⟩
  ·rw [if_neg e, if_neg (fun z => e (h1.trans z))]; exact ⟨h1, h2, h3⟩
theorem KT.put {H : Hp} {kvs : List (List Key × V)} {xs : List (List Key × Addr × Value)} (r : KT H kvs xs) (k : List Key) {b : Addr} {y : V} {u : Value} (hb : H b = some (.tup (k.map kV))) (ry : RelV y u) :
  KT H (putK kvs k y) (storedH xs k b u) := by
 have e : (kvs.any fun kv => decide (kv.1 = k)) = (atKey xs k).isSome := by
  rw [valV_any, (r.val k).isSome_eq, Option.isSome_map]
 unfold putK storedH
 rw [e]
 by_cases q : (atKey xs k).isSome = true
 ·rw [if_pos q, if_pos q]; exact r.repl k ry
 ·rw [if_neg q, if_neg q]; exact Paired.snoc r ⟨rfl, hb, ry⟩
theorem KT.keeps {H H' : Hp} {kvs : List (List Key × V)} {xs : List (List Key × Addr × Value)} (r : KT H kvs xs) (ht : ∀ b ys, H b = some (.tup ys) → H' b = some (.tup ys)) : KT H' kvs xs :=
 Paired.mapP r fun _ _ z => ⟨z.1, ht _ _ z.2.1, z.2.2⟩
section
variable {P : Program} {w : World} {H : Hp} {h : Heap} {a : Addr}
theorem rd_of {u : HO} (ok : HOk P w H h) (e : Rd H a u) : ObjOk P w H h a u := e.ok ok
theorem dk_rd {kvs : List (Key × V)} (ok : HOk P w H h) (e : Rd H a (.dK kvs)) : kvs.length ≤ sizeLine ∧ (a == sysModules) = false ∧ ∃ vs, KV kvs vs ∧ h.DictOf (mixKind P w) a vs :=
 show ObjOk P w H h a (.dK kvs) from rd_of ok e
theorem dk_of {kvs : List (Key × V)} (ok : HOk P w H h) (e : H a = some (.dK kvs)) : kvs.length ≤ sizeLine ∧ (a == sysModules) = false ∧ ∃ vs, KV kvs vs ∧ h.DictOf (mixKind P w) a vs := dk_rd ok (.inl e)
theorem key_of {ks : List Key} (ok : HOk P w H h) (e : H a = some (.tup (ks.map kV))) : (tupleKind (mixKind P w)).is h ks a := by
 obtain ⟨_, its, r, o, h1, h2, n, h3⟩ := (show ObjOk P w H h a (.tup (ks.map kV)) from ok a _ e)
 exact ⟨o, its.toArray, n, h1, h2, h3, by simpa using items_are r⟩
theorem dt_rd {kvs : List (List Key × V)} (ok : HOk P w H h) (e : Rd H a (.dT kvs)) : kvs.length ≤ sizeLine ∧ (a == sysModules) = false ∧
  ∃ xs, KT H kvs xs ∧ h.DictOfH (tupleKind (mixKind P w)) a xs := by
 obtain ⟨z, y, xs, r, o, es, ep, h1, h2, h3, h4, h5⟩ := (show ObjOk P w H h a (.dT kvs) from rd_of ok e)
 refine ⟨z, y, xs, r, o, es, ep, h1, h2, h3, h4, fun x hx => ?_, h5⟩
 have all : ∀ {l : List (List Key × V)} {m : List (List Key × Addr × Value)}, KT H l m → ∀ x ∈ m, (tupleKind (mixKind P w)).is h x.1 x.2.1 := by
  intro l m q
  induction q with
  | nil => intro x hx; exact nomatch hx
  | @cons p q ps qs hq t ih =>
   intro x hx
   rcases List.mem_cons.mp hx with e | hx
   ·subst e
    exact key_of ok (by rw [← hq.1]; exact hq.2.1)
   ·exact ih x hx
 exact all r x hx
theorem dt_of {kvs : List (List Key × V)} (ok : HOk P w H h) (e : H a = some (.dT kvs)) : kvs.length ≤ sizeLine ∧ (a == sysModules) = false ∧
  ∃ xs, KT H kvs xs ∧ h.DictOfH (tupleKind (mixKind P w)) a xs := dt_rd ok (.inl e)
end
noncomputable def DGet (H : Hp) (a : Addr) (y : V) (r : Option V) : Prop :=
 (∃ kvs k, Rd H a (.dK kvs) ∧ y = kV k ∧ r = valV kvs k) ∨ ∃ kvs k b, Rd H a (.dT kvs) ∧ y = .ref b ∧ H b = some (.tup (k.map kV)) ∧ r = valV kvs k
noncomputable def DPut (H : Hp) (a : Addr) (y v : V) (H' : Hp) : Prop :=
 (∃ kvs k, H a = some (.dK kvs) ∧ y = kV k ∧ kvs.length < sizeLine ∧ H' = upd H a (.dK (putK kvs k v))) ∨
 ∃ kvs k b, H a = some (.dT kvs) ∧ y = .ref b ∧ H b = some (.tup (k.map kV)) ∧ kvs.length < sizeLine ∧ H' = upd H a (.dT (putK kvs k v))
theorem DGet.k {H : Hp} {a : Addr} {kvs : List (Key × V)} {k : Key} (e : H a = some (.dK kvs)) : DGet H a (kV k) (valV kvs k) := .inl ⟨kvs, k, .inl e, rfl, rfl⟩
theorem DGet.t {H : Hp} {a b : Addr} {kvs : List (List Key × V)} {k : List Key} (e : H a = some (.dT kvs)) (eb : H b = some (.tup (k.map kV))) : DGet H a (.ref b) (valV kvs k) := .inr ⟨kvs, k, b, .inl e, rfl, eb, rfl⟩
theorem DPut.k {H : Hp} {a : Addr} {kvs : List (Key × V)} {k : Key} {v : V} (e : H a = some (.dK kvs)) (hl : kvs.length < sizeLine) : DPut H a (kV k) v (upd H a (.dK (putK kvs k v))) := .inl ⟨kvs, k, e, rfl, hl, rfl⟩
theorem DPut.t {H : Hp} {a b : Addr} {kvs : List (List Key × V)} {k : List Key} {v : V} (e : H a = some (.dT kvs)) (eb : H b = some (.tup (k.map kV))) (hl : kvs.length < sizeLine) :
  DPut H a (.ref b) v (upd H a (.dT (putK kvs k v))) := .inr ⟨kvs, k, b, e, rfl, eb, hl, rfl⟩
section
variable {X : Cx} {pins : List (Addr × Obj)} {σ : St} {H : Hp} {s : Shared} {a : Addr} {y v : V} {u r : Value} {o : Option V} {A : Around} {E : Value → Shared → Prop}
theorem Inv.big (I : Inv X pins σ H s) : sysModules < s.heap.objs.size := by
 have h : mainGlobals < s.heap.objs.size := (I.mod.glob.keeps I.bk).lt
 exact Nat.lt_trans (by decide) h
theorem d_getItem {Q : Value → Shared → Prop} (hu : A.units + 1 < cLine) (I : Inv X pins σ H s) (g : DGet H a y (some v)) (ry : RelV y u) (h : ∀ w' s', Inv X pins σ H s' → RelV v w' → Q w' s') :
  wpAny (model X.prog X.w) A (getItem (.ref a) u) Q E s := by
 rcases g with ⟨kvs, k, e, ey, l⟩ | ⟨kvs, k, b, e, ey, eb, l⟩
 ·subst ey
  obtain ⟨z, hd, vs, rel, dd⟩ := dk_rd I.hok e
  obtain ⟨w', hw, rw'⟩ := RelO.some_of (v := v) (o := valueAt vs k) (by rw [l]; exact rel.val k)
  exact wpAny_getItem_of (kV_is ry) dd.mapOf hw (h w' _ (I.tok _) rw')
 ·subst ey
  cases (show u = Value.ref b from ry)
  obtain ⟨z, hd, xs, rel, dd⟩ := dt_rd I.hok e
  obtain ⟨w', hw, rw'⟩ := RelO.some_of (v := v) (o := (atKey xs k).map (·.2)) (by rw [l]; exact rel.val k)
  obtain ⟨p, hp, hp2⟩ := Option.map_eq_some_iff.mp hw
  refine wpAny_getItem_heap (tupleKind_room_in1 hu) (key_of I.hok eb) dd hp ?_
  rw [hp2]
  exact h w' _ (I.tok _) rw'
theorem d_in {Q : Value → Shared → Prop} (hu : A.units + 1 < cLine) (I : Inv X pins σ H s) (g : DGet H a y o) (ry : RelV y u) (h : ∀ s', Inv X pins σ H s' → Q (.bool o.isSome) s') :
  wpAny (model X.prog X.w) A (compareOp .In u (.ref a)) Q E s := by
 rcases g with ⟨kvs, k, e, ey, l⟩ | ⟨kvs, k, b, e, ey, eb, l⟩
 ·subst ey
  obtain ⟨z, hd, vs, rel, dd⟩ := dk_rd I.hok e
  refine wpAny_in_of (kV_is ry) hd dd.mapOf ?_
  rw [← (rel.val k).isSome_eq, ← l]
  exact h _ (I.tok _)
 ·subst ey
  cases (show u = Value.ref b from ry)
  obtain ⟨z, hd, xs, rel, dd⟩ := dt_rd I.hok e
  refine wpAny_in_heap (tupleKind_room_in1 hu) (key_of I.hok eb) hd dd ?_
  have q := (rel.val k).isSome_eq
  rw [Option.isSome_map] at q
  rw [← q, ← l]
  exact h _ (I.tok _)
theorem d_write {h' : Heap} {t' : Nat} {ob : HO} (I : Inv X pins σ H s) (mu : Mut (H a)) (hs : Heap.SameBut a s.heap h') (he : ∃ q, h'.get? a = some q) (new : ObjOk X.prog X.w (upd H a ob) h' a ob) :
  Inv X pins σ (upd H a ob) { s with heap := h', toks := t' } :=
 I.write (x := a) (e := a) mu (.inl rfl) (fun b q hb z => (hs.2 b hb).trans z) he new
theorem dk_new {P : Program} {w : World} {H' : Hp} {h' : Heap} {kvs : List (Key × V)} {vs : List (Key × Value)} (z : kvs.length ≤ sizeLine) (hd : (a == sysModules) = false) (rel : KV kvs vs) (dd : h'.DictOf (mixKind P w) a vs) :
  ObjOk P w H' h' a (.dK kvs) := ⟨z, hd, vs, rel, dd⟩
theorem d_setItem {H' : Hp} {Q : Unit → Shared → Prop} (hu : A.units + 1 < cLine) (I : Inv X pins σ H s) (g : DPut H a y v H') (ry : RelV y u) (rv : RelV v r) (h : ∀ s', Inv X pins σ H' s' → Q () s') :
  wpAny (model X.prog X.w) A (setItem (.ref a) u r) Q E s := by
 rcases g with ⟨kvs, k, e, ey, l, eH⟩ | ⟨kvs, k, b, e, ey, eb, l, eH⟩
 ·subst ey eH
  obtain ⟨z, hd, vs, rel, dd⟩ := dk_of I.hok e
  have hz : vs.length ≤ sizeLine := by rw [← rel.length]; exact z
  have hl : (putK kvs k v).length ≤ sizeLine := by have := length_putK kvs k v; omega
  refine wpAny_setItem_pairs (hsz := hz) (kV_is ry) dd fun h' dd' hs => h _ ?_
  have he : ∃ q, h'.get? a = some q := let ⟨q, _, _, hq, _⟩ := dd'; ⟨q, hq⟩
  exact d_write I (by rw [e]; exact True.intro) hs he (dk_new hl hd (rel.put k rv) dd')
 ·subst ey eH
  cases (show u = Value.ref b from ry)
  obtain ⟨z, hd, xs, rel, dd⟩ := dt_of I.hok e
  have hz : xs.length ≤ sizeLine := by rw [← Paired.length rel]; exact z
  have hl : (putK kvs k v).length ≤ sizeLine := by have := length_putK kvs k v; omega
  refine wpAny_setItem_heap (hsz := hz) (tupleKind_room_in1 hu) (key_of I.hok eb) dd fun h' dd' hs => h _ ?_
  obtain ⟨q, es, ep, hq, h2, h3, h4, _, h5⟩ := dd'
  refine d_write I (by rw [e]; exact True.intro) hs ⟨q, hq⟩ ⟨hl, hd, _, (rel.put k eb rv).keeps fun c ys ec => ?_, q, es, ep, hq, h2, h3, h4, h5⟩
  rw [upd_ne (ne_of ec e (fun z => nomatch z))]
  exact ec
end
section
variable {X : Cx} {pins : List (Addr × Obj)} {σ : St} {H : Hp} {s : Shared} {a : Addr} {kvs : List (Key × V)} {k : Key} {u : Value} {A : Around} {E : Value → Shared → Prop}
theorem d_pop {v : V} {more : List Value} {Q : Value → Shared → Prop} (I : Inv X pins σ H s) (e : H a = some (.dK kvs)) (ry : RelV (kV k) u) (l : valV kvs k = some v) (hm : more = [] ∨ ∃ x, more = [x])
  (h : ∀ w' s', Inv X pins σ (upd H a (.dK (dropK kvs k))) s' → RelV v w' → Q w' s') : wpAny (model X.prog X.w) A (call (.builtin "dict.pop") (.ref a :: u :: more)) Q E s := by
 obtain ⟨z, hd, vs, rel, dd⟩ := dk_of I.hok e
 obtain ⟨w', hw, rw'⟩ := RelO.some_of (v := v) (o := valueAt vs k) (by rw [← l]; exact rel.val k)
 have hp : (keyPart u).isSome = true := by
  cases k with
  | inl i => obtain ⟨t, q⟩ := (show ∃ t, u = Value.int i t from ry); subst q; rfl
  | inr x => obtain ⟨t, q⟩ := (show ∃ t, u = Value.str x t from ry); subst q; rfl
 have ha : argsOk "dict.pop" ⟨.ref a :: u :: more, []⟩ := by
  rcases hm with q | ⟨x, q⟩
  ·subst q; exact PySem.F.args_dict_pop_2 _ _
  ·subst q; exact PySem.F.args_dict_pop_3 _ _ _
 refine call_meetsIn PySem.F.slot_dict_pop dd.typeIs PySem.F.entry_dict_pop ha (meets_dict_pop_there (mixKind X.prog X.w) a (kV_is ry) more hm hp)
  ⟨vs, w', dd, by rw [← rel.length]; exact z, hw, fun h' dd' hs => h w' _ ?_ rw'⟩
 have he : ∃ q, h'.get? a = some q := let ⟨q, _, _, hq, _⟩ := dd'; ⟨q, hq⟩
 exact d_write I (by rw [e]; exact True.intro) hs he (dk_new (Nat.le_trans (dropK_le kvs k) z) hd (rel.drop k) dd')
theorem d_len {Q : Value → Shared → Prop} (I : Inv X pins σ H s) (e : Rd H a (.dK kvs)) (h : ∀ t s', Inv X pins σ H s' → Q (.int kvs.length t) s') : wpAny (model X.prog X.w) A (call (.builtin "len") [.ref a]) Q E s := by
 obtain ⟨z, hd, vs, rel, dd⟩ := dk_rd I.hok e
 refine call_len_dict hd dd (by rw [← rel.length]; rw [sizeLine_eq] at z; omega) ?_
 rw [← rel.length]
 exact h _ _ (I.tok _)
end
noncomputable def NoSl (i : Expr) : Prop := ∀ ov iv, subscripted i false ov iv = operate [ov, iv] (getItem ov iv)
theorem subD_of {prog : Program} {w : World} {A : Around} {E : Value → Shared → Prop} {s : Shared} {env : Env} {value slice : Expr} {pos : Pos} {T id : String} {Q : Value → Shared → Prop}
  (hl : typeLookup (.type T) "__getitem__" = pure (some (.builtin id))) (hs : NoSl slice)
  (h : wpAny (model prog w) A (eval value env) (fun o s₁ => wpAny (model prog w) A (eval slice env) (fun i s₂ => s₂.TypeIs o T ∧ wpAny (model prog w) A (getItem o i) Q E s₂) E s₁) E s) :
  wpAny (model prog w) A (eval (.Subscript value slice pos) env) Q E s := by
 refine Subscript_ (wpAny_mono h (fun o s₁ h₁ => wpAny_mono h₁ (fun i s₂ h₂ => ?_) fun _ _ x => x) fun _ _ x => x)
 obtain ⟨hT, h₂⟩ := h₂
 unfold subscriptTail
 refine wpAny_bind ?_
 rw [getitemInPython_of_ne hT.not_modules]
 refine wpAny_bind (wpAny_specialOf hT hl ?_)
 have fin : wpAny (model prog w) A (subscripted slice false o i) (fun r s₃ => wpAny (model prog w) A (letTemporaryGo value o r >>= fun _ => pure r) Q E s₃) E s₂ := by
  rw [hs o i]
  exact wpAny_operating (wpAny_mono h₂ (fun r s₃ h₃ => wpAny_bind (wpAny_letTemporaryGo (wpAny_pure h₃))) fun _ _ x => x)
 first
  | exact wpAny_pure (wpAny_bind fin)
  | exact wpAny_bind (wpAny_pure (wpAny_bind fin))
  | exact wpAny_bind fin
theorem dict_typeIs {X : Cx} {pins : List (Addr × Obj)} {σ : St} {H : Hp} {s : Shared} {a : Addr} {y : V} {o : Option V} (I : Inv X pins σ H s) (g : DGet H a y o) : s.TypeIs (.ref a) "dict" := by
 rcases g with ⟨kvs, k, e, _, _⟩ | ⟨kvs, k, b, e, _, _, _⟩
 ·obtain ⟨_, _, vs, _, dd⟩ := dk_rd I.hok e
  exact dd.typeIs
 ·obtain ⟨_, _, xs, _, dd⟩ := dt_rd I.hok e
  exact dd.typeIs
noncomputable def tDGet (td ty : TE) : TE := fun σ H Q => td σ H fun x H1 => ty σ H1 fun y H2 => ∃ a v, x = .ref a ∧ DGet H2 a y (some v) ∧ Q v H2
noncomputable def tDIn (ty td : TE) : TE := fun σ H Q => ty σ H fun y H1 => td σ H1 fun x H2 => ∃ a o, x = .ref a ∧ DGet H2 a y o ∧ Q (.bl o.isSome) H2
noncomputable def sDPut (td ty tv : TE) : TS := fun D σ H => tv σ H fun v H1 => td σ H1 fun x H2 => ty σ H2 fun y H3 => ∃ a H4, x = .ref a ∧ DPut H3 a y v H4 ∧ D.nx σ H4
section
variable {X : Cx} {o i e value : Expr} {pos pos' tpos : Pos} {td ty tv : TE}
theorem pe_dget (hu : X.A.units + 1 < cLine) (ho : PE X o td) (hi : PE X i ty) (hs : NoSl i) : PE X (.Subscript o i pos) (tDGet td ty) := by
 intro pins s σ H Q I h
 refine subD_of PySem.F.slot_dict_getitem.lookup hs (thn (ho pins s σ H _ I h) fun u s1 ⟨x, H1, I1, rx, q1⟩ => thn (hi pins s1 σ H1 _ I1 q1) fun iv s2 ⟨y, H2, I2, ry, a, v, ex, g, q2⟩ => ?_)
 subst ex
 obtain rfl : u = Value.ref a := rx
 exact ⟨dict_typeIs I2 g, d_getItem hu I2 g ry fun w' s3 I3 rw' => ⟨v, H2, I3, rw', q2⟩⟩
theorem pc_din (hu : X.A.units + 1 < cLine) (hi : PE X i ty) (ho : PE X o td) : PC X .In i o (tDIn ty td) := by
 intro pins s σ H Q I h
 refine thn (hi pins s σ H _ I h) fun iv s1 ⟨y, H1, I1, ry, q1⟩ => thn (ho pins s1 σ H1 _ I1 q1) fun u s2 ⟨x, H2, I2, rx, a, ov, ex, g, q2⟩ => ?_
 subst ex
 obtain rfl : u = Value.ref a := rx
 exact d_in hu I2 g ry fun s3 I3 => ⟨.bl ov.isSome, H2, I3, rfl, q2⟩
theorem ps_dput (hu : X.A.units + 1 < cLine) (ho : PE X o td) (hi : PE X i ty) (hv : PE X value tv) (hs : swapsWith value (some (.Subscript o i pos')) pos.line X.env = pure false) :
  PS X (.Assign [.Subscript o i pos'] value pos) (sDPut td ty tv) := by
 intro pins s σ H D I h
 refine wpAny_Assign_Subscript (thn (hv pins s σ H _ I h) fun r s1 ⟨v, H1, I1, rv, q1⟩ => thn (ho pins s1 σ H1 _ I1 q1) fun u s2 ⟨x, H2, I2, rx, q2⟩ => thn (hi pins s2 σ H2 _ I2 q2) fun iv s3 ⟨y, H3, I3, ry, a, H4, ex, g, q3⟩ => ?_) hs
 subst ex
 obtain rfl : u = Value.ref a := rx
 exact d_setItem hu I3 g ry rv fun s4 I4 => ⟨σ, H4, I4, q3⟩
end
theorem dk_empty {P : Program} {w : World} {H : Hp} (h : Heap) (hb : sysModules < h.objs.size) : ObjOk P w H (h.push { cls := .type "dict", data := .dict #[] }) h.objs.size (.dK []) :=
 ⟨Nat.zero_le _, beq_eq_false_iff_ne.mpr (Ne.symm (Nat.ne_of_lt hb)), [], .nil, Heap.DictOf.new h⟩
noncomputable def tDNewK : TE := fun _ H Q => ∀ p, H p = none → Q (.ref p) (upd H p (.dK []))
section
variable {X : Cx} {pos : Pos}
theorem pe_dnewK : PE X (.Dict [] [] pos) tDNewK := fun pins s σ H Q I h =>
 wpAny_Dict_empty ⟨.ref s.heap.objs.size, _, I.laid (a := s.heap.objs.size) (o := .dK []) (t' := s.toks) (fun _ _ q => Heap.get?_push_of_some _ q) (Nat.le_refl _) (dk_empty s.heap I.big), rfl, h _ (I.hok.fresh (Nat.le_refl _))⟩
end
structure M1 (X : Cx) (o : Expr) (m : Str) (apos : Pos) (e : Expr) (cpos : Pos) : Prop where
 base : attributeBase o m X.env (eval o X.env) = eval o X.env
 few : ((backTo cpos (starEach [e] X.env)).all (fun x => !x.1) && (backToKw cpos (keywordEach [] X.env)).all (fun x => x.1.isSome)
  && decide (([e] : List Expr).length + ([] : List Keyword).length + (if ([] : List Keyword).isEmpty then 0 else 1) < 30)) = true
 line : (apos.endLine == cpos.line) = true
 trees : backTo cpos (starEach [e] X.env) = [(false, eval e X.env)]
structure M2 (X : Cx) (o : Expr) (m : Str) (apos : Pos) (e f : Expr) (cpos : Pos) : Prop where
 base : attributeBase o m X.env (eval o X.env) = eval o X.env
 few : ((backTo cpos (starEach [e, f] X.env)).all (fun x => !x.1) && (backToKw cpos (keywordEach [] X.env)).all (fun x => x.1.isSome)
  && decide (([e, f] : List Expr).length + ([] : List Keyword).length + (if ([] : List Keyword).isEmpty then 0 else 1) < 30)) = true
 line : (apos.endLine == cpos.line) = true
 trees : backTo cpos (starEach [e, f] X.env) = [(false, eval e X.env), (false, eval f X.env)]
noncomputable def IsD (H : Hp) (a : Addr) : Prop := (∃ kvs, Rd H a (.dK kvs)) ∨ ∃ kvs, Rd H a (.dT kvs)
theorem isD_at {X : Cx} {pins : List (Addr × Obj)} {σ : St} {H : Hp} {s : Shared} {a : Addr} (I : Inv X pins σ H s) (d : IsD H a) :
  s.TypeIs (.ref a) "dict" ∧ (∀ b, Value.ref a = .ref b → ∃ ob, s.heap.get? b = some ob ∧ ob.dict = none) ∧ (a == sysModules) = false := by
 rcases d with ⟨kvs, e⟩ | ⟨kvs, e⟩
 ·obtain ⟨_, hd, vs, _, dd⟩ := dk_rd I.hok e
  refine ⟨dd.typeIs, fun b q => ?_, hd⟩
  cases q
  obtain ⟨ob, _, _, h1, h2, _⟩ := dd
  exact ⟨ob, h1, h2.2.1⟩
 ·obtain ⟨_, hd, xs, _, dd⟩ := dt_rd I.hok e
  refine ⟨dd.typeIs, fun b q => ?_, hd⟩
  cases q
  obtain ⟨ob, _, _, h1, h2, _⟩ := dd
  exact ⟨ob, h1, h2.2.1⟩
section
variable {X : Cx} {pins : List (Addr × Obj)} {σ : St} {H : Hp} {s : Shared} {a : Addr} {y d : V} {u r : Value} {o : Option V} {A : Around} {E : Value → Shared → Prop}
end
noncomputable def tDPop1 (td ty : TE) : TE := fun σ H Q => td σ H fun x H1 => ∃ a, x = .ref a ∧ IsD H1 a ∧ ty σ H1 fun y H2 => ∃ kvs k v, H2 a = some (.dK kvs) ∧ y = kV k ∧ valV kvs k = some v ∧ Q v (upd H2 a (.dK (dropK kvs k)))
section
variable {X : Cx} {o e f : Expr} {apos cpos : Pos} {td ty tx : TE}
theorem pe_dpop1 (ho : PE X o td) (he : PE X e ty) (m : M1 X o "pop" apos e cpos) : PE X (.Call (.Attribute o "pop" apos) [e] [] cpos) (tDPop1 td ty) := by
 intro pins s σ H Q I h
 refine wpAny_Call_method m.base m.few m.line PySem.F.plainAttrs_dict PySem.F.slot_dict_pop PySem.F.type_dict_pop (thn (ho pins s σ H _ I h) fun u s1 ⟨x, H1, I1, rx, a, ex, d, q1⟩ => ?_)
 subst ex
 obtain rfl : u = Value.ref a := rx
 obtain ⟨t1, t2, _⟩ := isD_at I1 d
 refine ⟨t1, t2, ?_⟩
 rw [m.trees]
 refine Calls.callWith_builtin rfl (Calls.evalArgs_plain (Calls.spliced_cons (thn (he pins s1 σ H1 _ I1 q1) fun iv s2 ⟨y, H2, I2, ry, kvs, k, v, ea, ey, l, q2⟩ => Calls.spliced_nil ?_)))
 subst ey
 exact d_pop I2 ea ry l (.inl rfl) fun w' s3 I3 rw' => ⟨v, _, I3, rw', q2⟩
end
section
variable {X : Cx} {pins : List (Addr × Obj)} {σ : St} {H : Hp} {s : Shared} {a : Addr} {kvs : List (Key × V)} {A : Around} {E : Value → Shared → Prop}
end
section
variable {X : Cx} {pins : List (Addr × Obj)} {σ : St} {H : Hp} {s : Shared} {a : Addr} {y : V} {u : Value} {A : Around} {E : Value → Shared → Prop}
end
end L2
namespace L2
open PySem PySem.Spec PyProof.Rows
section
variable {κ : Type} [DecidableEq κ]
theorem dropK_pos {p : κ × V} {r : List (κ × V)} {k : κ} (e : p.1 = k) : dropK (p :: r) k = dropK r k := by
 unfold dropK
 rw [List.filter_cons, if_neg (by simp [e])]
theorem dropK_neg {p : κ × V} {r : List (κ × V)} {k : κ} (e : ¬ p.1 = k) : dropK (p :: r) k = p :: dropK r k := by
 unfold dropK
 rw [List.filter_cons, if_pos (by simp [e])]
end
end L2
namespace L2.VS
open PySem PySem.Spec PyProof.Rows
abbrev D := PyData
structure Pb where
 P : V → Hp → Prop
 mono : ∀ {v G G'}, Same G G' → P v G → P v G'
structure Bx where
 P : V → List Addr → Hp → Hp → Prop
 mono : ∀ {v fp G G' H}, Same G G' → P v fp G H → P v fp G' H
 loc : ∀ {v fp G H H'}, (∀ b ∈ fp, H' b = H b) → P v fp G H → P v fp G H'
 dom : ∀ {v fp G H}, P v fp G H → ∀ b ∈ fp, ∃ o, H b = some o
 uniq : ∀ {v fp fp' G H}, P v fp G H → P v fp' G H → fp = fp'
 nt : ∀ {v fp G H}, P v fp G H → ∀ b ∈ fp, ∀ xs, H b = some (.tup xs) → ∃ q ∈ fp, V.ref q ∈ xs ∧ ∃ vs, H q = some (.lst vs)
 view : Option D
 vok : ∀ {v fp G H G' d}, P v fp G H → view = some d → Same G G' → (∀ b ∈ fp, G' b = H b) → Dt G' v d
 pv : Option Pb := none
 pok : ∀ {v fp G H G' B}, P v fp G H → pv = some B → Same G G' → (∀ b ∈ fp, G' b = H b) → B.P v G' := by intro _ _ _ _ _ _ _ z; cases z
inductive Sl where
 | no | val (d : D) | own (ds : List D) | pen | con (p : Addr) | box (B : Bx) | pub (B : Pb)
abbrev En := List Sl
inductive Rv where
 | val (d : D) | own (ds : List D) | box (B : Bx)
noncomputable def Rv.d : Rv → D
 | .val d => d
 | .own ds => .list ds
 | .box B => B.view.getD .none
noncomputable def Rv.sl : Rv → Sl
 | .val d => .val d
 | .own ds => .own ds
 | .box B => .box B
inductive Fl where
 | nx (Γ : En) | rt (r : Rv) | bk (Γ : En) | ct (Γ : En)
variable {P0 : Addr → Hp → Prop}
structure Fra (P0 : Addr → Hp → Prop) where
 H0 : Hp
 G0 : Hp
 pen : Option Addr
 stab : ∀ p, pen = some p → ∀ H H', (∀ b o, H0 b = some o → H' b = H b) → P0 p H → P0 p H'
 pin : ∀ p, pen = some p → ∀ H, P0 p H → ∃ o, H p = some o
 pin0 : ∀ p, pen = some p → ∃ o, H0 p = some o
 pg : ∀ p, pen = some p → G0 p = none
noncomputable def Fra.PI (F : Fra P0) (H : Hp) : Prop := ∀ p, F.pen = some p → P0 p H
theorem Fra.stab' (F : Fra P0) : ∀ H H', (∀ b o, F.H0 b = some o → H' b = H b) → F.PI H → F.PI H' := fun H H' h pi p e => F.stab p e H H' h (pi p e)
structure Rf (F : Fra P0) (G H : Hp) : Prop where
 sub : Same G H
 g0 : ∀ b o, F.H0 b = some o → G b = F.G0 b
 h0 : ∀ b o, F.H0 b = some o → F.pen ≠ some b → H b = some o
 pn : F.PI H
noncomputable def SlF (F : Fra P0) (G H : Hp) (x : Option (Option V)) (fp : List Addr) : Sl → Prop
 | .no => fp = []
 | .val d => fp = [] ∧ ∃ v, x = some (some v) ∧ Dt G v d
 | .own ds => ∃ p vs, fp = [p] ∧ x = some (some (.ref p)) ∧ F.H0 p = none ∧ G p = none ∧ H p = some (.lst vs) ∧ Dts G vs ds
 | .pen => fp = [] ∧ ∃ p, x = some (some (.ref p)) ∧ F.pen = some p
 | .con p => fp = [] ∧ x = some (some (.ref p))
 | .pub B => fp = [] ∧ ∃ v, x = some (some v) ∧ B.P v G
 | .box B => ∃ v, x = some (some v) ∧ B.P v fp G H ∧ ∀ b ∈ fp, F.H0 b = none ∧ G b = none
noncomputable def SlOk (F : Fra P0) (G H : Hp) (x : Option (Option V)) : Sl → Prop
 | .no => True
 | .val d => ∃ v, x = some (some v) ∧ Dt G v d
 | .own ds => ∃ p vs, x = some (some (.ref p)) ∧ F.H0 p = none ∧ G p = none ∧ H p = some (.lst vs) ∧ Dts G vs ds
 | .pen => ∃ p, x = some (some (.ref p)) ∧ F.pen = some p
 | .con p => x = some (some (.ref p))
 | .pub B => ∃ v, x = some (some v) ∧ B.P v G
 | .box B => ∃ v fp, x = some (some v) ∧ B.P v fp G H ∧ ∀ b ∈ fp, F.H0 b = none ∧ G b = none
theorem SlF.ok {F : Fra P0} {G H : Hp} {x : Option (Option V)} {fp : List Addr} : ∀ {s : Sl}, SlF F G H x fp s → SlOk F G H x s
 | .no, _ => trivial
 | .val _, h => h.2
 | .own _, h => let ⟨p, vs, _, r⟩ := h; ⟨p, vs, r⟩
 | .pen, h => h.2
 | .con _, h => h.2
 | .pub _, h => h.2
 | .box _, h => let ⟨v, r⟩ := h; ⟨v, fp, r⟩
theorem SlF.mine {F : Fra P0} {G H : Hp} {x : Option (Option V)} {fp : List Addr} {b : Addr} (hb : b ∈ fp) : ∀ {s : Sl}, SlF F G H x fp s → F.H0 b = none ∧ G b = none ∧ ∃ o, H b = some o
 | .no, h => by rw [show fp = [] from h] at hb; cases hb
 | .val _, h => by rw [h.1] at hb; cases hb
 | .own _, h => by
  obtain ⟨p, vs, e, _, h1, h2, h3, _⟩ := h
  rw [e] at hb
  rw [List.mem_singleton.mp hb]
  exact ⟨h1, h2, _, h3⟩
 | .pen, h => by rw [h.1] at hb; cases hb
 | .con _, h => by rw [h.1] at hb; cases hb
 | .pub _, h => by rw [h.1] at hb; cases hb
 | .box B, h => by
  obtain ⟨v, _, h2, h3⟩ := h
  exact ⟨(h3 b hb).1, (h3 b hb).2, B.dom h2 b hb⟩
theorem SlF.go {F : Fra P0} {G H G' H' : Hp} {x : Option (Option V)} {fp : List Addr} (g : Same G G') (k : ∀ b ∈ fp, G' b = none ∧ H' b = H b) : ∀ {s : Sl}, SlF F G H x fp s → SlF F G' H' x fp s
 | .no, h => h
 | .val _, h => let ⟨e, v, e1, d1⟩ := h; ⟨e, v, e1, Dt.same g _ _ d1⟩
 | .own _, h => by
  obtain ⟨p, vs, e, e1, e2, e3, e4, e5⟩ := h
  have := k p (by rw [e]; exact List.mem_singleton.mpr rfl)
  exact ⟨p, vs, e, e1, e2, this.1, this.2.trans e4, Dts.same g _ _ e5⟩
 | .pen, h => h
 | .con _, h => h
 | .pub B, h => let ⟨e, v, e1, d1⟩ := h; ⟨e, v, e1, B.mono g d1⟩
 | .box B, h => by
  obtain ⟨v, h1, h2, h3⟩ := h
  exact ⟨v, h1, B.loc (fun b hb => (k b hb).2) (B.mono g h2), fun b hb => ⟨(h3 b hb).1, (k b hb).1⟩⟩
structure R (F : Fra P0) (Γ : En) (σ : St) (G H : Hp) : Prop where
 fr : Rf F G H
 len : Γ.length = σ.length
 fps : ∃ fps : Nat → List Addr, (∀ (i : Nat) s, Γ[i]? = some s → SlF F G H σ[i]? (fps i) s) ∧ ∀ (i j : Nat) (s t : Sl), Γ[i]? = some s → Γ[j]? = some t → i ≠ j → ∀ b ∈ fps i, b ∉ fps j
theorem R.sl {F : Fra P0} {Γ : En} {σ : St} {G H : Hp} (r : R F Γ σ G H) (i : Nat) (s : Sl) (e : Γ[i]? = some s) : SlOk F G H σ[i]? s :=
 let ⟨_, h, _⟩ := r.fps; (h i s e).ok
theorem R.ap {F : Fra P0} {Γ : En} {σ : St} {G H : Hp} (r : R F Γ σ G H) (i j : Nat) (x y : List D) (hij : i ≠ j) (ei : Γ[i]? = some (.own x)) (ej : Γ[j]? = some (.own y)) : σ[i]? ≠ σ[j]? := by
 obtain ⟨fps, h1, h2⟩ := r.fps
 obtain ⟨p, vs, e, e1, _⟩ := h1 i _ ei
 obtain ⟨q, ws, f, f1, _⟩ := h1 j _ ej
 intro z
 rw [e1, f1] at z
 cases z
 exact h2 i j _ _ ei ej hij p (by rw [e]; exact List.mem_singleton.mpr rfl) (by rw [f]; exact List.mem_singleton.mpr rfl)
theorem R.of {F : Fra P0} {Γ : En} {σ : St} {G H : Hp} (fr : Rf F G H) (len : Γ.length = σ.length) (sl : ∀ (i : Nat) s, Γ[i]? = some s → SlOk F G H σ[i]? s) (nb : ∀ (i : Nat) B, Γ[i]? ≠ some (.box B))
  (ap : ∀ (i j : Nat) x y, i ≠ j → Γ[i]? = some (.own x) → Γ[j]? = some (.own y) → σ[i]? ≠ σ[j]?) : R F Γ σ G H := by
 refine ⟨fr, len, fun i => match Γ[i]?, σ[i]? with | some (.own _), some (some (.ref p)) => [p] | _, _ => [], fun i s e => ?_, fun i j s t ei ej hij b hb hc => ?_⟩
 ·have h := sl i s e
  cases s with
  | no => simp only [e]; rfl
  | val d => simp only [e]; exact ⟨rfl, h⟩
  | own ds =>
   obtain ⟨p, vs, e1, r⟩ := h
   simp only [e, e1]
   exact ⟨p, vs, rfl, rfl, r⟩
  | pen => simp only [e]; exact ⟨rfl, h⟩
  | con q => simp only [e]; exact ⟨rfl, h⟩
  | pub B => simp only [e]; exact ⟨rfl, h⟩
  | box B => exact absurd e (nb i B)
 ·simp only [ei] at hb
  simp only [ej] at hc
  cases s with
  | own x =>
   cases t with
   | own y =>
    split at hb
    ·rename_i p _ e1
     split at hc
     ·rename_i q _ e2
      have e1 := List.mem_singleton.mp hb
      have e2 := List.mem_singleton.mp hc
      exact ap i j x y hij ei ej (by simp_all)
     ·cases hc
    ·cases hb
   | _ => simp at hc
  | _ => simp at hb
section
variable {F : Fra P0} {Γ : En} {σ : St} {G H G' H' : Hp} {p : Addr} {o : HO}
theorem Rf.dom (h : Rf F G H) {b : Addr} (e : F.H0 b = some o) : ∃ o', H b = some o' := by
 by_cases hb : F.pen = some b
 ·exact F.pin b hb H (h.pn b hb)
 ·exact ⟨o, h.h0 b o e hb⟩
theorem Rf.fresh (h : Rf F G H) (hp : H p = none) : F.H0 p = none := by
 cases e : F.H0 p with
 | none => rfl
 | some o =>
  obtain ⟨o', e'⟩ := h.dom e
  rw [hp] at e'; cases e'
theorem Rf.gfresh (h : Rf F G H) (hp : H p = none) : G p = none := h.sub.free hp
theorem Rf.pub (h : Rf F G H) (hp : H p = none) : Rf F (upd G p o) (upd H p o) := by
 have hf := h.fresh hp
 have hn : ∀ b u, F.H0 b = some u → b ≠ p := fun b u e z => by rw [z, hf] at e; cases e
 refine ⟨fun b u e => ?_, fun b u e => ?_, fun b u e hb => ?_, F.stab' H _ (fun b u e => upd_ne (hn b u e)) h.pn⟩
 ·by_cases hb : b = p
  ·subst hb; rw [upd_same] at e; cases e; exact upd_same
  ·rw [upd_ne hb] at e ⊢; exact h.sub b u e
 ·rw [upd_ne (hn b u e)]; exact h.g0 b u e
 ·rw [upd_ne (hn b u e)]; exact h.h0 b u e hb
theorem Rf.priv (h : Rf F G H) (hp : F.H0 p = none) (hg : G p = none) : Rf F G (upd H p o) := by
 have hn : ∀ b u, F.H0 b = some u → b ≠ p := fun b u e z => by rw [z, hp] at e; cases e
 refine ⟨fun b u e => ?_, h.g0, fun b u e hb => ?_, F.stab' H _ (fun b u e => upd_ne (hn b u e)) h.pn⟩
 ·rw [upd_ne (ne_of_none e hg)]; exact h.sub b u e
 ·rw [upd_ne (hn b u e)]; exact h.h0 b u e hb
theorem Rf.give (h : Rf F G H) (hp : F.H0 p = none) (hH : H p = some o) : Rf F (upd G p o) H := by
 have hn : ∀ b u, F.H0 b = some u → b ≠ p := fun b u e z => by rw [z, hp] at e; cases e
 refine ⟨fun b u e => ?_, fun b u e => ?_, h.h0, h.pn⟩
 ·by_cases hb : b = p
  ·subst hb; rw [upd_same] at e; cases e; exact hH
  ·rw [upd_ne hb] at e; exact h.sub b u e
 ·rw [upd_ne (hn b u e)]; exact h.g0 b u e
noncomputable def R.Has (_ : R F Γ σ G H) (b : Addr) : Prop := ∃ (i : Nat) (s : Sl) (fp : List Addr), Γ[i]? = some s ∧ SlF F G H σ[i]? fp s ∧ b ∈ fp
theorem R.keep (r : R F Γ σ G H) (f : Rf F G' H') (g : Same G G')
  (k : ∀ b o, r.Has b → F.H0 b = none → G b = none → H b = some o → G' b = none ∧ H' b = some o) : R F Γ σ G' H' := by
 obtain ⟨fps, h1, h2⟩ := r.fps
 refine ⟨f, r.len, fps, fun i s e => (h1 i s e).go g fun b hb => ?_, h2⟩
 obtain ⟨m1, m2, o, m3⟩ := (h1 i s e).mine hb
 obtain ⟨k1, k2⟩ := k b o ⟨i, s, fps i, e, h1 i s e, hb⟩ m1 m2 m3
 exact ⟨k1, k2.trans m3.symm⟩
theorem R.new (r : R F Γ σ G H) (hp : H p = none) : R F Γ σ (upd G p o) (upd H p o) := by
 refine r.keep (r.fr.pub hp) (same_new (r.fr.gfresh hp) o) fun q u _ _ g h => ?_
 have hq : q ≠ p := ne_of_none h hp
 rw [upd_ne hq, upd_ne hq]
 exact ⟨g, h⟩
theorem R.newP (r : R F Γ σ G H) (hp : H p = none) : R F Γ σ G (upd H p o) := by
 refine r.keep (r.fr.priv (r.fr.fresh hp) (r.fr.gfresh hp)) (Same.refl _) fun q u _ _ g h => ?_
 have hq : q ≠ p := ne_of_none h hp
 rw [upd_ne hq]
 exact ⟨g, h⟩
noncomputable def RvO (F : Fra P0) (G H : Hp) (r : V) : Rv → Prop
 | .val d => Dt G r d
 | .own ds => ∃ p vs, r = .ref p ∧ F.H0 p = none ∧ G p = none ∧ H p = some (.lst vs) ∧ Dts G vs ds
 | .box B => ∃ fp, B.P r fp G H ∧ ∀ b ∈ fp, F.H0 b = none ∧ G b = none
noncomputable def Apart (F : Fra P0) (Γ : En) (σ : St) (G H : Hp) (r : V) : Rv → Prop
 | .val _ => True
 | .own _ => ∀ (i : Nat) s fp, Γ[i]? = some s → SlF F G H σ[i]? fp s → ∀ p, r = .ref p → p ∉ fp
 | .box B => ∀ (i : Nat) s fp f, Γ[i]? = some s → SlF F G H σ[i]? fp s → B.P r f G H → ∀ b ∈ f, b ∉ fp
theorem R.give (r : R F Γ σ G H) {v : V} {ds : List D} (h : RvO F G H v (.own ds)) (ha : Apart F Γ σ G H v (.own ds)) : ∃ G', Same G G' ∧ R F Γ σ G' H ∧ Dt G' v (.list ds) := by
 obtain ⟨p, vs, rfl, e1, e2, e3, e4⟩ := h
 have g := same_new e2 (.lst vs)
 refine ⟨upd G p (.lst vs), g, r.keep (r.fr.give e1 e3) g fun q u hq _ eg eh => ⟨?_, eh⟩, .lst upd_same (Dts.same g _ _ e4)⟩
 have hqp : q ≠ p := fun z => by
  obtain ⟨i, s, fp, a1, a2, a3⟩ := hq
  rw [z] at a3
  exact ha i s fp a1 a2 p rfl a3
 rw [upd_ne hqp]
 exact eg
theorem R.giveB (r : R F Γ σ G H) {v : V} {B : Bx} {d : D} (h : RvO F G H v (.box B)) (ha : Apart F Γ σ G H v (.box B)) (hv : B.view = some d) : ∃ G', Same G G' ∧ R F Γ σ G' H ∧ Dt G' v d := by
 obtain ⟨fp, e1, e2⟩ := h
 have g : Same G (fun b => if b ∈ fp then H b else G b) := fun b o e => by
  show (if b ∈ fp then H b else G b) = some o
  rw [if_neg (fun z => by rw [(e2 b z).2] at e; cases e)]
  exact e
 refine ⟨fun b => if b ∈ fp then H b else G b, g, r.keep ⟨fun b o e => ?_, fun b o e => ?_, r.fr.h0, r.fr.pn⟩ g fun q u hq _ eg eh => ⟨?_, eh⟩, B.vok e1 hv g fun b hb => if_pos hb⟩
 ·have e : (if b ∈ fp then H b else G b) = some o := e
  split at e
  ·exact e
  ·exact r.fr.sub b o e
 ·show (if b ∈ fp then H b else G b) = _
  rw [if_neg (fun z => by rw [(e2 b z).1] at e; cases e)]
  exact r.fr.g0 b o e
 ·obtain ⟨i, s, f, a1, a2, a3⟩ := hq
  show (if q ∈ fp then H q else G q) = none
  rw [if_neg fun z => ha i s f fp a1 a2 e1 q z a3]
  exact eg
theorem R.set (r : R F Γ σ G H) {i : Nat} {v : V} {rv : Rv} (h : RvO F G H v rv) (ha : Apart F Γ σ G H v rv) : R F (Γ.set i rv.sl) (σ.set i (some v)) G H := by
 obtain ⟨fps, h1, h2⟩ := r.fps
 obtain ⟨fp, hf, hd⟩ : ∃ fp, SlF F G H (some (some v)) fp rv.sl ∧ ∀ (j : Nat) s, Γ[j]? = some s → ∀ b ∈ fp, b ∉ fps j := by
  cases rv with
  | val d => exact ⟨[], ⟨rfl, v, rfl, h⟩, fun j s _ b hb => nomatch hb⟩
  | own ds =>
   obtain ⟨p, vs, rfl, q⟩ := h
   exact ⟨[p], ⟨p, vs, rfl, rfl, q⟩, fun j s ej b hb => by rw [List.mem_singleton.mp hb]; exact ha j s (fps j) ej (h1 j s ej) p rfl⟩
  | box B =>
   obtain ⟨fp, q1, q2⟩ := h
   exact ⟨fp, ⟨v, rfl, q1, q2⟩, fun j s ej b hb => ha j s (fps j) fp ej (h1 j s ej) q1 b hb⟩
 have lt : ∀ {m : Nat} {z}, (Γ.set i rv.sl)[m]? = some z → m < Γ.length := fun e => by
  have := (List.getElem?_eq_some_iff.mp e).1
  simpa using this
 have old : ∀ {m : Nat} {z}, m ≠ i → (Γ.set i rv.sl)[m]? = some z → Γ[m]? = some z := fun hm e => by rw [List.getElem?_set_ne (Ne.symm hm)] at e; exact e
 refine ⟨r.fr, by rw [List.length_set, List.length_set]; exact r.len, fun j => if j = i then fp else fps j, fun j s e => ?_, fun j k s t ej ek hjk b hb hc => ?_⟩
 ·dsimp only
  by_cases hj : j = i
  ·subst hj
   have hi := lt e
   rw [List.getElem?_set_self hi] at e
   rw [if_pos rfl, List.getElem?_set_self (by rw [← r.len]; exact hi)]
   cases e
   exact hf
  ·rw [if_neg hj, List.getElem?_set_ne (Ne.symm hj)]
   exact h1 j s (old hj e)
 ·dsimp only at hb hc
  by_cases hj : j = i
  ·have hk : k ≠ i := fun z => hjk (hj.trans z.symm)
   rw [if_pos hj] at hb
   rw [if_neg hk] at hc
   exact hd k t (old hk ek) b hb hc
  ·rw [if_neg hj] at hb
   by_cases hk : k = i
   ·rw [if_pos hk] at hc
    exact hd j s (old hj ej) b hc hb
   ·rw [if_neg hk] at hc
    exact h2 j k s t (old hj ej) (old hk ek) hjk b hb hc
theorem R.setV (r : R F Γ σ G H) {i : Nat} {v : V} {d : D} (h : Dt G v d) : R F (Γ.set i (.val d)) (σ.set i (some v)) G H := r.set (rv := .val d) h trivial
theorem R.drop (r : R F Γ σ G H) (i : Nat) : R F (Γ.set i .no) σ G H := by
 obtain ⟨fps, h1, h2⟩ := r.fps
 have back : ∀ {m z}, m ≠ i → (Γ.set i .no)[m]? = some z → Γ[m]? = some z := fun {m z} hm e => by rw [List.getElem?_set_ne (Ne.symm hm)] at e; exact e
 refine ⟨r.fr, by rw [List.length_set]; exact r.len, fun j => if j = i then [] else fps j, fun j s e => ?_, fun j k s t ej ek hjk b hb hc => ?_⟩
 ·dsimp only
  by_cases hj : j = i
  ·subst hj
   have hi : j < Γ.length := by
    have := (List.getElem?_eq_some_iff.mp e).1
    simpa using this
   rw [List.getElem?_set_self hi] at e
   cases e
   rw [if_pos rfl]
   rfl
  ·rw [if_neg hj]
   exact h1 j s (back hj e)
 ·dsimp only at hb hc
  by_cases hj : j = i
  ·rw [if_pos hj] at hb; cases hb
  ·rw [if_neg hj] at hb
   by_cases hk : k = i
   ·rw [if_pos hk] at hc; cases hc
   ·rw [if_neg hk] at hc
    exact h2 j k s t (back hj ej) (back hk ek) hjk b hb hc
theorem R.writeF (r : R F Γ σ G H) {i : Nat} {s0 s1 : Sl} {H' : Hp} (e : Γ[i]? = some s0) (fr : Rf F G H') (h : ∀ fp, SlF F G H σ[i]? fp s0 → ∃ fp', SlF F G H' σ[i]? fp' s1 ∧ (∀ b, b ∉ fp → (∃ o, H b = some o) → H' b = H b ∧ b ∉ fp')) : R F (Γ.set i s1) σ G H' := by
 obtain ⟨fps, h1, h2⟩ := r.fps
 obtain ⟨fp', w1, w2⟩ := h (fps i) (h1 i s0 e)
 have hi : i < Γ.length := (List.getElem?_eq_some_iff.mp e).1
 have back : ∀ {m z}, m ≠ i → (Γ.set i s1)[m]? = some z → Γ[m]? = some z := fun {m z} hm e => by rw [List.getElem?_set_ne (Ne.symm hm)] at e; exact e
 have away : ∀ {j : Nat} {s : Sl}, j ≠ i → Γ[j]? = some s → ∀ b ∈ fps j, H' b = H b ∧ b ∉ fp' := fun hj ej b hb =>
  w2 b (fun z => h2 _ i _ s0 ej e hj b hb z) ((h1 _ _ ej).mine hb).2.2
 refine ⟨fr, by rw [List.length_set]; exact r.len, fun j => if j = i then fp' else fps j, fun j s ej => ?_, fun j k s t ej ek hjk b hb hc => ?_⟩
 ·dsimp only
  by_cases hj : j = i
  ·subst hj
   rw [List.getElem?_set_self hi] at ej
   cases ej
   rw [if_pos rfl]
   exact w1
  ·rw [if_neg hj]
   have e0 := back hj ej
   exact (h1 j s e0).go (Same.refl _) fun b hb => ⟨((h1 j s e0).mine hb).2.1, (away hj e0 b hb).1⟩
 ·dsimp only at hb hc
  by_cases hj : j = i
  ·have hk : k ≠ i := fun z => hjk (hj.trans z.symm)
   rw [if_pos hj] at hb
   rw [if_neg hk] at hc
   exact (away hk (back hk ek) b hc).2 hb
  ·rw [if_neg hj] at hb
   by_cases hk : k = i
   ·rw [if_pos hk] at hc
    exact (away hj (back hj ej) b hb).2 hc
   ·rw [if_neg hk] at hc
    exact h2 j k s t (back hj ej) (back hk ek) hjk b hb hc
theorem R.write (r : R F Γ σ G H) {i : Nat} {ds es : List D} {p : Addr} {ws : List V} (e : Γ[i]? = some (.own ds)) (ep : σ[i]? = some (some (.ref p))) (hw : Dts G ws es) : R F (Γ.set i (.own es)) σ G (upd H p (.lst ws)) := by
 obtain ⟨p', vs, e1, e2, e3, e4, e5⟩ := r.sl i _ e
 rw [ep] at e1; cases e1
 refine r.writeF e (r.fr.priv e2 e3) fun fp h => ?_
 obtain ⟨q, us, f0, f1, f2, f3, f4, f5⟩ := h
 rw [ep] at f1; cases f1
 refine ⟨[p], ⟨p, ws, rfl, ep, e2, e3, upd_same, hw⟩, fun b hb _ => ?_⟩
 have hbp : b ≠ p := fun z => hb (by rw [f0, z]; exact List.mem_singleton.mpr rfl)
 exact ⟨upd_ne hbp, fun z => hbp (List.mem_singleton.mp z)⟩
end
abbrev ME := En → (D → En → Prop) → Prop
abbrev MO := En → (Rv → En → Prop) → Prop
abbrev MT := En → (Bool → En → Prop) → Prop
abbrev MA := En → (List Sl → En → Prop) → Prop
abbrev MD := En → (List D → En → Prop) → Prop
abbrev MG := D → En → (En → Prop) → Prop
abbrev MGs := List D → En → (En → Prop) → Prop
abbrev MS := En → (Fl → Prop) → Prop
abbrev Fm := List Sl → (Rv → Prop) → Prop
noncomputable def VT (P0 : Addr → Hp → Prop) (t : TE) (m : ME) : Prop := ∀ (F : Fra P0) (Γ : En) (σ : St) (G H : Hp) (Q : VK) (Qm : D → En → Prop), R F Γ σ G H → m Γ Qm →
 (∀ d Γ' r G' H', Qm d Γ' → Same G G' → R F Γ' σ G' H' → Dt G' r d → Q r H') → t σ H Q
noncomputable def VO (P0 : Addr → Hp → Prop) (t : TE) (m : MO) : Prop := ∀ (F : Fra P0) (Γ : En) (σ : St) (G H : Hp) (Q : VK) (Qm : Rv → En → Prop), R F Γ σ G H → m Γ Qm →
 (∀ rv Γ' r G' H', Qm rv Γ' → Same G G' → R F Γ' σ G' H' → RvO F G' H' r rv → Apart F Γ' σ G' H' r rv → Q r H') → t σ H Q
noncomputable def VTT (P0 : Addr → Hp → Prop) (t : TT) (m : MT) : Prop := ∀ (F : Fra P0) (Γ : En) (σ : St) (G H : Hp) (Q : Bool → Hp → Prop) (Qm : Bool → En → Prop), R F Γ σ G H → m Γ Qm →
 (∀ b Γ' G' H', Qm b Γ' → Same G G' → R F Γ' σ G' H' → Q b H') → t σ H Q
noncomputable def VD (P0 : Addr → Hp → Prop) (t : TA) (m : MD) : Prop := ∀ (F : Fra P0) (Γ : En) (σ : St) (G H : Hp) (Q : List V → Hp → Prop) (Qm : List D → En → Prop), R F Γ σ G H → m Γ Qm →
 (∀ ds Γ' rs G' H', Qm ds Γ' → Same G G' → R F Γ' σ G' H' → Dts G' rs ds → Q rs H') → t σ H Q
noncomputable def ArgOk (F : Fra P0) (G : Hp) (r : V) : Sl → Prop
 | .val d => Dt G r d
 | .pen => ∃ p, r = .ref p ∧ F.pen = some p
 | .con p => r = .ref p
 | _ => False
noncomputable def VA (P0 : Addr → Hp → Prop) (t : TA) (m : MA) : Prop := ∀ (F : Fra P0) (Γ : En) (σ : St) (G H : Hp) (Q : List V → Hp → Prop) (Qm : List Sl → En → Prop), R F Γ σ G H → m Γ Qm →
 (∀ as Γ' rs G' H', Qm as Γ' → Same G G' → R F Γ' σ G' H' → Paired (ArgOk F G') rs as → Q rs H') → t σ H Q
noncomputable def VG (P0 : Addr → Hp → Prop) (A : Nat → Bool) (g : TG) (m : MG) : Prop := ∀ (F : Fra P0) (Γ : En) (σ : St) (G H : Hp) (v : V) (d : D) (Q : St → Hp → Prop) (Qm : En → Prop), R F Γ σ G H → Dt G v d → m d Γ Qm →
 (∀ Γ' σ', Qm Γ' → R F Γ' σ' G H → (∀ i, A i = false → σ'[i]? = σ[i]?) → Q σ' H) → g v σ H Q
noncomputable def VGs (P0 : Addr → Hp → Prop) (A : Nat → Bool) (g : TGs) (m : MGs) : Prop := ∀ (F : Fra P0) (Γ : En) (σ : St) (G H : Hp) (vs : List V) (ds : List D) (Q : St → Hp → Prop) (Qm : En → Prop), R F Γ σ G H → Dts G vs ds → m ds Γ Qm →
 (∀ Γ' σ', Qm Γ' → R F Γ' σ' G H → (∀ i, A i = false → σ'[i]? = σ[i]?) → Q σ' H) → g vs σ H Q
noncomputable def Post (F : Fra P0) (A : Nat → Bool) (σ0 : St) (G : Hp) (E : Ends) : Fl → Prop
 | .nx Γ => ∀ σ G' H', Same G G' → R F Γ σ G' H' → (∀ i, A i = false → σ[i]? = σ0[i]?) → E.nx σ H'
 | .rt rv => ∀ r G' H', Same G G' → Rf F G' H' → RvO F G' H' r rv → E.rt r H'
 | .bk Γ => ∀ σ G' H', Same G G' → R F Γ σ G' H' → (∀ i, A i = false → σ[i]? = σ0[i]?) → E.bk σ H'
 | .ct Γ => ∀ σ G' H', Same G G' → R F Γ σ G' H' → (∀ i, A i = false → σ[i]? = σ0[i]?) → E.ct σ H'
noncomputable def VSA (P0 : Addr → Hp → Prop) (A : Nat → Bool) (t : TS) (m : MS) : Prop := ∀ (F : Fra P0) (Γ : En) (σ : St) (G H : Hp) (E : Ends) (Qm : Fl → Prop), R F Γ σ G H → m Γ Qm → (∀ fl, Qm fl → Post F A σ G E fl) → t E σ H
abbrev aAll : Nat → Bool := fun _ => true
abbrev VS (P0 : Addr → Hp → Prop) (t : TS) (m : MS) : Prop := VSA P0 aAll t m
theorem Post.same {F : Fra P0} {A : Nat → Bool} {σ0 σ1 : St} {G G' : Hp} {E : Ends} (g : Same G G') (hσ : ∀ i, A i = false → σ1[i]? = σ0[i]?) : ∀ {fl : Fl}, Post F A σ0 G E fl → Post F A σ1 G' E fl
 | .nx _, h => fun σ G2 H2 s r e => h σ G2 H2 (g.trans s) r fun i hi => (e i hi).trans (hσ i hi)
 | .rt _, h => fun r G2 H2 s => h r G2 H2 (g.trans s)
 | .bk _, h => fun σ G2 H2 s r e => h σ G2 H2 (g.trans s) r fun i hi => (e i hi).trans (hσ i hi)
 | .ct _, h => fun σ G2 H2 s r e => h σ G2 H2 (g.trans s) r fun i hi => (e i hi).trans (hσ i hi)
noncomputable def SsX (P0 : Addr → Hp → Prop) (X : Cx) (sts : List Stmt) (m : MS) : Prop := ∃ t, PSs X sts t ∧ VS P0 t m
end L2.VS
namespace L2.VS
open PySem PySem.Spec PyProof.Rows
variable {P0 : Addr → Hp → Prop}
theorem _root_.L2.Dts.get {G : Hp} : ∀ {vs : List V} {ds : List D} {i : Nat} {d : D}, Dts G vs ds → ds[i]? = some d → ∃ v, vs[i]? = some v ∧ Dt G v d
 := by
  intro vs ds i d h e
  induction ds generalizing vs i with
  | nil => cases e
  | cons x ds ih =>
    cases h with
    | cons a b =>
      cases i with
      | zero => cases e; exact ⟨_, rfl, a⟩
      | succ i =>
        have q := ih b (show ds[i]? = some d from e)
        exact q
theorem _root_.L2.Dts.len {G : Hp} : ∀ {vs : List V} {ds : List D}, Dts G vs ds → vs.length = ds.length
 := by
  intro vs ds h
  induction ds generalizing vs with
  | nil => cases h; rfl
  | cons x ds ih => cases h with | cons a b => exact congrArg Nat.succ (ih b)
theorem _root_.L2.Dts.app {G : Hp} : ∀ {vs ws : List V} {ds es : List D}, Dts G vs ds → Dts G ws es → Dts G (vs ++ ws) (ds ++ es)
 := by
  intro vs ws ds es h g
  induction ds generalizing vs with
  | nil => cases h; exact g
  | cons x ds ih => cases h with | cons a b => exact .cons a (ih b)
theorem _root_.L2.Dts.drp {G : Hp} : ∀ {vs : List V} {ds : List D} (n : Nat), Dts G vs ds → Dts G (vs.drop n) (ds.drop n)
 | _, _, 0, h => h
 | _, _, _ + 1, .nil => .nil
 | _, _, n + 1, .cons _ b => Dts.drp n b
theorem _root_.L2.Dts.tak {G : Hp} : ∀ {vs : List V} {ds : List D} (n : Nat), Dts G vs ds → Dts G (vs.take n) (ds.take n)
 | _, _, 0, _ => .nil
 | _, _, _ + 1, .nil => .nil
 | _, _, n + 1, .cons a b => .cons a (Dts.tak n b)
theorem _root_.L2.Dts.rev {G : Hp} : ∀ {vs : List V} {ds : List D}, Dts G vs ds → Dts G vs.reverse ds.reverse
 | _, _, .nil => .nil
 | _, _, .cons a b => by rw [List.reverse_cons, List.reverse_cons]; exact Dts.app (Dts.rev b) (.cons a .nil)
noncomputable def oQ (o : Option D) (k : D → Prop) : Prop := match o with
 | some d => k d
 | none => False
theorem oQ_out {o : Option D} {k : D → Prop} (h : oQ o k) : ∃ d, o = some d ∧ k d := by
 cases o with
 | none => exact h.elim
 | some d => exact ⟨d, rfl, h⟩
noncomputable def mC (d : D) : ME := fun Γ Q => Q d Γ
noncomputable def mVar (i : Nat) : ME := fun Γ Q => match Γ[i]? with
 | some (.val d) => Q d Γ
 | _ => False
noncomputable def mI0 (g : Int → Int → D) (ma mb : ME) : ME := fun Γ Q => ma Γ fun x Γ1 => mb Γ1 fun y Γ2 => match x, y with
 | .int i, .int j => Q (g i j) Γ2
 | _, _ => False
noncomputable def mI (C : Int → Int → Prop) (g : Int → Int → D) (ma mb : ME) : ME := fun Γ Q => ma Γ fun x Γ1 => mb Γ1 fun y Γ2 => match x, y with
 | .int i, .int j => C i j ∧ Q (g i j) Γ2
 | _, _ => False
noncomputable def mU (g : Int → D) (ma : ME) : ME := fun Γ Q => ma Γ fun x Γ1 => match x with
 | .int i => Q (g i) Γ1
 | _ => False
noncomputable def mEq (ma mb : ME) : ME := fun Γ Q => ma Γ fun x Γ1 => mb Γ1 fun y Γ2 => Good x ∧ Good y ∧ Q (.bool (PyData.eqv x y)) Γ2
noncomputable def mNe (ma mb : ME) : ME := fun Γ Q => ma Γ fun x Γ1 => mb Γ1 fun y Γ2 => Good x ∧ Good y ∧ Q (.bool (!PyData.eqv x y)) Γ2
noncomputable def isN : D → Bool
 | .none => true
 | _ => false
noncomputable def mIsN (ma : ME) : ME := fun Γ Q => ma Γ fun x Γ1 => Q (.bool (isN x)) Γ1
noncomputable def mNotN (ma : ME) : ME := fun Γ Q => ma Γ fun x Γ1 => Q (.bool (!isN x)) Γ1
noncomputable def mAndV (ma mb : ME) : ME := fun Γ Q => ma Γ fun x Γ1 => match x with
 | .bool c => if c = true then mb Γ1 Q else Q (.bool false) Γ1
 | _ => False
noncomputable def mOrV (ma mb : ME) : ME := fun Γ Q => ma Γ fun x Γ1 => match x with
 | .bool c => if c = true then Q (.bool true) Γ1 else mb Γ1 Q
 | _ => False
noncomputable def mNotV (ma : ME) : ME := fun Γ Q => ma Γ fun x Γ1 => match x with
 | .bool c => Q (.bool (!c)) Γ1
 | _ => False
noncomputable def mTst (ma : ME) : MT := fun Γ Q => ma Γ fun x Γ1 => match x with
 | .bool c => Q c Γ1
 | _ => False
noncomputable def mAnd (ma mb : MT) : MT := fun Γ Q => ma Γ fun c Γ1 => if c = true then mb Γ1 Q else Q false Γ1
noncomputable def mOr (ma mb : MT) : MT := fun Γ Q => ma Γ fun c Γ1 => if c = true then Q true Γ1 else mb Γ1 Q
noncomputable def mNot (ma : MT) : MT := fun Γ Q => ma Γ fun c Γ1 => Q (!c) Γ1
noncomputable def mIfE (mc : MT) (ma mb : ME) : ME := fun Γ Q => mc Γ fun c Γ1 => if c = true then ma Γ1 Q else mb Γ1 Q
noncomputable def mIfO (mc : MT) (ma mb : MO) : MO := fun Γ Q => mc Γ fun c Γ1 => if c = true then ma Γ1 Q else mb Γ1 Q
noncomputable def mNil : MD := fun Γ Q => Q [] Γ
noncomputable def mCons (ma : ME) (mr : MD) : MD := fun Γ Q => ma Γ fun x Γ1 => mr Γ1 fun xs Γ2 => Q (x :: xs) Γ2
noncomputable def aNil : MA := fun Γ Q => Q [] Γ
noncomputable def aVal (ma : ME) (mr : MA) : MA := fun Γ Q => ma Γ fun x Γ1 => mr Γ1 fun xs Γ2 => Q (.val x :: xs) Γ2
noncomputable def aPen (i : Nat) (mr : MA) : MA := fun Γ Q => match Γ[i]? with
 | some .pen => mr Γ fun xs Γ2 => Q (.pen :: xs) Γ2
 | _ => False
noncomputable def mTup (md : MD) : ME := fun Γ Q => md Γ fun ds Γ1 => ds.length ≤ 1000 ∧ Q (.tuple ds) Γ1
noncomputable def mLst (md : MD) : MO := fun Γ Q => md Γ fun ds Γ1 => ds.length ≤ 1000 ∧ Q (.own ds) Γ1
noncomputable def ixD : D → D → Option D
 | .tuple ds, .int i => atI ds i
 | .list ds, .int i => atI ds i
 | _, _ => none
noncomputable def mIx (ma mb : ME) : ME := fun Γ Q => ma Γ fun x Γ1 => mb Γ1 fun y Γ2 => oQ (ixD x y) fun d => Q d Γ2
noncomputable def nbQ : Rv → Prop → Prop
 | .box B, p => B.view.isSome = true ∧ p
 | _, p => p
noncomputable def mPub (mo : MO) : ME := fun Γ Q => mo Γ fun rv Γ1 => nbQ rv (Q rv.d Γ1)
noncomputable def mVal (m : ME) : MO := fun Γ Q => m Γ fun d Γ1 => Q (.val d) Γ1
noncomputable def mMove (i : Nat) : MO := fun Γ Q => match Γ[i]? with
 | some (.val d) => Q (.val d) Γ
 | some (.own ds) => Q (.own ds) (Γ.set i .no)
 | some (.box B) => Q (.box B) (Γ.set i .no)
 | _ => False
noncomputable def mCall (n : Nat) (f : Fm) (ma : MA) : MO := fun Γ Q => ma Γ fun as Γ1 => as.length = n ∧ f as fun rv => Q rv Γ1
noncomputable def lenD : D → Option D
 | .tuple ds => some (.int ds.length)
 | .list ds => some (.int ds.length)
 | _ => none
noncomputable def mLen (ma : ME) : ME := fun Γ Q => ma Γ fun x Γ1 => oQ (lenD x) fun d => Q d Γ1
noncomputable def itemsD : D → Option (List D)
 | .tuple ds => some ds
 | .list ds => some ds
 | _ => none
noncomputable def mListOf (ma : ME) : MO := fun Γ Q => ma Γ fun x Γ1 => match itemsD x with
 | some ds => Q (.own ds) Γ1
 | none => False
noncomputable def cutD (xs : List D) (lo hi : Option Int) : List D := (xs.drop (HT.sIx xs.length 0 lo)).take (HT.sIx xs.length xs.length hi - HT.sIx xs.length 0 lo)
abbrev MP := En → (Option Int → En → Prop) → Prop
noncomputable def pNo : MP := fun Γ Q => Q none Γ
noncomputable def pSo (m : ME) : MP := fun Γ Q => m Γ fun x Γ1 => match x with
 | .int i => Q (some i) Γ1
 | _ => False
noncomputable def mSlL (ma : ME) (ml mh : MP) : MO := fun Γ Q => ma Γ fun x Γ1 => ml Γ1 fun lo Γ2 => mh Γ2 fun hi Γ3 => match x with
 | .list ds => Q (.own (cutD ds lo hi)) Γ3
 | _ => False
noncomputable def mCat (ma mb : ME) : MO := fun Γ Q => ma Γ fun x Γ1 => mb Γ1 fun y Γ2 => match x, y with
 | .list ds, .list es => ds.length + es.length ≤ 1000 ∧ Q (.own (ds ++ es)) Γ2
 | _, _ => False
noncomputable def VP (P0 : Addr → Hp → Prop) (t : TO) (m : MP) : Prop := ∀ (F : Fra P0) (Γ : En) (σ : St) (G H : Hp) (Q : Option Int → Hp → Prop) (Qm : Option Int → En → Prop), R F Γ σ G H → m Γ Qm →
 (∀ d Γ' G' H', Qm d Γ' → Same G G' → R F Γ' σ G' H' → Q d H') → t σ H Q
section
variable {ta tb tc : TE} {ma mb : ME} {tA tB' : TT} {mA mB : MT} {K : PySem.W.Frag}
theorem vt_c {v : V} {d : D} (h : ∀ G, Dt G v d) : VT P0 (tC v) (mC d) := fun _ _ _ G _ _ _ r m k => k _ _ _ _ _ m (Same.refl _) r (h G)
theorem vt_var {i : Nat} : VT P0 (tVar i) (mVar i) := by
 intro F Γ σ G H Q Qm r m k
 unfold mVar at m
 split at m
 ·rename_i d e
  obtain ⟨v, e1, d1⟩ := r.sl i _ e
  exact ⟨v, e1, k _ _ _ _ _ m (Same.refl _) r d1⟩
 ·exact m.elim
theorem vt_2 {r2 : R2} {m2 : D → D → (D → Prop) → Prop} (ha : VT P0 ta ma) (hb : VT P0 tb mb)
  (h : ∀ (F : Fra P0) (Γ : En) (σ : St) (G H : Hp) (x y : V) (d e : D) (Q : VK) (Qm : D → Prop), R F Γ σ G H → Dt G x d → Dt G y e → m2 d e Qm → (∀ u r G' H', Qm u → Same G G' → R F Γ σ G' H' → Dt G' r u → Q r H') → r2 x y H Q) :
  VT P0 (tOp r2 ta tb) (fun Γ Q => ma Γ fun x Γ1 => mb Γ1 fun y Γ2 => m2 x y fun d => Q d Γ2) := by
 intro F Γ σ G H Q Qm r m k
 refine ha F Γ σ G H _ _ r m fun d Γ1 x G1 H1 m1 s1 r1 d1 => ?_
 refine hb F Γ1 σ G1 H1 _ _ r1 m1 fun e Γ2 y G2 H2 m2 s2 r2 d2 => ?_
 exact h F Γ2 σ G2 H2 x y d e _ _ r2 (Dt.same s2 _ _ d1) d2 m2 fun u w G3 H3 q s3 r3 d3 => k _ _ _ _ _ q ((s1.trans s2).trans s3) r3 d3
theorem vt_i0 {gv : Int → Int → V} {g : Int → Int → D} (hg : ∀ G i j, Dt G (gv i j) (g i j)) (ha : VT P0 ta ma) (hb : VT P0 tb mb) : VT P0 (tOp (rI0 gv) ta tb) (mI0 g ma mb) := by
 refine vt_2 (m2 := fun x y Q => match x, y with | .int i, .int j => Q (g i j) | _, _ => False) ha hb fun F Γ σ G H x y d e Q Qm r d1 d2 m k => ?_
 split at m
 ·cases d1; cases d2
  exact ⟨_, _, rfl, rfl, k _ _ _ _ m (Same.refl _) r (hg _ _ _)⟩
 ·exact m.elim
theorem vt_i {C : Int → Int → Prop} {gv : Int → Int → V} {g : Int → Int → D} (hg : ∀ G i j, Dt G (gv i j) (g i j)) (ha : VT P0 ta ma) (hb : VT P0 tb mb) : VT P0 (tOp (rI C gv) ta tb) (mI C g ma mb) := by
 refine vt_2 (m2 := fun x y Q => match x, y with | .int i, .int j => C i j ∧ Q (g i j) | _, _ => False) ha hb fun F Γ σ G H x y d e Q Qm r d1 d2 m k => ?_
 split at m
 ·cases d1; cases d2
  exact ⟨_, _, rfl, rfl, m.1, k _ _ _ _ m.2 (Same.refl _) r (hg _ _ _)⟩
 ·exact m.elim
theorem vt_u {gv : Int → V} {g : Int → D} (hg : ∀ G i, Dt G (gv i) (g i)) (ha : VT P0 ta ma) : VT P0 (tUn (rU gv) ta) (mU g ma) := by
 intro F Γ σ G H Q Qm r m k
 refine ha F Γ σ G H _ _ r m fun d Γ1 x G1 H1 m1 s1 r1 d1 => ?_
 split at m1
 ·cases d1
  exact ⟨_, rfl, k _ _ _ _ _ m1 s1 r1 (hg _ _)⟩
 ·exact m1.elim
theorem vt_eq (ha : VT P0 ta ma) (hb : VT P0 tb mb) : VT P0 (tOp rEqD ta tb) (mEq ma mb) := by
 refine vt_2 (m2 := fun x y Q => Good x ∧ Good y ∧ Q (.bool (PyData.eqv x y))) ha hb fun F Γ σ G H x y d e Q Qm r d1 d2 m k => ?_
 exact ⟨d, e, Dt.same r.fr.sub _ _ d1, Dt.same r.fr.sub _ _ d2, m.1, m.2.1, k _ _ _ _ m.2.2 (Same.refl _) r (.bl _)⟩
theorem vt_ne (ha : VT P0 ta ma) (hb : VT P0 tb mb) : VT P0 (tOp rNeD ta tb) (mNe ma mb) := by
 refine vt_2 (m2 := fun x y Q => Good x ∧ Good y ∧ Q (.bool (!PyData.eqv x y))) ha hb fun F Γ σ G H x y d e Q Qm r d1 d2 m k => ?_
 exact ⟨d, e, Dt.same r.fr.sub _ _ d1, Dt.same r.fr.sub _ _ d2, m.1, m.2.1, k _ _ _ _ m.2.2 (Same.refl _) r (.bl _)⟩
theorem isN_of {G : Hp} {x : V} {d : D} (h : Dt G x d) : decide (x = V.non) = isN d := by
 cases h <;> first | rfl | exact decide_eq_false (by intro z; cases z)
theorem vt_notN (ha : VT P0 ta ma) : VT P0 (tOp (fun x y H Q => y = .non ∧ Q (.bl (!decide (x = .non))) H) ta (tC .non)) (mNotN ma) := by
 intro F Γ σ G H Q Qm r m k
 refine ha F Γ σ G H _ _ r m fun d Γ1 x G1 H1 m1 s1 r1 d1 => ⟨rfl, ?_⟩
 rw [isN_of d1]
 exact k _ _ _ _ _ m1 s1 r1 (.bl _)
theorem vt_and (ha : VT P0 ta ma) (hb : VT P0 tb mb) : VT P0 (tAndV ta tb) (mAndV ma mb) := by
 intro F Γ σ G H Q Qm r m k
 refine ha F Γ σ G H _ _ r m fun d Γ1 x G1 H1 m1 s1 r1 d1 => ?_
 split at m1
 ·rename_i c
  cases d1
  refine ⟨c, rfl, ?_⟩
  cases c with
  | true => exact iteT (hb F Γ1 σ G1 H1 _ _ r1 m1 fun e Γ2 y G2 H2 m2 s2 r2 d2 => k _ _ _ _ _ m2 (s1.trans s2) r2 d2)
  | false => exact iteF (k _ _ _ _ _ m1 s1 r1 (.bl _))
 ·exact m1.elim
theorem vt_not (ha : VT P0 ta ma) : VT P0 (tNotV ta) (mNotV ma) := by
 intro F Γ σ G H Q Qm r m k
 refine ha F Γ σ G H _ _ r m fun d Γ1 x G1 H1 m1 s1 r1 d1 => ?_
 split at m1
 ·cases d1
  exact ⟨_, rfl, k _ _ _ _ _ m1 s1 r1 (.bl _)⟩
 ·exact m1.elim
theorem vtt_val (ha : VT P0 ta ma) : VTT P0 (tTest ta) (mTst ma) := by
 intro F Γ σ G H Q Qm r m k
 refine ha F Γ σ G H _ _ r m fun d Γ1 x G1 H1 m1 s1 r1 d1 => ?_
 split at m1
 ·cases d1
  exact ⟨_, rfl, k _ _ _ _ m1 s1 r1⟩
 ·exact m1.elim
theorem vtt_b (ha : VT P0 ta ma) : VTT P0 (tB ta) (mTst ma) := vtt_val ha
theorem vtt_and (ha : VTT P0 tA mA) (hb : VTT P0 tB' mB) : VTT P0 (tAnd tA tB') (mAnd mA mB) := by
 intro F Γ σ G H Q Qm r m k
 refine ha F Γ σ G H _ _ r m fun c Γ1 G1 H1 m1 s1 r1 => ?_
 cases c with
 | true => exact iteT (hb F Γ1 σ G1 H1 _ _ r1 m1 fun e Γ2 G2 H2 m2 s2 r2 => k _ _ _ _ m2 (s1.trans s2) r2)
 | false => exact iteF (k _ _ _ _ m1 s1 r1)
theorem vtt_or (ha : VTT P0 tA mA) (hb : VTT P0 tB' mB) : VTT P0 (tOr tA tB') (mOr mA mB) := by
 intro F Γ σ G H Q Qm r m k
 refine ha F Γ σ G H _ _ r m fun c Γ1 G1 H1 m1 s1 r1 => ?_
 cases c with
 | true => exact iteT (k _ _ _ _ m1 s1 r1)
 | false => exact iteF (hb F Γ1 σ G1 H1 _ _ r1 m1 fun e Γ2 G2 H2 m2 s2 r2 => k _ _ _ _ m2 (s1.trans s2) r2)
theorem vtt_not (ha : VTT P0 tA mA) : VTT P0 (tNot tA) (mNot mA) := by
 intro F Γ σ G H Q Qm r m k
 exact ha F Γ σ G H _ _ r m fun c Γ1 G1 H1 m1 s1 r1 => k _ _ _ _ m1 s1 r1
theorem vd_nil : VD P0 tNil mNil := fun _ _ _ _ _ _ _ r m k => k _ _ _ _ _ m (Same.refl _) r .nil
theorem vd_cons {tr : TA} {mr : MD} (ha : VT P0 ta ma) (hr : VD P0 tr mr) : VD P0 (tCons ta tr) (mCons ma mr) := by
 intro F Γ σ G H Q Qm r m k
 refine ha F Γ σ G H _ _ r m fun d Γ1 x G1 H1 m1 s1 r1 d1 => ?_
 exact hr F Γ1 σ G1 H1 _ _ r1 m1 fun e Γ2 y G2 H2 m2 s2 r2 d2 => k _ _ _ _ _ m2 (s1.trans s2) r2 (.cons (Dt.same s2 _ _ d1) d2)
theorem ArgOk.same {F : Fra P0} {G G' : Hp} (g : Same G G') {r : V} : ∀ {s : Sl}, ArgOk F G r s → ArgOk F G' r s
 | .val _, h => Dt.same g _ _ h
 | .pen, h => h
 | .con _, h => h
 | .pub _, h => h.elim
 | .no, h => h.elim
 | .own _, h => h.elim
 | .box _, h => h.elim
theorem va_nil : VA P0 tNil aNil := fun _ _ _ _ _ _ _ r m k => k _ _ _ _ _ m (Same.refl _) r .nil
theorem va_val {tr : TA} {mr : MA} (ha : VT P0 ta ma) (hr : VA P0 tr mr) : VA P0 (tCons ta tr) (aVal ma mr) := by
 intro F Γ σ G H Q Qm r m k
 refine ha F Γ σ G H _ _ r m fun d Γ1 x G1 H1 m1 s1 r1 d1 => ?_
 exact hr F Γ1 σ G1 H1 _ _ r1 m1 fun e Γ2 y G2 H2 m2 s2 r2 d2 => k _ _ _ _ _ m2 (s1.trans s2) r2 (.cons (Dt.same s2 _ _ d1) d2)
theorem vt_tup {t : TA} {md : MD} (h : VD P0 t md) : VT P0 (tTup t) (mTup md) := by
 intro F Γ σ G H Q Qm r m k
 refine h F Γ σ G H _ _ r m fun ds Γ1 xs G1 H1 m1 s1 r1 d1 => ⟨small_le (by rw [d1.len]; exact m1.1), fun p hp => ?_⟩
 have g := same_new (r1.fr.gfresh hp) (.tup xs)
 exact k _ _ _ _ _ m1.2 (s1.trans g) (r1.new hp) (.tup upd_same (Dts.same g _ _ d1))
theorem SlF.det {F : Fra P0} {G H : Hp} {x : Option (Option V)} {fp fp' : List Addr} : ∀ {s : Sl}, SlF F G H x fp s → SlF F G H x fp' s → fp = fp'
 | .no, h, g => (show fp = [] from h).trans (show fp' = [] from g).symm
 | .val _, h, g => h.1.trans g.1.symm
 | .pen, h, g => h.1.trans g.1.symm
 | .con _, h, g => h.1.trans g.1.symm
 | .pub _, h, g => h.1.trans g.1.symm
 | .own _, h, g => by
  obtain ⟨p, vs, e, e1, _⟩ := h
  obtain ⟨q, ws, f, f1, _⟩ := g
  rw [e1] at f1; cases f1
  rw [e, f]
 | .box B, h, g => by
  obtain ⟨v, e1, e2, _⟩ := h
  obtain ⟨v', f1, f2, _⟩ := g
  rw [e1] at f1; cases f1
  exact B.uniq e2 f2
theorem R.before {F : Fra P0} {Γ : En} {σ : St} {G H G' H' : Hp} (r : R F Γ σ G H) (g : Same G G') (k : ∀ b o, F.H0 b = none → G b = none → H b = some o → G' b = none ∧ H' b = some o) {i : Nat} {s : Sl} {fp : List Addr} (e : Γ[i]? = some s) (h : SlF F G' H' σ[i]? fp s) : ∀ b ∈ fp, ∃ o, H b = some o := by
 obtain ⟨fps, h1, h2⟩ := r.fps
 have h0 := h1 i s e
 have h3 : SlF F G' H' σ[i]? (fps i) s := h0.go g fun b hb => by
  obtain ⟨m1, m2, o, m3⟩ := h0.mine hb
  obtain ⟨k1, k2⟩ := k b o m1 m2 m3
  exact ⟨k1, k2.trans m3.symm⟩
 rw [h.det h3]
 exact fun b hb => (h0.mine hb).2.2
theorem Apart.new {F : Fra P0} {Γ : En} {σ : St} {G H G' H' : Hp} (r : R F Γ σ G H) {p : Addr} (hp : H p = none) {ds : List D} (g : Same G G') (k : ∀ b o, F.H0 b = none → G b = none → H b = some o → G' b = none ∧ H' b = some o) : Apart F Γ σ G' H' (.ref p) (.own ds) := by
 intro i s fp e h q eq hq
 cases eq
 obtain ⟨o, eo⟩ := r.before g k e h p hq
 rw [hp] at eo; cases eo
theorem Apart.newB {F : Fra P0} {Γ : En} {σ : St} {G H G' H' : Hp} (r : R F Γ σ G H) {v : V} {B : Bx} (hp : ∀ fp, B.P v fp G' H' → ∀ b ∈ fp, H b = none) (g : Same G G') (k : ∀ b o, F.H0 b = none → G b = none → H b = some o → G' b = none ∧ H' b = some o) : Apart F Γ σ G' H' v (.box B) := by
 intro i s fp f e h hf b hb hc
 obtain ⟨o, eo⟩ := r.before g k e h b hc
 rw [hp f hf b hb] at eo; cases eo
theorem own_new {F : Fra P0} {Γ : En} {σ : St} {G H : Hp} (r : R F Γ σ G H) {p : Addr} {xs : List V} {ds : List D} (hp : H p = none) (d : Dts G xs ds) :
  R F Γ σ G (upd H p (.lst xs)) ∧ RvO F G (upd H p (.lst xs)) (.ref p) (.own ds) ∧ Apart F Γ σ G (upd H p (.lst xs)) (.ref p) (.own ds) :=
 ⟨r.newP hp, ⟨p, xs, rfl, r.fr.fresh hp, r.fr.gfresh hp, upd_same, d⟩, Apart.new r hp (Same.refl _) fun b o _ g e => ⟨g, by rw [upd_ne (ne_of_none e hp)]; exact e⟩⟩
theorem vo_lst {t : TA} {md : MD} (h : VD P0 t md) : VO P0 (tLst t) (mLst md) := by
 intro F Γ σ G H Q Qm r m k
 refine h F Γ σ G H _ _ r m fun ds Γ1 xs G1 H1 m1 s1 r1 d1 => ⟨small_le (by rw [d1.len]; exact m1.1), fun p hp => ?_⟩
 obtain ⟨a, b, c⟩ := own_new r1 hp d1
 exact k _ _ _ _ _ m1.2 s1 a b c
theorem vt_pub {mo : MO} (h : VO P0 ta mo) : VT P0 ta (mPub mo) := by
 intro F Γ σ G H Q Qm r m k
 refine h F Γ σ G H _ _ r m fun rv Γ1 x G1 H1 m1 s1 r1 d1 a1 => ?_
 cases rv with
 | val d => exact k _ _ _ _ _ m1 s1 r1 d1
 | own ds =>
  obtain ⟨G2, s2, r2, d2⟩ := r1.give d1 a1
  exact k _ _ _ _ _ m1 (s1.trans s2) r2 d2
 | box B =>
  obtain ⟨hv, m1⟩ := m1
  obtain ⟨d, hd⟩ := Option.isSome_iff_exists.mp hv
  obtain ⟨G2, s2, r2, d2⟩ := r1.giveB d1 a1 hd
  have m1 : Qm (B.view.getD .none) Γ1 := m1
  rw [hd] at m1
  exact k _ _ _ _ _ m1 (s1.trans s2) r2 d2
theorem vo_val (h : VT P0 ta ma) : VO P0 ta (mVal ma) := by
 intro F Γ σ G H Q Qm r m k
 exact h F Γ σ G H _ _ r m fun d Γ1 x G1 H1 m1 s1 r1 d1 => k _ _ _ _ _ m1 s1 r1 d1 trivial
theorem R.apart {F : Fra P0} {Γ : En} {σ : St} {G H : Hp} (r : R F Γ σ G H) {i j : Nat} {s t : Sl} {fp fq : List Addr} (hij : i ≠ j) (ei : Γ[i]? = some s) (ej : Γ[j]? = some t) (hi : SlF F G H σ[i]? fp s) (hj : SlF F G H σ[j]? fq t) : ∀ b ∈ fp, b ∉ fq := by
 obtain ⟨fps, h1, h2⟩ := r.fps
 rw [hi.det (h1 i s ei), hj.det (h1 j t ej)]
 exact h2 i j s t ei ej hij
theorem vo_move {i : Nat} : VO P0 (tVar i) (mMove i) := by
 intro F Γ σ G H Q Qm r m k
 have other : ∀ {j : Nat} {s s0 : Sl} {fp fq : List Addr}, Γ[i]? = some s0 → SlF F G H σ[i]? fp s0 → (Γ.set i .no)[j]? = some s → SlF F G H σ[j]? fq s → ∀ b ∈ fp, b ∉ fq := by
  intro j s s0 fp fq e h ej hj b hb hc
  by_cases hij : i = j
  ·subst hij
   have hi : i < Γ.length := (List.getElem?_eq_some_iff.mp e).1
   rw [List.getElem?_set_self hi] at ej
   cases ej
   rw [show fq = [] from hj] at hc; cases hc
  ·rw [List.getElem?_set_ne hij] at ej
   exact r.apart hij e ej h hj b hb hc
 unfold mMove at m
 split at m
 ·rename_i d e
  obtain ⟨v, e1, d1⟩ := r.sl i _ e
  exact ⟨v, e1, k _ _ _ _ _ m (Same.refl _) r d1 trivial⟩
 ·rename_i ds e
  obtain ⟨p, vs, e1, e2⟩ := r.sl i _ e
  refine ⟨_, e1, k _ _ _ _ _ m (Same.refl _) (r.drop i) ⟨p, vs, rfl, e2⟩ fun j s fp ej hj q eq hq => ?_⟩
  cases eq
  exact other e (fp := [p]) ⟨p, vs, rfl, e1, e2⟩ ej hj p (List.mem_singleton.mpr rfl) hq
 ·rename_i B e
  obtain ⟨v, fp, e1, e2, e3⟩ := r.sl i _ e
  refine ⟨_, e1, k _ _ _ _ _ m (Same.refl _) (r.drop i) ⟨fp, e2, e3⟩ fun j s fq f ej hj hf b hb => ?_⟩
  rw [B.uniq hf e2] at hb
  exact other e (fp := fp) ⟨v, e1, e2, e3⟩ ej hj b hb
 ·exact m.elim
theorem vt_ix (ha : VT P0 ta ma) (hb : VT P0 tb mb) : VT P0 (tOp (rIx K) ta tb) (mIx ma mb) := by
 refine vt_2 (m2 := fun x y Q => oQ (ixD x y) Q) ha hb fun F Γ σ G H x y d e Q Qm r d1 d2 m k => ?_
 obtain ⟨u, hu, q⟩ := oQ_out m
 unfold ixD at hu
 split at hu
 ·rename_i ds i
  cases d2
  cases d1 with
  | @tup p xs _ hp rs =>
   obtain ⟨j, h1, h2⟩ : ∃ j, ixN ds.length i = some j ∧ ds[j]? = some u := by
    unfold atI at hu
    cases e : ixN ds.length i with
    | none => rw [e] at hu; cases hu
    | some j => rw [e] at hu; exact ⟨j, rfl, hu⟩
   obtain ⟨v, hv, dv⟩ := Dts.get rs h2
   refine .inr (.inl ⟨p, xs, i, v, rfl, rfl, SqT.of (r.fr.sub _ _ hp), ?_, k _ _ _ _ q (Same.refl _) r dv⟩)
   unfold atI
   rw [rs.len, h1]
   exact hv
 ·rename_i ds i
  cases d2
  cases d1 with
  | @lst p xs _ hp rs =>
   obtain ⟨j, h1, h2⟩ : ∃ j, ixN ds.length i = some j ∧ ds[j]? = some u := by
    unfold atI at hu
    cases e : ixN ds.length i with
    | none => rw [e] at hu; cases hu
    | some j => rw [e] at hu; exact ⟨j, rfl, hu⟩
   obtain ⟨v, hv, dv⟩ := Dts.get rs h2
   refine .inl ⟨p, xs, i, v, rfl, rfl, SqL.of (r.fr.sub _ _ hp), ?_, k _ _ _ _ q (Same.refl _) r dv⟩
   unfold atI
   rw [rs.len, h1]
   exact hv
 ·cases hu
theorem vt_cb1 {rr : List V → Hp → VK → Prop} {m1 : D → (D → Prop) → Prop} (ha : VT P0 ta ma)
  (h : ∀ (F : Fra P0) (Γ : En) (σ : St) (G H : Hp) (x : V) (d : D) (Q : VK) (Qm : D → Prop), R F Γ σ G H → Dt G x d → m1 d Qm → (∀ u r G' H', Qm u → Same G G' → R F Γ σ G' H' → Dt G' r u → Q r H') → rr [x] H Q) :
  VT P0 (tCB rr (tCons ta tNil)) (fun Γ Q => ma Γ fun x Γ1 => m1 x fun d => Q d Γ1) := by
 intro F Γ σ G H Q Qm r m k
 refine ha F Γ σ G H _ _ r m fun d Γ1 x G1 H1 m1 s1 r1 d1 => ?_
 exact h F Γ1 σ G1 H1 x d _ _ r1 d1 m1 fun u w G3 H3 q s3 r3 d3 => k _ _ _ _ _ q (s1.trans s3) r3 d3
theorem vt_len (ha : VT P0 ta ma) : VT P0 (tCB (fun xs H Q => ∃ p ys, xs = [.ref p] ∧ (SqL K H p ys ∨ SqT K H p ys) ∧ Q (.int ys.length) H) (tCons ta tNil)) (mLen ma) := by
 refine vt_cb1 (m1 := fun x Q => oQ (lenD x) Q) ha fun F Γ σ G H x d Q Qm r d1 m k => ?_
 obtain ⟨u, hu, q⟩ := oQ_out m
 unfold lenD at hu
 split at hu
 ·cases hu
  cases d1 with
  | @tup p xs _ hp rs => exact ⟨p, xs, rfl, .inr (SqT.of (r.fr.sub _ _ hp)), by rw [rs.len]; exact k _ _ _ _ q (Same.refl _) r (.int _)⟩
 ·cases hu
  cases d1 with
  | @lst p xs _ hp rs => exact ⟨p, xs, rfl, .inl (SqL.of (r.fr.sub _ _ hp)), by rw [rs.len]; exact k _ _ _ _ q (Same.refl _) r (.int _)⟩
 ·cases hu
noncomputable def mAbs (ma : ME) : ME := fun Γ Q => ma Γ fun x Γ1 => match x with
 | .int i => Q (.int (if i < 0 then -i else i)) Γ1
 | _ => False
theorem vt_abs (ha : VT P0 ta ma) : VT P0 (tCB (fun xs H Q => ∃ i, xs = [.int i] ∧ Q (.int (if i < 0 then -i else i)) H) (tCons ta tNil)) (mAbs ma) := by
 refine vt_cb1 (m1 := fun x Q => match x with | .int i => Q (.int (if i < 0 then -i else i)) | _ => False) ha fun F Γ σ G H x d Q Qm r d1 m k => ?_
 split at m
 ·cases d1
  exact ⟨_, rfl, k _ _ _ _ m (Same.refl _) r (.int _)⟩
 ·exact m.elim
noncomputable def mInt1 (ma : ME) : ME := fun Γ Q => ma Γ fun x Γ1 => match x with
 | .int i => Q (.int i) Γ1
 | .bool b => Q (.int (if b then 1 else 0)) Γ1
 | _ => False
noncomputable def m2I (g : Int → Int → Int) (ma mb : ME) : ME := fun Γ Q => ma Γ fun x Γ1 => mb Γ1 fun y Γ2 => match x, y with
 | .int i, .int j => Q (.int (g i j)) Γ2
 | _, _ => False
theorem vo_listOf (ha : VT P0 ta ma) : VO P0 (tCB (fun xs H Q => ∃ p ys, xs = [.ref p] ∧ (SqL K H p ys ∨ SqT K H p ys) ∧ ∀ l, H l = none → Q (.ref l) (upd H l (.lst ys))) (tCons ta tNil)) (mListOf ma) := by
 intro F Γ σ G H Q Qm r m k
 refine ha F Γ σ G H _ _ r m fun d Γ1 x G1 H1 m1 s1 r1 d1 => ?_
 split at m1
 ·rename_i ds e
  cases d1 <;> simp only [itemsD] at e <;> try (cases e)
  ·rename_i p xs hp rs
   refine ⟨p, xs, rfl, .inr (SqT.of (r1.fr.sub _ _ hp)), fun l hl => ?_⟩
   obtain ⟨a, b, c⟩ := own_new r1 hl rs
   exact k _ _ _ _ _ m1 s1 a b c
  ·rename_i p xs hp rs
   refine ⟨p, xs, rfl, .inl (SqL.of (r1.fr.sub _ _ hp)), fun l hl => ?_⟩
   obtain ⟨a, b, c⟩ := own_new r1 hl rs
   exact k _ _ _ _ _ m1 s1 a b c
 ·exact m1.elim
theorem vp_no : VP P0 tNoPart pNo := fun _ _ _ _ _ _ _ r m k => k _ _ _ _ m (Same.refl _) r
theorem vp_so (ha : VT P0 ta ma) : VP P0 (tPart ta) (pSo ma) := by
 intro F Γ σ G H Q Qm r m k
 refine ha F Γ σ G H _ _ r m fun d Γ1 x G1 H1 m1 s1 r1 d1 => ?_
 split at m1
 ·cases d1
  exact ⟨_, rfl, k _ _ _ _ m1 s1 r1⟩
 ·exact m1.elim
theorem _root_.L2.Dts.cut {G : Hp} {vs : List V} {ds : List D} (h : Dts G vs ds) (lo hi : Option Int) : Dts G (cutV vs lo hi) (cutD ds lo hi) := by
 unfold cutV cutD
 rw [h.len]
 exact Dts.tak _ (Dts.drp _ h)
theorem vo_cat (ha : VT P0 ta ma) (hb : VT P0 tb mb) : VO P0 (tOp rCat ta tb) (mCat ma mb) := by
 intro F Γ σ G H Q Qm r m k
 refine ha F Γ σ G H _ _ r m fun d Γ1 x G1 H1 m1 s1 r1 d1 => ?_
 refine hb F Γ1 σ G1 H1 _ _ r1 m1 fun e Γ2 y G2 H2 m2 s2 r2 d2 => ?_
 have d1 := Dt.same s2 _ _ d1
 split at m2
 ·cases d1 with
  | @lst p xs _ hp rs =>
   cases d2 with
   | @lst q ys _ hq ss =>
    refine ⟨p, q, xs, ys, rfl, rfl, r2.fr.sub _ _ hp, r2.fr.sub _ _ hq, small_le (by rw [rs.len, ss.len]; exact m2.1), fun l hl => ?_⟩
    obtain ⟨a, b, c⟩ := own_new r2 hl (rs.app ss)
    exact k _ _ _ _ _ m2.2 (s1.trans s2) a b c
 ·exact m2.elim
noncomputable def spM (P0 : Addr → Hp → Prop) (n : Nat) (f : Fm) : Sp := fun vs H Q _ => ∃ (F : Fra P0) (as : List Sl) (Qm : Rv → Prop), F.H0 = H ∧ Rf F F.G0 H ∧ Paired (ArgOk F F.G0) vs as ∧ as.length = n ∧ f as Qm ∧
 ∀ rv r G' H', Qm rv → Rf F G' H' → RvO F G' H' r rv → Q r H'
noncomputable def Fra.sub (F : Fra P0) {G H : Hp} (r : Rf F G H) : Fra P0 where
 H0 := H
 G0 := G
 pen := F.pen
 stab := fun p e H1 H2 h => F.stab p e H1 H2 fun b o e => let ⟨o', e'⟩ := r.dom e; h b o' e'
 pin := F.pin
 pin0 := fun p e => F.pin p e H (r.pn p e)
 pg := fun p e => by
  obtain ⟨o, e0⟩ := F.pin0 p e
  rw [r.g0 p o e0]
  exact F.pg p e
theorem Fra.subRf (F : Fra P0) {G H : Hp} (r : Rf F G H) : Rf (F.sub r) G H := ⟨r.sub, fun _ _ _ => rfl, fun _ _ e _ => e, r.pn⟩
theorem Rf.back {F : Fra P0} {G H G' H' : Hp} (r : Rf F G H) (h : Rf (F.sub r) G' H') : Rf F G' H' ∧ Same G G' := by
 refine ⟨⟨h.sub, fun b o e => ?_, fun b o e hb => ?_, h.pn⟩, fun b o e => ?_⟩
 ·obtain ⟨o', e'⟩ := r.dom e
  exact (h.g0 b o' e').trans (r.g0 b o e)
 ·exact h.h0 b o (r.h0 b o e hb) hb
 ·exact (h.g0 b o (r.sub b o e)).trans e
theorem Fra.pen_ne (F : Fra P0) {p : Addr} (h : F.H0 p = none) : F.pen ≠ some p := fun e => by
 obtain ⟨o, e0⟩ := F.pin0 p e
 rw [h] at e0; cases e0
theorem R.after {F : Fra P0} {Γ : En} {σ : St} {G H G' H' : Hp} (r : R F Γ σ G H) (h : Rf (F.sub r.fr) G' H') : R F Γ σ G' H' ∧ Same G G' := by
 obtain ⟨a, b⟩ := r.fr.back h
 refine ⟨r.keep a b fun p u _ e1 e2 e3 => ⟨(h.g0 p _ e3).trans e2, h.h0 p _ e3 (F.pen_ne e1)⟩, b⟩
theorem vo_call {n : Nat} {f : Fm} {t : TA} {m : MA} {E : XK} (h : VA P0 t m) : VO P0 (tCall (spM P0 n f) [] E t) (mCall n f m) := by
 intro F Γ σ G H Q Qm r hm k
 refine h F Γ σ G H _ _ r hm fun as Γ1 rs G1 H1 m1 s1 r1 d1 => ?_
 refine ⟨F.sub r1.fr, as, fun rv => Qm rv Γ1, rfl, F.subRf r1.fr, ?_, m1.1, m1.2, fun rv v G2 H2 q f2 v2 => ?_⟩
 ·rw [List.append_nil]
  exact Paired.imp' (fun a s h => by cases s <;> exact h) d1
 ·obtain ⟨r2, s2⟩ := r1.after f2
  refine k _ _ _ _ _ q (s1.trans s2) r2 ?_ ?_
  ·cases rv with
   | val d => exact v2
   | own ds =>
    obtain ⟨p, vs, e, e1, e2, e3, e4⟩ := v2
    exact ⟨p, vs, e, r1.fr.fresh e1, e2, e3, e4⟩
   | box B =>
    obtain ⟨fp, e1, e2⟩ := v2
    exact ⟨fp, e1, fun b hb => ⟨r1.fr.fresh (e2 b hb).1, (e2 b hb).2⟩⟩
  ·have kp : ∀ b o, F.H0 b = none → G1 b = none → H1 b = some o → G2 b = none ∧ H2 b = some o := fun b o h1 h2 h3 => ⟨(f2.g0 b _ h3).trans h2, f2.h0 b _ h3 (F.pen_ne h1)⟩
   cases rv with
   | val d => trivial
   | own ds =>
    obtain ⟨p, vs, rfl, e1, e2, e3, e4⟩ := v2
    exact Apart.new r1 e1 s2 kp
   | box B =>
    obtain ⟨fp, e1, e2⟩ := v2
    exact Apart.newB r1 (fun f hf b hb => by rw [B.uniq hf e1] at hb; exact (e2 b hb).1) s2 kp
end
end L2.VS
namespace L2.VS
open PySem PySem.Spec PyProof.Rows
variable {P0 : Addr → Hp → Prop} {A : Nat → Bool}
noncomputable def gN (i : Nat) : MG := fun d Γ Q => Q (Γ.set i (.val d))
noncomputable def gsNil : MGs := fun ds Γ Q => match ds with
 | [] => Q Γ
 | _ => False
noncomputable def gsCons (g : MG) (gs : MGs) : MGs := fun ds Γ Q => match ds with
 | d :: r => g d Γ fun Γ1 => gs r Γ1 Q
 | [] => False
noncomputable def gT (n : Nat) (gs : MGs) : MG := fun d Γ Q => match d with
 | .tuple ds => ds.length = n ∧ gs ds Γ Q
 | _ => False
theorem set_off {i : Nat} {v : Option V} {σ : St} (hA : A i = true) : ∀ j, A j = false → (σ.set i v)[j]? = σ[j]? := fun j hj => List.getElem?_set_ne (fun z => by rw [z, hj] at hA; cases hA)
theorem vg_name {i : Nat} (hA : A i = true := by rfl) : VG P0 A (gName i) (gN i) := fun _ _ _ _ _ _ _ _ _ r h m k => k _ _ m (r.setV h) (set_off hA)
theorem vgs_nil : VGs P0 A gNil gsNil := by
 intro F Γ σ G H vs ds Q Qm r h m k
 cases h with
 | nil => exact ⟨rfl, k _ _ m r fun _ _ => rfl⟩
 | cons _ _ => exact m.elim
theorem vgs_cons {g : TG} {gs : TGs} {m : MG} {ms : MGs} (h1 : VG P0 A g m) (h2 : VGs P0 A gs ms) : VGs P0 A (gCons g gs) (gsCons m ms) := by
 intro F Γ σ G H vs ds Q Qm r h hm k
 cases h with
 | nil => exact hm.elim
 | cons a b => exact ⟨_, _, rfl, h1 F Γ σ G H _ _ _ _ r a hm fun Γ1 σ1 m1 r1 e1 => h2 F Γ1 σ1 G H _ _ _ _ r1 b m1 fun Γ2 σ2 m2 r2 e2 => k _ _ m2 r2 fun i hi => (e2 i hi).trans (e1 i hi)⟩
theorem vg_tup {K : PySem.W.Frag} {n : Nat} {gs : TGs} {ms : MGs} (h : VGs P0 A gs ms) : VG P0 A (gTup K n gs) (gT n ms) := by
 intro F Γ σ G H v d Q Qm r hd m k
 unfold gT at m
 split at m
 ·cases hd with
  | @tup p xs _ hp rs => exact ⟨p, xs, rfl, SqT.of (r.fr.sub _ _ hp), by rw [rs.len]; exact m.1, h F Γ σ G H _ _ _ _ r rs m.2 k⟩
 ·exact m.elim
noncomputable def Walk (P0 : Addr → Hp → Prop) (J : It) (G0 : Hp) (ds : List D) : Prop := ∀ (F : Fra P0) (Γ : En) (σ : St) (G H : Hp), Same G0 G → R F Γ σ G H →
 (∀ i d, ds[i]? = some d → J.go i H ∧ ∀ x H', J.yld i H x H' → ∃ G', Same G G' ∧ R F Γ σ G' H' ∧ Dt G' x d) ∧ J.stop ds.length H
noncomputable def VI (P0 : Addr → Hp → Prop) (wi : TI) (m : MD) : Prop := ∀ (F : Fra P0) (Γ : En) (σ : St) (G H : Hp) (Q : It → Hp → Prop) (Qm : List D → En → Prop), R F Γ σ G H → m Γ Qm →
 (∀ ds Γ' J G' H', Qm ds Γ' → Same G G' → R F Γ' σ G' H' → Walk P0 J G' ds → Q J H') → wi σ H Q
noncomputable def mItL (ma : ME) : MD := fun Γ Q => ma Γ fun x Γ1 => match x with
 | .list ds => Q ds Γ1
 | _ => False
noncomputable def mItT (ma : ME) : MD := fun Γ Q => ma Γ fun x Γ1 => match x with
 | .tuple ds => Q ds Γ1
 | _ => False
noncomputable def rangeD (lo : Int) (n : Nat) : List D := (List.range n).map fun (k : Nat) => PyData.int (lo + k)
noncomputable def mRng1 (md : MD) : MD := fun Γ Q => md Γ fun ds Γ1 => match ds with
 | [.int j] => -(2 ^ 62) ≤ j ∧ j < 2 ^ 62 ∧ Q (rangeD 0 j.toNat) Γ1
 | _ => False
noncomputable def mRng2 (md : MD) : MD := fun Γ Q => md Γ fun ds Γ1 => match ds with
 | [.int i, .int j] => (-(2 ^ 62) ≤ i ∧ i < 2 ^ 62 ∧ -(2 ^ 62) ≤ j ∧ j < 2 ^ 62) ∧ Q (rangeD i (j - i).toNat) Γ1
 | _ => False
theorem vi_list {K : PySem.W.Frag} {ta : TE} {ma : ME} (ha : VT P0 ta ma) : VI P0 (iList K ta) (mItL ma) := by
 intro F Γ σ G H Q Qm r m k
 refine ha F Γ σ G H _ _ r m fun d Γ1 x G1 H1 m1 s1 r1 d1 => ?_
 split at m1
 ·cases d1 with
  | @lst p xs ds hp rs =>
   refine ⟨p, rfl, ⟨xs, SqL.of (r1.fr.sub _ _ hp)⟩, k _ _ _ _ _ m1 s1 r1 fun F2 Γ2 σ2 G2 H2 s2 r2 => ⟨fun i d e => ?_, ?_⟩⟩
   ·have hq : H2 p = some (.lst xs) := r2.fr.sub _ _ (s2 _ _ hp)
    obtain ⟨v, ev, dv⟩ := Dts.get rs e
    refine ⟨⟨xs, v, SqL.of hq, ev⟩, fun y H3 hy => ⟨G2, Same.refl _, ?_⟩⟩
    obtain ⟨rfl, hy⟩ := hy
    have := hy xs (SqL.of hq)
    rw [ev] at this
    cases this
    exact ⟨r2, Dt.same s2 _ _ dv⟩
   ·exact ⟨xs, SqL.of (r2.fr.sub _ _ (s2 _ _ hp)), by rw [rs.len]; exact Nat.le_refl _⟩
 ·exact m1.elim
theorem vi_tup {K : PySem.W.Frag} {ta : TE} {ma : ME} (ha : VT P0 ta ma) : VI P0 (iTup K ta) (mItT ma) := by
 intro F Γ σ G H Q Qm r m k
 refine ha F Γ σ G H _ _ r m fun d Γ1 x G1 H1 m1 s1 r1 d1 => ?_
 split at m1
 ·cases d1 with
  | @tup p xs ds hp rs =>
   refine ⟨p, rfl, ⟨xs, SqT.of (r1.fr.sub _ _ hp)⟩, k _ _ _ _ _ m1 s1 r1 fun F2 Γ2 σ2 G2 H2 s2 r2 => ⟨fun i d e => ?_, ?_⟩⟩
   ·have hq : H2 p = some (.tup xs) := r2.fr.sub _ _ (s2 _ _ hp)
    obtain ⟨v, ev, dv⟩ := Dts.get rs e
    refine ⟨⟨xs, v, SqT.of hq, ev⟩, fun y H3 hy => ⟨G2, Same.refl _, ?_⟩⟩
    obtain ⟨rfl, hy⟩ := hy
    have := hy xs (SqT.of hq)
    rw [ev] at this
    cases this
    exact ⟨r2, Dt.same s2 _ _ dv⟩
   ·exact ⟨xs, SqT.of (r2.fr.sub _ _ (s2 _ _ hp)), by rw [rs.len]; exact Nat.le_refl _⟩
 ·exact m1.elim
theorem walk_range {G : Hp} (lo : Int) (n : Nat) : Walk P0 (Itr lo n) G (rangeD lo n) := by
 intro F Γ σ G2 H2 _ r
 have hl : (rangeD lo n).length = n := by simp [rangeD]
 refine ⟨fun i d e => ?_, by rw [hl]; exact Nat.le_refl _⟩
 have hi : i < n := by have := (List.getElem?_eq_some_iff.mp e).1; omega
 refine ⟨hi, fun x H' hy => ?_⟩
 obtain ⟨rfl, rfl⟩ := hy
 refine ⟨G2, Same.refl _, r, ?_⟩
 unfold rangeD at e
 rw [List.getElem?_map, List.getElem?_range hi] at e
 cases e
 exact .int _
theorem vi_rng1 {t : TA} {md : MD} (h : VD P0 t md) : VI P0 (iRng1 t) (mRng1 md) := by
 intro F Γ σ G H Q Qm r m k
 refine h F Γ σ G H _ _ r m fun ds Γ1 xs G1 H1 m1 s1 r1 d1 => ?_
 split at m1
 ·rename_i j
  cases d1 with
  | cons a b =>
   cases a; cases b
   exact ⟨j, rfl, m1.1, m1.2.1, k _ _ _ _ _ m1.2.2 s1 r1 (walk_range _ _)⟩
 ·exact m1.elim
noncomputable def mNx : MS := fun Γ Q => Q (.nx Γ)
noncomputable def mSeq (a b : MS) : MS := fun Γ Q => a Γ fun fl => match fl with
 | .nx Γ1 => b Γ1 Q
 | fl => Q fl
noncomputable def mDrop (m : ME) : MS := fun Γ Q => m Γ fun _ Γ1 => Q (.nx Γ1)
noncomputable def mSet (i : Nat) (m : MO) : MS := fun Γ Q => m Γ fun rv Γ1 => Q (.nx (Γ1.set i rv.sl))
noncomputable def mAsg (m : ME) (g : MG) : MS := fun Γ Q => m Γ fun d Γ1 => g d Γ1 fun Γ2 => Q (.nx Γ2)
noncomputable def mPar (i j : Nat) (m : MD) : MS := fun Γ Q => m Γ fun ds Γ1 => match ds with
 | [d, e] => Q (.nx ((Γ1.set i (.val d)).set j (.val e)))
 | _ => False
noncomputable def mRet (m : MO) : MS := fun Γ Q => m Γ fun rv _ => Q (.rt rv)
noncomputable def mRetN : MS := fun _ Q => Q (.rt (.val .none))
noncomputable def mIf (c : MT) (a b : MS) : MS := fun Γ Q => c Γ fun k Γ1 => if k = true then a Γ1 Q else b Γ1 Q
noncomputable def mNever : MS := fun _ _ => False
noncomputable def forL (g : MG) (b : MS) : List D → En → (Fl → Prop) → Prop
 | [], Γ, Q => Q (.nx Γ)
 | d :: ds, Γ, Q => g d Γ fun Γ1 => b Γ1 fun fl => match fl with
  | .nx Γ2 => forL g b ds Γ2 Q
  | .ct Γ2 => forL g b ds Γ2 Q
  | .bk Γ2 => Q (.nx Γ2)
  | .rt rv => Q (.rt rv)
noncomputable def mFor (mi : MD) (g : MG) (b : MS) : MS := fun Γ Q => mi Γ fun ds Γ1 => forL g b ds Γ1 Q
noncomputable def mWhile (c : MT) (b : MS) : MS := fun Γ Q => ∃ W : Nat → En → Prop, (∃ n, W n Γ) ∧ ∀ n Γ, W n Γ → c Γ fun k Γ1 => if k = true then b Γ1 fun fl => match fl with
  | .nx Γ2 => ∃ n', n' < n ∧ W n' Γ2
  | .ct Γ2 => ∃ n', n' < n ∧ W n' Γ2
  | .bk Γ2 => Q (.nx Γ2)
  | .rt rv => Q (.rt rv)
 else Q (.nx Γ1)
noncomputable def mAppend (i : Nat) (m : ME) : MS := fun Γ Q => match Γ[i]? with
 | some (.own _) => m Γ fun d Γ1 => match Γ1[i]? with
  | some (.own ds) => ds.length < 1000 ∧ Q (.nx (Γ1.set i (.own (ds ++ [d]))))
  | _ => False
 | _ => False
noncomputable def mClear (i : Nat) : MS := fun Γ Q => match Γ[i]? with
 | some (.own _) => Q (.nx (Γ.set i (.own [])))
 | _ => False
noncomputable def mPubS (i : Nat) (m : MS) : MS := fun Γ Q => match Γ[i]? with
 | some (.own ds) => m (Γ.set i (.val (.list ds))) Q
 | _ => m Γ Q
theorem vs_nx : VSA P0 A tNext mNx := fun _ _ _ _ _ _ _ r m k => k _ m _ _ _ (Same.refl _) r fun _ _ => rfl
theorem vs_never : VSA P0 A tNever mNever := fun _ _ _ _ _ _ _ _ m _ => m.elim
theorem vs_seq {t u : TS} {a b : MS} (ha : VSA P0 A t a) (hb : VSA P0 A u b) : VSA P0 A (tSeq t u) (mSeq a b) := by
 intro F Γ σ G H E Qm r m k
 refine ha F Γ σ G H _ _ r m fun fl q => ?_
 cases fl with
 | nx Γ1 => exact fun σ1 G1 H1 s1 r1 e1 => hb F Γ1 σ1 G1 H1 E Qm r1 q fun fl q => (k fl q).same s1 e1
 | rt rv => exact k _ q
 | bk Γ1 => exact k _ q
 | ct Γ1 => exact k _ q
theorem vs_drop {t : TE} {m : ME} (h : VT P0 t m) : VSA P0 A (tDrop t) (mDrop m) := by
 intro F Γ σ G H E Qm r hm k
 exact h F Γ σ G H _ _ r hm fun d Γ1 x G1 H1 m1 s1 r1 d1 => k _ m1 _ _ _ s1 r1 fun _ _ => rfl
theorem vs_set {i : Nat} {t : TE} {m : MO} (h : VO P0 t m) (hA : A i = true := by rfl) : VSA P0 A (tAsg t (gName i)) (mSet i m) := by
 intro F Γ σ G H E Qm r hm k
 exact h F Γ σ G H _ _ r hm fun rv Γ1 x G1 H1 m1 s1 r1 d1 a1 => k _ m1 _ _ _ s1 (r1.set d1 a1) (set_off hA)
theorem vs_par {i j : Nat} {t : TA} {m : MD} (h : VD P0 t m) (hA : A i = true := by rfl) (hB : A j = true := by rfl) : VSA P0 A (tPar i j t) (mPar i j m) := by
 intro F Γ σ G H E Qm r hm k
 refine h F Γ σ G H _ _ r hm fun ds Γ1 x G1 H1 m1 s1 r1 d1 => ?_
 split at m1
 ·cases d1 with
  | cons a b =>
   cases b with
   | cons b c =>
    cases c
    exact ⟨_, _, rfl, k _ m1 _ _ _ s1 ((r1.setV a).setV b) fun q hq => (set_off hB q hq).trans (set_off hA q hq)⟩
 ·exact m1.elim
theorem vs_ret {t : TE} {m : MO} (h : VO P0 t m) : VSA P0 A (tRet t) (mRet m) := by
 intro F Γ σ G H E Qm r hm k
 exact h F Γ σ G H _ _ r hm fun rv Γ1 x G1 H1 m1 s1 r1 d1 _ => k _ m1 _ _ _ s1 r1.fr d1
theorem vs_if {c : TT} {t u : TS} {mc : MT} {a b : MS} (hc : VTT P0 c mc) (ha : VSA P0 A t a) (hb : VSA P0 A u b) : VSA P0 A (tIfS c t u) (mIf mc a b) := by
 intro F Γ σ G H E Qm r m k
 refine hc F Γ σ G H _ _ r m fun k1 Γ1 G1 H1 m1 s1 r1 => ?_
 cases k1 with
 | true => exact iteT (ha F Γ1 σ G1 H1 E Qm r1 m1 fun fl q => (k fl q).same s1 fun _ _ => rfl)
 | false => exact iteF (hb F Γ1 σ G1 H1 E Qm r1 m1 fun fl q => (k fl q).same s1 fun _ _ => rfl)
theorem vs_while {c : TT} {t : TS} {mc : MT} {b : MS} (hc : VTT P0 c mc) (hb : VSA P0 A t b) : VSA P0 A (tWhile c t) (mWhile mc b) := by
 intro F Γ σ G H E Qm r m k
 obtain ⟨W, ⟨n0, w0⟩, turn⟩ := m
 refine ⟨fun n σ1 H1 => ∃ Γ1 G1, Same G G1 ∧ R F Γ1 σ1 G1 H1 ∧ W n Γ1 ∧ ∀ i, A i = false → σ1[i]? = σ[i]?, ⟨n0, Γ, G, Same.refl _, r, w0, fun _ _ => rfl⟩, ?_⟩
 rintro n σ1 H1 ⟨Γ1, G1, s1, r1, w1, e1⟩
 refine hc F Γ1 σ1 G1 H1 _ _ r1 (turn n Γ1 w1) fun k2 Γ2 G2 H2 m2 s2 r2 => ?_
 cases k2 with
 | true =>
  refine iteT ⟨_, fun _ _ h => h, ?_⟩
  refine hb F Γ2 σ1 G2 H2 _ _ r2 m2 fun fl q => ?_
  cases fl with
  | nx Γ3 =>
   obtain ⟨n', hn, w3⟩ := q
   exact fun σ3 G3 H3 s3 r3 e3 => ⟨n', hn, Γ3, G3, (s1.trans s2).trans s3, r3, w3, fun i hi => (e3 i hi).trans (e1 i hi)⟩
  | ct Γ3 =>
   obtain ⟨n', hn, w3⟩ := q
   exact fun σ3 G3 H3 s3 r3 e3 => ⟨n', hn, Γ3, G3, (s1.trans s2).trans s3, r3, w3, fun i hi => (e3 i hi).trans (e1 i hi)⟩
  | bk Γ3 => exact fun σ3 G3 H3 s3 r3 e3 => k _ q _ _ _ ((s1.trans s2).trans s3) r3 fun i hi => (e3 i hi).trans (e1 i hi)
  | rt rv => exact fun v G3 H3 s3 r3 => k _ q _ _ _ ((s1.trans s2).trans s3) r3
 | false => exact iteF (k _ m2 _ _ _ (s1.trans s2) r2 e1)
theorem vs_for {wi : TI} {g : TG} {t : TS} {mi : MD} {mg : MG} {b : MS} (hi : VI P0 wi mi) (hg : VG P0 A g mg) (hb : VSA P0 A t b) : VSA P0 A (tFor wi g t) (mFor mi mg b) := by
 intro F Γ σ G H E Qm r m k
 refine hi F Γ σ G H _ _ r m fun ds Γ1 J G1 H1 m1 s1 r1 wk => ?_
 refine ⟨fun i n σ2 H2 => n = ds.length - i ∧ i ≤ ds.length ∧ ∃ Γ2 G2, Same G1 G2 ∧ R F Γ2 σ2 G2 H2 ∧ forL mg b (ds.drop i) Γ2 Qm ∧ ∀ i, A i = false → σ2[i]? = σ[i]?, ⟨ds.length, by simp, Nat.zero_le _, Γ1, G1, Same.refl _, r1, m1, fun _ _ => rfl⟩, ?_⟩
 rintro i n σ2 H2 ⟨rfl, hle, Γ2, G2, s2, r2, m2, e2⟩
 obtain ⟨go, stop⟩ := wk F Γ2 σ2 G2 H2 s2 r2
 by_cases hlt : i < ds.length
 ·refine .inr ⟨(go i ds[i] (by simp [hlt])).1, fun σ' H' => ds.length - (i + 1) < ds.length - i ∧ i + 1 ≤ ds.length ∧ ∃ Γ3 G3, Same G1 G3 ∧ R F Γ3 σ' G3 H' ∧ forL mg b (ds.drop (i + 1)) Γ3 Qm ∧ ∀ i, A i = false → σ'[i]? = σ[i]?, fun σ' H' h => ⟨_, h.1, rfl, h.2⟩, fun x H' hy => ?_⟩
  obtain ⟨G3, s3, r3, d3⟩ := (go i ds[i] (by simp [hlt])).2 x H' hy
  rw [List.drop_eq_getElem_cons hlt] at m2
  refine hg F Γ2 σ2 G3 H' x _ _ _ r3 d3 m2 fun Γ4 σ4 m4 r4 e4 => ?_
  refine hb F Γ4 σ4 G3 H' _ _ r4 m4 fun fl q => ?_
  cases fl with
  | nx Γ5 => exact fun σ5 G5 H5 s5 r5 e5 => ⟨by omega, hlt, Γ5, G5, (s2.trans s3).trans s5, r5, q, fun i hi => ((e5 i hi).trans (e4 i hi)).trans (e2 i hi)⟩
  | ct Γ5 => exact fun σ5 G5 H5 s5 r5 e5 => ⟨by omega, hlt, Γ5, G5, (s2.trans s3).trans s5, r5, q, fun i hi => ((e5 i hi).trans (e4 i hi)).trans (e2 i hi)⟩
  | bk Γ5 => exact fun σ5 G5 H5 s5 r5 e5 => k _ q _ _ _ ((s1.trans s2).trans (s3.trans s5)) r5 fun i hi => ((e5 i hi).trans (e4 i hi)).trans (e2 i hi)
  | rt rv => exact fun v G5 H5 s5 r5 => k _ q _ _ _ ((s1.trans s2).trans (s3.trans s5)) r5
 ·have e : i = ds.length := by omega
  subst e
  rw [List.drop_length] at m2
  exact .inl ⟨stop, k _ m2 _ _ _ (s1.trans s2) r2 e2⟩
theorem vs_append {K : PySem.W.Frag} {i : Nat} {t : TE} {m : ME} (h : VT P0 t m) : VSA P0 A (tDrop (tBM K "list" rAppend (tVar i) (tCons t tNil))) (mAppend i m) := by
 intro F Γ σ G H E Qm r hm k
 unfold mAppend at hm
 split at hm
 ·rename_i ds0 e0
  obtain ⟨p, vs, e1, e2, e3, e4, e5⟩ := r.sl i _ e0
  refine ⟨_, e1, .inl ⟨rfl, _, SqL.of e4⟩, ?_⟩
  refine h F Γ σ G H _ _ r hm fun d Γ1 x G1 H1 m1 s1 r1 d1 => ?_
  split at m1
  ·rename_i ds e
   obtain ⟨p', ws, f1, f2, f3, f4, f5⟩ := r1.sl i _ e
   rw [e1] at f1; cases f1
   refine ⟨p, ws, x, rfl, rfl, f4, small1000 (by rw [f5.len]; exact Nat.le_of_lt m1.1), ?_⟩
   exact k _ m1.2 _ _ _ s1 (r1.write e e1 (f5.app (.cons d1 .nil))) fun _ _ => rfl
  ·exact m1.elim
 ·exact hm.elim
theorem R.pub1 {F : Fra P0} {Γ : En} {σ : St} {G H : Hp} (r : R F Γ σ G H) {i : Nat} {ds : List D} (e : Γ[i]? = some (.own ds)) : ∃ G', Same G G' ∧ R F (Γ.set i (.val (.list ds))) σ G' H := by
 obtain ⟨p, vs, e1, e2, e3, e4, e5⟩ := r.sl i _ e
 have hap : Apart F (Γ.set i .no) σ G H (.ref p) (.own ds) := fun j s fp ej hj q eq hq => by
  cases eq
  by_cases hji : i = j
  ·subst hji
   have hi : i < Γ.length := (List.getElem?_eq_some_iff.mp e).1
   rw [List.getElem?_set_self hi] at ej
   cases ej
   rw [show fp = [] from hj] at hq; cases hq
  ·rw [List.getElem?_set_ne hji] at ej
   exact r.apart hji e ej (fp := [p]) ⟨p, vs, rfl, e1, e2, e3, e4, e5⟩ hj p (List.mem_singleton.mpr rfl) hq
 obtain ⟨G', s, r', d'⟩ := (r.drop i).give (ds := ds) ⟨p, vs, rfl, e2, e3, e4, e5⟩ hap
 refine ⟨G', s, ?_⟩
 have q := r'.setV (i := i) d'
 rw [List.set_set] at q
 have hs : σ.set i (some (.ref p)) = σ := by
  apply List.ext_getElem?
  intro j
  by_cases hj : i = j
  ·subst hj
   have hi : i < σ.length := (List.getElem?_eq_some_iff.mp e1).1
   rw [List.getElem?_set_self hi, e1]
  ·rw [List.getElem?_set_ne hj]
 rw [hs] at q
 exact q
theorem vs_pub {i : Nat} {t : TS} {m : MS} (h : VSA P0 A t m) : VSA P0 A t (mPubS i m) := by
 intro F Γ σ G H E Qm r hm k
 unfold mPubS at hm
 split at hm
 ·rename_i ds e
  obtain ⟨G', s, r'⟩ := r.pub1 e
  exact h F _ σ G' H E Qm r' hm fun fl q => (k fl q).same s fun _ _ => rfl
 ·exact h F Γ σ G H E Qm r hm k
noncomputable def mFn (n : Nat) (b : MS) : Fm := fun as Q => b (as ++ List.replicate n .no) fun fl => match fl with
 | .rt rv => Q rv
 | .nx _ => Q (.val .none)
 | _ => False
theorem fn_start {n k : Nat} {N : List Str} {t : TS} {b : MS} (h : VS P0 t b) (hN : N.length = n + k) {vs : List V} {H : Hp} {Q : VK} {E : XK} (hs : spM P0 n (mFn k b) vs H Q E) :
  t { nx := fun _ H' => Q .non H', rt := Q } (start N vs) H := by
 obtain ⟨F, as, Qm, rfl, rf, pr, hl, hm, q⟩ := hs
 have hlen : vs.length = as.length := Paired.length pr
 have get : ∀ {vs : List V} {as : List Sl} {i : Nat} {s : Sl}, Paired (ArgOk F F.G0) vs as → as[i]? = some s → ∃ v, vs[i]? = some v ∧ ArgOk F F.G0 v s := by
  intro vs as i s pr
  induction pr generalizing i with
  | nil => intro e; simp at e
  | cons a b ih =>
   cases i with
   | zero => intro e; simp at e; subst e; exact ⟨_, rfl, a⟩
   | succ i => intro e; simpa using ih (i := i) (by simpa using e)
 have at_ : ∀ {i : Nat} {s : Sl}, (as ++ List.replicate k Sl.no)[i]? = some s → s ≠ .no → ∃ v, (start N vs)[i]? = some (some v) ∧ ArgOk F F.G0 v s := by
  intro i s e hne
  by_cases hi : i < as.length
  ·rw [List.getElem?_append_left hi] at e
   obtain ⟨v, ev, av⟩ := get pr e
   refine ⟨v, ?_, av⟩
   unfold start
   rw [List.getElem?_append_left (by rw [List.length_map]; omega), List.getElem?_map, ev]
   rfl
  ·rw [List.getElem?_append_right (by omega), List.getElem?_replicate] at e
   split at e
   ·cases e; exact absurd rfl hne
   ·cases e
 have r : R F (as ++ List.replicate k .no) (start N vs) F.G0 F.H0 := by
  refine R.of rf ?_ (fun i s e => ?_) (fun i B e => ?_) (fun i j x y _ e _ => ?_)
  ·unfold start
   simp only [List.length_append, List.length_replicate, List.length_map]
   omega
  ·cases s with
   | no => trivial
   | val d =>
    obtain ⟨v, ev, av⟩ := at_ e (by intro z; cases z)
    exact ⟨v, ev, av⟩
   | own ds =>
    obtain ⟨v, ev, av⟩ := at_ e (by intro z; cases z)
    exact av.elim
   | pen =>
    obtain ⟨v, ev, p, rfl, ep⟩ := at_ e (by intro z; cases z)
    exact ⟨p, ev, ep⟩
   | con q =>
    obtain ⟨v, ev, av⟩ := at_ e (by intro z; cases z)
    have av : v = .ref q := av
    rw [av] at ev
    exact ev
   | pub B =>
    obtain ⟨v, ev, av⟩ := at_ e (by intro z; cases z)
    exact av.elim
   | box B =>
    obtain ⟨v, ev, av⟩ := at_ e (by intro z; cases z)
    exact av.elim
  ·obtain ⟨v, ev, av⟩ := at_ e (by intro z; cases z)
   exact av.elim
  ·obtain ⟨v, ev, av⟩ := at_ e (by intro z; cases z)
   exact av.elim
 refine h F _ _ _ _ _ _ r hm fun fl hq => ?_
 cases fl with
 | nx Γ => exact fun σ G' H' _ r' _ => q _ _ _ _ hq r'.fr .non
 | rt rv => exact fun v G' H' _ f' v' => q _ _ _ _ hq f' v'
 | bk Γ => exact hq.elim
 | ct Γ => exact hq.elim
theorem spM_len {n : Nat} {f : Fm} {ps : List Str} (h : ps.length = n) : ∀ vs H Q E, spM P0 n f vs H Q E → vs.length = ps.length := by
 rintro vs H Q E ⟨F, as, Qm, _, _, pr, hl, _⟩
 rw [Paired.length pr, hl, h]
theorem _root_.L2.Fun.okV {P : Program} {w : World} {K : PySem.W.Frag} {mg : Str → Option Value} {base : Heap} {x qual : Str} {st : Stmt} {f : Addr} {fd : FuncData} {N ps : List Str} {k n j : Nat} {b : MS}
  (F : Fun K x qual st f fd) (S : FnScope N ps (defScope st)) (hn : ps.length = n) (hN : N.length = n + j)
  (hbody : ∀ (cdv : Value) (A : Around) (outer : List Env) (s : Shared) (H : Hp) (E : XK), Room k (A.deeper (envOfC qual (defScope st) s.heap.objs.size f cdv)) →
   SsX P0 (cxOf CX0 P w K mg base N qual (defScope st) f cdv A outer s H E).nox (defBody st) b) : FnOk P w K mg base CX0 (k + 1) f fd ps (spM P0 n (mFn j b)) := by
 refine F.ok S (spM_len hn) fun cdv A outer s H vs Q E hr hs => ?_
 obtain ⟨t, h1, h2⟩ := hbody cdv A outer s H E hr
 exact ⟨t, h1, fn_start h2 hN hs⟩
end L2.VS
namespace L2.VS
open PySem PySem.Spec PyProof.Rows
variable {P0 : Addr → Hp → Prop}
noncomputable def kindD : D → String
 | .none => "NoneType"
 | .bool _ => "bool"
 | .int _ => "int"
 | .str _ => "str"
 | .list _ => "list"
 | .tuple _ => "tuple"
 | .dict _ => "dict"
noncomputable def subT (a b : String) : Bool := a == b || (a == "bool" && b == "int")
noncomputable def tyL : List String := ["NoneType", "bool", "int", "str", "list", "tuple", "dict"]
noncomputable def Kit (K : PySem.W.Frag) : Prop := ∀ a ∈ tyL, ∀ b ∈ tyL, PySem.W.kitOne K (.type a) (.type b) = some (subT a b)
theorem Kit.mk' {K : PySem.W.Frag} (h : ∀ a ∈ tyL, ∀ b ∈ tyL, (a == b) = false → PySem.W.kitOne K (.type a) (.type b) = some (a == "bool" && b == "int")) : Kit K := by
 intro a ha b hb
 by_cases e : a = b
 ·subst e
  rw [kit_same]
  simp [subT]
 ·have e' : (a == b) = false := by simpa using e
  rw [h a ha b hb e']
  simp [subT, e']
theorem tyOf_of {K : PySem.W.Frag} {H : Hp} {x : V} {d : D} (h : Dt H x d) : TyOf K H x (.type (kindD d)) ∧ kindD d ∈ tyL := by
 cases h with
 | non => exact ⟨.non, by simp [kindD, tyL]⟩
 | bl b => exact ⟨.bl b, by simp [kindD, tyL]⟩
 | int i => exact ⟨.int i, by simp [kindD, tyL]⟩
 | str x => exact ⟨.str x, by simp [kindD, tyL]⟩
 | tup hp _ => exact ⟨.tup hp, by simp [kindD, tyL]⟩
 | lst hp _ => exact ⟨.lst hp, by simp [kindD, tyL]⟩
 | dic hp _ => exact ⟨.dK hp, by simp [kindD, tyL]⟩
noncomputable def mIsi (n : String) (ma : ME) : ME := fun Γ Q => ma Γ fun x Γ1 => Q (.bool (subT (kindD x) n)) Γ1
theorem vt_isi {K : PySem.W.Frag} {n : String} {ta : TE} {ma : ME} (hk : Kit K) (hn : n ∈ tyL) (ha : VT P0 ta ma) : VT P0 (tCB (rIsi K) (tCons ta (tCons (tC (.ty n)) tNil))) (mIsi n ma) := by
 intro F Γ σ G H Q Qm r m k
 refine ha F Γ σ G H _ _ r m fun d Γ1 x G1 H1 m1 s1 r1 d1 => ?_
 obtain ⟨h1, h2⟩ := tyOf_of (K := K) (Dt.same r1.fr.sub _ _ d1)
 exact ⟨x, .ty n, .type n, _, _, rfl, rfl, h1, hk _ h2 _ hn, k _ _ _ _ _ m1 s1 r1 (.bl _)⟩
section
variable {X : Cx}
structure Goods (ds : List D) : Prop where
 lay : PyData.canLayAll0 ds = true
 dep : PyData.depthAll ds ≤ 59
noncomputable def mIn (neg : Bool) (ma mb : ME) : ME := fun Γ Q => ma Γ fun x Γ1 => mb Γ1 fun y Γ2 => match itemsD y with
 | some ds => Good x ∧ Goods ds ∧ Q (.bool (if neg then !(ds.any fun e => PyData.eqv e x) else ds.any fun e => PyData.eqv e x)) Γ2
 | none => False
end
noncomputable def SameU (H H' : Hp) : Prop := ∀ b xs, H b = some (.tup xs) → H' b = some (.tup xs) ∨ ∃ q vs, V.ref q ∈ xs ∧ H q = some (.lst vs)
theorem no_ref {H : Hp} {q : Addr} {vs : List V} (hq : H q = some (.lst vs)) : ∀ (ds : List D) (xs : List V), noLsts ds = true → Dts H xs ds → V.ref q ∉ xs
 | [], xs, _, e, h => by cases e; cases h
 | d :: ds, xs, z, e, h => by
  have z' : noLst d = true ∧ noLsts ds = true := by simpa [noLsts] using z
  cases e with
  | cons e1 e2 =>
   rcases List.mem_cons.mp h with e | e
   ·subst e
    cases e1 with
    | tup hp _ => rw [hq] at hp; cases hp
    | lst hp _ => exact absurd z'.1 (by simp [noLst])
    | dic hp _ => exact absurd z'.1 (by simp [noLst])
   ·exact no_ref hq ds _ z'.2 e2 e
mutual
theorem Dt.sameU {H H' : Hp} (g : SameU H H') : ∀ (d : PyData) (x : V), noLst d = true → Dt H x d → Dt H' x d
 | .none, _, _, e => by cases e; exact .non
 | .bool _, _, _, e => by cases e; exact .bl _
 | .int _, _, _, e => by cases e; exact .int _
 | .str _, _, _, e => by cases e; exact .str _
 | .list _, _, z, _ => absurd z (by simp [noLst])
 | .tuple ds, _, z, e => by
  have z' : noLsts ds = true := by simpa [noLst] using z
  cases e with
  | tup hp rs =>
   rcases g _ _ hp with h | ⟨q, vs, h1, h2⟩
   ·exact .tup h (Dts.sameU g ds _ z' rs)
   ·exact absurd h1 (no_ref h2 ds _ z' rs)
 | .dict _, _, z, _ => absurd z (by simp [noLst])
theorem Dts.sameU {H H' : Hp} (g : SameU H H') : ∀ (ds : List PyData) (xs : List V), noLsts ds = true → Dts H xs ds → Dts H' xs ds
 | [], _, _, e => by cases e; exact .nil
 | d :: ds, _, z, e => by
  have z' : noLst d = true ∧ noLsts ds = true := by simpa [noLsts] using z
  cases e with
  | cons e1 e2 => exact .cons (Dt.sameU g d _ z'.1 e1) (Dts.sameU g ds _ z'.2 e2)
end
noncomputable def pubA : En → En := List.map fun s => match s with
 | .own ds => .val (.list ds)
 | .box B => match B.view with
  | some d => .val d
  | none => match B.pv with
   | some b => .pub b
   | none => .no
 | s => s
noncomputable def mPeek (m : ME) : ME := fun Γ Q => m (pubA Γ) fun d Γ1 => noLst d = true ∧ Γ1 = pubA Γ ∧ Q d Γ
noncomputable def mPeekT (m : MT) : MT := fun Γ Q => m (pubA Γ) fun b Γ1 => Γ1 = pubA Γ ∧ Q b Γ
noncomputable def mPeekO (m : MO) : MO := fun Γ Q => m (pubA Γ) fun rv Γ1 => noLsts (match rv with | .val d => [d] | .own ds => ds | .box _ => [.list []]) = true ∧ Γ1 = pubA Γ ∧ Q rv Γ
noncomputable def OwnA (F : Fra P0) (Γ : En) (σ : St) (G H : Hp) (b : Addr) : Prop := ∃ (i : Nat) (s : Sl) (fp : List Addr), Γ[i]? = some s ∧ SlF F G H σ[i]? fp s ∧ b ∈ fp
section
variable {F : Fra P0} {Γ : En} {σ : St} {G H : Hp}
open Classical in
noncomputable def gPub (F : Fra P0) (Γ : En) (σ : St) (G H : Hp) : Hp := fun b => if OwnA F Γ σ G H b then H b else G b
noncomputable def gBack (F : Fra P0) (Γ : En) (σ : St) (G H : Hp) (G1 : Hp) : Hp := fun b => open Classical in if OwnA F Γ σ G H b then none else G1 b
theorem OwnA.at {b : Addr} (h : OwnA F Γ σ G H b) : F.H0 b = none ∧ G b = none ∧ ∃ o, H b = some o := by
 obtain ⟨i, s, fp, _, e, hb⟩ := h
 exact e.mine hb
theorem OwnA.tup {b : Addr} (h : OwnA F Γ σ G H b) {xs : List V} (e : H b = some (.tup xs)) : ∃ q vs, V.ref q ∈ xs ∧ OwnA F Γ σ G H q ∧ H q = some (.lst vs) := by
 obtain ⟨i, s, fp, e0, e1, hb⟩ := h
 cases s with
 | no => rw [show fp = [] from e1] at hb; cases hb
 | val d => rw [e1.1] at hb; cases hb
 | pen => rw [e1.1] at hb; cases hb
 | con q => rw [e1.1] at hb; cases hb
 | pub B => rw [e1.1] at hb; cases hb
 | own ds =>
  obtain ⟨p, vs, f0, _, _, _, f3, _⟩ := e1
  rw [f0] at hb
  rw [List.mem_singleton.mp hb, f3] at e
  cases e
 | box B =>
  have e1' := e1
  obtain ⟨v, _, h2, _⟩ := e1
  obtain ⟨q, q1, q2, vs, q3⟩ := B.nt h2 b hb xs e
  exact ⟨q, vs, q2, ⟨i, _, fp, e0, e1', q1⟩, q3⟩
theorem R.pubAll (r : R F Γ σ G H) : Same G (gPub F Γ σ G H) ∧ R F (pubA Γ) σ (gPub F Γ σ G H) H := by
 have g : Same G (gPub F Γ σ G H) := fun b o e => by
  unfold gPub
  by_cases h : OwnA F Γ σ G H b
  ·have := h.at.2.1
   rw [e] at this; cases this
  ·rw [if_neg h]; exact e
 have nob : ∀ (i : Nat) s, (pubA Γ)[i]? = some s → (∀ x, s ≠ .own x) ∧ ∀ B, s ≠ .box B := by
  intro i s e
  unfold pubA at e
  rw [List.getElem?_map] at e
  cases e0 : Γ[i]? with
  | none => rw [e0] at e; cases e
  | some s0 =>
   rw [e0] at e
   cases s0 with
   | box B =>
    have e : (match B.view with | some d => Sl.val d | none => match B.pv with | some b => Sl.pub b | none => Sl.no) = s := Option.some.inj e
    cases hv : B.view with
    | none =>
     cases hw : B.pv with
     | none => rw [hv, hw] at e; subst e; exact ⟨fun x z => (nomatch z), fun x z => (nomatch z)⟩
     | some b => rw [hv, hw] at e; subst e; exact ⟨fun x z => (nomatch z), fun x z => (nomatch z)⟩
    | some d => rw [hv] at e; subst e; exact ⟨fun x z => (nomatch z), fun x z => (nomatch z)⟩
   | _ => cases e; exact ⟨fun x z => (nomatch z), fun x z => (nomatch z)⟩
 refine ⟨g, R.of ⟨fun b o e => ?_, fun b o e => ?_, r.fr.h0, r.fr.pn⟩ ?_ (fun i s e => ?_) (fun i B e => (nob i _ e).2 B rfl) (fun i j x y _ e => ((nob i _ e).1 x rfl).elim)⟩
 ·unfold gPub at e
  split at e
  ·exact e
  ·exact r.fr.sub b o e
 ·have h : ¬ OwnA F Γ σ G H b := fun h => by
   have := h.at.1
   rw [e] at this; cases this
  unfold gPub
  rw [if_neg h]
  exact r.fr.g0 b o e
 ·unfold pubA
  rw [List.length_map]
  exact r.len
 ·unfold pubA at e
  rw [List.getElem?_map] at e
  cases e0 : Γ[i]? with
  | none => rw [e0] at e; cases e
  | some s0 =>
   rw [e0] at e
   have h := r.sl i s0 e0
   cases s0 with
   | no => cases e; trivial
   | val d => cases e; obtain ⟨v, e1, d1⟩ := h; exact ⟨v, e1, Dt.same g _ _ d1⟩
   | own ds =>
    cases e
    obtain ⟨p, vs, e1, e2, e3, e4, e5⟩ := h
    refine ⟨_, e1, .lst ?_ (Dts.same g _ _ e5)⟩
    unfold gPub
    rw [if_pos ⟨i, _, [p], e0, ⟨p, vs, rfl, e1, e2, e3, e4, e5⟩, List.mem_singleton.mpr rfl⟩]
    exact e4
   | pen => cases e; exact h
   | con q => cases e; exact h
   | pub B => cases e; obtain ⟨v, e1, e2⟩ := h; exact ⟨v, e1, B.mono g e2⟩
   | box B =>
    have e : (match B.view with | some d => Sl.val d | none => match B.pv with | some b => Sl.pub b | none => Sl.no) = s := Option.some.inj e
    obtain ⟨v, fp, e1, e2, e3⟩ := h
    cases hv : B.view with
    | none =>
     cases hw : B.pv with
     | none => rw [hv, hw] at e; subst e; trivial
     | some b0 =>
      rw [hv, hw] at e
      subst e
      refine ⟨v, e1, B.pok e2 hw g fun b hb => ?_⟩
      unfold gPub
      rw [if_pos ⟨i, _, fp, e0, ⟨v, e1, e2, e3⟩, hb⟩]
    | some d =>
     rw [hv] at e
     subst e
     refine ⟨v, e1, B.vok e2 hv g fun b hb => ?_⟩
     unfold gPub
     rw [if_pos ⟨i, _, fp, e0, ⟨v, e1, e2, e3⟩, hb⟩]
theorem R.backG (r : R F Γ σ G H) {G1 H1 : Hp} (s : Same (gPub F Γ σ G H) G1) (f1 : Rf F G1 H1) :
  (∀ b, OwnA F Γ σ G H b → G1 b = H b ∧ H1 b = H b) ∧ Same G (gBack F Γ σ G H G1) ∧ Rf F (gBack F Γ σ G H G1) H1 ∧ SameU G1 (gBack F Γ σ G H G1) := by
 have s0 := (r.pubAll).1
 have own : ∀ b, OwnA F Γ σ G H b → G1 b = H b ∧ H1 b = H b := fun b h => by
  obtain ⟨_, _, o, e⟩ := h.at
  have q : gPub F Γ σ G H b = H b := by unfold gPub; rw [if_pos h]
  rw [e] at q ⊢
  exact ⟨s b _ q, f1.sub b _ (s b _ q)⟩
 have g : Same G (gBack F Γ σ G H G1) := fun b o e => by
  have h : ¬ OwnA F Γ σ G H b := fun h => by
   have := h.at.2.1
   rw [e] at this; cases this
  unfold gBack
  rw [if_neg h]
  exact s b o (s0 b o e)
 refine ⟨own, g, ⟨fun b o e => ?_, fun b o e => ?_, f1.h0, f1.pn⟩, fun b xs e => ?_⟩
 ·unfold gBack at e
  split at e
  ·cases e
  ·exact f1.sub b o e
 ·have h : ¬ OwnA F Γ σ G H b := fun h => by
   have := h.at.1
   rw [e] at this; cases this
  unfold gBack
  rw [if_neg h]
  exact f1.g0 b o e
 ·by_cases h : OwnA F Γ σ G H b
  ·have e' : H b = some (.tup xs) := by rw [← (own b h).1]; exact e
   obtain ⟨q, vs, q1, q2, q3⟩ := h.tup e'
   exact .inr ⟨q, vs, q1, by rw [(own q q2).1]; exact q3⟩
  ·refine .inl ?_
   unfold gBack
   rw [if_neg h]
   exact e
theorem gBack_own {G1 : Hp} {b : Addr} (h : OwnA F Γ σ G H b) : gBack F Γ σ G H G1 b = none := by
 unfold gBack
 rw [if_pos h]
theorem R.back (r : R F Γ σ G H) {G' H' : Hp} (s : Same (gPub F Γ σ G H) G') (r' : R F (pubA Γ) σ G' H') : Same G (gBack F Γ σ G H G') ∧ R F Γ σ (gBack F Γ σ G H G') H' ∧ SameU G' (gBack F Γ σ G H G') := by
 obtain ⟨own, g, f, t⟩ := r.backG s r'.fr
 obtain ⟨fps, h1, h2⟩ := r.fps
 refine ⟨g, ⟨f, r.len, fps, fun i sl e => (h1 i sl e).go g fun b hb => ?_, h2⟩, t⟩
 have ho : OwnA F Γ σ G H b := ⟨i, sl, fps i, e, h1 i sl e, hb⟩
 exact ⟨gBack_own ho, (own b ho).2⟩
end
theorem vtt_peek {t : TT} {m : MT} (h : VTT P0 t m) : VTT P0 t (mPeekT m) := by
 intro F Γ σ G H Q Qm r hm k
 obtain ⟨s0, r0⟩ := r.pubAll
 refine h F _ σ _ H _ _ r0 hm fun b Γ1 G1 H1 m1 s1 r1 => ?_
 obtain ⟨rfl, q⟩ := m1
 obtain ⟨s2, r2, t2⟩ := r.back s1 r1
 exact k _ _ _ _ q s2 r2
theorem vo_peek {t : TE} {m : MO} (h : VO P0 t m) : VO P0 t (mPeekO m) := by
 intro F Γ σ G H Q Qm r hm k
 obtain ⟨s0, r0⟩ := r.pubAll
 refine h F _ σ _ H _ _ r0 hm fun rv Γ1 x G1 H1 m1 s1 r1 d1 a1 => ?_
 obtain ⟨hd, rfl, q⟩ := m1
 obtain ⟨s2, r2, t2⟩ := r.back s1 r1
 cases rv with
 | val d =>
  have hd' : noLst d = true := by simpa [noLsts] using hd
  exact k _ _ _ _ _ q s2 r2 (Dt.sameU t2 _ _ hd' d1) trivial
 | box B => exact absurd hd (by simp [noLsts, noLst])
 | own ds =>
  obtain ⟨p, vs, rfl, e1, e2, e3, e4⟩ := d1
  refine k _ _ _ _ _ q s2 r2 ⟨p, vs, rfl, e1, ?_, e3, Dts.sameU t2 _ _ hd e4⟩ fun i s fp ei hf q' eq hq => ?_
  ·unfold gBack
   split
   ·rfl
   ·exact e2
  ·cases eq
   obtain ⟨fps, f1, f2⟩ := r.fps
   have h0 := f1 i s ei
   have own := (r.backG s1 r1.fr).1
   have h3 : SlF F (gBack F Γ σ G H G1) H1 σ[i]? (fps i) s := h0.go s2 fun b hb => by
    have ho : OwnA F Γ σ G H b := ⟨i, s, fps i, ei, h0, hb⟩
    exact ⟨gBack_own ho, (own b ho).2⟩
   rw [hf.det h3] at hq
   have ho : OwnA F Γ σ G H p := ⟨i, s, fps i, ei, h0, hq⟩
   obtain ⟨_, _, o, e'⟩ := ho.at
   have := (own p ho).1
   rw [e2, e'] at this; cases this
section
variable {ta tb : TE} {ma mb : ME}
abbrev mAdd := mI0 fun i j => PyData.int (i + j)
abbrev mSub := mI0 fun i j => PyData.int (i - j)
abbrev mMul := mI IntMulOk fun i j => PyData.int (i * j)
abbrev mDivX := mI CDivX fun i j => PyData.int (i.fdiv j)
abbrev mMod := mI (fun _ j => 0 < j) fun i j => PyData.int (i % j)
abbrev mNeg := mU fun i => PyData.int (-i)
abbrev mLt := mI0 fun i j => PyData.bool (decide (i < j))
abbrev mLe := mI0 fun i j => PyData.bool (decide (i ≤ j))
abbrev mGt := mI0 fun i j => PyData.bool (decide (j < i))
abbrev mGe := mI0 fun i j => PyData.bool (decide (j ≤ i))
theorem vt_add (ha : VT P0 ta ma) (hb : VT P0 tb mb) : VT P0 (tOp (rI0 fun i j => .int (i + j)) ta tb) (mAdd ma mb) := vt_i0 (fun _ _ _ => .int _) ha hb
theorem vt_sub (ha : VT P0 ta ma) (hb : VT P0 tb mb) : VT P0 (tOp (rI0 fun i j => .int (i - j)) ta tb) (mSub ma mb) := vt_i0 (fun _ _ _ => .int _) ha hb
theorem vt_mul (ha : VT P0 ta ma) (hb : VT P0 tb mb) : VT P0 (tOp (rI IntMulOk fun i j => .int (i * j)) ta tb) (mMul ma mb) := vt_i (fun _ _ _ => .int _) ha hb
theorem vt_divX (ha : VT P0 ta ma) (hb : VT P0 tb mb) : VT P0 (tOp (rI CDivX fun i j => .int (i.fdiv j)) ta tb) (mDivX ma mb) := vt_i (fun _ _ _ => .int _) ha hb
theorem vt_mod (ha : VT P0 ta ma) (hb : VT P0 tb mb) : VT P0 (tOp (rI (fun _ j => 0 < j) fun i j => .int (i % j)) ta tb) (mMod ma mb) := vt_i (fun _ _ _ => .int _) ha hb
theorem vt_neg (ha : VT P0 ta ma) : VT P0 (tUn (rU fun i => .int (-i)) ta) (mNeg ma) := vt_u (fun _ _ => .int _) ha
theorem vt_lt (ha : VT P0 ta ma) (hb : VT P0 tb mb) : VT P0 (tOp (rI0 fun i j => .bl (decide (i < j))) ta tb) (mLt ma mb) := vt_i0 (fun _ _ _ => .bl _) ha hb
theorem vt_le (ha : VT P0 ta ma) (hb : VT P0 tb mb) : VT P0 (tOp (rI0 fun i j => .bl (decide (i ≤ j))) ta tb) (mLe ma mb) := vt_i0 (fun _ _ _ => .bl _) ha hb
theorem vt_gt (ha : VT P0 ta ma) (hb : VT P0 tb mb) : VT P0 (tOp (rI0 fun i j => .bl (decide (j < i))) ta tb) (mGt ma mb) := vt_i0 (fun _ _ _ => .bl _) ha hb
theorem vt_ge (ha : VT P0 ta ma) (hb : VT P0 tb mb) : VT P0 (tOp (rI0 fun i j => .bl (decide (j ≤ i))) ta tb) (mGe ma mb) := vt_i0 (fun _ _ _ => .bl _) ha hb
theorem vt_int {i : Int} : VT P0 (tC (.int i)) (mC (.int i)) := vt_c fun _ => .int i
theorem vt_bl {b : Bool} : VT P0 (tC (.bl b)) (mC (.bool b)) := vt_c fun _ => .bl b
theorem vt_str {s : Str} : VT P0 (tC (.str s)) (mC (.str s)) := vt_c fun _ => .str s
theorem vt_non : VT P0 (tC .non) (mC .none) := vt_c fun _ => .non
end
end L2.VS
namespace L2.VS
open PySem PySem.Spec PyProof.Rows
noncomputable def TrueEnd : Fl → Prop := fun fl => fl = .rt (.val (.bool true))
end L2.VS
namespace L2.VS
open PySem PySem.Spec PyProof.Rows LT
section
variable {Γ : En} {i j n : Nat} {d e x y : D} {ma mb : ME} {oa ob : MO} {ta tb : MT} {md : MD} {aa : MA} {sa sb : MS} {g : MG} {gs : MGs} {mp mq : MP}
theorem i_seq {Q : Fl → Prop} (h : sa Γ fun fl => match fl with | .nx Γ1 => sb Γ1 Q | fl => Q fl) : mSeq sa sb Γ Q := h
theorem i_nx {Q : Fl → Prop} (h : Q (.nx Γ)) : mNx Γ Q := h
theorem i_drop {Q : Fl → Prop} (h : ma Γ fun _ Γ1 => Q (.nx Γ1)) : mDrop ma Γ Q := h
theorem i_set {Q : Fl → Prop} (h : oa Γ fun rv Γ1 => Q (.nx (Γ1.set i rv.sl))) : mSet i oa Γ Q := h
theorem i_asg {Q : Fl → Prop} (h : ma Γ fun d Γ1 => g d Γ1 fun Γ2 => Q (.nx Γ2)) : mAsg ma g Γ Q := h
theorem i_par {Q : Fl → Prop} (h : md Γ fun ds Γ1 => match ds with | [d, e] => Q (.nx ((Γ1.set i (.val d)).set j (.val e))) | _ => False) : mPar i j md Γ Q := h
theorem i_ret {Q : Fl → Prop} (h : oa Γ fun rv _ => Q (.rt rv)) : mRet oa Γ Q := h
theorem i_retN {Q : Fl → Prop} (h : Q (.rt (.val .none))) : mRetN Γ Q := h
theorem i_if {Q : Fl → Prop} (h : ta Γ fun k Γ1 => if k = true then sa Γ1 Q else sb Γ1 Q) : mIf ta sa sb Γ Q := h
theorem i_for {Q : Fl → Prop} (h : md Γ fun ds Γ1 => forL g sa ds Γ1 Q) : mFor md g sa Γ Q := h
noncomputable def appK (i : Nat) (d : D) (Γ1 : En) (Q : Fl → Prop) : Prop := match Γ1[i]? with
 | some (.own ds) => ds.length < 1000 ∧ Q (.nx (Γ1.set i (.own (ds ++ [d]))))
 | _ => False
theorem i_append {Q : Fl → Prop} {ds : List D} (h0 : Γ[i]? = some (.own ds)) (h : ma Γ fun d Γ1 => appK i d Γ1 Q) : mAppend i ma Γ Q := by
 unfold mAppend
 rw [h0]
 exact h
theorem i_clear {Q : Fl → Prop} {ds : List D} (h0 : Γ[i]? = some (.own ds)) (h : Q (.nx (Γ.set i (.own [])))) : mClear i Γ Q := by
 unfold mClear
 rw [h0]
 exact h
theorem i_pubS {Q : Fl → Prop} {ds : List D} (h0 : Γ[i]? = some (.own ds)) (h : sa (Γ.set i (.val (.list ds))) Q) : mPubS i sa Γ Q := by
 unfold mPubS
 rw [h0]
 exact h
theorem i_pubS0 {Q : Fl → Prop} (h0 : Γ[i]? = some (.val d)) (h : sa Γ Q) : mPubS i sa Γ Q := by
 unfold mPubS
 rw [h0]
 exact h
theorem i_c {Q : D → En → Prop} (h : Q d Γ) : mC d Γ Q := h
theorem i_var {Q : D → En → Prop} (h0 : Γ[i]? = some (.val d)) (h : Q d Γ) : mVar i Γ Q := by
 unfold mVar
 rw [h0]
 exact h
theorem i_I0 {f : Int → Int → D} {Q : D → En → Prop} (h : ma Γ fun x Γ1 => mb Γ1 fun y Γ2 => match x, y with | .int i, .int j => Q (f i j) Γ2 | _, _ => False) : mI0 f ma mb Γ Q := h
theorem i_I {C : Int → Int → Prop} {f : Int → Int → D} {Q : D → En → Prop} (h : ma Γ fun x Γ1 => mb Γ1 fun y Γ2 => match x, y with | .int i, .int j => C i j ∧ Q (f i j) Γ2 | _, _ => False) : mI C f ma mb Γ Q := h
theorem i_U {f : Int → D} {Q : D → En → Prop} (h : ma Γ fun x Γ1 => match x with | .int i => Q (f i) Γ1 | _ => False) : mU f ma Γ Q := h
theorem i_abs {Q : D → En → Prop} (h : ma Γ fun x Γ1 => match x with | .int i => Q (.int (if i < 0 then -i else i)) Γ1 | _ => False) : mAbs ma Γ Q := h
theorem i_int1 {Q : D → En → Prop} (h : ma Γ fun x Γ1 => match x with | .int i => Q (.int i) Γ1 | .bool b => Q (.int (if b then 1 else 0)) Γ1 | _ => False) : mInt1 ma Γ Q := h
theorem i_2I {f : Int → Int → Int} {Q : D → En → Prop} (h : ma Γ fun x Γ1 => mb Γ1 fun y Γ2 => match x, y with | .int i, .int j => Q (.int (f i j)) Γ2 | _, _ => False) : m2I f ma mb Γ Q := h
theorem i_eq {Q : D → En → Prop} (h : ma Γ fun x Γ1 => mb Γ1 fun y Γ2 => Good x ∧ Good y ∧ Q (.bool (PyData.eqv x y)) Γ2) : mEq ma mb Γ Q := h
theorem i_ne {Q : D → En → Prop} (h : ma Γ fun x Γ1 => mb Γ1 fun y Γ2 => Good x ∧ Good y ∧ Q (.bool (!PyData.eqv x y)) Γ2) : mNe ma mb Γ Q := h
theorem i_isN {Q : D → En → Prop} (h : ma Γ fun x Γ1 => Q (.bool (isN x)) Γ1) : mIsN ma Γ Q := h
theorem i_notN {Q : D → En → Prop} (h : ma Γ fun x Γ1 => Q (.bool (!isN x)) Γ1) : mNotN ma Γ Q := h
theorem i_andV {Q : D → En → Prop} (h : ma Γ fun x Γ1 => match x with | .bool c => if c = true then mb Γ1 Q else Q (.bool false) Γ1 | _ => False) : mAndV ma mb Γ Q := h
theorem i_orV {Q : D → En → Prop} (h : ma Γ fun x Γ1 => match x with | .bool c => if c = true then Q (.bool true) Γ1 else mb Γ1 Q | _ => False) : mOrV ma mb Γ Q := h
theorem i_notV {Q : D → En → Prop} (h : ma Γ fun x Γ1 => match x with | .bool c => Q (.bool (!c)) Γ1 | _ => False) : mNotV ma Γ Q := h
theorem i_tst {Q : Bool → En → Prop} (h : ma Γ fun x Γ1 => match x with | .bool c => Q c Γ1 | _ => False) : mTst ma Γ Q := h
theorem i_and {Q : Bool → En → Prop} (h : ta Γ fun c Γ1 => if c = true then tb Γ1 Q else Q false Γ1) : mAnd ta tb Γ Q := h
theorem i_or {Q : Bool → En → Prop} (h : ta Γ fun c Γ1 => if c = true then Q true Γ1 else tb Γ1 Q) : mOr ta tb Γ Q := h
theorem i_not {Q : Bool → En → Prop} (h : ta Γ fun c Γ1 => Q (!c) Γ1) : mNot ta Γ Q := h
theorem i_ifE {Q : D → En → Prop} (h : ta Γ fun c Γ1 => if c = true then ma Γ1 Q else mb Γ1 Q) : mIfE ta ma mb Γ Q := h
theorem i_ifO {Q : Rv → En → Prop} (h : ta Γ fun c Γ1 => if c = true then oa Γ1 Q else ob Γ1 Q) : mIfO ta oa ob Γ Q := h
theorem i_nil {Q : List D → En → Prop} (h : Q [] Γ) : mNil Γ Q := h
theorem i_cons {Q : List D → En → Prop} (h : ma Γ fun x Γ1 => md Γ1 fun xs Γ2 => Q (x :: xs) Γ2) : mCons ma md Γ Q := h
theorem i_anil {Q : List Sl → En → Prop} (h : Q [] Γ) : aNil Γ Q := h
theorem i_aval {Q : List Sl → En → Prop} (h : ma Γ fun x Γ1 => aa Γ1 fun xs Γ2 => Q (.val x :: xs) Γ2) : aVal ma aa Γ Q := h
theorem i_apen {Q : List Sl → En → Prop} (h0 : Γ[i]? = some .pen) (h : aa Γ fun xs Γ2 => Q (.pen :: xs) Γ2) : aPen i aa Γ Q := by
 unfold aPen
 rw [h0]
 exact h
theorem i_tup {Q : D → En → Prop} (h : md Γ fun ds Γ1 => ds.length ≤ 1000 ∧ Q (.tuple ds) Γ1) : mTup md Γ Q := h
theorem i_lst {Q : Rv → En → Prop} (h : md Γ fun ds Γ1 => ds.length ≤ 1000 ∧ Q (.own ds) Γ1) : mLst md Γ Q := h
theorem i_ix {Q : D → En → Prop} (h : ma Γ fun x Γ1 => mb Γ1 fun y Γ2 => oQ (ixD x y) fun d => Q d Γ2) : mIx ma mb Γ Q := h
theorem i_len {Q : D → En → Prop} (h : ma Γ fun x Γ1 => oQ (lenD x) fun d => Q d Γ1) : mLen ma Γ Q := h
theorem i_isi {s : String} {Q : D → En → Prop} (h : ma Γ fun x Γ1 => Q (.bool (subT (kindD x) s)) Γ1) : mIsi s ma Γ Q := h
theorem i_pub {Q : D → En → Prop} (h : oa Γ fun rv Γ1 => nbQ rv (Q rv.d Γ1)) : mPub oa Γ Q := h
theorem i_val {Q : Rv → En → Prop} (h : ma Γ fun d Γ1 => Q (.val d) Γ1) : mVal ma Γ Q := h
theorem i_move {Q : Rv → En → Prop} {ds : List D} (h0 : Γ[i]? = some (.own ds)) (h : Q (.own ds) (Γ.set i .no)) : mMove i Γ Q := by
 unfold mMove
 rw [h0]
 exact h
theorem i_moveV {Q : Rv → En → Prop} (h0 : Γ[i]? = some (.val d)) (h : Q (.val d) Γ) : mMove i Γ Q := by
 unfold mMove
 rw [h0]
 exact h
theorem i_call {f : Fm} {Q : Rv → En → Prop} (h : aa Γ fun as Γ1 => as.length = n ∧ f as fun rv => Q rv Γ1) : mCall n f aa Γ Q := h
theorem i_listOf {Q : Rv → En → Prop} (h : ma Γ fun x Γ1 => match itemsD x with | some ds => Q (.own ds) Γ1 | none => False) : mListOf ma Γ Q := h
theorem i_slL {Q : Rv → En → Prop} (h : ma Γ fun x Γ1 => mp Γ1 fun lo Γ2 => mq Γ2 fun hi Γ3 => match x with | .list ds => Q (.own (cutD ds lo hi)) Γ3 | _ => False) : mSlL ma mp mq Γ Q := h
theorem i_pNo {Q : Option Int → En → Prop} (h : Q none Γ) : pNo Γ Q := h
theorem i_pSo {Q : Option Int → En → Prop} (h : ma Γ fun x Γ1 => match x with | .int i => Q (some i) Γ1 | _ => False) : pSo ma Γ Q := h
theorem i_cat {Q : Rv → En → Prop} (h : ma Γ fun x Γ1 => mb Γ1 fun y Γ2 => match x, y with | .list ds, .list es => ds.length + es.length ≤ 1000 ∧ Q (.own (ds ++ es)) Γ2 | _, _ => False) : mCat ma mb Γ Q := h
theorem i_in {neg : Bool} {Q : D → En → Prop} (h : ma Γ fun x Γ1 => mb Γ1 fun y Γ2 => match itemsD y with | some ds => Good x ∧ Goods ds ∧ Q (.bool (if neg then !(ds.any fun e => PyData.eqv e x) else ds.any fun e => PyData.eqv e x)) Γ2 | none => False) : mIn neg ma mb Γ Q := h
theorem i_peek {Q : D → En → Prop} (h : ma (pubA Γ) fun d Γ1 => noLst d = true ∧ Γ1 = pubA Γ ∧ Q d Γ) : mPeek ma Γ Q := h
theorem i_peekT {Q : Bool → En → Prop} (h : ta (pubA Γ) fun b Γ1 => Γ1 = pubA Γ ∧ Q b Γ) : mPeekT ta Γ Q := h
theorem i_peekO {Q : Rv → En → Prop} (h : oa (pubA Γ) fun rv Γ1 => noLsts (match rv with | .val d => [d] | .own ds => ds | .box _ => [.list []]) = true ∧ Γ1 = pubA Γ ∧ Q rv Γ) : mPeekO oa Γ Q := h
theorem i_itL {Q : List D → En → Prop} (h : ma Γ fun x Γ1 => match x with | .list ds => Q ds Γ1 | _ => False) : mItL ma Γ Q := h
theorem i_itT {Q : List D → En → Prop} (h : ma Γ fun x Γ1 => match x with | .tuple ds => Q ds Γ1 | _ => False) : mItT ma Γ Q := h
theorem i_rng1 {Q : List D → En → Prop} (h : md Γ fun ds Γ1 => match ds with | [.int j] => -(2 ^ 62) ≤ j ∧ j < 2 ^ 62 ∧ Q (rangeD 0 j.toNat) Γ1 | _ => False) : mRng1 md Γ Q := h
theorem i_rng2 {Q : List D → En → Prop} (h : md Γ fun ds Γ1 => match ds with | [.int i, .int j] => (-(2 ^ 62) ≤ i ∧ i < 2 ^ 62 ∧ -(2 ^ 62) ≤ j ∧ j < 2 ^ 62) ∧ Q (rangeD i (j - i).toNat) Γ1 | _ => False) : mRng2 md Γ Q := h
theorem i_gN {Q : En → Prop} (h : Q (Γ.set i (.val d))) : gN i d Γ Q := h
theorem i_gT {Q : En → Prop} {ds : List D} (hl : ds.length = n) (h : gs ds Γ Q) : gT n gs (.tuple ds) Γ Q := ⟨hl, h⟩
theorem i_gsNil {Q : En → Prop} (h : Q Γ) : gsNil [] Γ Q := h
theorem i_gsCons {Q : En → Prop} {ds : List D} (h : g d Γ fun Γ1 => gs ds Γ1 Q) : gsCons g gs (d :: ds) Γ Q := h
theorem i_fn {k : Nat} {as : List Sl} {Q : Rv → Prop} (h : sa (as ++ List.replicate k .no) fun fl => match fl with | .rt rv => Q rv | .nx _ => Q (.val .none) | _ => False) : mFn k sa as Q := h
theorem i_oQ {o : Option D} {k : D → Prop} (h0 : o = some d) (h : k d) : oQ o k := by rw [h0]; exact h
structure KOk (I : En → Prop) (Q K : Fl → Prop) : Prop where
 nx : ∀ Γ, I Γ → K (.nx Γ)
 ct : ∀ Γ, I Γ → K (.ct Γ)
 bk : ∀ Γ, Q (.nx Γ) → K (.bk Γ)
 rt : ∀ rv, Q (.rt rv) → K (.rt rv)
theorem for_inv {ds : List D} {Q : Fl → Prop} (I : Nat → En → Prop) (h0 : I 0 Γ) (hs : ∀ i d Γ K, ds[i]? = some d → I i Γ → KOk (I (i + 1)) Q K → g d Γ fun Γ1 => sa Γ1 K) (he : ∀ Γ, I ds.length Γ → Q (.nx Γ)) : forL g sa ds Γ Q := by
 have aux : ∀ (es : List D) (k : Nat) (Γ : En), (∀ i d, es[i]? = some d → ds[k + i]? = some d) → k + es.length = ds.length → I k Γ → forL g sa es Γ Q := by
  intro es
  induction es with
  | nil => intro k Γ _ hl hi; exact he Γ (by rw [← hl]; simpa using hi)
  | cons d es ih =>
   intro k Γ hd hl hi
   have next : ∀ Γ2, I (k + 1) Γ2 → forL g sa es Γ2 Q := fun Γ2 h3 => ih (k + 1) Γ2 (fun i e he' => by
    have := hd (i + 1) e (by simpa using he')
    rw [show k + 1 + i = k + (i + 1) by omega]; exact this) (by rw [← hl, List.length_cons]; omega) h3
   exact hs k d Γ _ (by simpa using hd 0 d rfl) hi ⟨next, next, fun _ h => h, fun _ h => h⟩
 exact aux ds 0 Γ (fun i d h => by simpa using h) (by simp) h0
theorem range_inv {lo : Int} {n : Nat} {Q : Fl → Prop} (I : Nat → En → Prop) (h0 : I 0 Γ) (hs : ∀ i Γ K, i < n → I i Γ → KOk (I (i + 1)) Q K → g (.int (lo + i)) Γ fun Γ1 => sa Γ1 K) (he : ∀ Γ, I n Γ → Q (.nx Γ)) : forL g sa (rangeD lo n) Γ Q := by
 have hl : (rangeD lo n).length = n := by simp [rangeD]
 refine for_inv I h0 (fun i d Γ K e hi hk => ?_) (by rw [hl]; exact he)
 have hi' : i < n := by have := (List.getElem?_eq_some_iff.mp e).1; omega
 unfold rangeD at e
 rw [List.getElem?_map, List.getElem?_range hi'] at e
 cases e
 exact hs i Γ K hi' hi hk
theorem while_inv {Q : Fl → Prop} (I : Nat → En → Prop) (m0 : Nat) (h0 : I m0 Γ) (hs : ∀ m Γ, I m Γ → ta Γ fun k Γ1 => if k = true then sa Γ1 fun fl => match fl with
  | .nx Γ2 => ∃ n', n' < m ∧ I n' Γ2
  | .ct Γ2 => ∃ n', n' < m ∧ I n' Γ2
  | .bk Γ2 => Q (.nx Γ2)
  | .rt rv => Q (.rt rv)
 else Q (.nx Γ1)) : mWhile ta sa Γ Q := ⟨I, ⟨m0, h0⟩, hs⟩
end
theorem iteNT {A B : Prop} (h : B) : if (!true) = true then A else B := iteF h
theorem iteNF {A B : Prop} (h : A) : if (!false) = true then A else B := iteT h
theorem good_int (i : Int) : Good (.int i) := ⟨rfl, by show 0 ≤ 60; decide⟩
theorem good_bool (b : Bool) : Good (.bool b) := ⟨rfl, by show 0 ≤ 60; decide⟩
theorem eqv_int (i j : Int) : PyData.eqv (.int i) (.int j) = decide (i = j) := by
 show (i == j) = _
 exact Bool.beq_eq_decide_eq i j
theorem eqv_bool (i j : Bool) : PyData.eqv (.bool i) (.bool j) = decide (i = j) := by
 show (i == j) = _
 exact Bool.beq_eq_decide_eq i j
section
variable {P : D → Prop} {Γ : En} {Q : D → En → Prop}
end
noncomputable def Gd (n : Nat) (d : D) : Prop := d.canLay0 = true ∧ d.depth ≤ n
theorem Gd.good {n : Nat} {d : D} (h : Gd n d) (hn : n ≤ 60 := by decide) : Good d := ⟨h.1, Nat.le_trans h.2 hn⟩
theorem Gd.mono {n m : Nat} {d : D} (h : Gd n d) (hn : n ≤ m := by decide) : Gd m d := ⟨h.1, Nat.le_trans h.2 hn⟩
theorem gds {n : Nat} : ∀ {ds : List D}, (∀ d ∈ ds, Gd n d) → PyData.canLayAll0 ds = true ∧ PyData.depthAll ds ≤ n
 | [], _ => ⟨rfl, Nat.zero_le _⟩
 | d :: ds, h => by
  have h1 := h d List.mem_cons_self
  have h2 := gds (ds := ds) fun e he => h e (List.mem_cons_of_mem _ he)
  refine ⟨by show (d.canLay0 && PyData.canLayAll0 ds) = true; rw [h1.1, h2.1]; rfl, ?_⟩
  show max d.depth (PyData.depthAll ds) ≤ n
  exact Nat.max_le.mpr ⟨h1.2, h2.2⟩
theorem gd_tup {n : Nat} {ds : List D} (h : ∀ d ∈ ds, Gd n d) : Gd (n + 1) (.tuple ds) := ⟨(gds h).1, Nat.succ_le_succ (gds h).2⟩
theorem gd_lst {n : Nat} {ds : List D} (h : ∀ d ∈ ds, Gd n d) : Gd (n + 1) (.list ds) := ⟨(gds h).1, Nat.succ_le_succ (gds h).2⟩
theorem gd_goods {n : Nat} {ds : List D} (h : ∀ d ∈ ds, Gd n d) (hn : n ≤ 59 := by decide) : Goods ds := ⟨(gds h).1, Nat.le_trans (gds h).2 hn⟩
theorem gd_int (i : Int) : Gd 0 (.int i) := ⟨rfl, Nat.le_refl _⟩
theorem gd_bool (i : Bool) : Gd 0 (.bool i) := ⟨rfl, Nat.le_refl _⟩
theorem gd_str (s : Str) (h : (PyData.str s).canLay0 = true := by decide +kernel) : Gd 0 (.str s) := ⟨h, Nat.le_refl _⟩
theorem good_str (s : Str) (h : (PyData.str s).canLay0 = true := by decide +kernel) : Good (.str s) := (gd_str s h).good
theorem gd_num (q : Rat) : Gd 1 (dNum q) := gd_tup (n := 0) fun d h => by
 rcases List.mem_cons.mp h with rfl | h
 ·exact gd_int _
 ·rw [List.mem_singleton.mp h]; exact gd_int _
theorem eqv_self {d : D} (h : Good d) : PyData.eqv d d = true := SeqAt.eqv_refl d h.lay
theorem isT {d : D} {n : String} {A B : Prop} (h : subT (kindD d) n = true) (a : A) : if subT (kindD d) n = true then A else B := by rw [h]; exact iteT a
theorem isF {d : D} {n : String} {A B : Prop} (h : subT (kindD d) n = false) (b : B) : if subT (kindD d) n = true then A else B := by rw [h]; exact iteF b
theorem isNT {d : D} {n : String} {A B : Prop} (h : subT (kindD d) n = true) (b : B) : if (!subT (kindD d) n) = true then A else B := by rw [h]; exact iteF b
theorem isNF {d : D} {n : String} {A B : Prop} (h : subT (kindD d) n = false) (a : A) : if (!subT (kindD d) n) = true then A else B := by rw [h]; exact iteT a
theorem ix_num0 (q : Rat) : ixD (dNum q) (.int 0) = some (.int q.num) := rfl
theorem ix_num1 (q : Rat) : ixD (dNum q) (.int 1) = some (.int (q.den : Int)) := rfl
theorem ix_line0 (l : Rat × Rat) : ixD (dLine l) (.int 0) = some (dNum l.1) := rfl
theorem ix_line1 (l : Rat × Rat) : ixD (dLine l) (.int 1) = some (dNum l.2) := rfl
end L2.VS
namespace L2
open PySem PySem.Spec PyProof.Rows
noncomputable def clGo (env : Env) : List (Str × NameKind) → List (Str × Addr) → List (Str × Addr)
 | [], cs => cs
 | (n, k) :: r, cs => if (k == .free) = true then clGo env r ((n, (env.cells.lookup n).getD 0) :: cs) else clGo env r cs
theorem clos_go {env : Env} : ∀ (names : List (Str × NameKind)) (cs : List (Str × Addr)), (∀ y ∈ names, y.2 = .free → ∃ c, env.cells.lookup y.1 = some c) →
  (forIn names cs fun (x : Str × NameKind) (r : List (Str × Addr)) => (do
   if (x.2 == NameKind.free) = true then do
    let a ← cellOf env x.1
    pure (ForInStep.yield ((x.1, a) :: r))
   else pure (ForInStep.yield r) : Sem (ForInStep (List (Str × Addr))))) = pure (clGo env names cs)
 | [], cs, _ => rfl
 | (n, k) :: r, cs, h => by
  have ih := fun cs => clos_go (env := env) r cs fun y hy => h y (List.mem_cons_of_mem _ hy)
  rw [List.forIn_cons]
  unfold clGo
  by_cases hk : (k == NameKind.free) = true
  ·obtain ⟨c, hc⟩ := h (n, k) List.mem_cons_self (by simpa using hk)
   have hc' : env.cells.lookup n = some c := hc
   have e : cellOf env n = pure c := by unfold cellOf; rw [hc']
   simp only [hk, if_true, e, hc', Option.getD_some]
   simp only [pure_bind]
   exact ih _
  ·have hk' : (k == NameKind.free) = false := by simpa using hk
   simp only [hk', Bool.false_eq_true, if_false, pure_bind]
   exact ih _
theorem clos_of {scope : Scope} {env : Env} (h : ∀ y ∈ scope.names, y.2 = .free → ∃ c, env.cells.lookup y.1 = some c) : closureFor scope env = pure (clGo env scope.names []) := by
 have e := clos_go (env := env) scope.names [] h
 unfold closureFor
 rw [← e]
 simp only [bind_pure]
theorem clGo_sub {env : Env} : ∀ (names : List (Str × NameKind)) (cs : List (Str × Addr)), (∀ y ∈ names, y.2 = .free → ∃ c, env.cells.lookup y.1 = some c) → (∀ x c, cs.lookup x = some c → env.cells.lookup x = some c) →
  ∀ x c, (clGo env names cs).lookup x = some c → env.cells.lookup x = some c
 | [], cs, _, h => h
 | (n, k) :: r, cs, hf, h => by
  have ih := fun cs => clGo_sub (env := env) r cs fun y hy => hf y (List.mem_cons_of_mem _ hy)
  unfold clGo
  by_cases hk : (k == NameKind.free) = true
  ·rw [if_pos hk]
   obtain ⟨c0, hc⟩ := hf (n, k) List.mem_cons_self (by simpa using hk)
   have hc' : env.cells.lookup n = some c0 := hc
   refine ih _ fun x c e => ?_
   rw [List.lookup_cons] at e
   cases hx : x == n with
   | true =>
    rw [hx, hc'] at e
    have : x = n := by simpa using hx
    rw [this, hc']
    exact e
   | false => rw [hx] at e; exact h x c e
  ·rw [if_neg hk]
   exact ih _ h
theorem clGo_has {env : Env} : ∀ (names : List (Str × NameKind)) (cs : List (Str × Addr)) (x : Str), ((∃ k, (x, k) ∈ names ∧ k = .free) ∨ (cs.lookup x).isSome = true) → ((clGo env names cs).lookup x).isSome = true
 | [], cs, x, h => by
  rcases h with ⟨k, hm, _⟩ | h
  ·cases hm
  ·exact h
 | (n, k) :: r, cs, x, h => by
  unfold clGo
  by_cases hk : (k == NameKind.free) = true
  ·rw [if_pos hk]
   refine clGo_has r _ x ?_
   by_cases hx : x = n
   ·right
    rw [List.lookup_cons, hx]
    simp
   ·rcases h with ⟨k', hm, hf⟩ | h
    ·rcases List.mem_cons.mp hm with e | hm
     ·cases e; exact absurd rfl hx
     ·exact .inl ⟨k', hm, hf⟩
    ·right
     rw [List.lookup_cons]
     have : (x == n) = false := by simpa using hx
     rw [this]
     exact h
  ·rw [if_neg hk]
   refine clGo_has r _ x ?_
   rcases h with ⟨k', hm, hf⟩ | h
   ·rcases List.mem_cons.mp hm with e | hm
    ·cases e; subst hf; exact absurd rfl hk
    ·exact .inl ⟨k', hm, hf⟩
   ·exact .inr h
theorem relabel_back {env : Env} : ∀ {names : List (Str × NameKind)} {x : Str}, (∀ y ∈ names, y.2 ≠ .cell) →
    ((names.map fun (n, k) => if (k == NameKind.free && env.scope.kind == .function && env.kindOf n == some .cell) then (n, NameKind.cell) else (n, k)).lookup x = some .cell ∨
     (names.map fun (n, k) => if (k == NameKind.free && env.scope.kind == .function && env.kindOf n == some .cell) then (n, NameKind.cell) else (n, k)).lookup x = some .free) → (x, NameKind.free) ∈ names
  | [], _, _, h => by simp at h
  | (n, k) :: r, x, hc, h => by
    have ih := @relabel_back env r x (fun y hy => hc y (List.mem_cons_of_mem _ hy))
    have hk : k ≠ .cell := hc (n, k) List.mem_cons_self
    rw [List.map_cons] at h
    by_cases hf : (k == NameKind.free && env.scope.kind == .function && env.kindOf n == some .cell) = true
    · have kf : k = .free := by
        have := (Bool.and_eq_true _ _ ▸ hf : _ ∧ _).1
        have := (Bool.and_eq_true _ _ ▸ this : _ ∧ _).1
        simpa using this
      simp only [hf, if_true] at h
      rw [List.lookup_cons] at h
      cases hx : x == n with
      | true =>
        have : x = n := by simpa using hx
        subst this; subst kf
        exact List.mem_cons_self
      | false => rw [hx] at h; exact List.mem_cons_of_mem _ (ih h)
    · simp only [hf, Bool.false_eq_true, if_false] at h
      rw [List.lookup_cons] at h
      cases hx : x == n with
      | true =>
        have : x = n := by simpa using hx
        subst this
        rw [hx] at h
        rcases h with h | h
        · exact absurd (Option.some.inj h) hk
        · have : k = .free := Option.some.inj h
          subst this
          exact List.mem_cons_self
      | false => rw [hx] at h; exact List.mem_cons_of_mem _ (ih h)
noncomputable def cxBlk (X : Cx) (N : List Str) (scope : Scope) (C : Addr) (s₀ : Shared) (H₀ : Hp) (ex : List Addr) : Cx where
 prog := X.prog
 w := X.w
 K := X.K
 mg := X.mg
 base := X.base
 A := X.A
 N := N
 s₀ := s₀
 H₀ := H₀
 env := compEnvC scope (clGo X.env scope.names []) C X.env
 outer := X.stack
 stack := X.stack
 ex := ex
 fn := fun _ => false
 calm := X.calm
 pn := []
 xe := fun _ _ => False
noncomputable def blk (nt : Nat) (fv : List Nat) (σ : St) : St := List.replicate nt none ++ fv.map fun j => (σ[j]?).getD none
noncomputable def tComp (nt : Nat) (fv : List Nat) (wi : TI) (g : TG) (ti : TT) (te : TE) : TE := fun σ H Q => wi σ H fun J H1 => ∃ W : Nat → Nat → List V → Hp → Prop, (∃ m, W 0 m [] H1) ∧ ∀ i m ys H, W i m ys H →
 (J.stop i H ∧ ys.length ≤ sizeLine ∧ ∀ p, H p = none → Q (.ref p) (upd H p (.lst ys))) ∨
 (J.go i H ∧ ys.length ≤ sizeLine ∧ ∀ x H', J.yld i H x H' → g x (blk nt fv σ) H' fun σ2 H2 => (∀ i, nt ≤ i → σ2[i]? = (blk nt fv σ)[i]?) ∧ ti σ2 H2 fun b H3 => if b = true then te σ2 H3 fun v H4 => ∃ m', m' < m ∧ W (i + 1) m' (ys ++ [v]) H4 else ∃ m', m' < m ∧ W (i + 1) m' ys H3)
noncomputable def PTs (X : Cx) (cs : List Expr) (t : TT) : Prop :=
 ∀ (pins : List (Addr × Obj)) (s : Shared) (σ : St) (H : Hp) (Q : Bool → Hp → Prop), Inv X pins σ H s → t σ H Q →
  wpAny (model X.prog X.w) X.A (forIn cs true fun c r => if r = true then do let ok ← isTrue c X.env (eval c X.env); pure (ForInStep.yield ok) else pure (ForInStep.yield r)) (TP X pins σ Q) X.xe s
noncomputable def tTrue : TT := fun _ H Q => Q true H
theorem pts_nil {X : Cx} : PTs X [] tTrue := fun _ _ _ H _ I h => wpAny_tests_nil ⟨H, I, h⟩
structure BlkOk (X : Cx) (N : List Str) (scope : Scope) (nt : Nat) (fv : List Nat) : Prop where
 kind : scope.kind = .function
 ncell : ∀ y ∈ scope.names, y.2 ≠ .cell
 names : ∀ y ∈ scope.names, y.2 = .local → scope.names.lookup y.1 = some .local
 free : ∀ y ∈ scope.names, y.2 = .free → X.env.kindOf y.1 = some .cell
 len : N.length = nt + fv.length
 fv : ∀ i x, N[nt + i]? = some x → ∃ j, fv[i]? = some j ∧ X.N[j]? = some x ∧ X.env.kindOf x = some .cell ∧ (relabel scope X.env).names.lookup x = some .cell
section
variable {X : Cx} {N : List Str} {scope : Scope} {nt : Nat} {fv : List Nat} {pins : List (Addr × Obj)} {σ : St} {H : Hp} {s : Shared}
theorem BlkOk.cells (B : BlkOk X N scope nt fv) (I : Inv X pins σ H s) : ∀ y ∈ scope.names, y.2 = .free → ∃ c, X.env.cells.lookup y.1 = some c := fun y hy hf => I.ok.has y.1 (.inl (B.free y hy hf))
theorem blk_ok (B : BlkOk X N scope nt fv) (I : Inv X pins σ H s) {C : Addr} {fp : List Addr} (hC : s.heap.objs.size ≤ C) (hf : ∀ b ∈ fp, FpOk X pins H b) (hlt : ∀ b ∈ fp, b < s.heap.objs.size) :
  (cxBlk X N scope C s H fp).Ok := by
 have sub : ∀ x c, (clGo X.env scope.names []).lookup x = some c → X.env.cells.lookup x = some c := clGo_sub _ _ (B.cells I) (fun x c e => by simp at e)
 refine ⟨I.ok.mod, B.kind, I.ok.glob, I.ok.blt, hC, fun x y c e1 e2 => I.ok.inj x y c (sub x c e1) (sub y c e2), fun x hx => ?_, fun x c h => absurd h (by show ¬ (false = true); decide), I.ok.hd, I.ok.frames, .inl rfl, fun b hb => ⟨?_, fun x c e => ?_⟩, I.bs, Nat.le_trans I.ok.bsz I.sz, fun b o e hb => ?_, fun b hb z => ?_, I.stack, I.stkFree⟩
 ·have hm : (x, NameKind.free) ∈ scope.names := relabel_back B.ncell hx
  exact Option.isSome_iff_exists.mp (clGo_has scope.names [] x (.inl ⟨_, hm, rfl⟩))
 ·exact Nat.ne_of_lt (Nat.lt_of_lt_of_le (hlt b hb) hC)
 ·exact (hf b hb).2.2.2.2.1 x c (sub x c e)
 ·rcases (hf b hb).2.2.2.1 with z | z
  ·exact I.ok.noex b o e z
  ·exact absurd (Nat.lt_of_lt_of_le (Heap.lt_size e) (Nat.le_trans I.ok.bsz z)) (Nat.lt_irrefl _)
 ·rcases List.mem_cons.mp (I.stkSub b z) with z | z
  ·exact (hf b hb).2.1 z
  ·exact (hf b hb).2.2.1 z
theorem blk_inv (B : BlkOk X N scope nt fv) (I : Inv X pins σ H s) {C : Addr} {fp : List Addr} (hC : s.heap.objs.size ≤ C) (hf : ∀ b ∈ fp, FpOk X pins H b) (hlt : ∀ b ∈ fp, b < s.heap.objs.size) {h' : Heap} {tk : Nat}
  (k : ∀ b o, s.heap.get? b = some o → h'.get? b = some o) (hn : ∃ m, h'.Ns C m) : Inv (cxBlk X N scope C s H fp) [] (blk nt fv σ) H { s with heap := h', toks := tk } := by
 have sub : ∀ x c, (clGo X.env scope.names []).lookup x = some c → X.env.cells.lookup x = some c := clGo_sub _ _ (B.cells I) (fun x c e => by simp at e)
 obtain ⟨m, hn⟩ := hn
 refine ⟨blk_ok B I hC hf hlt, rfl, I.bare, Un.kept k, ⟨m, hn, fun i x v e1 e2 e3 => ?_⟩, fun x c e => ?_, I.hok.fresh hC, fun x c e => I.freeC x c (sub x c e), fun p hp => (nomatch hp), I.hok.kept k, ?_⟩
 ·have hi : nt ≤ i := by
   refine Nat.le_of_not_lt fun hlt => ?_
   unfold blk at e2
   rw [List.getElem?_append_left (by simpa using hlt), List.getElem?_replicate] at e2
   split at e2 <;> cases e2
  obtain ⟨j, hj⟩ : ∃ j, i = nt + j := ⟨i - nt, by omega⟩
  subst hj
  obtain ⟨o, f1, f2, f3, f4⟩ := B.fv j x e1
  unfold blk at e2
  rw [List.getElem?_append_right (by simp), List.length_replicate, Nat.add_sub_cancel_left, List.getElem?_map, f1] at e2
  have e2' : (σ[o]?).getD none = some v := Option.some.inj e2
  have e4 : σ[o]? = some (some v) := by
   cases q : σ[o]? with
   | none => rw [q] at e2'; cases e2'
   | some z => rw [q] at e2'; exact congrArg some e2'
  obtain ⟨m0, hn0, hl⟩ := I.loc
  obtain ⟨u, ru, lk⟩ := hl o x v f2 e4 (.inr (.inl f3))
  refine ⟨u, ru, .inr ⟨.inl f4, ?_⟩⟩
  rcases lk with ⟨z, _⟩ | ⟨_, c, hc, hcell⟩
  ·rw [f3] at z; cases z
  ·have hm : (x, NameKind.free) ∈ scope.names := relabel_back B.ncell (.inl f4)
   obtain ⟨c', hc'⟩ := Option.isSome_iff_exists.mp (clGo_has (env := X.env) scope.names [] x (.inl ⟨_, hm, rfl⟩))
   have := sub x c' hc'
   rw [hc] at this
   cases this
   obtain ⟨oc, h1, h2⟩ := hcell
   exact ⟨c, hc', oc, k c oc h1, h2⟩
 ·obtain ⟨v, oc, h1, h2⟩ := I.cell x c (sub x c e)
  exact ⟨v, oc, k c oc h1, h2⟩
 ·show (blk nt fv σ).length = N.length
  unfold blk
  rw [List.length_append, List.length_replicate, List.length_map]
  exact B.len.symm
end
section
variable {prog : Program} {w : World} {A : Around} {R : Result → Shared → Prop} {s : Shared}
theorem compLoop_any {elt target iter : Expr} {ifs : List Expr} {scope : Scope} {pos : Pos} {it acc : Value} {env : Env} (I : Nat → Shared → Prop)
  (turn : ∀ n s, I n s → wpAny (model prog w) A (pyNext it) (fun r s₁ => match r with
   | none => R (.ok .next) s₁
   | some v => wpAny (model prog w) A (letOwnedTupleGo target it v) (fun _ s₁' => wpAny (model prog w) A (assign target env v) (fun _ s₂ =>
     wpAny (model prog w) A (forIn ifs true fun c r => if r = true then do let ok ← isTrue c env (eval c env); pure (ForInStep.yield ok) else pure (ForInStep.yield r)) (fun ok s₃ =>
      if ok = true then wpAny (model prog w) A (eval elt env) (fun x s₄ =>
       wpAny (model prog w) A (call (.builtin "list.append") [acc, x]) (fun _ s₅ => ∃ m, m < n ∧ I m s₅) (fun _ _ => False) s₄) (fun _ _ => False) s₃
      else ∃ m, m < n ∧ I m s₃) (fun _ _ => False) s₂) (fun _ _ => False) s₁') (fun _ _ => False) s₁) (fun _ _ => False) s)
  (n : Nat) (h : I n s) :
  codeAny (model prog w) A (.compLoop (.ListComp elt [⟨target, iter, ifs, 0⟩] scope pos) 0 it acc env) R s := by
 refine codeAny_loop rfl I (fun n s hI => ?_) n h
 show wpAny _ A ((compTurn (.ListComp elt [⟨target, iter, ifs, 0⟩] scope pos) 0 it acc env).onRaise (fun x => do noteFrame x env; theTreesLotGoes x)) _ _ s
 refine wpAny_noted ?_
 rw [compTurn_list]
 refine wpAny_bind (wpAny_standAt (wpAny_bind (wpAny_mono (turn n s hI) (fun r s₁ h₁ => ?_) fun _ _ f => f.elim)))
 cases r with
 | none => exact wpAny_pure h₁
 | some v =>
  refine wpAny_bind (wpAny_mono h₁ (fun _ s₁' h₁' => ?_) fun _ _ f => f.elim)
  refine wpAny_bind (wpAny_mono h₁' (fun _ s₂ h₂ => wpAny_bind (wpAny_mono h₂ (fun ok s₃ h₃ => ?_) fun _ _ f => f.elim)) fun _ _ f => f.elim)
  cases ok with
  | false => exact wpAny_pure ⟨rfl, h₃⟩
  | true =>
   exact wpAny_bind (wpAny_bind (wpAny_mono h₃ (fun x s₄ h₄ => wpAny_bind (wpAny_mono h₄ (fun _ s₅ h₅ => wpAny_pure (wpAny_pure ⟨rfl, h₅⟩)) fun _ _ f => f.elim)) fun _ _ f => f.elim))
end
end L2
namespace L2
open PySem PySem.Spec PyProof.Rows
section
variable {X : Cx} {N : List Str} {scope : Scope} {nt : Nat} {fv : List Nat} {elt tg iter : Expr} {ifs : List Expr} {wi : TI} {g : TG} {ti : TT} {te : TE} {pos : Pos}
noncomputable def listO (its : List Value) (n : Nat) : Obj := { cls := .type "list", dict := none, data := .seq its.toArray n }
theorem comp_run (hc : X.calm = true) (B : BlkOk X N scope nt fv)
  (hg : ∀ C s₀ H₀ ex, PG (cxBlk X N scope C s₀ H₀ ex) tg g) (ht : ∀ C s₀ H₀ ex, PTs (cxBlk X N scope C s₀ H₀ ex) ifs ti) (he : ∀ C s₀ H₀ ex, PE (cxBlk X N scope C s₀ H₀ ex) elt te)
  {pins : List (Addr × Obj)} {σ : St} {s2 : Shared} {H2 : Hp} {it : Addr} {fp : List Addr} {tn : Nat → Heap → Prop} {J : It} (I2 : Inv X pins σ H2 s2) (T : Turn X.prog X.w X.K tg J fp it tn) (st2 : tn 0 s2.heap) (f2 : ∀ b ∈ fp, FpOk X pins H2 b)
  {W : Nat → Nat → List V → Hp → Prop} {m0 : Nat} (w0 : W 0 m0 [] H2) {Q : VK}
  (turn : ∀ i m ys H, W i m ys H → (J.stop i H ∧ ys.length ≤ sizeLine ∧ ∀ p, H p = none → Q (.ref p) (upd H p (.lst ys))) ∨
   (J.go i H ∧ ys.length ≤ sizeLine ∧ ∀ x H', J.yld i H x H' → g x (blk nt fv σ) H' fun σ2 H2 => (∀ i, nt ≤ i → σ2[i]? = (blk nt fv σ)[i]?) ∧ ti σ2 H2 fun b H3 => if b = true then te σ2 H3 fun v H4 => ∃ m', m' < m ∧ W (i + 1) m' (ys ++ [v]) H4 else ∃ m', m' < m ∧ W (i + 1) m' ys H3))
  {RR : Value → Addr → Result → Shared → Prop}
  (hR : ∀ D C s', s2.heap.objs.size ≤ C → (∃ m, s'.heap.Ns C m) → (∀ h', Heap.SameBut C s'.heap h' → ∃ H', Inv X pins σ H' { s' with heap := h' } ∧ H' C = none ∧ Q (.ref D) H') → RR (.ref D) C (.ok .next) s') :
  wpAny (model X.prog X.w) X.A (newList []) (fun acc s₃ => wpAny (model X.prog X.w) X.A (newFunctionEnv scope X.env.globals (clGo X.env scope.names []) [] X.env.qual none .none (some X.env)) (fun cenv s₄ =>
   codeAny (model X.prog X.w) X.A (.compStart (.ListComp elt [⟨tg, iter, ifs, 0⟩] scope pos) 0 (.ref it) acc { cenv with scope := relabel scope X.env }) (RR acc cenv.locals) s₄) X.xe s₃) X.xe s2 := by
 refine wpAny_newObj_type (wpAny_newFunctionEnv B.ncell (by intro y hy; simp at hy) (fun h₁ hns₁ hsb₁ => ?_) B.kind)
 dsimp only at hns₁ hsb₁ ⊢
 generalize hH2 : s2.heap.push { cls := .type "list", dict := none, data := .seq ([] : List Value).toArray } = Hh at hns₁ hsb₁ ⊢
 have hC : Hh.objs.size = s2.heap.objs.size + 1 := by rw [← hH2, Heap.size_push]
 have hDC : s2.heap.objs.size ≠ Hh.objs.size := by rw [hC]; exact Nat.ne_of_lt (Nat.lt_succ_self _)
 have hCle : s2.heap.objs.size ≤ Hh.objs.size := by rw [hC]; exact Nat.le_succ _
 have below : ∀ b, b < s2.heap.objs.size → b ≠ Hh.objs.size ∧ b ≠ s2.heap.objs.size := fun b hb => ⟨by rw [hC]; exact Nat.ne_of_lt (Nat.lt_succ_of_lt hb), Nat.ne_of_lt hb⟩
 have old : ∀ b o, s2.heap.get? b = some o → h₁.get? b = some o := fun b o e => hsb₁.extBut b o (below b (Heap.lt_size e)).1 (Heap.get?_push_of_some _ (hH2 ▸ Heap.get?_push_of_some _ e))
 have hacc : h₁.get? s2.heap.objs.size = some (listO [] 0) := hsb₁.extBut _ _ hDC (Heap.get?_push_of_some _ (hH2 ▸ Heap.get?_push_size _ rfl))
 have flt : ∀ b ∈ fp, b < s2.heap.objs.size := fun b hb => by obtain ⟨o, e, _⟩ := T.obj 0 _ st2 b hb; exact Heap.lt_size e
 have fresh : ∀ a, s2.heap.objs.size ≤ a → s2.heap.get? a = none := fun a ha => by
  cases e : s2.heap.get? a with
  | none => rfl
  | some o' => exact absurd (Heap.lt_size e) (Nat.not_lt.mpr ha)
 have ftk : ∀ {H' : Hp} {pl : List (Addr × Obj)}, (∀ b ∈ fp, H' b = none) → (∀ p ∈ pl, p.1 ∉ fp) → ∀ b ∈ fp, FpOk (cxBlk X N scope Hh.objs.size s2 H2 fp) pl H' b := fun {H' pl} hn hp b hb =>
  ⟨hn b hb, (below b (flt b hb)).1, fun z => by
   rcases List.mem_cons.mp (I2.stkSub b z) with z | z
   ·exact (f2 b hb).2.1 z
   ·exact (f2 b hb).2.2.1 z, .inl hb, fun x c e => (f2 b hb).2.2.2.2.1 x c (clGo_sub _ _ (B.cells I2) (fun x c e => by simp at e) x c e), fun p hp' z => hp p hp' (z ▸ hb)⟩
 have Dfp : s2.heap.objs.size ∉ fp := fun hm => Nat.lt_irrefl _ (flt _ hm)
 have Dfs : s2.heap.objs.size ∉ frs X.stack := fun z => by
  rcases List.mem_cons.mp (I2.stkSub _ z) with z | z
  ·exact Nat.lt_irrefl _ (z ▸ I2.lt)
  ·exact I2.nofs (Nat.le_refl _) z
 have Dcell : ∀ x c, (clGo X.env scope.names []).lookup x = some c → c ≠ s2.heap.objs.size := fun x c e z => by
  obtain ⟨v, q⟩ := I2.cell x c (clGo_sub _ _ (B.cells I2) (fun x c e => by simp at e) x c e)
  exact Nat.lt_irrefl _ (z ▸ q.lt)
 have Iblk : Inv (cxBlk X N scope Hh.objs.size s2 H2 fp) [] (blk nt fv σ) H2 { s2 with heap := h₁, toks := s2.toks + ([] : List (Str × Value)).length } := blk_inv B I2 hCle f2 flt old ⟨_, hns₁⟩
 have pinD : ∀ {s' : Shared} {H' : Hp} {σ' : St} {its : List Value} {n : Nat} {pl : List (Addr × Obj)}, Inv (cxBlk X N scope Hh.objs.size s2 H2 fp) pl σ' H' s' → s'.heap.get? s2.heap.objs.size = some (listO its n) → H' s2.heap.objs.size = none →
   Inv (cxBlk X N scope Hh.objs.size s2 H2 fp) [(s2.heap.objs.size, listO its n)] σ' H' s' := fun I e hn => I.pins_of fun p hp => by
  rw [List.mem_singleton.mp hp]
  exact ⟨e, hn, hDC, Dfs, fun v z => by cases z⟩
 have loop : ∀ s₃ : Shared, s₃ = { s2 with heap := h₁, toks := s2.toks + ([] : List (Str × Value)).length } →
   codeAny (model X.prog X.w) X.A (.compLoop (.ListComp elt [⟨tg, iter, ifs, 0⟩] scope pos) 0 (.ref it) (.ref s2.heap.objs.size) (compEnvC scope (clGo X.env scope.names []) Hh.objs.size X.env)) (RR (.ref s2.heap.objs.size) Hh.objs.size) s₃ := by
  rintro s₃ rfl
  refine compLoop_any (fun n s' => ∃ i ys its k H', Inv (cxBlk X N scope Hh.objs.size s2 H2 fp) [(s2.heap.objs.size, listO its k)] (blk nt fv σ) H' s' ∧ tn i s'.heap ∧ (∀ b ∈ fp, H' b = none) ∧ W i n ys H' ∧ Vals ys its) ?_ m0
   ⟨0, [], [], 0, H2, pinD Iblk hacc (I2.hok.fresh (Nat.le_refl _)), T.keep _ _ _ st2 fun b _ o e => old b o e, fun b hb => (f2 b hb).1, w0, .nil⟩
  rintro n s' ⟨i, ys, its, k, H', I', st', fr', w', vs'⟩
  obtain ⟨pd, pn, _, _, _⟩ := I'.pin (s2.heap.objs.size, listO its k) (by exact List.mem_cons_self)
  have pfp : ∀ {o : Obj}, ∀ p ∈ [(s2.heap.objs.size, o)], p.1 ∉ fp := fun p hp => by rw [List.mem_singleton.mp hp]; exact Dfp
  rcases turn i n ys H' w' with ⟨stop, hz, q⟩ | ⟨go, hz, step⟩
  ·refine wpAny_mono (T.done (cxBlk X N scope Hh.objs.size s2 H2 fp) rfl rfl rfl hc i _ s' _ H' (fun _ _ => False) I' (ftk fr' pfp) st' stop) (fun r s1 ⟨hr, I1⟩ => ?_) fun _ _ f => f
   subst hr
   obtain ⟨pd1, pn1, _, _, _⟩ := I1.pin (s2.heap.objs.size, listO its k) (by exact List.mem_cons_self)
   obtain ⟨m, hm, _⟩ := I1.loc
   refine hR _ _ s1 hCle ⟨m, hm⟩ fun h' sb => ⟨upd H' s2.heap.objs.size (.lst ys), ?_, by rw [upd_ne (Ne.symm hDC)]; exact I1.free, q _ pn1⟩
   have keepT : ∀ b u, H' b = some u → b ≠ Hh.objs.size := fun b u e z => by
    have e0 : H' Hh.objs.size = none := I1.free
    rw [z, e0] at e
    cases e
   have kept : ∀ b o, b ≠ Hh.objs.size → s1.heap.get? b = some o → h'.get? b = some o := fun b o hb e => sb.extBut b o hb e
   have un := I1.base
   refine I2.call' (s' := { s1 with heap := h' }) (ch := fp) I1.os ⟨fun b o e hn hb hx => ?_, fun b o e hn hb hx => ?_, fun b o e hn hx => ?_, fun b o e hx => ?_, fun b xs e => ?_, fun b o u e => ?_, fun b ps e => ?_⟩ ?_ I1.bare fun b hb => ?_
   ·exact kept b o (below b (Heap.lt_size e)).1 (un.keep b o e hn hb hx)
   ·obtain ⟨sl, e1⟩ := un.slot b o e hn hb hx
    exact ⟨sl, kept b _ (below b (Heap.lt_size e)).1 e1⟩
   ·rw [upd_ne (below b (Heap.lt_size e)).2]
    exact un.free b o e hn hx
   ·obtain ⟨o', e1⟩ := un.there b o e hx
    exact ⟨o', kept b o' (below b (Heap.lt_size e)).1 e1⟩
   ·have e1 := un.tups b xs e
    rw [upd_ne (ne_of_none e1 pn1)]
    exact e1
   ·have e1 := un.frzs b o u e
    rw [upd_ne (ne_of_none e1 pn1)]
    exact e1
   ·obtain ⟨mo, e1⟩ := un.tbls b ps e
    exact ⟨mo, by rw [upd_ne (ne_of_none e1 pn1)]; exact e1⟩
   ·intro b u e
    by_cases hb : b = s2.heap.objs.size
    ·subst hb
     rw [upd_same] at e
     cases e
     exact ⟨hz, its, k, vs', kept _ _ hDC pd1⟩
    ·rw [upd_ne hb] at e
     refine (I1.hok b u e).stay (fun c v hc' q' => kept c v ?_ q') (fun c q' => by rw [upd_ne (ne_of_none q' pn1)]; exact q') fun c xs q' => by rw [upd_ne (ne_of_none q' pn1)]; exact q'
     rcases hc' with z | z
     ·rw [z]; exact keepT b u e
     ·exact keepT c _ z
   ·exact ⟨(f2 b hb).2.2.2.1, (f2 b hb).2.1, (f2 b hb).2.2.2.2.1, (f2 b hb).2.2.2.2.2⟩
  ·refine wpAny_mono (T.item (cxBlk X N scope Hh.objs.size s2 H2 fp) rfl rfl rfl hc i _ s' _ H' (fun _ _ => False) I' (ftk fr' pfp) st' go) (fun r s3 ⟨u, hr, h3⟩ => ?_) fun _ _ f => f
   subst hr
   refine wpAny_mono h3 (fun _ s4 ⟨x, H4, I4, r4, y4, st4, fr4⟩ => ?_) fun _ _ f => f
   have I4' := I4.pinned (ftk fr4 pfp) (T.obj _ _ st4)
   refine wpAny_mono (hg Hh.objs.size s2 H2 fp _ s4 _ H4 x u _ I4' r4 (step x H4 y4)) (fun _ s5 ⟨σ5, H5, I5, x5, q5⟩ => ?_) fun _ _ f => f
   refine wpAny_mono (ht Hh.objs.size s2 H2 fp _ s5 σ5 H5 _ I5 q5) (fun b s6 ⟨H6, I6, q6⟩ => ?_) fun _ _ f => f
   have weak : ∀ {s' : Shared} {H' : Hp} {pl : List (Addr × Obj)}, Inv (cxBlk X N scope Hh.objs.size s2 H2 fp) pl σ5 H' s' → Inv (cxBlk X N scope Hh.objs.size s2 H2 fp) pl (blk nt fv σ) H' s' := by
    intro s' H' pl I
    refine I.weak ((blk_inv B I2 hCle f2 flt old ⟨_, hns₁⟩ (tk := 0)).len.trans I.len.symm) fun j v e => ?_
    by_cases hj : nt ≤ j
    ·rw [x5 j hj]; exact e
    ·unfold blk at e
     rw [List.getElem?_append_left (by simpa using hj), List.getElem?_replicate] at e
     split at e <;> cases e
   have pnew : ∀ {s' : Shared} {H' : Hp} {σ' : St}, Inv (cxBlk X N scope Hh.objs.size s2 H2 fp) ([(s2.heap.objs.size, listO its k)] ++ pinsAt fp s4.heap) σ' H' s' →
     s'.heap.get? s2.heap.objs.size = some (listO its k) ∧ H' s2.heap.objs.size = none ∧ tn (i + 1) s'.heap ∧ ∀ b ∈ fp, H' b = none := fun {s' H' σ'} I => by
    obtain ⟨p1, p2, _⟩ := I.pin (s2.heap.objs.size, listO its k) (by exact List.mem_cons_self)
    refine ⟨p1, p2, T.keep _ _ _ st4 fun b hb o e => (I.pin (b, o) (List.mem_append_right _ (List.mem_append_right _ (mem_pinsAt hb e)))).1, fun b hb => ?_⟩
    obtain ⟨o, e, d⟩ := T.obj _ _ st4 b hb
    exact (I.pin (b, o) (List.mem_append_right _ (List.mem_append_right _ (mem_pinsAt hb e)))).2.1
   cases b with
   | false =>
    obtain ⟨m', hm, w6⟩ := q6
    obtain ⟨p1, p2, p3, p4⟩ := pnew I6
    exact ⟨m', hm, i + 1, ys, its, k, H6, weak (pinD I6 p1 p2), p3, p4, w6, vs'⟩
   | true =>
    refine wpAny_mono (he Hh.objs.size s2 H2 fp _ s6 σ5 H6 _ I6 q6) (fun v s7 ⟨y, H7, I7, r7, q7⟩ => ?_) fun _ _ f => f
    obtain ⟨m', hm, w7⟩ := q7
    obtain ⟨p1, p2, p3, p4⟩ := pnew I7
    have hl := vs'.length
    refine wpAny_list_append_plain (l := s2.heap.objs.size) (items := its.toArray) ⟨k, p1⟩ (fun h8 pl8 sb8 => ?_) (by rw [List.size_toArray]; omega)
    obtain ⟨k8, e8⟩ := pl8
    have e8' : h8.get? s2.heap.objs.size = some (listO (its ++ [v]) k8) := by
     rw [e8]
     unfold listO
     simp
    have I7' := (weak I7).pins_of (pins' := []) fun p hp => (nomatch hp)
    have I8 : Inv (cxBlk X N scope Hh.objs.size s2 H2 fp) [] (blk nt fv σ) H7 { s7 with heap := h8 } := I7'.turned (t' := s7.toks) (it := s2.heap.objs.size) (fun b o hb e => (sb8.2 b hb).trans e) p2 hDC (.inr (Nat.le_refl _)) Dcell (fun p hp => (nomatch hp))
    exact ⟨m', hm, i + 1, ys ++ [y], its ++ [v], k8, H7, pinD I8 e8' p2, T.keep _ _ _ p3 fun b hb o e => (sb8.2 b (fun z => Dfp (z ▸ hb))).trans e, p4, w7, vs'.append (.cons r7 .nil)⟩
 exact codeAny_compStart_list (loop _ rfl) (T.self X.A 0 _ _ _ (T.keep _ _ _ st2 fun b _ o e => old b o e) (loop _ rfl))
theorem pe_lcomp (hc : X.calm = true) (B : BlkOk X N scope nt fv) (hi : PI X tg iter wi)
  (hg : ∀ C s₀ H₀ ex, PG (cxBlk X N scope C s₀ H₀ ex) tg g) (ht : ∀ C s₀ H₀ ex, PTs (cxBlk X N scope C s₀ H₀ ex) ifs ti) (he : ∀ C s₀ H₀ ex, PE (cxBlk X N scope C s₀ H₀ ex) elt te)
  (hs : ∀ x, foldedSetIterable iter X.env x = pure x := by intro _; rfl) : PE X (.ListComp elt [⟨tg, iter, ifs, 0⟩] scope pos) (tComp nt fv wi g ti te) := by
 intro pins s σ H Q I h
 rw [eval_ListComp]
 refine wpAny_comprehension_free (use := none) rfl hs (clos_of (B.cells I)) B.kind B.names (thn (hi pins s σ H _ I h) fun xv s1 h1 => thn h1 fun itv s2 h2 => ?_)
 obtain ⟨it, fp, tn, J, H2, rfl, I2, T, st2, f2, W, ⟨m0, w0⟩, turn⟩ := h2
 refine comp_run hc B hg ht he I2 T st2 f2 w0 turn (RR := fun acc C => compPost (model X.prog X.w) X.A X.xe none (EP X pins σ Q) acc C) fun D C s' hC hn hq => ?_
 obtain ⟨m, hm⟩ := hn
 refine ⟨m, hm, fun h' sb => ?_⟩
 obtain ⟨H', I', _, q'⟩ := hq h' sb
 exact ⟨.ref D, H', I', rfl, q'⟩
theorem ps_setC {i : Nat} {x : Str} {pos' spos : Pos} (hN : X.N.Nodup) (hi' : X.N[i]? = some x) (hx : X.env.scope.names.lookup x = some .local) (hc : X.calm = true) (B : BlkOk X N scope nt fv) (hi : PI X tg iter wi)
  (hg : ∀ C s₀ H₀ ex, PG (cxBlk X N scope C s₀ H₀ ex) tg g) (ht : ∀ C s₀ H₀ ex, PTs (cxBlk X N scope C s₀ H₀ ex) ifs ti) (he : ∀ C s₀ H₀ ex, PE (cxBlk X N scope C s₀ H₀ ex) elt te)
  (hsw : swapsWith (.ListComp elt [⟨tg, iter, ifs, 0⟩] scope pos) (some (.Name x pos')) spos.line X.env = pure true := by rfl)
  (hs : ∀ x, foldedSetIterable iter X.env x = pure x := by intro _; rfl) : PS X (.Assign [.Name x pos'] (.ListComp elt [⟨tg, iter, ifs, 0⟩] scope pos) spos) (tAsg (tComp nt fv wi g ti te) (gName i)) := by
 intro pins s σ H D I h
 rw [exec_Assign_Name_used _ _ _ _ hsw]
 refine wpAny_bind (wpAny_standAt (wpAny_bind ?_))
 show wpAny _ X.A (do let _ ← comprehension (.ListComp elt [⟨tg, iter, ifs, 0⟩] scope pos) scope X.env _ (newList []) false (eval iter X.env) (some (assign (.Name x pos') X.env))) _ _ s
 refine wpAny_bind (wpAny_mono (wpAny_comprehension_free (use := some (assign (.Name x pos') X.env)) (Q := fun _ s' => SP X pins D .next s') rfl hs (clos_of (B.cells I)) B.kind B.names
  (thn (hi pins s σ H _ I h) fun xv s1 h1 => thn h1 fun itv s2 h2 => ?_)) (fun _ s' h' => wpAny_pure (wpAny_pure h')) fun _ _ e => e)
 obtain ⟨it, fp, tn, J, H2, rfl, I2, T, st2, f2, W, ⟨m0, w0⟩, turn⟩ := h2
 refine comp_run (Q := fun v H1 => gName i v σ H1 D.nx) hc B hg ht he I2 T st2 f2 w0 turn (RR := fun acc C => compPost (model X.prog X.w) X.A X.xe (some (assign (.Name x pos') X.env)) (fun _ s' => SP X pins D .next s') acc C) fun L C s' hC hn hq => ?_
 obtain ⟨m, hm⟩ := hn
 obtain ⟨H', I', hC', q'⟩ := hq s'.heap (Heap.SameBut.refl ..)
 have hCL : C ≠ X.env.locals := fun z => by
  have := I2.lt
  rw [← z] at this
  exact Nat.lt_irrefl _ (Nat.lt_of_lt_of_le this hC)
 have Ccell : ∀ y c, X.env.cells.lookup y = some c → c ≠ C := fun y c e z => by
  obtain ⟨v, qc⟩ := I2.cell y c e
  exact Nat.lt_irrefl _ (Nat.lt_of_lt_of_le (z ▸ qc.lt) hC)
 show wpAny _ X.A (assign (.Name x pos') X.env (.ref L)) _ _ s'
 refine wpAny_assign_Name (store_ok2 (v := .ref L) I' hN hi' (.inl hx) rfl (fun s'' I'' sb'' => ?_) (.inr hx))
 obtain ⟨a, sb, ha⟩ := sb''
 have haC : C ≠ a := by
  rcases ha with z | z
  ·rw [z]; exact hCL
  ·exact (Ccell x a z).symm
 refine ⟨m, hm.sameBut sb haC, fun h' sb' => ?_⟩
 refine ⟨_, H', I''.turned (t' := s''.toks) (it := C) (fun b o hb e => (sb'.2 b hb).trans e) hC' hCL (.inr (Nat.le_trans I2.sz hC)) Ccell fun p hp z => ?_, q'⟩
 have e := (I2.pin p hp).1
 exact Nat.lt_irrefl _ (Nat.lt_of_lt_of_le (z ▸ Heap.lt_size e) hC)
end
end L2
namespace L2
open PySem PySem.Spec PyProof.Rows
noncomputable def relS (scope osc : Scope) : List (Str × NameKind) := scope.names.map fun (n, k) => if (k == .free && osc.kind == .function && osc.names.lookup n == some .cell) then (n, .cell) else (n, k)
noncomputable def blkC (osc : Scope) (ON N : List Str) (scope : Scope) (nt : Nat) (fv : List Nat) : Bool :=
 scope.kind == .function && scope.names.all (fun y => y.2 != .cell) && scope.names.all (fun y => y.2 != .local || scope.names.lookup y.1 == some .local) &&
 scope.names.all (fun y => y.2 != .free || osc.names.lookup y.1 == some .cell) && N.length == nt + fv.length &&
 (List.range fv.length).all fun i => match N[nt + i]?, fv[i]? with
  | some x, some j => ON[j]? == some x && osc.names.lookup x == some .cell && (relS scope osc).lookup x == some .cell
  | _, _ => false
theorem blk_of {X : Cx} {osc : Scope} {ON N : List Str} {scope : Scope} {nt : Nat} {fv : List Nat} (h : blkC osc ON N scope nt fv = true) (e1 : X.env.scope = osc := by rfl) (e2 : X.N = ON := by rfl) : BlkOk X N scope nt fv := by
 subst e1 e2
 unfold blkC at h
 simp only [Bool.and_eq_true, List.all_eq_true, Bool.or_eq_true, bne_iff_ne, ne_eq, beq_iff_eq] at h
 obtain ⟨⟨⟨⟨⟨h1, h2⟩, h3⟩, h4⟩, h5⟩, h6⟩ := h
 refine ⟨h1, h2, fun y hy e => ?_, fun y hy e => ?_, h5, fun i x e => ?_⟩
 ·rcases h3 y hy with z | z
  ·exact absurd e z
  ·exact z
 ·rcases h4 y hy with z | z
  ·exact absurd e z
  ·exact z
 ·have hi : i < fv.length := by
   have := (List.getElem?_eq_some_iff.mp e).1
   omega
  have q := h6 i (List.mem_range.mpr hi)
  rw [e, List.getElem?_eq_getElem hi] at q
  simp only [Bool.and_eq_true, beq_iff_eq] at q
  obtain ⟨⟨q1, q2⟩, q3⟩ := q
  exact ⟨fv[i], List.getElem?_eq_getElem hi, q1, q2, q3⟩
end L2
namespace L2.VS
open PySem PySem.Spec PyProof.Rows
variable {P0 : Addr → Hp → Prop}
noncomputable def mTrue : MT := fun Γ Q => Q true Γ
theorem vtt_true : VTT P0 tTrue mTrue := fun _ _ _ _ _ _ _ r m k => k _ _ _ _ m (Same.refl _) r
noncomputable def blkS : Option Sl → Sl
 | some (.val d) => .val d
 | some .pen => .pen
 | some (.pub B) => .pub B
 | _ => .no
noncomputable def blkE (nt : Nat) (fv : List Nat) (Γ : En) : En := List.replicate nt .no ++ fv.map fun j => blkS Γ[j]?
noncomputable def compL (g : MG) (t : MT) (e : ME) (Γb : En) : List D → List D → (List D → Prop) → Prop
 | [], acc, Q => Q acc
 | d :: ds, acc, Q => g d Γb fun Γ1 => t Γ1 fun b Γ2 => if b = true then e Γ2 fun v _ => compL g t e Γb ds (acc ++ [v]) Q else compL g t e Γb ds acc Q
noncomputable def mComp (nt : Nat) (fv : List Nat) (mi : MD) (g : MG) (t : MT) (e : ME) : MO := fun Γ Q => mi Γ fun ds Γ1 => ds.length ≤ 1000 ∧ compL g t e (blkE nt fv Γ1) ds [] fun out => Q (.own out) Γ1
theorem blk_R {F : Fra P0} {Γ : En} {σ : St} {G H G' H' : Hp} {nt : Nat} {fv : List Nat} (r : R F Γ σ G H) (rf : Rf (F.sub r.fr) G' H') (s : Same G G') : R (F.sub r.fr) (blkE nt fv Γ) (blk nt fv σ) G' H' := by
 have at_ : ∀ {i : Nat} {sl : Sl}, (blkE nt fv Γ)[i]? = some sl → sl ≠ .no → ∃ (j : Nat) (s0 : Sl), Γ[j]? = some s0 ∧ sl = blkS (some s0) ∧ (blk nt fv σ)[i]? = some ((σ[j]?).getD none) := by
  intro i sl e hn
  unfold blkE at e
  by_cases hi : i < nt
  ·rw [List.getElem?_append_left (by simpa using hi), List.getElem?_replicate] at e
   rw [if_pos hi] at e
   cases e
   exact absurd rfl hn
  ·rw [List.getElem?_append_right (by simpa using hi), List.length_replicate, List.getElem?_map] at e
   cases ej : fv[i - nt]? with
   | none => rw [ej] at e; cases e
   | some j =>
    rw [ej] at e
    have e' : blkS Γ[j]? = sl := Option.some.inj e
    cases es : Γ[j]? with
    | none => rw [es] at e'; exact absurd e'.symm hn
    | some s0 =>
     rw [es] at e'
     refine ⟨j, s0, es, e'.symm, ?_⟩
     unfold blk
     rw [List.getElem?_append_right (by simpa using hi), List.length_replicate, List.getElem?_map, ej]
     rfl
 refine R.of rf (by simp [blkE, blk]) (fun i sl e => ?_) (fun i B e => ?_) (fun i j x y _ e => ?_)
 ·cases sl with
  | no => trivial
  | val d =>
   obtain ⟨j, s0, h1, h2, h3⟩ := at_ e (by intro z; cases z)
   cases s0 with
   | val d0 =>
    cases h2
    obtain ⟨v, e1, d1⟩ := r.sl j _ h1
    rw [e1] at h3
    exact ⟨v, h3, Dt.same s _ _ d1⟩
   | _ => cases h2
  | own ds =>
   obtain ⟨j, s0, h1, h2, h3⟩ := at_ e (by intro z; cases z)
   cases s0 <;> cases h2
  | pen =>
   obtain ⟨j, s0, h1, h2, h3⟩ := at_ e (by intro z; cases z)
   cases s0 with
   | pen =>
    obtain ⟨p, e1, e2⟩ := r.sl j _ h1
    rw [e1] at h3
    exact ⟨p, h3, e2⟩
   | _ => cases h2
  | con q =>
   obtain ⟨j, s0, h1, h2, h3⟩ := at_ e (by intro z; cases z)
   cases s0 <;> cases h2
  | pub B =>
   obtain ⟨j, s0, h1, h2, h3⟩ := at_ e (by intro z; cases z)
   cases s0 with
   | pub B' =>
    cases h2
    obtain ⟨v, e1, e2⟩ := r.sl j _ h1
    rw [e1] at h3
    exact ⟨v, h3, B.mono s e2⟩
   | _ => cases h2
  | box B =>
   obtain ⟨j, s0, h1, h2, h3⟩ := at_ e (by intro z; cases z)
   cases s0 <;> cases h2
 ·obtain ⟨j, s0, h1, h2, h3⟩ := at_ e (by intro z; cases z)
  cases s0 <;> cases h2
 ·obtain ⟨j, s0, h1, h2, h3⟩ := at_ e (by intro z; cases z)
  cases s0 <;> cases h2
theorem vo_comp {nt : Nat} {fv : List Nat} {wi : TI} {g : TG} {ti : TT} {te : TE} {mi : MD} {mg : MG} {mt : MT} {me : ME} (hi : VI P0 wi mi) (hg : VG P0 (fun i => decide (i < nt)) g mg) (ht : VTT P0 ti mt) (he : VT P0 te me) :
  VO P0 (tComp nt fv wi g ti te) (mComp nt fv mi mg mt me) := by
 intro F Γ σ G H Q Qm r m k
 refine hi F Γ σ G H _ _ r m fun ds Γ1 J G1 H1 m1 s1 r1 wk => ?_
 obtain ⟨hsz, m1⟩ := m1
 refine ⟨fun i n ys H2 => n = ds.length - i ∧ i ≤ ds.length ∧ ys.length ≤ i ∧ ∃ G2 out, Rf (F.sub r1.fr) G2 H2 ∧ Same G1 G2 ∧ Dts G2 ys out ∧ compL mg mt me (blkE nt fv Γ1) (ds.drop i) out fun out => Qm (.own out) Γ1,
  ⟨ds.length, by simp, Nat.zero_le _, Nat.zero_le _, G1, [], F.subRf r1.fr, Same.refl _, .nil, by simpa using m1⟩, ?_⟩
 rintro i n ys H2 ⟨rfl, hle, hy, G2, out, rf2, s2, d2, m2⟩
 have rb := blk_R (nt := nt) (fv := fv) r1 rf2 s2
 obtain ⟨go, stop⟩ := wk (F.sub r1.fr) _ _ G2 H2 s2 rb
 have small : ys.length ≤ sizeLine := small_le (by omega)
 by_cases hlt : i < ds.length
 ·refine .inr ⟨(go i ds[i] (by simp [hlt])).1, small, fun x H' hyl => ?_⟩
  obtain ⟨G3, s3, r3, d3⟩ := (go i ds[i] (by simp [hlt])).2 x H' hyl
  rw [List.drop_eq_getElem_cons hlt] at m2
  refine hg (F.sub r1.fr) _ _ G3 H' x _ _ _ r3 d3 m2 fun Γ4 σ4 m4 r4 e4 => ⟨fun j hj => e4 j (decide_eq_false (by omega)), ?_⟩
  refine ht (F.sub r1.fr) _ _ G3 H' _ _ r4 m4 fun b Γ5 G5 H5 m5 s5 r5 => ?_
  cases b with
  | true =>
   refine iteT (he (F.sub r1.fr) _ _ G5 H5 _ _ r5 m5 fun d Γ6 v G6 H6 m6 s6 r6 d6 => ?_)
   refine ⟨ds.length - (i + 1), by omega, rfl, hlt, by rw [List.length_append, List.length_singleton]; omega, G6, out ++ [d], r6.fr, ((s2.trans s3).trans s5).trans s6, ?_, m6⟩
   exact (Dts.same ((s3.trans s5).trans s6) _ _ d2).app (.cons d6 .nil)
  | false =>
   refine iteF ?_
   exact ⟨ds.length - (i + 1), by omega, rfl, hlt, by omega, G5, out, r5.fr, (s2.trans s3).trans s5, Dts.same (s3.trans s5) _ _ d2, m5⟩
 ·have e : i = ds.length := by omega
  subst e
  rw [List.drop_length] at m2
  refine .inl ⟨stop, small, fun p hp => ?_⟩
  obtain ⟨r7, s7⟩ := r1.after rf2
  obtain ⟨a, b, c⟩ := own_new r7 hp d2
  exact k _ _ _ _ _ m2 (s1.trans s7) a b c
theorem i_comp {nt : Nat} {fv : List Nat} {mi : MD} {mg : MG} {mt : MT} {me : ME} {Γ : En} {Q : Rv → En → Prop} (h : mi Γ fun ds Γ1 => ds.length ≤ 1000 ∧ compL mg mt me (blkE nt fv Γ1) ds [] fun out => Q (.own out) Γ1) : mComp nt fv mi mg mt me Γ Q := h
theorem comp_fm {α : Type} {mg : MG} {mt : MT} {me : ME} {Γb : En} (p : α → Bool) (f : α → D) (enc : α → D) : ∀ (xs : List α) (acc : List D) (Q : List D → Prop),
  (∀ x ∈ xs, ∀ (K : List D → Prop) (k : D → Prop) (k0 : Prop), (p x = true → k (f x)) → (p x = false → k0) → mg (enc x) Γb fun Γ1 => mt Γ1 fun b Γ2 => if b = true then me Γ2 fun v _ => k v else k0) →
  Q (acc ++ (xs.filter p).map f) → compL mg mt me Γb (xs.map enc) acc Q
 | [], acc, Q, _, q => by simpa [compL] using q
 | x :: xs, acc, Q, h, q => by
  show mg (enc x) Γb fun Γ1 => mt Γ1 fun b Γ2 => if b = true then me Γ2 fun v _ => compL mg mt me Γb (xs.map enc) (acc ++ [v]) Q else compL mg mt me Γb (xs.map enc) acc Q
  refine h x List.mem_cons_self Q (fun v => compL mg mt me Γb (xs.map enc) (acc ++ [v]) Q) _ (fun hp => ?_) fun hp => ?_
  ·refine comp_fm p f enc xs _ Q (fun y hy => h y (List.mem_cons_of_mem _ hy)) ?_
   simpa [List.filter_cons, hp, List.append_assoc] using q
  ·refine comp_fm p f enc xs _ Q (fun y hy => h y (List.mem_cons_of_mem _ hy)) ?_
   simpa [List.filter_cons, hp] using q
end L2.VS
namespace L2
open PySem PySem.Spec PyProof.Rows
section
variable {X : Cx}
noncomputable def insAt (n : Nat) (x : Int) : Nat := if x < 0 then (x + (n : Int)).toNat else min x.toNat n
noncomputable def insL {α : Type} (xs : List α) (x : Int) (y : α) : List α := xs.take (insAt xs.length x) ++ y :: xs.drop (insAt xs.length x)
theorem insL_len {α : Type} (xs : List α) (x : Int) (y : α) : (insL xs x y).length = xs.length + 1 := by
 unfold insL
 rw [List.length_append, List.length_cons, List.length_take, List.length_drop]
 omega
theorem Vals.ins {xs : List V} {us : List Value} (r : Vals xs us) (x : Int) {y : V} {u : Value} (h : RelV y u) : Vals (insL xs x y) (insL us x u) := by
 unfold insL
 rw [r.length]
 exact (r.take _).append (.cons h (r.drop _))
noncomputable def pickL {α : Type} (ix : List Nat) (xs : List α) : List α := ix.filterMap fun i => xs[i]?
noncomputable def stepIx (n : Nat) (st : Int) : List Nat := let b := sliceBounds none none (some st) n; sliceRange b.1 b.2.1 b.2.2
end
end L2
namespace L2.VS
open PySem PySem.Spec PyProof.Rows
variable {P0 : Addr → Hp → Prop}
theorem _root_.L2.Dts.ins {G : Hp} {vs : List V} {ds : List D} (r : Dts G vs ds) (x : Int) {y : V} {d : D} (h : Dt G y d) : Dts G (insL vs x y) (insL ds x d) := by
 unfold insL
 rw [r.len]
 exact (r.tak _).app (.cons h (r.drp _))
noncomputable def insK (i : Nat) (x : D) (d : D) (Γ1 : En) (Q : Fl → Prop) : Prop := match Γ1[i]?, x with
 | some (.own ds), .int k => -(2 ^ 63) ≤ k ∧ k < 2 ^ 63 ∧ ds.length < 1000 ∧ Q (.nx (Γ1.set i (.own (insL ds k d))))
 | _, _ => False
noncomputable def mInsert (i : Nat) (ma mb : ME) : MS := fun Γ Q => match Γ[i]? with
 | some (.own _) => ma Γ fun x Γ1 => mb Γ1 fun d Γ2 => insK i x d Γ2 Q
 | _ => False
noncomputable def mStep (ma mb : ME) : MO := fun Γ Q => ma Γ fun x Γ1 => mb Γ1 fun y Γ2 => match x, y with
 | .list ds, .int st => st ≠ 0 ∧ Q (.own (pickL (stepIx ds.length st) ds)) Γ2
 | _, _ => False
theorem i_insert {i : Nat} {ma mb : ME} {Γ : En} {Q : Fl → Prop} {ds : List D} (h0 : Γ[i]? = some (.own ds)) (h : ma Γ fun x Γ1 => mb Γ1 fun d Γ2 => insK i x d Γ2 Q) : mInsert i ma mb Γ Q := by
 unfold mInsert
 rw [h0]
 exact h
theorem i_step {ma mb : ME} {Γ : En} {Q : Rv → En → Prop} (h : ma Γ fun x Γ1 => mb Γ1 fun y Γ2 => match x, y with | .list ds, .int st => st ≠ 0 ∧ Q (.own (pickL (stepIx ds.length st) ds)) Γ2 | _, _ => False) : mStep ma mb Γ Q := h
end L2.VS
namespace L2
open PySem PySem.Spec PyProof.Rows
section
variable {X : Cx}
noncomputable def bAt (ys : List V) (i : Nat) : Bool := match ys[i]? with
 | some (.bl b) => b
 | _ => false
noncomputable def isBl : V → Bool
 | .bl _ => true
 | _ => false
theorem truth_bl {A : Around} {ys : List V} {its : List Value} (r : Vals ys its) (hb : ys.all isBl = true) : TruthOf X.prog X.w A (fun i v => its.toArray[i]? = some v) (bAt ys) := by
 intro i v s Q E hP hq
 have hv : its[i]? = some v := by simpa using hP
 have hi : i < ys.length := by
  have := (List.getElem?_eq_some_iff.mp hv).1
  rw [r.length]; exact this
 obtain ⟨u, hu, ru⟩ := r.get (List.getElem?_eq_getElem hi)
 rw [hv] at hu
 cases hu
 have hbl := List.all_eq_true.mp hb ys[i] (List.getElem_mem hi)
 unfold bAt at hq
 rw [List.getElem?_eq_getElem hi] at hq
 cases e : ys[i] with
 | bl b =>
  rw [e] at ru hq
  cases ru
  exact wpAny_truthy_bool hq
 | _ => rw [e] at hbl; cases hbl
theorem range_all (ys : List V) (bs : List Bool) (h : ys = bs.map V.bl) : (List.range ys.length).all (bAt ys) = bs.all id := by
 subst h
 rw [Bool.eq_iff_iff, List.all_eq_true, List.all_eq_true]
 constructor
 ·intro h b hb
  obtain ⟨i, hi, e⟩ := List.mem_iff_getElem.mp hb
  have q := h i (List.mem_range.mpr (by simpa using hi))
  unfold bAt at q
  rw [List.getElem?_map, List.getElem?_eq_getElem hi, e] at q
  exact q
 ·intro h i hi
  have hi' : i < bs.length := by simpa using List.mem_range.mp hi
  unfold bAt
  rw [List.getElem?_map, List.getElem?_eq_getElem hi']
  exact h _ (List.getElem_mem hi')
theorem all_bl (bs : List Bool) : (bs.map V.bl).all isBl = true := by simp [isBl]
theorem consume (hc : X.calm = true) {pins : List (Addr × Obj)} {σ : St} {H : Hp} {s : Shared} {p : Addr} {bs : List Bool} {f : (Nat → Bool) → List Nat → Bool} {Q : Value → Shared → Prop} (I : Inv X pins σ H s) (hx : SqL X.K H p (bs.map V.bl))
  (h : ∀ s', Inv X pins σ H s' → Q (.bool (f (bAt (bs.map V.bl)) (List.range (bs.map V.bl).length))) s') :
  wpAny (model X.prog X.w) X.A.in1 (pyIter (.ref p)) (fun it s₂ => ∃ I fp wr n P St tr, it = .ref I ∧ Walks X.prog X.w X.A.in1 I fp wr n P St ∧ St 0 s₂.heap ∧ TruthOf X.prog X.w X.A.in1 P tr ∧
   ∀ h' tk, (∀ b o, b ∉ wr → s₂.heap.get? b = some o → h'.get? b = some o) → Q (.bool (f tr (List.range n))) { s₂ with heap := h', toks := tk }) X.xe s := by
 obtain ⟨its, r, ht, hz⟩ := I.list hx
 have hlt : p < s.heap.objs.size := by
  obtain ⟨o, ho, _⟩ := ht.isList
  exact Heap.lt_size ho
 refine wpAny_pyIter_list ht.isList ?_
 refine ⟨s.heap.objs.size, _, _, _, _, _, bAt (bs.map V.bl), rfl, Walks.list (A := X.A.in1) (show X.A.in1.handled = none from I.ok.hd hc) s.heap.objs.size p (Nat.ne_of_lt hlt) its.toArray, ⟨⟨_, Heap.get?_push_size _ rfl, rfl, rfl⟩, ?_⟩, truth_bl r (all_bl bs), fun h' tk hk => ?_⟩
 ·obtain ⟨o, ho, q⟩ := ht.isList
  exact ⟨o, Heap.get?_push_of_some _ ho, q⟩
 ·have hl : its.toArray.size = (bs.map V.bl).length := by rw [List.size_toArray]; exact r.length.symm
  rw [hl]
  refine h _ (I.kept (h' := h') (t' := tk) fun b o e => hk b o (by simp; exact Nat.ne_of_lt (Heap.lt_size e)) (Heap.get?_push_of_some _ e))
theorem call_allL (hc : X.calm = true) : CallR X (.builtin "all") (fun xs H Q => ∃ (p : Addr) (bs : List Bool), xs = [.ref p] ∧ SqL X.K H p (bs.map V.bl) ∧ Q (.bl (bs.all id)) H) := by
 intro pins s σ H xs us Q I r h
 obtain ⟨p, bs, rfl, hx, q⟩ := h
 obtain ⟨u, rfl, ru⟩ := vals1 r
 cases ru
 exact call_all_walk (consume (f := fun tr l => l.all tr) hc I hx fun s' I' => ⟨.bl _, H, I', rfl, by rw [range_all _ bs rfl]; exact q⟩)
end
end L2
namespace L2.VS
open PySem PySem.Spec PyProof.Rows
variable {P0 : Addr → Hp → Prop}
noncomputable def boolsD : List D → Option (List Bool)
 | [] => some []
 | .bool b :: ds => (boolsD ds).map (b :: ·)
 | _ :: _ => none
theorem bools_vals {G : Hp} : ∀ {vs : List V} {ds : List D} {bs : List Bool}, Dts G vs ds → boolsD ds = some bs → vs = bs.map V.bl
 | _, _, _, .nil, e => by cases e; rfl
 | _, d :: ds, bs, .cons a b, e => by
  cases a with
  | bl c =>
   show _
   have e' : (boolsD ds).map (c :: ·) = some bs := e
   cases e2 : boolsD ds with
   | none => rw [e2] at e'; cases e'
   | some cs =>
    rw [e2] at e'
    cases e'
    rw [bools_vals b e2]
    rfl
  | _ => cases e
noncomputable def mBs (f : List Bool → Bool) (ma : ME) : ME := fun Γ Q => ma Γ fun x Γ1 => match x with
 | .list ds => (match boolsD ds with
  | some bs => Q (.bool (f bs)) Γ1
  | none => False)
 | _ => False
abbrev mAll := mBs fun bs => bs.all id
theorem vt_bs {K : PySem.W.Frag} {f : List Bool → Bool} {ta : TE} {ma : ME} (ha : VT P0 ta ma) : VT P0 (tCB (fun xs H Q => ∃ (p : Addr) (bs : List Bool), xs = [.ref p] ∧ SqL K H p (bs.map V.bl) ∧ Q (.bl (f bs)) H) (tCons ta tNil)) (mBs f ma) := by
 intro F Γ σ G H Q Qm r m k
 refine ha F Γ σ G H _ _ r m fun d Γ1 x G1 H1 m1 s1 r1 d1 => ?_
 split at m1
 ·split at m1
  ·rename_i bs e
   cases d1 with
   | @lst p xs _ hp rs =>
    refine ⟨p, bs, rfl, SqL.of ?_, k _ _ _ _ _ m1 s1 r1 (.bl _)⟩
    rw [← bools_vals rs e]
    exact r1.fr.sub _ _ hp
  ·exact m1.elim
 ·exact m1.elim
theorem vt_all {K : PySem.W.Frag} {ta : TE} {ma : ME} (ha : VT P0 ta ma) : VT P0 (tCB (fun xs H Q => ∃ (p : Addr) (bs : List Bool), xs = [.ref p] ∧ SqL K H p (bs.map V.bl) ∧ Q (.bl (bs.all id)) H) (tCons ta tNil)) (mAll ma) := vt_bs ha
noncomputable def mChain (p p' : Int → Int → Bool) (ma mb mc : ME) : ME := fun Γ Q => ma Γ fun x Γ1 => mb Γ1 fun y Γ2 => match x, y with
 | .int i, .int j => if p i j = true then mc Γ2 fun z Γ3 => (match z with
   | .int l => Q (.bool (p' j l)) Γ3
   | _ => False) else Q (.bool false) Γ2
 | _, _ => False
theorem i_bs {f : List Bool → Bool} {ma : ME} {Γ : En} {Q : D → En → Prop} (h : ma Γ fun x Γ1 => match x with | .list ds => (match boolsD ds with | some bs => Q (.bool (f bs)) Γ1 | none => False) | _ => False) : mBs f ma Γ Q := h
theorem i_chain {p p' : Int → Int → Bool} {ma mb mc : ME} {Γ : En} {Q : D → En → Prop} (h : ma Γ fun x Γ1 => mb Γ1 fun y Γ2 => match x, y with
 | .int i, .int j => if p i j = true then mc Γ2 fun z Γ3 => (match z with
   | .int l => Q (.bool (p' j l)) Γ3
   | _ => False) else Q (.bool false) Γ2
 | _, _ => False) : mChain p p' ma mb mc Γ Q := h
end L2.VS
namespace L2.VS
open PySem PySem.Spec PyProof.Rows
variable {P0 : Addr → Hp → Prop}
noncomputable def tameS : Option Sl → Sl
 | some (.val d) => if noLst d = true then .val d else .no
 | some (.own es) => if noLsts es = true then .own es else .no
 | some .pen => .pen
 | _ => .no
noncomputable def backE (as : List Nat) (Γ Γ1 : En) : En := (List.range Γ.length).map fun j => if as.contains j = true then tameS Γ1[j]? else (Γ[j]?).getD .no
noncomputable def mPeekS (as : List Nat) (m : MS) : MS := fun Γ Q => m (pubA Γ) fun fl => match fl with
 | .nx Γ1 => Γ1.length = Γ.length ∧ Q (.nx (backE as Γ Γ1))
 | .bk Γ1 => Γ1.length = Γ.length ∧ Q (.bk (backE as Γ Γ1))
 | .ct Γ1 => Γ1.length = Γ.length ∧ Q (.ct (backE as Γ Γ1))
 | .rt rv => Q (.rt rv)
theorem i_peekS {as : List Nat} {m : MS} {Γ : En} {Q : Fl → Prop} (h : m (pubA Γ) fun fl => match fl with
 | .nx Γ1 => Γ1.length = Γ.length ∧ Q (.nx (backE as Γ Γ1))
 | .bk Γ1 => Γ1.length = Γ.length ∧ Q (.bk (backE as Γ Γ1))
 | .ct Γ1 => Γ1.length = Γ.length ∧ Q (.ct (backE as Γ Γ1))
 | .rt rv => Q (.rt rv)) : mPeekS as m Γ Q := h
end L2.VS
namespace L2.VS
open PySem PySem.Spec PyProof.Rows
variable {P0 : Addr → Hp → Prop} {K : PySem.W.Frag}
noncomputable def mSlT (ma : ME) (ml mh : MP) : ME := fun Γ Q => ma Γ fun x Γ1 => ml Γ1 fun lo Γ2 => mh Γ2 fun hi Γ3 => match x with
 | .tuple ds => ¬ (HT.sIx ds.length 0 lo = 0 ∧ HT.sIx ds.length ds.length hi = ds.length) ∧ Q (.tuple (cutD ds lo hi)) Γ3
 | _ => False
noncomputable def mCatT (ma mb : ME) : ME := fun Γ Q => ma Γ fun x Γ1 => mb Γ1 fun y Γ2 => match x, y with
 | .tuple ds, .tuple es => ds ≠ [] ∧ es ≠ [] ∧ ds.length + es.length ≤ 1000 ∧ Q (.tuple (ds ++ es)) Γ2
 | _, _ => False
theorem vt_slT {ta : TE} {ma : ME} {tl th : TO} {ml mh : MP} (ha : VT P0 ta ma) (hl : VP P0 tl ml) (hh : VP P0 th mh) : VT P0 (tSl (rSlT K) ta tl th) (mSlT ma ml mh) := by
 intro F Γ σ G H Q Qm r m k
 refine ha F Γ σ G H _ _ r m fun d Γ1 x G1 H1 m1 s1 r1 d1 => ?_
 refine hl F Γ1 σ G1 H1 _ _ r1 m1 fun lo Γ2 G2 H2 m2 s2 r2 => ?_
 refine hh F Γ2 σ G2 H2 _ _ r2 m2 fun hi Γ3 G3 H3 m3 s3 r3 => ?_
 split at m3
 ·have d1 := Dt.same (s2.trans s3) _ _ d1
  cases d1 with
  | @tup p xs _ hp rs =>
   refine ⟨p, xs, rfl, SqT.of (r3.fr.sub _ _ hp), by rw [rs.len]; exact m3.1, fun l hl => ?_⟩
   have g := same_new (r3.fr.gfresh hl) (.tup (cutV xs lo hi))
   exact k _ _ _ _ _ m3.2 (((s1.trans s2).trans s3).trans g) (r3.new hl) (.tup upd_same (Dts.same g _ _ (rs.cut lo hi)))
 ·exact m3.elim
theorem i_slT {ma : ME} {ml mh : MP} {Γ : En} {Q : D → En → Prop} (h : ma Γ fun x Γ1 => ml Γ1 fun lo Γ2 => mh Γ2 fun hi Γ3 => match x with | .tuple ds => ¬ (HT.sIx ds.length 0 lo = 0 ∧ HT.sIx ds.length ds.length hi = ds.length) ∧ Q (.tuple (cutD ds lo hi)) Γ3 | _ => False) : mSlT ma ml mh Γ Q := h
theorem i_catT {ma mb : ME} {Γ : En} {Q : D → En → Prop} (h : ma Γ fun x Γ1 => mb Γ1 fun y Γ2 => match x, y with | .tuple ds, .tuple es => ds ≠ [] ∧ es ≠ [] ∧ ds.length + es.length ≤ 1000 ∧ Q (.tuple (ds ++ es)) Γ2 | _, _ => False) : mCatT ma mb Γ Q := h
end L2.VS
namespace L2
open PySem PySem.Spec PyProof.Rows
section
variable {X : Cx}
end
end L2
namespace L2.VS
open PySem PySem.Spec PyProof.Rows
variable {P0 : Addr → Hp → Prop} {A : Nat → Bool}
noncomputable def mAug (i : Nat) (f : Int → Int → Int) (m : ME) : MS := fun Γ Q => match Γ[i]? with
 | some (.val (.int a)) => m Γ fun d Γ1 => match d with
  | .int b => Q (.nx (Γ1.set i (.val (.int (f a b)))))
  | _ => False
 | _ => False
theorem i_aug {i : Nat} {f : Int → Int → Int} {m : ME} {Γ : En} {a : Int} {Q : Fl → Prop} (h0 : Γ[i]? = some (.val (.int a))) (h : m Γ fun d Γ1 => match d with | .int b => Q (.nx (Γ1.set i (.val (.int (f a b))))) | _ => False) : mAug i f m Γ Q := by
 unfold mAug
 rw [h0]
 exact h
noncomputable def mListRng (ma : ME) : MO := fun Γ Q => ma Γ fun x Γ1 => match x with
 | .int j => (0 ≤ j ∧ j ≤ 1000) ∧ Q (.own (rangeD 0 j.toNat)) Γ1
 | _ => False
theorem i_listRng {ma : ME} {Γ : En} {Q : Rv → En → Prop} (h : ma Γ fun x Γ1 => match x with | .int j => (0 ≤ j ∧ j ≤ 1000) ∧ Q (.own (rangeD 0 j.toNat)) Γ1 | _ => False) : mListRng ma Γ Q := h
end L2.VS
namespace L2.VS
open PySem PySem.Spec PyProof.Rows
end L2.VS
namespace PySem
open Sem (wp)
namespace F
end F
abbrev IsZipK (h : Heap) (z TI TO : Addr) (f0 f1 : Value) : Prop :=
 h.get? z = some { cls := .type "zip", dict := none, data := .fields #[f0, f1, .bool false, .ref TI, .ref TO], slots := #[] }
section
variable {prog : Program} {w : World} {A : Around} {E : Value → Shared → Prop} {s : Shared}
end
end PySem
namespace PySem
open Sem (wp)
structure ZAt (N z TI TO i1 i2 l1 l2 : Addr) (xs ys : Array Value) (i : Nat) (h : Heap) : Prop where
 tI : IsPair h TI (.ref i1) (.ref i2)
 it1 : h.IsListIter i1 l1 i
 it2 : h.IsListIter i2 l2 i
 li1 : h.IsList l1 xs
 li2 : h.IsList l2 ys
 zz : (i = 0 ∧ IsZip h z TI TO .none ∧ ∃ a b, IsPair h TO a b) ∨ ∃ T b1 oT, IsZipK h z TI TO (rawInt (T : Addr)) (.bool b1) ∧ h.get? T = some oT ∧ N ≤ T
noncomputable def AccZ (N : Nat) (xs ys : Array Value) (i : Nat) (h : Heap) (acc : Array Value) : Prop :=
 acc.size = i ∧ ∀ (j : Nat) v, acc[j]? = some v → ∃ (T : Addr) (x y : Value), v = .ref T ∧ N ≤ T ∧ xs[j]? = some x ∧ ys[j]? = some y ∧ IsPair h T x y
theorem AccZ.up {N : Nat} {xs ys : Array Value} {i : Nat} {h h' : Heap} {acc : Array Value} (a : AccZ N xs ys i h acc) (k : ∀ b o, N ≤ b → h.get? b = some o → h'.get? b = some o) : AccZ N xs ys i h' acc :=
 ⟨a.1, fun j v e => let ⟨T, x, y, e1, e2, e3, e4, e5⟩ := a.2 j v e; ⟨T, x, y, e1, e2, e3, e4, k _ _ e2 e5⟩⟩
theorem AccZ.push {N : Nat} {xs ys : Array Value} {i : Nat} {h : Heap} {acc : Array Value} {T : Addr} {x y : Value} (a : AccZ N xs ys i h acc) (hT : N ≤ T) (hx : xs[i]? = some x) (hy : ys[i]? = some y) (hp : IsPair h T x y) : AccZ N xs ys (i + 1) h (acc.push (.ref T)) := by
 refine ⟨by rw [Array.size_push, a.1], fun j v hj => ?_⟩
 rw [Array.getElem?_push] at hj
 split at hj
 ·rename_i e; rw [a.1] at e; cases hj; rw [e]; exact ⟨T, x, y, rfl, hT, hx, hy, hp⟩
 ·exact a.2 j v hj
section
variable {prog : Program} {w : World} {A : Around} {R : Result → Shared → Prop}
end
section
variable {prog : Program} {w : World} {A : Around} {E : Value → Shared → Prop} {s : Shared}
end
end PySem
namespace L2
open PySem PySem.Spec PyProof.Rows
section
variable {X : Cx} {pins : List (Addr × Obj)} {σ : List (Option V)} {H : Hp} {s : Shared}
theorem Vals.at {xs : List V} {us : List Value} (h : Vals xs us) {i : Nat} {u : Value} (e : us[i]? = some u) : ∃ x, xs[i]? = some x ∧ RelV x u := by
 induction h generalizing i with
 | nil => simp at e
 | @cons x w xs us hx _ ih =>
  cases i with
  | zero => simp at e; subst e; exact ⟨x, rfl, hx⟩
  | succ i => simpa using ih (by simpa using e)
end
end L2
namespace L2.VS
open PySem PySem.Spec PyProof.Rows
variable {P0 : Addr → Hp → Prop} {K : PySem.W.Frag}
noncomputable def zipD (ds es : List D) : List D := (ds.zip es).map fun p => .tuple [p.1, p.2]
noncomputable def mListZip (ma mb : ME) : MO := fun Γ Q => ma Γ fun x Γ1 => mb Γ1 fun y Γ2 => match x, y with
 | .list ds, .list es => Q (.own (zipD ds es)) Γ2
 | _, _ => False
theorem _root_.L2.Dts.zip {G : Hp} : ∀ {xs ys : List V} {ds es : List D}, Dts G xs ds → Dts G ys es → Paired (fun (z : V × V) (e : D × D) => Dt G z.1 e.1 ∧ Dt G z.2 e.2) (xs.zip ys) (ds.zip es) := by
 intro xs ys ds es h g
 induction ds generalizing xs ys es with
 | nil => cases h; exact .nil
 | cons x ds ih =>
  cases h with
  | cons a b =>
   cases es with
   | nil => cases g; exact .nil
   | cons y es => cases g with | cons c d => exact .cons ⟨a, c⟩ (ih b d)
theorem i_listZip {ma mb : ME} {Γ : En} {Q : Rv → En → Prop} (h : ma Γ fun x Γ1 => mb Γ1 fun y Γ2 => match x, y with | .list ds, .list es => Q (.own (zipD ds es)) Γ2 | _, _ => False) : mListZip ma mb Γ Q := h
end L2.VS
namespace L2
open PySem PySem.Spec PyProof.Rows
section
variable {X : Cx} {pins : List (Addr × Obj)} {σ : List (Option V)} {H : Hp} {s : Shared}
theorem Inv.turnedL {h' : Heap} {t' : Nat} {ch : List Addr} {T : Addr} {o : HO} (I : Inv X pins σ H s) (k : ∀ b u, b ∉ ch → s.heap.get? b = some u → h'.get? b = some u) (hch : ∀ b ∈ ch, FpOk X pins H b) (hT : s.heap.objs.size ≤ T)
  (new : ObjOk X.prog X.w (upd H T o) h' T o) : Inv X pins σ (upd H T o) { s with heap := h', toks := t' } := by
 have hn := I.hok.fresh hT
 have nch : ∀ b u, H b = some u → b ∉ ch := fun b u e z => by rw [(hch b z).1] at e; cases e
 refine I.step (g' := s.gens) (d' := s.drawn) (ch := ch) (fun b hb => ⟨(hch b hb).2.2.2.1, (hch b hb).2.1, (hch b hb).2.2.2.2.1, (hch b hb).2.2.2.2.2⟩) (fun b o _ _ hc e _ => k b o hc e) (fun b o _ _ hc e _ => ⟨o.slots, k b o hc e⟩)
  (fun b u _ e n => by rw [upd_ne (Nat.ne_of_lt (Nat.lt_of_lt_of_le (Heap.lt_size e) hT))]; exact n) (fun b o hc e => ⟨o, k b o hc e⟩) (fun b xs q => by rw [upd_ne (ne_of_none q hn)]; exact q) (fun b u xs q => by rw [upd_ne (ne_of_none q hn)]; exact q)
  (fun b ps q => ⟨#[], by rw [upd_ne (ne_of_none q hn), q]; simp⟩) (fun m hm => ?_) (fun b u e => ?_) I.bare
 ·obtain ⟨o, es, ep, ho, r⟩ := hm
  exact ⟨o, es, ep, k _ o (fun z => (hch _ z).2.1 rfl) ho, r⟩
 ·by_cases hb : b = T
  ·subst hb; rw [upd_same] at e; cases e; exact new
  ·rw [upd_ne hb] at e
   refine (I.hok b u e).stay (fun c v hc q => k c v ?_ q) (fun c q => by rw [upd_ne (ne_of_none q hn)]; exact q) fun c xs q => by rw [upd_ne (ne_of_none q hn)]; exact q
   rcases hc with z | z
   ·rw [z]; exact nch b u e
   ·exact nch c _ z
theorem Inv.turnedC {h' : Heap} {t' : Nat} {ch : List Addr} (I : Inv X pins σ H s) (k : ∀ b u, b ∉ ch → s.heap.get? b = some u → h'.get? b = some u) (hch : ∀ b ∈ ch, FpOk X pins H b) : Inv X pins σ H { s with heap := h', toks := t' } := by
 have nch : ∀ b u, H b = some u → b ∉ ch := fun b u e z => by rw [(hch b z).1] at e; cases e
 refine I.step (g' := s.gens) (d' := s.drawn) (ch := ch) (fun b hb => ⟨(hch b hb).2.2.2.1, (hch b hb).2.1, (hch b hb).2.2.2.2.1, (hch b hb).2.2.2.2.2⟩) (fun b o _ _ hc e _ => k b o hc e) (fun b o _ _ hc e _ => ⟨o.slots, k b o hc e⟩)
  (fun b u _ e n => n) (fun b o hc e => ⟨o, k b o hc e⟩) (fun b xs q => q) (fun b u xs q => q) (fun b ps q => ⟨#[], by rw [q]; simp⟩) (fun m hm => ?_) (fun b u e => ?_) I.bare
 ·obtain ⟨o, es, ep, ho, r⟩ := hm
  exact ⟨o, es, ep, k _ o (fun z => (hch _ z).2.1 rfl) ho, r⟩
 ·refine (I.hok b u e).stay (fun c v hc q => k c v ?_ q) (fun _ q => q) fun _ _ q => q
  rcases hc with z | z
  ·rw [z]; exact nch b u e
  ·exact nch c _ z
end
noncomputable def Ite (K : PySem.W.Frag) (a : Addr) : It :=
  ⟨fun i H => ∃ xs x, SqL K H a xs ∧ xs[i]? = some x,
   fun i H v H' => ∃ T x, v = .ref T ∧ H T = none ∧ H' = upd H T (.tup [.int (i : Int), x]) ∧ ∀ xs, SqL K H a xs → xs[i]? = some x,
   fun i H => ∃ xs, SqL K H a xs ∧ xs.length ≤ i⟩
theorem turn_enum {P : Program} {w : World} {K : PySem.W.Frag} {elts : List Expr} {cx} {tp : Pos} {e it a : Addr} (hne : e ≠ it) : Turn P w K (.Tuple elts cx tp) (Ite K a) [e, it] e
  (fun i h => (∃ old, IsEnum h e it (i : Int) old) ∧ h.IsListIter it a i) where
 mem := by simp
 obj := fun i h st c hc => by
  obtain ⟨⟨old, he⟩, ⟨o1, e1, c1, d1⟩⟩ := st
  simp only [List.mem_cons, List.not_mem_nil, or_false] at hc
  rcases hc with rfl | rfl
  ·exact ⟨_, he, fun v z => by cases z⟩
  ·exact ⟨o1, e1, fun v z => by rw [d1] at z; cases z⟩
 keep := fun i h h' st k => by
  obtain ⟨⟨old, he⟩, h1⟩ := st
  exact ⟨⟨old, k e (by simp) _ he⟩, h1.at fun o q => k it (by simp) o q⟩
 item := by
  intro X hP hw hK hc i pins s σ H E I hf st hg
  subst hP hw hK
  obtain ⟨xs, x, qx, ex⟩ := hg
  obtain ⟨ix, rx, px, zx⟩ := I.list qx
  obtain ⟨ux, gx, rux⟩ := rx.get ex
  obtain ⟨⟨old, he⟩, h1⟩ := st
  refine wpAny_pyNext_enum_item he h1 px.isList (x := ux) (by simpa using gx) hne fun h' a1 a2 a3 a4 kp => ?_
  refine ⟨_, rfl, wpAny_letOwnedTupleGo_enum a1 fun h'' he' hs' => ?_⟩
  have hs' : Heap.SameBut e h' h'' := hs'
  have nT : s.heap.objs.size ≠ e := Nat.ne_of_gt (Heap.lt_size he)
  have hT : h''.get? s.heap.objs.size = some { cls := .type "tuple", data := .seq #[.int i s.toks, ux] } := hs'.extBut _ _ nT a3
  have I2 : Inv X pins σ (upd H s.heap.objs.size (.tup [.int (i : Int), x])) { s with heap := h'', toks := s.toks + 1 } := I.turnedL (t' := s.toks + 1) (ch := [e, it])
   (fun c o hc q => hs'.extBut _ _ (fun q => hc (by simp [q])) (kp c o (fun q => hc (by simp [q])) (fun q => hc (by simp [q])) q))
   hf (Nat.le_refl _) ⟨small_le (by show 2 ≤ 1000; decide), [.int i s.toks, ux], .cons ⟨_, rfl⟩ (.cons rux .nil), ⟨_, hT, rfl, _, rfl⟩⟩
  have fr := I.hok.fresh (Nat.le_refl s.heap.objs.size)
  refine ⟨.ref s.heap.objs.size, _, I2, rfl, ⟨_, x, rfl, fr, rfl, fun xs' q1 => by rw [I.list_inj q1 qx]; exact ex⟩, ⟨⟨_, by rw [Int.natCast_add]; exact he'⟩, a2.extBut hs'.extBut (Ne.symm hne)⟩, fun c hc => ?_⟩
  have lt : c < s.heap.objs.size := by
   simp only [List.mem_cons, List.not_mem_nil, or_false] at hc
   rcases hc with rfl | rfl
   ·exact Heap.lt_size he
   ·obtain ⟨_, q, _⟩ := h1; exact Heap.lt_size q
  rw [upd_ne (Nat.ne_of_lt lt)]
  exact (hf c hc).1
 done := by
  intro X hP hw hK hc i pins s σ H E I hf st hg
  subst hP hw hK
  obtain ⟨xs, qx, hle⟩ := hg
  obtain ⟨ix, rx, px, zx⟩ := I.list qx
  obtain ⟨⟨old, he⟩, h1⟩ := st
  have lx := rx.length
  refine wpAny_pyNext_enum_end (I.ok.hd hc) he h1 px.isList (by simp; omega) fun h' kp => ⟨rfl, I.turnedC (t' := s.toks) (ch := [e, it]) (fun c o hc q => ?_) hf⟩
  exact kp c o (fun q => hc (by simp [q])) q
 self := fun _ _ _ _ _ st h => wpAny_pyIter_enum st.1.choose_spec h
section
variable {X : Cx}
noncomputable def iEnum (K : PySem.W.Frag) (ta : TA) : TI := fun σ H R => ta σ H fun vs H1 => ∃ p xs, vs = [.ref p] ∧ SqL K H1 p xs ∧ R (Ite K p) H1
theorem pi_enum {a : Expr} {ta : TA} {p pos tp : Pos} {elts : List Expr} {cx} (hg : Gl X "enumerate") (hm : X.mg "enumerate" = none) (ha : PA X [a] ta) (hs : starEach [a] X.env = [(false, eval a X.env)] := by rfl) :
  PI X (.Tuple elts cx tp) (.Call (.Name "enumerate" p) [a] [] pos) (iEnum X.K ta) := by
 intro pins s σ H R I h
 refine wpAny_Call_Name_kw (ld_blt I hg hm boot_enumerate ?_ (by decide) (by decide))
 refine PyProof.Rows.callWith_type1 (rest := []) (thn (ha pos pins s σ H _ I h) fun us s1 ⟨vs, H1, I1, r1, p, xs, e, hp, k⟩ => ?_) hs rfl
 subst e
 cases r1 with
 | cons ra rc =>
  cases rc
  cases ra
  obtain ⟨ix, rx, px, zx⟩ := I1.list hp
  refine call_enumerate_list px.isList fun h' he hit sz kp => ?_
  refine wpAny_pyIter_enum he ?_
  have I2 : Inv X pins σ H1 { s1 with heap := h' } := I1.kept (t' := s1.toks) kp
  refine ⟨_, [s1.heap.objs.size + 1, s1.heap.objs.size], _, _, H1, rfl, I2, turn_enum (Nat.ne_of_gt (Nat.lt_succ_self _)), ⟨⟨_, he⟩, hit⟩, fun c hc => ?_, k⟩
  have hle : s1.heap.objs.size ≤ c := by
   simp only [List.mem_cons, List.not_mem_nil, or_false] at hc
   rcases hc with rfl | rfl
   ·exact Nat.le_succ _
   ·exact Nat.le_refl _
  exact I1.fpOk hle (I1.hok.fresh hle)
end
end L2
namespace L2.VS
open PySem PySem.Spec PyProof.Rows
variable {P0 : Addr → Hp → Prop} {K : PySem.W.Frag}
noncomputable def mItZ (ma mb : ME) : MD := fun Γ Q => ma Γ fun x Γ1 => mb Γ1 fun y Γ2 => match x, y with
 | .list ds, .list es => Q (zipD ds es) Γ2
 | _, _ => False
noncomputable def enumD (ds : List D) : List D := (List.range ds.length).map fun (i : Nat) => PyData.tuple [.int (i : Int), ds.getD i .none]
noncomputable def mItE (ma : ME) : MD := fun Γ Q => ma Γ fun x Γ1 => match x with
 | .list ds => Q (enumD ds) Γ1
 | _ => False
theorem vi_enum {ta : TE} {ma : ME} (ha : VT P0 ta ma) : VI P0 (iEnum K (tCons ta tNil)) (mItE ma) := by
 intro F Γ σ G H Q Qm r m k
 refine ha F Γ σ G H _ _ r m fun d Γ1 x G1 H1 m1 s1 r1 d1 => ?_
 split at m1
 ·rename_i ds
  cases d1 with
  | @lst p xs _ hp rs =>
   refine ⟨p, xs, rfl, SqL.of (r1.fr.sub _ _ hp), k _ _ _ _ _ m1 s1 r1 fun F3 Γ3 σ3 G3 H3 s3 r3 => ⟨fun i d e => ?_, ?_⟩⟩
   ·have hp3 := SqL.of (K := K) (r3.fr.sub _ _ (s3 _ _ hp))
    have hi : i < ds.length := by
     have := (List.getElem?_eq_some_iff.mp e).1
     unfold enumD at this
     simpa using this
    have ed : d = .tuple [.int (i : Int), ds[i]] := by
     unfold enumD at e
     rw [List.getElem?_map, List.getElem?_range hi] at e
     cases e
     simp [List.getD_eq_getElem?_getD, List.getElem?_eq_getElem hi]
    subst ed
    obtain ⟨v1, g1, dv1⟩ := Dts.get rs (List.getElem?_eq_getElem hi)
    refine ⟨⟨xs, v1, hp3, g1⟩, fun v H4 hy => ?_⟩
    obtain ⟨T, x', rfl, hT, rfl, hx⟩ := hy
    have h1 := hx xs hp3
    rw [g1] at h1; cases h1
    have g := same_new (r3.fr.gfresh hT) (.tup [.int (i : Int), v1])
    exact ⟨_, g, r3.new hT, .tup upd_same (.cons (.int _) (.cons (Dt.same (s3.trans g) _ _ dv1) .nil))⟩
   ·refine ⟨xs, SqL.of (r3.fr.sub _ _ (s3 _ _ hp)), ?_⟩
    have l1 := rs.len
    have l3 : (enumD ds).length = ds.length := by unfold enumD; rw [List.length_map, List.length_range]
    rw [l3, l1]
    exact Nat.le_refl _
 ·exact m1.elim
theorem i_itZ {ma mb : ME} {Γ : En} {Q : List D → En → Prop} (h : ma Γ fun x Γ1 => mb Γ1 fun y Γ2 => match x, y with | .list ds, .list es => Q (zipD ds es) Γ2 | _, _ => False) : mItZ ma mb Γ Q := h
theorem i_itE {ma : ME} {Γ : En} {Q : List D → En → Prop} (h : ma Γ fun x Γ1 => match x with | .list ds => Q (enumD ds) Γ1 | _ => False) : mItE ma Γ Q := h
end L2.VS
namespace L2
open PySem PySem.Spec PyProof.Rows
section
variable {X : Cx}
end
end L2
namespace L2.VS
open PySem PySem.Spec PyProof.Rows
variable {P0 : Addr → Hp → Prop}
noncomputable def mIsB (neg : Bool) (ma mb : ME) : ME := fun Γ Q => ma Γ fun x Γ1 => mb Γ1 fun y Γ2 => match x, y with
 | .bool b, .bool c => Q (.bool (if neg then !decide (b = c) else decide (b = c))) Γ2
 | _, _ => False
theorem i_isB {neg : Bool} {ma mb : ME} {Γ : En} {Q : D → En → Prop} (h : ma Γ fun x Γ1 => mb Γ1 fun y Γ2 => match x, y with | .bool b, .bool c => Q (.bool (if neg then !decide (b = c) else decide (b = c))) Γ2 | _, _ => False) : mIsB neg ma mb Γ Q := h
end L2.VS
namespace L2.VS
open PySem PySem.Spec PyProof.Rows
variable {P0 : Addr → Hp → Prop} {ta tb : TE} {ma mb : ME}
noncomputable def mRep (ma mb : ME) : MO := fun Γ Q => ma Γ fun x Γ1 => mb Γ1 fun y Γ2 => match x, y with
 | .list ds, .int k => (-(2 ^ 62) ≤ k ∧ k < 2 ^ 62) ∧ ds.length * k.toNat ≤ 1000 ∧ Q (.own (List.replicate k.toNat ds).flatten) Γ2
 | _, _ => False
theorem i_rep {ma mb : ME} {Γ : En} {Q : Rv → En → Prop} (h : ma Γ fun x Γ1 => mb Γ1 fun y Γ2 => match x, y with
 | .list ds, .int k => (-(2 ^ 62) ≤ k ∧ k < 2 ^ 62) ∧ ds.length * k.toNat ≤ 1000 ∧ Q (.own (List.replicate k.toNat ds).flatten) Γ2
 | _, _ => False) : mRep ma mb Γ Q := h
end L2.VS
namespace LT
abbrev Ln := Rat × Rat
noncomputable def pl (l : Ln) (t : Rat) : Rat := l.1 + l.2 * t
noncomputable def mt (l k : Ln) : Rat := (k.1 - l.1) / (l.2 - k.2)
noncomputable def mtO (l k : Ln) : Option Rat := if l.2 = k.2 then none else some (mt l k)
end LT
namespace L2
open PySem PySem.Calls PyProof.Rows PySem.W
section
variable {cmp : Nat → Nat → (Bool → Shared → Prop) → Shared → Prop}
end
section
variable {prog : Program} {w : World} {A : Around} {E : Value → Shared → Prop} {s : Shared} {Q : Bool → Shared → Prop}
end
section
variable {prog : Program} {w : World} {A : Around} {E : Value → Shared → Prop} {s : Shared}
end
end L2
namespace L2
open PySem PySem.Spec PyProof.Rows
theorem ObjOk.there {P : Program} {w : World} {H : Hp} {h : Heap} {a : Addr} {o : HO} (x : ObjOk P w H h a o) : ∃ u, h.get? a = some u := by
 cases o with
 | lst xs => obtain ⟨_, _, _, _, e⟩ := x; exact ⟨_, e⟩
 | tup xs => obtain ⟨_, _, _, o, e, _⟩ := x; exact ⟨_, e⟩
 | dK kvs => obtain ⟨_, _, _, _, o, _, _, e, _⟩ := x; exact ⟨_, e⟩
 | dT kvs => obtain ⟨_, _, _, _, o, _, _, e, _⟩ := x; exact ⟨_, e⟩
 | set S n => obtain ⟨o, _, _, _, e, _⟩ := x; exact ⟨_, e⟩
 | ins C dx fs => obtain ⟨_, _, _, e, _⟩ := x; exact ⟨_, e⟩
 | own y => obtain ⟨_, e⟩ := x; exact ⟨_, e⟩
 | xd fs => obtain ⟨_, ⟨_, _, _, e, _⟩, _⟩ := x; exact ⟨_, e⟩
 | rng lo hi => obtain ⟨_, _, _, e⟩ := x; exact ⟨_, e⟩
 | frz ob u => obtain ⟨e, _⟩ := x; exact ⟨_, e⟩
 | tbl ps => exact ⟨_, show h.get? a = some _ from x⟩
 | met f y => exact ⟨_, show h.get? a = some _ from x⟩
 | ext φ => obtain ⟨_, ⟨_, e⟩, _⟩ := x; exact ⟨_, e⟩
section
variable {X : Cx}
end
end L2
namespace L2.VS
open PySem PySem.Spec PyProof.Rows
variable {P0 : Addr → Hp → Prop} {A : Nat → Bool}
noncomputable def bEl (d : D) (ds : List D) : Bx where
 P v fp G H := ∃ p q x vs, v = .ref p ∧ fp = [p, q] ∧ p ≠ q ∧ H p = some (.tup [x, .ref q]) ∧ H q = some (.lst vs) ∧ Dt G x d ∧ Dts G vs ds
 mono g h := by
  obtain ⟨p, q, x, vs, h1, h2, h3, h4, h5, h6, h7⟩ := h
  exact ⟨p, q, x, vs, h1, h2, h3, h4, h5, Dt.same g _ _ h6, Dts.same g _ _ h7⟩
 loc k h := by
  obtain ⟨p, q, x, vs, h1, h2, h3, h4, h5, h6, h7⟩ := h
  subst h2
  exact ⟨p, q, x, vs, h1, rfl, h3, (k p (by simp)).trans h4, (k q (by simp)).trans h5, h6, h7⟩
 dom h b hb := by
  obtain ⟨p, q, x, vs, h1, h2, h3, h4, h5, h6, h7⟩ := h
  subst h2
  rcases List.mem_cons.mp hb with e | e
  ·rw [e]; exact ⟨_, h4⟩
  ·rw [List.mem_singleton.mp e]; exact ⟨_, h5⟩
 uniq h g := by
  obtain ⟨p, q, x, vs, h1, h2, h3, h4, h5, h6, h7⟩ := h
  obtain ⟨p', q', x', vs', g1, g2, g3, g4, g5, g6, g7⟩ := g
  rw [h1] at g1; cases g1
  rw [h4] at g4; cases g4
  rw [h2, g2]
 nt h b hb xs e := by
  obtain ⟨p, q, x, vs, h1, h2, h3, h4, h5, h6, h7⟩ := h
  subst h2
  rcases List.mem_cons.mp hb with z | z
  ·rw [z, h4] at e; cases e
   exact ⟨q, by simp, by simp, vs, h5⟩
  ·rw [List.mem_singleton.mp z, h5] at e; cases e
 view := some (.tuple [d, .list ds])
 vok h hv g k := by
  obtain ⟨p, q, x, vs, h1, h2, h3, h4, h5, h6, h7⟩ := h
  cases hv
  subst h1 h2
  exact .tup ((k p (by simp)).trans h4) (.cons (Dt.same g _ _ h6) (.cons (.lst ((k q (by simp)).trans h5) (Dts.same g _ _ h7)) .nil))
noncomputable def mTupE (ma : ME) (mb : MO) : MO := fun Γ Q => ma Γ fun d Γ1 => mb Γ1 fun rv Γ2 => ∃ ds, rv = .own ds ∧ Q (.box (bEl d ds)) Γ2
abbrev It4 := Addr × Addr × V × List V
noncomputable def fpE (its : List It4) : List Addr := its.flatMap fun i => [i.1, i.2.1]
noncomputable def ElOk (G H : Hp) (i : It4) (e : D × List D) : Prop := H i.1 = some (.tup [i.2.2.1, .ref i.2.1]) ∧ H i.2.1 = some (.lst i.2.2.2) ∧ Dt G i.2.2.1 e.1 ∧ Dts G i.2.2.2 e.2
noncomputable def ElsOk (G H : Hp) (its : List It4) (es : List (D × List D)) : Prop := Paired (ElOk G H) its es
theorem ElsOk.go {G H G' H' : Hp} {its : List It4} {es : List (D × List D)} (h : ElsOk G H its es) (g : Same G G') (k : ∀ b ∈ fpE its, H' b = H b) : ElsOk G' H' its es := by
 unfold ElsOk at h ⊢
 induction h with
 | nil => exact .nil
 | cons r t ih =>
  obtain ⟨r1, r2, r3, r4⟩ := r
  refine .cons ⟨(k _ (by unfold fpE; simp)).trans r1, (k _ (by unfold fpE; simp)).trans r2, Dt.same g _ _ r3, Dts.same g _ _ r4⟩ (ih fun b hb => k b ?_)
  unfold fpE at hb ⊢
  rw [List.flatMap_cons]
  exact List.mem_append_right _ hb
theorem ElsOk.mem {G H : Hp} {its : List It4} {es : List (D × List D)} (h : ElsOk G H its es) {i : It4} (hi : i ∈ its) : H i.1 = some (.tup [i.2.2.1, .ref i.2.1]) ∧ H i.2.1 = some (.lst i.2.2.2) := by
 unfold ElsOk at h
 induction h with
 | nil => cases hi
 | cons r t ih =>
  rcases List.mem_cons.mp hi with e | e
  ·rw [e]; exact ⟨r.1, r.2.1⟩
  ·exact ih e
theorem mem_fpE {its : List It4} {b : Addr} : b ∈ fpE its ↔ ∃ i ∈ its, b = i.1 ∨ b = i.2.1 := by
 unfold fpE
 rw [List.mem_flatMap]
 constructor
 ·rintro ⟨i, h, hb⟩
  rcases List.mem_cons.mp hb with e | e
  ·exact ⟨i, h, .inl e⟩
  ·exact ⟨i, h, .inr (List.mem_singleton.mp e)⟩
 ·rintro ⟨i, h, e | e⟩
  ·exact ⟨i, h, by rw [e]; exact List.mem_cons_self⟩
  ·exact ⟨i, h, by rw [e]; exact List.mem_cons_of_mem _ List.mem_cons_self⟩
noncomputable def nxt (H : Hp) (p : Addr) : List Addr := p :: match H p with
 | some (.tup [_, .ref q]) => [q]
 | _ => []
theorem ElsOk.fp {G H : Hp} {its : List It4} {es : List (D × List D)} (h : ElsOk G H its es) : fpE its = (its.map (·.1)).flatMap (nxt H) := by
 unfold ElsOk at h
 induction h with
 | nil => rfl
 | @cons i e its es r t ih =>
  show [i.1, i.2.1] ++ fpE its = nxt H i.1 ++ (its.map (·.1)).flatMap (nxt H)
  have en : nxt H i.1 = [i.1, i.2.1] := by unfold nxt; rw [r.1]
  rw [ih, en]
theorem ElsOk.view {G G' H : Hp} {its : List It4} {es : List (D × List D)} (h : ElsOk G H its es) (g : Same G G') (k : ∀ b ∈ fpE its, G' b = H b) : Dts G' (its.map fun i => V.ref i.1) (es.map fun e => .tuple [e.1, .list e.2]) := by
 unfold ElsOk at h
 induction h with
 | nil => exact .nil
 | cons r t ih =>
  obtain ⟨r1, r2, r3, r4⟩ := r
  refine .cons (.tup ((k _ (by unfold fpE; simp)).trans r1) (.cons (Dt.same g _ _ r3) (.cons (.lst ((k _ (by unfold fpE; simp)).trans r2) (Dts.same g _ _ r4)) .nil))) (ih fun b hb => k b ?_)
  unfold fpE at hb ⊢
  rw [List.flatMap_cons]
  exact List.mem_append_right _ hb
noncomputable def bChs (es : List (D × List D)) : Bx where
 P v fp G H := ∃ l its, v = .ref l ∧ fp = l :: fpE its ∧ H l = some (.lst (its.map fun i => V.ref i.1)) ∧ ElsOk G H its es ∧ (l :: fpE its).Nodup
 mono g h := by
  obtain ⟨l, its, h1, h2, h3, h4, h5⟩ := h
  exact ⟨l, its, h1, h2, h3, h4.go g fun _ _ => rfl, h5⟩
 loc k h := by
  obtain ⟨l, its, h1, h2, h3, h4, h5⟩ := h
  subst h2
  exact ⟨l, its, h1, rfl, (k l List.mem_cons_self).trans h3, h4.go (Same.refl _) fun b hb => k b (List.mem_cons_of_mem _ hb), h5⟩
 dom h b hb := by
  obtain ⟨l, its, h1, h2, h3, h4, h5⟩ := h
  subst h2
  rcases List.mem_cons.mp hb with e | e
  ·rw [e]; exact ⟨_, h3⟩
  ·obtain ⟨i, hi, z | z⟩ := mem_fpE.mp e
   ·rw [z]; exact ⟨_, (h4.mem hi).1⟩
   ·rw [z]; exact ⟨_, (h4.mem hi).2⟩
 uniq h g := by
  obtain ⟨l, its, h1, h2, h3, h4, h5⟩ := h
  obtain ⟨l', its', g1, g2, g3, g4, g5⟩ := g
  rw [h1] at g1; cases g1
  rw [h3] at g3
  have e : (its.map fun i => V.ref i.1) = its'.map fun i => V.ref i.1 := by injection g3 with z; injection z
  have e2 := congrArg (List.map fun v : V => match v with | .ref a => a | _ => 0) e
  rw [List.map_map, List.map_map] at e2
  have e3 : its.map (·.1) = its'.map (·.1) := e2
  rw [h2, g2, h4.fp, g4.fp, e3]
 nt h b hb xs e := by
  obtain ⟨l, its, h1, h2, h3, h4, h5⟩ := h
  subst h2
  rcases List.mem_cons.mp hb with z | z
  ·rw [z, h3] at e; cases e
  ·obtain ⟨i, hi, z | z⟩ := mem_fpE.mp z
   ·rw [z, (h4.mem hi).1] at e; cases e
    exact ⟨i.2.1, List.mem_cons_of_mem _ (mem_fpE.mpr ⟨i, hi, .inr rfl⟩), by simp, _, (h4.mem hi).2⟩
   ·rw [z, (h4.mem hi).2] at e; cases e
 view := some (.list (es.map fun e => .tuple [e.1, .list e.2]))
 vok h hv g k := by
  obtain ⟨l, its, h1, h2, h3, h4, h5⟩ := h
  cases hv
  subst h1 h2
  exact .lst ((k l List.mem_cons_self).trans h3) (h4.view g fun b hb => k b (List.mem_cons_of_mem _ hb))
end L2.VS
namespace L2.VS
open PySem PySem.Spec PyProof.Rows
variable {P0 : Addr → Hp → Prop} {A : Nat → Bool}
noncomputable def compB (g : MG) (t : MT) (e : MO) (Γb : En) : List D → List (D × List D) → (List (D × List D) → Prop) → Prop
 | [], acc, Q => Q acc
 | d :: ds, acc, Q => g d Γb fun Γ1 => t Γ1 fun b Γ2 => if b = true then e Γ2 fun rv _ => ∃ x xs, rv = .box (bEl x xs) ∧ compB g t e Γb ds (acc ++ [(x, xs)]) Q else compB g t e Γb ds acc Q
noncomputable def mCompB (nt : Nat) (fv : List Nat) (mi : MD) (g : MG) (t : MT) (e : MO) : MO := fun Γ Q => mi Γ fun ds Γ1 => ds.length ≤ 1000 ∧ compB g t e (blkE nt fv Γ1) ds [] fun out => Q (.box (bChs out)) Γ1
theorem i_compB {nt : Nat} {fv : List Nat} {mi : MD} {mg : MG} {mt : MT} {me : MO} {Γ : En} {Q : Rv → En → Prop} (h : mi Γ fun ds Γ1 => ds.length ≤ 1000 ∧ compB mg mt me (blkE nt fv Γ1) ds [] fun out => Q (.box (bChs out)) Γ1) : mCompB nt fv mi mg mt me Γ Q := h
theorem i_tupE {ma : ME} {mb : MO} {Γ : En} {Q : Rv → En → Prop} (h : ma Γ fun d Γ1 => mb Γ1 fun rv Γ2 => ∃ ds, rv = .own ds ∧ Q (.box (bEl d ds)) Γ2) : mTupE ma mb Γ Q := h
end L2.VS
namespace L2
open PySem PySem.Spec PyProof.Rows
@[irreducible] def PSi (X : Cx) (L : List Stmt) (t : TS) : Prop := PSs X L t
@[irreducible] def PSd (X : Cx) (st : Stmt) (t : TS) : Prop := PS X st t
@[irreducible] def PEd (X : Cx) (e : Expr) (t : TE) : Prop := PE X e t
@[irreducible] def PAd (X : Cx) (es : List Expr) (t : TA) : Prop := PA X es t
section
variable {X : Cx} {L rest : List Stmt} {st : Stmt} {t u : TS} {e a b : Expr} {es : List Expr} {te ta tb : TE} {tl : TA} {pos : Pos}
end
end L2
namespace L2.VS
open PySem PySem.Spec PyProof.Rows
variable {P0 : Addr → Hp → Prop} {S : Type}
structure Fam (S : Type) where
 box : Addr → S → Bx
 pin : ∀ {p s v fp G H}, (box p s).P v fp G H → v = .ref p
noncomputable def RvP (G H : Hp) (v : V) (fp : List Addr) : Rv → Prop
 | .val d => fp = [] ∧ Dt G v d
 | .own ds => ∃ p vs, fp = [p] ∧ v = .ref p ∧ H p = some (.lst vs) ∧ Dts G vs ds
 | .box B => B.P v fp G H
section
variable {G G' H H' : Hp} {v : V} {fp fp' : List Addr}
theorem RvP.mono (g : Same G G') : ∀ {rv : Rv}, RvP G H v fp rv → RvP G' H v fp rv
 | .val _, h => ⟨h.1, Dt.same g _ _ h.2⟩
 | .own _, h => let ⟨p, vs, a, b, c, d⟩ := h; ⟨p, vs, a, b, c, Dts.same g _ _ d⟩
 | .box B, h => B.mono g h
theorem RvP.loc (k : ∀ b ∈ fp, H' b = H b) : ∀ {rv : Rv}, RvP G H v fp rv → RvP G H' v fp rv
 | .val _, h => h
 | .own _, h => let ⟨p, vs, a, b, c, d⟩ := h; ⟨p, vs, a, b, (k p (by rw [a]; exact List.mem_singleton.mpr rfl)).trans c, d⟩
 | .box B, h => B.loc k h
theorem RvP.dom : ∀ {rv : Rv}, RvP G H v fp rv → ∀ b ∈ fp, ∃ o, H b = some o
 | .val _, h => fun b hb => by rw [h.1] at hb; cases hb
 | .own _, h => fun b hb => by
  obtain ⟨p, vs, a, _, c, _⟩ := h
  rw [a] at hb
  rw [List.mem_singleton.mp hb]
  exact ⟨_, c⟩
 | .box B, h => B.dom h
theorem RvP.uniq : ∀ {rv : Rv}, RvP G H v fp rv → RvP G H v fp' rv → fp = fp'
 | .val _, h, g => h.1.trans g.1.symm
 | .own _, h, g => by
  obtain ⟨p, _, a, b, _⟩ := h
  obtain ⟨q, _, c, d, _⟩ := g
  rw [b] at d
  cases d
  rw [a, c]
 | .box B, h, g => B.uniq h g
theorem RvP.nt : ∀ {rv : Rv}, RvP G H v fp rv → ∀ b ∈ fp, ∀ xs, H b = some (.tup xs) → ∃ q ∈ fp, V.ref q ∈ xs ∧ ∃ vs, H q = some (.lst vs)
 | .val _, h => fun b hb => by rw [h.1] at hb; cases hb
 | .own _, h => fun b hb xs e => by
  obtain ⟨p, vs, a, _, c, _⟩ := h
  rw [a] at hb
  rw [List.mem_singleton.mp hb, c] at e
  cases e
 | .box B, h => B.nt h
end
noncomputable def bKp (W : Fam S) (rv : Rv) (p : Addr) (s : S) : Bx where
 P := fun v fp G H => ∃ f1 f2, fp = f1 ++ f2 ∧ RvP G H v f1 rv ∧ (W.box p s).P (.ref p) f2 G H ∧ ∀ b ∈ f1, b ∉ f2
 mono := fun g ⟨f1, f2, e, a, b, c⟩ => ⟨f1, f2, e, a.mono g, (W.box p s).mono g b, c⟩
 loc := fun k ⟨f1, f2, e, a, b, c⟩ => ⟨f1, f2, e, a.loc fun x hx => k x (by rw [e]; exact List.mem_append_left _ hx), (W.box p s).loc (fun x hx => k x (by rw [e]; exact List.mem_append_right _ hx)) b, c⟩
 dom := fun ⟨f1, f2, e, a, b, c⟩ x hx => by
  rw [e] at hx
  exact (List.mem_append.mp hx).elim (a.dom x) ((W.box p s).dom b x)
 uniq := fun ⟨f1, f2, e, a, b, _⟩ ⟨g1, g2, e', a', b', _⟩ => by rw [e, e', a.uniq a', (W.box p s).uniq b b']
 nt := fun ⟨f1, f2, e, a, b, _⟩ x hx xs z => by
  rw [e] at hx
  rcases List.mem_append.mp hx with h | h
  ·obtain ⟨q, h1, h2⟩ := a.nt x h xs z
   exact ⟨q, by rw [e]; exact List.mem_append_left _ h1, h2⟩
  ·obtain ⟨q, h1, h2⟩ := (W.box p s).nt b x h xs z
   exact ⟨q, by rw [e]; exact List.mem_append_right _ h1, h2⟩
 view := none
 vok := fun _ z => nomatch z
noncomputable def mRetK (W : Fam S) (m : MO) : MS := fun Γ Q => m Γ fun rv Γ1 => ∃ p s, Γ1[0]? = some (.box (W.box p s)) ∧ Q (.rt (.box (bKp W rv p s)))
theorem vs_retK {W : Fam S} {A : Nat → Bool} {t : TE} {m : MO} (h : VO P0 t m) : VSA P0 A (tRet t) (mRetK W m) := by
 intro F Γ σ G H E Qm r hm k
 refine h F Γ σ G H _ _ r hm fun rv Γ1 v G1 H1 m1 s1 r1 v1 a1 => ?_
 obtain ⟨p, s, e, q⟩ := m1
 obtain ⟨fps, h1, h2⟩ := r1.fps
 have h0 := h1 0 _ e
 obtain ⟨w, ew, pw, nw⟩ := id h0
 have z := W.pin pw
 subst z
 refine k _ q v G1 H1 s1 r1.fr ?_
 cases rv with
 | val d => exact ⟨_, ⟨[], fps 0, rfl, ⟨rfl, v1⟩, pw, fun b hb => nomatch hb⟩, nw⟩
 | own ds =>
  obtain ⟨u, vs, rfl, e1, e2, e3, e4⟩ := v1
  refine ⟨_, ⟨[u], fps 0, rfl, ⟨u, vs, rfl, rfl, e3, e4⟩, pw, fun b hb => ?_⟩, fun b hb => ?_⟩
  ·rw [List.mem_singleton.mp hb]
   exact a1 0 _ _ e h0 u rfl
  ·rcases List.mem_append.mp hb with hb | hb
   ·rw [List.mem_singleton.mp hb]
    exact ⟨e1, e2⟩
   ·exact nw b hb
 | box B =>
  obtain ⟨fp, e1, e2⟩ := v1
  refine ⟨_, ⟨fp, fps 0, rfl, e1, pw, fun b hb => a1 0 _ _ fp e h0 e1 b hb⟩, fun b hb => ?_⟩
  rcases List.mem_append.mp hb with hb | hb
  ·exact e2 b hb
  ·exact nw b hb
abbrev Lm (S : Type) := Addr → S → List Sl → (Rv → S → Prop) → Prop
noncomputable def mFnL (W : Fam S) (n : Nat) (b : MS) : Lm S := fun p s as Q => b (.box (W.box p s) :: (as ++ List.replicate n .no)) fun fl => match fl with
 | .rt rv => ∃ rv0 s', rv = .box (bKp W rv0 p s') ∧ Q rv0 s'
 | .nx Γ => ∃ s', Γ[0]? = some (.box (W.box p s')) ∧ Q (.val .none) s'
 | _ => False
noncomputable def spL (P0 : Addr → Hp → Prop) (W : Fam S) (n : Nat) (f : Lm S) : Sp := fun vs H Q _ => ∃ (F : Fra P0) (p : Addr) (s : S) (fp : List Addr) (ws : List V) (as : List Sl) (Qm : Rv → S → Prop), vs = .ref p :: ws ∧ (∀ b, F.H0 b = if b ∈ fp then none else H b) ∧ Rf F F.G0 H ∧
 (W.box p s).P (.ref p) fp F.G0 H ∧ (∀ b ∈ fp, F.G0 b = none) ∧ Paired (ArgOk F F.G0) ws as ∧ as.length + 1 = n ∧ f p s as Qm ∧
 ∀ rv s' r f1 f2 G' H', Qm rv s' → Rf F G' H' → RvP G' H' r f1 rv → (W.box p s').P (.ref p) f2 G' H' → (∀ b ∈ f1, b ∉ f2) → (∀ b ∈ f1 ++ f2, F.H0 b = none ∧ G' b = none) → Q r H'
theorem arg_at {F : Fra P0} {G : Hp} {ws : List V} {as : List Sl} {i k m : Nat} {s : Sl} (pr : Paired (ArgOk F G) ws as) (e : (as ++ List.replicate k Sl.no)[i]? = some s) (hne : s ≠ .no) :
  ∃ v, (ws.map some ++ List.replicate m none)[i]? = some (some v) ∧ ArgOk F G v s := by
 induction pr generalizing i with
 | nil =>
  rw [List.nil_append, List.getElem?_replicate] at e
  split at e
  ·cases e; exact absurd rfl hne
  ·cases e
 | cons a b ih =>
  cases i with
  | zero => cases e; exact ⟨_, rfl, a⟩
  | succ i => exact ih e
theorem fn_startL {W : Fam S} {n k : Nat} {N : List Str} {t : TS} {b : MS} (h : VS P0 t b) (hN : N.length = n + k) {vs : List V} {H : Hp} {Q : VK} {E : XK} (hs : spL P0 W n (mFnL W k b) vs H Q E) :
  t { nx := fun _ H' => Q .non H', rt := Q } (start N vs) H := by
 obtain ⟨F, p, s, fp, ws, as, Qm, rfl, hH, rf, hP, hG, pr, hl, hm, q⟩ := hs
 have hlen : ws.length = as.length := Paired.length pr
 have r : R F (.box (W.box p s) :: (as ++ List.replicate k .no)) (start N (.ref p :: ws)) F.G0 H := by
  refine ⟨rf, ?_, fun i => if i = 0 then fp else [], fun i u e => ?_, fun i j u z _ _ hij b hb hc => ?_⟩
  ·unfold start
   simp only [List.length_cons, List.length_append, List.length_replicate, List.length_map]
   omega
  ·cases i with
   | zero =>
    cases e
    exact ⟨.ref p, rfl, hP, fun b hb => ⟨by have hb : b ∈ fp := hb; rw [hH, if_pos hb], hG b hb⟩⟩
   | succ i =>
    have e : (as ++ List.replicate k Sl.no)[i]? = some u := e
    have at_ : u ≠ .no → ∃ v, (start N (.ref p :: ws))[i + 1]? = some (some v) ∧ ArgOk F F.G0 v u := fun hne => by
     obtain ⟨v, ev, av⟩ := arg_at (m := N.length - (ws.length + 1)) pr e hne
     exact ⟨v, ev, av⟩
    cases u with
    | no => rfl
    | val d =>
     obtain ⟨v, ev, av⟩ := at_ (by intro z; cases z)
     exact ⟨rfl, v, ev, av⟩
    | own ds =>
     obtain ⟨v, ev, av⟩ := at_ (by intro z; cases z)
     exact av.elim
    | pen =>
     obtain ⟨v, ev, q, rfl, eq⟩ := at_ (by intro z; cases z)
     exact ⟨rfl, q, ev, eq⟩
    | con q =>
     obtain ⟨v, ev, av⟩ := at_ (by intro z; cases z)
     have av : v = .ref q := av
     rw [av] at ev
     exact ⟨rfl, ev⟩
    | pub B =>
     obtain ⟨v, ev, av⟩ := at_ (by intro z; cases z)
     exact av.elim
    | box B =>
     obtain ⟨v, ev, av⟩ := at_ (by intro z; cases z)
     exact av.elim
  ·dsimp only at hb hc
   split at hb
   ·rename_i hi
    split at hc
    ·rename_i hj; exact hij (hi.trans hj.symm)
    ·cases hc
   ·cases hb
 refine h F _ _ _ _ _ _ r hm fun fl hq => ?_
 cases fl with
 | nx Γ =>
  intro σ G' H' _ r' _
  obtain ⟨s', e, hq⟩ := hq
  obtain ⟨fps, h1, _⟩ := r'.fps
  obtain ⟨w, ew, pw, nw⟩ := h1 0 _ e
  have z := W.pin pw
  subst z
  exact q _ _ _ [] _ _ _ hq r'.fr ⟨rfl, .non⟩ pw (fun b hb => nomatch hb) nw
 | rt rv =>
  intro v G' H' _ f' v'
  obtain ⟨rv0, s', rfl, hq⟩ := hq
  obtain ⟨g, ⟨f1, f2, rfl, a, b, c⟩, d⟩ := v'
  exact q _ _ _ _ _ _ _ hq f' a b c d
 | bk Γ => exact hq.elim
 | ct Γ => exact hq.elim
theorem spL_len {W : Fam S} {n : Nat} {f : Lm S} {ps : List Str} (h : ps.length = n) : ∀ vs H Q E, spL P0 W n f vs H Q E → vs.length = ps.length := by
 rintro vs H Q E ⟨F, p, s, fp, ws, as, Qm, rfl, _, _, _, _, pr, hl, _⟩
 rw [List.length_cons, Paired.length pr, hl, h]
theorem _root_.L2.Fun.okL {P : Program} {w : World} {K : PySem.W.Frag} {mg : Str → Option Value} {base : Heap} {x qual : Str} {st : Stmt} {f : Addr} {fd : FuncData} {N ps : List Str} {k n j : Nat} {b : MS} {W : Fam S}
  (F : Fun K x qual st f fd) (S0 : FnScope N ps (defScope st)) (hn : ps.length = n) (hN : N.length = n + j)
  (hb : ∀ (cdv : Value) (A : Around) (outer : List Env) (s : Shared) (H : Hp) (E : XK), Room k (A.deeper (envOfC qual (defScope st) s.heap.objs.size f cdv)) →
   SsX P0 (cxOf CX0 P w K mg base N qual (defScope st) f cdv A outer s H E).nox (defBody st) b) : FnOk P w K mg base CX0 (k + 1) f fd ps (spL P0 W n (mFnL W j b)) := by
 refine F.ok S0 (spL_len hn) fun cdv A outer s H vs Q E hr hs => ?_
 obtain ⟨t, h1, h2⟩ := hb cdv A outer s H E hr
 exact ⟨t, h1, fn_startL h2 hN hs⟩
noncomputable def mCallL (W : Fam S) (n : Nat) (f : Lm S) (i : Nat) (m : MA) : MO := fun Γ Q => ∃ p, (∃ s, Γ[i]? = some (.box (W.box p s))) ∧ m Γ fun as Γ1 => ∃ s1, Γ1[i]? = some (.box (W.box p s1)) ∧ as.length + 1 = n ∧ f p s1 as fun rv s' => Q rv (Γ1.set i (.box (W.box p s')))
noncomputable def Fra.less (F : Fra P0) {G H : Hp} (r : Rf F G H) (fp : List Addr) (hf : ∀ b ∈ fp, F.H0 b = none) : Fra P0 where
 H0 := fun b => if b ∈ fp then none else H b
 G0 := G
 pen := F.pen
 stab := fun p e H1 H2 h => F.stab p e H1 H2 fun b o z => by
  obtain ⟨o', e'⟩ := r.dom z
  exact h b o' (by rw [if_neg (fun hb => by rw [hf b hb] at z; cases z)]; exact e')
 pin := F.pin
 pin0 := fun p e => by
  obtain ⟨o, z⟩ := F.pin0 p e
  obtain ⟨o', e'⟩ := F.pin p e H (r.pn p e)
  exact ⟨o', by rw [if_neg (fun hb => by rw [hf p hb] at z; cases z)]; exact e'⟩
 pg := fun p e => by
  obtain ⟨o, e0⟩ := F.pin0 p e
  rw [r.g0 p o e0]
  exact F.pg p e
theorem vo_callL {W : Fam S} {n i : Nat} {f : Lm S} {t : TA} {m : MA} {E : XK} (h : VA P0 t m) : VO P0 (tCall (spL P0 W n f) [] E (tCons (tVar i) t)) (mCallL W n f i m) := by
 intro F Γ σ G H Q Qm r hm k
 obtain ⟨p, ⟨s, e⟩, hm⟩ := hm
 obtain ⟨fps0, g1, _⟩ := r.fps
 obtain ⟨w, ew, pw, _⟩ := g1 i _ e
 have z := W.pin pw
 subst z
 refine ⟨.ref p, ew, h F Γ σ G H _ _ r hm fun as Γ1 rs G1 H1 m1 s1 r1 d1 => ?_⟩
 obtain ⟨s1', e1, hl, hf⟩ := m1
 obtain ⟨fps, h1, h2⟩ := r1.fps
 have hi := h1 i _ e1
 obtain ⟨w, ew', pw', nw⟩ := id hi
 have z := W.pin pw'
 subst z
 have hF : ∀ b ∈ fps i, F.H0 b = none := fun b hb => (nw b hb).1
 have inH : ∀ b o, F.H0 b = some o → (if b ∈ fps i then none else H1 b) ≠ none := fun b o z => by
  obtain ⟨o', e'⟩ := r1.fr.dom z
  rw [if_neg (fun hb => by rw [hF b hb] at z; cases z), e']
  exact fun y => nomatch y
 refine ⟨F.less r1.fr (fps i) hF, p, s1', fps i, rs, as, fun rv s' => Qm rv (Γ1.set i (.box (W.box p s'))), by rw [List.append_nil], fun b => rfl,
  ⟨r1.fr.sub, fun _ _ _ => rfl, fun b o z _ => ?_, r1.fr.pn⟩, pw', fun b hb => (nw b hb).2, Paired.imp' (fun a s h => by cases s <;> exact h) d1, hl, hf, fun rv s' v f1 f2 G' H' hq f' a b c d => ?_⟩
 ·have z : (if b ∈ fps i then none else H1 b) = some o := z
  split at z
  ·cases z
  ·exact z
 ·have h0 : ∀ b, (F.less r1.fr (fps i) hF).H0 b = if b ∈ fps i then none else H1 b := fun _ => rfl
  have nF : ∀ b, (F.less r1.fr (fps i) hF).H0 b = none → F.H0 b = none := fun b z => by
   cases y : F.H0 b with
   | none => rfl
   | some o => exact absurd z (inH b o y)
  have sG : Same G1 G' := fun b o z => by
   have hH := r1.fr.sub b o z
   have hb : b ∉ fps i := fun hb => by rw [(nw b hb).2] at z; cases z
   have y := f'.g0 b o (by rw [h0, if_neg hb]; exact hH)
   exact y.trans z
  have rf : Rf F G' H' := by
   refine ⟨f'.sub, fun b o z => ?_, fun b o z hb => ?_, f'.pn⟩
   ·obtain ⟨o', e'⟩ := r1.fr.dom z
    have hb : b ∉ fps i := fun hb => by rw [hF b hb] at z; cases z
    exact (f'.g0 b o' (by rw [h0, if_neg hb]; exact e')).trans (r1.fr.g0 b o z)
   ·have hb' : b ∉ fps i := fun hb => by rw [hF b hb] at z; cases z
    exact f'.h0 b o (by rw [h0, if_neg hb']; exact r1.fr.h0 b o z hb) hb
  have oth : ∀ (j : Nat) (u : Sl), j ≠ i → Γ1[j]? = some u → ∀ b ∈ fps j, (F.less r1.fr (fps i) hF).H0 b ≠ none ∧ G' b = none ∧ H' b = H1 b := fun j u hj ej b hb => by
   obtain ⟨m1, m2, o, m3⟩ := (h1 j u ej).mine hb
   have hb' := h2 j i u _ ej e1 hj b hb
   have y : (F.less r1.fr (fps i) hF).H0 b = some o := by rw [h0, if_neg hb']; exact m3
   refine ⟨by rw [y]; exact (fun z => nomatch z), (f'.g0 b o y).trans m2, ?_⟩
   rw [m3]
   exact f'.h0 b o y (F.pen_ne m1)
  have back : ∀ (j : Nat) (u : Sl), j ≠ i → (Γ1.set i (.box (W.box p s')))[j]? = some u → Γ1[j]? = some u := fun j u hj ej => by rw [List.getElem?_set_ne (Ne.symm hj)] at ej; exact ej
  have hil : i < Γ1.length := (List.getElem?_eq_some_iff.mp e1).1
  have new : R F (Γ1.set i (.box (W.box p s'))) σ G' H' := by
   refine ⟨rf, by rw [List.length_set]; exact r1.len, fun j => if j = i then f2 else fps j, fun j u ej => ?_, fun j l u z ej el hjl b hb hc => ?_⟩
   ·dsimp only
    by_cases hj : j = i
    ·subst hj
     rw [if_pos rfl]
     rw [List.getElem?_set_self hil] at ej
     cases ej
     exact ⟨.ref p, ew', b, fun x hx => ⟨nF x (d x (List.mem_append_right _ hx)).1, (d x (List.mem_append_right _ hx)).2⟩⟩
    ·rw [if_neg hj]
     have ej := back j u hj ej
     exact (h1 j u ej).go sG fun x hx => (oth j u hj ej x hx).2
   ·dsimp only at hb hc
    by_cases hj : j = i
    ·rw [if_pos hj] at hb
     have hl' : l ≠ i := fun y => hjl (hj.trans y.symm)
     rw [if_neg hl'] at hc
     exact (oth l z hl' (back l z hl' el) b hc).1 (d b (List.mem_append_right _ hb)).1
    ·rw [if_neg hj] at hb
     by_cases hl' : l = i
     ·rw [if_pos hl'] at hc
      exact (oth j u hj (back j u hj ej) b hb).1 (d b (List.mem_append_right _ hc)).1
     ·rw [if_neg hl'] at hc
      exact h2 j l u z (back j u hj ej) (back l z hl' el) hjl b hb hc
  have apart : ∀ (j : Nat) (u : Sl) (fp : List Addr), (Γ1.set i (.box (W.box p s')))[j]? = some u → SlF F G' H' σ[j]? fp u → ∀ x ∈ f1, x ∉ fp := fun j u fp ej hu x hx hxf => by
   by_cases hj : j = i
   ·subst hj
    rw [List.getElem?_set_self hil] at ej
    cases ej
    obtain ⟨w, ew2, pw2, _⟩ := hu
    rw [ew'] at ew2
    cases ew2
    rw [(W.box p s').uniq pw2 b] at hxf
    exact c x hx hxf
   ·have ej := back j u hj ej
    have y := SlF.det hu ((h1 j u ej).go sG fun x hx => (oth j u hj ej x hx).2)
    rw [y] at hxf
    exact (oth j u hj ej x hxf).1 (d x (List.mem_append_left _ hx)).1
  refine k rv _ v G' H' hq (s1.trans sG) new ?_ ?_
  ·cases rv with
   | val d' => exact a.2
   | own ds =>
    obtain ⟨u, vs, e2, e3, e4, e5⟩ := a
    have hu := d u (List.mem_append_left _ (by rw [e2]; exact List.mem_singleton.mpr rfl))
    exact ⟨u, vs, e3, nF u hu.1, hu.2, e4, e5⟩
   | box B => exact ⟨f1, a, fun x hx => ⟨nF x (d x (List.mem_append_left _ hx)).1, (d x (List.mem_append_left _ hx)).2⟩⟩
  ·cases rv with
   | val d' => trivial
   | own ds =>
    intro j u fp ej hu y ey hy
    obtain ⟨u', vs, e2, e3, e4, e5⟩ := a
    rw [e3] at ey
    cases ey
    exact apart j u fp ej hu _ (by rw [e2]; exact List.mem_singleton.mpr rfl) hy
   | box B =>
    intro j u fp g ej hu hg x hx
    have y : g = f1 := B.uniq hg a
    rw [y] at hx
    exact apart j u fp ej hu x hx
end L2.VS
namespace L2.VS
open PySem PySem.Spec PyProof.Rows
variable {P0 : Addr → Hp → Prop}
noncomputable def PenC (p : Addr) (n : Nat) (H : Hp) : Prop := ∃ z c k : Int, H p = some (.lst [.int z, .int c, .int k]) ∧ 0 ≤ z ∧ 0 ≤ c ∧ c < 1099511627776 ∧ 0 ≤ k ∧ k ≤ (n : Int)
noncomputable def penF : Fam Nat where
  box := fun p n =>
    { P := fun v fp _ H => v = .ref p ∧ fp = [p] ∧ PenC p n H
      mono := fun _ h => h
      loc := fun k ⟨a, b, z, c, m, e, r⟩ => ⟨a, b, z, c, m, (k p (by rw [b]; exact List.mem_singleton.mpr rfl)).trans e, r⟩
      dom := fun ⟨_, b, z, c, m, e, _⟩ x hx => by
        rw [b] at hx
        rw [List.mem_singleton.mp hx]
        exact ⟨_, e⟩
      uniq := fun h g => h.2.1.trans g.2.1.symm
      nt := fun ⟨_, b, z, c, m, e, _⟩ x hx xs y => by
        rw [b] at hx
        rw [List.mem_singleton.mp hx, e] at y
        cases y
      view := none
      vok := fun _ z => nomatch z }
  pin := fun h => h.1
noncomputable def spTakeC : Sp := fun vs H Q _ => ∃ (pen : Addr) (m z c k : Int) (n : Nat), vs = [.ref pen, .int m] ∧ H pen = some (.lst [.int z, .int c, .int k]) ∧ 0 ≤ z ∧ 0 ≤ c ∧ c < 1099511627776 ∧ 0 ≤ k ∧ k ≤ (n : Int) ∧ n < 1000000000 ∧ 0 < m ∧ m < 1073741824 ∧
 ∀ (r : Int) (H' : Hp), 0 ≤ r → r < m → PenC pen (n + 1) H' → SameX pen H H' → Q (.int r) H'
noncomputable def mTakeL : Lm Nat := fun _ n as Q => match as with
 | [.val (.int m)] => 0 < m ∧ m < 1073741824 ∧ n < 1000000000 ∧ ∀ r : Int, 0 ≤ r → r < m → Q (.val (.int r)) (n + 1)
 | _ => False
theorem take_ofL : ∀ vs H Q E, spL P0 penF 2 mTakeL vs H Q E → spTakeC vs H Q E := by
 rintro vs H Q E ⟨F, p, n, fp, ws, as, Qm, rfl, hH, rf, hP, hG, pr, hl, hm, q⟩
 unfold mTakeL at hm
 split at hm
 ·rename_i m
  cases pr with
  | cons a1 b1 =>
   cases b1
   have a1 : Dt F.G0 _ (.int m) := a1
   cases a1
   obtain ⟨_, rfl, z, c, k, e, hz, hc, hc2, hk, hkn⟩ := hP
   refine ⟨p, m, z, c, k, n, rfl, e, hz, hc, hc2, hk, hkn, hm.2.2.1, hm.1, hm.2.1, fun r H' r0 r1 hp hx => ?_⟩
   have nb : ∀ b o, F.H0 b = some o → b ≠ p ∧ H b = some o := fun b o y => by
    rw [hH] at y
    split at y
    ·cases y
    ·rename_i hb
     exact ⟨fun w => hb (by rw [w]; exact List.mem_singleton.mpr rfl), y⟩
   refine q _ _ _ [] [p] F.G0 H' (hm.2.2.2 r r0 r1) ⟨fun b o y => hx b o (fun w => ?_) (rf.sub b o y), fun _ _ _ => rfl, fun b o y _ => hx b o (nb b o y).1 (nb b o y).2, F.stab' H H' (fun b o y => ?_) rf.pn⟩ ⟨rfl, .int _⟩ ⟨rfl, rfl, hp⟩ (fun b hb => nomatch hb) fun b hb => ?_
   ·rw [w, hG p (List.mem_singleton.mpr rfl)] at y; cases y
   ·rw [(nb b o y).2]; exact hx b o (nb b o y).1 (nb b o y).2
   ·have hb : b ∈ [p] := hb
    refine ⟨by rw [hH, if_pos hb], hG b hb⟩
 ·exact hm.elim
theorem i_takeL {p : Addr} {n : Nat} {m : Int} {Q : Rv → Nat → Prop} (h1 : 0 < m) (h2 : m < 1073741824) (hn : n < 1000000000) (h : ∀ r : Int, 0 ≤ r → r < m → Q (.val (.int r)) (n + 1)) : mTakeL p n [.val (.int m)] Q := ⟨h1, h2, hn, h⟩
theorem i_fnL {S : Type} {W : Fam S} {n : Nat} {b : MS} {p : Addr} {s : S} {as : List Sl} {Q : Rv → S → Prop} (h : b (.box (W.box p s) :: (as ++ List.replicate n .no)) fun fl => match fl with
 | .rt rv => ∃ rv0 s', rv = .box (bKp W rv0 p s') ∧ Q rv0 s'
 | .nx Γ => ∃ s', Γ[0]? = some (.box (W.box p s')) ∧ Q (.val .none) s'
 | _ => False) : mFnL W n b p s as Q := h
end L2.VS
namespace L2.VS
open PySem PySem.Spec PyProof.Rows
abbrev NoP : Addr → Hp → Prop := fun _ _ => False
noncomputable def spPenC (K : PySem.W.Frag) : Sp := fun vs H Q _ => ∃ (a : Addr) (ns : List Int) (j : Int), vs = [.ref a, .int j] ∧ SqL K H a (ns.map V.int) ∧ 0 ≤ j ∧ j < 1000 ∧ ∀ p z c, H p = none → 0 ≤ z → 0 ≤ c → c < 1099511627776 → Q (.ref p) (upd H p (.lst [.int z, .int c, .int 1]))
end L2.VS
namespace L2.VS
open PySem PySem.Spec PyProof.Rows
structure Ins1 (C : Addr) (x : Str) (w d l : Addr) (vs : List V) (H : Hp) : Prop where
 i : H w = some (.ins C d [(x, .ref l)])
 d : H d = some (.own w)
 l : H l = some (.lst vs)
theorem Ins1.same {C w d l : Addr} {x : Str} {vs : List V} {H H' : Hp} (h : Ins1 C x w d l vs H) (g : Same H H') : Ins1 C x w d l vs H' := ⟨g _ _ h.i, g _ _ h.d, g _ _ h.l⟩
theorem Ins1.upd {C w d l : Addr} {x : Str} {vs us : List V} {H : Hp} (h : Ins1 C x w d l vs H) : Ins1 C x w d l us (upd H l (.lst us)) := by
 refine ⟨?_, ?_, upd_same⟩
 ·rw [upd_ne (ne_of h.i h.l (by intro z; cases z))]; exact h.i
 ·rw [upd_ne (ne_of h.d h.l (by intro z; cases z))]; exact h.d
end L2.VS
namespace L2.VS
open PySem PySem.Spec PyProof.Rows
variable {P0 : Addr → Hp → Prop}
noncomputable def pIns (C : Addr) (x : Str) (w : Addr) (ds : List D) : Pb where
 P := fun v G => v = .ref w ∧ ∃ d l us, Ins1 C x w d l us G ∧ Dts G us ds
 mono := fun g ⟨a, d, l, us, b, c⟩ => ⟨a, d, l, us, b.same g, Dts.same g _ _ c⟩
noncomputable def insF (C : Addr) (x : Str) : Fam (List D) where
  box := fun w ds =>
    { P := fun v fp G H => v = .ref w ∧ ∃ d l us, fp = [w, d, l] ∧ Ins1 C x w d l us H ∧ Dts G us ds
      mono := fun g ⟨a, d, l, us, b, c, e⟩ => ⟨a, d, l, us, b, c, Dts.same g _ _ e⟩
      loc := fun k ⟨a, d, l, us, b, c, e⟩ => by
        refine ⟨a, d, l, us, b, ⟨?_, ?_, ?_⟩, e⟩
        · rw [k w (by rw [b]; simp)]; exact c.i
        · rw [k d (by rw [b]; simp)]; exact c.d
        · rw [k l (by rw [b]; simp)]; exact c.l
      dom := fun ⟨_, d, l, us, b, c, _⟩ y hy => by
        rw [b] at hy
        simp only [List.mem_cons, List.not_mem_nil, or_false] at hy
        rcases hy with rfl | rfl | rfl
        · exact ⟨_, c.i⟩
        · exact ⟨_, c.d⟩
        · exact ⟨_, c.l⟩
      uniq := fun ⟨_, d, l, us, b, c, _⟩ ⟨_, d', l', us', b', c', _⟩ => by
        have z := c.i.symm.trans c'.i
        injection z with z
        injection z with z1 z2 z3
        injection z3 with z3 z4
        injection z3 with z5 z6
        injection z6 with z6
        rw [b, b', z2, z6]
      nt := fun ⟨_, d, l, us, b, c, _⟩ y hy xs z => by
        rw [b] at hy
        simp only [List.mem_cons, List.not_mem_nil, or_false] at hy
        rcases hy with rfl | rfl | rfl
        · rw [c.i] at z; cases z
        · rw [c.d] at z; cases z
        · rw [c.l] at z; cases z
      view := none
      vok := fun _ z => nomatch z
      pv := some (pIns C x w ds)
      pok := fun ⟨a, d, l, us, b, c, e⟩ z g k => by
        cases z
        refine ⟨a, d, l, us, ⟨?_, ?_, ?_⟩, Dts.same g _ _ e⟩
        · rw [k w (by rw [b]; simp)]; exact c.i
        · rw [k d (by rw [b]; simp)]; exact c.d
        · rw [k l (by rw [b]; simp)]; exact c.l }
  pin := fun h => h.1
noncomputable def InsAt (C : Addr) (x : Str) (w : Addr) (ds : List D) (s : Sl) : Prop := s = .box ((insF C x).box w ds) ∨ s = .pub (pIns C x w ds)
section
variable {C : Addr} {x : Str} {i : Nat}
theorem R.ins {F : Fra P0} {Γ : En} {σ : List (Option V)} {G H : Hp} {w : Addr} {ds : List D} {s : Sl} (r : R F Γ σ G H) (e : Γ[i]? = some s) (h : InsAt C x w ds s) : ∃ d l us, σ[i]? = some (some (.ref w)) ∧ Ins1 C x w d l us H ∧ Dts G us ds := by
 rcases h with rfl | rfl
 ·obtain ⟨v, fp, e1, ⟨rfl, d, l, us, _, b, c⟩, _⟩ := r.sl i _ e
  exact ⟨d, l, us, e1, b, c⟩
 ·obtain ⟨v, e1, rfl, d, l, us, b, c⟩ := r.sl i _ e
  exact ⟨d, l, us, e1, b.same r.fr.sub, c⟩
theorem R.more {F : Fra P0} {Γ : En} {σ : List (Option V)} {G H H' : Hp} (r : R F Γ σ G H) (g : Same H H') : R F Γ σ G H' := by
 refine r.keep ⟨fun b o e => g b o (r.fr.sub b o e), r.fr.g0, fun b o e hb => g b o (r.fr.h0 b o e hb), F.stab' H H' (fun b o e => ?_) r.fr.pn⟩ (Same.refl _) fun b o _ _ hg hH => ⟨hg, g b o hH⟩
 obtain ⟨o', e'⟩ := r.fr.dom e
 rw [g b o' e', e']
variable {E : XK}
end
end L2.VS
namespace L2.VS
open PySem PySem.Spec PyProof.Rows
variable {P0 : Addr → Hp → Prop}
noncomputable def bW2 {S : Type} (W : Fam S) (L w0 w1 : Addr) (c0 c1 : S) : Bx where
 P := fun v fp G H => ∃ f0 f1, v = .ref L ∧ fp = L :: (f0 ++ f1) ∧ H L = some (.lst [.ref w0, .ref w1]) ∧ (W.box w0 c0).P (.ref w0) f0 G H ∧ (W.box w1 c1).P (.ref w1) f1 G H ∧ L ∉ f0 ∧ L ∉ f1 ∧ ∀ b ∈ f0, b ∉ f1
 mono := fun g ⟨f0, f1, a, b, c, d, e, r⟩ => ⟨f0, f1, a, b, c, Bx.mono _ g d, Bx.mono _ g e, r⟩
 loc := fun k ⟨f0, f1, a, b, c, d, e, r⟩ => ⟨f0, f1, a, b, (k L (by rw [b]; simp)).trans c, Bx.loc _ (fun y hy => k y (by rw [b]; simp [hy])) d, Bx.loc _ (fun y hy => k y (by rw [b]; simp [hy])) e, r⟩
 dom := fun ⟨f0, f1, a, b, c, d, e, r⟩ y hy => by
  rw [b] at hy
  rcases List.mem_cons.mp hy with rfl | hy
  ·exact ⟨_, c⟩
  ·rcases List.mem_append.mp hy with hy | hy
   ·exact Bx.dom _ d y hy
   ·exact Bx.dom _ e y hy
 uniq := fun ⟨f0, f1, a, b, c, d, e, r⟩ ⟨f0', f1', a', b', c', d', e', r'⟩ => by
  rw [b, b', Bx.uniq _ d d', Bx.uniq _ e e']
 nt := fun ⟨f0, f1, a, b, c, d, e, r⟩ y hy xs z => by
  rw [b] at hy
  rcases List.mem_cons.mp hy with rfl | hy
  ·rw [c] at z; cases z
  ·rcases List.mem_append.mp hy with hy | hy
   ·obtain ⟨q, h1, h2⟩ := Bx.nt _ d y hy xs z
    exact ⟨q, by rw [b]; simp [h1], h2⟩
   ·obtain ⟨q, h1, h2⟩ := Bx.nt _ e y hy xs z
    exact ⟨q, by rw [b]; simp [h1], h2⟩
 view := none
 vok := fun _ z => nomatch z
noncomputable def mNewW2 (C : Addr) : MO := fun Γ Q => ∀ L w0 w1, Q (.box (bW2 (insF C "kept") L w0 w1 [] [])) Γ
theorem i_newW2 {C : Addr} {Γ : En} {Q : Rv → En → Prop} (h : ∀ L w0 w1, Q (.box (bW2 (insF C "kept") L w0 w1 [] [])) Γ) : mNewW2 C Γ Q := h
end L2.VS
namespace L2.VS
open PySem PySem.Spec PyProof.Rows
variable {P0 : Addr → Hp → Prop} {S : Type}
structure PartAt (W : Fam S) (p : Addr) (B : S → Bx) (v : V) (s : S) (fp f0 : List Addr) (G H : Hp) : Prop where
 sub : ∀ b ∈ f0, b ∈ fp
 own : (W.box p s).P (.ref p) f0 G H
 back : ∀ s' f0' G' H', Same G G' → (W.box p s').P (.ref p) f0' G' H' → (∀ b ∈ fp, b ∉ f0 → H' b = H b ∧ b ∉ f0') → ∃ fp', (B s').P v fp' G' H' ∧ ∀ b ∈ fp', b ∈ f0' ∨ (b ∈ fp ∧ b ∉ f0)
noncomputable def PartOf (W : Fam S) (p : Addr) (B : S → Bx) : Prop := ∀ {s v fp G H}, (B s).P v fp G H → ∃ f0, PartAt W p B v s fp f0 G H
theorem PartOf.self {W : Fam S} {p : Addr} : PartOf W p (W.box p) := fun {s v fp G H} h => by
 have z := W.pin h
 subst z
 exact ⟨fp, fun _ h => h, h, fun s' f' G' H' _ h' _ => ⟨f', h', fun b hb => .inl hb⟩⟩
section
variable {W : Fam S} {B : S → Bx} {i : Nat} {p : Addr} {s1 s' : S} {F : Fra P0} {Γ1 : En} {σ : St} {G1 H1 G' H' : Hp} {v : V} {fp f0 f1 f2 : List Addr}
theorem R.unlend (r1 : R F Γ1 σ G1 H1) (e1 : Γ1[i]? = some (.box (B s1))) (hi : SlF F G1 H1 σ[i]? fp (.box (B s1))) (hv : σ[i]? = some (some v)) (hp : PartAt W p B v s1 fp f0 G1 H1) (hF : ∀ b ∈ f0, F.H0 b = none)
  (f' : Rf (F.less r1.fr f0 hF) G' H') (b2 : (W.box p s').P (.ref p) f2 G' H') (d2 : ∀ b ∈ f2, (F.less r1.fr f0 hF).H0 b = none ∧ G' b = none) :
  Same G1 G' ∧ R F (Γ1.set i (.box (B s'))) σ G' H' ∧ (∀ b, (F.less r1.fr f0 hF).H0 b = none → F.H0 b = none) ∧
  ∀ f1 : List Addr, (∀ b ∈ f1, (F.less r1.fr f0 hF).H0 b = none) → (∀ b ∈ f1, b ∉ f2) → ∀ (j : Nat) (u : Sl) (fq : List Addr), (Γ1.set i (.box (B s')))[j]? = some u → SlF F G' H' σ[j]? fq u → ∀ x ∈ f1, x ∉ fq := by
 obtain ⟨fps, h1, h2⟩ := r1.fps
 have z := SlF.det hi (h1 i _ e1)
 subst z
 obtain ⟨v', ev', pv', nw⟩ := id hi
 rw [hv] at ev'
 cases ev'
 have h0 : ∀ b, (F.less r1.fr f0 hF).H0 b = if b ∈ f0 then none else H1 b := fun _ => rfl
 have inH : ∀ b o, F.H0 b = some o → (if b ∈ f0 then none else H1 b) ≠ none := fun b o z => by
  obtain ⟨o', e'⟩ := r1.fr.dom z
  rw [if_neg (fun hb => by rw [hF b hb] at z; cases z), e']
  exact fun y => nomatch y
 have nF : ∀ b, (F.less r1.fr f0 hF).H0 b = none → F.H0 b = none := fun b z => by
  cases y : F.H0 b with
  | none => rfl
  | some o => exact absurd z (inH b o y)
 have nw0 : ∀ b ∈ f0, G1 b = none := fun b hb => (nw b (hp.sub b hb)).2
 have sG : Same G1 G' := fun b o z => by
  have hH := r1.fr.sub b o z
  have hb : b ∉ f0 := fun hb => by rw [nw0 b hb] at z; cases z
  exact (f'.g0 b o (by rw [h0, if_neg hb]; exact hH)).trans z
 have rf : Rf F G' H' := by
  refine ⟨f'.sub, fun b o z => ?_, fun b o z hb => ?_, f'.pn⟩
  ·obtain ⟨o', e'⟩ := r1.fr.dom z
   have hb : b ∉ f0 := fun hb => by rw [hF b hb] at z; cases z
   exact (f'.g0 b o' (by rw [h0, if_neg hb]; exact e')).trans (r1.fr.g0 b o z)
  ·have hb' : b ∉ f0 := fun hb => by rw [hF b hb] at z; cases z
   exact f'.h0 b o (by rw [h0, if_neg hb']; exact r1.fr.h0 b o z hb) hb
 have stay : ∀ b, F.H0 b = none → G1 b = none → (∃ o, H1 b = some o) → b ∉ f0 → (F.less r1.fr f0 hF).H0 b ≠ none ∧ G' b = none ∧ H' b = H1 b := fun b m1 m2 m3 hb => by
  obtain ⟨o, m3⟩ := m3
  have y : (F.less r1.fr f0 hF).H0 b = some o := by rw [h0, if_neg hb]; exact m3
  refine ⟨by rw [y]; exact (fun z => nomatch z), (f'.g0 b o y).trans m2, ?_⟩
  rw [m3]
  exact f'.h0 b o y (F.pen_ne m1)
 have oth : ∀ (j : Nat) (u : Sl), j ≠ i → Γ1[j]? = some u → ∀ b ∈ fps j, (F.less r1.fr f0 hF).H0 b ≠ none ∧ G' b = none ∧ H' b = H1 b := fun j u hj ej b hb => by
  obtain ⟨m1, m2, m3⟩ := (h1 j u ej).mine hb
  exact stay b m1 m2 m3 fun z => h2 j i u _ ej e1 hj b hb (hp.sub b z)
 have mine : ∀ b ∈ fps i, b ∉ f0 → (F.less r1.fr f0 hF).H0 b ≠ none ∧ G' b = none ∧ H' b = H1 b := fun b hb hn => by
  obtain ⟨m1, m2, m3⟩ := (h1 i _ e1).mine hb
  exact stay b m1 m2 m3 hn
 obtain ⟨fp', pB, hfp⟩ := hp.back s' f2 G' H' sG b2 fun b hb hn => ⟨(mine b hb hn).2.2, fun z => (mine b hb hn).1 (d2 b z).1⟩
 have back : ∀ (j : Nat) (u : Sl), j ≠ i → (Γ1.set i (.box (B s')))[j]? = some u → Γ1[j]? = some u := fun j u hj ej => by rw [List.getElem?_set_ne (Ne.symm hj)] at ej; exact ej
 have hil : i < Γ1.length := (List.getElem?_eq_some_iff.mp e1).1
 have new : R F (Γ1.set i (.box (B s'))) σ G' H' := by
  refine ⟨rf, by rw [List.length_set]; exact r1.len, fun j => if j = i then fp' else fps j, fun j u ej => ?_, fun j l u z ej el hjl b hb hc => ?_⟩
  ·dsimp only
   by_cases hj : j = i
   ·subst hj
    rw [if_pos rfl]
    rw [List.getElem?_set_self hil] at ej
    cases ej
    refine ⟨v, hv, pB, fun x hx => ?_⟩
    rcases hfp x hx with hx | ⟨hx, hn⟩
    ·exact ⟨nF x (d2 x hx).1, (d2 x hx).2⟩
    ·exact ⟨(nw x hx).1, (mine x hx hn).2.1⟩
   ·rw [if_neg hj]
    have ej := back j u hj ej
    exact (h1 j u ej).go sG fun x hx => (oth j u hj ej x hx).2
  ·dsimp only at hb hc
   have cross : ∀ (l : Nat) (z : Sl), l ≠ i → Γ1[l]? = some z → ∀ b ∈ fp', b ∉ fps l := fun l z hl el b hb hc => by
    rcases hfp b hb with hb | ⟨hb, _⟩
    ·exact (oth l z hl el b hc).1 (d2 b hb).1
    ·exact h2 i l _ z e1 el (Ne.symm hl) b hb hc
   by_cases hj : j = i
   ·rw [if_pos hj] at hb
    have hl' : l ≠ i := fun y => hjl (hj.trans y.symm)
    rw [if_neg hl'] at hc
    exact cross l z hl' (back l z hl' el) b hb hc
   ·rw [if_neg hj] at hb
    by_cases hl' : l = i
    ·rw [if_pos hl'] at hc
     exact cross j u hj (back j u hj ej) b hc hb
    ·rw [if_neg hl'] at hc
     exact h2 j l u z (back j u hj ej) (back l z hl' el) hjl b hb hc
 refine ⟨sG, new, nF, fun f1 hf1 ap j u fq ej hu x hx hxf => ?_⟩
 by_cases hj : j = i
 ·subst hj
  rw [List.getElem?_set_self hil] at ej
  cases ej
  obtain ⟨w, ew2, pw2, _⟩ := hu
  rw [hv] at ew2
  cases ew2
  rw [(B s').uniq pw2 pB] at hxf
  rcases hfp x hxf with h | ⟨h, hn⟩
  ·exact ap x hx h
  ·exact (mine x h hn).1 (hf1 x hx)
 ·have ej := back j u hj ej
  have y := SlF.det hu ((h1 j u ej).go sG fun x hx => (oth j u hj ej x hx).2)
  rw [y] at hxf
  exact (oth j u hj ej x hxf).1 (hf1 x hx)
theorem part_call {n : Nat} {f : Lm S} {as : List Sl} {rs : List V} {Q : VK} {E : XK} {Qm : Rv → En → Prop} (hB : PartOf W p B) (r1 : R F Γ1 σ G1 H1) (e1 : Γ1[i]? = some (.box (B s1))) (d1 : Paired (ArgOk F G1) rs as) (hl : as.length + 1 = n)
  (hf : f p s1 as fun rv s' => Qm rv (Γ1.set i (.box (B s')))) (k : ∀ rv Γ' r G' H', Qm rv Γ' → Same G1 G' → R F Γ' σ G' H' → RvO F G' H' r rv → Apart F Γ' σ G' H' r rv → Q r H') : spL P0 W n f (.ref p :: (rs ++ [])) H1 Q E := by
 obtain ⟨fps, h1, h2⟩ := r1.fps
 have hi := h1 i _ e1
 obtain ⟨v, ew', pw', nw⟩ := id hi
 obtain ⟨f0, hp⟩ := hB pw'
 have hF : ∀ b ∈ f0, F.H0 b = none := fun b hb => (nw b (hp.sub b hb)).1
 refine ⟨F.less r1.fr f0 hF, p, s1, f0, rs, as, fun rv s' => Qm rv (Γ1.set i (.box (B s'))), by rw [List.append_nil], fun b => rfl,
  ⟨r1.fr.sub, fun _ _ _ => rfl, fun b o z _ => ?_, r1.fr.pn⟩, hp.own, fun b hb => (nw b (hp.sub b hb)).2, Paired.imp' (fun a s h => by cases s <;> exact h) d1, hl, hf, fun rv s' v1 f1 f2 G' H' hq f' a b c d => ?_⟩
 ·have z : (if b ∈ f0 then none else H1 b) = some o := z
  split at z
  ·cases z
  ·exact z
 ·obtain ⟨sG, new, nF, apart⟩ := r1.unlend e1 hi ew' hp hF f' b (fun x hx => d x (List.mem_append_right _ hx))
  have apart := apart f1 (fun x hx => (d x (List.mem_append_left _ hx)).1) c
  refine k rv _ v1 G' H' hq sG new ?_ ?_
  ·cases rv with
   | val d' => exact a.2
   | own ds =>
    obtain ⟨u, vs, e2, e3, e4, e5⟩ := a
    have hu := d u (List.mem_append_left _ (by rw [e2]; exact List.mem_singleton.mpr rfl))
    exact ⟨u, vs, e3, nF u hu.1, hu.2, e4, e5⟩
   | box B => exact ⟨f1, a, fun x hx => ⟨nF x (d x (List.mem_append_left _ hx)).1, (d x (List.mem_append_left _ hx)).2⟩⟩
  ·cases rv with
   | val d' => trivial
   | own ds =>
    intro j u fq ej hu y ey hy
    obtain ⟨u', vs, e2, e3, e4, e5⟩ := a
    rw [e3] at ey
    cases ey
    exact apart j u fq ej hu _ (by rw [e2]; exact List.mem_singleton.mpr rfl) hy
   | box B =>
    intro j u fq g ej hu hg x hx
    have y : g = f1 := B.uniq hg a
    rw [y] at hx
    exact apart j u fq ej hu x hx
end
noncomputable def mCallW2 (W : Fam S) (n : Nat) (f : Lm S) (i : Nat) (mj : ME) (m : MA) : MO := fun Γ Q => ∃ L w0 w1, (∃ s0 s1, Γ[i]? = some (.box (bW2 W L w0 w1 s0 s1))) ∧ mj Γ fun d Γ0 => (∃ s0 s1, Γ0[i]? = some (.box (bW2 W L w0 w1 s0 s1))) ∧ (d = .int 0 ∨ d = .int 1) ∧ m Γ0 fun as Γ1 => ∃ s0 s1, Γ1[i]? = some (.box (bW2 W L w0 w1 s0 s1)) ∧ as.length + 1 = n ∧
 (d = .int 0 → f w0 s0 as fun rv s' => Q rv (Γ1.set i (.box (bW2 W L w0 w1 s' s1)))) ∧ (d = .int 1 → f w1 s1 as fun rv s' => Q rv (Γ1.set i (.box (bW2 W L w0 w1 s0 s'))))
noncomputable def mOwnIx (i : Nat) (mj : ME) : ME := fun Γ Q => (∃ ds, Γ[i]? = some (.own ds)) ∧ mj Γ fun d Γ1 => ∃ ds, Γ1[i]? = some (.own ds) ∧ oQ (ixD (.list ds) d) fun e => Q e Γ1
theorem ixD_list {ds : List D} {d e : D} (h : ixD (.list ds) d = some e) : ∃ i j, d = .int i ∧ ixN ds.length i = some j ∧ ds[j]? = some e := by
 unfold ixD at h
 split at h
 ·rename_i z; cases z
 ·rename_i es i z
  cases z
  unfold atI at h
  cases y : ixN ds.length i with
  | none => rw [y] at h; cases h
  | some j => rw [y] at h; exact ⟨i, j, rfl, y, h⟩
 ·cases h
theorem vt_ownIx {K : PySem.W.Frag} {i : Nat} {tj : TE} {mj : ME} (hj : VT P0 tj mj) : VT P0 (tOp (rIx K) (tVar i) tj) (mOwnIx i mj) := by
 intro F Γ σ G H Q Qm r hm k
 obtain ⟨⟨ds, e⟩, hm⟩ := hm
 obtain ⟨p, vs, ep, _⟩ := r.sl i _ e
 refine ⟨.ref p, ep, hj F Γ σ G H _ _ r hm fun d Γ1 x G1 H1 m1 g1 r1 d1 => ?_⟩
 obtain ⟨es, e1, m1⟩ := m1
 obtain ⟨y, hy, q⟩ := oQ_out m1
 obtain ⟨q', us, eq', _, _, hq, hus⟩ := r1.sl i _ e1
 rw [ep] at eq'
 cases eq'
 obtain ⟨n, j, rfl, h1, h2⟩ := ixD_list hy
 cases d1
 obtain ⟨v, hv, dv⟩ := Dts.get hus h2
 refine .inl ⟨p, us, n, v, rfl, rfl, SqL.of hq, ?_, k _ _ _ _ _ q g1 r1 dv⟩
 unfold atI
 rw [hus.len, h1]
 exact hv
noncomputable def mSetIx (i : Nat) (m mj : ME) : MS := fun Γ Q => m Γ fun d Γ1 => (∃ ds, Γ1[i]? = some (.own ds)) ∧ mj Γ1 fun x Γ2 => ∃ ds k j, Γ2[i]? = some (.own ds) ∧ x = .int k ∧ ixN ds.length k = some j ∧ Q (.nx (Γ2.set i (.own (ds.set j d))))
noncomputable def compLn (W : Fam S) (p : Addr) (k : Nat) (g : MG) (t : MT) (e : ME) (Γb : S → En) : List D → List D → S → (List D → S → Prop) → Prop
 | [], acc, s, Q => Q acc s
 | d :: ds, acc, s, Q => g d (Γb s) fun Γ1 => t Γ1 fun b Γ2 => if b = true then e Γ2 fun v Γ3 => ∃ s', Γ3[k]? = some (.box (W.box p s')) ∧ compLn W p k g t e Γb ds (acc ++ [v]) s' Q else ∃ s', Γ2[k]? = some (.box (W.box p s')) ∧ compLn W p k g t e Γb ds acc s' Q
noncomputable def mCompLn (W : Fam S) (i k : Nat) (nt : Nat) (fv : List Nat) (mi : MD) (g : MG) (t : MT) (e : ME) : MO := fun Γ Q => mi Γ fun ds Γ1 => ds.length ≤ 1000 ∧ ∃ p s, Γ1[i]? = some (.box (W.box p s)) ∧ compLn W p k g t e (fun s => (blkE nt fv Γ1).set k (.box (W.box p s))) ds [] s fun out s' => Q (.own out) (Γ1.set i (.box (W.box p s')))
theorem i_compLn {W : Fam S} {i k nt : Nat} {fv : List Nat} {mi : MD} {mg : MG} {mt : MT} {me : ME} {Γ : En} {Q : Rv → En → Prop} (h : mi Γ fun ds Γ1 => ds.length ≤ 1000 ∧ ∃ p s, Γ1[i]? = some (.box (W.box p s)) ∧ compLn W p k mg mt me (fun s => (blkE nt fv Γ1).set k (.box (W.box p s))) ds [] s fun out s' => Q (.own out) (Γ1.set i (.box (W.box p s')))) : mCompLn W i k nt fv mi mg mt me Γ Q := h
end L2.VS
namespace L2.VS
open PySem PySem.Spec PyProof.Rows
section
variable {S : Type} {W : Fam S} {n i : Nat} {f : Lm S} {m : MA} {Γ Γ1 : En} {p : Addr} {s : S} {as : List Sl}
noncomputable def lnK (W : Fam S) (n : Nat) (f : Lm S) (i : Nat) (p : Addr) (Q : Rv → En → Prop) (as : List Sl) (Γ1 : En) : Prop := ∃ s1, Γ1[i]? = some (.box (W.box p s1)) ∧ as.length + 1 = n ∧ f p s1 as fun rv s' => Q rv (Γ1.set i (.box (W.box p s')))
theorem i_lend {Q : Rv → En → Prop} (h0 : Γ[i]? = some (.box (W.box p s))) (h : m Γ (lnK W n f i p Q)) : mCallL W n f i m Γ Q := ⟨p, ⟨s, h0⟩, h⟩
theorem i_lnK {Q : Rv → En → Prop} (h0 : Γ1[i]? = some (.box (W.box p s))) (hl : as.length + 1 = n) (h : f p s as fun rv s' => Q rv (Γ1.set i (.box (W.box p s')))) : lnK W n f i p Q as Γ1 := ⟨s, h0, hl, h⟩
noncomputable def rtK (W : Fam S) (Q : Fl → Prop) (rv : Rv) (Γ1 : En) : Prop := ∃ p s, Γ1[0]? = some (.box (W.box p s)) ∧ Q (.rt (.box (bKp W rv p s)))
theorem i_retL {mo : MO} {Q : Fl → Prop} (h : mo Γ (rtK W Q)) : mRetK W mo Γ Q := h
theorem i_rtK {rv : Rv} {Q : Fl → Prop} (h0 : Γ1[0]? = some (.box (W.box p s))) (h : Q (.rt (.box (bKp W rv p s)))) : rtK W Q rv Γ1 := ⟨p, s, h0, h⟩
theorem i_endK {rv : Rv} {Q : Rv → S → Prop} (h : Q rv s) : ∃ rv0 s', Rv.box (bKp W rv p s) = .box (bKp W rv0 p s') ∧ Q rv0 s' := ⟨rv, s, rfl, h⟩
noncomputable def w2K (W : Fam S) (n : Nat) (f : Lm S) (i : Nat) (L w0 w1 : Addr) (d : D) (Q : Rv → En → Prop) (as : List Sl) (Γ1 : En) : Prop := ∃ s0 s1, Γ1[i]? = some (.box (bW2 W L w0 w1 s0 s1)) ∧ as.length + 1 = n ∧
 (d = .int 0 → f w0 s0 as fun rv s' => Q rv (Γ1.set i (.box (bW2 W L w0 w1 s' s1)))) ∧ (d = .int 1 → f w1 s1 as fun rv s' => Q rv (Γ1.set i (.box (bW2 W L w0 w1 s0 s'))))
noncomputable def w2J (W : Fam S) (n : Nat) (f : Lm S) (i : Nat) (L w0 w1 : Addr) (m : MA) (Q : Rv → En → Prop) (d : D) (Γ0 : En) : Prop := (∃ s0 s1, Γ0[i]? = some (.box (bW2 W L w0 w1 s0 s1))) ∧ (d = .int 0 ∨ d = .int 1) ∧ m Γ0 (w2K W n f i L w0 w1 d Q)
variable {L w0 w1 : Addr} {s0 s1 : S} {mj : ME}
theorem i_lend2 {Q : Rv → En → Prop} (h0 : Γ[i]? = some (.box (bW2 W L w0 w1 s0 s1))) (h : mj Γ (w2J W n f i L w0 w1 m Q)) : mCallW2 W n f i mj m Γ Q := ⟨L, w0, w1, ⟨s0, s1, h0⟩, h⟩
end
noncomputable def oxK (i : Nat) (Q : D → En → Prop) (d : D) (Γ1 : En) : Prop := ∃ ds, Γ1[i]? = some (.own ds) ∧ oQ (ixD (.list ds) d) fun e => Q e Γ1
theorem i_ownIx' {i : Nat} {mj : ME} {Γ : En} {Q : D → En → Prop} {ds : List D} (h0 : Γ[i]? = some (.own ds)) (h : mj Γ (oxK i Q)) : mOwnIx i mj Γ Q := ⟨⟨ds, h0⟩, h⟩
theorem i_oxK {i : Nat} {Γ : En} {Q : D → En → Prop} {ds : List D} {d : D} (h0 : Γ[i]? = some (.own ds)) (h : oQ (ixD (.list ds) d) fun e => Q e Γ) : oxK i Q d Γ := ⟨ds, h0, h⟩
noncomputable def sxK (i : Nat) (d : D) (Q : Fl → Prop) (x : D) (Γ2 : En) : Prop := ∃ ds k j, Γ2[i]? = some (.own ds) ∧ x = .int k ∧ ixN ds.length k = some j ∧ Q (.nx (Γ2.set i (.own (ds.set j d))))
noncomputable def sxJ (i : Nat) (mj : ME) (Q : Fl → Prop) (d : D) (Γ1 : En) : Prop := (∃ ds, Γ1[i]? = some (.own ds)) ∧ mj Γ1 (sxK i d Q)
theorem i_setIx' {i : Nat} {m mj : ME} {Γ : En} {Q : Fl → Prop} (h : m Γ (sxJ i mj Q)) : mSetIx i m mj Γ Q := h
theorem i_sxJ {i : Nat} {mj : ME} {Q : Fl → Prop} {d : D} {Γ1 : En} {ds : List D} (h0 : Γ1[i]? = some (.own ds)) (h : mj Γ1 (sxK i d Q)) : sxJ i mj Q d Γ1 := ⟨⟨ds, h0⟩, h⟩
end L2.VS
namespace L2.VS
open PySem PySem.Spec PyProof.Rows
variable {P0 : Addr → Hp → Prop}
noncomputable def pubS : Sl → Sl
 | .own ds => .val (.list ds)
 | .box B => match B.view with
  | some d => .val d
  | none => match B.pv with
   | some b => .pub b
   | none => .no
 | s => s
noncomputable def pubM : List Bool → En → En
 | _, [] => []
 | true :: bs, s :: Γ => s :: pubM bs Γ
 | false :: bs, s :: Γ => pubS s :: pubM bs Γ
 | [], s :: Γ => pubS s :: pubM [] Γ
noncomputable def mixM : List Bool → En → En → En
 | true :: bs, _ :: Γ, t :: Γ1 => t :: mixM bs Γ Γ1
 | false :: bs, s :: Γ, _ :: Γ1 => s :: mixM bs Γ Γ1
 | _, Γ, _ => Γ
noncomputable def Bx.Cut (B : Bx) : Prop := ∀ {v fp G G' H}, SameU G G' → B.P v fp G H → B.P v fp G' H
noncomputable def KeptOk : List Bool → En → Prop
 | true :: bs, .box B :: Γ => B.Cut ∧ KeptOk bs Γ
 | false :: bs, _ :: Γ => KeptOk bs Γ
 | [], _ => True
 | _, _ => False
theorem KeptOk.at : ∀ {bs : List Bool} {Γ : En} {j : Nat}, KeptOk bs Γ → bs[j]? = some true → ∃ B, Γ[j]? = some (.box B) ∧ B.Cut
 | [], _, _, _, e => nomatch e
 | true :: bs, [], _, h, _ => h.elim
 | true :: bs, .box B :: Γ, 0, h, _ => ⟨B, rfl, h.1⟩
 | true :: bs, .box B :: Γ, j + 1, h, e => KeptOk.at (bs := bs) (Γ := Γ) h.2 e
 | false :: bs, s :: Γ, 0, h, e => nomatch e
 | false :: bs, s :: Γ, j + 1, h, e => KeptOk.at (bs := bs) (Γ := Γ) h e
 | false :: bs, [], _, h, _ => h.elim
section
variable {F : Fra P0} {Γ Γ1 : En} {σ : St} {G H G1 H1 : Hp} {bs : List Bool}
noncomputable def OwnM (bs : List Bool) (F : Fra P0) (Γ : En) (σ : St) (G H : Hp) (b : Addr) : Prop := ∃ (i : Nat) (s : Sl) (fp : List Addr), bs[i]? ≠ some true ∧ Γ[i]? = some s ∧ SlF F G H σ[i]? fp s ∧ b ∈ fp
theorem OwnM.all {b : Addr} (h : OwnM bs F Γ σ G H b) : OwnA F Γ σ G H b := let ⟨i, s, fp, _, e⟩ := h; ⟨i, s, fp, e⟩
theorem OwnM.tup {b : Addr} (h : OwnM bs F Γ σ G H b) {xs : List V} (e : H b = some (.tup xs)) : ∃ q vs, V.ref q ∈ xs ∧ OwnM bs F Γ σ G H q ∧ H q = some (.lst vs) := by
 obtain ⟨i, s, fp, en, e0, e1, hb⟩ := h
 cases s with
 | no => rw [show fp = [] from e1] at hb; cases hb
 | val d => rw [e1.1] at hb; cases hb
 | pen => rw [e1.1] at hb; cases hb
 | con q => rw [e1.1] at hb; cases hb
 | pub B => rw [e1.1] at hb; cases hb
 | own ds =>
  obtain ⟨p, vs, f0, _, _, _, f3, _⟩ := e1
  rw [f0] at hb
  rw [List.mem_singleton.mp hb, f3] at e
  cases e
 | box B =>
  have e1' := e1
  obtain ⟨v, _, h2, _⟩ := e1
  obtain ⟨q, q1, q2, vs, q3⟩ := B.nt h2 b hb xs e
  exact ⟨q, vs, q2, ⟨i, _, fp, en, e0, e1', q1⟩, q3⟩
theorem SlF.pubS {s : Sl} {x : Option (Option V)} {fp : List Addr} {G' : Hp} (h : SlF F G H x fp s) (g : Same G G') (k : ∀ b ∈ fp, G' b = H b) : SlF F G' H x [] (pubS s) := by
 cases s with
 | no => rfl
 | val d => obtain ⟨_, v, e1, d1⟩ := h; exact ⟨rfl, v, e1, Dt.same g _ _ d1⟩
 | own ds =>
  obtain ⟨p, vs, e0, e1, e2, e3, e4, e5⟩ := h
  refine ⟨rfl, _, e1, .lst ?_ (Dts.same g _ _ e5)⟩
  rw [k p (by rw [e0]; exact List.mem_singleton.mpr rfl)]
  exact e4
 | pen => exact ⟨rfl, h.2⟩
 | con q => exact ⟨rfl, h.2⟩
 | pub B => obtain ⟨_, v, e1, e2⟩ := h; exact ⟨rfl, v, e1, B.mono g e2⟩
 | box B =>
  obtain ⟨v, e1, e2, e3⟩ := h
  show SlF F G' H x [] (match B.view with | some d => Sl.val d | none => match B.pv with | some b => Sl.pub b | none => Sl.no)
  cases hv : B.view with
  | none =>
   cases hw : B.pv with
   | none => exact rfl
   | some b0 => exact ⟨rfl, v, e1, B.pok e2 hw g k⟩
  | some d => exact ⟨rfl, v, e1, B.vok e2 hv g k⟩
structure PkEnd (bs : List Bool) (Γ Γ1 : En) : Prop where
 len : Γ1.length = Γ.length
 oth : Γ1 = mixM bs (pubM [] Γ) Γ1
 cut : KeptOk bs Γ1
end
noncomputable def mPeekL (bs : List Bool) (m : ME) : ME := fun Γ Q => m (pubM bs Γ) fun d Γ1 => noLst d = true ∧ PkEnd bs Γ Γ1 ∧ Q d (mixM bs Γ Γ1)
noncomputable def mPeekLT (bs : List Bool) (m : MT) : MT := fun Γ Q => m (pubM bs Γ) fun b Γ1 => PkEnd bs Γ Γ1 ∧ Q b (mixM bs Γ Γ1)
noncomputable def mPeekLO (bs : List Bool) (m : MO) : MO := fun Γ Q => m (pubM bs Γ) fun rv Γ1 => noLsts (match rv with | .val d => [d] | .own ds => ds | .box _ => [.list []]) = true ∧ PkEnd bs Γ Γ1 ∧ Q rv (mixM bs Γ Γ1)
theorem cut_pen {p : Addr} {n : Nat} : (penF.box p n).Cut := fun _ h => h
noncomputable def pkK (bs : List Bool) (Γ : En) (Q : D → En → Prop) (d : D) (Γ1 : En) : Prop := noLst d = true ∧ PkEnd bs Γ Γ1 ∧ Q d (mixM bs Γ Γ1)
noncomputable def pkKT (bs : List Bool) (Γ : En) (Q : Bool → En → Prop) (b : Bool) (Γ1 : En) : Prop := PkEnd bs Γ Γ1 ∧ Q b (mixM bs Γ Γ1)
noncomputable def pkKO (bs : List Bool) (Γ : En) (Q : Rv → En → Prop) (rv : Rv) (Γ1 : En) : Prop := noLsts (match rv with | .val d => [d] | .own ds => ds | .box _ => [.list []]) = true ∧ PkEnd bs Γ Γ1 ∧ Q rv (mixM bs Γ Γ1)
section
variable {bs : List Bool} {Γ Γ1 : En}
theorem i_pkL {m : ME} {Q : D → En → Prop} (h : m (pubM bs Γ) (pkK bs Γ Q)) : mPeekL bs m Γ Q := h
theorem i_pkLT {m : MT} {Q : Bool → En → Prop} (h : m (pubM bs Γ) (pkKT bs Γ Q)) : mPeekLT bs m Γ Q := h
theorem i_pkLO {m : MO} {Q : Rv → En → Prop} (h : m (pubM bs Γ) (pkKO bs Γ Q)) : mPeekLO bs m Γ Q := h
theorem i_pkK {Q : D → En → Prop} {d : D} (h1 : noLst d = true) (hl : Γ1.length = Γ.length) (ho : Γ1 = mixM bs (pubM [] Γ) Γ1) (hc : KeptOk bs Γ1) (h : Q d (mixM bs Γ Γ1)) : pkK bs Γ Q d Γ1 := ⟨h1, ⟨hl, ho, hc⟩, h⟩
theorem i_pkKT {Q : Bool → En → Prop} {d : Bool} (hl : Γ1.length = Γ.length) (ho : Γ1 = mixM bs (pubM [] Γ) Γ1) (hc : KeptOk bs Γ1) (h : Q d (mixM bs Γ Γ1)) : pkKT bs Γ Q d Γ1 := ⟨⟨hl, ho, hc⟩, h⟩
end
end L2.VS
namespace L2.VS
open PySem PySem.Spec PyProof.Rows
variable {P0 : Addr → Hp → Prop} {S : Type}
noncomputable def lstF : Fam (List D) where
  box := fun p ds =>
    { P := fun v fp G H => v = .ref p ∧ fp = [p] ∧ noLsts ds = true ∧ ∃ vs, H p = some (.lst vs) ∧ Dts G vs ds
      mono := fun g ⟨a, b, z, vs, c, d⟩ => ⟨a, b, z, vs, c, Dts.same g _ _ d⟩
      loc := fun k ⟨a, b, z, vs, c, d⟩ => ⟨a, b, z, vs, (k p (by rw [b]; exact List.mem_singleton.mpr rfl)).trans c, d⟩
      dom := fun ⟨_, b, _, vs, c, _⟩ x hx => by
        rw [b] at hx
        rw [List.mem_singleton.mp hx]
        exact ⟨_, c⟩
      uniq := fun h g => h.2.1.trans g.2.1.symm
      nt := fun ⟨_, b, _, vs, c, _⟩ x hx xs y => by
        rw [b] at hx
        rw [List.mem_singleton.mp hx, c] at y
        cases y
      view := some (.list ds)
      vok := fun ⟨a, b, _, vs, c, d⟩ z g k => by
        cases z
        subst a
        refine .lst ?_ (Dts.same g _ _ d)
        rw [k p (by rw [b]; exact List.mem_singleton.mpr rfl)]
        exact c }
  pin := fun h => h.1
theorem cut_lst {p : Addr} {ds : List D} : (lstF.box p ds).Cut := fun g ⟨a, b, z, vs, c, d⟩ => ⟨a, b, z, vs, c, Dts.sameU g _ _ z d⟩
noncomputable def mRetKj (W : Fam S) (j : Nat) (m : MO) : MS := fun Γ Q => m Γ fun rv Γ1 => ∃ p s, Γ1[j]? = some (.box (W.box p s)) ∧ Q (.rt (.box (bKp W rv p s)))
noncomputable def mSetIxB (i : Nat) (m mj : ME) : MS := fun Γ Q => m Γ fun d Γ1 => noLst d = true ∧ ∃ p, (∃ ds, Γ1[i]? = some (.box (lstF.box p ds))) ∧ mj Γ1 fun x Γ2 => ∃ ds k j, Γ2[i]? = some (.box (lstF.box p ds)) ∧ x = .int k ∧ ixN ds.length k = some j ∧ Q (.nx (Γ2.set i (.box (lstF.box p (ds.set j d)))))
noncomputable def rtKj (W : Fam S) (j : Nat) (Q : Fl → Prop) (rv : Rv) (Γ1 : En) : Prop := ∃ p s, Γ1[j]? = some (.box (W.box p s)) ∧ Q (.rt (.box (bKp W rv p s)))
theorem i_retLj {W : Fam S} {j : Nat} {mo : MO} {Γ : En} {Q : Fl → Prop} (h : mo Γ (rtKj W j Q)) : mRetKj W j mo Γ Q := h
theorem i_rtKj {W : Fam S} {j : Nat} {p : Addr} {s : S} {rv : Rv} {Γ1 : En} {Q : Fl → Prop} (h0 : Γ1[j]? = some (.box (W.box p s))) (h : Q (.rt (.box (bKp W rv p s)))) : rtKj W j Q rv Γ1 := ⟨p, s, h0, h⟩
noncomputable def sbK (i : Nat) (p : Addr) (d : D) (Q : Fl → Prop) (x : D) (Γ2 : En) : Prop := ∃ ds k j, Γ2[i]? = some (.box (lstF.box p ds)) ∧ x = .int k ∧ ixN ds.length k = some j ∧ Q (.nx (Γ2.set i (.box (lstF.box p (ds.set j d)))))
noncomputable def sbJ (i : Nat) (mj : ME) (Q : Fl → Prop) (d : D) (Γ1 : En) : Prop := noLst d = true ∧ ∃ p, (∃ ds, Γ1[i]? = some (.box (lstF.box p ds))) ∧ mj Γ1 (sbK i p d Q)
theorem i_setIxB {i : Nat} {m mj : ME} {Γ : En} {Q : Fl → Prop} (h : m Γ (sbJ i mj Q)) : mSetIxB i m mj Γ Q := h
theorem i_sbJ {i : Nat} {mj : ME} {Q : Fl → Prop} {d : D} {Γ1 : En} {p : Addr} {ds : List D} (h0 : Γ1[i]? = some (.box (lstF.box p ds))) (hd : noLst d = true) (h : mj Γ1 (sbK i p d Q)) : sbJ i mj Q d Γ1 := ⟨hd, p, ⟨ds, h0⟩, h⟩
end L2.VS
namespace L2.VS
open PySem PySem.Spec PyProof.Rows
variable {P0 : Addr → Hp → Prop} {S : Type}
structure WS where
 d : Addr
 ll : Addr
 lo : Addr
 ls : List D
 now : D
 os : List D
noncomputable def wkFs (s : WS) (vn : V) : List (Str × V) := [("lines", .ref s.ll), ("now", vn), ("listed", .ref s.lo)]
structure WkAt (C w : Addr) (s : WS) (us : List V) (vn : V) (vs : List V) (H : Hp) : Prop where
 i : H w = some (.ins C s.d (wkFs s vn))
 d : H s.d = some (.own w)
 l : H s.ll = some (.lst us)
 o : H s.lo = some (.lst vs)
structure WkDt (s : WS) (us : List V) (vn : V) (vs : List V) (G : Hp) : Prop where
 l : Dts G us s.ls
 n : Dt G vn s.now
 o : Dts G vs s.os
structure WkNl (s : WS) : Prop where
 ne : s.ll ≠ s.lo
 nl : noLsts s.ls = true
 nn : noLst s.now = true
 no : noLsts s.os = true
theorem WkAt.at {C w : Addr} {s : WS} {us vs : List V} {vn : V} {H H' : Hp} (h : WkAt C w s us vn vs H) (k : ∀ b ∈ [w, s.d, s.ll, s.lo], H' b = H b) : WkAt C w s us vn vs H' :=
 ⟨(k w (by simp)).trans h.i, (k s.d (by simp)).trans h.d, (k s.ll (by simp)).trans h.l, (k s.lo (by simp)).trans h.o⟩
theorem WkAt.same {C w : Addr} {s : WS} {us vs : List V} {vn : V} {H H' : Hp} (h : WkAt C w s us vn vs H) (g : Same H H') : WkAt C w s us vn vs H' := ⟨g _ _ h.i, g _ _ h.d, g _ _ h.l, g _ _ h.o⟩
theorem WkDt.same {s : WS} {us vs : List V} {vn : V} {G G' : Hp} (h : WkDt s us vn vs G) (g : Same G G') : WkDt s us vn vs G' := ⟨Dts.same g _ _ h.l, Dt.same g _ _ h.n, Dts.same g _ _ h.o⟩
theorem WkAt.dom {C w : Addr} {s : WS} {us vs : List V} {vn : V} {H : Hp} (h : WkAt C w s us vn vs H) : ∀ y ∈ [w, s.d, s.ll, s.lo], ∃ o, H y = some o ∧ ∀ xs, o ≠ .tup xs := fun y hy => by
 simp only [List.mem_cons, List.not_mem_nil, or_false] at hy
 rcases hy with rfl | rfl | rfl | rfl
 ·exact ⟨_, h.i, fun _ z => nomatch z⟩
 ·exact ⟨_, h.d, fun _ z => nomatch z⟩
 ·exact ⟨_, h.l, fun _ z => nomatch z⟩
 ·exact ⟨_, h.o, fun _ z => nomatch z⟩
noncomputable def pWalk (C w : Addr) (s : WS) : Pb where
 P := fun v G => v = .ref w ∧ ∃ us vn vs, WkAt C w s us vn vs G ∧ WkDt s us vn vs G
 mono := fun g ⟨a, us, vn, vs, b, c⟩ => ⟨a, us, vn, vs, b.same g, c.same g⟩
noncomputable def walkF (C : Addr) : Fam WS where
  box := fun w s =>
    { P := fun v fp G H => v = .ref w ∧ fp = [w, s.d, s.ll, s.lo] ∧ WkNl s ∧ ∃ us vn vs, WkAt C w s us vn vs H ∧ WkDt s us vn vs G
      mono := fun g ⟨a, b, z, us, vn, vs, c, e⟩ => ⟨a, b, z, us, vn, vs, c, e.same g⟩
      loc := fun k ⟨a, b, z, us, vn, vs, c, e⟩ => ⟨a, b, z, us, vn, vs, c.at (fun y hy => k y (by rw [b]; exact hy)), e⟩
      dom := fun ⟨a, b, z, us, vn, vs, c, e⟩ y hy => by
        rw [b] at hy
        obtain ⟨o, ho, _⟩ := c.dom y hy
        exact ⟨o, ho⟩
      uniq := fun h g => h.2.1.trans g.2.1.symm
      nt := fun ⟨a, b, z, us, vn, vs, c, e⟩ y hy xs q => by
        rw [b] at hy
        obtain ⟨o, ho, hn⟩ := c.dom y hy
        rw [ho] at q
        exact absurd (Option.some.inj q) (hn xs)
      view := none
      vok := fun _ z => nomatch z
      pv := some (pWalk C w s)
      pok := fun ⟨a, b, z, us, vn, vs, c, e⟩ y g k => by
        cases y
        exact ⟨a, us, vn, vs, c.at (fun y hy => k y (by rw [b]; exact hy)), e.same g⟩ }
  pin := fun h => h.1
theorem cut_walk {C w : Addr} {s : WS} : ((walkF C).box w s).Cut := fun g ⟨a, b, z, us, vn, vs, c, e⟩ => ⟨a, b, z, us, vn, vs, c, Dts.sameU g _ _ z.nl e.l, Dt.sameU g _ _ z.nn e.n, Dts.sameU g _ _ z.no e.o⟩
noncomputable def InW (C w : Addr) (s : WS) (sl : Sl) : Prop := sl = .box ((walkF C).box w s) ∨ sl = .pub (pWalk C w s)
section
variable {C : Addr} {i : Nat}
theorem R.wk {F : Fra P0} {Γ : En} {σ : St} {G H : Hp} {w : Addr} {s : WS} {sl : Sl} (r : R F Γ σ G H) (e : Γ[i]? = some sl) (h : InW C w s sl) : ∃ us vn vs, σ[i]? = some (some (.ref w)) ∧ WkAt C w s us vn vs H ∧ WkDt s us vn vs G := by
 rcases h with rfl | rfl
 ·obtain ⟨v, fp, e1, ⟨rfl, _, _, us, vn, vs, b, c⟩, _⟩ := r.sl i _ e
  exact ⟨us, vn, vs, e1, b, c⟩
 ·obtain ⟨v, e1, rfl, us, vn, vs, b, c⟩ := r.sl i _ e
  exact ⟨us, vn, vs, e1, b.same r.fr.sub, c⟩
theorem PartOf.listed {w : Addr} {s : WS} : PartOf lstF s.lo (fun os => (walkF C).box w { s with os := os }) := fun {os v fp G H} h => by
 obtain ⟨rfl, rfl, z, us, vn, vs, a, b⟩ := h
 have nw : w ≠ s.lo := ne_of a.i a.o (by intro z; cases z)
 have nd : s.d ≠ s.lo := ne_of a.d a.o (by intro z; cases z)
 have in1 : w ∉ [s.lo] := fun y => nw (List.mem_singleton.mp y)
 have in2 : s.d ∉ [s.lo] := fun y => nd (List.mem_singleton.mp y)
 have in3 : s.ll ∉ [s.lo] := fun y => z.ne (List.mem_singleton.mp y)
 refine ⟨[s.lo], fun b hb => by rw [List.mem_singleton.mp hb]; simp, ⟨rfl, rfl, z.no, vs, a.o, b.o⟩, fun os' f' G' H' g h' k => ?_⟩
 obtain ⟨_, rfl, zo, vs', c', d'⟩ := h'
 refine ⟨[w, s.d, s.ll, s.lo], ⟨rfl, rfl, ⟨z.ne, z.nl, z.nn, zo⟩, us, vn, vs', ⟨(k w (by simp) in1).1.trans a.i, (k s.d (by simp) in2).1.trans a.d, (k s.ll (by simp) in3).1.trans a.l, c'⟩, ⟨Dts.same g _ _ b.l, Dt.same g _ _ b.n, d'⟩⟩, fun y hy => ?_⟩
 by_cases hyo : y ∈ [s.lo]
 ·exact .inl hyo
 ·exact .inr ⟨hy, hyo⟩
theorem vo_methL {W : Fam S} {n : Nat} {m : Str} {f : Lm S} {t : TA} {ma : MA} {E : XK} (hW : ∀ {p s v fp G H}, (W.box p s).P v fp G H → ∃ dx fs, H p = some (.ins C dx fs) ∧ fs.lookup m = none) (h : VA P0 t ma) : VO P0 (tMeth C m (spL P0 W n f) [] E (tVar i) t) (mCallL W n f i ma) := by
 intro F Γ σ G H Q Qm r hm k
 obtain ⟨p, ⟨s, e⟩, hm⟩ := hm
 obtain ⟨v, fp, ev, pv, _⟩ := r.sl i _ e
 have z := W.pin pv
 subst z
 obtain ⟨dx, fs, hp, hl⟩ := hW pv
 refine ⟨.ref p, ev, p, dx, fs, rfl, hp, hl, h F Γ σ G H _ _ r hm fun as Γ1 rs G1 H1 m1 g1 r1 d1 => ?_⟩
 obtain ⟨s1, e1, hn, hf⟩ := m1
 exact part_call (Qm := Qm) PartOf.self r1 e1 d1 hn hf fun rv Γ' r' G' H' q g' => k rv Γ' r' G' H' q (g1.trans g')
end
end L2.VS
namespace L2
open PySem PySem.Spec PyProof.Rows
variable {X : Cx}
end L2
namespace L2.VS
open PySem PySem.Spec PyProof.Rows
variable {P0 : Addr → Hp → Prop}
noncomputable def mSetSl (i : Nat) (m : ME) (mp mq : MP) : MS := fun Γ Q => m Γ fun d Γ1 => ∃ es, d = .list es ∧ (∃ ds, Γ1[i]? = some (.own ds)) ∧ mp Γ1 fun a Γ2 => mq Γ2 fun c Γ3 => ∃ ds, ∃ k n : Nat, Γ3[i]? = some (.own ds) ∧ a = some (k : Int) ∧ c = some (n : Int) ∧ k ≤ n ∧ n ≤ ds.length ∧ ds.length + es.length ≤ 1000 ∧ Q (.nx (Γ3.set i (.own (ds.take k ++ es ++ ds.drop n))))
noncomputable def slK (i : Nat) (es : List D) (Q : Fl → Prop) (a : Option Int) (c : Option Int) (Γ3 : En) : Prop := ∃ ds, ∃ k n : Nat, Γ3[i]? = some (.own ds) ∧ a = some (k : Int) ∧ c = some (n : Int) ∧ k ≤ n ∧ n ≤ ds.length ∧ ds.length + es.length ≤ 1000 ∧ Q (.nx (Γ3.set i (.own (ds.take k ++ es ++ ds.drop n))))
noncomputable def slJ (i : Nat) (mp mq : MP) (Q : Fl → Prop) (d : D) (Γ1 : En) : Prop := ∃ es, d = .list es ∧ (∃ ds, Γ1[i]? = some (.own ds)) ∧ mp Γ1 fun a Γ2 => mq Γ2 (slK i es Q a)
theorem i_slJ {i : Nat} {mp mq : MP} {Q : Fl → Prop} {es ds : List D} {Γ1 : En} (h0 : Γ1[i]? = some (.own ds)) (h : mp Γ1 fun a Γ2 => mq Γ2 (slK i es Q a)) : slJ i mp mq Q (.list es) Γ1 := ⟨es, rfl, ⟨ds, h0⟩, h⟩
theorem i_setSl {i : Nat} {m : ME} {mp mq : MP} {Γ : En} {Q : Fl → Prop} (h : m Γ (slJ i mp mq Q)) : mSetSl i m mp mq Γ Q := h
end L2.VS
namespace L2.VS
open PySem PySem.Spec PyProof.Rows
variable {P0 : Addr → Hp → Prop} {A : Nat → Bool}
noncomputable def mLost (n : Nat) (m : MO) : MS := fun Γ Q => m Γ fun rv Γ1 => ∃ ds, rv = .own ds ∧ ds.length < n ∧ Q (.nx Γ1)
noncomputable def loK (n : Nat) (Q : Fl → Prop) (rv : Rv) (Γ1 : En) : Prop := ∃ ds, rv = .own ds ∧ ds.length < n ∧ Q (.nx Γ1)
theorem i_lost {n : Nat} {m : MO} {Γ : En} {Q : Fl → Prop} (h : m Γ (loK n Q)) : mLost n m Γ Q := h
end L2.VS
namespace L2.VS
open PySem PySem.Spec PyProof.Rows
theorem kept_n {Γ : En} : KeptOk [] Γ := by cases Γ <;> exact trivial
theorem kept_f {s : Sl} {bs : List Bool} {Γ : En} (h : KeptOk bs Γ) : KeptOk (false :: bs) (s :: Γ) := h
theorem kept_t {B : Bx} {bs : List Bool} {Γ : En} (c : B.Cut) (h : KeptOk bs Γ) : KeptOk (true :: bs) (.box B :: Γ) := ⟨c, h⟩
end L2.VS
namespace L2.VS
open PySem PySem.Spec PyProof.Rows
variable {P0 : Addr → Hp → Prop}
noncomputable def mPopAt (i : Nat) (m : ME) : ME := fun Γ Q => (∃ ds, Γ[i]? = some (.own ds)) ∧ m Γ fun x Γ1 => ∃ ds d, ∃ k : Nat, Γ1[i]? = some (.own ds) ∧ x = .int (k : Int) ∧ k < 1000000 ∧ ds[k]? = some d ∧ Q d (Γ1.set i (.own (ds.eraseIdx k)))
theorem dts_erase {G : Hp} : ∀ {vs : List V} {ds : List D} {k : Nat}, Dts G vs ds → Dts G (vs.eraseIdx k) (ds.eraseIdx k)
 | _, _, _, .nil => .nil
 | _, _, 0, .cons _ b => b
 | _, _, k + 1, .cons a b => .cons a (dts_erase b)
theorem vt_popAt {K : PySem.W.Frag} {i : Nat} {t : TE} {m : ME} (h : VT P0 t m) : VT P0 (tBM K "list" rPopAt (tVar i) (tCons t tNil)) (mPopAt i m) := by
 intro F Γ σ G H Q Qm r hm k
 obtain ⟨⟨ds0, e0⟩, hm⟩ := hm
 obtain ⟨p, vs0, ep, _, _, hp0, _⟩ := r.sl i _ e0
 refine ⟨.ref p, ep, .inl ⟨rfl, _, SqL.of hp0⟩, ?_⟩
 refine h F Γ σ G H _ _ r hm fun x Γ1 v G1 H1 m1 g1 r1 d1 => ?_
 obtain ⟨ds, d, n, e1, rfl, hn, hd, q⟩ := m1
 obtain ⟨p', vs, ep', _, _, hp, hvs⟩ := r1.sl i _ e1
 rw [ep] at ep'
 cases ep'
 cases d1
 obtain ⟨u, hu, du⟩ := Dts.get hvs hd
 have hlt : n < vs.length := (List.getElem?_eq_some_iff.mp hu).1
 refine ⟨p, vs, (n : Int), n, u, rfl, rfl, hp, by omega, by omega, ?_, hu, ?_⟩
 ·unfold seqIndex?
  have h1 : ¬ (n : Int) < 0 := by omega
  have h2 : (decide (0 ≤ (n : Int)) && decide ((n : Int) < (vs.length : Int))) = true := by
   rw [decide_eq_true (by omega), decide_eq_true (by omega)]
   rfl
  simp only [if_neg h1, h2, if_true, Int.toNat_natCast]
 ·exact k _ _ _ _ _ q g1 (r1.write e1 ep (dts_erase hvs)) du
noncomputable def ppK (i : Nat) (Q : D → En → Prop) (x : D) (Γ1 : En) : Prop := ∃ ds d, ∃ k : Nat, Γ1[i]? = some (.own ds) ∧ x = .int (k : Int) ∧ k < 1000000 ∧ ds[k]? = some d ∧ Q d (Γ1.set i (.own (ds.eraseIdx k)))
theorem i_popAt {i : Nat} {m : ME} {Γ : En} {Q : D → En → Prop} {ds : List D} (h0 : Γ[i]? = some (.own ds)) (h : m Γ (ppK i Q)) : mPopAt i m Γ Q := ⟨⟨ds, h0⟩, h⟩
theorem i_ppK {i : Nat} {Q : D → En → Prop} {Γ1 : En} {ds : List D} {d : D} {k : Nat} (h0 : Γ1[i]? = some (.own ds)) (hk : k < 1000000) (hd : ds[k]? = some d) (h : Q d (Γ1.set i (.own (ds.eraseIdx k)))) : ppK i Q (.int (k : Int)) Γ1 := ⟨ds, d, k, h0, rfl, hk, hd, h⟩
noncomputable def mLenO (i : Nat) : ME := fun Γ Q => ∃ ds, (Γ[i]? = some (.own ds) ∨ Γ[i]? = some (.val (.list ds))) ∧ Q (.int (ds.length : Int)) Γ
theorem vt_lenO {K : PySem.W.Frag} {i : Nat} : VT P0 (tCB (fun xs H Q => ∃ p ys, xs = [.ref p] ∧ (SqL K H p ys ∨ SqT K H p ys) ∧ Q (.int ys.length) H) (tCons (tVar i) tNil)) (mLenO i) := by
 intro F Γ σ G H Q Qm r hm k
 obtain ⟨ds, e | e, q⟩ := hm
 ·obtain ⟨p, vs, ep, _, _, hp, hvs⟩ := r.sl i _ e
  exact ⟨.ref p, ep, p, vs, rfl, .inl (SqL.of hp), by rw [hvs.len]; exact k _ _ _ _ _ q (Same.refl _) r (.int _)⟩
 ·obtain ⟨v, ev, dv⟩ := r.sl i _ e
  cases dv with
  | @lst p vs _ hp rs => exact ⟨.ref p, ev, p, vs, rfl, .inl (SqL.of (r.fr.sub _ _ hp)), by rw [rs.len]; exact k _ _ _ _ _ q (Same.refl _) r (.int _)⟩
theorem i_lenO {i : Nat} {Γ : En} {Q : D → En → Prop} {ds : List D} (h0 : Γ[i]? = some (.own ds)) (h : Q (.int (ds.length : Int)) Γ) : mLenO i Γ Q := ⟨ds, .inl h0, h⟩
theorem i_lenV {i : Nat} {Γ : En} {Q : D → En → Prop} {ds : List D} (h0 : Γ[i]? = some (.val (.list ds))) (h : Q (.int (ds.length : Int)) Γ) : mLenO i Γ Q := ⟨ds, .inr h0, h⟩
end L2.VS
namespace L2.VS
open PySem PySem.Spec PyProof.Rows
variable {P0 : Addr → Hp → Prop} {A : Nat → Bool}
inductive DkRel (G : Hp) : List (Key × V) → List (Int × D) → Prop
 | nil : DkRel G [] []
 | cons {n : Int} {v : V} {d : D} {kvs : List (Key × V)} {kds : List (Int × D)} (h : Dt G v d) (r : DkRel G kvs kds) : DkRel G ((Sum.inl n, v) :: kvs) ((n, d) :: kds)
theorem DkRel.same {G G' : Hp} (g : Same G G') {kvs : List (Key × V)} {kds : List (Int × D)} (h : DkRel G kvs kds) : DkRel G' kvs kds := by
 induction h with
 | nil => exact .nil
 | cons h _ ih => exact .cons (Dt.same g _ _ h) ih
theorem DkRel.len {G : Hp} {kvs : List (Key × V)} {kds : List (Int × D)} (h : DkRel G kvs kds) : kvs.length = kds.length := by
 induction h with
 | nil => rfl
 | cons _ _ ih => rw [List.length_cons, List.length_cons, ih]
noncomputable def dkAt : List (Int × D) → Int → Option D
 | [], _ => none
 | (n, d) :: r, k => if n = k then some d else dkAt r k
noncomputable def dkRepl : List (Int × D) → Int → D → List (Int × D)
 | [], _, _ => []
 | (n, d) :: r, k, e => (if n = k then (n, e) else (n, d)) :: dkRepl r k e
noncomputable def dkPut (kds : List (Int × D)) (k : Int) (d : D) : List (Int × D) := if (dkAt kds k).isSome then dkRepl kds k d else kds ++ [(k, d)]
noncomputable def dkDrop : List (Int × D) → Int → List (Int × D)
 | [], _ => []
 | (n, d) :: r, k => if n = k then dkDrop r k else (n, d) :: dkDrop r k
theorem DkRel.val {G : Hp} {kvs : List (Key × V)} {kds : List (Int × D)} (h : DkRel G kvs kds) (k : Int) : (valV kvs (Sum.inl k : Key) = none ∧ dkAt kds k = none) ∨ ∃ v d, valV kvs (Sum.inl k : Key) = some v ∧ dkAt kds k = some d ∧ Dt G v d := by
 induction h with
 | nil => exact .inl ⟨rfl, rfl⟩
 | @cons n v d kvs kds h r ih =>
  by_cases e : n = k
  ·refine .inr ⟨v, d, valV_pos (by rw [e]), ?_, h⟩
   unfold dkAt; rw [if_pos e]
  ·rw [valV_neg (fun z => e (Sum.inl.inj z))]
   unfold dkAt; rw [if_neg e]; exact ih
theorem DkRel.some {G : Hp} {kvs : List (Key × V)} {kds : List (Int × D)} (h : DkRel G kvs kds) {k : Int} {d : D} (e : dkAt kds k = some d) : ∃ v, valV kvs (Sum.inl k : Key) = some v ∧ Dt G v d := by
 rcases h.val k with ⟨_, z⟩ | ⟨v, d', a, b, c⟩
 ·rw [e] at z; cases z
 ·rw [e] at b; cases b; exact ⟨v, a, c⟩
theorem DkRel.isSome {G : Hp} {kvs : List (Key × V)} {kds : List (Int × D)} (h : DkRel G kvs kds) (k : Int) : (valV kvs (Sum.inl k : Key)).isSome = (dkAt kds k).isSome := by
 rcases h.val k with ⟨a, z⟩ | ⟨v, d', a, b, c⟩
 ·rw [a, z]; rfl
 ·rw [a, b]; rfl
theorem DkRel.repl {G : Hp} {kvs : List (Key × V)} {kds : List (Int × D)} (h : DkRel G kvs kds) (k : Int) {v : V} {d : D} (dv : Dt G v d) : DkRel G (kvs.map fun kv => if kv.1 = (Sum.inl k : Key) then (kv.1, v) else kv) (dkRepl kds k d) := by
 induction h with
 | nil => exact .nil
 | @cons n u e kvs kds h r ih =>
  unfold dkRepl
  rw [List.map_cons]
  by_cases z : n = k
  ·rw [if_pos z, if_pos (congrArg Sum.inl z)]; exact .cons dv ih
  ·rw [if_neg z, if_neg (fun y => z (Sum.inl.inj y))]; exact .cons h ih
theorem DkRel.snoc {G : Hp} {kvs : List (Key × V)} {kds : List (Int × D)} (h : DkRel G kvs kds) (k : Int) {v : V} {d : D} (dv : Dt G v d) : DkRel G (kvs ++ [(Sum.inl k, v)]) (kds ++ [(k, d)]) := by
 induction h with
 | nil => exact .cons dv .nil
 | cons h _ ih => exact .cons h ih
theorem DkRel.put {G : Hp} {kvs : List (Key × V)} {kds : List (Int × D)} (h : DkRel G kvs kds) (k : Int) {v : V} {d : D} (dv : Dt G v d) : DkRel G (putK kvs (Sum.inl k : Key) v) (dkPut kds k d) := by
 unfold putK dkPut
 rw [valV_any, h.isSome k]
 by_cases z : (dkAt kds k).isSome = true
 ·rw [if_pos z, if_pos z]; exact h.repl k dv
 ·rw [if_neg z, if_neg z]; exact h.snoc k dv
theorem DkRel.drop {G : Hp} {kvs : List (Key × V)} {kds : List (Int × D)} (h : DkRel G kvs kds) (k : Int) : DkRel G (dropK kvs (Sum.inl k : Key)) (dkDrop kds k) := by
 induction h with
 | nil => exact .nil
 | @cons n u e kvs kds h r ih =>
  unfold dkDrop
  by_cases z : n = k
  ·rw [if_pos z, dropK_pos (congrArg Sum.inl z)]; exact ih
  ·rw [if_neg z, dropK_neg (fun y => z (Sum.inl.inj y))]; exact .cons h ih
noncomputable def dkD (kds : List (Int × D)) : List (D × D) := kds.map fun kd => (.int kd.1, kd.2)
theorem DkRel.dtk {G : Hp} {kvs : List (Key × V)} {kds : List (Int × D)} (h : DkRel G kvs kds) : Dtk G kvs (dkD kds) := by
 induction h with
 | nil => exact .nil
 | cons h _ ih => exact .cons h ih
theorem Dtk.rel {G : Hp} : ∀ {kds : List (Int × D)} {kvs : List (Key × V)}, Dtk G kvs (dkD kds) → DkRel G kvs kds
 | [], _, e => by cases e; exact .nil
 | (n, d) :: kds, _, e => by
  cases e with
  | cons e1 e2 => exact .cons e1 (Dtk.rel e2)
noncomputable def bDk (kds : List (Int × D)) : Bx where
 P v fp G H := ∃ p kvs, v = .ref p ∧ fp = [p] ∧ H p = some (.dK kvs) ∧ DkRel G kvs kds
 mono g h := by
  obtain ⟨p, kvs, h1, h2, h3, h4⟩ := h
  exact ⟨p, kvs, h1, h2, h3, h4.same g⟩
 loc k h := by
  obtain ⟨p, kvs, h1, h2, h3, h4⟩ := h
  subst h2
  exact ⟨p, kvs, h1, rfl, (k p List.mem_cons_self).trans h3, h4⟩
 dom h b hb := by
  obtain ⟨p, kvs, h1, h2, h3, h4⟩ := h
  subst h2
  rw [List.mem_singleton.mp hb]; exact ⟨_, h3⟩
 uniq h g := by
  obtain ⟨p, kvs, h1, h2, h3, h4⟩ := h
  obtain ⟨p', kvs', g1, g2, g3, g4⟩ := g
  rw [h1] at g1; cases g1
  rw [h2, g2]
 nt h b hb ys e := by
  obtain ⟨p, kvs, h1, h2, h3, h4⟩ := h
  subst h2
  rw [List.mem_singleton.mp hb, h3] at e; cases e
 view := some (.dict (dkD kds))
 vok h e g k := by
  obtain ⟨p, kvs, rfl, rfl, h3, h4⟩ := h
  cases e
  exact .dic ((k p List.mem_cons_self).trans h3) (h4.same g).dtk
noncomputable def mDkNew : MO := fun Γ Q => Q (.box (bDk [])) Γ
noncomputable def mDkGet (i : Nat) (mj : ME) : ME := fun Γ Q => (∃ kds, Γ[i]? = some (.box (bDk kds))) ∧ mj Γ fun x Γ1 => ∃ kds k d, Γ1[i]? = some (.box (bDk kds)) ∧ x = .int k ∧ dkAt kds k = some d ∧ Q d Γ1
noncomputable def mDkPut (i : Nat) (m mj : ME) : MS := fun Γ Q => m Γ fun d Γ1 => (∃ kds, Γ1[i]? = some (.box (bDk kds))) ∧ mj Γ1 fun x Γ2 => ∃ kds k, Γ2[i]? = some (.box (bDk kds)) ∧ x = .int k ∧ kds.length < 1000 ∧ Q (.nx (Γ2.set i (.box (bDk (dkPut kds k d)))))
noncomputable def mDkPop (i : Nat) (mj : ME) : ME := fun Γ Q => (∃ kds, Γ[i]? = some (.box (bDk kds))) ∧ mj Γ fun x Γ1 => ∃ kds k d, Γ1[i]? = some (.box (bDk kds)) ∧ x = .int k ∧ dkAt kds k = some d ∧ Q d (Γ1.set i (.box (bDk (dkDrop kds k))))
theorem hu1 {a : Nat} (h : a + 64 < cLine) : a + 1 < cLine := Nat.lt_of_le_of_lt (Nat.add_le_add_left (by decide) _) h
noncomputable def mDkIx (ma mj : ME) : ME := fun Γ Q => ma Γ fun y Γ1 => mj Γ1 fun x Γ2 => ∃ kds k d, y = .dict (dkD kds) ∧ x = .int k ∧ dkAt kds k = some d ∧ Q d Γ2
noncomputable def mDkGet1 (ma mj : ME) : ME := fun Γ Q => ma Γ fun y Γ1 => ∃ kds, y = .dict (dkD kds) ∧ mj Γ1 fun x Γ2 => ∃ k, x = .int k ∧ Q ((dkAt kds k).getD .none) Γ2
end L2.VS
namespace L2
open PySem PySem.Calls PyProof.Rows PySem.W
section
variable {prog : Program} {w : World} {A : Around} {E : Value → Shared → Prop} {s : Shared}
end
end L2
namespace L2
open PySem PySem.Spec PyProof.Rows
section
variable {X : Cx}
end
noncomputable def srtInt (ns : List Int) : List Int := ns.mergeSort fun a b => decide (a ≤ b)
theorem srtInt_perm (ns : List Int) : (srtInt ns).Perm ns := List.mergeSort_perm _ _
theorem srtInt_up (ns : List Int) : (srtInt ns).Pairwise (· ≤ ·) := by
 have h : (srtInt ns).Pairwise fun a b => decide (a ≤ b) = true := List.pairwise_mergeSort (fun a b c h g => by simp only [decide_eq_true_eq] at h g ⊢; omega) (fun a b => by simp only [Bool.or_eq_true, decide_eq_true_eq]; omega) ns
 exact h.imp fun h => of_decide_eq_true h
theorem srtInt_of {xs ns : List Int} (hp : xs.Perm ns) (hu : xs.Pairwise (· ≤ ·)) : srtInt ns = xs :=
 List.Perm.eq_of_pairwise (le := (· ≤ ·)) (fun a b _ _ h g => by omega) (srtInt_up ns) hu ((srtInt_perm ns).trans hp.symm)
end L2
namespace L2.VS
open PySem PySem.Spec PyProof.Rows
variable {P0 : Addr → Hp → Prop} {ta : TE} {ma : ME} {K : PySem.W.Frag}
end L2.VS
namespace L2
open PySem PySem.Spec PyProof.Rows
section
variable {X : Cx}
end
end L2
namespace L2.VS
open PySem PySem.Spec PyProof.Rows
variable {P0 : Addr → Hp → Prop}
noncomputable def mSortDd (ma : ME) : MO := fun Γ Q => ma Γ fun y Γ1 => ∃ kds : List (Int × D), y = .dict (dkD kds) ∧ kds.length < 64 ∧ Q (.own ((srtInt (kds.map (·.1))).map PyData.int)) Γ1
end L2.VS
namespace L2
open PySem PySem.Spec PyProof.Rows
noncomputable def rLenK : List V → Hp → VK → Prop := fun xs H Q => ∃ (p : Addr) (kvs : List (Key × V)), xs = [.ref p] ∧ H p = some (.dK kvs) ∧ Q (.int kvs.length) H
theorem call_lenK {X : Cx} : CallR X (.builtin "len") rLenK := by
 intro pins s σ H xs us Q I r h
 obtain ⟨p, kvs, rfl, hp, q⟩ := h
 obtain ⟨u, rfl, rx⟩ := vals1 r
 cases rx
 exact d_len I (.inl hp) fun t s' I' => ⟨.int kvs.length, H, I', ⟨t, rfl⟩, q⟩
end L2
namespace L2.VS
open PySem PySem.Spec PyProof.Rows
variable {P0 : Addr → Hp → Prop}
end L2.VS
namespace L2.VS
open PySem PySem.Spec PyProof.Rows
variable {P0 : Addr → Hp → Prop} {A : Nat → Bool}
structure FS where
 d : Addr
 p : Addr
 kds : List (Int × D)
 jn : Int
 la : D
noncomputable def fdFs (s : FS) (vl : V) : List (Str × V) := [("running", .ref s.p), ("joined", .int s.jn), ("last", vl)]
structure FdAt (C w : Addr) (s : FS) (kvs : List (Key × V)) (vl : V) (H : Hp) : Prop where
 i : H w = some (.ins C s.d (fdFs s vl))
 d : H s.d = some (.own w)
 k : H s.p = some (.dK kvs)
structure FdDt (s : FS) (kvs : List (Key × V)) (vl : V) (G : Hp) : Prop where
 k : DkRel G kvs s.kds
 l : Dt G vl s.la
theorem FdAt.at {C w : Addr} {s : FS} {kvs : List (Key × V)} {vl : V} {H H' : Hp} (h : FdAt C w s kvs vl H) (k : ∀ b ∈ [w, s.d, s.p], H' b = H b) : FdAt C w s kvs vl H' :=
 ⟨(k w (by simp)).trans h.i, (k s.d (by simp)).trans h.d, (k s.p (by simp)).trans h.k⟩
theorem FdAt.same {C w : Addr} {s : FS} {kvs : List (Key × V)} {vl : V} {H H' : Hp} (h : FdAt C w s kvs vl H) (g : Same H H') : FdAt C w s kvs vl H' := ⟨g _ _ h.i, g _ _ h.d, g _ _ h.k⟩
theorem FdDt.same {s : FS} {kvs : List (Key × V)} {vl : V} {G G' : Hp} (h : FdDt s kvs vl G) (g : Same G G') : FdDt s kvs vl G' := ⟨h.k.same g, Dt.same g _ _ h.l⟩
theorem FdAt.dom {C w : Addr} {s : FS} {kvs : List (Key × V)} {vl : V} {H : Hp} (h : FdAt C w s kvs vl H) : ∀ y ∈ [w, s.d, s.p], ∃ o, H y = some o ∧ ∀ xs, o ≠ .tup xs := fun y hy => by
 simp only [List.mem_cons, List.not_mem_nil, or_false] at hy
 rcases hy with rfl | rfl | rfl
 ·exact ⟨_, h.i, fun _ z => nomatch z⟩
 ·exact ⟨_, h.d, fun _ z => nomatch z⟩
 ·exact ⟨_, h.k, fun _ z => nomatch z⟩
noncomputable def pField (C w : Addr) (s : FS) : Pb where
 P := fun v G => v = .ref w ∧ ∃ kvs vl, FdAt C w s kvs vl G ∧ FdDt s kvs vl G
 mono := fun g ⟨a, kvs, vl, b, c⟩ => ⟨a, kvs, vl, b.same g, c.same g⟩
noncomputable def fieldF (C : Addr) : Fam FS where
  box := fun w s =>
    { P := fun v fp G H => v = .ref w ∧ fp = [w, s.d, s.p] ∧ ∃ kvs vl, FdAt C w s kvs vl H ∧ FdDt s kvs vl G
      mono := fun g ⟨a, b, kvs, vl, c, e⟩ => ⟨a, b, kvs, vl, c, e.same g⟩
      loc := fun k ⟨a, b, kvs, vl, c, e⟩ => ⟨a, b, kvs, vl, c.at (fun y hy => k y (by rw [b]; exact hy)), e⟩
      dom := fun ⟨a, b, kvs, vl, c, e⟩ y hy => by
        rw [b] at hy
        obtain ⟨o, ho, _⟩ := c.dom y hy
        exact ⟨o, ho⟩
      uniq := fun h g => h.2.1.trans g.2.1.symm
      nt := fun ⟨a, b, kvs, vl, c, e⟩ y hy xs q => by
        rw [b] at hy
        obtain ⟨o, ho, hn⟩ := c.dom y hy
        rw [ho] at q
        exact absurd (Option.some.inj q) (hn xs)
      view := none
      vok := fun _ z => nomatch z
      pv := some (pField C w s)
      pok := fun ⟨a, b, kvs, vl, c, e⟩ y g k => by
        cases y
        exact ⟨a, kvs, vl, c.at (fun y hy => k y (by rw [b]; exact hy)), e.same g⟩ }
  pin := fun h => h.1
noncomputable def InF (C w : Addr) (s : FS) (sl : Sl) : Prop := sl = .box ((fieldF C).box w s) ∨ sl = .pub (pField C w s)
section
variable {C : Addr} {i : Nat}
theorem R.fd {F : Fra P0} {Γ : En} {σ : St} {G H : Hp} {w : Addr} {s : FS} {sl : Sl} (r : R F Γ σ G H) (e : Γ[i]? = some sl) (h : InF C w s sl) : ∃ kvs vl, σ[i]? = some (some (.ref w)) ∧ FdAt C w s kvs vl H ∧ FdDt s kvs vl G := by
 rcases h with rfl | rfl
 ·obtain ⟨v, fp, e1, ⟨rfl, _, kvs, vl, b, c⟩, _⟩ := r.sl i _ e
  exact ⟨kvs, vl, e1, b, c⟩
 ·obtain ⟨v, e1, rfl, kvs, vl, b, c⟩ := r.sl i _ e
  exact ⟨kvs, vl, e1, b.same r.fr.sub, c⟩
noncomputable def mFdJoined (C : Addr) (i : Nat) : ME := fun Γ Q => ∃ w s sl, Γ[i]? = some sl ∧ InF C w s sl ∧ Q (.int s.jn) Γ
theorem vt_fdJoined {K : PySem.W.Frag} (cl : Cls K C) (na : NoAttr K C "joined") : VT P0 (tFld K (tVar i) "joined") (mFdJoined C i) := by
 intro F Γ σ G H Q Qm r hm k
 obtain ⟨w, s, sl, e, h, q⟩ := hm
 obtain ⟨kvs, vl, ew, a, b⟩ := r.fd e h
 exact ⟨.ref w, ew, w, C, s.d, _, .int s.jn, rfl, a.i, cl, na, rfl, k _ _ _ _ _ q (Same.refl _) r (.int _)⟩
noncomputable def mFdLast (C : Addr) (i : Nat) : ME := fun Γ Q => ∃ w s sl, Γ[i]? = some sl ∧ InF C w s sl ∧ Q s.la Γ
theorem vt_fdLast {K : PySem.W.Frag} (cl : Cls K C) (na : NoAttr K C "last") : VT P0 (tFld K (tVar i) "last") (mFdLast C i) := by
 intro F Γ σ G H Q Qm r hm k
 obtain ⟨w, s, sl, e, h, q⟩ := hm
 obtain ⟨kvs, vl, ew, a, b⟩ := r.fd e h
 exact ⟨.ref w, ew, w, C, s.d, _, vl, rfl, a.i, cl, na, rfl, k _ _ _ _ _ q (Same.refl _) r b.l⟩
noncomputable def mFdRun (C : Addr) (i : Nat) : ME := fun Γ Q => ∃ w s, Γ[i]? = some (.pub (pField C w s)) ∧ Q (.dict (dkD s.kds)) Γ
noncomputable def mFdIx (C : Addr) (i : Nat) (mj : ME) : ME := fun Γ Q => ∃ w s, (∃ sl, Γ[i]? = some sl ∧ InF C w s sl) ∧ mj Γ fun x Γ1 => (∃ sl, Γ1[i]? = some sl ∧ InF C w s sl) ∧ ∃ k d, x = .int k ∧ dkAt s.kds k = some d ∧ Q d Γ1
theorem vt_fdIx {K : PySem.W.Frag} {tj : TE} {mj : ME} (cl : Cls K C) (na : NoAttr K C "running") (hj : VT P0 tj mj) : VT P0 (tDGet (tFld K (tVar i) "running") tj) (mFdIx C i mj) := by
 intro F Γ σ G H Q Qm r hm k
 obtain ⟨w, s, ⟨sl, e, h⟩, hm⟩ := hm
 obtain ⟨kvs, vl, ew, a, b⟩ := r.fd e h
 refine ⟨.ref w, ew, w, C, s.d, _, .ref s.p, rfl, a.i, cl, na, rfl, hj F Γ σ G H _ _ r hm fun x Γ1 y G1 H1 m1 g1 r1 d1 => ?_⟩
 obtain ⟨⟨sl1, e1, h1⟩, n, d, rfl, hd, q⟩ := m1
 obtain ⟨kvs1, vl1, _, a1, b1⟩ := r1.fd e1 h1
 cases d1
 obtain ⟨v, hv, dv⟩ := b1.k.some hd
 refine ⟨s.p, v, rfl, ?_, k _ _ _ _ _ q g1 r1 dv⟩
 have z := DGet.k (k := Sum.inl n) a1.k
 rw [hv] at z
 exact z
noncomputable def mFdIn (C : Addr) (i : Nat) (mj : ME) : ME := fun Γ Q => mj Γ fun x Γ1 => ∃ w s sl k, Γ1[i]? = some sl ∧ InF C w s sl ∧ x = .int k ∧ Q (.bool (dkAt s.kds k).isSome) Γ1
theorem vt_fdIn {K : PySem.W.Frag} {tj : TE} {mj : ME} (cl : Cls K C) (na : NoAttr K C "running") (hj : VT P0 tj mj) : VT P0 (tDIn tj (tFld K (tVar i) "running")) (mFdIn C i mj) := by
 intro F Γ σ G H Q Qm r hm k
 refine hj F Γ σ G H _ _ r hm fun x Γ1 y G1 H1 m1 g1 r1 d1 => ?_
 obtain ⟨w, s, sl, n, e, h, rfl, q⟩ := m1
 obtain ⟨kvs, vl, ew, a, b⟩ := r1.fd e h
 cases d1
 refine ⟨.ref w, ew, w, C, s.d, _, .ref s.p, rfl, a.i, cl, na, rfl, s.p, _, rfl, DGet.k (k := Sum.inl n) a.k, ?_⟩
 rw [b.k.isSome n]
 exact k _ _ _ _ _ q g1 r1 (.bl _)
noncomputable def mFdLen (C : Addr) (i : Nat) : ME := fun Γ Q => ∃ w s sl, Γ[i]? = some sl ∧ InF C w s sl ∧ Q (.int (s.kds.length : Int)) Γ
theorem vt_fdLen {K : PySem.W.Frag} (cl : Cls K C) (na : NoAttr K C "running") : VT P0 (tCB rLenK (tCons (tFld K (tVar i) "running") tNil)) (mFdLen C i) := by
 intro F Γ σ G H Q Qm r hm k
 obtain ⟨w, s, sl, e, h, q⟩ := hm
 obtain ⟨kvs, vl, ew, a, b⟩ := r.fd e h
 exact ⟨.ref w, ew, w, C, s.d, _, .ref s.p, rfl, a.i, cl, na, rfl, s.p, kvs, rfl, a.k, by rw [b.k.len]; exact k _ _ _ _ _ q (Same.refl _) r (.int _)⟩
theorem R.fdI {F : Fra P0} {Γ : En} {σ : St} {G H : Hp} {w : Addr} {s : FS} (r : R F Γ σ G H) (e : Γ[i]? = some (.box ((fieldF C).box w s))) {n : Int} {y : V} {d : D} (dy : Dt G y d) : R F (Γ.set i (.box ((fieldF C).box w { s with jn := n, la := d }))) σ G (upd H w (.ins C s.d (fdFs { s with jn := n } y))) := by
 obtain ⟨v, fp, ev, ⟨rfl, rfl, kvs, vl, a, b⟩, nf⟩ := r.sl i _ e
 have hw := nf w (by simp)
 refine r.writeF e (r.fr.priv hw.1 hw.2) fun fp h => ?_
 obtain ⟨u, eu2, ⟨rfl, rfl, _⟩, nf2⟩ := h
 have ed : s.d ≠ w := ne_of a.d a.i (by intro z; cases z)
 have ek : s.p ≠ w := ne_of a.k a.i (by intro z; cases z)
 refine ⟨[w, s.d, s.p], ⟨.ref w, ev, ⟨rfl, rfl, kvs, y, ⟨?_, ?_, ?_⟩, ⟨b.k, dy⟩⟩, nf2⟩, fun b hb _ => ?_⟩
 ·rw [upd_same]; rfl
 ·show upd H w _ s.d = _
  rw [upd_ne ed]; exact a.d
 ·show upd H w _ s.p = _
  rw [upd_ne ek]; exact a.k
 ·exact ⟨upd_ne fun y => hb (by rw [y]; simp), hb⟩
theorem R.fdK {F : Fra P0} {Γ : En} {σ : St} {G H : Hp} {w : Addr} {s : FS} (r : R F Γ σ G H) (e : Γ[i]? = some (.box ((fieldF C).box w s))) {kvs' : List (Key × V)} {kds' : List (Int × D)} (rel : DkRel G kvs' kds') : R F (Γ.set i (.box ((fieldF C).box w { s with kds := kds' }))) σ G (upd H s.p (.dK kvs')) := by
 obtain ⟨v, fp, ev, ⟨rfl, rfl, kvs, vl, a, b⟩, nf⟩ := r.sl i _ e
 have hw := nf s.p (by simp)
 refine r.writeF e (r.fr.priv hw.1 hw.2) fun fp h => ?_
 obtain ⟨u, eu2, ⟨rfl, rfl, _⟩, nf2⟩ := h
 have ed : s.d ≠ s.p := ne_of a.d a.k (by intro z; cases z)
 have ew : w ≠ s.p := ne_of a.i a.k (by intro z; cases z)
 refine ⟨[w, s.d, s.p], ⟨.ref w, ev, ⟨rfl, rfl, kvs', vl, ⟨?_, ?_, ?_⟩, ⟨rel, b.l⟩⟩, nf2⟩, fun b hb _ => ?_⟩
 ·show upd H s.p _ w = _
  rw [upd_ne ew]; exact a.i
 ·show upd H s.p _ s.d = _
  rw [upd_ne ed]; exact a.d
 ·show upd H s.p _ s.p = _
  rw [upd_same]
 ·exact ⟨upd_ne fun y => hb (by rw [y]; simp), hb⟩
noncomputable def mSetLast (C : Addr) (i : Nat) (m : ME) : MS := fun Γ Q => m Γ fun d Γ1 => ∃ w s, Γ1[i]? = some (.box ((fieldF C).box w s)) ∧ Q (.nx (Γ1.set i (.box ((fieldF C).box w { s with la := d }))))
theorem vs_setLast {K : PySem.W.Frag} {t : TE} {m : ME} (cl : Cls K C) (na : NoAttr K C "last") (h : VT P0 t m) : VSA P0 A (sFld K (tVar i) t "last") (mSetLast C i m) := by
 intro F Γ σ G H E Qm r hm k
 refine h F Γ σ G H _ _ r hm fun d Γ1 y G1 H1 m1 g1 r1 d1 => ?_
 obtain ⟨w, s, e, q⟩ := m1
 obtain ⟨kvs, vl, ev, a, b⟩ := r1.fd e (.inl rfl)
 refine ⟨.ref w, ev, w, C, s.d, _, rfl, a.i, cl, na, (by show 3 < 1000; decide), ?_⟩
 exact k _ q σ G1 _ g1 (r1.fdI (n := s.jn) e d1) fun _ _ => rfl
noncomputable def mJoinInc (C : Addr) (i : Nat) (n : Int) : MS := fun Γ Q => ∃ w s, Γ[i]? = some (.box ((fieldF C).box w s)) ∧ Q (.nx (Γ.set i (.box ((fieldF C).box w { s with jn := s.jn + n }))))
theorem vs_joinInc {K : PySem.W.Frag} {n : Int} (cl : Cls K C) (na : NoAttr K C "joined") : VSA P0 A (sFldAug K (tVar i) (tC (.int n)) rAdd "joined") (mJoinInc C i n) := by
 intro F Γ σ G H E Qm r hm k
 obtain ⟨w, s, e, q⟩ := hm
 obtain ⟨kvs, vl, ev, a, b⟩ := r.fd e (.inl rfl)
 refine ⟨.ref w, ev, w, C, s.d, _, .int s.jn, rfl, a.i, cl, na, rfl, ?_⟩
 refine ⟨s.jn, n, rfl, rfl, s.d, _, a.i, (by show 3 < 1000; decide), ?_⟩
 exact k _ q σ G _ (Same.refl _) (r.fdI (n := s.jn + n) e b.l) fun _ _ => rfl
noncomputable def mFdPut (C : Addr) (i : Nat) (m mj : ME) : MS := fun Γ Q => m Γ fun d Γ1 => ∃ w s, Γ1[i]? = some (.box ((fieldF C).box w s)) ∧ mj Γ1 fun x Γ2 => ∃ k, Γ2[i]? = some (.box ((fieldF C).box w s)) ∧ x = .int k ∧ s.kds.length < 1000 ∧ Q (.nx (Γ2.set i (.box ((fieldF C).box w { s with kds := dkPut s.kds k d }))))
theorem vs_fdPut {K : PySem.W.Frag} {t tj : TE} {m mj : ME} (cl : Cls K C) (na : NoAttr K C "running") (h : VT P0 t m) (hj : VT P0 tj mj) : VSA P0 A (sDPut (tFld K (tVar i) "running") tj t) (mFdPut C i m mj) := by
 intro F Γ σ G H E Qm r hm k
 refine h F Γ σ G H _ _ r hm fun d Γ1 v G1 H1 m1 g1 r1 d1 => ?_
 obtain ⟨w, s, e, m1⟩ := m1
 obtain ⟨kvs, vl, ev, a, b⟩ := r1.fd e (.inl rfl)
 refine ⟨.ref w, ev, w, C, s.d, _, .ref s.p, rfl, a.i, cl, na, rfl, hj F Γ1 σ G1 H1 _ _ r1 m1 fun x Γ2 u G2 H2 m2 g2 r2 d2 => ?_⟩
 obtain ⟨n, e2, rfl, hl, q⟩ := m2
 obtain ⟨kvs2, vl2, ev2, a2, b2⟩ := r2.fd e2 (.inl rfl)
 cases d2
 refine ⟨s.p, _, rfl, DPut.k (k := Sum.inl n) a2.k (by rw [b2.k.len]; exact Nat.lt_of_lt_of_le hl (by decide)), ?_⟩
 exact k _ q σ G2 _ (g1.trans g2) (r2.fdK e2 (b2.k.put n (Dt.same g2 _ _ d1))) fun _ _ => rfl
noncomputable def mFdPop (C : Addr) (i : Nat) (mj : ME) : ME := fun Γ Q => ∃ w s, Γ[i]? = some (.box ((fieldF C).box w s)) ∧ mj Γ fun x Γ1 => ∃ k d, Γ1[i]? = some (.box ((fieldF C).box w s)) ∧ x = .int k ∧ dkAt s.kds k = some d ∧ Q d (Γ1.set i (.box ((fieldF C).box w { s with kds := dkDrop s.kds k })))
theorem vt_fdPop {K : PySem.W.Frag} {tj : TE} {mj : ME} (cl : Cls K C) (na : NoAttr K C "running") (hj : VT P0 tj mj) : VT P0 (tDPop1 (tFld K (tVar i) "running") tj) (mFdPop C i mj) := by
 intro F Γ σ G H Q Qm r hm k
 obtain ⟨w, s, e, hm⟩ := hm
 obtain ⟨kvs, vl, ev, a, b⟩ := r.fd e (.inl rfl)
 refine ⟨.ref w, ev, w, C, s.d, _, .ref s.p, rfl, a.i, cl, na, rfl, s.p, rfl, .inl ⟨kvs, .inl a.k⟩, hj F Γ σ G H _ _ r hm fun x Γ1 y G1 H1 m1 g1 r1 d1 => ?_⟩
 obtain ⟨n, d, e1, rfl, hd, q⟩ := m1
 obtain ⟨kvs1, vl1, ev1, a1, b1⟩ := r1.fd e1 (.inl rfl)
 cases d1
 obtain ⟨v, hv, dv⟩ := b1.k.some hd
 exact ⟨kvs1, Sum.inl n, v, a1.k, rfl, hv, k _ _ _ _ _ q g1 (r1.fdK e1 (b1.k.drop n)) dv⟩
theorem fd_ins {m : Str} (hm : ∀ s vl, (fdFs s vl).lookup m = none) {p : Addr} {s : FS} {v : V} {fp : List Addr} {G H : Hp} (h : ((fieldF C).box p s).P v fp G H) : ∃ dx fs, H p = some (.ins C dx fs) ∧ fs.lookup m = none := by
 obtain ⟨_, _, kvs, vl, a, _⟩ := h
 exact ⟨_, _, a.i, hm s vl⟩
noncomputable def spInitFd (C : Addr) : Sp := fun vs H Q _ => ∃ (w d : Addr), vs = [.ref w] ∧ H w = some (.ins C d []) ∧ ∀ p, H p = none → Q .non (upd (upd H p (.dK [])) w (.ins C d [("running", .ref p), ("joined", .int 0), ("last", .non)]))
noncomputable def mNewFd (C : Addr) : MO := fun Γ Q => ∀ w d p, Q (.box ((fieldF C).box w ⟨d, p, [], 0, .none⟩)) Γ
theorem vo_newFd {E : XK} : VO P0 (tMake C (spInitFd C) [] E tNil) (mNewFd C) := by
 intro F Γ σ G H Q Qm r hm k w d hw hd hdw
 refine ⟨w, d, rfl, upd_same, fun p hp => ⟨rfl, ?_⟩⟩
 have pw : p ≠ w := fun z => by rw [z, upd_same] at hp; cases hp
 have pd : p ≠ d := fun z => by rw [z, upd_ne hdw, upd_same] at hp; cases hp
 have hp0 : H p = none := by rw [upd_ne pw, upd_ne pd] at hp; exact hp
 have g3 : ∀ b o, H b = some o → upd (upd (upd (upd H d (.own w)) w (.ins C d [])) p (.dK [])) w (.ins C d [("running", .ref p), ("joined", .int 0), ("last", .non)]) b = some o := fun b o e => by
  rw [upd_ne (ne_of_none e hw), upd_ne (ne_of_none e hp0), upd_ne (ne_of_none e hw), upd_ne (ne_of_none e hd)]
  exact e
 have r1 := (((r.newP (o := .own w) hd).newP (p := w) (o := .ins C d []) (by rw [upd_ne (Ne.symm hdw)]; exact hw)).newP (o := .dK []) hp)
 have rf : Rf F G (upd (upd (upd (upd H d (.own w)) w (.ins C d [])) p (.dK [])) w (.ins C d [("running", .ref p), ("joined", .int 0), ("last", .non)])) := r1.fr.priv (r.fr.fresh hw) (r.fr.gfresh hw)
 have r2 : R F Γ σ G (upd (upd (upd (upd H d (.own w)) w (.ins C d [])) p (.dK [])) w (.ins C d [("running", .ref p), ("joined", .int 0), ("last", .non)])) := r.keep rf (Same.refl _) fun q u _ _ g h => ⟨g, g3 q u h⟩
 have hP : ((fieldF C).box w ⟨d, p, [], 0, .none⟩).P (.ref w) [w, d, p] G (upd (upd (upd (upd H d (.own w)) w (.ins C d [])) p (.dK [])) w (.ins C d [("running", .ref p), ("joined", .int 0), ("last", .non)])) :=
  ⟨rfl, rfl, [], .non, ⟨upd_same, (by show upd _ w _ d = _; rw [upd_ne hdw, upd_ne (Ne.symm pd), upd_ne hdw, upd_same]), (by show upd _ w _ p = _; rw [upd_ne pw, upd_same])⟩, ⟨.nil, .non⟩⟩
 have fr : ∀ b ∈ [w, d, p], H b = none := fun b hb => by
  simp only [List.mem_cons, List.not_mem_nil, or_false] at hb
  rcases hb with rfl | rfl | rfl
  ·exact hw
  ·exact hd
  ·exact hp0
 refine k _ _ _ _ _ (hm w d p) (Same.refl _) r2 ⟨[w, d, p], hP, fun b hb => ⟨r.fr.fresh (fr b hb), r.fr.gfresh (fr b hb)⟩⟩ (Apart.newB r (fun fp h b hb => ?_) (Same.refl _) fun b o _ g e => ⟨g, g3 b o e⟩)
 rw [Bx.uniq _ h hP] at hb
 exact fr b hb
noncomputable def mFdRunnersT (C : Addr) (mo : MO) : MO := fun Γ Q => mo Γ fun rv Γ1 => ∃ w s, rv = .box ((fieldF C).box w s) ∧ s.kds.length < 64 ∧ Q (.own ((srtInt (s.kds.map (·.1))).map PyData.int)) Γ1
noncomputable def mFdGetT (C : Addr) (mo : MO) (j : Nat) : ME := fun Γ Q => mo Γ fun rv Γ1 => ∃ w s n, rv = .box ((fieldF C).box w s) ∧ Γ1[j]? = some (.val (.int n)) ∧ Q ((dkAt s.kds n).getD .none) Γ1
end
end L2.VS
namespace L2.VS
open PySem PySem.Spec PyProof.Rows
variable {P0 : Addr → Hp → Prop} {A : Nat → Bool}
theorem SqL_same {K : PySem.W.Frag} {G G' : Hp} {a : Addr} {xs : List V} (g : Same G G') (h : SqL K G a xs) : SqL K G' a xs := by
 rcases h with (h | ⟨o, h⟩) | h
 ·exact .inl (.inl (g _ _ h))
 ·exact .inl (.inr ⟨o, g _ _ h⟩)
 ·exact .inr h
noncomputable def pScr (K : PySem.W.Frag) (a : Addr) (ns : List Int) : Pb where
 P := fun v G => v = .ref a ∧ SqL K G a (ns.map V.int)
 mono := fun g h => ⟨h.1, SqL_same g h.2⟩
noncomputable def mPenC (K : PySem.W.Frag) (i j : Nat) : MO := fun Γ Q => ∃ a ns n, Γ[i]? = some (.pub (pScr K a ns)) ∧ Γ[j]? = some (.val (.int n)) ∧ 0 ≤ n ∧ n < 1000 ∧ ∀ pen, Q (.box (penF.box pen 1)) Γ
theorem vo_penC {K : PySem.W.Frag} {i j : Nat} {E : XK} : VO P0 (tCall (spPenC K) [] E (tCons (tVar i) (tCons (tVar j) tNil))) (mPenC K i j) := by
 intro F Γ σ G H Q Qm r hm k
 obtain ⟨a, ns, n, e, ej, n0, n1, m⟩ := hm
 obtain ⟨v, ev, rfl, hs⟩ := r.sl i _ e
 obtain ⟨vj, evj, dj⟩ := r.sl j _ ej
 cases dj
 refine ⟨.ref a, ev, _, evj, a, ns, n, rfl, SqL_same r.fr.sub hs, n0, n1, fun p z c hp hz hc hc2 => ?_⟩
 have hP : (penF.box p 1).P (.ref p) [p] G (upd H p (.lst [.int z, .int c, .int 1])) := ⟨rfl, rfl, z, c, 1, upd_same, hz, hc, hc2, by decide, by decide⟩
 refine k _ _ _ _ _ (m p) (Same.refl _) (r.newP hp) ⟨[p], hP, fun b hb => ?_⟩ (Apart.newB r (fun fp h b hb => ?_) (Same.refl _) fun b o _ g e => ⟨g, by rw [upd_ne (ne_of_none e hp)]; exact e⟩)
 ·rw [List.mem_singleton.mp hb]; exact ⟨r.fr.fresh hp, r.fr.gfresh hp⟩
 ·rw [(penF.box p 1).uniq h hP] at hb
  rw [List.mem_singleton.mp hb]; exact hp
theorem law_bodyS {K : PySem.W.Frag} {a : Addr} {ns : List Int} {k : Nat} {b : MS} {H : Hp} {Q : VK} {nx : St → Hp → Prop} {X : Cx} {sts : List Stmt} {N : List Str}
    (h2 : ∃ t, PSs X sts t ∧ VS NoP t b) (hN : N.length = k + 1) (hS : SqL K H a (ns.map V.int))
    (hb : ∀ a ns, b (.pub (pScr K a ns) :: List.replicate k .no) TrueEnd) (q : ∀ H', Q (.bl true) H') : ∃ t, PSs X sts t ∧ t { nx := nx, rt := Q } (start N [.ref a]) H := by
  obtain ⟨t, h2, h⟩ := h2
  refine ⟨_, h2, ?_⟩
  have e : start N [.ref a] = some (.ref a) :: List.replicate k none := by
    unfold start
    rw [hN]
    rfl
  rw [e]
  let F : Fra NoP :=
    { H0 := H
      G0 := fun b => if b = a then H b else none
      pen := none
      stab := fun p e => nomatch e
      pin := fun p e => nomatch e
      pin0 := fun p e => nomatch e
      pg := fun _ e => nomatch e }
  have ga : F.G0 a = H a := by show (if a = a then H a else none) = _; rw [if_pos rfl]
  have hG : SqL K F.G0 a (ns.map V.int) := by
    rcases hS with (h | ⟨o, h⟩) | h
    · exact .inl (.inl (ga.trans h))
    · exact .inl (.inr ⟨o, ga.trans h⟩)
    · exact .inr h
  have r : R F (.pub (pScr K a ns) :: List.replicate k .no) (some (.ref a) :: List.replicate k none) F.G0 H := by
    refine ⟨⟨fun b o e => ?_, fun _ _ _ => rfl, fun b o e _ => e, fun p e => nomatch e⟩, by simp, fun i => [], fun i s e => ?_, fun i j s u _ _ hij b hb hc => nomatch hb⟩
    · have e : (if b = a then H b else none) = some o := e
      split at e
      · exact e
      · cases e
    · match i with
      | 0 =>
        cases e
        exact ⟨rfl, .ref a, rfl, rfl, hG⟩
      | i + 1 =>
        have e' : (List.replicate k Sl.no)[i]? = some s := by simpa using e
        rw [List.getElem?_replicate] at e'
        split at e'
        · cases e'; rfl
        · cases e'
  refine h F _ _ F.G0 _ _ TrueEnd r (hb a ns) fun fl e => ?_
  unfold TrueEnd at e
  subst e
  intro v G' H' _ _ hr
  have hr : Dt G' v (.bool true) := hr
  cases hr
  exact q H'
noncomputable def mRev (i : Nat) : MS := fun Γ Q => ∃ ds, Γ[i]? = some (.own ds) ∧ Q (.nx (Γ.set i (.own ds.reverse)))
theorem vs_rev {K : PySem.W.Frag} {i : Nat} : VSA P0 A (tDrop (tBM0 K "list" rReverse (tVar i))) (mRev i) := by
 intro F Γ σ G H E Qm r hm k
 obtain ⟨ds, e0, hm⟩ := hm
 obtain ⟨p, vs, e1, e2, e3, e4, e5⟩ := r.sl i _ e0
 exact ⟨_, e1, .inl ⟨rfl, _, SqL.of e4⟩, p, vs, rfl, rfl, e4, k _ hm _ _ _ (Same.refl _) (r.write e0 e1 e5.rev) fun _ _ => rfl⟩
end L2.VS
namespace L2.VS
open PySem PySem.Spec PyProof.Rows
section
variable {i j : Nat} {Γ Γ1 : En} {Q : D → En → Prop} {Qf : Fl → Prop} {Qo : Rv → En → Prop} {m ma mj : ME} {kds : List (Int × D)} {d : D} {n : Int} {C w : Addr} {s : FS} {sl : Sl} {mo : MO}
theorem i_dkNew (h : Qo (.box (bDk [])) Γ) : mDkNew Γ Qo := h
noncomputable def dgK (i : Nat) (Q : D → En → Prop) (x : D) (Γ1 : En) : Prop := ∃ kds k d, Γ1[i]? = some (.box (bDk kds)) ∧ x = .int k ∧ dkAt kds k = some d ∧ Q d Γ1
theorem i_dkGet (h0 : Γ[i]? = some (.box (bDk kds))) (h : mj Γ (dgK i Q)) : mDkGet i mj Γ Q := ⟨⟨kds, h0⟩, h⟩
noncomputable def dpK (i : Nat) (d : D) (Q : Fl → Prop) (x : D) (Γ2 : En) : Prop := ∃ kds k, Γ2[i]? = some (.box (bDk kds)) ∧ x = .int k ∧ kds.length < 1000 ∧ Q (.nx (Γ2.set i (.box (bDk (dkPut kds k d)))))
noncomputable def dpJ (i : Nat) (mj : ME) (Q : Fl → Prop) (d : D) (Γ1 : En) : Prop := (∃ kds, Γ1[i]? = some (.box (bDk kds))) ∧ mj Γ1 (dpK i d Q)
theorem i_dkPut (h : m Γ (dpJ i mj Qf)) : mDkPut i m mj Γ Qf := h
theorem i_dpJ (h0 : Γ1[i]? = some (.box (bDk kds))) (h : mj Γ1 (dpK i d Qf)) : dpJ i mj Qf d Γ1 := ⟨⟨kds, h0⟩, h⟩
noncomputable def dqK (i : Nat) (Q : D → En → Prop) (x : D) (Γ1 : En) : Prop := ∃ kds k d, Γ1[i]? = some (.box (bDk kds)) ∧ x = .int k ∧ dkAt kds k = some d ∧ Q d (Γ1.set i (.box (bDk (dkDrop kds k))))
theorem i_dkPop (h0 : Γ[i]? = some (.box (bDk kds))) (h : mj Γ (dqK i Q)) : mDkPop i mj Γ Q := ⟨⟨kds, h0⟩, h⟩
noncomputable def dxK (y : D) (Q : D → En → Prop) (x : D) (Γ2 : En) : Prop := ∃ kds k d, y = .dict (dkD kds) ∧ x = .int k ∧ dkAt kds k = some d ∧ Q d Γ2
noncomputable def dxJ (mj : ME) (Q : D → En → Prop) (y : D) (Γ1 : En) : Prop := mj Γ1 (dxK y Q)
theorem i_dkIx (h : ma Γ (dxJ mj Q)) : mDkIx ma mj Γ Q := h
theorem i_dxJ {y : D} (h : mj Γ1 (dxK y Q)) : dxJ mj Q y Γ1 := h
noncomputable def d1K (kds : List (Int × D)) (Q : D → En → Prop) (x : D) (Γ2 : En) : Prop := ∃ k, x = .int k ∧ Q ((dkAt kds k).getD .none) Γ2
noncomputable def d1J (mj : ME) (Q : D → En → Prop) (y : D) (Γ1 : En) : Prop := ∃ kds, y = .dict (dkD kds) ∧ mj Γ1 (d1K kds Q)
theorem i_dkGet1 (h : ma Γ (d1J mj Q)) : mDkGet1 ma mj Γ Q := h
theorem i_d1J (h : mj Γ1 (d1K kds Q)) : d1J mj Q (.dict (dkD kds)) Γ1 := ⟨kds, rfl, h⟩
theorem i_d1K (h : Q ((dkAt kds n).getD .none) Γ1) : d1K kds Q (.int n) Γ1 := ⟨n, rfl, h⟩
noncomputable def sdK (Q : Rv → En → Prop) (y : D) (Γ1 : En) : Prop := ∃ kds : List (Int × D), y = .dict (dkD kds) ∧ kds.length < 64 ∧ Q (.own ((srtInt (kds.map (·.1))).map PyData.int)) Γ1
theorem i_sortDd (h : ma Γ (sdK Qo)) : mSortDd ma Γ Qo := h
theorem i_fdJoined (h0 : Γ[i]? = some (.box ((fieldF C).box w s))) (h : Q (.int s.jn) Γ) : mFdJoined C i Γ Q := ⟨w, s, _, h0, .inl rfl, h⟩
theorem i_fdLast (h0 : Γ[i]? = some (.box ((fieldF C).box w s))) (h : Q s.la Γ) : mFdLast C i Γ Q := ⟨w, s, _, h0, .inl rfl, h⟩
theorem i_fdRun (h0 : Γ[i]? = some (.pub (pField C w s))) (h : Q (.dict (dkD s.kds)) Γ) : mFdRun C i Γ Q := ⟨w, s, h0, h⟩
noncomputable def fxK (C : Addr) (i : Nat) (w : Addr) (s : FS) (Q : D → En → Prop) (x : D) (Γ1 : En) : Prop := (∃ sl, Γ1[i]? = some sl ∧ InF C w s sl) ∧ ∃ k d, x = .int k ∧ dkAt s.kds k = some d ∧ Q d Γ1
theorem i_fdIx (h0 : Γ[i]? = some (.box ((fieldF C).box w s))) (h : mj Γ (fxK C i w s Q)) : mFdIx C i mj Γ Q := ⟨w, s, ⟨_, h0, .inl rfl⟩, h⟩
theorem i_fxK (h0 : Γ1[i]? = some (.box ((fieldF C).box w s))) (hd : dkAt s.kds n = some d) (h : Q d Γ1) : fxK C i w s Q (.int n) Γ1 := ⟨⟨_, h0, .inl rfl⟩, n, d, rfl, hd, h⟩
noncomputable def fiK (C : Addr) (i : Nat) (Q : D → En → Prop) (x : D) (Γ1 : En) : Prop := ∃ w s sl k, Γ1[i]? = some sl ∧ InF C w s sl ∧ x = .int k ∧ Q (.bool (dkAt s.kds k).isSome) Γ1
theorem i_fdIn (h : mj Γ (fiK C i Q)) : mFdIn C i mj Γ Q := h
theorem i_fiK (h0 : Γ1[i]? = some (.box ((fieldF C).box w s))) (h : Q (.bool (dkAt s.kds n).isSome) Γ1) : fiK C i Q (.int n) Γ1 := ⟨w, s, _, n, h0, .inl rfl, rfl, h⟩
theorem i_fdLen (h0 : Γ[i]? = some (.box ((fieldF C).box w s))) (h : Q (.int (s.kds.length : Int)) Γ) : mFdLen C i Γ Q := ⟨w, s, _, h0, .inl rfl, h⟩
noncomputable def flaK (C : Addr) (i : Nat) (Q : Fl → Prop) (d : D) (Γ1 : En) : Prop := ∃ w s, Γ1[i]? = some (.box ((fieldF C).box w s)) ∧ Q (.nx (Γ1.set i (.box ((fieldF C).box w { s with la := d }))))
theorem i_setLast (h : m Γ (flaK C i Qf)) : mSetLast C i m Γ Qf := h
theorem i_flaK (h0 : Γ1[i]? = some (.box ((fieldF C).box w s))) (h : Qf (.nx (Γ1.set i (.box ((fieldF C).box w { s with la := d }))))) : flaK C i Qf d Γ1 := ⟨w, s, h0, h⟩
theorem i_joinInc (h0 : Γ[i]? = some (.box ((fieldF C).box w s))) (h : Qf (.nx (Γ.set i (.box ((fieldF C).box w { s with jn := s.jn + n }))))) : mJoinInc C i n Γ Qf := ⟨w, s, h0, h⟩
noncomputable def fpK (C : Addr) (i : Nat) (d : D) (w : Addr) (s : FS) (Q : Fl → Prop) (x : D) (Γ2 : En) : Prop := ∃ k, Γ2[i]? = some (.box ((fieldF C).box w s)) ∧ x = .int k ∧ s.kds.length < 1000 ∧ Q (.nx (Γ2.set i (.box ((fieldF C).box w { s with kds := dkPut s.kds k d }))))
noncomputable def fpJ (C : Addr) (i : Nat) (mj : ME) (Q : Fl → Prop) (d : D) (Γ1 : En) : Prop := ∃ w s, Γ1[i]? = some (.box ((fieldF C).box w s)) ∧ mj Γ1 (fpK C i d w s Q)
theorem i_fdPut (h : m Γ (fpJ C i mj Qf)) : mFdPut C i m mj Γ Qf := h
theorem i_fpJ (h0 : Γ1[i]? = some (.box ((fieldF C).box w s))) (h : mj Γ1 (fpK C i d w s Qf)) : fpJ C i mj Qf d Γ1 := ⟨w, s, h0, h⟩
theorem i_fpK (h0 : Γ1[i]? = some (.box ((fieldF C).box w s))) (hl : s.kds.length < 1000) (h : Qf (.nx (Γ1.set i (.box ((fieldF C).box w { s with kds := dkPut s.kds n d }))))) : fpK C i d w s Qf (.int n) Γ1 := ⟨n, h0, rfl, hl, h⟩
noncomputable def fqK (C : Addr) (i : Nat) (w : Addr) (s : FS) (Q : D → En → Prop) (x : D) (Γ1 : En) : Prop := ∃ k d, Γ1[i]? = some (.box ((fieldF C).box w s)) ∧ x = .int k ∧ dkAt s.kds k = some d ∧ Q d (Γ1.set i (.box ((fieldF C).box w { s with kds := dkDrop s.kds k })))
theorem i_fdPop (h0 : Γ[i]? = some (.box ((fieldF C).box w s))) (h : mj Γ (fqK C i w s Q)) : mFdPop C i mj Γ Q := ⟨w, s, h0, h⟩
theorem i_fqK (h0 : Γ1[i]? = some (.box ((fieldF C).box w s))) (hd : dkAt s.kds n = some d) (h : Q d (Γ1.set i (.box ((fieldF C).box w { s with kds := dkDrop s.kds n })))) : fqK C i w s Q (.int n) Γ1 := ⟨n, d, h0, rfl, hd, h⟩
theorem i_newFd (h : ∀ w d p, Qo (.box ((fieldF C).box w ⟨d, p, [], 0, .none⟩)) Γ) : mNewFd C Γ Qo := h
noncomputable def frK (C : Addr) (Q : Rv → En → Prop) (rv : Rv) (Γ1 : En) : Prop := ∃ w s, rv = .box ((fieldF C).box w s) ∧ s.kds.length < 64 ∧ Q (.own ((srtInt (s.kds.map (·.1))).map PyData.int)) Γ1
theorem i_fdRunnersT (h : mo Γ (frK C Qo)) : mFdRunnersT C mo Γ Qo := h
noncomputable def fgK (C : Addr) (j : Nat) (Q : D → En → Prop) (rv : Rv) (Γ1 : En) : Prop := ∃ w s n, rv = .box ((fieldF C).box w s) ∧ Γ1[j]? = some (.val (.int n)) ∧ Q ((dkAt s.kds n).getD .none) Γ1
theorem i_fdGetT (h : mo Γ (fgK C j Q)) : mFdGetT C mo j Γ Q := h
theorem i_penC {K : PySem.W.Frag} {a : Addr} {ns : List Int} (h0 : Γ[i]? = some (.pub (pScr K a ns))) (hj : Γ[j]? = some (.val (.int n))) (n0 : 0 ≤ n) (n1 : n < 1000) (h : ∀ pen, Qo (.box (penF.box pen 1)) Γ) : mPenC K i j Γ Qo := ⟨a, ns, n, h0, hj, n0, n1, h⟩
theorem i_rev {ds : List D} (h0 : Γ[i]? = some (.own ds)) (h : Qf (.nx (Γ.set i (.own ds.reverse)))) : mRev i Γ Qf := ⟨ds, h0, h⟩
end
end L2.VS
namespace L2
open PySem PySem.Spec PyProof.Rows
noncomputable def iLT (K : PySem.W.Frag) (tl : TE) : TI := fun σ H R => iList K tl σ H R ∨ iTup K tl σ H R
theorem pi_lt {X : Cx} {tg l : Expr} {tl : TE} (hl : PE X l tl) : PI X tg l (iLT X.K tl) := by
 intro pins s σ H R I h
 rcases h with h | h
 ·exact pi_list hl pins s σ H R I h
 ·exact pi_tup hl pins s σ H R I h
theorem isinst2_ok {X : Cx} {pins : List (Addr × Obj)} {σ : St} {H : Hp} {s : Shared} {A : Around} {E : Value → Shared → Prop} {Q : Value → Shared → Prop} {b : Bool} {x : V} {u : Value} {n : String} {tp : Addr} {dd : Option Addr} {its : List Value} {m : Nat} {sl : Array (Option Value)}
  (I : Inv X pins σ H s) (rx : RelV x u) (ty : TyOf X.K H x (.type n)) (ht : s.heap.get? tp = some ⟨.type "tuple", dd, .seq its.toArray m, sl⟩) (e : PySem.W.kitAny X.K (.type n) its = some b) (h : ∀ tk, Q (.bool b) { s with toks := tk }) :
  wpAny (model X.prog X.w) A (call (.builtin "isinstance") [u, .ref tp]) Q E s := by
 generalize hT : Value.type n = t at *
 cases ty with
 | non => cases (show u = Value.none from rx); exact PySem.W.kia_tup PySem.W.kitx_none I.kIn True.intro ht e (fun z => nomatch z) h
 | bl y => cases (show u = Value.bool y from rx); exact PySem.W.kia_tup PySem.W.kitx_bool I.kIn True.intro ht e (fun z => nomatch z) h
 | int i => obtain ⟨t, q⟩ := (show ∃ t, u = Value.int i t from rx); cases q; exact PySem.W.kia_tup PySem.W.kitx_int I.kIn True.intro ht e (fun z => nomatch z) h
 | str y => obtain ⟨t, q⟩ := (show ∃ t, u = Value.str y t from rx); cases q; exact PySem.W.kia_tup PySem.W.kitx_str I.kIn True.intro ht e (fun z => nomatch z) h
 | flt y => obtain ⟨t, q⟩ := (show ∃ t, u = Value.float y t from rx); cases q; exact PySem.W.kia_tup PySem.W.kitx_float I.kIn True.intro ht e (fun z => nomatch z) h
 | @lst a xs ea =>
  cases (show u = Value.ref a from rx)
  obtain ⟨_, _, n, _, h1⟩ := (show ObjOk X.prog X.w H s.heap a (.lst xs) from I.hok a _ ea)
  exact PySem.W.kia_tup PySem.W.kitx_list I.kIn ⟨_, h1, rfl⟩ ht e (fun z => nomatch z) h
 | @frz a ob xs ea =>
  cases (show u = Value.ref a from rx)
  obtain ⟨_, _, _, n, _, h1⟩ := (show ObjOk X.prog X.w H s.heap a (.frz ob (.lst xs)) from I.hok a _ ea)
  exact PySem.W.kia_tup PySem.W.kitx_list I.kIn ⟨_, h1, rfl⟩ ht e (fun z => nomatch z) h
 | @tup a xs ea =>
  cases (show u = Value.ref a from rx)
  obtain ⟨_, _, _, p⟩ := (show ObjOk X.prog X.w H s.heap a (.tup xs) from I.hok a _ ea)
  obtain ⟨o, h1, h2, _⟩ := p
  exact PySem.W.kia_tup PySem.W.kitx_tuple I.kIn ⟨o, h1, h2⟩ ht e (fun z => nomatch z) h
 | @dK a kvs ea =>
  cases (show u = Value.ref a from rx)
  obtain ⟨_, _, vs, _, p⟩ := (show ObjOk X.prog X.w H s.heap a (.dK kvs) from I.hok a _ ea)
  obtain ⟨o, es, ep, h1, h2, _⟩ := p
  exact PySem.W.kia_tup PySem.W.kitx_dict I.kIn ⟨o, h1, h2.1⟩ ht e (fun z => nomatch z) h
 | @dT a kvs ea =>
  cases (show u = Value.ref a from rx)
  obtain ⟨_, _, xs, _, o, es, ep, h1, h2, _⟩ := (show ObjOk X.prog X.w H s.heap a (.dT kvs) from I.hok a _ ea)
  exact PySem.W.kia_tup PySem.W.kitx_dict I.kIn ⟨o, h1, h2.1⟩ ht e (fun z => nomatch z) h
 | ins => cases hT
theorem kitAny2 {K : PySem.W.Frag} {t c d : Value} {a b : Bool} (h1 : PySem.W.kitOne K t c = some a) (h2 : PySem.W.kitOne K t d = some b) : PySem.W.kitAny K t [c, d] = some (a || b) := by
 unfold PySem.W.kitAny
 rw [h1]
 cases a with
 | true => rfl
 | false =>
  unfold PySem.W.kitAny
  rw [h2]
  cases b <;> rfl
noncomputable def rIsi2 (K : PySem.W.Frag) (a b : String) : List V → Hp → VK → Prop := fun xs H Q => ∃ (x : V) (tp : Addr) (n : String) (i j : Bool), xs = [x, .ref tp] ∧ TyOf K H x (.type n) ∧ H tp = some (.tup [.ty a, .ty b]) ∧ PySem.W.kitOne K (.type n) (.type a) = some i ∧ PySem.W.kitOne K (.type n) (.type b) = some j ∧ Q (.bl (i || j)) H
theorem call_isi2 {X : Cx} {a b : String} : CallR X (.builtin "isinstance") (rIsi2 X.K a b) := by
 intro pins s σ H xs us Q I r h
 obtain ⟨x, tp, n, i, j, rfl, ty, ht, h1, h2, q⟩ := h
 cases r with
 | cons r1 r =>
  cases r with
  | cons r2 r =>
   cases r
   have e2 := (show _ = Value.ref tp from r2)
   subst e2
   obtain ⟨_, its, rv, o, g1, g2, m, g3⟩ := (show ObjOk X.prog X.w H s.heap tp (.tup [.ty a, .ty b]) from I.hok tp _ ht)
   have ei : its = [Value.type a, Value.type b] := by
    cases rv with
    | cons a0 r0 =>
     cases r0 with
     | cons a1 r1 =>
      cases r1
      cases (show _ = Value.type a from a0)
      cases (show _ = Value.type b from a1)
      rfl
   subst ei
   obtain ⟨oc, od, dt, sl⟩ := o
   dsimp only at g2 g3
   subst g2 g3
   exact isinst2_ok I r1 ty g1 (kitAny2 h1 h2) fun tk => ⟨.bl (i || j), H, I.tok _, rfl, q⟩
end L2
namespace L2.VS
open PySem PySem.Spec PyProof.Rows
variable {P0 : Addr → Hp → Prop}
noncomputable def mIsi2 (a b : String) (ma : ME) : ME := fun Γ Q => ma Γ fun x Γ1 => Q (.bool (subT (kindD x) a || subT (kindD x) b)) Γ1
theorem vt_isi2 {K : PySem.W.Frag} {a b : String} {ta : TE} {ma : ME} (hk : Kit K) (ha : a ∈ tyL) (hb : b ∈ tyL) (h : VT P0 ta ma) : VT P0 (tCB (rIsi2 K a b) (tCons ta (tCons (tTup (tCons (tC (.ty a)) (tCons (tC (.ty b)) tNil))) tNil))) (mIsi2 a b ma) := by
 intro F Γ σ G H Q Qm r m k
 refine h F Γ σ G H _ _ r m fun d Γ1 x G1 H1 m1 s1 r1 d1 => ?_
 obtain ⟨h1, h2⟩ := tyOf_of (K := K) (Dt.same r1.fr.sub _ _ d1)
 refine ⟨small_b rfl, fun tp htp => ?_⟩
 have g := same_new htp (.tup [.ty a, .ty b])
 obtain ⟨h3, _⟩ := tyOf_of (K := K) (Dt.same g _ _ (Dt.same r1.fr.sub _ _ d1))
 exact ⟨x, tp, _, _, _, rfl, h3, upd_same, hk _ h2 _ ha, hk _ h2 _ hb, k _ _ _ _ _ m1 s1 (r1.newP htp) (.bl _)⟩
theorem i_isi2 {a b : String} {ma : ME} {Γ : En} {Q : D → En → Prop} (h : ma Γ fun x Γ1 => Q (.bool (subT (kindD x) a || subT (kindD x) b)) Γ1) : mIsi2 a b ma Γ Q := h
noncomputable def mItV (i : Nat) : MD := fun Γ Q => ∃ ds, (Γ[i]? = some (.val (.list ds)) ∨ Γ[i]? = some (.val (.tuple ds))) ∧ Q ds Γ
theorem vi_lt {K : PySem.W.Frag} {i : Nat} : VI P0 (iLT K (tVar i)) (mItV i) := by
 intro F Γ σ G H Q Qm r m k
 obtain ⟨ds, e | e, q⟩ := m
 ·exact .inl (vi_list vt_var F Γ σ G H Q Qm r (i_itL (i_var e q)) k)
 ·exact .inr (vi_tup vt_var F Γ σ G H Q Qm r (i_itT (i_var e q)) k)
theorem i_itVL {i : Nat} {Γ : En} {Q : List D → En → Prop} {ds : List D} (e : Γ[i]? = some (.val (.list ds))) (h : Q ds Γ) : mItV i Γ Q := ⟨ds, .inl e, h⟩
theorem i_itVT {i : Nat} {Γ : En} {Q : List D → En → Prop} {ds : List D} (e : Γ[i]? = some (.val (.tuple ds))) (h : Q ds Γ) : mItV i Γ Q := ⟨ds, .inr e, h⟩
noncomputable def mNo : Fm := fun _ _ => False
theorem cal_no {P : Program} {w : World} {K : PySem.W.Frag} {mg : Str → Option Value} {base : Heap} {k n : Nat} {x : Str} {ps : List Str} {f : Addr} {fd : FuncData} (hm : mg x = some (.ref f)) (kp : PySem.W.keepIn K (.ref f) = true) (b : Binds K fd ps []) : Cal P w K mg base k x ps (spM P0 n mNo) :=
 ⟨f, fd, ⟨fun vs H Q E h => by obtain ⟨_, _, _, _, _, _, _, hm, _⟩ := h; exact hm.elim, fun _ _ _ _ _ _ _ _ _ _ _ _ _ h => by obtain ⟨_, _, _, _, _, _, _, hm, _⟩ := h; exact hm.elim⟩, hm, kp, b⟩
end L2.VS
namespace My
open PySem PySem.Spec PyProof.Rows L2 L2.VS LT
noncomputable def top (i : Nat) : Stmt := PySem.Challenge.pw_leadtimes_k29_logs_made.main.body.getD i (.Pass ⟨0, 0, 0, 0⟩)
set_option hygiene false in
local macro_rules | `(tactic| walk_at "vn") => `(tactic| dsimp only [List.set_cons_zero, List.set_cons_succ, List.set_nil, Rv.sl, Rv.d, nbQ, List.replicate, List.cons_append, List.nil_append, pubA, List.map_cons, List.map_nil])
set_option hygiene false in
local macro_rules | `(tactic| walk_at "v1") => `(tactic| first
 | (with_reducible first
  | apply i_seq | apply i_set | apply i_val | apply i_ret | apply i_if | apply i_tst
  | refine i_var (by with_unfolding_all rfl) ?_
  | apply i_c | apply i_pub | apply i_call | apply i_aval
  | refine i_apen (by with_unfolding_all rfl) ?_
  | apply i_anil | apply i_nil | apply i_cons | apply i_tup | apply i_lst | apply i_ix | apply i_I0 | apply i_I | apply i_U | apply i_eq | apply i_ne
  | apply i_and | apply i_or | apply i_not | apply i_andV | apply i_orV | apply i_notV | apply i_isN | apply i_notN | apply i_isi | apply i_len | apply i_abs | apply i_2I | apply i_int1 | apply i_ifE | apply i_ifO
  | apply i_for | apply i_itL | apply i_itT | apply i_rng1 | apply i_rng2 | apply i_gN
  | refine i_gT (by with_unfolding_all rfl) ?_
  | apply i_gsCons | apply i_gsNil | apply i_asg | apply i_par | apply i_nx | apply i_retN | apply i_drop | apply i_peek | apply i_peekT | apply i_peekO | apply i_listOf | apply i_slL | apply i_pNo | apply i_pSo | apply i_cat | apply i_in
  | refine i_append (by with_unfolding_all rfl) ?_
  | refine i_clear (by with_unfolding_all rfl) ?_
  | refine i_pubS (by with_unfolding_all rfl) ?_
  | refine i_pubS0 (by with_unfolding_all rfl) ?_
  | refine i_move (by with_unfolding_all rfl) ?_
  | refine i_moveV (by with_unfolding_all rfl) ?_
  | apply i_oQ (ix_num0 _) | apply i_oQ (ix_num1 _) | apply i_oQ (ix_line0 _) | apply i_oQ (ix_line1 _)
  | apply iteT | apply iteF
  | refine isT (by with_unfolding_all rfl) ?_
  | refine isF (by with_unfolding_all rfl) ?_
  | refine isNT (by with_unfolding_all rfl) ?_
  | refine isNF (by with_unfolding_all rfl) ?_
  | apply iteNT | apply iteNF
  | refine And.intro rfl ?_
  | refine And.intro (Nat.le_of_ble_eq_true (by with_unfolding_all rfl)) ?_
  | refine And.intro (mulB (by assumption) (by assumption)) ?_
  | (refine And.intro (good_int _) (And.intro (good_int _) ?_); rw [eqv_int])
  | (refine And.intro (good_num _) (And.intro (good_num _) ?_); rw [eqv_num])
  | (refine And.intro (good_line _) (And.intro (good_line _) ?_); rw [eqv_line])
  | (refine And.intro (good_bool _) (And.intro (good_bool _) ?_); rw [eqv_bool]))
 | dsimp only [Rv.d, Rv.sl, nbQ, Bool.not_true, Bool.not_false, isN, itemsD])
set_option hygiene false in
local macro_rules | `(tactic| walk_at "vs") => `(tactic| repeat (walk_at "v1"))
set_option hygiene false in
local macro_rules | `(tactic| walk_at "w1") => `(tactic| first
 | walk_at "v1"
 | with_reducible apply i_comp
 | with_reducible refine i_insert (by with_unfolding_all rfl) ?_
 | with_reducible apply i_step
 | with_reducible apply i_bs
 | with_reducible apply i_chain
 | with_reducible apply i_peekS
 | with_reducible apply i_slT
 | with_reducible apply i_catT
 | with_reducible refine i_aug (by with_unfolding_all rfl) ?_
 | with_reducible apply i_listRng
 | with_reducible apply i_listZip
 | with_reducible apply i_itZ
 | with_reducible apply i_itE
 | with_reducible apply i_isB
 | with_reducible apply i_lenSet
 | with_reducible apply i_lenSetT
 | with_reducible apply i_dnew
 | with_reducible apply i_listD
 | with_reducible apply i_setD
 | with_reducible refine i_itD (by with_unfolding_all rfl) ?_
 | with_reducible refine i_ixD (by with_unfolding_all rfl) ?_
 | with_reducible apply i_sortN
 | with_reducible apply i_dnewB
 | with_reducible apply i_putB
 | with_reducible apply i_setB
 | with_reducible refine i_itB (by with_unfolding_all rfl) ?_
 | with_reducible refine i_ixB (by with_unfolding_all rfl) ?_
 | with_reducible refine i_isNB (by with_unfolding_all rfl) ?_
 | with_reducible apply i_neB
 | with_reducible apply i_compB
 | with_reducible apply i_tupE
 | with_reducible apply i_dic0
 | with_reducible apply i_acon
 | with_reducible refine i_acv (by with_unfolding_all rfl) ?_
 | with_reducible refine i_ixC (by with_unfolding_all rfl) ?_)
set_option hygiene false in
local macro_rules | `(tactic| walk_at "ws") => `(tactic| repeat (walk_at "w1"))
set_option hygiene false in
local macro_rules | `(tactic| walk_at "l1") => `(tactic| first
 | walk_at "w1"
 | with_reducible refine i_lend (by with_unfolding_all rfl) ?_
 | with_reducible refine i_lnK (by with_unfolding_all rfl) rfl ?_
 | with_reducible apply i_retL
 | with_reducible refine i_rtK (by with_unfolding_all rfl) ?_
 | with_reducible apply i_endK
 | with_reducible refine i_lend2 (by with_unfolding_all rfl) ?_
 | with_reducible refine i_ownIx' (by with_unfolding_all rfl) ?_
 | with_reducible refine i_oxK (by with_unfolding_all rfl) ?_
 | with_reducible apply i_setIx'
 | with_reducible refine i_sxJ (by with_unfolding_all rfl) ?_
 | with_reducible apply i_ltT
 | with_reducible apply i_rep
 | with_reducible apply i_newW2
 | with_reducible apply i_compLn)
set_option hygiene false in
local macro_rules | `(tactic| walk_at "ls") => `(tactic| repeat (walk_at "l1"))
set_option hygiene false in
local macro_rules | `(tactic| walk_at "kp") => `(tactic| repeat (with_unfolding_all first
 | exact kept_n
 | apply kept_f
 | refine kept_t cut_pen ?_
 | refine kept_t cut_walk ?_
 | refine kept_t cut_lst ?_))
set_option hygiene false in
local macro_rules | `(tactic| walk_at "m1") => `(tactic| first
 | walk_at "l1"
 | with_reducible apply i_pkL
 | with_reducible apply i_pkLT
 | with_reducible apply i_pkLO
 | with_reducible refine i_pkK (by with_unfolding_all rfl) (by with_unfolding_all rfl) (by with_unfolding_all rfl) (by walk_at "kp") ?_
 | with_reducible refine i_pkKT (by with_unfolding_all rfl) (by with_unfolding_all rfl) (by walk_at "kp") ?_
 | with_reducible apply i_retLj
 | with_reducible refine i_rtKj (by with_unfolding_all rfl) ?_
 | with_reducible apply i_setIxB
 | with_reducible refine i_sbJ (by with_unfolding_all rfl) (by with_unfolding_all rfl) ?_
 | with_reducible apply i_lost
 | with_reducible apply i_setSl
 | with_reducible refine i_slJ (by with_unfolding_all rfl) ?_)
set_option hygiene false in
local macro_rules | `(tactic| walk_at "ms") => `(tactic| repeat (walk_at "m1"))
set_option hygiene false in
local macro_rules | `(tactic| walk_at "f1") => `(tactic| first
 | walk_at "m1"
 | with_reducible apply i_dkNew
 | with_reducible refine i_popAt (by with_unfolding_all rfl) ?_
 | with_reducible refine i_lenO (by with_unfolding_all rfl) ?_
 | with_reducible refine i_lenV (by with_unfolding_all rfl) ?_
 | with_reducible refine i_dkGet (by with_unfolding_all rfl) ?_
 | with_reducible apply i_dkPut
 | with_reducible refine i_dpJ (by with_unfolding_all rfl) ?_
 | with_reducible refine i_dkPop (by with_unfolding_all rfl) ?_
 | with_reducible apply i_dkIx
 | with_reducible apply i_dxJ
 | with_reducible apply i_dkGet1
 | with_reducible apply i_d1J
 | with_reducible apply i_d1K
 | with_reducible apply i_sortDd
 | with_reducible refine i_fdJoined (by with_unfolding_all rfl) ?_
 | with_reducible refine i_fdLast (by with_unfolding_all rfl) ?_
 | with_reducible refine i_fdRun (by with_unfolding_all rfl) ?_
 | with_reducible refine i_fdIx (by with_unfolding_all rfl) ?_
 | with_reducible apply i_setLast
 | with_reducible refine i_flaK (by with_unfolding_all rfl) ?_
 | with_reducible refine i_joinInc (by with_unfolding_all rfl) ?_
 | with_reducible apply i_fdPut
 | with_reducible refine i_fpJ (by with_unfolding_all rfl) ?_
 | with_reducible refine i_fdPop (by with_unfolding_all rfl) ?_
 | with_reducible apply i_fdRunnersT
 | with_reducible apply i_fdGetT
 | with_reducible refine i_rev (by with_unfolding_all rfl) ?_)
set_option hygiene false in
local macro_rules | `(tactic| walk_at "fs") => `(tactic| repeat (walk_at "f1"))
set_option hygiene false in
local macro_rules | `(tactic| walk_at "g1") => `(tactic| first
 | walk_at "f1"
 | with_reducible apply i_isi2
 | with_reducible refine i_itVL (by with_unfolding_all rfl) ?_
 | with_reducible refine i_itVT (by with_unfolding_all rfl) ?_
 | with_reducible apply i_fdIn
 | with_reducible refine i_fiK (by with_unfolding_all rfl) ?_
 | with_reducible refine i_fdLen (by with_unfolding_all rfl) ?_)
set_option hygiene false in
local macro_rules | `(tactic| walk_at "gs") => `(tactic| repeat (walk_at "g1"))
noncomputable def b_is_whole : MS :=
 (mRet (mVal (mAndV (mIsi "int" (mVar 0)) (mNotV (mIsi "bool" (mVar 0))))))
noncomputable def m_is_whole : Fm := mFn 0 b_is_whole
noncomputable def b_greatest_divisor_r1 : MS :=
 (mRet (mVal (mVar 2)))
noncomputable def b_greatest_divisor_l1 : MS :=
 (mSeq (mSet 4 (mVal (mMod (mVar 2) (mVar 3))))
  (mSeq (mSet 2 (mVal (mVar 3)))
  (mSet 3 (mVal (mVar 4)))))
noncomputable def b_greatest_divisor : MS :=
 (mSeq (mSet 2 (mVal (mAbs (mVar 0))))
  (mSeq (mSet 3 (mVal (mAbs (mVar 1))))
  (mSeq (mWhile (mTst (mNe (mVar 3) (mC (.int 0))))
  b_greatest_divisor_l1)
  b_greatest_divisor_r1)))
noncomputable def m_greatest_divisor : Fm := mFn 3 b_greatest_divisor
noncomputable def b_number_of_r1 : MS :=
 (mRet (mVal (mTup (mCons (mDivX (mVar 0) (mVar 2)) (mCons (mDivX (mVar 1) (mVar 2)) mNil)))))
noncomputable def b_number_of_r2 : MS :=
 (mSeq (mSet 2 (mVal (mPub (mCall 2 m_greatest_divisor (aVal (mVar 0) (aVal (mVar 1) aNil))))))
  (mSeq (mIf (mTst (mLt (mVar 1) (mC (.int 0))))
  (mSet 2 (mVal (mNeg (mVar 2))))
  mNx)
  b_number_of_r1))
noncomputable def b_number_of : MS :=
 (mSeq (mIf (mOr (mNot (mTst (mPub (mCall 1 m_is_whole (aVal (mVar 0) aNil))))) (mOr (mNot (mTst (mPub (mCall 1 m_is_whole (aVal (mVar 1) aNil))))) (mTst (mEq (mVar 1) (mC (.int 0))))))
  mNever
  mNx)
  b_number_of_r2)
noncomputable def m_number_of : Fm := mFn 1 b_number_of
noncomputable def b_sum_of : MS :=
 (mRet (mCall 2 m_number_of (aVal (mAdd (mMul (mIx (mVar 0) (mC (.int 0))) (mIx (mVar 1) (mC (.int 1)))) (mMul (mIx (mVar 1) (mC (.int 0))) (mIx (mVar 0) (mC (.int 1))))) (aVal (mMul (mIx (mVar 0) (mC (.int 1))) (mIx (mVar 1) (mC (.int 1)))) aNil))))
noncomputable def m_sum_of : Fm := mFn 0 b_sum_of
noncomputable def b_difference_of : MS :=
 (mRet (mCall 2 m_number_of (aVal (mSub (mMul (mIx (mVar 0) (mC (.int 0))) (mIx (mVar 1) (mC (.int 1)))) (mMul (mIx (mVar 1) (mC (.int 0))) (mIx (mVar 0) (mC (.int 1))))) (aVal (mMul (mIx (mVar 0) (mC (.int 1))) (mIx (mVar 1) (mC (.int 1)))) aNil))))
noncomputable def m_difference_of : Fm := mFn 0 b_difference_of
noncomputable def b_product_of : MS :=
 (mRet (mCall 2 m_number_of (aVal (mMul (mIx (mVar 0) (mC (.int 0))) (mIx (mVar 1) (mC (.int 0)))) (aVal (mMul (mIx (mVar 0) (mC (.int 1))) (mIx (mVar 1) (mC (.int 1)))) aNil))))
noncomputable def m_product_of : Fm := mFn 0 b_product_of
noncomputable def b_is_less : MS :=
 (mRet (mVal (mLt (mMul (mIx (mVar 0) (mC (.int 0))) (mIx (mVar 1) (mC (.int 1)))) (mMul (mIx (mVar 1) (mC (.int 0))) (mIx (mVar 0) (mC (.int 1)))))))
noncomputable def m_is_less : Fm := mFn 0 b_is_less
noncomputable def b_place_at : MS :=
 (mRet (mCall 2 m_sum_of (aVal (mIx (mVar 0) (mC (.int 0))) (aVal (mPub (mCall 2 m_product_of (aVal (mIx (mVar 0) (mC (.int 1))) (aVal (mVar 1) aNil)))) aNil))))
noncomputable def m_place_at : Fm := mFn 0 b_place_at
noncomputable def b_line_through : MS :=
 (mRet (mVal (mTup (mCons (mPub (mCall 2 m_difference_of (aVal (mVar 1) (aVal (mPub (mCall 2 m_product_of (aVal (mVar 2) (aVal (mVar 0) aNil)))) aNil)))) (mCons (mVar 2) mNil)))))
noncomputable def m_line_through : Fm := mFn 0 b_line_through
noncomputable def b_is_number_r1 : MS :=
 (mRet (mVal (mAndV (mGe (mIx (mVar 0) (mC (.int 1))) (mC (.int 1))) (mEq (mPub (mCall 2 m_greatest_divisor (aVal (mIx (mVar 0) (mC (.int 0))) (aVal (mIx (mVar 0) (mC (.int 1))) aNil)))) (mC (.int 1))))))
noncomputable def b_is_number_r2 : MS :=
 (mSeq (mIf (mOr (mNot (mTst (mPub (mCall 1 m_is_whole (aVal (mIx (mVar 0) (mC (.int 0))) aNil))))) (mNot (mTst (mPub (mCall 1 m_is_whole (aVal (mIx (mVar 0) (mC (.int 1))) aNil))))))
  (mRet (mVal (mC (.bool false))))
  mNx)
  b_is_number_r1)
noncomputable def b_is_number : MS :=
 (mSeq (mIf (mOr (mNot (mTst (mIsi "tuple" (mVar 0)))) (mTst (mNe (mLen (mVar 0)) (mC (.int 2)))))
  (mRet (mVal (mC (.bool false))))
  mNx)
  b_is_number_r2)
noncomputable def m_is_number : Fm := mFn 0 b_is_number
noncomputable def b_law_lowest_r1 : MS :=
 (mRet (mVal (mTup (mCons (mDivX (mVar 0) (mVar 2)) (mCons (mDivX (mVar 1) (mVar 2)) mNil)))))
noncomputable def b_law_lowest_l1 : MS :=
 (mPar 2 3 (mCons (mVar 3) (mCons (mMod (mVar 2) (mVar 3)) mNil)))
noncomputable def b_law_lowest : MS :=
 (mSeq (mSet 2 (mVal (mAbs (mVar 0))))
  (mSeq (mSet 3 (mVal (mVar 1)))
  (mSeq (mWhile (mTst (mGt (mVar 3) (mC (.int 0))))
  b_law_lowest_l1)
  b_law_lowest_r1)))
noncomputable def m_law_lowest : Fm := mFn 2 b_law_lowest
noncomputable def b_law_far : MS :=
 (mSeq (mSet 1 (mVal (mAdd (mAdd (mMul (mPub (mCallL penF 2 mTakeL 0 (aVal (mC (.int 1000)) aNil))) (mC (.int 1000000))) (mMul (mPub (mCallL penF 2 mTakeL 0 (aVal (mC (.int 1000)) aNil))) (mC (.int 1000)))) (mPub (mCallL penF 2 mTakeL 0 (aVal (mC (.int 1000)) aNil))))))
  (mRetK penF (mVal (mIx (mPub (mLst (mCons (mVar 1) (mCons (mSub (mC (.int 0)) (mVar 1)) mNil)))) (mPub (mCallL penF 2 mTakeL 0 (aVal (mC (.int 2)) aNil)))))))
noncomputable def m_law_far : Lm Nat := mFnL penF 1 b_law_far
noncomputable def b_law_small_r1 : MS :=
 (mRetK penF (mCall 2 m_law_lowest (aVal (mPub (mCallL penF 1 m_law_far 0 aNil)) (aVal (mAdd (mC (.int 1)) (mPub (mCallL penF 2 mTakeL 0 (aVal (mC (.int 12)) aNil)))) aNil))))
noncomputable def b_law_small_r2 : MS :=
 (mSeq (mIf (mTst (mEq (mVar 1) (mC (.int 1))))
  (mRetK penF (mCall 2 m_law_lowest (aVal (mSub (mPub (mCallL penF 2 mTakeL 0 (aVal (mC (.int 25)) aNil))) (mC (.int 12))) (aVal (mAdd (mC (.int 1)) (mPub (mCallL penF 2 mTakeL 0 (aVal (mC (.int 12)) aNil)))) aNil))))
  mNx)
  b_law_small_r1)
noncomputable def b_law_small : MS :=
 (mSeq (mIf (mTst (mEq (mVar 1) (mC (.int 0))))
  (mRetK penF (mVal (mTup (mCons (mSub (mPub (mCallL penF 2 mTakeL 0 (aVal (mC (.int 7)) aNil))) (mC (.int 3))) (mCons (mC (.int 1)) mNil)))))
  mNx)
  b_law_small_r2)
noncomputable def m_law_small : Lm Nat := mFnL penF 0 b_law_small
noncomputable def b_law_log_r1 : MS :=
 (mRetK penF (mMove 5))
noncomputable def b_law_log_l1 : MS :=
 (mSeq (mSet 4 (mVal (mAdd (mVar 4) (mIx (mPub (mLst (mCons (mC (.int 0)) (mCons (mC (.int 1)) (mCons (mC (.int 2)) (mCons (mC (.int 1)) (mCons (mC (.int 0)) (mCons (mC (.int 5)) mNil)))))))) (mPub (mCallL penF 2 mTakeL 0 (aVal (mC (.int 6)) aNil)))))))
  (mSeq (mSet 9 (mVal (mPub (mCall 2 m_law_lowest (aVal (mVar 4) (aVal (mVar 3) aNil))))))
  (mSeq (mSet 10 (mVal (mPub (mCallL penF 2 mTakeL 0 (aVal (mC (.int 6)) aNil)))))
  (mIf (mPeekT (mOr (mTst (mEq (mVar 6) (mPub (mLst mNil)))) (mAnd (mTst (mLt (mVar 10) (mC (.int 3)))) (mTst (mLt (mLenO 6) (mC (.int 8)))))))
  (mSeq (mAppend 5 (mTup (mCons (mC (.str "join")) (mCons (mVar 9) (mCons (mPub (mCallL penF 2 m_law_small 0 (aVal (mVar 2) aNil))) (mCons (mPub (mCallL penF 2 m_law_small 0 (aVal (mVar 2) aNil))) mNil))))))
  (mSeq (mAppend 6 (mVar 7))
  (mSet 7 (mVal (mAdd (mVar 7) (mC (.int 1)))))))
  (mIf (mTst (mEq (mVar 10) (mC (.int 3))))
  (mAppend 5 (mTup (mCons (mC (.str "leave")) (mCons (mVar 9) (mCons (mPopAt 6 (mPub (mCallL penF 2 mTakeL 0 (aVal (mLenO 6) aNil)))) mNil)))))
  (mAppend 5 (mTup (mCons (mC (.str "turn")) (mCons (mVar 9) (mCons (mOwnIx 6 (mPub (mCallL penF 2 mTakeL 0 (aVal (mLenO 6) aNil)))) (mCons (mPub (mCallL penF 2 m_law_small 0 (aVal (mVar 2) aNil))) mNil)))))))))))
noncomputable def b_law_log : MS :=
 (mSeq (mSet 2 (mVal (mIx (mPub (mLst (mCons (mC (.int 0)) (mCons (mC (.int 0)) (mCons (mC (.int 1)) (mCons (mC (.int 2)) mNil)))))) (mPub (mCallL penF 2 mTakeL 0 (aVal (mC (.int 4)) aNil))))))
  (mSeq (mSet 3 (mVal (mIx (mPub (mLst (mCons (mC (.int 1)) (mCons (mC (.int 1)) (mCons (mAdd (mC (.int 1)) (mPub (mCallL penF 2 mTakeL 0 (aVal (mC (.int 12)) aNil)))) mNil))))) (mPub (mCallL penF 2 mTakeL 0 (aVal (mC (.int 3)) aNil))))))
  (mSeq (mSet 4 (mVal (mSub (mPub (mCallL penF 2 mTakeL 0 (aVal (mC (.int 41)) aNil))) (mC (.int 20)))))
  (mSeq (mSet 5 (mLst mNil))
  (mSeq (mSet 6 (mLst mNil))
  (mSeq (mSet 7 (mVal (mC (.int 0))))
  (mSeq (mFor (mRng1 (mCons (mVar 1) mNil)) (gN 8)
  b_law_log_l1)
  b_law_log_r1)))))))
noncomputable def m_law_log : Lm Nat := mFnL penF 9 b_law_log
noncomputable def b_law_full_r1 : MS :=
 (mSeq (mSet 4 (mVal (mPub (mCallL penF 2 mTakeL 0 (aVal (mC (.int 8)) aNil)))))
  (mPubS 2 (mRetK penF (mCat (mVar 2) (mPub (mLst (mCons (mTup (mCons (mC (.str "leave")) (mCons (mVar 1) (mCons (mVar 4) mNil)))) (mCons (mTup (mCons (mC (.str "join")) (mCons (mVar 1) (mCons (mVar 1) (mCons (mVar 1) mNil))))) mNil))))))))
noncomputable def b_law_full_l1 : MS :=
 (mAppend 2 (mTup (mCons (mC (.str "turn")) (mCons (mVar 1) (mCons (mPub (mCallL penF 2 mTakeL 0 (aVal (mC (.int 8)) aNil))) (mCons (mTup (mCons (mSub (mC (.int 0)) (mIx (mVar 1) (mC (.int 0)))) (mCons (mIx (mVar 1) (mC (.int 1))) mNil))) mNil))))))
noncomputable def b_law_full : MS :=
 (mSeq (mSet 1 (mVal (mTup (mCons (mSub (mSub (mC (.int 1000000000)) (mC (.int 1))) (mMul (mC (.int 2)) (mPub (mCallL penF 2 mTakeL 0 (aVal (mC (.int 3)) aNil))))) (mCons (mIx (mPub (mLst (mCons (mC (.int 1)) (mCons (mC (.int 11)) mNil)))) (mPub (mCallL penF 2 mTakeL 0 (aVal (mC (.int 2)) aNil)))) mNil)))))
  (mSeq (mSet 1 (mVal (mPub (mCall 2 m_law_lowest (aVal (mIx (mVar 1) (mC (.int 0))) (aVal (mIx (mVar 1) (mC (.int 1))) aNil))))))
  (mSeq (mSet 2 (mComp 1 [1] (mRng1 (mCons (mC (.int 8)) mNil)) (gN 0) mTrue (mTup (mCons (mC (.str "join")) (mCons (mTup (mCons (mSub (mC (.int 0)) (mIx (mVar 1) (mC (.int 0)))) (mCons (mIx (mVar 1) (mC (.int 1))) mNil))) (mCons (mVar 1) (mCons (mTup (mCons (mSub (mC (.int 0)) (mIx (mVar 1) (mC (.int 0)))) (mCons (mIx (mVar 1) (mC (.int 1))) mNil))) mNil)))))))
  (mSeq (mFor (mRng1 (mCons (mC (.int 30)) mNil)) (gN 3)
  b_law_full_l1)
  b_law_full_r1))))
noncomputable def m_law_full : Lm Nat := mFnL penF 4 b_law_full
noncomputable def b_f_add_runner (c : Addr) : MS :=
 (mSeq (mSet 2 (mVal (mFdJoined c 0)))
  (mSeq (mFdPut c 0 (mVar 1) (mVar 2))
  (mSeq (mJoinInc c 0 1)
  (mRetK (fieldF c) (mVal (mVar 2))))))
noncomputable def m_f_add_runner (c : Addr) : Lm FS := mFnL (fieldF c) 1 (b_f_add_runner c)
noncomputable def b_do_c_r1 (c : Addr) : MS :=
 (mRetK (fieldF c) (mVal (mC .none)))
noncomputable def b_do_c_r2 (c : Addr) : MS :=
 (mSeq (mIf (mTst (mEq (mIx (mVar 1) (mC (.int 0))) (mC (.str "leave"))))
  (mDrop (mFdPop c 0 (mIx (mVar 1) (mC (.int 2)))))
  (mSeq (mSet 2 (mVal (mPub (mCall 2 m_place_at (aVal (mFdIx c 0 (mIx (mVar 1) (mC (.int 2)))) (aVal (mIx (mVar 1) (mC (.int 1))) aNil))))))
  (mFdPut c 0 (mPub (mCall 3 m_line_through (aVal (mIx (mVar 1) (mC (.int 1))) (aVal (mVar 2) (aVal (mIx (mVar 1) (mC (.int 3))) aNil))))) (mIx (mVar 1) (mC (.int 2))))))
  (b_do_c_r1 c))
noncomputable def b_f_do (c : Addr) : MS :=
 (mSeq (mSetLast c 0 (mIx (mVar 1) (mC (.int 1))))
  (mSeq (mIf (mTst (mEq (mIx (mVar 1) (mC (.int 0))) (mC (.str "join"))))
  (mRetK (fieldF c) (mCallL (fieldF c) 2 (m_f_add_runner c) 0 (aVal (mPub (mCall 3 m_line_through (aVal (mIx (mVar 1) (mC (.int 1))) (aVal (mIx (mVar 1) (mC (.int 2))) (aVal (mIx (mVar 1) (mC (.int 3))) aNil))))) aNil)))
  mNx)
  (b_do_c_r2 c)))
noncomputable def m_f_do (c : Addr) : Lm FS := mFnL (fieldF c) 1 (b_f_do c)
noncomputable def b_allows_c_r1 (c : Addr) : MS :=
 (mRetK (fieldF c) (mVal (mFdIn c 0 (mIx (mVar 1) (mC (.int 2))))))
noncomputable def b_allows_c_r2 (c : Addr) : MS :=
 (mSeq (mIf (mTst (mEq (mIx (mVar 1) (mC (.int 0))) (mC (.str "join"))))
  (mRetK (fieldF c) (mVal (mLt (mFdLen c 0) (mC (.int 8)))))
  mNx)
  (b_allows_c_r1 c))
noncomputable def b_f_allows (c : Addr) : MS :=
 (mSeq (mIf (mAnd (mTst (mNotN (mFdLast c 0))) (mTst (mPub (mCall 2 m_is_less (aVal (mIx (mVar 1) (mC (.int 1))) (aVal (mFdLast c 0) aNil))))))
  (mRetK (fieldF c) (mVal (mC (.bool false))))
  mNx)
  (b_allows_c_r2 c))
noncomputable def m_f_allows (c : Addr) : Lm FS := mFnL (fieldF c) 0 (b_f_allows c)
noncomputable def b_is_deed_number_r1 : MS :=
 (mRet (mVal (mAndV (mLe (mAbs (mIx (mVar 0) (mC (.int 0)))) (mC (.int 999999999))) (mLe (mIx (mVar 0) (mC (.int 1))) (mC (.int 12))))))
noncomputable def b_is_deed_number : MS :=
 (mSeq (mIf (mNot (mTst (mPub (mCall 1 m_is_number (aVal (mVar 0) aNil)))))
  (mRet (mVal (mC (.bool false))))
  mNx)
  b_is_deed_number_r1)
noncomputable def m_is_deed_number : Fm := mFn 0 b_is_deed_number
noncomputable def b_is_deed_r1 : MS :=
 (mRet (mVal (mC (.bool false))))
noncomputable def b_is_deed_r2 : MS :=
 (mSeq (mIf (mTst (mEq (mIx (mVar 0) (mC (.int 0))) (mC (.str "turn"))))
  (mRet (mVal (mAndV (mEq (mLen (mVar 0)) (mC (.int 4))) (mAndV (mPub (mCall 1 m_is_whole (aVal (mIx (mVar 0) (mC (.int 2))) aNil))) (mAndV (mPub (mCall 1 m_is_deed_number (aVal (mIx (mVar 0) (mC (.int 1))) aNil))) (mPub (mCall 1 m_is_deed_number (aVal (mIx (mVar 0) (mC (.int 3))) aNil))))))))
  mNx)
  b_is_deed_r1)
noncomputable def b_is_deed_r3 : MS :=
 (mSeq (mIf (mTst (mEq (mIx (mVar 0) (mC (.int 0))) (mC (.str "leave"))))
  (mRet (mVal (mAndV (mEq (mLen (mVar 0)) (mC (.int 3))) (mAndV (mPub (mCall 1 m_is_deed_number (aVal (mIx (mVar 0) (mC (.int 1))) aNil))) (mPub (mCall 1 m_is_whole (aVal (mIx (mVar 0) (mC (.int 2))) aNil)))))))
  mNx)
  b_is_deed_r2)
noncomputable def b_is_deed_r4 : MS :=
 (mSeq (mIf (mTst (mEq (mIx (mVar 0) (mC (.int 0))) (mC (.str "join"))))
  (mRet (mVal (mAndV (mEq (mLen (mVar 0)) (mC (.int 4))) (mAll (mPub (mComp 1 [] (mItT (mSlT (mVar 0) (pSo (mC (.int 1))) pNo)) (gN 0) mTrue (mPub (mCall 1 m_is_deed_number (aVal (mVar 0) aNil)))))))))
  mNx)
  b_is_deed_r3)
noncomputable def b_is_deed : MS :=
 (mSeq (mIf (mOr (mNot (mTst (mIsi "tuple" (mVar 0)))) (mOr (mTst (mLt (mLen (mVar 0)) (mC (.int 3)))) (mNot (mTst (mIsi "str" (mIx (mVar 0) (mC (.int 0))))))))
  (mRet (mVal (mC (.bool false))))
  mNx)
  b_is_deed_r4)
noncomputable def m_is_deed : Fm := mFn 1 b_is_deed
noncomputable def b_log_of_c_r1 (c : Addr) : MS :=
 (mRet (mListOf (mVar 0)))
noncomputable def b_log_of_c_r2 (c : Addr) : MS :=
 (mDrop (mPub (mCallL (fieldF c) 2 (m_f_do c) 1 (aVal (mVar 3) aNil))))
noncomputable def b_log_of_c_l1 (c : Addr) : MS :=
 (mSeq (mIf (mOr (mTst (mEq (mVar 2) (mC (.int 40)))) (mOr (mNot (mTst (mPub (mCall 1 m_is_deed (aVal (mVar 3) aNil))))) (mNot (mTst (mPub (mCallL (fieldF c) 2 (m_f_allows c) 1 (aVal (mVar 3) aNil)))))))
  mNever
  mNx)
  (b_log_of_c_r2 c))
noncomputable def b_log_of_c_r3 (c : Addr) : MS :=
 (mSeq (mSet 1 (mNewFd c))
  (mSeq (mFor (mItE (mVar 0)) (gT 2 (gsCons (gN 2) (gsCons (gN 3) gsNil)))
  (b_log_of_c_l1 c))
  (b_log_of_c_r1 c)))
noncomputable def b_log_of (c : Addr) : MS :=
 (mSeq (mIf (mNot (mTst (mIsi "list" (mVar 0))))
  mNever
  mNx)
  (b_log_of_c_r3 c))
noncomputable def m_log_of (c : Addr) : Fm := mFn 3 (b_log_of c)
noncomputable def b_law_deep_c_r1 (c : Fm) : MS :=
 (mRet (mLst (mCons (mIsi "str" (mVar 0)) (mCons (mIsi "bool" (mVar 0)) (mCons (mVar 0) mNil)))))
noncomputable def b_law_deep (c : Fm) : MS :=
 (mSeq (mIf (mTst (mIsi2 "list" "tuple" (mVar 0)))
  (mRet (mCat (mPub (mLst (mCons (mIsi "list" (mVar 0)) mNil))) (mPub (mComp 1 [] (mItV 0) (gN 0) mTrue (mPub (mCall 1 c (aVal (mVar 0) aNil)))))))
  mNx)
  (b_law_deep_c_r1 c))
noncomputable def m_law_deep_0 : Fm := mNo
noncomputable def m_law_deep_1 : Fm := mFn 1 (b_law_deep m_law_deep_0)
noncomputable def m_law_deep_2 : Fm := mFn 1 (b_law_deep m_law_deep_1)
noncomputable def m_law_deep_3 : Fm := mFn 1 (b_law_deep m_law_deep_2)
noncomputable def m_law_deep_4 : Fm := mFn 1 (b_law_deep m_law_deep_3)
noncomputable def m_law_deep : Fm := m_law_deep_4
noncomputable def b_law_c_r1 (KK : PySem.W.Frag) (c : Addr) : MS :=
 (mRet (mVal (mC (.bool true))))
noncomputable def b_law_c_l1 (KK : PySem.W.Frag) (c : Addr) : MS :=
 (mPubS 6 (mIf (mOr (mTst (mNe (mVar 6) (mVar 4))) (mTst (mNe (mPub (mCall 1 (m_log_of c) (aVal (mVar 6) aNil))) (mVar 4))))
  (mRet (mVal (mC (.bool false))))
  mNx))
noncomputable def b_law_c_r2 (KK : PySem.W.Frag) (c : Addr) : MS :=
 (mSeq (mPubS 1 (mFor (mItL (mVar 1)) (gT 2 (gsCons (gN 6) (gsCons (gN 4) gsNil)))
  (b_law_c_l1 KK c)))
  (b_law_c_r1 KK c))
noncomputable def b_law_c_r3 (KK : PySem.W.Frag) (c : Addr) : MS :=
 (mSeq (mAppend 5 (mC .none))
  (mSeq (mPubS 6 (mAppend 1 (mTup (mCons (mVar 6) (mCons (mPub (mListOf (mVar 4))) mNil)))))
  (mSeq (mPubS 6 (mSet 7 (mCall 1 (m_log_of c) (aVal (mVar 6) aNil))))
  (mSeq (mAppend 7 (mTup (mCons (mC (.str "leave")) (mCons (mTup (mCons (mC (.int 0)) (mCons (mC (.int 1)) mNil))) (mCons (mC (.int 0)) mNil)))))
  (mSeq (mRev 7)
  (mIf (mTst (mNe (mPub (mCall 1 (m_log_of c) (aVal (mPub (mListOf (mVar 4))) aNil))) (mVar 4)))
  (mRet (mVal (mC (.bool false))))
  mNx))))))
noncomputable def b_law_c_r4 (KK : PySem.W.Frag) (c : Addr) : MS :=
 (mSeq (mSet 5 (mListOf (mVar 4)))
  (mSeq (mSet 6 (mPeekO (mCall 1 (m_log_of c) (aVal (mVar 5) aNil))))
  (mSeq (mPubS 6 (mIf (mPeekT (mOr (mNot (mTst (mIsi "list" (mVar 6)))) (mOr (mTst (mNe (mPub (mCall 1 m_law_deep (aVal (mVar 6) aNil))) (mPub (mCall 1 m_law_deep (aVal (mVar 4) aNil))))) (mTst (mNe (mVar 5) (mVar 4))))))
  (mRet (mVal (mC (.bool false))))
  mNx))
  (b_law_c_r3 KK c))))
noncomputable def b_law_c_l2 (KK : PySem.W.Frag) (c : Addr) : MS :=
 (mSeq (mSet 3 (mPenC KK 0 2))
  (mSeq (mSet 4 (mVal (mPub (mCallL penF 2 m_law_log 3 (aVal (mPub (mCallL penF 2 mTakeL 3 (aVal (mIx (mPub (mLst (mCons (mC (.int 13)) (mCons (mC (.int 13)) (mCons (mC (.int 13)) (mCons (mC (.int 41)) mNil)))))) (mPub (mCallL penF 2 mTakeL 3 (aVal (mC (.int 4)) aNil)))) aNil))) aNil)))))
  (mSeq (mIf (mTst (mEq (mPub (mCallL penF 2 mTakeL 3 (aVal (mC (.int 8)) aNil))) (mC (.int 0))))
  (mSet 4 (mVal (mPub (mCallL penF 1 m_law_full 3 aNil))))
  mNx)
  (b_law_c_r4 KK c))))
noncomputable def b_law_c (KK : PySem.W.Frag) (c : Addr) : MS :=
 (mSeq (mSet 1 (mLst mNil))
  (mSeq (mFor (mRng1 (mCons (mC (.int 3)) mNil)) (gN 2)
  (b_law_c_l2 KK c))
  (b_law_c_r2 KK c)))
abbrev s_is_whole : Stmt := top 6
theorem sc_is_whole : FnScope ["thing"] ["thing"] (defScope s_is_whole) := ⟨rfl, rfl, rfl, by decide +kernel, rfl, by decide +kernel, by decide +kernel⟩
theorem ok_is_whole {P0 : Addr → Hp → Prop} {P : Program} {w : World} {K : PySem.W.Frag} {mg : Str → Option Value} {base : Heap} {f : Addr} {fd : FuncData} (F : Fun K "is_whole" "is_whole" s_is_whole f fd) (B : Bl K mg) (Kt : Kit K) :
  FnOk P w K mg base CX0 1 f fd ["thing"] (spM P0 1 m_is_whole) :=
 F.okV sc_is_whole rfl rfl fun cdv A outer s H E hr =>
 have hu := hr.units
 ⟨_, (pss_one (ps_ret (pe_and (pe_callB call_isi rfl B.isinstance_ boot_isinstance (pa_cons (pv 0) (pa_cons (pe_bltn (v := .ty "int") rfl B.int_ boot_int rfl) pa_nil))) (pe_one (pe_not (pe_callB call_isi rfl B.isinstance_ boot_isinstance (pa_cons (pv 0) (pa_cons (pe_bltn (v := .ty "bool") rfl B.bool_ boot_bool rfl) pa_nil)))))))),
  ((vs_ret (vo_val (vt_and (vt_isi Kt (by decide) vt_var) (vt_not (vt_isi Kt (by decide) vt_var))))) : VS P0 _ b_is_whole)⟩
abbrev s_greatest_divisor : Stmt := top 7
theorem sc_greatest_divisor : FnScope ["one", "other", "divisor", "rest", "left_over"] ["one", "other"] (defScope s_greatest_divisor) := ⟨rfl, rfl, rfl, by decide +kernel, rfl, by decide +kernel, by decide +kernel⟩
theorem ok_greatest_divisor {P0 : Addr → Hp → Prop} {P : Program} {w : World} {K : PySem.W.Frag} {mg : Str → Option Value} {base : Heap} {f : Addr} {fd : FuncData} (F : Fun K "greatest_divisor" "greatest_divisor" s_greatest_divisor f fd) (B : Bl K mg) (Kt : Kit K) :
  FnOk P w K mg base CX0 1 f fd ["one", "other"] (spM P0 2 m_greatest_divisor) :=
 F.okV sc_greatest_divisor rfl rfl fun cdv A outer s H E hr =>
 have hu := hr.units
 ⟨_, (pss_cons (ps_set (i := 2) sc_greatest_divisor.nd rfl (by first | exact Or.inl rfl | exact Or.inr rfl) (pe_callB call_abs rfl B.abs_ boot_abs (pa_cons (pv 0) pa_nil)))
   (pss_cons (ps_set (i := 3) sc_greatest_divisor.nd rfl (by first | exact Or.inl rfl | exact Or.inr rfl) (pe_callB call_abs rfl B.abs_ boot_abs (pa_cons (pv 1) pa_nil)))
   (pss_cons (ps_while PassesOwn.never (pt_cmpR (op_neD hu) (pv 3) pe_int (nomark _)) (pss_cons (ps_set (i := 4) sc_greatest_divisor.nd rfl (by first | exact Or.inl rfl | exact Or.inr rfl) (pe_op op_mod (pv 2) (pv 3)))
   (pss_cons (ps_set (i := 2) sc_greatest_divisor.nd rfl (by first | exact Or.inl rfl | exact Or.inr rfl) (pv 3))
   (pss_one (ps_set (i := 3) sc_greatest_divisor.nd rfl (by first | exact Or.inl rfl | exact Or.inr rfl) (pv 4))))))
   (pss_one (ps_ret (pv 2)))))),
  ((vs_seq (vs_set (vo_val (vt_abs vt_var)))
   (vs_seq (vs_set (vo_val (vt_abs vt_var)))
   (vs_seq (vs_while (vtt_val (vt_ne vt_var vt_int)) (vs_seq (vs_set (vo_val (vt_mod vt_var vt_var)))
   (vs_seq (vs_set (vo_val vt_var))
   (vs_set (vo_val vt_var)))))
   (vs_ret (vo_val vt_var))))) : VS P0 _ b_greatest_divisor)⟩
abbrev s_number_of : Stmt := top 9
theorem sc_number_of : FnScope ["top", "bottom", "divisor"] ["top", "bottom"] (defScope s_number_of) := ⟨rfl, rfl, rfl, by decide +kernel, rfl, by decide +kernel, by decide +kernel⟩
theorem ok_number_of {P0 : Addr → Hp → Prop} {P : Program} {w : World} {K : PySem.W.Frag} {mg : Str → Option Value} {base : Heap} {f : Addr} {fd : FuncData} (F : Fun K "number_of" "number_of" s_number_of f fd) (B : Bl K mg) (Kt : Kit K)
  (c_greatest_divisor : Cal P w K mg base 1 "greatest_divisor" ["one", "other"] (spM P0 2 m_greatest_divisor))
  (c_is_whole : Cal P w K mg base 1 "is_whole" ["thing"] (spM P0 1 m_is_whole)) :
  FnOk P w K mg base CX0 2 f fd ["top", "bottom"] (spM P0 2 m_number_of) :=
 F.okV sc_number_of rfl rfl fun cdv A outer s H E hr =>
 have hu := hr.units
 ⟨_, (pss_cons (ps_if (PW.pt (pw_or (pt_not (pt_val (pe_callC c_is_whole hr rfl (pa_cons (pv 0) pa_nil)))) (pw_or (pt_not (pt_val (pe_callC c_is_whole hr rfl (pa_cons (pv 1) pa_nil)))) (pw_or1 (pt_cmpR (op_eqD hu) (pv 1) pe_int (nomark _)))))) (pss_one ps_never) pss_nil)
   (pss_cons (ps_set (i := 2) sc_number_of.nd rfl (by first | exact Or.inl rfl | exact Or.inr rfl) (pe_callC c_greatest_divisor hr rfl (pa_cons (pv 0) (pa_cons (pv 1) pa_nil))))
   (pss_cons (ps_if (pt_cmpR op_lt (pv 1) pe_int (nomark _)) (pss_one (ps_set (i := 2) sc_number_of.nd rfl (by first | exact Or.inl rfl | exact Or.inr rfl) (pe_un un_neg (pv 2)))) pss_nil)
   (pss_one (ps_ret (pe_tup (pa_cons (pe_op op_fdivX (pv 0) (pv 2)) (pa_cons (pe_op op_fdivX (pv 1) (pv 2)) pa_nil)))))))),
  ((vs_seq (vs_if (vtt_or (vtt_not (vtt_b (vt_pub (vo_call (va_val vt_var va_nil))))) (vtt_or (vtt_not (vtt_b (vt_pub (vo_call (va_val vt_var va_nil))))) (vtt_val (vt_eq vt_var vt_int)))) vs_never vs_nx)
   (vs_seq (vs_set (vo_val (vt_pub (vo_call (va_val vt_var (va_val vt_var va_nil))))))
   (vs_seq (vs_if (vtt_val (vt_lt vt_var vt_int)) (vs_set (vo_val (vt_neg vt_var))) vs_nx)
   (vs_ret (vo_val (vt_tup (vd_cons (vt_divX vt_var vt_var) (vd_cons (vt_divX vt_var vt_var) vd_nil)))))))) : VS P0 _ b_number_of)⟩
abbrev s_sum_of : Stmt := top 10
theorem sc_sum_of : FnScope ["a", "b"] ["a", "b"] (defScope s_sum_of) := ⟨rfl, rfl, rfl, by decide +kernel, rfl, by decide +kernel, by decide +kernel⟩
theorem ok_sum_of {P0 : Addr → Hp → Prop} {P : Program} {w : World} {K : PySem.W.Frag} {mg : Str → Option Value} {base : Heap} {f : Addr} {fd : FuncData} (F : Fun K "sum_of" "sum_of" s_sum_of f fd) (B : Bl K mg) (Kt : Kit K)
  (c_number_of : Cal P w K mg base 2 "number_of" ["top", "bottom"] (spM P0 2 m_number_of)) :
  FnOk P w K mg base CX0 3 f fd ["a", "b"] (spM P0 2 m_sum_of) :=
 F.okV sc_sum_of rfl rfl fun cdv A outer s H E hr =>
 have hu := hr.units
 ⟨_, (pss_one (ps_ret (pe_callC c_number_of hr rfl (pa_cons (pe_op op_add (pe_op op_mulX (pe_ix ix_seq (pv 0) pe_int (fun _ _ => rfl)) (pe_ix ix_seq (pv 1) pe_int (fun _ _ => rfl))) (pe_op op_mulX (pe_ix ix_seq (pv 1) pe_int (fun _ _ => rfl)) (pe_ix ix_seq (pv 0) pe_int (fun _ _ => rfl)))) (pa_cons (pe_op op_mulX (pe_ix ix_seq (pv 0) pe_int (fun _ _ => rfl)) (pe_ix ix_seq (pv 1) pe_int (fun _ _ => rfl))) pa_nil))))),
  ((vs_ret (vo_call (va_val (vt_add (vt_mul (vt_ix vt_var vt_int) (vt_ix vt_var vt_int)) (vt_mul (vt_ix vt_var vt_int) (vt_ix vt_var vt_int))) (va_val (vt_mul (vt_ix vt_var vt_int) (vt_ix vt_var vt_int)) va_nil)))) : VS P0 _ b_sum_of)⟩
abbrev s_difference_of : Stmt := top 11
theorem sc_difference_of : FnScope ["a", "b"] ["a", "b"] (defScope s_difference_of) := ⟨rfl, rfl, rfl, by decide +kernel, rfl, by decide +kernel, by decide +kernel⟩
theorem ok_difference_of {P0 : Addr → Hp → Prop} {P : Program} {w : World} {K : PySem.W.Frag} {mg : Str → Option Value} {base : Heap} {f : Addr} {fd : FuncData} (F : Fun K "difference_of" "difference_of" s_difference_of f fd) (B : Bl K mg) (Kt : Kit K)
  (c_number_of : Cal P w K mg base 2 "number_of" ["top", "bottom"] (spM P0 2 m_number_of)) :
  FnOk P w K mg base CX0 3 f fd ["a", "b"] (spM P0 2 m_difference_of) :=
 F.okV sc_difference_of rfl rfl fun cdv A outer s H E hr =>
 have hu := hr.units
 ⟨_, (pss_one (ps_ret (pe_callC c_number_of hr rfl (pa_cons (pe_op op_sub (pe_op op_mulX (pe_ix ix_seq (pv 0) pe_int (fun _ _ => rfl)) (pe_ix ix_seq (pv 1) pe_int (fun _ _ => rfl))) (pe_op op_mulX (pe_ix ix_seq (pv 1) pe_int (fun _ _ => rfl)) (pe_ix ix_seq (pv 0) pe_int (fun _ _ => rfl)))) (pa_cons (pe_op op_mulX (pe_ix ix_seq (pv 0) pe_int (fun _ _ => rfl)) (pe_ix ix_seq (pv 1) pe_int (fun _ _ => rfl))) pa_nil))))),
  ((vs_ret (vo_call (va_val (vt_sub (vt_mul (vt_ix vt_var vt_int) (vt_ix vt_var vt_int)) (vt_mul (vt_ix vt_var vt_int) (vt_ix vt_var vt_int))) (va_val (vt_mul (vt_ix vt_var vt_int) (vt_ix vt_var vt_int)) va_nil)))) : VS P0 _ b_difference_of)⟩
abbrev s_product_of : Stmt := top 12
theorem sc_product_of : FnScope ["a", "b"] ["a", "b"] (defScope s_product_of) := ⟨rfl, rfl, rfl, by decide +kernel, rfl, by decide +kernel, by decide +kernel⟩
theorem ok_product_of {P0 : Addr → Hp → Prop} {P : Program} {w : World} {K : PySem.W.Frag} {mg : Str → Option Value} {base : Heap} {f : Addr} {fd : FuncData} (F : Fun K "product_of" "product_of" s_product_of f fd) (B : Bl K mg) (Kt : Kit K)
  (c_number_of : Cal P w K mg base 2 "number_of" ["top", "bottom"] (spM P0 2 m_number_of)) :
  FnOk P w K mg base CX0 3 f fd ["a", "b"] (spM P0 2 m_product_of) :=
 F.okV sc_product_of rfl rfl fun cdv A outer s H E hr =>
 have hu := hr.units
 ⟨_, (pss_one (ps_ret (pe_callC c_number_of hr rfl (pa_cons (pe_op op_mulX (pe_ix ix_seq (pv 0) pe_int (fun _ _ => rfl)) (pe_ix ix_seq (pv 1) pe_int (fun _ _ => rfl))) (pa_cons (pe_op op_mulX (pe_ix ix_seq (pv 0) pe_int (fun _ _ => rfl)) (pe_ix ix_seq (pv 1) pe_int (fun _ _ => rfl))) pa_nil))))),
  ((vs_ret (vo_call (va_val (vt_mul (vt_ix vt_var vt_int) (vt_ix vt_var vt_int)) (va_val (vt_mul (vt_ix vt_var vt_int) (vt_ix vt_var vt_int)) va_nil)))) : VS P0 _ b_product_of)⟩
abbrev s_is_less : Stmt := top 13
theorem sc_is_less : FnScope ["a", "b"] ["a", "b"] (defScope s_is_less) := ⟨rfl, rfl, rfl, by decide +kernel, rfl, by decide +kernel, by decide +kernel⟩
theorem ok_is_less {P0 : Addr → Hp → Prop} {P : Program} {w : World} {K : PySem.W.Frag} {mg : Str → Option Value} {base : Heap} {f : Addr} {fd : FuncData} (F : Fun K "is_less" "is_less" s_is_less f fd) (B : Bl K mg) (Kt : Kit K) :
  FnOk P w K mg base CX0 1 f fd ["a", "b"] (spM P0 2 m_is_less) :=
 F.okV sc_is_less rfl rfl fun cdv A outer s H E hr =>
 have hu := hr.units
 ⟨_, (pss_one (ps_ret (pe_cmpR op_lt (pe_op op_mulX (pe_ix ix_seq (pv 0) pe_int (fun _ _ => rfl)) (pe_ix ix_seq (pv 1) pe_int (fun _ _ => rfl))) (pe_op op_mulX (pe_ix ix_seq (pv 1) pe_int (fun _ _ => rfl)) (pe_ix ix_seq (pv 0) pe_int (fun _ _ => rfl))) (nomark _)))),
  ((vs_ret (vo_val (vt_lt (vt_mul (vt_ix vt_var vt_int) (vt_ix vt_var vt_int)) (vt_mul (vt_ix vt_var vt_int) (vt_ix vt_var vt_int))))) : VS P0 _ b_is_less)⟩
abbrev s_place_at : Stmt := top 15
theorem sc_place_at : FnScope ["line", "time"] ["line", "time"] (defScope s_place_at) := ⟨rfl, rfl, rfl, by decide +kernel, rfl, by decide +kernel, by decide +kernel⟩
theorem ok_place_at {P0 : Addr → Hp → Prop} {P : Program} {w : World} {K : PySem.W.Frag} {mg : Str → Option Value} {base : Heap} {f : Addr} {fd : FuncData} (F : Fun K "place_at" "place_at" s_place_at f fd) (B : Bl K mg) (Kt : Kit K)
  (c_sum_of : Cal P w K mg base 3 "sum_of" ["a", "b"] (spM P0 2 m_sum_of))
  (c_product_of : Cal P w K mg base 3 "product_of" ["a", "b"] (spM P0 2 m_product_of)) :
  FnOk P w K mg base CX0 4 f fd ["line", "time"] (spM P0 2 m_place_at) :=
 F.okV sc_place_at rfl rfl fun cdv A outer s H E hr =>
 have hu := hr.units
 ⟨_, (pss_one (ps_ret (pe_callC c_sum_of hr rfl (pa_cons (pe_ix ix_seq (pv 0) pe_int (fun _ _ => rfl)) (pa_cons (pe_callC c_product_of hr rfl (pa_cons (pe_ix ix_seq (pv 0) pe_int (fun _ _ => rfl)) (pa_cons (pv 1) pa_nil))) pa_nil))))),
  ((vs_ret (vo_call (va_val (vt_ix vt_var vt_int) (va_val (vt_pub (vo_call (va_val (vt_ix vt_var vt_int) (va_val vt_var va_nil)))) va_nil)))) : VS P0 _ b_place_at)⟩
abbrev s_line_through : Stmt := top 16
theorem sc_line_through : FnScope ["time", "place", "slope"] ["time", "place", "slope"] (defScope s_line_through) := ⟨rfl, rfl, rfl, by decide +kernel, rfl, by decide +kernel, by decide +kernel⟩
theorem ok_line_through {P0 : Addr → Hp → Prop} {P : Program} {w : World} {K : PySem.W.Frag} {mg : Str → Option Value} {base : Heap} {f : Addr} {fd : FuncData} (F : Fun K "line_through" "line_through" s_line_through f fd) (B : Bl K mg) (Kt : Kit K)
  (c_difference_of : Cal P w K mg base 3 "difference_of" ["a", "b"] (spM P0 2 m_difference_of))
  (c_product_of : Cal P w K mg base 3 "product_of" ["a", "b"] (spM P0 2 m_product_of)) :
  FnOk P w K mg base CX0 4 f fd ["time", "place", "slope"] (spM P0 3 m_line_through) :=
 F.okV sc_line_through rfl rfl fun cdv A outer s H E hr =>
 have hu := hr.units
 ⟨_, (pss_one (ps_ret (pe_tup (pa_cons (pe_callC c_difference_of hr rfl (pa_cons (pv 1) (pa_cons (pe_callC c_product_of hr rfl (pa_cons (pv 2) (pa_cons (pv 0) pa_nil))) pa_nil))) (pa_cons (pv 2) pa_nil))))),
  ((vs_ret (vo_val (vt_tup (vd_cons (vt_pub (vo_call (va_val vt_var (va_val (vt_pub (vo_call (va_val vt_var (va_val vt_var va_nil)))) va_nil)))) (vd_cons vt_var vd_nil))))) : VS P0 _ b_line_through)⟩
abbrev s_is_number : Stmt := top 8
theorem sc_is_number : FnScope ["thing"] ["thing"] (defScope s_is_number) := ⟨rfl, rfl, rfl, by decide +kernel, rfl, by decide +kernel, by decide +kernel⟩
theorem ok_is_number {P0 : Addr → Hp → Prop} {P : Program} {w : World} {K : PySem.W.Frag} {mg : Str → Option Value} {base : Heap} {f : Addr} {fd : FuncData} (F : Fun K "is_number" "is_number" s_is_number f fd) (B : Bl K mg) (Kt : Kit K)
  (c_greatest_divisor : Cal P w K mg base 1 "greatest_divisor" ["one", "other"] (spM P0 2 m_greatest_divisor))
  (c_is_whole : Cal P w K mg base 1 "is_whole" ["thing"] (spM P0 1 m_is_whole)) :
  FnOk P w K mg base CX0 2 f fd ["thing"] (spM P0 1 m_is_number) :=
 F.okV sc_is_number rfl rfl fun cdv A outer s H E hr =>
 have hu := hr.units
 ⟨_, (pss_cons (ps_if (PW.pt (pw_or (pt_not (pt_val (pe_callB call_isi rfl B.isinstance_ boot_isinstance (pa_cons (pv 0) (pa_cons (pe_bltn (v := .ty "tuple") rfl B.tuple_ boot_tuple rfl) pa_nil))))) (pw_or1 (pt_cmpR (op_neD hu) (pe_callB call_len_seq rfl B.len_ boot_len (pa_cons (pv 0) pa_nil)) pe_int (nomark _))))) (pss_one (ps_ret pe_bl)) pss_nil)
   (pss_cons (ps_if (PW.pt (pw_or (pt_not (pt_val (pe_callC c_is_whole hr rfl (pa_cons (pe_ix ix_seq (pv 0) pe_int (fun _ _ => rfl)) pa_nil)))) (pw_or1 (pt_not (pt_val (pe_callC c_is_whole hr rfl (pa_cons (pe_ix ix_seq (pv 0) pe_int (fun _ _ => rfl)) pa_nil))))))) (pss_one (ps_ret pe_bl)) pss_nil)
   (pss_one (ps_ret (pe_and (pe_cmpR op_ge (pe_ix ix_seq (pv 0) pe_int (fun _ _ => rfl)) pe_int (nomark _)) (pe_one (pe_cmpR (op_eqD hu) (pe_callC c_greatest_divisor hr rfl (pa_cons (pe_ix ix_seq (pv 0) pe_int (fun _ _ => rfl)) (pa_cons (pe_ix ix_seq (pv 0) pe_int (fun _ _ => rfl)) pa_nil))) pe_int (nomark _)))))))),
  ((vs_seq (vs_if (vtt_or (vtt_not (vtt_b (vt_isi Kt (by decide) vt_var))) (vtt_val (vt_ne (vt_len vt_var) vt_int))) (vs_ret (vo_val vt_bl)) vs_nx)
   (vs_seq (vs_if (vtt_or (vtt_not (vtt_b (vt_pub (vo_call (va_val (vt_ix vt_var vt_int) va_nil))))) (vtt_not (vtt_b (vt_pub (vo_call (va_val (vt_ix vt_var vt_int) va_nil)))))) (vs_ret (vo_val vt_bl)) vs_nx)
   (vs_ret (vo_val (vt_and (vt_ge (vt_ix vt_var vt_int) vt_int) (vt_eq (vt_pub (vo_call (va_val (vt_ix vt_var vt_int) (va_val (vt_ix vt_var vt_int) va_nil)))) vt_int)))))) : VS P0 _ b_is_number)⟩
local macro_rules | `(tactic| walk_at "rd1") => `(tactic| first
 | refine ⟨_, rfl, ?_⟩
 | refine ⟨_, _, rfl, rfl, ?_⟩
 | refine And.intro rfl ?_
 | refine And.intro (small_b rfl) ?_
 | refine ⟨_, _, _, _, rfl, rfl, SqT.of (by assumption), rfl, ?_⟩
 | refine ⟨_, _, _, _, rfl, rfl, SqL.of (by assumption), rfl, ?_⟩
 | refine ⟨_, _, _, _, rfl, rfl, SqL.of upd_same, rfl, ?_⟩
 | refine ⟨_, _, _, _, rfl, rfl, (by assumption), rfl, ?_⟩
 | refine ⟨_, _, _, _, rfl, rfl, upd_same, rfl, ?_⟩
 | refine ⟨_, _, by assumption, by assumption, good_num _, good_num _, ?_⟩
 | refine ⟨_, _, by assumption, by assumption, good_line _, good_line _, ?_⟩
 | refine And.intro (mulB (by assumption) (by assumption)) ?_
 | refine And.intro (.inl (by decide)) ?_
 | refine And.intro (CMul_mod (by decide) (by decide)) ?_
 | refine And.intro (.inr (by decide)) ?_
 | refine ⟨_, _, rfl, .inl (by assumption), ?_⟩
 | refine ⟨_, _, rfl, .inr (SqT.of (by assumption)), ?_⟩
 | refine And.intro (by assumption) ?_
 | refine And.intro ⟨by decide, by decide⟩ ?_
 | refine And.intro ⟨by decide, by decide, by decide⟩ ?_
 | refine And.intro (show (0 : Int) < _ by decide) ?_
 | refine And.intro (by decide) ?_
 | refine ⟨_, _, rfl, ?_⟩)
local macro_rules | `(tactic| walk_at "rd") => `(tactic| repeat walk_at "rd1")
abbrev s_law_pen : Stmt := top 28
theorem sc_law_pen : FnScope ["_law_script", "_law_k", "_law_cell"] ["_law_script", "_law_k"] (defScope s_law_pen) := ⟨rfl, rfl, rfl, by decide +kernel, rfl, by decide +kernel, by decide +kernel⟩
theorem ok_law_pen {P : Program} {w : World} {K : PySem.W.Frag} {mg : Str → Option Value} {base : Heap} {f : Addr} {fd : FuncData} (F : Fun K "_law_pen" "_law_pen" s_law_pen f fd) (B : Bl K mg) :
  FnOk P w K mg base CX0 1 f fd ["_law_script", "_law_k"] (spPenC K) := by
 refine F.ok sc_law_pen (fun vs H Q E h => ?_) (fun cdv A outer s H vs Q E hr h => ?_)
 ·obtain ⟨a, ns, j, rfl, hS, j0, j1, q⟩ := h
  rfl
 have hu := hr.units
 obtain ⟨a, ns, j, rfl, hS, j0, j1, q⟩ := h
 refine ⟨_, (pss_cons (ps_set (i := 2) sc_law_pen.nd rfl (Or.inl rfl) (pe_op op_add (pe_op op_add (pe_op op_mulX (pe_op op_mulX pe_int (pv 1)) (pv 1)) (pe_op op_mulX pe_int (pv 1))) pe_int))
   (pss_cons (ps_if (pt_cmpR op_lt (pv 1) (pe_callB call_len_seq rfl B.len_ boot_len (pa_cons (pv 0) pa_nil)) (nomark _)) (pss_one (ps_set (i := 2) sc_law_pen.nd rfl (Or.inl rfl) (pe_ix ix_list (pv 0) (pv 1) (fun _ _ => rfl)))) (pss_one (ps_if (pt_cmpR op_gt (pe_callB call_len_seq rfl B.len_ boot_len (pa_cons (pv 0) pa_nil)) pe_int (nomark _)) (pss_one (ps_set (i := 2) sc_law_pen.nd rfl (Or.inl rfl) (pe_op op_add (pe_op op_mod (pe_ix ix_list (pv 0) (pe_op op_mod (pe_op op_mulX (pv 1) pe_int) (pe_callB call_len_seq rfl B.len_ boot_len (pa_cons (pv 0) pa_nil))) (fun _ _ => rfl)) (pe_powC (v := 100000000000000000) (by decide) ⟨by decide, by decide, by decide⟩)) (pe_op op_mulX pe_int (pv 1))))) pss_nil)))
   (pss_cons (ps_if (pt_cmpR op_ge (pv 2) (pe_powC (v := 1000000000000000000) (by decide) ⟨by decide, by decide, by decide⟩) (nomark _)) (pss_one (ps_ret (pe_lst (pa_cons (pe_op op_sub (pv 2) (pe_powC (v := 1000000000000000000) (by decide) ⟨by decide, by decide, by decide⟩)) (pa_cons (pe_op op_add (pe_op op_mod (pv 2) pe_int) (pv 1)) (pa_cons pe_int pa_nil)))))) pss_nil)
   (pss_one (ps_ret (pe_lst (pa_cons pe_int (pa_cons (pe_op op_add (pe_op op_mod (pv 2) pe_int) (pe_op op_mulX pe_int (pv 1))) (pa_cons pe_int pa_nil))))))))), ?_⟩
 have hl : (ns.map V.int).length = ns.length := List.length_map _
 have bs : ∀ x : Int, 0 ≤ x → x < 2147483648 → LT.Bt 31 x := fun x h1 h2 => by
  show x.natAbs < 2 ^ 31
  omega
 have a1 := bs j (by omega) (by omega)
 have a2 := bs 104729 (by decide) (by decide)
 have a3 := bs 7 (by decide) (by decide)
 have a4 := bs 65537 (by decide) (by decide)
 have a5 := bs 40503 (by decide) (by decide)
 have a6 := a2.mul a1
 have fin : ∀ cell x : Int, 0 ≤ x → x < 100000000 → 0 ≤ cell % 2147483629 + x ∧ cell % 2147483629 + x < 1099511627776 := fun cell x h1 h2 => by
  have h3 := Int.emod_nonneg cell (b := 2147483629) (by decide)
  have h4 := Int.emod_lt_of_pos cell (b := 2147483629) (by decide)
  omega
 walk_at "rd"
 refine iteD2 (fun e => ?a) (fun e => ?b)
 case' a =>
  have e' : j < (ns.length : Int) := by rw [hl] at e; exact e
  obtain ⟨i, rfl⟩ : ∃ i : Nat, j = (i : Int) := ⟨j.toNat, by omega⟩
  have hi : i < ns.length := by omega
  have hv : atI (ns.map V.int) (i : Int) = some (.int ns[i]) := by
   refine atI_nat ?_
   rw [List.getElem?_map, List.getElem?_eq_getElem hi]
   rfl
  walk_at "rd"
  refine ⟨_, _, _, _, rfl, rfl, hS, hv, ?_⟩
 case' b =>
  walk_at "rd"
  refine iteD2 (fun e2 => ?b1) (fun e2 => ?b2)
  case' b1 =>
   have e3 : 0 < (ns.length : Int) := by rw [hl] at e2; exact e2
   have h1 := Int.emod_nonneg (j * 7) (b := (ns.length : Int)) (by omega)
   have h2 := Int.emod_lt_of_pos (j * 7) e3
   obtain ⟨i, hi0⟩ : ∃ i : Nat, j * 7 % (ns.length : Int) = (i : Int) := ⟨(j * 7 % (ns.length : Int)).toNat, by omega⟩
   have hi : i < ns.length := by omega
   have hv : atI (ns.map V.int) (j * 7 % ((ns.map V.int).length : Int)) = some (.int ns[i]) := by
    rw [hl, hi0]
    refine atI_nat ?_
    rw [List.getElem?_map, List.getElem?_eq_getElem hi]
    rfl
   have hpos : 0 < ((ns.map V.int).length : Int) := by rw [hl]; exact e3
   walk_at "rd"
   refine ⟨_, _, _, _, rfl, rfl, hS, hv, ?_⟩
 all_goals
  walk_at "rd"
  refine iteD2 (fun e9 => ?_) (fun e9 => ?_)
  ·walk_at "rd"
   intro p hp
   exact q _ _ _ hp (by omega) (fin _ _ (by omega) (by omega)).1 (fin _ _ (by omega) (by omega)).2
  ·walk_at "rd"
   intro p hp
   exact q _ _ _ hp (by decide) (fin _ _ (by omega) (by omega)).1 (fin _ _ (by omega) (by omega)).2
local macro_rules | `(tactic| walk_at "rd1") => `(tactic| first
 | refine ⟨_, rfl, ?_⟩
 | refine ⟨_, _, rfl, rfl, ?_⟩
 | refine And.intro rfl ?_
 | refine And.intro (small_b rfl) ?_
 | refine ⟨_, _, _, _, rfl, rfl, SqT.of (by assumption), rfl, ?_⟩
 | refine ⟨_, _, _, _, rfl, rfl, SqL.of (by assumption), rfl, ?_⟩
 | refine ⟨_, _, _, _, rfl, rfl, SqL.of upd_same, rfl, ?_⟩
 | refine ⟨_, _, _, _, rfl, rfl, (by assumption), rfl, ?_⟩
 | refine ⟨_, _, _, _, rfl, rfl, upd_same, rfl, ?_⟩
 | refine ⟨_, _, by assumption, by assumption, good_num _, good_num _, ?_⟩
 | refine ⟨_, _, by assumption, by assumption, good_line _, good_line _, ?_⟩
 | refine And.intro (mulB (by assumption) (by assumption)) ?_
 | refine And.intro (.inl (by decide)) ?_
 | refine And.intro (CMul_mod (by decide) (by decide)) ?_
 | refine And.intro (.inr (by decide)) ?_
 | refine ⟨_, _, rfl, .inl (by assumption), ?_⟩
 | refine ⟨_, _, rfl, .inr (SqT.of (by assumption)), ?_⟩
 | refine And.intro (by assumption) ?_
 | refine And.intro ⟨by decide, by decide⟩ ?_
 | refine And.intro ⟨by decide, by decide, by decide⟩ ?_
 | refine And.intro (show (0 : Int) < _ by decide) ?_
 | refine And.intro (by decide) ?_
 | refine ⟨_, _, rfl, ?_⟩)
local macro_rules | `(tactic| walk_at "rd") => `(tactic| repeat walk_at "rd1")
abbrev s_law_take : Stmt := top 29
theorem sc_law_take : FnScope ["_law_pen_here", "_law_many", "_law_digit", "_law_number"] ["_law_pen_here", "_law_many"] (defScope s_law_take) := ⟨rfl, rfl, rfl, by decide +kernel, rfl, by decide +kernel, by decide +kernel⟩
theorem ok_law_take {P : Program} {w : World} {K : PySem.W.Frag} {mg : Str → Option Value} {base : Heap} {f : Addr} {fd : FuncData} (F : Fun K "_law_take" "_law_take" s_law_take f fd) (B : Bl K mg) :
  FnOk P w K mg base CX0 1 f fd ["_law_pen_here", "_law_many"] spTakeC := by
 refine F.ok sc_law_take (fun vs H Q E h => ?_) (fun cdv A outer s H vs Q E hr h => ?_)
 ·obtain ⟨pen, m, z, c, k, n, rfl, hp, hz, hc, hc2, hk, hkn, hn, hm, hm2, q⟩ := h
  rfl
 have hu := hr.units
 obtain ⟨pen, m, z, c, k, n, rfl, hp, hz, hc, hc2, hk, hkn, hn, hm, hm2, q⟩ := h
 refine ⟨_, (pss_cons (ps_if (pt_cmpR op_gt (pe_ix ix_list (pv 0) pe_int (fun _ _ => rfl)) pe_int (nomark _)) (pss_cons (ps_set (i := 2) sc_law_take.nd rfl (Or.inl rfl) (pe_op op_mod (pe_ix ix_list (pv 0) pe_int (fun _ _ => rfl)) (pv 1)))
   (pss_cons (ps_asg (pe_op op_fdiv (pe_ix ix_list (pv 0) pe_int (fun _ _ => rfl)) (pv 1)) (pg_sub (pv 0) pe_int set_list))
   (pss_one (ps_ret (pv 2))))) pss_nil)
   (pss_cons (ps_asg (pe_op op_add (pe_ix ix_list (pv 0) pe_int (fun _ _ => rfl)) pe_int) (pg_sub (pv 0) pe_int set_list))
   (pss_cons (ps_set (i := 3) sc_law_take.nd rfl (Or.inl rfl) (pe_op op_mod (pe_op op_mulX (pe_op op_mod (pe_op op_add (pe_ix ix_list (pv 0) pe_int (fun _ _ => rfl)) (pe_op op_mulX (pe_op op_mulX (pe_ix ix_list (pv 0) pe_int (fun _ _ => rfl)) (pe_ix ix_list (pv 0) pe_int (fun _ _ => rfl))) pe_int)) pe_int) pe_int) pe_int))
   (pss_cons (ps_set (i := 3) sc_law_take.nd rfl (Or.inl rfl) (pe_op op_mod (pe_op op_add (pe_op op_add (pe_op op_mulX (pv 3) (pv 3)) (pe_op op_mulX pe_int (pv 3))) (pe_ix ix_list (pv 0) pe_int (fun _ _ => rfl))) pe_int))
   (pss_one (ps_ret (pe_op op_mod (pe_op op_fdiv (pv 3) pe_int) (pv 1)))))))), ?_⟩
 have hcd : CDiv z m := ⟨hm, hm2⟩
 walk_at "rd"
 refine iteD2 (fun e => ?_) (fun e => ?_)
 ·walk_at "rd"
  exact q _ _ (Int.emod_nonneg _ (by omega)) (Int.emod_lt_of_pos _ hm) ⟨z / m, c, k, upd_same, Int.ediv_nonneg hz (by omega), hc, hc2, hk, by omega⟩ (sameX_upd _)
 ·have bm : ∀ x y : Int, 0 < y → y < 2147483648 → LT.Bt 31 (x % y) := fun x y h1 h2 => by
   have := Int.emod_nonneg x (b := y) (by omega)
   have := Int.emod_lt_of_pos x h1
   show (x % y).natAbs < 2 ^ 31
   omega
  have bs : ∀ x : Int, 0 ≤ x → x < 2147483648 → LT.Bt 31 x := fun x h1 h2 => by
   show x.natAbs < 2 ^ 31
   omega
  have a1 := bs (k + 1) (by omega) (by omega)
  have a2 := bs 7919 (by decide) (by decide)
  have a3 := bs 48271 (by decide) (by decide)
  have a4 := bs 69621 (by decide) (by decide)
  have a5 := a1.mul a1
  have a6 := bm (c + (k + 1) * (k + 1) * 7919) 2147483629 (by decide) (by decide)
  have a7 := bm ((c + (k + 1) * (k + 1) * 7919) % 2147483629 * 48271) 2147483587 (by decide) (by decide)
  walk_at "rd"
  exact q _ _ (Int.emod_nonneg _ (by omega)) (Int.emod_lt_of_pos _ hm) ⟨z, c, k + 1, upd_same, hz, hc, hc2, by omega, by omega⟩ (sameX_upd _)
theorem ok2_law_take {P0 : Addr → Hp → Prop} {P : Program} {w : World} {K : PySem.W.Frag} {mg : Str → Option Value} {base : Heap} {f : Addr} {fd : FuncData} (F : Fun K "_law_take" "_law_take" s_law_take f fd) (B : Bl K mg) :
  FnOk P w K mg base CX0 1 f fd ["_law_pen_here", "_law_many"] (spL P0 penF 2 mTakeL) := (ok_law_take F B).imp take_ofL
abbrev s_law_lowest : Stmt := top 30
theorem sc_law_lowest : FnScope ["_law_top", "_law_bottom", "_law_one", "_law_other"] ["_law_top", "_law_bottom"] (defScope s_law_lowest) := ⟨rfl, rfl, rfl, by decide +kernel, rfl, by decide +kernel, by decide +kernel⟩
theorem ok_law_lowest {P0 : Addr → Hp → Prop} {P : Program} {w : World} {K : PySem.W.Frag} {mg : Str → Option Value} {base : Heap} {f : Addr} {fd : FuncData} (F : Fun K "_law_lowest" "_law_lowest" s_law_lowest f fd) (B : Bl K mg) (Kt : Kit K) :
  FnOk P w K mg base CX0 1 f fd ["_law_top", "_law_bottom"] (spM P0 2 m_law_lowest) :=
 F.okV sc_law_lowest rfl rfl fun cdv A outer s H E hr =>
 have hu := hr.units
 ⟨_, (pss_cons (ps_set (i := 2) sc_law_lowest.nd rfl (by first | exact Or.inl rfl | exact Or.inr rfl) (pe_callB call_abs rfl B.abs_ boot_abs (pa_cons (pv 0) pa_nil)))
   (pss_cons (ps_set (i := 3) sc_law_lowest.nd rfl (by first | exact Or.inl rfl | exact Or.inr rfl) (pv 1))
   (pss_cons (ps_while PassesOwn.never (pt_cmpR op_gt (pv 3) pe_int (nomark _)) (pss_one (ps_par (i := 2) (j := 3) rfl sc_law_lowest.nd rfl rfl (by decide) rfl rfl (pa_cons (pv 3) (pa_cons (pe_op op_mod (pv 2) (pv 3)) pa_nil)) rfl)))
   (pss_one (ps_ret (pe_tup (pa_cons (pe_op op_fdivX (pv 0) (pv 2)) (pa_cons (pe_op op_fdivX (pv 1) (pv 2)) pa_nil)))))))),
  ((vs_seq (vs_set (vo_val (vt_abs vt_var)))
   (vs_seq (vs_set (vo_val vt_var))
   (vs_seq (vs_while (vtt_val (vt_gt vt_var vt_int)) (vs_par (vd_cons vt_var (vd_cons (vt_mod vt_var vt_var) vd_nil))))
   (vs_ret (vo_val (vt_tup (vd_cons (vt_divX vt_var vt_var) (vd_cons (vt_divX vt_var vt_var) vd_nil)))))))) : VS P0 _ b_law_lowest)⟩
abbrev s_law_far : Stmt := top 31
theorem sc_law_far : FnScope ["_law_pen_here", "_law_number"] ["_law_pen_here"] (defScope s_law_far) := ⟨rfl, rfl, rfl, by decide +kernel, rfl, by decide +kernel, by decide +kernel⟩
theorem ok_law_far {P0 : Addr → Hp → Prop} {P : Program} {w : World} {K : PySem.W.Frag} {mg : Str → Option Value} {base : Heap} {f : Addr} {fd : FuncData} (F : Fun K "_law_far" "_law_far" s_law_far f fd) (B : Bl K mg) (Kt : Kit K)
  (c_law_take : Cal P w K mg base 1 "_law_take" ["_law_pen_here", "_law_many"] (spL P0 penF 2 mTakeL)) :
  FnOk P w K mg base CX0 2 f fd ["_law_pen_here"] (spL P0 penF 1 m_law_far) :=
 F.okL sc_law_far rfl rfl fun cdv A outer s H E hr =>
 have hu := hr.units
 ⟨_, (pss_cons (ps_set (i := 1) sc_law_far.nd rfl (by first | exact Or.inl rfl | exact Or.inr rfl) (pe_op op_add (pe_op op_add (pe_op op_mulX (pe_callC c_law_take hr rfl (pa_cons (pv 0) (pa_cons pe_int pa_nil))) (pe_powC (v := 1000000) (by decide) ⟨by decide, by decide, by decide⟩)) (pe_op op_mulX (pe_callC c_law_take hr rfl (pa_cons (pv 0) (pa_cons pe_int pa_nil))) pe_int)) (pe_callC c_law_take hr rfl (pa_cons (pv 0) (pa_cons pe_int pa_nil)))))
   (pss_one (ps_ret (pe_ix ix_seq (pe_lst (pa_cons (pv 1) (pa_cons (pe_op op_sub pe_int (pv 1)) pa_nil))) (pe_callC c_law_take hr rfl (pa_cons (pv 0) (pa_cons pe_int pa_nil))) (fun _ _ => rfl))))),
  ((vs_seq (vs_set (vo_val (vt_add (vt_add (vt_mul (vt_pub (vo_callL (va_val vt_int va_nil))) vt_int) (vt_mul (vt_pub (vo_callL (va_val vt_int va_nil))) vt_int)) (vt_pub (vo_callL (va_val vt_int va_nil))))))
   (vs_retK (vo_val (vt_ix (vt_pub (vo_lst (vd_cons vt_var (vd_cons (vt_sub vt_int vt_var) vd_nil)))) (vt_pub (vo_callL (va_val vt_int va_nil))))))) : VS P0 _ b_law_far)⟩
abbrev s_law_small : Stmt := top 32
theorem sc_law_small : FnScope ["_law_pen_here", "_law_kind"] ["_law_pen_here", "_law_kind"] (defScope s_law_small) := ⟨rfl, rfl, rfl, by decide +kernel, rfl, by decide +kernel, by decide +kernel⟩
theorem ok_law_small {P0 : Addr → Hp → Prop} {P : Program} {w : World} {K : PySem.W.Frag} {mg : Str → Option Value} {base : Heap} {f : Addr} {fd : FuncData} (F : Fun K "_law_small" "_law_small" s_law_small f fd) (B : Bl K mg) (Kt : Kit K)
  (c_law_lowest : Cal P w K mg base 1 "_law_lowest" ["_law_top", "_law_bottom"] (spM P0 2 m_law_lowest))
  (c_law_take : Cal P w K mg base 1 "_law_take" ["_law_pen_here", "_law_many"] (spL P0 penF 2 mTakeL))
  (c_law_far : Cal P w K mg base 2 "_law_far" ["_law_pen_here"] (spL P0 penF 1 m_law_far)) :
  FnOk P w K mg base CX0 3 f fd ["_law_pen_here", "_law_kind"] (spL P0 penF 2 m_law_small) :=
 F.okL sc_law_small rfl rfl fun cdv A outer s H E hr =>
 have hu := hr.units
 ⟨_, (pss_cons (ps_if (pt_cmpR (op_eqD hu) (pv 1) pe_int (nomark _)) (pss_one (ps_ret (pe_tup (pa_cons (pe_op op_sub (pe_callC c_law_take hr rfl (pa_cons (pv 0) (pa_cons pe_int pa_nil))) pe_int) (pa_cons pe_int pa_nil))))) pss_nil)
   (pss_cons (ps_if (pt_cmpR (op_eqD hu) (pv 1) pe_int (nomark _)) (pss_one (ps_ret (pe_callC c_law_lowest hr rfl (pa_cons (pe_op op_sub (pe_callC c_law_take hr rfl (pa_cons (pv 0) (pa_cons pe_int pa_nil))) pe_int) (pa_cons (pe_op op_add pe_int (pe_callC c_law_take hr rfl (pa_cons (pv 0) (pa_cons pe_int pa_nil)))) pa_nil))))) pss_nil)
   (pss_one (ps_ret (pe_callC c_law_lowest hr rfl (pa_cons (pe_callC c_law_far hr rfl (pa_cons (pv 0) pa_nil)) (pa_cons (pe_op op_add pe_int (pe_callC c_law_take hr rfl (pa_cons (pv 0) (pa_cons pe_int pa_nil)))) pa_nil))))))),
  ((vs_seq (vs_if (vtt_val (vt_eq vt_var vt_int)) (vs_retK (vo_val (vt_tup (vd_cons (vt_sub (vt_pub (vo_callL (va_val vt_int va_nil))) vt_int) (vd_cons vt_int vd_nil))))) vs_nx)
   (vs_seq (vs_if (vtt_val (vt_eq vt_var vt_int)) (vs_retK (vo_call (va_val (vt_sub (vt_pub (vo_callL (va_val vt_int va_nil))) vt_int) (va_val (vt_add vt_int (vt_pub (vo_callL (va_val vt_int va_nil)))) va_nil)))) vs_nx)
   (vs_retK (vo_call (va_val (vt_pub (vo_callL va_nil)) (va_val (vt_add vt_int (vt_pub (vo_callL (va_val vt_int va_nil)))) va_nil)))))) : VS P0 _ b_law_small)⟩
abbrev s_law_log : Stmt := top 33
theorem sc_law_log : FnScope ["_law_pen_here", "_law_many", "_law_kind", "_law_parts", "_law_turn", "_law_log_here", "_law_running", "_law_joined", "_law_k", "_law_time", "_law_way"] ["_law_pen_here", "_law_many"] (defScope s_law_log) := ⟨rfl, rfl, rfl, by decide +kernel, rfl, by decide +kernel, by decide +kernel⟩
theorem ok_law_log {P0 : Addr → Hp → Prop} {P : Program} {w : World} {K : PySem.W.Frag} {mg : Str → Option Value} {base : Heap} {f : Addr} {fd : FuncData} (F : Fun K "_law_log" "_law_log" s_law_log f fd) (B : Bl K mg) (Kt : Kit K)
  (c_law_small : Cal P w K mg base 3 "_law_small" ["_law_pen_here", "_law_kind"] (spL P0 penF 2 m_law_small))
  (c_law_take : Cal P w K mg base 1 "_law_take" ["_law_pen_here", "_law_many"] (spL P0 penF 2 mTakeL))
  (c_law_lowest : Cal P w K mg base 1 "_law_lowest" ["_law_top", "_law_bottom"] (spM P0 2 m_law_lowest)) :
  FnOk P w K mg base CX0 4 f fd ["_law_pen_here", "_law_many"] (spL P0 penF 2 m_law_log) :=
 F.okL sc_law_log rfl rfl fun cdv A outer s H E hr =>
 have hu := hr.units
 ⟨_, (pss_cons (ps_set (i := 2) sc_law_log.nd rfl (by first | exact Or.inl rfl | exact Or.inr rfl) (pe_ix ix_seq (pe_lst (pa_cons pe_int (pa_cons pe_int (pa_cons pe_int (pa_cons pe_int pa_nil))))) (pe_callC c_law_take hr rfl (pa_cons (pv 0) (pa_cons pe_int pa_nil))) (fun _ _ => rfl)))
   (pss_cons (ps_set (i := 3) sc_law_log.nd rfl (by first | exact Or.inl rfl | exact Or.inr rfl) (pe_ix ix_seq (pe_lst (pa_cons pe_int (pa_cons pe_int (pa_cons (pe_op op_add pe_int (pe_callC c_law_take hr rfl (pa_cons (pv 0) (pa_cons pe_int pa_nil)))) pa_nil)))) (pe_callC c_law_take hr rfl (pa_cons (pv 0) (pa_cons pe_int pa_nil))) (fun _ _ => rfl)))
   (pss_cons (ps_set (i := 4) sc_law_log.nd rfl (by first | exact Or.inl rfl | exact Or.inr rfl) (pe_op op_sub (pe_callC c_law_take hr rfl (pa_cons (pv 0) (pa_cons pe_int pa_nil))) pe_int))
   (pss_cons (ps_set (i := 5) sc_law_log.nd rfl (by first | exact Or.inl rfl | exact Or.inr rfl) (pe_lst pa_nil))
   (pss_cons (ps_set (i := 6) sc_law_log.nd rfl (by first | exact Or.inl rfl | exact Or.inr rfl) (pe_lst pa_nil))
   (pss_cons (ps_set (i := 7) sc_law_log.nd rfl (by first | exact Or.inl rfl | exact Or.inr rfl) pe_int)
   (pss_cons (ps_for PassesOwn.never rfl (pi_range1 rfl B.range_ (pa_cons (pv 1) pa_nil)) (pg_name (i := 8) sc_law_log.nd rfl (by first | exact Or.inl rfl | exact Or.inr rfl)) (pss_cons (ps_set (i := 4) sc_law_log.nd rfl (by first | exact Or.inl rfl | exact Or.inr rfl) (pe_op op_add (pv 4) (pe_ix ix_seq (pe_lst (pa_cons pe_int (pa_cons pe_int (pa_cons pe_int (pa_cons pe_int (pa_cons pe_int (pa_cons pe_int pa_nil))))))) (pe_callC c_law_take hr rfl (pa_cons (pv 0) (pa_cons pe_int pa_nil))) (fun _ _ => rfl))))
   (pss_cons (ps_set (i := 9) sc_law_log.nd rfl (by first | exact Or.inl rfl | exact Or.inr rfl) (pe_callC c_law_lowest hr rfl (pa_cons (pv 4) (pa_cons (pv 3) pa_nil))))
   (pss_cons (ps_set (i := 10) sc_law_log.nd rfl (by first | exact Or.inl rfl | exact Or.inr rfl) (pe_callC c_law_take hr rfl (pa_cons (pv 0) (pa_cons pe_int pa_nil))))
   (pss_one (ps_if (PW.pt (pw_or (pt_cmpR (op_eqD hu) (pv 6) (pe_lst pa_nil) (nomark _)) (pw_or1 (PW.pt (pw_and (pt_cmpR op_lt (pv 10) pe_int (nomark _)) (pw_and1 (pt_cmpR op_lt (pe_callB call_len_seq rfl B.len_ boot_len (pa_cons (pv 6) pa_nil)) pe_int (nomark _)))))))) (pss_cons (ps_expr (pe_bm PySem.F.plainAttrs_list PySem.F.slot_list_append PySem.F.type_list_append mt_append (pv 5) (pa_cons (pe_tup (pa_cons pe_str (pa_cons (pv 9) (pa_cons (pe_callC c_law_small hr rfl (pa_cons (pv 0) (pa_cons (pv 2) pa_nil))) (pa_cons (pe_callC c_law_small hr rfl (pa_cons (pv 0) (pa_cons (pv 2) pa_nil))) pa_nil))))) pa_nil)))
   (pss_cons (ps_expr (pe_bm PySem.F.plainAttrs_list PySem.F.slot_list_append PySem.F.type_list_append mt_append (pv 6) (pa_cons (pv 7) pa_nil)))
   (pss_one (ps_set (i := 7) sc_law_log.nd rfl (by first | exact Or.inl rfl | exact Or.inr rfl) (pe_op op_add (pv 7) pe_int))))) (pss_one (ps_if (pt_cmpR (op_eqD hu) (pv 10) pe_int (nomark _)) (pss_one (ps_expr (pe_bm PySem.F.plainAttrs_list PySem.F.slot_list_append PySem.F.type_list_append mt_append (pv 5) (pa_cons (pe_tup (pa_cons pe_str (pa_cons (pv 9) (pa_cons (pe_bm PySem.F.plainAttrs_list PySem.F.slot_list_pop PySem.F.type_list_pop mt_popAt (pv 6) (pa_cons (pe_callC c_law_take hr rfl (pa_cons (pv 0) (pa_cons (pe_callB call_len_seq rfl B.len_ boot_len (pa_cons (pv 6) pa_nil)) pa_nil))) pa_nil)) pa_nil)))) pa_nil)))) (pss_one (ps_expr (pe_bm PySem.F.plainAttrs_list PySem.F.slot_list_append PySem.F.type_list_append mt_append (pv 5) (pa_cons (pe_tup (pa_cons pe_str (pa_cons (pv 9) (pa_cons (pe_ix ix_seq (pv 6) (pe_callC c_law_take hr rfl (pa_cons (pv 0) (pa_cons (pe_callB call_len_seq rfl B.len_ boot_len (pa_cons (pv 6) pa_nil)) pa_nil))) (fun _ _ => rfl)) (pa_cons (pe_callC c_law_small hr rfl (pa_cons (pv 0) (pa_cons (pv 2) pa_nil))) pa_nil))))) pa_nil))))))))))))
   (pss_one (ps_ret (pv 5)))))))))),
  ((vs_seq (vs_set (vo_val (vt_ix (vt_pub (vo_lst (vd_cons vt_int (vd_cons vt_int (vd_cons vt_int (vd_cons vt_int vd_nil)))))) (vt_pub (vo_callL (va_val vt_int va_nil))))))
   (vs_seq (vs_set (vo_val (vt_ix (vt_pub (vo_lst (vd_cons vt_int (vd_cons vt_int (vd_cons (vt_add vt_int (vt_pub (vo_callL (va_val vt_int va_nil)))) vd_nil))))) (vt_pub (vo_callL (va_val vt_int va_nil))))))
   (vs_seq (vs_set (vo_val (vt_sub (vt_pub (vo_callL (va_val vt_int va_nil))) vt_int)))
   (vs_seq (vs_set (vo_lst vd_nil))
   (vs_seq (vs_set (vo_lst vd_nil))
   (vs_seq (vs_set (vo_val vt_int))
   (vs_seq (vs_for (vi_rng1 (vd_cons vt_var vd_nil)) vg_name (vs_seq (vs_set (vo_val (vt_add vt_var (vt_ix (vt_pub (vo_lst (vd_cons vt_int (vd_cons vt_int (vd_cons vt_int (vd_cons vt_int (vd_cons vt_int (vd_cons vt_int vd_nil)))))))) (vt_pub (vo_callL (va_val vt_int va_nil)))))))
   (vs_seq (vs_set (vo_val (vt_pub (vo_call (va_val vt_var (va_val vt_var va_nil))))))
   (vs_seq (vs_set (vo_val (vt_pub (vo_callL (va_val vt_int va_nil)))))
   (vs_if (vtt_peek (vtt_or (vtt_val (vt_eq vt_var (vt_pub (vo_lst vd_nil)))) (vtt_and (vtt_val (vt_lt vt_var vt_int)) (vtt_val (vt_lt vt_lenO vt_int))))) (vs_seq (vs_append (vt_tup (vd_cons vt_str (vd_cons vt_var (vd_cons (vt_pub (vo_callL (va_val vt_var va_nil))) (vd_cons (vt_pub (vo_callL (va_val vt_var va_nil))) vd_nil))))))
   (vs_seq (vs_append vt_var)
   (vs_set (vo_val (vt_add vt_var vt_int))))) (vs_if (vtt_val (vt_eq vt_var vt_int)) (vs_append (vt_tup (vd_cons vt_str (vd_cons vt_var (vd_cons (vt_popAt (vt_pub (vo_callL (va_val vt_lenO va_nil)))) vd_nil))))) (vs_append (vt_tup (vd_cons vt_str (vd_cons vt_var (vd_cons (vt_ownIx (vt_pub (vo_callL (va_val vt_lenO va_nil)))) (vd_cons (vt_pub (vo_callL (va_val vt_var va_nil))) vd_nil))))))))))))
   (vs_retK vo_move)))))))) : VS P0 _ b_law_log)⟩
abbrev s_law_full : Stmt := top 34
theorem sc_law_full : FnScope ["_law_pen_here", "_law_far_here", "_law_log_here", "_law_k", "_law_gone"] ["_law_pen_here"] (defScope s_law_full) := ⟨rfl, rfl, rfl, by decide +kernel, rfl, by decide +kernel, by decide +kernel⟩
theorem ok_law_full {P0 : Addr → Hp → Prop} {P : Program} {w : World} {K : PySem.W.Frag} {mg : Str → Option Value} {base : Heap} {f : Addr} {fd : FuncData} (F : Fun K "_law_full" "_law_full" s_law_full f fd) (B : Bl K mg) (Kt : Kit K)
  (c_law_take : Cal P w K mg base 1 "_law_take" ["_law_pen_here", "_law_many"] (spL P0 penF 2 mTakeL))
  (c_law_lowest : Cal P w K mg base 1 "_law_lowest" ["_law_top", "_law_bottom"] (spM P0 2 m_law_lowest)) :
  FnOk P w K mg base CX0 2 f fd ["_law_pen_here"] (spL P0 penF 1 m_law_full) :=
 F.okL sc_law_full rfl rfl fun cdv A outer s H E hr =>
 have hu := hr.units
 ⟨_, (pss_cons (ps_set (i := 1) sc_law_full.nd rfl (by first | exact Or.inl rfl | exact Or.inr rfl) (pe_tup (pa_cons (pe_op op_sub (pe_op op_sub (pe_powC (v := 1000000000) (by decide) ⟨by decide, by decide, by decide⟩) pe_int) (pe_op op_mulX pe_int (pe_callC c_law_take hr rfl (pa_cons (pv 0) (pa_cons pe_int pa_nil))))) (pa_cons (pe_ix ix_seq (pe_lst (pa_cons pe_int (pa_cons pe_int pa_nil))) (pe_callC c_law_take hr rfl (pa_cons (pv 0) (pa_cons pe_int pa_nil))) (fun _ _ => rfl)) pa_nil))))
   (pss_cons (ps_set (i := 1) sc_law_full.nd rfl (by first | exact Or.inl rfl | exact Or.inr rfl) (pe_callC c_law_lowest hr rfl (pa_cons (pe_ix ix_seq (pv 1) pe_int (fun _ _ => rfl)) (pa_cons (pe_ix ix_seq (pv 1) pe_int (fun _ _ => rfl)) pa_nil))))
   (pss_cons (ps_setC (N := ["_law_k", "_law_far_here"]) (nt := 1) (fv := [1]) (i := 2) sc_law_full.nd rfl rfl rfl (blk_of (osc := defScope s_law_full) (ON := ["_law_pen_here", "_law_far_here", "_law_log_here", "_law_k", "_law_gone"]) (by decide +kernel)) (pi_range1 rfl B.range_ (pa_cons pe_int pa_nil)) (fun _ _ _ _ => (pg_name (i := 0) (show (["_law_k", "_law_far_here"] : List Str).Nodup by decide +kernel) rfl (by first | exact Or.inl rfl | exact Or.inr rfl))) (fun _ _ _ _ => pts_nil) (fun _ _ _ _ => (pe_tup (pa_cons pe_str (pa_cons (pe_tup (pa_cons (pe_op op_sub pe_int (pe_ix ix_seq (pv 1) pe_int (fun _ _ => rfl))) (pa_cons (pe_ix ix_seq (pv 1) pe_int (fun _ _ => rfl)) pa_nil))) (pa_cons (pv 1) (pa_cons (pe_tup (pa_cons (pe_op op_sub pe_int (pe_ix ix_seq (pv 1) pe_int (fun _ _ => rfl))) (pa_cons (pe_ix ix_seq (pv 1) pe_int (fun _ _ => rfl)) pa_nil))) pa_nil)))))))
   (pss_cons (ps_for PassesOwn.never rfl (pi_range1 rfl B.range_ (pa_cons pe_int pa_nil)) (pg_name (i := 3) sc_law_full.nd rfl (by first | exact Or.inl rfl | exact Or.inr rfl)) (pss_one (ps_expr (pe_bm PySem.F.plainAttrs_list PySem.F.slot_list_append PySem.F.type_list_append mt_append (pv 2) (pa_cons (pe_tup (pa_cons pe_str (pa_cons (pv 1) (pa_cons (pe_callC c_law_take hr rfl (pa_cons (pv 0) (pa_cons pe_int pa_nil))) (pa_cons (pe_tup (pa_cons (pe_op op_sub pe_int (pe_ix ix_seq (pv 1) pe_int (fun _ _ => rfl))) (pa_cons (pe_ix ix_seq (pv 1) pe_int (fun _ _ => rfl)) pa_nil))) pa_nil))))) pa_nil)))))
   (pss_cons (ps_set (i := 4) sc_law_full.nd rfl (by first | exact Or.inl rfl | exact Or.inr rfl) (pe_callC c_law_take hr rfl (pa_cons (pv 0) (pa_cons pe_int pa_nil))))
   (pss_one (ps_ret (pe_op op_cat (pv 2) (pe_lst (pa_cons (pe_tup (pa_cons pe_str (pa_cons (pv 1) (pa_cons (pv 4) pa_nil)))) (pa_cons (pe_tup (pa_cons pe_str (pa_cons (pv 1) (pa_cons (pv 1) (pa_cons (pv 1) pa_nil))))) pa_nil))))))))))),
  ((vs_seq (vs_set (vo_val (vt_tup (vd_cons (vt_sub (vt_sub vt_int vt_int) (vt_mul vt_int (vt_pub (vo_callL (va_val vt_int va_nil))))) (vd_cons (vt_ix (vt_pub (vo_lst (vd_cons vt_int (vd_cons vt_int vd_nil)))) (vt_pub (vo_callL (va_val vt_int va_nil)))) vd_nil)))))
   (vs_seq (vs_set (vo_val (vt_pub (vo_call (va_val (vt_ix vt_var vt_int) (va_val (vt_ix vt_var vt_int) va_nil))))))
   (vs_seq (vs_set (vo_comp (vi_rng1 (vd_cons vt_int vd_nil)) vg_name vtt_true (vt_tup (vd_cons vt_str (vd_cons (vt_tup (vd_cons (vt_sub vt_int (vt_ix vt_var vt_int)) (vd_cons (vt_ix vt_var vt_int) vd_nil))) (vd_cons vt_var (vd_cons (vt_tup (vd_cons (vt_sub vt_int (vt_ix vt_var vt_int)) (vd_cons (vt_ix vt_var vt_int) vd_nil))) vd_nil)))))))
   (vs_seq (vs_for (vi_rng1 (vd_cons vt_int vd_nil)) vg_name (vs_append (vt_tup (vd_cons vt_str (vd_cons vt_var (vd_cons (vt_pub (vo_callL (va_val vt_int va_nil))) (vd_cons (vt_tup (vd_cons (vt_sub vt_int (vt_ix vt_var vt_int)) (vd_cons (vt_ix vt_var vt_int) vd_nil))) vd_nil)))))))
   (vs_seq (vs_set (vo_val (vt_pub (vo_callL (va_val vt_int va_nil)))))
   (vs_pub (vs_retK (vo_cat vt_var (vt_pub (vo_lst (vd_cons (vt_tup (vd_cons vt_str (vd_cons vt_var (vd_cons vt_var vd_nil)))) (vd_cons (vt_tup (vd_cons vt_str (vd_cons vt_var (vd_cons vt_var (vd_cons vt_var vd_nil))))) vd_nil)))))))))))) : VS P0 _ b_law_full)⟩
abbrev s_f_init : Stmt := inClass (top 19) 0
theorem sc_f_init : FnScope ["self"] ["self"] (defScope s_f_init) := ⟨rfl, rfl, rfl, by decide +kernel, rfl, by decide +kernel, by decide +kernel⟩
theorem upd2 {H : Hp} {w : Addr} {o o' : HO} : upd (upd H w o) w o' = upd H w o' := by
 funext b
 by_cases h : b = w
 ·rw [h, upd_same, upd_same]
 ·rw [upd_ne h, upd_ne h, upd_ne h]
theorem okh_f_init {P : Program} {w : World} {K : PySem.W.Frag} {mg : Str → Option Value} {base : Heap} {f : Addr} {fd : FuncData} {c : Addr} (cl : Cls K c) (n_running : NoAttr K c "running") (n_joined : NoAttr K c "joined") (n_last : NoAttr K c "last") (F : Fun K "__init__" "Field.__init__" s_f_init f fd) (B : Bl K mg) : FnOk P w K mg base CX0 1 f fd ["self"] (spInitFd c) := by
 refine F.ok sc_f_init (fun vs H Q E h => ?_) (fun cdv A outer s H vs Q E hr h => ?_)
 ·obtain ⟨w, d, rfl, _⟩ := h
  rfl
 have hu := hr.units
 obtain ⟨w, d, rfl, hw, q⟩ := h
 refine ⟨_, (pss_cons (ps_fld (pv 0) pe_dnewK rfl) (pss_cons (ps_fld (pv 0) pe_int rfl) (pss_one (ps_fld (pv 0) pe_non rfl)))), ?_⟩
 intro p hp
 have pw : w ≠ p := fun z => by rw [z, hp] at hw; cases hw
 refine ⟨_, rfl, w, c, d, [], rfl, by rw [upd_ne pw]; exact hw, cl, n_running, by decide, ?_⟩
 refine ⟨_, rfl, w, c, d, _, rfl, upd_same, cl, n_joined, (by show 1 < 1000; decide), ?_⟩
 refine ⟨_, rfl, w, c, d, _, rfl, upd_same, cl, n_last, (by show 2 < 1000; decide), ?_⟩
 have z := q p hp
 rw [upd2, upd2]
 exact z
abbrev s_f_add_runner : Stmt := inClass (top 19) 3
theorem sc_f_add_runner : FnScope ["self", "line", "runner"] ["self", "line"] (defScope s_f_add_runner) := ⟨rfl, rfl, rfl, by decide +kernel, rfl, by decide +kernel, by decide +kernel⟩
theorem ok_f_add_runner {P0 : Addr → Hp → Prop} {P : Program} {w : World} {K : PySem.W.Frag} {mg : Str → Option Value} {base : Heap} {f : Addr} {fd : FuncData} {c : Addr} (cl : Cls K c) (n_running : NoAttr K c "running") (n_joined : NoAttr K c "joined") (n_last : NoAttr K c "last") (F : Fun K "add_runner" "Field.add_runner" s_f_add_runner f fd) (B : Bl K mg) (Kt : Kit K) :
  FnOk P w K mg base CX0 1 f fd ["self", "line"] (spL P0 (fieldF c) 2 (m_f_add_runner c)) :=
 F.okL sc_f_add_runner rfl rfl fun cdv A outer s H E hr =>
 have hu := hr.units
 ⟨_, (pss_cons (ps_set (i := 2) sc_f_add_runner.nd rfl (by first | exact Or.inl rfl | exact Or.inr rfl) (pe_fld (pv 0) rfl))
   (pss_cons (ps_dput (hu1 hu) (pe_fld (pv 0) rfl) (pv 2) (pv 1) rfl)
   (pss_cons (ps_fldaug (pv 0) pe_int in_add)
   (pss_one (ps_ret (pv 2)))))),
  ((vs_seq (vs_set (vo_val (vt_fdJoined cl n_joined)))
   (vs_seq (vs_fdPut cl n_running vt_var vt_var)
   (vs_seq (vs_joinInc cl n_joined)
   (vs_retK (vo_val vt_var))))) : VS P0 _ (b_f_add_runner c))⟩
abbrev s_f_do : Stmt := inClass (top 19) 2
theorem sc_f_do : FnScope ["self", "deed", "place"] ["self", "deed"] (defScope s_f_do) := ⟨rfl, rfl, rfl, by decide +kernel, rfl, by decide +kernel, by decide +kernel⟩
theorem ok_f_do {P0 : Addr → Hp → Prop} {P : Program} {w : World} {K : PySem.W.Frag} {mg : Str → Option Value} {base : Heap} {f : Addr} {fd : FuncData} {c : Addr} (cl : Cls K c) (n_running : NoAttr K c "running") (n_joined : NoAttr K c "joined") (n_last : NoAttr K c "last") {f_add_runner : Addr} {fd_add_runner : FuncData} (M_add_runner : Meth K c "add_runner" f_add_runner) (F_add_runner : FnOk P w K mg base CX0 1 f_add_runner fd_add_runner ["self", "line"] (spL P0 (fieldF c) 2 (m_f_add_runner c))) (b_add_runner : Binds K fd_add_runner ["self", "line"] []) (F : Fun K "do" "Field.do" s_f_do f fd) (B : Bl K mg) (Kt : Kit K)
  (c_line_through : Cal P w K mg base 4 "line_through" ["time", "place", "slope"] (spM P0 3 m_line_through))
  (c_place_at : Cal P w K mg base 4 "place_at" ["line", "time"] (spM P0 2 m_place_at)) :
  FnOk P w K mg base CX0 5 f fd ["self", "deed"] (spL P0 (fieldF c) 2 (m_f_do c)) :=
 F.okL sc_f_do rfl rfl fun cdv A outer s H E hr =>
 have hu := hr.units
 ⟨_, (pss_cons (ps_fld (pv 0) (pe_ix ix_seq (pv 1) pe_int (fun _ _ => rfl)) rfl)
   (pss_cons (ps_if (pt_cmpR (op_eqD hu) (pe_ix ix_seq (pv 1) pe_int (fun _ _ => rfl)) pe_str (nomark _)) (pss_one (ps_ret (pe_meth (pv 0) cl M_add_runner F_add_runner (hr.mono (by decide)) b_add_runner .nil pass0 (pa_cons (pe_callC c_line_through hr rfl (pa_cons (pe_ix ix_seq (pv 1) pe_int (fun _ _ => rfl)) (pa_cons (pe_ix ix_seq (pv 1) pe_int (fun _ _ => rfl)) (pa_cons (pe_ix ix_seq (pv 1) pe_int (fun _ _ => rfl)) pa_nil)))) pa_nil)))) pss_nil)
   (pss_cons (ps_if (pt_cmpR (op_eqD hu) (pe_ix ix_seq (pv 1) pe_int (fun _ _ => rfl)) pe_str (nomark _)) (pss_one (ps_expr (pe_dpop1 (pe_fld (pv 0) rfl) (pe_ix ix_seq (pv 1) pe_int (fun _ _ => rfl)) ⟨rfl, rfl, rfl, rfl⟩))) (pss_cons (ps_set (i := 2) sc_f_do.nd rfl (by first | exact Or.inl rfl | exact Or.inr rfl) (pe_callC c_place_at hr rfl (pa_cons (pe_dget (hu1 hu) (pe_fld (pv 0) rfl) (pe_ix ix_seq (pv 1) pe_int (fun _ _ => rfl)) (fun _ _ => rfl)) (pa_cons (pe_ix ix_seq (pv 1) pe_int (fun _ _ => rfl)) pa_nil))))
   (pss_one (ps_dput (hu1 hu) (pe_fld (pv 0) rfl) (pe_ix ix_seq (pv 1) pe_int (fun _ _ => rfl)) (pe_callC c_line_through hr rfl (pa_cons (pe_ix ix_seq (pv 1) pe_int (fun _ _ => rfl)) (pa_cons (pv 2) (pa_cons (pe_ix ix_seq (pv 1) pe_int (fun _ _ => rfl)) pa_nil)))) rfl))))
   (pss_one (ps_ret pe_non))))),
  ((vs_seq (vs_setLast cl n_last (vt_ix vt_var vt_int))
   (vs_seq (vs_if (vtt_val (vt_eq (vt_ix vt_var vt_int) vt_str)) (vs_retK (vo_methL (fd_ins (fun _ _ => rfl)) (va_val (vt_pub (vo_call (va_val (vt_ix vt_var vt_int) (va_val (vt_ix vt_var vt_int) (va_val (vt_ix vt_var vt_int) va_nil))))) va_nil))) vs_nx)
   (vs_seq (vs_if (vtt_val (vt_eq (vt_ix vt_var vt_int) vt_str)) (vs_drop (vt_fdPop cl n_running (vt_ix vt_var vt_int))) (vs_seq (vs_set (vo_val (vt_pub (vo_call (va_val (vt_fdIx cl n_running (vt_ix vt_var vt_int)) (va_val (vt_ix vt_var vt_int) va_nil))))))
   (vs_fdPut cl n_running (vt_pub (vo_call (va_val (vt_ix vt_var vt_int) (va_val vt_var (va_val (vt_ix vt_var vt_int) va_nil))))) (vt_ix vt_var vt_int))))
   (vs_retK (vo_val vt_non))))) : VS P0 _ (b_f_do c))⟩
abbrev s_f_allows : Stmt := inClass (top 19) 1
theorem sc_f_allows : FnScope ["self", "deed"] ["self", "deed"] (defScope s_f_allows) := ⟨rfl, rfl, rfl, by decide +kernel, rfl, by decide +kernel, by decide +kernel⟩
theorem ok_f_allows {P0 : Addr → Hp → Prop} {P : Program} {w : World} {K : PySem.W.Frag} {mg : Str → Option Value} {base : Heap} {f : Addr} {fd : FuncData} {c : Addr} (cl : Cls K c) (n_running : NoAttr K c "running") (n_joined : NoAttr K c "joined") (n_last : NoAttr K c "last") {tk_MOST_RUNNERS : Tok} (hg_MOST_RUNNERS : mg "MOST_RUNNERS" = some (.int 8 tk_MOST_RUNNERS)) (F : Fun K "allows" "Field.allows" s_f_allows f fd) (B : Bl K mg) (Kt : Kit K)
  (c_is_less : Cal P w K mg base 1 "is_less" ["a", "b"] (spM P0 2 m_is_less)) :
  FnOk P w K mg base CX0 2 f fd ["self", "deed"] (spL P0 (fieldF c) 2 (m_f_allows c)) :=
 F.okL sc_f_allows rfl rfl fun cdv A outer s H E hr =>
 have hu := hr.units
 ⟨_, (pss_cons (ps_if (PW.pt (pw_and (pt_cmpR op_notN (pe_fld (pv 0) rfl) pe_non (nomark _)) (pw_and1 (pt_val (pe_callC c_is_less hr rfl (pa_cons (pe_ix ix_seq (pv 1) pe_int (fun _ _ => rfl)) (pa_cons (pe_fld (pv 0) rfl) pa_nil))))))) (pss_one (ps_ret pe_bl)) pss_nil)
   (pss_cons (ps_if (pt_cmpR (op_eqD hu) (pe_ix ix_seq (pv 1) pe_int (fun _ _ => rfl)) pe_str (nomark _)) (pss_one (ps_ret (pe_cmpR op_lt (pe_callB call_lenK rfl B.len_ boot_len (pa_cons (pe_fld (pv 0) rfl) pa_nil)) (pe_glob (v := .int 8) rfl hg_MOST_RUNNERS ⟨_, rfl⟩) (nomark _)))) pss_nil)
   (pss_one (ps_ret (pe_cmp (pc_din (hu1 hu) (pe_ix ix_seq (pv 1) pe_int (fun _ _ => rfl)) (pe_fld (pv 0) rfl))))))),
  ((vs_seq (vs_if (vtt_and (vtt_val (vt_notN (vt_fdLast cl n_last))) (vtt_b (vt_pub (vo_call (va_val (vt_ix vt_var vt_int) (va_val (vt_fdLast cl n_last) va_nil)))))) (vs_retK (vo_val vt_bl)) vs_nx)
   (vs_seq (vs_if (vtt_val (vt_eq (vt_ix vt_var vt_int) vt_str)) (vs_retK (vo_val (vt_lt (vt_fdLen cl n_running) vt_int))) vs_nx)
   (vs_retK (vo_val (vt_fdIn cl n_running (vt_ix vt_var vt_int)))))) : VS P0 _ (b_f_allows c))⟩
abbrev s_is_deed_number : Stmt := top 24
theorem sc_is_deed_number : FnScope ["thing"] ["thing"] (defScope s_is_deed_number) := ⟨rfl, rfl, rfl, by decide +kernel, rfl, by decide +kernel, by decide +kernel⟩
theorem ok_is_deed_number {P0 : Addr → Hp → Prop} {P : Program} {w : World} {K : PySem.W.Frag} {mg : Str → Option Value} {base : Heap} {f : Addr} {fd : FuncData} {tk_GREATEST_TOP : Tok} (hg_GREATEST_TOP : mg "GREATEST_TOP" = some (.int 999999999 tk_GREATEST_TOP)) {tk_GREATEST_BOTTOM : Tok} (hg_GREATEST_BOTTOM : mg "GREATEST_BOTTOM" = some (.int 12 tk_GREATEST_BOTTOM)) (F : Fun K "is_deed_number" "is_deed_number" s_is_deed_number f fd) (B : Bl K mg) (Kt : Kit K)
  (c_is_number : Cal P w K mg base 2 "is_number" ["thing"] (spM P0 1 m_is_number)) :
  FnOk P w K mg base CX0 3 f fd ["thing"] (spM P0 1 m_is_deed_number) :=
 F.okV sc_is_deed_number rfl rfl fun cdv A outer s H E hr =>
 have hu := hr.units
 ⟨_, (pss_cons (ps_if (pt_not (pt_val (pe_callC c_is_number hr rfl (pa_cons (pv 0) pa_nil)))) (pss_one (ps_ret pe_bl)) pss_nil)
   (pss_one (ps_ret (pe_and (pe_cmpR op_le (pe_callB call_abs rfl B.abs_ boot_abs (pa_cons (pe_ix ix_seq (pv 0) pe_int (fun _ _ => rfl)) pa_nil)) (pe_glob (v := .int 999999999) rfl hg_GREATEST_TOP ⟨_, rfl⟩) (nomark _)) (pe_one (pe_cmpR op_le (pe_ix ix_seq (pv 0) pe_int (fun _ _ => rfl)) (pe_glob (v := .int 12) rfl hg_GREATEST_BOTTOM ⟨_, rfl⟩) (nomark _))))))),
  ((vs_seq (vs_if (vtt_not (vtt_b (vt_pub (vo_call (va_val vt_var va_nil))))) (vs_ret (vo_val vt_bl)) vs_nx)
   (vs_ret (vo_val (vt_and (vt_le (vt_abs (vt_ix vt_var vt_int)) vt_int) (vt_le (vt_ix vt_var vt_int) vt_int))))) : VS P0 _ b_is_deed_number)⟩
abbrev s_is_deed : Stmt := top 25
theorem sc_is_deed : FnScope ["thing", "part"] ["thing"] (defScope s_is_deed) := ⟨rfl, rfl, rfl, by decide +kernel, rfl, by decide +kernel, by decide +kernel⟩
theorem ok_is_deed {P0 : Addr → Hp → Prop} {P : Program} {w : World} {K : PySem.W.Frag} {mg : Str → Option Value} {base : Heap} {f : Addr} {fd : FuncData} (F : Fun K "is_deed" "is_deed" s_is_deed f fd) (B : Bl K mg) (Kt : Kit K)
  (c_is_deed_number : Cal P w K mg base 3 "is_deed_number" ["thing"] (spM P0 1 m_is_deed_number))
  (c_is_whole : Cal P w K mg base 1 "is_whole" ["thing"] (spM P0 1 m_is_whole)) :
  FnOk P w K mg base CX0 4 f fd ["thing"] (spM P0 1 m_is_deed) :=
 F.okV sc_is_deed rfl rfl fun cdv A outer s H E hr =>
 have hu := hr.units
 ⟨_, (pss_cons (ps_if (PW.pt (pw_or (pt_not (pt_val (pe_callB call_isi rfl B.isinstance_ boot_isinstance (pa_cons (pv 0) (pa_cons (pe_bltn (v := .ty "tuple") rfl B.tuple_ boot_tuple rfl) pa_nil))))) (pw_or (pt_cmpR op_lt (pe_callB call_len_seq rfl B.len_ boot_len (pa_cons (pv 0) pa_nil)) pe_int (nomark _)) (pw_or1 (pt_not (pt_val (pe_callB call_isi rfl B.isinstance_ boot_isinstance (pa_cons (pe_ix ix_seq (pv 0) pe_int (fun _ _ => rfl)) (pa_cons (pe_bltn (v := .ty "str") rfl B.str_ boot_str rfl) pa_nil))))))))) (pss_one (ps_ret pe_bl)) pss_nil)
   (pss_cons (ps_if (pt_cmpR (op_eqD hu) (pe_ix ix_seq (pv 0) pe_int (fun _ _ => rfl)) pe_str (nomark _)) (pss_one (ps_ret (pe_and (pe_cmpR (op_eqD hu) (pe_callB call_len_seq rfl B.len_ boot_len (pa_cons (pv 0) pa_nil)) pe_int (nomark _)) (pe_one (pe_callB (call_allL rfl) rfl B.all_ boot_all (pa_cons (pe_lcomp (N := ["part"]) (nt := 1) (fv := []) rfl (blk_of (osc := defScope s_is_deed) (ON := ["thing", "part"]) (by decide +kernel)) (pi_tup (pe_slice sl_tup (pv 0) (po_some pe_int) po_none)) (fun _ _ _ _ => (pg_name (i := 0) (show (["part"] : List Str).Nodup by decide +kernel) rfl (by first | exact Or.inl rfl | exact Or.inr rfl))) (fun _ _ _ _ => pts_nil) (fun _ _ _ _ => (pe_callC c_is_deed_number hr rfl (pa_cons (pv 0) pa_nil)))) pa_nil)))))) pss_nil)
   (pss_cons (ps_if (pt_cmpR (op_eqD hu) (pe_ix ix_seq (pv 0) pe_int (fun _ _ => rfl)) pe_str (nomark _)) (pss_one (ps_ret (pe_and (pe_cmpR (op_eqD hu) (pe_callB call_len_seq rfl B.len_ boot_len (pa_cons (pv 0) pa_nil)) pe_int (nomark _)) (pe_and (pe_callC c_is_deed_number hr rfl (pa_cons (pe_ix ix_seq (pv 0) pe_int (fun _ _ => rfl)) pa_nil)) (pe_one (pe_callC c_is_whole hr rfl (pa_cons (pe_ix ix_seq (pv 0) pe_int (fun _ _ => rfl)) pa_nil))))))) pss_nil)
   (pss_cons (ps_if (pt_cmpR (op_eqD hu) (pe_ix ix_seq (pv 0) pe_int (fun _ _ => rfl)) pe_str (nomark _)) (pss_one (ps_ret (pe_and (pe_cmpR (op_eqD hu) (pe_callB call_len_seq rfl B.len_ boot_len (pa_cons (pv 0) pa_nil)) pe_int (nomark _)) (pe_and (pe_callC c_is_whole hr rfl (pa_cons (pe_ix ix_seq (pv 0) pe_int (fun _ _ => rfl)) pa_nil)) (pe_and (pe_callC c_is_deed_number hr rfl (pa_cons (pe_ix ix_seq (pv 0) pe_int (fun _ _ => rfl)) pa_nil)) (pe_one (pe_callC c_is_deed_number hr rfl (pa_cons (pe_ix ix_seq (pv 0) pe_int (fun _ _ => rfl)) pa_nil)))))))) pss_nil)
   (pss_one (ps_ret pe_bl)))))),
  ((vs_seq (vs_if (vtt_or (vtt_not (vtt_b (vt_isi Kt (by decide) vt_var))) (vtt_or (vtt_val (vt_lt (vt_len vt_var) vt_int)) (vtt_not (vtt_b (vt_isi Kt (by decide) (vt_ix vt_var vt_int)))))) (vs_ret (vo_val vt_bl)) vs_nx)
   (vs_seq (vs_if (vtt_val (vt_eq (vt_ix vt_var vt_int) vt_str)) (vs_ret (vo_val (vt_and (vt_eq (vt_len vt_var) vt_int) (vt_all (vt_pub (vo_comp (vi_tup (vt_slT vt_var (vp_so vt_int) vp_no)) vg_name vtt_true (vt_pub (vo_call (va_val vt_var va_nil))))))))) vs_nx)
   (vs_seq (vs_if (vtt_val (vt_eq (vt_ix vt_var vt_int) vt_str)) (vs_ret (vo_val (vt_and (vt_eq (vt_len vt_var) vt_int) (vt_and (vt_pub (vo_call (va_val (vt_ix vt_var vt_int) va_nil))) (vt_pub (vo_call (va_val (vt_ix vt_var vt_int) va_nil))))))) vs_nx)
   (vs_seq (vs_if (vtt_val (vt_eq (vt_ix vt_var vt_int) vt_str)) (vs_ret (vo_val (vt_and (vt_eq (vt_len vt_var) vt_int) (vt_and (vt_pub (vo_call (va_val (vt_ix vt_var vt_int) va_nil))) (vt_and (vt_pub (vo_call (va_val (vt_ix vt_var vt_int) va_nil))) (vt_pub (vo_call (va_val (vt_ix vt_var vt_int) va_nil)))))))) vs_nx)
   (vs_ret (vo_val vt_bl)))))) : VS P0 _ b_is_deed)⟩
abbrev s_log_of : Stmt := top 26
theorem sc_log_of : FnScope ["thing", "field", "at", "deed"] ["thing"] (defScope s_log_of) := ⟨rfl, rfl, rfl, by decide +kernel, rfl, by decide +kernel, by decide +kernel⟩
theorem ok_log_of {P0 : Addr → Hp → Prop} {P : Program} {w : World} {K : PySem.W.Frag} {mg : Str → Option Value} {base : Heap} {f : Addr} {fd : FuncData} {c : Addr} (cl : Cls K c) (n_running : NoAttr K c "running") (n_joined : NoAttr K c "joined") (n_last : NoAttr K c "last") {fI : Addr} {fdI : FuncData} (hmF : mg "Field" = some (.ref c)) (MI : Mk K c fI) (FI : FnOk P w K mg base CX0 1 fI fdI ["self"] (spInitFd c)) (bI : Binds K fdI ["self"] []) {f_allows : Addr} {fd_allows : FuncData} (M_allows : Meth K c "allows" f_allows) (F_allows : FnOk P w K mg base CX0 2 f_allows fd_allows ["self", "deed"] (spL P0 (fieldF c) 2 (m_f_allows c))) (b_allows : Binds K fd_allows ["self", "deed"] []) {f_do : Addr} {fd_do : FuncData} (M_do : Meth K c "do" f_do) (F_do : FnOk P w K mg base CX0 5 f_do fd_do ["self", "deed"] (spL P0 (fieldF c) 2 (m_f_do c))) (b_do : Binds K fd_do ["self", "deed"] []) {tk_MOST_DEEDS : Tok} (hg_MOST_DEEDS : mg "MOST_DEEDS" = some (.int 40 tk_MOST_DEEDS)) (F : Fun K "log_of" "log_of" s_log_of f fd) (B : Bl K mg) (Kt : Kit K)
  (c_is_deed : Cal P w K mg base 4 "is_deed" ["thing"] (spM P0 1 m_is_deed)) :
  FnOk P w K mg base CX0 6 f fd ["thing"] (spM P0 1 (m_log_of c)) :=
 F.okV sc_log_of rfl rfl fun cdv A outer s H E hr =>
 have hu := hr.units
 ⟨_, (pss_cons (ps_if (pt_not (pt_val (pe_callB call_isi rfl B.isinstance_ boot_isinstance (pa_cons (pv 0) (pa_cons (pe_bltn (v := .ty "list") rfl B.list_ boot_list rfl) pa_nil))))) (pss_one ps_never) pss_nil)
   (pss_cons (ps_set (i := 1) sc_log_of.nd rfl (by first | exact Or.inl rfl | exact Or.inr rfl) (pe_make0 MI FI (hr.mono (by decide)) rfl hmF bI .nil pass0))
   (pss_cons (ps_for PassesOwn.never rfl (pi_enum rfl B.enumerate_ (pa_cons (pv 0) pa_nil)) (pg_tup rfl (pgs_cons (pg_name (i := 2) sc_log_of.nd rfl (by first | exact Or.inl rfl | exact Or.inr rfl)) (pgs_cons (pg_name (i := 3) sc_log_of.nd rfl (by first | exact Or.inl rfl | exact Or.inr rfl)) pgs_nil))) (pss_cons (ps_if (PW.pt (pw_or (pt_cmpR (op_eqD hu) (pv 2) (pe_glob (v := .int 40) rfl hg_MOST_DEEDS ⟨_, rfl⟩) (nomark _)) (pw_or (pt_not (pt_val (pe_callC c_is_deed hr rfl (pa_cons (pv 3) pa_nil)))) (pw_or1 (pt_not (pt_val (pe_meth (pv 1) cl M_allows F_allows (hr.mono (by decide)) b_allows .nil pass0 (pa_cons (pv 3) pa_nil)))))))) (pss_one ps_never) pss_nil)
   (pss_one (ps_expr (pe_meth (pv 1) cl M_do F_do (hr.mono (by decide)) b_do .nil pass0 (pa_cons (pv 3) pa_nil))))))
   (pss_one (ps_ret (pe_callTy call_list_of rfl B.list_ boot_list (pa_cons (pv 0) pa_nil))))))),
  ((vs_seq (vs_if (vtt_not (vtt_b (vt_isi Kt (by decide) vt_var))) vs_never vs_nx)
   (vs_seq (vs_set vo_newFd)
   (vs_seq (vs_for (vi_enum vt_var) (vg_tup (vgs_cons vg_name (vgs_cons vg_name vgs_nil))) (vs_seq (vs_if (vtt_or (vtt_val (vt_eq vt_var vt_int)) (vtt_or (vtt_not (vtt_b (vt_pub (vo_call (va_val vt_var va_nil))))) (vtt_not (vtt_b (vt_pub (vo_methL (fd_ins (fun _ _ => rfl)) (va_val vt_var va_nil))))))) vs_never vs_nx)
   (vs_drop (vt_pub (vo_methL (fd_ins (fun _ _ => rfl)) (va_val vt_var va_nil))))))
   (vs_ret (vo_listOf vt_var))))) : VS P0 _ (b_log_of c))⟩
abbrev s_law_deep : Stmt := top 35
theorem sc_law_deep : FnScope ["_law_thing", "_law_part"] ["_law_thing"] (defScope s_law_deep) := ⟨rfl, rfl, rfl, by decide +kernel, rfl, by decide +kernel, by decide +kernel⟩
theorem ok_law_deep_1 {P0 : Addr → Hp → Prop} {P : Program} {w : World} {K : PySem.W.Frag} {mg : Str → Option Value} {base : Heap} {f : Addr} {fd : FuncData} (F : Fun K "_law_deep" "_law_deep" s_law_deep f fd) (B : Bl K mg) (Kt : Kit K)
  (c_law_deep : Cal P w K mg base 1 "_law_deep" ["_law_thing"] (spM P0 1 m_law_deep_0)) :
  FnOk P w K mg base CX0 2 f fd ["_law_thing"] (spM P0 1 m_law_deep_1) :=
 F.okV sc_law_deep rfl rfl fun cdv A outer s H E hr =>
 have hu := hr.units
 ⟨_, (pss_cons (ps_if (pt_val (pe_callB call_isi2 rfl B.isinstance_ boot_isinstance (pa_cons (pv 0) (pa_cons (pe_tup (pa_cons (pe_bltn (v := .ty "list") rfl B.list_ boot_list rfl) (pa_cons (pe_bltn (v := .ty "tuple") rfl B.tuple_ boot_tuple rfl) pa_nil))) pa_nil)))) (pss_one (ps_ret (pe_op op_cat (pe_lst (pa_cons (pe_callB call_isi rfl B.isinstance_ boot_isinstance (pa_cons (pv 0) (pa_cons (pe_bltn (v := .ty "list") rfl B.list_ boot_list rfl) pa_nil))) pa_nil)) (pe_lcomp (N := ["_law_part"]) (nt := 1) (fv := []) rfl (blk_of (osc := defScope s_law_deep) (ON := ["_law_thing", "_law_part"]) (by decide +kernel)) (pi_lt (pv 0)) (fun _ _ _ _ => (pg_name (i := 0) (show (["_law_part"] : List Str).Nodup by decide +kernel) rfl (by first | exact Or.inl rfl | exact Or.inr rfl))) (fun _ _ _ _ => pts_nil) (fun _ _ _ _ => (pe_callC c_law_deep hr rfl (pa_cons (pv 0) pa_nil))))))) pss_nil)
   (pss_one (ps_ret (pe_lst (pa_cons (pe_callB call_isi rfl B.isinstance_ boot_isinstance (pa_cons (pv 0) (pa_cons (pe_bltn (v := .ty "str") rfl B.str_ boot_str rfl) pa_nil))) (pa_cons (pe_callB call_isi rfl B.isinstance_ boot_isinstance (pa_cons (pv 0) (pa_cons (pe_bltn (v := .ty "bool") rfl B.bool_ boot_bool rfl) pa_nil))) (pa_cons (pv 0) pa_nil))))))),
  ((vs_seq (vs_if (vtt_b (vt_isi2 Kt (by decide) (by decide) vt_var)) (vs_ret (vo_cat (vt_pub (vo_lst (vd_cons (vt_isi Kt (by decide) vt_var) vd_nil))) (vt_pub (vo_comp vi_lt vg_name vtt_true (vt_pub (vo_call (va_val vt_var va_nil))))))) vs_nx)
   (vs_ret (vo_lst (vd_cons (vt_isi Kt (by decide) vt_var) (vd_cons (vt_isi Kt (by decide) vt_var) (vd_cons vt_var vd_nil)))))) : VS P0 _ (b_law_deep m_law_deep_0))⟩
theorem ok_law_deep_2 {P0 : Addr → Hp → Prop} {P : Program} {w : World} {K : PySem.W.Frag} {mg : Str → Option Value} {base : Heap} {f : Addr} {fd : FuncData} (F : Fun K "_law_deep" "_law_deep" s_law_deep f fd) (B : Bl K mg) (Kt : Kit K)
  (c_law_deep : Cal P w K mg base 2 "_law_deep" ["_law_thing"] (spM P0 1 m_law_deep_1)) :
  FnOk P w K mg base CX0 3 f fd ["_law_thing"] (spM P0 1 m_law_deep_2) :=
 F.okV sc_law_deep rfl rfl fun cdv A outer s H E hr =>
 have hu := hr.units
 ⟨_, (pss_cons (ps_if (pt_val (pe_callB call_isi2 rfl B.isinstance_ boot_isinstance (pa_cons (pv 0) (pa_cons (pe_tup (pa_cons (pe_bltn (v := .ty "list") rfl B.list_ boot_list rfl) (pa_cons (pe_bltn (v := .ty "tuple") rfl B.tuple_ boot_tuple rfl) pa_nil))) pa_nil)))) (pss_one (ps_ret (pe_op op_cat (pe_lst (pa_cons (pe_callB call_isi rfl B.isinstance_ boot_isinstance (pa_cons (pv 0) (pa_cons (pe_bltn (v := .ty "list") rfl B.list_ boot_list rfl) pa_nil))) pa_nil)) (pe_lcomp (N := ["_law_part"]) (nt := 1) (fv := []) rfl (blk_of (osc := defScope s_law_deep) (ON := ["_law_thing", "_law_part"]) (by decide +kernel)) (pi_lt (pv 0)) (fun _ _ _ _ => (pg_name (i := 0) (show (["_law_part"] : List Str).Nodup by decide +kernel) rfl (by first | exact Or.inl rfl | exact Or.inr rfl))) (fun _ _ _ _ => pts_nil) (fun _ _ _ _ => (pe_callC c_law_deep hr rfl (pa_cons (pv 0) pa_nil))))))) pss_nil)
   (pss_one (ps_ret (pe_lst (pa_cons (pe_callB call_isi rfl B.isinstance_ boot_isinstance (pa_cons (pv 0) (pa_cons (pe_bltn (v := .ty "str") rfl B.str_ boot_str rfl) pa_nil))) (pa_cons (pe_callB call_isi rfl B.isinstance_ boot_isinstance (pa_cons (pv 0) (pa_cons (pe_bltn (v := .ty "bool") rfl B.bool_ boot_bool rfl) pa_nil))) (pa_cons (pv 0) pa_nil))))))),
  ((vs_seq (vs_if (vtt_b (vt_isi2 Kt (by decide) (by decide) vt_var)) (vs_ret (vo_cat (vt_pub (vo_lst (vd_cons (vt_isi Kt (by decide) vt_var) vd_nil))) (vt_pub (vo_comp vi_lt vg_name vtt_true (vt_pub (vo_call (va_val vt_var va_nil))))))) vs_nx)
   (vs_ret (vo_lst (vd_cons (vt_isi Kt (by decide) vt_var) (vd_cons (vt_isi Kt (by decide) vt_var) (vd_cons vt_var vd_nil)))))) : VS P0 _ (b_law_deep m_law_deep_1))⟩
theorem ok_law_deep_3 {P0 : Addr → Hp → Prop} {P : Program} {w : World} {K : PySem.W.Frag} {mg : Str → Option Value} {base : Heap} {f : Addr} {fd : FuncData} (F : Fun K "_law_deep" "_law_deep" s_law_deep f fd) (B : Bl K mg) (Kt : Kit K)
  (c_law_deep : Cal P w K mg base 3 "_law_deep" ["_law_thing"] (spM P0 1 m_law_deep_2)) :
  FnOk P w K mg base CX0 4 f fd ["_law_thing"] (spM P0 1 m_law_deep_3) :=
 F.okV sc_law_deep rfl rfl fun cdv A outer s H E hr =>
 have hu := hr.units
 ⟨_, (pss_cons (ps_if (pt_val (pe_callB call_isi2 rfl B.isinstance_ boot_isinstance (pa_cons (pv 0) (pa_cons (pe_tup (pa_cons (pe_bltn (v := .ty "list") rfl B.list_ boot_list rfl) (pa_cons (pe_bltn (v := .ty "tuple") rfl B.tuple_ boot_tuple rfl) pa_nil))) pa_nil)))) (pss_one (ps_ret (pe_op op_cat (pe_lst (pa_cons (pe_callB call_isi rfl B.isinstance_ boot_isinstance (pa_cons (pv 0) (pa_cons (pe_bltn (v := .ty "list") rfl B.list_ boot_list rfl) pa_nil))) pa_nil)) (pe_lcomp (N := ["_law_part"]) (nt := 1) (fv := []) rfl (blk_of (osc := defScope s_law_deep) (ON := ["_law_thing", "_law_part"]) (by decide +kernel)) (pi_lt (pv 0)) (fun _ _ _ _ => (pg_name (i := 0) (show (["_law_part"] : List Str).Nodup by decide +kernel) rfl (by first | exact Or.inl rfl | exact Or.inr rfl))) (fun _ _ _ _ => pts_nil) (fun _ _ _ _ => (pe_callC c_law_deep hr rfl (pa_cons (pv 0) pa_nil))))))) pss_nil)
   (pss_one (ps_ret (pe_lst (pa_cons (pe_callB call_isi rfl B.isinstance_ boot_isinstance (pa_cons (pv 0) (pa_cons (pe_bltn (v := .ty "str") rfl B.str_ boot_str rfl) pa_nil))) (pa_cons (pe_callB call_isi rfl B.isinstance_ boot_isinstance (pa_cons (pv 0) (pa_cons (pe_bltn (v := .ty "bool") rfl B.bool_ boot_bool rfl) pa_nil))) (pa_cons (pv 0) pa_nil))))))),
  ((vs_seq (vs_if (vtt_b (vt_isi2 Kt (by decide) (by decide) vt_var)) (vs_ret (vo_cat (vt_pub (vo_lst (vd_cons (vt_isi Kt (by decide) vt_var) vd_nil))) (vt_pub (vo_comp vi_lt vg_name vtt_true (vt_pub (vo_call (va_val vt_var va_nil))))))) vs_nx)
   (vs_ret (vo_lst (vd_cons (vt_isi Kt (by decide) vt_var) (vd_cons (vt_isi Kt (by decide) vt_var) (vd_cons vt_var vd_nil)))))) : VS P0 _ (b_law_deep m_law_deep_2))⟩
theorem ok_law_deep_4 {P0 : Addr → Hp → Prop} {P : Program} {w : World} {K : PySem.W.Frag} {mg : Str → Option Value} {base : Heap} {f : Addr} {fd : FuncData} (F : Fun K "_law_deep" "_law_deep" s_law_deep f fd) (B : Bl K mg) (Kt : Kit K)
  (c_law_deep : Cal P w K mg base 4 "_law_deep" ["_law_thing"] (spM P0 1 m_law_deep_3)) :
  FnOk P w K mg base CX0 5 f fd ["_law_thing"] (spM P0 1 m_law_deep_4) :=
 F.okV sc_law_deep rfl rfl fun cdv A outer s H E hr =>
 have hu := hr.units
 ⟨_, (pss_cons (ps_if (pt_val (pe_callB call_isi2 rfl B.isinstance_ boot_isinstance (pa_cons (pv 0) (pa_cons (pe_tup (pa_cons (pe_bltn (v := .ty "list") rfl B.list_ boot_list rfl) (pa_cons (pe_bltn (v := .ty "tuple") rfl B.tuple_ boot_tuple rfl) pa_nil))) pa_nil)))) (pss_one (ps_ret (pe_op op_cat (pe_lst (pa_cons (pe_callB call_isi rfl B.isinstance_ boot_isinstance (pa_cons (pv 0) (pa_cons (pe_bltn (v := .ty "list") rfl B.list_ boot_list rfl) pa_nil))) pa_nil)) (pe_lcomp (N := ["_law_part"]) (nt := 1) (fv := []) rfl (blk_of (osc := defScope s_law_deep) (ON := ["_law_thing", "_law_part"]) (by decide +kernel)) (pi_lt (pv 0)) (fun _ _ _ _ => (pg_name (i := 0) (show (["_law_part"] : List Str).Nodup by decide +kernel) rfl (by first | exact Or.inl rfl | exact Or.inr rfl))) (fun _ _ _ _ => pts_nil) (fun _ _ _ _ => (pe_callC c_law_deep hr rfl (pa_cons (pv 0) pa_nil))))))) pss_nil)
   (pss_one (ps_ret (pe_lst (pa_cons (pe_callB call_isi rfl B.isinstance_ boot_isinstance (pa_cons (pv 0) (pa_cons (pe_bltn (v := .ty "str") rfl B.str_ boot_str rfl) pa_nil))) (pa_cons (pe_callB call_isi rfl B.isinstance_ boot_isinstance (pa_cons (pv 0) (pa_cons (pe_bltn (v := .ty "bool") rfl B.bool_ boot_bool rfl) pa_nil))) (pa_cons (pv 0) pa_nil))))))),
  ((vs_seq (vs_if (vtt_b (vt_isi2 Kt (by decide) (by decide) vt_var)) (vs_ret (vo_cat (vt_pub (vo_lst (vd_cons (vt_isi Kt (by decide) vt_var) vd_nil))) (vt_pub (vo_comp vi_lt vg_name vtt_true (vt_pub (vo_call (va_val vt_var va_nil))))))) vs_nx)
   (vs_ret (vo_lst (vd_cons (vt_isi Kt (by decide) vt_var) (vd_cons (vt_isi Kt (by decide) vt_var) (vd_cons vt_var vd_nil)))))) : VS P0 _ (b_law_deep m_law_deep_3))⟩
abbrev s_law : Stmt := top 36
theorem sc_law : FnScope ["_law_script", "_law_kept", "_law_k", "_law_pen_here", "_law_log_here", "_law_handed", "_law_found", "_law_told"] ["_law_script"] (defScope s_law) := ⟨rfl, rfl, rfl, by decide +kernel, rfl, by decide +kernel, by decide +kernel⟩
theorem ok_law {P : Program} {w : World} {K : PySem.W.Frag} {mg : Str → Option Value} {base : Heap} {f : Addr} {fd : FuncData} {c : Addr} (F : Fun K "law" "law" s_law f fd) (B : Bl K mg) (Kt : Kit K)
  (c_law_pen : Cal P w K mg base 1 "_law_pen" ["_law_script", "_law_k"] (spPenC K))
  (c_log_of : Cal P w K mg base 6 "log_of" ["thing"] (spM NoP 1 (m_log_of c)))
  (c_law_deep : Cal P w K mg base 5 "_law_deep" ["_law_thing"] (spM NoP 1 m_law_deep))
  (c_law_take : Cal P w K mg base 1 "_law_take" ["_law_pen_here", "_law_many"] (spL NoP penF 2 mTakeL))
  (c_law_full : Cal P w K mg base 2 "_law_full" ["_law_pen_here"] (spL NoP penF 1 m_law_full))
  (c_law_log : Cal P w K mg base 4 "_law_log" ["_law_pen_here", "_law_many"] (spL NoP penF 2 m_law_log))
  (hL : ∀ a ns, b_law_c K c (.pub (pScr K a ns) :: List.replicate 7 .no) TrueEnd) :
  FnOk P w K mg base CX0 7 f fd ["_law_script"] (spLaw K) := by
 refine F.ok sc_law (fun vs H Q E h => ?_) (fun cdv A outer s H vs Q E hr h => ?_)
 ·obtain ⟨a, ns, rfl, hS, h63, q⟩ := h
  rfl
 have hu := hr.units
 obtain ⟨a, ns, rfl, hS, h63, q⟩ := h
 exact law_bodyS (k := 7) ⟨_, (pss_cons (ps_set (i := 1) sc_law.nd rfl (by first | exact Or.inl rfl | exact Or.inr rfl) (pe_lst pa_nil))
   (pss_cons (ps_for PassesOwn.never rfl (pi_range1 rfl B.range_ (pa_cons pe_int pa_nil)) (pg_name (i := 2) sc_law.nd rfl (by first | exact Or.inl rfl | exact Or.inr rfl)) (pss_cons (ps_set (i := 3) sc_law.nd rfl (by first | exact Or.inl rfl | exact Or.inr rfl) (pe_callC c_law_pen hr rfl (pa_cons (pv 0) (pa_cons (pv 2) pa_nil))))
   (pss_cons (ps_set (i := 4) sc_law.nd rfl (by first | exact Or.inl rfl | exact Or.inr rfl) (pe_callC c_law_log hr rfl (pa_cons (pv 3) (pa_cons (pe_callC c_law_take hr rfl (pa_cons (pv 3) (pa_cons (pe_ix ix_seq (pe_lst (pa_cons pe_int (pa_cons pe_int (pa_cons pe_int (pa_cons pe_int pa_nil))))) (pe_callC c_law_take hr rfl (pa_cons (pv 3) (pa_cons pe_int pa_nil))) (fun _ _ => rfl)) pa_nil))) pa_nil))))
   (pss_cons (ps_if (pt_cmpR (op_eqD hu) (pe_callC c_law_take hr rfl (pa_cons (pv 3) (pa_cons pe_int pa_nil))) pe_int (nomark _)) (pss_one (ps_set (i := 4) sc_law.nd rfl (by first | exact Or.inl rfl | exact Or.inr rfl) (pe_callC c_law_full hr rfl (pa_cons (pv 3) pa_nil)))) pss_nil)
   (pss_cons (ps_set (i := 5) sc_law.nd rfl (by first | exact Or.inl rfl | exact Or.inr rfl) (pe_callTy call_list_of rfl B.list_ boot_list (pa_cons (pv 4) pa_nil)))
   (pss_cons (ps_set (i := 6) sc_law.nd rfl (by first | exact Or.inl rfl | exact Or.inr rfl) (pe_callC c_log_of hr rfl (pa_cons (pv 5) pa_nil)))
   (pss_cons (ps_if (PW.pt (pw_or (pt_not (pt_val (pe_callB call_isi rfl B.isinstance_ boot_isinstance (pa_cons (pv 6) (pa_cons (pe_bltn (v := .ty "list") rfl B.list_ boot_list rfl) pa_nil))))) (pw_or (pt_cmpR (op_neD hu) (pe_callC c_law_deep hr rfl (pa_cons (pv 6) pa_nil)) (pe_callC c_law_deep hr rfl (pa_cons (pv 4) pa_nil)) (nomark _)) (pw_or1 (pt_cmpR (op_neD hu) (pv 5) (pv 4) (nomark _)))))) (pss_one (ps_ret pe_bl)) pss_nil)
   (pss_cons (ps_expr (pe_bm PySem.F.plainAttrs_list PySem.F.slot_list_append PySem.F.type_list_append mt_append (pv 5) (pa_cons pe_non pa_nil)))
   (pss_cons (ps_expr (pe_bm PySem.F.plainAttrs_list PySem.F.slot_list_append PySem.F.type_list_append mt_append (pv 1) (pa_cons (pe_tup (pa_cons (pv 6) (pa_cons (pe_callTy call_list_of rfl B.list_ boot_list (pa_cons (pv 4) pa_nil)) pa_nil))) pa_nil)))
   (pss_cons (ps_set (i := 7) sc_law.nd rfl (by first | exact Or.inl rfl | exact Or.inr rfl) (pe_callC c_log_of hr rfl (pa_cons (pv 6) pa_nil)))
   (pss_cons (ps_expr (pe_bm PySem.F.plainAttrs_list PySem.F.slot_list_append PySem.F.type_list_append mt_append (pv 7) (pa_cons (pe_tup (pa_cons pe_str (pa_cons (pe_tup (pa_cons pe_int (pa_cons pe_int pa_nil))) (pa_cons pe_int pa_nil)))) pa_nil)))
   (pss_cons (ps_expr (pe_bm0 PySem.F.plainAttrs_list PySem.F.slot_list_reverse PySem.F.type_list_reverse mt_reverse (pv 7)))
   (pss_one (ps_if (pt_cmpR (op_neD hu) (pe_callC c_log_of hr rfl (pa_cons (pe_callTy call_list_of rfl B.list_ boot_list (pa_cons (pv 4) pa_nil)) pa_nil)) (pv 4) (nomark _)) (pss_one (ps_ret pe_bl)) pss_nil))))))))))))))
   (pss_cons (ps_for PassesOwn.never rfl (pi_list (pv 1)) (pg_tup rfl (pgs_cons (pg_name (i := 6) sc_law.nd rfl (by first | exact Or.inl rfl | exact Or.inr rfl)) (pgs_cons (pg_name (i := 4) sc_law.nd rfl (by first | exact Or.inl rfl | exact Or.inr rfl)) pgs_nil))) (pss_one (ps_if (PW.pt (pw_or (pt_cmpR (op_neD hu) (pv 6) (pv 4) (nomark _)) (pw_or1 (pt_cmpR (op_neD hu) (pe_callC c_log_of hr rfl (pa_cons (pv 6) pa_nil)) (pv 4) (nomark _))))) (pss_one (ps_ret pe_bl)) pss_nil)))
   (pss_one (ps_ret pe_bl))))),
  ((vs_seq (vs_set (vo_lst vd_nil))
   (vs_seq (vs_for (vi_rng1 (vd_cons vt_int vd_nil)) vg_name (vs_seq (vs_set vo_penC)
   (vs_seq (vs_set (vo_val (vt_pub (vo_callL (va_val (vt_pub (vo_callL (va_val (vt_ix (vt_pub (vo_lst (vd_cons vt_int (vd_cons vt_int (vd_cons vt_int (vd_cons vt_int vd_nil)))))) (vt_pub (vo_callL (va_val vt_int va_nil)))) va_nil))) va_nil)))))
   (vs_seq (vs_if (vtt_val (vt_eq (vt_pub (vo_callL (va_val vt_int va_nil))) vt_int)) (vs_set (vo_val (vt_pub (vo_callL va_nil)))) vs_nx)
   (vs_seq (vs_set (vo_listOf vt_var))
   (vs_seq (vs_set (vo_peek (vo_call (va_val vt_var va_nil))))
   (vs_seq (vs_pub (vs_if (vtt_peek (vtt_or (vtt_not (vtt_b (vt_isi Kt (by decide) vt_var))) (vtt_or (vtt_val (vt_ne (vt_pub (vo_call (va_val vt_var va_nil))) (vt_pub (vo_call (va_val vt_var va_nil))))) (vtt_val (vt_ne vt_var vt_var))))) (vs_ret (vo_val vt_bl)) vs_nx))
   (vs_seq (vs_append vt_non)
   (vs_seq (vs_pub (vs_append (vt_tup (vd_cons vt_var (vd_cons (vt_pub (vo_listOf vt_var)) vd_nil)))))
   (vs_seq (vs_pub (vs_set (vo_call (va_val vt_var va_nil))))
   (vs_seq (vs_append (vt_tup (vd_cons vt_str (vd_cons (vt_tup (vd_cons vt_int (vd_cons vt_int vd_nil))) (vd_cons vt_int vd_nil)))))
   (vs_seq vs_rev
   (vs_if (vtt_val (vt_ne (vt_pub (vo_call (va_val (vt_pub (vo_listOf vt_var)) va_nil))) vt_var)) (vs_ret (vo_val vt_bl)) vs_nx)))))))))))))
   (vs_seq (vs_pub (vs_for (vi_list vt_var) (vg_tup (vgs_cons vg_name (vgs_cons vg_name vgs_nil))) (vs_pub (vs_if (vtt_or (vtt_val (vt_ne vt_var vt_var)) (vtt_val (vt_ne (vt_pub (vo_call (va_val vt_var va_nil))) vt_var))) (vs_ret (vo_val vt_bl)) vs_nx))))
   (vs_ret (vo_val vt_bl))))) : VS NoP _ (b_law_c K c))⟩ rfl hS hL q
section
variable {Q : Rv → Prop}
theorem t_whole {i : Int} (q : Q (.val (.bool true))) : m_is_whole [.val (.int i)] Q := by
 refine i_fn ?_
 unfold b_is_whole
 walk_at "vs"
 exact q
theorem t_gcd {a b : Int} (q : Q (.val (.int (Int.gcd a b : Nat)))) : m_greatest_divisor [.val (.int a), .val (.int b)] Q := by
 refine i_fn ?_
 unfold b_greatest_divisor b_greatest_divisor_r1 b_greatest_divisor_l1
 walk_at "vs"
 refine while_inv (fun n Γ => ∃ d r x, Γ = [.val (.int a), .val (.int b), .val (.int d), .val (.int r), x] ∧ 0 ≤ d ∧ 0 ≤ r ∧ Int.gcd d r = Int.gcd a b ∧ n = r.toNat) _ ⟨_, _, .no, rfl, abs_nn a, abs_nn b, abs_gcd a b, rfl⟩ ?_
 rintro m Γ ⟨d, r, x, rfl, hd, hr, hg, rfl⟩
 walk_at "vs"
 refine iteN2 (fun c => ?_) (fun c => ?_)
 ·have hp : 0 < r := by omega
  walk_at "vs"
  refine ⟨hp, ?_⟩
  walk_at "vs"
  have h1 := Int.emod_nonneg d (b := r) (by omega)
  have h2 := Int.emod_lt_of_pos d hp
  exact ⟨_, by omega, _, _, _, rfl, hr, h1, (gcd_step hd hp).trans hg, rfl⟩
 ·subst c
  have e := gcd_end hd
  rw [hg] at e
  walk_at "vs"
  rw [e] at q
  exact q
theorem t_number_of {t b : Int} (h0 : b ≠ 0) (hb : Bt 9000 b) (q : Q (.val (dNum (Rat.divInt t b)))) : m_number_of [.val (.int t), .val (.int b)] Q := by
 have g0 := gcd_ne (t := t) h0
 have g1 := gcd_bt (t := t) hb h0
 refine i_fn ?_
 unfold b_number_of b_number_of_r2 b_number_of_r1
 walk_at "vs"
 refine t_whole ?_
 walk_at "vs"
 refine t_whole ?_
 walk_at "vs"
 refine iteD0 h0 ?_
 walk_at "vs"
 refine t_gcd ?_
 walk_at "vs"
 refine iteD2 (fun c => ?_) (fun c => ?_)
 ·have n := norm_neg (t := t) c
  walk_at "vs"
  refine ⟨⟨by omega, g1.neg⟩, ?_⟩
  walk_at "vs"
  refine ⟨⟨by omega, g1.neg⟩, ?_⟩
  walk_at "vs"
  rw [n.1, n.2]
  exact q
 ·have n := norm_pos (t := t) (b := b) (by omega)
  walk_at "vs"
  refine ⟨⟨g0, g1⟩, ?_⟩
  walk_at "vs"
  refine ⟨⟨g0, g1⟩, ?_⟩
  walk_at "vs"
  rw [n.1, n.2]
  exact q
theorem t_sum_of {a b : Rat} (ha : Sz 4000 a) (hb : Sz 4000 b) (q : Q (.val (dNum (a + b)))) : m_sum_of [.val (dNum a), .val (dNum b)] Q := by
 obtain ⟨a0, a1⟩ := id ha
 obtain ⟨b0, b1⟩ := id hb
 refine i_fn ?_
 unfold b_sum_of
 walk_at "vs"
 refine t_number_of (Int.mul_ne_zero (den_ne a) (den_ne b)) ((a1.mul b1).mono (by decide)) ?_
 rw [add_eq]
 exact q
theorem t_difference_of {a b : Rat} (ha : Sz 4000 a) (hb : Sz 4000 b) (q : Q (.val (dNum (a - b)))) : m_difference_of [.val (dNum a), .val (dNum b)] Q := by
 obtain ⟨a0, a1⟩ := id ha
 obtain ⟨b0, b1⟩ := id hb
 refine i_fn ?_
 unfold b_difference_of
 walk_at "vs"
 refine t_number_of (Int.mul_ne_zero (den_ne a) (den_ne b)) ((a1.mul b1).mono (by decide)) ?_
 rw [sub_eq]
 exact q
theorem t_product_of {a b : Rat} (ha : Sz 4000 a) (hb : Sz 4000 b) (q : Q (.val (dNum (a * b)))) : m_product_of [.val (dNum a), .val (dNum b)] Q := by
 obtain ⟨a0, a1⟩ := id ha
 obtain ⟨b0, b1⟩ := id hb
 refine i_fn ?_
 unfold b_product_of
 walk_at "vs"
 refine t_number_of (Int.mul_ne_zero (den_ne a) (den_ne b)) ((a1.mul b1).mono (by decide)) ?_
 rw [mul_eq]
 exact q
theorem t_is_less {a b : Rat} (ha : Sz 9000 a) (hb : Sz 9000 b) (q : Q (.val (.bool (decide (a < b))))) : m_is_less [.val (dNum a), .val (dNum b)] Q := by
 obtain ⟨a0, a1⟩ := id ha
 obtain ⟨b0, b1⟩ := id hb
 refine i_fn ?_
 unfold b_is_less
 walk_at "vs"
 rw [lt_eq]
 exact q
theorem t_place_at {l : Rat × Rat} {t : Rat} (h1 : Sz 900 l.1) (h2 : Sz 900 l.2) (h3 : Sz 2900 t) (q : Q (.val (dNum (l.1 + l.2 * t)))) : m_place_at [.val (dLine l), .val (dNum t)] Q := by
 refine i_fn ?_
 unfold b_place_at
 walk_at "vs"
 refine t_product_of (h2.mono (by decide)) (h3.mono (by decide)) ?_
 walk_at "vs"
 exact t_sum_of (h1.mono (by decide)) ((h2.mul h3).mono (by decide)) q
end
theorem dNum_int (i : Int) : PyData.tuple [.int i, .int 1] = dNum (i : Rat) := by
 unfold dNum
 rw [Rat.num_intCast, Rat.den_intCast]
 rfl
theorem bt31 {k : Nat} {i : Int} (h1 : -2147483648 < i) (h2 : i < 2147483648) (hk : 31 ≤ k := by decide) : Bt k i := by
 refine Bt.mono (k := 31) ?_ hk
 show i.natAbs < 2 ^ 31
 have : (2 : Nat) ^ 31 = 2147483648 := by decide
 omega
theorem sz_small {k : Nat} {i : Int} (h1 : -2147483648 < i) (h2 : i < 2147483648) (hk : 31 ≤ k := by decide) : Sz k (i : Rat) := sz_int (bt31 h1 h2 hk) (by omega)
noncomputable def LinesOk (k : Nat) (ls : List (Rat × Rat)) : Prop := ∀ l ∈ ls, Sz k l.1 ∧ Sz k l.2
noncomputable def dLines (ls : List (Rat × Rat)) : List D := ls.map dLine
theorem LinesOk.get {k : Nat} {ls : List (Rat × Rat)} (h : LinesOk k ls) {i : Nat} {l : Rat × Rat} (e : ls[i]? = some l) : Sz k l.1 ∧ Sz k l.2 := h l (List.mem_of_getElem? e)
theorem LinesOk.snoc {k : Nat} {ls : List (Rat × Rat)} {l : Rat × Rat} (h : LinesOk k ls) (h1 : Sz k l.1) (h2 : Sz k l.2) : LinesOk k (ls ++ [l]) := fun x hx => by
 rcases List.mem_append.mp hx with hx | hx
 ·exact h x hx
 ·rw [List.mem_singleton.mp hx]; exact ⟨h1, h2⟩
theorem ix_nat {ds : List D} {i : Nat} {d : D} (h : ds[i]? = some d) : ixD (.list ds) (.int (i : Int)) = some d := atI_nat h
theorem ix_lines {ls : List (Rat × Rat)} {i : Nat} (h : i < ls.length) : ixD (.list (dLines ls)) (.int (i : Int)) = some (dLine ls[i]) := ix_nat (by unfold dLines; rw [List.getElem?_map, List.getElem?_eq_getElem h]; rfl)
theorem dLines_get {ls : List (Rat × Rat)} {i : Nat} {d : D} (h : (dLines ls)[i]? = some d) : ∃ l, ls[i]? = some l ∧ d = dLine l := by
 unfold dLines at h
 rw [List.getElem?_map] at h
 cases e : ls[i]? with
 | none => rw [e] at h; cases h
 | some l => rw [e] at h; cases h; exact ⟨l, rfl, rfl⟩
theorem dLines_snoc (ls : List (Rat × Rat)) (l : Rat × Rat) : dLines ls ++ [dLine l] = dLines (ls ++ [l]) := by simp [dLines]
theorem dLines_len (ls : List (Rat × Rat)) : (dLines ls).length = ls.length := by simp [dLines]
section
variable {Q : Rv → Prop}
end
theorem bt_pow {k j : Nat} {i : Int} (h0 : 0 ≤ i) (h1 : i < 10 ^ (6 * j)) (hk : 20 * j ≤ k) : Bt k i := by
 show i.natAbs < 2 ^ k
 have h2 : (10 : Nat) ^ (6 * j) ≤ 2 ^ (20 * j) := by
  rw [Nat.pow_mul, Nat.pow_mul]
  exact Nat.pow_le_pow_left (by decide) j
 have h3 : (2 : Nat) ^ (20 * j) ≤ 2 ^ k := Nat.pow_le_pow_right (by decide) hk
 have h4 : ((10 : Int) ^ (6 * j)) = (((10 : Nat) ^ (6 * j) : Nat) : Int) := by simp
 rw [h4] at h1
 omega
section
variable {p : Addr} {n : Nat} {Q : Rv → Nat → Prop}
theorem t_lowestC {Q : Rv → Prop} {t b : Int} (h0 : 0 < b) (hb : Bt 9000 b) (q : Q (.val (dNum (Rat.divInt t b)))) : m_law_lowest [.val (.int t), .val (.int b)] Q := by
 have g0 := gcd_ne (t := t) (b := b) (by omega)
 have g1 := gcd_bt (t := t) hb (by omega)
 refine i_fn ?_
 unfold b_law_lowest b_law_lowest_l1 b_law_lowest_r1
 walk_at "vs"
 refine while_inv (fun n Γ => ∃ d r, Γ = [.val (.int t), .val (.int b), .val (.int d), .val (.int r)] ∧ 0 ≤ d ∧ 0 ≤ r ∧ Int.gcd d r = Int.gcd t b ∧ n = r.toNat) _ ⟨_, _, rfl, abs_nn t, by omega, by
  have := abs_gcd t b
  rwa [if_neg (c := b < 0) (by omega)] at this, rfl⟩ ?_
 rintro m Γ ⟨d, r, rfl, hd, hr, hg, rfl⟩
 walk_at "vs"
 refine iteD2 (fun c => ?_) (fun c => ?_)
 ·walk_at "vs"
  refine ⟨c, ?_⟩
  walk_at "vs"
  have h1 := Int.emod_nonneg d (b := r) (by omega)
  have h2 := Int.emod_lt_of_pos d c
  exact ⟨_, by omega, _, _, rfl, hr, h1, (gcd_step hd c).trans hg, rfl⟩
 ·have c' : r = 0 := by omega
  subst c'
  have e := gcd_end hd
  rw [hg] at e
  subst e
  have n := norm_pos (t := t) (b := b) h0
  walk_at "vs"
  refine ⟨⟨g0, g1⟩, ?_⟩
  walk_at "vs"
  refine ⟨⟨g0, g1⟩, ?_⟩
  walk_at "vs"
  rw [n.1, n.2]
  exact q
end
noncomputable def dNums (ts : List Rat) : List D := ts.map dNum
theorem dNums_get {ts : List Rat} {i : Nat} {d : D} (h : (dNums ts)[i]? = some d) : ∃ t, ts[i]? = some t ∧ d = dNum t := by
 unfold dNums at h
 rw [List.getElem?_map] at h
 cases e : ts[i]? with
 | none => rw [e] at h; cases h
 | some l => rw [e] at h; cases h; exact ⟨l, rfl, rfl⟩
theorem ix_dnum {ts : List Rat} {i : Nat} {t : Rat} (h : ts[i]? = some t) : ixD (.list (dNums ts)) (.int (i : Int)) = some (dNum t) := ix_nat (by unfold dNums; rw [List.getElem?_map, h]; rfl)
theorem dNums_len (ts : List Rat) : (dNums ts).length = ts.length := by simp [dNums]
theorem good_nums (ts : List Rat) : Good (.list (dNums ts)) := (gd_lst (n := 1) fun d h => by
 obtain ⟨t, _, rfl⟩ := List.mem_map.mp h
 exact gd_num t).good
theorem goods_nums (ts : List Rat) : Goods (dNums ts) := gd_goods (n := 1) fun d h => by
 obtain ⟨t, _, rfl⟩ := List.mem_map.mp h
 exact gd_num t
theorem any_num (ts : List Rat) (t : Rat) : ((dNums ts).any fun e => PyData.eqv e (dNum t)) = decide (t ∈ ts) := by
 unfold dNums
 rw [List.any_map]
 rw [Bool.eq_iff_iff, List.any_eq_true, decide_eq_true_eq]
 constructor
 ·rintro ⟨x, hx, e⟩
  have : PyData.eqv (dNum x) (dNum t) = true := e
  rw [eqv_num] at this
  rw [← of_decide_eq_true this]; exact hx
 ·intro h
  exact ⟨t, h, by show PyData.eqv (dNum t) (dNum t) = true; rw [eqv_num]; exact decide_eq_true rfl⟩
noncomputable def dNats (xs : List Nat) : List D := xs.map fun i : Nat => PyData.int (i : Int)
theorem dNats_len (xs : List Nat) : (dNats xs).length = xs.length := by simp [dNats]
theorem goods_nats (xs : List Nat) : Goods (dNats xs) := gd_goods (n := 0) fun d h => by
 obtain ⟨t, _, rfl⟩ := List.mem_map.mp h
 exact gd_int _
theorem good_nats (xs : List Nat) : Good (.list (dNats xs)) := (gd_lst (n := 0) fun d h => by
 obtain ⟨t, _, rfl⟩ := List.mem_map.mp h
 exact gd_int _).good
theorem any_nat (xs : List Nat) (t : Nat) : ((dNats xs).any fun e => PyData.eqv e (.int (t : Int))) = decide (t ∈ xs) := by
 unfold dNats
 rw [List.any_map]
 rw [Bool.eq_iff_iff, List.any_eq_true, decide_eq_true_eq]
 constructor
 ·rintro ⟨x, hx, e⟩
  have : PyData.eqv (.int (x : Int)) (.int (t : Int)) = true := e
  rw [eqv_int] at this
  have := of_decide_eq_true this
  have e2 : x = t := by omega
  rw [← e2]; exact hx
 ·intro h
  exact ⟨t, h, by show PyData.eqv (.int (t : Int)) (.int (t : Int)) = true; rw [eqv_int]; exact decide_eq_true rfl⟩
theorem ix_nats {xs : List Nat} {i : Nat} (h : i < xs.length) : ixD (.list (dNats xs)) (.int (i : Int)) = some (.int (xs[i] : Int)) := ix_nat (by unfold dNats; rw [List.getElem?_map, List.getElem?_eq_getElem h]; rfl)
theorem len_nats (xs : List Nat) : lenD (.list (dNats xs)) = some (.int (xs.length : Int)) := by show some (PyData.int ((dNats xs).length : Int)) = _; rw [dNats_len]
theorem len_lines (ls : List Ln) : lenD (.list (dLines ls)) = some (.int (ls.length : Int)) := by show some (PyData.int ((dLines ls).length : Int)) = _; rw [dLines_len]
noncomputable def insT (ts : List Rat) (o : Option Rat) : List Rat := match o with
 | none => ts
 | some t => if t ∈ ts then ts else insL ts ((ts.filter fun u => decide (u < t)).length : Int) t
noncomputable def mtsIn (ls : List Ln) (i : Nat) : Nat → List Rat → List Rat
 | 0, ts => ts
 | j + 1, ts => insT (mtsIn ls i j ts) (match ls[i]?, ls[j]? with | some l, some k => mtO l k | _, _ => none)
noncomputable def mtsTo (ls : List Ln) : Nat → List Rat
 | 0 => []
 | i + 1 => mtsIn ls i i (mtsTo ls i)
noncomputable def mts (ls : List Ln) : List Rat := mtsTo ls ls.length
theorem insL_map {α β : Type} (f : α → β) (xs : List α) (i : Int) (x : α) : (insL xs i x).map f = insL (xs.map f) i (f x) := by
 unfold insL
 rw [List.map_append, List.map_cons, List.map_take, List.map_drop, List.length_map]
theorem insL_in {α : Type} {xs : List α} {n : Nat} {x : α} (h : n ≤ xs.length) : insL xs (n : Int) x = xs.take n ++ x :: xs.drop n := by
 unfold insL insAt
 rw [if_neg (by omega)]
 simp [Nat.min_eq_left h]
theorem insT_len (ts : List Rat) (o : Option Rat) : (insT ts o).length ≤ ts.length + 1 := by
 unfold insT
 split
 ·omega
 ·split
  ·omega
  ·rw [insL_len]; omega
theorem mem_insL {α : Type} {xs : List α} {i : Int} {x y : α} : y ∈ insL xs i x ↔ y = x ∨ y ∈ xs := by
 unfold insL
 generalize insAt xs.length i = k
 have e : y ∈ xs ↔ y ∈ xs.take k ∨ y ∈ xs.drop k := by
  rw [← List.mem_append, List.take_append_drop]
 rw [List.mem_append, List.mem_cons, e]
 constructor
 ·rintro (h | h | h)
  ·exact .inr (.inl h)
  ·exact .inl h
  ·exact .inr (.inr h)
 ·rintro (h | h | h)
  ·exact .inr (.inl h)
  ·exact .inl h
  ·exact .inr (.inr h)
theorem mem_insT {ts : List Rat} {o : Option Rat} {t : Rat} : t ∈ insT ts o ↔ t ∈ ts ∨ o = some t := by
 unfold insT
 split
 ·simp
 ·rename_i u
  split
  ·rename_i h
   constructor
   ·exact .inl
   ·rintro (z | z)
    ·exact z
    ·cases z; exact h
  ·rw [mem_insL]
   constructor
   ·rintro (z | z)
    ·exact .inr (by rw [z])
    ·exact .inl z
   ·rintro (z | z)
    ·exact .inr z
    ·cases z; exact .inl rfl
theorem mtsIn_len (ls : List Ln) (i j : Nat) (ts : List Rat) : (mtsIn ls i j ts).length ≤ ts.length + j := by
 induction j with
 | zero => exact Nat.le_refl _
 | succ j ih =>
  have := insT_len (mtsIn ls i j ts) (match ls[i]?, ls[j]? with | some l, some k => mtO l k | _, _ => none)
  show (insT _ _).length ≤ _
  omega
theorem mtsTo_len (ls : List Ln) (i : Nat) : (mtsTo ls i).length ≤ i * i := by
 induction i with
 | zero => exact Nat.le_refl _
 | succ i ih =>
  have := mtsIn_len ls i i (mtsTo ls i)
  show (mtsIn ls i i (mtsTo ls i)).length ≤ _
  have e : (i + 1) * (i + 1) = i * i + 2 * i + 1 := by rw [Nat.add_mul, Nat.mul_add]; omega
  omega
theorem mem_mtsIn {ls : List Ln} {i j : Nat} {ts : List Rat} {t : Rat} : t ∈ mtsIn ls i j ts ↔ t ∈ ts ∨ ∃ j', j' < j ∧ ∃ l k, ls[i]? = some l ∧ ls[j']? = some k ∧ mtO l k = some t := by
 induction j with
 | zero => simp [mtsIn]
 | succ j ih =>
  show t ∈ insT _ _ ↔ _
  rw [mem_insT, ih]
  constructor
  ·rintro ((h | ⟨j', h1, h2⟩) | h)
   ·exact .inl h
   ·exact .inr ⟨j', by omega, h2⟩
   ·split at h
    ·rename_i l k e1 e2
     exact .inr ⟨j, by omega, l, k, e1, e2, h⟩
    ·cases h
  ·rintro (h | ⟨j', h1, l, k, e1, e2, h⟩)
   ·exact .inl (.inl h)
   ·by_cases hj : j' = j
    ·subst hj
     right
     rw [e1, e2]
     exact h
    ·exact .inl (.inr ⟨j', by omega, l, k, e1, e2, h⟩)
theorem mem_mtsTo {ls : List Ln} {n : Nat} {t : Rat} : t ∈ mtsTo ls n ↔ ∃ i j l k, i < n ∧ j < i ∧ ls[i]? = some l ∧ ls[j]? = some k ∧ mtO l k = some t := by
 induction n with
 | zero => simp [mtsTo]
 | succ n ih =>
  show t ∈ mtsIn ls n n (mtsTo ls n) ↔ _
  rw [mem_mtsIn, ih]
  constructor
  ·rintro (⟨i, j, l, k, h1, h2⟩ | ⟨j, h1, l, k, h2⟩)
   ·exact ⟨i, j, l, k, by omega, h2⟩
   ·exact ⟨n, j, l, k, by omega, h1, h2⟩
  ·rintro ⟨i, j, l, k, h1, h2, h3⟩
   by_cases hi : i = n
   ·subst hi; exact .inr ⟨j, h2, l, k, h3⟩
   ·exact .inl ⟨i, j, l, k, by omega, h2, h3⟩
theorem mt_sz {l k : Ln} {t : Rat} (h1 : Sz 200 l.1) (h2 : Sz 200 l.2) (h3 : Sz 200 k.1) (h4 : Sz 200 k.2) (h : mtO l k = some t) : Sz 802 t := by
 unfold mtO at h
 split at h
 ·cases h
 ·cases h
  exact ((h3.sub h1).div (h2.sub h4) (by grind)).mono (by decide)
theorem mts_sz {ls : List Ln} (hz : LinesOk 200 ls) {n : Nat} {t : Rat} (h : t ∈ mtsTo ls n) : Sz 802 t := by
 obtain ⟨i, j, l, k, _, _, e1, e2, h⟩ := mem_mtsTo.mp h
 obtain ⟨a, b⟩ := hz.get e1
 obtain ⟨c, d⟩ := hz.get e2
 exact mt_sz a b c d h
noncomputable def earlyT : List Rat → Rat
 | [] => ((0 : Int) : Rat)
 | t :: _ => t - ((1 : Int) : Rat)
noncomputable def hf : Rat := Rat.divInt 1 2
theorem hf_eq : hf = 1 / 2 := by
 unfold hf
 rw [Rat.divInt_eq_div]
 rfl
theorem hf_d : PyData.tuple [.int 1, .int 2] = dNum hf := by
 have n := norm_pos (t := 1) (b := 2) (by decide)
 have h1 : (Rat.divInt 1 2).num = 1 := by rw [← n.1]; decide
 have h2 : ((Rat.divInt 1 2).den : Int) = 2 := by rw [← n.2]; decide
 unfold dNum hf
 rw [h1, h2]
theorem hf_sz : Sz 31 hf := Sz.divInt (bt31 (by decide) (by decide)) (bt31 (by decide) (by decide)) (by decide)
section
variable {Q : Rv → Prop}
end
inductive Deed where
 | join (t p m : Rat)
 | leave (t : Rat) (r : Nat)
 | turn (t : Rat) (r : Nat) (m : Rat)
noncomputable def Deed.t : Deed → Rat
 | .join t _ _ => t
 | .leave t _ => t
 | .turn t _ _ => t
noncomputable def dDeed : Deed → D
 | .join t p m => .tuple [.str "join", dNum t, dNum p, dNum m]
 | .leave t r => .tuple [.str "leave", dNum t, .int (r : Int)]
 | .turn t r m => .tuple [.str "turn", dNum t, .int (r : Int), dNum m]
structure Rn where
 ls : List Ln
 rs : List Nat
noncomputable def Rn.at (s : Rn) (r : Nat) : Ln := s.ls.getD r (0, 0)
noncomputable def stp (s : Rn) : Deed → Rn
 | .join t p m => ⟨s.ls ++ [(p - m * t, m)], s.rs ++ [s.ls.length]⟩
 | .leave _ r => ⟨s.ls, s.rs.filter fun x => decide (x ≠ r)⟩
 | .turn t r m => ⟨s.ls.set r (pl (s.at r) t - m * t, m), s.rs⟩
noncomputable def Deed.ok (s : Rn) : Deed → Prop
 | .join _ _ _ => True
 | .leave _ r => r ∈ s.rs
 | .turn _ r _ => r ∈ s.rs
noncomputable def run (ds : List Deed) : Rn := ds.foldl stp ⟨[], []⟩
theorem run_snoc (ds : List Deed) (d : Deed) : run (ds ++ [d]) = stp (run ds) d := by unfold run; rw [List.foldl_append]; rfl
noncomputable def LogP (P : Rn → Deed → Prop) (ds : List Deed) : Prop := ∀ (n : Nat) d, ds[n]? = some d → P (run (ds.take n)) d
noncomputable def LogOk (ds : List Deed) : Prop := LogP (fun s d => d.ok s) ds
theorem LogP.snoc {P : Rn → Deed → Prop} {ds : List Deed} {d : Deed} (h : LogP P ds) (hd : P (run ds) d) : LogP P (ds ++ [d]) := fun n e he => by
 by_cases hn : n < ds.length
 ·rw [List.getElem?_append_left hn] at he
  rw [List.take_append_of_le_length (Nat.le_of_lt hn)]
  exact h n e he
 ·have hn2 : n = ds.length := by
   have := (List.getElem?_eq_some_iff.mp he).1
   rw [List.length_append, List.length_singleton] at this
   omega
  subst hn2
  rw [List.getElem?_append_right (Nat.le_refl _), Nat.sub_self] at he
  cases he
  rw [List.take_append_of_le_length (Nat.le_refl _), List.take_length]
  exact hd
theorem LogP.take {P : Rn → Deed → Prop} {ds : List Deed} (h : LogP P ds) (k : Nat) : LogP P (ds.take k) := fun n e he => by
 rw [List.getElem?_take] at he
 split at he
 ·rename_i hn
  rw [List.take_take, Nat.min_eq_left (Nat.le_of_lt hn)]
  exact h n e he
 ·cases he
theorem LogOk.snoc {ds : List Deed} {d : Deed} (h : LogOk ds) (hd : d.ok (run ds)) : LogOk (ds ++ [d]) := LogP.snoc h hd
theorem LogOk.take {ds : List Deed} (h : LogOk ds) (k : Nat) : LogOk (ds.take k) := LogP.take h k
noncomputable def Deed.few (s : Rn) : Deed → Prop
 | .join _ _ _ => s.rs.length < 8
 | _ => True
noncomputable def Few (ds : List Deed) : Prop := LogP (fun s d => d.few s) ds
structure RnOk (s : Rn) : Prop where
 up : s.rs.Pairwise (· < ·)
 lt : ∀ r ∈ s.rs, r < s.ls.length
theorem stp_ok {s : Rn} (h : RnOk s) (d : Deed) : RnOk (stp s d) := by
 cases d with
 | join t p m =>
  refine ⟨List.pairwise_append.mpr ⟨h.up, List.pairwise_singleton _ _, fun a ha b hb => ?_⟩, fun r hr => ?_⟩
  ·rw [List.mem_singleton.mp hb]; exact h.lt a ha
  ·show r < (s.ls ++ [_]).length
   rw [List.length_append, List.length_singleton]
   rcases List.mem_append.mp hr with z | z
   ·have := h.lt r z; omega
   ·rw [List.mem_singleton.mp z]; omega
 | leave t r => exact ⟨h.up.sublist List.filter_sublist, fun x hx => h.lt x (List.mem_filter.mp hx).1⟩
 | turn t r m =>
  refine ⟨h.up, fun x hx => ?_⟩
  show x < (s.ls.set r _).length
  rw [List.length_set]
  exact h.lt x hx
theorem foldl_ok : ∀ (ds : List Deed) {s : Rn}, RnOk s → RnOk (ds.foldl stp s)
 | [], _, h => h
 | d :: ds, _, h => foldl_ok ds (stp_ok h d)
theorem run_ok (ds : List Deed) : RnOk (run ds) := foldl_ok ds ⟨List.Pairwise.nil, fun _ h => nomatch h⟩
theorem RnOk.nd {s : Rn} (h : RnOk s) : s.rs.Nodup := h.up.imp fun h => Nat.ne_of_lt h
theorem stp_len_le (s : Rn) (d : Deed) : (stp s d).rs.length ≤ s.rs.length + 1 := by
 cases d with
 | join t p m => show (s.rs ++ [_]).length ≤ _; rw [List.length_append, List.length_singleton]; exact Nat.le_refl _
 | leave t r => exact Nat.le_succ_of_le (List.length_filter_le _ _)
 | turn t r m => exact Nat.le_succ _
theorem foldl_len_le : ∀ (ds : List Deed) (s : Rn), (ds.foldl stp s).rs.length ≤ s.rs.length + ds.length
 | [], s => Nat.le_refl _
 | d :: ds, s => by
  have h1 := foldl_len_le ds (stp s d)
  have h2 := stp_len_le s d
  show (ds.foldl stp (stp s d)).rs.length ≤ _
  rw [List.length_cons]; omega
theorem run_len_le (ds : List Deed) : (run ds).rs.length ≤ ds.length := by
 have h : (run ds).rs.length ≤ ([] : List Nat).length + ds.length := foldl_len_le ds ⟨[], []⟩
 rw [List.length_nil] at h
 omega
theorem stp_ls_le (s : Rn) (d : Deed) : (stp s d).ls.length ≤ s.ls.length + 1 := by
 cases d with
 | join t p m => show (s.ls ++ [_]).length ≤ _; rw [List.length_append, List.length_singleton]; exact Nat.le_refl _
 | leave t r => exact Nat.le_succ _
 | turn t r m => show (s.ls.set r _).length ≤ _; rw [List.length_set]; exact Nat.le_succ _
noncomputable def kdsL (ls : List Ln) (rs : List Nat) : List (Int × D) := rs.map fun r : Nat => ((r : Int), dLine (ls.getD r (0, 0)))
noncomputable def kdsOf (s : Rn) : List (Int × D) := kdsL s.ls s.rs
theorem kds_len (s : Rn) : (kdsOf s).length = s.rs.length := List.length_map _
theorem dk_at (ls : List Ln) : ∀ (rs : List Nat) (r : Nat), dkAt (kdsL ls rs) (r : Int) = if r ∈ rs then some (dLine (ls.getD r (0, 0))) else none
 | [], r => by rw [if_neg (by exact fun h => nomatch h)]; rfl
 | x :: rs, r => by
  show (if (x : Int) = (r : Int) then _ else dkAt (kdsL ls rs) (r : Int)) = _
  by_cases e : x = r
  ·subst e
   rw [if_pos rfl, if_pos List.mem_cons_self]
  ·rw [if_neg (by omega), dk_at ls rs r]
   by_cases h : r ∈ rs
   ·rw [if_pos h, if_pos (List.mem_cons_of_mem _ h)]
   ·rw [if_neg h, if_neg (fun z => (List.mem_cons.mp z).elim (fun y => e y.symm) h)]
theorem dk_in {s : Rn} {r : Nat} (h : r ∈ s.rs) : dkAt (kdsOf s) (r : Int) = some (dLine (s.at r)) := by
 unfold kdsOf
 rw [dk_at, if_pos h]
 rfl
theorem dk_some (ls : List Ln) : ∀ (rs : List Nat) (n : Int) (d : D), dkAt (kdsL ls rs) n = some d → ∃ r : Nat, n = (r : Int) ∧ r ∈ rs ∧ d = dLine (ls.getD r (0, 0))
 | [], n, d, h => nomatch h
 | x :: rs, n, d, h => by
  have h : (if (x : Int) = n then some (dLine (ls.getD x (0, 0))) else dkAt (kdsL ls rs) n) = some d := h
  split at h
  ·rename_i e
   cases h
   exact ⟨x, e.symm, List.mem_cons_self, rfl⟩
  ·obtain ⟨r, a, b, c⟩ := dk_some ls rs n d h
   exact ⟨r, a, List.mem_cons_of_mem _ b, c⟩
theorem kds_join {s : Rn} (h : RnOk s) (t p m : Rat) : dkPut (kdsOf s) (s.ls.length : Int) (dLine (p - m * t, m)) = kdsOf (stp s (.join t p m)) := by
 have hn : dkAt (kdsOf s) (s.ls.length : Int) = none := by
  unfold kdsOf
  rw [dk_at, if_neg (fun z => Nat.lt_irrefl _ (h.lt _ z))]
 unfold dkPut
 rw [hn, if_neg (by decide)]
 show kdsL s.ls s.rs ++ _ = kdsL (s.ls ++ [(p - m * t, m)]) (s.rs ++ [s.ls.length])
 unfold kdsL
 rw [List.map_append]
 congr 1
 ·refine List.map_congr_left fun r hr => ?_
  have := h.lt r hr
  rw [List.getD_eq_getElem?_getD, List.getD_eq_getElem?_getD, List.getElem?_append_left this]
 ·rw [List.map_singleton, List.getD_eq_getElem?_getD, List.getElem?_append_right (Nat.le_refl _), Nat.sub_self]
  rfl
theorem kds_leave (s : Rn) (t : Rat) (r : Nat) : dkDrop (kdsOf s) (r : Int) = kdsOf (stp s (.leave t r)) := by
 show dkDrop (kdsL s.ls s.rs) _ = kdsL s.ls (s.rs.filter _)
 induction s.rs with
 | nil => rfl
 | cons x rs ih =>
  show (if (x : Int) = (r : Int) then dkDrop (kdsL s.ls rs) (r : Int) else ((x : Int), dLine (s.ls.getD x (0, 0))) :: dkDrop (kdsL s.ls rs) (r : Int)) = _
  by_cases e : x = r
  ·rw [if_pos (by omega), ih, List.filter_cons_of_neg (by simpa using e)]
  ·rw [if_neg (by omega), ih, List.filter_cons_of_pos (by simpa using e)]
   rfl
theorem kds_turn {s : Rn} (h : RnOk s) {t m : Rat} {r : Nat} (hr : r ∈ s.rs) : dkPut (kdsOf s) (r : Int) (dLine (pl (s.at r) t - m * t, m)) = kdsOf (stp s (.turn t r m)) := by
 have hl := h.lt r hr
 unfold dkPut
 rw [dk_in hr, if_pos (show (some (dLine (s.at r))).isSome = true from rfl)]
 show dkRepl (kdsL s.ls s.rs) _ _ = kdsL (s.ls.set r _) s.rs
 generalize (pl (s.at r) t - m * t, m) = l
 clear hr
 induction s.rs with
 | nil => rfl
 | cons x rs ih =>
  show (if (x : Int) = (r : Int) then ((x : Int), dLine l) else ((x : Int), dLine (s.ls.getD x (0, 0)))) :: dkRepl (kdsL s.ls rs) (r : Int) (dLine l) = ((x : Int), dLine ((s.ls.set r l).getD x (0, 0))) :: kdsL (s.ls.set r l) rs
  rw [ih]
  congr 1
  by_cases e : x = r
  ·subst e
   rw [if_pos rfl, List.getD_eq_getElem?_getD, List.getElem?_set_self hl]
   rfl
  ·rw [if_neg (by omega), List.getD_eq_getElem?_getD, List.getD_eq_getElem?_getD, List.getElem?_set_ne (Ne.symm e)]
theorem kds_keys (s : Rn) : (kdsOf s).map (·.1) = s.rs.map fun r : Nat => (r : Int) := by
 show (kdsL s.ls s.rs).map (·.1) = _
 unfold kdsL
 rw [List.map_map]
 rfl
theorem kds_srt {s : Rn} (h : RnOk s) : (srtInt ((kdsOf s).map (·.1))).map PyData.int = dNats s.rs := by
 have up : (s.rs.map fun r : Nat => (r : Int)).Pairwise (· ≤ ·) := List.pairwise_map.mpr (h.up.imp fun h => by omega)
 rw [kds_keys, srtInt_of (List.Perm.refl _) up, List.map_map]
 rfl
theorem at_get {s : Rn} (h : RnOk s) {r : Nat} (hr : r ∈ s.rs) : s.ls[r]? = some (s.at r) := by
 have := h.lt r hr
 unfold Rn.at
 rw [List.getD_eq_getElem?_getD, List.getElem?_eq_getElem this]
 rfl
noncomputable def upto (T : Rat) (ds : List Deed) : List Deed := ds.filter fun d => !decide (T < d.t)
noncomputable def Rising (ds : List Deed) : Prop := ds.Pairwise fun a b => a.t ≤ b.t
theorem upto_take {T : Rat} : ∀ {ds : List Deed}, Rising ds → ∃ k, upto T ds = ds.take k
 | [], _ => ⟨0, rfl⟩
 | d :: ds, h => by
  obtain ⟨h1, h2⟩ := List.pairwise_cons.mp h
  by_cases c : T < d.t
  ·refine ⟨0, ?_⟩
   show (d :: ds).filter _ = []
   refine List.filter_eq_nil_iff.mpr fun e he => ?_
   have he : T < e.t := by
    rcases List.mem_cons.mp he with rfl | z
    ·exact c
    ·exact (by have := h1 e z; grind)
   rw [decide_eq_true he]
   decide
  ·obtain ⟨k, hk⟩ := upto_take (T := T) h2
   refine ⟨k + 1, ?_⟩
   show (d :: ds).filter _ = d :: ds.take k
   rw [List.filter_cons_of_pos (by rw [decide_eq_false c]; rfl), ← hk]
   rfl
theorem Rising.snoc {ds : List Deed} {d : Deed} (h : Rising ds) (hd : ∀ e ∈ ds, e.t ≤ d.t) : Rising (ds ++ [d]) :=
 List.pairwise_append.mpr ⟨h, List.pairwise_singleton _ _, fun a ha b hb => by rw [List.mem_singleton.mp hb]; exact hd a ha⟩
noncomputable def G1 (B : Nat) (q : Rat) : Prop := ∃ z : Int, q * 27720 = (z : Rat) ∧ z.natAbs ≤ B
noncomputable def G2 (B : Nat) (q : Rat) : Prop := ∃ z : Int, q * 768398400 = (z : Rat) ∧ z.natAbs ≤ B
theorem G1.mul {A B : Nat} {a b : Rat} (h : G1 A a) (g : G1 B b) : G2 (A * B) (a * b) := by
 obtain ⟨x, hx, bx⟩ := h
 obtain ⟨y, hy, dy⟩ := g
 refine ⟨x * y, ?_, by rw [Int.natAbs_mul]; exact Nat.mul_le_mul bx dy⟩
 rw [Rat.intCast_mul, ← hx, ← hy]
 grind
theorem G1.up {A : Nat} {a : Rat} (h : G1 A a) : G2 (A * 27720) a := by
 obtain ⟨x, hx, bx⟩ := h
 refine ⟨x * 27720, ?_, by rw [Int.natAbs_mul]; exact Nat.mul_le_mul bx (Nat.le_refl _)⟩
 rw [Rat.intCast_mul, ← hx]
 show a * 768398400 = a * 27720 * ((27720 : Int) : Rat)
 rw [show ((27720 : Int) : Rat) = 27720 from rfl]
 grind
theorem G1.mono {A B : Nat} {a : Rat} (h : G1 A a) (l : A ≤ B) : G1 B a := let ⟨x, hx, bx⟩ := h; ⟨x, hx, Nat.le_trans bx l⟩
theorem G2.mono {A B : Nat} {a : Rat} (h : G2 A a) (l : A ≤ B) : G2 B a := let ⟨x, hx, bx⟩ := h; ⟨x, hx, Nat.le_trans bx l⟩
theorem G2.add {A B : Nat} {a b : Rat} (h : G2 A a) (g : G2 B b) : G2 (A + B) (a + b) := by
 obtain ⟨x, hx, bx⟩ := h
 obtain ⟨y, hy, dy⟩ := g
 refine ⟨x + y, ?_, Nat.le_trans (Int.natAbs_add_le _ _) (Nat.add_le_add bx dy)⟩
 rw [Rat.intCast_add, ← hx, ← hy]
 grind
theorem G2.sub {A B : Nat} {a b : Rat} (h : G2 A a) (g : G2 B b) : G2 (A + B) (a - b) := by
 obtain ⟨x, hx, bx⟩ := h
 obtain ⟨y, hy, dy⟩ := g
 refine ⟨x - y, ?_, ?_⟩
 ·rw [Rat.intCast_sub, ← hx, ← hy]
  grind
 ·omega
theorem G2.sz {B k : Nat} {q : Rat} (h : G2 B q) (hB : B < 2 ^ k) (hk : 30 ≤ k) : Sz k q := by
 obtain ⟨z, hz, bz⟩ := h
 rw [← dI (t := z) (b := 768398400) (q := q) (by decide) hz.symm]
 refine Sz.divInt (Nat.lt_of_le_of_lt bz hB) (Bt.mono (k := 30) (by show Int.natAbs 768398400 < 2 ^ 30; decide) hk) (by decide)
theorem G1.sz {B k : Nat} {q : Rat} (h : G1 B q) (hB : B < 2 ^ k) (hk : 30 ≤ k) : Sz k q := by
 obtain ⟨z, hz, bz⟩ := h
 rw [← dI (t := z) (b := 27720) (q := q) (by decide) hz.symm]
 refine Sz.divInt (Nat.lt_of_le_of_lt bz hB) (Bt.mono (k := 30) (by show Int.natAbs 27720 < 2 ^ 30; decide) hk) (by decide)
theorem g1_div {a b : Int} {B : Nat} (ha : a.natAbs * 27720 ≤ B) (b0 : 1 ≤ b) (b1 : b ≤ 12) : G1 B (Rat.divInt a b) := by
 obtain ⟨c, hc, c0, c1⟩ : ∃ c : Int, b * c = 27720 ∧ 0 ≤ c ∧ c ≤ 27720 := by
  have : b = 1 ∨ b = 2 ∨ b = 3 ∨ b = 4 ∨ b = 5 ∨ b = 6 ∨ b = 7 ∨ b = 8 ∨ b = 9 ∨ b = 10 ∨ b = 11 ∨ b = 12 := by omega
  rcases this with rfl | rfl | rfl | rfl | rfl | rfl | rfl | rfl | rfl | rfl | rfl | rfl
  ·exact ⟨27720, by decide⟩
  ·exact ⟨13860, by decide⟩
  ·exact ⟨9240, by decide⟩
  ·exact ⟨6930, by decide⟩
  ·exact ⟨5544, by decide⟩
  ·exact ⟨4620, by decide⟩
  ·exact ⟨3960, by decide⟩
  ·exact ⟨3465, by decide⟩
  ·exact ⟨3080, by decide⟩
  ·exact ⟨2772, by decide⟩
  ·exact ⟨2520, by decide⟩
  ·exact ⟨2310, by decide⟩
 refine ⟨a * c, ?_, Nat.le_trans ?_ ha⟩
 ·have hb : (b : Rat) ≠ 0 := fun z => by
   have : b = 0 := by exact_mod_cast z
   omega
  have hc' : (b : Rat) * (c : Rat) = 27720 := by
   rw [← Rat.intCast_mul, hc]; rfl
  rw [Rat.divInt_eq_div, Rat.intCast_mul, ← hc']
  grind
 ·rw [Int.natAbs_mul]
  exact Nat.mul_le_mul (Nat.le_refl _) (by omega)
noncomputable def DeedZ : Deed → Prop
 | .join t p m => G1 (2 ^ 45) t ∧ G1 (2 ^ 45) p ∧ G1 (2 ^ 45) m
 | .leave t _ => G1 (2 ^ 45) t
 | .turn t _ m => G1 (2 ^ 45) t ∧ G1 (2 ^ 45) m
theorem DeedZ.tz {d : Deed} (h : DeedZ d) : Sz 60 d.t := by
 cases d with
 | join t p m => exact G1.sz (q := t) h.1 (by decide) (by decide)
 | leave t r => exact G1.sz (q := t) h (by decide) (by decide)
 | turn t r m => exact G1.sz (q := t) h.1 (by decide) (by decide)
noncomputable def RnZ (n : Nat) (s : Rn) : Prop := ∀ l ∈ s.ls, G2 ((n + 1) * 2 ^ 91) l.1 ∧ G1 (2 ^ 45) l.2
theorem stp_z {n : Nat} {s : Rn} {d : Deed} (h : RnZ n s) (hs : RnOk s) (hd : d.ok s) (hz : DeedZ d) : RnZ (n + 1) (stp s d) := by
 have old : ∀ l ∈ s.ls, G2 ((n + 1 + 1) * 2 ^ 91) l.1 ∧ G1 (2 ^ 45) l.2 := fun l hl => ⟨(h l hl).1.mono (Nat.mul_le_mul_right _ (by omega)), (h l hl).2⟩
 cases d with
 | join t p m =>
  obtain ⟨h1, h2, h3⟩ := hz
  intro l hl
  rcases List.mem_append.mp hl with z | z
  ·exact old l z
  ·rw [List.mem_singleton.mp z]
   refine ⟨(h2.up.sub (h3.mul h1)).mono ?_, h3⟩
   refine Nat.le_trans (m := 1 * 2 ^ 91) (by decide) (Nat.mul_le_mul_right _ (by omega))
 | leave t r => exact old
 | turn t r m =>
  obtain ⟨h1, h3⟩ := hz
  intro l hl
  rcases List.mem_or_eq_of_mem_set hl with z | z
  ·exact old l z
  ·rw [z]
   have hm : s.at r ∈ s.ls := List.mem_of_getElem? (at_get hs hd)
   obtain ⟨a, b⟩ := h _ hm
   refine ⟨((a.add (b.mul h1)).sub (h3.mul h1)).mono ?_, h3⟩
   have e : 2 ^ 45 * 2 ^ 45 + 2 ^ 45 * 2 ^ 45 = 2 ^ 91 := by decide
   have : (n + 1 + 1) * 2 ^ 91 = (n + 1) * 2 ^ 91 + 2 ^ 91 := Nat.succ_mul _ _
   omega
theorem run_z {ds : List Deed} (hl : LogOk ds) (hz : ∀ d ∈ ds, DeedZ d) : RnZ ds.length (run ds) := by
 have aux : ∀ n, n ≤ ds.length → RnZ n (run (ds.take n)) := by
  intro n
  induction n with
  | zero => intro _ l hl; exact nomatch hl
  | succ n ih =>
   intro hn
   have hn' : n < ds.length := by omega
   have e : ds[n]? = some ds[n] := List.getElem?_eq_getElem hn'
   rw [List.take_succ, e]
   show RnZ (n + 1) (run (ds.take n ++ [ds[n]]))
   rw [run_snoc]
   exact stp_z (ih (by omega)) (run_ok _) (hl n _ e) (hz _ (List.getElem_mem hn'))
 have := aux ds.length (Nat.le_refl _)
 rw [List.take_length] at this
 exact this
theorem run_sz {ds : List Deed} (hl : LogOk ds) (hz : ∀ d ∈ ds, DeedZ d) (h40 : ds.length ≤ 40) : LinesOk 200 (run ds).ls := fun l h => by
 obtain ⟨a, b⟩ := run_z hl hz l h
 refine ⟨a.sz ?_ (by decide), b.sz (by decide) (by decide)⟩
 exact Nat.lt_of_le_of_lt (Nat.mul_le_mul_right _ (show ds.length + 1 ≤ 41 by omega)) (by decide)
noncomputable def NumN (q : Rat) : Prop := q.num.natAbs ≤ 999999999 ∧ q.den ≤ 12
theorem n_div {a b : Int} (ha : a.natAbs ≤ 999999999) (b0 : 1 ≤ b) (b1 : b ≤ 12) : NumN (Rat.divInt a b) := by
 obtain ⟨h1, h2⟩ := norm_pos (t := a) (b := b) (by omega)
 rw [fd] at h1 h2
 refine ⟨?_, ?_⟩
 ·rw [← h1]
  exact Nat.le_trans (Int.natAbs_ediv_le_natAbs _ _) ha
 ·have h3 : ((Rat.divInt a b).den : Int).natAbs ≤ b.natAbs := by
   rw [← h2]
   exact Int.natAbs_ediv_le_natAbs _ _
  omega
noncomputable def DeedN : Deed → Prop
 | .join t p m => NumN t ∧ NumN p ∧ NumN m
 | .leave t _ => NumN t
 | .turn t _ m => NumN t ∧ NumN m
structure LogB (ds : List Deed) : Prop where
 ok : LogOk ds
 up : Rising ds
 z : ∀ d ∈ ds, DeedZ d
 nm : ∀ d ∈ ds, DeedN d
 few : Few ds
section
variable {p : Addr} {n : Nat} {Q : Rv → Nat → Prop}
theorem t_far9 (hn : n < 1000000) (q : ∀ (r : Int) n', r.natAbs ≤ 999999999 → n' ≤ n + 4 → Q (.val (.int r)) n') : m_law_far p n [] Q := by
 refine i_fnL ?_
 unfold b_law_far
 walk_at "fs"
 refine i_takeL (by decide) (by decide) (by omega) fun a a0 a1 => ?_
 walk_at "fs"
 refine ⟨mulB (k := 31) (bt31 (by omega) (by omega)) (m := 31) (bt31 (by decide) (by decide)), ?_⟩
 walk_at "fs"
 refine i_takeL (by decide) (by decide) (by omega) fun b b0 b1 => ?_
 walk_at "fs"
 refine ⟨mulB (k := 31) (bt31 (by omega) (by omega)) (m := 31) (bt31 (by decide) (by decide)), ?_⟩
 walk_at "fs"
 refine i_takeL (by decide) (by decide) (by omega) fun c c0 c1 => ?_
 walk_at "fs"
 refine i_takeL (by decide) (by decide) (by omega) fun d d0 d1 => ?_
 walk_at "fs"
 have hd : d = 0 ∨ d = 1 := by omega
 rcases hd with rfl | rfl
 ·refine i_oQ (d := .int (a * 1000000 + b * 1000 + c)) rfl ?_
  walk_at "fs"
  exact q _ _ (by omega) (by omega)
 ·refine i_oQ (d := .int (0 - (a * 1000000 + b * 1000 + c))) rfl ?_
  walk_at "fs"
  exact q _ _ (by omega) (by omega)
theorem t_small9 {kd : Int} (hn : n < 900000) (q : ∀ (r : Rat) n', G1 (2 ^ 45) r ∧ NumN r → n' ≤ n + 5 → Q (.val (dNum r)) n') : m_law_small p n [.val (.int kd)] Q := by
 refine i_fnL ?_
 unfold b_law_small
 walk_at "fs"
 refine iteD2 (fun c => ?_) (fun c => ?_)
 ·walk_at "fs"
  refine i_takeL (by decide) (by decide) (by omega) fun a a0 a1 => ?_
  walk_at "fs"
  rw [dNum_int]
  refine q _ _ ?_ (by omega)
  have := And.intro (g1_div (a := a - 3) (b := 1) (B := 2 ^ 45) (by omega) (by decide) (by decide)) (n_div (a := a - 3) (b := 1) (by omega) (by decide) (by decide))
  rwa [dI (t := a - 3) (b := 1) (q := ((a - 3 : Int) : Rat)) (by decide) (by rw [show ((1 : Int) : Rat) = 1 from rfl]; grind)] at this
 ·unfold b_law_small_r2
  walk_at "fs"
  refine iteD2 (fun c => ?_) (fun c => ?_)
  ·walk_at "fs"
   refine i_takeL (by decide) (by decide) (by omega) fun a a0 a1 => ?_
   walk_at "fs"
   refine i_takeL (by decide) (by decide) (by omega) fun b b0 b1 => ?_
   walk_at "fs"
   refine t_lowestC (by omega) (bt31 (by omega) (by omega)) ?_
   walk_at "fs"
   exact q _ _ ⟨g1_div (by omega) (by omega) (by omega), n_div (by omega) (by omega) (by omega)⟩ (by omega)
  ·unfold b_law_small_r1
   walk_at "fs"
   refine t_far9 (by omega) fun a n1 ha hn1 => ?_
   walk_at "fs"
   refine i_takeL (by decide) (by decide) (by omega) fun b b0 b1 => ?_
   walk_at "fs"
   refine t_lowestC (by omega) (bt31 (by omega) (by omega)) ?_
   walk_at "fs"
   exact q _ _ ⟨g1_div (by omega) (by omega) (by omega), n_div (by omega) (by omega) (by omega)⟩ (by omega)
theorem eqv_nats0 (xs : List Nat) : PyData.eqv (.list (dNats xs)) (.list []) = decide (xs = []) := by
 cases xs with
 | nil => rfl
 | cons x xs => rw [decide_eq_false (fun h => nomatch h)]; rfl
theorem good_nil0 : Good (.list []) := (gd_lst (n := 0) (ds := []) fun _ h => nomatch h).good
theorem erase_filter : ∀ {rs : List Nat} {k : Nat} {r : Nat}, rs.Nodup → rs[k]? = some r → rs.eraseIdx k = rs.filter fun x => decide (x ≠ r)
 | [], k, r, _, h => by cases k <;> cases h
 | x :: rs, 0, r, hn, h => by
  cases h
  obtain ⟨a, b⟩ := List.nodup_cons.mp hn
  rw [List.filter_cons_of_neg (by simp), List.eraseIdx_cons_zero]
  exact (List.filter_eq_self.mpr fun y hy => by simpa using fun (e : y = x) => a (e ▸ hy)).symm
 | x :: rs, k + 1, r, hn, h => by
  obtain ⟨a, b⟩ := List.nodup_cons.mp hn
  have h : rs[k]? = some r := h
  have hx : x ≠ r := fun e => a (e ▸ List.mem_of_getElem? h)
  rw [List.filter_cons_of_pos (by simpa using hx), List.eraseIdx_cons_succ, erase_filter b h]
theorem map_erase {α β : Type} (f : α → β) : ∀ (xs : List α) (k : Nat), (xs.eraseIdx k).map f = (xs.map f).eraseIdx k
 | [], k => by cases k <;> rfl
 | x :: xs, 0 => rfl
 | x :: xs, k + 1 => by
  show f x :: (xs.eraseIdx k).map f = f x :: (xs.map f).eraseIdx k
  rw [map_erase f xs k]
theorem nats_at {xs : List Nat} {k r : Nat} (h : xs[k]? = some r) : (dNats xs)[k]? = some (.int (r : Int)) := by
 unfold dNats
 rw [List.getElem?_map, h]
 rfl
theorem divInt_le {a b c : Int} (hc : 0 < c) (h : a ≤ b) : Rat.divInt a c ≤ Rat.divInt b c := by
 rw [Rat.divInt_eq_div, Rat.divInt_eq_div]
 have hc' : (0 : Rat) < (c : Rat) := by exact_mod_cast hc
 have h' : (a : Rat) ≤ (b : Rat) := by exact_mod_cast h
 rw [Rat.div_def, Rat.div_def]
 exact Rat.mul_le_mul_of_nonneg_right h' (Rat.le_of_lt (Rat.inv_pos.mpr hc'))
theorem ix_2 {ds : List D} {k : Int} {d : D} (h : atI ds k = some d) : ixD (.list ds) (.int k) = some d := h
theorem t_log {many : Nat} (hm : many ≤ 40) (hn : n < 100000) (q : ∀ (ds : List Deed) n', ds.length = many → LogB ds → n' ≤ n + 1000 → Q (.own (ds.map dDeed)) n') : m_law_log p n [.val (.int (many : Int))] Q := by
 refine i_fnL ?_
 unfold b_law_log
 walk_at "fs"
 refine i_takeL (by decide) (by decide) (by omega) fun a a0 a1 => ?_
 walk_at "fs"
 obtain ⟨kd, hkd⟩ : ∃ kd : Int, ixD (.list [.int 0, .int 0, .int 1, .int 2]) (.int a) = some (.int kd) := by
  have : a = 0 ∨ a = 1 ∨ a = 2 ∨ a = 3 := by omega
  rcases this with rfl | rfl | rfl | rfl
  ·exact ⟨0, rfl⟩
  ·exact ⟨0, rfl⟩
  ·exact ⟨1, rfl⟩
  ·exact ⟨2, rfl⟩
 refine i_oQ hkd ?_
 walk_at "fs"
 refine i_takeL (by decide) (by decide) (by omega) fun b b0 b1 => ?_
 walk_at "fs"
 refine i_takeL (by decide) (by decide) (by omega) fun c c0 c1 => ?_
 walk_at "fs"
 obtain ⟨pa, hpa, p1, p12⟩ : ∃ pa : Int, ixD (.list [.int 1, .int 1, .int (1 + b)]) (.int c) = some (.int pa) ∧ 1 ≤ pa ∧ pa ≤ 12 := by
  have : c = 0 ∨ c = 1 ∨ c = 2 := by omega
  rcases this with rfl | rfl | rfl
  ·exact ⟨1, rfl, by decide, by decide⟩
  ·exact ⟨1, rfl, by decide, by decide⟩
  ·exact ⟨1 + b, rfl, by omega, by omega⟩
 refine i_oQ hpa ?_
 walk_at "fs"
 refine i_takeL (by decide) (by decide) (by omega) fun e e0 e1 => ?_
 walk_at "fs"
 refine ⟨by omega, by omega, ?_⟩
 refine range_inv (fun j Γ => ∃ (ds : List Deed) (tn : Int) (n' : Nat) (x y z : Sl), Γ = [.box (penF.box p n'), .val (.int (many : Int)), .val (.int kd), .val (.int pa), .val (.int tn), .own (ds.map dDeed), .own (dNats (run ds).rs), .val (.int ((run ds).ls.length : Int)), x, y, z] ∧
  ds.length = j ∧ LogB ds ∧ (∀ d ∈ ds, d.t ≤ Rat.divInt tn pa) ∧ tn.natAbs ≤ 20 + 5 * j ∧ n' ≤ n + 5 + 20 * j) ⟨[], _, _, _, _, _, rfl, rfl, ⟨fun n d h => (by cases n <;> cases h), List.Pairwise.nil, fun d h => absurd h List.not_mem_nil, fun d h => absurd h List.not_mem_nil, fun n d h => (by cases n <;> cases h)⟩, fun d h => absurd h List.not_mem_nil, by omega, by omega⟩ ?_ ?_
 ·rintro j Γ K hj ⟨ds, tn, n', x, y, z, rfl, hl, lb, ts, ht, hn'⟩ hK
  have hj : j < 40 := by omega
  unfold b_law_log_l1
  walk_at "fs"
  refine i_takeL (by decide) (by decide) (by omega) fun f f0 f1 => ?_
  walk_at "fs"
  obtain ⟨st, hst, s0, s5⟩ : ∃ st : Int, ixD (.list [.int 0, .int 1, .int 2, .int 1, .int 0, .int 5]) (.int f) = some (.int st) ∧ 0 ≤ st ∧ st ≤ 5 := by
   have : f = 0 ∨ f = 1 ∨ f = 2 ∨ f = 3 ∨ f = 4 ∨ f = 5 := by omega
   rcases this with rfl | rfl | rfl | rfl | rfl | rfl
   ·exact ⟨0, rfl, by decide, by decide⟩
   ·exact ⟨1, rfl, by decide, by decide⟩
   ·exact ⟨2, rfl, by decide, by decide⟩
   ·exact ⟨1, rfl, by decide, by decide⟩
   ·exact ⟨0, rfl, by decide, by decide⟩
   ·exact ⟨5, rfl, by decide, by decide⟩
  refine i_oQ hst ?_
  walk_at "fs"
  refine t_lowestC (by omega) (bt31 (by omega) (by omega)) ?_
  have zT : G1 (2 ^ 45) (Rat.divInt (tn + st) pa) := g1_div (by omega) p1 p12
  have nT : NumN (Rat.divInt (tn + st) pa) := n_div (by omega) p1 p12
  have tT : ∀ d ∈ ds, d.t ≤ Rat.divInt (tn + st) pa := fun d hd => Rat.le_trans (ts d hd) (divInt_le (by omega) (by omega))
  generalize hT : Rat.divInt (tn + st) pa = T at *
  walk_at "fs"
  refine i_takeL (by decide) (by decide) (by omega) fun w w0 w1 => ?_
  walk_at "fs"
  have ro := run_ok ds
  have rl := run_len_le ds
  have e5 : ∀ d, (ds ++ [d]).map dDeed = ds.map dDeed ++ [dDeed d] := fun d => by rw [List.map_append]; rfl
  have done : ∀ (d : Deed) (n2 : Nat) (x y z : Sl), d.ok (run ds) → d.few (run ds) → DeedZ d → DeedN d → d.t = T → n2 ≤ n' + 20 → K (.nx [.box (penF.box p n2), .val (.int (many : Int)), .val (.int kd), .val (.int pa), .val (.int (tn + st)), .own (ds.map dDeed ++ [dDeed d]), .own (dNats (stp (run ds) d).rs), .val (.int ((stp (run ds) d).ls.length : Int)), x, y, z]) := fun d n2 x y z h1 h5 h2 h6 h3 h4 => by
   rw [← run_snoc, ← e5]
   have mem : ∀ {P : Deed → Prop}, (∀ e ∈ ds, P e) → P d → ∀ e ∈ ds ++ [d], P e := fun ha hb e he => by
    rcases List.mem_append.mp he with u | u
    ·exact ha e u
    ·rw [List.mem_singleton.mp u]; exact hb
   exact hK.nx _ ⟨ds ++ [d], tn + st, n2, x, y, z, rfl, by rw [List.length_append, List.length_singleton, hl], ⟨lb.ok.snoc h1, lb.up.snoc (fun e he => by rw [h3]; exact tT e he), mem lb.z h2, mem lb.nm h6, LogP.snoc lb.few h5⟩, mem (fun e he => by rw [hT]; exact tT e he) (by rw [h3, hT]; exact Rat.le_refl), by omega, by omega⟩
  have ll : (ds.map dDeed).length = ds.length := List.length_map _
  have e2 : ∀ t p m, dNats (stp (run ds) (.join t p m)).rs = dNats (run ds).rs ++ [.int ((run ds).ls.length : Int)] := fun t p m => by
   show dNats ((run ds).rs ++ [_]) = _
   unfold dNats
   rw [List.map_append]
   rfl
  have e4 : ∀ t p m, (((stp (run ds) (.join t p m)).ls.length : Nat) : Int) = ((run ds).ls.length : Int) + 1 := fun t p m => by
   show ((((run ds).ls ++ [_]).length : Nat) : Int) = _
   rw [List.length_append, List.length_singleton]
   rfl
  refine ⟨good_nats _, good_nil0, ?_⟩
  rw [eqv_nats0]
  refine iteD2 (fun c => ?j1) (fun c => ?rest)
  case' rest =>
   walk_at "fs"
   refine iteD2 (fun c2 => ?w) (fun c2 => ?no1)
  case' w =>
   walk_at "fs"
   refine iteD2 (fun c3 => ?j2) (fun c3 => ?no2)
  case j1 =>
   have hfew : (run ds).rs.length < 8 := by rw [c]; decide
   walk_at "fs"
   refine t_small9 (by omega) fun pp n1 g1 hn1 => ?_
   walk_at "fs"
   refine t_small9 (by omega) fun mm n2 g2 hn2 => ?_
   walk_at "fs"
   refine ⟨by omega, ?_⟩
   walk_at "fs"
   refine ⟨by rw [dNats_len]; omega, ?_⟩
   walk_at "fs"
   have dn := done (.join T pp mm) n2 (.val (.int (0 + (j : Int)))) (.val (dNum T)) (.val (.int w)) trivial hfew ⟨zT, g1.1, g2.1⟩ ⟨nT, g1.2, g2.2⟩ rfl (by omega)
   rw [e2, e4] at dn
   exact dn
  case j2 =>
   have hfew : (run ds).rs.length < 8 := by rw [dNats_len] at c3; omega
   walk_at "fs"
   refine t_small9 (by omega) fun pp n1 g1 hn1 => ?_
   walk_at "fs"
   refine t_small9 (by omega) fun mm n2 g2 hn2 => ?_
   walk_at "fs"
   refine ⟨by omega, ?_⟩
   walk_at "fs"
   refine ⟨by rw [dNats_len]; omega, ?_⟩
   walk_at "fs"
   have dn := done (.join T pp mm) n2 (.val (.int (0 + (j : Int)))) (.val (dNum T)) (.val (.int w)) trivial hfew ⟨zT, g1.1, g2.1⟩ ⟨nT, g1.2, g2.2⟩ rfl (by omega)
   rw [e2, e4] at dn
   exact dn
  all_goals
   have hpos : 0 < (run ds).rs.length := List.length_pos_iff.mpr c
   walk_at "fs"
   refine iteD2 (fun c9 => ?lv) (fun c9 => ?tu)
   case lv =>
    walk_at "fs"
    refine i_takeL (by rw [dNats_len]; omega) (by rw [dNats_len]; omega) (by omega) fun u u0 u1 => ?_
    rw [dNats_len] at u1
    obtain ⟨k, rfl⟩ : ∃ k : Nat, u = (k : Int) := ⟨u.toNat, by omega⟩
    have hk : k < (run ds).rs.length := by omega
    have hr : (run ds).rs[k]? = some (run ds).rs[k] := List.getElem?_eq_getElem hk
    refine i_ppK (by with_unfolding_all rfl) (by omega) (nats_at hr) ?_
    walk_at "fs"
    refine ⟨by omega, ?_⟩
    walk_at "fs"
    have dn := done (.leave T (run ds).rs[k]) (n' + 1 + 1 + 1) (.val (.int (0 + (j : Int)))) (.val (dNum T)) (.val (.int w)) (List.mem_of_getElem? hr) trivial zT nT rfl (by omega)
    have e6 : dNats (stp (run ds) (.leave T (run ds).rs[k])).rs = (dNats (run ds).rs).eraseIdx k := by
     show dNats (List.filter _ _) = _
     rw [← erase_filter ro.nd hr]
     exact map_erase _ _ _
    rw [e6] at dn
    exact dn
   case tu =>
    walk_at "fs"
    refine i_takeL (by rw [dNats_len]; omega) (by rw [dNats_len]; omega) (by omega) fun u u0 u1 => ?_
    rw [dNats_len] at u1
    obtain ⟨k, rfl⟩ : ∃ k : Nat, u = (k : Int) := ⟨u.toNat, by omega⟩
    have hk : k < (run ds).rs.length := by omega
    have hr : (run ds).rs[k]? = some (run ds).rs[k] := List.getElem?_eq_getElem hk
    walk_at "fs"
    refine i_oQ (ix_nat (nats_at hr)) ?_
    walk_at "fs"
    refine t_small9 (by omega) fun mm n2 g2 hn2 => ?_
    walk_at "fs"
    refine ⟨by omega, ?_⟩
    walk_at "fs"
    have dn := done (.turn T (run ds).rs[k] mm) n2 (.val (.int (0 + (j : Int)))) (.val (dNum T)) (.val (.int w)) (List.mem_of_getElem? hr) trivial ⟨zT, g2.1⟩ ⟨nT, g2.2⟩ rfl (by omega)
    have e7 : (((stp (run ds) (.turn T (run ds).rs[k] mm)).ls.length : Nat) : Int) = ((run ds).ls.length : Int) := by
     show (((List.set _ _ _).length : Nat) : Int) = _
     rw [List.length_set]
    rw [e7] at dn
    exact dn
 ·rintro Γ ⟨ds, tn, n', x, y, z, rfl, hl, lb, ts, ht, hn'⟩
  rw [Int.toNat_natCast] at hl hn'
  unfold b_law_log_r1
  walk_at "fs"
  exact q _ _ hl lb (by omega)
end
theorem eqS1 {A B : Prop} {d : D} (g : Good d) (a : A) : Good d ∧ Good d ∧ (if PyData.eqv d d = true then A else B) := ⟨g, g, by rw [eqv_self g]; exact iteT a⟩
theorem eqS0 {A B : Prop} {d e : D} (g : Good d) (f : Good e) (h : PyData.eqv d e = false) (b : B) : Good d ∧ Good e ∧ (if PyData.eqv d e = true then A else B) := ⟨g, f, by rw [h]; exact iteF b⟩
theorem eqN0 {A B : Prop} {d : D} (g : Good d) (b : B) : Good d ∧ Good d ∧ (if (!PyData.eqv d d) = true then A else B) := ⟨g, g, by rw [eqv_self g]; exact iteF b⟩
theorem gJ : Good (.str "join") := good_str _
theorem gL : Good (.str "leave") := good_str _
theorem gT' : Good (.str "turn") := good_str _
theorem gd_deed (d : Deed) : Gd 2 (dDeed d) := by
 cases d with
 | join t p m =>
  refine gd_tup (n := 1) fun x hx => ?_
  simp only [List.mem_cons, List.not_mem_nil, or_false] at hx
  rcases hx with rfl | rfl | rfl | rfl
  ·exact (gd_str _).mono
  ·exact gd_num _
  ·exact gd_num _
  ·exact gd_num _
 | leave t r =>
  refine gd_tup (n := 1) fun x hx => ?_
  simp only [List.mem_cons, List.not_mem_nil, or_false] at hx
  rcases hx with rfl | rfl | rfl
  ·exact (gd_str _).mono
  ·exact gd_num _
  ·exact (gd_int _).mono
 | turn t r m =>
  refine gd_tup (n := 1) fun x hx => ?_
  simp only [List.mem_cons, List.not_mem_nil, or_false] at hx
  rcases hx with rfl | rfl | rfl | rfl
  ·exact (gd_str _).mono
  ·exact gd_num _
  ·exact (gd_int _).mono
  ·exact gd_num _
theorem good_deeds (ds : List Deed) : Good (.list (ds.map dDeed)) := (gd_lst (n := 2) fun d h => by
 obtain ⟨e, _, rfl⟩ := List.mem_map.mp h
 exact gd_deed e).good
section
variable {Q : Rv → Prop} {s : Rn} {t T : Rat}
theorem ix_d0 (d : Deed) : ixD (dDeed d) (.int 0) = some (.str (match d with | .join _ _ _ => "join" | .leave _ _ => "leave" | .turn _ _ _ => "turn")) := by cases d <;> rfl
theorem ix_d1 (d : Deed) : ixD (dDeed d) (.int 1) = some (dNum d.t) := by cases d <;> rfl
theorem deeds_get {ds : List Deed} {n : Nat} {d : D} (h : (ds.map dDeed)[n]? = some d) : ∃ e, ds[n]? = some e ∧ d = dDeed e := by
 rw [List.getElem?_map] at h
 cases e : ds[n]? with
 | none => rw [e] at h; cases h
 | some o => rw [e] at h; cases h; exact ⟨o, rfl, rfl⟩
theorem pm1 (a b t : Rat) : pm 1 a (b * t) = pl (a, b) t := by rw [pm_one]; rfl
end
section
theorem t_line_through {Q : Rv → Prop} {t p m : Rat} (h1 : Sz 900 t) (h2 : Sz 4000 p) (h3 : Sz 900 m) (q : Q (.val (dLine (p - m * t, m)))) : m_line_through [.val (dNum t), .val (dNum p), .val (dNum m)] Q := by
 refine i_fn ?_
 unfold b_line_through
 walk_at "fs"
 refine t_product_of (h3.mono (by decide)) (h1.mono (by decide)) ?_
 walk_at "fs"
 refine t_difference_of h2 ((h3.mul h1).mono (by decide)) ?_
 walk_at "fs"
 exact q
end
noncomputable def fdS (a b : Addr) (s : Rn) (la : D) : FS := ⟨a, b, kdsOf s, (s.ls.length : Int), la⟩
section
variable {c w a b : Addr} {s : Rn} {la : D} {Q : Rv → FS → Prop}
theorem t_f_add {l : D} (hs : s.rs.length < 1000) (q : Q (.val (.int (s.ls.length : Int))) ⟨a, b, dkPut (kdsOf s) (s.ls.length : Int) l, (s.ls.length : Int) + 1, la⟩) : m_f_add_runner c w (fdS a b s la) [.val l] Q := by
 refine i_fnL ?_
 unfold b_f_add_runner
 walk_at "fs"
 refine i_fpK (by with_unfolding_all rfl) (by show (kdsOf s).length < 1000; rw [kds_len]; exact hs) ?_
 walk_at "fs"
 exact q
theorem t_f_do {d : Deed} (hs : RnOk s) (hd : d.ok s) (hz : DeedZ d) (lz : LinesOk 200 s.ls) (hl : s.rs.length < 1000) (q : ∀ rv, Q (.val rv) (fdS a b (stp s d) (dNum d.t))) : m_f_do c w (fdS a b s la) [.val (dDeed d)] Q := by
 refine i_fnL ?_
 unfold b_f_do
 walk_at "fs"
 refine i_oQ (ix_d1 d) ?_
 walk_at "fs"
 cases d with
 | join t p m =>
  obtain ⟨z1, z2, z3⟩ := hz
  have z1 := G1.sz (k := 60) z1 (by decide) (by decide)
  have z2 := G1.sz (k := 60) z2 (by decide) (by decide)
  have z3 := G1.sz (k := 60) z3 (by decide) (by decide)
  refine i_oQ (d := .str "join") rfl ?_
  walk_at "fs"
  refine eqS1 gJ ?_
  walk_at "fs"
  refine i_oQ (d := dNum t) rfl ?_
  walk_at "fs"
  refine i_oQ (d := dNum p) rfl ?_
  walk_at "fs"
  refine i_oQ (d := dNum m) rfl ?_
  walk_at "fs"
  refine t_line_through (z1.mono (by decide)) (z2.mono (by decide)) (z3.mono (by decide)) ?_
  walk_at "fs"
  refine t_f_add (s := s) (la := dNum t) hl ?_
  walk_at "fs"
  have e : (⟨a, b, dkPut (kdsOf s) (s.ls.length : Int) (dLine (p - m * t, m)), (s.ls.length : Int) + 1, dNum t⟩ : FS) = fdS a b (stp s (.join t p m)) (dNum t) := by
   rw [kds_join hs]
   unfold fdS
   congr 1
   show _ = (((s.ls ++ [_]).length : Nat) : Int)
   rw [List.length_append, List.length_singleton]
   rfl
  have z : Q (.val (.int (s.ls.length : Int))) (fdS a b (stp s (.join t p m)) (dNum t)) := q _
  rw [← e] at z
  exact z
 | leave t r =>
  have e1 := dk_in hd
  refine i_oQ (d := .str "leave") rfl ?_
  walk_at "fs"
  refine eqS0 gL gJ rfl ?_
  unfold b_do_c_r2
  walk_at "fs"
  refine i_oQ (d := .str "leave") rfl ?_
  walk_at "fs"
  refine eqS1 gL ?_
  walk_at "fs"
  refine i_oQ (d := .int (r : Int)) rfl ?_
  refine i_fqK (by with_unfolding_all rfl) e1 ?_
  unfold b_do_c_r1
  walk_at "fs"
  have e : (⟨a, b, dkDrop (kdsOf s) (r : Int), (s.ls.length : Int), dNum t⟩ : FS) = fdS a b (stp s (.leave t r)) (dNum t) := by
   rw [kds_leave s t r]
   rfl
  exact e ▸ q _
 | turn t r m =>
  obtain ⟨z1, z3⟩ := hz
  have z1 := G1.sz (k := 60) z1 (by decide) (by decide)
  have z3 := G1.sz (k := 60) z3 (by decide) (by decide)
  have e1 := dk_in hd
  obtain ⟨z4, z5⟩ := lz.get (at_get hs hd)
  refine i_oQ (d := .str "turn") rfl ?_
  walk_at "fs"
  refine eqS0 gT' gJ rfl ?_
  unfold b_do_c_r2
  walk_at "fs"
  refine i_oQ (d := .str "turn") rfl ?_
  walk_at "fs"
  refine eqS0 gT' gL rfl ?_
  walk_at "fs"
  refine i_oQ (d := .int (r : Int)) rfl ?_
  refine i_fxK (by with_unfolding_all rfl) e1 ?_
  walk_at "fs"
  refine i_oQ (d := dNum t) rfl ?_
  walk_at "fs"
  refine t_place_at (z4.mono (by decide)) (z5.mono (by decide)) (z1.mono (by decide)) ?_
  walk_at "fs"
  refine i_oQ (d := dNum t) rfl ?_
  walk_at "fs"
  refine i_oQ (d := dNum m) rfl ?_
  walk_at "fs"
  refine t_line_through (z1.mono (by decide)) ((z4.add (z5.mul z1)).mono (by decide)) (z3.mono (by decide)) ?_
  walk_at "fs"
  refine i_oQ (d := .int (r : Int)) rfl ?_
  refine i_fpK (by with_unfolding_all rfl) (by show (kdsOf s).length < 1000; rw [kds_len]; exact hl) ?_
  unfold b_do_c_r1
  walk_at "fs"
  have e : (⟨a, b, dkPut (kdsOf s) (r : Int) (dLine (pl (s.at r) t - m * t, m)), (s.ls.length : Int), dNum t⟩ : FS) = fdS a b (stp s (.turn t r m)) (dNum t) := by
   rw [kds_turn hs hd]
   unfold fdS
   congr 1
   show _ = (((s.ls.set r _).length : Nat) : Int)
   rw [List.length_set]
  exact e ▸ q _
end
section
variable {c : Addr} {ds : List Deed} {T : Rat} {Q : Rv → Prop}
theorem upto_snoc (T : Rat) (ds : List Deed) (d : Deed) : upto T (ds ++ [d]) = upto T ds ++ if T < d.t then [] else [d] := by
 unfold upto
 rw [List.filter_append]
 congr 1
 by_cases c : T < d.t
 ·rw [if_pos c, List.filter_cons_of_neg (by rw [decide_eq_true c]; decide)]
  rfl
 ·rw [if_neg c, List.filter_cons_of_pos (by rw [decide_eq_false c]; rfl)]
  rfl
structure LogG (ds : List Deed) : Prop where
 ok : LogOk ds
 up : Rising ds
 z : ∀ d ∈ ds, DeedZ d
 n : ds.length ≤ 40
theorem LogG.upto {ds : List Deed} (h : LogG ds) (T : Rat) : LogG (upto T ds) := by
 obtain ⟨k, hk⟩ := upto_take (T := T) h.up
 rw [hk]
 exact ⟨h.ok.take k, h.up.sublist (List.take_sublist k ds), fun d hd => h.z d (List.mem_of_mem_take hd), by rw [List.length_take]; have := h.n; omega⟩
theorem LogG.take {ds : List Deed} (h : LogG ds) (k : Nat) : LogG (ds.take k) := ⟨h.ok.take k, h.up.sublist (List.take_sublist k ds), fun d hd => h.z d (List.mem_of_mem_take hd), by rw [List.length_take]; have := h.n; omega⟩
theorem LogG.sz {ds : List Deed} (h : LogG ds) : LinesOk 200 (run ds).ls := run_sz h.ok h.z h.n
theorem LogG.rs {ds : List Deed} (h : LogG ds) : (run ds).rs.length ≤ 40 := Nat.le_trans (run_len_le ds) h.n
theorem upto_all {T : Rat} {ds : List Deed} {n : Nat} {d : Deed} (h : Rising ds) (hd : ds[n]? = some d) (hT : ¬ T < d.t) : upto T (ds.take n) = ds.take n := by
 refine List.filter_eq_self.mpr fun e he => ?_
 obtain ⟨i, hi, rfl⟩ := List.getElem_of_mem he
 rw [List.length_take] at hi
 rw [List.getElem_take]
 have hn := (List.getElem?_eq_some_iff.mp hd).1
 have hle : ds[i].t ≤ d.t := by
  have := List.pairwise_iff_getElem.mp h i n (by omega) hn (by omega)
  rw [(List.getElem?_eq_some_iff.mp hd).2] at this
  exact this
 rw [decide_eq_false (fun c => hT (by grind))]
 rfl
theorem noL_nats0 : ∀ xs : List Nat, noLsts (dNats xs) = true
 | [] => rfl
 | _ :: xs => noL_nats0 xs
end
section
variable {Q : Rv → Prop}
theorem t_is_number {t : Rat} (q : Q (.val (.bool true))) : m_is_number [.val (dNum t)] Q := by
 refine i_fn ?_
 unfold b_is_number
 walk_at "ws"
 refine i_oQ (d := .int 2) rfl ?_
 walk_at "ws"
 rw [decide_eq_true rfl]
 walk_at "ws"
 unfold b_is_number_r2
 walk_at "ws"
 refine t_whole ?_
 walk_at "ws"
 refine t_whole ?_
 walk_at "ws"
 unfold b_is_number_r1
 walk_at "ws"
 have hd := t.den_pos
 rw [decide_eq_true (show (1 : Int) ≤ (t.den : Int) by omega)]
 walk_at "ws"
 refine t_gcd ?_
 have e : Int.gcd t.num t.den = 1 := t.reduced
 rw [e]
 walk_at "ws"
 exact q
theorem t_is_deed_number {t : Rat} (h : NumN t) (q : Q (.val (.bool true))) : m_is_deed_number [.val (dNum t)] Q := by
 obtain ⟨h1, h2⟩ := h
 refine i_fn ?_
 unfold b_is_deed_number
 walk_at "gs"
 refine t_is_number ?_
 walk_at "gs"
 unfold b_is_deed_number_r1
 walk_at "gs"
 rw [decide_eq_true (show (if t.num < 0 then -t.num else t.num) ≤ 999999999 by split <;> omega)]
 walk_at "gs"
 rw [decide_eq_true (show (t.den : Int) ≤ 12 by omega)]
 exact q
theorem t_is_deed {d : Deed} (h : DeedN d) (q : Q (.val (.bool true))) : m_is_deed [.val (dDeed d)] Q := by
 refine i_fn ?_
 unfold b_is_deed
 cases d with
 | join t p m =>
  obtain ⟨h1, h2, h3⟩ := h
  walk_at "gs"
  refine i_oQ (d := .int 4) rfl ?_
  walk_at "gs"
  refine iteD2 (fun c => absurd c (by decide)) (fun _ => ?_)
  walk_at "gs"
  refine i_oQ (d := .str "join") rfl ?_
  walk_at "gs"
  unfold b_is_deed_r4
  walk_at "gs"
  refine i_oQ (d := .str "join") rfl ?_
  walk_at "gs"
  refine eqS1 gJ ?_
  walk_at "gs"
  refine i_oQ (d := .int 4) rfl ?_
  walk_at "gs"
  rw [decide_eq_true rfl]
  walk_at "gs"
  refine And.intro (fun z => absurd z.1 (show ¬ HT.sIx 4 0 (some 1) = 0 by decide)) (And.intro (show (3 : Nat) ≤ 1000 by decide) ?_)
  show compL _ _ _ _ ([t, p, m].map dNum) [] _
  refine comp_fm (α := Rat) (fun _ => true) (fun _ => .bool true) dNum [t, p, m] [] _ (fun x hx _ k k0 g1 g0 => ?_) ?_
  ·have hx : NumN x := by
    simp only [List.mem_cons, List.not_mem_nil, or_false] at hx
    rcases hx with rfl | rfl | rfl
    ·exact h1
    ·exact h2
    ·exact h3
   walk_at "gs"
   unfold mTrue
   walk_at "gs"
   refine t_is_deed_number hx ?_
   walk_at "gs"
   exact g1 rfl
  ·exact q
 | leave t r =>
  walk_at "gs"
  refine i_oQ (d := .int 3) rfl ?_
  walk_at "gs"
  refine iteD2 (fun c => absurd c (by decide)) (fun _ => ?_)
  walk_at "gs"
  refine i_oQ (d := .str "leave") rfl ?_
  walk_at "gs"
  unfold b_is_deed_r4
  walk_at "gs"
  refine i_oQ (d := .str "leave") rfl ?_
  walk_at "gs"
  refine eqS0 gL gJ rfl ?_
  unfold b_is_deed_r3
  walk_at "gs"
  refine i_oQ (d := .str "leave") rfl ?_
  walk_at "gs"
  refine eqS1 gL ?_
  walk_at "gs"
  refine i_oQ (d := .int 3) rfl ?_
  walk_at "gs"
  rw [decide_eq_true rfl]
  walk_at "gs"
  refine i_oQ (d := dNum t) rfl ?_
  walk_at "gs"
  refine t_is_deed_number h ?_
  walk_at "gs"
  refine i_oQ (d := .int (r : Int)) rfl ?_
  walk_at "gs"
  refine t_whole ?_
  walk_at "gs"
  exact q
 | turn t r m =>
  obtain ⟨h1, h2⟩ := h
  walk_at "gs"
  refine i_oQ (d := .int 4) rfl ?_
  walk_at "gs"
  refine iteD2 (fun c => absurd c (by decide)) (fun _ => ?_)
  walk_at "gs"
  refine i_oQ (d := .str "turn") rfl ?_
  walk_at "gs"
  unfold b_is_deed_r4
  walk_at "gs"
  refine i_oQ (d := .str "turn") rfl ?_
  walk_at "gs"
  refine eqS0 gT' gJ rfl ?_
  unfold b_is_deed_r3
  walk_at "gs"
  refine i_oQ (d := .str "turn") rfl ?_
  walk_at "gs"
  refine eqS0 gT' gL rfl ?_
  unfold b_is_deed_r2
  walk_at "gs"
  refine i_oQ (d := .str "turn") rfl ?_
  walk_at "gs"
  refine eqS1 gT' ?_
  walk_at "gs"
  refine i_oQ (d := .int 4) rfl ?_
  walk_at "gs"
  rw [decide_eq_true rfl]
  walk_at "gs"
  refine i_oQ (d := .int (r : Int)) rfl ?_
  walk_at "gs"
  refine t_whole ?_
  walk_at "gs"
  refine i_oQ (d := dNum t) rfl ?_
  walk_at "gs"
  refine t_is_deed_number h1 ?_
  walk_at "gs"
  refine i_oQ (d := dNum m) rfl ?_
  walk_at "gs"
  refine t_is_deed_number h2 ?_
  walk_at "gs"
  exact q
end
section
variable {c w a b : Addr} {s : Rn} {la : D} {Q : Rv → FS → Prop}
noncomputable def LaOk (la : D) (T : Rat) : Prop := la = .none ∨ ∃ q : Rat, la = dNum q ∧ q ≤ T ∧ Sz 60 q
theorem t_f_allows {d : Deed} (hs : RnOk s) (hd : d.ok s) (hf : d.few s) (hz : Sz 60 d.t) (hl : LaOk la d.t) (q : Q (.val (.bool true)) (fdS a b s la)) : m_f_allows c w (fdS a b s la) [.val (dDeed d)] Q := by
 have r2 : b_allows_c_r2 c (.box ((fieldF c).box w (fdS a b s la)) :: ([.val (dDeed d)] ++ List.replicate 0 .no)) fun fl =>
   match fl with
   | .rt rv => ∃ rv0 s', rv = .box (bKp (fieldF c) rv0 w s') ∧ Q rv0 s'
   | .nx Γ => ∃ s', Γ[0]? = some (.box ((fieldF c).box w s')) ∧ Q (.val .none) s'
   | _ => False := by
  unfold b_allows_c_r2
  cases d with
  | join t p m =>
   walk_at "gs"
   refine i_oQ (d := .str "join") rfl ?_
   walk_at "gs"
   refine eqS1 gJ ?_
   walk_at "gs"
   rw [decide_eq_true (show (((fdS a b s la).kds.length : Nat) : Int) < 8 by show (((kdsOf s).length : Nat) : Int) < 8; rw [kds_len]; have hf : s.rs.length < 8 := hf; omega)]
   exact q
  | leave t r =>
   walk_at "gs"
   refine i_oQ (d := .str "leave") rfl ?_
   walk_at "gs"
   refine eqS0 gL gJ rfl ?_
   unfold b_allows_c_r1
   walk_at "gs"
   refine i_oQ (d := .int (r : Int)) rfl ?_
   walk_at "gs"
   rw [show (fdS a b s la).kds = kdsOf s from rfl, dk_in hd]
   exact q
  | turn t r m =>
   walk_at "gs"
   refine i_oQ (d := .str "turn") rfl ?_
   walk_at "gs"
   refine eqS0 gT' gJ rfl ?_
   unfold b_allows_c_r1
   walk_at "gs"
   refine i_oQ (d := .int (r : Int)) rfl ?_
   walk_at "gs"
   rw [show (fdS a b s la).kds = kdsOf s from rfl, dk_in hd]
   exact q
 refine i_fnL ?_
 unfold b_f_allows
 rcases hl with rfl | ⟨t0, rfl, ht, zt⟩
 ·walk_at "gs"
  exact r2
 ·walk_at "gs"
  refine i_oQ (ix_d1 d) ?_
  walk_at "gs"
  refine t_is_less (hz.mono (by decide)) (zt.mono (by decide)) ?_
  rw [decide_eq_false (show ¬ d.t < t0 by grind)]
  walk_at "gs"
  exact r2
end
section
variable {c : Addr} {ds : List Deed} {Q : Rv → Prop}
theorem LogB.snoc {ds : List Deed} {d : Deed} (h : LogB ds) (h1 : d.ok (run ds)) (h2 : d.few (run ds)) (h3 : ∀ e ∈ ds, e.t ≤ d.t) (h4 : DeedZ d) (h5 : DeedN d) : LogB (ds ++ [d]) := by
 have mem : ∀ {P : Deed → Prop}, (∀ e ∈ ds, P e) → P d → ∀ e ∈ ds ++ [d], P e := fun ha hb e he => by
  rcases List.mem_append.mp he with u | u
  ·exact ha e u
  ·rw [List.mem_singleton.mp u]; exact hb
 exact ⟨h.ok.snoc h1, h.up.snoc h3, mem h.z h4, mem h.nm h5, LogP.snoc h.few h2⟩
theorem t_log_of (h : LogB ds) (hl : ds.length ≤ 40) (q : Q (.own (ds.map dDeed))) : m_log_of c [.val (.list (ds.map dDeed))] Q := by
 refine i_fn ?_
 unfold b_log_of
 walk_at "gs"
 unfold b_log_of_c_r3
 walk_at "gs"
 refine i_newFd fun w a b => ?_
 walk_at "gs"
 have hle : (enumD (ds.map dDeed)).length = ds.length := by unfold enumD; rw [List.length_map, List.length_range, List.length_map]
 have hen : ∀ (n : Nat) d, (enumD (ds.map dDeed))[n]? = some d → ∃ e, ds[n]? = some e ∧ d = .tuple [.int (n : Int), dDeed e] := fun n d hd => by
  have hn : n < ds.length := by have := (List.getElem?_eq_some_iff.mp hd).1; omega
  unfold enumD at hd
  rw [List.getElem?_map, List.getElem?_range (by rw [List.length_map]; exact hn)] at hd
  cases hd
  refine ⟨ds[n], List.getElem?_eq_getElem hn, ?_⟩
  show PyData.tuple [.int (n : Int), (ds.map dDeed).getD n .none] = _
  rw [List.getD_eq_getElem?_getD, List.getElem?_map, List.getElem?_eq_getElem hn]
  rfl
 refine for_inv (fun n Γ => ∃ x y la, Γ = [.val (.list (ds.map dDeed)), .box ((fieldF c).box w (fdS a b (run (ds.take n)) la)), x, y] ∧ (la = .none ∨ ∃ (i : Nat) (e : Deed), i < n ∧ ds[i]? = some e ∧ la = dNum e.t)) ⟨_, _, _, rfl, .inl rfl⟩ ?_ ?_
 ·rintro n d Γ K hd ⟨x, y, la, rfl, hla⟩ hK
  obtain ⟨e, he, rfl⟩ := hen n d hd
  have hn := (List.getElem?_eq_some_iff.mp he).1
  have hem : e ∈ ds := List.mem_of_getElem? he
  have hk3 := hK.nx
  have tk : ds.take (n + 1) = ds.take n ++ [e] := by rw [List.take_succ, he]; rfl
  rw [tk, run_snoc] at hk3
  have g : LogG ds := ⟨h.ok, h.up, h.z, hl⟩
  have gn := g.take n
  have lo : LaOk la e.t := by
   rcases hla with z | ⟨i, e', hi, he', z⟩
   ·exact .inl z
   ·refine .inr ⟨e'.t, z, ?_, (h.z e' (List.mem_of_getElem? he')).tz⟩
    have h1 := (List.getElem?_eq_some_iff.mp he')
    have h2 := (List.getElem?_eq_some_iff.mp he)
    have := List.pairwise_iff_getElem.mp h.up i n h1.1 h2.1 hi
    rw [h1.2, h2.2] at this
    exact this
  unfold b_log_of_c_l1
  walk_at "gs"
  refine iteD2 (fun cc => absurd cc (by omega)) (fun _ => ?_)
  walk_at "gs"
  refine t_is_deed (h.nm e hem) ?_
  walk_at "gs"
  refine t_f_allows (run_ok _) (h.ok n e he) (h.few n e he) (h.z e hem).tz lo ?_
  walk_at "gs"
  unfold b_log_of_c_r2
  walk_at "gs"
  refine t_f_do (run_ok _) (h.ok n e he) (h.z e hem) gn.sz (Nat.lt_of_le_of_lt gn.rs (by decide)) fun rv => ?_
  walk_at "gs"
  exact hk3 _ ⟨_, _, _, rfl, .inr ⟨n, e, by omega, he, rfl⟩⟩
 ·rintro Γ ⟨x, y, la, rfl, hla⟩
  unfold b_log_of_c_r1
  walk_at "gs"
  exact q
end
section
theorem comp_raw {mg : MG} {mt : MT} {me : ME} {Γb : En} (f : D → D) (ds acc : List D) (Q : List D → Prop) (h : ∀ x ∈ ds, ∀ (k : D → Prop) (k0 : Prop), k (f x) → mg x Γb fun Γ1 => mt Γ1 fun b Γ2 => if b = true then me Γ2 fun v _ => k v else k0) (q : Q (acc ++ ds.map f)) : compL mg mt me Γb ds acc Q := by
 have := comp_fm (mg := mg) (mt := mt) (me := me) (Γb := Γb) (fun _ : D => true) f id ds acc Q (fun x hx _ k k0 h1 _ => h x hx k k0 (h1 rfl)) (by rw [List.filter_eq_self.mpr fun _ _ => rfl]; exact q)
 rwa [List.map_id] at this
noncomputable def mdeep : Nat → Fm
 | 0 => mNo
 | k + 1 => mFn 1 (b_law_deep (mdeep k))
noncomputable def Dp : Nat → D → Prop
 | 0, _ => False
 | k + 1, d => match d with
  | .list ds => ds.length ≤ 100 ∧ ∀ x ∈ ds, Dp k x
  | .tuple ds => ds.length ≤ 100 ∧ ∀ x ∈ ds, Dp k x
  | d => Gd 0 d
noncomputable def deepL : Nat → D → List D
 | 0, _ => []
 | k + 1, d => match d with
  | .list ds => .bool true :: ds.map fun x => .list (deepL k x)
  | .tuple ds => .bool false :: ds.map fun x => .list (deepL k x)
  | d => [.bool (subT (kindD d) "str"), .bool (subT (kindD d) "bool"), d]
theorem t_deep : ∀ (k : Nat) (d : D), Dp k d → ∀ Q : Rv → Prop, Q (.own (deepL k d)) → mdeep k [.val d] Q
 | 0, _, h, _, _ => h.elim
 | k + 1, d, h, Q, q => by
  show mFn 1 (b_law_deep (mdeep k)) [.val d] Q
  refine i_fn ?_
  unfold b_law_deep
  cases d with
  | list ds =>
   obtain ⟨hl, hd⟩ := (show ds.length ≤ 100 ∧ ∀ x ∈ ds, Dp k x from h)
   walk_at "gs"
   refine iteT ?_
   walk_at "gs"
   refine ⟨Nat.le_trans hl (by decide), ?_⟩
   refine comp_raw (fun x => .list (deepL k x)) ds [] _ (fun x hx kk k0 h1 => ?_) ?_
   ·walk_at "gs"
    unfold mTrue
    walk_at "gs"
    refine t_deep k x (hd x hx) _ ?_
    walk_at "gs"
    exact h1
   ·rw [List.nil_append]
    walk_at "gs"
    refine ⟨by rw [List.length_map]; show 1 + ds.length ≤ 1000; omega, ?_⟩
    walk_at "gs"
    exact q
  | tuple ds =>
   obtain ⟨hl, hd⟩ := (show ds.length ≤ 100 ∧ ∀ x ∈ ds, Dp k x from h)
   walk_at "gs"
   refine iteT ?_
   walk_at "gs"
   refine ⟨Nat.le_trans hl (by decide), ?_⟩
   refine comp_raw (fun x => .list (deepL k x)) ds [] _ (fun x hx kk k0 h1 => ?_) ?_
   ·walk_at "gs"
    unfold mTrue
    walk_at "gs"
    refine t_deep k x (hd x hx) _ ?_
    walk_at "gs"
    exact h1
   ·rw [List.nil_append]
    walk_at "gs"
    refine ⟨by rw [List.length_map]; show 1 + ds.length ≤ 1000; omega, ?_⟩
    walk_at "gs"
    exact q
  | int i =>
   walk_at "gs"
   refine iteF ?_
   unfold b_law_deep_c_r1
   walk_at "gs"
   exact q
  | str x =>
   walk_at "gs"
   refine iteF ?_
   unfold b_law_deep_c_r1
   walk_at "gs"
   exact q
  | _ =>
   walk_at "gs"
   refine iteF ?_
   unfold b_law_deep_c_r1
   walk_at "gs"
   exact q
theorem gd_deep : ∀ (k : Nat) (d : D), Dp k d → Gd k (.list (deepL k d))
 | 0, _, h => h.elim
 | k + 1, d, h => by
  have seq : ∀ (b : Bool) (ds : List D), (∀ x ∈ ds, Dp k x) → Gd (k + 1) (.list (.bool b :: ds.map fun x => .list (deepL k x))) := fun b ds hd => gd_lst fun y hy => by
   rcases List.mem_cons.mp hy with rfl | hy
   ·exact (gd_bool b).mono (Nat.zero_le _)
   ·obtain ⟨x, hx, rfl⟩ := List.mem_map.mp hy
    exact gd_deep k x (hd x hx)
  have atom : Gd 0 d → Gd (k + 1) (.list [.bool (subT (kindD d) "str"), .bool (subT (kindD d) "bool"), d]) := fun hd => gd_lst fun y hy => by
   simp only [List.mem_cons, List.not_mem_nil, or_false] at hy
   rcases hy with rfl | rfl | rfl
   ·exact (gd_bool _).mono (Nat.zero_le _)
   ·exact (gd_bool _).mono (Nat.zero_le _)
   ·exact hd.mono (Nat.zero_le _)
  cases d with
  | list ds => exact seq true ds h.2
  | tuple ds => exact seq false ds h.2
  | _ => exact atom h
theorem dp_num (q : Rat) : Dp 2 (dNum q) := ⟨show (2 : Nat) ≤ 100 by decide, fun x hx => by
 simp only [List.mem_cons, List.not_mem_nil, or_false] at hx
 rcases hx with rfl | rfl
 ·exact gd_int _
 ·exact gd_int _⟩
theorem dp_deed (d : Deed) : Dp 3 (dDeed d) := by
 cases d with
 | join t p m =>
  refine ⟨by show (4 : Nat) ≤ 100; decide, fun x hx => ?_⟩
  simp only [List.mem_cons, List.not_mem_nil, or_false] at hx
  rcases hx with rfl | rfl | rfl | rfl
  ·exact gd_str _
  ·exact dp_num _
  ·exact dp_num _
  ·exact dp_num _
 | leave t r =>
  refine ⟨by show (3 : Nat) ≤ 100; decide, fun x hx => ?_⟩
  simp only [List.mem_cons, List.not_mem_nil, or_false] at hx
  rcases hx with rfl | rfl | rfl
  ·exact gd_str _
  ·exact dp_num _
  ·exact gd_int _
 | turn t r m =>
  refine ⟨by show (4 : Nat) ≤ 100; decide, fun x hx => ?_⟩
  simp only [List.mem_cons, List.not_mem_nil, or_false] at hx
  rcases hx with rfl | rfl | rfl | rfl
  ·exact gd_str _
  ·exact dp_num _
  ·exact gd_int _
  ·exact dp_num _
theorem dp_log {ds : List Deed} (h : ds.length ≤ 100) : Dp 4 (.list (ds.map dDeed)) := ⟨by rw [List.length_map]; exact h, fun x hx => by
 obtain ⟨d, _, rfl⟩ := List.mem_map.mp hx
 exact dp_deed d⟩
end
section
variable {p : Addr} {n : Nat} {Q : Rv → Nat → Prop}
theorem neg_num (q : Rat) : PyData.tuple [.int (0 - q.num), .int (q.den : Int)] = dNum (-q) := by
 unfold dNum
 rw [Rat.neg_num, Rat.neg_den, Int.zero_sub]
theorem G1.neg {B : Nat} {a : Rat} (h : G1 B a) : G1 B (-a) := by
 obtain ⟨x, hx, bx⟩ := h
 refine ⟨-x, ?_, by rw [Int.natAbs_neg]; exact bx⟩
 rw [Rat.intCast_neg, ← hx]
 grind
theorem NumN.neg {a : Rat} (h : NumN a) : NumN (-a) := by
 unfold NumN
 rw [Rat.neg_num, Rat.neg_den, Int.natAbs_neg]
 exact h
theorem joins {q : Rat} (g : G1 (2 ^ 45) q) (nq : NumN q) : ∀ k : Nat, k ≤ 8 → LogB (List.replicate k (.join (-q) q (-q))) ∧ (run (List.replicate k (.join (-q) q (-q)))).rs = List.range k ∧ (run (List.replicate k (.join (-q) q (-q)))).ls.length = k
 | 0, _ => ⟨⟨fun n d h => (by cases n <;> cases h), List.Pairwise.nil, fun d h => absurd h List.not_mem_nil, fun d h => absurd h List.not_mem_nil, fun n d h => (by cases n <;> cases h)⟩, rfl, rfl⟩
 | k + 1, h => by
  obtain ⟨h1, h2, h3⟩ := joins g nq k (by omega)
  rw [List.replicate_succ', run_snoc]
  refine ⟨h1.snoc trivial (by show (run _).rs.length < 8; rw [h2, List.length_range]; omega) (fun e he => by rw [(List.mem_replicate.mp he).2]; exact Rat.le_refl) ⟨g.neg, g, g.neg⟩ ⟨nq.neg, nq, nq.neg⟩, ?_, ?_⟩
  ·show (run _).rs ++ [(run _).ls.length] = _
   rw [h2, h3, List.range_succ]
  ·show ((run _).ls ++ [_]).length = _
   rw [List.length_append, List.length_singleton, h3]
theorem t_full (hn : n < 100000) (q : ∀ (ds : List Deed) n', ds.length = 40 → LogB ds → n' ≤ n + 1000 → Q (.own (ds.map dDeed)) n') : m_law_full p n [] Q := by
 refine i_fnL ?_
 unfold b_law_full
 walk_at "gs"
 refine i_takeL (by decide) (by decide) (by omega) fun u u0 u1 => ?_
 walk_at "gs"
 refine ⟨mulB (k := 31) (bt31 (by decide) (by decide)) (m := 31) (bt31 (by omega) (by omega)), ?_⟩
 walk_at "gs"
 refine i_takeL (by decide) (by decide) (by omega) fun v v0 v1 => ?_
 walk_at "gs"
 obtain ⟨bo, hbo, b1, b2⟩ : ∃ bo : Int, ixD (.list [.int 1, .int 11]) (.int v) = some (.int bo) ∧ 1 ≤ bo ∧ bo ≤ 12 := by
  have : v = 0 ∨ v = 1 := by omega
  rcases this with rfl | rfl
  ·exact ⟨1, rfl, by decide, by decide⟩
  ·exact ⟨11, rfl, by decide, by decide⟩
 refine i_oQ hbo ?_
 walk_at "gs"
 refine i_oQ (d := .int (1000000000 - 1 - 2 * u)) rfl ?_
 walk_at "gs"
 refine i_oQ (d := .int bo) rfl ?_
 walk_at "gs"
 refine t_lowestC (by omega) (bt31 (by omega) (by omega)) ?_
 have g : G1 (2 ^ 45) (Rat.divInt (1000000000 - 1 - 2 * u) bo) := g1_div (by omega) b1 b2
 have nq : NumN (Rat.divInt (1000000000 - 1 - 2 * u) bo) := n_div (by omega) b1 b2
 have pos : -(Rat.divInt (1000000000 - 1 - 2 * u) bo) ≤ Rat.divInt (1000000000 - 1 - 2 * u) bo := by
  have h0 := divInt_le (a := 0) (b := 1000000000 - 1 - 2 * u) (c := bo) (by omega) (by omega)
  rw [Rat.zero_divInt] at h0
  grind
 generalize Rat.divInt (1000000000 - 1 - 2 * u) bo = F at *
 obtain ⟨j1, j2, j3⟩ := joins g nq 8 (Nat.le_refl _)
 have jt : ∀ e ∈ List.replicate 8 (Deed.join (-F) F (-F)), e.t ≤ F := fun e he => by rw [(List.mem_replicate.mp he).2]; exact pos
 have jl : (List.replicate 8 (Deed.join (-F) F (-F))).length = 8 := List.length_replicate
 walk_at "gs"
 refine ⟨by decide, by decide, by decide, ?_⟩
 refine comp_raw (fun _ => dDeed (.join (-F) F (-F))) _ [] _ (fun x hx kk k0 h1 => ?_) ?_
 ·walk_at "gs"
  unfold mTrue
  walk_at "gs"
  rw [neg_num]
  exact h1
 ·have e8 : [] ++ (rangeD 0 (Int.toNat 8)).map (fun _ => dDeed (.join (-F) F (-F))) = (List.replicate 8 (Deed.join (-F) F (-F))).map dDeed := rfl
  rw [e8]
  generalize List.replicate 8 (Deed.join (-F) F (-F)) = d0 at *
  walk_at "gs"
  refine ⟨by decide, by decide, ?_⟩
  refine range_inv (fun j Γ => ∃ (ds : List Deed) (n' : Nat) (x y : Sl), Γ = [.box (penF.box p n'), .val (dNum F), .own (ds.map dDeed), x, y] ∧ LogB ds ∧ (∀ d ∈ ds, d.t ≤ F) ∧ (run ds).rs = List.range 8 ∧ ds.length = 8 + j ∧ n' ≤ n + 2 + j) ⟨d0, _, _, _, rfl, j1, jt, j2, by omega, by omega⟩ ?_ ?_
  ·rintro j Γ K hj ⟨ds, n', x, y, rfl, lb, ht, hr, hl, hn'⟩ hK
   have hj : j < 30 := hj
   unfold b_law_full_l1
   walk_at "gs"
   refine i_takeL (by decide) (by decide) (by omega) fun r r0 r1 => ?_
   obtain ⟨r, rfl⟩ : ∃ k : Nat, r = (k : Int) := ⟨r.toNat, by omega⟩
   walk_at "gs"
   rw [neg_num]
   refine ⟨by rw [List.length_map]; omega, ?_⟩
   have e5 : ds.map dDeed ++ [PyData.tuple [.str "turn", dNum F, .int (r : Int), dNum (-F)]] = (ds ++ [Deed.turn F r (-F)]).map dDeed := by rw [List.map_append]; rfl
   have hmem : r ∈ (run ds).rs := by rw [hr]; exact List.mem_range.mpr (by omega)
   walk_at "gs"
   rw [e5]
   exact hK.nx _ ⟨_, _, _, _, rfl, lb.snoc hmem trivial ht ⟨g, g.neg⟩ ⟨nq, nq.neg⟩, fun e he => by
    rcases List.mem_append.mp he with z | z
    ·exact ht e z
    ·rw [List.mem_singleton.mp z]; exact Rat.le_refl, by rw [run_snoc]; exact hr, by rw [List.length_append, List.length_singleton]; omega, by omega⟩
  ·rintro Γ ⟨ds, n', x, y, rfl, lb, ht, hr, hl, hn'⟩
   have hl : ds.length = 8 + 30 := hl
   have hn' : n' ≤ n + 2 + 30 := hn'
   unfold b_law_full_r1
   walk_at "gs"
   refine i_takeL (by decide) (by decide) (by omega) fun r r0 r1 => ?_
   obtain ⟨r, rfl⟩ : ∃ k : Nat, r = (k : Int) := ⟨r.toNat, by omega⟩
   walk_at "gs"
   refine ⟨by rw [List.length_map]; show ds.length + 2 ≤ 1000; omega, ?_⟩
   have hmem : r ∈ (run ds).rs := by rw [hr]; exact List.mem_range.mpr (by omega)
   have l1 := lb.snoc (d := .leave F r) hmem trivial ht g nq
   have t1 : ∀ e ∈ ds ++ [Deed.leave F r], e.t ≤ F := fun e he => by
    rcases List.mem_append.mp he with z | z
    ·exact ht e z
    ·rw [List.mem_singleton.mp z]; exact Rat.le_refl
   have few : (run (ds ++ [Deed.leave F r])).rs.length < 8 := by
    rw [run_snoc]
    show ((run ds).rs.filter fun x => decide (x ≠ r)).length < 8
    rw [hr]
    have := List.length_filter_lt_length_iff_exists (p := fun x => decide (x ≠ r)) (l := List.range 8) |>.mpr ⟨r, List.mem_range.mpr (by omega), by simp⟩
    rw [List.length_range] at this
    exact this
   have l2 := l1.snoc (d := .join F F F) trivial few t1 ⟨g, g, g⟩ ⟨nq, nq, nq⟩
   have e6 : ds.map dDeed ++ [PyData.tuple [.str "leave", dNum F, .int (r : Int)], .tuple [.str "join", dNum F, dNum F, dNum F]] = (ds ++ [Deed.leave F r] ++ [Deed.join F F F]).map dDeed := by
    rw [List.map_append, List.map_append, List.append_assoc]
    rfl
   walk_at "gs"
   rw [e6]
   exact q _ _ (by simp; omega) l2 (by omega)
end
theorem eqF0 {A B : Prop} {d : D} (g : Good d) (b : B) : if (!PyData.eqv d d) = true then A else B := by rw [eqv_self g]; exact iteF b
noncomputable def kD (ds : List Deed) : D := .tuple [.list (ds.map dDeed), .list (ds.map dDeed)]
theorem noL_deed (d : Deed) : noLst (dDeed d) = true := by cases d <;> rfl
theorem noL_deeds : ∀ ds : List Deed, noLsts (ds.map dDeed) = true
 | [] => rfl
 | d :: ds => by
  show (noLst (dDeed d) && noLsts (ds.map dDeed)) = true
  rw [noL_deed, noL_deeds ds]
  rfl
theorem law_true (KK : PySem.W.Frag) (c a : Addr) (ns : List Int) : b_law_c KK c (.pub (pScr KK a ns) :: List.replicate 7 .no) TrueEnd := by
 unfold b_law_c
 walk_at "gs"
 refine ⟨by decide, by decide, ?_⟩
 refine range_inv (fun j Γ => ∃ (ks : List (List Deed)) (x2 x3 x4 x5 x6 x7 : Sl), Γ = [.pub (pScr KK a ns), .own (ks.map kD), x2, x3, x4, x5, x6, x7] ∧ ks.length = j ∧ ∀ ds ∈ ks, LogB ds ∧ ds.length ≤ 40) ⟨[], _, _, _, _, _, _, rfl, rfl, fun _ h => absurd h List.not_mem_nil⟩ ?_ ?_
 ·rintro j Γ K hj ⟨ks, x2, x3, x4, x5, x6, x7, rfl, hks, hk⟩ hK
  have hj : j < 3 := hj
  have r4 : ∀ (ds : List Deed) (y2 y3 y5 y6 y7 : Sl), LogB ds → ds.length ≤ 40 → b_law_c_r4 KK c [.pub (pScr KK a ns), .own (ks.map kD), y2, y3, .val (.list (ds.map dDeed)), y5, y6, y7] K := by
   intro ds y2 y3 y5 y6 y7 lb hl
   have gl := good_deeds ds
   have dp := dp_log (ds := ds) (by omega)
   have gd := (gd_deep 4 _ dp).good
   unfold b_law_c_r4
   walk_at "gs"
   refine t_log_of lb hl ?_
   walk_at "gs"
   refine ⟨noL_deeds ds, rfl, ?_⟩
   walk_at "gs"
   refine t_deep 4 _ dp _ ?_
   walk_at "gs"
   refine t_deep 4 _ dp _ ?_
   walk_at "gs"
   refine eqN0 gd ?_
   walk_at "gs"
   refine ⟨gl, gl, rfl, eqF0 gl ?_⟩
   walk_at "gs"
   unfold b_law_c_r3
   walk_at "gs"
   refine ⟨by rw [List.length_map]; omega, ?_⟩
   walk_at "gs"
   refine ⟨by rw [List.length_map]; omega, ?_⟩
   walk_at "gs"
   refine t_log_of lb hl ?_
   walk_at "gs"
   refine ⟨by rw [List.length_map]; omega, ?_⟩
   walk_at "gs"
   refine t_log_of lb hl ?_
   walk_at "gs"
   refine eqN0 gl ?_
   walk_at "gs"
   have e9 : ks.map kD ++ [PyData.tuple [.list (ds.map dDeed), .list (ds.map dDeed)]] = (ks ++ [ds]).map kD := by rw [List.map_append]; rfl
   rw [e9]
   exact hK.nx _ ⟨_, _, _, _, _, _, _, rfl, by rw [List.length_append, List.length_singleton, hks], fun e he => by
    rcases List.mem_append.mp he with z | z
    ·exact hk e z
    ·rw [List.mem_singleton.mp z]; exact ⟨lb, hl⟩⟩
  unfold b_law_c_l2
  walk_at "gs"
  refine i_penC (by with_unfolding_all rfl) (by with_unfolding_all rfl) (by omega) (by omega) fun pen => ?_
  walk_at "gs"
  refine i_takeL (by decide) (by decide) (by omega) fun e e0 e1 => ?_
  walk_at "gs"
  obtain ⟨bd, hbd, b0, b1⟩ : ∃ bd : Int, ixD (.list [.int 13, .int 13, .int 13, .int 41]) (.int e) = some (.int bd) ∧ 13 ≤ bd ∧ bd ≤ 41 := by
   have : e = 0 ∨ e = 1 ∨ e = 2 ∨ e = 3 := by omega
   rcases this with rfl | rfl | rfl | rfl
   ·exact ⟨13, rfl, by decide, by decide⟩
   ·exact ⟨13, rfl, by decide, by decide⟩
   ·exact ⟨13, rfl, by decide, by decide⟩
   ·exact ⟨41, rfl, by decide, by decide⟩
  refine i_oQ hbd ?_
  walk_at "gs"
  refine i_takeL (by omega) (by omega) (by omega) fun many m0 m1 => ?_
  obtain ⟨many, rfl⟩ : ∃ k : Nat, many = (k : Int) := ⟨many.toNat, by omega⟩
  walk_at "gs"
  refine t_log (by omega) (by omega) fun ds n1 hl lb hn1 => ?_
  walk_at "gs"
  refine i_takeL (by decide) (by decide) (by omega) fun f f0 f1 => ?_
  walk_at "gs"
  refine iteD2 (fun cc => ?_) (fun cc => ?_)
  ·walk_at "gs"
   refine t_full (by omega) fun ds n2 hl lb hn2 => ?_
   walk_at "gs"
   exact r4 _ _ _ _ _ _ lb (by omega)
  ·walk_at "gs"
   exact r4 _ _ _ _ _ _ lb (by omega)
 ·rintro Γ ⟨ks, x2, x3, x4, x5, x6, x7, rfl, hks, hk⟩
  unfold b_law_c_r2
  walk_at "gs"
  refine for_inv (fun i Γ => ∃ (x2 x3 x4 x5 x6 x7 : Sl), Γ = [.pub (pScr KK a ns), .val (.list (ks.map kD)), x2, x3, x4, x5, x6, x7]) ⟨_, _, _, _, _, _, rfl⟩ ?_ ?_
  ·rintro i d Γ K hd ⟨x2, x3, x4, x5, x6, x7, rfl⟩ hK
   obtain ⟨ds, hm, rfl⟩ := List.mem_map.mp (List.mem_of_getElem? hd)
   obtain ⟨lb, hl⟩ := hk ds hm
   have gl := good_deeds ds
   unfold kD
   walk_at "gs"
   unfold b_law_c_l1
   walk_at "gs"
   refine eqN0 gl ?_
   walk_at "gs"
   refine t_log_of lb hl ?_
   walk_at "gs"
   refine eqN0 gl ?_
   walk_at "gs"
   exact hK.nx _ ⟨_, _, _, _, _, _, rfl⟩
  ·rintro Γ ⟨x2, x3, x4, x5, x6, x7, rfl⟩
   unfold b_law_c_r1
   walk_at "gs"
   rfl
theorem ln1 {α : Type} {us : List α} (h : us.length = 1) : ∃ x0, us = [x0] := by
 match us, h with
 | [_], _ => exact ⟨_, rfl⟩
theorem ln2 {α : Type} {us : List α} (h : us.length = 2) : ∃ x0 x1, us = [x0, x1] := by
 match us, h with
 | [_, _], _ => exact ⟨_, _, rfl⟩
theorem ln3 {α : Type} {us : List α} (h : us.length = 3) : ∃ x0 x1 x2, us = [x0, x1, x2] := by
 match us, h with
 | [_, _, _], _ => exact ⟨_, _, _, rfl⟩
theorem bl_mk {K : PySem.W.Frag} {h : Heap} {mg : Str → Option Value} (X : K.In h) (G : h.Ns mainGlobals mg)
  (z_len : PySem.W.nsIn K mainGlobals "len" = some none)
  (z_abs : PySem.W.nsIn K mainGlobals "abs" = some none)
  (z_range : PySem.W.nsIn K mainGlobals "range" = some none)
  (z_isinstance : PySem.W.nsIn K mainGlobals "isinstance" = some none)
  (z_int : PySem.W.nsIn K mainGlobals "int" = some none)
  (z_bool : PySem.W.nsIn K mainGlobals "bool" = some none)
  (z_tuple : PySem.W.nsIn K mainGlobals "tuple" = some none)
  (z_max : PySem.W.nsIn K mainGlobals "max" = some none)
  (z_min : PySem.W.nsIn K mainGlobals "min" = some none)
  (z_list : PySem.W.nsIn K mainGlobals "list" = some none)
  (z_all : PySem.W.nsIn K mainGlobals "all" = some none)
  (z_any : PySem.W.nsIn K mainGlobals "any" = some none)
  (z_sorted : PySem.W.nsIn K mainGlobals "sorted" = some none)
  (z_zip : PySem.W.nsIn K mainGlobals "zip" = some none)
  (z_set : PySem.W.nsIn K mainGlobals "set" = some none)
  (z_sum : PySem.W.nsIn K mainGlobals "sum" = some none)
  (z_str : PySem.W.nsIn K mainGlobals "str" = some none)
  (z_enumerate : PySem.W.nsIn K mainGlobals "enumerate" = some none)
  (kt_int_bool : PySem.W.kitOne K (.type "int") (.type "bool") = some false)    (kt_bool_int : PySem.W.kitOne K (.type "bool") (.type "int") = some true) : Bl K mg := ⟨PySem.W.mg_none_of X G z_len, PySem.W.mg_none_of X G z_abs, PySem.W.mg_none_of X G z_range, PySem.W.mg_none_of X G z_isinstance, PySem.W.mg_none_of X G z_int, PySem.W.mg_none_of X G z_bool, PySem.W.mg_none_of X G z_tuple, PySem.W.mg_none_of X G z_max, PySem.W.mg_none_of X G z_min, PySem.W.mg_none_of X G z_list, PySem.W.mg_none_of X G z_all, PySem.W.mg_none_of X G z_any, PySem.W.mg_none_of X G z_sorted, PySem.W.mg_none_of X G z_zip, PySem.W.mg_none_of X G z_set, PySem.W.mg_none_of X G z_sum, PySem.W.mg_none_of X G z_str, PySem.W.mg_none_of X G z_enumerate, kt_int_bool, kt_bool_int⟩
theorem kit_mk {K : PySem.W.Frag}
  (kt_NoneType_bool : PySem.W.kitOne K (.type "NoneType") (.type "bool") = some false)
  (kt_NoneType_int : PySem.W.kitOne K (.type "NoneType") (.type "int") = some false)
  (kt_NoneType_str : PySem.W.kitOne K (.type "NoneType") (.type "str") = some false)
  (kt_NoneType_list : PySem.W.kitOne K (.type "NoneType") (.type "list") = some false)
  (kt_NoneType_tuple : PySem.W.kitOne K (.type "NoneType") (.type "tuple") = some false)
  (kt_NoneType_dict : PySem.W.kitOne K (.type "NoneType") (.type "dict") = some false)
  (kt_bool_NoneType : PySem.W.kitOne K (.type "bool") (.type "NoneType") = some false)
  (kt_bool_int : PySem.W.kitOne K (.type "bool") (.type "int") = some true)
  (kt_bool_str : PySem.W.kitOne K (.type "bool") (.type "str") = some false)
  (kt_bool_list : PySem.W.kitOne K (.type "bool") (.type "list") = some false)
  (kt_bool_tuple : PySem.W.kitOne K (.type "bool") (.type "tuple") = some false)
  (kt_bool_dict : PySem.W.kitOne K (.type "bool") (.type "dict") = some false)
  (kt_int_NoneType : PySem.W.kitOne K (.type "int") (.type "NoneType") = some false)
  (kt_int_bool : PySem.W.kitOne K (.type "int") (.type "bool") = some false)
  (kt_int_str : PySem.W.kitOne K (.type "int") (.type "str") = some false)
  (kt_int_list : PySem.W.kitOne K (.type "int") (.type "list") = some false)
  (kt_int_tuple : PySem.W.kitOne K (.type "int") (.type "tuple") = some false)
  (kt_int_dict : PySem.W.kitOne K (.type "int") (.type "dict") = some false)
  (kt_str_NoneType : PySem.W.kitOne K (.type "str") (.type "NoneType") = some false)
  (kt_str_bool : PySem.W.kitOne K (.type "str") (.type "bool") = some false)
  (kt_str_int : PySem.W.kitOne K (.type "str") (.type "int") = some false)
  (kt_str_list : PySem.W.kitOne K (.type "str") (.type "list") = some false)
  (kt_str_tuple : PySem.W.kitOne K (.type "str") (.type "tuple") = some false)
  (kt_str_dict : PySem.W.kitOne K (.type "str") (.type "dict") = some false)
  (kt_list_NoneType : PySem.W.kitOne K (.type "list") (.type "NoneType") = some false)
  (kt_list_bool : PySem.W.kitOne K (.type "list") (.type "bool") = some false)
  (kt_list_int : PySem.W.kitOne K (.type "list") (.type "int") = some false)
  (kt_list_str : PySem.W.kitOne K (.type "list") (.type "str") = some false)
  (kt_list_tuple : PySem.W.kitOne K (.type "list") (.type "tuple") = some false)
  (kt_list_dict : PySem.W.kitOne K (.type "list") (.type "dict") = some false)
  (kt_tuple_NoneType : PySem.W.kitOne K (.type "tuple") (.type "NoneType") = some false)
  (kt_tuple_bool : PySem.W.kitOne K (.type "tuple") (.type "bool") = some false)
  (kt_tuple_int : PySem.W.kitOne K (.type "tuple") (.type "int") = some false)
  (kt_tuple_str : PySem.W.kitOne K (.type "tuple") (.type "str") = some false)
  (kt_tuple_list : PySem.W.kitOne K (.type "tuple") (.type "list") = some false)
  (kt_tuple_dict : PySem.W.kitOne K (.type "tuple") (.type "dict") = some false)
  (kt_dict_NoneType : PySem.W.kitOne K (.type "dict") (.type "NoneType") = some false)
  (kt_dict_bool : PySem.W.kitOne K (.type "dict") (.type "bool") = some false)
  (kt_dict_int : PySem.W.kitOne K (.type "dict") (.type "int") = some false)
  (kt_dict_str : PySem.W.kitOne K (.type "dict") (.type "str") = some false)
  (kt_dict_list : PySem.W.kitOne K (.type "dict") (.type "list") = some false)
  (kt_dict_tuple : PySem.W.kitOne K (.type "dict") (.type "tuple") = some false)
  : Kit K := Kit.mk' (by
  intro a ha b hb
  simp only [tyL, List.mem_cons, List.not_mem_nil, or_false] at ha hb
  rcases ha with rfl | rfl | rfl | rfl | rfl | rfl | rfl <;> rcases hb with rfl | rfl | rfl | rfl | rfl | rfl | rfl <;> intro e <;> first | assumption | exact absurd e (by decide))
noncomputable def DfP (K : PySem.W.Frag) (mg : Str → Option Value) (x : Str) (st : Stmt) : Prop := ∃ (f : Addr) (fd : FuncData), Fun K x x st f fd ∧ mg x = some (.ref f)
theorem df_mk {K : PySem.W.Frag} {h : Heap} {mg : Str → Option Value} (X : K.In h) (G : h.Ns mainGlobals mg) {x : Str} {st : Stmt} {f : Addr} {od an : Option Addr} {sl : Array (Option Value)} {oc kV dc pm cd ct : Value}
  (a : PySem.W.nsIn K mainGlobals x = some (some (.ref f))) (l : K.lookup f = some ⟨oc, od, .func (PySem.W.fnOf x x (defArgs st) (defBody st) (defScope st) .none kV dc pm an cd ct), sl⟩) (c : PySem.W.codeIn K cd x = true) (k : PySem.W.keepIn K (.ref f) = true) : DfP K mg x st :=
 ⟨f, _, fun_mk l c k, PySem.W.mg_of X G a⟩
noncomputable def MeP (K : PySem.W.Frag) (C : Addr) (m q : Str) (st : Stmt) : Prop := ∃ (f : Addr) (fd : FuncData), Fun K m q st f fd ∧ Meth K C m f
theorem me_mk {K : PySem.W.Frag} {C : Addr} {m q : Str} {st : Stmt} {f : Addr} {od an : Option Addr} {sl : Array (Option Value)} {oc kV dc pm cd ct : Value}
  (a : PySem.W.findIn K (.ref C) m = some (some (.ref f))) (n : PySem.W.isFn K (.ref f) = true) (l : K.lookup f = some ⟨oc, od, .func (PySem.W.fnOf m q (defArgs st) (defBody st) (defScope st) .none kV dc pm an cd ct), sl⟩) (c : PySem.W.codeIn K cd q = true) (k : PySem.W.keepIn K (.ref f) = true) : MeP K C m q st := ⟨f, _, fun_mk l c k, a, n, k⟩
noncomputable def InP (K : PySem.W.Frag) (C : Addr) (q : Str) (st : Stmt) : Prop := ∃ (f : Addr) (fd : FuncData), Fun K "__init__" q st f fd ∧ Mk K C f
theorem in_mk {K : PySem.W.Frag} {C : Addr} {q : Str} {st : Stmt} {f : Addr} {od an : Option Addr} {sl : Array (Option Value)} {oc kV dc pm cd ct : Value}
  (y : PySem.W.makesIn K C = true) (a : PySem.W.findIn K (.ref C) "__init__" = some (some (.ref f))) (n : PySem.W.isFn K (.ref f) = true) (z : PySem.W.keepIn K (.ref C) = true) (l : K.lookup f = some ⟨oc, od, .func (PySem.W.fnOf "__init__" q (defArgs st) (defBody st) (defScope st) .none kV dc pm an cd ct), sl⟩) (c : PySem.W.codeIn K cd q = true) (k : PySem.W.keepIn K (.ref f) = true) : InP K C q st := ⟨f, _, fun_mk l c k, y, a, n, z⟩
theorem na_mk {K : PySem.W.Frag} {C : Addr} {f : Str} (h : PySem.W.findIn K (.ref C) f = some none) : NoAttr K C f := h
theorem mk_is_whole {P : Program} {w : World} {K : PySem.W.Frag} {mg : Str → Option Value} {base : Heap} (B : Bl K mg) (Kt : Kit K) (d : DfP K mg "is_whole" s_is_whole) :
  Cal P w K mg base 1 "is_whole" ["thing"] (spM NoP 1 m_is_whole) := by
 obtain ⟨f, fd, F, hm⟩ := d
 exact ⟨f, fd, ok_is_whole F B Kt, hm, F.kp, F.binds fun _ _ _ _ _ _ us hl => by
  obtain ⟨_, rfl⟩ := ln1 hl
  rfl⟩
theorem mk_greatest_divisor {P : Program} {w : World} {K : PySem.W.Frag} {mg : Str → Option Value} {base : Heap} (B : Bl K mg) (Kt : Kit K) (d : DfP K mg "greatest_divisor" s_greatest_divisor) :
  Cal P w K mg base 1 "greatest_divisor" ["one", "other"] (spM NoP 2 m_greatest_divisor) := by
 obtain ⟨f, fd, F, hm⟩ := d
 exact ⟨f, fd, ok_greatest_divisor F B Kt, hm, F.kp, F.binds fun _ _ _ _ _ _ us hl => by
  obtain ⟨_, _, rfl⟩ := ln2 hl
  rfl⟩
theorem mk_number_of {P : Program} {w : World} {K : PySem.W.Frag} {mg : Str → Option Value} {base : Heap} (B : Bl K mg) (Kt : Kit K) (d : DfP K mg "number_of" s_number_of) (C_greatest_divisor : Cal P w K mg base 1 "greatest_divisor" ["one", "other"] (spM NoP 2 m_greatest_divisor)) (C_is_whole : Cal P w K mg base 1 "is_whole" ["thing"] (spM NoP 1 m_is_whole)) :
  Cal P w K mg base 2 "number_of" ["top", "bottom"] (spM NoP 2 m_number_of) := by
 obtain ⟨f, fd, F, hm⟩ := d
 exact ⟨f, fd, ok_number_of F B Kt C_greatest_divisor C_is_whole, hm, F.kp, F.binds fun _ _ _ _ _ _ us hl => by
  obtain ⟨_, _, rfl⟩ := ln2 hl
  rfl⟩
theorem mk_sum_of {P : Program} {w : World} {K : PySem.W.Frag} {mg : Str → Option Value} {base : Heap} (B : Bl K mg) (Kt : Kit K) (d : DfP K mg "sum_of" s_sum_of) (C_number_of : Cal P w K mg base 2 "number_of" ["top", "bottom"] (spM NoP 2 m_number_of)) :
  Cal P w K mg base 3 "sum_of" ["a", "b"] (spM NoP 2 m_sum_of) := by
 obtain ⟨f, fd, F, hm⟩ := d
 exact ⟨f, fd, ok_sum_of F B Kt C_number_of, hm, F.kp, F.binds fun _ _ _ _ _ _ us hl => by
  obtain ⟨_, _, rfl⟩ := ln2 hl
  rfl⟩
theorem mk_difference_of {P : Program} {w : World} {K : PySem.W.Frag} {mg : Str → Option Value} {base : Heap} (B : Bl K mg) (Kt : Kit K) (d : DfP K mg "difference_of" s_difference_of) (C_number_of : Cal P w K mg base 2 "number_of" ["top", "bottom"] (spM NoP 2 m_number_of)) :
  Cal P w K mg base 3 "difference_of" ["a", "b"] (spM NoP 2 m_difference_of) := by
 obtain ⟨f, fd, F, hm⟩ := d
 exact ⟨f, fd, ok_difference_of F B Kt C_number_of, hm, F.kp, F.binds fun _ _ _ _ _ _ us hl => by
  obtain ⟨_, _, rfl⟩ := ln2 hl
  rfl⟩
theorem mk_product_of {P : Program} {w : World} {K : PySem.W.Frag} {mg : Str → Option Value} {base : Heap} (B : Bl K mg) (Kt : Kit K) (d : DfP K mg "product_of" s_product_of) (C_number_of : Cal P w K mg base 2 "number_of" ["top", "bottom"] (spM NoP 2 m_number_of)) :
  Cal P w K mg base 3 "product_of" ["a", "b"] (spM NoP 2 m_product_of) := by
 obtain ⟨f, fd, F, hm⟩ := d
 exact ⟨f, fd, ok_product_of F B Kt C_number_of, hm, F.kp, F.binds fun _ _ _ _ _ _ us hl => by
  obtain ⟨_, _, rfl⟩ := ln2 hl
  rfl⟩
theorem mk_is_less {P : Program} {w : World} {K : PySem.W.Frag} {mg : Str → Option Value} {base : Heap} (B : Bl K mg) (Kt : Kit K) (d : DfP K mg "is_less" s_is_less) :
  Cal P w K mg base 1 "is_less" ["a", "b"] (spM NoP 2 m_is_less) := by
 obtain ⟨f, fd, F, hm⟩ := d
 exact ⟨f, fd, ok_is_less F B Kt, hm, F.kp, F.binds fun _ _ _ _ _ _ us hl => by
  obtain ⟨_, _, rfl⟩ := ln2 hl
  rfl⟩
theorem mk_place_at {P : Program} {w : World} {K : PySem.W.Frag} {mg : Str → Option Value} {base : Heap} (B : Bl K mg) (Kt : Kit K) (d : DfP K mg "place_at" s_place_at) (C_sum_of : Cal P w K mg base 3 "sum_of" ["a", "b"] (spM NoP 2 m_sum_of)) (C_product_of : Cal P w K mg base 3 "product_of" ["a", "b"] (spM NoP 2 m_product_of)) :
  Cal P w K mg base 4 "place_at" ["line", "time"] (spM NoP 2 m_place_at) := by
 obtain ⟨f, fd, F, hm⟩ := d
 exact ⟨f, fd, ok_place_at F B Kt C_sum_of C_product_of, hm, F.kp, F.binds fun _ _ _ _ _ _ us hl => by
  obtain ⟨_, _, rfl⟩ := ln2 hl
  rfl⟩
theorem mk_line_through {P : Program} {w : World} {K : PySem.W.Frag} {mg : Str → Option Value} {base : Heap} (B : Bl K mg) (Kt : Kit K) (d : DfP K mg "line_through" s_line_through) (C_difference_of : Cal P w K mg base 3 "difference_of" ["a", "b"] (spM NoP 2 m_difference_of)) (C_product_of : Cal P w K mg base 3 "product_of" ["a", "b"] (spM NoP 2 m_product_of)) :
  Cal P w K mg base 4 "line_through" ["time", "place", "slope"] (spM NoP 3 m_line_through) := by
 obtain ⟨f, fd, F, hm⟩ := d
 exact ⟨f, fd, ok_line_through F B Kt C_difference_of C_product_of, hm, F.kp, F.binds fun _ _ _ _ _ _ us hl => by
  obtain ⟨_, _, _, rfl⟩ := ln3 hl
  rfl⟩
theorem mk_is_number {P : Program} {w : World} {K : PySem.W.Frag} {mg : Str → Option Value} {base : Heap} (B : Bl K mg) (Kt : Kit K) (d : DfP K mg "is_number" s_is_number) (C_greatest_divisor : Cal P w K mg base 1 "greatest_divisor" ["one", "other"] (spM NoP 2 m_greatest_divisor)) (C_is_whole : Cal P w K mg base 1 "is_whole" ["thing"] (spM NoP 1 m_is_whole)) :
  Cal P w K mg base 2 "is_number" ["thing"] (spM NoP 1 m_is_number) := by
 obtain ⟨f, fd, F, hm⟩ := d
 exact ⟨f, fd, ok_is_number F B Kt C_greatest_divisor C_is_whole, hm, F.kp, F.binds fun _ _ _ _ _ _ us hl => by
  obtain ⟨_, rfl⟩ := ln1 hl
  rfl⟩
theorem mk_law_pen {P : Program} {w : World} {K : PySem.W.Frag} {mg : Str → Option Value} {base : Heap} (B : Bl K mg) (Kt : Kit K) (d : DfP K mg "_law_pen" s_law_pen) :
  Cal P w K mg base 1 "_law_pen" ["_law_script", "_law_k"] (spPenC K) := by
 obtain ⟨f, fd, F, hm⟩ := d
 exact ⟨f, fd, ok_law_pen F B, hm, F.kp, F.binds fun _ _ _ _ _ _ us hl => by
  obtain ⟨_, _, rfl⟩ := ln2 hl
  rfl⟩
theorem mk_law_take {P : Program} {w : World} {K : PySem.W.Frag} {mg : Str → Option Value} {base : Heap} (B : Bl K mg) (Kt : Kit K) (d : DfP K mg "_law_take" s_law_take) :
  Cal P w K mg base 1 "_law_take" ["_law_pen_here", "_law_many"] (spL NoP penF 2 mTakeL) := by
 obtain ⟨f, fd, F, hm⟩ := d
 exact ⟨f, fd, ok2_law_take F B, hm, F.kp, F.binds fun _ _ _ _ _ _ us hl => by
  obtain ⟨_, _, rfl⟩ := ln2 hl
  rfl⟩
theorem mk_law_lowest {P : Program} {w : World} {K : PySem.W.Frag} {mg : Str → Option Value} {base : Heap} (B : Bl K mg) (Kt : Kit K) (d : DfP K mg "_law_lowest" s_law_lowest) :
  Cal P w K mg base 1 "_law_lowest" ["_law_top", "_law_bottom"] (spM NoP 2 m_law_lowest) := by
 obtain ⟨f, fd, F, hm⟩ := d
 exact ⟨f, fd, ok_law_lowest F B Kt, hm, F.kp, F.binds fun _ _ _ _ _ _ us hl => by
  obtain ⟨_, _, rfl⟩ := ln2 hl
  rfl⟩
theorem mk_law_far {P : Program} {w : World} {K : PySem.W.Frag} {mg : Str → Option Value} {base : Heap} (B : Bl K mg) (Kt : Kit K) (d : DfP K mg "_law_far" s_law_far) (C_law_take : Cal P w K mg base 1 "_law_take" ["_law_pen_here", "_law_many"] (spL NoP penF 2 mTakeL)) :
  Cal P w K mg base 2 "_law_far" ["_law_pen_here"] (spL NoP penF 1 m_law_far) := by
 obtain ⟨f, fd, F, hm⟩ := d
 exact ⟨f, fd, ok_law_far F B Kt C_law_take, hm, F.kp, F.binds fun _ _ _ _ _ _ us hl => by
  obtain ⟨_, rfl⟩ := ln1 hl
  rfl⟩
theorem mk_law_small {P : Program} {w : World} {K : PySem.W.Frag} {mg : Str → Option Value} {base : Heap} (B : Bl K mg) (Kt : Kit K) (d : DfP K mg "_law_small" s_law_small) (C_law_lowest : Cal P w K mg base 1 "_law_lowest" ["_law_top", "_law_bottom"] (spM NoP 2 m_law_lowest)) (C_law_take : Cal P w K mg base 1 "_law_take" ["_law_pen_here", "_law_many"] (spL NoP penF 2 mTakeL)) (C_law_far : Cal P w K mg base 2 "_law_far" ["_law_pen_here"] (spL NoP penF 1 m_law_far)) :
  Cal P w K mg base 3 "_law_small" ["_law_pen_here", "_law_kind"] (spL NoP penF 2 m_law_small) := by
 obtain ⟨f, fd, F, hm⟩ := d
 exact ⟨f, fd, ok_law_small F B Kt C_law_lowest C_law_take C_law_far, hm, F.kp, F.binds fun _ _ _ _ _ _ us hl => by
  obtain ⟨_, _, rfl⟩ := ln2 hl
  rfl⟩
theorem mk_law_log {P : Program} {w : World} {K : PySem.W.Frag} {mg : Str → Option Value} {base : Heap} (B : Bl K mg) (Kt : Kit K) (d : DfP K mg "_law_log" s_law_log) (C_law_small : Cal P w K mg base 3 "_law_small" ["_law_pen_here", "_law_kind"] (spL NoP penF 2 m_law_small)) (C_law_take : Cal P w K mg base 1 "_law_take" ["_law_pen_here", "_law_many"] (spL NoP penF 2 mTakeL)) (C_law_lowest : Cal P w K mg base 1 "_law_lowest" ["_law_top", "_law_bottom"] (spM NoP 2 m_law_lowest)) :
  Cal P w K mg base 4 "_law_log" ["_law_pen_here", "_law_many"] (spL NoP penF 2 m_law_log) := by
 obtain ⟨f, fd, F, hm⟩ := d
 exact ⟨f, fd, ok_law_log F B Kt C_law_small C_law_take C_law_lowest, hm, F.kp, F.binds fun _ _ _ _ _ _ us hl => by
  obtain ⟨_, _, rfl⟩ := ln2 hl
  rfl⟩
theorem mk_law_full {P : Program} {w : World} {K : PySem.W.Frag} {mg : Str → Option Value} {base : Heap} (B : Bl K mg) (Kt : Kit K) (d : DfP K mg "_law_full" s_law_full) (C_law_take : Cal P w K mg base 1 "_law_take" ["_law_pen_here", "_law_many"] (spL NoP penF 2 mTakeL)) (C_law_lowest : Cal P w K mg base 1 "_law_lowest" ["_law_top", "_law_bottom"] (spM NoP 2 m_law_lowest)) :
  Cal P w K mg base 2 "_law_full" ["_law_pen_here"] (spL NoP penF 1 m_law_full) := by
 obtain ⟨f, fd, F, hm⟩ := d
 exact ⟨f, fd, ok_law_full F B Kt C_law_take C_law_lowest, hm, F.kp, F.binds fun _ _ _ _ _ _ us hl => by
  obtain ⟨_, rfl⟩ := ln1 hl
  rfl⟩
theorem mk_is_deed {P : Program} {w : World} {K : PySem.W.Frag} {mg : Str → Option Value} {base : Heap} (B : Bl K mg) (Kt : Kit K) (d : DfP K mg "is_deed" s_is_deed) (C_is_deed_number : Cal P w K mg base 3 "is_deed_number" ["thing"] (spM NoP 1 m_is_deed_number)) (C_is_whole : Cal P w K mg base 1 "is_whole" ["thing"] (spM NoP 1 m_is_whole)) :
  Cal P w K mg base 4 "is_deed" ["thing"] (spM NoP 1 m_is_deed) := by
 obtain ⟨f, fd, F, hm⟩ := d
 exact ⟨f, fd, ok_is_deed F B Kt C_is_deed_number C_is_whole, hm, F.kp, F.binds fun _ _ _ _ _ _ us hl => by
  obtain ⟨_, rfl⟩ := ln1 hl
  rfl⟩
theorem all_mk {l : PySem.W.OpenLaw} {w : World} {K : PySem.W.Frag} {mg : Str → Option Value} {fa : Addr} (hfa : mg "law" = some (.ref fa)) (B : Bl K mg) (Kt : Kit K)
  (d0 : DfP K mg "is_whole" s_is_whole)
  (d1 : DfP K mg "greatest_divisor" s_greatest_divisor)
  (d2 : DfP K mg "number_of" s_number_of)
  (d3 : DfP K mg "sum_of" s_sum_of)
  (d4 : DfP K mg "difference_of" s_difference_of)
  (d5 : DfP K mg "product_of" s_product_of)
  (d6 : DfP K mg "is_less" s_is_less)
  (d7 : DfP K mg "place_at" s_place_at)
  (d8 : DfP K mg "line_through" s_line_through)
  (d9 : DfP K mg "is_number" s_is_number)
  (d10 : DfP K mg "_law_pen" s_law_pen)
  (d11 : DfP K mg "_law_take" s_law_take)
  (d12 : DfP K mg "_law_lowest" s_law_lowest)
  (d13 : DfP K mg "_law_far" s_law_far)
  (d14 : DfP K mg "_law_small" s_law_small)
  (d15 : DfP K mg "_law_log" s_law_log)
  (d16 : DfP K mg "_law_full" s_law_full)
  (d17 : DfP K mg "is_deed_number" s_is_deed_number)
  (d18 : DfP K mg "is_deed" s_is_deed)
  (d19 : DfP K mg "log_of" s_log_of)
  (d20 : DfP K mg "_law_deep" s_law_deep)
  (d21 : DfP K mg "law" s_law)
  {c : Addr} (hmF : mg "Field" = some (.ref c)) (cl : Cls K c) (n_running : NoAttr K c "running") (n_joined : NoAttr K c "joined") (n_last : NoAttr K c "last") (mI : InP K c "Field.__init__" s_f_init) (me_add_runner : MeP K c "add_runner" "Field.add_runner" s_f_add_runner) (me_do : MeP K c "do" "Field.do" s_f_do) (me_allows : MeP K c "allows" "Field.allows" s_f_allows) {tk_MOST_RUNNERS : Tok} (hg_MOST_RUNNERS : mg "MOST_RUNNERS" = some (.int 8 tk_MOST_RUNNERS)) {tk_MOST_DEEDS : Tok} (hg_MOST_DEEDS : mg "MOST_DEEDS" = some (.int 40 tk_MOST_DEEDS)) {tk_GREATEST_TOP : Tok} (hg_GREATEST_TOP : mg "GREATEST_TOP" = some (.int 999999999 tk_GREATEST_TOP)) {tk_GREATEST_BOTTOM : Tok} (hg_GREATEST_BOTTOM : mg "GREATEST_BOTTOM" = some (.int 12 tk_GREATEST_BOTTOM))
  (hL : ∀ KK c a ns, (b_law_c KK c) (.pub (pScr KK a ns) :: List.replicate 7 .no) TrueEnd) :
  ∃ fd : FuncData, (∀ (s : Shared) (v : Value), BindsTo s fd ⟨[v], []⟩ [("_law_script", v)]) ∧ ∀ base : Heap, K.In base → base.Ns mainGlobals mg → FnOk l.prog w K mg base CX0 7 fa fd ["_law_script"] (spLaw K) := by
 obtain ⟨f, fd, F, hm⟩ := d21
 cases hfa.symm.trans hm
 refine ⟨fd, ?_, fun base _ _ => ?_⟩
 ·obtain ⟨oc, od, kV, doc, pm, an, cdv, ct, osl, rfl, lk, hcd⟩ := F.ex
  exact fun s v => .of_eq rfl
 obtain ⟨fi, fdi, FI, M⟩ := mI
 obtain ⟨f_add_runner, fd_add_runner, F_add_runner, M_add_runner⟩ := me_add_runner
 obtain ⟨f_do, fd_do, F_do, M_do⟩ := me_do
 obtain ⟨f_allows, fd_allows, F_allows, M_allows⟩ := me_allows
 have C_is_whole := mk_is_whole (P := l.prog) (w := w) (base := base) B Kt d0
 have C_greatest_divisor := mk_greatest_divisor (P := l.prog) (w := w) (base := base) B Kt d1
 have C_number_of := mk_number_of (P := l.prog) (w := w) (base := base) B Kt d2 C_greatest_divisor C_is_whole
 have C_sum_of := mk_sum_of (P := l.prog) (w := w) (base := base) B Kt d3 C_number_of
 have C_difference_of := mk_difference_of (P := l.prog) (w := w) (base := base) B Kt d4 C_number_of
 have C_product_of := mk_product_of (P := l.prog) (w := w) (base := base) B Kt d5 C_number_of
 have C_is_less := mk_is_less (P := l.prog) (w := w) (base := base) B Kt d6
 have C_place_at := mk_place_at (P := l.prog) (w := w) (base := base) B Kt d7 C_sum_of C_product_of
 have C_line_through := mk_line_through (P := l.prog) (w := w) (base := base) B Kt d8 C_difference_of C_product_of
 have C_is_number := mk_is_number (P := l.prog) (w := w) (base := base) B Kt d9 C_greatest_divisor C_is_whole
 have C_law_pen := mk_law_pen (P := l.prog) (w := w) (base := base) B Kt d10
 have C_law_take := mk_law_take (P := l.prog) (w := w) (base := base) B Kt d11
 have C_law_lowest := mk_law_lowest (P := l.prog) (w := w) (base := base) B Kt d12
 have C_law_far := mk_law_far (P := l.prog) (w := w) (base := base) B Kt d13 C_law_take
 have C_law_small := mk_law_small (P := l.prog) (w := w) (base := base) B Kt d14 C_law_lowest C_law_take C_law_far
 have C_law_log := mk_law_log (P := l.prog) (w := w) (base := base) B Kt d15 C_law_small C_law_take C_law_lowest
 have C_law_full := mk_law_full (P := l.prog) (w := w) (base := base) B Kt d16 C_law_take C_law_lowest
 obtain ⟨f2_is_deed_number, fd2_is_deed_number, F2_is_deed_number, hm2_is_deed_number⟩ := d17
 have C_is_deed_number : Cal l.prog w K mg base 3 "is_deed_number" ["thing"] (spM NoP 1 m_is_deed_number) := ⟨f2_is_deed_number, fd2_is_deed_number, ok_is_deed_number hg_GREATEST_TOP hg_GREATEST_BOTTOM F2_is_deed_number B Kt C_is_number, hm2_is_deed_number, F2_is_deed_number.kp, (F2_is_deed_number.binds (ps := ["thing"]) fun _ _ _ _ _ _ us hl => by
  obtain ⟨_, rfl⟩ := ln1 hl
  rfl)⟩
 have C_is_deed := mk_is_deed (P := l.prog) (w := w) (base := base) B Kt d18 C_is_deed_number C_is_whole
 have O_add_runner := ok_f_add_runner (P0 := NoP) (P := l.prog) (w := w) (mg := mg) (base := base) cl n_running n_joined n_last F_add_runner B Kt
 have B_add_runner : Binds K fd_add_runner ["self", "line"] [] := (F_add_runner.binds (ps := ["self", "line"]) fun _ _ _ _ _ _ us hl => by
  obtain ⟨_, _, rfl⟩ := ln2 hl
  rfl)
 have O_do := ok_f_do (P0 := NoP) (P := l.prog) (w := w) (mg := mg) (base := base) cl n_running n_joined n_last M_add_runner O_add_runner B_add_runner F_do B Kt C_line_through C_place_at
 have B_do : Binds K fd_do ["self", "deed"] [] := (F_do.binds (ps := ["self", "deed"]) fun _ _ _ _ _ _ us hl => by
  obtain ⟨_, _, rfl⟩ := ln2 hl
  rfl)
 have O_allows := ok_f_allows (P0 := NoP) (P := l.prog) (w := w) (mg := mg) (base := base) cl n_running n_joined n_last hg_MOST_RUNNERS F_allows B Kt C_is_less
 have B_allows : Binds K fd_allows ["self", "deed"] [] := (F_allows.binds (ps := ["self", "deed"]) fun _ _ _ _ _ _ us hl => by
  obtain ⟨_, _, rfl⟩ := ln2 hl
  rfl)
 obtain ⟨f2_log_of, fd2_log_of, F2_log_of, hm2_log_of⟩ := d19
 have C_log_of : Cal l.prog w K mg base 6 "log_of" ["thing"] (spM NoP 1 (m_log_of c)) := ⟨f2_log_of, fd2_log_of, ok_log_of (c := c) cl n_running n_joined n_last hmF M (okh_f_init (P := l.prog) (w := w) (mg := mg) (base := base) cl n_running n_joined n_last FI B) (FI.binds (ps := ["self"]) fun _ _ _ _ _ _ us hl => by
  obtain ⟨_, rfl⟩ := ln1 hl
  rfl) M_allows O_allows B_allows M_do O_do B_do hg_MOST_DEEDS F2_log_of B Kt C_is_deed, hm2_log_of, F2_log_of.kp, (F2_log_of.binds (ps := ["thing"]) fun _ _ _ _ _ _ us hl => by
  obtain ⟨_, rfl⟩ := ln1 hl
  rfl)⟩
 obtain ⟨f2_law_deep, fd2_law_deep, F2_law_deep, hm2_law_deep⟩ := d20
 have B2_law_deep : Binds K fd2_law_deep ["_law_thing"] [] := (F2_law_deep.binds (ps := ["_law_thing"]) fun _ _ _ _ _ _ us hl => by
  obtain ⟨_, rfl⟩ := ln1 hl
  rfl)
 have R0_law_deep : Cal l.prog w K mg base 1 "_law_deep" ["_law_thing"] (spM NoP 1 m_law_deep_0) := cal_no hm2_law_deep F2_law_deep.kp B2_law_deep
 have R1_law_deep : Cal l.prog w K mg base 2 "_law_deep" ["_law_thing"] (spM NoP 1 m_law_deep_1) := ⟨f2_law_deep, fd2_law_deep, ok_law_deep_1 F2_law_deep B Kt R0_law_deep, hm2_law_deep, F2_law_deep.kp, B2_law_deep⟩
 have R2_law_deep : Cal l.prog w K mg base 3 "_law_deep" ["_law_thing"] (spM NoP 1 m_law_deep_2) := ⟨f2_law_deep, fd2_law_deep, ok_law_deep_2 F2_law_deep B Kt R1_law_deep, hm2_law_deep, F2_law_deep.kp, B2_law_deep⟩
 have R3_law_deep : Cal l.prog w K mg base 4 "_law_deep" ["_law_thing"] (spM NoP 1 m_law_deep_3) := ⟨f2_law_deep, fd2_law_deep, ok_law_deep_3 F2_law_deep B Kt R2_law_deep, hm2_law_deep, F2_law_deep.kp, B2_law_deep⟩
 have R4_law_deep : Cal l.prog w K mg base 5 "_law_deep" ["_law_thing"] (spM NoP 1 m_law_deep_4) := ⟨f2_law_deep, fd2_law_deep, ok_law_deep_4 F2_law_deep B Kt R3_law_deep, hm2_law_deep, F2_law_deep.kp, B2_law_deep⟩
 have C_law_deep : Cal l.prog w K mg base 5 "_law_deep" ["_law_thing"] (spM NoP 1 m_law_deep) := R4_law_deep
 exact ok_law F B Kt  C_law_pen C_log_of C_law_deep C_law_take C_law_full C_law_log (hL _ _)
theorem walk {l : PySem.W.OpenLaw} {q : Program} {loose : List Str} {XP : (Str → Option Value) → Heap → Prop} {YP : World → Heap → Prop} {d : DefRec} {K : Params → PySem.W.Frag} (hn : l.most = some 63) (hdf : d.params.defaults = [])
  (hY : ∀ (w : World) (h : Heap), YP w h → (K w.params).In h)
  (F : ∀ (w : World) (mg : Str → Option Value) (fa : Addr) (h : Heap), (K w.params).In h → h.Ns mainGlobals mg → mg d.name = some (.ref fa) →
   ∃ fd : FuncData, (∀ (s : Shared) (u : Value), BindsTo s fd ⟨[u], []⟩ [("_law_script", u)]) ∧ ∀ base : Heap, (K w.params).In base → base.Ns mainGlobals mg → FnOk l.prog w (K w.params) mg base CX0 7 fa fd ["_law_script"] (spLaw (K w.params))) :
  PySem.W.WalkO q loose XP YP l.row.toRowW d [] (fun f vs => PySem.call f vs) :=
 L2.walk_of (n := 63) (k := 7) (x := "_law_script") (CX := fun _ => CX0) (sp := fun w => spLaw (K w.params)) hn (by decide) hdf ⟨rfl, by decide, by decide⟩ hY F (fun _ _ a ns hl _ hS => ⟨a, ns, rfl, hS, hl, fun _ => rfl⟩) fun _ _ _ _ _ z => z
end My
noncomputable def PySem.W.Fast.tw15535679486486455677 : Unit := ()
noncomputable def PySem.W.Fast.tw2956953686762496671 : Unit := ()
noncomputable def PySem.W.Fast.tw3223479205651493828 : Unit := ()
noncomputable def PySem.W.Fast.tw4351172041781623109 : Unit := ()
noncomputable def PySem.W.Fast.tw4507274656120996733 : Unit := ()
noncomputable def PySem.W.Fast.tw4783529194169635416 : Unit := ()
noncomputable def PySem.W.Fast.tw5448640217072533345 : Unit := ()
noncomputable def PySem.W.Fast.tw9903080834962410226 : Unit := ()
open PySem PySem.W PyProof.Rows
set_option maxRecDepth 100000 in
set_option maxHeartbeats 0 in
theorem PySem.Challenge.cw_leadtimes_k29_logs_made_holds : PySem.Challenge.rw_leadtimes_k29_logs_made.Holds := by
 w_on; o_law; k_head; (case hw => w_witness2)
 k_fill
 refine My.walk (l := PySem.Challenge.rw_leadtimes_k29_logs_made) rfl rfl (fun w h Y => PySem.W.kIn_of Y) ?F
 case F =>
  intro w mg fa h KX G hmg
  refine' My.all_mk hmg (My.bl_mk KX G ?z_len ?z_abs ?z_range ?z_isinstance ?z_int ?z_bool ?z_tuple ?z_max ?z_min ?z_list ?z_all ?z_any ?z_sorted ?z_zip ?z_set ?z_sum ?z_str ?z_enumerate ?kt_int_bool ?kt_bool_int) (My.kit_mk ?kt_NoneType_bool ?kt_NoneType_int ?kt_NoneType_str ?kt_NoneType_list ?kt_NoneType_tuple ?kt_NoneType_dict ?kt_bool_NoneType ?kt_bool_int ?kt_bool_str ?kt_bool_list ?kt_bool_tuple ?kt_bool_dict ?kt_int_NoneType ?kt_int_bool ?kt_int_str ?kt_int_list ?kt_int_tuple ?kt_int_dict ?kt_str_NoneType ?kt_str_bool ?kt_str_int ?kt_str_list ?kt_str_tuple ?kt_str_dict ?kt_list_NoneType ?kt_list_bool ?kt_list_int ?kt_list_str ?kt_list_tuple ?kt_list_dict ?kt_tuple_NoneType ?kt_tuple_bool ?kt_tuple_int ?kt_tuple_str ?kt_tuple_list ?kt_tuple_dict ?kt_dict_NoneType ?kt_dict_bool ?kt_dict_int ?kt_dict_str ?kt_dict_list ?kt_dict_tuple) (My.df_mk KX G ?a0 ?l0 ?c0 ?k0) (My.df_mk KX G ?a1 ?l1 ?c1 ?k1) (My.df_mk KX G ?a2 ?l2 ?c2 ?k2) (My.df_mk KX G ?a3 ?l3 ?c3 ?k3) (My.df_mk KX G ?a4 ?l4 ?c4 ?k4) (My.df_mk KX G ?a5 ?l5 ?c5 ?k5) (My.df_mk KX G ?a6 ?l6 ?c6 ?k6) (My.df_mk KX G ?a7 ?l7 ?c7 ?k7) (My.df_mk KX G ?a8 ?l8 ?c8 ?k8) (My.df_mk KX G ?a9 ?l9 ?c9 ?k9) (My.df_mk KX G ?a10 ?l10 ?c10 ?k10) (My.df_mk KX G ?a11 ?l11 ?c11 ?k11) (My.df_mk KX G ?a12 ?l12 ?c12 ?k12) (My.df_mk KX G ?a13 ?l13 ?c13 ?k13) (My.df_mk KX G ?a14 ?l14 ?c14 ?k14) (My.df_mk KX G ?a15 ?l15 ?c15 ?k15) (My.df_mk KX G ?a16 ?l16 ?c16 ?k16) (My.df_mk KX G ?a17 ?l17 ?c17 ?k17) (My.df_mk KX G ?a18 ?l18 ?c18 ?k18) (My.df_mk KX G ?a19 ?l19 ?c19 ?k19) (My.df_mk KX G ?a20 ?l20 ?c20 ?k20) (My.df_mk KX G ?a21 ?l21 ?c21 ?k21) (PySem.W.mg_of KX G ?wa) ⟨?wpg, ?whd, ?wpo, ?wsa⟩ (My.na_mk ?wn1) (My.na_mk ?wn2) (My.na_mk ?wn3) (My.in_mk ?i_y ?i_a ?i_n ?i_z ?i_l ?i_c ?i_k) (My.me_mk ?add_runner_a ?add_runner_n ?add_runner_l ?add_runner_c ?add_runner_k) (My.me_mk ?do_a ?do_n ?do_l ?do_c ?do_k) (My.me_mk ?allows_a ?allows_n ?allows_l ?allows_c ?allows_k) (PySem.W.mg_of KX G ?hg_MOST_RUNNERS) (PySem.W.mg_of KX G ?hg_MOST_DEEDS) (PySem.W.mg_of KX G ?hg_GREATEST_TOP) (PySem.W.mg_of KX G ?hg_GREATEST_BOTTOM) My.law_true
  (case wa => k_is)
  (case wpg => k_is)
  (case whd => k_is)
  (case wpo => k_is)
  (case wsa => k_is)
  (case wn1 => k_is)
  (case wn2 => k_is)
  (case wn3 => k_is)
  (case i_y => k_is)
  (case i_a => k_is)
  (case i_n => k_is)
  (case i_z => k_is)
  (case i_l => k_is)
  (case i_c => k_is)
  (case i_k => k_is)
  (case add_runner_a => k_is)
  (case add_runner_n => k_is)
  (case add_runner_l => k_is)
  (case add_runner_c => k_is)
  (case add_runner_k => k_is)
  (case do_a => k_is)
  (case do_n => k_is)
  (case do_l => k_is)
  (case do_c => k_is)
  (case do_k => k_is)
  (case allows_a => k_is)
  (case allows_n => k_is)
  (case allows_l => k_is)
  (case allows_c => k_is)
  (case allows_k => k_is)
  (case hg_MOST_RUNNERS => k_is)
  (case hg_MOST_DEEDS => k_is)
  (case hg_GREATEST_TOP => k_is)
  (case hg_GREATEST_BOTTOM => k_is)
  (case a0 => k_is)
  (case l0 => k_is)
  (case c0 => k_is)
  (case k0 => k_is)
  (case a1 => k_is)
  (case l1 => k_is)
  (case c1 => k_is)
  (case k1 => k_is)
  (case a2 => k_is)
  (case l2 => k_is)
  (case c2 => k_is)
  (case k2 => k_is)
  (case a3 => k_is)
  (case l3 => k_is)
  (case c3 => k_is)
  (case k3 => k_is)
  (case a4 => k_is)
  (case l4 => k_is)
  (case c4 => k_is)
  (case k4 => k_is)
  (case a5 => k_is)
  (case l5 => k_is)
  (case c5 => k_is)
  (case k5 => k_is)
  (case a6 => k_is)
  (case l6 => k_is)
  (case c6 => k_is)
  (case k6 => k_is)
  (case a7 => k_is)
  (case l7 => k_is)
  (case c7 => k_is)
  (case k7 => k_is)
  (case a8 => k_is)
  (case l8 => k_is)
  (case c8 => k_is)
  (case k8 => k_is)
  (case a9 => k_is)
  (case l9 => k_is)
  (case c9 => k_is)
  (case k9 => k_is)
  (case a10 => k_is)
  (case l10 => k_is)
  (case c10 => k_is)
  (case k10 => k_is)
  (case a11 => k_is)
  (case l11 => k_is)
  (case c11 => k_is)
  (case k11 => k_is)
  (case a12 => k_is)
  (case l12 => k_is)
  (case c12 => k_is)
  (case k12 => k_is)
  (case a13 => k_is)
  (case l13 => k_is)
  (case c13 => k_is)
  (case k13 => k_is)
  (case a14 => k_is)
  (case l14 => k_is)
  (case c14 => k_is)
  (case k14 => k_is)
  (case a15 => k_is)
  (case l15 => k_is)
  (case c15 => k_is)
  (case k15 => k_is)
  (case a16 => k_is)
  (case l16 => k_is)
  (case c16 => k_is)
  (case k16 => k_is)
  (case a17 => k_is)
  (case l17 => k_is)
  (case c17 => k_is)
  (case k17 => k_is)
  (case a18 => k_is)
  (case l18 => k_is)
  (case c18 => k_is)
  (case k18 => k_is)
  (case a19 => k_is)
  (case l19 => k_is)
  (case c19 => k_is)
  (case k19 => k_is)
  (case a20 => k_is)
  (case l20 => k_is)
  (case c20 => k_is)
  (case k20 => k_is)
  (case a21 => k_is)
  (case l21 => k_is)
  (case c21 => k_is)
  (case k21 => k_is)
  (case z_len => k_is)
  (case z_abs => k_is)
  (case z_range => k_is)
  (case z_isinstance => k_is)
  (case z_int => k_is)
  (case z_bool => k_is)
  (case z_tuple => k_is)
  (case z_max => k_is)
  (case z_min => k_is)
  (case z_list => k_is)
  (case z_all => k_is)
  (case z_any => k_is)
  (case z_sorted => k_is)
  (case z_zip => k_is)
  (case z_set => k_is)
  (case z_sum => k_is)
  (case z_str => k_is)
  (case z_enumerate => k_is)
  (case kt_NoneType_bool => kit_is)
  (case kt_NoneType_int => kit_is)
  (case kt_NoneType_str => kit_is)
  (case kt_NoneType_list => kit_is)
  (case kt_NoneType_tuple => kit_is)
  (case kt_NoneType_dict => kit_is)
  (case kt_bool_NoneType => kit_is)
  (case kt_bool_int => kit_is)
  (case kt_bool_str => kit_is)
  (case kt_bool_list => kit_is)
  (case kt_bool_tuple => kit_is)
  (case kt_bool_dict => kit_is)
  (case kt_int_NoneType => kit_is)
  (case kt_int_bool => kit_is)
  (case kt_int_str => kit_is)
  (case kt_int_list => kit_is)
  (case kt_int_tuple => kit_is)
  (case kt_int_dict => kit_is)
  (case kt_str_NoneType => kit_is)
  (case kt_str_bool => kit_is)
  (case kt_str_int => kit_is)
  (case kt_str_list => kit_is)
  (case kt_str_tuple => kit_is)
  (case kt_str_dict => kit_is)
  (case kt_list_NoneType => kit_is)
  (case kt_list_bool => kit_is)
  (case kt_list_int => kit_is)
  (case kt_list_str => kit_is)
  (case kt_list_tuple => kit_is)
  (case kt_list_dict => kit_is)
  (case kt_tuple_NoneType => kit_is)
  (case kt_tuple_bool => kit_is)
  (case kt_tuple_int => kit_is)
  (case kt_tuple_str => kit_is)
  (case kt_tuple_list => kit_is)
  (case kt_tuple_dict => kit_is)
  (case kt_dict_NoneType => kit_is)
  (case kt_dict_bool => kit_is)
  (case kt_dict_int => kit_is)
  (case kt_dict_str => kit_is)
  (case kt_dict_list => kit_is)
  (case kt_dict_tuple => kit_is)
#print axioms PySem.Challenge.cw_leadtimes_k29_logs_made_holds
