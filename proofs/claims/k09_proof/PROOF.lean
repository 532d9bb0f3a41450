import PyProof.Rows.All
import Wide.All
import OpenK.AllK
import Wide.FinOn
import Lean
import PyProof.EqAt
import PyProof.EqKinds
import PyProof.TupleCall
import KE.KSortKey
import PySem.Challenge.RW_fairknife_k09_whole_three
set_option Elab.async false
set_option linter.all false
set_option maxRecDepth 100000
set_option maxHeartbeats 4000000
namespace L2
open PySem PySem.Spec PyProof.Rows
abbrev Key := Sum Int Str
def keyIs : Key → Value → Bool
 | .inl k, v => Value.isInt k v
 | .inr x, v => Value.isStrOf x v
def keyH (w : World) : Key → Int
 | .inl k => hashInt k
 | .inr x => hashStr w x
theorem keyIs_shape : ∀ {k : Key} {v : Value}, keyIs k v = true → (∃ i t, k = Sum.inl i ∧ v = Value.int i t) ∨ (∃ x t, k = Sum.inr x ∧ v = Value.str x t)
 | .inl i, v, h => by
  obtain ⟨t, e⟩ := Value.isInt_shape (k := i) (v := v) h
  exact .inl ⟨i, t, rfl, e⟩
 | .inr x, v, h => by
  obtain ⟨t, e⟩ := Value.isStrOf_shape (x := x) (v := v) h
  exact .inr ⟨x, t, rfl, e⟩
theorem key_ll (a b : Int) : decide ((Sum.inl a : Key) = Sum.inl b) = (a == b) := by
 by_cases e : a = b
 ·subst e; simp
 ·have h : ¬ (Sum.inl a : Key) = Sum.inl b := fun q => e (Sum.inl.inj q)
  rw [decide_eq_false h]
  exact (beq_eq_false_iff_ne.mpr e).symm
theorem key_rr (a b : Str) : decide ((Sum.inr a : Key) = Sum.inr b) = decide (a = b) := by
 by_cases e : a = b
 ·subst e; simp
 ·have h : ¬ (Sum.inr a : Key) = Sum.inr b := fun q => e (Sum.inr.inj q)
  rw [decide_eq_false h, decide_eq_false e]
theorem key_lr (a : Int) (b : Str) : decide ((Sum.inl a : Key) = Sum.inr b) = false := decide_eq_false (fun q => nomatch q)
theorem key_rl (a : Str) (b : Int) : decide ((Sum.inr a : Key) = Sum.inl b) = false := decide_eq_false (fun q => nomatch q)
def mixKind (prog : Program) (w : World) : PySem.KeyKind prog w Key where
 is := keyIs
 hash := keyH w
 inj := fun v a b ha hb => by
  rcases keyIs_shape ha with ⟨i, t, rfl, rfl⟩ | ⟨x, t, rfl, rfl⟩
  ·rcases keyIs_shape hb with ⟨j, u, rfl, e⟩ | ⟨y, u, rfl, e⟩
   ·injection e with e1 _; rw [e1]
   ·exact nomatch e
  ·rcases keyIs_shape hb with ⟨j, u, rfl, e⟩ | ⟨y, u, rfl, e⟩
   ·exact nomatch e
   ·injection e with e1 _; rw [e1]
 byValue := fun k v h => by
  rcases keyIs_shape h with ⟨i, t, rfl, rfl⟩ | ⟨x, t, rfl, rfl⟩ <;> rfl
 pyHash := fun hv h => by
  rcases keyIs_shape hv with ⟨i, t, rfl, rfl⟩ | ⟨x, t, rfl, rfl⟩
  ·exact wpAny_pyHash_int h
  ·exact wpAny_pyHash_str h
 eqBool := fun hu hv h => by
  rcases keyIs_shape hu with ⟨i, t, rfl, rfl⟩ | ⟨x, t, rfl, rfl⟩
  ·rcases keyIs_shape hv with ⟨j, u, rfl, rfl⟩ | ⟨y, u, rfl, rfl⟩
   ·rw [key_ll] at h; exact wpAny_eqBool_int h
   ·rw [key_lr] at h; exact SeqAt.EqAt.int_str i t y u _ _ _ _ h
  ·rcases keyIs_shape hv with ⟨j, u, rfl, rfl⟩ | ⟨y, u, rfl, rfl⟩
   ·rw [key_rl] at h; exact SeqAt.EqAt.str_int x t j u _ _ _ _ h
   ·rw [key_rr] at h; exact wpAny_eqBool_str h
 «strs» := fun k x t v h => by
  rcases keyIs_shape h with ⟨i, u, rfl, e⟩ | ⟨y, u, rfl, e⟩
  ·exact nomatch e
  ·injection e with e1 _
   subst e1
   cases v <;> rfl
end L2
namespace L2
open PySem PySem.Spec PyProof.Rows
inductive V where
 | non | bl (b : Bool) | int (i : Int) | str (x : Str) | byt (b : Array UInt8) | flt (b : UInt64) | ref (a : Addr) | ty (n : String)
 deriving DecidableEq
def RelV : V → Value → Prop
 | .non, u => u = Value.none
 | .bl b, u => u = Value.bool b
 | .int i, u => ∃ t, u = Value.int i t
 | .str x, u => ∃ t, u = Value.str x t
 | .byt b, u => ∃ t, u = Value.bytes b t
 | .flt b, u => ∃ t, u = Value.float b t
 | .ref a, u => u = Value.ref a
 | .ty n, u => u = Value.type n
abbrev Vals : List V → List Value → Prop := Paired RelV
theorem Vals.length {xs : List V} {us : List Value} (r : Vals xs us) : xs.length = us.length := Paired.length r
theorem Vals.get : ∀ {xs : List V} {us : List Value} {i : Nat} {x : V}, Vals xs us → xs[i]? = some x → ∃ u, us[i]? = some u ∧ RelV x u
 | _, _, _, _, .nil, e => by simp at e
 | _, _, 0, _, .cons r _, e => by simp at e; subst e; exact ⟨_, rfl, r⟩
 | _, _, i + 1, x, .cons _ t, e => by
  obtain ⟨u, h1, h2⟩ := Vals.get (i := i) (x := x) t (by simpa using e)
  exact ⟨u, by simpa using h1, h2⟩
theorem Vals.set {x : V} {u : Value} (r : RelV x u) : ∀ {xs : List V} {us : List Value} (i : Nat), Vals xs us → Vals (xs.set i x) (us.set i u)
 | _, _, _, .nil => .nil
 | _, _, 0, .cons _ t => .cons r t
 | _, _, i + 1, .cons q t => .cons q (Vals.set r i t)
theorem Vals.append : ∀ {xs ys : List V} {us ws : List Value}, Vals xs us → Vals ys ws → Vals (xs ++ ys) (us ++ ws)
 | _, _, _, _, .nil, s => s
 | _, _, _, _, .cons r t, s => .cons r (Vals.append t s)
theorem Vals.take : ∀ {xs : List V} {us : List Value} (n : Nat), Vals xs us → Vals (xs.take n) (us.take n)
 | _, _, 0, _ => .nil
 | _, _, _ + 1, .nil => .nil
 | _, _, n + 1, .cons r t => .cons r (Vals.take n t)
theorem Vals.drop : ∀ {xs : List V} {us : List Value} (n : Nat), Vals xs us → Vals (xs.drop n) (us.drop n)
 | _, _, 0, r => r
 | _, _, _ + 1, .nil => .nil
 | _, _, n + 1, .cons _ t => Vals.drop n t
def RelO : Option V → Option Value → Prop
 | some v, some u => RelV v u
 | none, none => True
 | _, _ => False
def KV {κ : Type} : List (κ × V) → List (κ × Value) → Prop := Paired fun (p : κ × V) (q : κ × Value) => p.1 = q.1 ∧ RelV p.2 q.2
def kV : Key → V
 | .inl i => .int i
 | .inr x => .str x
inductive HO where
  | lst (xs : List V)
  | tup (xs : List V)
  | dK (kvs : List (Key × V)) | dT (kvs : List (List Key × V))
  | set (S : Int → Bool) (n : Nat)
  | ins (C dx : Addr) (fs : List (Str × V))
  | own (x : Addr)
  | xd (fs : List (Str × V))
  | met (f x : Addr)
  | rng (lo hi : Int)
  | frz (o : Obj) (u : HO)
  | tbl (ps : Array Value)
  | ext (φ : Heap → Prop)
abbrev Hp := Addr → Option HO
def upd (H : Hp) (a : Addr) (o : HO) : Hp := fun b => if b = a then some o else H b
theorem upd_same {H : Hp} {a : Addr} {o : HO} : upd H a o a = some o := by unfold upd; rw [if_pos rfl]
theorem upd_ne {H : Hp} {a b : Addr} {o : HO} (h : b ≠ a) : upd H a o b = H b := by unfold upd; rw [if_neg h]
theorem ne_of {H : Hp} {a b : Addr} {o u : HO} (h : H a = some o) (h' : H b = some u) (d : o ≠ u) : a ≠ b := by
 intro e; subst e; rw [h] at h'; exact d (Option.some.inj h')
theorem ne_of_none {H : Hp} {a b : Addr} {o : HO} (h : H a = some o) (h' : H b = none) : a ≠ b := by
 intro e; subst e; rw [h] at h'; cases h'
section
variable (P : Program) (w : World)
def ObjOk (H : Hp) (h : Heap) (a : Addr) : HO → Prop
 | .lst xs => xs.length ≤ sizeLine ∧ ∃ (its : List Value) (n : Nat), Vals xs its ∧ h.get? a = some { cls := .type "list", data := .seq its.toArray n }
 | .tup xs => xs.length ≤ sizeLine ∧ ∃ its : List Value, Vals xs its ∧ IsTup h a its.toArray
 | .dK kvs => kvs.length ≤ sizeLine ∧ (a == sysModules) = false ∧ ∃ vs, KV kvs vs ∧ h.DictOf (mixKind P w) a vs
 | .dT kvs => kvs.length ≤ sizeLine ∧ (a == sysModules) = false ∧ ∃ xs : List (List Key × Addr × Value),
   Paired (fun (p : List Key × V) (q : List Key × Addr × Value) => p.1 = q.1 ∧ H q.2.1 = some (.tup (p.1.map kV)) ∧ RelV p.2 q.2.2) kvs xs ∧
   ∃ o es ep, h.get? a = some o ∧ o.ExactDict ∧ o.data = .dict es ep ∧ es.toList = xs.map (entryOfKey (tupleKind (mixKind P w))) ∧ (xs.map (·.1)).Nodup
 | .set S n => h.SetOf (intKind P w) a S n
 | .ins C dx fs => H dx = some (.own a) ∧ fs.length ≤ 1000 ∧ dx ≠ a ∧ h.get? a = some (PySem.W.instObj C dx) ∧
   ∃ mA, h.Ns1 dx mA ∧ (∀ f, RelO (fs.lookup f) (mA f)) ∧ PySem.Within mA (fs.map (·.1))
 | .own _ => ∃ o, h.get? a = some o
 | .xd fs => ∃ mA, h.Ns1 a mA ∧ ∀ f, RelO (fs.lookup f) (mA f)
 | .rng lo hi => ∃ t u v, h.get? a = some { cls := .type "range", data := .fields #[.int lo t, .int hi u, .int 1 v] }
 | .frz o u => h.get? a = some o ∧ ObjOk H h a u
 | .tbl ps => h.get? a = some { cls := .none, data := .fields ps }
 | .met f x => h.get? a = some (PySem.W.methodObj (.ref f) (.ref x))
 | .ext φ => φ h ∧ (∃ o, h.get? a = some o) ∧ ∀ h1 h2 : Heap, φ h1 → (∀ o, h1.get? a = some o → h2.get? a = some o) → φ h2
def HOk (H : Hp) (h : Heap) : Prop := ∀ a o, H a = some o → ObjOk P w H h a o
end
section
variable {P : Program} {w : World} {H H' : Hp} {h h' : Heap} {a : Addr} {o : HO}
theorem ObjOk.lt (x : ObjOk P w H h a o) : a < h.objs.size := by
 cases o with
 | lst xs => obtain ⟨_, _, _, _, e⟩ := x; exact Heap.lt_size e
 | tup xs => obtain ⟨_, _, _, p⟩ := x; exact p.lt
 | dK kvs => obtain ⟨_, _, _, _, o, _, _, e, _⟩ := x; exact Heap.lt_size e
 | dT kvs => obtain ⟨_, _, _, _, o, _, _, e, _⟩ := x; exact Heap.lt_size e
 | set S n => obtain ⟨o, _, _, _, e, _⟩ := x; exact Heap.lt_size e
 | ins C dx fs => obtain ⟨_, _, _, e, _⟩ := x; exact Heap.lt_size e
 | own y => obtain ⟨_, e⟩ := x; exact Heap.lt_size e
 | xd fs => obtain ⟨_, ⟨_, _, _, e, _⟩, _⟩ := x; exact Heap.lt_size e
 | rng lo hi => obtain ⟨_, _, _, e⟩ := x; exact Heap.lt_size e
 | frz ob u => obtain ⟨e, _⟩ := x; exact Heap.lt_size e
 | tbl ps => exact Heap.lt_size (show h.get? a = some _ from x)
 | met f y => exact Heap.lt_size (show h.get? a = some _ from x)
 | ext φ => obtain ⟨_, ⟨_, e⟩, _⟩ := x; exact Heap.lt_size e
theorem Paired.mapP {α β : Type} {F G : α → β → Prop} : ∀ {l₁ : List α} {l₂ : List β}, Paired F l₁ l₂ → (∀ a b, F a b → G a b) → Paired G l₁ l₂
 | _, _, .nil, _ => .nil
 | _, _, .cons r t, f => .cons (f _ _ r) (Paired.mapP t f)
theorem ObjOk.stay (x : ObjOk P w H h a o) (k : ∀ b u, (b = a ∨ H b = some (.own a)) → h.get? b = some u → h'.get? b = some u)
  (ho : ∀ b, H b = some (.own a) → H' b = some (.own a)) (ht : ∀ b xs, H b = some (.tup xs) → H' b = some (.tup xs)) : ObjOk P w H' h' a o := by
 induction o with
 | lst xs => obtain ⟨z, its, n, r, e⟩ := x; exact ⟨z, its, n, r, k _ _ (.inl rfl) e⟩
 | tup xs => obtain ⟨z, its, r, ob, e, c⟩ := x; exact ⟨z, its, r, ob, k _ _ (.inl rfl) e, c⟩
 | dK kvs => obtain ⟨z, y, vs, r, ob, es, ep, e, c⟩ := x; exact ⟨z, y, vs, r, ob, es, ep, k _ _ (.inl rfl) e, c⟩
 | dT kvs =>
  obtain ⟨z, y, xs, r, ob, es, ep, e, c⟩ := x
  exact ⟨z, y, xs, Paired.mapP r fun p q z => ⟨z.1, ht _ _ z.2.1, z.2.2⟩, ob, es, ep, k _ _ (.inl rfl) e, c⟩
 | set S n => obtain ⟨ob, es, ep, t, e, c⟩ := x; exact ⟨ob, es, ep, t, k _ _ (.inl rfl) e, c⟩
 | ins C dx fs =>
  obtain ⟨d, z, ne, e, mA, ⟨od, es, ep, e2, c⟩, r⟩ := x
  exact ⟨ho _ d, z, ne, k _ _ (.inl rfl) e, mA, ⟨od, es, ep, k _ _ (.inr d) e2, c⟩, r⟩
 | own y => obtain ⟨ob, e⟩ := x; exact ⟨ob, k _ _ (.inl rfl) e⟩
 | xd fs => obtain ⟨mA, ⟨od, es, ep, e, c⟩, r⟩ := x; exact ⟨mA, ⟨od, es, ep, k _ _ (.inl rfl) e, c⟩, r⟩
 | rng lo hi => obtain ⟨t, u, v, e⟩ := x; exact ⟨t, u, v, k _ _ (.inl rfl) e⟩
 | frz ob u ih => obtain ⟨e, q⟩ := x; exact ⟨k _ _ (.inl rfl) e, ih q⟩
 | tbl ps =>
  have e : h.get? a = some { cls := .none, data := .fields ps } := x
  show h'.get? a = some { cls := .none, data := .fields ps }
  exact k a _ (.inl rfl) e
 | met f y =>
  have e : h.get? a = some (PySem.W.methodObj (.ref f) (.ref y)) := x
  show h'.get? a = some (PySem.W.methodObj (.ref f) (.ref y))
  exact k a _ (.inl rfl) e
 | ext φ => obtain ⟨p, ⟨o, e⟩, st⟩ := x; exact ⟨st _ _ p fun o q => k _ _ (.inl rfl) q, ⟨o, k _ _ (.inl rfl) e⟩, st⟩
theorem HOk.lt (x : HOk P w H h) (e : H a = some o) : a < h.objs.size := (x a o e).lt
theorem HOk.fresh (x : HOk P w H h) (e : h.objs.size ≤ a) : H a = none := by
 cases q : H a with
 | none => rfl
 | some u => exact absurd (Nat.lt_of_lt_of_le (x.lt q) e) (Nat.lt_irrefl _)
theorem HOk.kept (x : HOk P w H h) (k : ∀ b u, h.get? b = some u → h'.get? b = some u) : HOk P w H h' := fun a o e =>
 (x a o e).stay (fun b u _ q => k b u q) (fun _ q => q) fun _ _ q => q
theorem HOk.laid (x : HOk P w H h) (k : ∀ b u, h.get? b = some u → h'.get? b = some u) (hp : h.objs.size ≤ a) (new : ObjOk P w (upd H a o) h' a o) : HOk P w (upd H a o) h' := fun b u e => by
 have hn := x.fresh hp
 by_cases hb : b = a
 ·subst hb; rw [upd_same] at e; cases e; exact new
 ·rw [upd_ne hb] at e
  exact (x b u e).stay (fun c v _ q => k c v q) (fun c q => by rw [upd_ne (ne_of_none q hn)]; exact q) fun c xs q => by rw [upd_ne (ne_of_none q hn)]; exact q
end
def Rd (H : Hp) (a : Addr) (u : HO) : Prop := H a = some u ∨ ∃ o, H a = some (.frz o u)
theorem Rd.ok {P : Program} {w : World} {H : Hp} {h : Heap} {a : Addr} {u : HO} (r : Rd H a u) (x : HOk P w H h) : ObjOk P w H h a u := by
 rcases r with r | ⟨o, r⟩
 ·exact x a u r
 ·obtain ⟨_, q⟩ := x a _ r
  exact q
def Mut : Option HO → Prop
 | some (.lst _) => True
 | some (.dK _) => True
 | some (.dT _) => True
 | some (.set _ _) => True
 | some (.ins _ _ _) => True
 | some (.ext _) => True
 | _ => False
section
variable {P : Program} {w : World} {H : Hp} {h h' : Heap} {x e : Addr} {o' : HO}
theorem HOk.write (ok : HOk P w H h) (mu : Mut (H x)) (he : e = x ∨ H e = some (.own x)) (k : ∀ b u, b ≠ e → h.get? b = some u → h'.get? b = some u) (heo : ∃ u, h'.get? e = some u)
  (new : ObjOk P w (upd H x o') h' x o') : HOk P w (upd H x o') h' := fun b u q => by
 have nown : ∀ c y, H c = some (.own y) → c ≠ x := fun c y r z => by subst z; rw [r] at mu; exact mu
 have ntup : ∀ c xs, H c = some (.tup xs) → c ≠ x := fun c xs r z => by subst z; rw [r] at mu; exact mu
 by_cases hb : b = x
 ·subst hb; rw [upd_same] at q; cases q; exact new
 ·rw [upd_ne hb] at q
  by_cases hbe : b = e
  ·have q' : H b = some (.own x) := by
    rcases he with z | z
    ·exact absurd (hbe.trans z) hb
    ·rw [hbe]; exact z
   rw [q] at q'; cases q'
   obtain ⟨v, hv⟩ := heo
   exact ⟨v, by rw [hbe]; exact hv⟩
  ·refine (ok b u q).stay (fun c v hc r => k c v ?_ r) (fun c r => by rw [upd_ne (nown c b r)]; exact r) fun c xs r => by rw [upd_ne (ntup c xs r)]; exact r
   rcases hc with rfl | hc
   ·exact hbe
   ·rintro rfl
    rcases he with z | z
    ·exact nown c b hc z
    ·rw [hc] at z; cases z; exact hb rfl
end
structure Un (fs ex : List Addr) (H H' : Hp) (h h' : Heap) : Prop where
 keep : ∀ b o, h.get? b = some o → H b = none → b ∉ fs → b ∉ ex → h'.get? b = some o
 slot : ∀ b o, h.get? b = some o → H b = none → b ∈ fs → b ∉ ex → ∃ sl, h'.get? b = some { o with slots := sl }
 free : ∀ b o, h.get? b = some o → H b = none → b ∉ ex → H' b = none
 there : ∀ b o, h.get? b = some o → b ∉ ex → ∃ o', h'.get? b = some o'
 tups : ∀ b xs, H b = some (.tup xs) → H' b = some (.tup xs)
 frzs : ∀ b o u, H b = some (.frz o u) → H' b = some (.frz o u)
 tbls : ∀ b ps, H b = some (.tbl ps) → ∃ more, H' b = some (.tbl (ps ++ more))
section
variable {fs fs' ex ex' : List Addr} {H H1 H2 : Hp} {h h1 h2 h' : Heap} {a x e : Addr} {o : HO}
theorem Un.any (u : Un fs ex H H1 h h1) {b : Addr} {ob : Obj} (q : h.get? b = some ob) (n : H b = none) (hx : b ∉ ex) : ∃ sl, h1.get? b = some { ob with slots := sl } := by
 by_cases hb : b ∈ fs
 ·exact u.slot b ob q n hb hx
 ·exact ⟨ob.slots, u.keep b ob q n hb hx⟩
theorem Un.trans (a : Un fs ex H H1 h h1) (b : Un fs ex H1 H2 h1 h2) : Un fs ex H H2 h h2 where
 keep := fun c ob q n hc hx => b.keep c ob (a.keep c ob q n hc hx) (a.free c ob q n hx) hc hx
 slot := fun c ob q n hc hx => by
  obtain ⟨sl, e1⟩ := a.slot c ob q n hc hx
  obtain ⟨sl', e2⟩ := b.slot c _ e1 (a.free c ob q n hx) hc hx
  exact ⟨sl', e2⟩
 free := fun c ob q n hx => by
  obtain ⟨o', e1⟩ := a.there c ob q hx
  exact b.free c o' e1 (a.free c ob q n hx) hx
 there := fun c ob q hx => by
  obtain ⟨o', e1⟩ := a.there c ob q hx
  exact b.there c o' e1 hx
 tups := fun c xs q => b.tups c xs (a.tups c xs q)
 frzs := fun c ob xs q => b.frzs c ob xs (a.frzs c ob xs q)
 tbls := fun c ps q => by
  obtain ⟨m1, e1⟩ := a.tbls c ps q
  obtain ⟨m2, e2⟩ := b.tbls c _ e1
  exact ⟨m1 ++ m2, by rw [e2, Array.append_assoc]⟩
theorem Un.kept (k : ∀ b u, h.get? b = some u → h'.get? b = some u) : Un fs ex H H h h' :=
 ⟨fun b ob q _ _ _ => k b ob q, fun b ob q _ _ _ => ⟨ob.slots, k b ob q⟩, fun _ _ _ n _ => n, fun b ob q _ => ⟨ob, k b ob q⟩, fun _ _ q => q, fun _ _ _ q => q, fun _ ps q => ⟨#[], by rw [q]; simp⟩⟩
theorem Un.refl : Un fs ex H H h h := Un.kept fun _ _ q => q
theorem Un.laid (k : ∀ b u, h.get? b = some u → h'.get? b = some u) (hp : h.objs.size ≤ a) (hn : H a = none) : Un fs ex H (upd H a o) h h' where
 keep := fun b u q _ _ _ => k b u q
 slot := fun b u q _ _ _ => ⟨u.slots, k b u q⟩
 free := fun b u q n _ => by rw [upd_ne (Nat.ne_of_lt (Nat.lt_of_lt_of_le (Heap.lt_size q) hp))]; exact n
 there := fun b u q _ => ⟨u, k b u q⟩
 tups := fun b xs q => by rw [upd_ne (ne_of_none q hn)]; exact q
 frzs := fun b u xs q => by rw [upd_ne (ne_of_none q hn)]; exact q
 tbls := fun b ps q => ⟨#[], by rw [upd_ne (ne_of_none q hn), q]; simp⟩
theorem Un.write (mu : Mut (H x)) (he : e = x ∨ H e = some (.own x)) (k : ∀ b u, b ≠ e → h.get? b = some u → h'.get? b = some u) (heo : ∃ u, h'.get? e = some u) : Un fs ex H (upd H x o) h h' := by
 have hx : ∀ b, H b = none → b ≠ x := fun b n z => by subst z; rw [n] at mu; exact mu
 have hb : ∀ b, H b = none → b ≠ e := fun b n z => by
  subst z
  rcases he with r | r
  ·exact hx b n r
  ·rw [n] at r; cases r
 have hm : ∀ b u, H b = some u → ¬ Mut (some u) → b ≠ x := fun b u q nm z => by subst z; rw [q] at mu; exact nm mu
 refine ⟨fun b u q n _ _ => k b u (hb b n) q, fun b u q n _ _ => ⟨u.slots, k b u (hb b n) q⟩, fun b u q n _ => by rw [upd_ne (hx b n)]; exact n, fun b u q _ => ?_,
  fun b xs q => by rw [upd_ne (hm b _ q fun z => z)]; exact q, fun b u xs q => by rw [upd_ne (hm b _ q fun z => z)]; exact q, fun b ps q => ⟨#[], by rw [upd_ne (hm b _ q fun z => z), q]; simp⟩⟩
 by_cases hbe : b = e
 ·subst hbe; exact heo
 ·exact ⟨u, k b u hbe q⟩
end
def trk (h : Heap) (H : Hp) : List Addr := (List.range h.objs.size).filter fun a => (H a).isSome
def hidT (h : Heap) (H : Hp) : Heap := PySem.W.hideAll h (trk h H)
theorem hidT_size (h : Heap) (H : Hp) : (hidT h H).objs.size = h.objs.size := PySem.W.hideAll_size _ _
theorem hidT_get {h : Heap} {H : Hp} {b : Addr} {o : Obj} (e : h.get? b = some o) (n : H b = none) : (hidT h H).get? b = some o :=
 PySem.W.hideAll_get _ e fun hm => by
  have q : (H b).isSome = true := (List.mem_filter.mp hm).2
  rw [n] at q; simp at q
theorem of_hidT {h : Heap} {H : Hp} {b : Addr} {o : Obj} (e : (hidT h H).get? b = some o) : h.get? b = some o ∧ H b = none := by
 have e' : h.get? b = some o := PySem.W.of_hideAll (trk h H) e
 refine ⟨e', ?_⟩
 cases q : H b with
 | none => rfl
 | some x =>
  have hm : b ∈ trk h H := List.mem_filter.mpr ⟨List.mem_range.mpr (Heap.lt_size e'), by simp [q]⟩
  have z : (hidT h H).get? b = none := PySem.W.hideAll_none (trk h H) hm
  rw [z] at e; cases e
end L2
namespace L2
open PySem PySem.Spec PyProof.Rows
structure Mod (K : PySem.W.Frag) (mg : Str → Option Value) (base : Heap) : Prop where
 kin : K.In base
 glob : base.Ns mainGlobals mg
 blt : ∃ mb, base.Ns builtinsNs mb ∧ ∀ x : Str, x ≠ "__name__" → mb x = bootBuiltins x
 nolimit : base.NoLimit
structure Cx where
 prog : Program
 w : World
 K : PySem.W.Frag
 mg : Str → Option Value
 base : Heap
 A : Around
 N : List Str
 s₀ : Shared
 H₀ : Hp
 env : Env
 outer : List Env
 stack : List Env
 ex : List Addr
 fn : Str → Bool
 calm : Bool
 pn : List (Addr × Obj)
 xe : Value → Shared → Prop
def frs (l : List Env) : List Addr := l.filterMap (·.frame)
abbrev Cx.fs (X : Cx) : List Addr := frs X.outer
def Vis (sc : Scope) (x : Str) : Prop := sc.names.lookup x = some .local ∨ sc.names.lookup x = some .cell ∨ sc.names.lookup x = some .free
def Loc (sc : Scope) (x : Str) : Prop := sc.names.lookup x = some .local ∨ sc.names.lookup x = some .cell
def Look (env : Env) (h : Heap) (m : Str → Option Value) (x : Str) (u : Value) : Prop :=
 (env.kindOf x = some .local ∧ m x = some u) ∨ ((env.kindOf x = some .cell ∨ env.kindOf x = some .free) ∧ ∃ c, env.cells.lookup x = some c ∧ h.IsCell c (some u))
structure Cx.Ok (X : Cx) : Prop where
 mod : Mod X.K X.mg X.base
 kind : X.env.scope.kind = .function
 glob : X.env.globals = mainGlobals
 blt : X.env.builtins = builtinsNs
 above : X.s₀.heap.objs.size ≤ X.env.locals
 inj : ∀ x y c, X.env.cells.lookup x = some c → X.env.cells.lookup y = some c → x = y
 has : ∀ x, (X.env.kindOf x = some .cell ∨ X.env.kindOf x = some .free) → ∃ c, X.env.cells.lookup x = some c
 cab : ∀ x c, X.fn x = true → X.env.cells.lookup x = some c → X.s₀.heap.objs.size ≤ c
 hd : X.calm = true → X.A.handled = none
 frames : X.A.frames = some X.stack
 stk : X.stack = X.outer ∨ (X.stack = X.env :: X.outer ∧ X.env.frame = some X.env.locals)
 exf : ∀ b ∈ X.ex, b ≠ X.env.locals ∧ ∀ x c, X.env.cells.lookup x = some c → c ≠ b
 bs : ∀ b o, X.base.get? b = some o → X.s₀.heap.get? b = some o ∧ X.H₀ b = none
 bsz : X.base.objs.size ≤ X.s₀.heap.objs.size
 noex : ∀ b o, X.base.get? b = some o → b ∉ X.ex
 exfs : ∀ b ∈ X.ex, b ∉ X.fs
 funs : X.s₀.heap.FunFrames X.base X.outer
 frf : ∀ b ∈ X.fs, X.H₀ b = none
structure Inv (X : Cx) (pins : List (Addr × Obj)) (σ : List (Option V)) (H : Hp) (s : Shared) : Prop where
 ok : X.Ok
 os : s.os = X.s₀.os
 bare : AllBare s.gens
 base : Un X.fs X.ex X.H₀ H X.s₀.heap s.heap
 loc : ∃ m, s.heap.Ns X.env.locals m ∧ ∀ (i : Nat) (x : Str) (v : V), X.N[i]? = some x → σ[i]? = some (some v) → Vis X.env.scope x → ∃ u, RelV v u ∧ Look X.env s.heap m x u
 cell : ∀ x c, X.env.cells.lookup x = some c → ∃ v, s.heap.IsCell c v
 free : H X.env.locals = none
 freeC : ∀ x c, X.env.cells.lookup x = some c → H c = none
 pin : ∀ p ∈ X.pn ++ pins, s.heap.get? p.1 = some p.2 ∧ H p.1 = none ∧ p.1 ≠ X.env.locals ∧ p.1 ∉ X.fs ∧ ∀ v, p.2.data ≠ .cell v
 hok : HOk X.prog X.w H s.heap
 len : σ.length = X.N.length
section
variable {X : Cx} {pins : List (Addr × Obj)} {σ : List (Option V)} {H H' : Hp} {s : Shared} {h' : Heap}
theorem Cx.Ok.nofr (ok : X.Ok) {b : Addr} {o : Obj} (e : X.base.get? b = some o) : b ∉ X.fs := fun hb => by
 have := (ok.funs.mem hb).1
 rw [e] at this; cases this
theorem Inv.bs (I : Inv X pins σ H s) : ∀ b o, X.base.get? b = some o → s.heap.get? b = some o ∧ H b = none := fun b o e =>
 ⟨I.base.keep b o (I.ok.bs b o e).1 (I.ok.bs b o e).2 (I.ok.nofr e) (I.ok.noex b o e), I.base.free b o (I.ok.bs b o e).1 (I.ok.bs b o e).2 (I.ok.noex b o e)⟩
theorem Inv.bk (I : Inv X pins σ H s) : ∀ b o, X.base.get? b = some o → s.heap.get? b = some o := fun b o e => (I.bs b o e).1
theorem Inv.mod (I : Inv X pins σ H s) : Mod X.K X.mg X.base := I.ok.mod
theorem Inv.kIn (I : Inv X pins σ H s) : X.K.In s.heap := I.ok.mod.kin.keeps I.bk
theorem Inv.lt (I : Inv X pins σ H s) : X.env.locals < s.heap.objs.size := let ⟨_, hn, _⟩ := I.loc; hn.lt
theorem Inv.sz (I : Inv X pins σ H s) : X.s₀.heap.objs.size ≤ s.heap.objs.size := Nat.le_trans I.ok.above (Nat.le_of_lt I.lt)
theorem Inv.nofs (I : Inv X pins σ H s) {a : Addr} (h : s.heap.objs.size ≤ a) : a ∉ X.fs := fun hb => by
 obtain ⟨_, o, ho, _⟩ := I.ok.funs.mem hb
 exact absurd (Nat.lt_of_lt_of_le (Heap.lt_size ho) (Nat.le_trans I.sz h)) (Nat.lt_irrefl _)
theorem Inv.cne (I : Inv X pins σ H s) : ∀ x c, X.env.cells.lookup x = some c → c ≠ X.env.locals := fun x c e z => by
 obtain ⟨v, o, ho, hd⟩ := I.cell x c e
 obtain ⟨m, ⟨o', es, ep, ho', hd', _⟩, _⟩ := I.loc
 rw [z, ho'] at ho; cases ho; rw [hd'] at hd; cases hd
theorem Inv.funs (I : Inv X pins σ H s) : s.heap.FunFrames X.base X.outer := by
 have all : ∀ (l : List Env), (∀ b ∈ frs l, b ∈ X.fs) → X.s₀.heap.FunFrames X.base l → s.heap.FunFrames X.base l := by
  intro l
  induction l with
  | nil => intro _ _; trivial
  | cons env r ih =>
   intro hs hl
   obtain ⟨hk, ⟨L, o, hf, hn, ho, hd⟩, hr⟩ := hl
   have hL : L ∈ X.fs := hs L (by unfold frs; rw [List.filterMap_cons, hf]; exact List.mem_cons_self)
   obtain ⟨sl, e⟩ := I.base.slot L o ho (I.ok.frf L hL) hL fun z => I.ok.exfs L z hL
   exact ⟨hk, ⟨L, _, hf, hn, e, hd⟩, ih (fun b hb => hs b (by unfold frs; rw [List.filterMap_cons, hf]; exact List.mem_cons_of_mem _ hb)) hr⟩
 exact all X.outer (fun _ hb => hb) I.ok.funs
theorem Inv.stack (I : Inv X pins σ H s) : s.heap.FunFrames X.base X.stack := by
 rcases I.ok.stk with e | ⟨e, hf⟩
 ·rw [e]; exact I.funs
 ·rw [e]
  obtain ⟨m, hn, _⟩ := I.loc
  refine .cons (by rw [I.ok.kind]; decide) hf hn ?_ I.funs
  exact Heap.get?_none_of_le (Nat.le_trans I.ok.bsz I.ok.above)
theorem Inv.stkSub (I : Inv X pins σ H s) : ∀ b ∈ frs X.stack, b ∈ X.env.locals :: X.fs := fun b hb => by
 rcases I.ok.stk with e | ⟨e, hf⟩
 ·rw [e] at hb; exact List.mem_cons_of_mem _ hb
 ·rw [e] at hb
  unfold frs at hb
  rw [List.filterMap_cons, hf] at hb
  exact hb
theorem Inv.stkFree (I : Inv X pins σ H s) : ∀ b ∈ frs X.stack, H b = none := fun b hb => by
 rcases List.mem_cons.mp (I.stkSub b hb) with e | hb
 ·rw [e]; exact I.free
 ·obtain ⟨_, o, ho, _⟩ := I.ok.funs.mem hb
  exact I.base.free b o ho (I.ok.frf b hb) fun z => I.ok.exfs b z hb
theorem Inv.step {g' : Array GenState} {t' : Nat} {d' : Drawn} {ch : List Addr} (I : Inv X pins σ H s)
  (hch : ∀ b ∈ ch, (b ∈ X.ex ∨ X.s₀.heap.objs.size ≤ b) ∧ b ≠ X.env.locals ∧ (∀ x c, X.env.cells.lookup x = some c → c ≠ b) ∧ ∀ p ∈ X.pn ++ pins, p.1 ≠ b)
  (keep : ∀ b o, b ≠ X.env.locals → b ∉ X.fs → b ∉ ch → s.heap.get? b = some o → H b = none → h'.get? b = some o)
  (slot : ∀ b o, b ≠ X.env.locals → b ∈ X.fs → b ∉ ch → s.heap.get? b = some o → H b = none → ∃ sl, h'.get? b = some { o with slots := sl }) (free : ∀ b o, b ∉ ch → s.heap.get? b = some o → H b = none → H' b = none)
  (there : ∀ b o, b ∉ ch → s.heap.get? b = some o → ∃ o', h'.get? b = some o')
  (tups : ∀ b xs, H b = some (.tup xs) → H' b = some (.tup xs)) (frzs : ∀ b o u, H b = some (.frz o u) → H' b = some (.frz o u)) (tbls : ∀ b ps, H b = some (.tbl ps) → ∃ more, H' b = some (.tbl (ps ++ more)))
  (ns : ∀ m, s.heap.Ns X.env.locals m → h'.Ns X.env.locals m) (hok : HOk X.prog X.w H' h') (hg : AllBare g') :
  Inv X pins σ H' { s with heap := h', gens := g', drawn := d', toks := t' } := by
 have neL : ∀ b o, X.s₀.heap.get? b = some o → b ≠ X.env.locals := fun b o e => Nat.ne_of_lt (Nat.lt_of_lt_of_le (Heap.lt_size e) I.ok.above)
 have neC : ∀ b o, X.s₀.heap.get? b = some o → b ∉ X.ex → b ∉ ch := fun b o e hx hb => by
  rcases (hch b hb).1 with z | z
  ·exact hx z
  ·exact absurd (Nat.lt_of_lt_of_le (Heap.lt_size e) z) (Nat.lt_irrefl _)
 have cellK : ∀ x c, X.env.cells.lookup x = some c → ∀ v, s.heap.IsCell c v → h'.IsCell c v := fun x c e v ⟨o, ho, hd⟩ => by
  have nch : c ∉ ch := fun z => (hch c z).2.2.1 x c e rfl
  by_cases hc : c ∈ X.fs
  ·obtain ⟨sl, q⟩ := slot c o (I.cne x c e) hc nch ho (I.freeC x c e)
   exact ⟨_, q, hd⟩
  ·exact ⟨o, keep c o (I.cne x c e) hc nch ho (I.freeC x c e), hd⟩
 refine ⟨I.ok, I.os, hg, ⟨fun b o e n hb hx => ?_, fun b o e n hb hx => ?_, fun b o e n hx => ?_, fun b o e hx => ?_, fun b xs e => tups b xs (I.base.tups b xs e), fun b o xs e => frzs b o xs (I.base.frzs b o xs e), fun b ps e => ?_⟩, ?_, fun x c e => ?_, ?_, fun x c e => ?_, fun p hp => ?_, hok, I.len⟩
 ·exact keep b o (neL b o e) hb (neC b o e hx) (I.base.keep b o e n hb hx) (I.base.free b o e n hx)
 ·obtain ⟨sl, e1⟩ := I.base.slot b o e n hb hx
  obtain ⟨sl', e2⟩ := slot b _ (neL b o e) hb (neC b o e hx) e1 (I.base.free b o e n hx)
  exact ⟨sl', e2⟩
 ·obtain ⟨o', e1⟩ := I.base.there b o e hx
  exact free b o' (neC b o e hx) e1 (I.base.free b o e n hx)
 ·obtain ⟨o', e1⟩ := I.base.there b o e hx
  exact there b o' (neC b o e hx) e1
 ·obtain ⟨m1, e1⟩ := I.base.tbls b ps e
  obtain ⟨m2, e2⟩ := tbls b _ e1
  exact ⟨m1 ++ m2, by rw [e2, Array.append_assoc]⟩
 ·obtain ⟨m, hn, hl⟩ := I.loc
  refine ⟨m, ns m hn, fun i x v e1 e2 e3 => ?_⟩
  obtain ⟨u, r, l⟩ := hl i x v e1 e2 e3
  refine ⟨u, r, ?_⟩
  rcases l with l | ⟨k, c, e, z⟩
  ·exact .inl l
  ·exact .inr ⟨k, c, e, cellK x c e _ z⟩
 ·obtain ⟨v, z⟩ := I.cell x c e
  exact ⟨v, cellK x c e v z⟩
 ·obtain ⟨m, ⟨o, _, _, ho, _⟩, _⟩ := I.loc
  exact free _ o (fun z => (hch _ z).2.1 rfl) ho I.free
 ·obtain ⟨v, o, ho, hd⟩ := I.cell x c e
  exact free c o (fun z => (hch c z).2.2.1 x c e rfl) ho (I.freeC x c e)
 ·obtain ⟨e, n, ne, nf, d⟩ := I.pin p hp
  have nch : p.1 ∉ ch := fun z => (hch p.1 z).2.2.2 p hp rfl
  exact ⟨keep p.1 p.2 ne nf nch e n, free p.1 p.2 nch e n, ne, nf, d⟩
theorem Inv.un {t' : Nat} (I : Inv X pins σ H s) (u : Un X.fs [] H H' s.heap h') (hok : HOk X.prog X.w H' h') : Inv X pins σ H' { s with heap := h', toks := t' } := by
 obtain ⟨m, ⟨o, es, ep, ho, r⟩, _⟩ := id I.loc
 obtain ⟨sl, hL⟩ := u.any ho I.free (by simp)
 exact I.step (g' := s.gens) (d' := s.drawn) (ch := []) (fun _ z => nomatch z) (fun b o _ hb _ e n => u.keep b o e n hb (by simp)) (fun b o _ hb _ e n => u.slot b o e n hb (by simp)) (fun b o _ e n => u.free b o e n (by simp)) (fun b o _ e => u.there b o e (by simp)) u.tups u.frzs u.tbls (fun m' hm => by
  obtain ⟨o', es', ep', ho', r'⟩ := hm
  rw [ho] at ho'; cases ho'
  exact ⟨_, es', ep', hL, r'⟩) hok I.bare
theorem Inv.call {g' : Array GenState} {t' : Nat} {d' : Drawn} {ch : List Addr} (I : Inv X pins σ H s) (u : Un (frs X.stack) ch H H' s.heap h') (hok : HOk X.prog X.w H' h') (hg : AllBare g')
  (hch : ∀ b ∈ ch, (b ∈ X.ex ∨ X.s₀.heap.objs.size ≤ b) ∧ b ≠ X.env.locals ∧ (∀ x c, X.env.cells.lookup x = some c → c ≠ b) ∧ ∀ p ∈ X.pn ++ pins, p.1 ≠ b) :
  Inv X pins σ H' { s with heap := h', gens := g', drawn := d', toks := t' } := by
 obtain ⟨m, ⟨o, es, ep, ho, r⟩, _⟩ := id I.loc
 obtain ⟨sl, hL⟩ := u.any ho I.free fun z => (hch _ z).2.1 rfl
 exact I.step (ch := ch) hch (fun b o hL hb hc e n => u.keep b o e n (fun z => (List.mem_cons.mp (I.stkSub b z)).elim hL hb) hc) (fun b o _ _ hc e n => u.any e n hc) (fun b o hc e n => u.free b o e n hc) (fun b o hc e => u.there b o e hc) u.tups u.frzs u.tbls (fun m' hm => by
  obtain ⟨o', es', ep', ho', r'⟩ := hm
  rw [ho] at ho'; cases ho'
  exact ⟨_, es', ep', hL, r'⟩) hok hg
theorem Inv.turned {t' : Nat} {it : Addr} (I : Inv X pins σ H s) (k : ∀ b o, b ≠ it → s.heap.get? b = some o → h'.get? b = some o) (hn : H it = none) (hL : it ≠ X.env.locals)
  (h1 : it ∈ X.ex ∨ X.s₀.heap.objs.size ≤ it) (h2 : ∀ x c, X.env.cells.lookup x = some c → c ≠ it) (h3 : ∀ p ∈ X.pn ++ pins, p.1 ≠ it) : Inv X pins σ H { s with heap := h', toks := t' } := by
 have nit : ∀ b u, H b = some u → b ≠ it := fun b u e z => by rw [z, hn] at e; cases e
 refine I.step (g' := s.gens) (d' := s.drawn) (ch := [it]) (fun b hb => ?_) (fun b o _ _ hc e _ => k b o (fun z => hc (by simp [z])) e) (fun b o _ _ hc e _ => ⟨o.slots, k b o (fun z => hc (by simp [z])) e⟩) (fun _ _ _ _ n => n)
  (fun b o hc e => ⟨o, k b o (fun z => hc (by simp [z])) e⟩) (fun _ _ e => e) (fun _ _ _ e => e) (fun b ps e => ⟨#[], by rw [e]; simp⟩) (fun m hm => ?_) (fun b u e => ?_) I.bare
 ·have e : b = it := by simpa using hb
  subst e
  exact ⟨h1, hL, h2, h3⟩
 ·obtain ⟨o, es, ep, ho, r⟩ := hm
  exact ⟨o, es, ep, k _ o (Ne.symm hL) ho, r⟩
 ·refine (I.hok b u e).stay (fun c v hc q => k c v ?_ q) (fun _ q => q) fun _ _ q => q
  rcases hc with z | z
  ·rw [z]; exact nit b u e
  ·exact nit c _ z
theorem Inv.tok (I : Inv X pins σ H s) (t : Nat) : Inv X pins σ H { s with toks := t } := I.un (h' := s.heap) (t' := t) Un.refl I.hok
theorem Inv.kept {t' : Nat} (I : Inv X pins σ H s) (k : ∀ b u, s.heap.get? b = some u → h'.get? b = some u) : Inv X pins σ H { s with heap := h', toks := t' } := I.un (Un.kept k) (I.hok.kept k)
theorem Inv.laid {a : Addr} {o : HO} {t' : Nat} (I : Inv X pins σ H s) (k : ∀ b u, s.heap.get? b = some u → h'.get? b = some u) (hp : s.heap.objs.size ≤ a) (new : ObjOk X.prog X.w (upd H a o) h' a o) :
  Inv X pins σ (upd H a o) { s with heap := h', toks := t' } := I.un (Un.laid k hp (I.hok.fresh hp)) (I.hok.laid k hp new)
theorem Inv.write {x e : Addr} {o : HO} {t' : Nat} (I : Inv X pins σ H s) (mu : Mut (H x)) (he : e = x ∨ H e = some (.own x)) (k : ∀ b u, b ≠ e → s.heap.get? b = some u → h'.get? b = some u) (heo : ∃ u, h'.get? e = some u)
  (new : ObjOk X.prog X.w (upd H x o) h' x o) : Inv X pins σ (upd H x o) { s with heap := h', toks := t' } := I.un (Un.write mu he k heo) (I.hok.write mu he k heo new)
theorem Inv.pins_of {pins' : List (Addr × Obj)} (I : Inv X pins σ H s) (h : ∀ p ∈ pins', s.heap.get? p.1 = some p.2 ∧ H p.1 = none ∧ p.1 ≠ X.env.locals ∧ p.1 ∉ X.fs ∧ ∀ v, p.2.data ≠ .cell v) : Inv X pins' σ H s :=
 ⟨I.ok, I.os, I.bare, I.base, I.loc, I.cell, I.free, I.freeC, fun p hp => (List.mem_append.mp hp).elim (fun z => I.pin p (List.mem_append_left _ z)) (h p), I.hok, I.len⟩
theorem nodup_ix {N : List Str} (hN : N.Nodup) {i j : Nat} {x : Str} (a : N[i]? = some x) (b : N[j]? = some x) : i = j := by
 obtain ⟨h1, e1⟩ := List.getElem?_eq_some_iff.mp a
 obtain ⟨h2, e2⟩ := List.getElem?_eq_some_iff.mp b
 exact (List.getElem_inj hN).mp (e1.trans e2.symm)
theorem store_ok2 {M : Model} {A : Around} {E : Value → Shared → Prop} {i : Nat} {x : Str} {v : V} {u : Value} {Q : Unit → Shared → Prop} (I : Inv X pins σ H s) (hN : X.N.Nodup) (hi : X.N[i]? = some x) (hx : Loc X.env.scope x) (r : RelV v u)
  (h : ∀ s', Inv X pins (σ.set i (some v)) H s' → (∃ a, Heap.SameBut a s.heap s'.heap ∧ (a = X.env.locals ∨ X.env.cells.lookup x = some a)) → Q () s') (hf : X.fn x = true ∨ X.env.scope.names.lookup x = some .local := by first | exact .inl rfl | exact .inr rfl | assumption) : wpAny M A (storeName X.env x u) Q E s := by
 obtain ⟨m, hn, hl⟩ := id I.loc
 have hcls : (X.env.scope.kind == .class || (X.env.scope.kind == .module && X.env.locals != X.env.globals)) = false := by rw [I.ok.kind]; rfl
 have hiσ : i < σ.length := by rw [I.len]; exact (List.getElem?_eq_some_iff.mp hi).1
 have cne := I.cne
 have tracked : ∀ {a : Addr} {h' : Heap}, (∃ o, s.heap.get? a = some o ∧ H a = none) → Heap.SameBut a s.heap h' → HOk X.prog X.w H h' := fun {a h'} ha hs b ob e => by
  obtain ⟨_, _, hfree⟩ := ha
  refine (I.hok b ob e).stay (fun c w' hc q => (hs.2 c ?_).trans q) (fun _ q => q) fun _ _ q => q
  rintro rfl
  rcases hc with rfl | hc
  ·rw [hfree] at e; cases e
  ·rw [hfree] at hc; cases hc
 rcases hx with hk | hk
 ·refine wpAny_storeName_local hk hn (fun h' hn' hs => ?_) hcls
  obtain ⟨oL, _, _, hoL, _⟩ := id hn
  refine h _ ⟨I.ok, I.os, I.bare, ⟨fun b o e n hb hx => ?_, fun b o e n hb hx => ?_, I.base.free, fun b o e hx => ?_, I.base.tups, I.base.frzs, I.base.tbls⟩, ⟨_, hn', fun j y v' e1 e2 e3 => ?_⟩, fun y c e => ?_, I.free, I.freeC, fun p hp => ?_, tracked ⟨oL, hoL, I.free⟩ hs, by simpa using I.len⟩ ⟨_, hs, .inl rfl⟩
  ·exact (hs.2 b (Nat.ne_of_lt (Nat.lt_of_lt_of_le (Heap.lt_size e) I.ok.above))).trans (I.base.keep b o e n hb hx)
  ·obtain ⟨sl, e1⟩ := I.base.slot b o e n hb hx
   exact ⟨sl, (hs.2 b (Nat.ne_of_lt (Nat.lt_of_lt_of_le (Heap.lt_size e) I.ok.above))).trans e1⟩
  ·obtain ⟨o', e1⟩ := I.base.there b o e hx
   exact ⟨o', (hs.2 b (Nat.ne_of_lt (Nat.lt_of_lt_of_le (Heap.lt_size e) I.ok.above))).trans e1⟩
  ·by_cases hj : j = i
   ·subst hj
    rw [hi] at e1; cases e1
    rw [List.getElem?_set_self hiσ] at e2
    cases e2
    exact ⟨u, r, .inl ⟨hk, by simp⟩⟩
   ·rw [List.getElem?_set_ne (Ne.symm hj)] at e2
    obtain ⟨u', r', q⟩ := hl j y v' e1 e2 e3
    refine ⟨u', r', ?_⟩
    rcases q with ⟨k, e⟩ | ⟨k, c, e, z⟩
    ·refine .inl ⟨k, ?_⟩
     have : y ≠ x := fun e => hj (nodup_ix hN e1 (e ▸ hi))
     simp [this, e]
    ·exact .inr ⟨k, c, e, z.sameBut hs (cne y c e)⟩
  ·obtain ⟨w', z⟩ := I.cell y c e
   exact ⟨w', z.sameBut hs (cne y c e)⟩
  ·obtain ⟨e, n, ne, nf, d⟩ := I.pin p hp
   exact ⟨(hs.2 p.1 ne).trans e, n, ne, nf, d⟩
 ·have hfn : X.fn x = true := by
   rcases hf with z | z
   ·exact z
   ·rw [z] at hk; cases hk
  obtain ⟨c, hc⟩ := I.ok.has x (.inl hk)
  obtain ⟨w', z⟩ := I.cell x c hc
  refine wpAny_storeName_cell I.ok.kind hk hc z (fun h' hc' hs => ?_)
  obtain ⟨oc, hoc, hocd⟩ := id z
  refine h { s with heap := h' } ⟨I.ok, I.os, I.bare, ⟨fun b o e n hb hx => ?_, fun b o e n hb hx => ?_, I.base.free, fun b o e hx => ?_, I.base.tups, I.base.frzs, I.base.tbls⟩, ⟨m, hn.sameBut hs (Ne.symm (cne x c hc)), fun j y v' e1 e2 e3 => ?_⟩, fun y c' e => ?_, I.free, I.freeC, fun p hp => ?_, tracked ⟨oc, hoc, I.freeC x c hc⟩ hs, by simpa using I.len⟩ ⟨c, hs, .inr hc⟩
  ·exact (hs.2 b (Nat.ne_of_lt (Nat.lt_of_lt_of_le (Heap.lt_size e) (I.ok.cab x c hfn hc)))).trans (I.base.keep b o e n hb hx)
  ·obtain ⟨sl, e1⟩ := I.base.slot b o e n hb hx
   exact ⟨sl, (hs.2 b (Nat.ne_of_lt (Nat.lt_of_lt_of_le (Heap.lt_size e) (I.ok.cab x c hfn hc)))).trans e1⟩
  ·obtain ⟨o', e1⟩ := I.base.there b o e hx
   exact ⟨o', (hs.2 b (Nat.ne_of_lt (Nat.lt_of_lt_of_le (Heap.lt_size e) (I.ok.cab x c hfn hc)))).trans e1⟩
  ·by_cases hj : j = i
   ·subst hj
    rw [hi] at e1; cases e1
    rw [List.getElem?_set_self hiσ] at e2
    cases e2
    exact ⟨u, r, .inr ⟨.inl hk, c, hc, hc'⟩⟩
   ·rw [List.getElem?_set_ne (Ne.symm hj)] at e2
    obtain ⟨u', r', q⟩ := hl j y v' e1 e2 e3
    refine ⟨u', r', ?_⟩
    rcases q with q | ⟨k, c', e, z'⟩
    ·exact .inl q
    ·refine .inr ⟨k, c', e, z'.sameBut hs ?_⟩
     rintro rfl
     exact hj (nodup_ix hN e1 (I.ok.inj _ _ _ e hc ▸ hi))
  ·by_cases hcc : c' = c
   ·subst hcc; exact ⟨_, hc'⟩
   ·obtain ⟨w2, z2⟩ := I.cell y c' e
    exact ⟨w2, z2.sameBut hs hcc⟩
  ·obtain ⟨e, n, ne, nf, d⟩ := I.pin p hp
   refine ⟨(hs.2 p.1 ?_).trans e, n, ne, nf, d⟩
   intro q
   rw [q, hoc] at e
   have q' : oc = p.2 := Option.some.inj e
   exact d w' (by rw [← q']; exact hocd)
theorem store_ok {M : Model} {A : Around} {E : Value → Shared → Prop} {i : Nat} {x : Str} {v : V} {u : Value} {Q : Unit → Shared → Prop} (I : Inv X pins σ H s) (hN : X.N.Nodup) (hi : X.N[i]? = some x) (hx : Loc X.env.scope x) (r : RelV v u)
  (h : ∀ s', Inv X pins (σ.set i (some v)) H s' → Q () s') (hf : X.fn x = true ∨ X.env.scope.names.lookup x = some .local := by first | exact .inl rfl | exact .inr rfl | assumption) : wpAny M A (storeName X.env x u) Q E s :=
 store_ok2 I hN hi hx r (fun s' I' _ => h s' I') hf
theorem Inv.call' {s' : Shared} {ch : List Addr} (I : Inv X pins σ H s) (ho : s'.os = s.os) (u : Un (frs X.stack) ch H H' s.heap s'.heap) (hok : HOk X.prog X.w H' s'.heap) (hg : AllBare s'.gens)
  (hch : ∀ b ∈ ch, (b ∈ X.ex ∨ X.s₀.heap.objs.size ≤ b) ∧ b ≠ X.env.locals ∧ (∀ x c, X.env.cells.lookup x = some c → c ≠ b) ∧ ∀ p ∈ X.pn ++ pins, p.1 ≠ b) : Inv X pins σ H' s' := by
 obtain ⟨h', g', d', t', o'⟩ := s'
 have e : o' = s.os := ho
 subst e
 exact I.call (g' := g') (t' := t') (d' := d') u hok hg hch
end
abbrev XK := Value → Option Addr → Hp → Prop
abbrev St := List (Option V)
abbrev VK := V → Hp → Prop
abbrev TE := St → Hp → VK → Prop
abbrev TT := St → Hp → (Bool → Hp → Prop) → Prop
abbrev TA := St → Hp → (List V → Hp → Prop) → Prop
structure Ends where
 nx : St → Hp → Prop
 rt : VK
 bk : St → Hp → Prop := fun _ _ => False
 ct : St → Hp → Prop := fun _ _ => False
abbrev TS := Ends → St → Hp → Prop
def EP (X : Cx) (pins : List (Addr × Obj)) (σ : St) (Q : VK) (u : Value) (s' : Shared) : Prop := ∃ v H', Inv X pins σ H' s' ∧ RelV v u ∧ Q v H'
def TP (X : Cx) (pins : List (Addr × Obj)) (σ : St) (Q : Bool → Hp → Prop) (b : Bool) (s' : Shared) : Prop := ∃ H', Inv X pins σ H' s' ∧ Q b H'
def AP (X : Cx) (pins : List (Addr × Obj)) (σ : St) (Q : List V → Hp → Prop) (us : List Value) (s' : Shared) : Prop := ∃ vs H', Inv X pins σ H' s' ∧ Vals vs us ∧ Q vs H'
def SP (X : Cx) (pins : List (Addr × Obj)) (D : Ends) (f : Flow) (s' : Shared) : Prop :=
 match f with
 | .next => ∃ σ' H', Inv X pins σ' H' s' ∧ D.nx σ' H'
 | .brk => ∃ σ' H', Inv X pins σ' H' s' ∧ D.bk σ' H'
 | .cont => ∃ σ' H', Inv X pins σ' H' s' ∧ D.ct σ' H'
 | .ret u => ∃ v σ' H', Inv X pins σ' H' s' ∧ RelV v u ∧ D.rt v H'
def PE (X : Cx) (e : Expr) (t : TE) : Prop :=
 ∀ (pins : List (Addr × Obj)) (s : Shared) (σ : St) (H : Hp) (Q : VK), Inv X pins σ H s → t σ H Q → wpAny (model X.prog X.w) X.A (eval e X.env) (EP X pins σ Q) X.xe s
def PT (X : Cx) (e : Expr) (t : TT) : Prop :=
 ∀ (pins : List (Addr × Obj)) (s : Shared) (σ : St) (H : Hp) (Q : Bool → Hp → Prop), Inv X pins σ H s → t σ H Q → wpAny (model X.prog X.w) X.A (isTrue e X.env (eval e X.env)) (TP X pins σ Q) X.xe s
def PW (X : Cx) (e : Expr) (t : TT) : Prop :=
 ∀ (whole : Sem Value) (pins : List (Addr × Obj)) (s : Shared) (σ : St) (H : Hp) (Q : Bool → Hp → Prop), Inv X pins σ H s → t σ H Q → wpAny (model X.prog X.w) X.A (isTrue e X.env whole) (TP X pins σ Q) X.xe s
theorem PW.pt {X : Cx} {e : Expr} {t : TT} (h : PW X e t) : PT X e t := h _
def PA (X : Cx) (es : List Expr) (t : TA) : Prop :=
 ∀ (pos : Pos) (pins : List (Addr × Obj)) (s : Shared) (σ : St) (H : Hp) (Q : List V → Hp → Prop), Inv X pins σ H s → t σ H Q → wpAny (model X.prog X.w) X.A (spliced (backTo pos (starEach es X.env))) (AP X pins σ Q) X.xe s
def PS (X : Cx) (st : Stmt) (t : TS) : Prop :=
 ∀ (pins : List (Addr × Obj)) (s : Shared) (σ : St) (H : Hp) (D : Ends), Inv X pins σ H s → t D σ H → wpAny (model X.prog X.w) X.A (exec st X.env) (SP X pins D) X.xe s
def PSs (X : Cx) (st : List Stmt) (t : TS) : Prop :=
 ∀ (pins : List (Addr × Obj)) (s : Shared) (σ : St) (H : Hp) (D : Ends), Inv X pins σ H s → t D σ H → wpAny (model X.prog X.w) X.A (execs st X.env) (SP X pins D) X.xe s
theorem thn {α : Type} {t : Sem α} {Q Q' : α → Shared → Prop} {M : Model} {A : Around} {E : Value → Shared → Prop} {s : Shared} (h : wpAny M A t Q E s) (hQ : ∀ a s, Q a s → Q' a s) : wpAny M A t Q' E s := wpAny_mono h hQ fun _ _ x => x
end L2
namespace L2
open PySem PySem.Spec PyProof.Rows
section
variable {X : Cx}
def tVar (i : Nat) : TE := fun σ H Q => ∃ v, σ[i]? = some (some v) ∧ Q v H
def tC (v : V) : TE := fun _ H Q => Q v H
theorem pe_var {i : Nat} {x : Str} {pos : Pos} (hN : X.N[i]? = some x) (hv : Vis X.env.scope x) (hd : (x == ("__debug__" : Str)) = false := by decide) (hcd : (x == ("__classdict__" : Str)) = false := by decide) : PE X (.Name x pos) (tVar i) := by
 intro pins s σ H Q I h
 obtain ⟨v, e, h⟩ := h
 obtain ⟨m, hn, hl⟩ := I.loc
 obtain ⟨u, r, l⟩ := hl i x v hN e hv
 have fin : EP X pins σ Q u s := ⟨v, H, I, r, h⟩
 rcases l with ⟨hk, hm⟩ | ⟨hk, c, hc, hcell⟩
 ·exact wpAny_Name (wpAny_loadName_local I.ok.kind hk hn hm fin) hd
 ·rcases hk with hk | hk
  ·exact wpAny_Name (wpAny_loadName_cell I.ok.kind hk hc hcell fin) hd
  ·exact wpAny_Name (wpAny_loadName_free I.ok.kind hk hc hcell fin hcd) hd
theorem pe_int {i j pos} : PE X (.Constant (.int i) j pos) (tC (.int i)) := fun _ _ _ H _ I h => wpAny_Constant_int ⟨.int i, H, I.tok _, ⟨_, rfl⟩, h⟩
theorem pe_bl {b j pos} : PE X (.Constant (.bool b) j pos) (tC (.bl b)) := fun _ _ _ H _ I h => Constant_bool ⟨.bl b, H, I, rfl, h⟩
theorem pe_non {j pos} : PE X (.Constant .none j pos) (tC .non) := fun _ _ _ H _ I h => Constant_none ⟨.non, H, I, rfl, h⟩
def Gl (X : Cx) (x : Str) : Prop := X.env.kindOf x = some .globalImplicit
theorem ld_glob {E : Value → Shared → Prop} {pins : List (Addr × Obj)} {s : Shared} {σ : St} {H : Hp} {x : Str} {u : Value} {pos : Pos} {Q : Value → Shared → Prop} (I : Inv X pins σ H s) (hg : Gl X x) (hm : X.mg x = some u) (h : Q u s)
  (hd : (x == ("__debug__" : Str)) = false := by decide) : wpAny (model X.prog X.w) X.A (eval (.Name x pos) X.env) Q E s :=
 Calls.Name_function_global I.ok.kind hg (Calls.loadGlobal_global (by rw [I.ok.glob]; exact I.mod.glob.keeps I.bk) hm h) hd
theorem ld_blt {E : Value → Shared → Prop} {pins : List (Addr × Obj)} {s : Shared} {σ : St} {H : Hp} {x : Str} {u : Value} {pos : Pos} {Q : Value → Shared → Prop} (I : Inv X pins σ H s) (hg : Gl X x) (hm : X.mg x = none) (hv : bootBuiltins x = some u) (h : Q u s)
  (hn : x ≠ "__name__" := by decide) (hd : (x == ("__debug__" : Str)) = false := by decide) : wpAny (model X.prog X.w) X.A (eval (.Name x pos) X.env) Q E s := by
 obtain ⟨mb, h1, h2⟩ := I.mod.blt
 exact Calls.Name_function_global I.ok.kind hg (Calls.loadGlobal_builtin (by rw [I.ok.glob]; exact I.mod.glob.keeps I.bk) hm (by rw [I.ok.blt]; exact h1.keeps I.bk) ((h2 x hn).trans hv) h) hd
theorem pe_glob {x : Str} {v : V} {u : Value} {pos : Pos} (hg : Gl X x) (hm : X.mg x = some u) (r : RelV v u) (hd : (x == ("__debug__" : Str)) = false := by decide) : PE X (.Name x pos) (tC v) :=
 fun _ _ _ H _ I h => ld_glob I hg hm ⟨v, H, I, r, h⟩ hd
theorem pe_bltn {x : Str} {v : V} {u : Value} {pos : Pos} (hg : Gl X x) (hm : X.mg x = none) (hv : bootBuiltins x = some u) (r : RelV v u) (hn : x ≠ "__name__" := by decide) (hd : (x == ("__debug__" : Str)) = false := by decide) : PE X (.Name x pos) (tC v) :=
 fun _ _ _ H _ I h => ld_blt I hg hm hv ⟨v, H, I, r, h⟩ hn hd
variable {a b : Expr} {ta tb : TE} {pos : Pos}
def tB (t : TE) : TT := fun σ H Q => t σ H fun x H1 => ∃ c, x = .bl c ∧ Q c H1
theorem pt_val {e : Expr} {t : TE} (h : PE X e t) (he : ∀ whole, isTrue e X.env whole = (do let v ← whole; standAt e.pos; holding [v] (truthy v)) := by intro _; rfl) : PT X e (tB t) := by
 intro pins s σ H Q I hw
 refine isTrue_plain (thn (h pins s σ H _ I hw) fun v s1 ⟨x, H1, I1, r1, q1⟩ => ?_) (he _)
 obtain ⟨d, rfl, q⟩ := q1
 cases r1
 exact wpAny_truthy_bool ⟨H1, I1, q⟩
variable {tA tB' : TT} {rest : List Expr}
def tAnd (t u : TT) : TT := fun σ H Q => t σ H fun c H1 => if c = true then u σ H1 Q else Q false H1
def tOr (t u : TT) : TT := fun σ H Q => t σ H fun c H1 => if c = true then Q true H1 else u σ H1 Q
def tNot (t : TT) : TT := fun σ H Q => t σ H fun c H1 => Q (!c) H1
theorem pw_and1 (ha : PT X a tA) : PW X (.BoolOp .And [a] pos) tA := by
 intro wh pins s σ H Q I h
 refine isTrue_and (thn (ha pins s σ H Q I h) fun c s1 e => ?_)
 cases c with
 | true => exact isTrue_and_nil e
 | false => exact e
theorem pw_or1 (ha : PT X a tA) : PW X (.BoolOp .Or [a] pos) tA := by
 intro wh pins s σ H Q I h
 refine isTrue_or (thn (ha pins s σ H Q I h) fun c s1 e => ?_)
 cases c with
 | false => exact isTrue_or_nil e
 | true => exact e
theorem pw_and (ha : PT X a tA) (hb : PW X (.BoolOp .And (b :: rest) pos) tB') : PW X (.BoolOp .And (a :: b :: rest) pos) (tAnd tA tB') := by
 intro wh pins s σ H Q I h
 refine isTrue_and (thn (ha pins s σ H _ I h) fun c s1 ⟨H1, I1, q1⟩ => ?_)
 cases c with
 | true => exact hb wh pins s1 σ H1 Q I1 q1
 | false => exact ⟨H1, I1, q1⟩
theorem pw_or (ha : PT X a tA) (hb : PW X (.BoolOp .Or (b :: rest) pos) tB') : PW X (.BoolOp .Or (a :: b :: rest) pos) (tOr tA tB') := by
 intro wh pins s σ H Q I h
 refine isTrue_or (thn (ha pins s σ H _ I h) fun c s1 ⟨H1, I1, q1⟩ => ?_)
 cases c with
 | true => exact ⟨H1, I1, q1⟩
 | false => exact hb wh pins s1 σ H1 Q I1 q1
theorem pt_not (ha : PT X a tA) : PT X (.UnaryOp .Not a pos) (tNot tA) := by
 intro pins s σ H Q I h
 exact isTrue_not (ha pins s σ H (fun c H1 => Q (!c) H1) I h)
def tAndV (ta tb : TE) : TE := fun σ H Q => ta σ H fun x H1 => ∃ c, x = .bl c ∧ if c = true then tb σ H1 Q else Q (.bl false) H1
def tOrV (ta tb : TE) : TE := fun σ H Q => ta σ H fun x H1 => ∃ c, x = .bl c ∧ if c = true then Q (.bl true) H1 else tb σ H1 Q
def tNotV (ta : TE) : TE := fun σ H Q => ta σ H fun x H1 => ∃ c, x = .bl c ∧ Q (.bl (!c)) H1
theorem pe_one {op} {t : TE} (h : PE X a t) : PE X (.BoolOp op [a] pos) t := fun pins s σ H Q I hw => BoolOp_one (h pins s σ H Q I hw)
theorem pe_and (ha : PE X a ta) (hb : PE X (.BoolOp .And (b :: rest) pos) tb) : PE X (.BoolOp .And (a :: b :: rest) pos) (tAndV ta tb) := by
 intro pins s σ H Q I h
 refine BoolOp_and (thn (ha pins s σ H _ I h) fun v s1 ⟨x, H1, I1, r1, q1⟩ => ?_)
 obtain ⟨c, rfl, q1⟩ := q1
 cases r1
 refine wpAny_truthy_bool ?_
 cases c with
 | true => exact hb pins s1 σ H1 Q I1 q1
 | false => exact ⟨.bl false, H1, I1, rfl, q1⟩
theorem pe_or (ha : PE X a ta) (hb : PE X (.BoolOp .Or (b :: rest) pos) tb) : PE X (.BoolOp .Or (a :: b :: rest) pos) (tOrV ta tb) := by
 intro pins s σ H Q I h
 refine BoolOp_or (thn (ha pins s σ H _ I h) fun v s1 ⟨x, H1, I1, r1, q1⟩ => ?_)
 obtain ⟨c, rfl, q1⟩ := q1
 cases r1
 refine wpAny_truthy_bool ?_
 cases c with
 | false => exact hb pins s1 σ H1 Q I1 q1
 | true => exact ⟨.bl true, H1, I1, rfl, q1⟩
theorem pe_not (ha : PE X a ta) : PE X (.UnaryOp .Not a pos) (tNotV ta) := by
 intro pins s σ H Q I h
 refine UnaryOp_ (thn (ha pins s σ H _ I h) fun v s1 ⟨x, H1, I1, r1, q1⟩ => ?_)
 obtain ⟨c, rfl, q1⟩ := q1
 cases r1
 exact not_of (wpAny_truthy_bool ⟨.bl (!c), H1, I1, rfl, q1⟩)
def tIf (t : TT) (ta tb : TE) : TE := fun σ H Q => t σ H fun c H1 => if c = true then ta σ H1 Q else tb σ H1 Q
theorem pe_ifExp {c : Expr} (hc : PT X c tA) (ha : PE X a ta) (hb : PE X b tb) : PE X (.IfExp c a b pos) (tIf tA ta tb) := by
 intro pins s σ H Q I h
 refine wpAny_IfExp (thn (hc pins s σ H _ I h) fun d s1 ⟨H1, I1, q1⟩ => ?_)
 cases d with
 | true => exact ha pins s1 σ H1 Q I1 q1
 | false => exact hb pins s1 σ H1 Q I1 q1
end
end L2
namespace L2
open PySem PySem.Spec PyProof.Rows
def SqL (K : PySem.W.Frag) (H : Hp) (a : Addr) (xs : List V) : Prop :=
 Rd H a (.lst xs) ∨
  ∃ (o : Obj) (its : Array Value) (n : Nat), K.lookup a = some o ∧ o.cls = .type "list" ∧ o.dict = none ∧ o.data = .seq its n ∧ its.size ≤ sizeLine ∧ Vals xs its.toList
def SqT (K : PySem.W.Frag) (H : Hp) (a : Addr) (xs : List V) : Prop :=
 Rd H a (.tup xs) ∨
  ∃ (o : Obj) (its : Array Value) (n : Nat), K.lookup a = some o ∧ o.cls = .type "tuple" ∧ o.data = .seq its n ∧ its.size ≤ sizeLine ∧ Vals xs its.toList
def absV : Value → Option V
 | .none => some .non
 | .bool b => some (.bl b)
 | .int i _ => some (.int i)
 | .str x _ => some (.str x)
 | .bytes b _ => some (.byt b)
 | .float b _ => some (.flt b)
 | .ref a => some (.ref a)
 | .type n => some (.ty n)
 | _ => none
theorem RelV.abs {x : V} {u : Value} (r : RelV x u) : absV u = some x := by
 cases x with
 | non => cases r; rfl
 | bl _ => cases r; rfl
 | int _ => obtain ⟨t, rfl⟩ := r; rfl
 | str _ => obtain ⟨t, rfl⟩ := r; rfl
 | byt _ => obtain ⟨t, rfl⟩ := r; rfl
 | flt _ => obtain ⟨t, rfl⟩ := r; rfl
 | ref _ => cases r; rfl
 | ty _ => cases r; rfl
theorem RelV.inj {x y : V} {u : Value} (r : RelV x u) (q : RelV y u) : x = y := Option.some.inj (r.abs.symm.trans q.abs)
theorem Vals.inj : ∀ {xs ys : List V} {us : List Value}, Vals xs us → Vals ys us → xs = ys
 | _, _, _, .nil, .nil => rfl
 | _, _, _, .cons r t, .cons r' t' => by rw [r.inj r', Vals.inj t t']
section
variable {X : Cx} {pins : List (Addr × Obj)} {σ : St} {H : Hp} {s : Shared} {a : Addr} {xs ys : List V}
theorem SqL.of {K : PySem.W.Frag} (h : H a = some (.lst xs)) : SqL K H a xs := .inl (.inl h)
theorem SqT.of {K : PySem.W.Frag} (h : H a = some (.tup xs)) : SqT K H a xs := .inl (.inl h)
theorem Inv.list (I : Inv X pins σ H s) (h : SqL X.K H a xs) : ∃ its : List Value, Vals xs its ∧ PlainL s.heap a its.toArray ∧ xs.length ≤ sizeLine := by
 rcases h with h | ⟨o, its, n, hk, hc, hd, hs, hz, r⟩
 ·obtain ⟨z, its, n, r, e⟩ := h.ok I.hok
  exact ⟨its, r, ⟨_, n, e, rfl, rfl, rfl⟩, z⟩
 ·refine ⟨its.toList, r, ⟨o, n, I.kIn a o hk, hc, hd, by simpa using hs⟩, ?_⟩
  have e := r.length
  simp only [Array.length_toList] at e
  omega
theorem Inv.tuple (I : Inv X pins σ H s) (h : SqT X.K H a xs) : ∃ its : List Value, Vals xs its ∧ IsTup s.heap a its.toArray ∧ xs.length ≤ sizeLine := by
 rcases h with h | ⟨o, its, n, hk, hc, hs, hz, r⟩
 ·obtain ⟨z, its, r, p⟩ := h.ok I.hok
  exact ⟨its, r, p, z⟩
 ·refine ⟨its.toList, r, ⟨o, I.kIn a o hk, hc, n, by simpa using hs⟩, ?_⟩
  have e := r.length
  simp only [Array.length_toList] at e
  omega
theorem Inv.list_inj (I : Inv X pins σ H s) (h : SqL X.K H a xs) (h' : SqL X.K H a ys) : xs = ys := by
 obtain ⟨its, r, ⟨o, n, e, _, _, d⟩, _⟩ := I.list h
 obtain ⟨its', r', ⟨o', n', e', _, _, d'⟩, _⟩ := I.list h'
 rw [e] at e'; cases e'
 rw [d] at d'
 injection d' with d1 _
 have : its = its' := by simpa using congrArg Array.toList d1
 subst this
 exact r.inj r'
theorem Inv.tuple_inj (I : Inv X pins σ H s) (h : SqT X.K H a xs) (h' : SqT X.K H a ys) : xs = ys := by
 obtain ⟨its, r, ⟨o, e, _, n, d⟩, _⟩ := I.tuple h
 obtain ⟨its', r', ⟨o', e', _, n', d'⟩, _⟩ := I.tuple h'
 rw [e] at e'; cases e'
 rw [d] at d'
 injection d' with d1 _
 have : its = its' := by simpa using congrArg Array.toList d1
 subst this
 exact r.inj r'
end
abbrev Cx.wish (X : Cx) (E : Value → Shared → Prop) : Cx := { X with xe := E }
abbrev Cx.nox (X : Cx) : Cx := X.wish fun _ _ => False
theorem Cx.Ok.wish {X : Cx} (ok : X.Ok) (E : Value → Shared → Prop) : (X.wish E).Ok :=
 ⟨ok.mod, ok.kind, ok.glob, ok.blt, ok.above, ok.inj, ok.has, ok.cab, ok.hd, ok.frames, ok.stk, ok.exf, ok.bs, ok.bsz, ok.noex, ok.exfs, ok.funs, ok.frf⟩
theorem Cx.Ok.unwish {X : Cx} {E : Value → Shared → Prop} (ok : (X.wish E).Ok) : X.Ok :=
 ⟨ok.mod, ok.kind, ok.glob, ok.blt, ok.above, ok.inj, ok.has, ok.cab, ok.hd, ok.frames, ok.stk, ok.exf, ok.bs, ok.bsz, ok.noex, ok.exfs, ok.funs, ok.frf⟩
section
variable {X : Cx} {pins : List (Addr × Obj)} {σ : St} {H : Hp} {s : Shared} {E : Value → Shared → Prop}
theorem Inv.wish (I : Inv X pins σ H s) (E : Value → Shared → Prop) : Inv (X.wish E) pins σ H s := ⟨I.ok.wish E, I.os, I.bare, I.base, I.loc, I.cell, I.free, I.freeC, I.pin, I.hok, I.len⟩
theorem Inv.unwish (I : Inv (X.wish E) pins σ H s) : Inv X pins σ H s := ⟨I.ok.unwish, I.os, I.bare, I.base, I.loc, I.cell, I.free, I.freeC, I.pin, I.hok, I.len⟩
theorem SP.unwish {D : Ends} {f : Flow} {s' : Shared} (h : SP (X.wish E) pins D f s') : SP X pins D f s' := by
 cases f with
 | next => obtain ⟨σ', H', I, q⟩ := h; exact ⟨σ', H', I.unwish, q⟩
 | brk => obtain ⟨σ', H', I, q⟩ := h; exact ⟨σ', H', I.unwish, q⟩
 | cont => obtain ⟨σ', H', I, q⟩ := h; exact ⟨σ', H', I.unwish, q⟩
 | ret u => obtain ⟨v, σ', H', I, r, q⟩ := h; exact ⟨v, σ', H', I.unwish, r, q⟩
theorem PSs.nox {st : List Stmt} {t : TS} (h : PSs X.nox st t) : PSs X st t := fun pins s σ H D I hw =>
 wpAny_mono (h pins s σ H D (I.wish _) hw) (fun _ _ q => q.unwish) fun _ _ z => False.elim z
end
section
variable {X : Cx} {st : Stmt} {rest : List Stmt} {t u : TS} {e : Expr} {te : TE} {pos : Pos}
def tNext : TS := fun D σ H => D.nx σ H
def tSeq (t u : TS) : TS := fun D σ H => t { D with nx := u D } σ H
theorem pss_nil : PSs X [] tNext := fun _ _ σ H _ I h => wpAny_execs_nil ⟨σ, H, I, h⟩
theorem pss_cons (h1 : PS X st t) (h2 : PSs X rest u) : PSs X (st :: rest) (tSeq t u) := by
 intro pins s σ H D I h
 refine wpAny_execs_cons (thn (h1 pins s σ H { D with nx := u D } I h) fun f s1 q => ?_)
 cases f with
 | next =>
  obtain ⟨σ', H', I', q⟩ := q
  exact h2 pins s1 σ' H' D I' q
 | ret v => exact q
 | brk => exact q
 | cont => exact q
theorem pss_one (h1 : PS X st t) : PSs X [st] t := by
 intro pins s σ H D I h
 refine wpAny_execs_cons (thn (h1 pins s σ H D I h) fun f s1 q => ?_)
 cases f with
 | next => exact wpAny_execs_nil q
 | ret v => exact q
 | brk => exact q
 | cont => exact q
theorem Inv.quiet {pins : List (Addr × Obj)} {σ : St} {H : Hp} {s : Shared} (I : Inv X pins σ H s) : interactive X.env = false := by simp [interactive, I.ok.kind]
def tDrop (te : TE) : TS := fun D σ H => te σ H fun _ H1 => D.nx σ H1
theorem ps_expr (he : PE X e te) (hs : swapsWith e none pos.line X.env = pure false := by rfl) : PS X (.Expr e pos) (tDrop te) := by
 intro pins s σ H D I h
 exact wpAny_Expr_any (thn (he pins s σ H _ I h) fun v s1 ⟨x, H1, I1, r1, q1⟩ => ⟨σ, H1, I1, q1⟩) I.quiet hs
def tRet (te : TE) : TS := fun D σ H => te σ H D.rt
theorem ps_ret (he : PE X e te) : PS X (.Return (some e) pos) (tRet te) := by
 intro pins s σ H D I h
 exact wpAny_Return_some (thn (he pins s σ H _ I h) fun v s1 ⟨x, H1, I1, r1, q1⟩ => ⟨x, σ, H1, I1, r1, q1⟩)
def tIfS (c : TT) (t u : TS) : TS := fun D σ H => c σ H fun b H1 => if b = true then t D σ H1 else u D σ H1
theorem ps_if {c : Expr} {a b : List Stmt} {tc : TT} (hc : PT X c tc) (ha : PSs X a t) (hb : PSs X b u) : PS X (.If c a b pos) (tIfS tc t u) := by
 intro pins s σ H D I h
 refine wpAny_If (thn (hc pins s σ H _ I h) fun d s1 ⟨H1, I1, q1⟩ => ?_)
 cases d with
 | true => exact ha pins s1 σ H1 D I1 q1
 | false => exact hb pins s1 σ H1 D I1 q1
def tNever : TS := fun _ _ _ => False
theorem pss_never {sts : List Stmt} : PSs X sts tNever := fun _ _ _ _ _ _ h => h.elim
end
abbrev TG := V → St → Hp → (St → Hp → Prop) → Prop
abbrev TGs := List V → St → Hp → (St → Hp → Prop) → Prop
def PG (X : Cx) (target : Expr) (t : TG) : Prop :=
 ∀ (pins : List (Addr × Obj)) (s : Shared) (σ : St) (H : Hp) (v : V) (u : Value) (Q : St → Hp → Prop), Inv X pins σ H s → RelV v u → t v σ H Q →
  wpAny (model X.prog X.w) X.A (assign target X.env u) (fun _ s' => ∃ σ' H', Inv X pins σ' H' s' ∧ Q σ' H') X.xe s
def PGs (X : Cx) (ts : List Expr) (t : TGs) : Prop :=
 ∀ (pins : List (Addr × Obj)) (s : Shared) (σ : St) (H : Hp) (vs : List V) (us : List Value) (Q : St → Hp → Prop), Inv X pins σ H s → Vals vs us → t vs σ H Q →
  wpAny (model X.prog X.w) X.A (assignInOrder ((assignEach ts X.env).map (·.2)) us) (fun _ s' => ∃ σ' H', Inv X pins σ' H' s' ∧ Q σ' H') X.xe s
abbrev TSet := V → V → V → Hp → (Hp → Prop) → Prop
def PSet (X : Cx) (t : TSet) : Prop :=
 ∀ (pins : List (Addr × Obj)) (s : Shared) (σ : St) (H : Hp) (o i v : V) (ov iv u : Value) (Q : Hp → Prop), Inv X pins σ H s → RelV o ov → RelV i iv → RelV v u → t o i v H Q →
  wpAny (model X.prog X.w) X.A (setItem ov iv u) (fun _ s' => ∃ H', Inv X pins σ H' s' ∧ Q H') X.xe s
abbrev TIp := V → V → Hp → VK → Prop
def PIp (X : Cx) (op : Operator) (t : TIp) : Prop :=
 ∀ (pins : List (Addr × Obj)) (s : Shared) (σ : St) (H : Hp) (x y : V) (v u : Value) (Q : VK), Inv X pins σ H s → RelV x v → RelV y u → t x y H Q →
  wpAny (model X.prog X.w) X.A (inplaceOp op v u) (EP X pins σ Q) X.xe s
section
variable {X : Cx} {pos : Pos}
def gName (i : Nat) : TG := fun v σ H Q => Q (σ.set i (some v)) H
theorem pg_name {i : Nat} {x : Str} (hN : X.N.Nodup) (hi : X.N[i]? = some x) (hx : Loc X.env.scope x) (hf : X.fn x = true ∨ X.env.scope.names.lookup x = some .local := by first | exact .inl rfl | exact .inr rfl | assumption) : PG X (.Name x pos) (gName i) := by
 intro pins s σ H v u Q I r h
 exact wpAny_assign_Name (store_ok I hN hi hx r (fun s' I' => ⟨_, H, I', h⟩) hf)
def gNil : TGs := fun vs σ H Q => vs = [] ∧ Q σ H
def gCons (t : TG) (u : TGs) : TGs := fun vs σ H Q => ∃ v r, vs = v :: r ∧ t v σ H fun σ' H' => u r σ' H' Q
theorem pgs_nil : PGs X [] gNil := by
 intro pins s σ H vs us Q I r h
 obtain ⟨e, h⟩ := h
 subst e
 cases r
 exact assignInOrder_nil ⟨σ, H, I, h⟩
theorem pgs_cons {e : Expr} {es : List Expr} {t : TG} {u : TGs} (h1 : PG X e t) (h2 : PGs X es u)
  (hs : (assignEach (e :: es) X.env).map (·.2) = assign e X.env :: (assignEach es X.env).map (·.2) := by rfl) : PGs X (e :: es) (gCons t u) := by
 intro pins s σ H vs us Q I r h
 obtain ⟨v, vr, e1, h⟩ := h
 subst e1
 cases r with
 | cons r rr =>
  rw [hs]
  refine assignInOrder_cons (thn (h1 pins s σ H _ _ _ I r h) fun _ s1 ⟨σ1, H1, I1, q1⟩ => ?_)
  exact h2 pins s1 σ1 H1 _ _ Q I1 rr q1
def gTup (K : PySem.W.Frag) (n : Nat) (t : TGs) : TG := fun v σ H Q => ∃ a xs, v = .ref a ∧ SqT K H a xs ∧ xs.length = n ∧ t xs σ H Q
theorem pg_tup {es : List Expr} {k : Nat} {t : TGs} {n : Nat} (hc : X.calm = true) (h : PGs X es t)
  (hn : (assignEach es X.env).length = n := by rfl) (hst : (assignEach es X.env).findIdx? (·.1) = none := by rfl) : PG X (.Tuple es k pos) (gTup X.K n t) := by
 intro pins s σ H v u Q I r hw
 obtain ⟨a, xs, e1, hq, hl, hw⟩ := hw
 subst e1
 cases r
 obtain ⟨its, rv, ht, hz⟩ := I.tuple hq
 refine assign_Tuple_tuple (I.ok.hd hc) ht (by simp [hn, ← hl, rv.length]) hst fun h' hx => ?_
 have I1 : Inv X pins σ H { s with heap := h' } := I.kept (t' := s.toks) fun b o e => hx b o (Nat.ne_of_lt (Heap.lt_size e)) e
 exact h pins _ σ H xs _ Q I1 (by simpa using rv) hw
def gSub (to ti : TE) (t : TSet) : TG := fun v σ H Q => to σ H fun o H1 => ti σ H1 fun i H2 => t o i v H2 fun H3 => Q σ H3
theorem pg_sub {o i : Expr} {to ti : TE} {t : TSet} (ho : PE X o to) (hi : PE X i ti) (hs : PSet X t)
  (ha : ∀ v, assign (.Subscript o i pos) X.env v = (do
   let ov ← holding [v] (eval o X.env)
   let iv ← holding [v, ov] (eval i X.env)
   standAt pos
   holding [v, ov, iv] (setItem ov iv v)
   release [v, ov, iv] []) := by intro _; rfl) : PG X (.Subscript o i pos) (gSub to ti t) := by
 intro pins s σ H v u Q I r h
 rw [ha]
 refine wpAny_bind (wpAny_holding (thn (ho pins s σ H _ I h) fun ov s1 ⟨x, H1, I1, r1, q1⟩ => ?_))
 refine wpAny_bind (wpAny_holding (thn (hi pins s1 σ H1 _ I1 q1) fun iv s2 ⟨y, H2, I2, r2, q2⟩ => ?_))
 refine wpAny_bind (wpAny_standAt (wpAny_bind (wpAny_holding (thn (hs pins s2 σ H2 x y v ov iv u _ I2 r1 r2 r q2) fun _ s3 ⟨H3, I3, q3⟩ => ?_))))
 exact wpAny_release ⟨σ, H3, I3, q3⟩
def tAsg (te : TE) (g : TG) : TS := fun D σ H => te σ H fun x H1 => g x σ H1 D.nx
theorem ps_asg {tg e : Expr} {te : TE} {g : TG} (he : PE X e te) (hg : PG X tg g) (hs : swapsWithSole [tg] e pos.line X.env = pure false := by rfl) (hw : swappedStores [tg] e X.env = pure none := by rfl)
  (h1 : (assignEach [tg] X.env).map (·.2) = [assign tg X.env] := by rfl) : PS X (.Assign [tg] e pos) (tAsg te g) := by
 intro pins s σ H D I h
 refine wpAny_Assign_stores (thn (he pins s σ H _ I h) fun v s1 ⟨x, H1, I1, r1, q1⟩ => ?_) hs hw
 rw [h1]
 exact thn (hg pins s1 σ H1 x v _ I1 r1 q1) fun _ s2 q => q
theorem ps_set {i : Nat} {x : Str} {e : Expr} {te : TE} {pos' : Pos} (hN : X.N.Nodup) (hi : X.N[i]? = some x) (hx : Loc X.env.scope x) (he : PE X e te) (hs : swapsWith e (some (.Name x pos')) pos.line X.env = pure false := by rfl) (hf : X.fn x = true ∨ X.env.scope.names.lookup x = some .local := by first | exact .inl rfl | exact .inr rfl | assumption) :
  PS X (.Assign [.Name x pos'] e pos) (tAsg te (gName i)) := by
 intro pins s σ H D I h
 refine wpAny_Assign_Name (thn (he pins s σ H _ I h) fun v s1 ⟨y, H1, I1, r1, q1⟩ => ?_) hs
 exact store_ok I1 hN hi hx r1 (fun s2 I2 => ⟨_, H1, I2, q1⟩) hf
def tPar (i j : Nat) (ta : TA) : TS := fun D σ H => ta σ H fun vs H1 => ∃ v w, vs = [v, w] ∧ D.nx ((σ.set i (some v)).set j (some w)) H1
theorem ps_par {i j : Nat} {x y : Str} {a b : Expr} {ta : TA} {px py pt : Pos} {kt k2 pt2} (hc : X.calm = true) (hN : X.N.Nodup) (hi : X.N[i]? = some x) (hj : X.N[j]? = some y) (hij : i ≠ j)
  (hx : X.env.scope.names.lookup x = some .local) (hy : X.env.scope.names.lookup y = some .local) (ha : PA X [a, b] ta)
  (hw : swappedStores [.Tuple [.Name x px, .Name y py] kt pt] (.Tuple [a, b] k2 pt2) X.env = pure (some [x, y]))
  (hs : swapsWithSole [.Tuple [.Name x px, .Name y py] kt pt] (.Tuple [a, b] k2 pt2) pos.line X.env = pure false := by rfl) :
  PS X (.Assign [.Tuple [.Name x px, .Name y py] kt pt] (.Tuple [a, b] k2 pt2) pos) (tPar i j ta) := by
 intro pins s σ H D I h
 rw [exec_Assign_arm]
 refine wpAny_bind (wpAny_standAt ?_)
 rw [hs]
 refine wpAny_bind (wpAny_pure ?_)
 rw [if_neg (by decide)]
 refine wpAny_bind (Tuple_ (thn (ha _ pins s σ H _ I h) fun us s1 ⟨vs, H1, I1, r1, q1⟩ => ?_))
 obtain ⟨v, w, e1, q1⟩ := q1
 subst e1
 obtain ⟨u1, u2, rfl, rv, rw'⟩ : ∃ u1 u2, us = [u1, u2] ∧ RelV v u1 ∧ RelV w u2 := by
  cases r1 with
  | cons p q =>
   cases q with
   | cons p' q' =>
    cases q'
    exact ⟨_, _, rfl, p, p'⟩
 refine wpAny_newObj_type ?_ (by show 2 ≤ sizeLine; decide)
 have I2 : Inv X pins σ H1 { s1 with heap := s1.heap.push { cls := .type "tuple", data := .seq [u1, u2].toArray } } := I1.kept (t' := s1.toks) fun b o e => Heap.get?_push_of_some _ e
 rw [hw]
 refine wpAny_bind (wpAny_pure ?_)
 show wpAny (model X.prog X.w) X.A (do rule "assign.swapped-stores"; let items ← unpackItems (.ref s1.heap.objs.size) 2 none; assignInOrder [fun v => bindName X.env y v, fun v => bindName X.env x v] items.reverse; pure Flow.next) _ _ _
 refine wpAny_bind (wpAny_rule (wpAny_bind (unpackItems_tuple (items := #[u1, u2]) (I.ok.hd hc) (IsTup.new s1.heap _) fun h' hx' => ?_)))
 have I3 := I2.kept (h' := h') (t' := s1.toks) fun b o e => hx' b o (Nat.ne_of_lt (Heap.lt_size e)) e
 show wpAny _ _ (assignInOrder [fun v => bindName X.env y v, fun v => bindName X.env x v] [u2, u1] >>= fun _ => pure Flow.next) _ _ _
 refine wpAny_bind (assignInOrder_cons (wpAny_bindName (store_ok I3 hN hj (.inl hy) rw' (fun s2 I4 => ?_) (.inr hy))))
 refine assignInOrder_cons (wpAny_bindName (store_ok I4 hN hi (.inl hx) rv (fun s3 I5 => assignInOrder_nil (wpAny_pure ?_)) (.inr hx)))
 rw [List.set_comm _ _ (Ne.symm hij)] at I5
 exact ⟨_, H1, I5, q1⟩
def tAug (i : Nat) (te : TE) (ti : TIp) : TS := fun D σ H => ∃ x, σ[i]? = some (some x) ∧ te σ H fun y H1 => ti x y H1 fun z H2 => D.nx (σ.set i (some z)) H2
theorem ps_aug {i : Nat} {x : Str} {e : Expr} {te : TE} {op : Operator} {ti : TIp} {pos' : Pos} (hN : X.N.Nodup) (hi : X.N[i]? = some x) (hx : Loc X.env.scope x) (he : PE X e te) (ho : PIp X op ti) (hf : X.fn x = true ∨ X.env.scope.names.lookup x = some .local := by first | exact .inl rfl | exact .inr rfl | assumption) :
  PS X (.AugAssign (.Name x pos') op e pos) (tAug i te ti) := by
 intro pins s σ H D I h
 obtain ⟨v, e1, h⟩ := h
 obtain ⟨m, hn, hl⟩ := I.loc
 have vis : Vis X.env.scope x := by rcases hx with k | k; exact .inl k; exact .inr (.inl k)
 obtain ⟨u, r, l⟩ := hl i x v hi e1 vis
 refine wpAny_AugAssign_Name ?_
 have go : wpAny (model X.prog X.w) X.A (eval e X.env) (fun w s₂ => wpAny (model X.prog X.w) X.A (inplaceOp op u w) (fun r s₃ => wpAny (model X.prog X.w) X.A (storeName X.env x r) (fun _ => SP X pins D .next) X.xe s₃) X.xe s₂) X.xe s := by
  refine thn (he pins s σ H _ I h) fun w s1 ⟨y, H1, I1, r1, q1⟩ => ?_
  refine thn (ho pins s1 σ H1 v y u w _ I1 r r1 q1) fun z s2 ⟨zv, H2, I2, r2, q2⟩ => ?_
  exact store_ok I2 hN hi hx r2 (fun s3 I3 => ⟨_, H2, I3, q2⟩) hf
 rcases l with ⟨hk, hm⟩ | ⟨hk, c, hc, hcell⟩
 ·exact wpAny_loadName_local I.ok.kind hk hn hm go
 ·rcases hk with hk | hk
  ·exact wpAny_loadName_cell I.ok.kind hk hc hcell go
  ·rcases hx with k | k
   ·have : X.env.scope.names.lookup x = some .free := hk
    rw [k] at this; cases this
   ·have : X.env.scope.names.lookup x = some .free := hk
    rw [k] at this; cases this
def ipI (f : Int → Int → Int) : TIp := fun x y H Q => ∃ i j, x = .int i ∧ y = .int j ∧ Q (.int (f i j)) H
theorem ip_add : PIp X .Add (ipI fun i j => i + j) := by
 intro pins s σ H x y v u Q I r1 r2 h
 obtain ⟨i, j, e1, e2, q⟩ := h
 subst e1; subst e2
 obtain ⟨t, rfl⟩ := r1
 obtain ⟨t', rfl⟩ := r2
 exact iadd_int ⟨.int _, H, I.tok _, ⟨_, rfl⟩, q⟩
end
section
variable {X : Cx} {pos : Pos}
def tWhile (c : TT) (tb : TS) : TS := fun D σ H => ∃ W : Nat → St → Hp → Prop, (∃ m, W m σ H) ∧ ∀ m σ H, W m σ H →
 c σ H fun b H1 => if b = true then ∃ N : St → Hp → Prop, (∀ σ' H', N σ' H' → ∃ m', m' < m ∧ W m' σ' H') ∧ tb { D with nx := N, ct := N, bk := D.nx } σ H1 else D.nx σ H1
theorem ps_while {c : Expr} {body : List Stmt} {tc : TT} {tb : TS} (hp : PassesOwn (model X.prog X.w) X.A X.env X.xe) (hc : PT X c tc) (hb : PSs X body tb) : PS X (.While c body [] pos) (tWhile tc tb) := by
 intro pins s σ H D I h
 obtain ⟨W, ⟨m0, w0⟩, turn⟩ := h
 refine wpAny_While (codeAny_whileLoop (fun n s' => ∃ σ' H', Inv X pins σ' H' s' ∧ W n σ' H') ?_ m0 ⟨σ, H, I, w0⟩)
 rintro n s1 ⟨σ1, H1, I1, w1⟩
 refine wpAny_passesOwn hp (thn (hc pins s1 σ1 H1 _ I1 (turn n σ1 H1 w1)) fun b s2 ⟨H2, I2, q2⟩ => ?_)
 cases b with
 | true =>
  obtain ⟨N, hN, q2⟩ := q2
  rw [if_pos rfl]
  refine wpAny_passesOwn hp (thn (hb pins s2 σ1 H2 _ I2 q2) fun f s3 q3 => ?_)
  cases f with
  | next =>
   obtain ⟨σ3, H3, I3, n3⟩ := q3
   obtain ⟨m', hm, w3⟩ := hN σ3 H3 n3
   exact ⟨m', hm, σ3, H3, I3, w3⟩
  | cont =>
   obtain ⟨σ3, H3, I3, n3⟩ := q3
   obtain ⟨m', hm, w3⟩ := hN σ3 H3 n3
   exact ⟨m', hm, σ3, H3, I3, w3⟩
  | brk => exact q3
  | ret v => exact q3
 | false =>
  rw [if_neg Bool.false_ne_true]
  exact wpAny_execs_nil ⟨σ1, H2, I2, q2⟩
end
structure It where
 go : Nat → Hp → Prop
 yld : Nat → Hp → V → Hp → Prop
 stop : Nat → Hp → Prop
def FpOk (X : Cx) (pins : List (Addr × Obj)) (H : Hp) (b : Addr) : Prop :=
 H b = none ∧ b ≠ X.env.locals ∧ b ∉ X.fs ∧ (b ∈ X.ex ∨ X.s₀.heap.objs.size ≤ b) ∧ (∀ x c, X.env.cells.lookup x = some c → c ≠ b) ∧ ∀ p ∈ X.pn ++ pins, p.1 ≠ b
theorem Inv.fpOk {X : Cx} {pins : List (Addr × Obj)} {σ : St} {H H' : Hp} {s : Shared} {b : Addr} (I : Inv X pins σ H s) (hb : s.heap.objs.size ≤ b) (hn : H' b = none) : FpOk X pins H' b := by
 refine ⟨hn, Nat.ne_of_gt (Nat.lt_of_lt_of_le I.lt hb), I.nofs hb, .inr (Nat.le_trans I.sz hb), fun x c e z => ?_, fun p hp z => ?_⟩
 ·obtain ⟨v, q⟩ := I.cell x c e
  exact absurd (Nat.lt_of_lt_of_le q.lt (by rw [z]; exact hb)) (Nat.lt_irrefl _)
 ·exact absurd (Nat.lt_of_lt_of_le (Heap.lt_size (I.pin p hp).1) (by rw [z]; exact hb)) (Nat.lt_irrefl _)
structure Turn (P : Program) (w : World) (K : PySem.W.Frag) (tg : Expr) (J : It) (fp : List Addr) (it : Addr) (tn : Nat → Heap → Prop) : Prop where
 mem : it ∈ fp
 obj : ∀ i h, tn i h → ∀ b ∈ fp, ∃ o, h.get? b = some o ∧ ∀ v, o.data ≠ .cell v
 keep : ∀ i h h', tn i h → (∀ b ∈ fp, ∀ o, h.get? b = some o → h'.get? b = some o) → tn i h'
 item : ∀ (X : Cx), X.prog = P → X.w = w → X.K = K → X.calm = true → ∀ (i : Nat) (pins : List (Addr × Obj)) (s : Shared) (σ : St) (H : Hp) (E : Value → Shared → Prop), Inv X pins σ H s → (∀ b ∈ fp, FpOk X pins H b) → tn i s.heap → J.go i H →
  wpAny (model P w) X.A (pyNext (.ref it)) (fun r s1 => ∃ u, r = some u ∧
   wpAny (model P w) X.A (letOwnedTupleGo tg (.ref it) u) (fun _ s2 => ∃ x H', Inv X pins σ H' s2 ∧ RelV x u ∧ J.yld i H x H' ∧ tn (i + 1) s2.heap ∧ ∀ b ∈ fp, H' b = none) E s1) E s
 done : ∀ (X : Cx), X.prog = P → X.w = w → X.K = K → X.calm = true → ∀ (i : Nat) (pins : List (Addr × Obj)) (s : Shared) (σ : St) (H : Hp) (E : Value → Shared → Prop), Inv X pins σ H s → (∀ b ∈ fp, FpOk X pins H b) → tn i s.heap → J.stop i H →
  wpAny (model P w) X.A (pyNext (.ref it)) (fun r s1 => r = none ∧ Inv X pins σ H s1) E s
 self : ∀ (A : Around) (i : Nat) (s : Shared) (Q : Value → Shared → Prop) (E : Value → Shared → Prop), tn i s.heap → Q (.ref it) s → wpAny (model P w) A (pyIter (.ref it)) Q E s
abbrev TI := St → Hp → (It → Hp → Prop) → Prop
def PIE (X : Cx) (pins : List (Addr × Obj)) (σ : St) (tg : Expr) (R : It → Hp → Prop) (itv : Value) (s2 : Shared) : Prop :=
 ∃ (it : Addr) (fp : List Addr) (tn : Nat → Heap → Prop) (J : It) (H' : Hp), itv = .ref it ∧ Inv X pins σ H' s2 ∧ Turn X.prog X.w X.K tg J fp it tn ∧ tn 0 s2.heap ∧ (∀ b ∈ fp, FpOk X pins H' b) ∧ R J H'
def PI (X : Cx) (tg iter : Expr) (wi : TI) : Prop :=
 ∀ (pins : List (Addr × Obj)) (s : Shared) (σ : St) (H : Hp) (R : It → Hp → Prop), Inv X pins σ H s → wi σ H R →
  wpAny (model X.prog X.w) X.A (eval iter X.env) (fun v s1 => wpAny (model X.prog X.w) X.A (pyIter v) (PIE X pins σ tg R) X.xe s1) X.xe s
theorem go_of {M : Model} {A : Around} {E : Value → Shared → Prop} {s : Shared} {tg : Expr} {it : Addr} {u : Value} {o : Obj} {n : String} {vs : Array Value} {Q : Unit → Shared → Prop} (ho : s.heap.get? it = some o) (hc : o.cls = .type n) (hd : o.data = .fields vs)
    (hn : ["enumerate", "zip", "dict_itemiterator", "dict_reverseitemiterator", "odict_iterator", "itertools.zip_longest", "itertools.pairwise"].contains n = false) (hQ : Q () s) : wpAny M A (letOwnedTupleGo tg (.ref it) u) Q E s := by
  unfold letOwnedTupleGo
  cases tg <;> first
    | exact wpAny_pure hQ
    | (cases u <;> first
        | exact wpAny_pure hQ
        | (refine wpAny_bind (wpAny_load ho ?_)
           rw [hc, hd]
           show wpAny M A (if (["enumerate", "zip", "dict_itemiterator", "dict_reverseitemiterator", "odict_iterator", "itertools.zip_longest", "itertools.pairwise"].contains n && vs[0]? == some (rawInt _)) = true then _ else _) Q E s
           rw [if_neg (by intro h; rw [hn, Bool.false_and] at h; cases h)]
           exact wpAny_pure hQ))
def Itl (K : PySem.W.Frag) (a : Addr) : It :=
 ⟨fun i H => ∃ xs x, SqL K H a xs ∧ xs[i]? = some x, fun i H x H' => H' = H ∧ ∀ xs, SqL K H a xs → xs[i]? = some x, fun i H => ∃ xs, SqL K H a xs ∧ xs.length ≤ i⟩
def Itt (K : PySem.W.Frag) (a : Addr) : It :=
 ⟨fun i H => ∃ xs x, SqT K H a xs ∧ xs[i]? = some x, fun i H x H' => H' = H ∧ ∀ xs, SqT K H a xs → xs[i]? = some x, fun i H => ∃ xs, SqT K H a xs ∧ xs.length ≤ i⟩
def Itr (lo : Int) (n : Nat) : It := ⟨fun i _ => i < n, fun i H x H' => H' = H ∧ x = .int (lo + i), fun i _ => n ≤ i⟩
theorem turn_list {P : Program} {w : World} {K : PySem.W.Frag} {tg : Expr} (a it : Addr) : Turn P w K tg (Itl K a) [it] it (fun i h => h.IsListIter it a i) where
 mem := by simp
 obj := fun i h st b hb => by
  have e : b = it := by simpa using hb
  subst e
  obtain ⟨o, e, c, d⟩ := st
  exact ⟨o, e, fun v z => by rw [d] at z; cases z⟩
 keep := fun i h h' st k => st.at fun o e => k it (by simp) o e
 item := by
  intro X hP hw hK hc i pins s σ H E I hf st hg
  subst hP hw hK
  obtain ⟨xs, x, hq, hx⟩ := hg
  obtain ⟨its, rv, p, hz⟩ := I.list hq
  obtain ⟨u, hu, ru⟩ := rv.get hx
  obtain ⟨f0, f1, f2, f3, f4, f5⟩ := hf it (by simp)
  refine wpAny_pyNext_list_item st p.isList (x := u) (by simpa using hu) fun h' st' sb => ?_
  have I1 : Inv X pins σ H { s with heap := h' } := I.turned (t' := s.toks) (fun b o hb e => (sb.2 b hb).trans e) f0 f1 f3 f4 f5
  obtain ⟨o, e, c, d⟩ := id st'
  exact ⟨u, rfl, go_of (s := { s with heap := h' }) e c d (by decide) ⟨x, H, I1, ru, ⟨rfl, fun ys hy => by rw [I.list_inj hy hq]; exact hx⟩, st', fun b hb => (hf b hb).1⟩⟩
 done := by
  intro X hP hw hK hc i pins s σ H E I hf st hg
  subst hP hw hK
  obtain ⟨xs, hq, hx⟩ := hg
  obtain ⟨its, rv, p, hz⟩ := I.list hq
  obtain ⟨f0, f1, f2, f3, f4, f5⟩ := hf it (by simp)
  have hl := rv.length
  exact wpAny_pyNext_list_end (I.ok.hd hc) st p.isList (by simp; omega) fun h' eb => ⟨rfl, I.turned (t' := s.toks) (fun b o hb e => eb b o hb e) f0 f1 f3 f4 f5⟩
 self := fun _ _ _ _ _ st h => wpAny_pyIter_listiter st h
theorem turn_tuple {P : Program} {w : World} {K : PySem.W.Frag} {tg : Expr} (a it : Addr) : Turn P w K tg (Itt K a) [it] it (fun i h => h.IsTupleIter it a i) where
 mem := by simp
 obj := fun i h st b hb => by
  have e : b = it := by simpa using hb
  subst e
  obtain ⟨o, e, c, d⟩ := st
  exact ⟨o, e, fun v z => by rw [d] at z; cases z⟩
 keep := fun i h h' st k => st.at fun o e => k it (by simp) o e
 item := by
  intro X hP hw hK hc i pins s σ H E I hf st hg
  subst hP hw hK
  obtain ⟨xs, x, hq, hx⟩ := hg
  obtain ⟨its, rv, p, hz⟩ := I.tuple hq
  obtain ⟨u, hu, ru⟩ := rv.get hx
  obtain ⟨f0, f1, f2, f3, f4, f5⟩ := hf it (by simp)
  refine wpAny_pyNext_tuple_item st (show s.heap.IsTuple a its.toArray from p) (x := u) (by simpa using hu) fun h' st' sb => ?_
  have I1 : Inv X pins σ H { s with heap := h' } := I.turned (t' := s.toks) (fun b o hb e => (sb.2 b hb).trans e) f0 f1 f3 f4 f5
  obtain ⟨o, e, c, d⟩ := id st'
  exact ⟨u, rfl, go_of (s := { s with heap := h' }) e c d (by decide) ⟨x, H, I1, ru, ⟨rfl, fun ys hy => by rw [I.tuple_inj hy hq]; exact hx⟩, st', fun b hb => (hf b hb).1⟩⟩
 done := by
  intro X hP hw hK hc i pins s σ H E I hf st hg
  subst hP hw hK
  obtain ⟨xs, hq, hx⟩ := hg
  obtain ⟨its, rv, p, hz⟩ := I.tuple hq
  obtain ⟨f0, f1, f2, f3, f4, f5⟩ := hf it (by simp)
  have hl := rv.length
  exact wpAny_pyNext_tuple_end (I.ok.hd hc) st (show s.heap.IsTuple a its.toArray from p) (by simp; omega) fun h' eb => ⟨rfl, I.turned (t' := s.toks) (fun b o hb e => eb b o hb e) f0 f1 f3 f4 f5⟩
 self := fun _ _ _ _ _ st h => wpAny_pyIter_tupleiter st h
theorem turn_range {P : Program} {w : World} {K : PySem.W.Frag} {tg : Expr} (it : Addr) (lo : Int) (n : Nat) : Turn P w K tg (Itr lo n) [it] it (fun i h => IsRangeIter h it (lo + (i : Nat) * 1) ((n : Int) - (i : Nat)) 1) where
 mem := by simp
 obj := fun i h st b hb => by
  have e : b = it := by simpa using hb
  subst e
  exact ⟨_, st, fun v z => by
   have z' : Data.fields _ = Data.cell v := z
   cases z'⟩
 keep := fun i h h' st k => k it (by simp) _ st
 item := by
  intro X hP hw hK hc i pins s σ H E I hf st hg
  subst hP hw hK
  obtain ⟨f0, f1, f2, f3, f4, f5⟩ := hf it (by simp)
  have W := Walks.range (prog := X.prog) (w := X.w) (I.ok.hd hc) it lo 1 n
  refine W.item i s _ _ hg st fun v h' tk hv st' kk => ?_
  obtain ⟨t, rfl⟩ := hv
  have I1 : Inv X pins σ H { s with heap := h', toks := tk } := I.turned (fun b o hb e => kk b o (by simpa using hb) e) f0 f1 f3 f4 f5
  refine ⟨_, rfl, go_of (s := { s with heap := h', toks := tk }) (n := "range_iterator") st' rfl rfl (by decide) ⟨.int (lo + i), H, I1, ⟨t, ?_⟩, ⟨rfl, rfl⟩, st', fun b hb => (hf b hb).1⟩⟩
  rw [Int.mul_one]
 done := by
  intro X hP hw hK hc i pins s σ H E I hf st hg
  subst hP hw hK
  obtain ⟨f0, f1, f2, f3, f4, f5⟩ := hf it (by simp)
  exact wpAny_pyNext_range_end (I.ok.hd hc) st (by have : n ≤ i := hg; omega) fun h' eb => ⟨rfl, I.turned (t' := s.toks) (fun b o hb e => eb b o hb e) f0 f1 f3 f4 f5⟩
 self := fun _ _ _ _ _ st h => wpAny_pyIter_rangeiter st h
end L2
namespace L2
open PySem PySem.Spec PyProof.Rows
section
variable {X : Cx} {tg : Expr}
def iList (K : PySem.W.Frag) (tl : TE) : TI := fun σ H R => tl σ H fun x H1 => ∃ a, x = .ref a ∧ (∃ xs, SqL K H1 a xs) ∧ R (Itl K a) H1
def iTup (K : PySem.W.Frag) (tl : TE) : TI := fun σ H R => tl σ H fun x H1 => ∃ a, x = .ref a ∧ (∃ xs, SqT K H1 a xs) ∧ R (Itt K a) H1
theorem pi_list {l : Expr} {tl : TE} (hl : PE X l tl) : PI X tg l (iList X.K tl) := by
 intro pins s σ H R I h
 refine thn (hl pins s σ H _ I h) fun v s1 ⟨x, H1, I1, r1, q1⟩ => ?_
 obtain ⟨a, e, ⟨xs, hq⟩, q⟩ := q1
 subst e
 cases r1
 obtain ⟨its, rv, p, hz⟩ := I1.list hq
 refine wpAny_pyIter_list p.isList ?_
 refine ⟨s1.heap.objs.size, [s1.heap.objs.size], _, _, H1, rfl, I1.kept (t' := s1.toks) fun b o e => Heap.get?_push_of_some _ e, turn_list a _, ⟨_, Heap.get?_push_size _ rfl, rfl, rfl⟩, fun b hb => ?_, q⟩
 have e : b = s1.heap.objs.size := by simpa using hb
 subst e
 exact I1.fpOk (Nat.le_refl _) (I1.hok.fresh (Nat.le_refl _))
theorem pi_tup {l : Expr} {tl : TE} (hl : PE X l tl) : PI X tg l (iTup X.K tl) := by
 intro pins s σ H R I h
 refine thn (hl pins s σ H _ I h) fun v s1 ⟨x, H1, I1, r1, q1⟩ => ?_
 obtain ⟨a, e, ⟨xs, hq⟩, q⟩ := q1
 subst e
 cases r1
 obtain ⟨its, rv, p, hz⟩ := I1.tuple hq
 refine wpAny_pyIter_tuple (show s1.heap.IsTuple a its.toArray from p) ?_
 refine ⟨s1.heap.objs.size, [s1.heap.objs.size], _, _, H1, rfl, I1.kept (t' := s1.toks) fun b o e => Heap.get?_push_of_some _ e, turn_tuple a _, ⟨_, Heap.get?_push_size _ rfl, rfl, rfl⟩, fun b hb => ?_, q⟩
 have e : b = s1.heap.objs.size := by simpa using hb
 subst e
 exact I1.fpOk (Nat.le_refl _) (I1.hok.fresh (Nat.le_refl _))
theorem range_it {pins : List (Addr × Obj)} {σ : St} {H : Hp} {s : Shared} {R : It → Hp → Prop} {E : Value → Shared → Prop} {lo hi : Int} {t u v : Tok} {tk : Nat} (I : Inv X pins σ H s) (h1 : -(2 ^ 62) ≤ lo) (h2 : lo < 2 ^ 62) (h3 : -(2 ^ 62) ≤ hi) (h4 : hi < 2 ^ 62)
  (q : R (Itr lo (hi - lo).toNat) H) : wpAny (model X.prog X.w) X.A (pyIter (.ref s.heap.objs.size)) (PIE X pins σ tg R) E { s with heap := s.heap.push { cls := .type "range", data := .fields #[.int lo t, .int hi u, .int 1 v] }, toks := tk } := by
 refine wpAny_pyIter_range (IsRange.new ..) (small_one h1 h2 h3 h4) ?_
 have I1 : Inv X pins σ H { s with heap := s.heap.push { cls := .type "range", data := .fields #[.int lo t, .int hi u, .int 1 v] }, toks := tk } := I.kept fun b o e => Heap.get?_push_of_some _ e
 refine ⟨(s.heap.push { cls := .type "range", data := .fields #[.int lo t, .int hi u, .int 1 v] }).objs.size, [(s.heap.push { cls := .type "range", data := .fields #[.int lo t, .int hi u, .int 1 v] }).objs.size], _, _, H, rfl,
  I1.kept (t' := tk) fun b o e => Heap.get?_push_of_some _ e, turn_range _ lo (hi - lo).toNat, ?_, fun b hb => ?_, q⟩
 ·have e1 : lo + ((0 : Nat) : Int) * 1 = lo := by simp
  have e2 : (((hi - lo).toNat : Nat) : Int) - ((0 : Nat) : Int) = Builtin.Range.rangeSize lo hi 1 := by rw [rangeSize_one]; split <;> omega
  show IsRangeIter _ _ (lo + ((0 : Nat) : Int) * 1) ((((hi - lo).toNat : Nat) : Int) - ((0 : Nat) : Int)) 1
  rw [e1, e2]
  exact Heap.get?_push_size _ rfl
 ·have e : b = (s.heap.push { cls := .type "range", data := .fields #[.int lo t, .int hi u, .int 1 v] }).objs.size := by simpa using hb
  subst e
  exact I1.fpOk (Nat.le_refl _) (I1.hok.fresh (Nat.le_refl _))
def iRng1 (ta : TA) : TI := fun σ H R => ta σ H fun vs H1 => ∃ j : Int, vs = [.int j] ∧ -(2 ^ 62) ≤ j ∧ j < 2 ^ 62 ∧ R (Itr 0 j.toNat) H1
def iRng2 (ta : TA) : TI := fun σ H R => ta σ H fun vs H1 => ∃ i j : Int, vs = [.int i, .int j] ∧ (-(2 ^ 62) ≤ i ∧ i < 2 ^ 62 ∧ -(2 ^ 62) ≤ j ∧ j < 2 ^ 62) ∧ R (Itr i (j - i).toNat) H1
theorem pi_range1 {a : Expr} {ta : TA} {p pos : Pos} (hg : Gl X "range") (hm : X.mg "range" = none) (ha : PA X [a] ta) (hs : starEach [a] X.env = [(false, eval a X.env)] := by rfl) : PI X tg (.Call (.Name "range" p) [a] [] pos) (iRng1 ta) := by
 intro pins s σ H R I h
 refine Call_ (ld_blt I hg hm boot_range (PyProof.Rows.callWith_type1 (thn (ha pos pins s σ H _ I h) fun us s1 ⟨vs, H1, I1, r1, q1⟩ => ?_) hs rfl))
 obtain ⟨j, e, q1, q2, q⟩ := q1
 subst e
 cases r1 with
 | cons r rr =>
  cases rr
  obtain ⟨t, rfl⟩ := r
  exact call_range_1 (range_it I1 (by omega) (by omega) q1 q2 (by simpa using q))
theorem pi_range2 {a b : Expr} {ta : TA} {p pos : Pos} (hg : Gl X "range") (hm : X.mg "range" = none) (ha : PA X [a, b] ta) (hs : starEach [a, b] X.env = [(false, eval a X.env), (false, eval b X.env)] := by rfl) (hs2 : starEach [b] X.env = [(false, eval b X.env)] := by rfl) :
  PI X tg (.Call (.Name "range" p) [a, b] [] pos) (iRng2 ta) := by
 intro pins s σ H R I h
 refine Call_ (ld_blt I hg hm boot_range (PyProof.Rows.callWith_type1 (thn (ha pos pins s σ H _ I h) fun us s1 ⟨vs, H1, I1, r1, q1⟩ => ?_) (by rw [hs, hs2]) (by rw [hs2]; rfl)))
 obtain ⟨i, j, e, ⟨q1, q2, q3, q4⟩, q⟩ := q1
 subst e
 cases r1 with
 | cons r rr =>
  cases rr with
  | cons r' rr =>
   cases rr
   obtain ⟨t, rfl⟩ := r
   obtain ⟨t', rfl⟩ := r'
   exact call_range_2 (range_it I1 q1 q2 q3 q4 q)
def tFor (wi : TI) (g : TG) (tb : TS) : TS := fun D σ H => wi σ H fun J H1 => ∃ W : Nat → Nat → St → Hp → Prop, (∃ m, W 0 m σ H1) ∧ ∀ i m σ H, W i m σ H →
 (J.stop i H ∧ D.nx σ H) ∨ (J.go i H ∧ ∃ N : St → Hp → Prop, (∀ σ' H', N σ' H' → ∃ m', m' < m ∧ W (i + 1) m' σ' H') ∧ ∀ x H', J.yld i H x H' → g x σ H' fun σ2 H2 => tb { D with nx := N, ct := N, bk := D.nx } σ2 H2)
def pinsAt (fp : List Addr) (h : Heap) : List (Addr × Obj) := fp.filterMap fun b => (h.get? b).map fun o => (b, o)
theorem mem_pinsAt {fp : List Addr} {h : Heap} {b : Addr} {o : Obj} (hb : b ∈ fp) (e : h.get? b = some o) : (b, o) ∈ pinsAt fp h := List.mem_filterMap.mpr ⟨b, hb, by rw [e]; rfl⟩
theorem of_pinsAt {fp : List Addr} {h : Heap} {p : Addr × Obj} (hp : p ∈ pinsAt fp h) : p.1 ∈ fp ∧ h.get? p.1 = some p.2 := by
 obtain ⟨b, hb, e⟩ := List.mem_filterMap.mp hp
 cases q : h.get? b with
 | none => rw [q] at e; cases e
 | some o =>
  rw [q] at e
  have e' : (b, o) = p := Option.some.inj e
  subst e'
  exact ⟨hb, q⟩
theorem Inv.pinned {pins : List (Addr × Obj)} {σ : St} {H : Hp} {s : Shared} {fp : List Addr} (I : Inv X pins σ H s) (hf : ∀ b ∈ fp, FpOk X pins H b) (ho : ∀ b ∈ fp, ∃ o, s.heap.get? b = some o ∧ ∀ v, o.data ≠ .cell v) : Inv X (pins ++ pinsAt fp s.heap) σ H s :=
 I.pins_of fun p hp => (List.mem_append.mp hp).elim (fun z => I.pin p (List.mem_append_right _ z)) fun z => by
  obtain ⟨hb, e⟩ := of_pinsAt z
  obtain ⟨f0, f1, f2, _⟩ := hf p.1 hb
  obtain ⟨o, e', d⟩ := ho p.1 hb
  rw [e] at e'; cases e'
  exact ⟨e, f0, f1, f2, d⟩
theorem Inv.unpinned {pins pl : List (Addr × Obj)} {σ : St} {H : Hp} {s : Shared} (I : Inv X (pins ++ pl) σ H s) : Inv X pins σ H s := I.pins_of fun p hp => I.pin p (List.mem_append_right _ (List.mem_append_left _ hp))
theorem ps_for {iter : Expr} {body : List Stmt} {wi : TI} {g : TG} {tb : TS} {pos : Pos} (hp : PassesOwn (model X.prog X.w) X.A X.env X.xe) (hc : X.calm = true) (hi : PI X tg iter wi) (hg : PG X tg g) (hb : PSs X body tb)
  (hs : ∀ x, foldedSetIterable iter X.env x = pure x := by intro _; rfl) : PS X (.For tg iter body [] pos) (tFor wi g tb) := by
 intro pins s σ H D I h
 refine wpAny_For (thn (hi pins s σ H _ I h) fun v s1 h1 => thn h1 fun itv s2 h2 => ?_) hs
 obtain ⟨it, fp, tn, J, H2, e, I2, T, st2, f2, W, ⟨m0, w0⟩, turn⟩ := h2
 subst e
 have stat : ∀ {H' : Hp}, (∀ b ∈ fp, H' b = none) → ∀ b ∈ fp, FpOk X pins H' b := fun hn b hb => ⟨hn b hb, (f2 b hb).2⟩
 refine codeAny_forLoop_any (fun n s' => ∃ i σ' H', Inv X pins σ' H' s' ∧ tn i s'.heap ∧ (∀ b ∈ fp, H' b = none) ∧ W i n σ' H') ?_ m0 ⟨0, σ, H2, I2, st2, fun b hb => (f2 b hb).1, w0⟩
 rintro n s3 ⟨i, σ3, H3, I3, st3, fr3, w3⟩
 rcases turn i n σ3 H3 w3 with ⟨stop, qn⟩ | ⟨go, N, hN, step⟩
 ·refine wpAny_passesOwn hp (thn (T.done X rfl rfl rfl hc i pins s3 σ3 H3 X.xe I3 (stat fr3) st3 stop) fun r s4 ⟨hr, I4⟩ => ?_)
  subst hr
  exact wpAny_execs_nil ⟨σ3, H3, I4, qn⟩
 ·refine wpAny_passesOwn hp (thn (T.item X rfl rfl rfl hc i pins s3 σ3 H3 X.xe I3 (stat fr3) st3 go) fun r s4 ⟨u, hr, h4⟩ => ?_)
  subst hr
  refine wpAny_passesOwn hp (thn h4 fun _ s5 ⟨x, H5, I5, r5, y5, st5, fr5⟩ => ?_)
  have I5' := I5.pinned (stat fr5) (T.obj _ _ st5)
  refine wpAny_passesOwn hp (thn (hg _ s5 σ3 H5 x u _ I5' r5 (step x H5 y5)) fun _ s6 ⟨σ6, H6, I6, q6⟩ => ?_)
  refine wpAny_passesOwn hp (thn (hb _ s6 σ6 H6 _ I6 q6) fun f s7 q7 => ?_)
  have again : ∀ {σ7 : St} {H7 : Hp}, Inv X (pins ++ pinsAt fp s5.heap) σ7 H7 s7 → N σ7 H7 → ∃ m, m < n ∧ ∃ i σ' H', Inv X pins σ' H' s7 ∧ tn i s7.heap ∧ (∀ b ∈ fp, H' b = none) ∧ W i m σ' H' := fun {σ7 H7} I7 n7 => by
   obtain ⟨m', hm, w7⟩ := hN σ7 H7 n7
   refine ⟨m', hm, i + 1, σ7, H7, I7.unpinned, T.keep _ _ _ st5 fun b hb o e => (I7.pin (b, o) (List.mem_append_right _ (List.mem_append_right _ (mem_pinsAt hb e)))).1, fun b hb => ?_, w7⟩
   obtain ⟨o, e, d⟩ := T.obj _ _ st5 b hb
   exact (I7.pin (b, o) (List.mem_append_right _ (List.mem_append_right _ (mem_pinsAt hb e)))).2.1
  cases f with
  | next => obtain ⟨σ7, H7, I7, n7⟩ := q7; exact again I7 n7
  | cont => obtain ⟨σ7, H7, I7, n7⟩ := q7; exact again I7 n7
  | brk => obtain ⟨σ7, H7, I7, q7⟩ := q7; exact ⟨σ7, H7, I7.unpinned, q7⟩
  | ret v => obtain ⟨x7, σ7, H7, I7, r7, q7⟩ := q7; exact ⟨x7, σ7, H7, I7.unpinned, r7, q7⟩
end
theorem for_list {K : PySem.W.Frag} {a : Addr} {xs : List V} {g : TG} {tb : TS} {D : Ends} {σ : St} {H : Hp} (Pv : Nat → St → Hp → Prop) (h0 : Pv 0 σ H) (hl : ∀ i σ H, i ≤ xs.length → Pv i σ H → SqL K H a xs)
  (hs : ∀ i x σ H, xs[i]? = some x → Pv i σ H → g x σ H fun σ2 H2 => tb { D with nx := Pv (i + 1), ct := Pv (i + 1), bk := D.nx } σ2 H2) (hd : ∀ σ H, Pv xs.length σ H → D.nx σ H) :
  ∃ W : Nat → Nat → St → Hp → Prop, (∃ m, W 0 m σ H) ∧ ∀ i m σ H, W i m σ H →
   ((Itl K a).stop i H ∧ D.nx σ H) ∨ ((Itl K a).go i H ∧ ∃ N : St → Hp → Prop, (∀ σ' H', N σ' H' → ∃ m', m' < m ∧ W (i + 1) m' σ' H') ∧ ∀ x H', (Itl K a).yld i H x H' → g x σ H' fun σ2 H2 => tb { D with nx := N, ct := N, bk := D.nx } σ2 H2) := by
 refine ⟨fun i m σ H => m = xs.length - i ∧ i ≤ xs.length ∧ Pv i σ H, ⟨xs.length, by simp, Nat.zero_le _, h0⟩, ?_⟩
 rintro i m σ H ⟨rfl, hi, p⟩
 have q := hl i σ H hi p
 by_cases hlt : i < xs.length
 ·refine .inr ⟨⟨xs, xs[i], q, by simp [hlt]⟩, Pv (i + 1), fun σ' H' p' => ⟨xs.length - (i + 1), by omega, rfl, hlt, p'⟩, fun x H' y => ?_⟩
  obtain ⟨e, y⟩ := y
  subst e
  exact hs i x σ _ (y xs q) p
 ·have e : i = xs.length := by omega
  subst e
  exact .inl ⟨⟨xs, q, Nat.le_refl _⟩, hd σ H p⟩
theorem for_range {lo : Int} {n : Nat} {g : TG} {tb : TS} {D : Ends} {σ : St} {H : Hp} (Pv : Nat → St → Hp → Prop) (h0 : Pv 0 σ H)
  (hs : ∀ i σ H, i < n → Pv i σ H → g (.int (lo + i)) σ H fun σ2 H2 => tb { D with nx := Pv (i + 1), ct := Pv (i + 1), bk := D.nx } σ2 H2) (hd : ∀ σ H, Pv n σ H → D.nx σ H) :
  ∃ W : Nat → Nat → St → Hp → Prop, (∃ m, W 0 m σ H) ∧ ∀ i m σ H, W i m σ H →
   ((Itr lo n).stop i H ∧ D.nx σ H) ∨ ((Itr lo n).go i H ∧ ∃ N : St → Hp → Prop, (∀ σ' H', N σ' H' → ∃ m', m' < m ∧ W (i + 1) m' σ' H') ∧ ∀ x H', (Itr lo n).yld i H x H' → g x σ H' fun σ2 H2 => tb { D with nx := N, ct := N, bk := D.nx } σ2 H2) := by
 refine ⟨fun i m σ H => m = n - i ∧ i ≤ n ∧ Pv i σ H, ⟨n, by simp, Nat.zero_le _, h0⟩, ?_⟩
 rintro i m σ H ⟨rfl, hi, p⟩
 by_cases hlt : i < n
 ·refine .inr ⟨hlt, Pv (i + 1), fun σ' H' p' => ⟨n - (i + 1), by omega, rfl, hlt, p'⟩, fun x H' y => ?_⟩
  obtain ⟨e, y⟩ := y
  subst e y
  exact hs i σ _ hlt p
 ·have e : i = n := by omega
  subst e
  exact .inl ⟨Nat.le_refl _, hd σ H p⟩
theorem while_by {c : TT} {tb : TS} {D : Ends} {σ : St} {H : Hp} (Pv : St → Hp → Prop) (μ : St → Hp → Nat) (h0 : Pv σ H)
  (hs : ∀ σ H, Pv σ H → c σ H fun b H1 => if b = true then tb { D with nx := fun σ' H' => Pv σ' H' ∧ μ σ' H' < μ σ H, ct := fun σ' H' => Pv σ' H' ∧ μ σ' H' < μ σ H, bk := D.nx } σ H1 else D.nx σ H1)
  (mono : ∀ σ H Q Q', (∀ b H1, Q b H1 → Q' b H1) → c σ H Q → c σ H Q') : tWhile c tb D σ H := by
 refine ⟨fun m σ H => m = μ σ H ∧ Pv σ H, ⟨_, rfl, h0⟩, ?_⟩
 rintro m σ H ⟨rfl, p⟩
 refine mono σ H _ _ (fun b H1 q => ?_) (hs σ H p)
 cases b with
 | true => exact ⟨_, fun σ' H' ⟨p', l⟩ => ⟨_, l, rfl, p'⟩, q⟩
 | false => exact q
end L2
namespace L2
open PySem PySem.Spec PyProof.Rows
abbrev R2 := V → V → Hp → VK → Prop
def OpR (X : Cx) (f : Value → Value → Sem Value) (r : R2) : Prop :=
 ∀ (pins : List (Addr × Obj)) (s : Shared) (σ : St) (H : Hp) (x y : V) (v u : Value) (Q : VK), Inv X pins σ H s → RelV x v → RelV y u → r x y H Q →
  wpAny (model X.prog X.w) X.A (f v u) (EP X pins σ Q) X.xe s
def UnR (X : Cx) (f : Value → Sem Value) (r : V → Hp → VK → Prop) : Prop :=
 ∀ (pins : List (Addr × Obj)) (s : Shared) (σ : St) (H : Hp) (x : V) (v : Value) (Q : VK), Inv X pins σ H s → RelV x v → r x H Q →
  wpAny (model X.prog X.w) X.A (f v) (EP X pins σ Q) X.xe s
def CallR (X : Cx) (f : Value) (r : List V → Hp → VK → Prop) : Prop :=
 ∀ (pins : List (Addr × Obj)) (s : Shared) (σ : St) (H : Hp) (xs : List V) (us : List Value) (Q : VK), Inv X pins σ H s → Vals xs us → r xs H Q →
  wpAny (model X.prog X.w) X.A (call f us) (EP X pins σ Q) X.xe s
def TruR (X : Cx) (r : V → Hp → (Bool → Hp → Prop) → Prop) : Prop :=
 ∀ (pins : List (Addr × Obj)) (s : Shared) (σ : St) (H : Hp) (x : V) (v : Value) (Q : Bool → Hp → Prop), Inv X pins σ H s → RelV x v → r x H Q →
  wpAny (model X.prog X.w) X.A (truthy v) (TP X pins σ Q) X.xe s
def tOp (r : R2) (ta tb : TE) : TE := fun σ H Q => ta σ H fun x H1 => tb σ H1 fun y H2 => r x y H2 Q
def tUn (r : V → Hp → VK → Prop) (ta : TE) : TE := fun σ H Q => ta σ H fun x H1 => r x H1 Q
def rI (C : Int → Int → Prop) (g : Int → Int → V) : R2 := fun x y H Q => ∃ i j, x = .int i ∧ y = .int j ∧ C i j ∧ Q (g i j) H
def rI0 (g : Int → Int → V) : R2 := fun x y H Q => ∃ i j, x = .int i ∧ y = .int j ∧ Q (g i j) H
def rU (g : Int → V) : V → Hp → VK → Prop := fun x H Q => ∃ i, x = .int i ∧ Q (g i) H
section
variable {X : Cx} {a b c : Expr} {ta tb tc : TE} {pos : Pos}
theorem binT (ha : PE X a ta) (hb : PE X b tb) {pins : List (Addr × Obj)} {s : Shared} {σ : St} {H : Hp} {R : V → V → Hp → Prop} (I : Inv X pins σ H s)
  (h : ta σ H fun x H1 => tb σ H1 fun y H2 => R x y H2) {Q : Value → Shared → Prop} {f : Value → Value → Sem Value}
  (hf : ∀ v u s2 x y H2, Inv X pins σ H2 s2 → RelV x v → RelV y u → R x y H2 → wpAny (model X.prog X.w) X.A (f v u) Q X.xe s2) :
  wpAny (model X.prog X.w) X.A (eval a X.env) (fun v s₁ => wpAny (model X.prog X.w) X.A (eval b X.env) (fun u s₂ => wpAny (model X.prog X.w) X.A (f v u) Q X.xe s₂) X.xe s₁) X.xe s := by
 refine thn (ha pins s σ H _ I h) fun v s1 ⟨x, H1, I1, r1, q1⟩ => ?_
 refine thn (hb pins s1 σ H1 _ I1 q1) fun u s2 ⟨y, H2, I2, r2, q2⟩ => ?_
 exact hf v u s2 x y H2 I2 r1 r2 q2
theorem pe_op {op : Operator} {r : R2} (ho : OpR X (binaryOp op) r) (ha : PE X a ta) (hb : PE X b tb) : PE X (.BinOp a op b pos) (tOp r ta tb) := by
 intro pins s σ H Q I h
 exact wpAny_BinOp (binT ha hb I h fun v u s2 x y H2 I2 rx ry q => ho pins s2 σ H2 x y v u Q I2 rx ry q)
theorem pe_un {op : UnaryOp} {r : V → Hp → VK → Prop} (ho : UnR X (unaryOp op) r) (ha : PE X a ta) : PE X (.UnaryOp op a pos) (tUn r ta) := by
 intro pins s σ H Q I h
 exact UnaryOp_ (thn (ha pins s σ H _ I h) fun v s1 ⟨x, H1, I1, r1, q1⟩ => ho pins s1 σ H1 x v Q I1 r1 q1)
theorem opI {f : Value → Value → Sem Value} {C : Int → Int → Prop} {g : Int → Int → Int}
  (rule : ∀ (i j : Int) (t u : Tok) (s : Shared) (Q : Value → Shared → Prop) (E : Value → Shared → Prop), C i j → Q (.int (g i j) s.toks) { s with toks := s.toks + 1 } → wpAny (model X.prog X.w) X.A (f (.int i t) (.int j u)) Q E s) :
  OpR X f (rI C fun i j => .int (g i j)) := by
 intro pins s σ H x y v u Q I rx ry h
 obtain ⟨i, j, rfl, rfl, hc, q⟩ := h
 obtain ⟨t, rfl⟩ := rx
 obtain ⟨t', rfl⟩ := ry
 exact rule i j t t' s _ _ hc ⟨.int (g i j), H, I.tok _, ⟨_, rfl⟩, q⟩
theorem opI0 {f : Value → Value → Sem Value} {g : Int → Int → Int}
  (rule : ∀ (i j : Int) (t u : Tok) (s : Shared) (Q : Value → Shared → Prop) (E : Value → Shared → Prop), Q (.int (g i j) s.toks) { s with toks := s.toks + 1 } → wpAny (model X.prog X.w) X.A (f (.int i t) (.int j u)) Q E s) :
  OpR X f (rI0 fun i j => .int (g i j)) := by
 intro pins s σ H x y v u Q I rx ry h
 obtain ⟨i, j, rfl, rfl, q⟩ := h
 obtain ⟨t, rfl⟩ := rx
 obtain ⟨t', rfl⟩ := ry
 exact rule i j t t' s _ _ ⟨.int (g i j), H, I.tok _, ⟨_, rfl⟩, q⟩
theorem opB0 {f : Value → Value → Sem Value} {g : Int → Int → Bool}
  (rule : ∀ (i j : Int) (t u : Tok) (s : Shared) (Q : Value → Shared → Prop) (E : Value → Shared → Prop), Q (.bool (g i j)) s → wpAny (model X.prog X.w) X.A (f (.int i t) (.int j u)) Q E s) :
  OpR X f (rI0 fun i j => .bl (g i j)) := by
 intro pins s σ H x y v u Q I rx ry h
 obtain ⟨i, j, rfl, rfl, q⟩ := h
 obtain ⟨t, rfl⟩ := rx
 obtain ⟨t', rfl⟩ := ry
 exact rule i j t t' s _ _ ⟨.bl (g i j), H, I, rfl, q⟩
def CDiv (i j : Int) : Prop := 0 < j ∧ j < 1073741824
def CMul (i j : Int) : Prop := (-(2 ^ 64) < i ∧ i < 2 ^ 64) ∨ (-(2 ^ 64) < j ∧ j < 2 ^ 64)
theorem CMul.ok {i j : Int} (h : CMul i j) : IntMulOk i j := by
 rcases h with ⟨h1, h2⟩ | ⟨h1, h2⟩
 ·exact .of_left (intBits_le_64 h1 h2)
 ·exact .of_right (intBits_le_64 h1 h2)
theorem op_add : OpR X (binaryOp .Add) (rI0 fun i j => .int (i + j)) := opI0 fun _ _ _ _ _ _ _ q => add_int q
theorem op_sub : OpR X (binaryOp .Sub) (rI0 fun i j => .int (i - j)) := opI0 fun _ _ _ _ _ _ _ q => sub_int q
theorem op_mul : OpR X (binaryOp .Mult) (rI CMul fun i j => .int (i * j)) := opI fun _ _ _ _ _ _ _ hc q => mul_int q hc.ok
theorem op_fdiv : OpR X (binaryOp .FloorDiv) (rI CDiv fun i j => .int (i / j)) := opI fun i j _ _ _ _ _ hc q => by
 have h1 : (0 : Int) < j := hc.1
 have h2 : j < 1073741824 := hc.2
 exact floordiv_int (by omega) (by rw [Int.fdiv_eq_ediv_of_nonneg i (by omega)]; exact q) (.inl (PyProof.noPylong_small (by omega)))
theorem op_mod : OpR X (binaryOp .Mod) (rI (fun _ j => 0 < j) fun i j => .int (i % j)) := opI fun i j _ _ _ _ _ hc q => by
 have h1 : (0 : Int) < j := hc
 exact mod_int' (by omega) (by rw [Int.fmod_eq_emod_of_nonneg i (by omega)]; exact q)
theorem unI {f : Value → Sem Value} {g : Int → Int}
  (rule : ∀ (i : Int) (t : Tok) (s : Shared) (Q : Value → Shared → Prop) (E : Value → Shared → Prop), Q (.int (g i) s.toks) { s with toks := s.toks + 1 } → wpAny (model X.prog X.w) X.A (f (.int i t)) Q E s) :
  UnR X f (rU fun i => .int (g i)) := by
 intro pins s σ H x v Q I rx h
 obtain ⟨i, rfl, q⟩ := h
 obtain ⟨t, rfl⟩ := rx
 exact rule i t s _ _ ⟨.int (g i), H, I.tok _, ⟨_, rfl⟩, q⟩
theorem un_neg : UnR X (unaryOp .USub) (rU fun i => .int (-i)) := unI fun _ _ _ _ _ q => neg_int q
end
def scal : V → V → Bool
 | .non, .non => true | .non, .int _ => true | .int _, .non => true | .non, .bl _ => true | .bl _, .non => true | .non, .str _ => true | .str _, .non => true
 | .int _, .int _ => true | .bl _, .bl _ => true | .str _, .str _ => true | .byt _, .byt _ => true
 | .int _, .str _ => true | .str _, .int _ => true | .bl _, .str _ => true | .str _, .bl _ => true
 | _, _ => false
def rEq : R2 := fun x y H Q => scal x y = true ∧ Q (.bl (decide (x = y))) H
def rNe : R2 := fun x y H Q => scal x y = true ∧ Q (.bl (!decide (x = y))) H
theorem dec_int {i j : Int} : decide (V.int i = V.int j) = (i == j) := by
 rw [Bool.eq_iff_iff]
 simp
theorem dec_bl {i j : Bool} : decide (V.bl i = V.bl j) = (i == j) := by
 rw [Bool.eq_iff_iff]
 simp
theorem dec_str {i j : Str} : decide (V.str i = V.str j) = (i == j) := by
 rw [Bool.eq_iff_iff]
 simp
theorem dec_byt {i j : Array UInt8} : decide (V.byt i = V.byt j) = (i.toList == j.toList) := by
 rw [Bool.eq_iff_iff]
 cases i
 cases j
 simp
section
variable {X : Cx} {a b c : Expr} {ta tb tc : TE} {pos : Pos}
theorem fin_bl {pins : List (Addr × Obj)} {σ : St} {H : Hp} {s : Shared} {Q : VK} {k k' : Bool} (I : Inv X pins σ H s) (q : Q (.bl k) H) (e : k = k') : EP X pins σ Q (.bool k') s := by
 subst e
 exact ⟨.bl k, H, I, rfl, q⟩
theorem op_eq : OpR X (compareOp .Eq) rEq := by
 intro pins s σ H x y v u Q I rx ry h
 obtain ⟨hs, q⟩ := h
 cases x with
 | non =>
  cases rx
  cases y with
  | non => cases ry; exact PySem.EqNone.eq_none_none (fin_bl I q (by simp))
  | bl j => cases ry; exact PySem.EqNone.eq_none_bool (fin_bl I q (by simp))
  | int j => obtain ⟨t', rfl⟩ := ry; exact PySem.EqNone.eq_none_int (fin_bl I q (by simp))
  | str j => obtain ⟨t', rfl⟩ := ry; exact PySem.EqNone.eq_none_str (fin_bl I q (by simp))
  | _ => exact absurd (show false = true from hs) Bool.false_ne_true
 | bl i =>
  cases rx
  cases y with
  | non => cases ry; exact PySem.EqNone.eq_bool_none (fin_bl I q (by simp))
  | bl j => cases ry; exact eq_bool (fin_bl I q dec_bl)
  | str j => obtain ⟨t', rfl⟩ := ry; exact PySem.EqMixed.eq_bool_str (fin_bl I q (by simp))
  | _ => exact absurd (show false = true from hs) Bool.false_ne_true
 | int i =>
  obtain ⟨t, rfl⟩ := rx
  cases y with
  | non => cases ry; exact PySem.EqNone.eq_int_none (fin_bl I q (by simp))
  | int j => obtain ⟨t', rfl⟩ := ry; exact eq_int (fin_bl I q dec_int)
  | str j => obtain ⟨t', rfl⟩ := ry; exact PySem.EqMixed.eq_int_str (fin_bl I q (by simp))
  | _ => exact absurd (show false = true from hs) Bool.false_ne_true
 | str i =>
  obtain ⟨t, rfl⟩ := rx
  cases y with
  | non => cases ry; exact PySem.EqNone.eq_str_none (fin_bl I q (by simp))
  | bl j => cases ry; exact PySem.EqMixed.eq_str_bool (fin_bl I q (by simp))
  | int j => obtain ⟨t', rfl⟩ := ry; exact PySem.EqMixed.eq_str_int (fin_bl I q (by simp))
  | str j => obtain ⟨t', rfl⟩ := ry; exact eq_str (fin_bl I q dec_str)
  | _ => exact absurd (show false = true from hs) Bool.false_ne_true
 | byt i =>
  obtain ⟨t, rfl⟩ := rx
  cases y with
  | byt j => obtain ⟨t', rfl⟩ := ry; exact PySem.W.eq_bytes (fin_bl I q dec_byt)
  | _ => exact absurd (show false = true from hs) Bool.false_ne_true
 | _ => cases y <;> exact absurd (show false = true from hs) Bool.false_ne_true
theorem op_ne : OpR X (compareOp .NotEq) rNe := by
 intro pins s σ H x y v u Q I rx ry h
 obtain ⟨hs, q⟩ := h
 cases x with
 | non =>
  cases rx
  cases y with
  | non => cases ry; exact PySem.EqNone.ne_none_none (fin_bl I q (by simp))
  | bl j => cases ry; exact PySem.EqNone.ne_none_bool (fin_bl I q (by simp))
  | int j => obtain ⟨t', rfl⟩ := ry; exact PySem.EqNone.ne_none_int (fin_bl I q (by simp))
  | str j => obtain ⟨t', rfl⟩ := ry; exact PySem.EqNone.ne_none_str (fin_bl I q (by simp))
  | _ => exact absurd (show false = true from hs) Bool.false_ne_true
 | bl i =>
  cases rx
  cases y with
  | non => cases ry; exact PySem.EqNone.ne_bool_none (fin_bl I q (by simp))
  | bl j => cases ry; exact ne_bool (fin_bl I q (congrArg not dec_bl))
  | str j => obtain ⟨t', rfl⟩ := ry; exact PySem.EqMixed.ne_bool_str (fin_bl I q (by simp))
  | _ => exact absurd (show false = true from hs) Bool.false_ne_true
 | int i =>
  obtain ⟨t, rfl⟩ := rx
  cases y with
  | non => cases ry; exact PySem.EqNone.ne_int_none (fin_bl I q (by simp))
  | int j => obtain ⟨t', rfl⟩ := ry; exact ne_int (fin_bl I q (congrArg not dec_int))
  | str j => obtain ⟨t', rfl⟩ := ry; exact PySem.EqMixed.ne_int_str (fin_bl I q (by simp))
  | _ => exact absurd (show false = true from hs) Bool.false_ne_true
 | str i =>
  obtain ⟨t, rfl⟩ := rx
  cases y with
  | non => cases ry; exact PySem.EqNone.ne_str_none (fin_bl I q (by simp))
  | bl j => cases ry; exact PySem.EqMixed.ne_str_bool (fin_bl I q (by simp))
  | int j => obtain ⟨t', rfl⟩ := ry; exact PySem.EqMixed.ne_str_int (fin_bl I q (by simp))
  | str j => obtain ⟨t', rfl⟩ := ry; exact ne_str (fin_bl I q (congrArg not dec_str))
  | _ => exact absurd (show false = true from hs) Bool.false_ne_true
 | byt i =>
  obtain ⟨t, rfl⟩ := rx
  cases y with
  | byt j => obtain ⟨t', rfl⟩ := ry; exact PySem.W.ne_bytes (fin_bl I q (congrArg not dec_byt))
  | _ => exact absurd (show false = true from hs) Bool.false_ne_true
 | _ => cases y <;> exact absurd (show false = true from hs) Bool.false_ne_true
theorem op_lt : OpR X (compareOp .Lt) (rI0 fun i j => .bl (decide (i < j))) := opB0 fun _ _ _ _ _ _ _ q => lt_int q
theorem op_gt : OpR X (compareOp .Gt) (rI0 fun i j => .bl (decide (j < i))) := opB0 fun _ _ _ _ _ _ _ q => gt_int q
theorem op_ge : OpR X (compareOp .GtE) (rI0 fun i j => .bl (decide (j ≤ i))) := opB0 fun _ _ _ _ _ _ _ q => ge_int q
theorem op_isN : OpR X (compareOp .Is) (fun x y H Q => y = .non ∧ Q (.bl (decide (x = .non))) H) := by
 intro pins s σ H x y v u Q I rx ry h
 obtain ⟨rfl, q⟩ := h
 cases ry
 refine is_none_gen (fin_bl I q ?_)
 cases x <;> first
  | (cases rx; rfl)
  | (obtain ⟨t, rfl⟩ := rx; rfl)
theorem op_notN : OpR X (compareOp .IsNot) (fun x y H Q => y = .non ∧ Q (.bl (!decide (x = .non))) H) := by
 intro pins s σ H x y v u Q I rx ry h
 obtain ⟨rfl, q⟩ := h
 cases ry
 refine isnot_none_gen (fin_bl I q ?_)
 cases x <;> first
  | (cases rx; rfl)
  | (obtain ⟨t, rfl⟩ := rx; rfl)
theorem nomark (b : Expr) {op : CmpOp} (h : op ≠ .In := by decide) (h2 : op ≠ .NotIn := by decide) : behindInMarks op b = false := by
 have e1 : (op == CmpOp.In) = false := by cases op <;> first | rfl | exact absurd rfl h
 have e2 : (op == CmpOp.NotIn) = false := by cases op <;> first | rfl | exact absurd rfl h2
 cases b <;> simp [behindInMarks, e1, e2]
theorem pe_cmpR {op : CmpOp} {r : R2} (ho : OpR X (compareOp op) r) (ha : PE X a ta) (hb : PE X b tb) (hm : behindInMarks op b = false) : PE X (.Compare a [op] [b] pos) (tOp r ta tb) := by
 intro pins s σ H Q I h
 exact wpAny_Compare1 (binT ha hb I h fun v u s2 x y H2 I2 rx ry q => ho pins s2 σ H2 x y v u Q I2 rx ry q) hm
def tTest (t : TE) : TT := fun σ H Q => t σ H fun x H' => ∃ k, x = .bl k ∧ Q k H'
theorem pt_cmpR {op : CmpOp} {r : R2} (ho : OpR X (compareOp op) r) (ha : PE X a ta) (hb : PE X b tb) (hm : behindInMarks op b = false) : PT X (.Compare a [op] [b] pos) (tTest (tOp r ta tb)) := by
 intro pins s σ H Q I h
 refine wpAny_isTrue_Compare1 (thn (ha pins s σ H _ I h) fun v s1 ⟨x, H1, I1, r1, q1⟩ => thn (hb pins s1 σ H1 _ I1 q1) fun u s2 ⟨y, H2, I2, r2, q2⟩ =>
  thn (ho pins s2 σ H2 x y v u _ I2 r1 r2 q2) fun c s3 ⟨z, H3, I3, r3, k, e, q3⟩ => ?_) hm
 subst e
 cases r3
 exact wpAny_truthy_bool ⟨H3, I3, q3⟩
def TruV (K : PySem.W.Frag) (x : V) (H : Hp) (k : Bool) : Prop :=
 match x with
 | .non => k = false
 | .bl b => k = b
 | .int i => k = (i != 0)
 | .str y => y.length ≤ sizeLine ∧ k = ((y.length : Int) != 0)
 | .byt y => y.size ≤ sizeLine ∧ k = ((y.size : Int) != 0)
 | .ref p => (∃ xs, SqL K H p xs ∧ k = !xs.isEmpty) ∨ (∃ xs, SqT K H p xs ∧ k = !xs.isEmpty) ∨ ∃ kvs, H p = some (.dK kvs) ∧ k = !kvs.isEmpty
 | _ => False
theorem isEmpty_kv {κ : Type} {kvs : List (κ × V)} {vs : List (κ × Value)} (r : KV kvs vs) : (!vs.isEmpty) = !kvs.isEmpty := by
 cases r <;> rfl
theorem isEmpty_of {xs : List V} {its : List Value} (r : Vals xs its) : (!its.toArray.isEmpty) = !xs.isEmpty := by
 cases r <;> simp
theorem line63 : (sizeLine : Nat) < 2 ^ 63 := by rw [sizeLine_eq]; decide
theorem tru_ok : TruR X (fun x H Q => ∃ k, TruV X.K x H k ∧ Q k H) := by
 intro pins s σ H x v Q I rx h
 obtain ⟨k, e, q⟩ := h
 have hl := line63
 have hs : sizeLine = 16777216 := sizeLine_eq
 cases x with
 | non =>
  cases rx
  have e' : k = false := e
  subst e'
  exact truthy_none ⟨H, I, q⟩
 | bl b =>
  cases rx
  have e' : k = b := e
  subst e'
  exact wpAny_truthy_bool ⟨H, I, q⟩
 | int i =>
  obtain ⟨t, rfl⟩ := rx
  have e' : k = (i != 0) := e
  subst e'
  exact PySem.P.truthy_int ⟨H, I, q⟩
 | str y =>
  obtain ⟨t, rfl⟩ := rx
  obtain ⟨hy, e'⟩ : y.length ≤ sizeLine ∧ k = ((y.length : Int) != 0) := e
  subst e'
  exact PySem.P.truthy_str (by omega) ⟨H, I.tok _, q⟩
 | byt y =>
  obtain ⟨t, rfl⟩ := rx
  obtain ⟨hy, e'⟩ : y.size ≤ sizeLine ∧ k = ((y.size : Int) != 0) := e
  subst e'
  exact PySem.W.truthy_bytes (by omega) ⟨H, I.tok _, q⟩
 | ref p =>
  cases rx
  have e' : (∃ xs, SqL X.K H p xs ∧ k = !xs.isEmpty) ∨ (∃ xs, SqT X.K H p xs ∧ k = !xs.isEmpty) ∨ ∃ kvs, H p = some (.dK kvs) ∧ k = !kvs.isEmpty := e
  rcases e' with ⟨xs, hx, e'⟩ | ⟨xs, hx, e'⟩ | ⟨kvs, hx, e'⟩
  ·subst e'
   obtain ⟨its, r, pl, hz⟩ := I.list hx
   have hlen := r.length
   exact wpAny_truthy_list pl.isList (by simp only [List.size_toArray]; omega) ⟨H, I.tok _, by rw [isEmpty_of r]; exact q⟩
  ·subst e'
   obtain ⟨its, r, pl, hz⟩ := I.tuple hx
   have hlen := r.length
   exact truthy_tuple pl (by simp only [List.size_toArray]; omega) ⟨H, I.tok _, by rw [isEmpty_of r]; exact q⟩
  ·subst e'
   obtain ⟨hz, hS, vs, r, m⟩ : kvs.length ≤ sizeLine ∧ (p == sysModules) = false ∧ ∃ vs, KV kvs vs ∧ s.heap.DictOf (mixKind X.prog X.w) p vs := I.hok p _ hx
   have hlen : kvs.length = vs.length := Paired.length r
   exact wpAny_truthy_dict hS m (by omega) ⟨H, I.tok _, by rw [isEmpty_kv r]; exact q⟩
 | _ => exact (show False from e).elim
theorem pt_truth (ha : PE X a ta) (he : ∀ whole, isTrue a X.env whole = (do let v ← whole; standAt a.pos; holding [v] (truthy v))) :
  PT X a (fun σ H Q => ta σ H fun x H' => ∃ k, TruV X.K x H' k ∧ Q k H') := by
 intro pins s σ H Q I h
 exact isTrue_plain (thn (ha pins s σ H _ I h) fun v s1 ⟨x, H1, I1, r1, q1⟩ => tru_ok pins s1 σ H1 x v Q I1 r1 q1) (he _)
theorem vals1 {x : V} {us : List Value} (r : Vals [x] us) : ∃ u, us = [u] ∧ RelV x u := by
 cases r with
 | cons r1 r2 => cases r2; exact ⟨_, rfl, r1⟩
end
end L2
namespace L2
open PySem PySem.Spec PyProof.Rows
structure ObjM (h : Heap) (x dx C : Addr) (mA : Str → Option Value) : Prop where
 obj : h.get? x = some (PySem.W.instObj C dx)
 ns : h.Ns1 dx mA
 ne : dx ≠ x
theorem lookIn_ns {h : Heap} {dx : Addr} {mA : Str → Option Value} (n : h.Ns1 dx mA) : ∃ od, h.get? dx = some od ∧ ∀ name, PySem.W.lookIn name od = some (mA name) := by
 obtain ⟨o, es, ep, ho, hd, hk, _, hm⟩ := n
 refine ⟨o, ho, fun name => ?_⟩
 have e := hm name
 unfold nsFind findBy at e
 rw [← Array.find?_toList] at e
 unfold PySem.W.lookIn
 rw [hd]
 dsimp only
 split
 ·rename_i y q
  rw [q] at e
  exact congrArg some e
 ·rename_i q
  rw [q] at e
  have a : es.toList.any (·.refKey) = false := by
   rw [List.any_eq_false]
   intro y hy
   obtain ⟨z, t, hkey⟩ := hk y (Array.mem_toList_iff.mp hy)
   simp [DictEntry.refKey, hkey]
  have a' : ¬ es.toList.any (·.refKey) = true := by rw [a]; exact Bool.false_ne_true
  rw [if_neg a']
  exact congrArg some e
theorem ObjM.look {h : Heap} {x dx C : Addr} {mA : Str → Option Value} (I : ObjM h x dx C mA) : ∃ od, PySem.W.InstAt h x (PySem.W.instObj C dx) C (some od) ∧ ∀ name, PySem.W.lookIn name od = some (mA name) :=
 let ⟨od, ho, hl⟩ := lookIn_ns I.ns
 ⟨od, ⟨I.obj, rfl, rfl, ho⟩, hl⟩
section
variable {prog : Program} {w : World} {A : Around} {E : Value → Shared → Prop} {s : Shared} {K : PySem.W.Frag} {x dx C f : Addr} {mA : Str → Option Value} {name : Str} {v : Value}
theorem get_map {expr : Bool} {Q : Value → Shared → Prop} (X : K.In s.heap) (I : ObjM s.heap x dx C mA) (hg : PySem.W.plainGet K C name = true) (hh : PySem.W.hasDictIn K C = true)
  (ha : PySem.W.findIn K (.ref C) name = some none) (hv : mA name = some v) (hv' : PySem.W.handedIn v = true) (h : Q v { s with toks := s.toks + 1 }) :
  wpAny (model prog w) A (getAttr (.ref x) name expr) Q E s := by
 obtain ⟨od, J, hl⟩ := I.look
 exact PySem.W.get_value X J (PySem.W.plainGet_of hg).1 (PySem.W.findObj_own hh ha rfl (by rw [hl, hv])) hv' h
theorem get_meth {pl : Sem Bool} {Q : Value × List Value → Shared → Prop} (X : K.In s.heap) (I : ObjM s.heap x dx C mA) (hg : PySem.W.plainGet K C name = true)
  (hf : PySem.W.findIn K (.ref C) name = some (some (.ref f))) (ht : PySem.W.isFn K (.ref f) = true) (hv : mA name = none) (h : Q (.ref f, [.ref x]) s) :
  wpAny (model prog w) A (getMethod (.ref x) name pl) Q E s := by
 obtain ⟨od, J, hl⟩ := I.look
 exact PySem.W.method_fn X J (PySem.W.plainGet_of hg).1 (PySem.W.plainGet_of hg).2 hf (beq_iff_eq.mp ht) (by show (PySem.W.lookIn name od).map (·.isSome) = some false; rw [hl, hv]; rfl) h
theorem set_map {ns : List Str} {Q : Unit → Shared → Prop} (X : K.In s.heap) (I : ObjM s.heap x dx C mA)
  (hs : PySem.W.findIn K (.ref C) "__setattr__" = some (some (.builtin "object.__setattr__"))) (hp : PySem.W.plainOver K C = true) (ht : PySem.W.takerIn K C name = some none) (hh : PySem.W.hasDictIn K C = true)
  (hw : PySem.Within mA ns) (hsz : ns.length ≤ sizeLine)
  (h : ∀ h', ObjM h' x dx C (fun y => if y = name then some v else mA y) → Heap.SameBut dx s.heap h' → Q () { s with heap := h', toks := s.toks + 2 }) :
  wpAny (model prog w) A (setAttr (.ref x) name v) Q E s := by
 obtain ⟨od, J, hl⟩ := I.look
 refine PySem.W.set_plain X J hs (PySem.W.osa_open (s := { s with toks := s.toks + 1 }) (r := none) X J hp ht fun b => ?_)
 obtain ⟨cd, hc, hd'⟩ := PySem.W.any_some hh
 have hx : s.heap.get? x = some ⟨.ref C, some dx, .plain, #[]⟩ := I.obj
 refine wpAny_bind (wpAny_pure (wpAny_bind (wpAny_bind (wpAny_loadPart hx (wpAny_bind (PySem.W.Looks.here (s := { s with toks := s.toks + 1 }) (PySem.W.looks_clsIn X hc) ?_))))))
 rw [hd']
 refine wpAny_pure (a := some dx) (wpAny_bind (wpAny_pure (wpAny_bind ?_)))
 refine wpAny_nsSet1 (s := { s with toks := s.toks + 1 }) I.ns fun h' hn2 hs2 => ?_
 obtain ⟨oD, esD, epD, hoD, hdD, hcD⟩ := hn2.count (PySem.Within.cons name v hw)
 refine wpAny_bind (wpAny_lookBehind hoD (by rw [hdD]; exact pastItsLine_dict (Nat.le_trans hcD (by rw [List.length_cons]; omega))) ?_)
 exact wpAny_pure (h _ ⟨(hs2.2 _ (Ne.symm I.ne)).trans I.obj, hn2, I.ne⟩ hs2)
theorem make_map {R : Result → Shared → Prop} {vs : List Value} {kw : List (Str × Value)} (X : K.In s.heap) (hm : PySem.W.makesIn K C = true)
  (hi : PySem.W.findIn K (.ref C) "__init__" = some (some (.ref f))) (hf : PySem.W.typeIn K (.ref f) = some (.type "function"))
  (h : codeAny (model prog w) (A.under (.builtin "type.__call__" ⟨.ref C :: vs, kw⟩)) (.call (.ref f) ⟨.ref (s.heap.objs.size + 1) :: vs, kw⟩) (PySem.W.InitBack (s.heap.objs.size + 1) R)
   { s with heap := (s.heap.push PySem.W.emptyDict).push (PySem.W.instObj C s.heap.objs.size) }) :
  codeAny (model prog w) A (.call (.ref C) ⟨vs, kw⟩) R s := by
 obtain ⟨hh, g, d, t, os⟩ := s
 exact PySem.W.make_core (PySem.W.makes_of X hm) (PySem.W.looks_findIn X hi) (fun self => PySem.W.bind_fn X self hf) (.inl rfl) h
theorem make_map0 {R : Result → Shared → Prop} (X : K.In s.heap) (hm : PySem.W.makesIn K C = true)
  (hi : PySem.W.findIn K (.ref C) "__init__" = some (some (.builtin "object.__init__")))
  (hb : ∀ self, PySem.W.Looks (model prog w) s.heap (bindSpecial (.builtin "object.__init__") self) (.builtin "object.__init__", [self]))
  (h : codeAny (model prog w) (A.under (.builtin "type.__call__" ⟨[.ref C], []⟩)) (.call (.builtin "object.__init__") ⟨[.ref (s.heap.objs.size + 1)], []⟩) (PySem.W.InitBack (s.heap.objs.size + 1) R)
   { s with heap := (s.heap.push PySem.W.emptyDict).push (PySem.W.instObj C s.heap.objs.size) }) :
  codeAny (model prog w) A (.call (.ref C) ⟨[], []⟩) R s := by
 obtain ⟨hh, g, d, t, os⟩ := s
 exact PySem.W.make_core (PySem.W.makes_of X hm) (PySem.W.looks_findIn X hi) hb (.inr ⟨rfl, rfl⟩) h
end
def putF (f : Str) (v : V) : List (Str × V) → List (Str × V)
 | [] => [(f, v)]
 | (g, x) :: r => if g = f then (g, v) :: r else (g, x) :: putF f v r
theorem lookup_putF (f g : Str) (v : V) : ∀ fs : List (Str × V), (putF f v fs).lookup g = if g = f then some v else fs.lookup g
 | [] => by
  show List.lookup g [(f, v)] = _
  by_cases h : g = f
  ·have hb : (g == f) = true := beq_iff_eq.mpr h
   simp only [List.lookup, hb, if_pos h]
  ·have hb : (g == f) = false := beq_eq_false_iff_ne.mpr h
   simp only [List.lookup, hb, if_neg h]
 | (k, x) :: r => by
  have ih := lookup_putF f g v r
  rw [show putF f v ((k, x) :: r) = (if k = f then (k, v) :: r else (k, x) :: putF f v r) from rfl]
  by_cases hk : k = f
  ·rw [if_pos hk]
   by_cases h : g = k
   ·have hb : (g == k) = true := beq_iff_eq.mpr h
    simp only [List.lookup, hb, if_pos (h.trans hk)]
   ·have hb : (g == k) = false := beq_eq_false_iff_ne.mpr h
    simp only [List.lookup, hb, if_neg (fun e : g = f => h (e.trans hk.symm))]
  ·rw [if_neg hk]
   by_cases h : g = k
   ·have hb : (g == k) = true := beq_iff_eq.mpr h
    simp only [List.lookup, hb, if_neg (fun e : g = f => hk (h.symm.trans e))]
   ·have hb : (g == k) = false := beq_eq_false_iff_ne.mpr h
    simp only [List.lookup, hb]
    exact ih
theorem keys_putF (f : Str) (v : V) : ∀ fs : List (Str × V), f ∈ (putF f v fs).map (·.1) ∧ ∀ g, g ∈ fs.map (·.1) → g ∈ (putF f v fs).map (·.1)
 | [] => ⟨by simp [putF], fun g h => by simp at h⟩
 | (k, x) :: r => by
  obtain ⟨i1, i2⟩ := keys_putF f v r
  rw [show putF f v ((k, x) :: r) = (if k = f then (k, v) :: r else (k, x) :: putF f v r) from rfl]
  by_cases hk : k = f
  ·rw [if_pos hk]
   subst hk
   exact ⟨by simp, fun g h => by simpa using h⟩
  ·rw [if_neg hk]
   refine ⟨?_, fun g h => ?_⟩
   ·rw [List.map_cons]
    exact List.mem_cons_of_mem _ i1
   ·rw [List.map_cons] at h ⊢
    rcases List.mem_cons.mp h with e | e
    ·exact List.mem_cons.mpr (.inl e)
    ·exact List.mem_cons_of_mem _ (i2 g e)
theorem length_putF (f : Str) (v : V) : ∀ fs : List (Str × V), (putF f v fs).length ≤ fs.length + 1
 | [] => by simp [putF]
 | (k, x) :: r => by
  have ih := length_putF f v r
  rw [show putF f v ((k, x) :: r) = (if k = f then (k, v) :: r else (k, x) :: putF f v r) from rfl]
  by_cases hk : k = f
  ·rw [if_pos hk, List.length_cons, List.length_cons]; omega
  ·rw [if_neg hk, List.length_cons, List.length_cons]; omega
theorem RelO.some_of {v : V} {o : Option Value} (r : RelO (some v) o) : ∃ u, o = some u ∧ RelV v u := by
 cases o with
 | none => exact (show False from r).elim
 | some u => exact ⟨u, rfl, r⟩
theorem RelO.none_of {o : Option Value} (r : RelO none o) : o = none := by
 cases o with
 | none => rfl
 | some u => exact (show False from r).elim
theorem handed_of {v : V} {u : Value} (r : RelV v u) : PySem.W.handedIn u = true := by
 cases v with
 | non => cases (show u = Value.none from r); rfl
 | bl b => cases (show u = Value.bool b from r); rfl
 | int i => obtain ⟨t, e⟩ := (show ∃ t, u = Value.int i t from r); cases e; rfl
 | str x => obtain ⟨t, e⟩ := (show ∃ t, u = Value.str x t from r); cases e; rfl
 | byt b => obtain ⟨t, e⟩ := (show ∃ t, u = Value.bytes b t from r); cases e; rfl
 | flt b => obtain ⟨t, e⟩ := (show ∃ t, u = Value.float b t from r); cases e; rfl
 | ref a => cases (show u = Value.ref a from r); rfl
 | ty n => cases (show u = Value.type n from r); rfl
section
variable {P : Program} {w : World} {H H' : Hp} {h h' : Heap} {a C dx : Addr} {fs fs' : List (Str × V)}
theorem ins_get (hok : HOk P w H h) (e : H a = some (.ins C dx fs)) : ∃ mA, ObjM h a dx C mA ∧ (∀ f, RelO (fs.lookup f) (mA f)) ∧ PySem.Within mA (fs.map (·.1)) ∧ fs.length ≤ 1000 ∧ H dx = some (.own a) := by
 obtain ⟨d, z, ne, ob, mA, n, r, q⟩ := (show ObjOk P w H h a (.ins C dx fs) from hok a _ e)
 exact ⟨mA, ⟨ob, n, ne⟩, r, q, z, d⟩
end
structure Cls (K : PySem.W.Frag) (C : Addr) : Prop where
 pg : PySem.W.plainGet K C Str.empty = true
 hd : PySem.W.hasDictIn K C = true
 po : PySem.W.plainOver K C = true
 sa : PySem.W.findIn K (.ref C) "__setattr__" = some (some (.builtin "object.__setattr__"))
theorem Cls.get {K : PySem.W.Frag} {C : Addr} (c : Cls K C) (f : Str) : PySem.W.plainGet K C f = true := c.pg
def NoAttr (K : PySem.W.Frag) (C : Addr) (f : Str) : Prop := PySem.W.findIn K (.ref C) f = some none
theorem NoAttr.taker {K : PySem.W.Frag} {C : Addr} {f : Str} (n : NoAttr K C f) : PySem.W.takerIn K C f = some none := by
 unfold PySem.W.takerIn
 rw [show PySem.W.findIn K (.ref C) f = some none from n]
 rfl
structure Meth (K : PySem.W.Frag) (C : Addr) (m : Str) (f : Addr) : Prop where
 at_ : PySem.W.findIn K (.ref C) m = some (some (.ref f))
 fn : PySem.W.isFn K (.ref f) = true
 kp : PySem.W.keepIn K (.ref f) = true
section
variable {X : Cx} {pins : List (Addr × Obj)} {σ : St} {H : Hp} {s : Shared} {a C dx : Addr} {fs : List (Str × V)} {f : Str} {v : V} {A : Around} {E : Value → Shared → Prop}
theorem getattr_ok {b : Bool} {Q : Value → Shared → Prop} (I : Inv X pins σ H s) (e : H a = some (.ins C dx fs)) (c : Cls X.K C) (n : NoAttr X.K C f) (l : fs.lookup f = some v)
  (h : ∀ u s', Inv X pins σ H s' → RelV v u → Q u s') : wpAny (model X.prog X.w) A (getAttr (.ref a) f b) Q E s := by
 obtain ⟨mA, O, r, _, _, _⟩ := ins_get I.hok e
 obtain ⟨u, hu, ru⟩ := RelO.some_of (v := v) (o := mA f) (by rw [← l]; exact r f)
 exact get_map I.kIn O (c.get f) c.hd n hu (handed_of ru) (h u _ (I.tok _) ru)
theorem getmeth_ok {m : Str} {g : Addr} {pl : Sem Bool} {Q : Value × List Value → Shared → Prop} (I : Inv X pins σ H s) (e : H a = some (.ins C dx fs)) (c : Cls X.K C) (k : Meth X.K C m g) (l : fs.lookup m = none)
  (h : Q (.ref g, [.ref a]) s) : wpAny (model X.prog X.w) A (getMethod (.ref a) m pl) Q E s := by
 obtain ⟨mA, O, r, _, _, _⟩ := ins_get I.hok e
 have hn : mA m = none := RelO.none_of (by rw [← l]; exact r m)
 exact get_meth I.kIn O (c.get m) k.at_ k.fn hn h
theorem setattr_ok {y : V} {u : Value} {Q : Unit → Shared → Prop} (I : Inv X pins σ H s) (e : H a = some (.ins C dx fs)) (c : Cls X.K C) (n : NoAttr X.K C f) (hl : fs.length < 1000) (ry : RelV y u)
  (h : ∀ s', Inv X pins σ (upd H a (.ins C dx (putF f y fs))) s' → Q () s') : wpAny (model X.prog X.w) A (setAttr (.ref a) f u) Q E s := by
 obtain ⟨mA, O, r, wi, _, ho⟩ := ins_get I.hok e
 have hz : (fs.map (·.1)).length ≤ sizeLine := by rw [List.length_map, sizeLine_eq]; omega
 refine set_map I.kIn O c.sa c.po n.taker c.hd wi hz fun h' O' sb => h _ ?_
 have hd : ∃ o, h'.get? dx = some o := let ⟨o, _, _, e', _⟩ := O'.ns; ⟨o, e'⟩
 refine I.write (x := a) (e := dx) (by rw [e]; exact True.intro) (.inr ho) (fun b q hb z => (sb.2 b hb).trans z) hd ?_
 refine ⟨by rw [upd_ne O.ne]; exact ho, ?_, O.ne, O'.obj, _, O'.ns, fun g => ?_, fun g hg => ?_⟩
 ·have := length_putF f y fs; omega
 ·show RelO ((putF f y fs).lookup g) (if g = f then some u else mA g)
  rw [lookup_putF]
  by_cases q : g = f
  ·rw [if_pos q, if_pos q]; exact ry
  ·rw [if_neg q, if_neg q]; exact r g
 ·by_cases q : g = f
  ·rw [q]; exact (keys_putF f y fs).1
  ·refine (keys_putF f y fs).2 g (wi g fun z => hg ?_)
   show (if g = f then some u else mA g) = none
   rw [if_neg q]; exact z
theorem Inv.made (I : Inv X pins σ H s) : Inv X pins σ (upd (upd H s.heap.objs.size (.own (s.heap.objs.size + 1))) (s.heap.objs.size + 1) (.ins C s.heap.objs.size []))
  { s with heap := (s.heap.push PySem.W.emptyDict).push (PySem.W.instObj C s.heap.objs.size) } := by
 have e1 : (s.heap.push PySem.W.emptyDict).get? s.heap.objs.size = some PySem.W.emptyDict := Heap.get?_push_size s.heap rfl
 have e2 : ((s.heap.push PySem.W.emptyDict).push (PySem.W.instObj C s.heap.objs.size)).get? (s.heap.objs.size + 1) = some (PySem.W.instObj C s.heap.objs.size) := by
  have := Heap.get?_push_size (s.heap.push PySem.W.emptyDict) (o := PySem.W.instObj C s.heap.objs.size) rfl
  rwa [Heap.size_push] at this
 have e3 : (s.heap.push PySem.W.emptyDict).Ns s.heap.objs.size (fun _ => none) := ⟨PySem.W.emptyDict, #[], _, e1, rfl, (fun e he => absurd he (by simp)), fun _ => rfl⟩
 have I1 := I.laid (a := s.heap.objs.size) (o := .own (s.heap.objs.size + 1)) (h' := s.heap.push PySem.W.emptyDict) (t' := s.toks) (fun b u q => Heap.get?_push_of_some _ q) (Nat.le_refl _) ⟨_, e1⟩
 refine I1.laid (a := s.heap.objs.size + 1) (o := .ins C s.heap.objs.size []) (t' := s.toks) (fun b u q => Heap.get?_push_of_some _ q) (Nat.le_of_eq (Heap.size_push _ _)) ?_
 have ne : s.heap.objs.size ≠ s.heap.objs.size + 1 := Nat.ne_of_lt (Nat.lt_succ_self _)
 refine ⟨by rw [upd_ne ne, upd_same], Nat.zero_le _, ne, e2, fun _ => none, (Heap.Ns1.of_empty e3).at fun o q => Heap.get?_push_of_some _ q, fun _ => True.intro, fun y hy => absurd rfl hy⟩
theorem attr_of {prog : Program} {w : World} {env : Env} {e : Expr} {f : Str} {pos : Pos} {s : Shared} {Q : Value → Shared → Prop} (hb : attributeBase e f env (eval e env) = eval e env)
  (h : wpAny (model prog w) A (eval e env) (fun o s₁ => wpAny (model prog w) A (getAttr o f true) Q E s₁) E s) : wpAny (model prog w) A (eval (.Attribute e f pos) env) Q E s :=
 Attribute_any_ h (by rw [arm_eval_Attribute, hb])
end
def tFld (K : PySem.W.Frag) (ta : TE) (f : Str) : TE := fun σ H Q => ta σ H fun x H1 => ∃ a C dx fs v, x = .ref a ∧ H1 a = some (.ins C dx fs) ∧ Cls K C ∧ NoAttr K C f ∧ fs.lookup f = some v ∧ Q v H1
def sFld (K : PySem.W.Frag) (ta tv : TE) (f : Str) : TS := fun D σ H => tv σ H fun y H1 => ta σ H1 fun x H2 => ∃ a C dx fs, x = .ref a ∧ H2 a = some (.ins C dx fs) ∧ Cls K C ∧ NoAttr K C f ∧ fs.length < 1000 ∧
 D.nx σ (upd H2 a (.ins C dx (putF f y fs)))
section
variable {X : Cx} {o e value : Expr} {f : Str} {pos pos' tpos : Pos} {ta tv : TE}
theorem pe_fld (he : PE X e ta) (hb : attributeBase e f X.env (eval e X.env) = eval e X.env) : PE X (.Attribute e f pos) (tFld X.K ta f) := by
 intro pins s σ H Q I h
 refine attr_of hb (thn (he pins s σ H _ I h) fun u s1 ⟨x, H1, I1, rx, a, C, dx, fs, v, ex, ea, c, n, l, q⟩ => ?_)
 subst ex
 obtain rfl : u = Value.ref a := rx
 exact getattr_ok I1 ea c n l fun u' s2 I2 ru => ⟨v, H1, I2, ru, q⟩
theorem ps_fld (ha : PE X o ta) (hv : PE X value tv) (hs : swapsWith value (some (.Attribute o f pos')) pos.line X.env = pure false) : PS X (.Assign [.Attribute o f pos'] value pos) (sFld X.K ta tv f) := by
 intro pins s σ H D I h
 refine plainObj_wpAny_Assign_Attribute (thn (hv pins s σ H _ I h) fun u s1 ⟨y, H1, I1, ry, q⟩ => thn (ha pins s1 σ H1 _ I1 q) fun ov s2 ⟨x, H2, I2, rx, a, C, dx, fs, ex, ea, c, n, l, q2⟩ => ?_) hs
 subst ex
 obtain rfl : ov = Value.ref a := rx
 exact setattr_ok I2 ea c n l ry fun s3 I3 => ⟨σ, _, I3, q2⟩
end
section
variable {X : Cx} {pins : List (Addr × Obj)} {σ : St} {H : Hp} {s : Shared} {A : Around} {E : Value → Shared → Prop} {Q : Value → Shared → Prop} {c : Value} {b : Bool}
inductive TyOf (K : PySem.W.Frag) (H : Hp) : V → Value → Prop where
 | non : TyOf K H .non (.type "NoneType")
 | bl (x : Bool) : TyOf K H (.bl x) (.type "bool")
 | int (i : Int) : TyOf K H (.int i) (.type "int")
 | str (x : Str) : TyOf K H (.str x) (.type "str")
 | flt (x : UInt64) : TyOf K H (.flt x) (.type "float")
 | lst {a : Addr} {xs : List V} (e : H a = some (.lst xs)) : TyOf K H (.ref a) (.type "list")
 | frz {a : Addr} {o : Obj} {xs : List V} (e : H a = some (.frz o (.lst xs))) : TyOf K H (.ref a) (.type "list")
 | tup {a : Addr} {xs : List V} (e : H a = some (.tup xs)) : TyOf K H (.ref a) (.type "tuple")
 | dK {a : Addr} {kvs : List (Key × V)} (e : H a = some (.dK kvs)) : TyOf K H (.ref a) (.type "dict")
 | dT {a : Addr} {kvs : List (List Key × V)} (e : H a = some (.dT kvs)) : TyOf K H (.ref a) (.type "dict")
 | ins {a C dx : Addr} {fs : List (Str × V)} (e : H a = some (.ins C dx fs)) (cl : Cls K C) (ha : PySem.W.findIn K (.ref C) "__class__" = some (some (.builtin "object.__class__")))
   (hn : PySem.W.specialIn K (.builtin "object.__class__") "__get__" = some (some (.builtin "getset_descriptor.__get__"))) (htk : PySem.W.takesIn K (.builtin "object.__class__") = some true)
   (hm : PySem.W.mroIn K C (.type "object") = some true) : TyOf K H (.ref a) (.ref C)
theorem isinst_ok {x : V} {u t : Value} (I : Inv X pins σ H s) (rx : RelV x u) (ty : TyOf X.K H x t) (e : PySem.W.kitOne X.K t c = some b) (h : ∀ tk, Q (.bool b) { s with toks := tk }) :
  wpAny (model X.prog X.w) A (call (.builtin "isinstance") [u, c]) Q E s := by
 cases ty with
 | non => cases (show u = Value.none from rx); exact PySem.W.kia_one PySem.W.kitx_none I.kIn True.intro e (fun z => nomatch z) h
 | bl y => cases (show u = Value.bool y from rx); exact PySem.W.kia_one PySem.W.kitx_bool I.kIn True.intro e (fun z => nomatch z) h
 | int i => obtain ⟨t, q⟩ := (show ∃ t, u = Value.int i t from rx); cases q; exact PySem.W.kia_one PySem.W.kitx_int I.kIn True.intro e (fun z => nomatch z) h
 | str y => obtain ⟨t, q⟩ := (show ∃ t, u = Value.str y t from rx); cases q; exact PySem.W.kia_one PySem.W.kitx_str I.kIn True.intro e (fun z => nomatch z) h
 | flt y => obtain ⟨t, q⟩ := (show ∃ t, u = Value.float y t from rx); cases q; exact PySem.W.kia_one PySem.W.kitx_float I.kIn True.intro e (fun z => nomatch z) h
 | @lst a xs ea =>
  cases (show u = Value.ref a from rx)
  obtain ⟨_, _, n, _, h1⟩ := (show ObjOk X.prog X.w H s.heap a (.lst xs) from I.hok a _ ea)
  exact PySem.W.kia_one PySem.W.kitx_list I.kIn ⟨_, h1, rfl⟩ e (fun z => nomatch z) h
 | @frz a ob xs ea =>
  cases (show u = Value.ref a from rx)
  obtain ⟨_, _, _, n, _, h1⟩ := (show ObjOk X.prog X.w H s.heap a (.frz ob (.lst xs)) from I.hok a _ ea)
  exact PySem.W.kia_one PySem.W.kitx_list I.kIn ⟨_, h1, rfl⟩ e (fun z => nomatch z) h
 | @tup a xs ea =>
  cases (show u = Value.ref a from rx)
  obtain ⟨_, _, _, p⟩ := (show ObjOk X.prog X.w H s.heap a (.tup xs) from I.hok a _ ea)
  obtain ⟨o, h1, h2, _⟩ := p
  exact PySem.W.kia_one PySem.W.kitx_tuple I.kIn ⟨o, h1, h2⟩ e (fun z => nomatch z) h
 | @dK a kvs ea =>
  cases (show u = Value.ref a from rx)
  obtain ⟨_, _, vs, _, p⟩ := (show ObjOk X.prog X.w H s.heap a (.dK kvs) from I.hok a _ ea)
  obtain ⟨o, es, ep, h1, h2, _⟩ := p
  exact PySem.W.kia_one PySem.W.kitx_dict I.kIn ⟨o, h1, h2.1⟩ e (fun z => nomatch z) h
 | @dT a kvs ea =>
  cases (show u = Value.ref a from rx)
  obtain ⟨_, _, xs, _, o, es, ep, h1, h2, _⟩ := (show ObjOk X.prog X.w H s.heap a (.dT kvs) from I.hok a _ ea)
  exact PySem.W.kia_one PySem.W.kitx_dict I.kIn ⟨o, h1, h2.1⟩ e (fun z => nomatch z) h
 | @ins a C dx fs ea cl ha hn htk hm =>
  cases (show u = Value.ref a from rx)
  obtain ⟨mA, O, _⟩ := ins_get I.hok ea
  obtain ⟨od, J, _⟩ := O.look
  exact PySem.W.kia_one (PySem.W.kitx_own (cl.get _) cl.hd ha hn htk hm) I.kIn J e (fun z => nomatch z) h
end
end L2
namespace L2
open PySem PySem.Spec PyProof.Rows
structure Room (k : Nat) (A : Around) : Prop where
 hd : A.handled = none
 dp : A.depth + 3 * k + 5 < recursionLimit
 un : A.units + 16 * k + 200 < cLine
theorem Room.mono {j k : Nat} {A : Around} (r : Room k A) (h : j ≤ k) : Room j A := ⟨r.hd, by have := r.dp; omega, by have := r.un; omega⟩
theorem Room.deeper {k : Nat} {A : Around} (r : Room (k + 1) A) (env : Env) : Room k (A.deeper env) :=
 ⟨r.hd, by have := r.dp; show A.depth + 1 + 3 * k + 5 < _; omega, by have := r.un; show A.units + 3 + 16 * k + 200 < _; omega⟩
theorem Room.in1 {k : Nat} {A : Around} (r : Room (k + 1) A) : Room k A.in1 :=
 ⟨r.hd, by have := r.dp; show A.depth + 3 * k + 5 < _; omega, by have := r.un; show A.units + 1 + 16 * k + 200 < _; omega⟩
theorem make_depth {A : Around} {C : Addr} {us : List Value} {kw : List (Str × Value)} : (A.under (.builtin "type.__call__" ⟨.ref C :: us, kw⟩)).depth = A.depth + 1 := by
 first | rfl | simp [Around.under, Code.weight, Code.isCreation, Code.isGuard, Code.isCaller, Code.frames, Code.isFrame, guardIds]
theorem make_units {A : Around} {C : Addr} {us : List Value} {kw : List (Str × Value)} : (A.under (.builtin "type.__call__" ⟨.ref C :: us, kw⟩)).units = A.units + 1 := by
 first | rfl | simp [Around.under, Code.cUnits, Code.frames, Code.isFrame]
theorem Room.make {k : Nat} {A : Around} (r : Room (k + 1) A) (C : Addr) (us : List Value) (kw : List (Str × Value)) : Room k (A.under (.builtin "type.__call__" ⟨.ref C :: us, kw⟩)) :=
 ⟨r.hd, by have := r.dp; rw [make_depth]; omega, by have := r.un; rw [make_units]; omega⟩
theorem Room.depth {k : Nat} {A : Around} (r : Room k A) : A.depth < recursionLimit := by have := r.dp; omega
theorem Room.units {k : Nat} {A : Around} (r : Room k A) : A.units + 64 < cLine := by have := r.un; omega
def tNil : TA := fun _ H Q => Q [] H
def tCons (ta : TE) (tr : TA) : TA := fun σ H Q => ta σ H fun x H1 => tr σ H1 fun xs H2 => Q (x :: xs) H2
section
variable {X : Cx} {e : Expr} {es : List Expr} {te : TE} {t : TA} {pos : Pos}
theorem pa_nil : PA X [] tNil := fun _ _ _ _ H Q I h => Calls.spliced_nil ⟨[], H, I, .nil, h⟩
theorem pa_cons (ha : PE X e te) (hr : PA X es t) (hs : starEach (e :: es) X.env = (false, eval e X.env) :: starEach es X.env := by rfl) : PA X (e :: es) (tCons te t) := by
 intro pos pins s σ H Q I h
 rw [hs]
 show wpAny _ _ (spliced ((false, eval e X.env) :: backTo pos (starEach es X.env))) _ _ s
 refine Calls.spliced_cons (thn (ha pins s σ H _ I h) fun u s1 ⟨x, H1, I1, r1, q1⟩ => ?_)
 exact thn (hr pos pins s1 σ H1 _ I1 q1) fun us s2 ⟨xs, H2, I2, r2, q2⟩ => ⟨x :: xs, H2, I2, .cons r1 r2, q2⟩
def tTup (t : TA) : TE := fun σ H Q => t σ H fun xs H1 => xs.length ≤ sizeLine ∧ ∀ p, H1 p = none → Q (.ref p) (upd H1 p (.tup xs))
def tLst (t : TA) : TE := fun σ H Q => t σ H fun xs H1 => xs.length ≤ sizeLine ∧ ∀ p, H1 p = none → Q (.ref p) (upd H1 p (.lst xs))
theorem pe_tup {x1} (h : PA X es t) : PE X (.Tuple es x1 pos) (tTup t) := by
 intro pins s σ H Q I hq
 refine wpAny_Tuple_spliced (thn (h pos pins s σ H _ I hq) fun us s1 ⟨xs, H1, I1, r, z, q⟩ => ⟨by rw [← r.length]; exact z, ?_⟩)
 have hf : H1 s1.heap.objs.size = none := I1.hok.fresh (Nat.le_refl _)
 refine ⟨.ref s1.heap.objs.size, upd H1 s1.heap.objs.size (.tup xs), I1.laid (t' := s1.toks) (fun b u e => Heap.get?_push_of_some _ e) (Nat.le_refl _) ?_, rfl, q _ hf⟩
 exact ⟨z, us, r, ⟨_, Heap.get?_push_size _ rfl, rfl, _, rfl⟩⟩
theorem pe_lst (h : PA X es t) : PE X (.List es pos) (tLst t) := by
 intro pins s σ H Q I hq
 refine wpAny_List_spliced (thn (h pos pins s σ H _ I hq) fun us s1 ⟨xs, H1, I1, r, z, q⟩ => ⟨by rw [← r.length]; exact z, ?_⟩)
 have hf : H1 s1.heap.objs.size = none := I1.hok.fresh (Nat.le_refl _)
 refine ⟨.ref s1.heap.objs.size, upd H1 s1.heap.objs.size (.lst xs), I1.laid (t' := s1.toks) (fun b u e => Heap.get?_push_of_some _ e) (Nat.le_refl _) ?_, rfl, q _ hf⟩
 exact ⟨z, us, 0, r, Heap.get?_push_size _ rfl⟩
end
abbrev Sp := List V → Hp → VK → XK → Prop
abbrev CXT := List Env → Hp → Shared → XK → Value → Shared → Prop
structure Env0 (P : Program) (w : World) (K : PySem.W.Frag) (mg : Str → Option Value) (base : Heap) (A : Around) (outer : List Env) (s : Shared) (H : Hp) : Prop where
 frames : A.frames = some outer
 mod : Mod K mg base
 bs : ∀ b o, base.get? b = some o → s.heap.get? b = some o ∧ H b = none
 bsz : base.objs.size ≤ s.heap.objs.size
 funs : s.heap.FunFrames base outer
 frf : ∀ b ∈ frs outer, H b = none
 hok : HOk P w H s.heap
 bare : AllBare s.gens
def CE (outer : List Env) (P : Program) (w : World) (H : Hp) (s : Shared) (Q : VK) (u : Value) (s' : Shared) : Prop :=
 ∃ v H', s'.os = s.os ∧ AllBare s'.gens ∧ Un (frs outer) [] H H' s.heap s'.heap ∧ HOk P w H' s'.heap ∧ RelV v u ∧ Q v H'
def CR (CX : CXT) (outer : List Env) (P : Program) (w : World) (H : Hp) (s : Shared) (Q : VK) (E : XK) (r : Result) (s' : Shared) : Prop :=
 match r with
 | .ok (.ret u) => CE outer P w H s Q u s'
 | .ok _ => False
 | .error e => CX outer H s E e s'
structure FnOk (P : Program) (w : World) (K : PySem.W.Frag) (mg : Str → Option Value) (base : Heap) (CX : CXT) (k : Nat) (f : Addr) (fd : FuncData) (ps : List Str) (sp : Sp) : Prop where
 len : ∀ vs H Q E, sp vs H Q E → vs.length = ps.length
 run : ∀ (A : Around) (outer : List Env) (s : Shared) (H : Hp) (args : Args) (us : List Value) (vs : List V) (Q : VK) (E : XK), Room k A → Env0 P w K mg base A outer s H → BindsTo s fd args (ps.zip us) → Vals vs us → sp vs H Q E →
  codeAny (model P w) A (.call (.ref f) args) (CR CX outer P w H s Q E) s
theorem FnOk.imp {P : Program} {w : World} {K : PySem.W.Frag} {mg : Str → Option Value} {base : Heap} {CX : CXT} {k : Nat} {f : Addr} {fd : FuncData} {ps : List Str} {sp sp' : Sp} (F : FnOk P w K mg base CX k f fd ps sp)
  (h : ∀ vs H Q E, sp' vs H Q E → sp vs H Q E) : FnOk P w K mg base CX k f fd ps sp' :=
 ⟨fun vs H Q E q => F.len vs H Q E (h _ _ _ _ q), fun A outer s H args us vs Q E hr he hb hv hs => F.run A outer s H args us vs Q E hr he hb hv (h _ _ _ _ hs)⟩
theorem Env0.make {P : Program} {w : World} {K : PySem.W.Frag} {mg : Str → Option Value} {base : Heap} {A : Around} {outer : List Env} {s : Shared} {H : Hp} (e : Env0 P w K mg base A outer s H) (C : Addr) (us : List Value) (kw : List (Str × Value)) :
  Env0 P w K mg base (A.under (.builtin "type.__call__" ⟨.ref C :: us, kw⟩)) outer s H := ⟨by first | exact e.frames | (simpa [Around.under, Code.envs, Code.isFrame, pushEnvs] using e.frames), e.mod, e.bs, e.bsz, e.funs, e.frf, e.hok, e.bare⟩
section
variable {X : Cx} {pins : List (Addr × Obj)} {σ : St} {H : Hp} {s s' : Shared}
theorem Inv.env0 (I : Inv X pins σ H s) : Env0 X.prog X.w X.K X.mg X.base X.A X.stack s H :=
 ⟨I.ok.frames, I.ok.mod, I.bs, Nat.le_trans I.ok.bsz I.sz, I.stack, I.stkFree, I.hok, I.bare⟩
theorem Inv.after {Q : VK} {u : Value} (I : Inv X pins σ H s) (h : CE X.stack X.prog X.w H s Q u s') : EP X pins σ Q u s' := by
 obtain ⟨v, H', os, bare, un, hok, r, q⟩ := h
 obtain ⟨hh, g, d, t, os'⟩ := s'
 obtain rfl : os' = s.os := os
 exact ⟨v, H', I.call (h' := hh) (g' := g) (d' := d) (t' := t) (ch := []) un hok bare (fun b z => absurd z (by simp)), r, q⟩
end
def tCall (sp : Sp) (dvs : List V) (E : XK) (t : TA) : TE := fun σ H Q => t σ H fun vs H1 => sp (vs ++ dvs) H1 Q E
def tMeth (C : Addr) (m : Str) (sp : Sp) (dvs : List V) (E : XK) (ta : TE) (t : TA) : TE := fun σ H Q => ta σ H fun x H1 => ∃ a dx fs, x = .ref a ∧ H1 a = some (.ins C dx fs) ∧ fs.lookup m = none ∧
 t σ H1 fun vs H2 => sp (x :: (vs ++ dvs)) H2 Q E
def tMake (C : Addr) (sp : Sp) (dvs : List V) (E : XK) (t : TA) : TE := fun σ H Q => t σ H fun vs H1 => ∀ x dx, H1 x = none → H1 dx = none → dx ≠ x →
 sp (.ref x :: (vs ++ dvs)) (upd (upd H1 dx (.own x)) x (.ins C dx [])) (fun v H2 => v = .non ∧ Q (.ref x) H2) E
def Binds (K : PySem.W.Frag) (fd : FuncData) (ps : List Str) (ds : List Value) : Prop :=
 ∀ (s : Shared) (us : List Value), K.In s.heap → (us ++ ds).length = ps.length → BindsTo s fd ⟨us, []⟩ (ps.zip (us ++ ds))
theorem Binds.all {K : PySem.W.Frag} {fd : FuncData} {ps : List Str} (h : ∀ us : List Value, us.length = ps.length → bindArgs fd ⟨us, []⟩ = pure (ps.zip us)) : Binds K fd ps [] := fun s us _ hl => by
 rw [List.append_nil] at hl ⊢
 exact .of_eq (h us hl)
def Passes (CX : CXT) (X : Cx) (E : XK) : Prop := ∀ (pins : List (Addr × Obj)) (σ : St) (H : Hp) (s : Shared) (e : Value) (s' : Shared), Inv X pins σ H s → CX X.stack H s E e s' → X.xe e s'
section
variable {X : Cx} {CX : CXT} {k : Nat} {f C : Addr} {fd : FuncData} {ps : List Str} {sp : Sp} {dvs : List V} {ds : List Value} {E : XK} {x m : Str} {p pos apos : Pos} {e o : Expr} {es : List Expr} {ta : TE} {t : TA}
theorem run_fn {pins : List (Addr × Obj)} {σ : St} {H : Hp} {s : Shared} {Q : VK} {us : List Value} {vs : List V} (F : FnOk X.prog X.w X.K X.mg X.base CX k f fd ps sp) (hr : Room k X.A) (hb : Binds X.K fd ps ds) (hd : Vals dvs ds) (hx : Passes CX X E)
  (I : Inv X pins σ H s) (r : Vals vs us) (h : sp (vs ++ dvs) H Q E) : wpAny (model X.prog X.w) X.A (call (.ref f) us) (EP X pins σ Q) X.xe s := by
 have r2 : Vals (vs ++ dvs) (us ++ ds) := r.append hd
 have hl : (us ++ ds).length = ps.length := by rw [← r2.length]; exact F.len _ _ _ _ h
 refine wpAny_call (codeAny_mono (F.run X.A X.stack s H ⟨us, []⟩ (us ++ ds) (vs ++ dvs) Q E hr I.env0 (hb s us I.kIn hl) r2 h) fun r s' hq => ?_)
 cases r with
 | error e => exact hx pins σ H s e s' I hq
 | ok fl =>
  cases fl with
  | ret u => exact I.after hq
  | next => exact False.elim hq
  | brk => exact False.elim hq
  | cont => exact False.elim hq
theorem pe_call (F : FnOk X.prog X.w X.K X.mg X.base CX k f fd ps sp) (hr : Room k X.A) (hg : Gl X x) (hm : X.mg x = some (.ref f)) (hk : PySem.W.keepIn X.K (.ref f) = true) (hb : Binds X.K fd ps ds) (hd : Vals dvs ds) (hx : Passes CX X E)
  (ha : PA X (e :: es) t) (hdb : (x == ("__debug__" : Str)) = false := by decide) (he : starEach (e :: es) X.env = (false, eval e X.env) :: starEach es X.env := by rfl) (hpl : (backTo pos (starEach es X.env)).any (·.1) = false := by rfl) :
  PE X (.Call (.Name x p) (e :: es) [] pos) (tCall sp dvs E t) := by
 intro pins s σ H Q I h
 refine wpAny_Call_Name_kw (ld_glob I hg hm ?_ hdb)
 refine PySem.W.callWith_K (h₀ := X.base) I.ok.mod.kin hk (thn (ha pos pins s σ H _ I h) fun us s1 ⟨vs, H1, I1, r, q⟩ => ⟨I1.kIn, ?_⟩) he hpl
 exact run_fn F hr hb hd hx I1 r q
theorem pe_meth {pl : Sem Bool} (he : PE X o ta) (c : Cls X.K C) (hm : Meth X.K C m f) (F : FnOk X.prog X.w X.K X.mg X.base CX k f fd ps sp) (hr : Room k X.A) (hb : Binds X.K fd ps ds) (hd : Vals dvs ds) (hx : Passes CX X E) (ha : PA X (e :: es) t)
  (hst : starEach (e :: es) X.env = (false, eval e X.env) :: starEach es X.env := by rfl) (hpl : (backTo pos (starEach es X.env)).any (·.1) = false := by rfl)
  (ht : eval (.Call (.Attribute o m apos) (e :: es) [] pos) X.env = (do
   let ov ← eval o X.env
   standAt apos.atName
   let (f, first) ← holding [ov] (getMethod ov m pl)
   callWith pos f first (backTo pos (starEach (e :: es) X.env)) (backToKw pos (keywordEach [] X.env))) := by rfl) :
  PE X (.Call (.Attribute o m apos) (e :: es) [] pos) (tMeth C m sp dvs E ta t) := by
 intro pins s σ H Q I h
 refine PySem.W.methodCall_KW (pl := pl) (thn (he pins s σ H _ I h) fun u s1 ⟨x, H1, I1, rx, a, dx, fs, ex, ea, l, q⟩ => ?_) ht
 subst ex
 obtain rfl : u = Value.ref a := rx
 refine getmeth_ok I1 ea c hm l ?_
 refine PySem.W.callWith_K (first := [.ref a]) (h₀ := X.base) I.ok.mod.kin hm.kp (thn (ha pos pins s1 σ H1 _ I1 q) fun us s2 ⟨vs, H2, I2, r, q2⟩ => ⟨I2.kIn, ?_⟩) hst hpl
 exact run_fn (us := .ref a :: us) (vs := .ref a :: vs) F hr hb hd hx I2 (.cons rfl r) q2
theorem pe_meth0 {pl : Sem Bool} (he : PE X o ta) (c : Cls X.K C) (hm : Meth X.K C m f) (F : FnOk X.prog X.w X.K X.mg X.base CX k f fd ps sp) (hr : Room k X.A) (hb : Binds X.K fd ps ds) (hd : Vals dvs ds) (hx : Passes CX X E)
  (ht : eval (.Call (.Attribute o m apos) [] [] pos) X.env = (do
   let ov ← eval o X.env
   standAt apos.atName
   let (f, first) ← holding [ov] (getMethod ov m pl)
   callWith pos f first (backTo pos (starEach [] X.env)) (backToKw pos (keywordEach [] X.env))) := by rfl) :
  PE X (.Call (.Attribute o m apos) [] [] pos) (tMeth C m sp dvs E ta tNil) := by
 intro pins s σ H Q I h
 refine PySem.W.methodCall_KW (pl := pl) (thn (he pins s σ H _ I h) fun u s1 ⟨x, H1, I1, rx, a, dx, fs, ex, ea, l, q⟩ => ?_) ht
 subst ex
 obtain rfl : u = Value.ref a := rx
 refine getmeth_ok I1 ea c hm l ?_
 exact PySem.W.callWith_K0 (first := [.ref a]) I1.kIn hm.kp (run_fn (us := [.ref a]) (vs := [.ref a]) F hr hb hd hx I1 (.cons rfl .nil) q)
structure Mk (K : PySem.W.Frag) (C f : Addr) : Prop where
 makes : PySem.W.makesIn K C = true
 init : PySem.W.findIn K (.ref C) "__init__" = some (some (.ref f))
 fn : PySem.W.isFn K (.ref f) = true
 kp : PySem.W.keepIn K (.ref C) = true
theorem run_make {pins : List (Addr × Obj)} {σ : St} {H : Hp} {s : Shared} {Q : VK} {us : List Value} {vs : List V} (M : Mk X.K C f) (F : FnOk X.prog X.w X.K X.mg X.base CX k f fd ps sp) (hr : Room (k + 1) X.A) (hb : Binds X.K fd ps ds) (hd : Vals dvs ds)
  (hx : Passes CX X E) (I : Inv X pins σ H s) (r : Vals vs us)
  (h : ∀ x dx, H x = none → H dx = none → dx ≠ x → sp (.ref x :: (vs ++ dvs)) (upd (upd H dx (.own x)) x (.ins C dx [])) (fun v H2 => v = .non ∧ Q (.ref x) H2) E) :
  wpAny (model X.prog X.w) X.A (call (.ref C) us) (EP X pins σ Q) X.xe s := by
 have hq := h (s.heap.objs.size + 1) s.heap.objs.size (I.hok.fresh (Nat.le_succ _)) (I.hok.fresh (Nat.le_refl _)) (Nat.ne_of_lt (Nat.lt_succ_self _))
 have I2 := Inv.made (C := C) I
 have r2 : Vals (V.ref (s.heap.objs.size + 1) :: (vs ++ dvs)) (Value.ref (s.heap.objs.size + 1) :: (us ++ ds)) := .cons rfl (r.append hd)
 have hl : (Value.ref (s.heap.objs.size + 1) :: us ++ ds).length = ps.length := by
  have e := r2.length
  rw [F.len _ _ _ _ hq] at e
  exact e.symm
 refine wpAny_call (make_map (f := f) I.kIn M.makes M.init (beq_iff_eq.mp M.fn) (codeAny_mono (F.run _ X.stack _ _ ⟨Value.ref (s.heap.objs.size + 1) :: us, []⟩ (Value.ref (s.heap.objs.size + 1) :: (us ++ ds)) _ _ E (hr.make C us [])
  (I2.env0.make C us []) (hb _ (Value.ref (s.heap.objs.size + 1) :: us) I2.kIn hl) r2 hq) fun r s' hq' => ?_))
 cases r with
 | error e => exact hx pins σ _ _ e s' I2 hq'
 | ok fl =>
  cases fl with
  | ret u =>
   obtain ⟨v, H', I3, rv, ev, q3⟩ := I2.after hq'
   subst ev
   exact ⟨rv, ⟨V.ref (s.heap.objs.size + 1), H', I3, rfl, q3⟩⟩
  | next => exact False.elim hq'
  | brk => exact False.elim hq'
  | cont => exact False.elim hq'
theorem pe_make (M : Mk X.K C f) (F : FnOk X.prog X.w X.K X.mg X.base CX k f fd ps sp) (hr : Room (k + 1) X.A) (hg : Gl X x) (hm : X.mg x = some (.ref C)) (hb : Binds X.K fd ps ds) (hd : Vals dvs ds) (hx : Passes CX X E)
  (ha : PA X (e :: es) t) (hdb : (x == ("__debug__" : Str)) = false := by decide) (he : starEach (e :: es) X.env = (false, eval e X.env) :: starEach es X.env := by rfl) (hpl : (backTo pos (starEach es X.env)).any (·.1) = false := by rfl) :
  PE X (.Call (.Name x p) (e :: es) [] pos) (tMake C sp dvs E t) := by
 intro pins s σ H Q I h
 refine wpAny_Call_Name_kw (ld_glob I hg hm ?_ hdb)
 refine PySem.W.callWith_K (h₀ := X.base) I.ok.mod.kin M.kp (thn (ha pos pins s σ H _ I h) fun us s1 ⟨vs, H1, I1, r, q⟩ => ⟨I1.kIn, ?_⟩) he hpl
 exact run_make M F hr hb hd hx I1 r q
end
section
variable {X : Cx} {CX : CXT} {k : Nat} {f C : Addr} {fd : FuncData} {ps ks : List Str} {sp : Sp} {E : XK} {x m : Str} {p pos apos kpos : Pos} {e o : Expr} {es : List Expr} {kws : List Keyword} {te ta : TE} {t tk : TA} {nm : Option Str}
variable {g : List Value → List Value → List Value} {gV : List V → List V → List V}
end
structure FnScope (N P : List Str) (sc : Scope) : Prop where
 kind : sc.kind = .function
 co : sc.isCoroutine = false
 gen : sc.isGenerator = false
 nd : N.Nodup
 pre : N.take P.length = P
 par : ∀ x ∈ P, sc.names.lookup x = some .local ∨ sc.names.lookup x = some .cell
 nofree : ∀ y ∈ sc.names, y.2 ≠ .free
theorem bindL_out {kindOf : Str → Option NameKind} {x : Str} : ∀ {binds : List (Str × Value)} {m : Str → Option Value}, (∀ v, (x, v) ∉ binds) → bindL kindOf binds m x = m x
 | [], _, _ => rfl
 | (n, v) :: r, m, h => by
  unfold bindL
  rw [bindL_out fun w hw => h w (List.mem_cons_of_mem _ hw)]
  split
  ·have : x ≠ n := by rintro rfl; exact h v List.mem_cons_self
   simp [this]
  ·rfl
theorem bindC_out {kindOf : Str → Option NameKind} {x : Str} : ∀ {binds : List (Str × Value)} {m : Str → Option Value}, (∀ v, (x, v) ∉ binds) → bindC kindOf binds m x = m x
 | [], _, _ => rfl
 | (n, v) :: r, m, h => by
  unfold bindC
  rw [bindC_out fun w hw => h w (List.mem_cons_of_mem _ hw)]
  split
  ·rfl
  ·have : x ≠ n := by rintro rfl; exact h v List.mem_cons_self
   simp [this]
theorem bindL_get {kindOf : Str → Option NameKind} {x : Str} {v : Value} : ∀ {P : List Str} {vs : List Value} {i : Nat} {m : Str → Option Value}, P.Nodup → P[i]? = some x → vs[i]? = some v → kindOf x = some .local →
  bindL kindOf (P.zip vs) m x = some v
 | [], _, _, _, _, h, _, _ => by simp at h
 | _ :: _, [], _, _, _, _, h, _ => by simp at h
 | p :: P, w :: vs, 0, m, nd, h1, h2, hk => by
  simp at h1 h2; subst h1; subst h2
  show bindL kindOf ((p, w) :: P.zip vs) m p = _
  unfold bindL
  rw [bindL_out fun v hv => (List.nodup_cons.mp nd).1 (List.of_mem_zip hv).1, if_pos hk]
  simp
 | p :: P, w :: vs, i + 1, m, nd, h1, h2, hk => by
  show bindL kindOf ((p, w) :: P.zip vs) m x = _
  unfold bindL
  exact bindL_get (i := i) (List.nodup_cons.mp nd).2 (by simpa using h1) (by simpa using h2) hk
theorem bindC_get {kindOf : Str → Option NameKind} {x : Str} {v : Value} : ∀ {P : List Str} {vs : List Value} {i : Nat} {m : Str → Option Value}, P.Nodup → P[i]? = some x → vs[i]? = some v → kindOf x ≠ some .local →
  bindC kindOf (P.zip vs) m x = some v
 | [], _, _, _, _, h, _, _ => by simp at h
 | _ :: _, [], _, _, _, _, h, _ => by simp at h
 | p :: P, w :: vs, 0, m, nd, h1, h2, hk => by
  simp at h1 h2; subst h1; subst h2
  show bindC kindOf ((p, w) :: P.zip vs) m p = _
  unfold bindC
  rw [bindC_out fun v hv => (List.nodup_cons.mp nd).1 (List.of_mem_zip hv).1, if_neg hk]
  simp
 | p :: P, w :: vs, i + 1, m, nd, h1, h2, hk => by
  show bindC kindOf ((p, w) :: P.zip vs) m x = _
  unfold bindC
  exact bindC_get (i := i) (List.nodup_cons.mp nd).2 (by simpa using h1) (by simpa using h2) hk
def start (N : List Str) (vs : List V) : St := vs.map some ++ List.replicate (N.length - vs.length) none
def cxOf (CX : CXT) (P : Program) (w : World) (K : PySem.W.Frag) (mg : Str → Option Value) (base : Heap) (N : List Str) (qual : Str) (scope : Scope) (f : Addr) (cd : Value) (A : Around) (outer : List Env) (s : Shared) (H : Hp) (E : XK) : Cx where
 prog := P
 w := w
 K := K
 mg := mg
 base := base
 A := A.deeper (envOfC qual scope s.heap.objs.size f cd)
 N := N
 s₀ := s
 H₀ := H
 env := envOfC qual scope s.heap.objs.size f cd
 outer := outer
 stack := envOfC qual scope s.heap.objs.size f cd :: outer
 ex := []
 calm := true
 fn := fun _ => true
 pn := []
 xe := fun e s' => wpAny (model P w) (A.deeper (envOfC qual scope s.heap.objs.size f cd)) (leaving (envOfC qual scope s.heap.objs.size f cd) e) (fun _ s'' => CX outer H s E e s'') (fun e' s'' => CX outer H s E e' s'') s'
theorem cell_has {sc : Scope} {n : Nat} {x : Str} (h : sc.names.lookup x = some .cell) : ∃ c, (cellsFrom n sc.names []).lookup x = some c := by
 have q := PySem.W.cellsFrom_some sc.names n [] (.inl h)
 exact Option.isSome_iff_exists.mp q
theorem inv_start {CX : CXT} {P : Program} {w : World} {K : PySem.W.Frag} {mg : Str → Option Value} {base : Heap} {N ps : List Str} {qual : Str} {scope : Scope} {f : Addr} {cd : Value} {A : Around} {outer : List Env} {s s1 : Shared} {H : Hp} {E : XK} {us : List Value} {vs : List V}
  (S : FnScope N ps scope) (hd : A.handled = none) (e0 : Env0 P w K mg base A outer s H) (hl : vs.length = ps.length) (r : Vals vs us)
  (x : InCallC s s.heap.objs.size (bindL (envOfC qual scope s.heap.objs.size f cd).kindOf (ps.zip us) fun _ => none) (cellsFrom (s.heap.objs.size + 1) scope.names []) (bindC (envOfC qual scope s.heap.objs.size f cd).kindOf (ps.zip us) fun _ => none) s1) :
  Inv (cxOf CX P w K mg base N qual scope f cd A outer s H E) [] (start N vs) H s1 := by
 have hpl : ps.length ≤ N.length := by have := congrArg List.length S.pre; rw [List.length_take] at this; omega
 obtain ⟨h1, tk, rfl, hk⟩ := x.done
 have noA : ∀ b : Addr, b ∉ (cxOf CX P w K mg base N qual scope f cd A outer s H E).ex := fun b z => absurd (show b ∈ ([] : List Addr) from z) (by simp)
 refine ⟨⟨e0.mod, S.kind, rfl, rfl, Nat.le_refl _, fun y z c h1 h2 => ?_, fun y hy => ?_, fun y c _ h => ?_, fun _ => hd, Around.frames_deeper e0.frames, .inr ⟨rfl, rfl⟩, fun b z => absurd z (noA b), e0.bs, e0.bsz, fun b _ _ => noA b, fun b z => absurd z (noA b), e0.funs, e0.frf⟩,
  rfl, e0.bare, Un.kept hk, ⟨_, x.toInCall.ns, fun i y v h1 h2 h3 => ?_⟩, fun y c h => ⟨_, x.cell y c h⟩, e0.hok.fresh (Nat.le_refl _), fun y c h => ?_, fun p hp => absurd (show p ∈ ([] : List (Addr × Obj)) from hp) (by simp), e0.hok.kept hk, ?_⟩
 ·exact name_of_addr x.apart (PySem.mem_of_lookup h1) (PySem.mem_of_lookup h2)
 ·have hy : scope.names.lookup y = some .cell ∨ scope.names.lookup y = some .free := hy
  rcases hy with hy | hy
  ·exact cell_has hy
  ·exact absurd rfl (S.nofree _ (PySem.mem_of_lookup hy))
 ·exact Nat.le_of_lt (x.above y c (PySem.mem_of_lookup h))
 ·have hi : i < vs.length := by
   unfold start at h2
   by_cases hi : i < vs.length
   ·exact hi
   ·rw [List.getElem?_append_right (by simpa using hi)] at h2
    rw [List.getElem?_replicate] at h2
    split at h2 <;> cases h2
  have ha : vs[i]? = some v := by
   unfold start at h2
   rw [List.getElem?_append_left (by simpa using hi), List.getElem?_map] at h2
   cases e : vs[i]? with
   | none => rw [e] at h2; cases h2
   | some a => rw [e] at h2; cases h2; rfl
  obtain ⟨u, hu, rv⟩ := r.get ha
  have hp : ps[i]? = some y := by
   rw [← S.pre, List.getElem?_take_of_lt (by omega)]; exact h1
  have ndP : ps.Nodup := by rw [← S.pre]; exact S.nd.sublist (List.take_sublist _ _)
  refine ⟨u, rv, ?_⟩
  rcases S.par y (List.mem_of_getElem? hp) with k | k
  ·exact .inl ⟨k, bindL_get ndP hp hu k⟩
  ·obtain ⟨c, e⟩ := cell_has (n := s.heap.objs.size + 1) k
   refine .inr ⟨.inl k, c, e, ?_⟩
   have q := x.cell y c e
   rw [bindC_get ndP hp hu (by show scope.names.lookup y ≠ _; rw [k]; decide)] at q
   exact q
 ·exact e0.hok.fresh (Nat.le_of_lt (x.above y c (PySem.mem_of_lookup h)))
 ·unfold start
  show _ = N.length
  rw [List.length_append, List.length_map, List.length_replicate]
  omega
theorem fn_of {CX : CXT} {P : Program} {w : World} {K : PySem.W.Frag} {mg : Str → Option Value} {base : Heap} {k : Nat} {f : Addr} {name qual : Str} {params : Arguments} {body : List Stmt} {scope : Scope} {dV kV doc pm cdv ct oc : Value} {an od : Option Addr}
  {osl : Array (Option Value)} {N ps : List Str} {sp : Sp} (lk : K.lookup f = some ⟨oc, od, .func (PySem.W.fnOf name qual params body scope dV kV doc pm an cdv ct), osl⟩) (hcd : PySem.W.codeIn K cdv qual = true) (S : FnScope N ps scope)
  (len : ∀ vs H Q E, sp vs H Q E → vs.length = ps.length)
  (hbody : ∀ (A : Around) (outer : List Env) (s : Shared) (H : Hp) (vs : List V) (Q : VK) (E : XK), Room k (A.deeper (envOfC qual scope s.heap.objs.size f cdv)) → sp vs H Q E →
   ∃ t, PSs (cxOf CX P w K mg base N qual scope f cdv A outer s H E) body t ∧ t { nx := fun _ H' => Q .non H', rt := Q } (start N vs) H) :
  FnOk P w K mg base CX (k + 1) f (PySem.W.fnOf name qual params body scope dV kV doc pm an cdv ct) ps sp := by
 refine ⟨len, fun A outer s H args us vs Q E hr e0 hb r hsp => ?_⟩
 have hl := len _ _ _ _ hsp
 have KX : K.In s.heap := e0.mod.kin.keeps fun b o e => (e0.bs b o e).1
 have lim : s.heap.NoLimit := e0.mod.nolimit.keeps fun b o e => (e0.bs b o e).1
 have hkind : ∀ y ∈ ps.zip us, scope.names.lookup y.1 = some .local ∨ (scope.names.lookup y.1 = some .cell ∧ ((cellsFrom (s.heap.objs.size + 1) scope.names []).lookup y.1).isSome = true) := fun ⟨n, v⟩ hy => by
  rcases S.par n (List.of_mem_zip hy).1 with q | q
  ·exact .inl q
  ·exact .inr ⟨q, PySem.W.cellsFrom_some _ _ _ (.inl q)⟩
 refine codeAny_call_function hr.depth (KX _ _ lk) rfl S.co S.gen rfl (PySem.W.codeRec_of KX hcd) (hb _ _ _ _ ?_)
 refine wpAny_newFunctionEnv_cells S.kind hkind fun env he s1 x => ?_
 subst he
 refine ⟨lim.keeps x.toInCall.keep, codeAny_func ?_⟩
 obtain ⟨t, ht, hq⟩ := hbody A outer s H vs Q E (hr.deeper _) hsp
 have I : Inv (cxOf CX P w K mg base N qual scope f cdv A outer s H E) [] (start N vs) H s1 := inv_start S hr.hd e0 hl r x
 refine wpAny_mono (ht [] s1 (start N vs) H _ I hq) (fun fl s' hs => ?_) fun e s' hs => hs
 have fin : ∀ {σ' : St} {H' : Hp} {v : V} {u : Value}, Inv (cxOf CX P w K mg base N qual scope f cdv A outer s H E) [] σ' H' s' → RelV v u → Q v H' → CE outer P w H s Q u s' :=
  fun {σ' H' v u} J rv q => ⟨v, H', J.os, J.bare, J.base, J.hok, rv, q⟩
 cases fl with
 | ret u =>
  obtain ⟨v, σ', H', J, rv, q⟩ := hs
  exact fin J rv q
 | next =>
  obtain ⟨σ', H', J, q⟩ := hs
  exact fin (v := V.non) (u := Value.none) J rfl q
 | brk =>
  obtain ⟨_, _, _, q⟩ := hs
  exact False.elim q
 | cont =>
  obtain ⟨_, _, _, q⟩ := hs
  exact False.elim q
end L2
namespace L2
open PySem PySem.Spec PyProof.Rows
section
variable {X : Cx} {x : Str} {p pos : Pos} {e : Expr} {es : List Expr} {t : TA} {id T : String} {r : List V → Hp → VK → Prop}
def tCB (r : List V → Hp → VK → Prop) (t : TA) : TE := fun σ H Q => t σ H fun vs H1 => r vs H1 Q
theorem pe_callB (hc : CallR X (.builtin id) r) (hg : Gl X x) (hm : X.mg x = none) (hv : bootBuiltins x = some (.builtin id)) (ha : PA X (e :: es) t) (hn : x ≠ "__name__" := by decide) (hdb : (x == ("__debug__" : Str)) = false := by decide)
  (he : starEach (e :: es) X.env = (false, eval e X.env) :: starEach es X.env := by rfl) (hpl : (backTo pos (starEach es X.env)).any (·.1) = false := by rfl) : PE X (.Call (.Name x p) (e :: es) [] pos) (tCB r t) := by
 intro pins s σ H Q I h
 refine wpAny_Call_Name_kw (ld_blt I hg hm hv ?_ hn hdb)
 exact PyProof.Rows.callWith_builtin1 (thn (ha pos pins s σ H _ I h) fun us s1 ⟨vs, H1, I1, r1, q1⟩ => hc pins s1 σ H1 vs us Q I1 r1 q1) he hpl
theorem pe_callTy (hc : CallR X (.type T) r) (hg : Gl X x) (hm : X.mg x = none) (hv : bootBuiltins x = some (.type T)) (ha : PA X (e :: es) t) (hn : x ≠ "__name__" := by decide) (hdb : (x == ("__debug__" : Str)) = false := by decide)
  (he : starEach (e :: es) X.env = (false, eval e X.env) :: starEach es X.env := by rfl) (hpl : (backTo pos (starEach es X.env)).any (·.1) = false := by rfl) : PE X (.Call (.Name x p) (e :: es) [] pos) (tCB r t) := by
 intro pins s σ H Q I h
 refine wpAny_Call_Name_kw (ld_blt I hg hm hv ?_ hn hdb)
 exact PyProof.Rows.callWith_type1 (thn (ha pos pins s σ H _ I h) fun us s1 ⟨vs, H1, I1, r1, q1⟩ => hc pins s1 σ H1 vs us Q I1 r1 q1) he hpl
end
end L2
namespace HT
open PySem PyProof.Rows
section
open PySem.SeqAt
open PySem.AutoSeq1 (wpAny_loadPart')
open PySem.MeetsSeq PySem.MeetsSeq2 PySem.MeetsSeq3
end
section
variable {prog : Program} {w : World} {A : Around} {E : Value → Shared → Prop} {s : Shared}
def sIx (n d : Nat) : Option Int → Nat
 | none => d
 | some v => if v < 0 then (v + (n : Int)).toNat else min v.toNat n
theorem sIx_none (n d : Nat) : sIx n d none = d := rfl
theorem sIx_nat (n d k : Nat) : sIx n d (some (k : Int)) = min k n := by
 show (if (k : Int) < 0 then ((k : Int) + (n : Int)).toNat else min (k : Int).toNat n) = min k n
 rw [if_neg (by omega), Int.toNat_natCast]
end
end HT
namespace L2
open PySem PySem.Spec PyProof.Rows
abbrev TO := St → Hp → (Option Int → Hp → Prop) → Prop
def PO (X : Cx) (e : Option Expr) (t : TO) : Prop :=
 ∀ (pins : List (Addr × Obj)) (s : Shared) (σ : St) (H : Hp) (Q : Option Int → Hp → Prop), Inv X pins σ H s → t σ H Q →
  wpAny (model X.prog X.w) X.A (evalPart e X.env) (fun u s' => ∃ o H', Inv X pins σ H' s' ∧ IsPart u o ∧ Q o H') X.xe s
def tNoPart : TO := fun _ H Q => Q none H
def tPart (t : TE) : TO := fun σ H Q => t σ H fun x H1 => ∃ i, x = .int i ∧ Q (some i) H1
theorem intsAre_of {ns : List Int} : ∀ {us : List Value}, Vals (ns.map V.int) us → IntsAre us ns := by
 induction ns with
 | nil => intro us r; rw [List.map_nil] at r; cases r; exact .nil
 | cons n ns ih =>
  intro us r
  rw [List.map_cons] at r
  cases r with
  | cons r1 r2 =>
   obtain ⟨t, e⟩ := r1
   subst e
   exact .cons n t (ih r2)
section
variable {X : Cx} {e : Expr} {te : TE} {lo hi : Option Expr} {tl th : TO} {pos p2 : Pos}
theorem po_none : PO X none tNoPart := by
 intro pins s σ H Q I h
 rw [evalPart_none]
 exact wpAny_pure ⟨none, H, I, .none, h⟩
theorem po_some (h : PE X e te) : PO X (some e) (tPart te) := by
 intro pins s σ H Q I hw
 rw [evalPart_some]
 refine thn (h pins s σ H _ I hw) fun u s1 ⟨x, H1, I1, r1, q1⟩ => ?_
 obtain ⟨i, rfl, q⟩ := q1
 obtain ⟨t, rfl⟩ := r1
 exact ⟨some i, H1, I1, .int i t, q⟩
def SlR (X : Cx) (r : V → Option Int → Option Int → Hp → VK → Prop) : Prop :=
 ∀ (pins : List (Addr × Obj)) (s : Shared) (σ : St) (H : Hp) (x : V) (v vl vu : Value) (lo hi : Option Int) (sl : Addr) (Q : VK), Inv X pins σ H s → RelV x v → s.heap.IsSliceOf sl vl vu .none → IsPart vl lo → IsPart vu hi → r x lo hi H Q →
  ∃ T id, typeLookup (.type T) "__getitem__" = pure (some (.builtin id)) ∧ s.TypeIs v T ∧ wpAny (model X.prog X.w) X.A (getItem v (.ref sl)) (EP X pins σ Q) X.xe s
def tSl (r : V → Option Int → Option Int → Hp → VK → Prop) (te : TE) (tl th : TO) : TE := fun σ H Q => te σ H fun x H1 => tl σ H1 fun l H2 => th σ H2 fun u H3 => r x l u H3 Q
theorem pe_slice {r : V → Option Int → Option Int → Hp → VK → Prop} (hr : SlR X r) (he : PE X e te) (hl : PO X lo tl) (hu : PO X hi th) : PE X (.Subscript e (.Slice lo hi none p2) pos) (tSl r te tl th) := by
 intro pins s σ H Q I h
 refine Subscript_ (thn (he pins s σ H _ I h) fun v s1 ⟨x, H1, I1, r1, q1⟩ => ?_)
 refine wpAny_Slice (thn (hl pins s1 σ H1 _ I1 q1) fun vl s2 ⟨l, H2, I2, pl, q2⟩ => thn (hu pins s2 σ H2 _ I2 q2) fun vu s3 ⟨u, H3, I3, pu, q3⟩ => ?_)
 rw [evalPart_none]
 refine wpAny_pure ?_
 have I4 : Inv X pins σ H3 { s3 with heap := s3.heap.push { cls := .type "slice", data := .fields #[vl, vu, .none] } } := I3.kept (t' := s3.toks) fun b ob q => Heap.get?_push_of_some _ q
 obtain ⟨T, id, hT, ht, hg⟩ := hr pins { s3 with heap := s3.heap.push { cls := .type "slice", data := .fields #[vl, vu, .none] } } σ H3 x v vl vu l u s3.heap.objs.size Q I4 r1 (Heap.IsSliceOf.new ..) pl pu q3
 show wpAny (model X.prog X.w) X.A (subscriptTail e (.Slice lo hi none p2) v (.ref s3.heap.objs.size)) (EP X pins σ Q) X.xe { s3 with heap := s3.heap.push { cls := .type "slice", data := .fields #[vl, vu, .none] } }
 exact tail_any (ops := [.ref s3.heap.objs.size, v]) ht hT hg (by with_unfolding_all rfl)
def cutV (xs : List V) (lo hi : Option Int) : List V := (xs.drop (HT.sIx xs.length 0 lo)).take (HT.sIx xs.length xs.length hi - HT.sIx xs.length 0 lo)
theorem cutV_length (xs : List V) (lo hi : Option Int) : (cutV xs lo hi).length ≤ xs.length := by
 unfold cutV
 rw [List.length_take, List.length_drop]
 omega
end
end L2
namespace L2
open PySem PySem.Spec PyProof.Rows
def ixN (n : Nat) (i : Int) : Option Nat := if 0 ≤ i then (if i < n then some i.toNat else none) else if -(n : Int) ≤ i then some (i + n).toNat else none
def atI {α : Type} (xs : List α) (i : Int) : Option α := (ixN xs.length i).bind fun j => xs[j]?
theorem ixN_seq {n : Nat} {i : Int} {j : Nat} (h : ixN n i = some j) : seqIndex? i n = some j ∧ j < n ∧ -(n : Int) ≤ i ∧ i < n := by
 unfold ixN at h
 by_cases h0 : 0 ≤ i
 ·rw [if_pos h0] at h
  by_cases h1 : i < n
  ·rw [if_pos h1] at h
   have e : i.toNat = j := Option.some.inj h
   exact ⟨by rw [seqIndex_of h0 h1, e], by omega, by omega, h1⟩
  ·rw [if_neg h1] at h; cases h
 ·rw [if_neg h0] at h
  by_cases h1 : -(n : Int) ≤ i
  ·rw [if_pos h1] at h
   have e : (i + n).toNat = j := Option.some.inj h
   exact ⟨by rw [seqIndex_neg (by omega) h1, e], by omega, h1, by omega⟩
  ·rw [if_neg h1] at h; cases h
theorem atI_get {α : Type} {xs : List α} {i : Int} {v : α} (h : atI xs i = some v) : ∃ j, seqIndex? i xs.length = some j ∧ xs[j]? = some v ∧ j < xs.length ∧ -(xs.length : Int) ≤ i ∧ i < xs.length := by
 unfold atI at h
 cases e : ixN xs.length i with
 | none => rw [e] at h; cases h
 | some j =>
  rw [e] at h
  obtain ⟨h1, h2, h3, h4⟩ := ixN_seq e
  exact ⟨j, h1, h, h2, h3, h4⟩
theorem atI_nat {α : Type} {xs : List α} {j : Nat} {v : α} (h : xs[j]? = some v) : atI xs (j : Int) = some v := by
 have hj : j < xs.length := (List.getElem?_eq_some_iff.mp h).1
 have e : ixN xs.length (j : Int) = some j := by
  unfold ixN
  rw [if_pos (by omega), if_pos (by omega)]; simp
 unfold atI; rw [e]; exact h
theorem atI_last {α : Type} (xs : List α) (v : α) : atI (xs ++ [v]) (-1) = some v := by
 have hl : (xs ++ [v]).length = xs.length + 1 := by simp
 have e : ixN (xs ++ [v]).length (-1) = some xs.length := by
  unfold ixN
  rw [hl, if_neg (by decide), if_pos (by omega)]
  congr 1
  omega
 unfold atI
 rw [e]
 show (xs ++ [v])[xs.length]? = some v
 simp
def PlainIx (b : Expr) : Prop := ∀ o i, subscripted b false o i = operate [o, i] (getItem o i)
def IxR (X : Cx) (r : R2) : Prop :=
 ∀ (value slice : Expr) (pins : List (Addr × Obj)) (s : Shared) (σ : St) (H : Hp) (x y : V) (v u : Value) (Q : VK), Inv X pins σ H s → RelV x v → RelV y u → r x y H Q →
  subscripted slice false v u = operate [v, u] (getItem v u) → wpAny (model X.prog X.w) X.A (subscriptTail value slice v u) (EP X pins σ Q) X.xe s
def MtR (X : Cx) (id : String) (r : V → List V → Hp → VK → Prop) : Prop :=
 ∀ (pins : List (Addr × Obj)) (s : Shared) (σ : St) (H : Hp) (x : V) (xs : List V) (v : Value) (us : List Value) (Q : VK), Inv X pins σ H s → RelV x v → Vals xs us → r x xs H Q →
  wpAny (model X.prog X.w) X.A (call (.builtin id) (v :: us)) (EP X pins σ Q) X.xe s
section
variable {X : Cx} {a b : Expr} {ta tb : TE} {pos : Pos}
theorem pe_ix {r : R2} (hr : IxR X r) (ha : PE X a ta) (hb : PE X b tb) (hs : PlainIx b) : PE X (.Subscript a b pos) (tOp r ta tb) := by
 intro pins s σ H Q I h
 exact Subscript_ (binT ha hb I h fun v u s2 x y H2 I2 rx ry q => hr a b pins s2 σ H2 x y v u Q I2 rx ry q (hs _ _))
def rIxL (K : PySem.W.Frag) : R2 := fun x y H Q => ∃ p xs i v, x = .ref p ∧ y = .int i ∧ SqL K H p xs ∧ atI xs i = some v ∧ Q v H
def rIxT (K : PySem.W.Frag) : R2 := fun x y H Q => ∃ p xs i v, x = .ref p ∧ y = .int i ∧ SqT K H p xs ∧ atI xs i = some v ∧ Q v H
theorem ix_list : IxR X (rIxL X.K) := by
 intro value slice pins s σ H x y v u Q I rx ry h hs
 obtain ⟨p, xs, i, z, rfl, rfl, hq, he, q⟩ := h
 cases rx
 obtain ⟨t, rfl⟩ := ry
 obtain ⟨its, r, pl, hz⟩ := I.list hq
 obtain ⟨j, h1, h2, h3, h4, h5⟩ := atI_get he
 obtain ⟨w, ew, rw'⟩ := r.get h2
 have hl := r.length
 have hn := line63
 have fin : EP X pins σ Q w s := ⟨z, H, I, rw', q⟩
 by_cases h0 : 0 ≤ i
 ·have hj : i.toNat = j := by
   rw [seqIndex_of h0 h5] at h1
   exact Option.some.inj h1
  exact item_listR pl.isList h0 (by omega) (by rw [hj]; simpa using ew) fin hs
 ·have hj : (i + (its.toArray.size : Int)).toNat = j := by
   rw [seqIndex_neg (by omega) h4] at h1
   rw [List.size_toArray, ← hl]
   exact Option.some.inj h1
  exact subscriptTail_builtinR (x := w) pl.isList.typeIs slot_list_getitem.lookup
   (wpAny_getItem_list_neg (Q := fun r s' => r = w ∧ EP X pins σ Q r s') pl.isList (by omega) (by rw [List.size_toArray] <;> omega) (by omega) (by rw [hj]; simpa using ew) ⟨rfl, fin⟩) hs
theorem ix_tup : IxR X (rIxT X.K) := by
 intro value slice pins s σ H x y v u Q I rx ry h hs
 obtain ⟨p, xs, i, z, rfl, rfl, hq, he, q⟩ := h
 cases rx
 obtain ⟨t, rfl⟩ := ry
 obtain ⟨its, r, pl, hz⟩ := I.tuple hq
 obtain ⟨j, h1, h2, h3, h4, h5⟩ := atI_get he
 obtain ⟨w, ew, rw'⟩ := r.get h2
 have hl := r.length
 have hn := line63
 have fin : EP X pins σ Q w s := ⟨z, H, I, rw', q⟩
 exact subscriptTail_builtinR (x := w) pl.typeIs slot_tuple_getitem.lookup
  (getItem_tuple (j := j) (Q := fun r s' => r = w ∧ EP X pins σ Q r s') pl (by omega) (by omega) (by rw [List.size_toArray, ← hl]; exact h1) (by simpa using ew) ⟨rfl, fin⟩) hs
theorem mapSeq_set (its : List Value) (n j : Nat) (u : Value) : Obj.mapSeq (·.setIfInBounds j u) { cls := .type "list", data := .seq its.toArray n } = { cls := .type "list", data := .seq (its.set j u).toArray n } := by
 simp [Obj.mapSeq]
theorem Inv.lst {pins : List (Addr × Obj)} {σ : St} {H : Hp} {s : Shared} {p : Addr} {xs : List V} (I : Inv X pins σ H s) (h : H p = some (.lst xs)) :
  ∃ (its : List Value) (n : Nat), Vals xs its ∧ s.heap.get? p = some { cls := .type "list", data := .seq its.toArray n } ∧ xs.length ≤ sizeLine := by
 obtain ⟨z, its, n, r, e⟩ := I.hok p _ h
 exact ⟨its, n, r, e, z⟩
theorem Inv.lstUpd {pins : List (Addr × Obj)} {σ : St} {H : Hp} {s : Shared} {p : Addr} {xs ys : List V} {its its' : List Value} {n n' : Nat} {f : Obj → Obj} (I : Inv X pins σ H s) (h : H p = some (.lst xs))
  (ho : s.heap.get? p = some { cls := .type "list", data := .seq its.toArray n }) (hf : f { cls := .type "list", data := .seq its.toArray n } = { cls := .type "list", data := .seq its'.toArray n' }) (r : Vals ys its') (hz : ys.length ≤ sizeLine) (t : Nat) :
  Inv X pins σ (upd H p (.lst ys)) { s with heap := s.heap.update p f, toks := t } := by
 have e : (s.heap.update p f).get? p = some { cls := .type "list", data := .seq its'.toArray n' } := by
  rw [Heap.get?_update_self f ho (by rw [hf] <;> rfl), hf]
 refine I.write (x := p) (e := p) (by rw [h]; trivial) (.inl rfl) (fun b u hb q => (Heap.get?_update_other _ _ (Ne.symm hb)).trans q) ⟨_, e⟩ ?_
 exact ⟨hz, its', n', r, e⟩
def rSetL : V → V → V → Hp → (Hp → Prop) → Prop := fun o i v H Q => ∃ p xs k j, o = .ref p ∧ i = .int k ∧ H p = some (.lst xs) ∧ ixN xs.length k = some j ∧ Q (upd H p (.lst (xs.set j v)))
theorem set_list : PSet X rSetL := by
 intro pins s σ H o i v ov iv u Q I ro ri rv h
 obtain ⟨p, xs, k, j, rfl, rfl, hp, hj, q⟩ := h
 cases ro
 obtain ⟨t, rfl⟩ := ri
 obtain ⟨its, n, r, ho, hz⟩ := I.lst hp
 obtain ⟨h1, h2, h3, h4⟩ := ixN_seq hj
 have hl := r.length
 have hn := line63
 have I' : Inv X pins σ (upd H p (.lst (xs.set j v))) { s with heap := s.heap.update p (Obj.mapSeq (·.setIfInBounds j u)) } :=
  I.lstUpd hp ho (mapSeq_set its n j u) (r.set rv j) (by rw [List.length_set]; exact hz) s.toks
 by_cases h0 : 0 ≤ k
 ·have hk : k.toNat = j := by
   rw [seqIndex_of h0 h4] at h1
   exact Option.some.inj h1
  exact PySem.W.ki_setAt ho h0 (by omega) (by rw [List.size_toArray, ← hl]; exact h4) (by rw [hk]; exact ⟨_, I', q⟩)
 ·have hk : (k + (its.toArray.size : Int)).toNat = j := by
   rw [seqIndex_neg (by omega) h3] at h1
   rw [List.size_toArray, ← hl]
   exact Option.some.inj h1
  exact PySem.W.ki_setBack ho (by omega) (by rw [List.size_toArray, ← hl]; exact h3) (by omega) (by rw [hk]; exact ⟨_, I', q⟩)
theorem slice_bounds (lo hi : Option Int) (n : Nat) : (sliceBounds lo hi none n).1 = ((HT.sIx n 0 lo : Nat) : Int) ∧ (sliceBounds lo hi none n).2.1 = ((HT.sIx n n hi : Nat) : Int) ∧ (sliceBounds lo hi none n).2.2 = 1 := by
 refine ⟨?_, ?_, rfl⟩
 ·cases lo with
  | none => simp [sliceBounds, HT.sIx]
  | some i =>
   simp only [sliceBounds, HT.sIx, Option.getD_none, show (1 : Int) > 0 by decide, if_true]
   by_cases h : i < 0
   ·simp only [h, if_true] <;> omega
   ·simp only [h, if_false] <;> omega
 ·cases hi with
  | none => simp [sliceBounds, HT.sIx]
  | some i =>
   simp only [sliceBounds, HT.sIx, Option.getD_none, show (1 : Int) > 0 by decide, if_true]
   by_cases h : i < 0
   ·simp only [h, if_true] <;> omega
   ·simp only [h, if_false] <;> omega
theorem slicePick_cut (its : List Value) (lo hi : Option Int) : slicePick its.toArray lo hi none = ((its.drop (HT.sIx its.length 0 lo)).take (HT.sIx its.length its.length hi - HT.sIx its.length 0 lo)).toArray := by
 obtain ⟨h1, h2, h3⟩ := slice_bounds lo hi its.toArray.size
 unfold slicePick
 rw [h1, h2, h3]
 simp only [sliceRange_one, pick_run, List.size_toArray] <;> rfl
def rSlL (K : PySem.W.Frag) : V → Option Int → Option Int → Hp → VK → Prop := fun x lo hi H Q => ∃ a xs, x = .ref a ∧ SqL K H a xs ∧ ∀ p, H p = none → Q (.ref p) (upd H p (.lst (cutV xs lo hi)))
theorem sl_list : SlR X (rSlL X.K) := by
 intro pins s σ H x v vl vu lo hi sl Q I rx hs pl pu h
 obtain ⟨a, xs, rfl, hx, q⟩ := h
 cases rx
 obtain ⟨its, r, ht, hz⟩ := I.list hx
 have hlen := r.length
 refine ⟨"list", _, slot_list_getitem.lookup, ht.isList.typeIs, ?_⟩
 refine wpAny_getItem_list_slice ht.isList hs pl pu .none (by simp) ?_ (by rw [List.size_toArray] <;> omega)
 rw [slicePick_cut, ← hlen]
 refine ⟨.ref s.heap.objs.size, _, I.laid (t' := s.toks) (o := .lst (cutV xs lo hi)) (fun b ob q => Heap.get?_push_of_some _ q) (Nat.le_refl _) ?_, rfl, q _ (I.hok.fresh (Nat.le_refl _))⟩
 exact ⟨Nat.le_trans (cutV_length xs lo hi) hz, _, 0, (r.drop (HT.sIx xs.length 0 lo)).take (HT.sIx xs.length xs.length hi - HT.sIx xs.length 0 lo), Heap.get?_push_size _ rfl⟩
def flatV : V → Bool
 | .non => true
 | .bl _ => true
 | .int _ => true
 | .str _ => true
 | _ => false
def eqV : V → V → Bool
 | .non, .non => true
 | .bl a, .bl b => a == b
 | .bl a, .int b => (if a then 1 else 0) == b
 | .int a, .bl b => a == (if b then 1 else 0)
 | .int a, .int b => a == b
 | .str a, .str b => a == b
 | _, _ => false
theorem eqAt_V {A : Around} {s : Shared} {y x : V} {u v : Value} (ry : RelV y u) (rx : RelV x v) (fy : flatV y = true) (fx : flatV x = true) : SeqAt.EqAt A s u v (eqV y x) := by
 cases y with
 | non =>
  cases ry
  cases x with
  | non => cases rx; exact SeqAt.EqAt.same _
  | bl b => cases rx; exact SeqAt.EqAt.none_bool b
  | int b => obtain ⟨t, rfl⟩ := rx; exact SeqAt.EqAt.none_int b t
  | str b => obtain ⟨t, rfl⟩ := rx; exact SeqAt.EqAt.none_str b t
  | _ => exact absurd (show false = true from fx) Bool.false_ne_true
 | bl a =>
  cases ry
  cases x with
  | non => cases rx; exact SeqAt.EqAt.bool_none a
  | bl b => cases rx; exact SeqAt.EqAt.bool_bool a b
  | int b => obtain ⟨t, rfl⟩ := rx; exact SeqAt.EqAt.bool_int a b t
  | str b => obtain ⟨t, rfl⟩ := rx; exact SeqAt.EqAt.bool_str a b t
  | _ => exact absurd (show false = true from fx) Bool.false_ne_true
 | int a =>
  obtain ⟨t', rfl⟩ := ry
  cases x with
  | non => cases rx; exact SeqAt.EqAt.int_none a t'
  | bl b => cases rx; exact SeqAt.EqAt.int_bool a t' b
  | int b => obtain ⟨t, rfl⟩ := rx; exact SeqAt.EqAt.int_int a t' b t
  | str b => obtain ⟨t, rfl⟩ := rx; exact SeqAt.EqAt.int_str a t' b t
  | _ => exact absurd (show false = true from fx) Bool.false_ne_true
 | str a =>
  obtain ⟨t', rfl⟩ := ry
  cases x with
  | non => cases rx; exact SeqAt.EqAt.str_none a t'
  | bl b => cases rx; exact SeqAt.EqAt.str_bool a t' b
  | int b => obtain ⟨t, rfl⟩ := rx; exact SeqAt.EqAt.str_int a t' b t
  | str b => obtain ⟨t, rfl⟩ := rx; exact SeqAt.EqAt.str_str a t' b t
  | _ => exact absurd (show false = true from fx) Bool.false_ne_true
 | _ => exact absurd (show false = true from fy) Bool.false_ne_true
def eqU (x : V) (u : Value) : Bool := match u with
 | .none => eqV .non x
 | .bool b => eqV (.bl b) x
 | .int i _ => eqV (.int i) x
 | .str z _ => eqV (.str z) x
 | _ => false
theorem eqU_of {x y : V} {u : Value} (r : RelV y u) (f : flatV y = true) : eqU x u = eqV y x := by
 cases y with
 | non => cases r; rfl
 | bl b => cases r; rfl
 | int i => obtain ⟨t, rfl⟩ := r; rfl
 | str z => obtain ⟨t, rfl⟩ := r; rfl
 | _ => exact absurd (show false = true from f) Bool.false_ne_true
theorem any_eqU {x : V} : ∀ {xs : List V} {us : List Value}, Vals xs us → xs.all flatV = true → us.any (eqU x) = xs.any fun y => eqV y x
 | _, _, .nil, _ => rfl
 | y :: xs, u :: us, .cons r t, f => by
  rw [List.all_cons, Bool.and_eq_true] at f
  rw [List.any_cons, List.any_cons, eqU_of r f.1, any_eqU t f.2]
theorem mem_eqAt {A : Around} {s : Shared} {x : V} {v : Value} (rx : RelV x v) (fx : flatV x = true) : ∀ {xs : List V} {us : List Value}, Vals xs us → xs.all flatV = true → ∀ u ∈ us, SeqAt.EqAt A s u v (eqU x u)
 | _, _, .nil, _ => fun u hu => by cases hu
 | y :: xs, u :: us, .cons r t, f => fun u' hu => by
  rw [List.all_cons, Bool.and_eq_true] at f
  rcases List.mem_cons.mp hu with rfl | hu
  ·rw [eqU_of r f.1]; exact eqAt_V r rx f.1 fx
  ·exact mem_eqAt rx fx t f.2 u' hu
def inV (x : V) (xs : List V) : Bool := xs.any fun y => eqV y x
def rIn (K : PySem.W.Frag) (neg : Bool) : R2 := fun x y H Q => ∃ p xs, y = .ref p ∧ (SqL K H p xs ∨ SqT K H p xs) ∧ flatV x = true ∧ xs.all flatV = true ∧ Q (.bl (if neg then !inV x xs else inV x xs)) H
theorem op_notIn_seq : OpR X (compareOp .NotIn) (rIn X.K true) := by
 intro pins s σ H x y v u Q I rx ry h
 obtain ⟨p, xs, rfl, hq, fx, fs, q⟩ := h
 cases ry
 rcases hq with hq | hq
 ·obtain ⟨its, r, pl, hz⟩ := I.list hq
  refine SeqAt.notIn_listAt (eqU x) pl.isList (fun w hw => mem_eqAt rx fx r fs w (by simpa using hw)) ⟨.bl _, H, I, rfl, ?_⟩
  rw [show its.toArray.any (eqU x) = its.any (eqU x) by simp, any_eqU r fs]
  exact q
 ·obtain ⟨its, r, pl, hz⟩ := I.tuple hq
  refine SeqAt.notIn_tupleAt (eqU x) pl (fun w hw => mem_eqAt rx fx r fs w (by simpa using hw)) ⟨.bl _, H, I, rfl, ?_⟩
  rw [show its.toArray.any (eqU x) = its.any (eqU x) by simp, any_eqU r fs]
  exact q
theorem call_len_seq : CallR X (.builtin "len") (fun xs H Q => ∃ p ys, xs = [.ref p] ∧ (SqL X.K H p ys ∨ SqT X.K H p ys) ∧ Q (.int ys.length) H) := by
 intro pins s σ H xs us Q I r h
 obtain ⟨p, ys, rfl, hq, q⟩ := h
 obtain ⟨u, rfl, rx⟩ := vals1 r
 cases rx
 have hn := line63
 rcases hq with hq | hq
 ·obtain ⟨its, r', pl, hz⟩ := I.list hq
  have hlen := r'.length
  exact Calls.call_len_list pl.isList (by simp only [List.size_toArray] <;> omega) ⟨.int ys.length, H, I.tok _, ⟨s.toks + 1, by rw [List.size_toArray, hlen]⟩, q⟩
 ·obtain ⟨its, r', pl, hz⟩ := I.tuple hq
  have hlen := r'.length
  exact len_tuple pl (by simp only [List.size_toArray] <;> omega) ⟨.int ys.length, H, I.tok _, ⟨s.toks + 1, by rw [List.size_toArray, hlen]⟩, q⟩
theorem call_list_of : CallR X (.type "list") (fun xs H Q => ∃ p ys, xs = [.ref p] ∧ (SqL X.K H p ys ∨ SqT X.K H p ys) ∧ ∀ l, H l = none → Q (.ref l) (upd H l (.lst ys))) := by
 intro pins s σ H xs us Q I r h
 obtain ⟨p, ys, rfl, hq, q⟩ := h
 obtain ⟨u, rfl, rx⟩ := vals1 r
 cases rx
 have fin : ∀ (its : List Value), Vals ys its → ys.length ≤ sizeLine → ∀ (h' : Heap) (c' : Nat), (∀ b o', s.heap.get? b = some o' → h'.get? b = some o') →
   h'.get? s.heap.objs.size = some { cls := .type "list", dict := none, data := .seq its.toArray c', slots := #[] } → EP X pins σ Q (.ref s.heap.objs.size) { s with heap := h' } := fun its r' hz h' c' kp e =>
  ⟨.ref s.heap.objs.size, _, I.laid (t' := s.toks) kp (Nat.le_refl _) (show ObjOk X.prog X.w _ h' _ (.lst ys) from ⟨hz, its, c', r', e⟩), rfl, q _ (I.hok.fresh (Nat.le_refl _))⟩
 rcases hq with hq | hq
 ·obtain ⟨its, r', pl, hz⟩ := I.list hq
  have hlen := r'.length
  obtain ⟨o, ho, hc, n, hd⟩ := pl.isList
  exact call_list_seq p (.inl rfl) ho hc hd (fun h' c' kp e => fin its r' hz h' c' kp e) (by simp only [List.size_toArray] <;> omega)
 ·obtain ⟨its, r', pl, hz⟩ := I.tuple hq
  have hlen := r'.length
  obtain ⟨o, ho, hc, n, hd⟩ := pl
  exact call_list_seq p (.inr rfl) ho hc hd (fun h' c' kp e => fin its r' hz h' c' kp e) (by simp only [List.size_toArray] <;> omega)
def tyV (K : PySem.W.Frag) (T : String) (x : V) (H : Hp) : Prop := match x with
 | .str _ => T = "str"
 | .int _ => T = "int"
 | .ref p => (T = "list" ∧ ∃ xs, SqL K H p xs) ∨ (T = "tuple" ∧ ∃ o, K.lookup p = some o ∧ o.cls = .type "tuple" ∧ o.dict = none) ∨
   (T = "dict" ∧ ((∃ kvs, H p = some (.dK kvs)) ∨ ∃ kvs, H p = some (.dT kvs))) ∨ (T = "set" ∧ ∃ S n, H p = some (.set S n))
 | _ => False
theorem tyV_is {pins : List (Addr × Obj)} {σ : St} {H : Hp} {s : Shared} {T : String} {x : V} {v : Value} (I : Inv X pins σ H s) (r : RelV x v) (ty : tyV X.K T x H) :
  s.TypeIs v T ∧ ∀ a, v = .ref a → ∃ ob, s.heap.get? a = some ob ∧ ob.dict = none := by
 cases x with
 | str z =>
  obtain ⟨t, rfl⟩ := r
  cases (show T = "str" from ty)
  exact ⟨typeIs_str s z t, fun _ e => nomatch e⟩
 | int i =>
  obtain ⟨t, rfl⟩ := r
  cases (show T = "int" from ty)
  exact ⟨typeIs_int s i t, fun _ e => nomatch e⟩
 | ref p =>
  cases r
  rcases ty with ⟨rfl, xs, hq⟩ | ⟨rfl, o, hk, hc, hd⟩ | ⟨rfl, hk⟩ | ⟨rfl, S, n, hk⟩
  ·obtain ⟨its, _, pl, _⟩ := I.list hq
   refine ⟨pl.isList.typeIs, fun a e => ?_⟩
   cases e
   obtain ⟨o, n, e, c, hd, _⟩ := pl
   exact ⟨o, e, hd⟩
  ·refine ⟨⟨o, I.kIn p o hk, hc⟩, fun a e => ?_⟩
   cases e
   exact ⟨o, I.kIn _ o hk, hd⟩
  ·have z : ∃ o, s.heap.get? p = some o ∧ o.ExactDict := by
    rcases hk with ⟨kvs, hk⟩ | ⟨kvs, hk⟩
    ·obtain ⟨_, _, _, _, o, _, _, e, ex, _⟩ := I.hok p _ hk
     exact ⟨o, e, ex⟩
    ·obtain ⟨_, _, _, _, o, _, _, e, ex, _⟩ := I.hok p _ hk
     exact ⟨o, e, ex⟩
   obtain ⟨o, e, ex⟩ := z
   refine ⟨⟨o, e, ex.1⟩, fun a e2 => ?_⟩
   cases e2
   exact ⟨o, e, ex.2.1⟩
  ·obtain ⟨o, _, _, _, e, ex, _⟩ := I.hok p _ hk
   refine ⟨⟨o, e, ex.1⟩, fun a e2 => ?_⟩
   cases e2
   exact ⟨o, e, ex.2.1⟩
 | _ => exact False.elim ty
def tBM0 (K : PySem.W.Frag) (T : String) (r : V → List V → Hp → VK → Prop) (to : TE) : TE := fun σ H Q => to σ H fun x H1 => tyV K T x H1 ∧ r x [] H1 Q
def tBM (K : PySem.W.Frag) (T : String) (r : V → List V → Hp → VK → Prop) (to : TE) (t : TA) : TE := fun σ H Q => to σ H fun x H1 => tyV K T x H1 ∧ t σ H1 fun xs H2 => r x xs H2 Q
variable {o e : Expr} {es : List Expr} {to : TE} {t : TA} {name : Str} {apos cpos : Pos} {T id : String} {r : V → List V → Hp → VK → Prop}
theorem pe_bm0 (pa : PlainAttrs T) (slot : Slot T name id) (hty : typeOf (.builtin id) = pure (.type "method_descriptor")) (hm : MtR X id r) (ho : PE X o to)
  (hbase : attributeBase o name X.env (eval o X.env) = eval o X.env := by rfl) (hline : (apos.endLine == cpos.line) = true := by rfl) : PE X (.Call (.Attribute o name apos) [] [] cpos) (tBM0 X.K T r to) := by
 intro pins s σ H Q I h
 refine wpAny_Call_method0_late hbase hline (thn (ho pins s σ H _ I h) fun v s1 ⟨x, H1, I1, r1, ty, q1⟩ => ?_)
 obtain ⟨h1, h2⟩ := tyV_is I1 r1 ty
 exact ⟨T, id, pa, slot, hty, h1, h2, Calls.callWith_builtin rfl (PySem.evalArgs_none (hm pins s1 σ H1 x [] v [] Q I1 r1 .nil q1))⟩
theorem pe_bm (pa : PlainAttrs T) (slot : Slot T name id) (hty : typeOf (.builtin id) = pure (.type "method_descriptor")) (hm : MtR X id r) (ho : PE X o to) (ha : PA X (e :: es) t)
  (hbase : attributeBase o name X.env (eval o X.env) = eval o X.env := by rfl)
  (hfew : ((backTo cpos (starEach (e :: es) X.env)).all (fun x => !x.1) && (backToKw cpos (keywordEach [] X.env)).all (fun x => x.1.isSome)
   && decide ((e :: es).length + ([] : List Keyword).length + (if ([] : List Keyword).isEmpty then 0 else 1) < 30)) = true := by rfl)
  (hline : (apos.endLine == cpos.line) = true := by rfl) (hs : starEach (e :: es) X.env = (false, eval e X.env) :: starEach es X.env := by rfl) (hplain : (backTo cpos (starEach es X.env)).any (·.1) = false := by rfl) :
  PE X (.Call (.Attribute o name apos) (e :: es) [] cpos) (tBM X.K T r to t) := by
 intro pins s σ H Q I h
 refine wpAny_Call_method_late hbase hfew hline rfl (thn (ho pins s σ H _ I h) fun v s1 ⟨x, H1, I1, r1, ty, q1⟩ => ?_)
 obtain ⟨h1, h2⟩ := tyV_is I1 r1 ty
 refine ⟨T, id, pa, slot, hty, h1, h2, ?_⟩
 have hA := ha cpos pins s1 σ H1 _ I1 q1
 rw [hs] at hA ⊢
 refine Calls.callWith_builtin (by show (false || (backTo cpos (starEach es X.env)).any (·.1)) = false; rw [hplain] <;> rfl) (Calls.evalArgs_plain ?_)
 exact thn hA fun us s2 ⟨vs, H2, I2, r2, q2⟩ => hm pins s2 σ H2 x vs v us Q I2 r1 r2 q2
/- xs.append(e), list.index on a module's tuple .. are MtR facts of 06m -/
end
end L2
namespace L2
open PySem PySem.Spec PyProof.Rows
def MtM (X : Cx) (id : String) (r : V → List V → Hp → VK → Prop) : Prop :=
 ∀ (pins : List (Addr × Obj)) (s : Shared) (σ : St) (H : Hp) (x : V) (xs : List V) (v : Value) (us : List Value) (Q : VK), Inv X pins σ H s → RelV x v → Vals xs us → r x xs H Q →
  wpAny (model X.prog X.w) X.A (call (.builtin id) (v :: us)) (EP X pins σ Q) X.xe s
theorem Vals.one : ∀ {x : V} {us : List Value}, Vals [x] us → ∃ u, us = [u] ∧ RelV x u
 | _, _, .cons r .nil => ⟨_, rfl, r⟩
theorem Vals.two : ∀ {x y : V} {us : List Value}, Vals [x, y] us → ∃ u v, us = [u, v] ∧ RelV x u ∧ RelV y v
 | _, _, _, .cons r (.cons q .nil) => ⟨_, _, rfl, r, q⟩
theorem Vals.zero : ∀ {us : List Value}, Vals [] us → us = []
 | _, .nil => rfl
theorem Vals.eraseIdx : ∀ {xs : List V} {us : List Value} (i : Nat), Vals xs us → Vals (xs.eraseIdx i) (us.eraseIdx i)
 | _, _, _, .nil => .nil
 | _, _, 0, .cons _ t => t
 | _, _, i + 1, .cons r t => .cons r (Vals.eraseIdx i t)
theorem Vals.reverse {xs : List V} {us : List Value} (h : Vals xs us) : Vals xs.reverse us.reverse := by
 induction h with
 | nil => exact .nil
 | cons r t ih => rw [List.reverse_cons, List.reverse_cons]; exact Vals.append ih (.cons r .nil)
theorem len_erase {α : Type} : ∀ (l : List α) (i : Nat), (l.eraseIdx i).length ≤ l.length
 | [], _ => Nat.le_refl _
 | _ :: _, 0 => Nat.le_succ _
 | _ :: r, i + 1 => Nat.succ_le_succ (len_erase r i)
section
variable {X : Cx} {pins : List (Addr × Obj)} {σ : St} {H : Hp} {s : Shared} {l b : Addr} {xs ys zs : List V}
theorem Inv.lset {its its' : List Value} {n : Nat} {f : Array Value → Array Value} {t' : Nat} (I : Inv X pins σ H s) (hH : H l = some (.lst xs))
  (e : s.heap.get? l = some { cls := .type "list", data := .seq its.toArray n }) (hf : f its.toArray = its'.toArray) (hv : Vals ys its') (hz : ys.length ≤ sizeLine) :
  Inv X pins σ (upd H l (.lst ys)) { s with heap := s.heap.update l (Obj.mapSeq f), toks := t' } := by
 have q := PySem.IsL.update e f
 rw [hf] at q
 refine I.write (x := l) (e := l) (by rw [hH]; exact trivial) (.inl rfl) (fun b' u hb hu => (Heap.get?_update_other s.heap (Obj.mapSeq f) (Ne.symm hb)).trans hu) ⟨_, q⟩ ?_
 exact ⟨hz, its', _, hv, q⟩
theorem Inv.lnew {its : List Value} {t' : Nat} (I : Inv X pins σ H s) (hv : Vals ys its) (hz : ys.length ≤ sizeLine) :
  Inv X pins σ (upd H s.heap.objs.size (.lst ys)) { s with heap := s.heap.push { cls := .type "list", data := .seq its.toArray }, toks := t' } :=
 I.laid (fun _ _ q => Heap.get?_push_of_some _ q) (Nat.le_refl _) ⟨hz, its, 0, hv, Heap.get?_push_size _ rfl⟩
theorem Inv.fresh (I : Inv X pins σ H s) : H s.heap.objs.size = none := I.hok.fresh (Nat.le_refl _)
theorem Inv.lstM (I : Inv X pins σ H s) (hH : H l = some (.lst xs)) : xs.length ≤ sizeLine ∧ ∃ (its : List Value) (n : Nat), Vals xs its ∧ xs.length = its.length ∧ s.heap.get? l = some { cls := .type "list", data := .seq its.toArray n } := by
 obtain ⟨z, its, n, r, e⟩ := I.hok l _ hH
 exact ⟨z, its, n, r, r.length, e⟩
theorem notLongL {n : Nat} (h : n ≤ sizeLine) : Builtin.List.listTooLong n = false := by
 unfold Builtin.List.listTooLong
 exact decide_eq_false (by omega)
end
section
variable {X : Cx}
def rAppend : V → List V → Hp → VK → Prop := fun x vs H Q => ∃ l xs y, x = .ref l ∧ vs = [y] ∧ H l = some (.lst xs) ∧ xs.length < sizeLine ∧ Q .non (upd H l (.lst (xs ++ [y])))
theorem mt_append : MtM X "list.append" rAppend := by
 intro pins s σ H x vs v us Q I rx rv h
 obtain ⟨l, xs, y, rfl, rfl, hH, hz, q⟩ := h
 cases rx
 obtain ⟨u, rfl, ru⟩ := rv.one
 obtain ⟨z, its, n, r, hl, e⟩ := I.lstM hH
 refine call_meets F.slot_list_append ⟨_, e, rfl⟩ F.entry_list_append (F.args_list_append_2 _ _) (PySem.list_append l its.toArray n u (by rw [List.size_toArray]; omega)) ⟨e, ?_⟩
 refine ⟨.non, _, I.lset (its' := its ++ [u]) hH e (by simp) (r.append (.cons ru .nil)) ?_, rfl, q⟩
 rw [List.length_append, List.length_singleton]
 omega
def rPopAt : V → List V → Hp → VK → Prop := fun x vs H Q => ∃ l xs i k y, x = .ref l ∧ vs = [.int i] ∧ H l = some (.lst xs) ∧ -(2 ^ 63) ≤ i ∧ i < 2 ^ 63 ∧ seqIndex? i xs.length = some k ∧ xs[k]? = some y ∧ Q y (upd H l (.lst (xs.eraseIdx k)))
theorem mt_popAt : MtM X "list.pop" rPopAt := by
 intro pins s σ H x vs v us Q I rx rv h
 obtain ⟨l, xs, i, k, y, rfl, rfl, hH, h1, h2, hk, hy, q⟩ := h
 cases rx
 obtain ⟨u, rfl, ru⟩ := rv.one
 obtain ⟨t, rfl⟩ := ru
 obtain ⟨z, its, n, r, hl, e⟩ := I.lstM hH
 obtain ⟨w, hw, rw'⟩ := r.get hy
 refine call_meets F.slot_list_pop ⟨_, e, rfl⟩ F.entry_list_pop (F.args_list_pop_2 _ _)
  (MeetsSeq.list_pop_at l its.toArray n i t k w (fitsIndex_both h1 h2) (by rw [List.size_toArray, ← hl]; exact hk) (by rw [← Array.getElem?_toList]; exact hw) (by rw [List.size_toArray]; omega)) ⟨e, ?_⟩
 refine ⟨y, _, I.lset (its' := its.eraseIdx k) hH e ?_ (r.eraseIdx k) ?_, rw', q⟩
 ·show its.toArray.eraseIdxIfInBounds k = (its.eraseIdx k).toArray
  rw [List.eraseIdxIfInBounds_toArray]
 ·have := len_erase xs k
  omega
def rClear : V → List V → Hp → VK → Prop := fun x vs H Q => ∃ l xs, x = .ref l ∧ vs = [] ∧ H l = some (.lst xs) ∧ Q .non (upd H l (.lst []))
theorem mt_clear : MtM X "list.clear" rClear := by
 intro pins s σ H x vs v us Q I rx rv h
 obtain ⟨l, xs, rfl, rfl, hH, q⟩ := h
 cases rx
 have hus := rv.zero
 subst hus
 obtain ⟨z, its, n, r, hl, e⟩ := I.lstM hH
 refine call_meets F.slot_list_clear ⟨_, e, rfl⟩ F.entry_list_clear (F.args_list_clear_1 _) (AutoSeq1.list_clear_list_0 l its.toArray n (by rw [List.size_toArray]; omega)) ⟨e, ?_⟩
 exact ⟨.non, _, I.lset (its' := []) (ys := []) hH e rfl .nil (Nat.zero_le _), rfl, q⟩
def rCat : R2 := fun x y H Q => ∃ l b xs zs, x = .ref l ∧ y = .ref b ∧ H l = some (.lst xs) ∧ H b = some (.lst zs) ∧ xs.length + zs.length ≤ sizeLine ∧ ∀ p, H p = none → Q (.ref p) (upd H p (.lst (xs ++ zs)))
theorem op_cat : OpR X (binaryOp .Add) rCat := by
 intro pins s σ H x y v u Q I rx ry h
 obtain ⟨l, b, xs, zs, rfl, rfl, hH, hB, hz, q⟩ := h
 cases rx
 cases ry
 obtain ⟨z, its, n, r, hl, e⟩ := I.lstM hH
 obtain ⟨z2, its2, n2, r2, hl2, e2⟩ := I.lstM hB
 refine PySem.P.add_list e e2 ?_ (by rw [List.size_toArray, List.size_toArray]; omega)
 have ea : its.toArray ++ its2.toArray = (its ++ its2).toArray := by simp
 rw [ea]
 exact ⟨.ref _, _, I.lnew (t' := s.toks) (r.append r2) (by rw [List.length_append]; omega), rfl, q _ I.fresh⟩
end
section
variable {prog : Program} {w : World} {A : Around} {E : Value → Shared → Prop} {s : Shared}
set_option maxRecDepth 100000 in
end
section
variable {X : Cx}
end
end L2
namespace Att
open PySem PySem.W PySem.Calls PyProof.Rows
theorem ints_of_wellAll {P : Params} {h : Heap} : ∀ (ns : List Int) (vs : List Value), WellAll P h vs (ns.map WData.int) → IntsAre vs ns := by
 intro ns
 induction ns with
 | nil =>
  intro vs w
  rw [List.map_nil] at w
  cases w
  exact .nil
 | cons n ns ih =>
  intro vs w
  rw [List.map_cons] at w
  cases w with
  | cons a b =>
   cases a
   exact .cons _ _ (ih _ b)
theorem script_of {l : OpenLaw} {n : Nat} (hn : l.most = some n) {P : Params} {h : Heap} {args : List WData} {vals : List Value}
  (hpre : l.row.toRowW.claim.pre args = true) (hwl : WellAll P h vals args) :
  ∃ a vs ns, vals = [Value.ref a] ∧ args = [WData.list (ns.map WData.int)] ∧ h.get? a = some { cls := .type "list", data := .seq vs.toArray } ∧ IntsAre vs ns ∧ ns.length ≤ n := by
 have hsh : WShape.hasAll [] args [.list .int] = true := (pre_splitW hpre).1
 have hc : l.pre.holds [] { args := args } = true := (pre_splitW hpre).2
 obtain ⟨d, r, rfl, h1, h2⟩ := hasAllW_cons hsh
 obtain rfl := hasAllW_nil h2
 obtain ⟨xs, rfl, h3⟩ := hasW_list h1
 obtain ⟨ns, rfl⟩ := items_int h3
 have hlen : ns.length ≤ n := by
  unfold OpenLaw.pre at hc
  have h4 : (WTm.not (.lt (.lit (.int (n : Int))) (.len (.arg 0)))).holds [] { args := [.list (ns.map .int)] } = true := by
   have h4 := (holds_andW hc).1
   rw [hn] at h4
   exact h4
  have h5 := condW_of h4 (w_not (w_lt w_lit (w_len_list (w_arg rfl))))
  rw [List.length_map] at h5
  refine Nat.le_of_not_lt fun q => ?_
  have q' : (n : Int) < ((ns.length : Nat) : Int) := by omega
  first
   | (rw [decide_eq_true q'] at h5; exact absurd h5 (by decide))
   | (simp at h5; omega)
 cases hwl with
 | cons w1 w2 =>
  cases w2
  cases w1 with
  | list ho hall => exact ⟨_, _, ns, rfl, rfl, ho, ints_of_wellAll ns _ hall, hlen⟩
theorem post_true (l : OpenLaw) (args : List WData) : l.row.toRowW.claim.post args (.bool true) args = true :=
 postW_of (r := l.row.toRowW) (X := (true == true))
  (show WShape.has [] (.bool true) .bool = true by first | rfl | decide | simp [WShape.has, WShape.arms, WShape.armsAll])
  (show (WTm.eq .res (.lit (.bool true))).value [] { args := args, res := some (.bool true), after := args } = some (.bool (true == true)) from w_eq_bool (w_res rfl) w_lit) rfl
theorem attach_call {l : OpenLaw} {n : Nat} {q : Program} {loose : List Str} {XP : (Str → Option Value) → Heap → Prop} {YP : World → Heap → Prop} {d : DefRec}
  (hn : l.most = some n) (hdf : d.params.defaults = [])
  (call : ∀ (w : World) (s₀ s₁ : Shared) (mg mb : Str → Option Value) (fa : Addr) (o : Obj) (pm cd doc : Value) (a : Addr) (vs : List Value) (ns : List Int),
   Ground q loose [] XP w s₀ mg mb s₁.heap → YP w s₁.heap →
   s₁.heap.get? fa = some o → o.data = .func (docDef d.name d.params d.body d.scope pm cd doc) → s₁.heap.CodeRec cd d.name → mg d.name = some (.ref fa) →
   s₁.heap.get? a = some { cls := .type "list", data := .seq vs.toArray } → IntsAre vs ns → ns.length ≤ n → s₁.gens = #[] →
   codeAny (model l.prog w) callerA (.call (.ref fa) ⟨[.ref a], []⟩) (fun r s' => r = .ok (.ret (.bool true)) ∧ OldK s₁.heap s'.heap ∧ s'.os = s₁.os ∧ AllBare s'.gens) s₁) :
  WalkO q loose XP YP l.row.toRowW d [] (fun f vs => PySem.call f vs) := by
 intro w s₀ s₁ mg mb G Y fa o pm cd doc dV kV ho hd hcd hD hmg hg args vals as hpre hlay hrd hwl hlo
 obtain rfl : dV = .none := Dflts.none hD hdf
 obtain rfl : kV = .none := Dflts.noKw hD
 obtain ⟨a, vs, ns, rfl, rfl, hobj, hints, hlen⟩ := script_of hn hpre hwl
 refine enter_call (codeAny_mono (call w s₀ s₁ mg mb fa o pm cd doc a vs ns G Y ho (fd_plain hd) hcd hmg hobj hints hlen hg) fun r s' hq => ?_)
 obtain ⟨rfl, h2, h3, h4⟩ := hq
 exact ⟨.inl ⟨.bool true, .bool true, [], rfl, fun _ => rfl, .bool true, post_true l _, fun _ => ⟨List.Pairwise.nil, fun _ hm => (nomatch hm)⟩⟩, h2, h3, h4⟩
section
variable {prog : Program} {w : World} {A : Around} {E : Value → Shared → Prop} {s : Shared} {K : Frag}
end
end Att
namespace L2
open PySem PySem.Spec PyProof.Rows
theorem vals_ints : ∀ {vs : List Value} {ns : List Int}, IntsAre vs ns → Vals (ns.map V.int) vs
 | _, _, .nil => .nil
 | _, _, .cons n t h => .cons ⟨t, rfl⟩ (vals_ints h)
end L2
namespace L2
open PySem PySem.Spec PyProof.Rows
end L2
/- THE LAST THEOREM (shape; LID, My.* are yours):
   My.Adr: a structure of the addresses that your layer names (classes, functions); My.Txt K t: a structure (Prop) of the equations over K;
   My.txt_mk : {K} {implicit addresses ..} (e1 : nsIn K mainGlobals "law" = some (some (.ref f))) (e2 : K.lookup f = some ⟨oc, od, .func (fnOf "law" "law" params body scope dV kV doc pm an cdv ct), sl⟩) (e3 : codeIn K cdv "law" = true) .. : ∃ t, My.Txt K t
set_option maxRecDepth 100000 in
set_option maxHeartbeats 0 in
theorem PySem.Challenge.cw_LID_holds : PySem.Challenge.rw_LID.Holds := by
 w_on; o_law; k_head; (case hw => w_witness2)
 k_fill
 refine L2.walk_of (l := PySem.Challenge.rw_LID) (n := 63) (k := 40) (x := "script") (CX := fun w => ..) (sp := fun _ => My.sp_law) rfl (by decide) rfl ⟨rfl, by decide, by decide⟩ (fun w h Y => PySem.W.kIn_of Y) ?F ?S ?C
 case F =>
  intro w mg fa h KX G hmg
  have T : ∃ t, My.Txt (L2.KOf KX) t := by
   dsimp only [L2.KOf]                          -- K must stand as «<heap const> w.params» for k_is
   refine' My.txt_mk ?e1 ?e2 ?e3 ..
   (case e1 => PySem.W.k_is)                    -- in the order: a name -> its address -> its object -> its parts
   (case e2 => PySem.W.k_is)
   ..
  obtain ⟨t, T⟩ := T
  have e0 := hmg.symm.trans (PySem.W.mg_of KX G T.law)
  cases e0                                       -- fa is the law's own address
  exact ⟨_, fun s u => .of_eq rfl, fun base kb nb => My.law_fn T kb nb⟩     -- if «.of_eq rfl» comes too early: refine' ⟨_, ?b, fun base kb nb => My.law_fn T kb nb⟩; exact fun s u => .of_eq rfl
 case S => exact fun w H a ns hl hO hS => ..
 case C => exact ..
(the tactic k_is has no namespace: write k_is) -/
namespace L2
open PySem PySem.Spec PyProof.Rows
def inClass (s : Stmt) (j : Nat) : Stmt := match s with
 | .ClassDef _ _ _ body _ _ _ _ _ _ _ => body.getD j (.Pass ⟨0, 0, 0, 0⟩)
 | _ => .Pass ⟨0, 0, 0, 0⟩
def defArgs (s : Stmt) : Arguments := match s with
 | .FunctionDef _ a _ _ _ _ _ _ _ _ => a
 | _ => { posonlyargs := [], args := [], vararg := none, kwonlyargs := [], kw_defaults := [], kwarg := none, defaults := [] }
def defBody (s : Stmt) : List Stmt := match s with
 | .FunctionDef _ _ b _ _ _ _ _ _ _ => b
 | _ => []
def defScope (s : Stmt) : Scope := match s with
 | .FunctionDef _ _ _ _ _ _ sc _ _ _ => sc
 | _ => { kind := .function, names := [], isGenerator := false, isCoroutine := false }
abbrev CX0 : CXT := fun _ _ _ _ _ _ => False
abbrev E0 : XK := fun _ _ _ => False
theorem pass0 {X : Cx} : Passes CX0 X E0 := fun _ _ _ _ _ _ _ h => h.elim
structure Fun (K : PySem.W.Frag) (x qual : Str) (st : Stmt) (f : Addr) (fd : FuncData) : Prop where
 ex : ∃ (oc : Value) (od : Option Addr) (kV doc pm : Value) (an : Option Addr) (cdv ct : Value) (osl : Array (Option Value)),
  fd = PySem.W.fnOf x qual (defArgs st) (defBody st) (defScope st) .none kV doc pm an cdv ct ∧ K.lookup f = some ⟨oc, od, .func fd, osl⟩ ∧ PySem.W.codeIn K cdv qual = true
 kp : PySem.W.keepIn K (.ref f) = true
section
variable {P : Program} {w : World} {K : PySem.W.Frag} {mg : Str → Option Value} {base : Heap}
theorem Fun.ok {x qual : Str} {st : Stmt} {f : Addr} {fd : FuncData} {N ps : List Str} {k : Nat} {sp : Sp} (F : Fun K x qual st f fd) (S : FnScope N ps (defScope st)) (len : ∀ vs H Q E, sp vs H Q E → vs.length = ps.length)
  (hbody : ∀ (cdv : Value) (A : Around) (outer : List Env) (s : Shared) (H : Hp) (vs : List V) (Q : VK) (E : XK), Room k (A.deeper (envOfC qual (defScope st) s.heap.objs.size f cdv)) → sp vs H Q E →
   ∃ t, PSs (cxOf CX0 P w K mg base N qual (defScope st) f cdv A outer s H E).nox (defBody st) t ∧ t { nx := fun _ H' => Q .non H', rt := Q } (start N vs) H) : FnOk P w K mg base CX0 (k + 1) f fd ps sp := by
 obtain ⟨oc, od, kV, doc, pm, an, cdv, ct, osl, rfl, lk, hcd⟩ := F.ex
 refine fn_of lk hcd S len fun A outer s H vs Q E hr hsp => ?_
 obtain ⟨t, h, q⟩ := hbody cdv A outer s H vs Q E hr hsp
 exact ⟨t, h.nox, q⟩
theorem Fun.binds {x qual : Str} {st : Stmt} {f : Addr} {fd : FuncData} {ps : List Str} (F : Fun K x qual st f fd)
  (h : ∀ (kV doc pm : Value) (an : Option Addr) (cdv ct : Value) (us : List Value), us.length = ps.length → bindArgs (PySem.W.fnOf x qual (defArgs st) (defBody st) (defScope st) .none kV doc pm an cdv ct) ⟨us, []⟩ = pure (ps.zip us)) : Binds K fd ps [] := by
 obtain ⟨oc, od, kV, doc, pm, an, cdv, ct, osl, rfl, lk, hcd⟩ := F.ex
 exact .all (h kV doc pm an cdv ct)
theorem fun_mk {x qual : Str} {st : Stmt} {f : Addr} {oc : Value} {od an : Option Addr} {osl : Array (Option Value)} {kV doc pm cdv ct : Value} (l : K.lookup f = some ⟨oc, od, .func (PySem.W.fnOf x qual (defArgs st) (defBody st) (defScope st) .none kV doc pm an cdv ct), osl⟩)
  (c : PySem.W.codeIn K cdv qual = true) (k : PySem.W.keepIn K (.ref f) = true) : Fun K x qual st f (PySem.W.fnOf x qual (defArgs st) (defBody st) (defScope st) .none kV doc pm an cdv ct) := ⟨⟨oc, od, kV, doc, pm, an, cdv, ct, osl, rfl, l, c⟩, k⟩
end
theorem hu_of {A : Around} {k : Nat} (hr : Room k A) : A.units + 1 < cLine := Nat.lt_of_le_of_lt (Nat.add_le_add_left (by decide : 1 ≤ 64) _) hr.units
section
variable {X : Cx}
theorem pv (i : Nat) {x : Str} {pos : Pos} (hN : X.N[i]? = some x := by rfl) (hv : Vis X.env.scope x := by first | exact Or.inl rfl | exact Or.inr (Or.inl rfl) | exact Or.inr (Or.inr rfl)) (hd : (x == ("__debug__" : Str)) = false := by decide)
  (hcd : (x == ("__classdict__" : Str)) = false := by decide) : PE X (.Name x pos) (tVar i) := pe_var hN hv hd hcd
end
theorem iteF {A B : Prop} (h : B) : if false = true then A else B := by
 rw [if_neg Bool.false_ne_true]
 exact h
theorem iteT {A B : Prop} (h : A) : if true = true then A else B := by
 rw [if_pos rfl]
 exact h
theorem ite2 {c A B : Prop} [Decidable c] (h1 : c → A) (h2 : ¬ c → B) : if c then A else B := by
 by_cases h : c
 ·rw [if_pos h]
  exact h1 h
 ·rw [if_neg h]
  exact h2 h
theorem iteNS {c A B : Prop} [Decidable c] (hc : c) (h : B) : if (!decide c) = true then A else B := by
 rw [decide_eq_true hc]
 exact iteF h
def Same (H H' : Hp) : Prop := ∀ b o, H b = some o → H' b = some o
theorem Same.refl (H : Hp) : Same H H := fun _ _ h => h
theorem Same.trans {H H1 H2 : Hp} (a : Same H H1) (b : Same H1 H2) : Same H H2 := fun c o h => b c o (a c o h)
theorem Same.free {H H' : Hp} (e : Same H H') {l : Addr} (h : H' l = Option.none) : H l = Option.none := by
 cases q : H l with
 | none => rfl
 | some o =>
  rw [e l o q] at h
  cases h
theorem Same.seq {K : PySem.W.Frag} {H H' : Hp} {a : Addr} {xs : List V} (e : Same H H') (h : SqL K H a xs) : SqL K H' a xs := by
 rcases h with (h | ⟨o, h⟩) | h
 ·exact .inl (.inl (e _ _ h))
 ·exact .inl (.inr ⟨o, e _ _ h⟩)
 ·exact .inr h
end L2
namespace L2
open PySem PySem.Spec PyProof.Rows
def Sm (i : Int) : Prop := i.natAbs.log2 < 4000
theorem Sm.of_lt {i : Int} (h : i.natAbs < 2 ^ 4000) : Sm i := by
 unfold Sm
 by_cases h0 : i.natAbs = 0
 ·rw [h0]
  exact Nat.lt_of_le_of_lt (Nat.le_of_eq (by decide : Nat.log2 0 = 0)) (by decide)
 ·exact (Nat.log2_lt h0).mpr h
theorem Sm.lt {i : Int} (h : Sm i) : i.natAbs < 2 ^ 4000 := by
 unfold Sm at h
 by_cases h0 : i.natAbs = 0
 ·rw [h0]
  exact Nat.two_pow_pos _
 ·exact (Nat.log2_lt h0).mp h
theorem Sm.of_bits {i : Int} {n : Nat} (h : i.natAbs < 2 ^ n) (hn : n ≤ 4000) : Sm i :=
 .of_lt (Nat.lt_of_lt_of_le h (Nat.pow_le_pow_right (by decide) hn))
theorem Sm.bits {i : Int} (h : Sm i) : Builtin.Int.intBits i ≤ 2 ^ 20 := by
 unfold Builtin.Int.intBits
 have : (4000 : Nat) ≤ 2 ^ 20 := by decide
 have h' : i.natAbs.log2 < 4000 := h
 split <;> omega
section
variable {X : Cx}
def CMulS (i j : Int) : Prop := Sm i ∧ Sm j
def CDivS (_ j : Int) : Prop := 0 < j ∧ Sm j
theorem op_mulS : OpR X (binaryOp .Mult) (rI CMulS fun i j => .int (i * j)) := opI fun _ _ _ _ _ _ _ hc q => mul_int q (IntMulOk.of_bits hc.1.bits hc.2.bits)
theorem op_fdivS : OpR X (binaryOp .FloorDiv) (rI CDivS fun i j => .int (i / j)) := opI fun i j _ _ _ _ _ hc q => by
 have e : Int.fdiv i j = i / j := Int.fdiv_eq_ediv_of_nonneg i (Int.le_of_lt hc.1)
 refine floordiv_int (by have := hc.1; omega) ?_ (.inl (PyProof.noPylong_of_log2 (Nat.lt_trans hc.2 (by decide))))
 rw [e]
 exact q
inductive TyO (K : PySem.W.Frag) (H : Hp) : V → Value → Prop where
 | of {x : V} {t : Value} (h : TyOf K H x t) : TyO K H x t
 | sqT {a : Addr} {xs : List V} (h : SqT K H a xs) : TyO K H (.ref a) (.type "tuple")
 | sqL {a : Addr} {xs : List V} (h : SqL K H a xs) : TyO K H (.ref a) (.type "list")
def rIsi (K : PySem.W.Frag) : List V → Hp → VK → Prop := fun xs H Q => match xs with
 | [x, .ty T] => ∃ t b, TyO K H x t ∧ PySem.W.kitOne K t (.type T) = some b ∧ Q (.bl b) H
 | _ => False
theorem call_isi : CallR X (.builtin "isinstance") (rIsi X.K) := by
 intro pins s σ H xs us Q I r h
 unfold rIsi at h
 split at h
 ·rename_i x T
  obtain ⟨t, b, ty, e, q⟩ := h
  obtain ⟨u, v, rfl, ru, rv⟩ := r.two
  cases (show v = Value.type T from rv)
  have fin : ∀ tk, EP X pins σ Q (.bool b) { s with toks := tk } := fun tk => ⟨.bl b, H, I.tok tk, rfl, q⟩
  cases ty with
  | of h => exact isinst_ok I ru h e fin
  | @sqT a ys h =>
   cases (show u = Value.ref a from ru)
   obtain ⟨its, _, p, _⟩ := I.tuple h
   obtain ⟨o, h1, h2, _⟩ := p
   exact PySem.W.kia_one PySem.W.kitx_tuple I.kIn ⟨o, h1, h2⟩ e (fun z => nomatch z) fin
  | @sqL a ys h =>
   cases (show u = Value.ref a from ru)
   obtain ⟨its, _, p, _⟩ := I.list h
   obtain ⟨o, n, h1, h2, _⟩ := p
   exact PySem.W.kia_one PySem.W.kitx_list I.kIn ⟨o, h1, h2⟩ e (fun z => nomatch z) fin
 ·exact h.elim
def tIsi (K : PySem.W.Frag) (T : String) (te : TE) : TE := tCB (rIsi K) (tCons te (tCons (tC (.ty T)) tNil))
theorem pe_isi {e : Expr} {te : TE} {T : String} {tx : Str} {p p2 pos : Pos} (he : PE X e te) (hg : Gl X "isinstance") (hm : X.mg "isinstance" = none) (hg2 : Gl X tx) (hm2 : X.mg tx = none)
  (hv : bootBuiltins tx = some (.type T)) (hn : tx ≠ "__name__" := by decide) (hd : (tx == ("__debug__" : Str)) = false := by decide)
  (h1 : starEach [e, .Name tx p2] X.env = (false, eval e X.env) :: starEach [.Name tx p2] X.env := by rfl) :
  PE X (.Call (.Name "isinstance" p) [e, .Name tx p2] [] pos) (tIsi X.K T te) :=
 pe_callB (call_isi (X := X)) hg hm PyProof.Rows.boot_isinstance (pa_cons he (pa_cons (pe_bltn (v := .ty T) hg2 hm2 hv rfl hn hd) pa_nil) h1) (he := h1)
theorem kit_int (K : PySem.W.Frag) : PySem.W.kitOne K (.type "int") (.type "int") = some true := rfl
theorem kit_int_bool (K : PySem.W.Frag) : PySem.W.kitOne K (.type "int") (.type "bool") = some false := by kernel_rfl
theorem kit_tuple (K : PySem.W.Frag) : PySem.W.kitOne K (.type "tuple") (.type "tuple") = some true := rfl
theorem kit_list (K : PySem.W.Frag) : PySem.W.kitOne K (.type "list") (.type "list") = some true := rfl
end
def rpInt (_ : Hp) (x : V) (i : Int) : Prop := x = .int i
def rpPair {α β : Type} (K : PySem.W.Frag) (R : Hp → V → α → Prop) (S : Hp → V → β → Prop) (H : Hp) (x : V) (d : α × β) : Prop := ∃ p y z, x = .ref p ∧ SqT K H p [y, z] ∧ R H y d.1 ∧ S H z d.2
def rpLst {α : Type} (K : PySem.W.Frag) (R : Hp → V → α → Prop) (H : Hp) (x : V) (ds : List α) : Prop := ∃ p ys, x = .ref p ∧ SqL K H p ys ∧ Paired (R H) ys ds
structure RpE {α : Type} [DecidableEq α] (K : PySem.W.Frag) (R : Hp → V → α → Prop) (d : Nat) : Prop where
 inj : ∀ {X : Cx} {pins : List (Addr × Obj)} {σ : St} {H : Hp} {s : Shared} {x : V} {a b : α}, X.K = K → Inv X pins σ H s → R H x a → R H x b → a = b
 eq : ∀ {X : Cx} {pins : List (Addr × Obj)} {σ : St} {H : Hp} {s : Shared} {A : Around} {x y : V} {u v : Value} {a b : α}, X.K = K → Inv X pins σ H s → A.units + d < cLine → R H x a → R H y b → RelV x u → RelV y v → SeqAt.EqAt A s u v (decide (a = b))
theorem Paired.get {α β : Type} {F : α → β → Prop} : ∀ {xs : List α} {ys : List β}, Paired F xs ys → ∀ (i : Nat) (x : α) (y : β), xs[i]? = some x → ys[i]? = some y → F x y
 | _, _, .nil, i, x, y, h, _ => by simp at h
 | _, _, .cons r _, 0, x, y, h1, h2 => by
  simp at h1 h2
  subst h1 h2
  exact r
 | _, _, .cons _ t, i + 1, x, y, h1, h2 => Paired.get t i x y (by simpa using h1) (by simpa using h2)
theorem Paired.fn {α β : Type} {F : α → β → Prop} (f : ∀ x a b, F x a → F x b → a = b) : ∀ {xs : List α} {ys zs : List β}, Paired F xs ys → Paired F xs zs → ys = zs
 | _, _, _, .nil, .nil => rfl
 | _, _, _, .cons r t, .cons r' t' => by rw [f _ _ _ r r', Paired.fn f t t']
theorem rpe_int {K : PySem.W.Frag} : RpE K rpInt 0 where
 inj := fun _ _ h1 h2 => by
  have h : V.int _ = V.int _ := h1.symm.trans h2
  exact V.int.inj h
 eq := fun {X pins σ H s A x y u v a b} _ _ _ h1 h2 r1 r2 => by
  cases (show x = .int a from h1)
  cases (show y = .int b from h2)
  obtain ⟨t, rfl⟩ := (show ∃ t, u = Value.int a t from r1)
  obtain ⟨t', rfl⟩ := (show ∃ t, v = Value.int b t from r2)
  have e : (a == b) = decide (a = b) := Bool.beq_eq_decide_eq a b
  rw [← e]
  exact SeqAt.EqAt.int_int a t b t'
section
variable {α β : Type} [DecidableEq α] [DecidableEq β] {K : PySem.W.Frag} {R : Hp → V → α → Prop} {S : Hp → V → β → Prop} {d : Nat} {X : Cx} {pins : List (Addr × Obj)} {σ : St} {H : Hp} {s : Shared} {A : Around}
theorem in1_units (A : Around) : A.in1.units = A.units + 1 := rfl
theorem pair_items (hR : RpE K R d) (hS : RpE K S d) (hK : X.K = K) (I : Inv X pins σ H s) (hu : A.units + (d + 1) < cLine) {y z y' z' : V} {its its' : List Value} {c c' : α × β} (r : Vals [y, z] its) (r' : Vals [y', z'] its')
  (h1 : R H y c.1) (h2 : S H z c.2) (h1' : R H y' c'.1) (h2' : S H z' c'.2) :
  ∃ e : Nat → Bool, (∀ j (q1 : j < its.toArray.size) (q2 : j < its'.toArray.size), SeqAt.EqAt A.in1 s its.toArray[j] its'.toArray[j] (e j)) ∧ ((List.range (min its.toArray.size its'.toArray.size)).all e && its.toArray.size == its'.toArray.size) = decide (c = c') := by
 obtain ⟨u1, u2, rfl, q1, q2⟩ := r.two
 obtain ⟨u1', u2', rfl, q1', q2'⟩ := r'.two
 have hu' : A.in1.units + d < cLine := by rw [in1_units]; omega
 have e1 := hR.eq (A := A.in1) hK I hu' h1 h1' q1 q1'
 have e2 := hS.eq (A := A.in1) hK I hu' h2 h2' q2 q2'
 refine ⟨fun j => match j with | 0 => decide (c.1 = c'.1) | _ => decide (c.2 = c'.2), fun j z1 z2 => ?_, ?_⟩
 ·match j, z1, z2 with
  | 0, _, _ => exact e1
  | 1, _, _ => exact e2
 ·obtain ⟨a, b⟩ := c
  obtain ⟨a', b'⟩ := c'
  show (((List.range 2).all _) && true) = _
  rw [show List.range 2 = [0, 1] from rfl, Bool.and_true]
  simp only [List.all_cons, List.all_nil, Bool.and_true, Prod.mk.injEq]
  exact (Bool.decide_and _ _).symm
theorem rpe_pair (hR : RpE K R d) (hS : RpE K S d) : RpE K (rpPair K R S) (d + 1) where
 inj := fun {X pins σ H s x c c'} hK I h h' => by
  obtain ⟨p, y, z, rfl, q, h1, h2⟩ := h
  obtain ⟨p', y', z', e, q', h1', h2'⟩ := h'
  cases e
  subst hK
  have e := I.tuple_inj q q'
  injection e with e1 e2
  injection e2 with e2 _
  subst e1 e2
  exact Prod.ext (hR.inj rfl I h1 h1') (hS.inj rfl I h2 h2')
 eq := fun {X pins σ H s A x y u v c c'} hK I hu h h' r r' => by
  obtain ⟨p, y, z, rfl, q, h1, h2⟩ := h
  obtain ⟨p', y', z', rfl, q', h1', h2'⟩ := h'
  cases (show u = Value.ref p from r)
  cases (show v = Value.ref p' from r')
  by_cases hp : p = p'
  ·subst hp
   subst hK
   have e := I.tuple_inj q q'
   injection e with e1 e2
   injection e2 with e2 _
   subst e1 e2
   have e : c = c' := Prod.ext (hR.inj rfl I h1 h1') (hS.inj rfl I h2 h2')
   rw [decide_eq_true e]
   exact SeqAt.EqAt.same _
  ·have q0 : SqT X.K H p [y, z] := hK ▸ q
   have q0' : SqT X.K H p' [y', z'] := hK ▸ q'
   obtain ⟨its, rr, pt, _⟩ := I.tuple q0
   obtain ⟨its', rr', pt', _⟩ := I.tuple q0'
   obtain ⟨e, he, ee⟩ := pair_items hR hS hK I hu rr rr' h1 h2 h1' h2'
   rw [← ee]
   exact SeqAt.EqAt.of_refs hp (SeqAt.RcAt.tuples pt pt' (by omega) he)
theorem lst_items (hR : RpE K R d) (hK : X.K = K) (I : Inv X pins σ H s) (hu : A.units + (d + 1) < cLine) {ys ys' : List V} {its its' : List Value} {ds ds' : List α} (r : Vals ys its) (r' : Vals ys' its')
  (h : Paired (R H) ys ds) (h' : Paired (R H) ys' ds') :
  ∀ j (q1 : j < its.toArray.size) (q2 : j < its'.toArray.size), SeqAt.EqAt A.in1 s its.toArray[j] its'.toArray[j] (decide (ds[j]? = ds'[j]?)) := by
 intro j q1 q2
 rw [List.size_toArray] at q1 q2
 have hu' : A.in1.units + d < cLine := by rw [in1_units]; omega
 have l1 := r.length
 have l2 := h.length
 have l1' := r'.length
 have l2' := h'.length
 have g1 : ys[j]? = some (ys[j]'(by omega)) := List.getElem?_eq_getElem _
 have g2 : ds[j]? = some (ds[j]'(by omega)) := List.getElem?_eq_getElem _
 have g1' : ys'[j]? = some (ys'[j]'(by omega)) := List.getElem?_eq_getElem _
 have g2' : ds'[j]? = some (ds'[j]'(by omega)) := List.getElem?_eq_getElem _
 obtain ⟨u, gu, ru⟩ := r.get g1
 obtain ⟨u', gu', ru'⟩ := r'.get g1'
 have a1 := Paired.get h j _ _ g1 g2
 have a1' := Paired.get h' j _ _ g1' g2'
 have eu : its.toArray[j] = u := by
  rw [List.getElem_toArray]
  exact Option.some.inj ((List.getElem?_eq_getElem q1).symm.trans gu)
 have eu' : its'.toArray[j] = u' := by
  rw [List.getElem_toArray]
  exact Option.some.inj ((List.getElem?_eq_getElem q2).symm.trans gu')
 rw [eu, eu', g2, g2']
 have e := hR.eq (A := A.in1) hK I hu' a1 a1' ru ru'
 have ed : decide (some (ds[j]'(by omega)) = some (ds'[j]'(by omega))) = decide ((ds[j]'(by omega)) = (ds'[j]'(by omega))) := by
  simp only [Option.some.injEq]
 rw [ed]
 exact e
theorem all_same {ds ds' : List α} (hl : ds.length = ds'.length) : (List.range ds.length).all (fun j => decide (ds[j]? = ds'[j]?)) = decide (ds = ds') := by
 by_cases h : ds = ds'
 ·subst h
  simp
 ·rw [decide_eq_false h]
  cases e : (List.range ds.length).all (fun j => decide (ds[j]? = ds'[j]?)) with
  | false => rfl
  | true =>
   exfalso
   refine h (List.ext_getElem? fun j => ?_)
   by_cases hj : j < ds.length
   ·exact of_decide_eq_true (List.all_eq_true.mp e j (List.mem_range.mpr hj))
   ·rw [List.getElem?_eq_none (by omega), List.getElem?_eq_none (by omega)]
theorem rc_lst (hR : RpE K R d) (hK : X.K = K) (I : Inv X pins σ H s) (hu : A.units + (d + 1) < cLine) {p p' : Addr} {ys ys' : List V} {ds ds' : List α} (q : SqL K H p ys) (q' : SqL K H p' ys')
  (h : Paired (R H) ys ds) (h' : Paired (R H) ys' ds') : SeqAt.RcAt A s (.ref p) (.ref p') (decide (ds = ds')) ∧ SeqAt.RcNeAt A s (.ref p) (.ref p') (!decide (ds = ds')) := by
 have q0 : SqL X.K H p ys := hK ▸ q
 have q0' : SqL X.K H p' ys' := hK ▸ q'
 obtain ⟨its, rr, pt, _⟩ := I.list q0
 obtain ⟨its', rr', pt', _⟩ := I.list q0'
 have l1 := rr.length
 have l2 := h.length
 have l1' := rr'.length
 have l2' := h'.length
 by_cases hl : ds.length = ds'.length
 ·have hs : its.toArray.size = its'.toArray.size := by simp only [List.size_toArray]; omega
  have en : its.toArray.size = ds.length := by simp only [List.size_toArray]; omega
  have it := lst_items hR hK I hu rr rr' h h'
  have ea := all_same hl
  refine ⟨?_, ?_⟩
  ·rw [← ea, ← en]
   exact SeqAt.RcAt.lists pt.isList pt'.isList hs (by omega) it
  ·rw [← ea, ← en]
   exact SeqAt.RcNeAt.lists pt.isList pt'.isList hs (by omega) it
 ·have hne : ds ≠ ds' := fun e => hl (by rw [e])
  have hs : (its.toArray.size != its'.toArray.size) = true := by
   simp only [List.size_toArray]
   exact bne_iff_ne.mpr (by omega)
  rw [decide_eq_false hne]
  exact ⟨SeqAt.RcAt.lists_lengths pt.isList pt'.isList hs (by omega), SeqAt.RcNeAt.lists_lengths pt.isList pt'.isList hs (by omega)⟩
theorem rpe_lst (hR : RpE K R d) : RpE K (rpLst K R) (d + 1) where
 inj := fun {X pins σ H s x c c'} hK I h h' => by
  obtain ⟨p, ys, rfl, q, h1⟩ := h
  obtain ⟨p', ys', e, q', h1'⟩ := h'
  cases e
  subst hK
  have e := I.list_inj q q'
  subst e
  exact Paired.fn (F := R H) (fun x a b h h' => hR.inj rfl I h h') h1 h1'
 eq := fun {X pins σ H s A x y u v c c'} hK I hu h h' r r' => by
  obtain ⟨p, ys, rfl, q, h1⟩ := h
  obtain ⟨p', ys', rfl, q', h1'⟩ := h'
  cases (show u = Value.ref p from r)
  cases (show v = Value.ref p' from r')
  by_cases hp : p = p'
  ·subst hp
   subst hK
   have e := I.list_inj q q'
   subst e
   have e : c = c' := Paired.fn (F := R H) (fun x a b h h' => hR.inj rfl I h h') h1 h1'
   rw [decide_eq_true e]
   exact SeqAt.EqAt.same _
  ·exact SeqAt.EqAt.of_refs hp (rc_lst hR hK I hu q q' h1 h1').1
end
def rEqP {α β : Type} [DecidableEq α] [DecidableEq β] (K : PySem.W.Frag) (R : Hp → V → α → Prop) (S : Hp → V → β → Prop) : R2 := fun x y H Q => ∃ a b, rpPair K R S H x a ∧ rpPair K R S H y b ∧ Q (.bl (decide (a = b))) H
def rNeP {α β : Type} [DecidableEq α] [DecidableEq β] (K : PySem.W.Frag) (R : Hp → V → α → Prop) (S : Hp → V → β → Prop) : R2 := fun x y H Q => ∃ a b, rpPair K R S H x a ∧ rpPair K R S H y b ∧ Q (.bl (!decide (a = b))) H
def rEqL {α : Type} [DecidableEq α] (K : PySem.W.Frag) (R : Hp → V → α → Prop) : R2 := fun x y H Q => ∃ a b, rpLst K R H x a ∧ rpLst K R H y b ∧ Q (.bl (decide (a = b))) H
def rNeL {α : Type} [DecidableEq α] (K : PySem.W.Frag) (R : Hp → V → α → Prop) : R2 := fun x y H Q => ∃ a b, rpLst K R H x a ∧ rpLst K R H y b ∧ Q (.bl (!decide (a = b))) H
section
variable {α β : Type} [DecidableEq α] [DecidableEq β] {R : Hp → V → α → Prop} {S : Hp → V → β → Prop} {d : Nat} {X : Cx}
theorem op_eqP (hR : RpE X.K R d) (hS : RpE X.K S d) (hu : X.A.units + (d + 1) < cLine) : OpR X (compareOp .Eq) (rEqP X.K R S) := by
 intro pins s σ H x y v u Q I rx ry h
 obtain ⟨c, c', ⟨p, y1, z1, rfl, q, h1, h2⟩, ⟨p', y2, z2, rfl, q', h1', h2'⟩, k⟩ := h
 cases (show v = Value.ref p from rx)
 cases (show u = Value.ref p' from ry)
 obtain ⟨its, rr, pt, _⟩ := I.tuple q
 obtain ⟨its', rr', pt', _⟩ := I.tuple q'
 obtain ⟨e, he, ee⟩ := pair_items hR hS rfl I hu rr rr' h1 h2 h1' h2'
 refine SeqAt.eq_tupleAt pt pt' (by omega) he ⟨.bl _, H, I, rfl, ?_⟩
 rw [ee]
 exact k
theorem op_neP (hR : RpE X.K R d) (hS : RpE X.K S d) (hu : X.A.units + (d + 1) < cLine) : OpR X (compareOp .NotEq) (rNeP X.K R S) := by
 intro pins s σ H x y v u Q I rx ry h
 obtain ⟨c, c', ⟨p, y1, z1, rfl, q, h1, h2⟩, ⟨p', y2, z2, rfl, q', h1', h2'⟩, k⟩ := h
 cases (show v = Value.ref p from rx)
 cases (show u = Value.ref p' from ry)
 obtain ⟨its, rr, pt, _⟩ := I.tuple q
 obtain ⟨its', rr', pt', _⟩ := I.tuple q'
 obtain ⟨e, he, ee⟩ := pair_items hR hS rfl I hu rr rr' h1 h2 h1' h2'
 refine SeqAt.RcNeAt.tuples pt pt' (by omega) he X.prog X.w X.xe _ ⟨.bl _, H, I, rfl, ?_⟩
 rw [ee]
 exact k
theorem op_eqL (hR : RpE X.K R d) (hu : X.A.units + (d + 1) < cLine) : OpR X (compareOp .Eq) (rEqL X.K R) := by
 intro pins s σ H x y v u Q I rx ry h
 obtain ⟨c, c', ⟨p, y1, rfl, q, h1⟩, ⟨p', y2, rfl, q', h1'⟩, k⟩ := h
 cases (show v = Value.ref p from rx)
 cases (show u = Value.ref p' from ry)
 exact (rc_lst hR rfl I hu q q' h1 h1').1 X.prog X.w X.xe _ ⟨.bl _, H, I, rfl, k⟩
theorem op_neL (hR : RpE X.K R d) (hu : X.A.units + (d + 1) < cLine) : OpR X (compareOp .NotEq) (rNeL X.K R) := by
 intro pins s σ H x y v u Q I rx ry h
 obtain ⟨c, c', ⟨p, y1, rfl, q, h1⟩, ⟨p', y2, rfl, q', h1'⟩, k⟩ := h
 cases (show v = Value.ref p from rx)
 cases (show u = Value.ref p' from ry)
 exact (rc_lst hR rfl I hu q q' h1 h1').2 X.prog X.w X.xe _ ⟨.bl _, H, I, rfl, k⟩
theorem any_range (bs : List Bool) : (List.range bs.length).any (fun i => bs.getD i false) = bs.any id := by
 rw [Bool.eq_iff_iff, List.any_eq_true, List.any_eq_true]
 constructor
 ·rintro ⟨i, hi, e⟩
  have hi := List.mem_range.mp hi
  rw [List.getD_eq_getElem?_getD, List.getElem?_eq_getElem hi] at e
  exact ⟨bs[i], List.getElem_mem hi, e⟩
 ·rintro ⟨b, hb, e⟩
  obtain ⟨i, hi, rfl⟩ := List.mem_iff_getElem.mp hb
  refine ⟨i, List.mem_range.mpr hi, ?_⟩
  rw [List.getD_eq_getElem?_getD, List.getElem?_eq_getElem hi]
  exact e
theorem call_any (hc : X.calm = true) : CallR X (.builtin "any") (fun xs H Q => ∃ (p : Addr) (bs : List Bool), xs = [.ref p] ∧ SqL X.K H p (bs.map V.bl) ∧ Q (.bl (bs.any id)) H) := by
 intro pins s σ H xs us Q I r h
 obtain ⟨p, bs, rfl, hq, q⟩ := h
 obtain ⟨u, rfl, rx⟩ := r.one
 cases (show u = Value.ref p from rx)
 obtain ⟨its, rv, pl, hz⟩ := I.list hq
 have hl := rv.length
 rw [List.length_map] at hl
 refine call_any_walk (wpAny_pyIter_list pl.isList ?_)
 have hp : p ≠ s.heap.objs.size := fun e => by
  obtain ⟨o, n, e1, _⟩ := pl
  exact absurd (Heap.lt_size e1) (by rw [e]; exact Nat.lt_irrefl _)
 have old : ∀ b o, s.heap.get? b = some o → (s.heap.push { cls := .type "list_iterator", data := .fields #[.ref p, .int 0 0] }).get? b = some o := fun b o e => Heap.get?_push_of_some _ e
 refine ⟨s.heap.objs.size, [s.heap.objs.size, p], [s.heap.objs.size], its.toArray.size, _, _, fun i => bs.getD i false, rfl,
  Walks.list (A := X.A.in1) (I.ok.hd hc) s.heap.objs.size p hp its.toArray, ⟨⟨_, Heap.get?_push_size _ rfl, rfl, rfl⟩, pl.isList.at fun o e => old p o e⟩, ?_, fun h' tk hk => ?_⟩
 ·intro i v s2 Q2 E2 hv hq2
  have hv' : its[i]? = some v := by simpa using hv
  have hi : i < its.length := (List.getElem?_eq_some_iff.mp hv').1
  have g : (bs.map V.bl)[i]? = some (V.bl (bs.getD i false)) := by
   have hb : i < bs.length := by omega
   rw [List.getElem?_map, List.getD_eq_getElem?_getD, List.getElem?_eq_getElem hb]
   rfl
  obtain ⟨u, gu, ru⟩ := rv.get g
  rw [hv'] at gu
  cases gu
  cases (show v = Value.bool _ from ru)
  exact wpAny_truthy_bool hq2
 ·have en : (List.range its.toArray.size).any (fun i => bs.getD i false) = bs.any id := by
   rw [List.size_toArray, ← hl]
   exact any_range bs
  rw [en]
  refine ⟨.bl _, H, I.kept (h' := h') (t' := tk) (fun b o e => hk b o (fun z => ?_) (old b o e)), rfl, q⟩
  have z' : b = s.heap.objs.size := by simpa using z
  exact absurd (Heap.lt_size e) (by rw [z']; exact Nat.lt_irrefl _)
end
end L2
namespace L2
open PySem PySem.Spec PyProof.Rows
section
variable {prog : Program} {w : World} {A : Around} {R : Result → Shared → Prop} {s : Shared}
theorem compLoop_any {elt target iter : Expr} {ifs : List Expr} {scope : Scope} {pos : Pos} {it acc : Value} {env : Env} (I : Nat → Shared → Prop)
  (turn : ∀ n s, I n s → wpAny (model prog w) A (pyNext it) (fun r s₁ => match r with
   | none => R (.ok .next) s₁
   | some v => wpAny (model prog w) A (letOwnedTupleGo target it v) (fun _ s₁' => wpAny (model prog w) A (assign target env v) (fun _ s₂ =>
     wpAny (model prog w) A (forIn ifs true fun c r => if r = true then do let ok ← isTrue c env (eval c env); pure (ForInStep.yield ok) else pure (ForInStep.yield r)) (fun ok s₃ =>
      if ok = true then wpAny (model prog w) A (eval elt env) (fun x s₄ =>
       wpAny (model prog w) A (call (.builtin "list.append") [acc, x]) (fun _ s₅ => ∃ m, m < n ∧ I m s₅) (fun _ _ => False) s₄) (fun _ _ => False) s₃
      else ∃ m, m < n ∧ I m s₃) (fun _ _ => False) s₂) (fun _ _ => False) s₁') (fun _ _ => False) s₁) (fun _ _ => False) s)
  (n : Nat) (h : I n s) :
  codeAny (model prog w) A (.compLoop (.ListComp elt [⟨target, iter, ifs, 0⟩] scope pos) 0 it acc env) R s := by
 refine codeAny_loop rfl I (fun n s hI => ?_) n h
 show wpAny _ A ((compTurn (.ListComp elt [⟨target, iter, ifs, 0⟩] scope pos) 0 it acc env).onRaise (fun x => do noteFrame x env; theTreesLotGoes x)) _ _ s
 refine wpAny_noted ?_
 rw [compTurn_list]
 refine wpAny_bind (wpAny_standAt (wpAny_bind (wpAny_mono (turn n s hI) (fun r s₁ h₁ => ?_) fun _ _ h' => h'.elim)))
 cases r with
 | none => exact wpAny_pure h₁
 | some v =>
  refine wpAny_bind (wpAny_mono h₁ (fun _ s₁' h₁' => ?_) fun _ _ h' => h'.elim)
  refine wpAny_bind (wpAny_mono h₁' (fun _ s₂ h₂ => wpAny_bind (wpAny_mono h₂ (fun ok s₃ h₃ => ?_) fun _ _ h' => h'.elim)) fun _ _ h' => h'.elim)
  cases ok with
  | false => exact wpAny_pure ⟨rfl, h₃⟩
  | true =>
   exact wpAny_bind (wpAny_bind (wpAny_mono h₃ (fun x s₄ h₄ => wpAny_bind (wpAny_mono h₄ (fun _ s₅ h₅ => wpAny_pure (wpAny_pure ⟨rfl, h₅⟩)) fun _ _ h' => h'.elim)) fun _ _ h' => h'.elim))
end
structure CS where
 s : Shared
 H : Hp
 fp : List Addr
def compCx (X : Cx) (N : List Str) (sc : Scope) (cl : List (Str × Addr)) (s : Shared) (H : Hp) (fp : List Addr) : Cx where
 prog := X.prog
 w := X.w
 K := X.K
 mg := X.mg
 base := X.base
 A := X.A
 N := N
 s₀ := s
 H₀ := H
 env := compEnvC sc cl s.heap.objs.size X.env
 outer := X.stack
 stack := X.stack
 ex := fp
 fn := fun _ => false
 calm := X.calm
 pn := []
 xe := fun _ _ => False
def FreeOk (X : Cx) (sc : Scope) : List Str → List Nat → Prop
 | [], [] => True
 | x :: F, j :: js => (X.N[j]? = some x ∧ sc.names.lookup x = some .free ∧ (X.env.scope.names.lookup x = some .cell ∨ X.env.scope.names.lookup x = some .free)) ∧ FreeOk X sc F js
 | _, _ => False
def ClOk (X : Cx) : List (Str × Addr) → Prop
 | [] => True
 | p :: r => X.env.cells.lookup p.1 = some p.2 ∧ ClOk X r
structure CompOk (X : Cx) (sc : Scope) (cl : List (Str × Addr)) (F : List Str) (js : List Nat) : Prop where
 kind : sc.kind = .function
 cell : ∀ y ∈ sc.names, y.2 ≠ .cell
 names : ∀ y ∈ sc.names, y.2 = .local → sc.names.lookup y.1 = some .local
 clos : closureFor sc X.env = pure cl
 cls : ClOk X cl
 has : ∀ y ∈ sc.names, y.2 = .free → ∃ c, cl.lookup y.1 = some c
 free : FreeOk X sc F js
theorem FreeOk.len {X : Cx} {sc : Scope} : ∀ {F : List Str} {js : List Nat}, FreeOk X sc F js → F.length = js.length
 | [], [], _ => rfl
 | _ :: _, _ :: _, h => congrArg (· + 1) (FreeOk.len h.2)
 | [], _ :: _, h => h.elim
 | _ :: _, [], h => h.elim
theorem FreeOk.get {X : Cx} {sc : Scope} : ∀ {F : List Str} {js : List Nat} {k : Nat} {x : Str}, FreeOk X sc F js → F[k]? = some x →
  ∃ j, js[k]? = some j ∧ X.N[j]? = some x ∧ sc.names.lookup x = some .free ∧ (X.env.scope.names.lookup x = some .cell ∨ X.env.scope.names.lookup x = some .free)
 | [], [], k, x, _, h => by simp at h
 | y :: F, j :: js, 0, x, h, e => by
  simp at e
  subst e
  exact ⟨j, rfl, h.1⟩
 | y :: F, j :: js, k + 1, x, h, e => by
  obtain ⟨j', e1, e2⟩ := FreeOk.get (k := k) h.2 (by simpa using e)
  exact ⟨j', by simpa using e1, e2⟩
 | [], _ :: _, _, _, h, _ => h.elim
 | _ :: _, [], _, _, h, _ => h.elim
theorem ClOk.get {X : Cx} : ∀ {cl : List (Str × Addr)} {x : Str} {c : Addr}, ClOk X cl → cl.lookup x = some c → X.env.cells.lookup x = some c
 | [], _, _, _, e => by simp at e
 | (n, a) :: r, x, c, h, e => by
  rw [List.lookup_cons] at e
  cases hx : x == n with
  | true =>
   rw [hx] at e
   have e1 : x = n := beq_iff_eq.mp hx
   have e2 : a = c := Option.some.inj e
   subst e1 e2
   exact h.1
  | false =>
   rw [hx] at e
   exact ClOk.get h.2 e
theorem lookup_relabel {env : Env} : ∀ {names : List (Str × NameKind)} {x : Str} {k : NameKind},
  (names.map fun (n, k) => if (k == NameKind.free && env.scope.kind == .function && env.kindOf n == some .cell) then (n, NameKind.cell) else (n, k)).lookup x = some k →
  names.lookup x = some k ∨ (names.lookup x = some .free ∧ k = .cell)
 | [], _, _, h => by simp at h
 | (n, k0) :: r, x, k, h => by
  have ih := @lookup_relabel env r x k
  have h' : List.lookup x ((if (k0 == NameKind.free && env.scope.kind == .function && env.kindOf n == some .cell) = true then (n, NameKind.cell) else (n, k0)) :: (r.map fun (n, k) => if (k == NameKind.free && env.scope.kind == .function && env.kindOf n == some .cell) then (n, NameKind.cell) else (n, k))) = some k := h
  by_cases hc : (k0 == NameKind.free && env.scope.kind == .function && env.kindOf n == some .cell) = true
  ·rw [if_pos hc, List.lookup_cons] at h'
   rw [List.lookup_cons]
   cases hx : x == n with
   | true =>
    rw [hx] at h'
    have e : NameKind.cell = k := Option.some.inj h'
    have hf : (k0 == NameKind.free) = true := by
     rw [Bool.and_eq_true, Bool.and_eq_true] at hc
     exact hc.1.1
    have hf' : k0 = NameKind.free := by simpa using hf
    exact .inr ⟨by rw [hf'], e.symm⟩
   | false =>
    rw [hx] at h'
    exact ih h'
  ·rw [if_neg hc, List.lookup_cons] at h'
   rw [List.lookup_cons]
   cases hx : x == n with
   | true =>
    rw [hx] at h'
    exact .inl h'
   | false =>
    rw [hx] at h'
    exact ih h'
theorem lookup_relabel_free {env : Env} : ∀ {names : List (Str × NameKind)} {x : Str}, names.lookup x = some .free →
  (names.map fun (n, k) => if (k == NameKind.free && env.scope.kind == .function && env.kindOf n == some .cell) then (n, NameKind.cell) else (n, k)).lookup x = some .cell ∨
  (names.map fun (n, k) => if (k == NameKind.free && env.scope.kind == .function && env.kindOf n == some .cell) then (n, NameKind.cell) else (n, k)).lookup x = some .free
 | [], _, h => by simp at h
 | (n, k0) :: r, x, h => by
  have ih := @lookup_relabel_free env r x
  show List.lookup x ((if (k0 == NameKind.free && env.scope.kind == .function && env.kindOf n == some .cell) = true then (n, NameKind.cell) else (n, k0)) :: (r.map fun (n, k) => if (k == NameKind.free && env.scope.kind == .function && env.kindOf n == some .cell) then (n, NameKind.cell) else (n, k))) = some .cell ∨
   List.lookup x ((if (k0 == NameKind.free && env.scope.kind == .function && env.kindOf n == some .cell) = true then (n, NameKind.cell) else (n, k0)) :: (r.map fun (n, k) => if (k == NameKind.free && env.scope.kind == .function && env.kindOf n == some .cell) then (n, NameKind.cell) else (n, k))) = some .free
  rw [List.lookup_cons] at h
  by_cases hc : (k0 == NameKind.free && env.scope.kind == .function && env.kindOf n == some .cell) = true
  ·rw [if_pos hc, List.lookup_cons]
   cases hx : x == n with
   | true => exact .inl rfl
   | false =>
    rw [hx] at h
    exact ih h
  ·rw [if_neg hc, List.lookup_cons]
   cases hx : x == n with
   | true =>
    rw [hx] at h
    exact .inr h
   | false =>
    rw [hx] at h
    exact ih h
section
variable {X : Cx} {pins : List (Addr × Obj)} {σ : St} {H : Hp} {s : Shared} {sc : Scope} {cl : List (Str × Addr)} {T F : List Str} {js : List Nat} {fp : List Addr}
theorem CompOk.hasC (C : CompOk X sc cl F js) {x : Str} (h : (relabel sc X.env).names.lookup x = some .cell ∨ (relabel sc X.env).names.lookup x = some .free) : ∃ c, cl.lookup x = some c := by
 have key : ∀ k, (relabel sc X.env).names.lookup x = some k → (k = .cell ∨ k = .free) → ∃ c, cl.lookup x = some c := fun k e hk => by
  rcases lookup_relabel e with e | ⟨e, _⟩
  ·have m := PySem.mem_of_lookup e
   rcases hk with rfl | rfl
   ·exact absurd rfl (C.cell _ m)
   ·exact C.has _ m rfl
  ·exact C.has _ (PySem.mem_of_lookup e) rfl
 rcases h with h | h
 ·exact key _ h (.inl rfl)
 ·exact key _ h (.inr rfl)
theorem comp_ok (C : CompOk X sc cl F js) (I : Inv X pins σ H s) (f : ∀ b ∈ fp, FpOk X pins H b) (fl : ∀ b ∈ fp, b < s.heap.objs.size) (N : List Str) : (compCx X N sc cl s H fp).Ok where
 mod := I.ok.mod
 kind := C.kind
 glob := I.ok.glob
 blt := I.ok.blt
 above := Nat.le_refl _
 inj := fun x y c h1 h2 => I.ok.inj x y c (C.cls.get h1) (C.cls.get h2)
 has := fun x h => C.hasC h
 cab := fun x c h _ => absurd (show false = true from h) Bool.false_ne_true
 hd := I.ok.hd
 frames := I.ok.frames
 stk := .inl rfl
 exf := fun b hb => ⟨Nat.ne_of_lt (fl b hb), fun x c e => (f b hb).2.2.2.2.1 x c (C.cls.get e)⟩
 bs := I.bs
 bsz := Nat.le_trans I.ok.bsz I.sz
 noex := fun b o e hb => by
  rcases (f b hb).2.2.2.1 with z | z
  ·exact I.ok.noex b o e z
  ·exact absurd (Nat.lt_of_lt_of_le (Heap.lt_size (I.ok.bs b o e).1) z) (Nat.lt_irrefl _)
 exfs := fun b hb hz => by
  rcases List.mem_cons.mp (I.stkSub b hz) with e | hz
  ·exact (f b hb).2.1 e
  ·exact (f b hb).2.2.1 hz
 funs := I.stack
 frf := I.stkFree
def compSt (n : Nat) (js : List Nat) (σ : St) : St := List.replicate n none ++ js.map fun j => (σ[j]?).join
theorem inv_comp (C : CompOk X sc cl F js) (I : Inv X pins σ H s) (f : ∀ b ∈ fp, FpOk X pins H b) (fl : ∀ b ∈ fp, b < s.heap.objs.size) {h' : Heap} {tk : Nat} {m : Str → Option Value} (hn : h'.Ns s.heap.objs.size m)
  (old : ∀ b o, s.heap.get? b = some o → h'.get? b = some o) : Inv (compCx X (T ++ F) sc cl s H fp) [] (compSt T.length js σ) H { s with heap := h', toks := tk } := by
 have el := C.free.len
 refine ⟨comp_ok C I f fl _, rfl, I.bare, Un.kept old, ⟨m, hn, fun i x v e1 e2 e3 => ?_⟩, fun x c e => ?_, I.hok.fresh (Nat.le_refl _), fun x c e => I.freeC x c (C.cls.get e), fun p hp => absurd (show p ∈ ([] : List (Addr × Obj)) from hp) (by simp), I.hok.kept old, ?_⟩
 ·have e1' : (T ++ F)[i]? = some x := e1
  have hi : T.length ≤ i := by
   rcases Nat.lt_or_ge i T.length with hi | hi
   ·unfold compSt at e2
    rw [List.getElem?_append_left (by simpa using hi), List.getElem?_replicate, if_pos hi] at e2
    cases e2
   ·exact hi
  rw [List.getElem?_append_right hi] at e1'
  obtain ⟨j, ej, eN, ef, ek⟩ := C.free.get e1'
  unfold compSt at e2
  rw [List.getElem?_append_right (by simpa using hi), List.length_replicate, List.getElem?_map, ej] at e2
  have e2' : (σ[j]?).join = some v := Option.some.inj e2
  have e2'' : σ[j]? = some (some v) := by
   cases q : σ[j]? with
   | none => rw [q] at e2'; cases e2'
   | some o => rw [q] at e2'; exact congrArg some e2'
  obtain ⟨m3, hn3, hl3⟩ := I.loc
  obtain ⟨u, r, l⟩ := hl3 j x v eN e2'' (by rcases ek with k | k; exact .inr (.inl k); exact .inr (.inr k))
  refine ⟨u, r, ?_⟩
  rcases l with ⟨k, _⟩ | ⟨k, c, e, z⟩
  ·have k' : X.env.scope.names.lookup x = some .local := k
   rcases ek with q | q <;> rw [q] at k' <;> cases k'
  ·have hk := lookup_relabel_free (env := X.env) ef
   obtain ⟨c', hc'⟩ := C.hasC (x := x) hk
   have := C.cls.get hc'
   rw [e] at this
   cases this
   obtain ⟨o, ho, hd⟩ := z
   exact .inr ⟨hk, c, hc', o, old _ _ ho, hd⟩
 ·obtain ⟨v, o, ho, hd⟩ := I.cell x c (C.cls.get e)
  exact ⟨v, o, old _ _ ho, hd⟩
 ·unfold compSt
  show _ = (T ++ F).length
  rw [List.length_append, List.length_append, List.length_replicate, List.length_map]
  omega
theorem comp_back (I : Inv X pins σ H s) (f : ∀ b ∈ fp, FpOk X pins H b) {N : List Str} {σ' : St} {H' : Hp} {s1 : Shared} (J : Inv (compCx X N sc cl s H fp) [] σ' H' s1) : Inv X pins σ H' s1 :=
 I.call' (s' := s1) (ch := fp) J.os J.base J.hok J.bare fun b hb => ⟨(f b hb).2.2.2.1, (f b hb).2.1, (f b hb).2.2.2.2.1, (f b hb).2.2.2.2.2⟩
structure Gone (X : Cx) (pins : List (Addr × Obj)) (H : Hp) (C : Addr) : Prop where
 no : H C = none
 loc : C ≠ X.env.locals
 old : X.s₀.heap.objs.size ≤ C
 cell : ∀ x c, X.env.cells.lookup x = some c → c ≠ C
 pin : ∀ p ∈ X.pn ++ pins, p.1 ≠ C
theorem Gone.of (I : Inv X pins σ H s) {H' : Hp} (h : H' s.heap.objs.size = none) : Gone X pins H' s.heap.objs.size where
 no := h
 loc := Nat.ne_of_gt I.lt
 old := I.sz
 cell := fun x c e z => by
  obtain ⟨v, o, ho, _⟩ := I.cell x c e
  exact absurd (Heap.lt_size ho) (by rw [z]; exact Nat.lt_irrefl _)
 pin := fun p hp z => absurd (Heap.lt_size (I.pin p hp).1) (by rw [z]; exact Nat.lt_irrefl _)
theorem Gone.let {C : Addr} (G : Gone X pins H C) (I : Inv X pins σ H s) {h' : Heap} (hs : Heap.SameBut C s.heap h') : Inv X pins σ H { s with heap := h' } :=
 I.turned (t' := s.toks) (fun b o hb e => (hs.2 b hb).trans e) G.no G.loc (.inr G.old) G.cell G.pin
end
def PIfs (X : Cx) (ifs : List Expr) (t : TT) : Prop :=
 ∀ (pins : List (Addr × Obj)) (s : Shared) (σ : St) (H : Hp) (Q : Bool → Hp → Prop), Inv X pins σ H s → t σ H Q →
  wpAny (model X.prog X.w) X.A (forIn ifs true fun c r => if r = true then do let ok ← isTrue c X.env (eval c X.env); pure (ForInStep.yield ok) else pure (ForInStep.yield r)) (TP X pins σ Q) X.xe s
def tNoIf : TT := fun _ H Q => Q true H
theorem pifs_nil {X : Cx} : PIfs X [] tNoIf := fun _ _ _ H _ I h => wpAny_tests_nil ⟨H, I, h⟩
theorem pifs_one {X : Cx} {c : Expr} {t : TT} (h : PT X c t) : PIfs X [c] t := fun pins s σ H Q I hq => wpAny_tests_one (h pins s σ H Q I hq)
def tComp (n : Nat) (js : List Nat) (wi : TI) (g : CS → TG) (tc : CS → TT) (te : CS → TE) : TE := fun σ H Q => wi σ H fun J H1 => ∀ D, H1 D = none → ∃ W : Nat → Nat → List V → St → Hp → Prop, (∃ m, W 0 m [] (compSt n js σ) (upd H1 D (.lst []))) ∧
 ∀ i m ys σ' H', W i m ys σ' H' → H' D = some (.lst ys) ∧ ((J.stop i H' ∧ Q (.ref D) H') ∨ (J.go i H' ∧ ys.length < sizeLine ∧ ∃ N : List V → St → Hp → Prop, (∀ ys' σ'' H'', N ys' σ'' H'' → ∃ m', m' < m ∧ W (i + 1) m' ys' σ'' H'') ∧
  ∀ x H2, J.yld i H' x H2 → ∀ c : CS, g c x σ' H2 fun σ2 H3 => tc c σ2 H3 fun b H4 => if b = true then te c σ2 H4 fun v H5 => H5 D = some (.lst ys) ∧ N (ys ++ [v]) σ2 (upd H5 D (.lst (ys ++ [v]))) else N ys σ2 H4))
section
variable {X : Cx} {elt tg iter : Expr} {ifs : List Expr} {sc : Scope} {pos : Pos} {cl : List (Str × Addr)} {T F : List Str} {js : List Nat} {wi : TI} {g : CS → TG} {tc : CS → TT} {te : CS → TE} {pins : List (Addr × Obj)} {σ : St}
theorem comp_block (hc : X.calm = true) (C : CompOk X sc cl F js) (hg : ∀ c : CS, PG (compCx X (T ++ F) sc cl c.s c.H c.fp) tg (g c)) (hif : ∀ c : CS, PIfs (compCx X (T ++ F) sc cl c.s c.H c.fp) ifs (tc c)) (he : ∀ c : CS, PE (compCx X (T ++ F) sc cl c.s c.H c.fp) elt (te c))
  {H2 : Hp} {s2 : Shared} {it : Addr} {fp : List Addr} {tn : Nat → Heap → Prop} {J : It} {Q : VK} {RR : Value → Addr → Result → Shared → Prop} (I2 : Inv X pins σ H2 s2) (Tn : Turn X.prog X.w X.K tg J fp it tn) (st2 : tn 0 s2.heap) (f2 : ∀ b ∈ fp, FpOk X pins H2 b)
  (hw : ∀ D, H2 D = none → ∃ W : Nat → Nat → List V → St → Hp → Prop, (∃ m, W 0 m [] (compSt T.length js σ) (upd H2 D (.lst []))) ∧
   ∀ i m ys σ' H', W i m ys σ' H' → H' D = some (.lst ys) ∧ ((J.stop i H' ∧ Q (.ref D) H') ∨ (J.go i H' ∧ ys.length < sizeLine ∧ ∃ N : List V → St → Hp → Prop, (∀ ys' σ'' H'', N ys' σ'' H'' → ∃ m', m' < m ∧ W (i + 1) m' ys' σ'' H'') ∧
    ∀ x H2, J.yld i H' x H2 → ∀ c : CS, g c x σ' H2 fun σ2 H3 => tc c σ2 H3 fun b H4 => if b = true then te c σ2 H4 fun v H5 => H5 D = some (.lst ys) ∧ N (ys ++ [v]) σ2 (upd H5 D (.lst (ys ++ [v]))) else N ys σ2 H4)))
  (hRR : ∀ D C H' s1, Inv X pins σ H' s1 → Gone X pins H' C → (∃ m, s1.heap.Ns C m) → Q (.ref D) H' → RR (.ref D) C (.ok .next) s1) :
  wpAny (model X.prog X.w) X.A (newList []) (fun acc s₃ => wpAny (model X.prog X.w) X.A (newFunctionEnv sc X.env.globals cl [] X.env.qual none .none (some X.env)) (fun cenv s₄ =>
   codeAny (model X.prog X.w) X.A (.compStart (.ListComp elt [⟨tg, iter, ifs, 0⟩] sc pos) 0 (.ref it) acc { cenv with scope := relabel sc X.env }) (RR acc cenv.locals) s₄) X.xe s₃) X.xe s2 := by
 obtain ⟨W, ⟨m0, w0⟩, turn⟩ := hw s2.heap.objs.size (I2.hok.fresh (Nat.le_refl _))
 have I3 : Inv X pins σ (upd H2 s2.heap.objs.size (.lst [])) { s2 with heap := s2.heap.push { cls := .type "list", data := .seq ([] : List Value).toArray } } := I2.lnew (t' := s2.toks) .nil (Nat.zero_le _)
 have lt2 : ∀ b ∈ fp, b < s2.heap.objs.size := fun b hb => by
  obtain ⟨o, e, _⟩ := Tn.obj 0 _ st2 b hb
  exact Heap.lt_size e
 have f3 : ∀ b ∈ fp, FpOk X pins (upd H2 s2.heap.objs.size (.lst [])) b := fun b hb => ⟨by rw [upd_ne (Nat.ne_of_lt (lt2 b hb))]; exact (f2 b hb).1, (f2 b hb).2⟩
 refine wpAny_newObj_type ?_
 have st3 : tn 0 ({ s2 with heap := s2.heap.push { cls := .type "list", data := .seq ([] : List Value).toArray } } : Shared).heap := Tn.keep 0 _ _ st2 fun b hb o e => Heap.get?_push_of_some _ e
 have lt3 : ∀ b ∈ fp, b < ({ s2 with heap := s2.heap.push { cls := .type "list", data := .seq ([] : List Value).toArray } } : Shared).heap.objs.size := fun b hb => by
  show b < (s2.heap.push _).objs.size
  rw [Heap.size_push]
  exact Nat.lt_succ_of_lt (lt2 b hb)
 generalize ({ s2 with heap := s2.heap.push { cls := .type "list", data := .seq ([] : List Value).toArray } } : Shared) = s3 at I3 st3 lt3 ⊢
 refine wpAny_newFunctionEnv C.cell (by intro y hy; simp at hy) (fun h4 hns hsb => ?_) C.kind
 have old : ∀ b o, s3.heap.get? b = some o → h4.get? b = some o := fun b o e => hsb.extBut b o (Nat.ne_of_lt (Heap.lt_size e)) (Heap.get?_push_of_some _ e)
 have st4 : tn 0 h4 := Tn.keep 0 _ _ st3 fun b hb o e => old b o e
 have J4 : ∀ tk, Inv (compCx X (T ++ F) sc cl s3 (upd H2 s2.heap.objs.size (.lst [])) fp) [] (compSt T.length js σ) (upd H2 s2.heap.objs.size (.lst [])) { s3 with heap := h4, toks := tk } := fun tk => inv_comp C I3 f3 lt3 hns old
 have fpX : ∀ {H' : Hp}, (∀ b ∈ fp, H' b = none) → ∀ b ∈ fp, FpOk (compCx X (T ++ F) sc cl s3 (upd H2 s2.heap.objs.size (.lst [])) fp) [] H' b := fun hn b hb =>
  ⟨hn b hb, Nat.ne_of_lt (lt3 b hb), (comp_ok C I3 f3 lt3 (T ++ F)).exfs b hb, .inl hb, fun x c e => ((comp_ok C I3 f3 lt3 (T ++ F)).exf b hb).2 x c e, fun p hp => absurd (show p ∈ ([] : List (Addr × Obj)) from hp) (by simp)⟩
 have loop : ∀ s4 : Shared, (∃ tk, s4 = { s3 with heap := h4, toks := tk }) →
   codeAny (model X.prog X.w) X.A (.compLoop (.ListComp elt [⟨tg, iter, ifs, 0⟩] sc pos) 0 (.ref it) (.ref s2.heap.objs.size) (compEnvC sc cl s3.heap.objs.size X.env)) (RR (.ref s2.heap.objs.size) s3.heap.objs.size) s4 := by
  rintro s4 ⟨tk, rfl⟩
  refine compLoop_any (fun n s' => ∃ i ys σ' H', Inv (compCx X (T ++ F) sc cl s3 (upd H2 s2.heap.objs.size (.lst [])) fp) [] σ' H' s' ∧ tn i s'.heap ∧ (∀ b ∈ fp, H' b = none) ∧ W i n ys σ' H') ?_ m0
   ⟨0, [], _, _, J4 tk, st4, fun b hb => (f3 b hb).1, w0⟩
  rintro n s5 ⟨i, ys, σ5, H5, I5, st5, fr5, w5⟩
  obtain ⟨hD, q⟩ := turn i n ys σ5 H5 w5
  rcases q with ⟨stop, q⟩ | ⟨go, hz, N, hN, step⟩
  ·refine thn (Tn.done (compCx X (T ++ F) sc cl s3 (upd H2 s2.heap.objs.size (.lst [])) fp) rfl rfl rfl hc i [] s5 σ5 H5 (fun _ _ => False) I5 (fpX fr5) st5 stop) fun r s6 ⟨hr, I6⟩ => ?_
   subst hr
   obtain ⟨m, hn, _⟩ := id I6.loc
   exact hRR _ _ H5 s6 (comp_back I3 f3 I6) (Gone.of I3 I6.free) ⟨m, hn⟩ q
  ·refine thn (Tn.item (compCx X (T ++ F) sc cl s3 (upd H2 s2.heap.objs.size (.lst [])) fp) rfl rfl rfl hc i [] s5 σ5 H5 (fun _ _ => False) I5 (fpX fr5) st5 go) fun r s6 ⟨u, hr, h6⟩ => ?_
   subst hr
   refine thn h6 fun _ s7 ⟨x, H7, I7, r7, y7, st7, fr7⟩ => ?_
   have I7' := I7.pinned (fpX fr7) (Tn.obj _ _ st7)
   have again : ∀ {s8 : Shared} {σ8 : St} {H8 : Hp} {ys8 : List V}, Inv (compCx X (T ++ F) sc cl s3 (upd H2 s2.heap.objs.size (.lst [])) fp) ([] ++ pinsAt fp s7.heap) σ8 H8 s8 → N ys8 σ8 H8 →
     ∃ m, m < n ∧ ∃ i ys σ' H', Inv (compCx X (T ++ F) sc cl s3 (upd H2 s2.heap.objs.size (.lst [])) fp) [] σ' H' s8 ∧ tn i s8.heap ∧ (∀ b ∈ fp, H' b = none) ∧ W i m ys σ' H' := fun {s8 σ8 H8 ys8} I8 n8 => by
    obtain ⟨m', hm, w8⟩ := hN ys8 σ8 H8 n8
    refine ⟨m', hm, i + 1, ys8, σ8, H8, I8.unpinned, Tn.keep _ _ _ st7 fun b hb o e => (I8.pin (b, o) (List.mem_append_right _ (List.mem_append_right _ (mem_pinsAt hb e)))).1, fun b hb => ?_, w8⟩
    obtain ⟨o, e, d⟩ := Tn.obj _ _ st7 b hb
    exact (I8.pin (b, o) (List.mem_append_right _ (List.mem_append_right _ (mem_pinsAt hb e)))).2.1
   refine thn (hg ⟨s3, _, fp⟩ _ s7 σ5 H7 x u _ I7' r7 (step x H7 y7 ⟨s3, upd H2 s2.heap.objs.size (.lst []), fp⟩)) fun _ s8 ⟨σ8, H8, I8, q8⟩ => ?_
   refine thn (hif ⟨s3, _, fp⟩ _ s8 σ8 H8 _ I8 q8) fun ok s9 ⟨H9, I9, q9⟩ => ?_
   cases ok with
   | false =>
    rw [if_neg Bool.false_ne_true]
    rw [if_neg Bool.false_ne_true] at q9
    exact again I9 q9
   | true =>
    rw [if_pos rfl]
    rw [if_pos rfl] at q9
    refine thn (he ⟨s3, _, fp⟩ _ s9 σ8 H9 _ I9 q9) fun y s10 ⟨v10, H10, I10, r10, hD10, n10⟩ => ?_
    refine thn (mt_append _ s10 σ8 H10 (.ref s2.heap.objs.size) [v10] (.ref s2.heap.objs.size) [y] (fun _ H11 => N (ys ++ [v10]) σ8 H11) I10 rfl (.cons r10 .nil) ⟨_, ys, v10, rfl, rfl, hD10, hz, n10⟩) fun _ s11 ⟨_, H11, I11, _, n11⟩ => ?_
    exact again I11 n11
 exact codeAny_compStart_list (loop _ ⟨_, rfl⟩) (Tn.self X.A 0 _ _ _ st4 (loop _ ⟨_, rfl⟩))
theorem pe_comp (T : List Str) (hc : X.calm = true) (C : CompOk X sc cl F js) (hi : PI X tg iter wi)
  (hg : ∀ c : CS, PG (compCx X (T ++ F) sc cl c.s c.H c.fp) tg (g c)) (hif : ∀ c : CS, PIfs (compCx X (T ++ F) sc cl c.s c.H c.fp) ifs (tc c)) (he : ∀ c : CS, PE (compCx X (T ++ F) sc cl c.s c.H c.fp) elt (te c))
  (hs : ∀ x, foldedSetIterable iter X.env x = pure x := by intro _; rfl) : PE X (.ListComp elt [⟨tg, iter, ifs, 0⟩] sc pos) (tComp T.length js wi g tc te) := by
 intro pins s σ H Q I h
 rw [eval_ListComp]
 refine wpAny_comprehension_free (use := none) rfl hs C.clos C.kind C.names ?_
 refine thn (hi pins s σ H _ I h) fun v s1 h1 => thn h1 fun itv s2 h2 => ?_
 obtain ⟨it, fp, tn, J, H2, e, I2, Tn, st2, f2, hw⟩ := h2
 subst e
 refine comp_block (RR := fun acc C => compPost (model X.prog X.w) X.A X.xe none (EP X pins σ Q) acc C) hc C hg hif he I2 Tn st2 f2 hw ?_
 intro D C' H' s6 I6 G ⟨m, hn⟩ q
 exact ⟨m, hn, fun h' hs' => ⟨.ref D, H', G.let I6 hs', rfl, q⟩⟩
theorem ps_comp (T : List Str) {i : Nat} {x : Str} {pos' spos : Pos} (hN : X.N.Nodup) (hiN : X.N[i]? = some x) (hx : Loc X.env.scope x) (hc : X.calm = true) (C : CompOk X sc cl F js) (hi : PI X tg iter wi)
  (hg : ∀ c : CS, PG (compCx X (T ++ F) sc cl c.s c.H c.fp) tg (g c)) (hif : ∀ c : CS, PIfs (compCx X (T ++ F) sc cl c.s c.H c.fp) ifs (tc c)) (he : ∀ c : CS, PE (compCx X (T ++ F) sc cl c.s c.H c.fp) elt (te c))
  (hsw : swapsWith (.ListComp elt [⟨tg, iter, ifs, 0⟩] sc pos) (some (.Name x pos')) spos.line X.env = pure true := by rfl)
  (hs : ∀ x, foldedSetIterable iter X.env x = pure x := by intro _; rfl) (hf : X.fn x = true ∨ X.env.scope.names.lookup x = some .local := by first | exact .inl rfl | exact .inr rfl | assumption) :
  PS X (.Assign [.Name x pos'] (.ListComp elt [⟨tg, iter, ifs, 0⟩] sc pos) spos) (tAsg (tComp T.length js wi g tc te) (gName i)) := by
 intro pins s σ H D I h
 rw [exec_Assign_Name_used _ _ _ _ hsw]
 refine wpAny_bind (wpAny_standAt (wpAny_bind ?_))
 show wpAny _ X.A (do let _ ← comprehension (.ListComp elt [⟨tg, iter, ifs, 0⟩] sc pos) sc X.env _ (newList []) false (eval iter X.env) (some (assign (.Name x pos') X.env))) _ _ s
 refine wpAny_bind (wpAny_mono (wpAny_comprehension_free (use := some (assign (.Name x pos') X.env)) (Q := fun _ s' => SP X pins D .next s') rfl hs C.clos C.kind C.names ?_) (fun _ s' hq => wpAny_pure (wpAny_pure hq)) fun _ _ e => e)
 refine thn (hi pins s σ H _ I h) fun v s1 h1 => thn h1 fun itv s2 h2 => ?_
 obtain ⟨it, fp, tn, J, H2, e, I2, Tn, st2, f2, hw⟩ := h2
 subst e
 refine comp_block (Q := fun x H1 => gName i x σ H1 D.nx) (RR := fun acc C => compPost (model X.prog X.w) X.A X.xe (some (assign (.Name x pos') X.env)) (fun _ s' => SP X pins D .next s') acc C) hc C hg hif he I2 Tn st2 f2 hw ?_
 intro D' C' H' s6 I6 G ⟨m, hn⟩ q
 show wpAny _ X.A (assign (.Name x pos') X.env (.ref D')) _ _ _
 refine wpAny_assign_Name (store_ok2 I6 hN hiN hx (show RelV (.ref D') (.ref D') from rfl) (fun s7 I7 ⟨a, hs7, ha⟩ => ?_) hf)
 have nC : C' ≠ a := by
  rcases ha with rfl | ha
  ·exact G.loc
  ·exact fun e => G.cell x a ha e.symm
 exact ⟨m, hn.sameBut hs7 nC, fun h' hs' => ⟨_, H', G.let I7 hs', q⟩⟩
end
theorem CompOk.plain {X : Cx} {sc : Scope} (kind : sc.kind = .function) (cell : ∀ y ∈ sc.names, y.2 ≠ .cell) (names : ∀ y ∈ sc.names, y.2 = .local → sc.names.lookup y.1 = some .local) (free : ∀ y ∈ sc.names, y.2 ≠ .free) : CompOk X sc [] [] [] :=
 ⟨kind, cell, names, closureFor_none free, trivial, fun y hy e => absurd e (free y hy), trivial⟩
theorem comp_tup {K : PySem.W.Frag} {a D : Addr} {xs : List V} {g : CS → TG} {tc : CS → TT} {te : CS → TE} {σ0 : St} {H0 : Hp} {Q : Hp → Prop} (Pv : Nat → List V → St → Hp → Prop) (hz : xs.length ≤ sizeLine) (h0 : Pv 0 [] σ0 H0)
  (hl : ∀ i ys σ H, i ≤ xs.length → Pv i ys σ H → SqT K H a xs ∧ H D = some (.lst ys) ∧ ys.length ≤ i)
  (hs : ∀ i x ys σ H, xs[i]? = some x → Pv i ys σ H → ∀ c : CS, g c x σ H fun σ2 H2 => tc c σ2 H2 fun b H3 => if b = true then te c σ2 H3 fun v H4 => H4 D = some (.lst ys) ∧ Pv (i + 1) (ys ++ [v]) σ2 (upd H4 D (.lst (ys ++ [v]))) else Pv (i + 1) ys σ2 H3)
  (hd : ∀ ys σ H, Pv xs.length ys σ H → Q H) :
  ∃ W : Nat → Nat → List V → St → Hp → Prop, (∃ m, W 0 m [] σ0 H0) ∧ ∀ i m ys σ' H', W i m ys σ' H' → H' D = some (.lst ys) ∧ (((Itt K a).stop i H' ∧ Q H') ∨ ((Itt K a).go i H' ∧ ys.length < sizeLine ∧ ∃ N : List V → St → Hp → Prop, (∀ ys' σ'' H'', N ys' σ'' H'' → ∃ m', m' < m ∧ W (i + 1) m' ys' σ'' H'') ∧
    ∀ x H2, (Itt K a).yld i H' x H2 → ∀ c : CS, g c x σ' H2 fun σ2 H3 => tc c σ2 H3 fun b H4 => if b = true then te c σ2 H4 fun v H5 => H5 D = some (.lst ys) ∧ N (ys ++ [v]) σ2 (upd H5 D (.lst (ys ++ [v]))) else N ys σ2 H4)) := by
 refine ⟨fun i m ys σ H => m = xs.length - i ∧ i ≤ xs.length ∧ Pv i ys σ H, ⟨xs.length, by simp, Nat.zero_le _, h0⟩, ?_⟩
 rintro i m ys σ H ⟨rfl, hi, p⟩
 obtain ⟨q, qD, ql⟩ := hl i ys σ H hi p
 refine ⟨qD, ?_⟩
 by_cases hlt : i < xs.length
 ·refine .inr ⟨⟨xs, xs[i], q, by simp [hlt]⟩, by omega, Pv (i + 1), fun ys' σ' H' p' => ⟨xs.length - (i + 1), by omega, rfl, hlt, p'⟩, fun x H' y c => ?_⟩
  obtain ⟨e, y⟩ := y
  subst e
  exact hs i x ys σ _ (y xs q) p c
 ·have e : i = xs.length := by omega
  subst e
  exact .inl ⟨⟨xs, q, Nat.le_refl _⟩, hd ys σ H p⟩
theorem comp_list {K : PySem.W.Frag} {a D : Addr} {xs : List V} {g : CS → TG} {tc : CS → TT} {te : CS → TE} {σ0 : St} {H0 : Hp} {Q : Hp → Prop} (Pv : Nat → List V → St → Hp → Prop) (hz : xs.length ≤ sizeLine) (h0 : Pv 0 [] σ0 H0)
  (hl : ∀ i ys σ H, i ≤ xs.length → Pv i ys σ H → SqL K H a xs ∧ H D = some (.lst ys) ∧ ys.length ≤ i)
  (hs : ∀ i x ys σ H, xs[i]? = some x → Pv i ys σ H → ∀ c : CS, g c x σ H fun σ2 H2 => tc c σ2 H2 fun b H3 => if b = true then te c σ2 H3 fun v H4 => H4 D = some (.lst ys) ∧ Pv (i + 1) (ys ++ [v]) σ2 (upd H4 D (.lst (ys ++ [v]))) else Pv (i + 1) ys σ2 H3)
  (hd : ∀ ys σ H, Pv xs.length ys σ H → Q H) :
  ∃ W : Nat → Nat → List V → St → Hp → Prop, (∃ m, W 0 m [] σ0 H0) ∧ ∀ i m ys σ' H', W i m ys σ' H' → H' D = some (.lst ys) ∧ (((Itl K a).stop i H' ∧ Q H') ∨ ((Itl K a).go i H' ∧ ys.length < sizeLine ∧ ∃ N : List V → St → Hp → Prop, (∀ ys' σ'' H'', N ys' σ'' H'' → ∃ m', m' < m ∧ W (i + 1) m' ys' σ'' H'') ∧
    ∀ x H2, (Itl K a).yld i H' x H2 → ∀ c : CS, g c x σ' H2 fun σ2 H3 => tc c σ2 H3 fun b H4 => if b = true then te c σ2 H4 fun v H5 => H5 D = some (.lst ys) ∧ N (ys ++ [v]) σ2 (upd H5 D (.lst (ys ++ [v]))) else N ys σ2 H4)) := by
 refine ⟨fun i m ys σ H => m = xs.length - i ∧ i ≤ xs.length ∧ Pv i ys σ H, ⟨xs.length, by simp, Nat.zero_le _, h0⟩, ?_⟩
 rintro i m ys σ H ⟨rfl, hi, p⟩
 obtain ⟨q, qD, ql⟩ := hl i ys σ H hi p
 refine ⟨qD, ?_⟩
 by_cases hlt : i < xs.length
 ·refine .inr ⟨⟨xs, xs[i], q, by simp [hlt]⟩, by omega, Pv (i + 1), fun ys' σ' H' p' => ⟨xs.length - (i + 1), by omega, rfl, hlt, p'⟩, fun x H' y c => ?_⟩
  obtain ⟨e, y⟩ := y
  subst e
  exact hs i x ys σ _ (y xs q) p c
 ·have e : i = xs.length := by omega
  subst e
  exact .inl ⟨⟨xs, q, Nat.le_refl _⟩, hd ys σ H p⟩
end L2
namespace L2
open PySem PySem.Spec PyProof.Rows
theorem iteN {c A B : Prop} [Decidable c] (hc : ¬ c) (h : B) : if decide c = true then A else B := by
 rw [decide_eq_false hc]
 exact iteF h
theorem iteY {c A B : Prop} [Decidable c] (hc : c) (h : A) : if decide c = true then A else B := by
 rw [decide_eq_true hc]
 exact iteT h
theorem Same.upd {H : Hp} {p : Addr} {o : HO} (h : H p = none) : Same H (upd H p o) := fun b u e => by
 rw [upd_ne (ne_of_none e h)]
 exact e
theorem Same.sqT {K : PySem.W.Frag} {H H' : Hp} {a : Addr} {xs : List V} (e : Same H H') (h : SqT K H a xs) : SqT K H' a xs := by
 rcases h with (h | ⟨o, h⟩) | h
 ·exact .inl (.inl (e _ _ h))
 ·exact .inl (.inr ⟨o, e _ _ h⟩)
 ·exact .inr h
theorem sqT_new {K : PySem.W.Frag} {H : Hp} {p : Addr} {xs : List V} : SqT K (upd H p (.tup xs)) p xs := .of upd_same
theorem sqL_new {K : PySem.W.Frag} {H : Hp} {p : Addr} {xs : List V} : SqL K (upd H p (.lst xs)) p xs := .of upd_same
theorem Sm.mono {i j : Int} (h : Sm j) (e : i.natAbs ≤ j.natAbs) : Sm i := .of_lt (Nat.lt_of_le_of_lt e h.lt)
structure DefAt (K : PySem.W.Frag) (mg : Str → Option Value) (x : Str) (st : Stmt) (ps : List Str) (f : Addr) (fd : FuncData) : Prop where
 fn : Fun K x x st f fd
 nm : mg x = some (.ref f)
 bd : Binds K fd ps []
def Cl (P : Program) (w : World) (K : PySem.W.Frag) (mg : Str → Option Value) (base : Heap) (x : Str) (k : Nat) (ps : List Str) (sp : Sp) : Prop :=
 ∃ (f : Addr) (fd : FuncData), mg x = some (.ref f) ∧ PySem.W.keepIn K (.ref f) = true ∧ Binds K fd ps [] ∧ FnOk P w K mg base CX0 k f fd ps sp
theorem DefAt.cl {P : Program} {w : World} {K : PySem.W.Frag} {mg : Str → Option Value} {base : Heap} {x : Str} {st : Stmt} {ps : List Str} {f : Addr} {fd : FuncData} {k : Nat} {sp : Sp} (D : DefAt K mg x st ps f fd) (h : FnOk P w K mg base CX0 k f fd ps sp) : Cl P w K mg base x k ps sp :=
 ⟨f, fd, D.nm, D.fn.kp, D.bd, h⟩
section
variable {X : Cx} {x : Str} {k : Nat} {ps : List Str} {sp : Sp} {e : Expr} {es : List Expr} {p pos : Pos} {t : TA}
theorem pe_cl (C : Cl X.prog X.w X.K X.mg X.base x k ps sp) (hr : Room k X.A) (hg : Gl X x) (ha : PA X (e :: es) t) (hdb : (x == ("__debug__" : Str)) = false := by decide) (he : starEach (e :: es) X.env = (false, eval e X.env) :: starEach es X.env := by rfl)
  (hpl : (backTo pos (starEach es X.env)).any (·.1) = false := by rfl) : PE X (.Call (.Name x p) (e :: es) [] pos) (tCall sp [] E0 t) := by
 obtain ⟨f, fd, h1, h2, h3, h4⟩ := C
 exact pe_call h4 hr hg h1 h2 h3 .nil pass0 ha hdb he hpl
end
end L2
namespace FK
def G (a b : Int) : Int := (Int.gcd a b : Nat)
theorem G_pos {a b : Int} (h : 0 < b) : 0 < G a b := by
 have : Int.gcd a b ≠ 0 := fun e => by
  have := (Int.gcd_eq_zero_iff.mp e).2
  omega
 unfold G
 omega
theorem G_zero {a : Int} (h : 0 ≤ a) : G a 0 = a := by
 unfold G
 rw [Int.gcd_zero_right]
 omega
theorem G_dvd_left (a b : Int) : G a b ∣ a := Int.gcd_dvd_left ..
theorem G_dvd_right (a b : Int) : G a b ∣ b := Int.gcd_dvd_right ..
theorem G_le {a b : Int} (h : 0 < b) : G a b ≤ b := Int.le_of_dvd h (G_dvd_right a b)
theorem G_step {a b : Int} (ha : 0 ≤ a) (hb : 0 < b) : G b (a % b) = G a b := by
 unfold G
 have : Int.gcd b (a % b) = Int.gcd a b := by
  rw [Int.gcd_comm a b]
  obtain ⟨m, rfl⟩ := Int.eq_ofNat_of_zero_le ha
  obtain ⟨n, rfl⟩ := Int.eq_ofNat_of_zero_le (Int.le_of_lt hb)
  have e : ((m : Int) % (n : Int)) = ((m % n : Nat) : Int) := rfl
  rw [e]
  show Nat.gcd n (m % n) = Nat.gcd n m
  rw [Nat.gcd_rec n m, Nat.gcd_comm]
 rw [this]
def lo (a b : Int) : Int := a / G a b
def hi (a b : Int) : Int := b / G a b
theorem lo_eq (a b : Int) : G a b * lo a b = a := Int.mul_ediv_cancel' (G_dvd_left a b)
theorem hi_eq (a b : Int) : G a b * hi a b = b := Int.mul_ediv_cancel' (G_dvd_right a b)
theorem hi_pos {a b : Int} (hb : 0 < b) : 0 < hi a b := by
 have e := hi_eq a b
 have g := G_pos (a := a) hb
 rcases Int.lt_or_le 0 (hi a b) with h | h
 ·exact h
 ·have := Int.mul_nonpos_of_nonneg_of_nonpos (Int.le_of_lt g) h
  omega
theorem hi_le {a b : Int} (hb : 0 < b) : hi a b ≤ b := Int.ediv_le_self _ (Int.le_of_lt hb)
end FK
namespace L2
open PySem PySem.Spec PyProof.Rows
section
variable {κ : Type} [DecidableEq κ]
end
section
variable {P : Program} {w : World} {H : Hp} {h : Heap} {a : Addr}
end
section
variable {X : Cx} {pins : List (Addr × Obj)} {σ : St} {H : Hp} {s : Shared} {a : Addr} {y v : V} {u r : Value} {o : Option V} {A : Around} {E : Value → Shared → Prop}
end
section
variable {X : Cx} {pins : List (Addr × Obj)} {σ : St} {H : Hp} {s : Shared} {a : Addr} {kvs : List (Key × V)} {k : Key} {u : Value} {A : Around} {E : Value → Shared → Prop}
end
section
variable {X : Cx} {o i e value : Expr} {pos pos' tpos : Pos} {td ty tv : TE}
end
section
variable {X : Cx} {pos : Pos}
end
end L2
namespace L2
open PySem PySem.Spec PyProof.Rows
section
variable {X : Cx} {o i : Expr} {pos : Pos} {td ty : TE}
end
theorem iteNN {c A B : Prop} [Decidable c] (hc : ¬ c) (h : A) : if (!decide c) = true then A else B := by
 rw [decide_eq_false hc]
 exact iteT h
abbrev FrR (K : PySem.W.Frag) := rpPair K rpInt rpInt
theorem FrR.sq {K : PySem.W.Frag} {H : Hp} {x : V} {d : Int × Int} (h : FrR K H x d) : ∃ p, x = .ref p ∧ SqT K H p [.int d.1, .int d.2] := by
 obtain ⟨p, y, z, rfl, q, rfl, rfl⟩ := h
 exact ⟨p, rfl, q⟩
theorem FrR.same {K : PySem.W.Frag} {H H' : Hp} {x : V} {d : Int × Int} (s : Same H H') (h : FrR K H x d) : FrR K H' x d := by
 obtain ⟨p, y, z, rfl, q, h1, h2⟩ := h
 exact ⟨p, y, z, rfl, s.sqT q, h1, h2⟩
abbrev SpR (K : PySem.W.Frag) := rpPair K (FrR K) (FrR K)
theorem SpR.same {K : PySem.W.Frag} {H H' : Hp} {x : V} {d : (Int × Int) × (Int × Int)} (s : Same H H') (h : SpR K H x d) : SpR K H' x d := by
 obtain ⟨p, y, z, rfl, q, h1, h2⟩ := h
 exact ⟨p, y, z, rfl, s.sqT q, FrR.same s h1, FrR.same s h2⟩
theorem Paired.get1 {α β : Type} {F : α → β → Prop} : ∀ {xs : List α} {ys : List β}, Paired F xs ys → ∀ (i : Nat) (x : α), xs[i]? = some x → ∃ y, ys[i]? = some y ∧ F x y
 | _, _, .nil, i, x, h => by simp at h
 | _, _, .cons r _, 0, x, h => by
  simp at h
  subst h
  exact ⟨_, rfl, r⟩
 | _, _, .cons _ t, i + 1, x, h => by
  obtain ⟨y, e, r⟩ := Paired.get1 t i x (by simpa using h)
  exact ⟨y, by simpa using e, r⟩
theorem Paired.app {α β : Type} {F : α → β → Prop} : ∀ {xs xs' : List α} {ys ys' : List β}, Paired F xs ys → Paired F xs' ys' → Paired F (xs ++ xs') (ys ++ ys')
 | _, _, _, _, .nil, s => s
 | _, _, _, _, .cons r t, s => .cons r (Paired.app t s)
end L2
namespace FK
def cov (c : Int) (p : Int × Int) : Bool := decide (p.1 ≤ c) && decide (c < p.2)
def cnt (c : Int) (L : List (Int × Int)) : Nat := L.countP (cov c)
theorem cov_iff {c : Int} {p : Int × Int} : cov c p = true ↔ p.1 ≤ c ∧ c < p.2 := by
 unfold cov
 rw [Bool.and_eq_true, decide_eq_true_eq, decide_eq_true_eq]
theorem cnt_nil (c : Int) : cnt c [] = 0 := rfl
theorem cnt_append (c : Int) (L M : List (Int × Int)) : cnt c (L ++ M) = cnt c L + cnt c M := List.countP_append ..
theorem cnt_one (c : Int) (p : Int × Int) : cnt c [p] = if p.1 ≤ c ∧ c < p.2 then 1 else 0 := by
 unfold cnt
 rw [List.countP_singleton]
 by_cases h : p.1 ≤ c ∧ c < p.2
 ·rw [if_pos h, if_pos (cov_iff.mpr h)]
 ·rw [if_neg h, if_neg fun z => h (cov_iff.mp z)]
theorem of_cnt_pos {c : Int} {L : List (Int × Int)} (h : 0 < cnt c L) : ∃ p ∈ L, p.1 ≤ c ∧ c < p.2 := by
 obtain ⟨p, hp, q⟩ := List.countP_pos_iff.mp h
 exact ⟨p, hp, cov_iff.mp q⟩
def Within (n : Nat) (L : List (Int × Int)) : Prop := ∀ p ∈ L, 0 ≤ p.1 ∧ p.1 < p.2 ∧ p.2 ≤ n
def phi (n : Int) (s : Int) : Int × Int := (lo s n, hi s n)
theorem phi_inj {n s t : Int} (hn : 0 < n) (h : phi n s = phi n t) : s = t := by
 have e1 : lo s n = lo t n := congrArg Prod.fst h
 have e2 : hi s n = hi t n := congrArg Prod.snd h
 have a1 := lo_eq s n
 have a2 := hi_eq s n
 have b1 := lo_eq t n
 have b2 := hi_eq t n
 have hp := hi_pos (a := s) hn
 rw [← e2] at b2
 have g : G s n = G t n := Int.eq_of_mul_eq_mul_right (by omega) (a2.trans b2.symm)
 rw [← a1, ← b1, g, e1]
end FK
namespace PySem.AutoSeq1
open PySem PySem.Spec
theorem list_extend_tupG (l : Addr) (items : Array Value) (n : Nat) (b : Addr) (items2 : Array Value) (n2 : Nat) (dd : Option Addr) (sl : Array (Option Value)) (hs0 : ¬(!items.isEmpty && Builtin.List.listTooLong (items.size + items2.size)) = true) (hs1 : items.size ≤ sizeLine) (hs2 : items.size + items2.size ≤ sizeLine + 1) :
  Meets (Builtin.«list.extend» ⟨[.ref l, .ref b], []⟩) (fun _ R s => s.heap.get? l = some { cls := .type "list", dict := none, data := .seq items n, slots := #[] } ∧ s.heap.get? b = some { cls := .type "tuple", dict := dd, data := .seq items2 n2, slots := sl } ∧ R (.ok (.ret Value.none)) { s with heap := s.heap.update l (Obj.mapSeq fun x => x ++ items2), toks := s.toks }) :=
 .of_wp fun prog w A R s h => by
  obtain ⟨hp, g, d, tk, os⟩ := s; obtain ⟨hl, hb, h⟩ := h; have f1 := idx_int; have f2 := sub_tuple_tuple; have f3 := sub_list_list; have f4 := sub_tuple_list; have f5 := sub_list_tuple;
  have hz' : (items ++ items2).size ≤ sizeLine + 1 := by rw [Array.size_append]; exact hs2
  wp_walk using (wpAny_updateSeq hl rfl (hz := hs1) (_hz' := hz')), wpAny_loadPart' hl, wpAny_loadPart' hb; exact ⟨_, rfl, h⟩
end PySem.AutoSeq1
namespace L2
open PySem PySem.Spec PyProof.Rows
section
variable {X : Cx}
def rExtendT (K : PySem.W.Frag) : V → List V → Hp → VK → Prop := fun x vs H Q => ∃ l b xs zs, x = .ref l ∧ vs = [.ref b] ∧ H l = some (.lst xs) ∧ SqT K H b zs ∧ xs.length + zs.length ≤ sizeLine ∧ Q .non (upd H l (.lst (xs ++ zs)))
theorem mt_extendT : MtM X "list.extend" (rExtendT X.K) := by
 intro pins s σ H x vs v us Q I rx rv h
 obtain ⟨l, b, xs, zs, rfl, rfl, hH, hB, hz, q⟩ := h
 cases rx
 obtain ⟨u, rfl, ru⟩ := rv.one
 cases ru
 obtain ⟨z, its, n, r, hl, e⟩ := I.lstM hH
 obtain ⟨its2, r2, ⟨⟨cls, dd, data, sl⟩, e2, hc, n2, hd⟩, z2⟩ := I.tuple hB
 simp only at hc hd
 subst hc hd
 have hl2 := r2.length
 have hsz : its.toArray.size + its2.toArray.size ≤ sizeLine := by rw [List.size_toArray, List.size_toArray]; omega
 have hlong : ¬ (!its.toArray.isEmpty && Builtin.List.listTooLong (its.toArray.size + its2.toArray.size)) = true := by
  rw [notLongL hsz, Bool.and_false]
  exact Bool.false_ne_true
 refine call_meets F.slot_list_extend ⟨_, e, rfl⟩ F.entry_list_extend (F.args_list_extend_2 _ _)
  (AutoSeq1.list_extend_tupG l its.toArray n b its2.toArray n2 dd sl hlong (by rw [List.size_toArray]; omega) (by omega)) ⟨e, e2, ?_⟩
 refine ⟨.non, _, I.lset (its' := its ++ its2) hH e (by simp) (r.append r2) ?_, rfl, q⟩
 rw [List.length_append]
 omega
theorem call_sortedI : CallR X (.builtin "sorted") (fun xs H Q => ∃ (p : Addr) (ns : List Int), xs = [.ref p] ∧ SqL X.K H p (ns.map V.int) ∧ ns.length < 64 ∧ ∀ (l : Addr) (ns' : List Int), H l = none → ns'.Perm ns → ns'.Pairwise (· ≤ ·) → Q (.ref l) (upd H l (.lst (ns'.map V.int)))) := by
 intro pins s σ H xs us Q I r h
 obtain ⟨p, ns, rfl, hq, h64, q⟩ := h
 obtain ⟨u, rfl, rx⟩ := r.one
 cases (show u = Value.ref p from rx)
 obtain ⟨its, rv, pl, hz⟩ := I.list hq
 have hl := rv.length
 rw [List.length_map] at hl
 refine sorted_ints pl.isList (intsAre_of rv) (by omega) fun out ns' a1 a2 a3 => ?_
 obtain ⟨e, he⟩ := sortedAll_at s.heap its out
 refine ⟨.ref (s.heap.objs.size + 1), _, I.laid (a := s.heap.objs.size + 1) (o := .lst (ns'.map V.int)) (t' := s.toks) (fun b u z => sortedAll_old z) (Nat.le_succ _) ⟨?_, out.toList, e, vals_ints a1, ?_⟩, rfl, q _ ns' (I.hok.fresh (Nat.le_succ _)) a2 a3⟩
 ·rw [List.length_map, a2.length_eq]
  exact Nat.le_of_lt (Nat.lt_trans h64 (by decide))
 ·rw [he]
end
end L2
namespace FK
def fr (q : Rat) : Int × Int := (q.num, (q.den : Int))
theorem fr_inj {q r : Rat} (h : fr q = fr r) : q = r := by
 have h1 : q.num = r.num := congrArg Prod.fst h
 have h2 : (q.den : Int) = r.den := congrArg Prod.snd h
 exact Rat.ext h1 (by omega)
theorem fr_dec (q r : Rat) : decide (fr q = fr r) = decide (q = r) := decide_eq_decide.mpr ⟨fr_inj, fun h => by rw [h]⟩
theorem den_pos (q : Rat) : 0 < (q.den : Int) := by have := q.den_pos; omega
theorem num_nn {q : Rat} (h : 0 ≤ q) : 0 ≤ q.num := Rat.num_nonneg.mpr h
theorem fr_cop (q : Rat) : G q.num q.den = 1 := by
 unfold G
 have := q.reduced
 show ((Nat.gcd q.num.natAbs (q.den : Int).natAbs : Nat) : Int) = 1
 rw [Int.natAbs_natCast, this.gcd_eq_one]
 rfl
theorem q_eq (q : Rat) : (q.num : Rat) / ((q.den : Int) : Rat) = q := by
 have := Rat.num_divInt_den q
 rw [Rat.divInt_eq_div] at this
 exact this
theorem den_ne (q : Rat) : ((q.den : Int) : Rat) ≠ 0 := by
 intro h
 have := Rat.intCast_inj.mp (show ((q.den : Int) : Rat) = ((0 : Int) : Rat) from h)
 have := den_pos q
 omega
theorem low_fr {a b : Int} (hb : 0 < b) : lo a b = ((a : Rat) / (b : Rat)).num ∧ hi a b = (((a : Rat) / (b : Rat)).den : Int) := by
 rw [← Rat.divInt_eq_div]
 constructor
 ·rw [Rat.num_divInt, Int.sign_eq_one_of_pos hb, Int.one_mul, Int.gcd_comm]
  rfl
 ·rw [Rat.den_divInt, if_neg (by omega)]
  unfold hi G
  rw [Int.gcd_comm b a, Int.natCast_ediv]
  congr 1
  omega
theorem plus_fr (q r : Rat) : ((q.num * (r.den : Int) + r.num * (q.den : Int) : Int) : Rat) / (((q.den : Int) * (r.den : Int) : Int) : Rat) = q + r := by
 have h1 := q_eq q
 have h2 := q_eq r
 have h3 := den_ne q
 have h4 := den_ne r
 rw [Rat.intCast_add, Rat.intCast_mul, Rat.intCast_mul, Rat.intCast_mul]
 grind
theorem minus_fr (q r : Rat) : ((q.num * (r.den : Int) - r.num * (q.den : Int) : Int) : Rat) / (((q.den : Int) * (r.den : Int) : Int) : Rat) = q - r := by
 have h1 := q_eq q
 have h2 := q_eq r
 have h3 := den_ne q
 have h4 := den_ne r
 rw [Rat.intCast_sub, Rat.intCast_mul, Rat.intCast_mul, Rat.intCast_mul]
 grind
theorem times_fr (q r : Rat) : ((q.num * r.num : Int) : Rat) / (((q.den : Int) * (r.den : Int) : Int) : Rat) = q * r := by
 have h1 := q_eq q
 have h2 := q_eq r
 have h3 := den_ne q
 have h4 := den_ne r
 rw [Rat.intCast_mul, Rat.intCast_mul]
 grind
theorem over_fr {q r : Rat} (h : 0 < r) : ((q.num * (r.den : Int) : Int) : Rat) / (((q.den : Int) * r.num : Int) : Rat) = q / r := by
 have h1 := q_eq q
 have h2 := q_eq r
 have h3 := den_ne q
 have h4 := den_ne r
 have h5 : (r.num : Rat) ≠ 0 := by
  intro z
  rw [z] at h2
  grind
 rw [Rat.intCast_mul, Rat.intCast_mul]
 grind
theorem num_pos {q : Rat} (h : 0 < q) : 0 < q.num := by
 have := (Rat.lt_iff 0 q).mp h
 have e : (0 : Rat).num = 0 := rfl
 have f : ((0 : Rat).den : Int) = 1 := rfl
 rw [e, f, Int.zero_mul, Int.mul_one] at this
 exact this
def Bd (n : Nat) (q : Rat) : Prop := q.num.natAbs < 2 ^ n ∧ q.den < 2 ^ n
theorem Bd.mono {m n : Nat} {q : Rat} (h : Bd m q) (e : m ≤ n) : Bd n q :=
 ⟨Nat.lt_of_lt_of_le h.1 (Nat.pow_le_pow_right (by decide) e), Nat.lt_of_lt_of_le h.2 (Nat.pow_le_pow_right (by decide) e)⟩
theorem Bd.of {a b : Int} {n : Nat} (hb : 0 < b) (ha : a.natAbs < 2 ^ n) (hb2 : b.natAbs < 2 ^ n) : Bd n ((a : Rat) / (b : Rat)) := by
 obtain ⟨e1, e2⟩ := low_fr (a := a) hb
 have g := G_pos (a := a) hb
 have l1 := lo_eq a b
 have l2 := hi_eq a b
 have h1 : (lo a b).natAbs ≤ a.natAbs := by
  conv => rhs; rw [← l1]
  rw [Int.natAbs_mul]
  exact Nat.le_mul_of_pos_left _ (by omega)
 have h2 : (hi a b).natAbs ≤ b.natAbs := by
  conv => rhs; rw [← l2]
  rw [Int.natAbs_mul]
  exact Nat.le_mul_of_pos_left _ (by omega)
 refine ⟨?_, ?_⟩
 ·rw [← e1]
  omega
 ·omega
theorem mul_lt_pow {a b m n : Nat} (h1 : a < 2 ^ m) (h2 : b < 2 ^ n) : a * b < 2 ^ (m + n) := by
 rw [Nat.pow_add]
 rcases Nat.eq_zero_or_pos b with z | z
 ·subst z
  have := Nat.two_pow_pos m
  have := Nat.two_pow_pos n
  rw [Nat.mul_zero]
  exact Nat.mul_pos ‹_› ‹_›
 ·exact Nat.mul_lt_mul_of_lt_of_le h1 (Nat.le_of_lt h2) (Nat.two_pow_pos n)
theorem Bd.add {m n : Nat} {q r : Rat} (h1 : Bd m q) (h2 : Bd n r) : Bd (m + n + 1) (q + r) := by
 rw [← plus_fr q r]
 have d1 := den_pos q
 have d2 := den_pos r
 have a1 := mul_lt_pow h1.1 h2.2
 have a2 := mul_lt_pow h2.1 h1.2
 have a3 := mul_lt_pow h1.2 h2.2
 refine Bd.of (Int.mul_pos d1 d2) ?_ ?_
 ·have : (q.num * (r.den : Int) + r.num * (q.den : Int)).natAbs ≤ q.num.natAbs * r.den + r.num.natAbs * q.den := by
   refine Nat.le_trans (Int.natAbs_add_le _ _) ?_
   rw [Int.natAbs_mul, Int.natAbs_mul, Int.natAbs_natCast, Int.natAbs_natCast]
   exact Nat.le_refl _
  rw [Nat.add_comm n m] at a2
  rw [Nat.pow_succ]
  omega
 ·rw [Int.natAbs_mul, Int.natAbs_natCast, Int.natAbs_natCast, Nat.pow_succ]
  omega
theorem Bd.neg {n : Nat} {q : Rat} (h : Bd n q) : Bd n (-q) := by
 refine ⟨?_, ?_⟩
 ·rw [Rat.neg_num, Int.natAbs_neg]
  exact h.1
 ·rw [Rat.neg_den]
  exact h.2
theorem Bd.sub {m n : Nat} {q r : Rat} (h1 : Bd m q) (h2 : Bd n r) : Bd (m + n + 1) (q - r) := by
 rw [Rat.sub_eq_add_neg]
 exact h1.add h2.neg
theorem Bd.mul {m n : Nat} {q r : Rat} (h1 : Bd m q) (h2 : Bd n r) : Bd (m + n) (q * r) := by
 rw [← times_fr q r]
 refine Bd.of (Int.mul_pos (den_pos q) (den_pos r)) ?_ ?_
 ·rw [Int.natAbs_mul]
  exact mul_lt_pow h1.1 h2.1
 ·rw [Int.natAbs_mul, Int.natAbs_natCast, Int.natAbs_natCast]
  exact mul_lt_pow h1.2 h2.2
theorem Bd.div {m n : Nat} {q r : Rat} (h : 0 < r) (h1 : Bd m q) (h2 : Bd n r) : Bd (m + n) (q / r) := by
 rw [← over_fr h]
 refine Bd.of (Int.mul_pos (den_pos q) (num_pos h)) ?_ ?_
 ·rw [Int.natAbs_mul, Int.natAbs_natCast]
  exact mul_lt_pow h1.1 h2.2
 ·rw [Int.natAbs_mul, Int.natAbs_natCast]
  exact mul_lt_pow h1.2 h2.1
def Gr (D : Nat) (q : Rat) : Prop := ∃ n : Int, q * (D : Rat) = (n : Rat)
theorem Gr.add {D : Nat} {q r : Rat} (h1 : Gr D q) (h2 : Gr D r) : Gr D (q + r) := by
 obtain ⟨a, ha⟩ := h1
 obtain ⟨b, hb⟩ := h2
 exact ⟨a + b, by rw [Rat.intCast_add]; grind⟩
theorem Gr.sub {D : Nat} {q r : Rat} (h1 : Gr D q) (h2 : Gr D r) : Gr D (q - r) := by
 obtain ⟨a, ha⟩ := h1
 obtain ⟨b, hb⟩ := h2
 exact ⟨a - b, by rw [Rat.intCast_sub]; grind⟩
theorem Gr.mul {D E : Nat} {q r : Rat} (h1 : Gr D q) (h2 : Gr E r) : Gr (D * E) (q * r) := by
 obtain ⟨a, ha⟩ := h1
 obtain ⟨b, hb⟩ := h2
 exact ⟨a * b, by rw [Rat.intCast_mul, Rat.natCast_mul]; grind⟩
theorem Gr.int (D : Nat) (n : Int) : Gr D (n : Rat) := ⟨n * D, by rw [Rat.intCast_mul]; rfl⟩
theorem Gr.zero (D : Nat) : Gr D 0 := Gr.int D 0
theorem Gr.one (D : Nat) : Gr D 1 := Gr.int D 1
theorem Gr.imul {D : Nat} {q : Rat} (h : Gr D q) (n : Int) : Gr D ((n : Rat) * q) := by
 obtain ⟨a, ha⟩ := h
 exact ⟨n * a, by rw [Rat.intCast_mul]; grind⟩
theorem Gr.up {D E : Nat} {q : Rat} (h : Gr D q) : Gr (D * E) q := by
 obtain ⟨a, ha⟩ := h
 exact ⟨a * E, by rw [Rat.intCast_mul, Rat.natCast_mul, ← ha]; show _ = _ * ((E : Int) : Rat); rw [Rat.intCast_natCast]; grind⟩
theorem Gr.up' {D E : Nat} {q : Rat} (h : Gr E q) : Gr (D * E) q := by
 rw [Nat.mul_comm]
 exact h.up
theorem nat_ne {D : Nat} (h : 0 < D) : (D : Rat) ≠ 0 := by
 intro z
 have := Rat.natCast_inj.mp (show (D : Rat) = ((0 : Nat) : Rat) from z)
 omega
theorem nat_pos {D : Nat} (h : 0 < D) : (0 : Rat) < (D : Rat) := by
 have := Rat.natCast_lt_natCast.mpr h
 exact this
theorem Gr.bd {D n : Nat} {q : Rat} (h : Gr D q) (hD : 0 < D) (h0 : 0 ≤ q) {m : Nat} (hm : q ≤ (m : Rat)) (hs : m * D < 2 ^ n) (hs2 : D < 2 ^ n) : Bd n q := by
 obtain ⟨a, ha⟩ := h
 have e : q = ((a : Rat) / ((D : Int) : Rat)) := by
  rw [Rat.intCast_natCast, ← ha]
  have := nat_ne hD
  grind
 have p := nat_pos hD
 rw [e]
 refine Bd.of (by omega) ?_ (by rw [Int.natAbs_natCast]; exact hs2)
 have a0 : 0 ≤ a := by
  have : (0 : Rat) ≤ (a : Rat) := by
   rw [← ha]
   exact Rat.mul_nonneg h0 (Rat.le_of_lt p)
  exact Rat.intCast_le_intCast.mp this
 have a1 : a ≤ ((m * D : Nat) : Int) := by
  have : (a : Rat) ≤ ((m * D : Nat) : Int) := by
   rw [← ha, Rat.intCast_natCast, Rat.natCast_mul]
   exact Rat.mul_le_mul_of_nonneg_right hm (Rat.le_of_lt p)
  exact Rat.intCast_le_intCast.mp this
 omega
end FK
namespace FK
abbrev Steps := List (Rat × Int)
def A : Rat → Steps → Rat → Rat
 | _, [], _ => 0
 | b, (e, w) :: S, x => (w : Rat) * (max b (min e x) - b) + A e S x
def endOf : Rat → Steps → Rat
 | b, [] => b
 | _, (e, _) :: S => endOf e S
def Rise : Rat → Steps → Prop
 | _, [] => True
 | b, (e, w) :: S => b < e ∧ 0 < w ∧ Rise e S
theorem A_snoc : ∀ (b : Rat) (S : Steps) (e : Rat) (w : Int) (x : Rat), A b (S ++ [(e, w)]) x = A b S x + (w : Rat) * (max (endOf b S) (min e x) - endOf b S)
 | b, [], e, w, x => by
  show (w : Rat) * (max b (min e x) - b) + 0 = 0 + (w : Rat) * (max b (min e x) - b)
  grind
 | b, (e', w') :: S, e, w, x => by
  show (w' : Rat) * (max b (min e' x) - b) + A e' (S ++ [(e, w)]) x = (w' : Rat) * (max b (min e' x) - b) + A e' S x + (w : Rat) * (max (endOf e' S) (min e x) - endOf e' S)
  rw [A_snoc e' S e w x]
  grind
theorem end_snoc : ∀ (b : Rat) (S : Steps) (e : Rat) (w : Int), endOf b (S ++ [(e, w)]) = e
 | _, [], _, _ => rfl
 | _, (e', _) :: S, e, w => end_snoc e' S e w
theorem w_pos {w : Int} (h : 0 < w) : (0 : Rat) < (w : Rat) := Rat.intCast_pos.mpr h
theorem Rise.le : ∀ {b : Rat} {S : Steps}, Rise b S → b ≤ endOf b S
 | b, [], _ => Rat.le_refl
 | b, (e, w) :: S, h => Rat.le_trans (Rat.le_of_lt h.1) (Rise.le h.2.2)
theorem mul_mono {w x y : Rat} (hw : 0 < w) (h : x ≤ y) : w * x ≤ w * y := Rat.mul_le_mul_of_nonneg_left h (Rat.le_of_lt hw)
theorem mul_smono {w x y : Rat} (hw : 0 < w) (h : x < y) : w * x < w * y := Rat.mul_lt_mul_of_pos_left h hw
theorem A_low : ∀ {b : Rat} {S : Steps} {x : Rat}, Rise b S → x ≤ b → A b S x = 0
 | b, [], x, _, _ => rfl
 | b, (e, w) :: S, x, h, hx => by
  show (w : Rat) * (max b (min e x) - b) + A e S x = 0
  have h1 : b < e := h.1
  rw [A_low h.2.2 (by grind), show max b (min e x) = b by grind]
  grind
theorem A_mono : ∀ {b : Rat} {S : Steps} {x y : Rat}, Rise b S → x ≤ y → A b S x ≤ A b S y
 | b, [], x, y, _, _ => Rat.le_refl
 | b, (e, w) :: S, x, y, h, hx => by
  have h1 := A_mono (x := x) (y := y) h.2.2 hx
  have h2 := mul_mono (w_pos h.2.1) (x := max b (min e x) - b) (y := max b (min e y) - b) (by grind)
  show (w : Rat) * (max b (min e x) - b) + A e S x ≤ (w : Rat) * (max b (min e y) - b) + A e S y
  grind
theorem A_nn {b : Rat} {S : Steps} {x : Rat} (h : Rise b S) : 0 ≤ A b S x := by
 rcases Rat.le_total (a := x) (b := b) with z | z
 ·rw [A_low h z]
  exact Rat.le_refl
 ·have := A_mono (x := b) (y := x) h z
  rw [A_low h Rat.le_refl] at this
  exact this
theorem A_smono : ∀ {b : Rat} {S : Steps} {x y : Rat}, Rise b S → b ≤ x → x < y → y ≤ endOf b S → A b S x < A b S y
 | b, [], x, y, _, h1, h2, h3 => by
  exfalso
  have : y ≤ b := h3
  grind
 | b, (e, w) :: S, x, y, h, h1, h2, h3 => by
  have hw := w_pos h.2.1
  have r1 : b < e := h.1
  show (w : Rat) * (max b (min e x) - b) + A e S x < (w : Rat) * (max b (min e y) - b) + A e S y
  by_cases z : e ≤ x
  ·have := A_smono (x := x) (y := y) h.2.2 z h2 h3
   rw [show max b (min e x) = e by grind, show max b (min e y) = e by grind]
   grind
  ·have m1 := A_mono (x := x) (y := y) h.2.2 (Rat.le_of_lt h2)
   have m2 := mul_smono hw (x := max b (min e x) - b) (y := max b (min e y) - b) (by grind)
   grind
def apt (x y : Rat) : Rat := if x < y then y - x else x - y
def Rch (p q : Rat × Rat) (u : Rat) : Prop := ¬ (p.2 < u ∧ q.2 < u) ∧ ¬ (u < p.2 ∧ u < q.2)
instance (p q : Rat × Rat) (u : Rat) : Decidable (Rch p q u) := inferInstanceAs (Decidable (_ ∧ _))
def crs (p q : Rat × Rat) (u : Rat) : Rat := if p.2 = u then p.1 else p.1 + (q.1 - p.1) * (apt p.2 u / apt p.2 q.2)
def rch : List (Rat × Rat) → Rat → Option Rat
 | p :: q :: L, u => if Rch p q u then some (crs p q u) else rch (q :: L) u
 | _, _ => none
def hl : Rat → Rat → Steps → List (Rat × Rat)
 | b, h, [] => [(b, h)]
 | b, h, (e, w) :: S => (b, h) :: hl e (h + (e - b) * (w : Rat)) S
theorem hl_head : ∀ (b h : Rat) (S : Steps), ∃ T, hl b h S = (b, h) :: T
 | b, h, [] => ⟨[], rfl⟩
 | b, h, (e, w) :: S => ⟨_, rfl⟩
theorem hl_len : ∀ (b h : Rat) (S : Steps), (hl b h S).length = S.length + 1
 | b, h, [] => rfl
 | b, h, (e, w) :: S => by
  show (hl e _ S).length + 1 = S.length + 1 + 1
  rw [hl_len]
theorem hl_snoc : ∀ (b h : Rat) (S : Steps) (e : Rat) (w : Int), Rise b S → hl b h (S ++ [(e, w)]) = hl b h S ++ [(e, h + A b S (endOf b S) + (e - endOf b S) * (w : Rat))]
 | b, h, [], e, w, _ => by
  show [(b, h), (e, h + (e - b) * (w : Rat))] = [(b, h), (e, h + 0 + (e - b) * (w : Rat))]
  rw [show h + 0 = h by grind]
 | b, h, (e', w') :: S, e, w, r => by
  show (b, h) :: hl e' (h + (e' - b) * (w' : Rat)) (S ++ [(e, w)]) = (b, h) :: (hl e' (h + (e' - b) * (w' : Rat)) S ++ [(e, h + ((w' : Rat) * (max b (min e' (endOf e' S)) - b) + A e' S (endOf e' S)) + (e - endOf e' S) * (w : Rat))])
  have h1 := Rise.le r.2.2
  have h2 := r.1
  rw [hl_snoc e' _ S e w r.2.2, show max b (min e' (endOf e' S)) = e' by grind]
  congr 4
  grind
theorem hl_last : ∀ (b h : Rat) (S : Steps), Rise b S → (hl b h S).getLast? = some (endOf b S, h + A b S (endOf b S))
 | b, h, [], _ => by
  show some (b, h) = some (b, h + 0)
  rw [show h + 0 = h by grind]
 | b, h, (e, w) :: S, r => by
  obtain ⟨T, hT⟩ := hl_head e (h + (e - b) * (w : Rat)) S
  have ih := hl_last e (h + (e - b) * (w : Rat)) S r.2.2
  have h1 := Rise.le r.2.2
  have h2 := r.1
  show ((b, h) :: hl e (h + (e - b) * (w : Rat)) S).getLast? = some (endOf e S, h + ((w : Rat) * (max b (min e (endOf e S)) - b) + A e S (endOf e S)))
  rw [hT] at ih ⊢
  rw [List.getLast?_cons_cons, ih, show max b (min e (endOf e S)) = e by grind]
  congr 2
  grind
theorem rch_up : ∀ {b h c x : Rat} {S : Steps}, Rise b S → 0 < c → S ≠ [] → b ≤ x → x ≤ endOf b S → rch ((hl b h S).map fun z => (z.2 / c, z.1)) x = some ((h + A b S x) / c)
 | b, h, c, x, [], _, _, n, _, _ => absurd rfl n
 | b, h, c, x, (e, w) :: S, r, hc, _, h1, h2 => by
  obtain ⟨T, hT⟩ := hl_head e (h + (e - b) * (w : Rat)) S
  have ih := @rch_up e (h + (e - b) * (w : Rat)) c x S r.2.2 hc
  have r1 : b < e := r.1
  have hw := w_pos r.2.1
  show rch (((b, h) :: hl e (h + (e - b) * (w : Rat)) S).map fun z => (z.2 / c, z.1)) x = some ((h + ((w : Rat) * (max b (min e x) - b) + A e S x)) / c)
  rw [hT] at ih ⊢
  show (if Rch (h / c, b) ((h + (e - b) * (w : Rat)) / c, e) x then some (crs (h / c, b) ((h + (e - b) * (w : Rat)) / c, e) x) else rch (((e, h + (e - b) * (w : Rat)) :: T).map fun z => (z.2 / c, z.1)) x) = _
  have cn : c ≠ 0 := by grind
  by_cases hx : x ≤ e
  ·rw [if_pos (by unfold Rch; grind), A_low r.2.2 hx]
   congr 1
   unfold crs apt
   simp only
   by_cases hb : b = x
   ·rw [if_pos hb, show max b (min e x) = b by grind]
    grind
   ·rw [if_neg hb, if_pos (by grind), if_pos r1, show max b (min e x) = x by grind]
    have : e - b ≠ 0 := by grind
    grind
  ·have hS : S ≠ [] := by
    intro z
    subst z
    have : x ≤ e := h2
    exact hx this
   rw [if_neg (by unfold Rch; grind), ih hS (by grind) h2, show max b (min e x) = e by grind]
   congr 2
   grind
theorem rch_at : ∀ {b h c y : Rat} {S : Steps}, Rise b S → 0 < c → S ≠ [] → h ≤ y * c → y * c ≤ h + A b S (endOf b S) →
  ∃ x, rch ((hl b h S).map fun z => (z.1, z.2 / c)) y = some x ∧ b ≤ x ∧ x ≤ endOf b S ∧ h + A b S x = y * c ∧ ∃ p ∈ hl b h S, ∃ e w, (e, w) ∈ S ∧ x = p.1 + (y * c - p.2) / (w : Rat)
 | b, h, c, y, [], _, _, n, _, _ => absurd rfl n
 | b, h, c, y, (e, w) :: S, r, hc, _, h1, h2 => by
  obtain ⟨T, hT⟩ := hl_head e (h + (e - b) * (w : Rat)) S
  have ih := @rch_at e (h + (e - b) * (w : Rat)) c y S r.2.2 hc
  have r1 : b < e := r.1
  have rl := Rise.le r.2.2
  have hw := w_pos r.2.1
  have cn : c ≠ 0 := by grind
  have wn : (w : Rat) ≠ 0 := by grind
  have en : e - b ≠ 0 := by grind
  have d1 : h / c ≤ y := by
   have := (Rat.div_lt_iff (a := y * c) (b := c) (c := h / c) hc)
   have e1 : y * c / c = y := by grind
   have e2 : h / c * c = h := by grind
   rw [e1, e2] at this
   grind
  have dd : ∀ z : Rat, z / c < y ↔ z < y * c := fun z => Rat.div_lt_iff hc
  have dg : ∀ z : Rat, y < z / c ↔ y * c < z := fun z => Rat.lt_div_iff hc
  show ∃ x, rch (((b, h) :: hl e (h + (e - b) * (w : Rat)) S).map fun z => (z.1, z.2 / c)) y = some x ∧ b ≤ x ∧ x ≤ endOf e S ∧ h + ((w : Rat) * (max b (min e x) - b) + A e S x) = y * c ∧ ∃ p ∈ (b, h) :: hl e (h + (e - b) * (w : Rat)) S, ∃ e' w', (e', w') ∈ (e, w) :: S ∧ x = p.1 + (y * c - p.2) / (w' : Rat)
  have go : ∀ U, rch ((b, h / c) :: (e, (h + (e - b) * (w : Rat)) / c) :: U) y = if Rch (b, h / c) (e, (h + (e - b) * (w : Rat)) / c) y then some (crs (b, h / c) (e, (h + (e - b) * (w : Rat)) / c) y) else rch ((e, (h + (e - b) * (w : Rat)) / c) :: U) y := fun _ => rfl
  by_cases hx : y * c ≤ h + (e - b) * (w : Rat)
  ·have q1 : (0 : Rat) ≤ (y * c - h) / (w : Rat) := by
    have := (Rat.div_lt_iff (a := y * c - h) (b := (w : Rat)) (c := 0) hw)
    grind
   have q2 : (y * c - h) / (w : Rat) ≤ e - b := by
    have := (Rat.lt_div_iff (a := e - b) (b := y * c - h) (c := (w : Rat)) hw)
    grind
   refine ⟨b + (y * c - h) / (w : Rat), ?_, ?_, ?_, ?_, (b, h), List.mem_cons_self, e, w, List.mem_cons_self, rfl⟩
   ·rw [hT]
    show rch ((b, h / c) :: (e, (h + (e - b) * (w : Rat)) / c) :: _) y = _
    rw [go, if_pos (by unfold Rch; grind)]
    congr 1
    unfold crs apt
    simp only
    by_cases hb : h / c = y
    ·rw [if_pos hb]
     grind
    ·rw [if_neg hb, if_pos (by grind)]
     have : h / c < (h + (e - b) * (w : Rat)) / c := by
      have := (Rat.lt_div_iff (a := h / c) (b := h + (e - b) * (w : Rat)) hc).mpr (by
       have e2 : h / c * c = h := by grind
       have := Rat.mul_pos (a := e - b) (b := (w : Rat)) (by grind) hw
       grind)
      exact this
     rw [if_pos this]
     have n1 : (h + (e - b) * (w : Rat)) / c - h / c ≠ 0 := by grind
     have n2 : (h + (e - b) * (w : Rat)) / c - h / c = (e - b) * (w : Rat) / c := by grind
     rw [n2]
     grind
   ·grind
   ·grind
   ·rw [show max b (min e (b + (y * c - h) / (w : Rat))) = b + (y * c - h) / (w : Rat) by grind, A_low r.2.2 (by grind)]
    grind
  ·have hx' : h + (e - b) * (w : Rat) < y * c := by grind
   have hS : S ≠ [] := by
    intro z
    subst z
    have h2' : y * c ≤ h + ((w : Rat) * (max b (min e e) - b) + 0) := h2
    rw [show max b (min e e) = e by grind] at h2'
    grind
   have h2' : y * c ≤ h + ((w : Rat) * (max b (min e (endOf e S)) - b) + A e S (endOf e S)) := h2
   rw [show max b (min e (endOf e S)) = e by grind] at h2'
   obtain ⟨x, e1, e2, e3, e4, p, hp, e', w', hm, ex⟩ := ih hS (by grind) (by grind)
   refine ⟨x, ?_, by grind, e3, ?_, p, List.mem_cons_of_mem _ hp, e', w', List.mem_cons_of_mem _ hm, ex⟩
   ·rw [hT] at e1 ⊢
    show rch ((b, h / c) :: (e, (h + (e - b) * (w : Rat)) / c) :: _) y = _
    rw [go, if_neg (by
     have d3 := (dd h).mpr (by have := Rat.mul_pos (a := e - b) (b := (w : Rat)) (by grind) hw; grind)
     have d4 := (dd (h + (e - b) * (w : Rat))).mpr hx'
     unfold Rch
     exact fun z => z.1 ⟨d3, d4⟩)]
    exact e1
   ·rw [show max b (min e x) = e by grind]
    grind
end FK
namespace FK
theorem rise_get : ∀ {b : Rat} {S : Steps} {i : Nat} {z : Rat × Int}, Rise b S → S[i]? = some z → endOf b (S.take i) < z.1 ∧ 0 < z.2
 | b, [], i, z, _, h => by simp at h
 | b, (e, w) :: S, 0, z, r, h => by
  have h' : (e, w) = z := by simpa using h
  subst h'
  exact ⟨r.1, r.2.1⟩
 | b, (e, w) :: S, i + 1, z, r, h => by
  have h' : S[i]? = some z := by simpa using h
  show endOf e (S.take i) < z.1 ∧ 0 < z.2
  exact rise_get r.2.2 h'
theorem rise_take : ∀ {b : Rat} {S : Steps} (i : Nat), Rise b S → Rise b (S.take i)
 | b, [], i, _ => by rw [List.take_nil]; trivial
 | b, (e, w) :: S, 0, r => trivial
 | b, (e, w) :: S, i + 1, r => ⟨r.1, r.2.1, rise_take i r.2.2⟩
theorem take_snoc {α : Type} {L : List α} {i : Nat} {z : α} (h : L[i]? = some z) : L.take (i + 1) = L.take i ++ [z] := by
 rw [List.take_succ, h]
 rfl
theorem A_take : ∀ {b : Rat} {S : Steps} (i : Nat), Rise b S → A b (S.take i) (endOf b (S.take i)) = A b S (endOf b (S.take i))
 | b, [], i, _ => by rw [List.take_nil]
 | b, (e, w) :: S, 0, r => by
  show 0 = A b ((e, w) :: S) b
  exact (A_low r Rat.le_refl).symm
 | b, (e, w) :: S, i + 1, r => by
  show (w : Rat) * (max b (min e (endOf e (S.take i))) - b) + A e (S.take i) (endOf e (S.take i)) = (w : Rat) * (max b (min e (endOf e (S.take i))) - b) + A e S (endOf e (S.take i))
  rw [A_take i r.2.2]
theorem end_take_le : ∀ {b : Rat} {S : Steps} (i : Nat), Rise b S → endOf b (S.take i) ≤ endOf b S
 | b, [], i, _ => by rw [List.take_nil]; exact Rat.le_refl
 | b, (e, w) :: S, 0, r => Rise.le r
 | b, (e, w) :: S, i + 1, r => end_take_le i r.2.2
theorem A_up : ∀ {b : Rat} {S : Steps} {x M : Rat}, Rise b S → 0 ≤ M → (∀ z ∈ S, (z.2 : Rat) ≤ M) → b ≤ x → A b S x ≤ M * (x - b)
 | b, [], x, M, _, h0, hM, hx => by
  show (0 : Rat) ≤ M * (x - b)
  exact Rat.mul_nonneg h0 (by grind)
 | b, (e, w) :: S, x, M, r, h0, hM, hx => by
  have r1 : b < e := r.1
  have hw : (w : Rat) ≤ M := hM (e, w) List.mem_cons_self
  show (w : Rat) * (max b (min e x) - b) + A e S x ≤ M * (x - b)
  by_cases z : x ≤ e
  ·rw [A_low r.2.2 z, show max b (min e x) = x by grind]
   have := Rat.mul_le_mul_of_nonneg_right hw (show (0 : Rat) ≤ x - b by grind)
   grind
  ·have ih := A_up (x := x) r.2.2 h0 (fun z hz => hM z (List.mem_cons_of_mem _ hz)) (by grind)
   have := Rat.mul_le_mul_of_nonneg_right hw (show (0 : Rat) ≤ e - b by grind)
   rw [show max b (min e x) = e by grind]
   grind
theorem hl_get : ∀ {b h : Rat} {S : Steps} {i : Nat}, Rise b S → i ≤ S.length → (hl b h S)[i]? = some (endOf b (S.take i), h + A b S (endOf b (S.take i)))
 | b, h, [], i, _, hi => by
  have : i = 0 := by simpa using hi
  subst this
  show some (b, h) = some (b, h + 0)
  rw [show h + 0 = h by grind]
 | b, h, (e, w) :: S, 0, r, _ => by
  show some (b, h) = some (b, h + A b ((e, w) :: S) b)
  rw [A_low r Rat.le_refl, show h + 0 = h by grind]
 | b, h, (e, w) :: S, i + 1, r, hi => by
  have r1 : b < e := r.1
  have hi' : i ≤ S.length := by simpa using hi
  have l1 := Rise.le (rise_take i r.2.2)
  show (hl e (h + (e - b) * (w : Rat)) S)[i]? = some (endOf e (S.take i), h + ((w : Rat) * (max b (min e (endOf e (S.take i))) - b) + A e S (endOf e (S.take i))))
  rw [hl_get r.2.2 hi', show max b (min e (endOf e (S.take i))) = e by grind]
  congr 2
  grind
theorem hl_inv {b h : Rat} {S : Steps} {i : Nat} {z : Rat × Rat} (r : Rise b S) (e : (hl b h S)[i]? = some z) : i ≤ S.length ∧ z = (endOf b (S.take i), h + A b S (endOf b (S.take i))) := by
 have l := (List.getElem?_eq_some_iff.mp e).1
 rw [hl_len] at l
 have hi : i ≤ S.length := by omega
 rw [hl_get r hi] at e
 exact ⟨hi, (Option.some.inj e).symm⟩
theorem Gr.mx {D : Nat} {a b : Rat} (h1 : Gr D a) (h2 : Gr D b) : Gr D (max a b) := by
 by_cases h : a ≤ b
 ·rw [show max a b = b by grind]; exact h2
 ·rw [show max a b = a by grind]; exact h1
theorem Gr.mn {D : Nat} {a b : Rat} (h1 : Gr D a) (h2 : Gr D b) : Gr D (min a b) := by
 by_cases h : a ≤ b
 ·rw [show min a b = a by grind]; exact h1
 ·rw [show min a b = b by grind]; exact h2
theorem A_gr : ∀ {D : Nat} {b : Rat} {S : Steps} {x : Rat}, Gr D b → (∀ z ∈ S, Gr D z.1) → Gr D x → Gr D (A b S x)
 | D, b, [], x, _, _, _ => Gr.zero D
 | D, b, (e, w) :: S, x, hb, hS, hx => by
  have he := hS (e, w) List.mem_cons_self
  exact Gr.add (Gr.imul (Gr.sub (hb.mx (he.mn hx)) hb) w) (A_gr he (fun z hz => hS z (List.mem_cons_of_mem _ hz)) hx)
theorem end_gr : ∀ {D : Nat} {b : Rat} {S : Steps}, Gr D b → (∀ z ∈ S, Gr D z.1) → Gr D (endOf b S)
 | D, b, [], hb, _ => hb
 | D, b, (e, w) :: S, _, hS => end_gr (b := e) (S := S) (hS (e, w) List.mem_cons_self) fun z hz => hS z (List.mem_cons_of_mem _ hz)
structure TsOk (p : Nat) (S : Steps) : Prop where
 pos : 0 < p
 few : p ≤ 1000
 ne : S ≠ []
 len : S.length ≤ 8
 rise : Rise 0 S
 top : endOf 0 S = 1
 gr : ∀ z ∈ S, Gr p z.1
 w : ∀ z ∈ S, z.2 ≤ 1000
def tot (S : Steps) : Rat := A 0 S 1
def F (S : Steps) (x : Rat) : Rat := A 0 S x / tot S
section
variable {p : Nat} {S : Steps}
theorem TsOk.tp (h : TsOk p S) : 0 < tot S := by
 have := A_smono (x := 0) (y := 1) h.rise Rat.le_refl (by decide) (by rw [h.top]; exact Rat.le_refl)
 rw [A_low h.rise Rat.le_refl] at this
 exact this
theorem TsOk.up (h : TsOk p S) {x : Rat} (h0 : 0 ≤ x) (h1 : x ≤ 1) : A 0 S x ≤ 1000 := by
 have := A_up (x := x) (M := 1000) h.rise (by decide) (fun z hz => by
  have := Rat.intCast_le_intCast.mpr (h.w z hz)
  exact this) h0
 grind
theorem TsOk.tg (h : TsOk p S) : Gr p (tot S) := A_gr (Gr.zero p) h.gr (Gr.one p)
theorem TsOk.num (h : TsOk p S) : ∃ N : Nat, 0 < N ∧ N ≤ 1000 * p ∧ tot S * (p : Rat) = (N : Rat) := by
 obtain ⟨n, hn⟩ := h.tg
 have pp := nat_pos h.pos
 have q := Rat.mul_pos h.tp pp
 rw [hn] at q
 have n0 : 0 < n := Rat.intCast_pos.mp q
 have u := Rat.mul_le_mul_of_nonneg_right (h.up (x := 1) (by decide) Rat.le_refl) (Rat.le_of_lt pp)
 have u' : (n : Rat) ≤ ((1000 * p : Nat) : Int) := by
  rw [← hn, Rat.intCast_natCast, Rat.natCast_mul]
  exact u
 have n1 := Rat.intCast_le_intCast.mp u'
 refine ⟨n.toNat, by omega, by omega, ?_⟩
 rw [hn, ← Rat.intCast_natCast]
 congr 1
 omega
theorem F_nn (h : TsOk p S) (x : Rat) : 0 ≤ F S x := by
 unfold F
 have a := A_nn (x := x) h.rise
 have t := h.tp
 have := (Rat.div_lt_iff (a := A 0 S x) (b := tot S) (c := 0) t)
 grind
theorem F_mono (h : TsOk p S) {x y : Rat} (e : x ≤ y) : F S x ≤ F S y := by
 unfold F
 have t := h.tp
 have a := A_mono (x := x) (y := y) h.rise e
 have := (Rat.div_lt_iff (a := A 0 S y) (b := tot S) (c := A 0 S x / tot S) t)
 have e2 : A 0 S x / tot S * tot S = A 0 S x := by grind
 rw [e2] at this
 grind
theorem F_smono (h : TsOk p S) {x y : Rat} (h0 : 0 ≤ x) (e : x < y) (h1 : y ≤ 1) : F S x < F S y := by
 unfold F
 have t := h.tp
 have a := A_smono (x := x) (y := y) h.rise h0 e (by rw [h.top]; exact h1)
 refine (Rat.div_lt_iff t).mpr ?_
 have e2 : A 0 S y / tot S * tot S = A 0 S y := by grind
 rw [e2]
 exact a
theorem F_zero (h : TsOk p S) : F S 0 = 0 := by
 unfold F
 rw [A_low h.rise Rat.le_refl]
 grind
theorem F_one (h : TsOk p S) : F S 1 = 1 := by
 have := h.tp
 show tot S / tot S = 1
 grind
theorem F_le (h : TsOk p S) {x : Rat} (h1 : x ≤ 1) : F S x ≤ 1 := by
 have := F_mono h h1
 rw [F_one h] at this
 exact this
theorem F_gr (h : TsOk p S) {N D : Nat} (hN : tot S * (p : Rat) = (N : Rat)) {x : Rat} (hx : Gr D x) : Gr (D * N) (F S x) := by
 obtain ⟨n, hn⟩ := A_gr (D := D * p) (b := 0) (S := S) (x := x) (Gr.zero _) (fun z hz => (h.gr z hz).up') hx.up
 have t := h.tp
 refine ⟨n, ?_⟩
 rw [← hn, Rat.natCast_mul, Rat.natCast_mul, ← hN]
 unfold F
 grind
theorem F_bd (h : TsOk p S) {D n : Nat} {x : Rat} (hx : Gr D x) (hD : 0 < D) (h1 : x ≤ 1) (hs : D * 1000000 < 2 ^ n) : Bd n (F S x) := by
 obtain ⟨N, n0, n1, hN⟩ := h.num
 have f := h.few
 have : D * N ≤ D * 1000000 := Nat.mul_le_mul_left _ (by omega)
 exact (F_gr h hN hx).bd (Nat.mul_pos hD n0) (F_nn h x) (m := 1) (by rw [show ((1 : Nat) : Rat) = 1 from rfl]; exact F_le h h1) (by omega) (by omega)
def wl (S : Steps) : List (Rat × Rat) := (hl 0 0 S).map fun z => (z.1, z.2 / tot S)
def wlF (S : Steps) : List (Rat × Rat) := (hl 0 0 S).map fun z => (z.2 / tot S, z.1)
theorem zero_add' (x : Rat) : 0 + x = x := by grind
theorem wlF_rch (h : TsOk p S) {x : Rat} (h0 : 0 ≤ x) (h1 : x ≤ 1) : rch (wlF S) x = some (F S x) := by
 have := rch_up (h := 0) (x := x) h.rise h.tp h.ne h0 (by rw [h.top]; exact h1)
 rw [zero_add'] at this
 exact this
theorem wl_get (h : TsOk p S) {i : Nat} {z : Rat × Rat} (e : (wl S)[i]? = some z) : i ≤ S.length ∧ z = (endOf 0 (S.take i), F S (endOf 0 (S.take i))) := by
 unfold wl at e
 rw [List.getElem?_map] at e
 cases q : (hl 0 0 S)[i]? with
 | none => rw [q] at e; cases e
 | some y =>
  rw [q] at e
  obtain ⟨a, b⟩ := hl_inv h.rise q
  subst b
  refine ⟨a, ?_⟩
  rw [← Option.some.inj e, zero_add']
  rfl
theorem end_nn (h : TsOk p S) (i : Nat) : 0 ≤ endOf 0 (S.take i) := Rise.le (rise_take i h.rise)
theorem end_le (h : TsOk p S) (i : Nat) : endOf 0 (S.take i) ≤ 1 := by
 have := end_take_le i h.rise
 rw [h.top] at this
 exact this
theorem end_g (h : TsOk p S) (i : Nat) : Gr p (endOf 0 (S.take i)) := end_gr (Gr.zero p) fun z hz => h.gr z (List.mem_of_mem_take hz)
theorem end_bd (h : TsOk p S) (i : Nat) : Bd 10 (endOf 0 (S.take i)) := by
 have f := h.few
 exact (end_g h i).bd h.pos (end_nn h i) (m := 1) (by rw [show ((1 : Nat) : Rat) = 1 from rfl]; exact end_le h i) (by omega) (by omega)
theorem endF_bd (h : TsOk p S) (i : Nat) : Bd 30 (F S (endOf 0 (S.take i))) := by
 have f := h.few
 exact F_bd h (end_g h i) h.pos (end_le h i) (by omega)
theorem end_step (h : TsOk p S) {i : Nat} (hi : i + 1 ≤ S.length) : endOf 0 (S.take i) < endOf 0 (S.take (i + 1)) := by
 obtain ⟨a, _⟩ := rise_get (i := i) (z := S[i]) h.rise (List.getElem?_eq_getElem (by omega))
 rw [take_snoc (z := S[i]) (List.getElem?_eq_getElem (by omega))]
 rw [show S[i] = (S[i].1, S[i].2) from rfl, end_snoc]
 exact a
end
end FK
namespace FK
def Wo (S : Steps) : List (Rat × Rat) → Rat
 | [] => 0
 | p :: L => (F S p.2 - F S p.1) + Wo S L
theorem Wo_snoc (S : Steps) : ∀ (L : List (Rat × Rat)) (p : Rat × Rat), Wo S (L ++ [p]) = Wo S L + (F S p.2 - F S p.1)
 | [], p => by
  show (F S p.2 - F S p.1) + 0 = 0 + (F S p.2 - F S p.1)
  grind
 | q :: L, p => by
  show (F S q.2 - F S q.1) + Wo S (L ++ [p]) = (F S q.2 - F S q.1) + Wo S L + (F S p.2 - F S p.1)
  rw [Wo_snoc S L p]
  grind
theorem Wo_gr {p : Nat} {S : Steps} (h : TsOk p S) {N D : Nat} (hN : tot S * (p : Rat) = (N : Rat)) : ∀ {L : List (Rat × Rat)}, (∀ q ∈ L, Gr D q.1 ∧ Gr D q.2) → Gr (D * N) (Wo S L)
 | [], _ => Gr.zero _
 | q :: L, hL => by
  have g := hL q List.mem_cons_self
  exact Gr.add (Gr.sub (F_gr h hN g.2) (F_gr h hN g.1)) (Wo_gr h hN fun z hz => hL z (List.mem_cons_of_mem _ hz))
theorem Wo_nn {p : Nat} {S : Steps} (h : TsOk p S) : ∀ {L : List (Rat × Rat)}, (∀ q ∈ L, q.1 ≤ q.2) → 0 ≤ Wo S L
 | [], _ => Rat.le_refl
 | q :: L, hL => by
  have g := F_mono h (hL q List.mem_cons_self)
  have := Wo_nn h fun z hz => hL z (List.mem_cons_of_mem _ hz)
  show 0 ≤ (F S q.2 - F S q.1) + Wo S L
  grind
theorem Wo_le {p : Nat} {S : Steps} (h : TsOk p S) : ∀ {L : List (Rat × Rat)} {a : Rat}, (∀ q ∈ L, a ≤ q.1 ∧ q.1 ≤ q.2 ∧ q.2 ≤ 1) → a ≤ 1 → L.Pairwise (fun x y => x.2 ≤ y.1) → Wo S L ≤ 1 - F S a
 | [], a, _, ha, _ => by
  have := F_le h ha
  show (0 : Rat) ≤ 1 - F S a
  grind
 | q :: L, a, hw, ha, hp => by
  have w := hw q List.mem_cons_self
  have pc := List.pairwise_cons.mp hp
  have ih := Wo_le (a := q.2) h (L := L) (fun z hz => ⟨pc.1 z hz, (hw z (List.mem_cons_of_mem _ hz)).2⟩) w.2.2 pc.2
  have m := F_mono h w.1
  show (F S q.2 - F S q.1) + Wo S L ≤ 1 - F S a
  grind
theorem area_step {b e lo hi : Rat} {w : Int} (hb : b < e) (hl : lo ≤ hi) :
  (w : Rat) * (max b (min e hi) - b) - (w : Rat) * (max b (min e lo) - b) = if (if b < lo then lo else b) < (if hi < e then hi else e) then ((if hi < e then hi else e) - (if b < lo then lo else b)) * (w : Rat) else 0 := by
 have : max b (min e hi) - max b (min e lo) = if (if b < lo then lo else b) < (if hi < e then hi else e) then (if hi < e then hi else e) - (if b < lo then lo else b) else 0 := by grind
 have e1 : (w : Rat) * (max b (min e hi) - b) - (w : Rat) * (max b (min e lo) - b) = (w : Rat) * (max b (min e hi) - max b (min e lo)) := by grind
 rw [e1, this]
 split <;> grind
end FK
namespace FK
theorem nfrac_lt {n : Nat} (hn : 0 < n) {a b : Int} (h : a < b) : (a : Rat) / (n : Rat) < (b : Rat) / (n : Rat) := by
 have p := nat_pos hn
 refine (Rat.div_lt_iff p).mpr ?_
 have e : (b : Rat) / (n : Rat) * (n : Rat) = (b : Rat) := by grind
 rw [e]
 exact Rat.intCast_lt_intCast.mpr h
theorem nfrac_gr {n : Nat} (hn : 0 < n) (a : Int) : Gr n ((a : Rat) / (n : Rat)) := ⟨a, by
 have := nat_ne hn
 grind⟩
theorem nfrac_self {n : Nat} (hn : 0 < n) : (((n : Nat) : Int) : Rat) / (n : Rat) = 1 := by
 have := nat_ne hn
 rw [Rat.intCast_natCast]
 grind
def MadeOf (n : Nat) (es : List Int) (S : Steps) : Prop := S.map Prod.fst = es.map (fun (e : Int) => (e : Rat) / (n : Rat)) ∧ ∀ z ∈ S, 0 < z.2 ∧ z.2 ≤ 1000
theorem MadeOf.nil (n : Nat) : MadeOf n [] [] := ⟨rfl, fun _ h => nomatch h⟩
theorem MadeOf.snoc {n : Nat} {es : List Int} {S : Steps} (h : MadeOf n es S) {e w : Int} (h0 : 0 < w) (h1 : w ≤ 1000) : MadeOf n (es ++ [e]) (S ++ [((e : Rat) / (n : Rat), w)]) := by
 refine ⟨by rw [List.map_append, List.map_append, h.1]; rfl, fun z hz => ?_⟩
 rcases List.mem_append.mp hz with q | q
 ·exact h.2 z q
 ·rw [List.mem_singleton.mp q]
  exact ⟨h0, h1⟩
theorem MadeOf.rise {n : Nat} (hn : 0 < n) : ∀ {es : List Int} {S : Steps} {b : Int}, MadeOf n es S → (b :: es).Pairwise (· < ·) → Rise ((b : Rat) / (n : Rat)) S
 | [], [], b, _, _ => trivial
 | [], z :: S, b, h, _ => by cases h.1
 | e :: es, [], b, h, _ => by cases h.1
 | e :: es, (x, w) :: S, b, h, hp => by
  obtain ⟨h1, h2⟩ := h
  injection h1 with e1 e2
  have pc := List.pairwise_cons.mp hp
  have ex : x = (e : Rat) / (n : Rat) := e1
  refine ⟨?_, (h2 (x, w) List.mem_cons_self).1, ?_⟩
  ·rw [ex]
   exact nfrac_lt hn (pc.1 e List.mem_cons_self)
  ·rw [ex]
   exact MadeOf.rise hn ⟨e2, fun z hz => h2 z (List.mem_cons_of_mem _ hz)⟩ pc.2
theorem MadeOf.ts {n : Nat} {es : List Int} {S : Steps} (h2n : 0 < n) (hn : n ≤ 1000) (h : MadeOf n (es ++ [(n : Int)]) S) (hl : es.length ≤ 7) (hp : (0 :: (es ++ [(n : Int)])).Pairwise (· < ·)) : TsOk n S := by
 have len : S.length = es.length + 1 := by
  have := congrArg List.length h.1
  simpa using this
 have ne : S ≠ [] := fun z => by
  rw [z] at len
  simp at len
 refine ⟨h2n, hn, ne, by omega, ?_, ?_, fun z hz => ?_, fun z hz => (h.2 z hz).2⟩
 ·have := MadeOf.rise h2n h hp
  rw [show ((0 : Int) : Rat) / (n : Rat) = 0 by rw [show ((0 : Int) : Rat) = 0 from rfl]; grind] at this
  exact this
 ·obtain ⟨S0, l, rfl⟩ : ∃ S0 l, S = S0 ++ [l] := ⟨S.dropLast, S.getLast ne, (List.dropLast_concat_getLast ne).symm⟩
  have h1 := h.1
  rw [List.map_append, List.map_append] at h1
  have := List.append_inj_right' h1 rfl
  have e : l.1 = (((n : Nat) : Int) : Rat) / (n : Rat) := by
   injection this
  rw [show l = (l.1, l.2) from rfl, end_snoc, e, nfrac_self h2n]
 ·have : z.1 ∈ S.map Prod.fst := List.mem_map.mpr ⟨z, hz, rfl⟩
  rw [h.1] at this
  obtain ⟨e, _, q⟩ := List.mem_map.mp this
  rw [← q]
  exact nfrac_gr h2n e
theorem sorted_rise {es : List Int} (h1 : es.Pairwise (· ≤ ·)) (h2 : es.Nodup) : es.Pairwise (· < ·) := by
 refine List.Pairwise.imp₂ (fun a b h1 h2 => ?_) h1 h2
 omega
end FK
namespace FK
def Ao (S : Steps) : List (Rat × Rat) → Rat
 | [] => 0
 | p :: L => (A 0 S p.2 - A 0 S p.1) + Ao S L
theorem Ao_snoc (S : Steps) : ∀ (L : List (Rat × Rat)) (p : Rat × Rat), Ao S (L ++ [p]) = Ao S L + (A 0 S p.2 - A 0 S p.1)
 | [], p => by
  show (A 0 S p.2 - A 0 S p.1) + 0 = 0 + (A 0 S p.2 - A 0 S p.1)
  grind
 | q :: L, p => by
  show (A 0 S q.2 - A 0 S q.1) + Ao S (L ++ [p]) = (A 0 S q.2 - A 0 S q.1) + Ao S L + (A 0 S p.2 - A 0 S p.1)
  rw [Ao_snoc S L p]
  grind
theorem Ao_wo {p : Nat} {S : Steps} (h : TsOk p S) : ∀ (L : List (Rat × Rat)), Ao S L / tot S = Wo S L
 | [] => by
  show (0 : Rat) / tot S = 0
  grind
 | q :: L => by
  have ih := Ao_wo h L
  have t := h.tp
  show ((A 0 S q.2 - A 0 S q.1) + Ao S L) / tot S = (A 0 S q.2 / tot S - A 0 S q.1 / tot S) + Wo S L
  rw [← ih]
  grind
structure SpOk (D : Nat) (L : List (Rat × Rat)) : Prop where
 win : ∀ p ∈ L, 0 ≤ p.1 ∧ p.1 ≤ p.2 ∧ p.2 ≤ 1
 gr : ∀ p ∈ L, Gr D p.1 ∧ Gr D p.2
 few : L.length ≤ 1000
theorem area_nn {p : Nat} {S : Steps} (h : TsOk p S) {a b : Rat} (hab : a ≤ b) : 0 ≤ A 0 S b - A 0 S a := by
 have := A_mono h.rise hab
 grind
theorem area_up {p : Nat} {S : Steps} (h : TsOk p S) {a b : Rat} (hb0 : 0 ≤ b) (hb : b ≤ 1) : A 0 S b - A 0 S a ≤ 1000 := by
 have := h.up hb0 hb
 have := A_nn (x := a) h.rise
 grind
theorem area_gr {p : Nat} {S : Steps} (h : TsOk p S) {D : Nat} {a b : Rat} (ga : Gr D a) (gb : Gr D b) : Gr (D * p) (A 0 S b - A 0 S a) :=
 Gr.sub (A_gr (Gr.zero _) (fun z hz => (h.gr z hz).up') gb.up) (A_gr (Gr.zero _) (fun z hz => (h.gr z hz).up') ga.up)
theorem Ao_gr {p : Nat} {S : Steps} (h : TsOk p S) {D : Nat} : ∀ {L : List (Rat × Rat)}, (∀ q ∈ L, Gr D q.1 ∧ Gr D q.2) → Gr (D * p) (Ao S L)
 | [], _ => Gr.zero _
 | q :: L, hL => Gr.add (area_gr h (hL q List.mem_cons_self).1 (hL q List.mem_cons_self).2) (Ao_gr h fun z hz => hL z (List.mem_cons_of_mem _ hz))
theorem Ao_nn {p : Nat} {S : Steps} (h : TsOk p S) : ∀ {L : List (Rat × Rat)}, (∀ q ∈ L, q.1 ≤ q.2) → 0 ≤ Ao S L
 | [], _ => Rat.le_refl
 | q :: L, hL => by
  have a := area_nn h (hL q List.mem_cons_self)
  have := Ao_nn h fun z hz => hL z (List.mem_cons_of_mem _ hz)
  show 0 ≤ (A 0 S q.2 - A 0 S q.1) + Ao S L
  grind
theorem Ao_up {p : Nat} {S : Steps} (h : TsOk p S) : ∀ {L : List (Rat × Rat)}, (∀ q ∈ L, 0 ≤ q.1 ∧ q.1 ≤ q.2 ∧ q.2 ≤ 1) → Ao S L ≤ ((1000 * L.length : Nat) : Rat)
 | [], _ => by
  show (0 : Rat) ≤ ((1000 * 0 : Nat) : Rat)
  exact Rat.le_refl
 | q :: L, hL => by
  have w := hL q List.mem_cons_self
  have a := area_up h (a := q.1) (b := q.2) (by grind) w.2.2
  have := Ao_up h (L := L) fun z hz => hL z (List.mem_cons_of_mem _ hz)
  show (A 0 S q.2 - A 0 S q.1) + Ao S L ≤ ((1000 * (L.length + 1) : Nat) : Rat)
  rw [show 1000 * (L.length + 1) = 1000 * L.length + 1000 by omega, Rat.natCast_add]
  have e : ((1000 : Nat) : Rat) = 1000 := rfl
  grind
end FK
namespace FK
theorem Gr.div {D : Nat} {q : Rat} (h : Gr D q) {w : Nat} (hw : 0 < w) : Gr (D * w) (q / (w : Rat)) := by
 obtain ⟨a, ha⟩ := h
 have := nat_ne hw
 exact ⟨a, by rw [Rat.natCast_mul, ← ha]; grind⟩
theorem hl_mem_gr {p : Nat} {S : Steps} (h : TsOk p S) {z : Rat × Rat} (hz : z ∈ hl 0 0 S) : Gr p z.1 ∧ Gr p z.2 := by
 obtain ⟨i, hi⟩ := List.mem_iff_getElem?.mp hz
 obtain ⟨_, rfl⟩ := hl_inv h.rise hi
 exact ⟨end_g h i, Gr.add (Gr.zero p) (A_gr (Gr.zero p) h.gr (end_g h i))⟩
theorem rise_w : ∀ {b : Rat} {S : Steps} {z : Rat × Int}, Rise b S → z ∈ S → 0 < z.2
 | b, [], z, _, h => nomatch h
 | b, (e, w) :: S, z, r, h => by
  rcases List.mem_cons.mp h with q | q
  ·rw [q]; exact r.2.1
  ·exact rise_w r.2.2 q
theorem at_some {p : Nat} {S : Steps} (h : TsOk p S) {y : Rat} {E : Nat} (y0 : 0 ≤ y) (y1 : y ≤ 1) (g : Gr (E * p) (y * tot S)) : ∃ x, rch (wl S) y = some x ∧ 0 ≤ x ∧ x ≤ 1 ∧ F S x = y ∧ ∃ w : Nat, 0 < w ∧ w ≤ 1000 ∧ Gr (E * p * w) x := by
 have t := h.tp
 have a0 : (0 : Rat) ≤ y * tot S := Rat.mul_nonneg y0 (Rat.le_of_lt t)
 have a1 : y * tot S ≤ tot S := by
  have := Rat.mul_le_mul_of_nonneg_right y1 (Rat.le_of_lt t)
  grind
 obtain ⟨x, e1, e2, e3, e4, q, hq, e, w, hm, ex⟩ := rch_at (h := 0) h.rise t h.ne a0 (by rw [h.top, zero_add']; exact a1)
 rw [h.top] at e3
 rw [zero_add'] at e4
 have w0 := rise_w h.rise hm
 have w1 : w ≤ 1000 := h.w (e, w) hm
 have w0' : 0 < w := w0
 refine ⟨x, e1, e2, e3, ?_, w.toNat, by omega, by omega, ?_⟩
 ·unfold F
  rw [e4]
  grind
 ·obtain ⟨g1, g2⟩ := hl_mem_gr h hq
  have ew : (w : Rat) = (w.toNat : Rat) := by
   rw [← Rat.intCast_natCast]
   congr 1
   omega
  rw [ex, ew]
  exact Gr.add (g1.up' (D := E)).up (Gr.div (Gr.sub g g2.up') (by omega))
theorem F_inv {p : Nat} {S : Steps} (h : TsOk p S) {x y : Rat} (x0 : 0 ≤ x) (y1 : y ≤ 1) (e : F S y ≤ F S x) : y ≤ x := by
 by_cases c : y ≤ x
 ·exact c
 ·have := F_smono h (x := x) (y := y) x0 (by grind) y1
  grind
theorem F_lt {p : Nat} {S : Steps} (h : TsOk p S) {x y : Rat} (e : F S x < F S y) : x < y := by
 by_cases c : y ≤ x
 ·have := F_mono h c
  grind
 ·grind
end FK
namespace FK
def Ch : Rat → List (Rat × Rat) → Rat → Prop
 | a, [], b => a = b
 | a, p :: C, b => p.1 = a ∧ p.1 < p.2 ∧ Ch p.2 C b
theorem Ch.ge : ∀ {a b : Rat} {C : List (Rat × Rat)}, Ch a C b → ∀ p ∈ C, a ≤ p.1
 | a, b, [], _, p, h => nomatch h
 | a, b, q :: C, h, p, hp => by
  obtain ⟨h1, h2, h3⟩ := h
  rcases List.mem_cons.mp hp with z | z
  ·rw [z, h1]
   exact Rat.le_refl
  ·have := Ch.ge h3 p z
   grind
theorem Ch.only {a b : Rat} {q : Rat × Rat} {C : List (Rat × Rat)} (h : Ch a (q :: C) b) : (q :: C).filter (fun p => decide (p.1 = a)) = [q] := by
 obtain ⟨h1, h2, h3⟩ := h
 rw [List.filter_cons_of_pos (by simpa using h1), List.filter_eq_nil_iff.mpr]
 intro p hp
 have := Ch.ge h3 p hp
 have : p.1 ≠ a := by grind
 simpa using this
theorem Ch.ones {a b : Rat} {q : Rat × Rat} {C R : List (Rat × Rat)} (h : Ch a (q :: C) b) (hp : R.Perm (q :: C)) : R.filter (fun p => decide (p.1 = a)) = [q] := by
 have := hp.filter (fun p => decide (p.1 = a))
 rw [h.only] at this
 exact List.perm_singleton.mp this
abbrev ixO {α : Type} [DecidableEq α] (q : α) (R : List α) : Nat := R.idxOf q
theorem ixO_lt {α : Type} [DecidableEq α] {q : α} {R : List α} (h : q ∈ R) : ixO q R < R.length := List.idxOf_lt_length_iff.mpr h
theorem perm_erase {α : Type} [DecidableEq α] {q : α} {C R : List α} (hp : R.Perm (q :: C)) : (R.eraseIdx (ixO q R)).Perm C := by
 have := hp.erase q
 rw [List.erase_cons_head, List.erase_eq_eraseIdx_of_idxOf (i := R.idxOf q) rfl] at this
 exact this
end FK
namespace L2
open PySem PySem.Spec PyProof.Rows
section
variable {X : Cx} {pins : List (Addr × Obj)} {σ : St} {H : Hp} {s : Shared} {h' : Heap}
theorem Inv.turnedN {t' : Nat} {ch : List Addr} {T : Addr} {o : HO} (I : Inv X pins σ H s) (k : ∀ b o, b ∉ ch → s.heap.get? b = some o → h'.get? b = some o) (hf : ∀ b ∈ ch, FpOk X pins H b)
  (hT : s.heap.objs.size ≤ T) (new : ObjOk X.prog X.w (upd H T o) h' T o) : Inv X pins σ (upd H T o) { s with heap := h', toks := t' } := by
 have hn : H T = none := I.hok.fresh hT
 have nch : ∀ b u, H b = some u → b ∉ ch := fun b u e z => by
  rw [(hf b z).1] at e
  cases e
 refine I.step (g' := s.gens) (d' := s.drawn) (ch := ch) (fun b hb => ?_) (fun b o _ _ hc e _ => k b o hc e) (fun b o _ _ hc e _ => ⟨o.slots, k b o hc e⟩) (fun b o hc e n => ?_)
  (fun b o hc e => ⟨o, k b o hc e⟩) (fun b xs e => by rw [upd_ne (ne_of_none e hn)]; exact e) (fun b u xs e => by rw [upd_ne (ne_of_none e hn)]; exact e) (fun b ps e => ⟨#[], by rw [upd_ne (ne_of_none e hn), e]; simp⟩) (fun m hm => ?_) (fun b u e => ?_) I.bare
 ·obtain ⟨_, f1, _, f3, f4, f5⟩ := hf b hb
  exact ⟨f3, f1, f4, f5⟩
 ·rw [upd_ne (Nat.ne_of_lt (Nat.lt_of_lt_of_le (Heap.lt_size e) hT))]
  exact n
 ·obtain ⟨o, es, ep, ho, r⟩ := hm
  exact ⟨o, es, ep, k _ o (fun z => (hf _ z).2.1 rfl) ho, r⟩
 ·by_cases hb : b = T
  ·subst hb
   rw [upd_same] at e
   cases e
   exact new
  ·rw [upd_ne hb] at e
   refine (I.hok b u e).stay (fun c v hc q => k c v ?_ q) (fun c q => by rw [upd_ne (ne_of_none q hn)]; exact q) fun c xs q => by rw [upd_ne (ne_of_none q hn)]; exact q
   rcases hc with z | z
   ·rw [z]
    exact nch b u e
   ·exact nch c _ z
theorem Inv.turnedL {t' : Nat} {ch : List Addr} (I : Inv X pins σ H s) (k : ∀ b o, b ∉ ch → s.heap.get? b = some o → h'.get? b = some o) (hf : ∀ b ∈ ch, FpOk X pins H b) : Inv X pins σ H { s with heap := h', toks := t' } := by
 have nch : ∀ b u, H b = some u → b ∉ ch := fun b u e z => by
  rw [(hf b z).1] at e
  cases e
 refine I.step (g' := s.gens) (d' := s.drawn) (ch := ch) (fun b hb => ?_) (fun b o _ _ hc e _ => k b o hc e) (fun b o _ _ hc e _ => ⟨o.slots, k b o hc e⟩) (fun b o hc e n => n)
  (fun b o hc e => ⟨o, k b o hc e⟩) (fun b xs e => e) (fun b u xs e => e) (fun b ps e => ⟨#[], by rw [e]; simp⟩) (fun m hm => ?_) (fun b u e => ?_) I.bare
 ·obtain ⟨_, f1, _, f3, f4, f5⟩ := hf b hb
  exact ⟨f3, f1, f4, f5⟩
 ·obtain ⟨o, es, ep, ho, r⟩ := hm
  exact ⟨o, es, ep, k _ o (fun z => (hf _ z).2.1 rfl) ho, r⟩
 ·refine (I.hok b u e).stay (fun c v hc q => k c v ?_ q) (fun _ q => q) fun _ _ q => q
  rcases hc with z | z
  ·rw [z]
   exact nch b u e
  ·exact nch c _ z
end
def Itz (K : PySem.W.Frag) (l1 l2 : Addr) : It :=
  ⟨fun i H => ∃ xs ys x y, SqL K H l1 xs ∧ SqL K H l2 ys ∧ xs[i]? = some x ∧ ys[i]? = some y,
   fun i H v H' => ∃ T x y, v = .ref T ∧ H T = none ∧ H' = upd H T (.tup [x, y]) ∧ (∀ xs, SqL K H l1 xs → xs[i]? = some x) ∧ (∀ ys, SqL K H l2 ys → ys[i]? = some y),
   fun i H => ∃ xs ys, SqL K H l1 xs ∧ SqL K H l2 ys ∧ (xs.length ≤ i ∨ ys.length ≤ i)⟩
def tnZ (z TI TO i1 i2 l1 l2 : Addr) (i : Nat) (h : Heap) : Prop := IsZip h z TI TO .none ∧ IsPair h TI (.ref i1) (.ref i2) ∧ (∃ a b, IsPair h TO a b) ∧ h.IsListIter i1 l1 i ∧ h.IsListIter i2 l2 i
theorem turn_zip {P : Program} {w : World} {K : PySem.W.Frag} {elts : List Expr} {kk : Nat} {tp : Pos} {z TI TO i1 i2 l1 l2 : Addr} (D : ZipApart z TI TO i1 i2 l1 l2) : Turn P w K (.Tuple elts kk tp) (Itz K l1 l2) [z, TI, TO, i1, i2] z (tnZ z TI TO i1 i2 l1 l2) where
 mem := by simp
 obj := fun i h st b hb => by
  obtain ⟨hz, hTI, ⟨a, c, hTO⟩, ⟨o1, e1, _, d1⟩, ⟨o2, e2, _, d2⟩⟩ := st
  simp only [List.mem_cons, List.mem_nil_iff, or_false] at hb
  rcases hb with rfl | rfl | rfl | rfl | rfl
  ·exact ⟨_, hz, fun v z => by cases z⟩
  ·exact ⟨_, hTI, fun v z => by cases z⟩
  ·exact ⟨_, hTO, fun v z => by cases z⟩
  ·exact ⟨_, e1, fun v z => by rw [d1] at z; cases z⟩
  ·exact ⟨_, e2, fun v z => by rw [d2] at z; cases z⟩
 keep := fun i h h' st k => by
  obtain ⟨hz, hTI, ⟨a, c, hTO⟩, h1, h2⟩ := st
  exact ⟨k z (by simp) _ hz, k TI (by simp) _ hTI, ⟨a, c, k TO (by simp) _ hTO⟩, h1.at fun o e => k i1 (by simp) o e, h2.at fun o e => k i2 (by simp) o e⟩
 item := by
  intro X hP hw hK hc i pins s σ H E I hf st hg
  subst hP hw hK
  obtain ⟨xs, ys, x, y, hq1, hq2, hx, hy⟩ := hg
  obtain ⟨its1, rv1, p1, hz1⟩ := I.list hq1
  obtain ⟨its2, rv2, p2, hz2⟩ := I.list hq2
  obtain ⟨u1, hu1, ru1⟩ := rv1.get hx
  obtain ⟨u2, hu2, ru2⟩ := rv2.get hy
  obtain ⟨hz, hTI, ⟨a, c, hTO⟩, h1, h2⟩ := st
  refine wpAny_pyNext_zip_item D hz hTI hTO h1 h2 p1.isList p2.isList (x := u1) (y := u2) (by simpa using hu1) (by simpa using hu2) fun h' a1 a2 a3 a4 a5 a6 a7 => ?_
  refine ⟨_, rfl, wpAny_letOwnedTupleGo_zip a1 fun h'' b1 b2 => ?_⟩
  have lt : ∀ {c o}, s.heap.get? c = some o → s.heap.objs.size ≠ c := fun e => Nat.ne_of_gt (Heap.lt_size e)
  have kp : ∀ b o, b ∉ [z, TO, i1, i2] → s.heap.get? b = some o → h''.get? b = some o := fun b o hb e => by
   simp only [List.mem_cons, List.mem_nil_iff, or_false, not_or] at hb
   exact b2.extBut _ _ hb.1 (a7 b o hb.1 hb.2.1 hb.2.2.1 hb.2.2.2 e)
  have hT : h''.get? s.heap.objs.size = some { cls := .type "tuple", data := .seq #[u1, u2] } := b2.extBut _ _ (lt hz) a5
  have I2 : Inv X pins σ (upd H s.heap.objs.size (.tup [x, y])) { s with heap := h'', toks := s.toks } := by
   refine I.turnedN (ch := [z, TO, i1, i2]) kp (fun b hb => hf b ?_) (Nat.le_refl _) ⟨(by show 2 ≤ sizeLine; decide), [u1, u2], .cons ru1 (.cons ru2 .nil), ⟨_, hT, rfl, _, rfl⟩⟩
   simp only [List.mem_cons, List.mem_nil_iff, or_false] at hb ⊢
   rcases hb with rfl | rfl | rfl | rfl <;> simp
  refine ⟨.ref s.heap.objs.size, _, I2, rfl, ⟨s.heap.objs.size, x, y, rfl, I.hok.fresh (Nat.le_refl _), rfl, fun zs hy' => by rw [I.list_inj hy' hq1]; exact hx, fun zs hy' => by rw [I.list_inj hy' hq2]; exact hy⟩,
   ⟨b1, b2.extBut _ _ D.TIz (a7 _ _ D.TIz D.TITO D.TIi1 D.TIi2 hTI), ⟨_, _, b2.extBut _ _ D.TOz a2⟩, a3.extBut b2.extBut D.i1z, a4.extBut b2.extBut D.i2z⟩, fun b hb => ?_⟩
  have ne : b ≠ s.heap.objs.size := by
   intro e
   subst e
   simp only [List.mem_cons, List.mem_nil_iff, or_false] at hb
   obtain ⟨o1, e1, _⟩ := h1
   obtain ⟨o2, e2, _⟩ := h2
   rcases hb with e | e | e | e | e
   ·exact lt hz e
   ·exact lt hTI e
   ·exact lt hTO e
   ·exact lt e1 e
   ·exact lt e2 e
  rw [upd_ne ne]
  exact (hf b hb).1
 done := by
  intro X hP hw hK hc i pins s σ H E I hf st hg
  subst hP hw hK
  obtain ⟨xs, ys, hq1, hq2, hl⟩ := hg
  obtain ⟨its1, rv1, p1, hz1⟩ := I.list hq1
  obtain ⟨its2, rv2, p2, hz2⟩ := I.list hq2
  have l1' := rv1.length
  have l2' := rv2.length
  obtain ⟨hz, hTI, ⟨a, c, hTO⟩, h1, h2⟩ := st
  refine wpAny_pyNext_zip_end (I.ok.hd hc) D hz hTI hTO h1 h2 p1.isList p2.isList ?_ fun h' k => ⟨rfl, ?_⟩
  ·rcases hl with e | e
   ·exact .inl (by simp; omega)
   ·exact .inr (by simp; omega)
  ·refine I.turnedL (t' := s.toks) (ch := [z, TO, i1, i2]) (fun b o hb e => ?_) fun b hb => hf b ?_
   ·simp only [List.mem_cons, List.mem_nil_iff, or_false, not_or] at hb
    exact k b o hb.1 hb.2.1 hb.2.2.1 hb.2.2.2 e
   ·simp only [List.mem_cons, List.mem_nil_iff, or_false] at hb ⊢
    rcases hb with rfl | rfl | rfl | rfl <;> simp
 self := fun _ _ _ _ _ st h => wpAny_pyIter_zip st.1 h
section
variable {X : Cx}
def iZip (K : PySem.W.Frag) (ta : TA) : TI := fun σ H R => ta σ H fun vs H1 => ∃ l1 l2, vs = [.ref l1, .ref l2] ∧ (∃ xs, SqL K H1 l1 xs) ∧ (∃ ys, SqL K H1 l2 ys) ∧ R (Itz K l1 l2) H1
theorem pi_zip {elts : List Expr} {kk : Nat} {tp : Pos} {a b : Expr} {ta : TA} {p pos : Pos} (hg : Gl X "zip") (hm : X.mg "zip" = none) (ha : PA X [a, b] ta) (hs : starEach [a, b] X.env = (false, eval a X.env) :: starEach [b] X.env := by rfl) (hp : (backTo pos (starEach [b] X.env)).any (·.1) = false := by rfl) :
  PI X (.Tuple elts kk tp) (.Call (.Name "zip" p) [a, b] [] pos) (iZip X.K ta) := by
 intro pins s σ H R I h
 refine Call_ (ld_blt I hg hm boot_zip (PyProof.Rows.callWith_type1 (thn (ha pos pins s σ H _ I h) fun us s1 ⟨vs, H1, I1, r1, q1⟩ => ?_) hs hp))
 obtain ⟨l1, l2, rfl, ⟨xs, hq1⟩, ⟨ys, hq2⟩, q⟩ := q1
 obtain ⟨u1, u2, rfl, e1, e2⟩ := r1.two
 cases (show u1 = Value.ref l1 from e1)
 cases (show u2 = Value.ref l2 from e2)
 obtain ⟨its1, rv1, p1, hz1⟩ := I1.list hq1
 obtain ⟨its2, rv2, p2, hz2⟩ := I1.list hq2
 have lt1 : l1 < s1.heap.objs.size := by obtain ⟨o, e, _⟩ := p1.isList; exact Heap.lt_size e
 have lt2 : l2 < s1.heap.objs.size := by obtain ⟨o, e, _⟩ := p2.isList; exact Heap.lt_size e
 refine call_zip_2 p1.isList p2.isList fun h' a1 a2 a3 a4 a5 a6 a7 => ?_
 have I2 : Inv X pins σ H1 { s1 with heap := h', toks := s1.toks } := I1.kept a7
 refine wpAny_pyIter_zip a1 ⟨s1.heap.objs.size + 4, [s1.heap.objs.size + 4, s1.heap.objs.size + 2, s1.heap.objs.size + 3, s1.heap.objs.size, s1.heap.objs.size + 1], _, _, H1, rfl, I2, turn_zip (l1 := l1) (l2 := l2) ?_, ⟨a1, a2, ⟨_, _, a3⟩, a4, a5⟩, fun b hb => ?_, q⟩
 ·have lt1' : @LT.lt Nat _ l1 s1.heap.objs.size := lt1
  have lt2' : @LT.lt Nat _ l2 s1.heap.objs.size := lt2
  constructor <;> (intro z; have z' : @Eq Nat _ _ := z; omega)
 ·have hb' : s1.heap.objs.size ≤ b := by
   simp only [List.mem_cons, List.mem_nil_iff, or_false] at hb
   rcases hb with rfl | rfl | rfl | rfl | rfl
   ·exact Nat.le_add_right _ _
   ·exact Nat.le_add_right _ _
   ·exact Nat.le_add_right _ _
   ·exact Nat.le_refl _
   ·exact Nat.le_add_right _ _
  have f := I1.fpOk (H' := H1) hb' (I1.hok.fresh hb')
  exact f
end
theorem CompOk.free1 {X : Cx} {sc : Scope} {cl : List (Str × Addr)} {F : List Str} {js : List Nat} (kind : sc.kind = .function) (cell : ∀ y ∈ sc.names, y.2 ≠ .cell) (names : ∀ y ∈ sc.names, y.2 = .local → sc.names.lookup y.1 = some .local)
  (clos : closureFor sc X.env = pure cl) (cls : ClOk X cl) (has : (sc.names.all fun y => !(decide (y.2 = .free)) || (cl.lookup y.1).isSome) = true) (free : FreeOk X sc F js) : CompOk X sc cl F js :=
 ⟨kind, cell, names, clos, cls, fun y hy e => by
  have := List.all_eq_true.mp has y hy
  rw [decide_eq_true e] at this
  exact Option.isSome_iff_exists.mp this, free⟩
theorem comp_zip {K : PySem.W.Frag} {l1 l2 D : Addr} {xs zs : List V} {g : CS → TG} {tc : CS → TT} {te : CS → TE} {σ0 : St} {H0 : Hp} {Q : Hp → Prop} (Pv : Nat → List V → St → Hp → Prop) (hzs : zs.length = xs.length) (hz : xs.length ≤ sizeLine) (h0 : Pv 0 [] σ0 H0)
  (hl : ∀ i ys σ H, i ≤ xs.length → Pv i ys σ H → SqL K H l1 xs ∧ SqL K H l2 zs ∧ H D = some (.lst ys) ∧ ys.length ≤ i)
  (hs : ∀ i x z ys σ H T, xs[i]? = some x → zs[i]? = some z → Pv i ys σ H → H T = none → ∀ c : CS, g c (.ref T) σ (upd H T (.tup [x, z])) fun σ2 H2 => tc c σ2 H2 fun b H3 => if b = true then te c σ2 H3 fun v H4 => H4 D = some (.lst ys) ∧ Pv (i + 1) (ys ++ [v]) σ2 (upd H4 D (.lst (ys ++ [v]))) else Pv (i + 1) ys σ2 H3)
  (hd : ∀ ys σ H, Pv xs.length ys σ H → Q H) :
  ∃ W : Nat → Nat → List V → St → Hp → Prop, (∃ m, W 0 m [] σ0 H0) ∧ ∀ i m ys σ' H', W i m ys σ' H' → H' D = some (.lst ys) ∧ (((Itz K l1 l2).stop i H' ∧ Q H') ∨ ((Itz K l1 l2).go i H' ∧ ys.length < sizeLine ∧ ∃ N : List V → St → Hp → Prop, (∀ ys' σ'' H'', N ys' σ'' H'' → ∃ m', m' < m ∧ W (i + 1) m' ys' σ'' H'') ∧
    ∀ x H2, (Itz K l1 l2).yld i H' x H2 → ∀ c : CS, g c x σ' H2 fun σ2 H3 => tc c σ2 H3 fun b H4 => if b = true then te c σ2 H4 fun v H5 => H5 D = some (.lst ys) ∧ N (ys ++ [v]) σ2 (upd H5 D (.lst (ys ++ [v]))) else N ys σ2 H4)) := by
 refine ⟨fun i m ys σ H => m = xs.length - i ∧ i ≤ xs.length ∧ Pv i ys σ H, ⟨xs.length, by simp, Nat.zero_le _, h0⟩, ?_⟩
 rintro i m ys σ H ⟨rfl, hi, p⟩
 obtain ⟨q1, q2, qD, ql⟩ := hl i ys σ H hi p
 refine ⟨qD, ?_⟩
 by_cases hlt : i < xs.length
 ·refine .inr ⟨⟨xs, zs, xs[i], zs[i]'(by omega), q1, q2, by simp [hlt], by simp [hzs, hlt]⟩, by omega, Pv (i + 1), fun ys' σ' H' p' => ⟨xs.length - (i + 1), by omega, rfl, hlt, p'⟩, fun x H' y c => ?_⟩
  obtain ⟨T, a, b, rfl, hT, rfl, y1, y2⟩ := y
  exact hs i a b ys σ _ T (y1 xs q1) (y2 zs q2) p hT c
 ·have e : i = xs.length := by omega
  subst e
  exact .inl ⟨⟨xs, zs, q1, q2, .inl (Nat.le_refl _)⟩, hd ys σ H p⟩
def Keep (H H' : Hp) : Prop := ∀ b o, H b = some o → (∀ zs, o ≠ .lst zs) → (∀ ps, o ≠ .tbl ps) → H' b = some o
theorem Keep.of {H H' : Hp} (s : Same H H') : Keep H H' := fun b o e _ _ => s b o e
theorem Keep.trans {A B C : Hp} (h : Keep A B) (g : Keep B C) : Keep A C := fun b o e n m => g b o (h b o e n m) n m
theorem Keep.updL {H : Hp} {D : Addr} {zs : List V} {o : HO} (h : H D = some (.lst zs)) : Keep H (upd H D o) := fun b u e n _ => by
 rw [upd_ne (ne_of e h (n zs))]
 exact e
theorem Keep.sqT {K : PySem.W.Frag} {H H' : Hp} {a : Addr} {xs : List V} (s : Keep H H') (h : SqT K H a xs) : SqT K H' a xs := by
 rcases h with (z | ⟨o, z⟩) | z
 ·exact .inl (.inl (s _ _ z (fun _ z => nomatch z) (fun _ z => nomatch z)))
 ·exact .inl (.inr ⟨o, s _ _ z (fun _ z => nomatch z) (fun _ z => nomatch z)⟩)
 ·exact .inr z
theorem Keep.fr {K : PySem.W.Frag} {H H' : Hp} {x : V} {d : Int × Int} (s : Keep H H') (h : FrR K H x d) : FrR K H' x d := by
 obtain ⟨p, y, z, rfl, q, h1, h2⟩ := h
 exact ⟨p, y, z, rfl, s.sqT q, h1, h2⟩
theorem Same.updN {H H' : Hp} {D : Addr} {o : HO} (s : Same H H') (h : H D = none) : Same H (L2.upd H' D o) := fun b u e => by
 rw [upd_ne (ne_of_none e h)]
 exact s b u e
def Ml (P : Program) (w : World) (K : PySem.W.Frag) (mg : Str → Option Value) (base : Heap) (C : Addr) (m : Str) (k : Nat) (ps : List Str) (sp : Sp) : Prop :=
 ∃ (f : Addr) (fd : FuncData), Meth K C m f ∧ Binds K fd ps [] ∧ FnOk P w K mg base CX0 k f fd ps sp
def Mc (P : Program) (w : World) (K : PySem.W.Frag) (mg : Str → Option Value) (base : Heap) (x : Str) (C : Addr) (k : Nat) (ps : List Str) (sp : Sp) : Prop :=
 ∃ (f : Addr) (fd : FuncData), Mk K C f ∧ mg x = some (.ref C) ∧ Binds K fd ps [] ∧ FnOk P w K mg base CX0 k f fd ps sp
section
variable {X : Cx} {k : Nat} {C : Addr} {ps : List Str} {sp : Sp} {x m : Str} {p pos apos : Pos} {e o : Expr} {es : List Expr} {ta : TE} {t : TA}
theorem pe_ml {pl : Sem Bool} (M : Ml X.prog X.w X.K X.mg X.base C m k ps sp) (c : Cls X.K C) (hr : Room k X.A) (he : PE X o ta) (ha : PA X (e :: es) t)
  (hst : starEach (e :: es) X.env = (false, eval e X.env) :: starEach es X.env := by rfl) (hpl : (backTo pos (starEach es X.env)).any (·.1) = false := by rfl)
  (ht : eval (.Call (.Attribute o m apos) (e :: es) [] pos) X.env = (do
   let ov ← eval o X.env
   standAt apos.atName
   let (f, first) ← holding [ov] (getMethod ov m pl)
   callWith pos f first (backTo pos (starEach (e :: es) X.env)) (backToKw pos (keywordEach [] X.env))) := by rfl) :
  PE X (.Call (.Attribute o m apos) (e :: es) [] pos) (tMeth C m sp [] E0 ta t) := by
 obtain ⟨f, fd, h1, h2, h3⟩ := M
 exact pe_meth he c h1 h3 hr h2 .nil pass0 ha hst hpl ht
theorem pe_ml0 {pl : Sem Bool} (M : Ml X.prog X.w X.K X.mg X.base C m k ps sp) (c : Cls X.K C) (hr : Room k X.A) (he : PE X o ta)
  (ht : eval (.Call (.Attribute o m apos) [] [] pos) X.env = (do
   let ov ← eval o X.env
   standAt apos.atName
   let (f, first) ← holding [ov] (getMethod ov m pl)
   callWith pos f first (backTo pos (starEach [] X.env)) (backToKw pos (keywordEach [] X.env))) := by rfl) :
  PE X (.Call (.Attribute o m apos) [] [] pos) (tMeth C m sp [] E0 ta tNil) := by
 obtain ⟨f, fd, h1, h2, h3⟩ := M
 exact pe_meth0 he c h1 h3 hr h2 .nil pass0 ht
theorem pe_mk (M : Mc X.prog X.w X.K X.mg X.base x C k ps sp) (hr : Room (k + 1) X.A) (hg : Gl X x) (ha : PA X (e :: es) t) (hdb : (x == ("__debug__" : Str)) = false := by decide) (he : starEach (e :: es) X.env = (false, eval e X.env) :: starEach es X.env := by rfl)
  (hpl : (backTo pos (starEach es X.env)).any (·.1) = false := by rfl) : PE X (.Call (.Name x p) (e :: es) [] pos) (tMake C sp [] E0 t) := by
 obtain ⟨f, fd, h1, h2, h3, h4⟩ := M
 exact pe_make h1 h4 hr hg h2 h3 .nil pass0 ha hdb he hpl
end
theorem atI_of {α : Type} {xs : List α} {i : Int} {v : α} (h0 : 0 ≤ i) (h : xs[i.toNat]? = some v) : atI xs i = some v := by
 obtain ⟨m, rfl⟩ := Int.eq_ofNat_of_zero_le h0
 exact atI_nat (by simpa using h)
theorem flat_ints (l : List Int) : (l.map V.int).all flatV = true := by
 rw [List.all_map]
 exact List.all_eq_true.mpr fun _ _ => rfl
theorem inV_int {e : Int} {l : List Int} : inV (.int e) (l.map V.int) = true ↔ e ∈ l := by
 unfold inV
 rw [List.any_map, List.any_eq_true]
 constructor
 ·rintro ⟨y, hy, h⟩
  have : (y == e) = true := h
  rw [← beq_iff_eq.mp this]
  exact hy
 ·exact fun h => ⟨e, h, beq_self_eq_true e⟩
end L2
namespace PySem.SeqAt
open PySem.AutoSeq1 (wpAny_loadPart')
open PySem.MeetsSeq
theorem rm_loop (l : Addr) (its : Array Value) (n : Nat) (x : Value) (e : Value → Bool) (j : Nat) (hj : j < its.size) (hit : e its[j] = true) (hz : its.size ≤ sizeLine) (k : Nat) :
  ∀ i : Nat, j - i = k → i ≤ j → (∀ m (hm : m < its.size), i ≤ m → m < j → e its[m] = false) → Meets (Builtin.«list.remove.loop» ⟨[.ref l, x, rawInt i], []⟩)
   (fun A R s => s.heap.get? l = some { cls := .type "list", dict := none, data := .seq its n, slots := #[] } ∧ (∀ y, y ∈ its → EqAt A.in1 s y x (e y)) ∧ R (.ok (.ret .none)) { s with heap := s.heap.update l (Obj.mapSeq fun xs => xs.eraseIdxIfInBounds j) }) := by
 induction k with
 | zero =>
  intro i hk hij hno prog w A R st hh
  obtain ⟨hp, g, d, tk, os⟩ := st
  obtain ⟨hl, he, h⟩ := hh
  have hij' : i = j := by omega
  subst hij'
  wp_walk using wpAny_loadPart' hl
  have hi : its[((i : Nat) : Int).toNat]? = some its[i] := by simp [hj]
  rw [hi]
  refine wpAny_bind (he _ (Array.getElem_mem hj) prog w _ _ ?_)
  rw [hit]
  have hz2 : (its.eraseIdxIfInBounds i).size ≤ sizeLine + 1 := Nat.le_trans (size_erased its _) (Nat.le_succ_of_le hz)
  wp_walk using (wpAny_updateSeq hl rfl (hz := hz) (_hz' := hz2)), wpAny_loadPart' hl
  simpa using h
 | succ k ih =>
  intro i hk hij hno prog w A R st hh
  obtain ⟨hp, g, d, tk, os⟩ := st
  obtain ⟨hl, he, h⟩ := hh
  have hlt : i < its.size := by omega
  wp_walk using wpAny_loadPart' hl
  have hi : its[((i : Nat) : Int).toNat]? = some its[i] := by simp [hlt]
  have hc : ((i : Int) + 1) = ((i + 1 : Nat) : Int) := by push_cast; rfl
  rw [hi]
  refine wpAny_bind (he _ (Array.getElem_mem hlt) prog w _ _ ?_)
  rw [hno i hlt (Nat.le_refl _) (by omega)]
  wp_walk
  rw [hc]
  refine ⟨plainId_quiet plain_remove_loop _, codeAny_builtin entry_remove_loop ?_⟩
  rw [Around.under_plainId plain_remove_loop _]
  exact ih (i + 1) (by omega) (by omega) (fun m hm h1 h2 => hno m hm (by omega) h2) prog w A R _ ⟨hl, he, h⟩
theorem rm_at (l : Addr) (its : Array Value) (n : Nat) (x : Value) (e : Value → Bool) (j : Nat) (hj : j < its.size) (hit : e its[j] = true) (hno : ∀ m (hm : m < its.size), m < j → e its[m] = false) (hz : its.size ≤ sizeLine) :
  Meets (Builtin.«list.remove» ⟨[.ref l, x], []⟩)
   (fun A R s => s.heap.get? l = some { cls := .type "list", dict := none, data := .seq its n, slots := #[] } ∧ (∀ y, y ∈ its → EqAt A.in1 s y x (e y)) ∧ R (.ok (.ret .none)) { s with heap := s.heap.update l (Obj.mapSeq fun xs => xs.eraseIdxIfInBounds j) }) := by
 intro prog w A R st hh
 obtain ⟨hp, g, d, tk, os⟩ := st
 obtain ⟨hl, he, h⟩ := hh
 wp_walk using wpAny_loadPart' hl
 refine ⟨plainId_quiet plain_remove_loop _, codeAny_builtin entry_remove_loop ?_⟩
 rw [Around.under_plainId plain_remove_loop _]
 exact rm_loop l its n x e j hj hit hz _ 0 rfl (Nat.zero_le _) (fun m hm _ h2 => hno m hm h2) prog w A R _ ⟨hl, he, h⟩
end PySem.SeqAt
namespace L2
open PySem PySem.Spec PyProof.Rows
section
variable {X : Cx}
theorem relV_fn {x y : V} {u : Value} (h1 : RelV x u) (h2 : RelV y u) : x = y := by
 cases x <;> cases y <;> simp only [RelV] at h1 h2
 all_goals first
  | rfl
  | (subst h1; simp at h2 <;> simp [h2])
  | (obtain ⟨t, rfl⟩ := h1; simp at h2 <;> simp [h2])
def rRemove {α : Type} [DecidableEq α] (R : Hp → V → α → Prop) : V → List V → Hp → VK → Prop := fun x vs H Q => ∃ l xs y ds d, x = .ref l ∧ vs = [y] ∧ H l = some (.lst xs) ∧ Paired (R H) xs ds ∧ R H y d ∧ d ∈ ds ∧ Q .non (upd H l (.lst (xs.eraseIdx (ds.idxOf d))))
theorem mt_remove {α : Type} [DecidableEq α] {R : Hp → V → α → Prop} {dd : Nat} (hR : RpE X.K R dd) (hu : X.A.units + (dd + 1) < cLine) : MtM X "list.remove" (rRemove R) := by
 intro pins s σ H x vs v us Q I rx rv h
 obtain ⟨l, xs, y, ds, d, rfl, rfl, hH, hD, hd, hm, q⟩ := h
 cases rx
 obtain ⟨u, rfl, ru⟩ := rv.one
 obtain ⟨z, its, n, r, hl, e⟩ := I.lstM hH
 have ld := hD.length
 have hj : ds.idxOf d < ds.length := List.idxOf_lt_length_iff.mpr hm
 classical
 let f : Value → Bool := fun u' => decide (∃ (m : Nat) (c : α), its[m]? = some u' ∧ ds[m]? = some c ∧ c = d)
 have fe : ∀ (m : Nat) (u' : Value) (c : α), its[m]? = some u' → ds[m]? = some c → f u' = decide (c = d) := fun m u' c h1 h2 => by
  by_cases hc : c = d
  ·rw [decide_eq_true hc]
   exact decide_eq_true ⟨m, c, h1, h2, hc⟩
  ·rw [decide_eq_false hc]
   refine decide_eq_false fun ⟨m', c', g1, g2, g3⟩ => hc ?_
   have im : m < xs.length := by have := (List.getElem?_eq_some_iff.mp h1).1; omega
   have im' : m' < xs.length := by have := (List.getElem?_eq_some_iff.mp g1).1; omega
   obtain ⟨w1, e1, r1⟩ := r.get (List.getElem?_eq_getElem im)
   obtain ⟨w2, e2, r2⟩ := r.get (List.getElem?_eq_getElem im')
   rw [h1] at e1
   rw [g1] at e2
   cases e1
   cases e2
   have ex := relV_fn r1 r2
   have a1 := Paired.get hD m _ _ (List.getElem?_eq_getElem im) h2
   have a2 := Paired.get hD m' _ _ (List.getElem?_eq_getElem im') g2
   rw [ex] at a1
   rw [← g3]
   exact hR.inj rfl I a1 a2
 have hit : f (its.toArray[ds.idxOf d]'(by rw [List.size_toArray]; omega)) = true := by
  have g : its[ds.idxOf d]? = some (its[ds.idxOf d]'(by omega)) := List.getElem?_eq_getElem _
  have := fe _ _ d g (List.getElem?_eq_some_iff.mpr ⟨hj, List.getElem_idxOf hj⟩)
  rw [decide_eq_true rfl] at this
  simpa using this
 have hno : ∀ m (hm : m < its.toArray.size), m < ds.idxOf d → f its.toArray[m] = false := fun m hm' hlt => by
  have im : m < its.length := by simpa using hm'
  have g : its[m]? = some (its[m]'im) := List.getElem?_eq_getElem _
  have g2 : ds[m]? = some (ds[m]'(by omega)) := List.getElem?_eq_getElem _
  have := fe _ _ _ g g2
  have nf := List.not_of_lt_findIdx (p := (· == d)) hlt
  rw [decide_eq_false (fun z => by rw [z] at nf; simp at nf)] at this
  simpa using this
 refine call_meets F.slot_list_remove ⟨_, e, rfl⟩ F.entry_list_remove (F.args_list_remove_2 _ _)
  (SeqAt.rm_at l its.toArray n u f (ds.idxOf d) (by rw [List.size_toArray]; omega) hit hno (by rw [List.size_toArray]; omega)) ⟨e, fun y' hy' => ?_, ?_⟩
 ·obtain ⟨m, hm1, hm2⟩ := Array.mem_iff_getElem.mp hy'
  have im : m < its.length := by simpa using hm1
  have g : its[m]? = some y' := by
   rw [List.getElem?_eq_getElem im]
   congr 1
  have g2 : ds[m]? = some (ds[m]'(by omega)) := List.getElem?_eq_getElem _
  have g1 : xs[m]? = some (xs[m]'(by omega)) := List.getElem?_eq_getElem _
  obtain ⟨w1, e1, r1⟩ := r.get g1
  rw [g] at e1
  cases e1
  rw [fe _ _ _ g g2]
  exact hR.eq (by rfl) I (by rw [in1_units]; omega) (Paired.get hD m _ _ g1 g2) hd r1 ru
 ·refine ⟨.non, _, I.lset (its' := its.eraseIdx (ds.idxOf d)) hH e ?_ (r.eraseIdx _) ?_, rfl, q⟩
  ·simp
  ·exact Nat.le_trans (len_erase _ _) z
theorem all_range (bs : List Bool) : (List.range bs.length).all (fun i => bs.getD i false) = bs.all id := by
 rw [Bool.eq_iff_iff, List.all_eq_true, List.all_eq_true]
 constructor
 ·intro h b hb
  obtain ⟨i, hi, rfl⟩ := List.mem_iff_getElem.mp hb
  have := h i (List.mem_range.mpr hi)
  rw [List.getD_eq_getElem?_getD, List.getElem?_eq_getElem hi] at this
  exact this
 ·intro h i hi
  have hi := List.mem_range.mp hi
  rw [List.getD_eq_getElem?_getD, List.getElem?_eq_getElem hi]
  exact h _ (List.getElem_mem hi)
theorem call_all (hc : X.calm = true) : CallR X (.builtin "all") (fun xs H Q => ∃ (p : Addr) (bs : List Bool), xs = [.ref p] ∧ SqL X.K H p (bs.map V.bl) ∧ Q (.bl (bs.all id)) H) := by
 intro pins s σ H xs us Q I r h
 obtain ⟨p, bs, rfl, hq, q⟩ := h
 obtain ⟨u, rfl, rx⟩ := r.one
 cases (show u = Value.ref p from rx)
 obtain ⟨its, rv, pl, hz⟩ := I.list hq
 have hl := rv.length
 rw [List.length_map] at hl
 refine call_all_walk (wpAny_pyIter_list pl.isList ?_)
 have hp : p ≠ s.heap.objs.size := fun e => by
  obtain ⟨o, n, e1, _⟩ := pl
  exact absurd (Heap.lt_size e1) (by rw [e]; exact Nat.lt_irrefl _)
 have old : ∀ b o, s.heap.get? b = some o → (s.heap.push { cls := .type "list_iterator", data := .fields #[.ref p, .int 0 0] }).get? b = some o := fun b o e => Heap.get?_push_of_some _ e
 refine ⟨s.heap.objs.size, [s.heap.objs.size, p], [s.heap.objs.size], its.toArray.size, _, _, fun i => bs.getD i false, rfl,
  Walks.list (A := X.A.in1) (I.ok.hd hc) s.heap.objs.size p hp its.toArray, ⟨⟨_, Heap.get?_push_size _ rfl, rfl, rfl⟩, pl.isList.at fun o e => old p o e⟩, ?_, fun h' tk hk => ?_⟩
 ·intro i v s2 Q2 E2 hv hq2
  have hv' : its[i]? = some v := by simpa using hv
  have hi : i < its.length := (List.getElem?_eq_some_iff.mp hv').1
  have g : (bs.map V.bl)[i]? = some (V.bl (bs.getD i false)) := by
   have hb : i < bs.length := by omega
   rw [List.getElem?_map, List.getD_eq_getElem?_getD, List.getElem?_eq_getElem hb]
   rfl
  obtain ⟨u, gu, ru⟩ := rv.get g
  rw [hv'] at gu
  cases gu
  cases (show v = Value.bool _ from ru)
  exact wpAny_truthy_bool hq2
 ·have en : (List.range its.toArray.size).all (fun i => bs.getD i false) = bs.all id := by
   rw [List.size_toArray, ← hl]
   exact all_range bs
  rw [en]
  refine ⟨.bl _, H, I.kept (h' := h') (t' := tk) (fun b o e => hk b o (fun z => ?_) (old b o e)), rfl, q⟩
  have z' : b = s.heap.objs.size := by simpa using z
  exact absurd (Heap.lt_size e) (by rw [z']; exact Nat.lt_irrefl _)
structure IsC (K : PySem.W.Frag) (C : Addr) : Prop where
 cl : Cls K C
 ha : PySem.W.findIn K (.ref C) "__class__" = some (some (.builtin "object.__class__"))
 hn : PySem.W.specialIn K (.builtin "object.__class__") "__get__" = some (some (.builtin "getset_descriptor.__get__"))
 htk : PySem.W.takesIn K (.builtin "object.__class__") = some true
 hm : PySem.W.mroIn K C (.type "object") = some true
theorem call_isC : CallR X (.builtin "isinstance") (fun xs H Q => ∃ a C dx fs, xs = [.ref a, .ref C] ∧ H a = some (.ins C dx fs) ∧ IsC X.K C ∧ Q (.bl true) H) := by
 intro pins s σ H xs us Q I r h
 obtain ⟨a, C, dx, fs, rfl, hH, ic, q⟩ := h
 obtain ⟨u, v, rfl, ru, rv⟩ := r.two
 cases (show v = Value.ref C from rv)
 exact isinst_ok I ru (TyOf.ins hH ic.cl ic.ha ic.hn ic.htk ic.hm) (by unfold PySem.W.kitOne; rw [if_pos (by simp)]) fun tk => ⟨.bl true, H, I.tok tk, rfl, q⟩
structure MkP (K : PySem.W.Frag) (C : Addr) : Prop where
 makes : PySem.W.makesIn K C = true
 init : PySem.W.findIn K (.ref C) "__init__" = some (some (.builtin "object.__init__"))
 kp : PySem.W.keepIn K (.ref C) = true
def tMakeP (C : Addr) : TE := fun _ H Q => ∀ x dx, H x = none → H dx = none → dx ≠ x → Q (.ref x) (upd (upd H dx (.own x)) x (.ins C dx []))
theorem pe_mkP {x : Str} {C : Addr} {p pos : Pos} (M : MkP X.K C) (hg : Gl X x) (hm : X.mg x = some (.ref C)) (hdb : (x == ("__debug__" : Str)) = false := by decide) : PE X (.Call (.Name x p) [] [] pos) (tMakeP C) := by
 intro pins s σ H Q I h
 refine wpAny_Call_Name_kw (ld_glob I hg hm ?_ hdb)
 refine PySem.W.callWith_K0 I.kIn M.kp ?_
 have hq := h (s.heap.objs.size + 1) s.heap.objs.size (I.hok.fresh (Nat.le_succ _)) (I.hok.fresh (Nat.le_refl _)) (Nat.ne_of_lt (Nat.lt_succ_self _))
 have I2 := Inv.made (C := C) I
 refine wpAny_call (make_map0 I.kIn M.makes M.init (fun self => PySem.W.Looks.of_pure (PySem.W.oi_bind self)) ?_)
 have Y := PySem.W.makes_of (M := model X.prog X.w) I.kIn M.makes
 have e2 : ((s.heap.push PySem.W.emptyDict).push (PySem.W.instObj C s.heap.objs.size)).get? (s.heap.objs.size + 1) = some (PySem.W.instObj C s.heap.objs.size) := by
  have := Heap.get?_push_size (s.heap.push PySem.W.emptyDict) (o := PySem.W.instObj C s.heap.objs.size) rfl
  rwa [Heap.size_push] at this
 have t1 : PySem.W.Looks (model X.prog X.w) ((s.heap.push PySem.W.emptyDict).push (PySem.W.instObj C s.heap.objs.size)) (typeOf (.ref (s.heap.objs.size + 1))) (.ref C) := (PySem.W.Looks.ld e2).andThen .now
 have t2 : PySem.W.Looks (model X.prog X.w) ((s.heap.push PySem.W.emptyDict).push (PySem.W.instObj C s.heap.objs.size)) (isInstance (.ref (s.heap.objs.size + 1)) (.type "object")) true := t1.andThen (Y.top.keeps fun b o e => Heap.get?_push_of_some _ (Heap.get?_push_of_some _ e))
 refine codeAny_call_builtin PySem.W.oi_plain PySem.W.entry_oi (PySem.W.check_slot (rest := []) (kw := []) PySem.W.oi_kind PySem.W.oi_split t2 (PySem.W.oi_args (.ref (s.heap.objs.size + 1))) ?_)
 rw [PySem.W.oi_run]
 exact wpAny_pure ⟨rfl, ⟨.ref (s.heap.objs.size + 1), _, I2, rfl, hq⟩⟩
end
end L2
namespace L2
open PySem PySem.Spec PyProof.Rows
section
variable {X : Cx}
end
end L2
namespace Stb
open PySem PyProof.Rows
def ky : Option Keyed → Int
 | some p => numOf p.1
 | none => 0
def iv : Option Keyed → Int
 | some p => numOf p.2
 | none => 0
theorem ky_K (xs : Array Keyed) (i : Nat) : K xs i = ky xs[i]? := by
 unfold K ky
 rfl
def Bf (a b : Option Keyed) : Prop := ky a < ky b ∨ (ky a = ky b ∧ iv a < iv b)
def Up (xs : Array Keyed) (k : Nat) : Prop := ∀ i j, i < j → j < k → Bf xs[i]? xs[j]?
def Dn (xs : Array Keyed) (k : Nat) : Prop := ∀ i j, i < j → j < k → Bf xs[j]? xs[i]?
def Rs (n : Nat) (xs : Array Keyed) (k : Nat) : Prop := ∀ i j, i < j → k ≤ j → j < n → iv xs[i]? < iv xs[j]?
def DnQ (xs : Array Keyed) (x q : Nat) : Prop := ∀ i j, i < j → j < x → if x - (q + 1) ≤ i then ky xs[i]? = ky xs[j]? ∧ iv xs[i]? < iv xs[j]? else if x - (q + 1) ≤ j then ky xs[j]? < ky xs[i]? else Bf xs[j]? xs[i]?
theorem Rs.mono {n k l : Nat} {xs : Array Keyed} (h : Rs n xs k) (e : k ≤ l) : Rs n xs l := fun i j h1 h2 h3 => h i j h1 (by omega) h3
theorem mir {xs : Array Keyed} {i j : Nat} (hj : j ≤ xs.size) (k : Nat) : (mirror xs i j ((j - i) / 2))[k]? = if i ≤ k ∧ k < j then xs[i + j - 1 - k]? else xs[k]? := getElem?_mirror_all hj k
theorem Rs.mir {n k : Nat} {xs : Array Keyed} (h : Rs n xs k) {a b : Nat} (hb : b ≤ xs.size) (hk : b ≤ k) : Rs n (mirror xs a b ((b - a) / 2)) k := fun i j h1 h2 h3 => by
 rw [Stb.mir hb, Stb.mir hb, if_neg (show ¬ (a ≤ j ∧ j < b) by omega)]
 by_cases c : a ≤ i ∧ i < b
 ·rw [if_pos c]
  exact h _ _ (by omega) h2 h3
 ·rw [if_neg c]
  exact h _ _ h1 h2 h3
theorem Dn.rev {xs : Array Keyed} {k : Nat} (h : Dn xs k) (hk : k ≤ xs.size) : Up (mirror xs 0 k ((k - 0) / 2)) k := fun i j h1 h2 => by
 rw [Stb.mir hk, Stb.mir hk, if_pos (by omega), if_pos (by omega)]
 exact h _ _ (by omega) (by omega)
theorem DnQ.zero {xs : Array Keyed} {x : Nat} (h : DnQ xs x 0) : Dn xs x := fun i j h1 h2 => by
 have z := h i j h1 h2
 rw [if_neg (by omega)] at z
 by_cases c : x - (0 + 1) ≤ j
 ·rw [if_pos c] at z
  exact .inl z
 ·rw [if_neg c] at z
  exact z
theorem DnQ.rev {xs : Array Keyed} {x q : Nat} (h : DnQ xs x q) (hx : x ≤ xs.size) : Dn (mirror xs (x - (q + 1)) x ((x - (x - (q + 1))) / 2)) x := fun i j h1 h2 => by
 rw [Stb.mir hx, Stb.mir hx]
 by_cases ci : x - (q + 1) ≤ i
 ·rw [if_pos (by omega), if_pos (by omega)]
  have z := h (x - (q + 1) + x - 1 - j) (x - (q + 1) + x - 1 - i) (by omega) (by omega)
  rw [if_pos (by omega)] at z
  exact .inr z
 ·rw [if_neg (show ¬ (x - (q + 1) ≤ i ∧ i < x) by omega)]
  by_cases cj : x - (q + 1) ≤ j
  ·rw [if_pos (show x - (q + 1) ≤ j ∧ j < x from ⟨cj, h2⟩)]
   have z := h i (x - (q + 1) + x - 1 - j) (by omega) (by omega)
   rw [if_neg ci, if_pos (by omega)] at z
   exact .inl z
  ·rw [if_neg (show ¬ (x - (q + 1) ≤ j ∧ j < x) by omega)]
   have z := h i j h1 h2
   rw [if_neg ci, if_neg cj] at z
   exact z
theorem Dn.le {xs : Array Keyed} {k : Nat} (h : Dn xs k) {i j : Nat} (h1 : i ≤ j) (h2 : j < k) : ky xs[j]? ≤ ky xs[i]? := by
 rcases Nat.lt_or_eq_of_le h1 with c | c
 ·rcases h i j c h2 with z | z <;> omega
 ·rw [c]; exact Int.le_refl _
theorem Up.le {xs : Array Keyed} {k : Nat} (h : Up xs k) {i j : Nat} (h1 : i ≤ j) (h2 : j < k) : ky xs[i]? ≤ ky xs[j]? := by
 rcases Nat.lt_or_eq_of_le h1 with c | c
 ·rcases h i j c h2 with z | z <;> omega
 ·rw [c]; exact Int.le_refl _
theorem Dn.snoc {xs : Array Keyed} {x : Nat} (h : Dn xs x) (hx : 0 < x) (c : ky xs[x]? < ky xs[x - 1]?) : DnQ xs (x + 1) 0 := fun i j h1 h2 => by
 rw [if_neg (by omega)]
 by_cases e : j = x
 ·subst e
  rw [if_pos (by omega)]
  have := h.le (i := i) (j := j - 1) (by omega) (by omega)
  omega
 ·rw [if_neg (by omega)]
  exact h i j h1 (by omega)
theorem Dn.one {xs : Array Keyed} : Dn xs 1 := fun i j h1 h2 => by omega
theorem Up.one {xs : Array Keyed} {k : Nat} (hk : k ≤ 1) : Up xs k := fun i j h1 h2 => by omega
section
variable {prog : Program} {w : World} {A : Around} {E : Value → Shared → Prop} {s : Shared} {b0 : Array Keyed}
theorem w_lt {st : SortSt} {i j : Nat} {Q : Option Bool → SortSt → Prop} (hB : SBase b0 st) (h0 : IntKeys b0) (hi : i < b0.size) (hj : j < b0.size)
  (h : Q (some (decide (ky (arrOf st)[i]? < ky (arrOf st)[j]?))) st) : wpS (model prog w) A E s (ltAt' i j) Q st := by
 refine wpS_ltK hB h0 hi hj ?_
 rw [ky_K, ky_K]
 exact h
theorem w_asc {st : SortSt} {a m : Nat} {Q : AscSt → SortSt → Prop} (h0 : IntKeys b0) (hm : m ≤ b0.size) (ha : 1 ≤ a) (ham : a ≤ m) (hB : SBase b0 st) (hs : Up (arrOf st) a) (hr : Rs b0.size (arrOf st) a)
  (h : ∀ n, a ≤ n → n ≤ m → Up (arrOf st) n → (n = m ∨ ky (arrOf st)[n]? < ky (arrOf st)[n - 1]?) → Q (none, n) st) : wpS (model prog w) A E s (ascLoop a m) Q st := by
 unfold ascLoop
 refine wpS_forRange (I := fun x c st1 => st1 = st ∧ c = (none, x) ∧ Up (arrOf st) x) ?go ?ends ⟨rfl, rfl, hs⟩
 case ends =>
  rintro c st1 ⟨rfl, rfl, u⟩
  rw [show max a m = m by omega] at u ⊢
  exact h m ham (Nat.le_refl _) u (.inl rfl)
 case go =>
  rintro x c st1 h1 h2 ⟨rfl, rfl, u⟩
  dsimp only
  refine wpS_bind (w_lt hB h0 (by omega) (by omega) ?_)
  by_cases z : ky (arrOf st1)[x]? < ky (arrOf st1)[x - 1]?
  ·simp only [z, decide_true, if_true]
   exact wpS_pure (h x h1 (by omega) u (.inr z))
  ·simp only [z, decide_false, Bool.false_eq_true, if_false]
   refine wpS_pure ⟨rfl, rfl, fun i j hij hj => ?_⟩
   by_cases c : j < x
   ·exact u i j hij c
   ·have e : j = x := by omega
    subst e
    have l := u.le (i := i) (j := j - 1) (by omega) (by omega)
    have r := hr i j hij (by omega) (by omega)
    by_cases q : ky (arrOf st1)[i]? < ky (arrOf st1)[j]?
    ·exact .inl q
    ·exact .inr ⟨by omega, r⟩
theorem w_t3 {st : SortSt} {n m : Nat} {Q : Option Nat → SortSt → Prop} (h0 : IntKeys b0) (hm : m ≤ b0.size) (h1 : 1 ≤ n) (hnm : n ≤ m) (hB : SBase b0 st) (hs : Dn (arrOf st) n) (hr : Rs b0.size (arrOf st) n)
  (h : ∀ k st1, SBase b0 st1 → 1 ≤ k → k ≤ m → Up (arrOf st1) k → Rs b0.size (arrOf st1) k → Q (some k) st1) : wpS (model prog w) A E s (tail3 n m) Q st := by
 unfold tail3
 have sz : n ≤ (arrOf st).size := by rw [hB.size]; omega
 refine wpS_bind (wpS_reverse ?_)
 have B1 : SBase b0 (setArr st (mirror (arrOf st) 0 n ((n - 0) / 2))) := hB.setArr (mirror_perm _ _ _ _)
 have R1 : Rs b0.size (mirror (arrOf st) 0 n ((n - 0) / 2)) n := hr.mir sz (Nat.le_refl _)
 exact wpS_bind (w_asc h0 hm h1 hnm B1 (hs.rev sz) R1 fun k k1 k2 u _ => wpS_pure (h k _ B1 (by omega) k2 u (R1.mono k1)))
theorem w_desc {st : SortSt} {n m : Nat} {Q : DescSt → SortSt → Prop} (h0 : IntKeys b0) (hm : m ≤ b0.size) (h1 : 1 ≤ n) (hnm : n ≤ m) (hB : SBase b0 st) (hs : DnQ (arrOf st) n 0) (hr : Rs b0.size (arrOf st) n)
  (h : ∀ k q st1, SBase b0 st1 → n ≤ k → k ≤ m → q + 1 ≤ k → DnQ (arrOf st1) k q → Rs b0.size (arrOf st1) k → Q (none, k, q) st1) : wpS (model prog w) A E s (descLoop n m) Q st := by
 unfold descLoop
 refine wpS_forRange (I := fun x c st1 => ∃ q, c = (none, x, q) ∧ SBase b0 st1 ∧ q + 1 ≤ x ∧ DnQ (arrOf st1) x q ∧ Rs b0.size (arrOf st1) x) ?go ?ends ⟨0, rfl, hB, by omega, hs, hr⟩
 case ends =>
  rintro c st1 ⟨q, rfl, B1, q1, d1, r1⟩
  rw [show max n m = m by omega] at q1 d1 r1 ⊢
  exact h m q st1 B1 hnm (Nat.le_refl _) q1 d1 r1
 case go =>
  rintro x c st1 hx1 hx2 ⟨q, rfl, B1, q1, d1, r1⟩
  dsimp only
  have sz : x ≤ (arrOf st1).size := by rw [B1.size]; omega
  refine wpS_bind (w_lt B1 h0 (by omega) (by omega) ?_)
  by_cases z : ky (arrOf st1)[x]? < ky (arrOf st1)[x - 1]?
  ·simp only [z, decide_true, if_true]
   by_cases zq : q > 0
   ·rw [if_pos zq]
    refine wpS_bind (wpS_reverse (wpS_pure ⟨0, rfl, B1.setArr (mirror_perm _ _ _ _), by omega, ?_, ?_⟩))
    ·refine (d1.rev sz).snoc (by omega) ?_
     rw [Stb.mir sz, Stb.mir sz, if_neg (by omega), if_pos (by omega)]
     have e := d1 (x - (q + 1)) (x - 1) (by omega) (by omega)
     rw [if_pos (Nat.le_refl _)] at e
     rw [show x - (q + 1) + x - 1 - (x - 1) = x - (q + 1) by omega]
     omega
    ·exact (r1.mir sz (Nat.le_refl _)).mono (by omega)
   ·rw [if_neg zq]
    have e : q = 0 := by omega
    subst e
    exact wpS_pure ⟨0, rfl, B1, by omega, d1.zero.snoc (by omega) z, r1.mono (by omega)⟩
  ·simp only [z, decide_false, Bool.false_eq_true, if_false]
   refine wpS_bind (w_lt B1 h0 (by omega) (by omega) ?_)
   by_cases y : ky (arrOf st1)[x - 1]? < ky (arrOf st1)[x]?
   ·simp only [y, decide_true, if_true]
    exact wpS_pure (h x q st1 B1 hx1 (by omega) q1 d1 r1)
   ·simp only [y, decide_false, Bool.false_eq_true, if_false]
    refine wpS_pure ⟨q + 1, rfl, B1, by omega, fun i j hij hj => ?_, r1.mono (by omega)⟩
    rw [show x + 1 - (q + 1 + 1) = x - (q + 1) by omega]
    by_cases c : j < x
    ·exact d1 i j hij c
    ·have e : j = x := by omega
     subst e
     have r := r1 i j hij (Nat.le_refl _) (by omega)
     by_cases c2 : j - (q + 1) ≤ i
     ·rw [if_pos c2]
      refine ⟨?_, r⟩
      by_cases c3 : i = j - 1
      ·rw [c3]; omega
      ·have e := d1 i (j - 1) (by omega) (by omega)
       rw [if_pos c2] at e
       omega
     ·rw [if_neg c2, if_pos (by omega)]
      have e := d1 i (j - 1) (by omega) (by omega)
      rw [if_neg c2, if_pos (by omega)] at e
      omega
theorem w_dpart {st : SortSt} {n m : Nat} {Q : Option Nat → SortSt → Prop} (h0 : IntKeys b0) (hm : m ≤ b0.size) (hnm : n + 1 ≤ m) (hB : SBase b0 st) (hs : DnQ (arrOf st) (n + 1) 0) (hr : Rs b0.size (arrOf st) (n + 1))
  (h : ∀ k st1, SBase b0 st1 → 1 ≤ k → k ≤ m → Up (arrOf st1) k → Rs b0.size (arrOf st1) k → Q (some k) st1) : wpS (model prog w) A E s (descPart n m) Q st := by
 unfold descPart
 refine wpS_bind (wpS_lift (wpAny_rule ⟨rfl, ?_⟩))
 refine wpS_bind (w_desc h0 hm (by omega) hnm hB hs hr fun k q st1 B1 k1 k2 q1 d1 r1 => ?_)
 dsimp only
 have sz : k ≤ (arrOf st1).size := by rw [B1.size]; omega
 by_cases zq : q > 0
 ·rw [if_pos zq]
  exact wpS_bind (wpS_reverse (w_t3 h0 hm (by omega) k2 (B1.setArr (mirror_perm _ _ _ _)) (d1.rev sz) (r1.mir sz (Nat.le_refl _)) h))
 ·rw [if_neg zq]
  have e : q = 0 := by omega
  subst e
  exact w_t3 h0 hm (by omega) k2 B1 d1.zero r1 h
theorem w_count {st : SortSt} {m : Nat} {Q : Option Nat → SortSt → Prop} (h0 : IntKeys b0) (hm : m ≤ b0.size) (h1 : 1 ≤ m) (hB : SBase b0 st) (hr : Rs b0.size (arrOf st) 1)
  (h : ∀ k st1, SBase b0 st1 → 1 ≤ k → k ≤ m → Up (arrOf st1) k → Rs b0.size (arrOf st1) k → Q (some k) st1) : wpS (model prog w) A E s (countRun' 0 m) Q st := by
 rw [countRun0_eq]
 refine wpS_bind (w_asc h0 hm (Nat.le_refl 1) h1 hB (Up.one (Nat.le_refl 1)) hr fun n n1 n2 u o => ?_)
 dsimp only
 by_cases e : n = m
 ·rw [if_pos (by simpa using e)]
  exact wpS_pure (h n st hB n1 n2 u (hr.mono n1))
 ·rw [if_neg (by simpa using e)]
  have lt := o.resolve_left e
  by_cases g : n > 1
  ·rw [if_pos g]
   refine wpS_bind (w_lt hB h0 (by omega) (by omega) ?_)
   by_cases z : ky (arrOf st)[0]? < ky (arrOf st)[n - 1]?
   ·simp only [z, decide_true, if_true]
    exact wpS_pure (h n st hB n1 n2 u (hr.mono n1))
   ·simp only [z, decide_false, Bool.false_eq_true, if_false]
    have sz : n ≤ (arrOf st).size := by rw [hB.size]; omega
    have all : ∀ k, k < n → ky (arrOf st)[k]? = ky (arrOf st)[n - 1]? := fun k hk => by
     have a1 := u.le (i := 0) (j := k) (by omega) hk
     have a2 := u.le (i := k) (j := n - 1) (by omega) (by omega)
     omega
    refine wpS_bind (wpS_reverse (w_dpart h0 hm (by omega) (hB.setArr (mirror_perm _ _ _ _)) ?_ ((hr.mono n1).mir sz (Nat.le_refl _) |>.mono (by omega)) h))
    have d : Dn (mirror (arrOf st) 0 n ((n - 0) / 2)) n := fun i j hij hj => by
     rw [Stb.mir sz, Stb.mir sz, if_pos (by omega), if_pos (by omega)]
     rcases u (0 + n - 1 - j) (0 + n - 1 - i) (by omega) (by omega) with q | q
     ·exact .inl q
     ·exact .inr q
    refine d.snoc (by omega) ?_
    rw [Stb.mir sz, Stb.mir sz, if_neg (by omega), if_pos (by omega), all (0 + n - 1 - (n - 1)) (by omega)]
    exact lt
  ·rw [if_neg g]
   have e1 : n = 1 := by omega
   subst e1
   exact w_dpart h0 hm (by omega) hB (Dn.one.snoc (by omega) lt) (hr.mono (by omega)) h
theorem bub {xs : Array Keyed} {src d : Nat} (hs : src < xs.size) (hd : d ≤ src) (k : Nat) : (bubble xs src d)[k]? = if k = src - d then xs[src]? else if src - d < k ∧ k ≤ src then xs[k - 1]? else xs[k]? := getElem?_bubble hs d hd k
theorem Up.put {xs : Array Keyed} {k l : Nat} (h : Up xs k) (hr : Rs xs.size xs k) (hk : k < xs.size) (hl : l ≤ k) (lo : ∀ i, i < l → ky xs[i]? ≤ ky xs[k]?) (hi : ∀ i, l ≤ i → i < k → ky xs[k]? < ky xs[i]?) : Up (bubble xs k (k - l)) (k + 1) := fun i j hij hj => by
 rw [bub hk (by omega), bub hk (by omega), show k - (k - l) = l by omega]
 by_cases c1 : j < l
 ·rw [if_neg (by omega), if_neg (by omega), if_neg (by omega), if_neg (by omega)]
  exact h i j hij (by omega)
 ·by_cases c2 : j = l
  ·rw [if_neg (by omega), if_neg (by omega), if_pos c2]
   have a := lo i (by omega)
   have r := hr i k (by omega) (Nat.le_refl _) hk
   by_cases q : ky xs[i]? < ky xs[k]?
   ·exact .inl q
   ·exact .inr ⟨by omega, r⟩
  ·rw [if_neg (show ¬ j = l from c2), if_pos (show l < j ∧ j ≤ k by omega)]
   by_cases c3 : i = l
   ·rw [if_pos c3]
    exact .inl (hi _ (by omega) (by omega))
   ·rw [if_neg c3]
    by_cases c4 : l < i
    ·rw [if_pos (by omega)]
     exact h _ _ (by omega) (by omega)
    ·rw [if_neg (by omega)]
     exact h _ _ (by omega) (by omega)
theorem Rs.put {xs : Array Keyed} {k l : Nat} (hr : Rs xs.size xs k) (hk : k < xs.size) (hl : l ≤ k) : Rs xs.size (bubble xs k (k - l)) (k + 1) := fun i j hij h1 h2 => by
 rw [bub hk (by omega), bub hk (by omega), show k - (k - l) = l by omega]
 rw [if_neg (show ¬ j = l by omega), if_neg (show ¬ (l < j ∧ j ≤ k) by omega)]
 by_cases c3 : i = l
 ·rw [if_pos c3]
  exact hr _ _ (by omega) (by omega) h2
 ·rw [if_neg c3]
  by_cases c4 : l < i ∧ i ≤ k
  ·rw [if_pos c4]
   exact hr _ _ (by omega) (by omega) h2
  ·rw [if_neg c4]
   exact hr _ _ hij (by omega) h2
theorem w_bin {st : SortSt} {n ok : Nat} {Q : Bool → SortSt → Prop} (h0 : IntKeys b0) (hn : n ≤ b0.size) (hok : ok ≤ n) (hB : SBase b0 st) (hs : Up (arrOf st) ok) (hr : Rs b0.size (arrOf st) (max ok 1))
  (h : ∀ st1, SBase b0 st1 → Up (arrOf st1) n → Q true st1) : wpS (model prog w) A E s (binarySort' 0 n ok) Q st := by
 rw [binarySort'_eq]
 simp only [Nat.zero_add]
 refine wpS_bind (wpS_mono (wpS_forRange (I := fun k c st1 => c = (none, ()) ∧ SBase b0 st1 ∧ Up (arrOf st1) (min k n) ∧ Rs b0.size (arrOf st1) k) (Q := fun c st1 => c = (none, ()) ∧ SBase b0 st1 ∧ Up (arrOf st1) n) ?go ?ends ?first) ?then_)
 case then_ =>
  rintro c st1 ⟨rfl, B1, u1⟩
  exact wpS_pure (h st1 B1 u1)
 case first =>
  refine ⟨rfl, hB, ?_, hr⟩
  by_cases z : ok = 0
  ·exact Up.one (by omega)
  ·rw [show min (max ok 1) n = ok by omega]
   exact hs
 case ends =>
  rintro c st1 ⟨hc, B1, u1, _⟩
  rw [show min (max (max ok 1) n) n = n by omega] at u1
  exact ⟨hc, B1, u1⟩
 case go =>
  rintro k c st1 hk1 hk2 ⟨rfl, B1, u1, r1⟩
  rw [show min k n = k by omega] at u1
  have hk : k < b0.size := by omega
  refine wpS_bind (wpS_mono (wpS_forRange (I := fun x c st2 => st2 = st1 ∧ ∃ l r, c = (none, l, r) ∧ l ≤ r ∧ r ≤ k ∧ r - l ≤ k - x ∧ (∀ i, i < l → ky (arrOf st1)[i]? ≤ ky (arrOf st1)[k]?) ∧ (∀ i, r ≤ i → i < k → ky (arrOf st1)[k]? < ky (arrOf st1)[i]?))
   (Q := fun c st2 => st2 = st1 ∧ ∃ l r, c = (none, l, r) ∧ l ≤ k ∧ (∀ i, i < l → ky (arrOf st1)[i]? ≤ ky (arrOf st1)[k]?) ∧ (∀ i, l ≤ i → i < k → ky (arrOf st1)[k]? < ky (arrOf st1)[i]?)) ?igo ?iends ?ifirst) ?ithen)
  case ifirst => exact ⟨rfl, 0, k, rfl, by omega, by omega, by omega, fun i hi => by omega, fun i a b => by omega⟩
  case iends =>
   rintro c st2 ⟨rfl, l, r, rfl, a1, a2, a3, lo, hi⟩
   have e : l = r := by omega
   subst e
   exact ⟨rfl, l, l, rfl, a2, lo, hi⟩
  case igo =>
   rintro x c st2 _ hx ⟨rfl, l, r, rfl, a1, a2, a3, lo, hi⟩
   dsimp only
   by_cases g : l ≥ r
   ·rw [if_pos g]
    have e : l = r := by omega
    subst e
    exact wpS_pure ⟨rfl, l, l, rfl, a2, lo, hi⟩
   ·rw [if_neg g]
    refine wpS_bind (w_lt B1 h0 hk (by omega) ?_)
    by_cases z : ky (arrOf st2)[k]? < ky (arrOf st2)[(l + r) / 2]?
    ·simp only [z, decide_true, if_true]
     refine wpS_pure ⟨rfl, l, (l + r) / 2, rfl, by omega, by omega, by omega, lo, fun i b1 b2 => ?_⟩
     have := u1.le b1 b2
     omega
    ·simp only [z, decide_false, Bool.false_eq_true, if_false]
     refine wpS_pure ⟨rfl, (l + r) / 2 + 1, r, rfl, by omega, by omega, by omega, fun i b1 => ?_, hi⟩
     have := u1.le (i := i) (j := (l + r) / 2) (by omega) (by omega)
     omega
  case ithen =>
   rintro c st2 ⟨rfl, l, r, rfl, a2, lo, hi⟩
   show wpS _ _ _ _ (do moveDown' k l; pure (ForInStep.yield (none, ()))) _ _
   rw [moveDown'_eq]
   have sz : (arrOf st2).size = b0.size := B1.size
   rw [← sz] at r1
   refine wpS_bind (wpS_modify (wpS_pure ⟨rfl, B1.setArr (bubble_perm _ _ _), ?_, ?_⟩))
   ·rw [show min (k + 1) n = k + 1 by omega]
    exact u1.put r1 (by omega) a2 lo hi
   ·have := r1.put (l := l) (by omega) a2
    rw [sz] at this
    exact this
def Fin2 (b0 : Array Keyed) (st : SortSt) : Prop := (arrOf st).Perm b0 ∧ failedOf st = none ∧ pendingOf st = #[(0, b0.size, 0)] ∧ Up (arrOf st) b0.size
theorem fin2 {st : SortSt} (hB : SBase b0 st) (hs : Up (arrOf st) b0.size) : Fin2 b0 (setPending st ((pendingOf st).push (0, b0.size, 0))) :=
 ⟨hB.perm, hB.failed, by show (pendingOf st).push _ = _; rw [hB.pend]; rfl, hs⟩
theorem w_runs {st : SortSt} {Q : Unit → SortSt → Prop} (h0 : IntKeys b0) (hB : SBase b0 st) (h2 : 2 ≤ b0.size) (h64 : b0.size < 64) (hr : Rs b0.size (arrOf st) 0)
  (h : ∀ st1, (arrOf st1).Perm b0 → failedOf st1 = none → Up (arrOf st1) b0.size → Q () st1) : wpS (model prog w) A E s sortRuns' Q st := by
 rw [sortRuns'_eq]
 refine wpS_bind (wpS_get ?_)
 dsimp only
 have mr : minRun' b0.size b0.size 0 = b0.size := by
  obtain ⟨f, hf⟩ : ∃ f, b0.size = f + 1 := ⟨b0.size - 1, by omega⟩
  have z : minRun' (f + 1) b0.size 0 = b0.size := by
   rw [minRun'_succ, if_pos h64]
   rfl
  rw [← hf] at z
  exact z
 simp only [hB.size, mr]
 refine wpS_bind (wpS_mono (wpS_forRange (I := fun x c st1 => (x = 0 ∧ c = (none, 0) ∧ SBase b0 st1 ∧ Rs b0.size (arrOf st1) 0) ∨ (1 ≤ x ∧ c = (none, b0.size) ∧ Fin2 b0 st1)) (Q := fun c st1 => c = (none, b0.size) ∧ Fin2 b0 st1) ?go ?ends (.inl ⟨rfl, rfl, hB, hr⟩)) ?then_)
 case ends =>
  rintro c st1 (⟨z, _⟩ | ⟨_, hc, d⟩)
  ·omega
  ·exact ⟨hc, d⟩
 case go =>
  rintro x c st1 _ hx (⟨rfl, rfl, B1, r1⟩ | ⟨_, rfl, d⟩)
  ·dsimp only
   rw [if_neg (by omega)]
   simp only [Nat.sub_zero, Nat.min_self, Nat.zero_add]
   refine wpS_bind (w_count h0 (Nat.le_refl _) (by omega) B1 (r1.mono (by omega)) fun k st2 B2 k1 k2 u2 r2 => ?_)
   dsimp only
   by_cases lt : k < b0.size
   ·rw [if_pos lt]
    refine wpS_bind (wpS_lift (wpAny_rule ⟨rfl, ?_⟩))
    refine wpS_bind (w_bin h0 (Nat.le_refl _) k2 B2 u2 (by rw [show max k 1 = k by omega]; exact r2) fun st3 B3 u3 => ?_)
    simp only [Bool.not_true, Bool.false_eq_true, if_false]
    refine wpS_bind (wpS_get ?_)
    have hb : (pendingOf st3).back? = none := by
     rw [B3.pend]
     rfl
    rw [hb]
    dsimp only
    exact wpS_bind (wpS_modify (wpS_pure (.inr ⟨by omega, rfl, fin2 B3 u3⟩)))
   ·rw [if_neg lt]
    have e : k = b0.size := by omega
    subst e
    refine wpS_bind (wpS_get ?_)
    have hb : (pendingOf st2).back? = none := by
     rw [B2.pend]
     rfl
    rw [hb]
    dsimp only
    exact wpS_bind (wpS_modify (wpS_pure (.inr ⟨by omega, rfl, fin2 B2 u2⟩)))
  ·dsimp only
   rw [if_pos (Nat.le_refl _)]
   exact wpS_pure ⟨rfl, d⟩
 case then_ =>
  rintro c st1 ⟨rfl, d⟩
  dsimp only
  refine wpS_bind (wpS_mono (wpS_forRange (I := fun _ c st2 => st2 = st1 ∧ c = (none, ())) (Q := fun c st2 => st2 = st1 ∧ c = (none, ())) ?_ (fun _ _ z => z) ⟨rfl, rfl⟩) ?_)
  ·rintro x c st2 _ _ ⟨rfl, rfl⟩
   refine wpS_bind (wpS_get ?_)
   rw [if_pos (by rw [d.2.2.1]; exact Nat.le_refl 1)]
   exact wpS_pure ⟨rfl, rfl⟩
  ·rintro c st2 ⟨rfl, rfl⟩
   exact wpS_pure (h _ d.1 d.2.1 d.2.2.2)
end
end Stb
namespace L2
open PySem PySem.Spec PyProof.Rows
def CodeO (c : Addr) (qual : Str) : HO := .ext fun h => h.CodeRec (.ref c) qual
def LamO (f : Addr) (qual : Str) (params : Arguments) (body : Expr) (scope : Scope) (c : Addr) (pm ctv : Value) : HO := .ext fun h => h.get? f = some (PySem.W.kla_obj "<lambda>" qual params body scope [] pm c ctv)
def BM (mg : Str → Option Value) (base : Heap) : Prop := ∃ bm ob, mg "__builtins__" = some (.ref bm) ∧ bm ≠ builtinsNs ∧ bm ≠ mainGlobals ∧ base.get? bm = some ob ∧ ob.cls = .type "module" ∧ ob.dict = some builtinsNs ∧ ob.data = .plain
theorem code_ok {P : Program} {w : World} {H : Hp} {h : Heap} {c : Addr} {qual : Str} (r : h.CodeRec (.ref c) qual) : ObjOk P w H h c (CodeO c qual) := by
 refine ⟨r, ?_, fun h1 h2 q k => ?_⟩
 ·obtain ⟨c', oc, vs, tq, e, ho, _⟩ := r
  cases e
  exact ⟨oc, ho⟩
 ·obtain ⟨c', oc, vs, tq, e, ho, r⟩ := q
  cases e
  exact ⟨c, oc, vs, tq, rfl, k _ ho, r⟩
theorem lam_ok {P : Program} {w : World} {H : Hp} {h : Heap} {f c : Addr} {qual : Str} {params : Arguments} {body : Expr} {scope : Scope} {pm ctv : Value} (e : h.get? f = some (PySem.W.kla_obj "<lambda>" qual params body scope [] pm c ctv)) :
  ObjOk P w H h f (LamO f qual params body scope c pm ctv) :=
 ⟨e, ⟨_, e⟩, fun _ _ e k => k _ e⟩
def tLam (P : Addr) (pos : Pos) (qual : Str) (params : Arguments) (body : Expr) (scope : Scope) : TE := fun _ H Q => ∃ ps, H P = some (.tbl ps) ∧ TriplesOk ps.toList ∧
  ((codeAmong pos ps.toList = none ∧ ∀ c f pm ctv, H c = none → H f = none → f ≠ c → Q (.ref f) (upd (upd (upd H P (.tbl (ps ++ #[rawInt pos.line, rawInt pos.col, .ref c]))) c (CodeO c qual)) f (LamO f qual params body scope c pm ctv))) ∨
   ∃ c, codeAmong pos ps.toList = some (.ref c) ∧ H c = some (CodeO c qual) ∧ ∀ f pm ctv, H f = none → Q (.ref f) (upd H f (LamO f qual params body scope c pm ctv)))
section
variable {X : Cx}
theorem pe_lam {params : Arguments} {body : Expr} {scope : Scope} {pos : Pos} {c P : Addr} (hcode : X.env.code = .ref c) (C : PySem.W.CodeHd X.base c P) (bm : BM X.mg X.base) (hcl : closureFor scope X.env = pure []) (hdef : defaultsOf params X.env = ([], []) := by rfl) :
  PE X (.Lambda params body scope pos) (tLam P pos (X.env.qual ++ "<lambda>") params body scope) := by
 intro pins s σ H Q I h
 obtain ⟨ps, hP, ht, h⟩ := h
 have eP : s.heap.get? P = some (PySem.W.tabObj ps) := I.hok P _ hP
 obtain ⟨bmA, ob, b1, b2, b3, b4, b5, b6, b7⟩ := bm
 have nP : ∀ b o, X.base.get? b = some o → b ≠ P := fun b o e z => by
  have := (I.bs b o e).2
  rw [z, hP] at this
  cases this
 have hgP : mainGlobals ≠ P := by
  obtain ⟨o, es, ep, e, _⟩ := I.mod.glob
  exact nP _ _ e
 have hb : s.heap.BuiltinsAt X.mg P := ⟨bmA, ob, b1, b2, b3, nP _ _ b4, I.bk _ _ b4, b5, b6, b7⟩
 refine PySem.W.kla_eval hdef ?_
 rcases h with ⟨hnf, k⟩ | ⟨c', hf, hc', k⟩
 ·refine PySem.W.kla_makeFunction (mg := X.mg) hcl I.ok.glob (I.mod.glob.keeps I.bk) hcode (C.keeps I.bk) eP ht hnf hgP hb fun c' ctv h' tk hx hge hlt hrec htb => ?_
  have sz : s.heap.objs.size ≤ h'.objs.size := Nat.le_trans hge (Nat.le_of_lt hlt)
  have fc : H c' = none := I.hok.fresh hge
  have ff : H h'.objs.size = none := I.hok.fresh sz
  have nfc : h'.objs.size ≠ c' := Nat.ne_of_gt hlt
  refine ⟨.ref h'.objs.size, _, ?_, rfl, k c' h'.objs.size ((X.mg "__name__").getD .none) ctv fc ff nfc⟩
  have keep3 : ∀ b o, b ≠ P → s.heap.get? b = some o → (h'.push (PySem.W.kla_obj "<lambda>" (X.env.qual ++ "<lambda>") params body scope [] ((X.mg "__name__").getD .none) c' ctv)).get? b = some o := fun b o hb e => Heap.get?_push_of_some _ (hx b o hb e)
  have neP : ∀ b, H b = none → b ≠ P := fun b n z => by
   rw [z, hP] at n
   cases n
  have pP : (h'.push (PySem.W.kla_obj "<lambda>" (X.env.qual ++ "<lambda>") params body scope [] ((X.mg "__name__").getD .none) c' ctv)).get? P = some (PySem.W.tabObj (ps ++ #[rawInt pos.line, rawInt pos.col, .ref c'])) := Heap.get?_push_of_some _ htb
  have nPc : P ≠ c' := ne_of_none hP fc
  have nPf : P ≠ h'.objs.size := ne_of_none hP ff
  have old : ∀ b u, H b = some u → b ≠ P → (upd (upd (upd H P (.tbl (ps ++ #[rawInt pos.line, rawInt pos.col, .ref c']))) c' (CodeO c' (X.env.qual ++ "<lambda>"))) h'.objs.size (LamO h'.objs.size (X.env.qual ++ "<lambda>") params body scope c' ((X.mg "__name__").getD .none) ctv)) b = some u := fun b u e hb => by
   rw [upd_ne (ne_of_none e ff), upd_ne (ne_of_none e fc), upd_ne hb]
   exact e
  refine I.un (t' := tk) ⟨fun b o e n _ _ => keep3 b o (neP b n) e, fun b o e n _ _ => ⟨o.slots, keep3 b o (neP b n) e⟩, fun b o e n _ => ?_, fun b o e _ => ?_, fun b xs e => old b _ e (ne_of e hP fun z => nomatch z), fun b ob u e => old b _ e (ne_of e hP fun z => nomatch z), fun b ps0 e => ?_⟩ fun b u e => ?_
  ·have lb : b < s.heap.objs.size := Heap.lt_size e
   rw [upd_ne (Nat.ne_of_lt (Nat.lt_of_lt_of_le lb sz)), upd_ne (Nat.ne_of_lt (Nat.lt_of_lt_of_le lb hge)), upd_ne (neP b n)]
   exact n
  ·by_cases hb : b = P
   ·rw [hb]
    exact ⟨_, pP⟩
   ·exact ⟨o, keep3 b o hb e⟩
  ·by_cases hb : b = P
   ·subst hb
    rw [hP] at e
    cases e
    exact ⟨#[rawInt pos.line, rawInt pos.col, .ref c'], by rw [upd_ne nPf, upd_ne nPc, upd_same]⟩
   ·exact ⟨#[], by rw [old b _ e hb]; simp⟩
  ·by_cases h1 : b = h'.objs.size
   ·subst h1
    rw [upd_same] at e
    cases e
    exact lam_ok (Heap.get?_push_size _ rfl)
   ·rw [upd_ne h1] at e
    by_cases h2 : b = c'
    ·subst h2
     rw [upd_same] at e
     cases e
     exact code_ok (hrec.keeps fun b o q => Heap.get?_push_of_some _ q)
    ·rw [upd_ne h2] at e
     by_cases h3 : b = P
     ·subst h3
      rw [upd_same] at e
      cases e
      exact pP
     ·rw [upd_ne h3] at e
      refine (I.hok b u e).stay (fun d v hd q => keep3 d v ?_ q) (fun d q => old d _ q (ne_of q hP fun z => nomatch z)) fun d ys q => old d _ q (ne_of q hP fun z => nomatch z)
      rcases hd with hd | hd
      ·rw [hd]
       exact h3
      ·exact ne_of hd hP fun z => nomatch z
 ·refine PySem.W.kla_makeFunctionHit (mg := X.mg) hcl I.ok.glob (I.mod.glob.keeps I.bk) hcode (C.keeps I.bk) eP ht hf hb fun ctv h' tk hk hsz => ?_
  exact ⟨.ref h'.objs.size, _, I.laid (a := h'.objs.size) (o := LamO h'.objs.size (X.env.qual ++ "<lambda>") params body scope c' ((X.mg "__name__").getD .none) ctv) (t' := tk) (fun b u e => Heap.get?_push_of_some _ (hk b u e)) hsz (lam_ok (Heap.get?_push_size _ rfl)), rfl, k _ _ _ (I.hok.fresh hsz)⟩
end
structure Lam where
 f : Addr
 c : Addr
 qual : Str
 params : Arguments
 body : Expr
 scope : Scope
 pm : Value
 ctv : Value
def Lam.At (l : Lam) (H : Hp) : Prop := H l.f = some (LamO l.f l.qual l.params l.body l.scope l.c l.pm l.ctv) ∧ H l.c = some (CodeO l.c l.qual)
def FnV (P : Program) (w : World) (K : PySem.W.Frag) (mg : Str → Option Value) (base : Heap) (k : Nat) (l : Lam) (n : Nat) (sp : Sp) : Prop :=
 ∀ (A : Around) (outer : List Env) (s : Shared) (H : Hp) (us : List Value) (vs : List V) (Q : VK), Room k A → Env0 P w K mg base A outer s H → l.At H → Vals vs us → vs.length = n → sp vs H Q E0 →
  codeAny (model P w) A (.call (.ref l.f) ⟨us, []⟩) (CR CX0 outer P w H s Q E0) s
theorem lam_fnV {P : Program} {w : World} {K : PySem.W.Frag} {mg : Str → Option Value} {base : Heap} {k : Nat} {l : Lam} {N ps : List Str} {sp : Sp} (S : FnScope N ps l.scope)
  (hb : ∀ us : List Value, us.length = ps.length → bindArgs (PySem.W.kla_fn "<lambda>" l.qual l.params l.body l.scope [] l.pm (.ref l.c) l.ctv) ⟨us, []⟩ = pure (ps.zip us))
  (hbody : ∀ (A : Around) (outer : List Env) (s : Shared) (H : Hp) (vs : List V) (Q : VK), Room k (A.deeper (PyProof.Rows.envOfC l.qual l.scope s.heap.objs.size l.f (.ref l.c))) → sp vs H Q E0 →
   ∃ t, PE (cxOf CX0 P w K mg base N l.qual l.scope l.f (.ref l.c) A outer s H E0).nox l.body t ∧ t (start N vs) H Q) :
  FnV P w K mg base (k + 1) l ps.length sp := by
 intro A outer s H us vs Q hr e0 hf r hl hsp
 obtain ⟨ho, _⟩ := (show ObjOk P w H s.heap l.f (LamO l.f l.qual l.params l.body l.scope l.c l.pm l.ctv) from e0.hok l.f _ hf.1)
 obtain ⟨hrec, _⟩ := (show ObjOk P w H s.heap l.c (CodeO l.c l.qual) from e0.hok l.c _ hf.2)
 have lim : s.heap.NoLimit := e0.mod.nolimit.keeps fun b o e => (e0.bs b o e).1
 have hkind : ∀ y ∈ ps.zip us, l.scope.names.lookup y.1 = some .local ∨ (l.scope.names.lookup y.1 = some .cell ∧ ((cellsFrom (s.heap.objs.size + 1) l.scope.names []).lookup y.1).isSome = true) := fun ⟨n, v⟩ hy => by
  rcases S.par n (List.of_mem_zip hy).1 with q | q
  ·exact .inl q
  ·exact .inr ⟨q, PySem.W.cellsFrom_some _ _ _ (.inl q)⟩
 refine PySem.W.kla_callFunE hr.depth ho rfl S.co S.gen rfl hrec ?_
 rw [hb us (by rw [← r.length]; exact hl)]
 refine wpAny_pure (wpAny_newFunctionEnv_cells S.kind hkind fun env he s1 x => ?_)
 subst he
 refine ⟨lim.keeps x.toInCall.keep, PySem.W.kla_codeExpr ?_⟩
 obtain ⟨t, ht, hq⟩ := hbody A outer s H vs Q (hr.deeper _) hsp
 have I : Inv (cxOf CX0 P w K mg base N l.qual l.scope l.f (.ref l.c) A outer s H E0) [] (start N vs) H s1 := inv_start S hr.hd e0 hl r x
 refine wpAny_mono (ht [] s1 (start N vs) H Q (I.wish _) hq) (fun u s' hs => ?_) fun _ _ z => False.elim z
 obtain ⟨v, H', J, rv, q⟩ := hs
 exact ⟨v, H', J.os, J.bare, J.base, J.hok, rv, q⟩
def tCallV (P : Program) (w : World) (K : PySem.W.Frag) (mg : Str → Option Value) (base : Heap) (k : Nat) (tf : TE) (t : TA) : TE := fun σ H Q => tf σ H fun x H1 => ∃ (l : Lam) (n : Nat) (sp : Sp), x = .ref l.f ∧ FnV P w K mg base k l n sp ∧ t σ H1 fun vs H2 => l.At H2 ∧ vs.length = n ∧ sp vs H2 Q E0
section
variable {X : Cx} {x : Str} {k : Nat} {e : Expr} {es : List Expr} {p pos : Pos} {t : TA} {tf : TE}
theorem pe_callV (hr : Room k X.A) (hf : PE X (.Name x p) tf) (ha : PA X (e :: es) t) (he : starEach (e :: es) X.env = (false, eval e X.env) :: starEach es X.env := by rfl) :
  PE X (.Call (.Name x p) (e :: es) [] pos) (tCallV X.prog X.w X.K X.mg X.base k tf t) := by
 intro pins s σ H Q I h
 refine wpAny_Call_Name_kw (thn (hf pins s σ H _ I h) fun fv s1 ⟨v, H1, I1, rv, l, n, sp, ev, hF, q1⟩ => ?_)
 subst ev
 cases (show fv = Value.ref l.f from rv)
 refine PyProof.Rows.callWith_def (o := PySem.W.kla_obj "<lambda>" l.qual l.params l.body l.scope [] l.pm l.c l.ctv) rfl (thn (ha pos pins s1 σ H1 _ I1 q1) fun us s2 ⟨vs, H2, I2, r2, hat, hn, q2⟩ => ?_) he
 obtain ⟨ho, _⟩ := (show ObjOk X.prog X.w H2 s2.heap l.f (LamO l.f l.qual l.params l.body l.scope l.c l.pm l.ctv) from I2.hok l.f _ hat.1)
 refine ⟨ho, wpAny_call (codeAny_mono (hF X.A X.stack s2 H2 us vs Q hr I2.env0 hat r2 hn q2) fun r s' hq => ?_)⟩
 cases r with
 | error e => exact False.elim hq
 | ok fl =>
  cases fl with
  | ret u => exact I2.after hq
  | next => exact False.elim hq
  | brk => exact False.elim hq
  | cont => exact False.elim hq
end
end L2
namespace L2
open PySem PySem.Spec PyProof.Rows
theorem law_callT {P : Program} {w : World} {K : PySem.W.Frag} {mg mb : Str → Option Value} {k : Nat} {fa a : Addr} {fd : FuncData} {x : Str} {sp : Sp} {s₁ : Shared} {vs : List Value} {ns : List Int} {tabs : List (Addr × Addr)}
  (KX : K.In s₁.heap) (hns : s₁.heap.Ns mainGlobals mg) (hb : s₁.heap.Ns builtinsNs mb) (hbb : ∀ x : Str, x ≠ "__name__" → mb x = bootBuiltins x) (hlim : s₁.heap.NoLimit) (hg : s₁.gens = #[])
  (ha : s₁.heap.get? a = some { cls := .type "list", data := .seq vs.toArray }) (hi : IntsAre vs ns) (hl : ns.length ≤ sizeLine) (hr : Room k callerA)
  (nt : PySem.W.noTabs K = true) (hT : ∀ t ∈ tabs, PySem.W.CodeHd s₁.heap t.1 t.2 ∧ s₁.heap.TableAt t.1 t.2 #[]) (hbm : BM mg s₁.heap)
  (F : ∀ base : Heap, K.In base → base.Ns mainGlobals mg → BM mg base → (∀ t ∈ tabs, PySem.W.CodeHd base t.1 t.2) → FnOk P w K mg base CX0 k fa fd [x] sp) (hbind : ∀ (s : Shared) (u : Value), BindsTo s fd ⟨[u], []⟩ [(x, u)])
  (hsp : ∀ H : Hp, SqL K H a (ns.map V.int) → (∀ t ∈ tabs, H t.2 = some (.tbl #[])) → sp [.ref a] H (fun v _ => v = .bl true) E0) :
  codeAny (model P w) callerA (.call (.ref fa) ⟨[.ref a], []⟩) (fun r s' => r = .ok (.ret (.bool true)) ∧ OldK s₁.heap s'.heap ∧ s'.os = s₁.os ∧ AllBare s'.gens) s₁ := by
 have rv := vals_ints hi
 have lenV := hi.length
 have tabAt : ∀ b ∈ tabs.map (·.2), ∃ c, (c, b) ∈ tabs ∧ s₁.heap.get? b = some (PySem.W.tabObj #[]) := fun b hb => by
  obtain ⟨t, ht, rfl⟩ := List.mem_map.mp hb
  exact ⟨t.1, ht, (hT t ht).2.2⟩
 have naT : a ∉ tabs.map (·.2) := fun z => by
  obtain ⟨c, _, e⟩ := tabAt a z
  rw [ha] at e
  cases e
 have core : ∀ sc : Option HO, (∀ u, sc = some u → u = .frz { cls := .type "list", data := .seq vs.toArray } (.lst (ns.map V.int)) ∧ K.lookup a = none) → SqL K (fun b => if b ∈ tabs.map (·.2) then some (.tbl #[]) else if b = a then sc else none) a (ns.map V.int) →
   codeAny (model P w) callerA (.call (.ref fa) ⟨[.ref a], []⟩) (fun r s' => r = .ok (.ret (.bool true)) ∧ OldK s₁.heap s'.heap ∧ s'.os = s₁.os ∧ AllBare s'.gens) s₁ := by
  intro sc hsc hS
  have hH : ∀ b u, (fun b => if b ∈ tabs.map (·.2) then some (HO.tbl #[]) else if b = a then sc else none) b = some u → (b ∈ tabs.map (·.2) ∧ u = .tbl #[]) ∨ (b = a ∧ sc = some u) := fun b u e => by
   have e' : (if b ∈ tabs.map (·.2) then some (HO.tbl #[]) else if b = a then sc else none) = some u := e
   by_cases h1 : b ∈ tabs.map (·.2)
   ·rw [if_pos h1] at e'
    exact .inl ⟨h1, (Option.some.inj e').symm⟩
   ·rw [if_neg h1] at e'
    by_cases h2 : b = a
    ·rw [if_pos h2] at e'
     exact .inr ⟨h2, e'⟩
    ·rw [if_neg h2] at e'
     cases e'
  have hTt : ∀ t ∈ tabs, (fun b => if b ∈ tabs.map (·.2) then some (HO.tbl #[]) else if b = a then sc else none) t.2 = some (.tbl #[]) := fun t ht => if_pos (List.mem_map_of_mem ht)
  generalize (fun b => if b ∈ tabs.map (·.2) then some (HO.tbl #[]) else if b = a then sc else none) = H at hS hH hTt
  have hok : HOk P w H s₁.heap := fun b u e => by
   rcases hH b u e with ⟨h1, rfl⟩ | ⟨rfl, h2⟩
   ·obtain ⟨_, _, e⟩ := tabAt b h1
    exact e
   ·obtain ⟨rfl, _⟩ := hsc u h2
    exact ⟨ha, by rw [List.length_map]; exact hl, vs, _, rv, ha⟩
  have none_of : ∀ {b : Addr} {o : Obj}, s₁.heap.get? b = some o → o.cls ≠ .none → o.cls ≠ .type "list" → H b = none := fun {b o} e h1 h2 => by
   cases q : H b with
   | none => rfl
   | some u =>
    rcases hH b u q with ⟨h3, _⟩ | ⟨rfl, _⟩
    ·obtain ⟨_, _, e'⟩ := tabAt b h3
     rw [e] at e'
     cases e'
     exact absurd rfl h1
    ·rw [e] at ha
     cases ha
     exact absurd rfl h2
  have base_of : ∀ {b : Addr} {o : Obj}, s₁.heap.get? b = some o → H b = none → (hidT s₁.heap H).get? b = some o := fun e n => hidT_get e n
  have noD : ∀ {b : Addr} {o : Obj} {es : Array DictEntry} {ep : Nat}, s₁.heap.get? b = some o → o.data = .dict es ep → H b = none := fun {b o es ep} e d => by
   cases q : H b with
   | none => rfl
   | some u =>
    rcases hH b u q with ⟨h3, _⟩ | ⟨rfl, _⟩
    ·obtain ⟨_, _, e'⟩ := tabAt b h3
     rw [e] at e'
     cases e'
     cases d
    ·rw [e] at ha
     cases ha
     cases d
  have nsK : ∀ {b : Addr} {m : Str → Option Value}, s₁.heap.Ns b m → (hidT s₁.heap H).Ns b m := fun {b m} ⟨o, es, ep, e, d, r⟩ => ⟨o, es, ep, base_of e (noD e d), d, r⟩
  have hKb : K.In (hidT s₁.heap H) := fun b o e => base_of (KX b o e) (by
   cases q : H b with
   | none => rfl
   | some u =>
    rcases hH b u q with ⟨h3, _⟩ | ⟨rfl, h4⟩
    ·obtain ⟨_, _, e'⟩ := tabAt b h3
     rw [KX b o e] at e'
     cases e'
     have h2 := List.all_eq_true.mp nt (b, _) (PySem.W.mem_of_lookupK e)
     exact absurd (show false = true from h2) Bool.false_ne_true
    ·rw [(hsc u h4).2] at e
     cases e)
  have hM : Mod K mg (hidT s₁.heap H) := ⟨hKb, nsK hns, ⟨mb, nsK hb, hbb⟩, let ⟨mc, h1, h2⟩ := hlim; ⟨mc, nsK h1, h2⟩⟩
  have hBM : BM mg (hidT s₁.heap H) := by
   obtain ⟨bm, ob, b1, b2, b3, b4, b5, b6, b7⟩ := hbm
   exact ⟨bm, ob, b1, b2, b3, base_of b4 (none_of b4 (by rw [b5]; exact fun z => nomatch z) (by rw [b5]; decide)), b5, b6, b7⟩
  have hCd : ∀ t ∈ tabs, PySem.W.CodeHd (hidT s₁.heap H) t.1 t.2 := fun t ht => by
   obtain ⟨o, vs, file, tf, flags, tg, inF, text, tt, e, hc, r⟩ := (hT t ht).1
   exact ⟨o, vs, file, tf, flags, tg, inF, text, tt, base_of e (none_of e (by rw [hc]; exact fun z => nomatch z) (by rw [hc]; decide)), hc, r⟩
  have e0 : Env0 P w K mg (hidT s₁.heap H) callerA [] s₁ H := ⟨rfl, hM, fun b o e => of_hidT e, Nat.le_of_eq (hidT_size _ _), trivial, fun b hb => absurd (show b ∈ ([] : List Addr) from hb) (by simp), hok, .of_eq hg⟩
  refine codeAny_mono ((F _ hKb (nsK hns) hBM hCd).run callerA [] s₁ H ⟨[.ref a], []⟩ [.ref a] [.ref a] _ _ hr e0 (hbind s₁ (.ref a)) (.cons rfl .nil) (hsp H hS hTt)) fun r s' h => ?_
  cases r with
  | error e => exact False.elim h
  | ok fl =>
   cases fl with
   | next => exact False.elim h
   | brk => exact False.elim h
   | cont => exact False.elim h
   | ret u =>
    obtain ⟨v, H', os, bare, un, hok', r', q⟩ := h
    have q' : v = .bl true := q
    subst q'
    obtain rfl : u = Value.bool true := r'
    have kept : ∀ b o, s₁.heap.get? b = some o → b ∉ tabs.map (·.2) → s'.heap.get? b = some o := fun b o e hbT => by
     cases q : H b with
     | none => exact un.keep b o e q (by intro z; exact absurd (show b ∈ ([] : List Addr) from z) (by simp)) (by simp)
     | some u =>
      rcases hH b u q with ⟨h3, _⟩ | ⟨_, h4⟩
      ·exact absurd h3 hbT
      ·obtain ⟨rfl, _⟩ := hsc u h4
       have z2 := un.frzs b _ _ q
       obtain ⟨e1, _⟩ := hok b _ q
       obtain ⟨e2, _⟩ := hok' b _ z2
       rw [e] at e1
       cases e1
       exact e2
    have grown : ∀ t ∈ tabs, ∃ more, s'.heap.get? t.2 = some (PySem.W.tabObj (#[] ++ more)) := fun t ht => by
     obtain ⟨more, z⟩ := un.tbls t.2 #[] (hTt t ht)
     exact ⟨more, hok' t.2 _ z⟩
    refine ⟨rfl, ⟨fun b o e => ?_, fun b o e => ?_⟩, os, bare⟩
    ·by_cases hbT : b ∈ tabs.map (·.2)
     ·obtain ⟨t, ht, rfl⟩ := List.mem_map.mp hbT
      obtain ⟨more, z⟩ := grown t ht
      have e' := (hT t ht).2.2
      rw [e] at e'
      cases e'
      exact .inr (.inl ⟨(hT t ht).2.isCodeTable, rfl, #[], more, rfl, z⟩)
     ·exact .inl (kept b o e hbT)
    ·by_cases hbT : b ∈ tabs.map (·.2)
     ·obtain ⟨t, ht, rfl⟩ := List.mem_map.mp hbT
      obtain ⟨more, z⟩ := grown t ht
      exact ⟨_, z⟩
     ·exact ⟨o, kept b o e hbT⟩
 cases hk : K.lookup a with
 | some o =>
  have e := KX a o hk
  rw [ha] at e
  cases e
  exact core none (fun _ z => nomatch z) (.inr ⟨_, vs.toArray, _, hk, rfl, rfl, rfl, by rw [List.size_toArray, lenV]; exact hl, by simpa using rv⟩)
 | none =>
  refine core (some (.frz { cls := .type "list", data := .seq vs.toArray } (.lst (ns.map V.int)))) (fun u z => ⟨(Option.some.inj z).symm, hk⟩) (.inl (.inr ⟨{ cls := .type "list", data := .seq vs.toArray }, ?_⟩))
  show (if a ∈ tabs.map (·.2) then _ else if a = a then _ else _) = _
  rw [if_neg naT, if_pos rfl]
theorem walk_ofT {l : PySem.W.OpenLaw} {n k : Nat} {q : Program} {loose : List Str} {XP : (Str → Option Value) → Heap → Prop} {YP : World → Heap → Prop} {d : DefRec} {K : Params → PySem.W.Frag} {x : Str}
  (hn : l.most = some n) (hn2 : n ≤ sizeLine) (hdf : d.params.defaults = []) (hr : Room k callerA)
  (hY : ∀ (w : World) (h : Heap), YP w h → (K w.params).In h)
  (F : ∀ (w : World) (mg : Str → Option Value) (fa : Addr) (h : Heap), (K w.params).In h → h.Ns mainGlobals mg → mg d.name = some (.ref fa) →
   ∃ (tabs : List (Addr × Addr)) (fd : FuncData) (sp : Sp), (∀ t ∈ tabs, ∃ (y : Str) (e : DefRec), (recsOf q).find? (fun e => e.name == y) = some e ∧ PySem.W.tabIn (K w.params) y = some t) ∧ PySem.W.noTabs (K w.params) = true ∧ (∀ (s : Shared) (u : Value), BindsTo s fd ⟨[u], []⟩ [(x, u)]) ∧
    (∀ base : Heap, (K w.params).In base → base.Ns mainGlobals mg → BM mg base → (∀ t ∈ tabs, PySem.W.CodeHd base t.1 t.2) → FnOk l.prog w (K w.params) mg base CX0 k fa fd [x] sp) ∧
    ∀ (H : Hp) (a : Addr) (ns : List Int), ns.length ≤ n → SqL (K w.params) H a (ns.map V.int) → (∀ t ∈ tabs, H t.2 = some (.tbl #[])) → sp [.ref a] H (fun v _ => v = .bl true) E0) :
  PySem.W.WalkO q loose XP YP l.row.toRowW d [] (fun f vs => PySem.call f vs) := by
 refine Att.attach_call hn hdf fun w s₀ s₁ mg mb fa o pm cd doc a vs ns G Y ho hd hcd hmg hobj hints hlen hg => ?_
 have KX := hY w _ Y
 obtain ⟨tabs, fd, sp, hT, nt, hb, hF, hS⟩ := F w mg fa _ KX G.T.g hmg
 have hT' : ∀ t ∈ tabs, PySem.W.CodeHd s₁.heap t.1 t.2 ∧ s₁.heap.TableAt t.1 t.2 #[] := fun t ht => by
  obtain ⟨y, e, h1, h2⟩ := hT t ht
  have z := PySem.W.tab_of (c := t.1) (P := t.2) G.T KX h1 h2
  exact ⟨z.1, z.1.tab z.2⟩
 have hbm : BM mg s₁.heap := by
  obtain ⟨bm, ob, b1, b2, b3, b4, b5, b6⟩ := G.T.bmain
  refine ⟨bm, ob, b1, b2, fun z => ?_, b3, b4, b5, b6⟩
  obtain ⟨o, es, ep, e, hd, _⟩ := G.T.g
  rw [z, e] at b3
  cases b3
  rw [hd] at b6
  cases b6
 exact law_callT KX G.T.g G.T.b G.T.builtins G.T.nolimit hg hobj hints (Nat.le_trans hlen hn2) hr nt hT' hbm hF hb fun H hq ht => hS H a ns hlen hq ht
end L2
namespace L2
open PySem PySem.Spec PyProof.Rows
def envL (qual : Str) (scope : Scope) (L f : Addr) (cd : Value) (x y : Str) (c : Addr) : Env :=
 { scope := scope, locals := L, globals := mainGlobals, cells := [(x, L + 1), (y, c)], qual := qual ++ ".<locals>.", func := some f, code := cd, frame := some L, builtins := builtinsNs }
structure LamSc (x y z : Str) (sc : Scope) : Prop where
 kind : sc.kind = .function
 co : sc.isCoroutine = false
 gen : sc.isGenerator = false
 names : sc.names = [(x, .cell), (y, .free), (z, .globalImplicit)]
 ne : x ≠ y
theorem LamSc.kx {x y z : Str} {sc : Scope} (S : LamSc x y z sc) : sc.names.lookup x = some .cell := by
 rw [S.names]
 simp [List.lookup]
theorem LamSc.ky {x y z : Str} {sc : Scope} (S : LamSc x y z sc) : sc.names.lookup y = some .free := by
 rw [S.names]
 have : (y == x) = false := beq_eq_false_iff_ne.mpr S.ne.symm
 simp [List.lookup, this]
theorem LamSc.only {x y z n : Str} {sc : Scope} (S : LamSc x y z sc) (h : sc.names.lookup n = some .cell ∨ sc.names.lookup n = some .free ∨ sc.names.lookup n = some .local) : n = x ∨ n = y := by
 rw [S.names] at h
 simp only [List.lookup] at h
 by_cases h1 : n = x
 ·exact .inl h1
 ·by_cases h2 : n = y
  ·exact .inr h2
  ·have e1 : (n == x) = false := beq_eq_false_iff_ne.mpr h1
   have e2 : (n == y) = false := beq_eq_false_iff_ne.mpr h2
   rw [e1, e2] at h
   dsimp only at h
   cases e3 : (n == z) with
   | true => rw [e3] at h; simp at h
   | false => rw [e3] at h; simp at h
theorem envL_x {qual x y : Str} {sc : Scope} {L f c : Addr} {cd : Value} : (envL qual sc L f cd x y c).cells.lookup x = some (L + 1) := by
 show List.lookup x [(x, L + 1), (y, c)] = _
 simp [List.lookup]
theorem envL_y {qual x y : Str} {sc : Scope} {L f c : Addr} {cd : Value} (h : x ≠ y) : (envL qual sc L f cd x y c).cells.lookup y = some c := by
 show List.lookup y [(x, L + 1), (y, c)] = _
 have : (y == x) = false := beq_eq_false_iff_ne.mpr h.symm
 simp [List.lookup, this]
theorem envL_in {qual x y n : Str} {sc : Scope} {L f c d : Addr} {cd : Value} (h : (envL qual sc L f cd x y c).cells.lookup n = some d) : (n = x ∧ d = L + 1) ∨ (n = y ∧ d = c) := by
 have h' : List.lookup n [(x, L + 1), (y, c)] = some d := h
 simp only [List.lookup] at h'
 cases e1 : (n == x) with
 | true =>
  rw [e1] at h'
  exact .inl ⟨beq_iff_eq.mp e1, (Option.some.inj h').symm⟩
 | false =>
  rw [e1] at h'
  cases e2 : (n == y) with
  | true =>
   rw [e2] at h'
   exact .inr ⟨beq_iff_eq.mp e2, (Option.some.inj h').symm⟩
  | false =>
   rw [e2] at h'
   cases h'
theorem env_lam {M : Model} {A : Around} {E : Value → Shared → Prop} {s : Shared} {x y z qual : Str} {sc : Scope} {f c : Addr} {cd v : Value} {Q : Env → Shared → Prop} (S : LamSc x y z sc)
  (h : ∀ h1 : Heap, (∀ b o, s.heap.get? b = some o → h1.get? b = some o) → h1.Ns s.heap.objs.size (fun _ => none) → h1.IsCell (s.heap.objs.size + 1) (some v) → Q (envL qual sc s.heap.objs.size f cd x y c) { s with heap := h1 }) :
  wpAny M A (newFunctionEnv sc mainGlobals [(y, c)] [(x, v)] (qual ++ ".<locals>.") (some f) cd none builtinsNs) Q E s := by
 unfold newFunctionEnv
 simp only [Option.isSome_none, Bool.false_eq_true, if_false]
 refine wpAny_bind (wpAny_alloc ?_)
 refine wpAny_bind (wpAny_layCells _ (fun nm kd cs => by cases q : kd == NameKind.cell <;> simp [q]) _ _ _ _ ?_)
 have ec : ∀ n : Nat, cellsFrom n sc.names [(y, c)] = [(x, n), (y, c)] := fun n => by
  rw [S.names]
  rfl
 have ep : ∀ hp : Heap, pushCells hp sc.names = hp.push { cls := .type "cell", data := .cell none } := fun hp => by
  rw [S.names]
  rfl
 rw [ec, ep]
 dsimp only
 rw [Heap.size_push]
 refine wpAny_bind ?_
 rw [List.forIn_cons]
 refine wpAny_bind (wpAny_bind (wpAny_storeName_cell (env := envL qual sc s.heap.objs.size f cd x y c) (c := s.heap.objs.size + 1) (v₀ := none) S.kind S.kx envL_x ?_ fun h' hc hs => ?_))
 ·show Heap.IsCell ((s.heap.push { cls := .type "frame", data := .dict #[] }).push { cls := .type "cell", data := .cell none }) (s.heap.objs.size + 1) none
  rw [← Heap.size_push s.heap { cls := .type "frame", data := .dict #[] }]
  exact ⟨_, Heap.get?_push_size _ rfl, rfl⟩
 ·refine wpAny_pure ?_
  dsimp only
  rw [List.forIn_nil]
  refine wpAny_pure (wpAny_pure (h h' (fun b o e => ?_) ?_ hc))
  ·exact hs.extBut b o (Nat.ne_of_lt (Nat.lt_succ_of_lt (Heap.lt_size e))) (Heap.get?_push_of_some _ (Heap.get?_push_of_some _ e))
  ·exact ((Heap.Ns.new s.heap (.type "frame")).keeps fun b o e => Heap.get?_push_of_some _ e).sameBut hs (Nat.ne_of_lt (Nat.lt_succ_self _))
def cxL (P : Program) (w : World) (K : PySem.W.Frag) (mg : Str → Option Value) (base : Heap) (qual : Str) (scope : Scope) (f : Addr) (cd : Value) (x y : Str) (c : Addr) (A : Around) (outer : List Env) (s : Shared) (H : Hp) : Cx where
 prog := P
 w := w
 K := K
 mg := mg
 base := base
 A := A.deeper (envL qual scope s.heap.objs.size f cd x y c)
 N := [x, y]
 s₀ := s
 H₀ := H
 env := envL qual scope s.heap.objs.size f cd x y c
 outer := outer
 stack := envL qual scope s.heap.objs.size f cd x y c :: outer
 ex := []
 calm := true
 fn := fun n => n == x
 pn := []
 xe := fun _ _ => False
theorem lam_callL {P : Program} {w : World} {K : PySem.W.Frag} {mg : Str → Option Value} {base : Heap} {k : Nat} {x y z qual : Str} {params : Arguments} {body : Expr} {scope : Scope} {f c cc : Addr} {pm ctv u uy : Value} {vx vy : V} {A : Around} {outer : List Env} {s : Shared} {H : Hp} {Q : VK}
  (S : LamSc x y z scope) (hb : bindArgs (PySem.W.kla_fn "<lambda>" qual params body scope [(y, c)] pm (.ref cc) ctv) ⟨[u], []⟩ = pure [(x, u)]) (hr : Room (k + 1) A) (e0 : Env0 P w K mg base A outer s H)
  (ho : s.heap.get? f = some (PySem.W.kla_obj "<lambda>" qual params body scope [(y, c)] pm cc ctv)) (hrec : s.heap.CodeRec (.ref cc) qual) (hcell : s.heap.IsCell c (some uy)) (hcN : H c = none) (rx : RelV vx u) (ry : RelV vy uy)
  (hbody : ∃ t, PE (cxL P w K mg base qual scope f (.ref cc) x y c A outer s H) body t ∧ t [some vx, some vy] H Q) :
  codeAny (model P w) A (.call (.ref f) ⟨[u], []⟩) (CR CX0 outer P w H s Q E0) s := by
 have lim : s.heap.NoLimit := e0.mod.nolimit.keeps fun b o e => (e0.bs b o e).1
 refine PySem.W.kla_callFunE hr.depth ho rfl S.co S.gen rfl hrec ?_
 rw [hb]
 refine wpAny_pure (env_lam S fun h1 hk hn hc => ⟨lim.keeps hk, PySem.W.kla_codeExpr ?_⟩)
 obtain ⟨t, ht, hq⟩ := hbody
 have cl : c < s.heap.objs.size := hcell.lt
 have I : Inv (cxL P w K mg base qual scope f (.ref cc) x y c A outer s H) [] [some vx, some vy] H { s with heap := h1 } := by
  have noA : ∀ b : Addr, b ∉ (cxL P w K mg base qual scope f (.ref cc) x y c A outer s H).ex := fun b z => absurd (show b ∈ ([] : List Addr) from z) (by simp)
  refine ⟨⟨e0.mod, S.kind, rfl, rfl, Nat.le_refl _, fun n1 n2 d h1 h2 => ?_, fun n hn => ?_, fun n d hf h => ?_, fun _ => hr.hd, Around.frames_deeper e0.frames, .inr ⟨rfl, rfl⟩, fun b z => absurd z (noA b), e0.bs, e0.bsz, fun b _ _ => noA b, fun b z => absurd z (noA b), e0.funs, e0.frf⟩,
   rfl, e0.bare, Un.kept hk, ⟨_, hn, fun i n v h1 h2 h3 => ?_⟩, fun n d h => ?_, e0.hok.fresh (Nat.le_refl _), fun n d h => ?_, fun p hp => absurd (show p ∈ ([] : List (Addr × Obj)) from hp) (by simp), e0.hok.kept hk, rfl⟩
  ·rcases envL_in h1 with ⟨a1, a2⟩ | ⟨a1, a2⟩ <;> rcases envL_in h2 with ⟨b1, b2⟩ | ⟨b1, b2⟩
   ·rw [a1, b1]
   ·exact absurd (a2.symm.trans b2) (Nat.ne_of_gt (Nat.lt_succ_of_lt cl))
   ·exact absurd (b2.symm.trans a2) (Nat.ne_of_gt (Nat.lt_succ_of_lt cl))
   ·rw [a1, b1]
  ·have hn' : scope.names.lookup n = some .cell ∨ scope.names.lookup n = some .free := hn
   rcases S.only (n := n) (by rcases hn' with q | q; exact .inl q; exact .inr (.inl q)) with e | e
   ·rw [e]; exact ⟨_, envL_x⟩
   ·rw [e]; exact ⟨_, envL_y S.ne⟩
  ·have hf' : (n == x) = true := hf
   have e := beq_iff_eq.mp hf'
   rw [e] at h
   rcases envL_in h with ⟨_, b⟩ | ⟨b, _⟩
   ·rw [b]; exact Nat.le_succ _
   ·exact absurd b S.ne
  ·have h1' : [x, y][i]? = some n := h1
   match i, h1', h2 with
   | 0, e1, e2 =>
    cases e1
    cases e2
    exact ⟨u, rx, .inr ⟨.inl S.kx, _, envL_x, hc⟩⟩
   | 1, e1, e2 =>
    cases e1
    cases e2
    exact ⟨uy, ry, .inr ⟨.inr S.ky, _, envL_y S.ne, hcell.keeps hk⟩⟩
  ·rcases envL_in h with ⟨_, b⟩ | ⟨_, b⟩
   ·rw [b]; exact ⟨_, hc⟩
   ·rw [b]; exact ⟨_, hcell.keeps hk⟩
  ·rcases envL_in h with ⟨_, b⟩ | ⟨_, b⟩
   ·rw [b]; exact e0.hok.fresh (Nat.le_succ _)
   ·rw [b]; exact hcN
 refine wpAny_mono (ht [] _ _ H Q I hq) (fun r s' hs => ?_) fun _ _ z => False.elim z
 obtain ⟨v, H', J, rv, q⟩ := hs
 exact ⟨v, H', J.os, J.bare, J.base, J.hok, rv, q⟩
end L2
namespace L2
open PySem PySem.Spec PyProof.Rows
section
variable {X : Cx}
theorem pe_rng {a : Expr} {ta : TA} {p pos : Pos} (hg : Gl X "range") (hm : X.mg "range" = none) (ha : PA X [a] ta) (hs : starEach [a] X.env = [(false, eval a X.env)] := by rfl) :
  PE X (.Call (.Name "range" p) [a] [] pos) (fun σ H Q => ta σ H fun vs H1 => ∃ j : Nat, vs = [.int j] ∧ j ≤ 1000 ∧ ∀ p, H1 p = none → Q (.ref p) (upd H1 p (.rng 0 j))) := by
 intro pins s σ H Q I h
 refine Call_ (ld_blt I hg hm boot_range (PyProof.Rows.callWith_type1 (thn (ha pos pins s σ H _ I h) fun us s1 ⟨vs, H1, I1, r1, q1⟩ => ?_) hs rfl))
 obtain ⟨j, e, _, q⟩ := q1
 subst e
 cases r1 with
 | cons r rr =>
  cases rr
  obtain ⟨t, rfl⟩ := r
  refine call_range_1 ?_
  exact ⟨.ref s1.heap.objs.size, _, I1.laid (a := s1.heap.objs.size) (o := .rng 0 j) (fun b u e => Heap.get?_push_of_some _ e) (Nat.le_refl _) ⟨_, _, _, Heap.get?_push_size _ rfl⟩, rfl, q _ (I1.hok.fresh (Nat.le_refl _))⟩
def upTo (n : Nat) : List V := (List.range n).map fun i => V.int (i : Nat)
theorem paired_of {α β : Type} {R : α → β → Prop} : ∀ {xs : List α} {ys : List β}, xs.length = ys.length → (∀ (i : Nat) (x : α) (y : β), xs[i]? = some x → ys[i]? = some y → R x y) → Paired R xs ys
 | [], [], _, _ => .nil
 | x :: xs, y :: ys, hl, h => .cons (h 0 x y rfl rfl) (paired_of (Nat.succ.inj hl) fun i a b e1 e2 => h (i + 1) a b (by simpa using e1) (by simpa using e2))
theorem upTo_get {n i : Nat} {x : V} (h : (upTo n)[i]? = some x) : i < n ∧ x = .int (i : Nat) := by
 unfold upTo at h
 rw [List.getElem?_map] at h
 by_cases c : i < n
 ·rw [List.getElem?_range c] at h
  exact ⟨c, (Option.some.inj h).symm⟩
 ·rw [List.getElem?_eq_none (by rw [List.length_range]; omega)] at h
  cases h
theorem upTo_len (n : Nat) : (upTo n).length = n := by
 unfold upTo
 rw [List.length_map, List.length_range]
theorem items_vals {n : Nat} {acc : Array Value} (h : ItemsOf (fun i v => ∃ t, v = .int (0 + (i : Int) * 1) t) acc n) : Vals (upTo n) acc.toList := by
 refine paired_of (by rw [upTo_len, Array.length_toList, h.1]) fun i x v e1 e2 => ?_
 obtain ⟨_, rfl⟩ := upTo_get e1
 obtain ⟨t, rfl⟩ := h.2 i v (by rw [Array.getElem?_toList] at e2; exact e2)
 exact ⟨t, by simp⟩
def RngR (s : Shared) (j : Nat) (q : Result) (s1 : Shared) : Prop := ∃ h' tk acc c, q = .ok (.ret (.ref s.heap.objs.size)) ∧ s1 = { s with heap := h', toks := tk } ∧ (∀ b o, s.heap.get? b = some o → h'.get? b = some o) ∧ h'.get? s.heap.objs.size = some { cls := .type "list", dict := none, data := .seq acc c, slots := #[] } ∧ Vals (upTo j) acc.toList
theorem collect_rng {prog : Program} {w : World} {A : Around} {E : Value → Shared → Prop} {s : Shared} {r : Addr} {j : Nat} {t u v : Tok} {Q : List Value → Shared → Prop} (hh : A.handled = none) (hr : s.heap.get? r = some { cls := .type "range", data := .fields #[.int 0 t, .int j u, .int 1 v] }) (hj : j ≤ 1000)
  (h : ∀ (h' : Heap) (tk : Nat) (acc : Array Value), (∀ b o, s.heap.get? b = some o → h'.get? b = some o) → Vals (upTo j) acc.toList → s.heap.objs.size < h'.objs.size → Q acc.toList { s with heap := h', toks := tk }) : wpAny (model prog w) A (collect (.ref r)) Q E s := by
 unfold collect
 refine wpAny_bind (wpAny_runValue (codeAny_builtin entry_proto_collect' ?_))
 show wpAny _ _ (do again (.builtin "list.__iadd__" ⟨[← newList [], .ref r], []⟩)) _ _ s
 have hS : (s.heap.push (seqObj "list" #[] 0)).get? s.heap.objs.size = some { cls := .type "list", data := .seq #[] 0 } := Heap.get?_push_size _ rfl
 refine wpAny_bind (wpAny_newList (wpAny_pure ⟨Code.quiet_builtin _ (by decide +kernel), codeAny_mono (R := RngR s j) (codeAny_builtin entry_list_iadd' ?_) fun q s1 h1 => ?_⟩))
 ·show wpAny _ _ (Builtin.List.listExtendWith (.ref s.heap.objs.size) (.ref r) (.ref s.heap.objs.size)) _ _ { s with heap := s.heap.push (seqObj "list" #[] 0) }
  rw [Around.under_plainId PySem.F.plain_list_iadd _]
  exact wpAny_extend_range (A := A) (R := RngR s j) (s := { s with heap := s.heap.push (seqObj "list" #[] 0) }) hh (Heap.get?_push_of_some _ hr) (small_one (by decide) (by decide) (by omega) (by omega)) (n := j) (by rw [rangeSize_one]; split <;> omega) (Nat.le_trans hj (by decide)) s.heap.objs.size (.ref s.heap.objs.size) 0 hS fun h' tk acc c hk hS' hi =>
   ⟨h', tk, acc, c, rfl, rfl, fun b o e => hk b o (Nat.ne_of_lt (Heap.lt_size e)) (Heap.get?_push_of_some _ e), hS', items_vals hi⟩
 ·obtain ⟨h', tk, acc, c, rfl, rfl, hk, hS', hi⟩ := h1
  show wpAny (model prog w) A (load s.heap.objs.size >>= _) Q E _
  refine wpAny_bind (wpAny_load hS' ?_)
  exact wpAny_pure (h h' tk acc hk hi (Heap.lt_size hS'))
end
end L2
namespace L2
open PySem PySem.Spec PyProof.Rows
theorem un_side {fs : List Addr} {H H' : Hp} {h0 h1 h2 : Heap} {k : Addr} (u : Un fs [] H H' h0 h1) (n : h0.get? k = none) (s : Heap.SameBut k h1 h2) : Un fs [] H H' h0 h2 := by
 have ne : ∀ b o, h0.get? b = some o → b ≠ k := fun b o e z => by rw [z, n] at e; cases e
 refine ⟨fun b o e e1 e2 e3 => (s.2 b (ne b o e)).trans (u.keep b o e e1 e2 e3), fun b o e e1 e2 e3 => ?_, u.free, fun b o e e1 => ?_, u.tups, u.frzs, u.tbls⟩
 ·obtain ⟨sl, q⟩ := u.slot b o e e1 e2 e3
  exact ⟨sl, (s.2 b (ne b o e)).trans q⟩
 ·obtain ⟨o', q⟩ := u.there b o e e1
  exact ⟨o', (s.2 b (ne b o e)).trans q⟩
theorem hok_side {P : Program} {w : World} {H : Hp} {h1 h2 : Heap} {k : Addr} (x : HOk P w H h1) (n : H k = none) (s : Heap.SameBut k h1 h2) : HOk P w H h2 := fun a o e =>
 (x a o e).stay (fun b u hb q => (s.2 b (fun z => by
  rw [z] at hb
  rcases hb with hb | hb
  ·rw [← hb, n] at e; cases e
  ·rw [n] at hb; cases hb)).trans q) (fun _ q => q) fun _ _ q => q
def Stab (kz : List Int) (a b : Int) : Prop := kz.getD a.toNat 0 < kz.getD b.toNat 0 ∨ (kz.getD a.toNat 0 = kz.getD b.toNat 0 ∧ a < b)
theorem zip_get {kz : List Int} {ks : List Value} {acc : List Value} {n : Nat} (hk : IntsAre ks kz) (hv : Vals (upTo n) acc) (hl : kz.length = n) {p : Keyed} {i : Nat} (h : (ks.zip acc)[i]? = some p) : i < n ∧ numOf p.2 = (i : Int) ∧ numOf p.1 = kz.getD i 0 := by
 rw [List.getElem?_zip_eq_some] at h
 obtain ⟨h1, h2⟩ := h
 have li : i < ks.length := (List.getElem?_eq_some_iff.mp h1).1
 have lk := hk.length
 have hi : i < n := by omega
 have e2 : (upTo n)[i]? = some (.int (i : Nat)) := by
  unfold upTo
  rw [List.getElem?_map, List.getElem?_range hi]
  rfl
 obtain ⟨u, e3, t, e4⟩ := hv.get e2
 rw [h2] at e3
 cases e3
 refine ⟨hi, by rw [e4]; rfl, ?_⟩
 have nm := hk.nums
 rw [← nm, List.getD_eq_getElem?_getD, List.getElem?_map, h1]
 rfl
theorem zip_rs {kz : List Int} {ks acc : Array Value} {n : Nat} (hk : IntsAre ks.toList kz) (hv : Vals (upTo n) acc.toList) (hl : kz.length = n) : Stb.Rs (ks.zip acc).size (ks.zip acc) 0 := fun i j hij _ hj => by
 have e : ∀ m, m < (ks.zip acc).size → Stb.iv (ks.zip acc)[m]? = (m : Int) := fun m hm => by
  have q : (ks.zip acc)[m]? = some (ks.zip acc)[m] := getElem?_pos _ m hm
  have q2 : (ks.toList.zip acc.toList)[m]? = some (ks.zip acc)[m] := by rw [← Array.toList_zip, Array.getElem?_toList]; exact q
  rw [q]
  exact (zip_get hk hv hl q2).2.1
 rw [e i (by omega), e j hj]
 omega
theorem srt_out {kz : List Int} {ks acc : Array Value} {n : Nat} (hk : IntsAre ks.toList kz) (hv : Vals (upTo n) acc.toList) (hl : kz.length = n) {xs : Array Keyed} (hp : xs.Perm (ks.zip acc)) (hs : Stb.Up xs (ks.zip acc).size) :
  ∃ ord : List Int, Vals (ord.map V.int) (xs.map (·.2)).toList ∧ ord.Perm ((List.range n).map fun i : Nat => (i : Int)) ∧ ord.Pairwise (Stab kz) := by
 have lz : (ks.zip acc).toList = ks.toList.zip acc.toList := Array.toList_zip ..
 have pl : xs.toList.Perm (ks.toList.zip acc.toList) := by rw [← lz]; exact Array.perm_iff_toList_perm.mp hp
 have mem : ∀ p ∈ xs.toList, ∃ i t : Nat, i < n ∧ p.2 = .int i t ∧ numOf p.1 = kz.getD i 0 := fun p h => by
  obtain ⟨i, hi⟩ := List.mem_iff_getElem?.mp (pl.mem_iff.mp h)
  obtain ⟨a, b, c⟩ := zip_get hk hv hl hi
  have h2 := (List.getElem?_zip_eq_some.mp hi).2
  have e2 : (upTo n)[i]? = some (.int (i : Nat)) := by
   unfold upTo
   rw [List.getElem?_map, List.getElem?_range a]
   rfl
  obtain ⟨u, e3, t, e4⟩ := hv.get e2
  rw [h2] at e3
  cases e3
  exact ⟨i, t, a, e4, c⟩
 refine ⟨xs.toList.map fun p => numOf p.2, ?_, ?_, ?_⟩
 ·rw [Array.toList_map, List.map_map]
  refine paired_of (by rw [List.length_map, List.length_map]) fun i x v e1 e2 => ?_
  rw [List.getElem?_map] at e1 e2
  cases q : xs.toList[i]? with
  | none => rw [q] at e1; cases e1
  | some p =>
   rw [q] at e1 e2
   cases e1
   cases e2
   obtain ⟨m, t, _, e, _⟩ := mem p (List.mem_of_getElem? q)
   show RelV (.int (numOf p.2)) p.2
   rw [e]
   exact ⟨t, rfl⟩
 ·refine (pl.map _).trans (List.Perm.of_eq ?_)
  refine List.ext_getElem? fun i => ?_
  rw [List.getElem?_map]
  have lk := hk.length
  have lv := hv.length
  rw [upTo_len] at lv
  by_cases c : i < n
  ·have hi : i < (ks.toList.zip acc.toList).length := by rw [List.length_zip]; omega
   rw [List.getElem?_eq_getElem hi, List.getElem?_map, List.getElem?_range c]
   exact congrArg some (zip_get hk hv hl (List.getElem?_eq_getElem hi)).2.1
  ·rw [List.getElem?_eq_none (by rw [List.length_zip]; omega), List.getElem?_eq_none (by rw [List.length_map, List.length_range]; omega)]
   rfl
 ·rw [List.pairwise_map, List.pairwise_iff_getElem]
  intro i j hi hj hij
  have sz := hp.size_eq
  have hi' : i < xs.size := by rw [Array.length_toList] at hi; exact hi
  have hj' : j < xs.size := by rw [Array.length_toList] at hj; exact hj
  have b := hs i j hij (by omega)
  rw [getElem?_pos xs i hi', getElem?_pos xs j hj'] at b
  obtain ⟨m1, t1, a1, a2, a3⟩ := mem xs[i] (by rw [← Array.getElem_toList]; exact List.getElem_mem _)
  obtain ⟨m2, t2, b1, b2, b3⟩ := mem xs[j] (by rw [← Array.getElem_toList]; exact List.getElem_mem _)
  have b' : numOf xs[i].1 < numOf xs[j].1 ∨ (numOf xs[i].1 = numOf xs[j].1 ∧ numOf xs[i].2 < numOf xs[j].2) := b
  show Stab kz (numOf xs.toList[i].2) (numOf xs.toList[j].2)
  rw [Array.getElem_toList, Array.getElem_toList]
  unfold Stab
  have e1 : numOf xs[i].2 = (m1 : Int) := by rw [a2]; rfl
  have e2 : numOf xs[j].2 = (m2 : Int) := by rw [b2]; rfl
  rw [e1, e2, Int.toNat_natCast, Int.toNat_natCast, ← a3, ← b3]
  rw [e1, e2] at b'
  exact b'
structure InS (X : Cx) (H : Hp) (s : Shared) (T : Hp → Prop) (a kS : Addr) (xs ys : Array Value) (e e1 : Nat) (H' : Hp) (s' : Shared) : Prop where
 os : s'.os = s.os
 bare : AllBare s'.gens
 un : Un (frs X.stack) [] H H' s.heap s'.heap
 hok : HOk X.prog X.w H' s'.heap
 t : T H'
 kk : s'.heap.get? kS = some (seqObj "list" xs e)
 kn : H' kS = none
 aa : s'.heap.get? a = some (seqObj "list" ys e1)
 an : H' a = none
def OutS (X : Cx) (H : Hp) (s : Shared) (T : Hp → Prop) (a : Addr) (kz : List Int) (n : Nat) (s' : Shared) : Prop := ∃ (H' : Hp) (out : Array Value) (c : Nat) (ord : List Int), s'.os = s.os ∧ AllBare s'.gens ∧ Un (frs X.stack) [] H H' s.heap s'.heap ∧ HOk X.prog X.w H' s'.heap ∧ T H' ∧ s'.heap.get? a = some (seqObj "list" out c) ∧ H' a = none ∧ Vals (ord.map V.int) out.toList ∧ ord.Perm ((List.range n).map fun i : Nat => (i : Int)) ∧ ord.Pairwise (Stab kz)
section
variable {X : Cx} {pins : List (Addr × Obj)} {σ : St} {H H' : Hp} {s s' : Shared} {T : Hp → Prop} {a kS f : Addr} {e e1 n : Nat} {kz : List Int} {ks acc : Array Value} {B : Around} {E : Value → Shared → Prop} {Pq : PySem.Fin → Shared → Prop}
theorem srt_tail {st : SortSt} (I : InS X H s T a kS ks #[] e e1 H' s') (na : s.heap.get? a = none) (nk : s.heap.get? kS = none) (ne : kS ≠ a) (hk : IntsAre ks.toList kz) (hv : Vals (upTo n) acc.toList) (hl : kz.length = n) (n64 : n < 64) (hp : (arrOf st).Perm (ks.zip acc)) (hs : Stb.Up (arrOf st) (ks.zip acc).size) (hf : failedOf st = none)
  (h : ∀ s2, OutS X H s T a kz n s2 → Pq (.done (.ret .none)) s2) : wpAny (model X.prog X.w) B (ksk_tail a false e1 (.ref kS) st) Pq E s' := by
 have lk := hk.length
 have lv := hv.length
 rw [upTo_len, Array.length_toList] at lv
 rw [Array.length_toList] at lk
 have sz : (arrOf st).size = n := by rw [hp.size_eq, Array.size_zip]; omega
 have s1 := Heap.SameBut.update s'.heap kS (Obj.mapSeq fun _ => (#[] : Array Value))
 have aa1 : (s'.heap.update kS (Obj.mapSeq fun _ => (#[] : Array Value))).get? a = some (seqObj "list" #[] e1) := (s1.2 a ne.symm).trans I.aa
 have s2 := Heap.SameBut.update (s'.heap.update kS (Obj.mapSeq fun _ => (#[] : Array Value))) a (Obj.mapSeq fun _ => (arrOf st).map (·.2))
 obtain ⟨ord, o1, o2, o3⟩ := srt_out hk hv hl hp hs
 unfold ksk_tail
 dsimp only
 refine wpAny_bind (listUpdate_at I.kk rfl ?_ (by rw [sizeLine_eq]; omega) (Nat.zero_le _))
 refine wpAny_bind (wpAny_letGo ?_)
 refine wpAny_bind (seqEpoch_at aa1 rfl ?_)
 refine wpAny_bind (listUpdate_at aa1 rfl ?_ (Nat.zero_le _) (by show ((arrOf st).map (·.2)).size ≤ _; rw [Array.size_map, sz, sizeLine_eq]; omega))
 rw [hf]
 simp only [bne_self_eq_false, Bool.false_eq_true, if_false]
 refine wpAny_pure (h _ ⟨H', _, _, ord, I.os, I.bare, un_side (un_side I.un nk s1) na s2, hok_side (hok_side I.hok I.kn s1) I.an s2, I.t, get?_update_seq aa1 fun _ => (arrOf st).map (·.2), I.an, o1, o2, o3⟩)
theorem srt_end (I : InS X H s T a kS ks #[] e e1 H' s') (na : s.heap.get? a = none) (nk : s.heap.get? kS = none) (ne : kS ≠ a) (hk : IntsAre ks.toList kz) (hv : Vals (upTo n) acc.toList) (hl : kz.length = n) (n64 : n < 64)
  (h : ∀ s2, OutS X H s T a kz n s2 → Pq (.done (.ret .none)) s2) : wpAny (model X.prog X.w) B (ksk_end a false acc e1 (.ref kS) ks) Pq E s' := by
 have lk := hk.length
 have lv := hv.length
 rw [upTo_len, Array.length_toList] at lv
 rw [Array.length_toList] at lk
 have zs : (ks.zip acc).size = n := by rw [Array.size_zip]; omega
 have ik : IntKeys (ks.zip acc) := fun p hp => by
  rw [Array.toList_zip] at hp
  obtain ⟨x, y⟩ := p
  exact hk.all _ (List.of_mem_zip hp).1
 unfold ksk_end
 dsimp only
 simp only [Bool.false_eq_true, if_false]
 by_cases c : acc.size < 2
 ·rw [if_pos c, if_pos c]
  refine wpAny_bind (wpAny_pure ?_)
  rw [StateT.run_pure]
  refine wpAny_bind (wpAny_pure ?_)
  dsimp only
  exact srt_tail (st := SortSt.mk' general' (ks.zip acc) #[] 7 none) I na nk ne hk hv hl n64 (Array.Perm.refl _) (Stb.Up.one (by omega)) rfl h
 ·rw [if_neg c, if_neg c, ksk_kind hk (by omega)]
  refine wpAny_bind (wpAny_pure ?_)
  refine wpAny_bind (wpAny_mono (Stb.w_runs (b0 := ks.zip acc) (st := SortSt.mk' oneType' (ks.zip acc) #[] 7 none) (Q := fun _ st' => (arrOf st').Perm (ks.zip acc) ∧ failedOf st' = none ∧ Stb.Up (arrOf st') (ks.zip acc).size) ik ⟨Array.Perm.refl _, rfl, rfl, rfl⟩ (by omega) (by omega) (zip_rs hk hv hl) fun st' a1 a2 a3 => ⟨a1, a2, a3⟩) ?_ fun _ _ z => z)
  rintro ⟨⟨⟩, st'⟩ s2 ⟨rfl, a1, a2, a3⟩
  dsimp only
  exact srt_tail I na nk ne hk hv hl n64 a1 a3 a2 h
def TurnS (X : Cx) (H : Hp) (s : Shared) (T : Hp → Prop) (f : Addr) (kz : List Int) : Prop := ∀ (i : Nat) (t : Tok) (key : Int) (H' : Hp) (s' : Shared), kz[i]? = some key → T H' → Env0 X.prog X.w X.K X.mg X.base X.A.in1.in1 X.stack s' H' → Un (frs X.stack) [] H H' s.heap s'.heap →
 codeAny (model X.prog X.w) X.A.in1.in1 (.call (.ref f) ⟨[.int i t], []⟩) (CR CX0 X.stack X.prog X.w H' s' (fun v H'' => v = .int key ∧ T H'') E0) s'
theorem srt_rest (J : Inv X pins σ H s) (tn : TurnS X H s T f kz) (I : InS X H s T a kS #[] #[] e e1 H' s') (na : s.heap.get? a = none) (nk : s.heap.get? kS = none) (ne : kS ≠ a) (hv : Vals (upTo n) acc.toList) (hl : kz.length = n) (n64 : n < 64)
  (h : ∀ s2, OutS X H s T a kz n s2 → Pq (.done (.ret .none)) s2) : wpAny (model X.prog X.w) X.A.in1.in1 (ksk_rest a (.ref f) false acc e1 (.ref kS)) Pq E s' := by
 have lv := hv.length
 rw [upTo_len, Array.length_toList] at lv
 have fr : ∀ b, s.heap.get? b = none → b ∉ frs X.stack := fun b nb hb => by
  obtain ⟨_, o, ho, _⟩ := J.stack.mem hb
  rw [nb] at ho
  cases ho
 unfold ksk_rest
 refine wpAny_bind (wpAny_rule ?_)
 rw [← Array.forIn_toList]
 refine wpAny_bind (ksk_fold (fun i s2 => ∃ (H2 : Hp) (kA : Array Value) (e2 : Nat), InS X H s T a kS kA #[] e2 e1 H2 s2 ∧ IntsAre kA.toList (kz.take i)) acc.toList 0 s' ⟨H', #[], e, I, by simpa using IntsAre.nil⟩ ?go ?ends)
 case go =>
  rintro j x s2 hx ⟨H2, kA, e2, I2, hk⟩
  simp only [Nat.zero_add] at hk ⊢
  have hj : j < acc.size := by
   have := (List.getElem?_eq_some_iff.mp hx).1
   rw [Array.length_toList] at this
   exact this
  obtain ⟨key, hkj⟩ : ∃ key, kz[j]? = some key := ⟨_, List.getElem?_eq_getElem (by omega)⟩
  have e3 : (upTo n)[j]? = some (.int (j : Nat)) := by
   unfold upTo
   rw [List.getElem?_map, List.getElem?_range (by omega)]
   rfl
  obtain ⟨u, e4, t, e5⟩ := hv.get e3
  rw [hx] at e4
  cases e4
  subst e5
  have J2 : Inv X pins σ H2 s2 := J.call' I2.os I2.un I2.hok I2.bare (fun b z => nomatch z)
  have E2 := J2.env0
  have zk : kA.size ≤ n := by
   have := hk.length
   rw [Array.length_toList, List.length_take] at this
   omega
  refine wpAny_bind (wpAny_attempt (wpAny_call (codeAny_mono (tn j t key H2 s2 hkj I2.t ⟨E2.frames, E2.mod, E2.bs, E2.bsz, E2.funs, E2.frf, E2.hok, E2.bare⟩ I2.un) fun r s3 q => ?_)))
  cases r with
  | error _ => exact False.elim q
  | ok fl =>
   cases fl with
   | next => exact False.elim q
   | brk => exact False.elim q
   | cont => exact False.elim q
   | ret u =>
    obtain ⟨v, H3, os, bare, un, hok, rv, ev, t3⟩ := q
    subst ev
    obtain ⟨t', rfl⟩ := rv
    have kk := un.keep kS _ I2.kk I2.kn (fr _ nk) (by simp)
    have aa := un.keep a _ I2.aa I2.an (fr _ na) (by simp)
    have kn := un.free kS _ I2.kk I2.kn (by simp)
    have an := un.free a _ I2.aa I2.an (by simp)
    have s1 := Heap.SameBut.update s3.heap kS (Obj.mapSeq (·.push (.int key t')))
    have ek : kz.take (j + 1) = kz.take j ++ [key] := by
     rw [List.take_add_one, hkj]
     rfl
    have ea : (kA.push (Value.int key t')).toList = kA.toList ++ [Value.int key t'] := by simp
    dsimp only
    refine wpAny_bind (listUpdate_at kk rfl ?_ (by rw [sizeLine_eq]; omega) (Nat.le_trans (Nat.le_of_eq (Array.size_push ..)) (by rw [sizeLine_eq]; omega)))
    refine wpAny_pure ⟨rfl, H3, kA.push (.int key t'), _, ⟨os.trans I2.os, bare, un_side (I2.un.trans un) nk s1, hok_side hok kn s1, t3, get?_update_seq kk (·.push (.int key t')), kn, (s1.2 a ne.symm).trans aa, an⟩, ?_⟩
    rw [ea, ek]
    exact ksk_snoc hk
 case ends =>
  rintro s2 ⟨H2, kA, e2, I2, hk⟩
  have e3 : kz.take (0 + acc.toList.length) = kz := List.take_of_length_le (by have : acc.toList.length = acc.size := Array.length_toList ..; omega)
  rw [e3] at hk
  refine wpAny_bind (listItems_at I2.kk rfl ?_)
  exact srt_end I2 na nk ne hk hv hl n64 h
end
end L2
namespace L2
open PySem PySem.Spec PyProof.Rows
section
variable {X : Cx} {pins : List (Addr × Obj)} {σ : St} {H H' : Hp} {s s' : Shared} {T : Hp → Prop} {a kS f : Addr} {n : Nat} {kz : List Int}
theorem out_ep {Q : VK} (J : Inv X pins σ H s) (na : s.heap.get? a = none) (o : OutS X H s T a kz n s') (n64 : n < 64)
  (q : ∀ (l : Addr) (H' : Hp) (ord : List Int), T H' → H' l = none → ord.Perm ((List.range n).map fun i : Nat => (i : Int)) → ord.Pairwise (Stab kz) → Q (.ref l) (upd H' l (.lst (ord.map V.int)))) : EP X pins σ Q (.ref a) s' := by
 obtain ⟨H1, out, c, ord, os, bare, un, hok, t, aa, an, vs, op, ow⟩ := o
 have ne : ∀ b o, H1 b = some o → b ≠ a := fun b o e z => by rw [z, an] at e; cases e
 have ns : ∀ b o, s.heap.get? b = some o → b ≠ a := fun b o e z => by rw [z, na] at e; cases e
 have lo : ord.length ≤ 64 := by rw [op.length_eq, List.length_map, List.length_range]; omega
 refine ⟨.ref a, upd H1 a (.lst (ord.map V.int)), J.call' os ⟨un.keep, un.slot, fun b o e n1 n2 => ?_, un.there, fun b xs e => ?_, fun b o u e => ?_, fun b ps e => ?_⟩ (fun b o e => ?_) bare (fun b z => nomatch z), rfl, q a H1 ord t an op ow⟩
 ·rw [upd_ne (ns b o e)]
  exact un.free b o e n1 n2
 ·have z := un.tups b xs e
  rw [upd_ne (ne b _ z)]
  exact z
 ·have z := un.frzs b o u e
  rw [upd_ne (ne b _ z)]
  exact z
 ·obtain ⟨more, z⟩ := un.tbls b ps e
  exact ⟨more, by rw [upd_ne (ne b _ z)]; exact z⟩
 ·by_cases z : b = a
  ·subst z
   rw [upd_same] at e
   cases e
   exact ⟨by rw [List.length_map]; exact Nat.le_trans lo (by decide), out.toList, c, vs, aa⟩
  ·rw [upd_ne z] at e
   exact (hok b o e).stay (fun _ _ _ q => q) (fun d q => by rw [upd_ne (ne d _ q)]; exact q) fun d ys q => by rw [upd_ne (ne d _ q)]; exact q
theorem srt_tree {h1 : Heap} {tk1 : Nat} {acc : Array Value} {E : Value → Shared → Prop} {Pq : PySem.Fin → Shared → Prop} (J : Inv X pins σ H s) (k2 : ∀ b o, s.heap.get? b = some o → h1.get? b = some o) (tn : TurnS X H s T f kz) (t0 : T H) (oL : h1.get? a = some (seqObj "list" acc.toList.toArray 0)) (hv : Vals (upTo n) acc.toList) (hl : kz.length = n) (n64 : n < 64) (za : s.heap.objs.size ≤ a)
  (h : ∀ s2, OutS X H s T a kz n s2 → Pq (.done (.ret .none)) s2) : wpAny (model X.prog X.w) X.A.in1.in1 (ksk_tree a (.ref f) false) Pq E { s with heap := h1, toks := tk1 } := by
 have lv := hv.length
 rw [upTo_len] at lv
 have na : s.heap.get? a = none := Heap.get?_none_of_le za
 have la : a < h1.objs.size := Heap.lt_size oL
 have s1 := Heap.SameBut.update h1 a (Obj.mapSeq fun _ => (#[] : Array Value))
 obtain ⟨e1, o1⟩ : ∃ e1, (h1.update a (Obj.mapSeq fun _ => (#[] : Array Value))).get? a = some (seqObj "list" #[] e1) := ⟨_, get?_update_seq oL fun _ => #[]⟩
 unfold ksk_tree
 refine wpAny_bind (listItems_at oL rfl ?_)
 refine wpAny_bind (listUpdate_at oL rfl ?_ (by rw [List.size_toArray, sizeLine_eq]; omega) (Nat.zero_le _))
 refine wpAny_bind (seqEpoch_at o1 rfl ?_)
 refine wpAny_bind (wpAny_newTuple ?_ (by show acc.toList.toArray.toList.length ≤ _; rw [sizeLine_eq]; simp only [List.toList_toArray]; omega))
 refine wpAny_bind (wpAny_newList ?_ (Nat.zero_le _))
 refine wpAny_holding ?_
 have ks : ((h1.update a (Obj.mapSeq fun _ => (#[] : Array Value))).push (seqObj "tuple" acc.toList.toArray 0)).objs.size = h1.objs.size + 1 := by rw [size_push', Heap.size_update]
 have kp : ∀ b o, b ≠ a → h1.get? b = some o → (((h1.update a (Obj.mapSeq fun _ => (#[] : Array Value))).push (seqObj "tuple" acc.toList.toArray 0)).push (seqObj "list" #[] 0)).get? b = some o := fun b o hb z => Heap.get?_push_of_some _ (Heap.get?_push_of_some _ ((s1.2 b hb).trans z))
 have k3 : ∀ b o, s.heap.get? b = some o → (((h1.update a (Obj.mapSeq fun _ => (#[] : Array Value))).push (seqObj "tuple" acc.toList.toArray 0)).push (seqObj "list" #[] 0)).get? b = some o := fun b o z => kp b o (fun y => by rw [y, na] at z; cases z) (k2 b o z)
 have zs : s.heap.objs.size ≤ ((h1.update a (Obj.mapSeq fun _ => (#[] : Array Value))).push (seqObj "tuple" acc.toList.toArray 0)).objs.size := by rw [ks]; exact Nat.le_trans za (Nat.le_of_lt (Nat.lt_succ_of_lt la))
 refine srt_rest (kS := ((h1.update a (Obj.mapSeq fun _ => (#[] : Array Value))).push (seqObj "tuple" acc.toList.toArray 0)).objs.size) (e := 0) (e1 := e1) (H' := H) J tn ⟨rfl, J.bare, Un.kept k3, J.hok.kept k3, t0, Heap.get?_push_size _ rfl, J.hok.fresh zs, Heap.get?_push_of_some _ (Heap.get?_push_of_some _ o1), J.hok.fresh za⟩ na (Heap.get?_none_of_le zs) (by rw [ks]; exact Nat.ne_of_gt (Nat.lt_succ_of_lt la)) (by simpa using hv) hl n64 h
theorem srt_key {r : Addr} {Q : VK} (J : Inv X pins σ H s) (hr : H r = some (.rng 0 n)) (hc : X.calm = true) (tn : TurnS X H s T f kz) (t0 : T H) (hl : kz.length = n) (n64 : n < 64)
  (q : ∀ (l : Addr) (H' : Hp) (ord : List Int), T H' → H' l = none → ord.Perm ((List.range n).map fun i : Nat => (i : Int)) → ord.Pairwise (Stab kz) → Q (.ref l) (upd H' l (.lst (ord.map V.int)))) :
  wpAny (model X.prog X.w) X.A (call (.builtin "sorted") [.ref r] [(Str.ofString "key", .ref f)]) (EP X pins σ Q) X.xe s := by
 obtain ⟨t, u, v, e⟩ : ∃ t u v, s.heap.get? r = some { cls := .type "range", data := .fields #[.int 0 t, .int n u, .int 1 v] } := J.hok r _ hr
 refine call_function_entry_kw kind_sorted plain_sorted entry_sorted (ksk_s1 _ _) ?_
 unfold Builtin.«sorted»
 refine wpAny_bind (m := checkCount "sorted" 1 1 _) (wpAny_pure ?_)
 refine wpAny_bind (collect_rng (J.ok.hd hc) e (by omega) fun h1 tk1 acc k1 hv z1 => ?_)
 have lv := hv.length
 rw [upTo_len] at lv
 refine wpAny_bind (wpAny_newList ?_ (by rw [sizeLine_eq]; omega))
 have k2 : ∀ b o, s.heap.get? b = some o → (h1.push (seqObj "list" acc.toList.toArray 0)).get? b = some o := fun b o z => Heap.get?_push_of_some _ (k1 b o z)
 have za : s.heap.objs.size ≤ h1.objs.size := Nat.le_of_lt z1
 have na : s.heap.get? h1.objs.size = none := Heap.get?_none_of_le za
 have oL : (h1.push (seqObj "list" acc.toList.toArray 0)).get? h1.objs.size = some (seqObj "list" acc.toList.toArray 0) := Heap.get?_push_size _ rfl
 show wpAny _ _ _ _ _ { s with heap := h1.push (seqObj "list" acc.toList.toArray 0), toks := tk1 }
 refine wpAny_bind (wpAny_holding (wpAny_call_entry_kw slot_list_sort ⟨_, oL, rfl⟩ entry_list_sort ?body (ksk_l1 _ _)))
 case body =>
  show wpAny (model X.prog X.w) X.A.in1.in1 (Builtin.«list.sort» ⟨[.ref h1.objs.size], [(Str.ofString "key", .ref f)]⟩) _ _ _
  rw [ksk_t1]
  exact srt_tree J k2 tn t0 oL hv hl n64 za fun s2 o => ⟨_, rfl, wpAny_pure ⟨_, rfl, out_ep J na o n64 q⟩⟩
end
end L2
namespace L2
open PySem PySem.Spec PyProof.Rows
def LamK (f : Addr) (qual : Str) (params : Arguments) (body : Expr) (scope : Scope) (cl : List (Str × Addr)) (c : Addr) (pm ctv : Value) : HO := .ext fun h => h.get? f = some (PySem.W.kla_obj "<lambda>" qual params body scope cl pm c ctv)
theorem lamK_ok {P : Program} {w : World} {H : Hp} {h : Heap} {f c : Addr} {qual : Str} {params : Arguments} {body : Expr} {scope : Scope} {cl : List (Str × Addr)} {pm ctv : Value} (e : h.get? f = some (PySem.W.kla_obj "<lambda>" qual params body scope cl pm c ctv)) :
  ObjOk P w H h f (LamK f qual params body scope cl c pm ctv) :=
 ⟨e, ⟨_, e⟩, fun _ _ e k => k _ e⟩
def tLamC (cl : List (Str × Addr)) (P : Addr) (pos : Pos) (qual : Str) (params : Arguments) (body : Expr) (scope : Scope) : TE := fun _ H Q => ∃ ps, H P = some (.tbl ps) ∧ TriplesOk ps.toList ∧
  ((codeAmong pos ps.toList = none ∧ ∀ c f pm ctv, H c = none → H f = none → f ≠ c → Q (.ref f) (upd (upd (upd H P (.tbl (ps ++ #[rawInt pos.line, rawInt pos.col, .ref c]))) c (CodeO c qual)) f (LamK f qual params body scope cl c pm ctv))) ∨
   ∃ c, codeAmong pos ps.toList = some (.ref c) ∧ H c = some (CodeO c qual) ∧ ∀ f pm ctv, H f = none → Q (.ref f) (upd H f (LamK f qual params body scope cl c pm ctv)))
section
variable {X : Cx}
theorem pe_lamC {cl : List (Str × Addr)} {params : Arguments} {body : Expr} {scope : Scope} {pos : Pos} {c P : Addr} (hcode : X.env.code = .ref c) (C : PySem.W.CodeHd X.base c P) (bm : BM X.mg X.base) (hcl : closureFor scope X.env = pure cl) (hdef : defaultsOf params X.env = ([], []) := by rfl) :
  PE X (.Lambda params body scope pos) (tLamC cl P pos (X.env.qual ++ "<lambda>") params body scope) := by
 intro pins s σ H Q I h
 obtain ⟨ps, hP, ht, h⟩ := h
 have eP : s.heap.get? P = some (PySem.W.tabObj ps) := I.hok P _ hP
 obtain ⟨bmA, ob, b1, b2, b3, b4, b5, b6, b7⟩ := bm
 have nP : ∀ b o, X.base.get? b = some o → b ≠ P := fun b o e z => by
  have := (I.bs b o e).2
  rw [z, hP] at this
  cases this
 have hgP : mainGlobals ≠ P := by
  obtain ⟨o, es, ep, e, _⟩ := I.mod.glob
  exact nP _ _ e
 have hb : s.heap.BuiltinsAt X.mg P := ⟨bmA, ob, b1, b2, b3, nP _ _ b4, I.bk _ _ b4, b5, b6, b7⟩
 refine PySem.W.kla_eval hdef ?_
 rcases h with ⟨hnf, k⟩ | ⟨c', hf, hc', k⟩
 ·refine PySem.W.kla_makeFunction (mg := X.mg) hcl I.ok.glob (I.mod.glob.keeps I.bk) hcode (C.keeps I.bk) eP ht hnf hgP hb fun c' ctv h' tk hx hge hlt hrec htb => ?_
  have sz : s.heap.objs.size ≤ h'.objs.size := Nat.le_trans hge (Nat.le_of_lt hlt)
  have fc : H c' = none := I.hok.fresh hge
  have ff : H h'.objs.size = none := I.hok.fresh sz
  have nfc : h'.objs.size ≠ c' := Nat.ne_of_gt hlt
  refine ⟨.ref h'.objs.size, _, ?_, rfl, k c' h'.objs.size ((X.mg "__name__").getD .none) ctv fc ff nfc⟩
  have keep3 : ∀ b o, b ≠ P → s.heap.get? b = some o → (h'.push (PySem.W.kla_obj "<lambda>" (X.env.qual ++ "<lambda>") params body scope cl ((X.mg "__name__").getD .none) c' ctv)).get? b = some o := fun b o hb e => Heap.get?_push_of_some _ (hx b o hb e)
  have neP : ∀ b, H b = none → b ≠ P := fun b n z => by
   rw [z, hP] at n
   cases n
  have pP : (h'.push (PySem.W.kla_obj "<lambda>" (X.env.qual ++ "<lambda>") params body scope cl ((X.mg "__name__").getD .none) c' ctv)).get? P = some (PySem.W.tabObj (ps ++ #[rawInt pos.line, rawInt pos.col, .ref c'])) := Heap.get?_push_of_some _ htb
  have nPc : P ≠ c' := ne_of_none hP fc
  have nPf : P ≠ h'.objs.size := ne_of_none hP ff
  have old : ∀ b u, H b = some u → b ≠ P → (upd (upd (upd H P (.tbl (ps ++ #[rawInt pos.line, rawInt pos.col, .ref c']))) c' (CodeO c' (X.env.qual ++ "<lambda>"))) h'.objs.size (LamK h'.objs.size (X.env.qual ++ "<lambda>") params body scope cl c' ((X.mg "__name__").getD .none) ctv)) b = some u := fun b u e hb => by
   rw [upd_ne (ne_of_none e ff), upd_ne (ne_of_none e fc), upd_ne hb]
   exact e
  refine I.un (t' := tk) ⟨fun b o e n _ _ => keep3 b o (neP b n) e, fun b o e n _ _ => ⟨o.slots, keep3 b o (neP b n) e⟩, fun b o e n _ => ?_, fun b o e _ => ?_, fun b xs e => old b _ e (ne_of e hP fun z => nomatch z), fun b ob u e => old b _ e (ne_of e hP fun z => nomatch z), fun b ps0 e => ?_⟩ fun b u e => ?_
  ·have lb : b < s.heap.objs.size := Heap.lt_size e
   rw [upd_ne (Nat.ne_of_lt (Nat.lt_of_lt_of_le lb sz)), upd_ne (Nat.ne_of_lt (Nat.lt_of_lt_of_le lb hge)), upd_ne (neP b n)]
   exact n
  ·by_cases hb : b = P
   ·rw [hb]
    exact ⟨_, pP⟩
   ·exact ⟨o, keep3 b o hb e⟩
  ·by_cases hb : b = P
   ·subst hb
    rw [hP] at e
    cases e
    exact ⟨#[rawInt pos.line, rawInt pos.col, .ref c'], by rw [upd_ne nPf, upd_ne nPc, upd_same]⟩
   ·exact ⟨#[], by rw [old b _ e hb]; simp⟩
  ·by_cases h1 : b = h'.objs.size
   ·subst h1
    rw [upd_same] at e
    cases e
    exact lamK_ok (Heap.get?_push_size _ rfl)
   ·rw [upd_ne h1] at e
    by_cases h2 : b = c'
    ·subst h2
     rw [upd_same] at e
     cases e
     exact code_ok (hrec.keeps fun b o q => Heap.get?_push_of_some _ q)
    ·rw [upd_ne h2] at e
     by_cases h3 : b = P
     ·subst h3
      rw [upd_same] at e
      cases e
      exact pP
     ·rw [upd_ne h3] at e
      refine (I.hok b u e).stay (fun d v hd q => keep3 d v ?_ q) (fun d q => old d _ q (ne_of q hP fun z => nomatch z)) fun d ys q => old d _ q (ne_of q hP fun z => nomatch z)
      rcases hd with hd | hd
      ·rw [hd]
       exact h3
      ·exact ne_of hd hP fun z => nomatch z
 ·refine PySem.W.kla_makeFunctionHit (mg := X.mg) hcl I.ok.glob (I.mod.glob.keeps I.bk) hcode (C.keeps I.bk) eP ht hf hb fun ctv h' tk hk hsz => ?_
  exact ⟨.ref h'.objs.size, _, I.laid (a := h'.objs.size) (o := LamK h'.objs.size (X.env.qual ++ "<lambda>") params body scope cl c' ((X.mg "__name__").getD .none) ctv) (t' := tk) (fun b u e => Heap.get?_push_of_some _ (hk b u e)) hsz (lamK_ok (Heap.get?_push_size _ rfl)), rfl, k _ _ _ (I.hok.fresh hsz)⟩
end
theorem tLamC_at {cl : List (Str × Addr)} {P : Addr} {pos : Pos} {qual : Str} {params : Arguments} {body : Expr} {scope : Scope} {σ : St} {H : Hp} {Q : VK} (h : tLamC cl P pos qual params body scope σ H Q) :
  tLamC cl P pos qual params body scope σ H (fun v H2 => (∃ f cc pm ctv, v = .ref f ∧ H2 f = some (LamK f qual params body scope cl cc pm ctv) ∧ H2 cc = some (CodeO cc qual)) ∧ Q v H2) := by
 obtain ⟨ps, hP, ht, h⟩ := h
 refine ⟨ps, hP, ht, ?_⟩
 rcases h with ⟨hn, k⟩ | ⟨c, hf, hc, k⟩
 ·exact .inl ⟨hn, fun c f pm ctv h1 h2 ne => ⟨⟨f, c, pm, ctv, rfl, upd_same, by rw [upd_ne ne.symm, upd_same]⟩, k c f pm ctv h1 h2 ne⟩⟩
 ·exact .inr ⟨c, hf, hc, fun f pm ctv h1 => ⟨⟨f, c, pm, ctv, rfl, upd_same, by rw [upd_ne (ne_of_none hc h1)]; exact hc⟩, k f pm ctv h1⟩⟩
def tSrt (ta : TA) (cl : List (Str × Addr)) (P : Addr) (lpos : Pos) (qual : Str) (params : Arguments) (body : Expr) (scope : Scope) (iy : Nat) (sp : V → V → Hp → VK → Prop) : TE := fun σ H Q => ta σ H fun vs H1 => tLamC cl P lpos qual params body scope σ H1 fun _ H2 =>
 ∃ (r : Addr) (n : Nat) (kz : List Int) (T : Hp → Prop) (vy : V), vs = [.ref r] ∧ σ[iy]? = some (some vy) ∧ H2 r = some (.rng 0 n) ∧ n < 64 ∧ kz.length = n ∧ T H2 ∧ (∀ H', T H' → Same H2 H') ∧ (∀ (i : Nat) (key : Int) (H' : Hp), kz[i]? = some key → T H' → sp (.int i) vy H' (fun v H'' => v = .int key ∧ T H'')) ∧
  ∀ (l : Addr) (H' : Hp) (ord : List Int), T H' → H' l = none → ord.Perm ((List.range n).map fun i : Nat => (i : Int)) → ord.Pairwise (Stab kz) → Q (.ref l) (upd H' l (.lst (ord.map V.int)))
theorem pe_srt {X : Cx} {e : Expr} {ta : TA} {params : Arguments} {body : Expr} {scope : Scope} {lpos kp p pos : Pos} {x y z : Str} {iy k : Nat} {c cP P : Addr} {sp : V → V → Hp → VK → Prop} (hg : Gl X "sorted") (hm : X.mg "sorted" = none) (ha : PA X [e] ta) (hcode : X.env.code = .ref cP) (C : PySem.W.CodeHd X.base cP P) (bm : BM X.mg X.base)
  (hcl : closureFor scope X.env = pure [(y, c)]) (hcy : X.env.cells.lookup y = some c) (hky : X.env.scope.names.lookup y = some .cell) (hNy : X.N[iy]? = some y) (hc : X.calm = true) (S : LamSc x y z scope) (hr : Room (k + 1) X.A.in1.in1)
  (hbind : ∀ (qual : Str) (cl : List (Str × Addr)) (pm cd ctv u : Value), bindArgs (PySem.W.kla_fn "<lambda>" qual params body scope cl pm cd ctv) ⟨[u], []⟩ = pure [(x, u)])
  (hB : ∀ (f cc : Addr) (A : Around) (outer : List Env) (s : Shared) (H : Hp) (vx vy : V) (Q : VK), Room k (A.deeper (envL (X.env.qual ++ "<lambda>") scope s.heap.objs.size f (.ref cc) x y c)) → sp vx vy H Q →
   ∃ t, PE (cxL X.prog X.w X.K X.mg X.base (X.env.qual ++ "<lambda>") scope f (.ref cc) x y c A outer s H) body t ∧ t [some vx, some vy] H Q)
  (he : backTo pos (starEach [e] X.env) = (false, eval e X.env) :: backTo pos (starEach [] X.env) := by rfl) (hdef : defaultsOf params X.env = ([], []) := by rfl) :
  PE X (.Call (.Name "sorted" p) [e] [⟨some "key", .Lambda params body scope lpos, kp⟩] pos) (tSrt ta [(y, c)] P lpos (X.env.qual ++ "<lambda>") params body scope iy sp) := by
 intro pins s σ H Q I h
 refine wpAny_Call_Name_kw (ld_blt I hg hm PyProof.Rows.boot_sorted ?_ (by decide) (by decide))
 refine PyProof.Rows.callWith_kw (thn (ha pos pins s σ H _ I h) fun us s1 ⟨vs, H1, I1, r1, q1⟩ => PyProof.Rows.kws_cons (thn (pe_lamC hcode C bm hcl hdef pins s1 σ H1 _ I1 (tLamC_at q1)) fun fv s2 ⟨v, H2, I2, rv, ⟨f, cc, pm, ctv, ev, hf, hcc⟩, q2⟩ => PyProof.Rows.kws_nil ?_)) he (by rw [he]; rfl)
 obtain ⟨r, n, kz, T, vy, rfl, hy, hr2, n64, hl, t0, same, turn, q⟩ := q2
 subst ev
 cases (show fv = Value.ref f from rv)
 cases r1 with
 | cons ra rr =>
  cases rr
  cases ra
  show wpAny _ _ (call (.builtin "sorted") [.ref r] [(Str.ofString "key", .ref f)]) _ _ _
  obtain ⟨m, hn, hv⟩ := id I2.loc
  obtain ⟨uy, ry, hlook⟩ := hv iy y vy hNy hy (.inr (.inl hky))
  have hcell : s2.heap.IsCell c (some uy) := by
   rcases hlook with ⟨k1, _⟩ | ⟨_, c', e1, e2⟩
   ·have k1' : X.env.scope.names.lookup y = some .local := k1
    rw [hky] at k1'
    cases k1'
   ·rw [hcy] at e1
    cases e1
    exact e2
  have hcN : H2 c = none := I2.freeC y c hcy
  refine srt_key I2 hr2 hc (fun i t key H' s' hk hT e0 un => ?_) t0 hl n64 q
  have sm := same H' hT
  obtain ⟨ho, _⟩ := (show ObjOk X.prog X.w H' s'.heap f (LamK f (X.env.qual ++ "<lambda>") params body scope [(y, c)] cc pm ctv) from e0.hok f _ (sm _ _ hf))
  obtain ⟨hrec, _⟩ := (show ObjOk X.prog X.w H' s'.heap cc (CodeO cc (X.env.qual ++ "<lambda>")) from e0.hok cc _ (sm _ _ hcc))
  obtain ⟨oc, h1, h2⟩ := hcell
  obtain ⟨sl, h3⟩ := un.any h1 hcN (by simp)
  exact lam_callL (vx := .int i) (vy := vy) S (hbind _ _ _ _ _ _) hr e0 ho hrec ⟨_, h3, h2⟩ (un.free c oc h1 hcN (by simp)) ⟨t, rfl⟩ ry (hB f cc _ _ _ _ _ _ _ (hr.deeper _) (turn i key H' hk hT))
end L2
namespace L2
open PySem PySem.Spec PyProof.Rows
theorem Fun.okC {P : Program} {w : World} {K : PySem.W.Frag} {mg : Str → Option Value} {base : Heap} {x qual : Str} {st : Stmt} {f c : Addr} {fd : FuncData} {N ps : List Str} {k : Nat} {sp : Sp} (F : Fun K x qual st f fd) (hc : fd.code = .ref c) (S : FnScope N ps (defScope st)) (len : ∀ vs H Q E, sp vs H Q E → vs.length = ps.length)
  (hbody : ∀ (A : Around) (outer : List Env) (s : Shared) (H : Hp) (vs : List V) (Q : VK) (E : XK), Room k (A.deeper (PyProof.Rows.envOfC qual (defScope st) s.heap.objs.size f (.ref c))) → sp vs H Q E →
   ∃ t, PSs (cxOf CX0 P w K mg base N qual (defScope st) f (.ref c) A outer s H E).nox (defBody st) t ∧ t { nx := fun _ H' => Q .non H', rt := Q } (start N vs) H) : FnOk P w K mg base CX0 (k + 1) f fd ps sp := by
 obtain ⟨oc, od, kV, doc, pm, an, cdv, ct, osl, rfl, lk, hcd⟩ := F.ex
 have e : cdv = .ref c := hc
 subst e
 refine fn_of lk hcd S len fun A outer s H vs Q E hr hsp => ?_
 obtain ⟨t, h, q⟩ := hbody A outer s H vs Q E hr hsp
 exact ⟨t, h.nox, q⟩
theorem triples_snoc {a b : Int} {t u : Tok} {x : Value} : ∀ (l : List Value), TriplesOk l → TriplesOk (l ++ [.int a t, .int b u, x]) := by
 intro l h
 fun_induction TriplesOk l with
 | case1 => exact trivial
 | case2 a' t' b' u' y rest ih => exact ih h
 | case3 l h1 h2 => exact h.elim
def Ready (P : Addr) (pos : Pos) (qual : Str) (H : Hp) : Prop := ∃ ps : Array Value, H P = some (.tbl ps) ∧ TriplesOk ps.toList ∧ (codeAmong pos ps.toList = none ∨ ∃ c, codeAmong pos ps.toList = some (.ref c) ∧ H c = some (CodeO c qual))
def But (P : Addr) (H H' : Hp) : Prop := ∀ b o, H b = some o → b ≠ P → H' b = some o
theorem ready_same {P : Addr} {pos : Pos} {qual : Str} {H H' : Hp} (r : Ready P pos qual H) (s : Same H H') : Ready P pos qual H' := by
 obtain ⟨ps, h1, h2, h3⟩ := r
 refine ⟨ps, s _ _ h1, h2, ?_⟩
 rcases h3 with h3 | ⟨c, e1, e2⟩
 ·exact .inl h3
 ·exact .inr ⟨c, e1, s _ _ e2⟩
structure Tb (P : Addr) (pos : Pos) (qual : Str) (H H' : Hp) : Prop where
 but : But P H H'
 old : Ready P pos qual H
 rdy : Ready P pos qual H'
section
variable {P : Addr} {pos : Pos} {qual : Str} {H H' H2 : Hp} {K : PySem.W.Frag}
theorem Tb.of (r : Ready P pos qual H) (s : Same H H') : Tb P pos qual H H' := ⟨fun b o e _ => s b o e, r, ready_same r s⟩
theorem Tb.trans (h : Tb P pos qual H H') (g : Tb P pos qual H' H2) : Tb P pos qual H H2 := ⟨fun b o e n => g.but b o (h.but b o e n) n, h.old, g.rdy⟩
theorem Tb.to (h : Tb P pos qual H H') (s : Same H' H2) : Tb P pos qual H H2 := h.trans (.of h.rdy s)
theorem Tb.get (h : Tb P pos qual H H') {b : Addr} {o : HO} (e : H b = some o) (n : ∀ ps, o ≠ .tbl ps) : H' b = some o := by
 obtain ⟨ps, hP, _⟩ := h.old
 exact h.but b o e (ne_of e hP (n ps))
theorem Tb.keep (h : Tb P pos qual H H') : Keep H H' := fun _ _ e _ n => h.get e n
theorem Tb.lst (h : Tb P pos qual H H') {b : Addr} {xs : List V} (e : H b = some (.lst xs)) : H' b = some (.lst xs) := h.get e fun _ z => nomatch z
theorem Tb.sqL (h : Tb P pos qual H H') {b : Addr} {xs : List V} (hx : SqL K H b xs) : SqL K H' b xs := by
 rcases hx with (z | ⟨o, z⟩) | z
 ·exact .inl (.inl (h.lst z))
 ·exact .inl (.inr ⟨o, h.get z fun _ z => nomatch z⟩)
 ·exact .inr z
theorem Tb.free (h : Tb P pos qual H H') {b : Addr} (e : H' b = none) : H b = none := by
 cases z : H b with
 | none => rfl
 | some o =>
  by_cases c : b = P
  ·obtain ⟨ps, hP, _⟩ := h.rdy
   rw [c, hP] at e
   cases e
  ·rw [h.but b o z c] at e
   cases e
theorem lam_ready {params : Arguments} {body : Expr} {scope : Scope} {cl : List (Str × Addr)} {σ : St} {Q : VK} (r : Ready P pos qual H) (k : ∀ v H2, Tb P pos qual H H2 → Q v H2) : tLamC cl P pos qual params body scope σ H Q := by
 obtain ⟨ps, hP, ht, hc⟩ := id r
 refine ⟨ps, hP, ht, ?_⟩
 rcases hc with hc | ⟨c', hc1, hc2⟩
 ·refine .inl ⟨hc, fun c f pm ctv h1 h2 ne => k _ _ ⟨fun b o e n => ?_, r, ps ++ #[rawInt pos.line, rawInt pos.col, .ref c], ?_, ?_, .inr ⟨c, ?_, ?_⟩⟩⟩
  ·rw [upd_ne (ne_of_none e h2), upd_ne (ne_of_none e h1), upd_ne n]
   exact e
  ·rw [upd_ne (ne_of_none hP h2), upd_ne (ne_of_none hP h1)]
   exact upd_same
  ·rw [Array.toList_append]
   exact triples_snoc _ ht
  ·rw [Array.toList_append]
   exact codeAmong_snoc _ ht hc
  ·rw [upd_ne ne.symm]
   exact upd_same
 ·exact .inr ⟨c', hc1, hc2, fun f pm ctv h1 => k _ _ (.of r (Same.upd h1))⟩
end
end L2
namespace L2
open PySem PySem.Spec PyProof.Rows
theorem rev_range (n : Nat) (h : n ≤ 8) : sliceRange (sliceBounds none none (some (-1)) n).1 (sliceBounds none none (some (-1)) n).2.1 (sliceBounds none none (some (-1)) n).2.2 = (List.range n).reverse := by
 have all : ∀ m : Fin 9, sliceRange (sliceBounds none none (some (-1)) m.1).1 (sliceBounds none none (some (-1)) m.1).2.1 (sliceBounds none none (some (-1)) m.1).2.2 = (List.range m.1).reverse := by decide +kernel
 exact all ⟨n, by omega⟩
theorem pick_all {α : Type} (xs : List α) : (List.range xs.length).filterMap (xs.toArray[·]?) = xs := by
 have e : (fun i : Nat => xs.toArray[i]?) = fun i => xs[i]? := by
  funext i
  simp
 rw [e]
 refine List.ext_getElem? fun i => ?_
 induction xs generalizing i with
 | nil => rfl
 | cons x xs ih =>
  rw [List.length_cons, List.range_succ_eq_map, List.filterMap_cons]
  show (x :: List.filterMap (fun i => (x :: xs)[i]?) (List.map Nat.succ (List.range xs.length)))[i]? = _
  rw [List.filterMap_map]
  cases i with
  | zero => rfl
  | succ i =>
   show (List.filterMap (fun i => xs[i]?) (List.range xs.length))[i]? = xs[i]?
   exact ih (by funext i; simp) i
theorem pick_rev {xs : List Value} (h : xs.length ≤ 8) : slicePick xs.toArray none none (some (-1)) = xs.reverse.toArray := by
 unfold slicePick
 rw [List.size_toArray, rev_range _ h, List.filterMap_reverse, pick_all]
section
variable {X : Cx}
def tRev (K : PySem.W.Frag) (te : TE) : TE := fun σ H Q => te σ H fun x H1 => ∃ a ys, x = .ref a ∧ SqL K H1 a ys ∧ ys.length ≤ 8 ∧ ∀ p, H1 p = none → Q (.ref p) (upd H1 p (.lst ys.reverse))
theorem paired_rev {α β : Type} {R : α → β → Prop} {xs : List α} {ys : List β} (h : Paired R xs ys) : Paired R xs.reverse ys.reverse := by
 induction h with
 | nil => exact .nil
 | cons r t ih =>
  rw [List.reverse_cons, List.reverse_cons]
  exact Paired.app ih (.cons r .nil)
theorem pe_rev {e : Expr} {te : TE} {pos p2 p3 p4 : Pos} (he : PE X e te) : PE X (.Subscript e (.Slice none none (some (.UnaryOp .USub (.Constant (.int 1) 0 p3) p4)) p2) pos) (tRev X.K te) := by
 intro pins s σ H Q I h
 refine Subscript_ (thn (he pins s σ H _ I h) fun v s1 ⟨x, H1, I1, r1, q1⟩ => ?_)
 obtain ⟨a, ys, rfl, hx, l8, q⟩ := q1
 cases r1
 refine wpAny_Slice ?_
 rw [evalPart_none]
 refine wpAny_pure ?_
 refine wpAny_pure ?_
 rw [evalPart_some]
 have pn : PE X (.UnaryOp .USub (.Constant (.int 1) 0 p3) p4) (tUn (rU fun i => .int (-i)) (tC (.int 1))) := pe_un un_neg pe_int
 refine thn (pn pins s1 σ H1 (fun v' H' => v' = .int (-1) ∧ H' = H1) I1 ⟨1, rfl, rfl, rfl⟩) fun u s2 ⟨v', H2, I2, r2, e1, e2⟩ => ?_
 subst e1 e2
 obtain ⟨t, rfl⟩ := r2
 have I4 : Inv X pins σ H2 { s2 with heap := s2.heap.push { cls := .type "slice", data := .fields #[.none, .none, .int (-1) t] } } := I2.kept (t' := s2.toks) fun b ob q => Heap.get?_push_of_some _ q
 obtain ⟨its, r, ht, hz⟩ := I4.list hx
 have lr := r.length
 show wpAny (model X.prog X.w) X.A (subscriptTail e (.Slice none none (some (.UnaryOp .USub (.Constant (.int 1) 0 p3) p4)) p2) (.ref a) (.ref s2.heap.objs.size)) (EP X pins σ Q) X.xe { s2 with heap := s2.heap.push { cls := .type "slice", data := .fields #[.none, .none, .int (-1) t] } }
 refine tail_any (ops := [.ref a, .ref s2.heap.objs.size]) ht.isList.typeIs slot_list_getitem.lookup ?_ (by with_unfolding_all rfl)
 refine wpAny_getItem_list_slice ht.isList (Heap.IsSliceOf.new ..) .none .none (.int (-1) t) (by simp) ?_ (by rw [List.size_toArray]; exact Nat.le_trans (by omega : its.length ≤ 8) (by decide))
 rw [pick_rev (by omega)]
 refine ⟨.ref _, _, I4.laid (t' := s2.toks) (o := .lst ys.reverse) (fun b ob q => Heap.get?_push_of_some _ q) (Nat.le_refl _) ?_, rfl, q _ (I4.hok.fresh (Nat.le_refl _))⟩
 exact ⟨by rw [List.length_reverse]; exact Nat.le_trans l8 (by decide), its.reverse, 0, paired_rev r, Heap.get?_push_size _ rfl⟩
end
end L2
namespace FK
def mk (S : Steps) (a y : Rat) : Rat := (rch (wl S) (F S a + y)).getD 0
abbrev wd (S : Steps) (p : Rat × Rat) : Rat := F S p.2 - F S p.1
end FK
namespace FK
end FK
namespace FK
theorem Wo_wd (S : Steps) (p : Rat × Rat) : Wo S [p] = wd S p := by
 show (F S p.2 - F S p.1) + 0 = F S p.2 - F S p.1
 grind
end FK
namespace FK
def mw (S : Steps) (a b : Rat) (h m : Nat) : Rat := mk S a (wd S (a, b) * ((h : Rat) / (m : Rat)))
theorem frac_in {h m : Nat} (h0 : 0 < h) (hm : h < m) : (0 : Rat) < (h : Rat) / (m : Rat) ∧ (h : Rat) / (m : Rat) < 1 := by
 have m0 : 0 < m := by omega
 have a := nfrac_lt m0 (show (0 : Int) < (h : Int) by omega)
 have b := nfrac_lt m0 (show (h : Int) < (m : Int) by omega)
 rw [nfrac_self m0] at b
 rw [Rat.intCast_natCast] at a b
 have z : ((0 : Int) : Rat) / (m : Rat) = 0 := by
  show (0 : Rat) / (m : Rat) = 0
  grind
 rw [z] at a
 exact ⟨a, b⟩
theorem part_lt {x f : Rat} (x0 : 0 < x) (f0 : 0 < f) (f1 : f < 1) : 0 < x * f ∧ x * f < x := by
 have a := mul_smono x0 f0
 have b := mul_smono x0 f1
 have z : x * 0 = 0 := by grind
 have o : x * 1 = x := by grind
 rw [z] at a
 rw [o] at b
 exact ⟨a, b⟩
theorem mw_facts {p : Nat} {S : Steps} (ok : TsOk p S) {a b : Rat} {h m D : Nat} (a0 : 0 ≤ a) (ab : a < b) (b1 : b ≤ 1) (h0 : 0 < h) (hm : h < m) (m8 : m ≤ 8) (d0 : 0 < D) (ga : Gr D a) (gb : Gr D b) :
  rch (wl S) (F S a + wd S (a, b) * ((h : Rat) / (m : Rat))) = some (mw S a b h m) ∧ a < mw S a b h m ∧ mw S a b h m < b ∧ F S (mw S a b h m) = F S a + wd S (a, b) * ((h : Rat) / (m : Rat)) ∧
  0 < wd S (a, b) * ((h : Rat) / (m : Rat)) ∧ F S a + wd S (a, b) * ((h : Rat) / (m : Rat)) < 1 ∧ ∃ G : Nat, 0 < G ∧ G ≤ D * 8000000 ∧ Gr G a ∧ Gr G b ∧ Gr G (mw S a b h m) := by
 have m0 : 0 < m := by omega
 obtain ⟨f0, f1⟩ := frac_in h0 hm
 have w0 : 0 < wd S (a, b) := by
  have := F_smono ok a0 ab b1
  show 0 < F S b - F S a
  grind
 obtain ⟨q0, q1⟩ := part_lt w0 f0 f1
 have fb := F_le ok b1
 have wd' : wd S (a, b) = F S b - F S a := rfl
 have lt1 : F S a + wd S (a, b) * ((h : Rat) / (m : Rat)) < 1 := by grind
 have fa := F_nn ok a
 have tp := ok.tp
 have g : Gr (D * m * p) ((F S a + wd S (a, b) * ((h : Rat) / (m : Rat))) * tot S) := by
  have e : (F S a + wd S (a, b) * ((h : Rat) / (m : Rat))) * tot S = A 0 S a + (A 0 S b - A 0 S a) * ((h : Rat) / (m : Rat)) := by
   rw [wd']
   unfold F
   have : tot S ≠ 0 := by grind
   grind
  rw [e]
  have g1 : Gr (D * p) (A 0 S a) := A_gr (Gr.zero _) (fun z hz => (ok.gr z hz).up') ga.up
  have g2 : Gr (D * p) (A 0 S b) := A_gr (Gr.zero _) (fun z hz => (ok.gr z hz).up') gb.up
  have g3 : Gr m ((h : Rat) / (m : Rat)) := by
   have := nfrac_gr m0 (h : Int)
   rw [Rat.intCast_natCast] at this
   exact this
  have g4 := Gr.mul (Gr.sub g2 g1) g3
  have ed : D * m * p = D * p * m := Nat.mul_right_comm D m p
  rw [ed]
  exact Gr.add g1.up g4
 obtain ⟨x, e1, x0, x1, fx, w, w0', w1, gx⟩ := at_some ok (E := D * m) (by grind) (Rat.le_of_lt lt1) g
 have em : mw S a b h m = x := by
  unfold mw mk
  rw [e1]
  rfl
 rw [em]
 refine ⟨e1, F_lt ok (by grind), F_lt ok (by grind), fx, q0, lt1, D * m * p * w, Nat.mul_pos (Nat.mul_pos (Nat.mul_pos d0 m0) ok.pos) w0', ?_, ga.up.up.up, gb.up.up.up, gx⟩
 have a1 : D * m ≤ D * 8 := Nat.mul_le_mul_left _ m8
 have a2 : D * m * p ≤ D * 8 * 1000 := Nat.mul_le_mul a1 ok.few
 have a3 : D * m * p * w ≤ D * 8 * 1000 * 1000 := Nat.mul_le_mul a2 w1
 omega
end FK
namespace FK
end FK
namespace FK
end FK
namespace L2
open PySem PySem.Spec PyProof.Rows
section
variable {X : Cx}
end
end L2
namespace FK
end FK
namespace PySem
namespace F
theorem lri_no_len : typeLookup (.type "list_reverseiterator") "__len__" = pure none := by rw [typeLookup_type, builtinLookup_eq_fast]; kernel_rfl
theorem lri_hint : typeLookup (.type "list_reverseiterator") "__length_hint__" = pure (some (.builtin "list_reverseiterator.__length_hint__")) := by rw [typeLookup_type, builtinLookup_eq_fast]; kernel_rfl
end F
section
variable {prog : Program} {w : World} {A : Around} {E : Value → Shared → Prop} {s : Shared}
theorem hint_rev {it l : Addr} {i : Int} {Q : Bool → Shared → Prop} (hit : s.heap.IsRevIter it l i) (h : Q false s) : wpAny (model prog w) A (Builtin.List.listLengthHint (.ref it)) Q E s := by
 unfold Builtin.List.listLengthHint
 refine wpAny_bind (wpAny_specialOf hit.typeIs F.lri_no_len ?_)
 show wpAny _ _ (specialOf (Value.ref it) (Str.ofString "__length_hint__") >>= _) _ _ _
 refine wpAny_bind (wpAny_specialOf hit.typeIs F.lri_hint ?_)
 generalize hid : ("list_reverseiterator.__length_hint__" : String) = id0
 wp_delta
 rw [show splitId id0 = some ("list_reverseiterator", "__length_hint__") from by subst hid; decide +kernel]
 subst hid
 refine wpAny_bind (wpAny_isInstance (T := "list_reverseiterator") (b := true) hit.typeIs (by rw [isSubtype_type]; kernel_rfl) ?_)
 refine wpAny_ite_split (fun hab => absurd hab (by decide)) (fun _ => ?_)
 refine wpAny_ite_split (fun _ => ?_) (fun hab => absurd (by decide +kernel) hab)
 refine wpAny_ite_split (fun hab => absurd hab (by decide +kernel)) (fun _ => ?_)
 exact wpAny_pure h
theorem extend_rev {R : Result → Shared → Prop} {it l : Addr} {items : Array Value} (hh : A.handled = none) (hne : l ≠ it) (hit : s.heap.IsRevIter it l ((items.size : Int) - 1)) (hl : s.heap.IsList l items) (S : Addr) (res : Value) (c₀ : Nat)
  (hS : s.heap.get? S = some { cls := .type "list", data := .seq #[] c₀ }) (hSl : S ≠ l)
  (hR : ∀ h' tk acc' c', (∀ b o, b ≠ S → b ≠ it → s.heap.get? b = some o → h'.get? b = some o) → h'.get? S = some { cls := .type "list", dict := none, data := .seq acc' c', slots := #[] } →
   ItemsOf (fun i v => items[items.size - 1 - i]? = some v) acc' items.size → R (.ok (.ret res)) { s with heap := h', toks := tk }) (hn : items.size ≤ sizeLine) :
  wpAny (model prog w) A.in1 (Builtin.List.listExtendWith (.ref S) (.ref it) res)
   (fun fin s' => match fin with | .done f => R (.ok f) s' | .again c' => c'.quiet = true ∧ codeAny (model prog w) A c' R s') (fun e s' => R (.error e) s') s := by
 have hSi : S ≠ it := fun e => by
  obtain ⟨o, ho, hc, _⟩ := hit
  rw [← e, hS] at ho
  cases ho
  exact absurd (show Value.type "list" = Value.type "list_reverseiterator" from hc) (by decide)
 have hSf : S ∉ [it, l] := fun hm => by
  rcases List.mem_cons.mp hm with e | e
  ·exact hSi e
  ·exact hSl (List.mem_singleton.mp e)
 unfold Builtin.List.listExtendWith
 refine wpAny_bind (wpAny_typeOf (T := "list_reverseiterator") hit.typeIs ?_)
 have h1 : Builtin.List.listSameRef (.ref S) (.ref it) = false := by simp [Builtin.List.listSameRef, hSi]
 have h2 : (Value.type "list_reverseiterator" == Value.type "list") = false := by decide
 have h3 : (Value.type "list_reverseiterator" == Value.type "tuple") = false := by decide
 simp only [h1, h2, h3, Bool.or_false, Bool.false_eq_true, if_false]
 refine wpAny_bind (wpAny_pyIter_revIter hit ?_)
 refine wpAny_bind (wpAny_holding (hint_rev hit ?_))
 refine wpAny_ite_split (fun hab => absurd hab (by decide +kernel)) (fun _ => ?_)
 have W := (Walks.listRev (prog := prog) (w := w) (A := A.in1) hh it l hne items).toS
 refine wpAny_pure ⟨plainId_quiet F.plain_extend_loop _, codeAny_extend_loopS W hn S hSf res items.size 0 _ #[] c₀ rfl (Nat.zero_le _) ⟨Nat.zero_le _, by simpa using hit, hl⟩ hS (ItemsOf.nil _) fun s' acc' c' hm hS' hacc => ?_⟩
 rw [Moved.eq_with hm]
 refine hR s'.heap s'.toks acc' c' (fun b o hb hb2 e => hm.heap b o (fun hmem => ?_) e) hS' hacc
 rcases List.mem_cons.mp hmem with e' | hmem
 ·exact hb e'
 ·exact hb2 (List.mem_singleton.mp hmem)
theorem list_init_rev {R : Result → Shared → Prop} {it l : Addr} {items : Array Value} (hh : A.handled = none) (hne : l ≠ it) (hit : s.heap.IsRevIter it l ((items.size : Int) - 1)) (hl : s.heap.IsList l items) (S : Addr)
  (hS : s.heap.get? S = some { cls := .type "list", data := .seq #[] }) (hSl : S ≠ l)
  (hR : ∀ h' tk acc' c', (∀ b o, b ≠ S → b ≠ it → s.heap.get? b = some o → h'.get? b = some o) → h'.get? S = some { cls := .type "list", dict := none, data := .seq acc' c', slots := #[] } →
   ItemsOf (fun i v => items[items.size - 1 - i]? = some v) acc' items.size → R (.ok (.ret .none)) { s with heap := h', toks := tk }) (hn : items.size ≤ sizeLine) :
  wpAny (model prog w) A.in1 (Builtin.«list.__init__» ⟨[.ref S, .ref it], []⟩)
   (fun fin s' => match fin with | .done f => R (.ok f) s' | .again c' => c'.quiet = true ∧ codeAny (model prog w) A c' R s') (fun e s' => R (.error e) s') s := by
 have hSi : S ≠ it := fun e => by
  obtain ⟨o, ho, hc, _⟩ := hit
  rw [← e, hS] at ho
  cases ho
  exact absurd (show Value.type "list" = Value.type "list_reverseiterator" from hc) (by decide)
 show wpAny _ _ (do let old ← Builtin.List.listItems (.ref S); Builtin.List.listUpdate (.ref S) (fun _ => #[]); letGo old.toList.reverse; Builtin.List.listExtendWith (.ref S) (.ref it) .none) _ _ s
 refine wpAny_bind ?_
 unfold Builtin.List.listItems
 refine wpAny_bind (wpAny_seqItems hS rfl (wpAny_pure ?_))
 show wpAny _ _ (updateSeq S (fun _ => #[]) >>= fun _ => letGo (#[] : Array Value).toList.reverse >>= fun _ => Builtin.List.listExtendWith (.ref S) (.ref it) .none) _ _ s
 refine wpAny_bind (wpAny_updateSeq hS rfl ?_)
 have hS₂ := Heap.get?_update_self (Obj.mapSeq (fun _ => (#[] : Array Value))) hS rfl
 have oth : ∀ b o, b ≠ S → s.heap.get? b = some o → (s.heap.update S (Obj.mapSeq (fun _ => (#[] : Array Value)))).get? b = some o :=
  fun b o hb e => (Heap.get?_update_other _ _ (Ne.symm hb)).trans e
 refine wpAny_bind (wpAny_letGo ?_)
 refine extend_rev hh hne (hit.at fun o e => oth it o (Ne.symm hSi) e) (hl.at fun o e => oth l o (Ne.symm hSl) e) S .none _ hS₂ hSl (fun h' tk acc' c' hk hS' hacc => ?_) hn
 exact hR h' tk acc' c' (fun b o hb hb2 e => hk b o hb hb2 (oth b o hb e)) hS' hacc
theorem call_list_rev {Q : Value → Shared → Prop} {it l : Addr} {items : Array Value} (hh : A.handled = none) (hne : l ≠ it) (hit : s.heap.IsRevIter it l ((items.size : Int) - 1)) (hl : s.heap.IsList l items) (hn : items.size ≤ sizeLine)
  (hQ : ∀ h' tk acc' c', (∀ b o, b ≠ it → s.heap.get? b = some o → h'.get? b = some o) →
   h'.get? s.heap.objs.size = some { cls := .type "list", dict := none, data := .seq acc' c', slots := #[] } → ItemsOf (fun i v => items[items.size - 1 - i]? = some v) acc' items.size → Q (.ref s.heap.objs.size) { s with heap := h', toks := tk }) :
  wpAny (model prog w) A (call (.type "list") [.ref it]) Q E s := by
 refine callType_codes (Q₁ := fun obj s₁ => obj = .ref s.heap.objs.size ∧ s₁ = { s with heap := s.heap.push { cls := .type "list", data := .seq #[] } }) F.called_list (F.typeCall_list_1 _) F.entry_list_init
  (code_list_new _ ⟨rfl, rfl⟩) fun obj s₁ h₁ => ?_
 obtain ⟨rfl, rfl⟩ := h₁
 have hS : (s.heap.push { cls := .type "list", data := .seq #[] }).get? s.heap.objs.size = some { cls := .type "list", data := .seq #[] } := Heap.get?_push_size _ rfl
 have hSl : s.heap.objs.size ≠ l := fun e => by
  obtain ⟨o, ho, _⟩ := id hl
  rw [← e] at ho
  exact Nat.lt_irrefl _ (Heap.lt_size ho)
 refine ⟨⟨_, hS, rfl⟩, F.args_list_init_2 _ _, list_init_rev (A := A.in1) hh hne (hit.at fun o e => Heap.get?_push_of_some _ e) (hl.at fun o e => Heap.get?_push_of_some _ e) _ hS hSl (fun h' tk acc' c' hk hS' hacc => ?_) hn⟩
 exact ⟨rfl, hQ h' tk acc' c' (fun b o hb e => hk b o (Nat.ne_of_lt (Heap.lt_size e)) hb (Heap.get?_push_of_some _ e)) hS' hacc⟩
end
end PySem
namespace L2
open PySem PySem.Spec PyProof.Rows
section
variable {X : Cx}
def tLRev (K : PySem.W.Frag) (t : TA) : TE := fun σ H Q => t σ H fun vs H1 => ∃ a xs, vs = [.ref a] ∧ SqL K H1 a xs ∧ ∀ p, H1 p = none → Q (.ref p) (upd H1 p (.lst xs.reverse))
theorem pe_lrev {e : Expr} {ta : TA} {p p' pos pos' : Pos} (hc : X.calm = true) (hg : Gl X "list") (hm : X.mg "list" = none) (hg' : Gl X "reversed") (hm' : X.mg "reversed" = none) (ha : PA X [e] ta)
  (hs : starEach [e] X.env = [(false, eval e X.env)] := by rfl) (hs' : starEach [.Call (.Name "reversed" p') [e] [] pos'] X.env = [(false, eval (.Call (.Name "reversed" p') [e] [] pos') X.env)] := by rfl) :
  PE X (.Call (.Name "list" p) [.Call (.Name "reversed" p') [e] [] pos'] [] pos) (tLRev X.K ta) := by
 intro pins s σ H Q I h
 refine wpAny_Call_Name_kw (ld_blt I hg hm boot_list ?_)
 refine PyProof.Rows.callWith_type1 ?_ hs' rfl
 rw [hs']
 show wpAny _ _ (spliced ((false, eval (.Call (.Name "reversed" p') [e] [] pos') X.env) :: backTo pos [])) _ _ s
 refine Calls.spliced_cons ?_
 refine wpAny_Call_Name_kw (ld_blt I hg' hm' boot_reversed ?_)
 refine PyProof.Rows.callWith_type1 (thn (ha pos' pins s σ H _ I h) fun us s1 ⟨vs, H1, I1, r1, q1⟩ => ?_) hs rfl
 obtain ⟨a, xs, rfl, hq, q⟩ := q1
 obtain ⟨u, rfl, rx⟩ := r1.one
 cases (show u = Value.ref a from rx)
 obtain ⟨its, rv, pl, hz⟩ := I1.list hq
 refine call_reversed_list pl.isList ?_
 refine Calls.spliced_nil ?_
 have old : ∀ b o, s1.heap.get? b = some o → (s1.heap.push (revObj a ((its.toArray.size : Int) - 1))).get? b = some o := fun b o e => Heap.get?_push_of_some _ e
 have hp : a ≠ s1.heap.objs.size := fun e => by
  obtain ⟨o, n, e1, _⟩ := pl
  exact absurd (Heap.lt_size e1) (by rw [e]; exact Nat.lt_irrefl _)
 refine call_list_rev (it := s1.heap.objs.size) (l := a) (items := its.toArray) (I1.ok.hd hc) hp ⟨_, Heap.get?_push_size _ rfl, rfl, rfl⟩ (pl.isList.at fun o e => old a o e) (by have := rv.length; rw [List.size_toArray]; omega) fun h' tk acc' c' hk hS' hacc => ?_
 have kp : ∀ b o, s1.heap.get? b = some o → h'.get? b = some o := fun b o e => hk b o (fun z => absurd (Heap.lt_size e) (by rw [z]; exact Nat.lt_irrefl _)) (old b o e)
 have hle : s1.heap.objs.size ≤ (s1.heap.push (revObj a ((its.toArray.size : Int) - 1))).objs.size := by rw [Heap.size_push]; exact Nat.le_succ _
 obtain ⟨n1, n2⟩ := hacc
 have ea : acc'.toList = its.reverse := by
  refine List.ext_getElem? fun i => ?_
  rw [Array.getElem?_toList]
  by_cases c : i < its.length
  ·have hi : i < acc'.size := by rw [n1, List.size_toArray]; exact c
   have := n2 i _ (Array.getElem?_eq_getElem hi)
   rw [Array.getElem?_eq_getElem hi, List.getElem?_reverse c, ← this, List.size_toArray]
   simp
  ·rw [Array.getElem?_eq_none (by rw [n1, List.size_toArray]; omega), List.getElem?_eq_none (by rw [List.length_reverse]; omega)]
 refine ⟨.ref _, _, I1.laid (t' := tk) (o := .lst xs.reverse) kp hle ?_, rfl, q _ (I1.hok.fresh hle)⟩
 exact ⟨by rw [List.length_reverse]; exact hz, its.reverse, c', rv.reverse, by rw [← ea]; simpa using hS'⟩
def rInE {α : Type} [DecidableEq α] (K : PySem.W.Frag) (R : Hp → V → α → Prop) : R2 := fun x y H Q => ∃ p xs ds d, y = .ref p ∧ SqL K H p xs ∧ Paired (R H) xs ds ∧ R H x d ∧ Q (.bl (decide (d ∈ ds))) H
theorem op_inE {α : Type} [DecidableEq α] {R : Hp → V → α → Prop} {dd : Nat} (hR : RpE X.K R dd) (hu : X.A.units + (dd + 1) < cLine) : OpR X (compareOp .In) (rInE X.K R) := by
 intro pins s σ H x y v u Q I rx ry h
 obtain ⟨p, xs, ds, d, rfl, hq, hD, hd, q⟩ := h
 cases (show u = Value.ref p from ry)
 obtain ⟨its, r, pl, hz⟩ := I.list hq
 have ld := hD.length
 have lr := r.length
 classical
 let f : Value → Bool := fun u' => decide (∃ (m : Nat) (c : α), its[m]? = some u' ∧ ds[m]? = some c ∧ c = d)
 have fe : ∀ (m : Nat) (u' : Value) (c : α), its[m]? = some u' → ds[m]? = some c → f u' = decide (c = d) := fun m u' c h1 h2 => by
  by_cases hc : c = d
  ·rw [decide_eq_true hc]
   exact decide_eq_true ⟨m, c, h1, h2, hc⟩
  ·rw [decide_eq_false hc]
   refine decide_eq_false fun ⟨m', c', g1, g2, g3⟩ => hc ?_
   have im : m < xs.length := by have := (List.getElem?_eq_some_iff.mp h1).1; omega
   have im' : m' < xs.length := by have := (List.getElem?_eq_some_iff.mp g1).1; omega
   obtain ⟨w1, e1, r1⟩ := r.get (List.getElem?_eq_getElem im)
   obtain ⟨w2, e2, r2⟩ := r.get (List.getElem?_eq_getElem im')
   rw [h1] at e1
   rw [g1] at e2
   cases e1
   cases e2
   have ex := relV_fn r1 r2
   have a1 := Paired.get hD m _ _ (List.getElem?_eq_getElem im) h2
   have a2 := Paired.get hD m' _ _ (List.getElem?_eq_getElem im') g2
   rw [ex] at a1
   rw [← g3]
   exact hR.inj rfl I a1 a2
 have en : its.toArray.any f = decide (d ∈ ds) := by
  rw [Bool.eq_iff_iff, decide_eq_true_iff, show its.toArray.any f = its.any f by simp, List.any_eq_true]
  constructor
  ·rintro ⟨u', hu', e⟩
   obtain ⟨m, c, _, g2, rfl⟩ := of_decide_eq_true e
   exact List.mem_of_getElem? g2
  ·intro hm
   obtain ⟨m, hm'⟩ := List.mem_iff_getElem?.mp hm
   have im : m < its.length := by have := (List.getElem?_eq_some_iff.mp hm').1; omega
   exact ⟨its[m], List.getElem_mem im, decide_eq_true ⟨m, d, List.getElem?_eq_getElem im, hm', rfl⟩⟩
 refine SeqAt.in_listAt f pl.isList (fun y' hy' => ?_) ⟨.bl _, H, I, rfl, by rw [en]; exact q⟩
 obtain ⟨m, hm1, hm2⟩ := Array.mem_iff_getElem.mp hy'
 have im : m < its.length := by simpa using hm1
 have g : its[m]? = some y' := by
  rw [List.getElem?_eq_getElem im]
  congr 1
 have g2 : ds[m]? = some (ds[m]'(by omega)) := List.getElem?_eq_getElem _
 have g1 : xs[m]? = some (xs[m]'(by omega)) := List.getElem?_eq_getElem _
 obtain ⟨w1, e1, r1⟩ := r.get g1
 rw [g] at e1
 cases e1
 rw [fe _ _ _ g g2]
 exact hR.eq (by rfl) I (by rw [in1_units]; omega) (Paired.get hD m _ _ g1 g2) hd r1 rx
theorem ints_of : ∀ {ns : List Int} {us : List Value}, Vals (ns.map V.int) us → (∀ v ∈ us, ∃ a t, v = Value.int a t) ∧ numsOf us = ns
 | [], [], _ => ⟨fun _ h => (nomatch h), rfl⟩
 | n :: ns, u :: us, .cons r t => by
  obtain ⟨h1, h2⟩ := ints_of t
  obtain ⟨tk, rfl⟩ := r
  refine ⟨fun v hv => ?_, ?_⟩
  ·rcases List.mem_cons.mp hv with e | e
   ·exact ⟨n, tk, e⟩
   ·exact h1 v e
  ·show n :: numsOf us = n :: ns
   rw [h2]
theorem call_sum (hc : X.calm = true) : CallR X (.builtin "sum") (fun xs H Q => ∃ (p : Addr) (ns : List Int), xs = [.ref p] ∧ SqL X.K H p (ns.map V.int) ∧ Q (.int ns.sum) H) := by
 intro pins s σ H xs us Q I r h
 obtain ⟨p, ns, rfl, hq, q⟩ := h
 obtain ⟨u, rfl, rx⟩ := r.one
 cases (show u = Value.ref p from rx)
 obtain ⟨its, rv, pl, hz⟩ := I.list hq
 obtain ⟨ai, en⟩ := ints_of rv
 obtain ⟨zs, ez⟩ := (show AllInts its.toArray from fun v hv => ai v (by simpa using hv)).items
 have e1 : numsOf its = zs.toList.map (·.1) := by
  rw [← nums_intItems, ← ez]
 have hl := pl.isList
 rw [ez] at hl
 refine sum_intListG (I.ok.hd hc) hl fun h' tk t' hk => ?_
 rw [preSum_eq, List.take_of_length_le (by simp), ← e1, en]
 exact ⟨.int ns.sum, H, I.kept (h' := h') (t' := tk) hk, ⟨t', rfl⟩, q⟩
end
end L2
namespace FK
theorem mw_grid {p : Nat} {S : Steps} (ok : TsOk p S) {a b : Rat} {h m D : Nat} (a0 : 0 ≤ a) (ab : a < b) (b1 : b ≤ 1) (h0 : 0 < h) (hm : h < m) (m8 : m ≤ 8) (ga : Gr D a) (gb : Gr D b) :
  ∃ w : Nat, 0 < w ∧ w ≤ 8000000 ∧ Gr (D * w) (mw S a b h m) := by
 have m0 : 0 < m := by omega
 obtain ⟨f0, f1⟩ := frac_in h0 hm
 have w0 : 0 < wd S (a, b) := by
  have := F_smono ok a0 ab b1
  show 0 < F S b - F S a
  grind
 obtain ⟨q0, q1⟩ := part_lt w0 f0 f1
 have fb := F_le ok b1
 have wd' : wd S (a, b) = F S b - F S a := rfl
 have lt1 : F S a + wd S (a, b) * ((h : Rat) / (m : Rat)) < 1 := by grind
 have fa := F_nn ok a
 have tp := ok.tp
 have g : Gr (D * m * p) ((F S a + wd S (a, b) * ((h : Rat) / (m : Rat))) * tot S) := by
  have e : (F S a + wd S (a, b) * ((h : Rat) / (m : Rat))) * tot S = A 0 S a + (A 0 S b - A 0 S a) * ((h : Rat) / (m : Rat)) := by
   rw [wd']
   unfold F
   have : tot S ≠ 0 := by grind
   grind
  rw [e]
  have g1 : Gr (D * p) (A 0 S a) := A_gr (Gr.zero _) (fun z hz => (ok.gr z hz).up') ga.up
  have g2 : Gr (D * p) (A 0 S b) := A_gr (Gr.zero _) (fun z hz => (ok.gr z hz).up') gb.up
  have g3 : Gr m ((h : Rat) / (m : Rat)) := by
   have := nfrac_gr m0 (h : Int)
   rw [Rat.intCast_natCast] at this
   exact this
  have g4 := Gr.mul (Gr.sub g2 g1) g3
  have ed : D * m * p = D * p * m := Nat.mul_right_comm D m p
  rw [ed]
  exact Gr.add g1.up g4
 obtain ⟨x, e1, x0, x1, fx, w, w0', w1, gx⟩ := at_some ok (E := D * m) (by grind) (Rat.le_of_lt lt1) g
 have em : mw S a b h m = x := by
  unfold mw mk
  rw [e1]
  rfl
 rw [em]
 refine ⟨m * p * w, Nat.mul_pos (Nat.mul_pos m0 ok.pos) w0', ?_, ?_⟩
 ·have a1 : m * p ≤ 8 * 1000 := Nat.mul_le_mul m8 ok.few
  have a2 : m * p * w ≤ 8 * 1000 * 1000 := Nat.mul_le_mul a1 w1
  omega
 ·rw [show D * (m * p * w) = D * m * p * w by rw [← Nat.mul_assoc, ← Nat.mul_assoc]]
  exact gx
theorem trim_facts {p : Nat} {S : Steps} (ok : TsOk p S) {a b : Rat × Rat} {D : Nat} (a0 : 0 ≤ a.1) (ab : a.1 < a.2) (a1 : a.2 ≤ 1) (b0 : 0 ≤ b.1) (bb : b.1 < b.2) (b1 : b.2 ≤ 1) (le : wd S b ≤ wd S a) (ga : Gr D a.1) (gb : Gr D b.1) (gb' : Gr D b.2) :
  rch (wl S) (F S a.1 + wd S b) = some (mk S a.1 (wd S b)) ∧ a.1 < mk S a.1 (wd S b) ∧ mk S a.1 (wd S b) ≤ a.2 ∧ F S (mk S a.1 (wd S b)) = F S a.1 + wd S b ∧ 0 < wd S b ∧ F S a.1 + wd S b ≤ 1 ∧ ∃ w : Nat, 0 < w ∧ w ≤ 1000000 ∧ Gr (D * w) (mk S a.1 (wd S b)) := by
 have wa : wd S a = F S a.2 - F S a.1 := rfl
 have wb : wd S b = F S b.2 - F S b.1 := rfl
 have w0 : 0 < wd S b := by
  have := F_smono ok b0 bb b1
  rw [wb]
  grind
 have fb := F_le ok a1
 have le1 : F S a.1 + wd S b ≤ 1 := by grind
 have fa := F_nn ok a.1
 have tp := ok.tp
 have g : Gr (D * p) ((F S a.1 + wd S b) * tot S) := by
  have e : (F S a.1 + wd S b) * tot S = A 0 S a.1 + (A 0 S b.2 - A 0 S b.1) := by
   rw [wb]
   unfold F
   have : tot S ≠ 0 := by grind
   grind
  rw [e]
  have g1 : Gr (D * p) (A 0 S a.1) := A_gr (Gr.zero _) (fun z hz => (ok.gr z hz).up') ga.up
  have g2 : Gr (D * p) (A 0 S b.1) := A_gr (Gr.zero _) (fun z hz => (ok.gr z hz).up') gb.up
  have g3 : Gr (D * p) (A 0 S b.2) := A_gr (Gr.zero _) (fun z hz => (ok.gr z hz).up') gb'.up
  exact Gr.add g1 (Gr.sub g3 g2)
 obtain ⟨x, e1, x0, x1, fx, w, w0', w1, gx⟩ := at_some ok (E := D) (by grind) le1 g
 have em : mk S a.1 (wd S b) = x := by
  unfold mk
  rw [e1]
  rfl
 rw [em]
 refine ⟨e1, F_lt ok (by grind), F_inv ok (x := a.2) (y := x) (by grind) x1 (by grind), fx, w0, le1, p * w, Nat.mul_pos ok.pos w0', ?_, ?_⟩
 ·have := Nat.mul_le_mul ok.few w1
  omega
 ·rw [← Nat.mul_assoc]
  exact gx
theorem Ch.apart : ∀ {C : List (Rat × Rat)} {a b : Rat}, Ch a C b → C.Pairwise fun x y => x.2 ≤ y.1
 | [], _, _, _ => .nil
 | _ :: _, _, _, h => List.pairwise_cons.mpr ⟨fun q hq => Ch.ge h.2.2 q hq, Ch.apart h.2.2⟩
theorem Ch.lt : ∀ {C : List (Rat × Rat)} {a b : Rat}, Ch a C b → ∀ p ∈ C, p.1 < p.2
 | [], _, _, _, p, h => nomatch h
 | q :: C, _, _, h, p, hp => by
  rcases List.mem_cons.mp hp with z | z
  ·rw [z]; exact h.2.1
  ·exact Ch.lt h.2.2 p z
theorem Ch.two {C : List (Rat × Rat)} {a b : Rat} {p q : Rat × Rat} {R : List (Rat × Rat)} (h : Ch a C b) (hp : C.Perm (p :: q :: R)) : p.2 ≤ q.1 ∨ q.2 ≤ p.1 := by
 have h1 : C.Pairwise fun x y => x.2 ≤ y.1 ∨ y.2 ≤ x.1 := (Ch.apart h).imp fun z => .inl z
 have h2 := (List.Perm.pairwise_iff (fun z => z.symm) hp).mp h1
 exact (List.pairwise_cons.mp h2).1 q List.mem_cons_self
theorem Ch.merge : ∀ {C : List (Rat × Rat)} {a b x y z : Rat} {R : List (Rat × Rat)}, Ch a C b → x < y → y < z → C.Perm ((x, y) :: (y, z) :: R) → ∃ C', Ch a C' b ∧ C'.Perm ((x, z) :: R)
 | [], a, b, x, y, z, R, _, _, _, hp => by
  have := hp.length_eq
  simp at this
 | q :: C, a, b, x, y, z, R, h, xy, yz, hp => by
  obtain ⟨h1, h2, h3⟩ := h
  by_cases e : q = (x, y)
  ·subst e
   have hp' := (List.perm_cons _).mp hp
   cases C with
   | nil =>
    have := hp'.length_eq
    simp at this
   | cons q2 C2 =>
    obtain ⟨g1, g2, g3⟩ := h3
    have m : (y, z) ∈ q2 :: C2 := hp'.mem_iff.mpr List.mem_cons_self
    have e2 : q2 = (y, z) := by
     rcases List.mem_cons.mp m with w | w
     ·exact w.symm
     ·have k : q2.2 ≤ y := Ch.ge g3 _ w
      have k2 : q2.1 = y := g1
      grind
    subst e2
    have hp2 := (List.perm_cons _).mp hp'
    exact ⟨(x, z) :: C2, ⟨h1, by show x < z; grind, g3⟩, hp2.cons _⟩
  ·have hm : q ∈ (x, y) :: (y, z) :: R := hp.mem_iff.mp List.mem_cons_self
   have mxy : (x, y) ∈ q :: C := hp.mem_iff.mpr List.mem_cons_self
   have mxy' : (x, y) ∈ C := by
    rcases List.mem_cons.mp mxy with w | w
    ·exact absurd w.symm e
    ·exact w
   have gx : q.2 ≤ x := Ch.ge h3 _ mxy'
   have hq : q ∈ R := by
    rcases List.mem_cons.mp hm with w | w
    ·exact absurd w e
    ·rcases List.mem_cons.mp w with w | w
     ·subst w
      have : z ≤ x := gx
      grind
     ·exact w
   have er := List.perm_cons_erase hq
   have hp2 : (q :: C).Perm (q :: ((x, y) :: (y, z) :: R.erase q)) := hp.trans (((er.cons _).cons _).trans (List.perm_middle (l₁ := [(x, y), (y, z)])))
   obtain ⟨C', c1, c2⟩ := Ch.merge h3 xy yz ((List.perm_cons _).mp hp2)
   exact ⟨q :: C', ⟨h1, h2, c1⟩, (c2.cons q).trans ((List.Perm.swap ..).trans (er.symm.cons _))⟩
theorem Ch.split : ∀ {C : List (Rat × Rat)} {a b m : Rat} {p : Rat × Rat} {R : List (Rat × Rat)}, Ch a C b → p.1 < m → m < p.2 → C.Perm (p :: R) → ∃ C', Ch a C' b ∧ C'.Perm ((p.1, m) :: (m, p.2) :: R)
 | [], a, b, m, p, R, _, _, _, hp => by
  have := hp.length_eq
  simp at this
 | q :: C, a, b, m, p, R, h, pm, mp, hp => by
  obtain ⟨h1, h2, h3⟩ := h
  by_cases e : q = p
  ·subst e
   exact ⟨(q.1, m) :: (m, q.2) :: C, ⟨h1, pm, rfl, mp, h3⟩, (((List.perm_cons _).mp hp).cons _).cons _⟩
  ·have hm : q ∈ p :: R := hp.mem_iff.mp List.mem_cons_self
   have hq : q ∈ R := by
    rcases List.mem_cons.mp hm with w | w
    ·exact absurd w e
    ·exact w
   have er := List.perm_cons_erase hq
   have hp2 : (q :: C).Perm (q :: (p :: R.erase q)) := hp.trans ((er.cons _).trans (List.Perm.swap ..))
   obtain ⟨C', c1, c2⟩ := Ch.split h3 pm mp ((List.perm_cons _).mp hp2)
   exact ⟨q :: C', ⟨h1, h2, c1⟩, (c2.cons q).trans ((List.perm_middle (l₁ := [(p.1, m), (m, p.2)])).symm.trans ((er.symm.cons _).cons _))⟩
def jn (p q : Rat × Rat) : List (Rat × Rat) := if p.2 < q.1 then [p, q] else if p.2 = q.1 then [(p.1, q.2)] else if q.2 < p.1 then [q, p] else [(q.1, p.2)]
theorem jn_len (p q : Rat × Rat) : (jn p q).length ≤ 2 := by
 unfold jn
 split
 ·exact Nat.le_refl _
 ·split
  ·exact Nat.le_succ _
  ·split
   ·exact Nat.le_refl _
   ·exact Nat.le_succ _
theorem jn_wo (S : Steps) {p q : Rat × Rat} (ap : p.2 ≤ q.1 ∨ q.2 ≤ p.1) : Wo S (jn p q) = wd S p + wd S q := by
 have wp : wd S p = F S p.2 - F S p.1 := rfl
 have wq : wd S q = F S q.2 - F S q.1 := rfl
 unfold jn
 by_cases c1 : p.2 < q.1
 ·rw [if_pos c1]
  show (F S p.2 - F S p.1) + ((F S q.2 - F S q.1) + 0) = _
  grind
 ·rw [if_neg c1]
  by_cases c2 : p.2 = q.1
  ·rw [if_pos c2]
   show (F S q.2 - F S p.1) + 0 = _
   rw [wp, wq, c2]
   grind
  ·rw [if_neg c2]
   by_cases c3 : q.2 < p.1
   ·rw [if_pos c3]
    show (F S q.2 - F S q.1) + ((F S p.2 - F S p.1) + 0) = _
    grind
   ·rw [if_neg c3]
    have e : q.2 = p.1 := by grind
    show (F S p.2 - F S q.1) + 0 = _
    rw [wp, wq, e]
    grind
theorem Ch.join {C : List (Rat × Rat)} {a b : Rat} {p q : Rat × Rat} {R : List (Rat × Rat)} (h : Ch a C b) (hp : C.Perm (p :: q :: R)) : ∃ C', Ch a C' b ∧ C'.Perm (jn p q ++ R) := by
 have ap := Ch.two h hp
 have lp := Ch.lt h p (hp.mem_iff.mpr List.mem_cons_self)
 have lq := Ch.lt h q (hp.mem_iff.mpr (List.mem_cons_of_mem _ List.mem_cons_self))
 unfold jn
 by_cases c1 : p.2 < q.1
 ·rw [if_pos c1]
  exact ⟨C, h, hp⟩
 ·rw [if_neg c1]
  by_cases c2 : p.2 = q.1
  ·rw [if_pos c2]
   obtain ⟨x, y⟩ := p
   obtain ⟨y', z⟩ := q
   have c2' : y = y' := c2
   subst c2'
   exact Ch.merge h lp lq hp
  ·rw [if_neg c2]
   by_cases c3 : q.2 < p.1
   ·rw [if_pos c3]
    exact ⟨C, h, hp.trans (List.Perm.swap ..)⟩
   ·rw [if_neg c3]
    obtain ⟨y, z⟩ := p
    obtain ⟨x, y'⟩ := q
    have c2' : y' = y := by
     have k : y ≤ y' ∨ True := .inr trivial
     have k1 : z ≤ x ∨ y' ≤ y := ap
     have k2 : ¬ z < x := c1
     have k3 : ¬ z = x := c2
     have k4 : ¬ y' < y := c3
     grind
    subst c2'
    exact Ch.merge h lq lp (hp.trans (List.Perm.swap ..))
theorem Ch.wo (S : Steps) : ∀ {C : List (Rat × Rat)} {a b : Rat}, Ch a C b → Wo S C = F S b - F S a
 | [], a, b, h => by
  have e : a = b := h
  show (0 : Rat) = _
  rw [e]
  grind
 | q :: C, a, b, h => by
  have ih := Ch.wo S h.2.2
  have e : q.1 = a := h.1
  show (F S q.2 - F S q.1) + Wo S C = _
  rw [ih, e]
  grind
theorem Wo_perm (S : Steps) {L M : List (Rat × Rat)} (h : L.Perm M) : Wo S L = Wo S M := by
 induction h with
 | nil => rfl
 | cons x _ ih =>
  show _ + Wo S _ = _ + Wo S _
  rw [ih]
 | swap x y l =>
  show _ + (_ + Wo S l) = _ + (_ + Wo S l)
  grind
 | trans _ _ h1 h2 => rw [h1, h2]
theorem Wo_append (S : Steps) : ∀ (L M : List (Rat × Rat)), Wo S (L ++ M) = Wo S L + Wo S M
 | [], M => by
  show Wo S M = 0 + Wo S M
  grind
 | q :: L, M => by
  show (F S q.2 - F S q.1) + Wo S (L ++ M) = (F S q.2 - F S q.1) + Wo S L + Wo S M
  rw [Wo_append S L M]
  grind
structure SpAt (D : Nat) (p : Rat × Rat) : Prop where
 x0 : 0 ≤ p.1
 lt : p.1 < p.2
 y1 : p.2 ≤ 1
 g1 : Gr D p.1
 g2 : Gr D p.2
theorem SpAt.up {D E : Nat} {p : Rat × Rat} (h : SpAt D p) : SpAt (D * E) p := ⟨h.x0, h.lt, h.y1, h.g1.up, h.g2.up⟩
theorem SpAt.wn {D p : Nat} {S : Steps} {q : Rat × Rat} (h : SpAt D q) (ok : TsOk p S) : 0 < wd S q := by
 have := F_smono ok h.x0 h.lt h.y1
 show 0 < F S q.2 - F S q.1
 grind
structure Bs (S0 S1 S2 : Steps) (b0 b1 b2 : Rat × Rat) (r : List (Rat × Rat)) : Prop where
 ch : ∃ C, Ch 0 C 1 ∧ C.Perm (b0 :: b1 :: b2 :: r)
 w0 : wd S0 b0 = 1 / 3
 w1 : wd S0 b1 ≤ 1 / 3
 w2 : wd S0 b2 ≤ 1 / 3
 u0 : wd S1 b0 ≤ wd S1 b1
 u2 : wd S1 b2 ≤ wd S1 b1
 v0 : wd S2 b0 ≤ wd S2 b2
 v1 : wd S2 b1 ≤ wd S2 b2
structure Rs (S0 S1 S2 : Steps) (P0 P1 P2 : List (Rat × Rat)) : Prop where
 ch : ∃ C, Ch 0 C 1 ∧ C.Perm (P0 ++ (P1 ++ P2))
 l0 : P0.length ≤ 2
 l1 : P1.length ≤ 2
 l2 : P2.length ≤ 2
 a1 : Wo S0 P1 ≤ Wo S0 P0
 a2 : Wo S0 P2 ≤ Wo S0 P0
 b0 : Wo S1 P0 ≤ Wo S1 P1
 b2 : Wo S1 P2 ≤ Wo S1 P1
 c0 : Wo S2 P0 ≤ Wo S2 P2
 c1 : Wo S2 P1 ≤ Wo S2 P2
theorem Rs.sum {S0 S1 S2 : Steps} {P0 P1 P2 : List (Rat × Rat)} (h : Rs S0 S1 S2 P0 P1 P2) {p : Nat} {S : Steps} (ok : TsOk p S) : Wo S P0 + (Wo S P1 + Wo S P2) = 1 := by
 obtain ⟨C, c, hp⟩ := h.ch
 have e := Ch.wo S c
 rw [Wo_perm S hp, Wo_append, Wo_append, F_one ok, F_zero ok] at e
 grind
theorem wo1 (S : Steps) (p : Rat × Rat) : Wo S [p] = wd S p := by
 show (F S p.2 - F S p.1) + 0 = F S p.2 - F S p.1
 grind
theorem Bs.rs {S0 S1 S2 : Steps} {b0 b1 b2 : Rat × Rat} (h : Bs S0 S1 S2 b0 b1 b2 []) : Rs S0 S1 S2 [b0] [b1] [b2] := by
 have a := h.w0
 have b := h.w1
 have c := h.w2
 refine ⟨h.ch, Nat.le_succ _, Nat.le_succ _, Nat.le_succ _, ?_, ?_, ?_, ?_, ?_, ?_⟩ <;> rw [wo1, wo1]
 ·grind
 ·grind
 ·exact h.u0
 ·exact h.u2
 ·exact h.v0
 ·exact h.v1
theorem envy0 {b0 b1 b2 q0 q1 q2 r t : Rat} (e0 : b0 = t) (l1 : b1 ≤ t) (l2 : b2 ≤ t) (n0 : 0 ≤ q0) (n1 : 0 ≤ q1) (n2 : 0 ≤ q2) (sum : q0 + (q1 + q2) = r) (hd : (b1 + r = t ∧ q2 ≤ q0) ∨ (b2 + r = t ∧ q1 ≤ q0)) : b1 + q1 ≤ b0 + q0 ∧ b2 + q2 ≤ b0 + q0 := by
 rcases hd with ⟨a, b⟩ | ⟨a, b⟩ <;> exact ⟨by grind, by grind⟩
theorem envy1 {b b' q q' : Rat} (h : b ≤ b') (k : q ≤ q') : b + q ≤ b' + q' := by grind
theorem Bs.rest {S0 S1 S2 : Steps} {b0 b1 b2 q0 q1 q2 rr : Rat × Rat} (h : Bs S0 S1 S2 b0 b1 b2 [q0, q1, q2]) {p0 : Nat} (ok0 : TsOk p0 S0) (sum0 : wd S0 q0 + (wd S0 q1 + wd S0 q2) = wd S0 rr)
  (hd : (wd S0 b1 + wd S0 rr = 1 / 3 ∧ wd S0 q2 ≤ wd S0 q0 ∧ (wd S1 q0 ≤ wd S1 q1 ∧ wd S1 q2 ≤ wd S1 q1) ∧ (wd S2 q0 = wd S2 q2 ∧ wd S2 q1 = wd S2 q2)) ∨
   (wd S0 b2 + wd S0 rr = 1 / 3 ∧ wd S0 q1 ≤ wd S0 q0 ∧ (wd S2 q0 ≤ wd S2 q2 ∧ wd S2 q1 ≤ wd S2 q2) ∧ (wd S1 q0 = wd S1 q1 ∧ wd S1 q2 = wd S1 q1))) :
  Rs S0 S1 S2 (jn b0 q0) (jn b1 q1) (jn b2 q2) := by
 obtain ⟨C, c, hp⟩ := h.ch
 have pos : ∀ q ∈ C, 0 ≤ wd S0 q := fun q hq => by
  have := F_mono ok0 (Rat.le_of_lt (Ch.lt c q hq))
  show 0 ≤ F S0 q.2 - F S0 q.1
  grind
 have n0 := pos q0 (hp.mem_iff.mpr (by simp))
 have n1 := pos q1 (hp.mem_iff.mpr (by simp))
 have n2 := pos q2 (hp.mem_iff.mpr (by simp))
 have p0' : C.Perm (b0 :: q0 :: [b1, q1, b2, q2]) := hp.trans (by
  show List.Perm (b0 :: ([b1, b2] ++ q0 :: [q1, q2])) _
  refine (List.perm_middle.cons b0).trans ?_
  show List.Perm (b0 :: q0 :: b1 :: b2 :: q1 :: [q2]) _
  exact (((List.Perm.swap ..).cons b1).cons q0).cons b0)
 have e0 := Ch.two c p0'
 obtain ⟨C1, c1, hp1⟩ := Ch.join c p0'
 have p1' : C1.Perm (b1 :: q1 :: ([b2, q2] ++ jn b0 q0)) := hp1.trans (by
  refine List.perm_append_comm.trans ?_
  exact List.Perm.refl _)
 have e1 := Ch.two c1 p1'
 obtain ⟨C2, c2, hp2⟩ := Ch.join c1 p1'
 have p2' : C2.Perm (b2 :: q2 :: (jn b0 q0 ++ jn b1 q1)) := hp2.trans (by
  refine List.perm_append_comm.trans ?_
  show List.Perm (b2 :: q2 :: (jn b0 q0 ++ jn b1 q1)) _
  exact List.Perm.refl _)
 have e2 := Ch.two c2 p2'
 obtain ⟨C3, c3, hp3⟩ := Ch.join c2 p2'
 have p3 : C3.Perm (jn b0 q0 ++ (jn b1 q1 ++ jn b2 q2)) := hp3.trans (by
  refine List.perm_append_comm.trans ?_
  rw [List.append_assoc])
 have z0 : (wd S0 b1 + wd S0 rr = 1 / 3 ∧ wd S0 q2 ≤ wd S0 q0) ∨ (wd S0 b2 + wd S0 rr = 1 / 3 ∧ wd S0 q1 ≤ wd S0 q0) := hd.imp (fun z => ⟨z.1, z.2.1⟩) fun z => ⟨z.1, z.2.1⟩
 obtain ⟨a1, a2⟩ := envy0 h.w0 h.w1 h.w2 n0 n1 n2 sum0 z0
 have z1 : wd S1 q0 ≤ wd S1 q1 ∧ wd S1 q2 ≤ wd S1 q1 := by
  rcases hd with z | z
  ·exact z.2.2.1
  ·exact ⟨(by rw [z.2.2.2.1]; exact Rat.le_refl), (by rw [z.2.2.2.2]; exact Rat.le_refl)⟩
 have z2 : wd S2 q0 ≤ wd S2 q2 ∧ wd S2 q1 ≤ wd S2 q2 := by
  rcases hd with z | z
  ·exact ⟨(by rw [z.2.2.2.1]; exact Rat.le_refl), (by rw [z.2.2.2.2]; exact Rat.le_refl)⟩
  ·exact z.2.2.1
 refine ⟨⟨C3, c3, p3⟩, jn_len _ _, jn_len _ _, jn_len _ _, ?_, ?_, ?_, ?_, ?_, ?_⟩
 ·rw [jn_wo _ e1, jn_wo _ e0]; exact a1
 ·rw [jn_wo _ e2, jn_wo _ e0]; exact a2
 ·rw [jn_wo _ e0, jn_wo _ e1]; exact envy1 h.u0 z1.1
 ·rw [jn_wo _ e2, jn_wo _ e1]; exact envy1 h.u2 z1.2
 ·rw [jn_wo _ e0, jn_wo _ e2]; exact envy1 h.v0 z2.1
 ·rw [jn_wo _ e1, jn_wo _ e2]; exact envy1 h.v1 z2.2
end FK
namespace FQ
open PySem L2 FK
def top (i : Nat) : Stmt := PySem.Challenge.pw_fairknife_k09_whole_three.main.body.getD i (.Pass ⟨0, 0, 0, 0⟩)
abbrev s_is_whole : Stmt := top 8
abbrev s_greatest_divisor : Stmt := top 9
abbrev s_is_fraction : Stmt := top 10
abbrev s_made : Stmt := top 11
abbrev s_plus : Stmt := top 12
abbrev s_minus : Stmt := top 13
abbrev s_times : Stmt := top 14
abbrev s_over : Stmt := top 15
abbrev s_below : Stmt := top 16
abbrev s_ranked : Stmt := top 17
abbrev s_apart : Stmt := top 19
abbrev s_reaches : Stmt := top 20
abbrev s_crossing : Stmt := top 21
abbrev s_reached : Stmt := top 22
abbrev s_is_span : Stmt := top 26
abbrev s_check_piece : Stmt := top 27
abbrev s_turns : Stmt := top 28
abbrev s_nearest : Stmt := top 29
abbrev s_combined : Stmt := top 30
abbrev s_joined : Stmt := top 31
abbrev s_check_step : Stmt := top 36
abbrev s_check_steps : Stmt := top 37
abbrev s_check_tastes : Stmt := top 38
abbrev s_worth_line : Stmt := top 39
abbrev m_Taste___init__ : Stmt := inClass (top 40) 0
abbrev m_Taste_steps : Stmt := inClass (top 40) 1
abbrev m_Taste_worth_up_to : Stmt := inClass (top 40) 3
abbrev m_Taste_point_at : Stmt := inClass (top 40) 4
abbrev m_Taste_span_worth : Stmt := inClass (top 40) 5
abbrev m_Taste_worth : Stmt := inClass (top 40) 6
abbrev m_Taste_mark : Stmt := inClass (top 40) 7
abbrev s_check_takers : Stmt := top 43
abbrev s_mark_within : Stmt := top 44
abbrev s_in_thirds : Stmt := top 45
abbrev s_dearest : Stmt := top 46
abbrev s_take_dearest : Stmt := top 47
abbrev s_trimmed : Stmt := top 48
abbrev s_deal_rest : Stmt := top 49
abbrev s_deal_without_envy : Stmt := top 50
abbrev m_Three_deal : Stmt := inClass (top 52) 0
abbrev s__law_cell_at : Stmt := top 54
abbrev s__law_mixed : Stmt := top 55
abbrev s__law_low : Stmt := top 56
abbrev s__law_less : Stmt := top 57
abbrev s__law_sum : Stmt := top 58
abbrev s__law_left : Stmt := top 59
abbrev s__law_steps_by : Stmt := top 60
abbrev s__law_area : Stmt := top 61
abbrev s__law_worth : Stmt := top 62
abbrev s__law_fraction : Stmt := top 63
abbrev s__law_piece : Stmt := top 64
abbrev s__law_dealt : Stmt := top 65
abbrev s_law : Stmt := top 66
end FQ
namespace FQ
open PySem L2 FK
def Fit (q : Rat) : Prop := 0 ≤ q ∧ Bd 1900 q
def FrQ (K : PySem.W.Frag) (H : Hp) (x : V) (q : Rat) : Prop := FrR K H x (fr q)
theorem FrQ.same {K : PySem.W.Frag} {H H' : Hp} {x : V} {q : Rat} (s : Same H H') (h : FrQ K H x q) : FrQ K H' x q := FrR.same s h
theorem FrQ.sq {K : PySem.W.Frag} {H : Hp} {x : V} {q : Rat} (h : FrQ K H x q) : ∃ p, x = .ref p ∧ SqT K H p [.int q.num, .int (q.den : Int)] := FrR.sq h
theorem FrQ.of {K : PySem.W.Frag} {H : Hp} {p : Addr} {a b : Int} {q : Rat} (h : SqT K H p [.int a, .int b]) (ha : a = q.num) (hb : b = (q.den : Int)) : FrQ K H (.ref p) q := ⟨p, _, _, rfl, h, by rw [ha]; rfl, by rw [hb]; rfl⟩
theorem rpe_fr {K : PySem.W.Frag} : RpE K (FrQ K) 1 where
 inj := fun hK I h1 h2 => fr_inj ((rpe_pair (d := 0) rpe_int rpe_int).inj hK I h1 h2)
 eq := fun {X pins σ H s A x y u v a b} hK I hu h1 h2 r1 r2 => by
  have := (rpe_pair (d := 0) rpe_int rpe_int).eq hK I hu h1 h2 r1 r2
  rw [fr_dec] at this
  exact this
abbrev CoQ (K : PySem.W.Frag) := rpPair K (FrQ K) (FrQ K)
theorem CoQ.same {K : PySem.W.Frag} {H H' : Hp} {x : V} {d : Rat × Rat} (s : Same H H') (h : CoQ K H x d) : CoQ K H' x d := by
 obtain ⟨p, y, z, rfl, q, h1, h2⟩ := h
 exact ⟨p, y, z, rfl, s.sqT q, h1.same s, h2.same s⟩
theorem Fit.nn {q : Rat} (h : Fit q) : 0 ≤ q.num := num_nn h.1
theorem Fit.s1 {q : Rat} (h : Fit q) : Sm q.num := .of_bits h.2.1 (by decide)
theorem Fit.s2 {q : Rat} (h : Fit q) : Sm (q.den : Int) := .of_bits (by rw [Int.natAbs_natCast]; exact h.2.2) (by decide)
theorem Fit.zero : Fit 0 := ⟨Rat.le_refl, by decide, by show (1 : Nat) < 2 ^ 1900; exact Nat.one_lt_two_pow (by decide)⟩
theorem Bd.fit {n : Nat} {q : Rat} (h : Bd n q) (h0 : 0 ≤ q) (hn : n ≤ 1900) : Fit q := ⟨h0, h.mono hn⟩
theorem sm_mul {a b : Int} {m n : Nat} (h1 : a.natAbs < 2 ^ m) (h2 : b.natAbs < 2 ^ n) (h : m + n ≤ 4000) : Sm (a * b) := .of_bits (n := m + n) (by rw [Int.natAbs_mul]; exact mul_lt_pow h1 h2) h
theorem Fit.dd {q r : Rat} (h1 : Fit q) (h2 : Fit r) : Sm ((q.den : Int) * (r.den : Int)) := sm_mul (m := 1900) (n := 1900) (by rw [Int.natAbs_natCast]; exact h1.2.2) (by rw [Int.natAbs_natCast]; exact h2.2.2) (by decide)
theorem Fit.dn {q r : Rat} (h1 : Fit q) (h2 : Fit r) : Sm ((q.den : Int) * r.num) := sm_mul (m := 1900) (n := 1900) (by rw [Int.natAbs_natCast]; exact h1.2.2) h2.2.1 (by decide)
def spWhole : Sp := fun vs H Q _ => ∃ i : Int, vs = [.int i] ∧ Q (.bl true) H
def spGcd : Sp := fun vs H Q _ => ∃ a b : Int, vs = [.int a, .int b] ∧ 0 ≤ a ∧ 0 ≤ b ∧ Q (.int (G a b)) H
def spMade : Sp := fun vs H Q _ => ∃ a b : Int, vs = [.int a, .int b] ∧ 0 ≤ a ∧ 0 < b ∧ Sm b ∧ ∀ p, H p = none → Q (.ref p) (upd H p (.tup [.int (lo a b), .int (hi a b)]))
def spMadeQ (K : PySem.W.Frag) : Sp := fun vs H Q _ => ∃ a b : Int, vs = [.int a, .int b] ∧ 0 ≤ a ∧ 0 < b ∧ Sm b ∧ ∀ v H', Same H H' → FrQ K H' v ((a : Rat) / (b : Rat)) → Q v H'
def spTwo (K : PySem.W.Frag) (f g : Int → Int → Int → Int → Int) : Sp := fun vs H Q _ => ∃ (p q : Addr) (a b c d : Int), vs = [.ref p, .ref q] ∧ SqT K H p [.int a, .int b] ∧ SqT K H q [.int c, .int d] ∧ (Sm a ∧ Sm b ∧ Sm c ∧ Sm d) ∧
 (0 ≤ f a b c d ∧ 0 < g a b c d ∧ Sm (g a b c d)) ∧ ∀ r, H r = none → Q (.ref r) (upd H r (.tup [.int (lo (f a b c d) (g a b c d)), .int (hi (f a b c d) (g a b c d))]))
def spOp (K : PySem.W.Frag) (f : Rat → Rat → Rat) (c : Rat → Rat → Prop) : Sp := fun vs H Q _ => ∃ (x y : V) (q r : Rat), vs = [x, y] ∧ FrQ K H x q ∧ FrQ K H y r ∧ Fit q ∧ Fit r ∧ c q r ∧ ∀ v H', Same H H' → FrQ K H' v (f q r) → Q v H'
abbrev spPlus (K : PySem.W.Frag) := spOp K (fun a b => a + b) (fun _ _ => True)
abbrev spMinus (K : PySem.W.Frag) := spOp K (fun a b => a - b) (fun a b => b ≤ a)
abbrev spTimes (K : PySem.W.Frag) := spOp K (fun a b => a * b) (fun _ _ => True)
abbrev spOver (K : PySem.W.Frag) := spOp K (fun a b => a / b) (fun _ b => 0 < b)
def spBelow (K : PySem.W.Frag) : Sp := fun vs H Q _ => ∃ (x y : V) (q r : Rat), vs = [x, y] ∧ FrQ K H x q ∧ FrQ K H y r ∧ Fit q ∧ Fit r ∧ Q (.bl (decide (q < r))) H
def spFrac (K : PySem.W.Frag) : Sp := fun vs H Q _ => ∃ (x : V) (q : Rat), vs = [x] ∧ FrQ K H x q ∧ 0 ≤ q ∧ Q (.bl true) H
structure Txt (K : PySem.W.Frag) (mg : Str → Option Value) (aL aR : Addr) : Prop where
 isi : mg "isinstance" = none
 int : mg "int" = none
 bool : mg "bool" = none
 tuple : mg "tuple" = none
 list : mg "list" = none
 len : mg "len" = none
 range : mg "range" = none
 zip : mg "zip" = none
 sorted : mg "sorted" = none
 any : mg "any" = none
 enumerate : mg "enumerate" = none
 reversed : mg "reversed" = none
 left : mg "LEFT_END" = some (.ref aL)
 leftT : ∀ H : Hp, SqT K H aL [.int 0, .int 1]
 right : mg "RIGHT_END" = some (.ref aR)
 rightT : ∀ H : Hp, SqT K H aR [.int 1, .int 1]
theorem sqK {K : PySem.W.Frag} {a : Addr} {od : Option Addr} {i j : Int} {t u : Tok} {n : Nat} {sl : Array (Option Value)} (h : K.lookup a = some ⟨.type "tuple", od, .seq #[.int i t, .int j u] n, sl⟩) : ∀ H : Hp, SqT K H a [.int i, .int j] :=
 fun _ => .inr ⟨_, _, n, h, rfl, rfl, (by show 2 ≤ sizeLine; decide), .cons ⟨t, rfl⟩ (.cons ⟨u, rfl⟩ .nil)⟩
theorem Txt.l {K : PySem.W.Frag} {mg : Str → Option Value} {aL aR : Addr} (T : Txt K mg aL aR) (H : Hp) : FrQ K H (.ref aL) 0 := .of (T.leftT H) rfl rfl
theorem Txt.r {K : PySem.W.Frag} {mg : Str → Option Value} {aL aR : Addr} (T : Txt K mg aL aR) (H : Hp) : FrQ K H (.ref aR) 1 := .of (T.rightT H) rfl rfl
theorem Fit.one : Fit 1 := ⟨by decide, by show (1 : Nat) < 2 ^ 1900; exact Nat.one_lt_two_pow (by decide), by show (1 : Nat) < 2 ^ 1900; exact Nat.one_lt_two_pow (by decide)⟩
section
variable {P : Program} {w : World} {K : PySem.W.Frag} {mg : Str → Option Value} {base : Heap} {aL aR : Addr}
theorem scWhole : FnScope ["thing"] ["thing"] (defScope s_is_whole) := ⟨rfl, rfl, rfl, by decide +kernel, rfl, by decide +kernel, by decide +kernel⟩
theorem ok_whole {f : Addr} {fd : FuncData} (D : DefAt K mg "is_whole" s_is_whole ["thing"] f fd) (T : Txt K mg aL aR) : FnOk P w K mg base CX0 1 f fd ["thing"] spWhole := by
 refine D.fn.ok scWhole (fun vs H Q E h => ?_) (fun cdv A outer s H vs Q E hr h => ?_)
 ·obtain ⟨i, rfl, _⟩ := h
  rfl
 ·obtain ⟨i, rfl, k⟩ := h
  refine ⟨_, pss_one (ps_ret (pe_and (pe_isi (pv 0) rfl T.isi rfl T.int PyProof.Rows.boot_int) (pe_one (pe_not (pe_isi (pv 0) rfl T.isi rfl T.bool PyProof.Rows.boot_bool))))), ?_⟩
  refine ⟨_, rfl, _, _, .of (.int _), kit_int _, _, rfl, ?_⟩
  refine iteT ?_
  exact ⟨_, rfl, _, _, .of (.int _), kit_int_bool _, _, rfl, k⟩
theorem scGcd : FnScope ["a", "b", "rest"] ["a", "b"] (defScope s_greatest_divisor) := ⟨rfl, rfl, rfl, by decide +kernel, rfl, by decide +kernel, by decide +kernel⟩
def mu1 (σ : St) : Nat := match σ with
 | [_, some (.int b), _] => b.toNat
 | _ => 0
theorem ok_gcd {f : Addr} {fd : FuncData} (D : DefAt K mg "greatest_divisor" s_greatest_divisor ["a", "b"] f fd) : FnOk P w K mg base CX0 1 f fd ["a", "b"] spGcd := by
 refine D.fn.ok scGcd (fun vs H Q E h => ?_) (fun cdv A outer s H vs Q E hr h => ?_)
 ·obtain ⟨a, b, rfl, _⟩ := h
  rfl
 ·obtain ⟨a0, b0, rfl, ha, hb, k⟩ := h
  refine ⟨_, pss_cons (ps_while PassesOwn.never (pt_cmpR op_gt (pv 1) pe_int (nomark _))
   (pss_cons (ps_set (i := 2) scGcd.nd rfl (Or.inl rfl) (pe_op op_mod (pv 0) (pv 1)))
   (pss_cons (ps_set (i := 0) scGcd.nd rfl (Or.inl rfl) (pv 1))
   (pss_one (ps_set (i := 1) scGcd.nd rfl (Or.inl rfl) (pv 2))))))
   (pss_one (ps_ret (pv 0))), ?_⟩
  refine while_by (fun σ H' => H' = H ∧ ∃ (a b : Int) (r : Option V), σ = [some (.int a), some (.int b), r] ∧ 0 ≤ a ∧ 0 ≤ b ∧ G a b = G a0 b0) (fun σ _ => mu1 σ) ⟨rfl, a0, b0, none, rfl, ha, hb, rfl⟩ ?_ ?_
  ·rintro σ H' ⟨rfl, a, b, r, rfl, ha, hb, e⟩
   refine ⟨_, rfl, _, _, rfl, rfl, _, rfl, ?_⟩
   refine ite2 (fun h => ?_) (fun h => ?_)
   ·have hb' : 0 < b := of_decide_eq_true h
    refine ⟨_, rfl, _, rfl, _, _, rfl, rfl, hb', _, rfl, _, rfl, ?_⟩
    refine ⟨⟨rfl, b, a % b, _, rfl, hb, Int.emod_nonneg _ (by omega), (G_step ha hb').trans e⟩, ?_⟩
    show (a % b).toNat < b.toNat
    have := Int.emod_lt_of_pos a hb'
    omega
   ·have hb' : b = 0 := by
     have : ¬ 0 < b := fun z => h (decide_eq_true z)
     omega
    refine ⟨_, rfl, ?_⟩
    have e' : a = G a0 b0 := by rw [← e, hb', G_zero ha]
    rw [e']
    exact k
  ·rintro σ H Q Q' hq ⟨v, e, i, j, e1, e2, z, e3, q⟩
   exact ⟨v, e, i, j, e1, e2, z, e3, hq _ _ q⟩
theorem scMade : FnScope ["a", "b", "common"] ["a", "b"] (defScope s_made) := ⟨rfl, rfl, rfl, by decide +kernel, rfl, by decide +kernel, by decide +kernel⟩
theorem ok_made {f : Addr} {fd : FuncData} (D : DefAt K mg "made" s_made ["a", "b"] f fd) (CW : Cl P w K mg base "is_whole" 1 ["thing"] spWhole) (CG : Cl P w K mg base "greatest_divisor" 1 ["a", "b"] spGcd) :
  FnOk P w K mg base CX0 2 f fd ["a", "b"] spMade := by
 refine D.fn.ok scMade (fun vs H Q E h => ?_) (fun cdv A outer s H vs Q E hr h => ?_)
 ·obtain ⟨a, b, rfl, _⟩ := h
  rfl
 ·obtain ⟨a, b, rfl, ha, hb, hS, k⟩ := h
  refine ⟨_, pss_cons (ps_if (PW.pt (pw_or (pt_not (pt_val (pe_cl CW hr rfl (pa_cons (pv 0) pa_nil)))) (pw_or1 (pt_not (pt_val (pe_cl CW hr rfl (pa_cons (pv 1) pa_nil))))))) pss_never pss_nil)
   (pss_cons (ps_if (PW.pt (pw_or (pt_cmpR op_lt (pv 0) pe_int (nomark _)) (pw_or1 (pt_cmpR op_lt (pv 1) pe_int (nomark _))))) pss_never pss_nil)
   (pss_cons (ps_set (i := 2) scMade.nd rfl (Or.inl rfl) (pe_cl CG hr rfl (pa_cons (pv 0) (pa_cons (pv 1) pa_nil))))
   (pss_one (ps_ret (pe_tup (pa_cons (pe_op op_fdivS (pv 0) (pv 2)) (pa_cons (pe_op op_fdivS (pv 1) (pv 2)) pa_nil))))))), ?_⟩
  refine ⟨_, rfl, a, rfl, _, rfl, iteF ?_⟩
  refine ⟨_, rfl, b, rfl, _, rfl, iteF ?_⟩
  refine ⟨_, rfl, _, _, rfl, rfl, _, rfl, iteN (by omega) ?_⟩
  refine ⟨_, rfl, _, _, rfl, rfl, _, rfl, iteN (by omega) ?_⟩
  have gp := G_pos (a := a) hb
  have gS : Sm (G a b) := hS.mono (by have := G_le (a := a) hb; omega)
  refine ⟨_, rfl, _, rfl, a, b, rfl, ha, Int.le_of_lt hb, ?_⟩
  exact ⟨_, rfl, _, rfl, _, _, rfl, rfl, ⟨gp, gS⟩, _, rfl, _, rfl, _, _, rfl, rfl, ⟨gp, gS⟩, (by show 2 ≤ sizeLine; decide), fun p hp => k p hp⟩
theorem madeQ : ∀ vs H Q E, spMadeQ K vs H Q E → spMade vs H Q E := by
 rintro vs H Q E ⟨a, b, rfl, ha, hb, hS, k⟩
 refine ⟨a, b, rfl, ha, hb, hS, fun p hp => k _ _ (Same.upd hp) ?_⟩
 obtain ⟨e1, e2⟩ := low_fr (a := a) hb
 exact .of sqT_new e1 e2
theorem two_op {f g : Int → Int → Int → Int → Int} {F : Rat → Rat → Rat} {c : Rat → Rat → Prop}
  (h : ∀ q r : Rat, Fit q → Fit r → c q r → (0 ≤ f q.num q.den r.num r.den ∧ 0 < g q.num q.den r.num r.den ∧ Sm (g q.num q.den r.num r.den)) ∧ ((f q.num q.den r.num r.den : Int) : Rat) / ((g q.num q.den r.num r.den : Int) : Rat) = F q r) :
  ∀ vs H Q E, spOp K F c vs H Q E → spTwo K f g vs H Q E := by
 rintro vs H Q E ⟨x, y, q, r, rfl, hx, hy, fq, fr, hc, k⟩
 obtain ⟨p1, rfl, h1⟩ := hx.sq
 obtain ⟨p2, rfl, h2⟩ := hy.sq
 obtain ⟨e1, e2⟩ := h q r fq fr hc
 refine ⟨p1, p2, _, _, _, _, rfl, h1, h2, ⟨fq.s1, fq.s2, fr.s1, fr.s2⟩, e1, fun p hp => k _ _ (Same.upd hp) ?_⟩
 obtain ⟨l1, l2⟩ := low_fr (a := f q.num q.den r.num r.den) e1.2.1
 rw [e2] at l1 l2
 exact .of sqT_new l1 l2
theorem low_nn {q r : Rat} (h1 : Fit q) (h2 : Fit r) : 0 < (q.den : Int) * (r.den : Int) := Int.mul_pos (den_pos q) (den_pos r)
theorem sum_op : ∀ vs H Q E, spPlus K vs H Q E → spTwo K (fun a b c d => a * d + c * b) (fun _ b _ d => b * d) vs H Q E :=
 two_op fun q r h1 h2 _ => ⟨⟨Int.add_nonneg (Int.mul_nonneg h1.nn (Int.le_of_lt (den_pos r))) (Int.mul_nonneg h2.nn (Int.le_of_lt (den_pos q))), low_nn h1 h2, h1.dd h2⟩, plus_fr q r⟩
theorem left_op : ∀ vs H Q E, spMinus K vs H Q E → spTwo K (fun a b c d => a * d - c * b) (fun _ b _ d => b * d) vs H Q E :=
 two_op fun q r h1 h2 h3 => ⟨⟨by
  have := (Rat.le_iff r q).mp h3
  omega, low_nn h1 h2, h1.dd h2⟩, minus_fr q r⟩
theorem times_op : ∀ vs H Q E, spTimes K vs H Q E → spTwo K (fun a _ c _ => a * c) (fun _ b _ d => b * d) vs H Q E :=
 two_op fun q r h1 h2 _ => ⟨⟨Int.mul_nonneg h1.nn h2.nn, low_nn h1 h2, h1.dd h2⟩, times_fr q r⟩
theorem over_op : ∀ vs H Q E, spOver K vs H Q E → spTwo K (fun a _ _ d => a * d) (fun _ b c _ => b * c) vs H Q E :=
 two_op fun q r h1 h2 h3 => ⟨⟨Int.mul_nonneg h1.nn (Int.le_of_lt (den_pos r)), Int.mul_pos (den_pos q) (num_pos h3), h1.dn h2⟩, over_fr h3⟩
theorem scPlus : FnScope ["one", "other"] ["one", "other"] (defScope s_plus) := ⟨rfl, rfl, rfl, by decide +kernel, rfl, by decide +kernel, by decide +kernel⟩
theorem scMinus : FnScope ["one", "other"] ["one", "other"] (defScope s_minus) := ⟨rfl, rfl, rfl, by decide +kernel, rfl, by decide +kernel, by decide +kernel⟩
theorem scTimes : FnScope ["one", "other"] ["one", "other"] (defScope s_times) := ⟨rfl, rfl, rfl, by decide +kernel, rfl, by decide +kernel, by decide +kernel⟩
theorem scOver : FnScope ["one", "other"] ["one", "other"] (defScope s_over) := ⟨rfl, rfl, rfl, by decide +kernel, rfl, by decide +kernel, by decide +kernel⟩
theorem scBelow : FnScope ["one", "other"] ["one", "other"] (defScope s_below) := ⟨rfl, rfl, rfl, by decide +kernel, rfl, by decide +kernel, by decide +kernel⟩
theorem ok_plus {f : Addr} {fd : FuncData} (D : DefAt K mg "plus" s_plus ["one", "other"] f fd) (CM : Cl P w K mg base "made" 2 ["a", "b"] spMade) :
  FnOk P w K mg base CX0 3 f fd ["one", "other"] (spPlus K) := by
 refine FnOk.imp (sp := spTwo K (fun a b c d => a * d + c * b) (fun _ b _ d => b * d)) ?_ sum_op
 refine D.fn.ok scPlus (fun vs H Q E h => ?_) (fun cdv A outer s H vs Q E hr h => ?_)
 ·obtain ⟨p, q, a, b, c, d, rfl, _⟩ := h
  rfl
 ·obtain ⟨p, q, a, b, c, d, rfl, hp, hq, ⟨sa, sb, sc, sd⟩, ⟨n1, n2, n3⟩, k⟩ := h
  refine ⟨_, pss_one (ps_ret (pe_cl CM hr rfl
   (pa_cons (pe_op op_add (pe_op op_mulS (pe_ix ix_tup (pv 0) pe_int (fun _ _ => rfl)) (pe_ix ix_tup (pv 1) pe_int (fun _ _ => rfl))) (pe_op op_mulS (pe_ix ix_tup (pv 1) pe_int (fun _ _ => rfl)) (pe_ix ix_tup (pv 0) pe_int (fun _ _ => rfl))))
   (pa_cons (pe_op op_mulS (pe_ix ix_tup (pv 0) pe_int (fun _ _ => rfl)) (pe_ix ix_tup (pv 1) pe_int (fun _ _ => rfl))) pa_nil)))), ?_⟩
  refine ⟨_, rfl, p, _, _, _, rfl, rfl, hp, rfl, _, rfl, q, _, _, _, rfl, rfl, hq, rfl, _, _, rfl, rfl, ⟨sa, sd⟩, ?_⟩
  refine ⟨_, rfl, q, _, _, _, rfl, rfl, hq, rfl, _, rfl, p, _, _, _, rfl, rfl, hp, rfl, _, _, rfl, rfl, ⟨sc, sb⟩, _, _, rfl, rfl, ?_⟩
  refine ⟨_, rfl, p, _, _, _, rfl, rfl, hp, rfl, _, rfl, q, _, _, _, rfl, rfl, hq, rfl, _, _, rfl, rfl, ⟨sb, sd⟩, ?_⟩
  exact ⟨_, _, rfl, n1, n2, n3, k⟩
theorem ok_minus {f : Addr} {fd : FuncData} (D : DefAt K mg "minus" s_minus ["one", "other"] f fd) (CM : Cl P w K mg base "made" 2 ["a", "b"] spMade) :
  FnOk P w K mg base CX0 3 f fd ["one", "other"] (spMinus K) := by
 refine FnOk.imp (sp := spTwo K (fun a b c d => a * d - c * b) (fun _ b _ d => b * d)) ?_ left_op
 refine D.fn.ok scMinus (fun vs H Q E h => ?_) (fun cdv A outer s H vs Q E hr h => ?_)
 ·obtain ⟨p, q, a, b, c, d, rfl, _⟩ := h
  rfl
 ·obtain ⟨p, q, a, b, c, d, rfl, hp, hq, ⟨sa, sb, sc, sd⟩, ⟨n1, n2, n3⟩, k⟩ := h
  refine ⟨_, pss_one (ps_ret (pe_cl CM hr rfl
   (pa_cons (pe_op op_sub (pe_op op_mulS (pe_ix ix_tup (pv 0) pe_int (fun _ _ => rfl)) (pe_ix ix_tup (pv 1) pe_int (fun _ _ => rfl))) (pe_op op_mulS (pe_ix ix_tup (pv 1) pe_int (fun _ _ => rfl)) (pe_ix ix_tup (pv 0) pe_int (fun _ _ => rfl))))
   (pa_cons (pe_op op_mulS (pe_ix ix_tup (pv 0) pe_int (fun _ _ => rfl)) (pe_ix ix_tup (pv 1) pe_int (fun _ _ => rfl))) pa_nil)))), ?_⟩
  refine ⟨_, rfl, p, _, _, _, rfl, rfl, hp, rfl, _, rfl, q, _, _, _, rfl, rfl, hq, rfl, _, _, rfl, rfl, ⟨sa, sd⟩, ?_⟩
  refine ⟨_, rfl, q, _, _, _, rfl, rfl, hq, rfl, _, rfl, p, _, _, _, rfl, rfl, hp, rfl, _, _, rfl, rfl, ⟨sc, sb⟩, _, _, rfl, rfl, ?_⟩
  refine ⟨_, rfl, p, _, _, _, rfl, rfl, hp, rfl, _, rfl, q, _, _, _, rfl, rfl, hq, rfl, _, _, rfl, rfl, ⟨sb, sd⟩, ?_⟩
  exact ⟨_, _, rfl, n1, n2, n3, k⟩
theorem ok_times {f : Addr} {fd : FuncData} (D : DefAt K mg "times" s_times ["one", "other"] f fd) (CM : Cl P w K mg base "made" 2 ["a", "b"] spMade) :
  FnOk P w K mg base CX0 3 f fd ["one", "other"] (spTimes K) := by
 refine FnOk.imp (sp := spTwo K (fun a _ c _ => a * c) (fun _ b _ d => b * d)) ?_ times_op
 refine D.fn.ok scTimes (fun vs H Q E h => ?_) (fun cdv A outer s H vs Q E hr h => ?_)
 ·obtain ⟨p, q, a, b, c, d, rfl, _⟩ := h
  rfl
 ·obtain ⟨p, q, a, b, c, d, rfl, hp, hq, ⟨sa, sb, sc, sd⟩, ⟨n1, n2, n3⟩, k⟩ := h
  refine ⟨_, pss_one (ps_ret (pe_cl CM hr rfl
   (pa_cons (pe_op op_mulS (pe_ix ix_tup (pv 0) pe_int (fun _ _ => rfl)) (pe_ix ix_tup (pv 1) pe_int (fun _ _ => rfl)))
   (pa_cons (pe_op op_mulS (pe_ix ix_tup (pv 0) pe_int (fun _ _ => rfl)) (pe_ix ix_tup (pv 1) pe_int (fun _ _ => rfl))) pa_nil)))), ?_⟩
  refine ⟨_, rfl, p, _, _, _, rfl, rfl, hp, rfl, _, rfl, q, _, _, _, rfl, rfl, hq, rfl, _, _, rfl, rfl, ⟨sa, sc⟩, ?_⟩
  refine ⟨_, rfl, p, _, _, _, rfl, rfl, hp, rfl, _, rfl, q, _, _, _, rfl, rfl, hq, rfl, _, _, rfl, rfl, ⟨sb, sd⟩, ?_⟩
  exact ⟨_, _, rfl, n1, n2, n3, k⟩
theorem ok_over {f : Addr} {fd : FuncData} (D : DefAt K mg "over" s_over ["one", "other"] f fd) (CM : Cl P w K mg base "made" 2 ["a", "b"] spMade) :
  FnOk P w K mg base CX0 3 f fd ["one", "other"] (spOver K) := by
 refine FnOk.imp (sp := spTwo K (fun a _ _ d => a * d) (fun _ b c _ => b * c)) ?_ over_op
 refine D.fn.ok scOver (fun vs H Q E h => ?_) (fun cdv A outer s H vs Q E hr h => ?_)
 ·obtain ⟨p, q, a, b, c, d, rfl, _⟩ := h
  rfl
 ·obtain ⟨p, q, a, b, c, d, rfl, hp, hq, ⟨sa, sb, sc, sd⟩, ⟨n1, n2, n3⟩, k⟩ := h
  refine ⟨_, pss_one (ps_ret (pe_cl CM hr rfl
   (pa_cons (pe_op op_mulS (pe_ix ix_tup (pv 0) pe_int (fun _ _ => rfl)) (pe_ix ix_tup (pv 1) pe_int (fun _ _ => rfl)))
   (pa_cons (pe_op op_mulS (pe_ix ix_tup (pv 0) pe_int (fun _ _ => rfl)) (pe_ix ix_tup (pv 1) pe_int (fun _ _ => rfl))) pa_nil)))), ?_⟩
  refine ⟨_, rfl, p, _, _, _, rfl, rfl, hp, rfl, _, rfl, q, _, _, _, rfl, rfl, hq, rfl, _, _, rfl, rfl, ⟨sa, sd⟩, ?_⟩
  refine ⟨_, rfl, p, _, _, _, rfl, rfl, hp, rfl, _, rfl, q, _, _, _, rfl, rfl, hq, rfl, _, _, rfl, rfl, ⟨sb, sc⟩, ?_⟩
  exact ⟨_, _, rfl, n1, n2, n3, k⟩
theorem ok_below {f : Addr} {fd : FuncData} (D : DefAt K mg "below" s_below ["one", "other"] f fd) : FnOk P w K mg base CX0 1 f fd ["one", "other"] (spBelow K) := by
 refine D.fn.ok scBelow (fun vs H Q E h => ?_) (fun cdv A outer s H vs Q E hr h => ?_)
 ·obtain ⟨x, y, q, r, rfl, _⟩ := h
  rfl
 ·obtain ⟨x, y, u, v, rfl, hx, hy, fu, fv, k⟩ := h
  obtain ⟨p, rfl, hp⟩ := hx.sq
  obtain ⟨q, rfl, hq⟩ := hy.sq
  refine ⟨_, pss_one (ps_ret (pe_cmpR op_lt (pe_op op_mulS (pe_ix ix_tup (pv 0) pe_int (fun _ _ => rfl)) (pe_ix ix_tup (pv 1) pe_int (fun _ _ => rfl))) (pe_op op_mulS (pe_ix ix_tup (pv 1) pe_int (fun _ _ => rfl)) (pe_ix ix_tup (pv 0) pe_int (fun _ _ => rfl))) (nomark _))), ?_⟩
  refine ⟨_, rfl, p, _, _, _, rfl, rfl, hp, rfl, _, rfl, q, _, _, _, rfl, rfl, hq, rfl, _, _, rfl, rfl, ⟨fu.s1, fv.s2⟩, ?_⟩
  refine ⟨_, rfl, q, _, _, _, rfl, rfl, hq, rfl, _, rfl, p, _, _, _, rfl, rfl, hp, rfl, _, _, rfl, rfl, ⟨fv.s1, fu.s2⟩, _, _, rfl, rfl, ?_⟩
  rw [decide_eq_decide.mpr (Rat.lt_iff u v)] at k
  exact k
theorem scFrac : FnScope ["thing", "a", "b"] ["thing"] (defScope s_is_fraction) := ⟨rfl, rfl, rfl, by decide +kernel, rfl, by decide +kernel, by decide +kernel⟩
theorem ok_frac {f : Addr} {fd : FuncData} (D : DefAt K mg "is_fraction" s_is_fraction ["thing"] f fd) (CW : Cl P w K mg base "is_whole" 1 ["thing"] spWhole) (CG : Cl P w K mg base "greatest_divisor" 1 ["a", "b"] spGcd) (T : Txt K mg aL aR) :
  FnOk P w K mg base CX0 2 f fd ["thing"] (spFrac K) := by
 refine D.fn.ok scFrac (fun vs H Q E h => ?_) (fun cdv A outer s H vs Q E hr h => ?_)
 ·obtain ⟨x, q, rfl, _⟩ := h
  rfl
 ·obtain ⟨x, q, rfl, hx, h0, k⟩ := h
  obtain ⟨p, rfl, hp⟩ := hx.sq
  have ha := num_nn h0
  have hb := den_pos q
  refine ⟨_, pss_cons (ps_if (PW.pt (pw_or (pt_not (pt_val (pe_isi (pv 0) rfl T.isi rfl T.tuple PyProof.Rows.boot_tuple))) (pw_or1 (pt_cmpR op_ne (pe_callB call_len_seq (by rfl) T.len PySem.boot_len (pa_cons (pv 0) pa_nil)) pe_int (nomark _))))) pss_never pss_nil)
   (pss_cons (ps_set (i := 1) scFrac.nd rfl (Or.inl rfl) (pe_ix ix_tup (pv 0) pe_int (fun _ _ => rfl)))
   (pss_cons (ps_set (i := 2) scFrac.nd rfl (Or.inl rfl) (pe_ix ix_tup (pv 0) pe_int (fun _ _ => rfl)))
   (pss_cons (ps_if (PW.pt (pw_or (pt_not (pt_val (pe_cl CW hr rfl (pa_cons (pv 1) pa_nil)))) (pw_or (pt_not (pt_val (pe_cl CW hr rfl (pa_cons (pv 2) pa_nil))))
    (pw_or (pt_cmpR op_lt (pv 1) pe_int (nomark _)) (pw_or1 (pt_cmpR op_lt (pv 2) pe_int (nomark _))))))) pss_never pss_nil)
   (pss_one (ps_ret (pe_cmpR op_eq (pe_cl CG hr rfl (pa_cons (pv 1) (pa_cons (pv 2) pa_nil))) pe_int (nomark _))))))), ?_⟩
  refine ⟨_, rfl, _, _, .sqT hp, kit_tuple _, _, rfl, iteF ?_⟩
  refine ⟨_, rfl, p, _, rfl, .inr hp, rfl, _, rfl, iteNS rfl ?_⟩
  refine ⟨_, rfl, p, _, _, _, rfl, rfl, hp, rfl, _, rfl, p, _, _, _, rfl, rfl, hp, rfl, ?_⟩
  refine ⟨_, rfl, q.num, rfl, _, rfl, iteF ?_⟩
  refine ⟨_, rfl, (q.den : Int), rfl, _, rfl, iteF ?_⟩
  refine ⟨_, rfl, _, _, rfl, rfl, _, rfl, iteN (by omega) ?_⟩
  refine ⟨_, rfl, _, _, rfl, rfl, _, rfl, iteN (by omega) ?_⟩
  refine ⟨_, rfl, _, rfl, q.num, (q.den : Int), rfl, ha, Int.le_of_lt hb, rfl, ?_⟩
  have e : decide (V.int (G q.num q.den) = V.int 1) = true := decide_eq_true (by rw [fr_cop])
  rw [e]
  exact k
end
end FQ
namespace FQ
open PySem L2 FK
abbrev cx (P : Program) (w : World) (K : PySem.W.Frag) (mg : Str → Option Value) (base : Heap) (N : List Str) (q : Str) (st : Stmt) (f : Addr) (cdv : Value) (A : Around) (outer : List Env) (s : Shared) (H : Hp) (E : XK) : Cx := (cxOf CX0 P w K mg base N q (defScope st) f cdv A outer s H E).nox
abbrev spApart (K : PySem.W.Frag) := spOp K apt (fun _ _ => True)
def Ft (n : Nat) (q : Rat) : Prop := 0 ≤ q ∧ Bd n q
theorem Ft.fit {n : Nat} {q : Rat} (h : Ft n q) (hn : n ≤ 1900 := by decide) : Fit q := ⟨h.1, h.2.mono hn⟩
theorem apt_nn (x y : Rat) : 0 ≤ apt x y := by unfold apt; grind
theorem apt_pos {x y : Rat} (h : x ≠ y) : 0 < apt x y := by unfold apt; grind
theorem apt_bd {x y : Rat} {m n : Nat} (h1 : Bd m x) (h2 : Bd n y) : Bd (m + n + 1) (apt x y) := by
 unfold apt
 split
 ·rw [Nat.add_comm m n]
  exact h2.sub h1
 ·exact h1.sub h2
def spReaches (K : PySem.W.Frag) : Sp := fun vs H Q _ => ∃ (x y z : V) (p q : Rat × Rat) (u : Rat), vs = [x, y, z] ∧ CoQ K H x p ∧ CoQ K H y q ∧ FrQ K H z u ∧ Fit p.2 ∧ Fit q.2 ∧ Fit u ∧ Q (.bl (decide (Rch p q u))) H
def spCrossing (K : PySem.W.Frag) : Sp := fun vs H Q _ => ∃ (x y z : V) (p q : Rat × Rat) (u : Rat), vs = [x, y, z] ∧ CoQ K H x p ∧ CoQ K H y q ∧ FrQ K H z u ∧ (Ft 250 p.1 ∧ Ft 250 p.2 ∧ Ft 250 q.1 ∧ Ft 250 q.2 ∧ Ft 250 u) ∧ p.1 ≤ q.1 ∧ Rch p q u ∧
 ∀ v H', Same H H' → FrQ K H' v (crs p q u) → Q v H'
def AnsQ (K : PySem.W.Frag) (H : Hp) (v : V) : Option Rat → Prop
 | none => v = .non
 | some q => FrQ K H v q
structure LnOk (L : List (Rat × Rat)) : Prop where
 few : L.length ≤ 1000
 fit : ∀ p ∈ L, Ft 250 p.1 ∧ Ft 250 p.2
 rise : ∀ (i : Nat) (p q : Rat × Rat), L[i]? = some p → L[i + 1]? = some q → p.1 ≤ q.1
def spReached (K : PySem.W.Frag) : Sp := fun vs H Q _ => ∃ (a : Addr) (xs : List V) (z : V) (L : List (Rat × Rat)) (u : Rat), vs = [.ref a, z] ∧ SqL K H a xs ∧ Paired (CoQ K H) xs L ∧ FrQ K H z u ∧ LnOk L ∧ Ft 250 u ∧
 ∀ v H', Same H H' → AnsQ K H' v (rch L u) → Q v H'
theorem rch_drop {L : List (Rat × Rat)} {u : Rat} {i : Nat} {p q : Rat × Rat} (h1 : L[i]? = some p) (h2 : L[i + 1]? = some q) : rch (L.drop i) u = if Rch p q u then some (crs p q u) else rch (L.drop (i + 1)) u := by
 obtain ⟨l1, e1⟩ := List.getElem?_eq_some_iff.mp h1
 obtain ⟨l2, e2⟩ := List.getElem?_eq_some_iff.mp h2
 rw [List.drop_eq_getElem_cons l1, List.drop_eq_getElem_cons l2, e1, e2]
 rfl
theorem rch_end {L : List (Rat × Rat)} {u : Rat} {i : Nat} (h : L.length ≤ i + 1) : rch (L.drop i) u = none := by
 have : (L.drop i).length ≤ 1 := by rw [List.length_drop]; omega
 match L.drop i, this with
 | [], _ => rfl
 | [_], _ => rfl
section
variable {P : Program} {w : World} {K : PySem.W.Frag} {mg : Str → Option Value} {base : Heap} {aL aR : Addr}
theorem scApart : FnScope ["one", "other"] ["one", "other"] (defScope s_apart) := ⟨rfl, rfl, rfl, by decide +kernel, rfl, by decide +kernel, by decide +kernel⟩
theorem ok_apart {f : Addr} {fd : FuncData} (D : DefAt K mg "apart" s_apart ["one", "other"] f fd) (CB : Cl P w K mg base "below" 1 ["one", "other"] (spBelow K)) (CM : Cl P w K mg base "minus" 3 ["one", "other"] (spMinus K)) :
  FnOk P w K mg base CX0 4 f fd ["one", "other"] (spApart K) := by
 refine D.fn.ok scApart (fun vs H Q E h => ?_) (fun cdv A outer s H vs Q E hr h => ?_)
 ·obtain ⟨x, y, q, r, rfl, _⟩ := h
  rfl
 ·obtain ⟨x, y, q, r, rfl, hx, hy, fq, fr, _, k⟩ := h
  have hr1 : Room 1 _ := hr.mono (by decide)
  refine ⟨_, pss_one (ps_ret (pe_ifExp (pt_val (pe_cl CB hr1 rfl (pa_cons (pv 0) (pa_cons (pv 1) pa_nil)))) (pe_cl CM hr rfl (pa_cons (pv 1) (pa_cons (pv 0) pa_nil))) (pe_cl CM hr rfl (pa_cons (pv 0) (pa_cons (pv 1) pa_nil))))), ?_⟩
  refine ⟨_, rfl, _, rfl, x, y, q, r, rfl, hx, hy, fq, fr, _, rfl, ?_⟩
  refine ite2 (fun h => ?_) (fun h => ?_)
  ·have h' : q < r := of_decide_eq_true h
   refine ⟨_, rfl, _, rfl, y, x, r, q, rfl, hy, hx, fr, fq, Rat.le_of_lt h', fun v H' s hv => k v H' s ?_⟩
   rw [show apt q r = r - q from if_pos h']
   exact hv
  ·have h' : ¬ q < r := fun z => h (decide_eq_true z)
   refine ⟨_, rfl, _, rfl, x, y, q, r, rfl, hx, hy, fq, fr, by grind, fun v H' s hv => k v H' s ?_⟩
   rw [show apt q r = q - r from if_neg h']
   exact hv
theorem scReaches : FnScope ["one", "other", "up"] ["one", "other", "up"] (defScope s_reaches) := ⟨rfl, rfl, rfl, by decide +kernel, rfl, by decide +kernel, by decide +kernel⟩
theorem ok_reaches {f : Addr} {fd : FuncData} (D : DefAt K mg "reaches" s_reaches ["one", "other", "up"] f fd) (CB : Cl P w K mg base "below" 1 ["one", "other"] (spBelow K)) :
  FnOk P w K mg base CX0 2 f fd ["one", "other", "up"] (spReaches K) := by
 refine D.fn.ok scReaches (fun vs H Q E h => ?_) (fun cdv A outer s H vs Q E hr h => ?_)
 ·obtain ⟨x, y, z, p, q, u, rfl, _⟩ := h
  rfl
 ·obtain ⟨x, y, z, p, q, u, rfl, ⟨px, x1, x2, rfl, hx, hx1, hx2⟩, ⟨py, y1, y2, rfl, hy, hy1, hy2⟩, hz, fp, fq, fu, k⟩ := h
  obtain ⟨t, ht, rt⟩ : ∃ t, PSs (cx P w K mg base ["one", "other", "up"] "reaches" s_reaches f cdv A outer s H E) (List.drop 1 (defBody s_reaches)) t ∧ ∀ D : Ends, D.rt = Q → ¬ (p.2 < u ∧ q.2 < u) → t D [some (.ref px), some (.ref py), some z] H := by
   refine ⟨_, pss_one (ps_ret (pe_not (pe_and (pe_cl CB hr rfl (pa_cons (pv 2) (pa_cons (pe_ix ix_tup (pv 0) pe_int (fun _ _ => rfl)) pa_nil))) (pe_one (pe_cl CB hr rfl (pa_cons (pv 2) (pa_cons (pe_ix ix_tup (pv 1) pe_int (fun _ _ => rfl)) pa_nil))))))), fun D hD hn => ?_⟩
   refine ⟨_, rfl, _, rfl, px, _, _, _, rfl, rfl, hx, rfl, z, x2, u, p.2, rfl, hz, hx2, fu, fp, _, rfl, ?_⟩
   refine ite2 (fun h => ?_) (fun h => ?_)
   ·have h' : u < p.2 := of_decide_eq_true h
    refine ⟨_, rfl, _, rfl, py, _, _, _, rfl, rfl, hy, rfl, z, y2, u, q.2, rfl, hz, hy2, fu, fq, _, rfl, ?_⟩
    show D.rt _ H
    rw [hD, show (!decide (u < q.2)) = decide (Rch p q u) by
     by_cases h2 : u < q.2
     ·rw [decide_eq_true h2, decide_eq_false (by unfold Rch; exact fun z => z.2 ⟨h', h2⟩)]
      rfl
     ·rw [decide_eq_false h2, decide_eq_true (by unfold Rch; exact ⟨hn, fun z => h2 z.2⟩)]
      rfl]
    exact k
   ·have h' : ¬ u < p.2 := fun z => h (decide_eq_true z)
    refine ⟨_, rfl, ?_⟩
    show D.rt (.bl true) H
    rw [show true = decide (Rch p q u) from (decide_eq_true (by unfold Rch; exact ⟨hn, fun z => h' z.1⟩)).symm, hD]
    exact k
  refine ⟨_, pss_cons (ps_if (PW.pt (pw_and (pt_val (pe_cl CB hr rfl (pa_cons (pe_ix ix_tup (pv 0) pe_int (fun _ _ => rfl)) (pa_cons (pv 2) pa_nil)))) (pw_and1 (pt_val (pe_cl CB hr rfl (pa_cons (pe_ix ix_tup (pv 1) pe_int (fun _ _ => rfl)) (pa_cons (pv 2) pa_nil))))))) (pss_one (ps_ret pe_bl)) pss_nil) ht, ?_⟩
  refine ⟨_, rfl, px, _, _, _, rfl, rfl, hx, rfl, _, rfl, x2, z, p.2, u, rfl, hx2, hz, fp, fu, _, rfl, ?_⟩
  refine ite2 (fun h => ?_) (fun h => ?_)
  ·have h' : p.2 < u := of_decide_eq_true h
   refine ⟨_, rfl, py, _, _, _, rfl, rfl, hy, rfl, _, rfl, y2, z, q.2, u, rfl, hy2, hz, fq, fu, _, rfl, ?_⟩
   refine ite2 (fun h2 => ?_) (fun h2 => ?_)
   ·have h2' : q.2 < u := of_decide_eq_true h2
    show Q (.bl false) H
    rw [show false = decide (Rch p q u) from (decide_eq_false (by unfold Rch; exact fun z => z.1 ⟨h', h2'⟩)).symm]
    exact k
   ·exact rt _ rfl fun z => h2 (decide_eq_true z.2)
  ·exact iteF (rt _ rfl fun z => h (decide_eq_true z.1))
theorem scCrossing : FnScope ["one", "other", "up", "part"] ["one", "other", "up"] (defScope s_crossing) := ⟨rfl, rfl, rfl, by decide +kernel, rfl, by decide +kernel, by decide +kernel⟩
structure Four (P : Program) (w : World) (K : PySem.W.Frag) (mg : Str → Option Value) (base : Heap) : Prop where
 plus : Cl P w K mg base "plus" 3 ["one", "other"] (spPlus K)
 minus : Cl P w K mg base "minus" 3 ["one", "other"] (spMinus K)
 times : Cl P w K mg base "times" 3 ["one", "other"] (spTimes K)
 over : Cl P w K mg base "over" 3 ["one", "other"] (spOver K)
 below : Cl P w K mg base "below" 1 ["one", "other"] (spBelow K)
theorem ok_crossing {f : Addr} {fd : FuncData} (D : DefAt K mg "crossing" s_crossing ["one", "other", "up"] f fd) (C : Four P w K mg base) (CA : Cl P w K mg base "apart" 4 ["one", "other"] (spApart K)) :
  FnOk P w K mg base CX0 5 f fd ["one", "other", "up"] (spCrossing K) := by
 refine D.fn.ok scCrossing (fun vs H Q E h => ?_) (fun cdv A outer s H vs Q E hr h => ?_)
 ·obtain ⟨x, y, z, p, q, u, rfl, _⟩ := h
  rfl
 ·obtain ⟨x, y, z, p, q, u, rfl, ⟨px, x1, x2, rfl, hx, hx1, hx2⟩, ⟨py, y1, y2, rfl, hy, hy1, hy2⟩, hz, ⟨f1, f2, f3, f4, fu⟩, hle, hR, k⟩ := h
  have hr3 : Room 3 _ := hr.mono (by decide)
  have hu : _ + (0 + 1) < cLine := hu_of hr
  refine ⟨_, pss_cons (ps_if (pt_cmpR (op_eqP rpe_int rpe_int hu) (pe_ix ix_tup (pv 0) pe_int (fun _ _ => rfl)) (pv 2) (nomark _)) (pss_one (ps_ret (pe_ix ix_tup (pv 0) pe_int (fun _ _ => rfl)))) pss_nil)
   (pss_cons (ps_set (i := 3) scCrossing.nd rfl (Or.inl rfl) (pe_cl C.over hr3 rfl (pa_cons (pe_cl CA hr rfl (pa_cons (pe_ix ix_tup (pv 0) pe_int (fun _ _ => rfl)) (pa_cons (pv 2) pa_nil)))
    (pa_cons (pe_cl CA hr rfl (pa_cons (pe_ix ix_tup (pv 0) pe_int (fun _ _ => rfl)) (pa_cons (pe_ix ix_tup (pv 1) pe_int (fun _ _ => rfl)) pa_nil))) pa_nil))))
   (pss_one (ps_ret (pe_cl C.plus hr3 rfl (pa_cons (pe_ix ix_tup (pv 0) pe_int (fun _ _ => rfl)) (pa_cons (pe_cl C.times hr3 rfl
    (pa_cons (pe_cl C.minus hr3 rfl (pa_cons (pe_ix ix_tup (pv 1) pe_int (fun _ _ => rfl)) (pa_cons (pe_ix ix_tup (pv 0) pe_int (fun _ _ => rfl)) pa_nil))) (pa_cons (pv 3) pa_nil))) pa_nil)))))), ?_⟩
  refine ⟨_, rfl, px, _, _, _, rfl, rfl, hx, rfl, _, rfl, _, _, hx2, hz, _, rfl, ?_⟩
  rw [fr_dec]
  refine ite2 (fun h => ?_) (fun h => ?_)
  ·have h' : p.2 = u := of_decide_eq_true h
   refine ⟨_, rfl, px, _, _, _, rfl, rfl, hx, rfl, k _ _ (Same.refl _) ?_⟩
   rw [show crs p q u = p.1 from if_pos h']
   exact hx1
  ·have h' : p.2 ≠ u := fun z => h (decide_eq_true z)
   have hne : p.2 ≠ q.2 := by
    intro e
    have h1 := hR.1
    have h2 := hR.2
    grind
   have bu := apt_bd f2.2 fu.2
   have bq := apt_bd f2.2 f4.2
   have ap := apt_pos hne
   refine ⟨_, rfl, px, _, _, _, rfl, rfl, hx, rfl, _, rfl, x2, z, p.2, u, rfl, hx2, hz, f2.fit, fu.fit, trivial, fun v1 H1 s1 e1 => ?_⟩
   refine ⟨_, rfl, px, _, _, _, rfl, rfl, s1.sqT hx, rfl, _, rfl, py, _, _, _, rfl, rfl, s1.sqT hy, rfl, x2, y2, p.2, q.2, rfl, hx2.same s1, hy2.same s1, f2.fit, f4.fit, trivial, fun v2 H2 s2 e2 => ?_⟩
   refine ⟨v1, v2, _, _, rfl, e1.same s2, e2, ⟨apt_nn _ _, bu.mono (by decide)⟩, ⟨apt_nn _ _, bq.mono (by decide)⟩, ap, fun v3 H3 s3 e3 => ?_⟩
   have s13 := s1.trans (s2.trans s3)
   have bp := Bd.div ap bu bq
   have np : (0 : Rat) ≤ apt p.2 u / apt p.2 q.2 := by
    have := (Rat.div_lt_iff (a := apt p.2 u) (b := apt p.2 q.2) (c := 0) ap)
    have := apt_nn p.2 u
    grind
   refine ⟨_, rfl, px, _, _, _, rfl, rfl, s13.sqT hx, rfl, _, rfl, py, _, _, _, rfl, rfl, s13.sqT hy, rfl, _, rfl, px, _, _, _, rfl, rfl, s13.sqT hx, rfl, y1, x1, q.1, p.1, rfl, hy1.same s13, hx1.same s13, f3.fit, f1.fit, hle, fun v4 H4 s4 e4 => ?_⟩
   have b4 := Bd.sub f3.2 f1.2
   have n4 : (0 : Rat) ≤ q.1 - p.1 := by grind
   refine ⟨_, rfl, v4, v3, _, _, rfl, e4, e3.same s4, ⟨n4, b4.mono (by decide)⟩, ⟨np, bp.mono (by decide)⟩, trivial, fun v5 H5 s5 e5 => ?_⟩
   refine ⟨x1, v5, p.1, _, rfl, hx1.same (s13.trans (s4.trans s5)), e5, f1.fit, ⟨Rat.mul_nonneg n4 np, (b4.mul bp).mono (by decide)⟩, trivial, fun v6 H6 s6 e6 => k v6 H6 (s13.trans (s4.trans (s5.trans s6))) ?_⟩
   rw [show crs p q u = p.1 + (q.1 - p.1) * (apt p.2 u / apt p.2 q.2) from if_neg h']
   exact e6
theorem scReached : FnScope ["line", "up", "k"] ["line", "up"] (defScope s_reached) := ⟨rfl, rfl, rfl, by decide +kernel, rfl, by decide +kernel, by decide +kernel⟩
theorem ok_reached {f : Addr} {fd : FuncData} (D : DefAt K mg "reached" s_reached ["line", "up"] f fd) (CR : Cl P w K mg base "reaches" 2 ["one", "other", "up"] (spReaches K)) (CC : Cl P w K mg base "crossing" 5 ["one", "other", "up"] (spCrossing K)) (T : Txt K mg aL aR) :
  FnOk P w K mg base CX0 6 f fd ["line", "up"] (spReached K) := by
 refine D.fn.ok scReached (fun vs H Q E h => ?_) (fun cdv A outer s H vs Q E hr h => ?_)
 ·obtain ⟨a, xs, z, L, u, rfl, _⟩ := h
  rfl
 ·obtain ⟨a, xs, z, L, u, rfl, ha, hL, hz, ok, fu, k⟩ := h
  have hr2 : Room 2 _ := hr.mono (by decide)
  refine ⟨_, pss_cons (ps_for PassesOwn.never rfl (pi_range2 rfl T.range (pa_cons pe_int (pa_cons (pe_callB call_len_seq (by rfl) T.len PySem.boot_len (pa_cons (pv 0) pa_nil)) pa_nil))) (pg_name (i := 2) scReached.nd rfl (Or.inl rfl))
    (pss_one (ps_if (pt_val (pe_cl CR hr2 rfl (pa_cons (pe_ix ix_list (pv 0) (pe_op op_sub (pv 2) pe_int) (fun _ _ => rfl)) (pa_cons (pe_ix ix_list (pv 0) (pv 2) (fun _ _ => rfl)) (pa_cons (pv 1) pa_nil)))))
     (pss_one (ps_ret (pe_cl CC hr rfl (pa_cons (pe_ix ix_list (pv 0) (pe_op op_sub (pv 2) pe_int) (fun _ _ => rfl)) (pa_cons (pe_ix ix_list (pv 0) (pv 2) (fun _ _ => rfl)) (pa_cons (pv 1) pa_nil)))))) pss_nil)))
   (pss_one (ps_ret pe_non)), ?_⟩
  have lX := hL.length
  have few := ok.few
  refine ⟨_, rfl, a, _, rfl, .inl ha, ?_⟩
  refine ⟨1, (xs.length : Nat), rfl, ⟨by omega, by omega, by omega, by omega⟩, ?_⟩
  refine for_range (lo := 1) (n := ((xs.length : Int) - 1).toNat) (fun i σ H' => H' = H ∧ (∃ x2, σ = [some (.ref a), some z, x2]) ∧ rch (L.drop i) u = rch L u) ⟨rfl, ⟨_, rfl⟩, by rw [List.drop_zero]⟩ ?_ ?_
  ·rintro i σ H' hi ⟨rfl, ⟨x2, rfl⟩, e⟩
   obtain ⟨p, hp, cp⟩ := Paired.get1 hL i xs[i] (List.getElem?_eq_getElem (by omega))
   obtain ⟨q, hq, cq⟩ := Paired.get1 hL (i + 1) xs[i + 1] (List.getElem?_eq_getElem (by omega))
   have a1 : atI xs (1 + (i : Int) - 1) = some xs[i] := atI_of (by omega) (by
    rw [show (1 + (i : Int) - 1).toNat = i by omega]
    exact List.getElem?_eq_getElem (by omega))
   have a2 : atI xs (1 + (i : Int)) = some xs[i + 1] := atI_of (by omega) (by
    rw [show (1 + (i : Int)).toNat = i + 1 by omega]
    exact List.getElem?_eq_getElem (by omega))
   have g1 := ok.fit p (List.mem_of_getElem? hp)
   have g2 := ok.fit q (List.mem_of_getElem? hq)
   rw [rch_drop hp hq] at e
   refine ⟨_, rfl, _, rfl, _, _, rfl, rfl, a, _, _, _, rfl, rfl, ha, a1, _, rfl, _, rfl, a, _, _, _, rfl, rfl, ha, a2, _, rfl, _, _, z, p, q, u, rfl, cp, cq, hz, g1.2.fit, g2.2.fit, fu.fit, _, rfl, ?_⟩
   refine ite2 (fun h => ?_) (fun h => ?_)
   ·have h' : Rch p q u := of_decide_eq_true h
    rw [if_pos h'] at e
    refine ⟨_, rfl, _, rfl, _, _, rfl, rfl, a, _, _, _, rfl, rfl, ha, a1, _, rfl, _, rfl, a, _, _, _, rfl, rfl, ha, a2, _, rfl, _, _, z, p, q, u, rfl, cp, cq, hz, ⟨g1.1, g1.2, g2.1, g2.2, fu⟩, ok.rise i p q hp hq, h', fun v H2 s2 e2 => k v H2 s2 ?_⟩
    rw [← e]
    exact e2
   ·have h' : ¬ Rch p q u := fun z => h (decide_eq_true z)
    rw [if_neg h'] at e
    exact ⟨rfl, ⟨_, rfl⟩, e⟩
  ·rintro σ H' ⟨rfl, ⟨x2, rfl⟩, e⟩
   refine k _ _ (Same.refl _) ?_
   rw [← e, rch_end (by omega)]
   rfl
end
end FQ
namespace FQ
open PySem L2 FK
structure DOk (D : Nat) : Prop where
 pos : 0 < D
 few : D < 2 ^ 220
structure PcOk (D : Nat) (L : List (Rat × Rat)) : Prop where
 d : DOk D
 win : ∀ p ∈ L, 0 ≤ p.1 ∧ p.1 < p.2 ∧ p.2 ≤ 1
 apart : L.Pairwise fun a b => a.2 < b.1
 gr : ∀ p ∈ L, Gr D p.1 ∧ Gr D p.2
 few : L.length ≤ 1000
theorem DOk.bd {D : Nat} (h : DOk D) {q : Rat} (g : Gr D q) (h0 : 0 ≤ q) (h1 : q ≤ 1) : Bd 250 q :=
 (g.bd (n := 220) h.pos h0 (m := 1) (by rw [show ((1 : Nat) : Rat) = 1 from rfl]; exact h1) (by rw [Nat.one_mul]; exact h.few) h.few).mono (by decide)
theorem PcOk.fit {D : Nat} {L : List (Rat × Rat)} (h : PcOk D L) (p : Rat × Rat) (hp : p ∈ L) : Bd 250 p.1 ∧ Bd 250 p.2 := by
 have w := h.win p hp
 have g := h.gr p hp
 exact ⟨h.d.bd g.1 w.1 (by grind), h.d.bd g.2 (by grind) w.2.2⟩
def spSpan (K : PySem.W.Frag) : Sp := fun vs H Q _ => ∃ (x : V) (p : Rat × Rat), vs = [x] ∧ CoQ K H x p ∧ (0 ≤ p.1 ∧ p.1 < p.2 ∧ p.2 ≤ 1) ∧ (Bd 250 p.1 ∧ Bd 250 p.2) ∧ Q (.bl true) H
def spCheck (K : PySem.W.Frag) : Sp := fun vs H Q _ => ∃ (a : Addr) (xs : List V) (D : Nat) (L : List (Rat × Rat)), vs = [.ref a] ∧ SqL K H a xs ∧ Paired (CoQ K H) xs L ∧ PcOk D L ∧ Q .non H
abbrev StQ (K : PySem.W.Frag) := rpPair K (FrQ K) rpInt
theorem StQ.same {K : PySem.W.Frag} {H H' : Hp} {x : V} {d : Rat × Int} (s : Same H H') (h : StQ K H x d) : StQ K H' x d := by
 obtain ⟨p, y, z, rfl, q, h1, h2⟩ := h
 exact ⟨p, y, z, rfl, s.sqT q, h1.same s, h2⟩
theorem FrQ.keep {K : PySem.W.Frag} {H H' : Hp} {x : V} {q : Rat} (s : Keep H H') (h : FrQ K H x q) : FrQ K H' x q := s.fr h
theorem CoQ.keep {K : PySem.W.Frag} {H H' : Hp} {x : V} {d : Rat × Rat} (s : Keep H H') (h : CoQ K H x d) : CoQ K H' x d := by
 obtain ⟨p, y, z, rfl, q, h1, h2⟩ := h
 exact ⟨p, y, z, rfl, s.sqT q, h1.keep s, h2.keep s⟩
theorem StQ.keep {K : PySem.W.Frag} {H H' : Hp} {x : V} {d : Rat × Int} (s : Keep H H') (h : StQ K H x d) : StQ K H' x d := by
 obtain ⟨p, y, z, rfl, q, h1, h2⟩ := h
 exact ⟨p, y, z, rfl, s.sqT q, h1.keep s, h2⟩
structure TxtT (mg : Str → Option Value) : Prop where
 most : ∃ t, mg "MOST_STEPS" = some (.int 8 t)
 second : ∃ t, mg "GREATEST_SECOND_NUMBER" = some (.int 1000 t)
 weight : ∃ t, mg "GREATEST_WEIGHT" = some (.int 1000 t)
def spStep (K : PySem.W.Frag) : Sp := fun vs H Q _ => ∃ (x : V) (z : Rat × Int), vs = [x] ∧ StQ K H x z ∧ 0 ≤ z.1 ∧ z.1.den ≤ 1000 ∧ 1 ≤ z.2 ∧ z.2 ≤ 1000 ∧ Q .non H
def spSteps (K : PySem.W.Frag) : Sp := fun vs H Q _ => ∃ (a : Addr) (xs : List V) (p : Nat) (S : Steps), vs = [.ref a] ∧ SqL K H a xs ∧ Paired (StQ K H) xs S ∧ TsOk p S ∧ Q .non H
def spLine (K : PySem.W.Frag) : Sp := fun vs H Q _ => ∃ (a : Addr) (xs : List V) (p : Nat) (S : Steps), vs = [.ref a] ∧ SqL K H a xs ∧ Paired (StQ K H) xs S ∧ TsOk p S ∧
 ∀ (r : Addr) (ys : List V) (H' : Hp), Same H H' → H r = none → H' r = some (.lst ys) → Paired (CoQ K H') ys (wl S) → Q (.ref r) H'
theorem gr_den {D : Nat} {q : Rat} (h : Gr D q) (hD : 0 < D) : q.den ≤ D := by
 obtain ⟨n, hn⟩ := h
 have e : q = ((n : Rat) / ((D : Int) : Rat)) := by
  rw [Rat.intCast_natCast, ← hn]
  have := nat_ne hD
  grind
 obtain ⟨_, e2⟩ := low_fr (a := n) (b := (D : Int)) (by omega)
 rw [← e] at e2
 have := hi_le (a := n) (b := (D : Int)) (by omega)
 omega
section
variable {P : Program} {w : World} {K : PySem.W.Frag} {mg : Str → Option Value} {base : Heap} {aL aR : Addr}
theorem scSpan : FnScope ["thing"] ["thing"] (defScope s_is_span) := ⟨rfl, rfl, rfl, by decide +kernel, rfl, by decide +kernel, by decide +kernel⟩
theorem ok_span {f : Addr} {fd : FuncData} (D : DefAt K mg "is_span" s_is_span ["thing"] f fd) (CF : Cl P w K mg base "is_fraction" 2 ["thing"] (spFrac K)) (CB : Cl P w K mg base "below" 1 ["one", "other"] (spBelow K)) (T : Txt K mg aL aR) :
  FnOk P w K mg base CX0 3 f fd ["thing"] (spSpan K) := by
 refine D.fn.ok scSpan (fun vs H Q E h => ?_) (fun cdv A outer s H vs Q E hr h => ?_)
 ·obtain ⟨x, q, rfl, _⟩ := h
  rfl
 ·obtain ⟨x, q, rfl, ⟨p, y, z, rfl, hp, hy, hz⟩, ⟨w0, w1, w2⟩, ⟨b1, b2⟩, k⟩ := h
  have hr1 : Room 1 _ := hr.mono (by decide)
  have n2 : 0 ≤ q.2 := by grind
  have f1 : Fit q.1 := Bd.fit b1 w0 (by decide)
  have f2 : Fit q.2 := Bd.fit b2 n2 (by decide)
  refine ⟨_, pss_cons (ps_if (PW.pt (pw_or (pt_not (pt_val (pe_isi (pv 0) rfl T.isi rfl T.tuple PyProof.Rows.boot_tuple))) (pw_or1 (pt_cmpR op_ne (pe_callB call_len_seq (by rfl) T.len PySem.boot_len (pa_cons (pv 0) pa_nil)) pe_int (nomark _))))) pss_never pss_nil)
   (pss_cons (ps_if (PW.pt (pw_or (pt_not (pt_val (pe_cl CF hr rfl (pa_cons (pe_ix ix_tup (pv 0) pe_int (fun _ _ => rfl)) pa_nil)))) (pw_or1 (pt_not (pt_val (pe_cl CF hr rfl (pa_cons (pe_ix ix_tup (pv 0) pe_int (fun _ _ => rfl)) pa_nil))))))) pss_never pss_nil)
   (pss_one (ps_ret (pe_and (pe_cl CB hr1 rfl (pa_cons (pe_ix ix_tup (pv 0) pe_int (fun _ _ => rfl)) (pa_cons (pe_ix ix_tup (pv 0) pe_int (fun _ _ => rfl)) pa_nil)))
    (pe_one (pe_not (pe_cl CB hr1 rfl (pa_cons (pe_glob (v := .ref aR) rfl T.right rfl) (pa_cons (pe_ix ix_tup (pv 0) pe_int (fun _ _ => rfl)) pa_nil))))))))), ?_⟩
  refine ⟨_, rfl, _, _, .sqT hp, kit_tuple _, _, rfl, iteF ?_⟩
  refine ⟨_, rfl, p, _, rfl, .inr hp, rfl, _, rfl, iteNS rfl ?_⟩
  refine ⟨_, rfl, p, _, _, _, rfl, rfl, hp, rfl, y, q.1, rfl, hy, w0, _, rfl, iteF ?_⟩
  refine ⟨_, rfl, p, _, _, _, rfl, rfl, hp, rfl, z, q.2, rfl, hz, n2, _, rfl, iteF ?_⟩
  refine ⟨_, rfl, p, _, _, _, rfl, rfl, hp, rfl, _, rfl, p, _, _, _, rfl, rfl, hp, rfl, y, z, q.1, q.2, rfl, hy, hz, f1, f2, _, rfl, ?_⟩
  refine iteY w1 ?_
  refine ⟨_, rfl, p, _, _, _, rfl, rfl, hp, rfl, .ref aR, z, 1, q.2, rfl, T.r H, hz, Fit.one, f2, _, rfl, ?_⟩
  rw [decide_eq_false (show ¬ (1 : Rat) < q.2 by grind)]
  exact k
theorem scCheck : FnScope ["piece", "reached", "span"] ["piece"] (defScope s_check_piece) := ⟨rfl, rfl, rfl, by decide +kernel, rfl, by decide +kernel, by decide +kernel⟩
theorem ok_check {f : Addr} {fd : FuncData} (D : DefAt K mg "check_piece" s_check_piece ["piece"] f fd) (CS : Cl P w K mg base "is_span" 3 ["thing"] (spSpan K)) (CB : Cl P w K mg base "below" 1 ["one", "other"] (spBelow K)) (T : Txt K mg aL aR) :
  FnOk P w K mg base CX0 4 f fd ["piece"] (spCheck K) := by
 refine D.fn.ok scCheck (fun vs H Q E h => ?_) (fun cdv A outer s H vs Q E hr h => ?_)
 ·obtain ⟨p, xs, D, L, rfl, _⟩ := h
  rfl
 ·obtain ⟨p, xs, D, L, rfl, hp, hL, hG, k⟩ := h
  have hr1 : Room 1 _ := hr.mono (by decide)
  refine ⟨_, pss_cons (ps_if (pt_not (pt_val (pe_isi (pv 0) rfl T.isi rfl T.list PyProof.Rows.boot_list))) pss_never pss_nil)
   (pss_cons (ps_set (i := 1) scCheck.nd rfl (Or.inl rfl) pe_non)
   (pss_one (ps_for PassesOwn.never rfl (pi_list (pv 0)) (pg_name (i := 2) scCheck.nd rfl (Or.inl rfl))
    (pss_cons (ps_if (pt_not (pt_val (pe_cl CS hr rfl (pa_cons (pv 2) pa_nil)))) pss_never pss_nil)
    (pss_cons (ps_if (PW.pt (pw_and (pt_cmpR op_notN (pv 1) pe_non (nomark _)) (pw_and1 (pt_not (pt_val (pe_cl CB hr1 rfl (pa_cons (pv 1) (pa_cons (pe_ix ix_tup (pv 2) pe_int (fun _ _ => rfl)) pa_nil)))))))) pss_never pss_nil)
    (pss_one (ps_set (i := 1) scCheck.nd rfl (Or.inl rfl) (pe_ix ix_tup (pv 2) pe_int (fun _ _ => rfl))))))))), ?_⟩
  refine ⟨_, rfl, _, _, .sqL hp, kit_list _, _, rfl, iteF ?_⟩
  refine ⟨_, rfl, p, rfl, ⟨_, hp⟩, ?_⟩
  refine for_list (K := K) (a := p) (xs := xs) (fun i σ H' => H' = H ∧ ∃ (r : V) (sp : Option V), σ = [some (.ref p), some r, sp] ∧ ((i = 0 ∧ r = .non) ∨ ∃ j q, i = j + 1 ∧ L[j]? = some q ∧ FrQ K H r q.2))
   ⟨rfl, _, _, rfl, .inl ⟨rfl, rfl⟩⟩ (fun i σ H' _ h => by rw [h.1]; exact hp) ?_ ?_
  ·rintro i x σ H' hx ⟨rfl, r, sp, rfl, hR⟩
   obtain ⟨q, hq, hs⟩ := Paired.get1 hL i x hx
   obtain ⟨p0, y, z, rfl, hp0, hy, hz⟩ := id hs
   have wq := hG.win q (List.mem_of_getElem? hq)
   have fq := hG.fit q (List.mem_of_getElem? hq)
   refine ⟨_, rfl, _, q, rfl, hs, wq, fq, _, rfl, iteF ?_⟩
   have fin : H' = H' ∧ ∃ (r : V) (sp : Option V), [some (V.ref p), some z, some (V.ref p0)] = [some (.ref p), some r, sp] ∧ ((i + 1 = 0 ∧ r = .non) ∨ ∃ j q, i + 1 = j + 1 ∧ L[j]? = some q ∧ FrQ K H' r q.2) :=
    ⟨rfl, z, _, rfl, .inr ⟨i, q, rfl, hq, hz⟩⟩
   refine ⟨_, rfl, rfl, _, rfl, ?_⟩
   rcases hR with ⟨_, rfl⟩ | ⟨j, q0, hj, hq0, hr0⟩
   ·refine iteNS rfl (iteF ?_)
    exact ⟨_, rfl, p0, _, _, _, rfl, rfl, hp0, rfl, fin⟩
   ·have w0 := hG.win q0 (List.mem_of_getElem? hq0)
    have f0 := hG.fit q0 (List.mem_of_getElem? hq0)
    have ap : q0.2 < q.1 := by
     obtain ⟨l1, e1⟩ := List.getElem?_eq_some_iff.mp hq0
     obtain ⟨l2, e2⟩ := List.getElem?_eq_some_iff.mp hq
     have := List.pairwise_iff_getElem.mp hG.apart j i l1 l2 (by omega)
     rw [e1, e2] at this
     exact this
    obtain ⟨p2, rfl, h2⟩ := hr0.sq
    refine iteNN (fun z => nomatch z) ?_
    refine ⟨_, rfl, _, rfl, p0, _, _, _, rfl, rfl, hp0, rfl, .ref p2, y, q0.2, q.1, rfl, hr0, hy, Bd.fit f0.2 (by grind) (by decide), Bd.fit fq.1 wq.1 (by decide), _, rfl, ?_⟩
    refine iteNS ap ?_
    exact ⟨_, rfl, p0, _, _, _, rfl, rfl, hp0, rfl, fin⟩
  ·rintro σ H' ⟨rfl, r, sp, rfl, _⟩
   exact k
theorem scStep : FnScope ["step"] ["step"] (defScope s_check_step) := ⟨rfl, rfl, rfl, by decide +kernel, rfl, by decide +kernel, by decide +kernel⟩
theorem ok_step {f : Addr} {fd : FuncData} (D : DefAt K mg "check_step" s_check_step ["step"] f fd) (CF : Cl P w K mg base "is_fraction" 2 ["thing"] (spFrac K)) (CW : Cl P w K mg base "is_whole" 1 ["thing"] spWhole) (T : Txt K mg aL aR) (TT : TxtT mg) :
  FnOk P w K mg base CX0 3 f fd ["step"] (spStep K) := by
 obtain ⟨t2, e2⟩ := TT.second
 obtain ⟨t3, e3⟩ := TT.weight
 refine D.fn.ok scStep (fun vs H Q E h => ?_) (fun cdv A outer s H vs Q E hr h => ?_)
 ·obtain ⟨x, q, rfl, _⟩ := h
  rfl
 ·obtain ⟨x, q, rfl, ⟨p, y, z, rfl, hp, hy, hz⟩, h0, hd, w1, w2, k⟩ := h
  cases (show z = .int q.2 from hz)
  obtain ⟨p1, rfl, h1⟩ := hy.sq
  have hr1 : Room 1 _ := hr.mono (by decide)
  refine ⟨_, pss_cons (ps_if (PW.pt (pw_or (pt_not (pt_val (pe_isi (pv 0) rfl T.isi rfl T.tuple PyProof.Rows.boot_tuple))) (pw_or1 (pt_cmpR op_ne (pe_callB call_len_seq (by rfl) T.len PySem.boot_len (pa_cons (pv 0) pa_nil)) pe_int (nomark _))))) pss_never pss_nil)
   (pss_cons (ps_if (PW.pt (pw_or (pt_not (pt_val (pe_cl CF hr rfl (pa_cons (pe_ix ix_tup (pv 0) pe_int (fun _ _ => rfl)) pa_nil)))) (pw_or1 (pt_cmpR op_gt (pe_ix ix_tup (pe_ix ix_tup (pv 0) pe_int (fun _ _ => rfl)) pe_int (fun _ _ => rfl)) (pe_glob (v := .int 1000) rfl e2 ⟨_, rfl⟩) (nomark _))))) pss_never pss_nil)
   (pss_one (ps_if (PW.pt (pw_or (pt_not (pt_val (pe_cl CW hr1 rfl (pa_cons (pe_ix ix_tup (pv 0) pe_int (fun _ _ => rfl)) pa_nil)))) (pw_or (pt_cmpR op_lt (pe_ix ix_tup (pv 0) pe_int (fun _ _ => rfl)) pe_int (nomark _)) (pw_or1 (pt_cmpR op_gt (pe_ix ix_tup (pv 0) pe_int (fun _ _ => rfl)) (pe_glob (v := .int 1000) rfl e3 ⟨_, rfl⟩) (nomark _)))))) pss_never pss_nil))), ?_⟩
  refine ⟨_, rfl, _, _, .sqT hp, kit_tuple _, _, rfl, iteF ?_⟩
  refine ⟨_, rfl, p, _, rfl, .inr hp, rfl, _, rfl, iteNS rfl ?_⟩
  refine ⟨_, rfl, p, _, _, _, rfl, rfl, hp, rfl, .ref p1, q.1, rfl, hy, h0, _, rfl, iteF ?_⟩
  refine ⟨_, rfl, p, _, _, _, rfl, rfl, hp, rfl, p1, _, _, _, rfl, rfl, h1, rfl, _, _, rfl, rfl, _, rfl, iteN (by omega) ?_⟩
  refine ⟨_, rfl, p, _, _, _, rfl, rfl, hp, rfl, q.2, rfl, _, rfl, iteF ?_⟩
  refine ⟨_, rfl, p, _, _, _, rfl, rfl, hp, rfl, _, _, rfl, rfl, _, rfl, iteN (by omega) ?_⟩
  refine ⟨_, rfl, p, _, _, _, rfl, rfl, hp, rfl, _, _, rfl, rfl, _, rfl, iteN (by omega) ?_⟩
  exact k
theorem scSteps : FnScope ["steps", "start", "step"] ["steps"] (defScope s_check_steps) := ⟨rfl, rfl, rfl, by decide +kernel, rfl, by decide +kernel, by decide +kernel⟩
theorem ok_steps {f : Addr} {fd : FuncData} (D : DefAt K mg "check_steps" s_check_steps ["steps"] f fd) (CT : Cl P w K mg base "check_step" 3 ["step"] (spStep K)) (CB : Cl P w K mg base "below" 1 ["one", "other"] (spBelow K)) (T : Txt K mg aL aR) (TT : TxtT mg) :
  FnOk P w K mg base CX0 4 f fd ["steps"] (spSteps K) := by
 obtain ⟨t1, e1⟩ := TT.most
 refine D.fn.ok scSteps (fun vs H Q E h => ?_) (fun cdv A outer s H vs Q E hr h => ?_)
 ·obtain ⟨a, xs, p, S, rfl, _⟩ := h
  rfl
 ·obtain ⟨a, xs, p, S, rfl, ha, hS, ok, k⟩ := h
  have hr1 : Room 1 _ := hr.mono (by decide)
  have hu : _ + (0 + 1) < cLine := hu_of hr
  have lX := hS.length
  have l8 := ok.len
  have l0 : 0 < S.length := List.length_pos_iff.mpr ok.ne
  have few := ok.few
  refine ⟨_, pss_cons (ps_if (pt_not (pt_val (pe_isi (pv 0) rfl T.isi rfl T.list PyProof.Rows.boot_list))) pss_never pss_nil)
   (pss_cons (ps_if (PW.pt (pw_or (pt_cmpR op_lt (pe_callB call_len_seq (by rfl) T.len PySem.boot_len (pa_cons (pv 0) pa_nil)) pe_int (nomark _)) (pw_or1 (pt_cmpR op_gt (pe_callB call_len_seq (by rfl) T.len PySem.boot_len (pa_cons (pv 0) pa_nil)) (pe_glob (v := .int 8) rfl e1 ⟨_, rfl⟩) (nomark _))))) pss_never pss_nil)
   (pss_cons (ps_set (i := 1) scSteps.nd rfl (Or.inl rfl) (pe_glob (v := .ref aL) rfl T.left rfl))
   (pss_cons (ps_for PassesOwn.never rfl (pi_list (pv 0)) (pg_name (i := 2) scSteps.nd rfl (Or.inl rfl))
    (pss_cons (ps_expr (pe_cl CT hr rfl (pa_cons (pv 2) pa_nil)))
    (pss_cons (ps_if (pt_not (pt_val (pe_cl CB hr1 rfl (pa_cons (pv 1) (pa_cons (pe_ix ix_tup (pv 2) pe_int (fun _ _ => rfl)) pa_nil))))) pss_never pss_nil)
    (pss_one (ps_set (i := 1) scSteps.nd rfl (Or.inl rfl) (pe_ix ix_tup (pv 2) pe_int (fun _ _ => rfl)))))))
   (pss_one (ps_if (pt_cmpR (op_neP rpe_int rpe_int hu) (pv 1) (pe_glob (v := .ref aR) rfl T.right rfl) (nomark _)) pss_never pss_nil))))), ?_⟩
  refine ⟨_, rfl, _, _, .sqL ha, kit_list _, _, rfl, iteF ?_⟩
  refine ⟨_, rfl, a, _, rfl, .inl ha, _, _, rfl, rfl, _, rfl, iteN (by omega) ?_⟩
  refine ⟨_, rfl, a, _, rfl, .inl ha, _, _, rfl, rfl, _, rfl, iteN (by omega) ?_⟩
  refine ⟨_, rfl, a, rfl, ⟨_, ha⟩, ?_⟩
  refine for_list (K := K) (a := a) (xs := xs) (fun i σ H' => H' = H ∧ ∃ (v : V) (x2 : Option V), σ = [some (.ref a), some v, x2] ∧ FrQ K H v (endOf 0 (S.take i)))
   ⟨rfl, _, _, rfl, T.l H⟩ (fun i σ H' _ h => by rw [h.1]; exact ha) ?_ ?_
  ·rintro i x σ H' hx ⟨rfl, v, x2, rfl, hv⟩
   obtain ⟨z, hz, hs⟩ := Paired.get1 hS i x hx
   obtain ⟨r1, r2⟩ := rise_get ok.rise hz
   have mz := List.mem_of_getElem? hz
   have z0 : 0 ≤ z.1 := by
    have := end_nn ok i
    grind
   have zd := gr_den (ok.gr z mz) ok.pos
   have zw := ok.w z mz
   refine ⟨_, rfl, x, z, rfl, hs, z0, by omega, by omega, zw, ?_⟩
   obtain ⟨p0, y, q, rfl, hp0, hy, hq⟩ := id hs
   have nx : endOf 0 (S.take (i + 1)) = z.1 := by
    rw [take_snoc hz, show z = (z.1, z.2) from rfl, end_snoc]
   have zb : Bd 10 z.1 := by
    rw [← nx]
    exact end_bd ok (i + 1)
   refine ⟨_, rfl, _, rfl, p0, _, _, _, rfl, rfl, hp0, rfl, v, y, _, _, rfl, hv, hy, ⟨end_nn ok i, (end_bd ok i).mono (by decide)⟩, ⟨z0, zb.mono (by decide)⟩, _, rfl, ?_⟩
   refine iteNS r1 ?_
   refine ⟨_, rfl, p0, _, _, _, rfl, rfl, hp0, rfl, rfl, y, _, rfl, ?_⟩
   rw [nx]
   exact hy
  ·rintro σ H' ⟨rfl, v, x2, rfl, hv⟩
   rw [List.take_of_length_le (by omega), ok.top] at hv
   refine ⟨_, rfl, _, _, hv, T.r H', _, rfl, iteNS rfl ?_⟩
   exact k
end
end FQ
namespace FQ
open PySem L2 FK
theorem Paired.last {α β : Type} {F : α → β → Prop} : ∀ {xs : List α} {L : List β} {l : β}, Paired F xs (L ++ [l]) → ∃ xs0 v, xs = xs0 ++ [v] ∧ Paired F xs0 L ∧ F v l
 | _, [], _, .cons r .nil => ⟨[], _, rfl, .nil, r⟩
 | _, _ :: L, _, .cons r t => by
  obtain ⟨xs0, v, rfl, h1, h2⟩ := Paired.last (L := L) t
  exact ⟨_ :: xs0, v, rfl, .cons r h1, h2⟩
theorem hl_split {b h : Rat} {S : Steps} (r : Rise b S) : ∃ L, hl b h S = L ++ [(endOf b S, h + A b S (endOf b S))] := List.getLast?_eq_some_iff.mp (hl_last b h S r)
abbrev NW : List Str := ["steps", "ends", "hefts", "step", "length"]
theorem scLine : FnScope NW ["steps"] (defScope s_worth_line) := ⟨rfl, rfl, rfl, by decide +kernel, rfl, by decide +kernel, by decide +kernel⟩
section
variable {P : Program} {w : World} {K : PySem.W.Frag} {mg : Str → Option Value} {base : Heap} {aL aR : Addr}
theorem int_bd {n : Int} (h0 : 0 ≤ n) (h1 : n ≤ 1000) : Bd 10 (n : Rat) := by
 refine ⟨?_, ?_⟩
 ·show n.natAbs < 2 ^ 10
  omega
 ·show (1 : Nat) < 2 ^ 10
  decide
theorem int_nn {n : Int} (h : 0 ≤ n) : (0 : Rat) ≤ (n : Rat) := Rat.intCast_nonneg.mpr h
theorem heft_fit {p : Nat} {S : Steps} (ok : TsOk p S) (i : Nat) : Ft 20 (A 0 (S.take i) (endOf 0 (S.take i))) := by
 have f := ok.few
 rw [A_take i ok.rise]
 refine ⟨A_nn ok.rise, ?_⟩
 refine (A_gr (Gr.zero p) ok.gr (end_g ok i)).bd ok.pos (A_nn ok.rise) (m := 1000) (ok.up (end_nn ok i) (end_le ok i)) ?_ ?_
 ·omega
 ·omega
theorem ok_line {f : Addr} {fd : FuncData} (D : DefAt K mg "worth_line" s_worth_line ["steps"] f fd) (C : Four P w K mg base) (T : Txt K mg aL aR) : FnOk P w K mg base CX0 4 f fd ["steps"] (spLine K) := by
  refine D.fn.ok scLine (fun vs H Q E h => ?_) (fun cdv A0 outer s H vs Q E hr h => ?_)
  · obtain ⟨a, xs, p, S, rfl, _⟩ := h
    rfl
  · obtain ⟨a, xs, p, S, rfl, ha, hS, ok, k⟩ := h
    have lX := hS.length
    have l8 := ok.len
    refine ⟨_, pss_cons (ps_set (i := 1) scLine.nd rfl (Or.inl rfl) (pe_lst (pa_cons (pe_glob (v := .ref aL) rfl T.left rfl) pa_nil)))
      (pss_cons (ps_set (i := 2) scLine.nd rfl (Or.inr rfl) (pe_lst (pa_cons (pe_tup (pa_cons pe_int (pa_cons pe_int pa_nil))) pa_nil)))
      (pss_cons (ps_for PassesOwn.never rfl (pi_list (pv 0)) (pg_name (i := 3) scLine.nd rfl (Or.inl rfl))
        (pss_cons (ps_set (i := 4) scLine.nd rfl (Or.inl rfl) (pe_cl C.minus hr rfl (pa_cons (pe_ix ix_tup (pv 3) pe_int (fun _ _ => rfl)) (pa_cons (pe_ix ix_list (pv 1) (pe_un un_neg pe_int) (fun _ _ => rfl)) pa_nil))))
        (pss_cons (ps_expr (pe_bm PySem.F.plainAttrs_list PySem.F.slot_list_append PySem.F.type_list_append mt_append (pv 2) (pa_cons (pe_cl C.plus hr rfl (pa_cons (pe_ix ix_list (pv 2) (pe_un un_neg pe_int) (fun _ _ => rfl))
          (pa_cons (pe_cl C.times hr rfl (pa_cons (pv 4) (pa_cons (pe_tup (pa_cons (pe_ix ix_tup (pv 3) pe_int (fun _ _ => rfl)) (pa_cons pe_int pa_nil))) pa_nil))) pa_nil))) pa_nil)))
        (pss_one (ps_expr (pe_bm PySem.F.plainAttrs_list PySem.F.slot_list_append PySem.F.type_list_append mt_append (pv 1) (pa_cons (pe_ix ix_tup (pv 3) pe_int (fun _ _ => rfl)) pa_nil)))))))
      (pss_one (ps_ret (pe_comp ["point", "heft"] rfl (CompOk.free1 (F := ["hefts"]) (js := [2]) rfl (by decide +kernel) (by decide +kernel) rfl ⟨rfl, trivial⟩ rfl ⟨⟨rfl, rfl, .inl rfl⟩, trivial⟩) (pi_zip rfl T.zip (pa_cons (pv 1) (pa_cons (pv 2) pa_nil)))
        (fun _ => pg_tup rfl (pgs_cons (pg_name (i := 0) (show [Str.ofString "point", Str.ofString "heft", Str.ofString "hefts"].Nodup by decide +kernel) rfl (Or.inl rfl)) (pgs_cons (pg_name (i := 1) (show [Str.ofString "point", Str.ofString "heft", Str.ofString "hefts"].Nodup by decide +kernel) rfl (Or.inl rfl)) pgs_nil)))
        (fun _ => pifs_nil)
        (fun _ => pe_tup (pa_cons (pv 0) (pa_cons (pe_cl C.over hr rfl (pa_cons (pv 1) (pa_cons (pe_ix ix_list (pv 2) (pe_un un_neg pe_int) (fun _ _ => rfl)) pa_nil))) pa_nil)))))))), ?_⟩
    refine ⟨(by show 1 ≤ sizeLine; decide), fun le hle => ?_⟩
    refine ⟨(by show 2 ≤ sizeLine; decide), fun t ht => ⟨(by show 1 ≤ sizeLine; decide), fun lh hlh => ?_⟩⟩
    have s1 : Same H (upd H le (.lst [.ref aL])) := Same.upd hle
    have s2 := s1.trans (Same.upd (o := .tup [.int 0, .int 1]) ht)
    have s3 := s2.trans (Same.upd (o := .lst [.ref t]) hlh)
    have hlh0 : H lh = none := s2.free hlh
    have e2 : (upd (upd H le (.lst [.ref aL])) t (.tup [.int 0, .int 1])) le = some (.lst [.ref aL]) := Same.upd ht _ _ upd_same
    have ne : le ≠ lh := ne_of_none e2 hlh
    refine ⟨_, rfl, a, rfl, ⟨_, s3.seq ha⟩, ?_⟩
    refine for_list (K := K) (a := a) (xs := xs) (fun i σ H' => Same H H' ∧ ∃ (es hs : List V) (x3 x4 : Option V), σ = [some (.ref a), some (.ref le), some (.ref lh), x3, x4] ∧ H' le = some (.lst es) ∧ H' lh = some (.lst hs) ∧
        Paired (FrQ K H') es ((hl 0 0 (S.take i)).map Prod.fst) ∧ Paired (FrQ K H') hs ((hl 0 0 (S.take i)).map Prod.snd))
      ⟨s3, _, _, _, _, rfl, by rw [upd_ne ne]; exact e2, upd_same, .cons (T.l _) .nil, .cons (.of (.of (Same.upd hlh _ _ upd_same)) rfl rfl) .nil⟩ (fun i σ H' _ h => h.1.seq ha) ?_ ?_
    · rintro i x σ H' hx ⟨s4, es, hs, x3, x4, rfl, hE, hHh, pE, pH⟩
      obtain ⟨z, hz, hs0⟩ := Paired.get1 hS i x hx
      obtain ⟨p0, y, q, rfl, hp0, hy, hq⟩ := id hs0
      cases (show q = .int z.2 from hq)
      obtain ⟨r1, r2⟩ := rise_get ok.rise hz
      have mz := List.mem_of_getElem? hz
      have nx : endOf 0 (S.take (i + 1)) = z.1 := by
        rw [take_snoc hz, show z = (z.1, z.2) from rfl, end_snoc]
      have z0 : 0 ≤ z.1 := by rw [← nx]; exact end_nn ok _
      have zb : Bd 10 z.1 := by rw [← nx]; exact end_bd ok _
      have zw := ok.w z mz
      obtain ⟨L, hL⟩ := hl_split (b := 0) (h := 0) (rise_take i ok.rise)
      rw [zero_add'] at hL
      have hl1 : hl 0 0 (S.take (i + 1)) = L ++ [(endOf 0 (S.take i), A 0 (S.take i) (endOf 0 (S.take i)))] ++ [(z.1, A 0 (S.take i) (endOf 0 (S.take i)) + (z.1 - endOf 0 (S.take i)) * (z.2 : Rat))] := by
        have := hl_snoc 0 0 (S.take i) z.1 z.2 (rise_take i ok.rise)
        rw [zero_add'] at this
        rw [take_snoc hz, show z = (z.1, z.2) from rfl, this, hL]
      have pE' := pE
      have pH' := pH
      rw [hL, List.map_append] at pE' pH'
      obtain ⟨es0, v, rfl, _, hv⟩ := Paired.last pE'
      obtain ⟨hs1, u, rfl, _, hu⟩ := Paired.last pH'
      have hf := heft_fit ok i
      have dl : Bd 21 (z.1 - endOf 0 (S.take i)) := Bd.sub zb (end_bd ok i)
      have dn : 0 ≤ z.1 - endOf 0 (S.take i) := by grind
      have sp0 := s4.sqT hp0
      refine ⟨_, rfl, p0, _, _, _, rfl, rfl, sp0, rfl, _, rfl, _, rfl, le, _, _, _, rfl, rfl, .of hE, atI_last _ _, y, v, z.1, _, rfl, hy.same s4, hv, ⟨z0, zb.mono (by decide)⟩, ⟨end_nn ok i, (end_bd ok i).mono (by decide)⟩, Rat.le_of_lt r1, fun v1 H1 t1 d1 => ?_⟩
      have hE1 := t1 _ _ hE
      have hH1 := t1 _ _ hHh
      refine ⟨_, rfl, .inl ⟨rfl, _, .of hH1⟩, _, rfl, _, rfl, lh, _, _, _, rfl, rfl, .of hH1, atI_last _ _, _, rfl, _, rfl, p0, _, _, _, rfl, rfl, t1.sqT sp0, rfl, (by show 2 ≤ sizeLine; decide), fun t5 ht5 => ?_⟩
      have t2 := Same.upd (o := .tup [.int z.2, .int 1]) ht5
      refine ⟨v1, .ref t5, _, (z.2 : Rat), rfl, d1.same t2, .of sqT_new rfl rfl, ⟨dn, dl.mono (by decide)⟩, ⟨int_nn (by omega), (int_bd (by omega) zw).mono (by decide)⟩, trivial, fun v2 H2 t3 d2 => ?_⟩
      have t13 := t1.trans (t2.trans t3)
      have bm : Bd 31 ((z.1 - endOf 0 (S.take i)) * (z.2 : Rat)) := Bd.mul dl (int_bd (by omega) zw)
      have mn : 0 ≤ (z.1 - endOf 0 (S.take i)) * (z.2 : Rat) := Rat.mul_nonneg dn (int_nn (by omega))
      refine ⟨u, v2, _, _, rfl, (hu.same t13), d2, hf.fit, ⟨mn, bm.mono (by decide)⟩, trivial, fun v3 H3 t4 d3 => ?_⟩
      have t14 := t13.trans t4
      have hE3 := t14 _ _ hE
      have hH3 := t14 _ _ hHh
      have lenH : (hs1 ++ [u]).length ≤ 100 := by
        rw [pH.length, List.length_map, hl_len, List.length_take]
        omega
      have lenE : (es0 ++ [v]).length ≤ 100 := by
        rw [pE.length, List.length_map, hl_len, List.length_take]
        omega
      have big : 1000 ≤ sizeLine := by decide
      refine ⟨lh, _, v3, rfl, rfl, hH3, by omega, ?_⟩
      have k1 : Keep H3 (upd H3 lh (.lst (hs1 ++ [u] ++ [v3]))) := Keep.updL hH3
      have hE4 : (upd H3 lh (.lst (hs1 ++ [u] ++ [v3]))) le = some (.lst (es0 ++ [v])) := by rw [upd_ne ne]; exact hE3
      refine ⟨_, rfl, .inl ⟨rfl, _, .of hE4⟩, _, rfl, p0, _, _, _, rfl, rfl, k1.sqT (t14.sqT sp0), rfl, le, _, _, rfl, rfl, hE4, by omega, ?_⟩
      have k2 : Keep (upd H3 lh (.lst (hs1 ++ [u] ++ [v3]))) (upd (upd H3 lh (.lst (hs1 ++ [u] ++ [v3]))) le (.lst (es0 ++ [v] ++ [y]))) := Keep.updL hE4
      have kk := (Keep.of t14).trans (k1.trans k2)
      refine ⟨((s4.trans t14).updN hlh0).updN hle, _, _, _, _, rfl, upd_same, by rw [upd_ne ne.symm, upd_same], ?_, ?_⟩
      · rw [hl1, List.map_append, ← hL]
        exact Paired.app (Paired.mapP pE fun _ _ z => z.keep kk) (.cons ((hy.same s4).keep kk) .nil)
      · rw [hl1, List.map_append, ← hL]
        exact Paired.app (Paired.mapP pH fun _ _ z => z.keep kk) (.cons (d3.keep (k1.trans k2)) .nil)
    · rintro σ H' ⟨s4, es, hs, x3, x4, rfl, hE, hHh, pE, pH⟩
      rw [List.take_of_length_le (by omega)] at pE pH
      have lE : es.length = S.length + 1 := by rw [pE.length, List.length_map, hl_len]
      have lH : hs.length = S.length + 1 := by rw [pH.length, List.length_map, hl_len]
      obtain ⟨L, hL⟩ := hl_split (b := 0) (h := 0) ok.rise
      rw [zero_add', ok.top] at hL
      have pH' := pH
      rw [hL, List.map_append] at pH'
      obtain ⟨hs1, u, rfl, _, hu⟩ := Paired.last pH'
      refine ⟨_, rfl, _, rfl, le, lh, rfl, ⟨_, .of hE⟩, ⟨_, .of hHh⟩, fun D1 hD1 => ?_⟩
      have neE : le ≠ D1 := ne_of_none hE hD1
      have neH : lh ≠ D1 := ne_of_none hHh hD1
      refine comp_zip (K := K) (l1 := le) (l2 := lh) (D := D1) (xs := es) (zs := hs1 ++ [u]) (fun i ys σ H2 => Same H' H2 ∧ H2 D1 = some (.lst ys) ∧ Paired (CoQ K H2) ys ((wl S).take i) ∧ i ≤ S.length + 1 ∧ ∃ x0 x1, σ = [x0, x1, some (.ref lh)])
        (by omega) (by have : 1000 ≤ sizeLine := by decide
                       omega) ⟨Same.upd hD1, upd_same, .nil, by omega, _, _, rfl⟩ ?_ ?_ ?_
      · rintro i ys σ H2 hi ⟨t1, h1, h2, h3, _⟩
        refine ⟨.of (t1 _ _ hE), .of (t1 _ _ hHh), h1, ?_⟩
        rw [h2.length, List.length_take]
        omega
      · rintro i x y ys σ H2 T0 hx hy ⟨t1, h1, h2, h3, x0, x1, rfl⟩ hT0 c
        obtain ⟨q1, hq1, fq1⟩ := Paired.get1 pE i x hx
        obtain ⟨q2, hq2, fq2⟩ := Paired.get1 pH i y hy
        have i1 : i < S.length + 1 := by have := (List.getElem?_eq_some_iff.mp hx).1; omega
        have hg := hl_get (h := 0) ok.rise (show i ≤ S.length by omega)
        rw [List.getElem?_map, hg] at hq1 hq2
        have eq1 : endOf 0 (S.take i) = q1 := Option.some.inj hq1
        have eq2 : A 0 S (endOf 0 (S.take i)) = q2 := by rw [← Option.some.inj hq2, zero_add']
        have t2 : Same H2 (upd H2 T0 (.tup [x, y])) := Same.upd hT0
        have t12 := t1.trans t2
        have hH2 := t12 _ _ hHh
        have hf := heft_fit ok i
        rw [A_take i ok.rise, eq2] at hf
        have tb : Ft 20 (tot S) := by
          have := heft_fit ok S.length
          rw [List.take_length, ok.top] at this
          exact this
        refine ⟨T0, _, rfl, sqT_new, rfl, x, _, rfl, y, _, rfl, rfl, ?_⟩
        refine ⟨_, rfl, _, rfl, _, rfl, _, rfl, lh, _, _, _, rfl, rfl, .of hH2, atI_last _ _, y, u, q2, tot S, rfl, fq2.same t12, hu.same t12, hf.fit, tb.fit, ok.tp, fun v1 H3 t3 d1 => ?_⟩
        refine ⟨(by show 2 ≤ sizeLine; decide), fun r hr5 => ?_⟩
        have t4 : Same H3 (upd H3 r (.tup [x, v1])) := Same.upd hr5
        have hD4 := (t2.trans (t3.trans t4)) _ _ h1
        refine ⟨hD4, ?_, upd_same, ?_, by omega, _, _, rfl⟩
        · exact (t12.trans (t3.trans t4)).updN hD1
        · have wi : (wl S)[i]? = some (q1, q2 / tot S) := by
            unfold wl
            rw [List.getElem?_map, hg, zero_add', eq2, eq1]
            rfl
          rw [take_snoc wi]
          have k1 := Keep.updL (o := .lst (ys ++ [.ref r])) hD4
          have kk := (Keep.of (t2.trans (t3.trans t4))).trans k1
          refine Paired.app (Paired.mapP h2 fun _ _ z => CoQ.keep kk z) (.cons ⟨r, x, v1, rfl, k1.sqT sqT_new, ?_, (d1.same t4).keep k1⟩ .nil)
          exact (fq1.same (t12.trans (t3.trans t4))).keep k1
      · rintro ys σ H2 ⟨t1, h1, h2, h3, _⟩
        rw [List.take_of_length_le (by unfold wl; rw [List.length_map, hl_len]; omega)] at h2
        exact k D1 ys H2 (s4.trans t1) (s4.free hD1) h1 h2
end
end FQ
namespace FQ
open PySem L2 FK
structure TxtC (K : PySem.W.Frag) (C : Addr) : Prop where
 cl : Cls K C
 nT : NoAttr K C "told"
 nL : NoAttr K C "line"
abbrev fldT (lt ll : Addr) : List (Str × V) := putF "line" (.ref ll) (putF "told" (.ref lt) [])
structure TasteAt (K : PySem.W.Frag) (C : Addr) (H : Hp) (x lt ll : Addr) (S : Steps) : Prop where
 ins : ∃ dx, H x = some (.ins C dx (fldT lt ll))
 told : ∃ ts, H lt = some (.lst ts) ∧ Paired (StQ K H) ts S
 line : ∃ ls, H ll = some (.lst ls) ∧ Paired (CoQ K H) ls (wl S)
theorem TasteAt.same {K : PySem.W.Frag} {C : Addr} {H H' : Hp} {x lt ll : Addr} {S : Steps} (s : Same H H') (h : TasteAt K C H x lt ll S) : TasteAt K C H' x lt ll S := by
 obtain ⟨⟨dx, h1⟩, ⟨ts, h2, h3⟩, ⟨ls, h4, h5⟩⟩ := h
 exact ⟨⟨dx, s _ _ h1⟩, ⟨ts, s _ _ h2, Paired.mapP h3 fun _ _ z => StQ.same s z⟩, ⟨ls, s _ _ h4, Paired.mapP h5 fun _ _ z => CoQ.same s z⟩⟩
theorem TasteAt.but {K : PySem.W.Frag} {C : Addr} {H : Hp} {x lt ll l : Addr} {S : Steps} {zs ys : List V} (h : TasteAt K C H x lt ll S) (hl : H l = some (.lst zs)) (n1 : l ≠ lt) (n2 : l ≠ ll) : TasteAt K C (upd H l (.lst ys)) x lt ll S := by
 obtain ⟨⟨dx, h1⟩, ⟨ts, h2, h3⟩, ⟨ls, h4, h5⟩⟩ := h
 have k := Keep.updL (o := .lst ys) hl
 refine ⟨⟨dx, ?_⟩, ⟨ts, ?_, Paired.mapP h3 fun _ _ z => StQ.keep k z⟩, ⟨ls, ?_, Paired.mapP h5 fun _ _ z => CoQ.keep k z⟩⟩
 ·exact k _ _ h1 (fun _ z => nomatch z) (fun _ z => nomatch z)
 ·rw [upd_ne n1.symm]
  exact h2
 ·rw [upd_ne n2.symm]
  exact h4
def spInit (K : PySem.W.Frag) (C : Addr) : Sp := fun vs H Q _ => ∃ (x dx a : Addr) (xs : List V) (p : Nat) (S : Steps), vs = [.ref x, .ref a] ∧ H x = some (.ins C dx []) ∧ SqL K H a xs ∧ Paired (StQ K H) xs S ∧ TsOk p S ∧
 ∀ (lt ll : Addr) (H' : Hp), (∀ b o, H b = some o → b ≠ x → H' b = some o) → H lt = none → H ll = none → TasteAt K C H' x lt ll S → Q .non H'
def spTold (K : PySem.W.Frag) (C : Addr) : Sp := fun vs H Q _ => ∃ (x lt ll : Addr) (S : Steps), vs = [.ref x] ∧ TasteAt K C H x lt ll S ∧ ∀ (l : Addr) (ts : List V), H l = none → Paired (StQ K H) ts S → Q (.ref l) (upd H l (.lst ts))
def spUpTo (K : PySem.W.Frag) (C : Addr) : Sp := fun vs H Q _ => ∃ (x lt ll : Addr) (z : V) (p : Nat) (S : Steps) (q : Rat), vs = [.ref x, z] ∧ TasteAt K C H x lt ll S ∧ TsOk p S ∧ FrQ K H z q ∧ 0 ≤ q ∧ q ≤ 1 ∧ Bd 250 q ∧
 ∀ v H', Same H H' → FrQ K H' v (F S q) → Q v H'
def spSpanWorth (K : PySem.W.Frag) (C : Addr) : Sp := fun vs H Q _ => ∃ (x lt ll : Addr) (z : V) (p D : Nat) (S : Steps) (q : Rat × Rat), vs = [.ref x, z] ∧ TasteAt K C H x lt ll S ∧ TsOk p S ∧ CoQ K H z q ∧ (0 ≤ q.1 ∧ q.1 ≤ q.2 ∧ q.2 ≤ 1) ∧ DOk D ∧ (Gr D q.1 ∧ Gr D q.2) ∧
 ∀ v H', Same H H' → FrQ K H' v (F S q.2 - F S q.1) → Q v H'
def spWorth (K : PySem.W.Frag) (C : Addr) : Sp := fun vs H Q _ => ∃ (x lt ll a : Addr) (xs : List V) (p D : Nat) (S : Steps) (L : List (Rat × Rat)), vs = [.ref x, .ref a] ∧ TasteAt K C H x lt ll S ∧ TsOk p S ∧ SqL K H a xs ∧ Paired (CoQ K H) xs L ∧ PcOk D L ∧
 ∀ v H', Same H H' → FrQ K H' v (Wo S L) → Q v H'
theorem mk_taste {K : PySem.W.Frag} {C : Addr} {H : Hp} {R : Addr → Hp → Prop} {E : XK} {a : Addr} {xs : List V} {p : Nat} {S : Steps} (ha : SqL K H a xs) (hS : Paired (StQ K H) xs S) (ok : TsOk p S)
  (k : ∀ (x lt ll : Addr) (H' : Hp), Same H H' → H x = none → H lt = none → H ll = none → TasteAt K C H' x lt ll S → R x H') :
  ∀ x dx, H x = none → H dx = none → dx ≠ x → spInit K C [.ref x, .ref a] (upd (upd H dx (.own x)) x (.ins C dx [])) (fun v H2 => v = .non ∧ R x H2) E := by
 intro x dx hx hdx ne
 have s0 : Same H (upd (upd H dx (.own x)) x (.ins C dx [])) := fun b o e => by
  rw [upd_ne (ne_of_none e hx), upd_ne (ne_of_none e hdx)]
  exact e
 refine ⟨x, dx, a, xs, p, S, rfl, upd_same, s0.seq ha, Paired.mapP hS fun _ _ z => StQ.same s0 z, ok, fun lt ll H' h1 h2 h3 h4 => ⟨rfl, k x lt ll H' (fun b o e => h1 b o (s0 b o e) (ne_of_none e hx)) hx (s0.free h2) (s0.free h3) h4⟩⟩
theorem wlF_eq (S : Steps) : wlF S = (wl S).map fun z => (z.2, z.1) := by
 unfold wl wlF
 rw [List.map_map]
 rfl
section
variable {p : Nat} {S : Steps}
theorem wl_ok (h : TsOk p S) : LnOk (wl S) where
 few := by
  have := h.len
  unfold wl
  rw [List.length_map, hl_len]
  omega
 fit := fun z hz => by
  obtain ⟨i, hi⟩ := List.mem_iff_getElem?.mp hz
  obtain ⟨_, rfl⟩ := wl_get h hi
  exact ⟨⟨end_nn h i, (end_bd h i).mono (by decide)⟩, ⟨F_nn h _, (endF_bd h i).mono (by decide)⟩⟩
 rise := fun i a b ha hb => by
  obtain ⟨_, rfl⟩ := wl_get h ha
  obtain ⟨l2, rfl⟩ := wl_get h hb
  exact Rat.le_of_lt (end_step h l2)
theorem wlF_ok (h : TsOk p S) : LnOk (wlF S) := by
 have o := wl_ok h
 rw [wlF_eq]
 refine ⟨by rw [List.length_map]; exact o.few, fun z hz => ?_, fun i a b ha hb => ?_⟩
 ·obtain ⟨y, hy, rfl⟩ := List.mem_map.mp hz
  exact ⟨(o.fit y hy).2, (o.fit y hy).1⟩
 ·rw [List.getElem?_map] at ha hb
  cases qa : (wl S)[i]? with
  | none => rw [qa] at ha; cases ha
  | some a' =>
   cases qb : (wl S)[i + 1]? with
   | none => rw [qb] at hb; cases hb
   | some b' =>
    rw [qa] at ha
    rw [qb] at hb
    cases (Option.some.inj ha)
    cases (Option.some.inj hb)
    obtain ⟨_, rfl⟩ := wl_get h qa
    obtain ⟨l2, rfl⟩ := wl_get h qb
    exact F_mono h (Rat.le_of_lt (end_step h l2))
theorem F_dbd (h : TsOk p S) {D : Nat} (d : DOk D) {x : Rat} (g : Gr D x) (h1 : x ≤ 1) : Bd 250 (F S x) := by
 have := d.few
 exact F_bd h g d.pos h1 (by omega)
end
section
variable {P : Program} {w : World} {K : PySem.W.Frag} {mg : Str → Option Value} {base : Heap} {aL aR C : Addr}
theorem scInit : FnScope ["self", "steps"] ["self", "steps"] (defScope m_Taste___init__) := ⟨rfl, rfl, rfl, by decide +kernel, rfl, by decide +kernel, by decide +kernel⟩
theorem ok_init {f : Addr} {fd : FuncData} (D : Fun K "__init__" "Taste.__init__" m_Taste___init__ f fd) (CS : Cl P w K mg base "check_steps" 4 ["steps"] (spSteps K)) (CL : Cl P w K mg base "worth_line" 4 ["steps"] (spLine K)) (T : Txt K mg aL aR) (TC : TxtC K C) :
  FnOk P w K mg base CX0 5 f fd ["self", "steps"] (spInit K C) := by
 refine D.ok scInit (fun vs H Q E h => ?_) (fun cdv A0 outer s H vs Q E hr h => ?_)
 ·obtain ⟨x, dx, a, xs, p, S, rfl, _⟩ := h
  rfl
 ·obtain ⟨x, dx, a, xs, p, S, rfl, hx, ha, hS, ok, k⟩ := h
  refine ⟨_, pss_cons (ps_expr (pe_cl CS hr rfl (pa_cons (pv 1) pa_nil)))
   (pss_cons (ps_fld (pv 0) (pe_callTy call_list_of rfl T.list PyProof.Rows.boot_list (pa_cons (pv 1) pa_nil)) rfl)
   (pss_one (ps_fld (pv 0) (pe_cl CL hr rfl (pa_cons (pv 1) pa_nil)) rfl))), ?_⟩
  refine ⟨_, rfl, a, xs, p, S, rfl, ha, hS, ok, ?_⟩
  refine ⟨_, rfl, a, xs, rfl, .inl ha, fun lt hlt => ?_⟩
  have s1 : Same H (upd H lt (.lst xs)) := Same.upd hlt
  have nx : x ≠ lt := ne_of_none hx hlt
  refine ⟨_, rfl, x, C, dx, [], rfl, s1 _ _ hx, TC.cl, TC.nT, (by show 0 < 1000; decide), ?_⟩
  have k1 : Keep H (upd (upd H lt (.lst xs)) x (.ins C dx (putF "told" (.ref lt) []))) → True := fun _ => trivial
  have sq2 : SqL K (upd (upd H lt (.lst xs)) x (.ins C dx (putF "told" (.ref lt) []))) a xs := by
   rcases s1.seq ha with (z | ⟨o, z⟩) | z
   ·exact .inl (.inl (by rw [upd_ne (ne_of z (s1 _ _ hx) (fun z => nomatch z))]; exact z))
   ·exact .inl (.inr ⟨o, by rw [upd_ne (ne_of z (s1 _ _ hx) (fun z => nomatch z))]; exact z⟩)
   ·exact .inr z
  have tq : ∀ (b : Addr) (zs : List V), SqT K H b zs → SqT K (upd (upd H lt (.lst xs)) x (.ins C dx (putF "told" (.ref lt) []))) b zs := fun b zs hb => by
   rcases s1.sqT hb with (z | ⟨o, z⟩) | z
   ·exact .inl (.inl (by rw [upd_ne (ne_of z (s1 _ _ hx) (fun z => nomatch z))]; exact z))
   ·exact .inl (.inr ⟨o, by rw [upd_ne (ne_of z (s1 _ _ hx) (fun z => nomatch z))]; exact z⟩)
   ·exact .inr z
  have stq : Paired (StQ K (upd (upd H lt (.lst xs)) x (.ins C dx (putF "told" (.ref lt) [])))) xs S := Paired.mapP hS fun y z ⟨b, u, v, e1, e2, ⟨b2, u2, v2, e4, e5, e6, e7⟩, e3⟩ => ⟨b, u, v, e1, tq _ _ e2, ⟨b2, u2, v2, e4, tq _ _ e5, e6, e7⟩, e3⟩
  refine ⟨_, rfl, a, xs, p, S, rfl, sq2, stq, ok, fun ll ys H' s2 hll hL pL => ?_⟩
  have hx2 : H' x = some (.ins C dx (putF "told" (.ref lt) [])) := s2 _ _ upd_same
  have hlt2 : H' lt = some (.lst xs) := s2 _ _ (by rw [upd_ne nx.symm]; exact upd_same)
  have nxl : x ≠ ll := ne_of hx2 hL (fun z => nomatch z)
  refine ⟨_, rfl, x, C, dx, _, rfl, hx2, TC.cl, TC.nL, (by show 1 < 1000; decide), ?_⟩
  have tq2 : ∀ (b : Addr) (zs : List V), SqT K H' b zs → SqT K (upd H' x (.ins C dx (fldT lt ll))) b zs := fun b zs hb => by
   rcases hb with (z | ⟨o, z⟩) | z
   ·exact .inl (.inl (by rw [upd_ne (ne_of z hx2 (fun z => nomatch z))]; exact z))
   ·exact .inl (.inr ⟨o, by rw [upd_ne (ne_of z hx2 (fun z => nomatch z))]; exact z⟩)
   ·exact .inr z
  refine k lt ll _ (fun b o e hb => ?_) hlt ?_ ⟨⟨dx, upd_same⟩, ⟨xs, ?_, ?_⟩, ⟨ys, ?_, ?_⟩⟩
  ·rw [upd_ne hb]
   exact s2 _ _ (by rw [upd_ne hb]; exact s1 _ _ e)
  ·have : (upd H lt (.lst xs)) ll = none := by
    have := hll
    rw [upd_ne nxl.symm] at this
    exact this
   exact s1.free this
  ·rw [upd_ne nx.symm]
   exact hlt2
  ·exact Paired.mapP stq fun y z ⟨b, u, v, e1, e2, ⟨b2, u2, v2, e4, e5, e6, e7⟩, e3⟩ => ⟨b, u, v, e1, tq2 _ _ (s2.sqT e2), ⟨b2, u2, v2, e4, tq2 _ _ (s2.sqT e5), e6, e7⟩, e3⟩
  ·rw [upd_ne nxl.symm]
   exact hL
  ·exact Paired.mapP pL fun y z ⟨b, u, v, e1, e2, ⟨b2, u2, v2, e4, e5, e6, e7⟩, ⟨b3, u3, v3, g4, g5, g6, g7⟩⟩ => ⟨b, u, v, e1, tq2 _ _ e2, ⟨b2, u2, v2, e4, tq2 _ _ e5, e6, e7⟩, ⟨b3, u3, v3, g4, tq2 _ _ g5, g6, g7⟩⟩
theorem scTold : FnScope ["self"] ["self"] (defScope m_Taste_steps) := ⟨rfl, rfl, rfl, by decide +kernel, rfl, by decide +kernel, by decide +kernel⟩
theorem ok_told {f : Addr} {fd : FuncData} (D : Fun K "steps" "Taste.steps" m_Taste_steps f fd) (T : Txt K mg aL aR) (TC : TxtC K C) : FnOk P w K mg base CX0 1 f fd ["self"] (spTold K C) := by
 refine D.ok scTold (fun vs H Q E h => ?_) (fun cdv A0 outer s H vs Q E hr h => ?_)
 ·obtain ⟨x, lt, ll, S, rfl, _⟩ := h
  rfl
 ·obtain ⟨x, lt, ll, S, rfl, ⟨⟨dx, h1⟩, ⟨ts, h2, h3⟩, _⟩, k⟩ := h
  refine ⟨_, pss_one (ps_ret (pe_callTy call_list_of rfl T.list PyProof.Rows.boot_list (pa_cons (pe_fld (pv 0) rfl) pa_nil))), ?_⟩
  exact ⟨_, rfl, x, C, dx, _, _, rfl, h1, TC.cl, TC.nT, rfl, lt, ts, rfl, .inl (.of h2), fun l hl => k l ts hl h3⟩
theorem scUpTo : FnScope ["self", "point"] ["self", "point"] (defScope m_Taste_worth_up_to) := ⟨rfl, rfl, rfl, by decide +kernel, rfl, by decide +kernel, by decide +kernel⟩
theorem ok_upto {f : Addr} {fd : FuncData} (D : Fun K "worth_up_to" "Taste.worth_up_to" m_Taste_worth_up_to f fd) (CR : Cl P w K mg base "reached" 6 ["line", "up"] (spReached K)) (TC : TxtC K C) : FnOk P w K mg base CX0 7 f fd ["self", "point"] (spUpTo K C) := by
 refine D.ok scUpTo (fun vs H Q E h => ?_) (fun cdv A0 outer s H vs Q E hr h => ?_)
 ·obtain ⟨x, lt, ll, z, p, S, q, rfl, _⟩ := h
  rfl
 ·obtain ⟨x, lt, ll, z, p, S, q, rfl, ⟨⟨dx, h1⟩, _, ⟨ls, h4, h5⟩⟩, ok, hz, q0, q1, qb, k⟩ := h
  refine ⟨_, pss_one (ps_ret (pe_cl CR hr rfl (pa_cons (pe_comp ["corner"] rfl (CompOk.plain rfl (by decide +kernel) (by decide +kernel) (by decide +kernel)) (pi_list (pe_fld (pv 0) rfl))
   (fun _ => pg_name (i := 0) (show [Str.ofString "corner"].Nodup by decide +kernel) rfl (Or.inl rfl)) (fun _ => pifs_nil)
   (fun _ => pe_tup (pa_cons (pe_ix ix_tup (pv 0) pe_int (fun _ _ => rfl)) (pa_cons (pe_ix ix_tup (pv 0) pe_int (fun _ _ => rfl)) pa_nil)))) (pa_cons (pv 1) pa_nil)))), ?_⟩
  refine ⟨_, rfl, x, C, dx, _, _, rfl, h1, TC.cl, TC.nL, rfl, ll, rfl, ⟨_, .of h4⟩, fun D1 hD1 => ?_⟩
  have ne1 : ll ≠ D1 := ne_of_none h4 hD1
  have lw : (wl S).length ≤ 9 := by
   have := ok.len
   unfold wl
   rw [List.length_map, hl_len]
   omega
  have lL := h5.length
  have big : 1000 ≤ sizeLine := by decide
  refine comp_list (K := K) (a := ll) (D := D1) (xs := ls) (fun i ys σ H2 => Same H H2 ∧ H2 D1 = some (.lst ys) ∧ Paired (CoQ K H2) ys ((wlF S).take i) ∧ i ≤ ls.length ∧ ∃ x0, σ = [x0])
   (by omega) ⟨Same.upd hD1, upd_same, .nil, by omega, _, rfl⟩ ?_ ?_ ?_
  ·rintro i ys σ H2 hi ⟨t1, e1, e2, e3, _⟩
   refine ⟨.of (t1 _ _ h4), e1, ?_⟩
   rw [e2.length, List.length_take]
   omega
  ·rintro i y ys σ H2 hy ⟨t1, e1, e2, e3, x0, rfl⟩ c
   obtain ⟨c0, hc, py, u1, u2, rfl, hp, hu1, hu2⟩ := Paired.get1 h5 i y hy
   refine ⟨_, rfl, py, _, _, _, rfl, rfl, t1.sqT hp, rfl, _, rfl, py, _, _, _, rfl, rfl, t1.sqT hp, rfl, (by show 2 ≤ sizeLine; decide), fun r hr5 => ?_⟩
   have t2 : Same H2 (upd H2 r (.tup [u2, u1])) := Same.upd hr5
   have hD2 := t2 _ _ e1
   refine ⟨hD2, (t1.trans t2).updN hD1, upd_same, ?_, by have := (List.getElem?_eq_some_iff.mp hy).1; omega, _, rfl⟩
   have wi : (wlF S)[i]? = some (c0.2, c0.1) := by
    rw [wlF_eq, List.getElem?_map, hc]
    rfl
   rw [take_snoc wi]
   have k1 := Keep.updL (o := .lst (ys ++ [.ref r])) hD2
   exact Paired.app (Paired.mapP e2 fun _ _ z => CoQ.keep k1 (CoQ.same t2 z)) (.cons ⟨r, u2, u1, rfl, k1.sqT sqT_new, (hu2.same (t1.trans t2)).keep k1, (hu1.same (t1.trans t2)).keep k1⟩ .nil)
  ·rintro ys σ H2 ⟨t1, e1, e2, e3, _⟩
   have lF : (wlF S).length = (wl S).length := by rw [wlF_eq, List.length_map]
   rw [List.take_of_length_le (by omega)] at e2
   refine ⟨_, rfl, D1, ys, z, wlF S, q, rfl, .of e1, e2, hz.same t1, wlF_ok ok, ⟨q0, qb⟩, fun v H3 t3 a3 => k v H3 (t1.trans t3) ?_⟩
   rw [wlF_rch ok q0 q1] at a3
   exact a3
theorem scSpanW : FnScope ["self", "span"] ["self", "span"] (defScope m_Taste_span_worth) := ⟨rfl, rfl, rfl, by decide +kernel, rfl, by decide +kernel, by decide +kernel⟩
theorem ok_spanw {f : Addr} {fd : FuncData} (D : Fun K "span_worth" "Taste.span_worth" m_Taste_span_worth f fd) (CM : Cl P w K mg base "minus" 3 ["one", "other"] (spMinus K)) (MU : Ml P w K mg base C "worth_up_to" 7 ["self", "point"] (spUpTo K C)) (TC : TxtC K C) :
  FnOk P w K mg base CX0 8 f fd ["self", "span"] (spSpanWorth K C) := by
 refine D.ok scSpanW (fun vs H Q E h => ?_) (fun cdv A0 outer s H vs Q E hr h => ?_)
 ·obtain ⟨x, lt, ll, z, p, D, S, q, rfl, _⟩ := h
  rfl
 ·obtain ⟨x, lt, ll, z, p, D, S, q, rfl, ta, ok, ⟨pz, z1, z2, rfl, hp, hz1, hz2⟩, ⟨q0, q1, q2⟩, d, ⟨g1, g2⟩, k⟩ := h
  have hr3 : Room 3 _ := hr.mono (by decide)
  refine ⟨_, pss_one (ps_ret (pe_cl CM hr3 rfl (pa_cons (pe_ml MU TC.cl hr (pv 0) (pa_cons (pe_ix ix_tup (pv 1) pe_int (fun _ _ => rfl)) pa_nil)) (pa_cons (pe_ml MU TC.cl hr (pv 0) (pa_cons (pe_ix ix_tup (pv 1) pe_int (fun _ _ => rfl)) pa_nil)) pa_nil)))), ?_⟩
  obtain ⟨dx, h1⟩ := ta.ins
  have n2 : 0 ≤ q.2 := by grind
  have l1 : q.1 ≤ 1 := by grind
  refine ⟨_, rfl, x, dx, _, rfl, h1, rfl, _, rfl, pz, _, _, _, rfl, rfl, hp, rfl, x, lt, ll, z2, p, S, q.2, rfl, ta, ok, hz2, n2, q2, d.bd g2 n2 q2, fun v1 H1 s1 e1 => ?_⟩
  refine ⟨_, rfl, x, dx, _, rfl, s1 _ _ h1, rfl, _, rfl, pz, _, _, _, rfl, rfl, s1.sqT hp, rfl, x, lt, ll, z1, p, S, q.1, rfl, ta.same s1, ok, hz1.same s1, q0, l1, d.bd g1 q0 l1, fun v2 H2 s2 e2 => ?_⟩
  exact ⟨v1, v2, _, _, rfl, e1.same s2, e2, Bd.fit (F_dbd ok d g2 q2) (F_nn ok _) (by decide), Bd.fit (F_dbd ok d g1 l1) (F_nn ok _) (by decide), F_mono ok q1, fun v3 H3 s3 e3 => k v3 H3 (s1.trans (s2.trans s3)) e3⟩
theorem scWorth : FnScope ["self", "piece", "total", "span"] ["self", "piece"] (defScope m_Taste_worth) := ⟨rfl, rfl, rfl, by decide +kernel, rfl, by decide +kernel, by decide +kernel⟩
theorem Wo_fit {p D : Nat} {S : Steps} {L : List (Rat × Rat)} (ok : TsOk p S) (h : PcOk D L) (i : Nat) : Fit (Wo S (L.take i)) ∧ Wo S (L.take i) ≤ 1 ∧ Bd 250 (Wo S (L.take i)) := by
 have mem : ∀ q ∈ L.take i, q ∈ L := fun q hq => List.mem_of_mem_take hq
 have n0 : 0 ≤ Wo S (L.take i) := Wo_nn ok fun q hq => by
  have := h.win q (mem q hq)
  grind
 have n1 : Wo S (L.take i) ≤ 1 - F S 0 := Wo_le ok (fun q hq => by
  have := h.win q (mem q hq)
  grind) (by decide) ((h.apart.sublist (List.take_sublist _ _)).imp fun {a b} z => Rat.le_of_lt z)
 rw [F_zero ok] at n1
 obtain ⟨N, a, b, hN⟩ := ok.num
 have f := ok.few
 have g := Wo_gr ok hN (D := D) (L := L.take i) fun q hq => h.gr q (mem q hq)
 have dl := h.d.few
 have : D * N ≤ D * 1000000 := Nat.mul_le_mul_left _ (by omega)
 have bd : Bd 250 (Wo S (L.take i)) := g.bd (Nat.mul_pos h.d.pos a) n0 (m := 1) (by rw [show ((1 : Nat) : Rat) = 1 from rfl]; grind) (by omega) (by omega)
 exact ⟨⟨n0, bd.mono (by decide)⟩, by grind, bd⟩
theorem ok_worth {f : Addr} {fd : FuncData} (D : Fun K "worth" "Taste.worth" m_Taste_worth f fd) (CK : Cl P w K mg base "check_piece" 4 ["piece"] (spCheck K)) (CP : Cl P w K mg base "plus" 3 ["one", "other"] (spPlus K)) (MS : Ml P w K mg base C "span_worth" 8 ["self", "span"] (spSpanWorth K C)) (TC : TxtC K C) :
  FnOk P w K mg base CX0 9 f fd ["self", "piece"] (spWorth K C) := by
 refine D.ok scWorth (fun vs H Q E h => ?_) (fun cdv A0 outer s H vs Q E hr h => ?_)
 ·obtain ⟨x, lt, ll, a, xs, p, D, S, L, rfl, _⟩ := h
  rfl
 ·obtain ⟨x, lt, ll, a, xs, p, D, S, L, rfl, ta, ok, ha, hL, pk, k⟩ := h
  have hr3 : Room 3 _ := hr.mono (by decide)
  have hr4 : Room 4 _ := hr.mono (by decide)
  refine ⟨_, pss_cons (ps_expr (pe_cl CK hr4 rfl (pa_cons (pv 1) pa_nil)))
   (pss_cons (ps_set (i := 2) scWorth.nd rfl (Or.inl rfl) (pe_tup (pa_cons pe_int (pa_cons pe_int pa_nil))))
   (pss_cons (ps_for PassesOwn.never rfl (pi_list (pv 1)) (pg_name (i := 3) scWorth.nd rfl (Or.inl rfl))
    (pss_one (ps_set (i := 2) scWorth.nd rfl (Or.inl rfl) (pe_cl CP hr3 rfl (pa_cons (pv 2) (pa_cons (pe_ml MS TC.cl hr (pv 0) (pa_cons (pv 3) pa_nil)) pa_nil))))))
   (pss_one (ps_ret (pv 2))))), ?_⟩
  refine ⟨_, rfl, a, xs, D, L, rfl, ha, hL, pk, ?_⟩
  refine ⟨(by show 2 ≤ sizeLine; decide), fun t ht => ?_⟩
  have s1 : Same H (upd H t (.tup [.int 0, .int 1])) := Same.upd ht
  refine ⟨_, rfl, a, rfl, ⟨_, s1.seq ha⟩, ?_⟩
  have lX := hL.length
  refine for_list (K := K) (a := a) (xs := xs) (fun i σ H' => Same H H' ∧ ∃ (v : V) (x3 : Option V), σ = [some (.ref x), some (.ref a), some v, x3] ∧ FrQ K H' v (Wo S (L.take i)))
   ⟨s1, _, _, rfl, .of sqT_new rfl rfl⟩ (fun i σ H' _ h => h.1.seq ha) ?_ ?_
  ·rintro i y σ H' hy ⟨s2, v, x3, rfl, hv⟩
   obtain ⟨q, hq, cq⟩ := Paired.get1 hL i y hy
   have wq := pk.win q (List.mem_of_getElem? hq)
   have gq := pk.gr q (List.mem_of_getElem? hq)
   obtain ⟨dx, h1⟩ := ta.ins
   refine ⟨_, rfl, _, rfl, x, dx, _, rfl, s2 _ _ h1, rfl, _, rfl, x, lt, ll, y, p, D, S, q, rfl, ta.same s2, ok, CoQ.same s2 cq, ⟨wq.1, Rat.le_of_lt wq.2.1, wq.2.2⟩, pk.d, gq, fun v1 H1 t1 d1 => ?_⟩
   have b1 := F_dbd ok pk.d gq.2 wq.2.2
   have b2 := F_dbd ok pk.d gq.1 (by grind)
   have nn : 0 ≤ F S q.2 - F S q.1 := by
    have := F_mono ok (Rat.le_of_lt wq.2.1)
    grind
   refine ⟨v, v1, _, _, rfl, hv.same t1, d1, (Wo_fit ok pk i).1, ⟨nn, (b1.sub b2).mono (by decide)⟩, trivial, fun v2 H2 t2 d2 => ⟨s2.trans (t1.trans t2), v2, _, rfl, ?_⟩⟩
   rw [take_snoc hq, Wo_snoc]
   exact d2
  ·rintro σ H' ⟨s2, v, x3, rfl, hv⟩
   rw [List.take_of_length_le (by omega)] at hv
   exact ⟨_, rfl, k v H' s2 hv⟩
end
end FQ
namespace FQ
open PySem L2 FK
def spPointAt (K : PySem.W.Frag) (C : Addr) : Sp := fun vs H Q _ => ∃ (x lt ll : Addr) (z : V) (p : Nat) (S : Steps) (y : Rat), vs = [.ref x, z] ∧ TasteAt K C H x lt ll S ∧ TsOk p S ∧ FrQ K H z y ∧ Ft 250 y ∧ ∀ v H', Same H H' → AnsQ K H' v (rch (wl S) y) → Q v H'
def spMark (K : PySem.W.Frag) (C : Addr) : Sp := fun vs H Q _ => ∃ (x lt ll : Addr) (z1 z2 : V) (p : Nat) (S : Steps) (a h : Rat), vs = [.ref x, z1, z2] ∧ TasteAt K C H x lt ll S ∧ TsOk p S ∧ FrQ K H z1 a ∧ FrQ K H z2 h ∧ (0 ≤ a ∧ a ≤ 1 ∧ Bd 250 a) ∧ Fit (F S a) ∧ Fit h ∧ Ft 250 (F S a + h) ∧
 ∀ v H', Same H H' → AnsQ K H' v (rch (wl S) (F S a + h)) → Q v H'
section
variable {P : Program} {w : World} {K : PySem.W.Frag} {mg : Str → Option Value} {base : Heap} {aL aR C : Addr}
theorem scPointAt : FnScope ["self", "worth"] ["self", "worth"] (defScope m_Taste_point_at) := ⟨rfl, rfl, rfl, by decide +kernel, rfl, by decide +kernel, by decide +kernel⟩
theorem ok_pointat {f : Addr} {fd : FuncData} (D : Fun K "point_at" "Taste.point_at" m_Taste_point_at f fd) (CR : Cl P w K mg base "reached" 6 ["line", "up"] (spReached K)) (TC : TxtC K C) : FnOk P w K mg base CX0 7 f fd ["self", "worth"] (spPointAt K C) := by
 refine D.ok scPointAt (fun vs H Q E h => ?_) (fun cdv A0 outer s H vs Q E hr h => ?_)
 ·obtain ⟨x, lt, ll, z, p, S, y, rfl, _⟩ := h
  rfl
 ·obtain ⟨x, lt, ll, z, p, S, y, rfl, ⟨⟨dx, h1⟩, _, ⟨ls, h4, h5⟩⟩, ok, hz, fy, k⟩ := h
  refine ⟨_, pss_one (ps_ret (pe_cl CR hr rfl (pa_cons (pe_fld (pv 0) rfl) (pa_cons (pv 1) pa_nil)))), ?_⟩
  exact ⟨_, rfl, x, C, dx, _, _, rfl, h1, TC.cl, TC.nL, rfl, _, rfl, ll, ls, z, wl S, y, rfl, .of h4, h5, hz, wl_ok ok, fy, k⟩
theorem scMark : FnScope ["self", "start", "share"] ["self", "start", "share"] (defScope m_Taste_mark) := ⟨rfl, rfl, rfl, by decide +kernel, rfl, by decide +kernel, by decide +kernel⟩
theorem ok_mark {f : Addr} {fd : FuncData} (D : Fun K "mark" "Taste.mark" m_Taste_mark f fd) (C4 : Four P w K mg base) (MU : Ml P w K mg base C "worth_up_to" 7 ["self", "point"] (spUpTo K C)) (MP : Ml P w K mg base C "point_at" 7 ["self", "worth"] (spPointAt K C)) (T : Txt K mg aL aR) (TC : TxtC K C) :
  FnOk P w K mg base CX0 8 f fd ["self", "start", "share"] (spMark K C) := by
 refine D.ok scMark (fun vs H Q E h => ?_) (fun cdv A0 outer s H vs Q E hr h => ?_)
 ·obtain ⟨x, lt, ll, z1, z2, p, S, a, h, rfl, _⟩ := h
  rfl
 ·obtain ⟨x, lt, ll, z1, z2, p, S, a, h, rfl, ta, ok, h1, h2, ⟨a0, a1, ab⟩, fF, fh, fy, k⟩ := h
  have hr1 : Room 1 _ := hr.mono (by decide)
  have hr3 : Room 3 _ := hr.mono (by decide)
  refine ⟨_, pss_cons (ps_if (pt_val (pe_cl C4.below hr1 rfl (pa_cons (pe_glob (v := .ref aR) rfl T.right rfl) (pa_cons (pv 1) pa_nil)))) pss_never pss_nil)
   (pss_one (ps_ret (pe_ml MP TC.cl hr (pv 0) (pa_cons (pe_cl C4.plus hr3 rfl (pa_cons (pe_ml MU TC.cl hr (pv 0) (pa_cons (pv 1) pa_nil)) (pa_cons (pv 2) pa_nil))) pa_nil)))), ?_⟩
  obtain ⟨dx, hx⟩ := ta.ins
  refine ⟨_, rfl, .ref aR, z1, 1, a, rfl, T.r H, h1, Fit.one, Bd.fit ab a0 (by decide), _, rfl, iteN (show ¬ (1 : Rat) < a by grind) ?_⟩
  refine ⟨_, rfl, x, dx, _, rfl, hx, rfl, _, rfl, x, dx, _, rfl, hx, rfl, _, rfl, x, lt, ll, z1, p, S, a, rfl, ta, ok, h1, a0, a1, ab, fun v1 H1 s1 d1 => ?_⟩
  refine ⟨_, rfl, v1, z2, _, h, rfl, d1, h2.same s1, fF, fh, trivial, fun v2 H2 s2 d2 => ?_⟩
  exact ⟨x, lt, ll, v2, p, S, _, rfl, ta.same (s1.trans s2), ok, d2, fy, fun v3 H3 s3 d3 => k v3 H3 (s1.trans (s2.trans s3)) d3⟩
end
end FQ
namespace FQ
open PySem L2 FK
def TasteS (K : PySem.W.Frag) (C : Addr) (H : Hp) (x : V) (S : Steps) : Prop := ∃ t lt ll p, x = .ref t ∧ TasteAt K C H t lt ll S ∧ TsOk p S
theorem TasteS.same {K : PySem.W.Frag} {C : Addr} {H H' : Hp} {x : V} {S : Steps} (s : Same H H') (h : TasteS K C H x S) : TasteS K C H' x S := by
 obtain ⟨t, lt, ll, p, e, h1, h2⟩ := h
 exact ⟨t, lt, ll, p, e, h1.same s, h2⟩
def spTastes (K : PySem.W.Frag) (C : Addr) : Sp := fun vs H Q _ => ∃ (a : Addr) (xs : List V) (Ss : List Steps), vs = [.ref a] ∧ SqL K H a xs ∧ Paired (TasteS K C H) xs Ss ∧ Q .non H
def spTakers (K : PySem.W.Frag) (C : Addr) : Sp := fun vs H Q _ => ∃ (a : Addr) (xs : List V) (Ss : List Steps) (i j : Int), vs = [.ref a, .int i, .int j] ∧ SqL K H a xs ∧ Paired (TasteS K C H) xs Ss ∧ i ≤ xs.length ∧ xs.length ≤ j ∧ Q .non H
section
variable {P : Program} {w : World} {K : PySem.W.Frag} {mg : Str → Option Value} {base : Heap} {aL aR C : Addr}
theorem scTastes : FnScope ["tastes", "taste"] ["tastes"] (defScope s_check_tastes) := ⟨rfl, rfl, rfl, by decide +kernel, rfl, by decide +kernel, by decide +kernel⟩
theorem ok_tastes {f : Addr} {fd : FuncData} (D : DefAt K mg "check_tastes" s_check_tastes ["tastes"] f fd) (T : Txt K mg aL aR) (IC : IsC K C) (mgC : mg "Taste" = some (.ref C)) : FnOk P w K mg base CX0 1 f fd ["tastes"] (spTastes K C) := by
 refine D.fn.ok scTastes (fun vs H Q E h => ?_) (fun cdv A outer s H vs Q E hr h => ?_)
 ·obtain ⟨a, xs, Ss, rfl, _⟩ := h
  rfl
 ·obtain ⟨a, xs, Ss, rfl, ha, hS, k⟩ := h
  refine ⟨_, pss_cons (ps_if (pt_not (pt_val (pe_isi (pv 0) rfl T.isi rfl T.list PyProof.Rows.boot_list))) pss_never pss_nil)
   (pss_one (ps_for PassesOwn.never rfl (pi_list (pv 0)) (pg_name (i := 1) scTastes.nd rfl (Or.inl rfl))
    (pss_one (ps_if (pt_not (pt_val (pe_callB call_isC (by rfl) T.isi PyProof.Rows.boot_isinstance (pa_cons (pv 1) (pa_cons (pe_glob (v := .ref C) rfl mgC rfl) pa_nil))))) pss_never pss_nil)))), ?_⟩
  refine ⟨_, rfl, _, _, .sqL ha, kit_list _, _, rfl, iteF ?_⟩
  refine ⟨_, rfl, a, rfl, ⟨_, ha⟩, ?_⟩
  refine for_list (K := K) (a := a) (xs := xs) (fun i σ H' => H' = H ∧ ∃ x1, σ = [some (.ref a), x1]) ⟨rfl, _, rfl⟩ (fun i σ H' _ h => by rw [h.1]; exact ha) ?_ ?_
  ·rintro i x σ H' hx ⟨rfl, x1, rfl⟩
   obtain ⟨S, hS', t, lt, ll, p, rfl, ta, ok⟩ := Paired.get1 hS i x hx
   obtain ⟨dx, h1⟩ := ta.ins
   exact ⟨_, rfl, t, C, dx, _, rfl, h1, IC, _, rfl, iteF ⟨rfl, _, rfl⟩⟩
  ·rintro σ H' ⟨rfl, x1, rfl⟩
   exact k
theorem scTakers : FnScope ["tastes", "fewest", "most"] ["tastes", "fewest", "most"] (defScope s_check_takers) := ⟨rfl, rfl, rfl, by decide +kernel, rfl, by decide +kernel, by decide +kernel⟩
theorem ok_takers {f : Addr} {fd : FuncData} (D : DefAt K mg "check_takers" s_check_takers ["tastes", "fewest", "most"] f fd) (CT : Cl P w K mg base "check_tastes" 1 ["tastes"] (spTastes K C)) (T : Txt K mg aL aR) : FnOk P w K mg base CX0 2 f fd ["tastes", "fewest", "most"] (spTakers K C) := by
 refine D.fn.ok scTakers (fun vs H Q E h => ?_) (fun cdv A outer s H vs Q E hr h => ?_)
 ·obtain ⟨a, xs, Ss, i, j, rfl, _⟩ := h
  rfl
 ·obtain ⟨a, xs, Ss, i, j, rfl, ha, hS, hi, hj, k⟩ := h
  refine ⟨_, pss_cons (ps_expr (pe_cl CT hr rfl (pa_cons (pv 0) pa_nil)))
   (pss_one (ps_if (PW.pt (pw_or (pt_cmpR op_lt (pe_callB call_len_seq (by rfl) T.len PySem.boot_len (pa_cons (pv 0) pa_nil)) (pv 1) (nomark _)) (pw_or1 (pt_cmpR op_gt (pe_callB call_len_seq (by rfl) T.len PySem.boot_len (pa_cons (pv 0) pa_nil)) (pv 2) (nomark _))))) pss_never pss_nil)), ?_⟩
  refine ⟨_, rfl, a, xs, Ss, rfl, ha, hS, ?_⟩
  refine ⟨_, rfl, a, _, rfl, .inl ha, _, rfl, _, _, rfl, rfl, _, rfl, iteN (by omega) ?_⟩
  refine ⟨_, rfl, a, _, rfl, .inl ha, _, rfl, _, _, rfl, rfl, _, rfl, iteN (by omega) ?_⟩
  exact k
end
end FQ
namespace FK
def cntB (qs : List Rat) (q : Rat) : Nat := qs.countP fun r => decide (r < q)
theorem cntB_snoc (qs : List Rat) (r q : Rat) : cntB (qs ++ [r]) q = cntB qs q + (if r < q then 1 else 0) := by
 unfold cntB
 rw [List.countP_append, List.countP_singleton]
 by_cases c : r < q
 ·rw [if_pos c, if_pos (decide_eq_true c)]
 ·rw [if_neg c, if_neg (by rw [decide_eq_false c]; decide)]
theorem cntB_mono (qs : List Rat) {q r : Rat} (h : q ≤ r) : cntB qs q ≤ cntB qs r :=
 List.countP_mono_left fun x _ e => decide_eq_true (by have := of_decide_eq_true e; grind)
theorem cntB_lt : ∀ {qs : List Rat} {q r : Rat}, q < r → q ∈ qs → cntB qs q < cntB qs r
 | x :: qs, q, r, h, hm => by
  have m := cntB_mono qs (Rat.le_of_lt h)
  have e : ∀ y, cntB (x :: qs) y = cntB qs y + (if x < y then 1 else 0) := fun y => by
   unfold cntB
   rw [List.countP_cons]
   by_cases c : x < y
   ·rw [if_pos c, if_pos (decide_eq_true c)]
   ·rw [if_neg c, if_neg (by rw [decide_eq_false c]; decide)]
  rw [e, e]
  rcases List.mem_cons.mp hm with z | z
  ·subst z
   rw [if_neg (by grind), if_pos h]
   omega
  ·have := cntB_lt h z
   by_cases c : x < q
   ·rw [if_pos c, if_pos (by grind)]
    omega
   ·rw [if_neg c]
    omega
def Lex (qs : List Rat) (a b : Int) : Prop := qs.getD a.toNat 0 < qs.getD b.toNat 0 ∨ (qs.getD a.toNat 0 = qs.getD b.toNat 0 ∧ a < b)
def ranks (qs : List Rat) : List Int := qs.map fun q => (cntB qs q : Int)
theorem ranks_get {qs : List Rat} {i : Nat} {q : Rat} (h : qs[i]? = some q) : (ranks qs)[i]? = some (cntB qs q : Int) := by
 unfold ranks
 rw [List.getElem?_map, h]
 rfl
theorem stab_lex {qs : List Rat} {a b : Int} (ha : a.toNat < qs.length) (hb : b.toNat < qs.length) (h : L2.Stab (ranks qs) a b) : Lex qs a b := by
 have e1 : qs[a.toNat]? = some qs[a.toNat] := List.getElem?_eq_getElem ha
 have e2 : qs[b.toNat]? = some qs[b.toNat] := List.getElem?_eq_getElem hb
 have k1 : (ranks qs).getD a.toNat 0 = (cntB qs qs[a.toNat] : Int) := by rw [List.getD_eq_getElem?_getD, ranks_get e1]; rfl
 have k2 : (ranks qs).getD b.toNat 0 = (cntB qs qs[b.toNat] : Int) := by rw [List.getD_eq_getElem?_getD, ranks_get e2]; rfl
 have g1 : qs.getD a.toNat 0 = qs[a.toNat] := by rw [List.getD_eq_getElem?_getD, e1]; rfl
 have g2 : qs.getD b.toNat 0 = qs[b.toNat] := by rw [List.getD_eq_getElem?_getD, e2]; rfl
 unfold L2.Stab at h
 unfold Lex
 rw [k1, k2] at h
 rw [g1, g2]
 by_cases c : qs[a.toNat] < qs[b.toNat]
 ·exact .inl c
 ·have m := cntB_mono qs (show qs[b.toNat] ≤ qs[a.toNat] by grind)
  rcases h with z | ⟨z, lt⟩
  ·omega
  ·refine .inr ⟨?_, lt⟩
   by_cases c2 : qs[b.toNat] < qs[a.toNat]
   ·have := cntB_lt c2 (List.getElem_mem hb)
    omega
   ·grind
end FK
namespace FQ
open PySem L2 FK
def keyE (st : Stmt) : Expr := match defBody st with
 | [.Return (some (.Call _ _ [k] _)) _] => k.value
 | _ => .Constant .none 0 ⟨0, 0, 0, 0⟩
def lamPos (st : Stmt) : Pos := match keyE st with
 | .Lambda _ _ _ p => p
 | _ => ⟨0, 0, 0, 0⟩
def lamScope (st : Stmt) : Scope := match keyE st with
 | .Lambda _ _ sc _ => sc
 | _ => { kind := .function, names := [], isGenerator := false, isCoroutine := false }
def lq (x : Str) : Str := (x ++ ".<locals>.") ++ "<lambda>"
abbrev Rdy (P : Addr) (H : Hp) : Prop := Ready P (lamPos s_ranked) (lq "ranked") H
abbrev To (P : Addr) (H H' : Hp) : Prop := Tb P (lamPos s_ranked) (lq "ranked") H H'
def spRanked (K : PySem.W.Frag) (Pt : Addr) : Sp := fun vs H Q _ => ∃ (a : Addr) (xs : List V) (qs : List Rat), vs = [.ref a] ∧ SqL K H a xs ∧ Paired (FrQ K H) xs qs ∧ (∀ q ∈ qs, Fit q) ∧ qs.length < 64 ∧ Rdy Pt H ∧
 ∀ (l : Addr) (ord : List Int) (H' : Hp), To Pt H H' → H l = none → H' l = some (.lst (ord.map V.int)) → ord.Perm ((List.range qs.length).map fun i : Nat => (i : Int)) → ord.Pairwise (Lex qs) → Q (.ref l) H'
section
variable {P : Program} {w : World} {K : PySem.W.Frag} {mg : Str → Option Value} {base : Heap} {aL aR C : Addr}
theorem scRanked : FnScope ["those"] ["those"] (defScope s_ranked) := ⟨rfl, rfl, rfl, by decide +kernel, rfl, by decide +kernel, by decide +kernel⟩
theorem scKey : LamSc "place" "those" "len" (lamScope s_ranked) := ⟨rfl, rfl, rfl, rfl, by decide +kernel⟩
def spKey (K : PySem.W.Frag) : V → V → Hp → VK → Prop := fun vx vy H Q => ∃ (i : Nat) (a : Addr) (xs : List V) (qs : List Rat) (q : Rat), vx = .int i ∧ vy = .ref a ∧ SqL K H a xs ∧ Paired (FrQ K H) xs qs ∧ (∀ q ∈ qs, Fit q) ∧ qs.length < 64 ∧ qs[i]? = some q ∧ ∀ H', Same H H' → Q (.int (cntB qs q : Nat)) H'
theorem ok_ranked {f c Pt : Addr} {fd : FuncData} (D : DefAt K mg "ranked" s_ranked ["those"] f fd) (hcd : fd.code = .ref c) (CH : PySem.W.CodeHd base c Pt) (bm : BM mg base) (CB : Cl P w K mg base "below" 1 ["one", "other"] (spBelow K)) (T : Txt K mg aL aR) : FnOk P w K mg base CX0 5 f fd ["those"] (spRanked K Pt) := by
 refine D.fn.okC hcd scRanked (fun vs H Q E h => ?_) (fun A outer s H vs Q E hr h => ?_)
 ·obtain ⟨a, xs, qs, rfl, _⟩ := h
  rfl
 ·obtain ⟨a, xs, qs, rfl, ha, hq, fq, l64, rd, k⟩ := h
  have big : 1000 ≤ sizeLine := by decide
  have lq' := hq.length
  refine ⟨_, pss_one (ps_ret (pe_srt (x := "place") (y := "those") (z := "len") (iy := 0) (k := 1) (sp := spKey K) (c := s.heap.objs.size + 1) (cP := c) (P := Pt) rfl T.sorted (pa_cons (pe_rng rfl T.range (pa_cons (pe_callB call_len_seq (by rfl) T.len PySem.boot_len (pa_cons (pv 0) pa_nil)) pa_nil)) pa_nil) rfl CH bm rfl rfl rfl rfl rfl scKey (hr.in1.in1)
   (fun _ _ _ _ _ _ => rfl) (fun f' cc A' outer' s' H' vx vy Q' hr' h' => ?_))), ?_⟩
  ·obtain ⟨i, a', xs', qs', q, rfl, rfl, ha', hq', fq', l64', hi, k'⟩ := h'
   have lq2 := hq'.length
   refine ⟨_, pe_callB call_len_seq (by rfl) T.len PySem.boot_len (pa_cons (pe_comp ["one"] rfl (CompOk.free1 (F := ["place", "those"]) (js := [0, 1]) rfl (by decide +kernel) (by decide +kernel) rfl ⟨rfl, rfl, trivial⟩ rfl ⟨⟨rfl, rfl, .inl rfl⟩, ⟨rfl, rfl, .inr rfl⟩, trivial⟩) (pi_list (pv 1))
    (fun _ => pg_name (i := 0) (show [Str.ofString "one", Str.ofString "place", Str.ofString "those"].Nodup by decide +kernel) rfl (Or.inl rfl)) (fun _ => pifs_one (pt_val (pe_cl CB hr' rfl (pa_cons (pv 0) (pa_cons (pe_ix ix_list (pv 2) (pv 1) (fun _ _ => rfl)) pa_nil))))) (fun _ => pv 0)) pa_nil), ?_⟩
   refine ⟨_, rfl, a', rfl, ⟨_, ha'⟩, fun D1 hD1 => ?_⟩
   obtain ⟨vq, hvq⟩ : ∃ v, xs'[i]? = some v := ⟨_, List.getElem?_eq_getElem (by have := (List.getElem?_eq_some_iff.mp hi).1; omega)⟩
   obtain ⟨q2, hq2, fvq⟩ := Paired.get1 hq' i vq hvq
   rw [hi] at hq2
   cases hq2
   refine comp_list (K := K) (a := a') (D := D1) (xs := xs') (fun j ys σ H2 => Same H' H2 ∧ H2 D1 = some (.lst ys) ∧ ys.length = cntB (qs'.take j) q ∧ ys.length ≤ j ∧ ∃ x0, σ = [x0, some (.int i), some (.ref a')])
    (by omega) ⟨Same.upd hD1, upd_same, rfl, Nat.le_refl _, _, rfl⟩ ?_ ?_ ?_
   ·rintro j ys σ H2 _ ⟨u1, u2, u3, u4, _⟩
    exact ⟨u1.seq ha', u2, u4⟩
   ·rintro j y ys σ H2 hy ⟨u1, u2, u3, u4, x0, rfl⟩ cc
    obtain ⟨qj, hqj, fqj⟩ := Paired.get1 hq' j y hy
    refine ⟨_, rfl, _, rfl, _, rfl, a', _, _, _, rfl, rfl, u1.seq ha', atI_nat hvq, y, vq, qj, q, rfl, fqj.same u1, fvq.same u1, fq' qj (List.mem_of_getElem? hqj), fq' q (List.mem_of_getElem? hi), _, rfl, ?_⟩
    refine ite2 (fun d => ?_) (fun d => ?_)
    ·have d' : qj < q := of_decide_eq_true d
     refine ⟨_, rfl, u2, u1.updN hD1, upd_same, ?_, by rw [List.length_append]; exact Nat.add_le_add_right u4 1, _, rfl⟩
     rw [take_snoc hqj, cntB_snoc, if_pos d', List.length_append, u3]
     rfl
    ·have d' : ¬ qj < q := fun z => d (decide_eq_true z)
     refine ⟨u1, u2, ?_, by omega, _, rfl⟩
     rw [take_snoc hqj, cntB_snoc, if_neg d', u3]
     rfl
   ·rintro ys σ H2 ⟨u1, u2, u3, u4, _⟩
    rw [List.take_of_length_le (by omega)] at u3
    refine ⟨D1, ys, rfl, .inl (.of u2), ?_⟩
    rw [u3]
    exact k' H2 u1
  ·refine ⟨_, rfl, a, _, rfl, .inl ha, qs.length, by rw [lq'], by omega, fun r hr0 => ?_⟩
   have s1 : Same H (upd H r (.rng 0 qs.length)) := Same.upd hr0
   dsimp only [tNil]
   show tLamC _ Pt (lamPos s_ranked) (lq "ranked") _ _ _ _ _ _
   refine lam_ready (ready_same rd s1) fun v H2 tb => ?_
   have tb0 := (Tb.of rd s1).trans tb
   have hqr : ∀ H', Same H2 H' → Paired (FrQ K H') xs qs := fun H' sm => Paired.mapP hq fun _ _ z => FrQ.same sm (FrQ.keep tb0.keep z)
   refine ⟨r, qs.length, ranks qs, fun H' => Same H2 H', .ref a, rfl, rfl, tb.get upd_same (fun _ z => nomatch z), l64, by unfold ranks; rw [List.length_map], Same.refl _, fun _ z => z, fun i key H' hk sm => ?_, fun l H' ord sm hl op ow => ?_⟩
   ·have il : i < qs.length := by
     have := (List.getElem?_eq_some_iff.mp hk).1
     unfold ranks at this
     rw [List.length_map] at this
     exact this
    have e := ranks_get (List.getElem?_eq_getElem il)
    rw [hk] at e
    cases e
    exact ⟨i, a, xs, qs, _, rfl, rfl, sm.seq (tb0.sqL ha), hqr H' sm, fq, l64, List.getElem?_eq_getElem il, fun H3 s3 => ⟨rfl, sm.trans s3⟩⟩
   ·have tb1 := tb0.to sm
    have s3 := Same.upd (o := .lst (ord.map V.int)) hl
    refine k l ord _ (tb1.to s3) (tb1.free hl) upd_same op ?_
    refine List.Pairwise.imp_of_mem (fun {x y} hx hy z => stab_lex ?_ ?_ z) ow
    ·obtain ⟨m, hm, e⟩ := List.mem_map.mp (op.mem_iff.mp hx)
     have := List.mem_range.mp hm
     omega
    ·obtain ⟨m, hm, e⟩ := List.mem_map.mp (op.mem_iff.mp hy)
     have := List.mem_range.mp hm
     omega
end
end FQ
namespace FQ
open PySem L2 FK
section
variable {K : PySem.W.Frag} {C Pt : Addr} {H H' : Hp}
theorem TasteAt.tb {pos : Pos} {qual : Str} {x lt ll : Addr} {S : Steps} (s : Tb Pt pos qual H H') (h : TasteAt K C H x lt ll S) : TasteAt K C H' x lt ll S := by
 obtain ⟨⟨dx, h1⟩, ⟨ts, h2, h3⟩, ⟨ls, h4, h5⟩⟩ := h
 exact ⟨⟨dx, s.get h1 fun _ z => nomatch z⟩, ⟨ts, s.lst h2, Paired.mapP h3 fun _ _ z => StQ.keep s.keep z⟩, ⟨ls, s.lst h4, Paired.mapP h5 fun _ _ z => CoQ.keep s.keep z⟩⟩
end
theorem at_first {xs : List V} {v : V} : atI (v :: xs) 0 = some v := by
 unfold atI ixN
 simp
end FQ
namespace FQ
open PySem L2 FK
section
variable {K : PySem.W.Frag} {C Pt dd : Addr} {H H' H2 : Hp}
end
def spMW (K : PySem.W.Frag) (C : Addr) : Sp := fun vs H Q _ => ∃ (x lt ll : Addr) (z y : V) (p : Nat) (S : Steps) (a b : Rat) (h m D : Nat), vs = [.ref x, z, y] ∧ TasteAt K C H x lt ll S ∧ TsOk p S ∧ CoQ K H z (a, b) ∧ FrQ K H y ((h : Rat) / (m : Rat)) ∧ (0 ≤ a ∧ a < b ∧ b ≤ 1) ∧ (0 < h ∧ h < m ∧ m ≤ 8) ∧ (0 < D ∧ D ≤ 8000000 ^ 8 ∧ Gr D a ∧ Gr D b) ∧
 ∀ v H', Same H H' → FrQ K H' v (mw S a b h m) → Q v H'
section
variable {P : Program} {w : World} {K : PySem.W.Frag} {mg : Str → Option Value} {base : Heap} {aL aR C Pt : Addr}
theorem scMW : FnScope ["taste", "span", "part"] ["taste", "span", "part"] (defScope s_mark_within) := ⟨rfl, rfl, rfl, by decide +kernel, rfl, by decide +kernel, by decide +kernel⟩
theorem ok_mw {f : Addr} {fd : FuncData} (D : DefAt K mg "mark_within" s_mark_within ["taste", "span", "part"] f fd) (CT : Cl P w K mg base "times" 3 ["one", "other"] (spTimes K)) (MM : Ml P w K mg base C "mark" 8 ["self", "start", "share"] (spMark K C)) (MW : Ml P w K mg base C "worth" 9 ["self", "piece"] (spWorth K C)) (TC : TxtC K C) :
  FnOk P w K mg base CX0 10 f fd ["taste", "span", "part"] (spMW K C) := by
 refine D.fn.ok scMW (fun vs H Q E h => ?_) (fun cdv A outer s H vs Q E hr h => ?_)
 ·obtain ⟨x, lt, ll, z, y, p, S, a, b, h, m, D, rfl, _⟩ := h
  rfl
 ·obtain ⟨x, lt, ll, z, y, p, S, a, b, h, m, D, rfl, ta, ok, hz, hy, ⟨a0, ab, b1⟩, ⟨h0, hm, m8⟩, ⟨d0, d1, ga, gb⟩, k⟩ := h
  have hr3 : Room 3 _ := hr.mono (by decide)
  have hr8 : Room 8 _ := hr.mono (by decide)
  refine ⟨_, pss_one (ps_ret (pe_ml MM TC.cl hr8 (pv 0) (pa_cons (pe_ix ix_tup (pv 1) pe_int (fun _ _ => rfl)) (pa_cons (pe_cl CT hr3 rfl (pa_cons (pe_ml MW TC.cl hr (pv 0) (pa_cons (pe_lst (pa_cons (pv 1) pa_nil)) pa_nil)) (pa_cons (pv 2) pa_nil))) pa_nil)))), ?_⟩
  have dk : DOk D := ⟨d0, Nat.lt_of_le_of_lt d1 (by decide)⟩
  have pc : PcOk D [(a, b)] := ⟨dk, fun p hp => by rw [List.mem_singleton.mp hp]; exact ⟨a0, ab, b1⟩, List.pairwise_singleton .., fun p hp => by rw [List.mem_singleton.mp hp]; exact ⟨ga, gb⟩, by show 1 ≤ 1000; decide⟩
  obtain ⟨dx, hx⟩ := ta.ins
  obtain ⟨pz, za, zb, rfl, hpz, fa, fb⟩ := hz
  refine ⟨_, rfl, x, dx, _, rfl, hx, rfl, _, rfl, pz, _, _, _, rfl, rfl, hpz, rfl, _, rfl, x, dx, _, rfl, hx, rfl, _, rfl, (by show 1 ≤ sizeLine; decide), fun l1 hl1 => ?_⟩
  have s1 := Same.upd (o := .lst [.ref pz]) hl1
  refine ⟨x, lt, ll, l1, _, p, D, S, [(a, b)], rfl, ta.same s1, ok, sqL_new, .cons ⟨pz, za, zb, rfl, s1.sqT hpz, fa.same s1, fb.same s1⟩ .nil, pc, fun v2 H2 s2 d2 => ?_⟩
  have wf := (Wo_fit ok pc 1).1
  rw [List.take_of_length_le (by show 1 ≤ 1; decide), Wo_wd] at wf
  rw [Wo_wd] at d2
  obtain ⟨f0, f1⟩ := frac_in h0 hm
  have m0 : 0 < m := by omega
  have gf : Gr m ((h : Rat) / (m : Rat)) := by
   have := nfrac_gr m0 (h : Int)
   rw [Rat.intCast_natCast] at this
   exact this
  have bf : Bd 10 ((h : Rat) / (m : Rat)) := gf.bd m0 (Rat.le_of_lt f0) (m := 1) (by rw [show ((1 : Nat) : Rat) = 1 from rfl]; grind) (by omega) (by omega)
  have s12 := s1.trans s2
  refine ⟨_, rfl, v2, y, _, _, rfl, d2, hy.same s12, wf, Bd.fit bf (Rat.le_of_lt f0) (by decide), trivial, fun v3 H3 s3 d3 => ?_⟩
  have s13 := s12.trans s3
  obtain ⟨e1, e2, e3, e4, e5, e6, G, _⟩ := mw_facts ok a0 ab b1 h0 hm m8 d0 ga gb
  obtain ⟨N, n0, n1, hN⟩ := ok.num
  have few := ok.few
  have gFa := F_gr ok hN ga
  have gFb := F_gr ok hN gb
  have gw : Gr (D * N * m) (wd S (a, b) * ((h : Rat) / (m : Rat))) := Gr.mul (Gr.sub gFb gFa) gf
  have gs : Gr (D * N * m) (F S a + wd S (a, b) * ((h : Rat) / (m : Rat))) := Gr.add gFa.up gw
  have l1' : D * N ≤ 8000000 ^ 8 * 1000000 := Nat.mul_le_mul d1 (by omega)
  have l2' : D * N * m ≤ 8000000 ^ 8 * 1000000 * 8 := Nat.mul_le_mul l1' m8
  have dk2 : DOk (D * N * m) := ⟨Nat.mul_pos (Nat.mul_pos d0 n0) m0, Nat.lt_of_le_of_lt l2' (by decide)⟩
  have fa0 := F_nn ok a
  have w1 : wd S (a, b) * ((h : Rat) / (m : Rat)) ≤ 1 := by grind
  refine ⟨x, lt, ll, za, v3, p, S, a, _, rfl, ta.same s13, ok, fa.same s13, d3, ⟨a0, by grind, dk.bd ga a0 (by grind)⟩, Bd.fit (F_dbd ok dk ga (by grind)) fa0 (by decide), Bd.fit (dk2.bd gw (Rat.le_of_lt e5) w1) (Rat.le_of_lt e5) (by decide), ⟨by grind, dk2.bd gs (by grind) (Rat.le_of_lt e6)⟩, fun v4 H4 s4 d4 => ?_⟩
  rw [e1] at d4
  exact k v4 H4 (s13.trans s4) d4
end
end FQ
namespace FK
theorem canon {n : Nat} : ∀ {A B : List (Int × Int)}, Within n A → Within n B → A.Pairwise (fun a b => a.2 < b.1) → B.Pairwise (fun a b => a.2 < b.1) → (∀ c : Nat, c < n → cnt (c : Nat) A = cnt (c : Nat) B) → A = B := by
 have first : ∀ {p : Int × Int} {A : List (Int × Int)}, Within n (p :: A) → (p :: A).Pairwise (fun a b => a.2 < b.1) → ∀ c : Int, c ≤ p.2 → cnt c A = 0 := fun {p A} hw hp c hc => by
  rcases Nat.eq_zero_or_pos (cnt c A) with z | z
  ·exact z
  ·obtain ⟨q, hq, h1, _⟩ := of_cnt_pos z
   have := (List.pairwise_cons.mp hp).1 q hq
   omega
 have cons : ∀ (c : Int) (p : Int × Int) (A : List (Int × Int)), cnt c (p :: A) = (if p.1 ≤ c ∧ c < p.2 then 1 else 0) + cnt c A := fun c p A => by
  rw [show p :: A = [p] ++ A from rfl, cnt_append, cnt_one]
 intro A
 induction A with
 | nil =>
  intro B _ hB _ _ h
  cases B with
  | nil => rfl
  | cons q B =>
   exfalso
   have w := hB q List.mem_cons_self
   obtain ⟨s, hs⟩ := Int.eq_ofNat_of_zero_le w.1
   have := h s (by omega)
   rw [cons, if_pos (by omega), cnt_nil] at this
   omega
 | cons p A ih =>
  intro B hA hB pA pB h
  cases B with
  | nil =>
   exfalso
   have w := hA p List.mem_cons_self
   obtain ⟨s, hs⟩ := Int.eq_ofNat_of_zero_le w.1
   have := h s (by omega)
   rw [cons, if_pos (by omega), cnt_nil] at this
   omega
  | cons q B =>
   have wp := hA p List.mem_cons_self
   have wq := hB q List.mem_cons_self
   have fA := first hA pA
   have fB := first hB pB
   obtain ⟨ps, hps⟩ := Int.eq_ofNat_of_zero_le wp.1
   obtain ⟨qs, hqs⟩ := Int.eq_ofNat_of_zero_le wq.1
   have e1 : p.1 = q.1 := by
    rcases Int.lt_trichotomy p.1 q.1 with z | z | z
    ·have := h ps (by omega)
     rw [cons, cons, if_pos (by omega), if_neg (by omega), fB _ (by omega)] at this
     omega
    ·exact z
    ·have := h qs (by omega)
     rw [cons, cons, if_neg (by omega), if_pos (by omega), fA _ (by omega)] at this
     omega
   obtain ⟨pe, hpe⟩ := Int.eq_ofNat_of_zero_le (show 0 ≤ p.2 by omega)
   obtain ⟨qe, hqe⟩ := Int.eq_ofNat_of_zero_le (show 0 ≤ q.2 by omega)
   have e2 : p.2 = q.2 := by
    rcases Int.lt_trichotomy p.2 q.2 with z | z | z
    ·have := h pe (by omega)
     rw [cons, cons, if_neg (by omega), if_pos (by omega), fA _ (by omega)] at this
     omega
    ·exact z
    ·have := h qe (by omega)
     rw [cons, cons, if_pos (by omega), if_neg (by omega), fB _ (by omega)] at this
     omega
   have e : p = q := Prod.ext e1 e2
   subst e
   have := ih (fun r hr => hA r (List.mem_cons_of_mem _ hr)) (fun r hr => hB r (List.mem_cons_of_mem _ hr)) (List.pairwise_cons.mp pA).2 (List.pairwise_cons.mp pB).2 (fun c hc => by
    have := h c hc
    rw [cons, cons] at this
    omega)
   rw [this]
def turnsL : List (Int × Int) → List Int
 | [] => []
 | q :: L => q.1 :: q.2 :: turnsL L
theorem turns_len : ∀ L, (turnsL L).length = 2 * L.length
 | [] => rfl
 | _ :: L => by
  show (turnsL L).length + 2 = _
  rw [turns_len L, List.length_cons]
  omega
theorem turns_mem : ∀ {L : List (Int × Int)} {t : Int}, t ∈ turnsL L → ∃ q ∈ L, t = q.1 ∨ t = q.2
 | q :: L, t, h => by
  rcases List.mem_cons.mp h with rfl | h
  ·exact ⟨q, List.mem_cons_self, .inl rfl⟩
  ·rcases List.mem_cons.mp h with rfl | h
   ·exact ⟨q, List.mem_cons_self, .inr rfl⟩
   ·obtain ⟨r, hr, e⟩ := turns_mem h
    exact ⟨r, List.mem_cons_of_mem _ hr, e⟩
theorem turns_rise {n : Nat} : ∀ {L : List (Int × Int)}, Within n L → L.Pairwise (fun a b => a.2 < b.1) → (turnsL L).Pairwise (· < ·)
 | [], _, _ => .nil
 | q :: L, hw, hp => by
  have w := hw q List.mem_cons_self
  have ih := turns_rise (fun r hr => hw r (List.mem_cons_of_mem _ hr)) (List.pairwise_cons.mp hp).2
  have beh : ∀ t ∈ turnsL L, q.2 < t := fun t ht => by
   obtain ⟨r, hr, e⟩ := turns_mem ht
   have a := (List.pairwise_cons.mp hp).1 r hr
   have b := hw r (List.mem_cons_of_mem _ hr)
   omega
  refine List.pairwise_cons.mpr ⟨fun t ht => ?_, List.pairwise_cons.mpr ⟨beh, ih⟩⟩
  rcases List.mem_cons.mp ht with rfl | ht
  ·exact w.2.1
  ·have := beh t ht
   omega
def upto (c : Int) (T : List Int) : Nat := T.countP fun t => decide (t ≤ c)
theorem cnt_turns {n : Nat} : ∀ {L : List (Int × Int)}, Within n L → L.Pairwise (fun a b => a.2 < b.1) → ∀ c : Int, cnt c L = upto c (turnsL L) % 2
 | [], _, _, c => rfl
 | q :: L, hw, hp, c => by
  have w := hw q List.mem_cons_self
  have ih := cnt_turns (fun r hr => hw r (List.mem_cons_of_mem _ hr)) (List.pairwise_cons.mp hp).2 c
  have cons : cnt c (q :: L) = (if q.1 ≤ c ∧ c < q.2 then 1 else 0) + cnt c L := by rw [show q :: L = [q] ++ L from rfl, cnt_append, cnt_one]
  have u : upto c (turnsL (q :: L)) = upto c (turnsL L) + (if q.2 ≤ c then 1 else 0) + (if q.1 ≤ c then 1 else 0) := by
   show List.countP _ (q.1 :: q.2 :: turnsL L) = _
   rw [List.countP_cons, List.countP_cons]
   simp only [decide_eq_true_eq]
   rfl
  have zero : c < q.2 → upto c (turnsL L) = 0 := fun hc => by
   refine List.countP_eq_zero.mpr fun t ht => ?_
   obtain ⟨r, hr, e⟩ := turns_mem ht
   have a := (List.pairwise_cons.mp hp).1 r hr
   have b := hw r (List.mem_cons_of_mem _ hr)
   rw [decide_eq_true_eq]
   omega
  rw [cons, u, ih]
  by_cases h1 : q.2 ≤ c
  ·rw [if_pos h1, if_pos (show q.1 ≤ c by omega), if_neg (show ¬ (q.1 ≤ c ∧ c < q.2) by omega)]
   omega
  ·have z := zero (by omega)
   rw [if_neg h1, z]
   by_cases h2 : q.1 ≤ c
   ·rw [if_pos h2, if_pos (show q.1 ≤ c ∧ c < q.2 by omega)]
   ·rw [if_neg h2, if_neg (show ¬ (q.1 ≤ c ∧ c < q.2) by omega)]
structure Passed (T : List Int) (i : Nat) (p : Int) : Prop where
 le : i ≤ T.length
 old : ∀ k (h : k < T.length), k < i → T[k] ≤ p
 new : ∀ k (h : k < T.length), i ≤ k → p < T[k]
theorem Passed.upto {T : List Int} {i : Nat} {p : Int} (h : Passed T i p) : FK.upto p T = i := by
 unfold FK.upto
 rw [← List.take_append_drop i T, List.countP_append]
 have a : (T.take i).countP (fun t => decide (t ≤ p)) = (T.take i).length := List.countP_eq_length.mpr fun t ht => by
  obtain ⟨k, hk, e⟩ := List.mem_iff_getElem.mp ht
  rw [List.length_take] at hk
  rw [List.getElem_take] at e
  rw [decide_eq_true_eq, ← e]
  exact h.old k (by omega) (by omega)
 have b : (T.drop i).countP (fun t => decide (t ≤ p)) = 0 := List.countP_eq_zero.mpr fun t ht => by
  obtain ⟨k, hk, e⟩ := List.mem_iff_getElem.mp ht
  rw [List.length_drop] at hk
  rw [List.getElem_drop] at e
  rw [decide_eq_true_eq, ← e]
  have := h.new (i + k) (by omega) (by omega)
  omega
 rw [a, b, List.length_take]
 have := h.le
 omega
theorem Passed.at {T : List Int} {i : Nat} {p c : Int} (h : Passed T i p) (hc : p ≤ c) (hn : ∀ k (hk : k < T.length), i ≤ k → c < T[k]) : Passed T i c :=
 ⟨h.le, fun k hk hi => Int.le_trans (h.old k hk hi) hc, hn⟩
theorem rise_lt {T : List Int} (hT : T.Pairwise (· < ·)) {i j : Nat} (hi : i < T.length) (hj : j < T.length) (h : i < j) : T[i] < T[j] := List.pairwise_iff_getElem.mp hT i j hi hj h
theorem Passed.step {T : List Int} {i : Nat} {p q : Int} (hT : T.Pairwise (· < ·)) (h : Passed T i p) (hp : p < q) (hi : i < T.length) (e : T[i] = q) : Passed T (i + 1) q := by
 refine ⟨hi, fun k hk hki => ?_, fun k hk hki => ?_⟩
 ·rcases Nat.lt_or_ge k i with z | z
  ·have := h.old k hk z
   omega
  ·have : k = i := by omega
   subst this
   omega
 ·have := rise_lt hT hi hk (by omega)
  omega
theorem Passed.skip {T : List Int} {i : Nat} {p q : Int} (hT : T.Pairwise (· < ·)) (h : Passed T i p) (hp : p < q) (hn : ∀ hi : i < T.length, q < T[i]) : Passed T i q := by
 refine ⟨h.le, fun k hk hki => ?_, fun k hk hki => ?_⟩
 ·have := h.old k hk hki
  omega
 ·have a := hn (by omega)
  rcases Nat.lt_or_ge i k with z | z
  ·have := rise_lt hT (by omega) hk z
   omega
  ·have : k = i := by omega
   subst this
   exact a
def opn : Option Int → Int → Nat
 | some s, c => if s ≤ c then 1 else 0
 | none, _ => 0
structure Sweep (n : Nat) (g : Bool → Bool → Bool) (T U : List Int) (i j : Nat) (p : Int) (st : Option Int) (R : List (Int × Int)) : Prop where
 one : Passed T i p
 two : Passed U j p
 pn : p ≤ n
 here : st.isSome = g (decide (i % 2 = 1)) (decide (j % 2 = 1))
 win : ∀ q ∈ R, 0 ≤ q.1 ∧ q.1 < q.2 ∧ q.2 ≤ p
 apart : R.Pairwise fun a b => a.2 < b.1
 stp : ∀ s, st = some s → 0 ≤ s ∧ s ≤ p ∧ ∀ q ∈ R, q.2 < s
 count : ∀ c : Int, 0 ≤ c → c < p → (cnt c R + opn st c) = if g (decide (upto c T % 2 = 1)) (decide (upto c U % 2 = 1)) = true then 1 else 0
theorem Sweep.start {n : Nat} {g : Bool → Bool → Bool} {T U : List Int} (hg : g false false = false) (hT : ∀ t ∈ T, 0 ≤ t) (hU : ∀ t ∈ U, 0 ≤ t) : Sweep n g T U 0 0 (-1) none [] :=
 ⟨⟨Nat.zero_le _, (fun _ _ h => by omega), fun k hk _ => by have := hT _ (List.getElem_mem hk); omega⟩, ⟨Nat.zero_le _, (fun _ _ h => by omega), fun k hk _ => by have := hU _ (List.getElem_mem hk); omega⟩, by omega, hg.symm, (fun _ h => nomatch h), .nil, (fun _ h => nomatch h), fun c h0 h1 => by omega⟩
theorem Sweep.next {n : Nat} {g : Bool → Bool → Bool} {T U : List Int} {i j i' j' : Nat} {p q : Int} {st : Option Int} {R : List (Int × Int)} (h : Sweep n g T U i j p st R) (hpq : p < q) (hq0 : 0 ≤ q) (hqn : q ≤ n)
  (h1 : ∀ k (hk : k < T.length), i ≤ k → q ≤ T[k]) (h2 : ∀ k (hk : k < U.length), j ≤ k → q ≤ U[k]) (n1 : Passed T i' q) (n2 : Passed U j' q) :
  let kept := g (decide (i' % 2 = 1)) (decide (j' % 2 = 1))
  (kept = true → st = none → Sweep n g T U i' j' q (some q) R) ∧ (∀ s, kept = false → st = some s → Sweep n g T U i' j' q none (R ++ [(s, q)])) ∧ (kept = st.isSome → Sweep n g T U i' j' q st R) := by
 have mid : ∀ c : Int, p ≤ c → c < q → g (decide (upto c T % 2 = 1)) (decide (upto c U % 2 = 1)) = st.isSome := fun c hc hcq => by
  have a := (h.one.at hc fun k hk hi => by have := h1 k hk hi; omega).upto
  have b := (h.two.at hc fun k hk hi => by have := h2 k hk hi; omega).upto
  rw [a, b, h.here]
 have outR : ∀ c : Int, p ≤ c → cnt c R = 0 := fun c hc => by
  rcases Nat.eq_zero_or_pos (cnt c R) with z | z
  ·exact z
  ·obtain ⟨r, hr, _, h4⟩ := of_cnt_pos z
   have := h.win r hr
   omega
 have upq : ∀ c : Int, 0 ≤ c → c < q → (cnt c R + opn st c) = if g (decide (upto c T % 2 = 1)) (decide (upto c U % 2 = 1)) = true then 1 else 0 := fun c h0 hc => by
  rcases Int.lt_or_le c p with z | z
  ·exact h.count c h0 z
  ·rw [mid c z hc, outR c z]
   cases st with
   | none => rfl
   | some s =>
    have := h.stp s rfl
    show 0 + (if s ≤ c then 1 else 0) = if true = true then 1 else 0
    rw [if_pos (by omega), if_pos rfl]
 have win' : ∀ r ∈ R, 0 ≤ r.1 ∧ r.1 < r.2 ∧ r.2 ≤ q := fun r hr => by
  have := h.win r hr
  omega
 refine ⟨fun hk hs => ?_, fun s hk hs => ?_, fun hk => ?_⟩
 ·subst hs
  refine ⟨n1, n2, hqn, hk.symm, win', h.apart, fun s' e => ?_, fun c h0 hc => ?_⟩
  ·cases e
   refine ⟨hq0, Int.le_refl _, fun r hr => ?_⟩
   have := h.win r hr
   omega
  ·rw [← upq c h0 hc]
   show cnt c R + (if q ≤ c then 1 else 0) = cnt c R + 0
   rw [if_neg (by omega)]
 ·subst hs
  have hs' := h.stp s rfl
  refine ⟨n1, n2, hqn, hk.symm, fun r hr => ?_, ?_, (fun _ z => nomatch z), fun c h0 hc => ?_⟩
  ·rcases List.mem_append.mp hr with z | z
   ·exact win' r z
   ·rw [List.mem_singleton.mp z]
    exact ⟨hs'.1, by show s < q; omega, Int.le_refl _⟩
  ·refine List.pairwise_append.mpr ⟨h.apart, List.pairwise_singleton _ _, fun a ha b hb => ?_⟩
   rw [List.mem_singleton.mp hb]
   exact hs'.2.2 a ha
  ·rw [← upq c h0 hc, cnt_append, cnt_one]
   show cnt c R + (if s ≤ c ∧ c < q then 1 else 0) + 0 = cnt c R + (if s ≤ c then 1 else 0)
   by_cases z : s ≤ c
   ·rw [if_pos z, if_pos ⟨z, hc⟩]
   ·rw [if_neg z, if_neg fun y => z y.1]
 ·refine ⟨n1, n2, hqn, hk.symm, win', h.apart, fun s' e => ?_, upq⟩
  have := h.stp s' e
  exact ⟨this.1, by omega, this.2.2⟩
theorem Sweep.fin {n : Nat} {g : Bool → Bool → Bool} {L M R : List (Int × Int)} {p : Int} {st : Option Int} (hg : g false false = false) (hL : Within n L) (hM : Within n M) (aL : L.Pairwise fun a b => a.2 < b.1) (aM : M.Pairwise fun a b => a.2 < b.1)
  (h : Sweep n g (turnsL L) (turnsL M) (turnsL L).length (turnsL M).length p st R) : Within n R ∧ (R.Pairwise fun a b => a.2 < b.1) ∧ ∀ c : Nat, c < n → cnt (c : Nat) R = if g (decide (cnt (c : Nat) L = 1)) (decide (cnt (c : Nat) M = 1)) = true then 1 else 0 := by
 have e1 : (turnsL L).length % 2 = 0 := by rw [turns_len]; omega
 have e2 : (turnsL M).length % 2 = 0 := by rw [turns_len]; omega
 have hst : st = none := by
  have := h.here
  rw [e1, e2] at this
  cases st with
  | none => rfl
  | some s =>
   rw [show decide ((0 : Nat) = 1) = false from rfl, hg] at this
   cases this
 subst hst
 refine ⟨fun q hq => ?_, h.apart, fun c hc => ?_⟩
 ·have := h.win q hq
  have := h.pn
  omega
 ·rw [cnt_turns hL aL, cnt_turns hM aM]
  rcases Int.lt_or_le (c : Int) p with z | z
  ·have := h.count c (by omega) z
   exact (Nat.add_zero _).symm.trans this
  ·have a := (h.one.at z fun k hk hi => by omega).upto
   have b := (h.two.at z fun k hk hi => by omega).upto
   rw [a, b, e1, e2, show decide ((0 : Nat) = 1) = false from rfl, hg]
   rcases Nat.eq_zero_or_pos (cnt (c : Nat) R) with y | y
   ·rw [y]
    rfl
   ·obtain ⟨r, hr, _, h4⟩ := of_cnt_pos y
    have := h.win r hr
    omega
end FK
namespace FK
theorem turns_snoc : ∀ (A : List (Int × Int)) (q : Int × Int), turnsL (A ++ [q]) = turnsL A ++ [q.1, q.2]
 | [], _ => rfl
 | a :: A, q => by
  show a.1 :: a.2 :: turnsL (A ++ [q]) = a.1 :: a.2 :: (turnsL A ++ [q.1, q.2])
  rw [turns_snoc A q]
theorem rise_at {T : List Int} (hT : T.Pairwise (· < ·)) {i k : Nat} {a b : Int} (h : i ≤ k) (ha : T[i]? = some a) (hb : T[k]? = some b) : a ≤ b := by
 obtain ⟨h1, e1⟩ := List.getElem?_eq_some_iff.mp ha
 obtain ⟨h2, e2⟩ := List.getElem?_eq_some_iff.mp hb
 rcases Nat.lt_or_ge i k with z | z
 ·have := rise_lt hT h1 h2 z
  omega
 ·have : i = k := by omega
  subst this
  rw [ha] at hb
  cases hb
  omega
end FK
namespace FQ
open PySem L2 FK
def ph2 (n : Int) (q : Int × Int) : (Int × Int) × (Int × Int) := (phi n q.1, phi n q.2)
def SpN (K : PySem.W.Frag) (n : Nat) (H : Hp) (x : V) (q : Int × Int) : Prop := SpR K H x (ph2 n q)
structure Good (n : Nat) (L : List (Int × Int)) : Prop where
 win : Within n L
 apart : L.Pairwise fun a b => a.2 < b.1
structure Num (n : Nat) : Prop where
 pos : 0 < n
 few : n < 2 ^ 220
theorem Num.i {n : Nat} (N : Num n) : (0 : Int) < n := by have := N.pos; omega
def tq (n : Nat) (t : Int) : Rat := (t : Rat) / ((n : Int) : Rat)
theorem phi_fr {n : Nat} (N : Num n) (t : Int) : phi n t = fr (tq n t) := by
 obtain ⟨h1, h2⟩ := low_fr (a := t) N.i
 unfold phi fr tq
 rw [h1, h2]
theorem tq_gr {n : Nat} (N : Num n) (t : Int) : Gr n (tq n t) := by
 have := nat_pos N.pos
 refine ⟨t, ?_⟩
 unfold tq
 rw [Rat.intCast_natCast]
 grind
theorem tq_mul {n : Nat} (N : Num n) (t : Int) : tq n t * (n : Rat) = (t : Rat) := by
 have := nat_pos N.pos
 unfold tq
 rw [Rat.intCast_natCast]
 grind
theorem tq_lt {n : Nat} (N : Num n) {s t : Int} : tq n s < tq n t ↔ s < t := by
 have h := nat_pos N.pos
 have e1 := tq_mul N s
 have e2 := tq_mul N t
 refine ⟨fun z => ?_, fun z => ?_⟩
 ·have := Rat.mul_lt_mul_of_pos_right z h
  rw [e1, e2] at this
  exact Rat.intCast_lt_intCast.mp this
 ·refine Rat.not_le.mp fun w => ?_
  have m := Rat.mul_le_mul_of_nonneg_right w (Rat.le_of_lt h)
  rw [e1, e2] at m
  have := Rat.intCast_le_intCast.mp m
  omega
theorem tq_nn {n : Nat} (N : Num n) {t : Int} (h : 0 ≤ t) : 0 ≤ tq n t := by
 have z : tq n 0 = 0 := by
  unfold tq
  rw [show ((0 : Int) : Rat) = 0 from rfl]
  grind
 refine Rat.not_lt.mp fun w => ?_
 rw [← z] at w
 have := (tq_lt N).mp w
 omega
theorem tq_one {n : Nat} (N : Num n) : tq n n = 1 := by
 have := nat_pos N.pos
 unfold tq
 rw [Rat.intCast_natCast]
 grind
theorem tq_le {n : Nat} (N : Num n) {t : Int} (h : t ≤ n) : tq n t ≤ 1 := by
 refine Rat.not_lt.mp fun w => ?_
 rw [← tq_one N] at w
 have := (tq_lt N).mp w
 omega
theorem tq_fit {n : Nat} (N : Num n) {t : Int} (h0 : 0 ≤ t) (h1 : t ≤ n) : Fit (tq n t) := Bd.fit ((DOk.mk N.pos N.few).bd (tq_gr N t) (tq_nn N h0) (tq_le N h1)) (tq_nn N h0) (by decide)
def FrN (K : PySem.W.Frag) (n : Nat) (H : Hp) (x : V) (t : Int) : Prop := FrR K H x (phi n t)
theorem FrN.q {K : PySem.W.Frag} {n : Nat} {H : Hp} {x : V} {t : Int} (N : Num n) (h : FrN K n H x t) : FrQ K H x (tq n t) := by
 unfold FrN at h
 rw [phi_fr N] at h
 exact h
def nq (n : Nat) (p : Int × Int) : Rat × Rat := (tq n p.1, tq n p.2)
theorem SpN.q {K : PySem.W.Frag} {n : Nat} {H : Hp} {x : V} {p : Int × Int} (N : Num n) (h : SpN K n H x p) : CoQ K H x (nq n p) := by
 obtain ⟨a, y, z, e, h1, h2, h3⟩ := h
 exact ⟨a, y, z, e, h1, FrN.q N h2, FrN.q N h3⟩
theorem good_pc {n : Nat} (N : Num n) {L : List (Int × Int)} (g : Good n L) (l : L.length ≤ 1000) : PcOk n (L.map (nq n)) := by
 refine ⟨⟨N.pos, N.few⟩, fun p hp => ?_, List.pairwise_map.mpr (g.apart.imp fun h => (tq_lt N).mpr h), fun p hp => ?_, by rw [List.length_map]; exact l⟩
 ·obtain ⟨q, hq, rfl⟩ := List.mem_map.mp hp
  obtain ⟨a, b, c⟩ := g.win q hq
  exact ⟨tq_nn N a, (tq_lt N).mpr b, tq_le N c⟩
 ·obtain ⟨q, hq, rfl⟩ := List.mem_map.mp hp
  exact ⟨tq_gr N _, tq_gr N _⟩
theorem sps_q {K : PySem.W.Frag} {n : Nat} {H : Hp} (N : Num n) : ∀ {xs : List V} {L : List (Int × Int)}, Paired (SpN K n H) xs L → Paired (CoQ K H) xs (L.map (nq n))
 | _, _, .nil => .nil
 | _, _, .cons h t => .cons (SpN.q N h) (sps_q N t)
def spTurns (K : PySem.W.Frag) : Sp := fun vs H Q _ => ∃ (n : Nat) (p : Addr) (xs : List V) (L : List (Int × Int)), vs = [.ref p] ∧ Num n ∧ SqL K H p xs ∧ Paired (SpN K n H) xs L ∧ Good n L ∧ L.length ≤ 1000 ∧
 ∀ (r : Addr) (ts : List V) (H' : Hp), Same H H' → H r = none → H' r = some (.lst ts) → Paired (FrN K n H) ts (turnsL L) → Q (.ref r) H'
def spNear (K : PySem.W.Frag) : Sp := fun vs H Q _ => ∃ (n : Nat) (p q : Addr) (i j : Nat) (ts us : List V) (T U : List Int), vs = [.ref p, .int i, .ref q, .int j] ∧ Num n ∧ SqL K H p ts ∧ SqL K H q us ∧ Paired (FrN K n H) ts T ∧ Paired (FrN K n H) us U ∧
 (∀ t ∈ T, 0 ≤ t ∧ t ≤ n) ∧ (∀ t ∈ U, 0 ≤ t ∧ t ≤ n) ∧ i ≤ T.length ∧ j ≤ U.length ∧ (i < T.length ∨ j < U.length) ∧
 ∀ (x : V) (t : Int), ((ts[i]? = some x ∧ T[i]? = some t) ∨ (us[j]? = some x ∧ U[j]? = some t)) → (∀ a, T[i]? = some a → t ≤ a) → (∀ a, U[j]? = some a → t ≤ a) → Q x H
def spKeep (g : Bool → Bool → Bool) : Sp := fun vs H Q _ => ∃ a b : Bool, vs = [.bl a, .bl b] ∧ Q (.bl (g a b)) H
def Holds (n : Nat) (g : Bool → Bool → Bool) (L M R : List (Int × Int)) : Prop := ∀ c : Nat, c < n → cnt (c : Nat) R = if g (decide (cnt (c : Nat) L = 1)) (decide (cnt (c : Nat) M = 1)) = true then 1 else 0
def PcN (K : PySem.W.Frag) (n : Nat) (H : Hp) (p : Addr) (L : List (Int × Int)) : Prop := ∃ xs, SqL K H p xs ∧ Paired (SpN K n H) xs L ∧ Good n L ∧ L.length ≤ 1000
def spComb (P : Program) (w : World) (K : PySem.W.Frag) (mg : Str → Option Value) (base : Heap) : Sp := fun vs H Q _ => ∃ (n : Nat) (p q : Addr) (l : Lam) (L M : List (Int × Int)) (g : Bool → Bool → Bool), vs = [.ref p, .ref q, .ref l.f] ∧ Num n ∧ PcN K n H p L ∧ PcN K n H q M ∧
 l.At H ∧ FnV P w K mg base 1 l 2 (spKeep g) ∧ g false false = false ∧
 ∀ (r : Addr) (zs : List V) (R : List (Int × Int)) (H' : Hp), Same H H' → H r = none → H' r = some (.lst zs) → Paired (SpN K n H') zs R → Good n R → Holds n g L M R → Q (.ref r) H'
section
variable {P : Program} {w : World} {K : PySem.W.Frag} {mg : Str → Option Value} {base : Heap} {aL aR : Addr}
theorem SpN.same {n : Nat} {H H' : Hp} {x : V} {q : Int × Int} (s : Same H H') (h : SpN K n H x q) : SpN K n H' x q := SpR.same s h
theorem PcN.same {n : Nat} {H H' : Hp} {p : Addr} {L : List (Int × Int)} (s : Same H H') (h : PcN K n H p L) : PcN K n H' p L := by
 obtain ⟨xs, h1, h2, h3⟩ := h
 exact ⟨xs, s.seq h1, Paired.mapP h2 fun _ _ z => SpN.same s z, h3⟩
theorem scTurns : FnScope ["piece", "points", "span"] ["piece"] (defScope s_turns) := ⟨rfl, rfl, rfl, by decide +kernel, rfl, by decide +kernel, by decide +kernel⟩
theorem ok_turns {f : Addr} {fd : FuncData} (D : DefAt K mg "turns" s_turns ["piece"] f fd) : FnOk P w K mg base CX0 1 f fd ["piece"] (spTurns K) := by
 refine D.fn.ok scTurns (fun vs H Q E h => ?_) (fun cdv A outer s H vs Q E hr h => ?_)
 ·obtain ⟨n, p, xs, L, rfl, _⟩ := h
  rfl
 ·obtain ⟨n, p, xs, L, rfl, N, hp, hL, hG, few, k⟩ := h
  refine ⟨_, pss_cons (ps_set (i := 1) scTurns.nd rfl (Or.inl rfl) (pe_lst pa_nil))
   (pss_cons (ps_for PassesOwn.never rfl (pi_list (pv 0)) (pg_name (i := 2) scTurns.nd rfl (Or.inl rfl))
    (pss_one (ps_expr (pe_bm PySem.F.plainAttrs_list PySem.F.slot_list_extend PySem.F.type_list_extend mt_extendT (pv 1) (pa_cons (pv 2) pa_nil)))))
   (pss_one (ps_ret (pv 1)))), ?_⟩
  refine ⟨Nat.zero_le _, fun r hr => ?_⟩
  have s0 : Same H (upd H r (.lst [])) := Same.upd hr
  have lenX := hL.length
  refine ⟨_, rfl, p, rfl, ⟨_, s0.seq hp⟩, ?_⟩
  refine for_list (K := K) (a := p) (xs := xs) (fun i σ H' => Same H H' ∧ ∃ (ts : List V) (x2 : Option V), σ = [some (.ref p), some (.ref r), x2] ∧ H' r = some (.lst ts) ∧ Paired (FrN K n H) ts (turnsL (L.take i)))
   ⟨s0, [], _, rfl, upd_same, .nil⟩ (fun i σ H' _ h => h.1.seq hp) ?_ ?_
  ·rintro i x σ H' hx ⟨s1, ts, x2, rfl, hz, hZ⟩
   obtain ⟨q, hq, p0, y, z, rfl, hp0, hy, hz0⟩ := Paired.get1 hL i x hx
   have hT : L.take (i + 1) = L.take i ++ [q] := by
    rw [List.take_succ, hq]
    rfl
   have hlen : ts.length ≤ 2000 := by
    rw [hZ.length, turns_len, List.length_take]
    omega
   refine ⟨_, rfl, .inl ⟨rfl, _, .of hz⟩, _, rfl, r, p0, ts, [y, z], rfl, rfl, hz, s1.sqT hp0, ?_, ?_⟩
   ·have : 3000 ≤ sizeLine := by decide
    show ts.length + 2 ≤ sizeLine
    omega
   ·refine ⟨fun b o e => ?_, ts ++ [y, z], _, rfl, upd_same, ?_⟩
    ·rw [upd_ne (ne_of_none e hr)]
     exact s1 b o e
    ·rw [hT, turns_snoc]
     exact Paired.app hZ (.cons hy (.cons hz0 .nil))
  ·rintro σ H' ⟨s1, ts, x2, rfl, hz, hZ⟩
   rw [List.take_of_length_le (by omega)] at hZ
   exact ⟨_, rfl, k r ts H' s1 hr hz hZ⟩
theorem scNear : FnScope ["ahead", "passed", "other_ahead", "other_passed"] ["ahead", "passed", "other_ahead", "other_passed"] (defScope s_nearest) := ⟨rfl, rfl, rfl, by decide +kernel, rfl, by decide +kernel, by decide +kernel⟩
theorem Paired.get2 {α β : Type} {F : α → β → Prop} {xs : List α} {ys : List β} (h : Paired F xs ys) {i : Nat} (hi : i < ys.length) : ∃ x y, xs[i]? = some x ∧ ys[i]? = some y ∧ F x y := by
 have e := h.length
 obtain ⟨y, h1, h2⟩ := Paired.get1 h i xs[i] (List.getElem?_eq_getElem (by omega))
 exact ⟨_, y, List.getElem?_eq_getElem (by omega), h1, h2⟩
theorem ok_near {f : Addr} {fd : FuncData} (D : DefAt K mg "nearest" s_nearest ["ahead", "passed", "other_ahead", "other_passed"] f fd) (CB : Cl P w K mg base "below" 1 ["one", "other"] (spBelow K)) (T : Txt K mg aL aR) : FnOk P w K mg base CX0 2 f fd ["ahead", "passed", "other_ahead", "other_passed"] (spNear K) := by
 refine D.fn.ok scNear (fun vs H Q E h => ?_) (fun cdv A outer s H vs Q E hr h => ?_)
 ·obtain ⟨n, p, q, i, j, ts, us, T, U, rfl, _⟩ := h
  rfl
 ·obtain ⟨n, p, q, i, j, ts, us, TT, U, rfl, N, hp, hq, hT, hU, bT, bU, hi, hj, hij, k⟩ := h
  refine ⟨_, pss_cons (ps_if (pt_cmpR op_eq (pv 3) (pe_callB call_len_seq (by rfl) T.len PySem.boot_len (pa_cons (pv 2) pa_nil)) (nomark _)) (pss_one (ps_ret (pe_ix ix_list (pv 0) (pv 1) (fun _ _ => rfl)))) pss_nil)
   (pss_cons (ps_if (PW.pt (pw_and (pt_cmpR op_lt (pv 1) (pe_callB call_len_seq (by rfl) T.len PySem.boot_len (pa_cons (pv 0) pa_nil)) (nomark _)) (pw_and1 (pt_val (pe_cl CB hr rfl (pa_cons (pe_ix ix_list (pv 0) (pv 1) (fun _ _ => rfl)) (pa_cons (pe_ix ix_list (pv 2) (pv 3) (fun _ _ => rfl)) pa_nil))))))) (pss_one (ps_ret (pe_ix ix_list (pv 0) (pv 1) (fun _ _ => rfl)))) pss_nil)
   (pss_one (ps_ret (pe_ix ix_list (pv 2) (pv 3) (fun _ _ => rfl))))), ?_⟩
  have lT := hT.length
  have lU := hU.length
  refine ⟨_, rfl, _, rfl, q, _, rfl, .inl hq, rfl, _, rfl, ?_⟩
  refine ite2 (fun h => ?_) (fun h => ?_)
  ·have h' : j = us.length := by
    have := V.int.inj (of_decide_eq_true h)
    omega
   obtain ⟨x, t, hx, ht, hF⟩ := Paired.get2 hT (i := i) (by omega)
   refine ⟨_, rfl, _, rfl, p, _, _, _, rfl, rfl, hp, atI_nat hx, k x t (.inl ⟨hx, ht⟩) (fun a e => ?_) (fun a e => ?_)⟩
   ·rw [ht] at e
    cases e
    exact Int.le_refl _
   ·rw [List.getElem?_eq_none (by omega)] at e
    cases e
  ·have h' : j < us.length := by
    have : ¬ j = us.length := fun z => h (decide_eq_true (by rw [z]))
    omega
   obtain ⟨y, u, hy, hu, hFu⟩ := Paired.get2 hU (i := j) (by omega)
   have lastly : (∀ a, TT[i]? = some a → u ≤ a) → ∀ Q2 : VK, (∀ x t, ((ts[i]? = some x ∧ TT[i]? = some t) ∨ (us[j]? = some x ∧ U[j]? = some t)) → (∀ a, TT[i]? = some a → t ≤ a) → (∀ a, U[j]? = some a → t ≤ a) → Q2 x H) → Q2 y H := fun h1 Q2 k2 => k2 y u (.inr ⟨hy, hu⟩) h1 fun a e => by
    rw [hu] at e
    cases e
    exact Int.le_refl _
   refine ⟨_, rfl, _, rfl, p, _, rfl, .inl hp, _, _, rfl, rfl, _, rfl, ?_⟩
   refine ite2 (fun h2 => ?_) (fun h2 => ?_)
   ·have h2' : i < ts.length := by
     have : (i : Int) < (ts.length : Nat) := of_decide_eq_true h2
     omega
    obtain ⟨x, t, hx, ht, hFt⟩ := Paired.get2 hT (i := i) (by omega)
    have b1 := bT t (List.mem_of_getElem? ht)
    have b2 := bU u (List.mem_of_getElem? hu)
    refine ⟨_, rfl, _, rfl, p, _, _, _, rfl, rfl, hp, atI_nat hx, _, rfl, _, rfl, q, _, _, _, rfl, rfl, hq, atI_nat hy, x, y, tq n t, tq n u, rfl, hFt.q N, hFu.q N, tq_fit N b1.1 b1.2, tq_fit N b2.1 b2.2, _, rfl, ?_⟩
    refine ite2 (fun h3 => ?_) (fun h3 => ?_)
    ·have h3' : t < u := (tq_lt N).mp (of_decide_eq_true h3)
     refine ⟨_, rfl, _, rfl, p, _, _, _, rfl, rfl, hp, atI_nat hx, k _ t (.inl ⟨hx, ht⟩) (fun a e => ?_) (fun a e => ?_)⟩
     ·rw [ht] at e
      cases e
      exact Int.le_refl _
     ·rw [hu] at e
      cases e
      omega
    ·have h3' : ¬ t < u := fun z => h3 (decide_eq_true ((tq_lt N).mpr z))
     refine ⟨_, rfl, _, rfl, q, _, _, _, rfl, rfl, hq, atI_nat hy, lastly (fun a e => ?_) _ k⟩
     rw [ht] at e
     cases e
     omega
   ·have h2' : ¬ i < ts.length := fun z => h2 (decide_eq_true (by omega))
    refine ⟨_, rfl, _, rfl, q, _, _, _, rfl, rfl, hq, atI_nat hy, lastly (fun a e => ?_) _ k⟩
    rw [List.getElem?_eq_none (by omega)] at e
    cases e
end
end FQ
namespace FQ
open PySem L2 FK
theorem spK {K : PySem.W.Frag} {n : Nat} {H H' : Hp} {x : V} {d : Int × Int} (s : Keep H H') (h : SpN K n H x d) : SpN K n H' x d := by
 obtain ⟨p, y, z, rfl, q, h1, h2⟩ := h
 exact ⟨p, y, z, rfl, s.sqT q, s.fr h1, s.fr h2⟩
theorem spsK {K : PySem.W.Frag} {n : Nat} {H H' : Hp} {xs : List V} {L : List (Int × Int)} (s : Keep H H') (h : Paired (SpN K n H) xs L) : Paired (SpN K n H') xs L := Paired.mapP h fun _ _ z => spK s z
def wBody : Stmt → List Stmt
 | .While _ b _ _ => b
 | _ => []
abbrev bComb : List Stmt := wBody ((defBody s_combined).getD 8 (.Pass ⟨0, 0, 0, 0⟩))
abbrev NCb : List Str := ["one", "other", "keeps", "ones", "others", "i", "j", "start", "spans", "point", "kept"]
theorem scComb : FnScope NCb ["one", "other", "keeps"] (defScope s_combined) := ⟨rfl, rfl, rfl, by decide +kernel, rfl, by decide +kernel, by decide +kernel⟩
structure LoopC (K : PySem.W.Frag) (n : Nat) (g : Bool → Bool → Bool) (T U : List Int) (H1 H' : Hp) (sp : Addr) (i j : Nat) (stv : V) (p : Int) : Prop where
 same : Same H1 H'
 few : ∀ zs, H' sp = some (.lst zs) → zs.length ≤ i + j
 ex : ∃ (st : Option Int) (zs : List V) (R : List (Int × Int)), H' sp = some (.lst zs) ∧ Paired (SpN K n H') zs R ∧ Sweep n g T U i j p st R ∧ ((st = none ∧ stv = .non) ∨ ∃ s, st = some s ∧ stv ≠ .non ∧ FrN K n H1 stv s)
theorem odd_dec (i : Nat) : decide (V.int ((i : Int) % 2) = V.int 1) = decide (i % 2 = 1) := by
 exact decide_eq_decide.mpr ⟨fun h => by have := V.int.inj h; omega, fun h => congrArg V.int (by omega)⟩
theorem FrN.nn {K : PySem.W.Frag} {n : Nat} {H : Hp} {x : V} {t : Int} (h : FrN K n H x t) : x ≠ .non := by
 obtain ⟨p, rfl, _⟩ := FrR.sq h
 exact fun z => nomatch z
section
variable {P : Program} {w : World} {K : PySem.W.Frag} {mg : Str → Option Value} {base : Heap} {aL aR : Addr}
theorem bodyC {f : Addr} {cdv : Value} {A : Around} {outer : List Env} {s : Shared} {H : Hp} {E : XK} (hr : Room 4 (A.deeper (PyProof.Rows.envOfC "combined" (defScope s_combined) s.heap.objs.size f cdv)))
  (CN : Cl P w K mg base "nearest" 2 ["ahead", "passed", "other_ahead", "other_passed"] (spNear K)) (TX : Txt K mg aL aR) :
  ∃ t, PSs (cxOf CX0 P w K mg base NCb "combined" (defScope s_combined) f cdv A outer s H E).nox bComb t ∧ ∀ (D : Ends) (n : Nat) (g : Bool → Bool → Bool) (l : Lam) (T U : List Int) (ts us : List V) (H1 H' : Hp) (x0 x1 x9 x10 : Option V) (o1 o2 sp : Addr) (i j : Nat) (stv : V) (p : Int), Num n → l.At H1 → FnV P w K mg base 1 l 2 (spKeep g) →
   SqL K H1 o1 ts → SqL K H1 o2 us → Paired (FrN K n H1) ts T → Paired (FrN K n H1) us U → (∀ t ∈ T, 0 ≤ t ∧ t ≤ n) → (∀ t ∈ U, 0 ≤ t ∧ t ≤ n) → T.Pairwise (· < ·) → U.Pairwise (· < ·) → H1 sp = none →
   LoopC K n g T U H1 H' sp i j stv p → (i < T.length ∨ j < U.length) → T.length ≤ 2000 → U.length ≤ 2000 →
   (∀ (i' j' : Nat) (stv' : V) (p' : Int) (y9 y10 : Option V) (H'' : Hp), LoopC K n g T U H1 H'' sp i' j' stv' p' → i + j < i' + j' → D.nx [x0, x1, some (.ref l.f), some (.ref o1), some (.ref o2), some (.int i'), some (.int j'), some stv', some (.ref sp), y9, y10] H'') →
   t D [x0, x1, some (.ref l.f), some (.ref o1), some (.ref o2), some (.int i), some (.int j), some stv, some (.ref sp), x9, x10] H' := by
 have hu := hu_of hr
 have hr1 : Room 1 _ := hr.mono (by decide)
 have hr2 : Room 2 _ := hr.mono (by decide)
 obtain ⟨t3, h3, r3⟩ : ∃ t, PSs (cxOf CX0 P w K mg base NCb "combined" (defScope s_combined) f cdv A outer s H E).nox (List.drop 3 bComb) t ∧ ∀ (D : Ends) (n : Nat) (g : Bool → Bool → Bool) (l : Lam) (T U : List Int) (H1 H' : Hp) (x0 x1 x10 : Option V) (o1 o2 sp : Addr) (i j i' j' : Nat) (stv pv : V) (p q : Int), Num n → l.At H1 → FnV P w K mg base 1 l 2 (spKeep g) → H1 sp = none →
   LoopC K n g T U H1 H' sp i j stv p → FrN K n H1 pv q → p < q → 0 ≤ q → q ≤ n → (∀ k (hk : k < T.length), i ≤ k → q ≤ T[k]) → (∀ k (hk : k < U.length), j ≤ k → q ≤ U[k]) → Passed T i' q → Passed U j' q → i + j < i' + j' → T.length ≤ 2000 → U.length ≤ 2000 →
   (∀ (stv' : V) (y9 y10 : Option V) (H'' : Hp), LoopC K n g T U H1 H'' sp i' j' stv' q → D.nx [x0, x1, some (.ref l.f), some (.ref o1), some (.ref o2), some (.int i'), some (.int j'), some stv', some (.ref sp), y9, y10] H'') →
   t D [x0, x1, some (.ref l.f), some (.ref o1), some (.ref o2), some (.int i'), some (.int j'), some stv, some (.ref sp), some pv, x10] H' := by
  refine ⟨_, pss_cons (ps_set (i := 10) scComb.nd rfl (Or.inl rfl) (pe_callV hr1 (pv 2) (pa_cons (pe_cmpR op_eq (pe_op op_mod (pv 5) pe_int) pe_int (nomark _)) (pa_cons (pe_cmpR op_eq (pe_op op_mod (pv 6) pe_int) pe_int (nomark _)) pa_nil))))
   (pss_one (ps_if (PW.pt (pw_and (pt_val (pv 10)) (pw_and1 (pt_cmpR op_isN (pv 7) pe_non (nomark _))))) (pss_one (ps_set (i := 7) scComb.nd rfl (Or.inl rfl) (pv 9)))
    (pss_one (ps_if (PW.pt (pw_and (pt_not (pt_val (pv 10))) (pw_and1 (pt_cmpR op_notN (pv 7) pe_non (nomark _)))))
     (pss_cons (ps_expr (pe_bm PySem.F.plainAttrs_list PySem.F.slot_list_append PySem.F.type_list_append mt_append (pv 8) (pa_cons (pe_tup (pa_cons (pv 7) (pa_cons (pv 9) pa_nil))) pa_nil)))
     (pss_one (ps_set (i := 7) scComb.nd rfl (Or.inl rfl) pe_non))) pss_nil)))), ?_⟩
  intro D n g l T U H1 H' x0 x1 x10 o1 o2 sp i j i' j' stv pv p q N hAt hF hsp hL hpv hpq q0 qn hT hU nT nU ltij lT2 lU2 k
  have fw : ∀ zs, H' sp = some (.lst zs) → zs.length ≤ i' + j' := fun zs e => Nat.le_trans (hL.few zs e) (Nat.le_of_lt ltij)
  have nTl := nT.le
  have nUl := nU.le
  obtain ⟨st, zs, R, hz, hZ, S, hst⟩ := hL.ex
  obtain ⟨n1, n2, n3⟩ := S.next hpq q0 qn hT hU nT nU
  have hAt' : l.At H' := ⟨hL.same _ _ hAt.1, hL.same _ _ hAt.2⟩
  refine ⟨_, rfl, l, 2, spKeep g, rfl, hF, _, rfl, _, _, rfl, rfl, (by show (0 : Int) < 2; decide), rfl, _, rfl, _, _, rfl, rfl, (by show (0 : Int) < 2; decide), rfl, hAt', rfl, _, _, rfl, ?_⟩
  rw [odd_dec, odd_dec]
  refine ⟨_, rfl, _, rfl, ?_⟩
  refine ite2 (fun hk => ?_) (fun hk => ?_)
  ·refine ⟨_, rfl, rfl, _, rfl, ?_⟩
   rcases hst with ⟨rfl, rfl⟩ | ⟨s', rfl, hne, hs'⟩
   ·refine iteY rfl ?_
    exact ⟨_, rfl, k pv _ _ H' ⟨hL.same, fw, _, zs, R, hz, hZ, n1 hk rfl, .inr ⟨q, rfl, FrN.nn hpv, hpv⟩⟩⟩
   ·refine iteN hne ?_
    refine ⟨_, rfl, _, rfl, ?_⟩
    rw [hk]
    refine iteF ?_
    refine iteF ?_
    exact k stv _ _ H' ⟨hL.same, fw, _, zs, R, hz, hZ, n3 hk, .inr ⟨s', rfl, hne, hs'⟩⟩
  ·have hk' : g (decide (i' % 2 = 1)) (decide (j' % 2 = 1)) = false := by
    cases e : g (decide (i' % 2 = 1)) (decide (j' % 2 = 1)) with
    | true => exact absurd e hk
    | false => rfl
   refine iteF ?_
   refine ⟨_, rfl, _, rfl, ?_⟩
   rw [hk']
   refine iteT ?_
   refine ⟨_, rfl, rfl, _, rfl, ?_⟩
   rcases hst with ⟨rfl, rfl⟩ | ⟨s', rfl, hne, hs'⟩
   ·refine iteNS rfl ?_
    exact k .non _ _ H' ⟨hL.same, fw, _, zs, R, hz, hZ, n3 hk', .inl ⟨rfl, rfl⟩⟩
   ·refine iteNN hne ?_
    have lz := hZ.length
    have lR := hL.few zs hz
    have big : 10000 ≤ sizeLine := by decide
    refine ⟨_, rfl, .inl ⟨rfl, _, .of hz⟩, _, rfl, _, rfl, (by show 2 ≤ sizeLine; decide), fun t ht => ?_⟩
    have s1 : Same H' (upd H' t (.tup [stv, pv])) := Same.upd ht
    refine ⟨sp, zs, _, rfl, rfl, s1 _ _ hz, ?_, ?_⟩
    ·omega
    ·have kp : Keep (upd H' t (.tup [stv, pv])) (upd (upd H' t (.tup [stv, pv])) sp (.lst (zs ++ [.ref t]))) := Keep.updL (s1 _ _ hz)
     have kk := (Keep.of s1).trans kp
     refine k .non _ _ _ ⟨fun b o e => ?_, fun zs' e => ?_, none, _, R ++ [(s', q)], upd_same, ?_, n2 s' hk' rfl, .inl ⟨rfl, rfl⟩⟩
     ·rw [upd_ne (ne_of_none e hsp)]
      exact s1 _ _ (hL.same b o e)
     ·rw [upd_same] at e
      cases e
      rw [List.length_append]
      show zs.length + 1 ≤ _
      omega
     ·refine Paired.app (spsK kk hZ) (.cons ⟨t, stv, pv, rfl, kp.sqT (.of upd_same), ?_, ?_⟩ .nil)
      ·exact kk.fr (FrR.same hL.same hs')
      ·exact kk.fr (FrR.same hL.same hpv)
 obtain ⟨t2, h2, r2⟩ : ∃ t, PSs (cxOf CX0 P w K mg base NCb "combined" (defScope s_combined) f cdv A outer s H E).nox (List.drop 2 bComb) t ∧ ∀ (D : Ends) (n : Nat) (g : Bool → Bool → Bool) (l : Lam) (T U : List Int) (us : List V) (H1 H' : Hp) (x0 x1 x10 : Option V) (o1 o2 sp : Addr) (i j i' : Nat) (stv pv : V) (p q : Int), Num n → l.At H1 → FnV P w K mg base 1 l 2 (spKeep g) → SqL K H1 o2 us → Paired (FrN K n H1) us U → U.Pairwise (· < ·) → H1 sp = none →
   LoopC K n g T U H1 H' sp i j stv p → FrN K n H1 pv q → p < q → 0 ≤ q → q ≤ n → (∀ k (hk : k < T.length), i ≤ k → q ≤ T[k]) → (∀ k (hk : k < U.length), j ≤ k → q ≤ U[k]) → Passed T i' q → (T[i]? = some q ∨ U[j]? = some q) → i ≤ i' → (T[i]? = some q → i < i') → T.length ≤ 2000 → U.length ≤ 2000 →
   (∀ (j' : Nat) (stv' : V) (y9 y10 : Option V) (H'' : Hp), LoopC K n g T U H1 H'' sp i' j' stv' q → i + j < i' + j' → D.nx [x0, x1, some (.ref l.f), some (.ref o1), some (.ref o2), some (.int i'), some (.int j'), some stv', some (.ref sp), y9, y10] H'') →
   t D [x0, x1, some (.ref l.f), some (.ref o1), some (.ref o2), some (.int i'), some (.int j), some stv, some (.ref sp), some pv, x10] H' := by
  refine ⟨_, pss_cons (ps_if (PW.pt (pw_and (pt_cmpR op_lt (pv 6) (pe_callB call_len_seq (by rfl) TX.len PySem.boot_len (pa_cons (pv 4) pa_nil)) (nomark _)) (pw_and1 (pt_cmpR (op_eqP rpe_int rpe_int hu) (pe_ix ix_list (pv 4) (pv 6) (fun _ _ => rfl)) (pv 9) (nomark _))))) (pss_one (ps_aug (i := 6) scComb.nd rfl (Or.inl rfl) pe_int ip_add)) pss_nil) h3, ?_⟩
  intro D n g l T U us H1 H' x0 x1 x10 o1 o2 sp i j i' stv pv p q N hAt hF hus hU rU hsp hL hpv pq q0 qn bT bU nT one ii' it lT2 lU2 k
  have lU := hU.length
  refine ⟨_, rfl, _, rfl, o2, _, rfl, .inl (hL.same.seq hus), _, _, rfl, rfl, _, rfl, ?_⟩
  obtain ⟨_, _, _, _, _, S, _⟩ := id hL.ex
  have skip : U[j]? ≠ some q → Passed U j q := fun hne => S.two.skip rU pq fun hj => by
   have := bU j hj (Nat.le_refl _)
   have : U[j] ≠ q := fun z => hne (by rw [List.getElem?_eq_getElem hj, z])
   omega
  refine ite2 (fun h => ?_) (fun h => ?_)
  ·have h' : j < us.length := by
    have : (j : Int) < (us.length : Nat) := of_decide_eq_true h
    omega
   obtain ⟨y, u, hy, hu', hFu⟩ := Paired.get2 hU (i := j) (by omega)
   have hFu' := FrR.same hL.same hFu
   have hpv' := FrR.same hL.same hpv
   refine ⟨_, rfl, _, rfl, o2, _, _, _, rfl, rfl, hL.same.seq hus, atI_nat hy, _, rfl, _, _, hFu', hpv', _, rfl, ?_⟩
   refine ite2 (fun h2 => ?_) (fun h2 => ?_)
   ·have e : u = q := phi_inj N.i (of_decide_eq_true h2)
    subst e
    refine ⟨_, rfl, _, _, rfl, rfl, ?_⟩
    refine r3 D n g l T U H1 H' x0 x1 x10 o1 o2 sp i j i' (j + 1) stv pv p u N hAt hF hsp hL hpv pq q0 qn bT bU nT (S.two.step rU pq (by omega) ?_) (by omega) lT2 lU2 (fun stv' y9 y10 H'' hl => k (j + 1) stv' y9 y10 H'' hl (by omega))
    obtain ⟨z1, z2⟩ := List.getElem?_eq_some_iff.mp hu'
    exact z2
   ·have hne : U[j]? ≠ some q := fun z => by
     rw [hu'] at z
     cases z
     exact h2 (decide_eq_true rfl)
    have := it (one.resolve_right hne)
    exact r3 D n g l T U H1 H' x0 x1 x10 o1 o2 sp i j i' j stv pv p q N hAt hF hsp hL hpv pq q0 qn bT bU nT (skip hne) (by omega) lT2 lU2 (fun stv' y9 y10 H'' hl => k j stv' y9 y10 H'' hl (by omega))
  ·have h' : ¬ j < us.length := fun z => h (decide_eq_true (by omega))
   have hne : U[j]? ≠ some q := fun z => by
    rw [List.getElem?_eq_none (by omega)] at z
    cases z
   have := it (one.resolve_right hne)
   refine iteF ?_
   exact r3 D n g l T U H1 H' x0 x1 x10 o1 o2 sp i j i' j stv pv p q N hAt hF hsp hL hpv pq q0 qn bT bU nT (skip hne) (by omega) lT2 lU2 (fun stv' y9 y10 H'' hl => k j stv' y9 y10 H'' hl (by omega))
 refine ⟨_, pss_cons (ps_set (i := 9) scComb.nd rfl (Or.inl rfl) (pe_cl CN hr2 rfl (pa_cons (pv 3) (pa_cons (pv 5) (pa_cons (pv 4) (pa_cons (pv 6) pa_nil))))))
  (pss_cons (ps_if (PW.pt (pw_and (pt_cmpR op_lt (pv 5) (pe_callB call_len_seq (by rfl) TX.len PySem.boot_len (pa_cons (pv 3) pa_nil)) (nomark _)) (pw_and1 (pt_cmpR (op_eqP rpe_int rpe_int hu) (pe_ix ix_list (pv 3) (pv 5) (fun _ _ => rfl)) (pv 9) (nomark _))))) (pss_one (ps_aug (i := 5) scComb.nd rfl (Or.inl rfl) pe_int ip_add)) pss_nil) h2), ?_⟩
 intro D n g l T U ts us H1 H' x0 x1 x9 x10 o1 o2 sp i j stv p N hAt hF hts hus hT hU bT bU rT rU hsp hL hij lT2 lU2 k
 obtain ⟨st, zs, R, hz, hZ, S, hst⟩ := id hL.ex
 have lT := hT.length
 have kT : Paired (FrN K n H') ts T := Paired.mapP hT fun _ _ z => FrR.same hL.same z
 have kU : Paired (FrN K n H') us U := Paired.mapP hU fun _ _ z => FrR.same hL.same z
 refine ⟨_, rfl, _, rfl, _, rfl, _, rfl, n, o1, o2, i, j, ts, us, T, U, rfl, N, hL.same.seq hts, hL.same.seq hus, kT, kU, bT, bU, S.one.le, S.two.le, hij, fun x q one' mT mU => ?_⟩
 have hx : FrN K n H1 x q := by
  rcases one' with ⟨y, z⟩ | ⟨y, z⟩
  ·obtain ⟨t, e1, e2⟩ := Paired.get1 hT i x y
   rw [z] at e1
   cases e1
   exact e2
  ·obtain ⟨t, e1, e2⟩ := Paired.get1 hU j x y
   rw [z] at e1
   cases e1
   exact e2
 have one : T[i]? = some q ∨ U[j]? = some q := by
  rcases one' with ⟨_, z⟩ | ⟨_, z⟩
  ·exact .inl z
  ·exact .inr z
 have q0 : 0 ≤ q ∧ q ≤ n := by
  rcases one with z | z
  ·exact bT q (List.mem_of_getElem? z)
  ·exact bU q (List.mem_of_getElem? z)
 have upT : ∀ k (hk : k < T.length), i ≤ k → q ≤ T[k] := fun k hk hik => by
  have a := mT T[i] (List.getElem?_eq_getElem (by omega))
  have b := rise_at rT hik (List.getElem?_eq_getElem (by omega)) (List.getElem?_eq_getElem hk)
  omega
 have upU : ∀ k (hk : k < U.length), j ≤ k → q ≤ U[k] := fun k hk hik => by
  have a := mU U[j] (List.getElem?_eq_getElem (by omega))
  have b := rise_at rU hik (List.getElem?_eq_getElem (by omega)) (List.getElem?_eq_getElem hk)
  omega
 have pq : p < q := by
  rcases one with z | z
  ·obtain ⟨z1, z2⟩ := List.getElem?_eq_some_iff.mp z
   have := S.one.new _ z1 (Nat.le_refl _)
   omega
  ·obtain ⟨z1, z2⟩ := List.getElem?_eq_some_iff.mp z
   have := S.two.new _ z1 (Nat.le_refl _)
   omega
 have skip : T[i]? ≠ some q → Passed T i q := fun hne => S.one.skip rT pq fun hj => by
  have := upT i hj (Nat.le_refl _)
  have : T[i] ≠ q := fun z => hne (by rw [List.getElem?_eq_getElem hj, z])
  omega
 refine ⟨_, rfl, _, rfl, o1, _, rfl, .inl (hL.same.seq hts), _, _, rfl, rfl, _, rfl, ?_⟩
 refine ite2 (fun h => ?_) (fun h => ?_)
 ·have h' : i < ts.length := by
   have : (i : Int) < (ts.length : Nat) := of_decide_eq_true h
   omega
  obtain ⟨y, u, hy, hu', hFu⟩ := Paired.get2 hT (i := i) (by omega)
  refine ⟨_, rfl, _, rfl, o1, _, _, _, rfl, rfl, hL.same.seq hts, atI_nat hy, _, rfl, _, _, FrR.same hL.same hFu, FrR.same hL.same hx, _, rfl, ?_⟩
  refine ite2 (fun h2 => ?_) (fun h2 => ?_)
  ·have e : u = q := phi_inj N.i (of_decide_eq_true h2)
   subst e
   refine ⟨_, rfl, _, _, rfl, rfl, ?_⟩
   refine r2 D n g l T U us H1 H' x0 x1 x10 o1 o2 sp i j (i + 1) stv x p u N hAt hF hus hU rU hsp hL hx pq q0.1 q0.2 upT upU (S.one.step rT pq (by omega) ?_) one (by omega) (fun _ => by omega) lT2 lU2 (fun j' stv' y9 y10 H'' hl hlt => k (i + 1) j' stv' u y9 y10 H'' hl hlt)
   obtain ⟨z1, z2⟩ := List.getElem?_eq_some_iff.mp hu'
   exact z2
  ·have hne : T[i]? ≠ some q := fun z => by
    rw [hu'] at z
    cases z
    exact h2 (decide_eq_true rfl)
   exact r2 D n g l T U us H1 H' x0 x1 x10 o1 o2 sp i j i stv x p q N hAt hF hus hU rU hsp hL hx pq q0.1 q0.2 upT upU (skip hne) one (Nat.le_refl _) (fun z => absurd z hne) lT2 lU2 (fun j' stv' y9 y10 H'' hl hlt => k i j' stv' q y9 y10 H'' hl hlt)
 ·have h' : ¬ i < ts.length := fun z => h (decide_eq_true (by omega))
  have hne : T[i]? ≠ some q := fun z => by
   rw [List.getElem?_eq_none (by omega)] at z
   cases z
  refine iteF ?_
  exact r2 D n g l T U us H1 H' x0 x1 x10 o1 o2 sp i j i stv x p q N hAt hF hus hU rU hsp hL hx pq q0.1 q0.2 upT upU (skip hne) one (Nat.le_refl _) (fun z => absurd z hne) lT2 lU2 (fun j' stv' y9 y10 H'' hl hlt => k i j' stv' q y9 y10 H'' hl hlt)
def mu4 (N : Nat) (σ : St) : Nat := match σ with
 | [_, _, _, _, _, some (.int i), some (.int j), _, _, _, _] => N - (i.toNat + j.toNat)
 | _ => 0
theorem ok_comb {f : Addr} {fd : FuncData} (D : DefAt K mg "combined" s_combined ["one", "other", "keeps"] f fd) (CC : Cl P w K mg base "check_piece" 4 ["piece"] (spCheck K)) (CT : Cl P w K mg base "turns" 1 ["piece"] (spTurns K))
  (CN : Cl P w K mg base "nearest" 2 ["ahead", "passed", "other_ahead", "other_passed"] (spNear K)) (TX : Txt K mg aL aR) : FnOk P w K mg base CX0 5 f fd ["one", "other", "keeps"] (spComb P w K mg base) := by
 refine D.fn.ok scComb (fun vs H Q E h => ?_) (fun cdv A outer s H vs Q E hr h => ?_)
 ·obtain ⟨n, p, q, l, L, M, g, rfl, _⟩ := h
  rfl
 ·obtain ⟨n, p, q, l, L, M, g, rfl, N, ⟨xs, hp, hL, gL, fL⟩, ⟨ys, hq, hM, gM, fM⟩, hAt, hF, hg, k⟩ := h
  have hr1 : Room 1 _ := hr.mono (by decide)
  obtain ⟨t1, h1, r1⟩ := bodyC (outer := outer) (s := s) (H := H) (E := E) hr CN TX
  refine ⟨_, pss_cons (ps_expr (pe_cl CC hr rfl (pa_cons (pv 0) pa_nil)))
   (pss_cons (ps_expr (pe_cl CC hr rfl (pa_cons (pv 1) pa_nil)))
   (pss_cons (ps_set (i := 3) scComb.nd rfl (Or.inl rfl) (pe_cl CT hr1 rfl (pa_cons (pv 0) pa_nil)))
   (pss_cons (ps_set (i := 4) scComb.nd rfl (Or.inl rfl) (pe_cl CT hr1 rfl (pa_cons (pv 1) pa_nil)))
   (pss_cons (ps_set (i := 5) scComb.nd rfl (Or.inl rfl) pe_int)
   (pss_cons (ps_set (i := 6) scComb.nd rfl (Or.inl rfl) pe_int)
   (pss_cons (ps_set (i := 7) scComb.nd rfl (Or.inl rfl) pe_non)
   (pss_cons (ps_set (i := 8) scComb.nd rfl (Or.inl rfl) (pe_lst pa_nil))
   (pss_cons (ps_while PassesOwn.never (PW.pt (pw_or (pt_cmpR op_lt (pv 5) (pe_callB call_len_seq (by rfl) TX.len PySem.boot_len (pa_cons (pv 3) pa_nil)) (nomark _)) (pw_or1 (pt_cmpR op_lt (pv 6) (pe_callB call_len_seq (by rfl) TX.len PySem.boot_len (pa_cons (pv 4) pa_nil)) (nomark _))))) h1)
   (pss_one (ps_ret (pv 8))))))))))), ?_⟩
  have tl1 : (turnsL L).length ≤ 2000 := by rw [turns_len]; omega
  have tl2 : (turnsL M).length ≤ 2000 := by rw [turns_len]; omega
  refine ⟨_, rfl, p, xs, n, _, rfl, hp, sps_q N hL, good_pc N gL fL, ?_⟩
  refine ⟨_, rfl, q, ys, n, _, rfl, hq, sps_q N hM, good_pc N gM fM, ?_⟩
  refine ⟨_, rfl, n, p, xs, L, rfl, N, hp, hL, gL, fL, fun o1 ts Ha sa o1n ho1 hT => ?_⟩
  refine ⟨_, rfl, n, q, ys, M, rfl, N, sa.seq hq, Paired.mapP hM fun _ _ z => SpN.same sa z, gM, fM, fun o2 us Hb sb o2n ho2 hU => ?_⟩
  refine ⟨Nat.zero_le _, fun sp hsp => ?_⟩
  have sab := sa.trans sb
  have rT := turns_rise gL.win gL.apart
  have rU := turns_rise gM.win gM.apart
  have bd : ∀ {L : List (Int × Int)}, Good n L → ∀ t ∈ turnsL L, 0 ≤ t ∧ t ≤ (n : Int) := fun gL t ht => by
   obtain ⟨r, hr, e⟩ := turns_mem ht
   have := gL.win r hr
   omega
  have hT' : Paired (FrN K n Hb) ts (turnsL L) := Paired.mapP hT fun _ _ z => FrR.same sab z
  have hU' : Paired (FrN K n Hb) us (turnsL M) := Paired.mapP hU fun _ _ z => FrR.same sb z
  have lT := hT.length
  have lU := hU.length
  have hAtb : l.At Hb := ⟨sab _ _ hAt.1, sab _ _ hAt.2⟩
  refine while_by (fun σ H' => ∃ (i j : Nat) (stv : V) (pt : Int) (x9 x10 : Option V), σ = [some (.ref p), some (.ref q), some (.ref l.f), some (.ref o1), some (.ref o2), some (.int i), some (.int j), some stv, some (.ref sp), x9, x10] ∧ LoopC K n g (turnsL L) (turnsL M) Hb H' sp i j stv pt)
   (fun σ _ => mu4 ((turnsL L).length + (turnsL M).length) σ)
   ⟨0, 0, .non, -1, _, _, rfl, Same.upd hsp, (fun zs e => by rw [upd_same] at e; cases e; exact Nat.zero_le _), none, [], [], upd_same, .nil, Sweep.start hg (fun t ht => (bd gL t ht).1) (fun t ht => (bd gM t ht).1), .inl ⟨rfl, rfl⟩⟩ ?_ ?_
  ·rintro σ H' ⟨i, j, stv, pt, x9, x10, rfl, hLp⟩
   obtain ⟨st, zs, R, hz, hZ, S, hst⟩ := id hLp.ex
   have le1 := S.one.le
   have le2 := S.two.le
   refine ⟨_, rfl, _, rfl, o1, _, rfl, .inl (.of (hLp.same _ _ (sb _ _ ho1))), _, _, rfl, rfl, _, rfl, ?_⟩
   refine ite2 (fun h => ?_) (fun h => ?_)
   ·have h' : (i : Int) < (ts.length : Nat) := of_decide_eq_true h
    refine iteT ?_
    refine r1 _ n g l (turnsL L) (turnsL M) ts us Hb H' _ _ _ _ o1 o2 sp i j stv pt N hAtb hF (.of (sb _ _ ho1)) (.of ho2) hT' hU' (bd gL) (bd gM) rT rU hsp hLp (.inl (by omega)) tl1 tl2 fun i' j' stv' p' y9 y10 H'' hl hlt => ⟨⟨i', j', stv', p', _, _, rfl, hl⟩, ?_⟩
    obtain ⟨_, _, _, _, _, S', _⟩ := hl.ex
    have := S'.one.le
    have := S'.two.le
    show (turnsL L).length + (turnsL M).length - ((i' : Int).toNat + (j' : Int).toNat) < (turnsL L).length + (turnsL M).length - ((i : Int).toNat + (j : Int).toNat)
    omega
   ·have h' : ¬ (i : Int) < (ts.length : Nat) := fun z => h (decide_eq_true z)
    refine ⟨_, rfl, _, rfl, o2, _, rfl, .inl (.of (hLp.same _ _ ho2)), _, _, rfl, rfl, _, rfl, ?_⟩
    refine ite2 (fun h2 => ?_) (fun h2 => ?_)
    ·have h2' : (j : Int) < (us.length : Nat) := of_decide_eq_true h2
     refine r1 _ n g l (turnsL L) (turnsL M) ts us Hb H' _ _ _ _ o1 o2 sp i j stv pt N hAtb hF (.of (sb _ _ ho1)) (.of ho2) hT' hU' (bd gL) (bd gM) rT rU hsp hLp (.inr (by omega)) tl1 tl2 fun i' j' stv' p' y9 y10 H'' hl hlt => ⟨⟨i', j', stv', p', _, _, rfl, hl⟩, ?_⟩
     obtain ⟨_, _, _, _, _, S', _⟩ := hl.ex
     have := S'.one.le
     have := S'.two.le
     show (turnsL L).length + (turnsL M).length - ((i' : Int).toNat + (j' : Int).toNat) < (turnsL L).length + (turnsL M).length - ((i : Int).toNat + (j : Int).toNat)
     omega
    ·have h2' : ¬ (j : Int) < (us.length : Nat) := fun z => h2 (decide_eq_true z)
     have ei : i = (turnsL L).length := by omega
     have ej : j = (turnsL M).length := by omega
     subst ei
     subst ej
     obtain ⟨w1, w2, w3⟩ := S.fin hg gL.win gM.win gL.apart gM.apart
     exact ⟨_, rfl, k sp zs R H' (sab.trans hLp.same) (sab.free hsp) hz hZ ⟨w1, w2⟩ w3⟩
  ·rintro σ H Q Q' hq ⟨v, e, u, e2, a, ys, e3, hs, i, j, e4, e5, z, e6, q⟩
   refine ⟨v, e, u, e2, a, ys, e3, hs, i, j, e4, e5, z, e6, ?_⟩
   cases z with
   | true => exact hq _ _ q
   | false =>
    obtain ⟨v, e, u, e2, a, ys, e3, hs, i, j, e4, e5, z, e6, q⟩ := q
    exact ⟨v, e, u, e2, a, ys, e3, hs, i, j, e4, e5, z, e6, hq _ _ q⟩
end
end FQ
namespace FQ
open PySem L2 FK
theorem pcBut {K : PySem.W.Frag} {n : Nat} {P a : Addr} {H H' : Hp} {ps : Array Value} {L : List (Int × Int)} (h : But P H H') (hP : H P = some (.tbl ps)) (hx : PcN K n H a L) : PcN K n H' a L := by
 obtain ⟨xs, h1, h2, h3⟩ := hx
 refine ⟨xs, ?_, spsK (fun b o e _ n => h b o e (ne_of e hP (n ps))) h2, h3⟩
 rcases h1 with (z | ⟨o, z⟩) | z
 ·exact .inl (.inl (h _ _ z (ne_of z hP fun z => nomatch z)))
 ·exact .inl (.inr ⟨o, h _ _ z (ne_of z hP fun z => nomatch z)⟩)
 ·exact .inr z
def lamPos2 (st : Stmt) : Pos := match defBody st with
 | [.Return (some (.Call _ [_, _, .Lambda _ _ _ p] _ _)) _] => p
 | _ => ⟨0, 0, 0, 0⟩
def lamScope2 (st : Stmt) : Scope := match defBody st with
 | [.Return (some (.Call _ [_, _, .Lambda _ _ sc _] _ _)) _] => sc
 | _ => { kind := .function, names := [], isGenerator := false, isCoroutine := false }
def lamArgs2 (st : Stmt) : Arguments := match defBody st with
 | [.Return (some (.Call _ [_, _, .Lambda as _ _ _] _ _)) _] => as
 | _ => defArgs (.Pass ⟨0, 0, 0, 0⟩)
def lamBody2 (st : Stmt) : Expr := match defBody st with
 | [.Return (some (.Call _ [_, _, .Lambda _ b _ _] _ _)) _] => b
 | _ => .Constant .none 0 ⟨0, 0, 0, 0⟩
def spPair (K : PySem.W.Frag) (P : Addr) (pos : Pos) (qual : Str) (g : Bool → Bool → Bool) : Sp := fun vs H Q _ => ∃ (n : Nat) (p q : Addr) (L M : List (Int × Int)), vs = [.ref p, .ref q] ∧ Num n ∧ PcN K n H p L ∧ PcN K n H q M ∧ Ready P pos qual H ∧
 ∀ (r : Addr) (zs : List V) (R : List (Int × Int)) (H' : Hp), But P H H' → H r = none → H' r = some (.lst zs) → Paired (SpN K n H') zs R → Good n R → Holds n g L M R → Ready P pos qual H' → Q (.ref r) H'
theorem lam_new {H : Hp} {P c f : Addr} {ps ps' : Array Value} {o1 o2 : HO} (hP : H P = some (.tbl ps)) (hc : H c = none) (hf : H f = none) : But P H (upd (upd (upd H P (.tbl ps')) c o1) f o2) := fun b o e n => by
 rw [upd_ne (ne_of_none e hf), upd_ne (ne_of_none e hc), upd_ne n]
 exact e
theorem scJoined : FnScope ["one", "other"] ["one", "other"] (defScope s_joined) := ⟨rfl, rfl, rfl, by decide +kernel, rfl, by decide +kernel, by decide +kernel⟩
theorem scLJoined : FnScope ["in_one", "in_other"] ["in_one", "in_other"] (lamScope2 s_joined) := ⟨rfl, rfl, rfl, by decide +kernel, rfl, by decide +kernel, by decide +kernel⟩
theorem ok_joined {P : Program} {w : World} {K : PySem.W.Frag} {mg : Str → Option Value} {base : Heap} {f c Pt : Addr} {fd : FuncData} (D : DefAt K mg "joined" s_joined ["one", "other"] f fd) (hcd : fd.code = .ref c) (C : PySem.W.CodeHd base c Pt) (bm : BM mg base)
  (CB : Cl P w K mg base "combined" 5 ["one", "other", "keeps"] (spComb P w K mg base)) : FnOk P w K mg base CX0 6 f fd ["one", "other"] (spPair K Pt (lamPos2 s_joined) (lq "joined") (fun a b => a || b)) := by
 refine D.fn.okC hcd scJoined (fun vs H Q E h => ?_) (fun A outer s H vs Q E hr h => ?_)
 ·obtain ⟨n, p, q, L, M, rfl, _⟩ := h
  rfl
 ·obtain ⟨n, p, q, L, M, rfl, N, hp, hq, ⟨ps, hP, ht, hc⟩, k⟩ := h
  refine ⟨_, pss_one (ps_ret (pe_cl CB hr rfl (pa_cons (pv 0) (pa_cons (pv 1) (pa_cons (pe_lam (c := c) (P := Pt) rfl C bm rfl) pa_nil))))), ?_⟩
  refine ⟨_, rfl, _, rfl, ps, hP, ht, ?_⟩
  have fnv : ∀ (f' c' : Addr) (pm ctv : Value), FnV P w K mg base 1 ⟨f', c', lq "joined", lamArgs2 s_joined, lamBody2 s_joined, lamScope2 s_joined, pm, ctv⟩ 2 (spKeep fun a b => a || b) := fun f' c' pm ctv => by
   refine lam_fnV (k := 0) (N := ["in_one", "in_other"]) (ps := ["in_one", "in_other"]) scLJoined (fun us hl => ?hb) (fun A outer s H vs Q hr ⟨a, b, e, q⟩ => ?_)
   case hb => exact match us, hl with | [_, _], _ => rfl
   subst e
   refine ⟨_, pe_or (pv 0) (pe_one (pv 1)), ?_⟩
   refine ⟨_, rfl, a, rfl, ?_⟩
   cases a with
   | true => exact iteT q
   | false => exact iteF ⟨_, rfl, q⟩
  rcases hc with hc | ⟨c', hc1, hc2⟩
  ·refine .inl ⟨hc, fun c' f' pm ctv hc' hf' hne => ?_⟩
   have bt := lam_new (ps' := ps ++ #[rawInt (lamPos2 s_joined).line, rawInt (lamPos2 s_joined).col, .ref c']) (o1 := CodeO c' (lq "joined")) (o2 := LamO f' (lq "joined") (lamArgs2 s_joined) (lamBody2 s_joined) (lamScope2 s_joined) c' pm ctv) hP hc' hf'
   have nPc : Pt ≠ c' := ne_of_none hP hc'
   have nPf : Pt ≠ f' := ne_of_none hP hf'
   refine ⟨n, p, q, ⟨f', c', lq "joined", lamArgs2 s_joined, lamBody2 s_joined, lamScope2 s_joined, pm, ctv⟩, L, M, _, rfl, N, pcBut bt hP hp, pcBut bt hP hq, ⟨upd_same, ?_⟩, fnv f' c' pm ctv, rfl, fun r zs R H' s1 hr hz hZ hG hh => ?_⟩
   ·show (upd (upd _ _ _) f' _) c' = _
    rw [upd_ne (Ne.symm hne)]
    exact upd_same
   ·refine k r zs R H' (fun b o e n => s1 _ _ (bt b o e n)) ?_ hz hZ hG hh ⟨ps ++ #[rawInt (lamPos2 s_joined).line, rawInt (lamPos2 s_joined).col, .ref c'], s1 _ _ ?_, ?_, .inr ⟨c', ?_, s1 _ _ ?_⟩⟩
    ·cases e : H r with
     | none => rfl
     | some o =>
      by_cases z : r = Pt
      ·subst z
       exact nomatch (((upd_ne nPf).trans ((upd_ne nPc).trans upd_same)).symm.trans hr)
      ·exact nomatch (bt r o e z).symm.trans hr
    ·rw [upd_ne nPf, upd_ne nPc]
     exact upd_same
    ·rw [Array.toList_append]
     exact triples_snoc _ ht
    ·rw [Array.toList_append]
     exact codeAmong_snoc _ ht hc
    ·rw [upd_ne (Ne.symm hne)]
     exact upd_same
  ·refine .inr ⟨c', hc1, hc2, fun f' pm ctv hf' => ?_⟩
   have s0 := Same.upd (o := LamO f' (lq "joined") (lamArgs2 s_joined) (lamBody2 s_joined) (lamScope2 s_joined) c' pm ctv) hf'
   refine ⟨n, p, q, ⟨f', c', lq "joined", lamArgs2 s_joined, lamBody2 s_joined, lamScope2 s_joined, pm, ctv⟩, L, M, _, rfl, N, hp.same s0, hq.same s0, ⟨upd_same, s0 _ _ hc2⟩, fnv f' c' pm ctv, rfl, fun r zs R H' s1 hr hz hZ hG hh => ?_⟩
   have s2 := s0.trans s1
   exact k r zs R H' (fun b o e _ => s2 _ _ e) (s0.free hr) hz hZ hG hh ⟨ps, s2 _ _ hP, ht, .inr ⟨c', hc1, s2 _ _ hc2⟩⟩
end FQ
namespace FQ
open PySem L2 FK
def spThirds (K : PySem.W.Frag) (C : Addr) : Sp := fun vs H Q _ => ∃ (x lt ll : Addr) (z : V) (p : Nat) (S : Steps) (a b : Rat) (D : Nat), vs = [.ref x, z] ∧ TasteAt K C H x lt ll S ∧ TsOk p S ∧ CoQ K H z (a, b) ∧ (0 ≤ a ∧ a < b ∧ b ≤ 1) ∧ (0 < D ∧ D ≤ 8000000 ^ 8 ∧ Gr D a ∧ Gr D b) ∧
 ∀ (l : Addr) (v1 v2 v3 : V) (H' : Hp), Same H H' → H l = none → H' l = some (.lst [v1, v2, v3]) → CoQ K H' v1 (a, mw S a b 1 3) → CoQ K H' v2 (mw S a b 1 3, mw S a b 2 3) → CoQ K H' v3 (mw S a b 2 3, b) → Q (.ref l) H'
section
variable {P : Program} {w : World} {K : PySem.W.Frag} {mg : Str → Option Value} {base : Heap} {aL aR C : Addr}
theorem scThirds : FnScope ["taste", "span", "first", "second"] ["taste", "span"] (defScope s_in_thirds) := ⟨rfl, rfl, rfl, by decide +kernel, rfl, by decide +kernel, by decide +kernel⟩
theorem ok_thirds {f : Addr} {fd : FuncData} (D : DefAt K mg "in_thirds" s_in_thirds ["taste", "span"] f fd) (CM : Cl P w K mg base "mark_within" 10 ["taste", "span", "part"] (spMW K C)) : FnOk P w K mg base CX0 11 f fd ["taste", "span"] (spThirds K C) := by
 refine D.fn.ok scThirds (fun vs H Q E h => ?_) (fun cdv A outer s H vs Q E hr h => ?_)
 ·obtain ⟨x, lt, ll, z, p, S, a, b, D, rfl, _⟩ := h
  rfl
 ·obtain ⟨x, lt, ll, z, p, S, a, b, Dg, rfl, ta, ok, hz, lim, gr, k⟩ := h
  refine ⟨_, pss_cons (ps_set (i := 2) scThirds.nd rfl (Or.inl rfl) (pe_cl CM hr rfl (pa_cons (pv 0) (pa_cons (pv 1) (pa_cons (pe_tup (pa_cons pe_int (pa_cons pe_int pa_nil))) pa_nil)))))
   (pss_cons (ps_set (i := 3) scThirds.nd rfl (Or.inl rfl) (pe_cl CM hr rfl (pa_cons (pv 0) (pa_cons (pv 1) (pa_cons (pe_tup (pa_cons pe_int (pa_cons pe_int pa_nil))) pa_nil)))))
   (pss_one (ps_ret (pe_lst (pa_cons (pe_tup (pa_cons (pe_ix ix_tup (pv 1) pe_int (fun _ _ => rfl)) (pa_cons (pv 2) pa_nil))) (pa_cons (pe_tup (pa_cons (pv 2) (pa_cons (pv 3) pa_nil))) (pa_cons (pe_tup (pa_cons (pv 3) (pa_cons (pe_ix ix_tup (pv 1) pe_int (fun _ _ => rfl)) pa_nil))) pa_nil))))))), ?_⟩
  refine ⟨_, rfl, _, rfl, (by show 2 ≤ sizeLine; decide), fun t1 ht1 => ?_⟩
  have s1 := Same.upd (o := .tup [.int 1, .int 3]) ht1
  have q1 : FrQ K (upd H t1 (.tup [.int 1, .int 3])) (.ref t1) (((1 : Nat) : Rat) / ((3 : Nat) : Rat)) := .of sqT_new (by decide +kernel) (by decide +kernel)
  refine ⟨x, lt, ll, z, .ref t1, p, S, a, b, 1, 3, Dg, rfl, ta.same s1, ok, CoQ.same s1 hz, q1, lim, ⟨by decide, by decide, by decide⟩, gr, fun v1 H2 s2 d1 => ?_⟩
  have s12 := s1.trans s2
  refine ⟨_, rfl, _, rfl, (by show 2 ≤ sizeLine; decide), fun t2 ht2 => ?_⟩
  have s3 := Same.upd (o := .tup [.int 2, .int 3]) ht2
  have s13 := s12.trans s3
  have q2 : FrQ K (upd H2 t2 (.tup [.int 2, .int 3])) (.ref t2) (((2 : Nat) : Rat) / ((3 : Nat) : Rat)) := .of sqT_new (by decide +kernel) (by decide +kernel)
  refine ⟨x, lt, ll, z, .ref t2, p, S, a, b, 2, 3, Dg, rfl, ta.same s13, ok, CoQ.same s13 hz, q2, lim, ⟨by decide, by decide, by decide⟩, gr, fun v2 H4 s4 d2 => ?_⟩
  have s14 := s13.trans s4
  obtain ⟨pz, za, zb, rfl, hpz, fa, fb⟩ := CoQ.same s14 hz
  refine ⟨_, rfl, pz, _, _, _, rfl, rfl, hpz, rfl, _, rfl, (by show 2 ≤ sizeLine; decide), fun u1 hu1 => ?_⟩
  have w1 := Same.upd (o := .tup [za, v1]) hu1
  refine ⟨_, rfl, _, rfl, (by show 2 ≤ sizeLine; decide), fun u2 hu2 => ?_⟩
  have w2 := Same.upd (o := .tup [v1, v2]) hu2
  have w12 := w1.trans w2
  refine ⟨_, rfl, _, rfl, pz, _, _, _, rfl, rfl, w12.sqT hpz, rfl, (by show 2 ≤ sizeLine; decide), fun u3 hu3 => ?_⟩
  have w3 := Same.upd (o := .tup [v2, zb]) hu3
  refine ⟨(by show 3 ≤ sizeLine; decide), fun l hl => ?_⟩
  have w4 := Same.upd (o := .lst [.ref u1, .ref u2, .ref u3]) hl
  have w14 := w12.trans (w3.trans w4)
  have d1' := d1.same (s3.trans (s4.trans w14))
  have d2' := d2.same w14
  exact k l _ _ _ _ (s14.trans w14) ((s14.trans (w12.trans w3)).free hl) upd_same ⟨u1, za, v1, rfl, (w2.trans (w3.trans w4)).sqT sqT_new, fa.same w14, d1'⟩ ⟨u2, v1, v2, rfl, (w3.trans w4).sqT sqT_new, d1', d2'⟩ ⟨u3, v2, zb, rfl, w4.sqT sqT_new, d2', fb.same w14⟩
end
end FQ
namespace FQ
open PySem L2 FK
theorem _root_.FK.SpAt.pc {D : Nat} {q : Rat × Rat} (dk : DOk D) (h : SpAt D q) : PcOk D [q] :=
 ⟨dk, fun p hp => by rw [List.mem_singleton.mp hp]; exact ⟨h.x0, h.lt, h.y1⟩, List.pairwise_singleton .., fun p hp => by rw [List.mem_singleton.mp hp]; exact ⟨h.g1, h.g2⟩, by show 1 ≤ 1000; decide⟩
theorem _root_.FK.SpAt.fit {p D : Nat} {S : Steps} {q : Rat × Rat} (ok : TsOk p S) (dk : DOk D) (h : SpAt D q) : Fit (wd S q) := by
 have wf := (Wo_fit ok (h.pc dk) 1).1
 rw [List.take_of_length_le (by show 1 ≤ 1; decide), Wo_wd] at wf
 exact wf
theorem lex_le {qs : List Rat} {a b : Int} (h : Lex qs b a) : qs.getD b.toNat 0 ≤ qs.getD a.toNat 0 := by
 rcases h with z | ⟨z, _⟩
 ·exact Rat.le_of_lt z
 ·rw [z]
  exact Rat.le_refl
theorem ord_one {qs : List Rat} {ord : List Int} (op : ord.Perm ((List.range qs.length).map fun i : Nat => (i : Int))) (ow : ord.Pairwise fun a b => Lex qs b a) (h0 : 0 < qs.length) :
  ∃ (i : Nat) (r : List Int), ord = (i : Int) :: r ∧ i < qs.length ∧ r.length + 1 = qs.length ∧ ∀ k, k < qs.length → qs.getD k 0 ≤ qs.getD i 0 := by
 have le := op.length_eq
 rw [List.length_map, List.length_range] at le
 cases ord with
 | nil => simp at le; omega
 | cons x r =>
  obtain ⟨i, hi, e⟩ := List.mem_map.mp (op.mem_iff.mp (List.mem_cons_self ..))
  have hi' := List.mem_range.mp hi
  subst e
  refine ⟨i, r, rfl, hi', le, fun k hk => ?_⟩
  have hm := op.mem_iff.mpr (List.mem_map.mpr ⟨k, List.mem_range.mpr hk, rfl⟩)
  rcases List.mem_cons.mp hm with z | z
  ·have : k = i := by omega
   subst this
   exact Rat.le_refl
  ·have := lex_le ((List.pairwise_cons.mp ow).1 _ z)
   rw [Int.toNat_natCast, Int.toNat_natCast] at this
   exact this
theorem ord_two {qs : List Rat} {ord : List Int} (op : ord.Perm ((List.range qs.length).map fun i : Nat => (i : Int))) (ow : ord.Pairwise fun a b => Lex qs b a) (h2 : 2 ≤ qs.length) :
  ∃ (i j : Nat) (r : List Int), ord = (i : Int) :: (j : Int) :: r ∧ i < qs.length ∧ j < qs.length ∧ i ≠ j ∧ qs.getD j 0 ≤ qs.getD i 0 ∧ ∀ k, k < qs.length → k ≠ i → qs.getD k 0 ≤ qs.getD j 0 := by
 have nd : ord.Nodup := op.nodup_iff.mpr (show List.Pairwise (· ≠ ·) _ from List.pairwise_map.mpr (List.nodup_range.imp fun h e => h (by omega)))
 obtain ⟨i, r, rfl, hi, lr, mi⟩ := ord_one op ow (by omega)
 cases r with
 | nil => simp at lr; omega
 | cons y r =>
  obtain ⟨j, hj, e⟩ := List.mem_map.mp (op.mem_iff.mp (List.mem_cons_of_mem _ (List.mem_cons_self ..)))
  have hj' := List.mem_range.mp hj
  subst e
  have ne : i ≠ j := fun z => (List.nodup_cons.mp nd).1 (by rw [z]; exact List.mem_cons_self ..)
  refine ⟨i, j, r, rfl, hi, hj', ne, mi j hj', fun k hk ki => ?_⟩
  have hm := op.mem_iff.mpr (List.mem_map.mpr ⟨k, List.mem_range.mpr hk, rfl⟩)
  rcases List.mem_cons.mp hm with z | z
  ·omega
  ·rcases List.mem_cons.mp z with z | z
   ·have : k = j := by omega
    subst this
    exact Rat.le_refl
   ·have := lex_le ((List.pairwise_cons.mp (List.pairwise_cons.mp ow).2).1 _ z)
    rw [Int.toNat_natCast, Int.toNat_natCast] at this
    exact this
theorem getD_wd {S : Steps} {L : List (Rat × Rat)} {i : Nat} {q : Rat × Rat} (h : L[i]? = some q) : (L.map (wd S)).getD i 0 = wd S q := by
 rw [List.getD_eq_getElem?_getD, List.getElem?_map, h]
 rfl
theorem wd_le_of {S : Steps} {L : List (Rat × Rat)} {i : Nat} {q : Rat × Rat} (h : L[i]? = some q) (m : ∀ k, k < (L.map (wd S)).length → (L.map (wd S)).getD k 0 ≤ (L.map (wd S)).getD i 0) : ∀ z ∈ L, wd S z ≤ wd S q := fun z hz => by
 obtain ⟨k, hk⟩ := List.mem_iff_getElem?.mp hz
 have := m k (by rw [List.length_map]; exact (List.getElem?_eq_some_iff.mp hk).1)
 rw [getD_wd hk, getD_wd h] at this
 exact this
theorem mem_eraseIdx_at {α : Type} {L : List α} {i : Nat} {z : α} (h : z ∈ L.eraseIdx i) : ∃ k, k ≠ i ∧ L[k]? = some z := by
 obtain ⟨j, hj⟩ := List.mem_iff_getElem?.mp h
 rw [List.getElem?_eraseIdx] at hj
 by_cases c : j < i
 ·rw [if_pos c] at hj
  exact ⟨j, by omega, hj⟩
 ·rw [if_neg c] at hj
  exact ⟨j + 1, by omega, hj⟩
theorem mem_of_eraseIdx {α : Type} {L : List α} {i k : Nat} {z : α} (ki : k ≠ i) (h : L[k]? = some z) : z ∈ L.eraseIdx i := by
 rcases Nat.lt_or_gt_of_ne ki with c | c
 ·refine List.mem_of_getElem? (i := k) ?_
  rw [List.getElem?_eraseIdx, if_pos c]
  exact h
 ·refine List.mem_of_getElem? (i := k - 1) ?_
  rw [List.getElem?_eraseIdx, if_neg (by omega), show k - 1 + 1 = k by omega]
  exact h
def spDear (K : PySem.W.Frag) (C Pt : Addr) : Sp := fun vs H Q _ => ∃ (x lt ll l : Addr) (xs : List V) (p D : Nat) (S : Steps) (L : List (Rat × Rat)), vs = [.ref x, .ref l] ∧ TasteAt K C H x lt ll S ∧ TsOk p S ∧ SqL K H l xs ∧ Paired (CoQ K H) xs L ∧ DOk D ∧ (∀ q ∈ L, SpAt D q) ∧ L.length ≤ 3 ∧ Rdy Pt H ∧
 ∀ (r : Addr) (ord : List Int) (H' : Hp), To Pt H H' → H r = none → H' r = some (.lst (ord.map V.int)) → ord.Perm ((List.range (L.map (wd S)).length).map fun i : Nat => (i : Int)) → ord.Pairwise (fun a b => Lex (L.map (wd S)) b a) → Q (.ref r) H'
def spTake (K : PySem.W.Frag) (C Pt : Addr) : Sp := fun vs H Q _ => ∃ (x lt ll l : Addr) (xs : List V) (p D : Nat) (S : Steps) (L : List (Rat × Rat)), vs = [.ref x, .ref l] ∧ TasteAt K C H x lt ll S ∧ TsOk p S ∧ H l = some (.lst xs) ∧ Paired (CoQ K H) xs L ∧ DOk D ∧ (∀ q ∈ L, SpAt D q) ∧ 0 < L.length ∧ L.length ≤ 3 ∧ Rdy Pt H ∧
 ∀ (i : Nat) (v : V) (q : Rat × Rat) (H1 : Hp), To Pt H H1 → xs[i]? = some v → L[i]? = some q → (∀ z ∈ L, wd S z ≤ wd S q) → Q v (upd H1 l (.lst (xs.eraseIdx i)))
structure TrimAt (S : Steps) (D : Nat) (L : List (Rat × Rat)) (i : Nat) (a : Rat × Rat) (m : Rat) : Prop where
 at_ : L[i]? = some a
 lt : a.1 < m
 le : m ≤ a.2
 as : ∃ b ∈ L.eraseIdx i, wd S b = wd S (a.1, m)
 max : ∀ z ∈ L.eraseIdx i, wd S z ≤ wd S (a.1, m)
 g : ∃ w : Nat, 0 < w ∧ w ≤ 1000000 ∧ Gr (D * w) m
def spTrim (K : PySem.W.Frag) (C Pt : Addr) : Sp := fun vs H Q _ => ∃ (x lt ll l : Addr) (xs : List V) (p D : Nat) (S : Steps) (L : List (Rat × Rat)), vs = [.ref x, .ref l] ∧ TasteAt K C H x lt ll S ∧ TsOk p S ∧ SqL K H l xs ∧ Paired (CoQ K H) xs L ∧ (0 < D ∧ D ≤ 8000000 ^ 8) ∧ (∀ q ∈ L, SpAt D q) ∧ 2 ≤ L.length ∧ L.length ≤ 3 ∧ Rdy Pt H ∧
 ∀ (i : Nat) (a : Rat × Rat) (m : Rat) (t : Addr) (sv rv : V) (H' : Hp), To Pt H H' → TrimAt S D L i a m → SqT K H' t [.int i, sv, rv] → CoQ K H' sv (a.1, m) → ((rv = .non ∧ m = a.2) ∨ (m < a.2 ∧ CoQ K H' rv (m, a.2))) → Q (.ref t) H'
section
variable {P : Program} {w : World} {K : PySem.W.Frag} {mg : Str → Option Value} {base : Heap} {aL aR C Pt : Addr}
abbrev NDr : List Str := ["taste", "spans", "order"]
theorem scDear : FnScope NDr ["taste", "spans"] (defScope s_dearest) := ⟨rfl, rfl, rfl, by decide +kernel, rfl, by decide +kernel, by decide +kernel⟩
theorem ok_dearest {f : Addr} {fd : FuncData} (D : DefAt K mg "dearest" s_dearest ["taste", "spans"] f fd) (CR : Cl P w K mg base "ranked" 5 ["those"] (spRanked K Pt)) (MW : Ml P w K mg base C "worth" 9 ["self", "piece"] (spWorth K C)) (T : Txt K mg aL aR) (TC : TxtC K C) :
  FnOk P w K mg base CX0 10 f fd ["taste", "spans"] (spDear K C Pt) := by
 refine D.fn.ok scDear (fun vs H Q E h => ?_) (fun cdv A outer s H vs Q E hr h => ?_)
 ·obtain ⟨x, lt, ll, l, xs, p, D, S, L, rfl, _⟩ := h
  rfl
 ·obtain ⟨x, lt, ll, l, xs, p, Dg, S, L, rfl, ta, ok, hl, pL, dk, sp, l3, rd, k⟩ := h
  have hr5 : Room 5 _ := hr.mono (by decide)
  have big : 1000 ≤ sizeLine := by decide
  have lL := pL.length
  refine ⟨_, pss_cons (ps_set (i := 2) scDear.nd rfl (Or.inl rfl) (pe_cl CR hr5 rfl (pa_cons (pe_comp ["span"] rfl (CompOk.free1 (F := ["taste"]) (js := [0]) rfl (by decide +kernel) (by decide +kernel) rfl ⟨rfl, trivial⟩ rfl ⟨⟨rfl, rfl, .inl rfl⟩, trivial⟩) (pi_list (pv 1))
    (fun _ => pg_name (i := 0) (show [Str.ofString "span", Str.ofString "taste"].Nodup by decide +kernel) rfl (Or.inl rfl)) (fun _ => pifs_nil) (fun _ => pe_ml MW TC.cl hr (pv 1) (pa_cons (pe_lst (pa_cons (pv 0) pa_nil)) pa_nil))) pa_nil)))
   (pss_one (ps_ret (pe_lrev rfl rfl T.list rfl T.reversed (pa_cons (pv 2) pa_nil)))), ?_⟩
  refine ⟨_, rfl, l, rfl, ⟨_, hl⟩, fun D1 hD1 => ?_⟩
  refine comp_list (K := K) (a := l) (D := D1) (xs := xs) (fun j ys σ H2 => Same H H2 ∧ H2 D1 = some (.lst ys) ∧ Paired (FrQ K H2) ys ((L.map (wd S)).take j) ∧ ys.length ≤ j ∧ ∃ x0, σ = [x0, some (.ref x)])
   (by omega) ⟨Same.upd hD1, upd_same, .nil, Nat.le_refl _, _, rfl⟩ ?_ ?_ ?_
  ·rintro j ys σ H2 _ ⟨u1, u2, u3, u4, _⟩
   exact ⟨u1.seq hl, u2, u4⟩
  ·rintro j y ys σ H2 hy ⟨u1, u2, u3, u4, x0, rfl⟩ cc
   obtain ⟨q, hq, hco⟩ := Paired.get1 pL j y hy
   have so := sp q (List.mem_of_getElem? hq)
   have ta2 := ta.same u1
   obtain ⟨dx, hx⟩ := ta2.ins
   refine ⟨_, rfl, x, dx, _, rfl, hx, rfl, _, rfl, (by show 1 ≤ sizeLine; decide), fun l1 hl1 => ?_⟩
   have s1 := Same.upd (o := .lst [y]) hl1
   refine ⟨x, lt, ll, l1, _, p, Dg, S, [q], rfl, ta2.same s1, ok, sqL_new, .cons (CoQ.same s1 (CoQ.same u1 hco)) .nil, so.pc dk, fun v7 H7 s7 d7 => ?_⟩
   rw [Wo_wd] at d7
   have s17 := s1.trans s7
   have u27 := s17 _ _ u2
   have k1 := Keep.updL (o := .lst (ys ++ [v7])) u27
   refine ⟨u27, (u1.trans s17).updN hD1, upd_same, ?_, by rw [List.length_append]; exact Nat.add_le_add_right u4 1, _, rfl⟩
   have e1 : (L.map (wd S))[j]? = some (wd S q) := by rw [List.getElem?_map, hq]; rfl
   rw [take_snoc e1]
   exact Paired.app (Paired.mapP u3 fun _ _ z => FrQ.keep k1 (FrQ.same s17 z)) (.cons (FrQ.keep k1 d7) .nil)
  ·rintro ys σ H2 ⟨u1, u2, u3, u4, _⟩
   rw [List.take_of_length_le (by rw [List.length_map]; omega)] at u3
   have to2 : To Pt H H2 := .of rd u1
   refine ⟨D1, ys, L.map (wd S), rfl, .of u2, u3, fun q hq => ?_, by rw [List.length_map]; omega, to2.rdy, fun lo ord H3 to3 hlo hord op ow => ?_⟩
   ·obtain ⟨z, hz, rfl⟩ := List.mem_map.mp hq
    exact (sp z hz).fit ok dk
   ·refine ⟨_, rfl, lo, _, rfl, .of hord, fun r hr' => ?_⟩
    have to13 := to2.trans to3
    have s4 := Same.upd (o := .lst (ord.map V.int).reverse) hr'
    exact k r ord.reverse _ (to13.to s4) (to13.free hr') (by rw [List.map_reverse]; exact upd_same) ((List.reverse_perm ord).trans op) (List.pairwise_reverse.mpr ow)
theorem scTake : FnScope ["taste", "spans"] ["taste", "spans"] (defScope s_take_dearest) := ⟨rfl, rfl, rfl, by decide +kernel, rfl, by decide +kernel, by decide +kernel⟩
theorem ok_take {f : Addr} {fd : FuncData} (D : DefAt K mg "take_dearest" s_take_dearest ["taste", "spans"] f fd) (CD : Cl P w K mg base "dearest" 10 ["taste", "spans"] (spDear K C Pt)) : FnOk P w K mg base CX0 11 f fd ["taste", "spans"] (spTake K C Pt) := by
 refine D.fn.ok scTake (fun vs H Q E h => ?_) (fun cdv A outer s H vs Q E hr h => ?_)
 ·obtain ⟨x, lt, ll, l, xs, p, D, S, L, rfl, _⟩ := h
  rfl
 ·obtain ⟨x, lt, ll, l, xs, p, Dg, S, L, rfl, ta, ok, hl, pL, dk, sp, l0, l3, rd, k⟩ := h
  refine ⟨_, pss_one (ps_ret (pe_bm PySem.F.plainAttrs_list PySem.F.slot_list_pop PySem.F.type_list_pop mt_popAt (pv 1) (pa_cons (pe_ix ix_list (pe_cl CD hr rfl (pa_cons (pv 0) (pa_cons (pv 1) pa_nil))) pe_int (fun _ _ => rfl)) pa_nil))), ?_⟩
  have lL := pL.length
  refine ⟨_, rfl, .inl ⟨rfl, _, .of hl⟩, _, rfl, _, rfl, x, lt, ll, l, xs, p, Dg, S, L, rfl, ta, ok, .of hl, pL, dk, sp, l3, rd, fun r ord H1 to1 hr0 hord op ow => ?_⟩
  obtain ⟨i, rr, rfl, hi, _, mi⟩ := ord_one op ow (by rw [List.length_map]; exact l0)
  rw [List.length_map] at hi
  refine ⟨r, _, _, _, rfl, rfl, .of hord, at_first, ?_⟩
  obtain ⟨v, hv⟩ : ∃ v, xs[i]? = some v := ⟨_, List.getElem?_eq_getElem (by omega)⟩
  obtain ⟨q, hq, _⟩ := Paired.get1 pL i v hv
  refine ⟨l, xs, i, i, v, rfl, rfl, to1.lst hl, by omega, by omega, ?_, hv, k i v q H1 to1 hv hq (wd_le_of hq mi)⟩
  exact (seqIndex_of (by omega) (by omega)).trans (by rw [Int.toNat_natCast])
abbrev NTr : List Str := ["taste", "spans", "order", "span", "point", "rest"]
theorem scTrim : FnScope NTr ["taste", "spans"] (defScope s_trimmed) := ⟨rfl, rfl, rfl, by decide +kernel, rfl, by decide +kernel, by decide +kernel⟩
theorem ok_trim {f : Addr} {fd : FuncData} (D : DefAt K mg "trimmed" s_trimmed ["taste", "spans"] f fd) (CD : Cl P w K mg base "dearest" 10 ["taste", "spans"] (spDear K C Pt)) (MM : Ml P w K mg base C "mark" 8 ["self", "start", "share"] (spMark K C)) (MW : Ml P w K mg base C "worth" 9 ["self", "piece"] (spWorth K C)) (TC : TxtC K C) :
  FnOk P w K mg base CX0 11 f fd ["taste", "spans"] (spTrim K C Pt) := by
 refine D.fn.ok scTrim (fun vs H Q E h => ?_) (fun cdv A outer s H vs Q E hr h => ?_)
 ·obtain ⟨x, lt, ll, l, xs, p, D, S, L, rfl, _⟩ := h
  rfl
 ·obtain ⟨x, lt, ll, l, xs, p, Dg, S, L, rfl, ta, ok, hl, pL, ⟨d0, d8⟩, sp, l2, l3, rd, k⟩ := h
  have hr8 : Room 8 _ := hr.mono (by decide)
  have hr9 : Room 9 _ := hr.mono (by decide)
  have hu : _ + (0 + 1) < cLine := hu_of hr
  have dk : DOk Dg := ⟨d0, Nat.lt_of_le_of_lt d8 (by decide)⟩
  have lL := pL.length
  refine ⟨_, pss_cons (ps_set (i := 2) scTrim.nd rfl (Or.inl rfl) (pe_cl CD hr rfl (pa_cons (pv 0) (pa_cons (pv 1) pa_nil))))
   (pss_cons (ps_set (i := 3) scTrim.nd rfl (Or.inl rfl) (pe_ix ix_list (pv 1) (pe_ix ix_list (pv 2) pe_int (fun _ _ => rfl)) (fun _ _ => rfl)))
   (pss_cons (ps_set (i := 4) scTrim.nd rfl (Or.inl rfl) (pe_ml MM TC.cl hr8 (pv 0) (pa_cons (pe_ix ix_tup (pv 3) pe_int (fun _ _ => rfl)) (pa_cons (pe_ml MW TC.cl hr9 (pv 0) (pa_cons (pe_lst (pa_cons (pe_ix ix_list (pv 1) (pe_ix ix_list (pv 2) pe_int (fun _ _ => rfl)) (fun _ _ => rfl)) pa_nil)) pa_nil)) pa_nil))))
   (pss_cons (ps_set (i := 5) scTrim.nd rfl (Or.inl rfl) (pe_ifExp (pt_cmpR (op_eqP rpe_int rpe_int hu) (pv 4) (pe_ix ix_tup (pv 3) pe_int (fun _ _ => rfl)) (nomark _)) pe_non (pe_tup (pa_cons (pv 4) (pa_cons (pe_ix ix_tup (pv 3) pe_int (fun _ _ => rfl)) pa_nil)))))
   (pss_one (ps_ret (pe_tup (pa_cons (pe_ix ix_list (pv 2) pe_int (fun _ _ => rfl)) (pa_cons (pe_tup (pa_cons (pe_ix ix_tup (pv 3) pe_int (fun _ _ => rfl)) (pa_cons (pv 4) pa_nil))) (pa_cons (pv 5) pa_nil))))))))), ?_⟩
  refine ⟨_, rfl, _, rfl, x, lt, ll, l, xs, p, Dg, S, L, rfl, ta, ok, hl, pL, dk, sp, l3, rd, fun r ord H1 to1 hr0 hord op ow => ?_⟩
  obtain ⟨i, j, rr, rfl, hi, hj, ne, le, mx⟩ := ord_two op ow (by rw [List.length_map]; exact l2)
  rw [List.length_map] at hi hj
  obtain ⟨vi, hvi⟩ : ∃ v, xs[i]? = some v := ⟨_, List.getElem?_eq_getElem (by omega)⟩
  obtain ⟨vj, hvj⟩ : ∃ v, xs[j]? = some v := ⟨_, List.getElem?_eq_getElem (by omega)⟩
  obtain ⟨a, ha, ca⟩ := Paired.get1 pL i vi hvi
  obtain ⟨b, hb, cb⟩ := Paired.get1 pL j vj hvj
  rw [getD_wd ha, getD_wd hb] at le
  have sa := sp a (List.mem_of_getElem? ha)
  have sb := sp b (List.mem_of_getElem? hb)
  obtain ⟨e1, e2, e3, e4, e5, e6, wg, w0, w1, gm⟩ := trim_facts ok sa.x0 sa.lt sa.y1 sb.x0 sb.lt sb.y1 le sa.g1 sb.g1 sb.g2
  have hl1 := to1.sqL hl
  have a1 : atI ((((i : Int) :: (j : Int) :: rr).map V.int)) 1 = some (V.int j) := atI_nat (j := 1) rfl
  refine ⟨_, rfl, _, rfl, r, _, _, _, rfl, rfl, .of hord, at_first, l, _, _, _, rfl, rfl, hl1, atI_nat hvi, ?_⟩
  obtain ⟨pz, za, zb, rfl, hpz, fa, fb⟩ := CoQ.keep to1.keep ca
  have ta1 := ta.tb to1
  obtain ⟨dx, hx⟩ := ta1.ins
  refine ⟨_, rfl, x, dx, _, rfl, hx, rfl, _, rfl, pz, _, _, _, rfl, rfl, hpz, rfl, _, rfl, x, dx, _, rfl, hx, rfl, _, rfl, _, rfl, r, _, _, _, rfl, rfl, .of hord, a1, l, _, _, _, rfl, rfl, hl1, atI_nat hvj, (by show 1 ≤ sizeLine; decide), fun l2 hl2 => ?_⟩
  have s2 := Same.upd (o := .lst [vj]) hl2
  refine ⟨x, lt, ll, l2, _, p, Dg, S, [b], rfl, ta1.same s2, ok, sqL_new, .cons (CoQ.same s2 (CoQ.keep to1.keep cb)) .nil, sb.pc dk, fun v3 H3 s3 d3 => ?_⟩
  rw [Wo_wd] at d3
  have s23 := s2.trans s3
  have fita : Fit (F S a.1) := Bd.fit (F_dbd ok dk sa.g1 (by have := sa.lt; have := sa.y1; grind)) (F_nn ok a.1) (by decide)
  have ftm : Ft 250 (F S a.1 + wd S b) := by
   obtain ⟨N, n0, n1, hN⟩ := ok.num
   have few := ok.few
   have gs : Gr (Dg * N) (F S a.1 + wd S b) := Gr.add (F_gr ok hN sa.g1) (Gr.sub (F_gr ok hN sb.g2) (F_gr ok hN sb.g1))
   have l1' : Dg * N ≤ 8000000 ^ 8 * 1000000 := Nat.mul_le_mul d8 (by omega)
   have dk2 : DOk (Dg * N) := ⟨Nat.mul_pos d0 n0, Nat.lt_of_le_of_lt l1' (by decide)⟩
   have f0 := F_nn ok a.1
   exact ⟨by grind, dk2.bd gs (by grind) e6⟩
  refine ⟨x, lt, ll, za, v3, p, S, a.1, wd S b, rfl, ta1.same s23, ok, fa.same s23, d3, ⟨sa.x0, by have := sa.lt; have := sa.y1; grind, dk.bd sa.g1 sa.x0 (by have := sa.lt; have := sa.y1; grind)⟩, fita, sb.fit ok dk, ftm, fun v4 H4 s4 d4 => ?_⟩
  rw [e1] at d4
  have d4' : FrQ K H4 v4 (mk S a.1 (wd S b)) := d4
  have s24 := s23.trans s4
  have to4 := to1.to s24
  have hpz4 := s24.sqT hpz
  have fb4 := fb.same s24
  have fa4 := fa.same s24
  have hord4 := s24 _ _ hord
  have wdm : wd S (a.1, mk S a.1 (wd S b)) = wd S b := by
   show F S (mk S a.1 (wd S b)) - F S a.1 = wd S b
   rw [e4]
   grind
  have tr : TrimAt S Dg L i a (mk S a.1 (wd S b)) := ⟨ha, e2, e3, ⟨b, mem_of_eraseIdx ne.symm hb, wdm.symm⟩, fun z hz => by
   obtain ⟨kk, kn, hk⟩ := mem_eraseIdx_at hz
   have := mx kk (by rw [List.length_map]; exact (List.getElem?_eq_some_iff.mp hk).1) kn
   rw [getD_wd hk, getD_wd hb] at this
   rw [wdm]
   exact this, wg, w0, w1, gm⟩
  refine ⟨_, rfl, _, rfl, pz, _, _, _, rfl, rfl, hpz4, rfl, _, _, d4', fb4, _, rfl, ?_⟩
  refine ite2 (fun c => ?_) (fun c => ?_)
  ·have c' : mk S a.1 (wd S b) = a.2 := fr_inj (of_decide_eq_true c)
   refine ⟨_, rfl, r, _, _, _, rfl, rfl, .of hord4, at_first, _, rfl, pz, _, _, _, rfl, rfl, hpz4, rfl, _, rfl, (by show 2 ≤ sizeLine; decide), fun t5 ht5 => ?_⟩
   have s5 := Same.upd (o := .tup [za, v4]) ht5
   refine ⟨_, rfl, (by show 3 ≤ sizeLine; decide), fun t6 ht6 => ?_⟩
   have s6 := Same.upd (o := .tup [.int i, .ref t5, .non]) ht6
   exact k i a _ t6 (.ref t5) .non _ (to4.to (s5.trans s6)) tr sqT_new ⟨t5, za, v4, rfl, s6.sqT sqT_new, fa4.same (s5.trans s6), d4'.same (s5.trans s6)⟩ (.inl ⟨rfl, c'⟩)
  ·have c' : mk S a.1 (wd S b) < a.2 := by
    have : ¬ mk S a.1 (wd S b) = a.2 := fun z => c (decide_eq_true (by rw [z]))
    grind
   refine ⟨_, rfl, _, rfl, pz, _, _, _, rfl, rfl, hpz4, rfl, (by show 2 ≤ sizeLine; decide), fun t4 ht4 => ?_⟩
   have s45 := Same.upd (o := .tup [v4, zb]) ht4
   refine ⟨_, rfl, r, _, _, _, rfl, rfl, .of (s45 _ _ hord4), at_first, _, rfl, pz, _, _, _, rfl, rfl, s45.sqT hpz4, rfl, _, rfl, (by show 2 ≤ sizeLine; decide), fun t5 ht5 => ?_⟩
   have s5 := Same.upd (o := .tup [za, v4]) ht5
   refine ⟨_, rfl, (by show 3 ≤ sizeLine; decide), fun t6 ht6 => ?_⟩
   have s6 := Same.upd (o := .tup [.int i, .ref t5, .ref t4]) ht6
   have s56 := s5.trans s6
   have s46 := s45.trans s56
   exact k i a _ t6 (.ref t5) (.ref t4) _ (to4.to s46) tr sqT_new ⟨t5, za, v4, rfl, s6.sqT sqT_new, fa4.same s46, d4'.same s46⟩ (.inr ⟨c', t4, v4, zb, rfl, s56.sqT sqT_new, d4'.same s46, fb4.same s46⟩)
end
end FQ
namespace FQ
open PySem L2 FK
def jnN (p q : Int × Int) : List (Int × Int) := if p.2 < q.1 then [p, q] else if p.2 = q.1 then [(p.1, q.2)] else if q.2 < p.1 then [q, p] else [(q.1, p.2)]
theorem jnN_good {n : Nat} {p q : Int × Int} (hp : 0 ≤ p.1 ∧ p.1 < p.2 ∧ p.2 ≤ n) (hq : 0 ≤ q.1 ∧ q.1 < q.2 ∧ q.2 ≤ n) (ap : p.2 ≤ q.1 ∨ q.2 ≤ p.1) : Good n (jnN p q) := by
 have two : ∀ {u v : Int × Int}, (0 ≤ u.1 ∧ u.1 < u.2 ∧ u.2 ≤ n) → (0 ≤ v.1 ∧ v.1 < v.2 ∧ v.2 ≤ n) → u.2 < v.1 → Good n [u, v] := fun hu hv c => by
  refine ⟨fun z hz => ?_, List.pairwise_cons.mpr ⟨fun z hz => ?_, List.pairwise_singleton ..⟩⟩
  ·rcases List.mem_cons.mp hz with e | e
   ·rw [e]; exact hu
   ·rw [List.mem_singleton.mp e]; exact hv
  ·rw [List.mem_singleton.mp hz]; exact c
 have one : ∀ {u : Int × Int}, (0 ≤ u.1 ∧ u.1 < u.2 ∧ u.2 ≤ n) → Good n [u] := fun hu => ⟨fun z hz => by rw [List.mem_singleton.mp hz]; exact hu, List.pairwise_singleton ..⟩
 unfold jnN
 by_cases c1 : p.2 < q.1
 ·rw [if_pos c1]
  exact two hp hq c1
 ·rw [if_neg c1]
  by_cases c2 : p.2 = q.1
  ·rw [if_pos c2]
   exact one ⟨hp.1, by show p.1 < q.2; omega, hq.2.2⟩
  ·rw [if_neg c2]
   by_cases c3 : q.2 < p.1
   ·rw [if_pos c3]
    exact two hq hp c3
   ·rw [if_neg c3]
    exact one ⟨hq.1, by show q.1 < p.2; omega, hp.2.2⟩
theorem jnN_cnt {p q : Int × Int} (hp : p.1 < p.2) (hq : q.1 < q.2) (ap : p.2 ≤ q.1 ∨ q.2 ≤ p.1) (c : Int) : cnt c (jnN p q) = (if p.1 ≤ c ∧ c < p.2 then 1 else 0) + (if q.1 ≤ c ∧ c < q.2 then 1 else 0) := by
 have two : ∀ u v : Int × Int, cnt c [u, v] = (if u.1 ≤ c ∧ c < u.2 then 1 else 0) + (if v.1 ≤ c ∧ c < v.2 then 1 else 0) := fun u v => by
  rw [show [u, v] = [u] ++ [v] from rfl, cnt_append, cnt_one, cnt_one]
 unfold jnN
 by_cases c1 : p.2 < q.1
 ·rw [if_pos c1]
  exact two p q
 ·rw [if_neg c1]
  by_cases c2 : p.2 = q.1
  ·rw [if_pos c2, cnt_one]
   dsimp only
   (repeat' split) <;> omega
  ·rw [if_neg c2]
   by_cases c3 : q.2 < p.1
   ·rw [if_pos c3, two, Nat.add_comm]
   ·rw [if_neg c3, cnt_one]
    dsimp only
    (repeat' split) <;> omega
theorem jnN_eq {n : Nat} {p q : Int × Int} (hp : 0 ≤ p.1 ∧ p.1 < p.2 ∧ p.2 ≤ n) (hq : 0 ≤ q.1 ∧ q.1 < q.2 ∧ q.2 ≤ n) (ap : p.2 ≤ q.1 ∨ q.2 ≤ p.1) {R : List (Int × Int)} (g : Good n R) (h : Holds n (fun a b => a || b) [p] [q] R) : R = jnN p q := by
 have g2 := jnN_good hp hq ap
 refine canon g.win g2.win g.apart g2.apart fun c hc => ?_
 rw [h c hc, jnN_cnt hp.2.1 hq.2.1 ap, cnt_one, cnt_one]
 by_cases a : p.1 ≤ (c : Int) ∧ (c : Int) < p.2
 ·have b : ¬ (q.1 ≤ (c : Int) ∧ (c : Int) < q.2) := by omega
  rw [if_pos a, if_neg b]
  rfl
 ·rw [if_neg a]
  by_cases b : q.1 ≤ (c : Int) ∧ (c : Int) < q.2
  ·rw [if_pos b]
   rfl
  ·rw [if_neg b]
   rfl
theorem jnN_map {n : Nat} (N : Num n) (p q : Int × Int) : (jnN p q).map (nq n) = jn (nq n p) (nq n q) := by
 have c1 : p.2 < q.1 ↔ (nq n p).2 < (nq n q).1 := (tq_lt N).symm
 have c3 : q.2 < p.1 ↔ (nq n q).2 < (nq n p).1 := (tq_lt N).symm
 have c2 : p.2 = q.1 ↔ (nq n p).2 = (nq n q).1 := ⟨fun e => by show tq n p.2 = tq n q.1; rw [e], fun e => by
  have e' : tq n p.2 = tq n q.1 := e
  rcases Int.lt_trichotomy p.2 q.1 with z | z | z
  ·have := (tq_lt N).mpr z
   grind
  ·exact z
  ·have := (tq_lt N).mpr z
   grind⟩
 unfold jnN jn
 by_cases a : p.2 < q.1
 ·rw [if_pos a, if_pos (c1.mp a)]
  rfl
 ·rw [if_neg a, if_neg fun z => a (c1.mpr z)]
  by_cases b : p.2 = q.1
  ·rw [if_pos b, if_pos (c2.mp b)]
   rfl
  ·rw [if_neg b, if_neg fun z => b (c2.mpr z)]
   by_cases c : q.2 < p.1
   ·rw [if_pos c, if_pos (c3.mp c)]
    rfl
   ·rw [if_neg c, if_neg fun z => c (c3.mpr z)]
    rfl
theorem tq_zero {n : Nat} (N : Num n) : tq n 0 = 0 := by
 unfold tq
 rw [show ((0 : Int) : Rat) = 0 from rfl]
 grind
theorem grid_at {n : Nat} (N : Num n) {x : Rat} (g : Gr n x) : ∃ s : Int, tq n s = x := by
 obtain ⟨s, hs⟩ := g
 have := nat_pos N.pos
 refine ⟨s, ?_⟩
 unfold tq
 rw [← hs, Rat.intCast_natCast]
 grind
theorem FrN.of {K : PySem.W.Frag} {n : Nat} {H : Hp} {v : V} {t : Int} {x : Rat} (N : Num n) (e : tq n t = x) (h : FrQ K H v x) : FrN K n H v t := by
 show FrR K H v (phi n t)
 rw [phi_fr N, e]
 exact h
theorem span_at {n : Nat} (N : Num n) {q : Rat × Rat} (h : SpAt n q) : ∃ p : Int × Int, nq n p = q ∧ 0 ≤ p.1 ∧ p.1 < p.2 ∧ p.2 ≤ n := by
 obtain ⟨s, hs⟩ := grid_at N h.g1
 obtain ⟨e, he⟩ := grid_at N h.g2
 refine ⟨(s, e), ?_, ?_, ?_, ?_⟩
 ·show (tq n s, tq n e) = q
  rw [hs, he]
 ·have k := h.x0
  rw [← hs] at k
  rcases Int.lt_or_le s 0 with z | z
  ·have := (tq_lt N).mpr z
   rw [tq_zero N] at this
   grind
  ·exact z
 ·exact (tq_lt N).mp (by rw [hs, he]; exact h.lt)
 ·have k := h.y1
  rw [← he] at k
  rcases Int.lt_or_le (n : Int) e with z | z
  ·have := (tq_lt N).mpr z
   rw [tq_one N] at this
   grind
  ·exact z
theorem tq_le_of {n : Nat} (N : Num n) {s t : Int} (h : tq n s ≤ tq n t) : s ≤ t := by
 rcases Int.lt_or_le t s with z | z
 ·have := (tq_lt N).mpr z
  grind
 ·exact z
abbrev RdW (P : Addr) (H : Hp) : Prop := Ready P (lamPos2 s_joined) (lq "joined") H
theorem co_n {K : PySem.W.Frag} {n : Nat} {H : Hp} {v : V} {q : Rat × Rat} {p : Int × Int} (N : Num n) (e : nq n p = q) (h : CoQ K H v q) : SpN K n H v p := by
 obtain ⟨pz, za, zb, rfl, hpz, fa, fb⟩ := h
 subst e
 exact ⟨pz, za, zb, rfl, hpz, FrN.of N rfl fa, FrN.of N rfl fb⟩
theorem join_use {K : PySem.W.Frag} {Pw : Addr} {H : Hp} {Q : VK} {E : XK} {l1 l2 : Addr} {v1 v2 : V} {D : Nat} {b q : Rat × Rat} (dk : DOk D) (sb : SpAt D b) (sq : SpAt D q) (ap : b.2 ≤ q.1 ∨ q.2 ≤ b.1) (h1 : SqL K H l1 [v1]) (h2 : SqL K H l2 [v2]) (c1 : CoQ K H v1 b) (c2 : CoQ K H v2 q) (rd : RdW Pw H)
  (k : ∀ (r : Addr) (zs : List V) (H' : Hp), But Pw H H' → H r = none → H' r = some (.lst zs) → Paired (CoQ K H') zs (jn b q) → PcOk D (jn b q) → RdW Pw H' → Q (.ref r) H') : spPair K Pw (lamPos2 s_joined) (lq "joined") (fun a b => a || b) [.ref l1, .ref l2] H Q E := by
 have N : Num D := ⟨dk.pos, dk.few⟩
 obtain ⟨pb, eb, hb⟩ := span_at N sb
 obtain ⟨pq, eq, hq⟩ := span_at N sq
 have ap' : pb.2 ≤ pq.1 ∨ pq.2 ≤ pb.1 := by
  rcases ap with z | z
  ·rw [← eb, ← eq] at z
   exact .inl (tq_le_of N z)
  ·rw [← eb, ← eq] at z
   exact .inr (tq_le_of N z)
 have one : ∀ {u : Int × Int}, (0 ≤ u.1 ∧ u.1 < u.2 ∧ u.2 ≤ D) → Good D [u] := fun hu => ⟨fun z hz => by rw [List.mem_singleton.mp hz]; exact hu, List.pairwise_singleton ..⟩
 refine ⟨D, l1, l2, [pb], [pq], rfl, N, ⟨_, h1, .cons (co_n N eb c1) .nil, one hb, by show 1 ≤ 1000; decide⟩, ⟨_, h2, .cons (co_n N eq c2) .nil, one hq, by show 1 ≤ 1000; decide⟩, rd, fun r zs R H' bt hr hz hZ hG ho rw' => ?_⟩
 have eR := jnN_eq hb hq ap' hG ho
 subst eR
 have pR := sps_q N hZ
 have pc := good_pc N hG (by have := jn_len b q; rw [← eb, ← eq, ← jnN_map N, List.length_map] at this; omega)
 rw [jnN_map N, eb, eq] at pR pc
 exact k r zs H' bt hr hz pR pc rw'
theorem ready_but {P P' : Addr} {H H' : Hp} {ps : Array Value} {pos : Pos} {qual : Str} (h : But P H H') (hP : H P = some (.tbl ps)) (hne : P' ≠ P) (r : Ready P' pos qual H) : Ready P' pos qual H' := by
 obtain ⟨qs, h1, h2, h3⟩ := r
 refine ⟨qs, h _ _ h1 hne, h2, ?_⟩
 rcases h3 with h3 | ⟨c, e1, e2⟩
 ·exact .inl h3
 ·exact .inr ⟨c, e1, h _ _ e2 (ne_of e2 hP fun z => nomatch z)⟩
structure TT (Pt Pw : Addr) (H H' : Hp) : Prop where
 but : ∀ b o, H b = some o → b ≠ Pt → b ≠ Pw → H' b = some o
 old : Rdy Pt H
 oldw : RdW Pw H
 rdy : Rdy Pt H'
 rdyw : RdW Pw H'
section
variable {K : PySem.W.Frag} {C Pt Pw : Addr} {H H' H2 : Hp}
theorem TT.trans (h : TT Pt Pw H H') (g : TT Pt Pw H' H2) : TT Pt Pw H H2 := ⟨fun b o e n m => g.but b o (h.but b o e n m) n m, h.old, h.oldw, g.rdy, g.rdyw⟩
theorem TT.of (a : Rdy Pt H) (b : RdW Pw H) (s : Same H H') : TT Pt Pw H H' := ⟨fun _ _ e _ _ => s _ _ e, a, b, ready_same a s, ready_same b s⟩
theorem TT.to (h : TT Pt Pw H H') (s : Same H' H2) : TT Pt Pw H H2 := h.trans (.of h.rdy h.rdyw s)
theorem TT.tb (b : RdW Pw H) (ne : Pw ≠ Pt) (s : To Pt H H') : TT Pt Pw H H' := by
 obtain ⟨ps, hP, _⟩ := id s.old
 exact ⟨fun c o e n _ => s.but c o e n, s.old, b, s.rdy, ready_but s.but hP ne b⟩
theorem TT.tw (a : Rdy Pt H) (b : RdW Pw H) (ne : Pw ≠ Pt) (s : But Pw H H') (c : RdW Pw H') : TT Pt Pw H H' := by
 obtain ⟨ps, hP, _⟩ := id b
 exact ⟨fun c o e _ n => s c o e n, a, b, ready_but s hP ne.symm a, c⟩
theorem TT.get (h : TT Pt Pw H H') {b : Addr} {o : HO} (e : H b = some o) (n : ∀ ps, o ≠ .tbl ps) : H' b = some o := by
 obtain ⟨ps, hP, _⟩ := h.old
 obtain ⟨qs, hQ, _⟩ := h.oldw
 exact h.but b o e (ne_of e hP (n ps)) (ne_of e hQ (n qs))
theorem TT.keep (h : TT Pt Pw H H') : Keep H H' := fun _ _ e _ n => h.get e n
theorem TT.lst (h : TT Pt Pw H H') {b : Addr} {xs : List V} (e : H b = some (.lst xs)) : H' b = some (.lst xs) := h.get e fun _ z => nomatch z
theorem TT.sqL (h : TT Pt Pw H H') {b : Addr} {xs : List V} (hx : SqL K H b xs) : SqL K H' b xs := by
 rcases hx with (z | ⟨o, z⟩) | z
 ·exact .inl (.inl (h.lst z))
 ·exact .inl (.inr ⟨o, h.get z fun _ z => nomatch z⟩)
 ·exact .inr z
theorem TT.free (h : TT Pt Pw H H') {b : Addr} (e : H' b = none) : H b = none := by
 cases z : H b with
 | none => rfl
 | some o =>
  by_cases p : b = Pt
  ·subst p
   obtain ⟨ps, hP, _⟩ := h.rdy
   rw [hP] at e
   cases e
  ·by_cases q : b = Pw
   ·subst q
    obtain ⟨ps, hP, _⟩ := h.rdyw
    rw [hP] at e
    cases e
   ·rw [h.but b o z p q] at e
    cases e
theorem TasteAt.tt {x lt ll : Addr} {S : Steps} (s : TT Pt Pw H H') (h : TasteAt K C H x lt ll S) : TasteAt K C H' x lt ll S := by
 obtain ⟨⟨dx, h1⟩, ⟨ts, h2, h3⟩, ⟨ls, h4, h5⟩⟩ := h
 exact ⟨⟨dx, s.get h1 fun _ z => nomatch z⟩, ⟨ts, s.lst h2, Paired.mapP h3 fun _ _ z => StQ.keep s.keep z⟩, ⟨ls, s.lst h4, Paired.mapP h5 fun _ _ z => CoQ.keep s.keep z⟩⟩
theorem TasteS.tt {x : V} {S : Steps} (s : TT Pt Pw H H') (h : TasteS K C H x S) : TasteS K C H' x S := by
 obtain ⟨t, lt, ll, p, e, h1, ok⟩ := h
 exact ⟨t, lt, ll, p, e, h1.tt s, ok⟩
theorem ready_upd {P : Addr} {pos : Pos} {qual : Str} {b : Addr} {ys zs : List V} (nc : H b = some (.lst ys)) (r : Ready P pos qual H) : Ready P pos qual (upd H b (.lst zs)) := by
 obtain ⟨ps, h1, h2, h3⟩ := r
 refine ⟨ps, by rw [upd_ne (ne_of h1 nc fun z => nomatch z)]; exact h1, h2, ?_⟩
 rcases h3 with h3 | ⟨c, e1, e2⟩
 ·exact .inl h3
 ·exact .inr ⟨c, e1, by rw [upd_ne (ne_of e2 nc fun z => nomatch z)]; exact e2⟩
theorem TT.updL (h : TT Pt Pw H H') {b : Addr} {ys zs : List V} (n : H b = none) (nc : H' b = some (.lst ys)) : TT Pt Pw H (upd H' b (.lst zs)) :=
 ⟨fun d u e n1 n2 => by rw [upd_ne (ne_of_none e n)]; exact h.but d u e n1 n2, h.old, h.oldw, ready_upd nc h.rdy, ready_upd nc h.rdyw⟩
end
abbrev it3 (K : PySem.W.Frag) (a : Addr) (xs : List V) (D : Ends) : St → Hp → Prop := fun σ H => SqL K H a xs ∧ D.nx σ H
abbrev itN (K : PySem.W.Frag) (a : Addr) (xs : List V) (g : TG) (tb : TS) (D : Ends) (v : V) (N : St → Hp → Prop) : St → Hp → Prop := fun σ H => SqL K H a xs ∧ g v σ H fun σ2 H2 => tb { D with nx := N, ct := N, bk := D.nx } σ2 H2
theorem for_three {K : PySem.W.Frag} {a : Addr} {x y z : V} {g : TG} {tb : TS} {D : Ends} {σ : St} {H : Hp} (h : itN K a [x, y, z] g tb D x (itN K a [x, y, z] g tb D y (itN K a [x, y, z] g tb D z (it3 K a [x, y, z] D))) σ H) :
  ∃ W : Nat → Nat → St → Hp → Prop, (∃ m, W 0 m σ H) ∧ ∀ i m σ H, W i m σ H →
   ((Itl K a).stop i H ∧ D.nx σ H) ∨ ((Itl K a).go i H ∧ ∃ N : St → Hp → Prop, (∀ σ' H', N σ' H' → ∃ m', m' < m ∧ W (i + 1) m' σ' H') ∧ ∀ x H', (Itl K a).yld i H x H' → g x σ H' fun σ2 H2 => tb { D with nx := N, ct := N, bk := D.nx } σ2 H2) := by
 refine for_list (K := K) (a := a) (xs := [x, y, z]) (fun i => match i with
  | 0 => itN K a [x, y, z] g tb D x (itN K a [x, y, z] g tb D y (itN K a [x, y, z] g tb D z (it3 K a [x, y, z] D)))
  | 1 => itN K a [x, y, z] g tb D y (itN K a [x, y, z] g tb D z (it3 K a [x, y, z] D))
  | 2 => itN K a [x, y, z] g tb D z (it3 K a [x, y, z] D)
  | _ => it3 K a [x, y, z] D) h ?_ ?_ ?_
 ·intro i σ H _ p
  match i, p with
  | 0, p => exact p.1
  | 1, p => exact p.1
  | 2, p => exact p.1
  | n + 3, p => exact p.1
 ·intro i v σ H hv p
  match i, hv, p with
  | 0, hv, p =>
   cases (show x = v by simpa using hv)
   exact p.2
  | 1, hv, p =>
   cases (show y = v by simpa using hv)
   exact p.2
  | 2, hv, p =>
   cases (show z = v by simpa using hv)
   exact p.2
  | n + 3, hv, p => simp at hv
 ·intro σ H p
  exact p.2
end FQ
namespace FK
theorem cons_eraseIdx {α : Type} : ∀ {L : List α} {i : Nat} {x : α}, L[i]? = some x → (x :: L.eraseIdx i).Perm L
 | [], _, _, h => by simp at h
 | y :: L, 0, x, h => by
  have : y = x := by simpa using h
  rw [this]
  exact List.Perm.refl _
 | y :: L, i + 1, x, h => by
  have h' : L[i]? = some x := by simpa using h
  exact (List.Perm.swap ..).trans ((cons_eraseIdx h').cons y)
structure Thr (S : Steps) (D : Nat) (r : Rat × Rat) (s t : Rat) (D' : Nat) : Prop where
 lo : r.1 < s
 st : s < t
 hi : t < r.2
 e1 : wd S (r.1, s) = wd S r / 3
 e2 : wd S (s, t) = wd S r / 3
 e3 : wd S (t, r.2) = wd S r / 3
 w : ∃ v : Nat, 0 < v ∧ v ≤ 8000000 ^ 2 ∧ D' = D * v
 gs : Gr D' s
 gt : Gr D' t
theorem thr_of {p D : Nat} {S : Steps} (ok : TsOk p S) {r : Rat × Rat} (d0 : 0 < D) (h : SpAt D r) : ∃ D', Thr S D r (mw S r.1 r.2 1 3) (mw S r.1 r.2 2 3) D' := by
 obtain ⟨_, a1, a2, a3, _⟩ := mw_facts ok h.x0 h.lt h.y1 (h := 1) (m := 3) (by decide) (by decide) (by decide) d0 h.g1 h.g2
 obtain ⟨_, b1, b2, b3, _⟩ := mw_facts ok h.x0 h.lt h.y1 (h := 2) (m := 3) (by decide) (by decide) (by decide) d0 h.g1 h.g2
 obtain ⟨w1, p1, q1, g1⟩ := mw_grid ok h.x0 h.lt h.y1 (h := 1) (m := 3) (by decide) (by decide) (by decide) h.g1 h.g2
 obtain ⟨w2, p2, q2, g2⟩ := mw_grid ok h.x0 h.lt h.y1 (h := 2) (m := 3) (by decide) (by decide) (by decide) h.g1 h.g2
 have wn := h.wn ok
 have c1 : ((1 : Nat) : Rat) / ((3 : Nat) : Rat) = 1 / 3 := rfl
 have c2 : ((2 : Nat) : Rat) / ((3 : Nat) : Rat) = 2 / 3 := rfl
 have er : wd S (r.1, r.2) = wd S r := rfl
 rw [c1, er] at a3
 rw [c2, er] at b3
 have wr : wd S r = F S r.2 - F S r.1 := rfl
 refine ⟨D * (w1 * w2), a1, F_lt ok (by grind), b2, ?_, ?_, ?_, ⟨w1 * w2, Nat.mul_pos p1 p2, ?_, rfl⟩, ?_, ?_⟩
 ·show F S (mw S r.1 r.2 1 3) - F S r.1 = _
  grind
 ·show F S (mw S r.1 r.2 2 3) - F S (mw S r.1 r.2 1 3) = _
  grind
 ·show F S r.2 - F S (mw S r.1 r.2 2 3) = _
  grind
 ·have := Nat.mul_le_mul q1 q2
  omega
 ·rw [← Nat.mul_assoc]
  exact g1.up
 ·rw [Nat.mul_comm w1 w2, ← Nat.mul_assoc]
  exact g2.up
def thrL (r : Rat × Rat) (s t : Rat) : List (Rat × Rat) := [(r.1, s), (s, t), (t, r.2)]
theorem Thr.sp {S : Steps} {D D' : Nat} {r : Rat × Rat} {s t : Rat} (h : Thr S D r s t D') (hr : SpAt D r) : ∀ q ∈ thrL r s t, SpAt D' q := by
 obtain ⟨v, v0, v1, rfl⟩ := h.w
 have a := h.lo
 have b := h.st
 have c := h.hi
 have x := hr.x0
 have y := hr.y1
 intro q hq
 rcases List.mem_cons.mp hq with e | e
 ·rw [e]
  exact ⟨x, a, by show s ≤ 1; grind, hr.g1.up, h.gs⟩
 ·rcases List.mem_cons.mp e with e | e
  ·rw [e]
   exact ⟨by show 0 ≤ s; grind, b, by show t ≤ 1; grind, h.gs, h.gt⟩
  ·rw [List.mem_singleton.mp e]
   exact ⟨by show 0 ≤ t; grind, c, y, h.gt, hr.g2.up⟩
theorem Thr.same {S : Steps} {D D' : Nat} {r : Rat × Rat} {s t : Rat} (h : Thr S D r s t D') : ∀ q ∈ thrL r s t, wd S q = wd S r / 3 := by
 intro q hq
 rcases List.mem_cons.mp hq with e | e
 ·rw [e]; exact h.e1
 ·rcases List.mem_cons.mp e with e | e
  ·rw [e]; exact h.e2
  ·rw [List.mem_singleton.mp e]; exact h.e3
theorem Thr.sum {S : Steps} {D D' : Nat} {r : Rat × Rat} {s t : Rat} (h : Thr S D r s t D') (S0 : Steps) : Wo S0 (thrL r s t) = wd S0 r := by
 have c : Ch r.1 (thrL r s t) r.2 := ⟨rfl, h.lo, rfl, h.st, rfl, h.hi, rfl⟩
 exact Ch.wo S0 c
theorem Thr.ch {S : Steps} {D D' : Nat} {r : Rat × Rat} {s t a b : Rat} {C R : List (Rat × Rat)} (h : Thr S D r s t D') (c : Ch a C b) (hp : C.Perm (r :: R)) : ∃ C', Ch a C' b ∧ C'.Perm (thrL r s t ++ R) := by
 have k : s < r.2 := by have := h.st; have := h.hi; grind
 obtain ⟨C1, c1, p1⟩ := Ch.split c h.lo k hp
 obtain ⟨C2, c2, p2⟩ := Ch.split (p := (s, r.2)) c1 h.st h.hi (p1.trans (List.Perm.swap ..))
 refine ⟨C2, c2, p2.trans ?_⟩
 exact List.perm_middle (l₁ := [(s, t), (t, r.2)])
end FK
namespace FQ
open PySem L2 FK
theorem Paired.erase' {α β : Type} {F : α → β → Prop} : ∀ {xs : List α} {ys : List β} (i : Nat), Paired F xs ys → Paired F (xs.eraseIdx i) (ys.eraseIdx i)
 | _, _, i, .nil => by rw [List.eraseIdx_nil, List.eraseIdx_nil]; exact .nil
 | _, _, 0, .cons r t => t
 | _, _, i + 1, .cons r t => .cons r (Paired.erase' i t)
def lBody : Stmt → List Stmt
 | .For _ _ b _ _ => b
 | _ => []
abbrev NRs : List Str := ["tastes", "pieces", "rest", "holder", "cutter", "parts", "taker"]
theorem scRest : FnScope NRs ["tastes", "pieces", "rest", "holder"] (defScope s_deal_rest) := ⟨rfl, rfl, rfl, by decide +kernel, rfl, by decide +kernel, by decide +kernel⟩
abbrev bRest : List Stmt := lBody ((defBody s_deal_rest).getD 2 (.Pass ⟨0, 0, 0, 0⟩))
section
variable {P : Program} {w : World} {K : PySem.W.Frag} {mg : Str → Option Value} {base : Heap} {aL aR C Pt Pw : Addr}
theorem body_rest (CT : Cl P w K mg base "take_dearest" 11 ["taste", "spans"] (spTake K C Pt)) (CJ : Cl P w K mg base "joined" 6 ["one", "other"] (spPair K Pw (lamPos2 s_joined) (lq "joined") (fun a b => a || b))) (ne : Pw ≠ Pt) {f : Addr} {cdv : Value} {A : Around} {outer : List Env} {s : Shared} {H : Hp} {E : XK} (hr : Room 11 (cx P w K mg base NRs "deal_rest" s_deal_rest f cdv A outer s H E).A) :
  ∃ tb, PSs (cx P w K mg base NRs "deal_rest" s_deal_rest f cdv A outer s H E) bRest tb ∧ ∀ (D : Ends) (H0 H1 : Hp) (a lp lb lpar : Addr) (t : Nat) (xs zs ys : List V) (x vb : V) (S : Steps) (b : Rat × Rat) (Lp : List (Rat × Rat)) (Dg : Nat) (y2 y3 y4 : Option V),
   TT Pt Pw H0 H1 → SqL K H0 a xs → xs[t]? = some x → TasteS K C H0 x S → H0 lp = none → H1 lp = some (.lst ys) → ys[t]? = some (.ref lb) → H1 lb = some (.lst [vb]) → CoQ K H1 vb b → H0 lpar = none → H1 lpar = some (.lst zs) → Paired (CoQ K H1) zs Lp → lpar ≠ lp → lb ≠ lpar → DOk Dg → SpAt Dg b → (∀ q ∈ Lp, SpAt Dg q) → (∀ q ∈ Lp, b.2 ≤ q.1 ∨ q.2 ≤ b.1) → 0 < Lp.length → Lp.length ≤ 3 →
   (∀ (k : Nat) (q : Rat × Rat) (r : Addr) (us : List V) (H' : Hp), TT Pt Pw H0 H' → Keep H1 H' → (∀ l zs', l ≠ lp → l ≠ lpar → H1 l = some (.lst zs') → H' l = some (.lst zs')) → Lp[k]? = some q → (∀ z ∈ Lp, wd S z ≤ wd S q) → H' lpar = some (.lst (zs.eraseIdx k)) → H' lp = some (.lst (ys.set t (.ref r))) → H0 r = none → r ≠ lp → r ≠ lpar → H' r = some (.lst us) → Paired (CoQ K H') us (jn b q) → PcOk Dg (jn b q) →
    D.nx [some (.ref a), some (.ref lp), y2, y3, y4, some (.ref lpar), some (.int t)] H') →
   tb D [some (.ref a), some (.ref lp), y2, y3, y4, some (.ref lpar), some (.int t)] H1 := by
 have hr6 : Room 6 _ := hr.mono (by decide)
 refine ⟨_, pss_one (ps_asg (pe_cl CJ hr6 rfl (pa_cons (pe_ix ix_list (pv 1) (pv 6) (fun _ _ => rfl)) (pa_cons (pe_lst (pa_cons (pe_cl CT hr rfl (pa_cons (pe_ix ix_list (pv 0) (pv 6) (fun _ _ => rfl)) (pa_cons (pv 5) pa_nil))) pa_nil)) pa_nil))) (pg_sub (pv 1) (pv 6) set_list)), ?_⟩
 intro D H0 H1 a lp lb lpar t xs zs ys x vb S b Lp Dg y2 y3 y4 tt1 ha hx tS lp0 hlp hyt hlb cb par0 hpar pL npl nbl dk sb sp ap l0 l3 k
 obtain ⟨xa, lt, ll, p, rfl, ta, ok⟩ := tS.tt tt1
 refine ⟨_, rfl, _, rfl, lp, _, _, _, rfl, rfl, .of hlp, atI_nat hyt, _, rfl, _, rfl, a, _, _, _, rfl, rfl, tt1.sqL ha, atI_nat hx, _, rfl, xa, lt, ll, lpar, zs, p, Dg, S, Lp, rfl, ta, ok, hpar, pL, dk, sp, l0, l3, tt1.rdy, fun kk v q H2 to2 hv hq mx => ?_⟩
 have tt2 := tt1.trans (TT.tb tt1.rdyw ne to2)
 have hpar2 := to2.lst hpar
 have tt3 := tt2.updL (zs := zs.eraseIdx kk) par0 hpar2
 have k12 : Keep H1 H2 := to2.keep
 have k23 : Keep H2 (upd H2 lpar (.lst (zs.eraseIdx kk))) := Keep.updL hpar2
 refine ⟨(by show 1 ≤ sizeLine; decide), fun l2 hl2 => ?_⟩
 have s4 := Same.upd (o := .lst [v]) hl2
 have tt4 := tt3.to s4
 have hq' := List.mem_of_getElem? hq
 have cq1 := Paired.get pL kk v q hv hq
 have hlb3 : (upd H2 lpar (.lst (zs.eraseIdx kk))) lb = some (.lst [vb]) := by rw [upd_ne nbl]; exact to2.lst hlb
 have c3 : ∀ {u : V} {z : Rat × Rat}, CoQ K H1 u z → CoQ K (upd (upd H2 lpar (.lst (zs.eraseIdx kk))) l2 (.lst [v])) u z := fun c => CoQ.same s4 (CoQ.keep k23 (CoQ.keep k12 c))
 dsimp only [tNil]
 refine join_use dk sb (sp q hq') (ap q hq') (.of (s4 _ _ hlb3)) sqL_new (c3 cb) (c3 cq1) tt4.rdyw fun r us H5 bt hr4 hz pz pc rw5 => ?_
 have tt45 : TT Pt Pw (upd (upd H2 lpar (.lst (zs.eraseIdx kk))) l2 (.lst [v])) H5 := .tw tt4.rdy tt4.rdyw ne bt rw5
 have tt5 := tt4.trans tt45
 have lst3 : ∀ l zs', l ≠ lpar → H1 l = some (.lst zs') → H5 l = some (.lst zs') := fun l zs' n e => tt45.lst (s4 _ _ (by rw [upd_ne n]; exact to2.lst e))
 have hlp5 := lst3 lp _ npl.symm hlp
 have hpar5 : H5 lpar = some (.lst (zs.eraseIdx kk)) := tt45.lst (s4 _ _ upd_same)
 have tt6 := tt5.updL (zs := ys.set t (.ref r)) lp0 hlp5
 have it : ixN ys.length (t : Int) = some t := by
  have := (List.getElem?_eq_some_iff.mp hyt).1
  unfold ixN
  rw [if_pos (by omega), if_pos (by omega), Int.toNat_natCast]
 have k56 : Keep H5 (upd H5 lp (.lst (ys.set t (.ref r)))) := Keep.updL hlp5
 have nrl : r ≠ lp := (ne_of_none (s4 _ _ (show (upd H2 lpar (.lst (zs.eraseIdx kk))) lp = _ by rw [upd_ne npl.symm]; exact to2.lst hlp)) hr4).symm
 have nrp : r ≠ lpar := (ne_of_none (s4 _ _ upd_same) hr4).symm
 refine ⟨_, rfl, _, rfl, lp, ys, (t : Int), t, rfl, rfl, hlp5, it, ?_⟩
 refine k kk q r us _ tt6 (fun c o e n1 n2 => ?_) (fun l zs' n1 n2 e => ?_) hq mx (by rw [upd_ne npl]; exact hpar5) upd_same (tt4.free hr4) nrl nrp (by rw [upd_ne nrl]; exact hz) (Paired.mapP pz fun _ _ z => CoQ.keep k56 z) pc
 ·exact k56 _ _ (tt45.keep _ _ (s4 _ _ (k23 _ _ (k12 _ _ e n1 n2) n1 n2)) n1 n2) n1 n2
 ·rw [upd_ne n1]
  exact lst3 l zs' n2 e
def spRest (K : PySem.W.Frag) (C Pt Pw : Addr) : Sp := fun vs H Q _ => ∃ (H0 : Hp) (a lp : Addr) (rv : V) (h c : Nat) (x : Nat → V) (S : Nat → Steps) (l : Nat → Addr) (v : Nat → V) (b : Nat → Rat × Rat) (rr : Rat × Rat) (D : Nat),
 vs = [.ref a, .ref lp, rv, .int h] ∧ ((h = 1 ∧ c = 2) ∨ (h = 2 ∧ c = 1)) ∧ TT Pt Pw H0 H ∧ SqL K H0 a [x 0, x 1, x 2] ∧ (∀ t, t < 3 → TasteS K C H0 (x t) (S t)) ∧ H0 lp = none ∧ H lp = some (.lst [.ref (l 0), .ref (l 1), .ref (l 2)]) ∧ (∀ t, t < 3 → l t ≠ lp ∧ H (l t) = some (.lst [v t]) ∧ CoQ K H (v t) (b t)) ∧ CoQ K H rv rr ∧ (0 < D ∧ D ≤ 8000000 ^ 5) ∧ (∀ t, t < 3 → SpAt D (b t)) ∧ SpAt D rr ∧ Bs (S 0) (S 1) (S 2) (b 0) (b 1) (b 2) [rr] ∧ wd (S 0) (b h) + wd (S 0) rr = 1 / 3 ∧
 ∀ (q : Nat → Rat × Rat) (r : Nat → Addr) (us : Nat → List V) (D' : Nat) (H' : Hp), TT Pt Pw H0 H' → H' lp = some (.lst [.ref (r 0), .ref (r 1), .ref (r 2)]) → (∀ t, t < 3 → H0 (r t) = none ∧ r t ≠ lp ∧ H' (r t) = some (.lst (us t)) ∧ Paired (CoQ K H') (us t) (jn (b t) (q t)) ∧ PcOk D' (jn (b t) (q t))) → Rs (S 0) (S 1) (S 2) (jn (b 0) (q 0)) (jn (b 1) (q 1)) (jn (b 2) (q 2)) → Q .non H'
theorem ok_rest {f : Addr} {fd : FuncData} (D : DefAt K mg "deal_rest" s_deal_rest ["tastes", "pieces", "rest", "holder"] f fd) (CI : Cl P w K mg base "in_thirds" 11 ["taste", "span"] (spThirds K C)) (CT : Cl P w K mg base "take_dearest" 11 ["taste", "spans"] (spTake K C Pt)) (CJ : Cl P w K mg base "joined" 6 ["one", "other"] (spPair K Pw (lamPos2 s_joined) (lq "joined") (fun a b => a || b))) (ne : Pw ≠ Pt) :
  FnOk P w K mg base CX0 12 f fd ["tastes", "pieces", "rest", "holder"] (spRest K C Pt Pw) := by
 refine D.fn.ok scRest (fun vs H Q E h => ?_) (fun cdv A outer s H vs Q E hr h => ?_)
 ·obtain ⟨H0, a, lp, rv, h, c, x, S, l, v, b, rr, D, rfl, _⟩ := h
  rfl
 ·obtain ⟨H0, a, lp, rv, h, c, x, S, l, v, b, rr, Dg, rfl, hc, tt0, ha, hT, lp0, hlp, hl, crr, ⟨d0, d5⟩, sb, srr, bs, hsum, k⟩ := h
  obtain ⟨tb, hb, rb⟩ := body_rest (P := P) (w := w) (mg := mg) (base := base) (f := f) (cdv := cdv) (A := A) (outer := outer) (s := s) (H := H) (E := E) CT CJ ne hr
  refine ⟨_, pss_cons (ps_set (i := 4) scRest.nd rfl (Or.inl rfl) (pe_op op_sub pe_int (pv 3)))
   (pss_cons (ps_set (i := 5) scRest.nd rfl (Or.inl rfl) (pe_cl CI hr rfl (pa_cons (pe_ix ix_list (pv 0) (pv 4) (fun _ _ => rfl)) (pa_cons (pv 2) pa_nil))))
   (pss_one (ps_for PassesOwn.never rfl (pi_list (pe_lst (pa_cons (pv 3) (pa_cons pe_int (pa_cons (pv 4) pa_nil))))) (pg_name (i := 6) scRest.nd rfl (Or.inl rfl)) hb))), ?_⟩
  have h3 : h < 3 := by omega
  have c3 : c < 3 := by omega
  have ec : (3 : Int) - (h : Int) = (c : Int) := by omega
  have get3 : ∀ {α : Type} (g : Nat → α) (t : Nat), t < 3 → [g 0, g 1, g 2][t]? = some (g t) := fun g t ht => by
   match t, ht with
   | 0, _ => rfl
   | 1, _ => rfl
   | 2, _ => rfl
  refine ⟨_, rfl, _, _, rfl, rfl, ?_⟩
  dsimp only
  rw [ec]
  obtain ⟨xc, ltc, llc, pc, exc, tac, okc⟩ := (hT c c3).tt tt0
  have hxc := get3 x c c3
  obtain ⟨D', th⟩ := thr_of okc d0 srr
  obtain ⟨wv, wv0, wv1, eD⟩ := th.w
  have dk' : DOk D' := by
   rw [eD]
   exact ⟨Nat.mul_pos d0 wv0, Nat.lt_of_le_of_lt (Nat.mul_le_mul d5 wv1) (by decide)⟩
  rw [exc] at hxc
  refine ⟨_, rfl, _, rfl, a, _, _, _, rfl, rfl, tt0.sqL ha, atI_nat hxc, _, rfl, xc, ltc, llc, rv, pc, S c, rr.1, rr.2, Dg, rfl, tac, okc, crr, ⟨srr.x0, srr.lt, srr.y1⟩, ⟨d0, Nat.le_trans d5 (by decide), srr.g1, srr.g2⟩, fun lpar v1 v2 v3 H1 s1 hpar0 hpar q1 q2 q3 => ?_⟩
  have tt1 := tt0.to s1
  refine ⟨_, rfl, _, rfl, (by show 3 ≤ sizeLine; decide), fun lt hlt => ?_⟩
  have s2 := Same.upd (o := .lst [V.int h, .int 0, .int c]) hlt
  have tt2 := tt1.to s2
  have s12 := s1.trans s2
  have npl : lpar ≠ lp := (ne_of_none hlp hpar0).symm
  have nlt : lt ≠ lp := (ne_of_none (s1 _ _ hlp) hlt).symm
  have nlp : lt ≠ lpar := (ne_of_none hpar hlt).symm
  have hlt2 : (upd H1 lt (.lst [V.int h, .int 0, .int c])) lt = some (.lst [V.int h, .int 0, .int c]) := upd_same
  have pL0 : Paired (CoQ K (upd H1 lt (.lst [V.int h, .int 0, .int c]))) [v1, v2, v3] (thrL rr (mw (S c) rr.1 rr.2 1 3) (mw (S c) rr.1 rr.2 2 3)) := .cons (CoQ.same s2 q1) (.cons (CoQ.same s2 q2) (.cons (CoQ.same s2 q3) .nil))
  generalize hLp : thrL rr (mw (S c) rr.1 rr.2 1 3) (mw (S c) rr.1 rr.2 2 3) = Lp at pL0
  have spL : ∀ q ∈ Lp, SpAt D' q := by rw [← hLp]; exact th.sp srr
  have sbL : ∀ t, t < 3 → SpAt D' (b t) := fun t ht => by rw [eD]; exact (sb t ht).up
  have smL : ∀ q ∈ Lp, wd (S c) q = wd (S c) rr / 3 := by rw [← hLp]; exact th.same
  have len : Lp.length = 3 := by rw [← hLp]; rfl
  have sumL : Wo (S 0) Lp = wd (S 0) rr := by rw [← hLp]; exact th.sum (S 0)
  obtain ⟨C0, c0, p0⟩ := bs.ch
  obtain ⟨C1, c1, p1⟩ := th.ch c0 (p0.trans (List.perm_middle (l₁ := [b 0, b 1, b 2])))
  rw [hLp, List.append_nil] at p1
  have p1' : C1.Perm ([b 0, b 1, b 2] ++ Lp) := p1.trans List.perm_append_comm
  have apL : ∀ t, t < 3 → ∀ q ∈ Lp, (b t).2 ≤ q.1 ∨ q.2 ≤ (b t).1 := fun t ht q hq => by
   have h1 : C1.Pairwise fun x y => x.2 ≤ y.1 ∨ y.2 ≤ x.1 := (Ch.apart c1).imp fun z => .inl z
   have h2 := (List.Perm.pairwise_iff (fun z => z.symm) p1').mp h1
   exact (List.pairwise_append.mp h2).2.2 (b t) (List.mem_of_getElem? (get3 b t ht)) q hq
  have hlpR := s12 _ _ hlp
  have lne : ∀ t, t < 3 → l t ≠ lpar := fun t ht => ne_of_none (hl t ht).2.1 hpar0
  refine ⟨lt, rfl, ⟨_, .of hlt2⟩, for_three ⟨.of hlt2, ?_⟩⟩
  refine rb _ H0 _ a lp (l h) lpar h [x 0, x 1, x 2] [v1, v2, v3] [.ref (l 0), .ref (l 1), .ref (l 2)] (x h) (v h) (S h) (b h) Lp D' _ _ _ tt2 ha (get3 x h h3) (hT h h3) lp0 hlpR (get3 (fun t => V.ref (l t)) h h3) (s12 _ _ (hl h h3).2.1) (CoQ.same s12 (hl h h3).2.2) (tt0.free hpar0) (s2 _ _ hpar) pL0 npl (lne h h3) dk' (sbL h h3) spL (apL h h3) (by omega) (by omega) fun kh qh rh uh H3 tt3 k3 ls3 hqh mxh hpar3 hlp3 rh0 rhl rhp hrh puh pch => ?_
  have hlt3 := ls3 lt _ nlt nlp hlt2
  refine ⟨.of hlt3, ?_⟩
  have permh := cons_eraseIdx hqh
  have len1 : (Lp.eraseIdx kh).length = 2 := by
   have := permh.length_eq
   rw [List.length_cons] at this
   omega
  have sub1 : ∀ q ∈ Lp.eraseIdx kh, q ∈ Lp := fun q hq => permh.mem_iff.mp (List.mem_cons_of_mem _ hq)
  have g0 : [V.ref (l 0), .ref (l 1), .ref (l 2)][0]? = some (V.ref (l 0)) := rfl
  have hy0 : ([V.ref (l 0), .ref (l 1), .ref (l 2)].set h (.ref rh))[0]? = some (.ref (l 0)) := by
   rw [List.getElem?_set_ne (by omega)]
   rfl
  have hl0 := ls3 (l 0) _ (hl 0 (by decide)).1 (lne 0 (by decide)) (s12 _ _ (hl 0 (by decide)).2.1)
  have pL1 : Paired (CoQ K H3) ([v1, v2, v3].eraseIdx kh) (Lp.eraseIdx kh) := Paired.erase' kh (Paired.mapP pL0 fun _ _ z => CoQ.keep k3 z)
  refine rb _ H0 H3 a lp (l 0) lpar 0 [x 0, x 1, x 2] _ _ (x 0) (v 0) (S 0) (b 0) (Lp.eraseIdx kh) D' _ _ _ tt3 ha rfl (hT 0 (by decide)) lp0 hlp3 hy0 hl0 (CoQ.keep k3 (CoQ.same s12 (hl 0 (by decide)).2.2)) (tt0.free hpar0) hpar3 pL1 npl (lne 0 (by decide)) dk' (sbL 0 (by decide)) (fun q hq => spL q (sub1 q hq)) (fun q hq => apL 0 (by decide) q (sub1 q hq)) (by omega) (by omega) fun k0 q0 r0 u0 H4 tt4 k4 ls4 hq0 mx0 hpar4 hlp4 r00 r0l r0p hr0 pu0 pc0 => ?_
  have hlt4 := ls4 lt _ nlt nlp hlt3
  refine ⟨.of hlt4, ?_⟩
  have perm0 := cons_eraseIdx hq0
  have len2 : ((Lp.eraseIdx kh).eraseIdx k0).length = 1 := by
   have := perm0.length_eq
   rw [List.length_cons] at this
   omega
  have sub2 : ∀ q ∈ (Lp.eraseIdx kh).eraseIdx k0, q ∈ Lp.eraseIdx kh := fun q hq => perm0.mem_iff.mp (List.mem_cons_of_mem _ hq)
  have hyc : (([V.ref (l 0), .ref (l 1), .ref (l 2)].set h (.ref rh)).set 0 (.ref r0))[c]? = some (.ref (l c)) := by
   rw [List.getElem?_set_ne (by omega), List.getElem?_set_ne (by omega)]
   exact get3 (fun t => V.ref (l t)) c c3
  have hlc3 := ls3 (l c) _ (hl c c3).1 (lne c c3) (s12 _ _ (hl c c3).2.1)
  have hlc4 := ls4 (l c) _ (hl c c3).1 (lne c c3) hlc3
  have pL2 : Paired (CoQ K H4) (([v1, v2, v3].eraseIdx kh).eraseIdx k0) ((Lp.eraseIdx kh).eraseIdx k0) := Paired.erase' k0 (Paired.mapP pL1 fun _ _ z => CoQ.keep k4 z)
  have hrh4 := ls4 rh _ rhl rhp hrh
  refine rb _ H0 H4 a lp (l c) lpar c [x 0, x 1, x 2] _ _ (x c) (v c) (S c) (b c) ((Lp.eraseIdx kh).eraseIdx k0) D' _ _ _ tt4 ha (get3 x c c3) (hT c c3) lp0 hlp4 hyc hlc4 (CoQ.keep k4 (CoQ.keep k3 (CoQ.same s12 (hl c c3).2.2))) (tt0.free hpar0) hpar4 pL2 npl (lne c c3) dk' (sbL c c3) (fun q hq => spL q (sub1 q (sub2 q hq))) (fun q hq => apL c c3 q (sub1 q (sub2 q hq))) (by omega) (by omega) fun kc qc rc uc H5 tt5 k5 ls5 hqc mxc hpar5 hlp5 rc0 rcl rcp hrc puc pcc => ?_
  refine ⟨.of (ls5 lt _ nlt nlp hlt4), ?_⟩
  have permc := cons_eraseIdx hqc
  have last : ((Lp.eraseIdx kh).eraseIdx k0).eraseIdx kc = [] := by
   have := permc.length_eq
   rw [List.length_cons] at this
   exact List.length_eq_zero_iff.mp (by omega)
  rw [last] at permc
  have permL : [qh, q0, qc].Perm Lp := ((permc.cons q0).trans perm0).cons qh |>.trans permh
  have hrh5 := ls5 rh _ rhl rhp hrh4
  have hr05 := ls5 r0 _ r0l r0p hr0
  have mqh : qh ∈ Lp := permL.mem_iff.mp (by simp)
  have mq0 : q0 ∈ Lp := permL.mem_iff.mp (by simp)
  have mqc : qc ∈ Lp := permL.mem_iff.mp (by simp)
  have c0le := mx0 qc (permc.mem_iff.mp (by simp) |> sub2 qc)
  have sums : wd (S 0) q0 + (wd (S 0) qh + wd (S 0) qc) = wd (S 0) rr := by
   have e := Wo_perm (S 0) permL
   rw [sumL] at e
   have e' : Wo (S 0) [qh, q0, qc] = wd (S 0) qh + (wd (S 0) q0 + (wd (S 0) qc + 0)) := rfl
   grind
  obtain ⟨_, _, _, pp0, _, _, ok0⟩ := hT 0 (by decide)
  have bs' : Bs (S 0) (S 1) (S 2) (b 0) (b 1) (b 2) Lp := ⟨⟨C1, c1, p1'⟩, bs.w0, bs.w1, bs.w2, bs.u0, bs.u2, bs.v0, bs.v1⟩
  have m1 := mxh q0 mq0
  have m2 := mxh qc mqc
  have z1 := smL qh mqh
  have z2 := smL q0 mq0
  have z3 := smL qc mqc
  have P0 : ∀ (r : Nat → Addr), H5 lp = some (.lst ((([V.ref (l 0), .ref (l 1), .ref (l 2)].set h (.ref rh)).set 0 (.ref r0)).set c (.ref rc))) := fun _ => hlp5
  have u0' := Paired.mapP pu0 fun _ _ z => CoQ.keep k5 z
  have uh' := Paired.mapP puh fun _ _ z => CoQ.keep k5 (CoQ.keep k4 z)
  rcases hc with ⟨e1, e2⟩ | ⟨e1, e2⟩
  ·subst e1 e2
   have bq : Bs (S 0) (S 1) (S 2) (b 0) (b 1) (b 2) [q0, qh, qc] := ⟨⟨C1, c1, p1'.trans ((permL.symm.trans (List.Perm.swap ..)).append_left [b 0, b 1, b 2])⟩, bs.w0, bs.w1, bs.w2, bs.u0, bs.u2, bs.v0, bs.v1⟩
   refine k (fun t => match t with | 0 => q0 | 1 => qh | _ => qc) (fun t => match t with | 0 => r0 | 1 => rh | _ => rc) (fun t => match t with | 0 => u0 | 1 => uh | _ => uc) D' H5 tt5 hlp5 (fun t ht => ?_) (bq.rest ok0 sums (.inl ⟨hsum, c0le, ⟨m1, m2⟩, ⟨by grind, by grind⟩⟩))
   match t, ht with
   | 0, _ => exact ⟨r00, r0l, hr05, u0', pc0⟩
   | 1, _ => exact ⟨rh0, rhl, hrh5, uh', pch⟩
   | 2, _ => exact ⟨rc0, rcl, hrc, puc, pcc⟩
  ·subst e1 e2
   have bq : Bs (S 0) (S 1) (S 2) (b 0) (b 1) (b 2) [q0, qc, qh] := ⟨⟨C1, c1, p1'.trans ((permL.symm.trans ((List.Perm.swap ..).trans ((List.Perm.swap ..).cons q0))).append_left [b 0, b 1, b 2])⟩, bs.w0, bs.w1, bs.w2, bs.u0, bs.u2, bs.v0, bs.v1⟩
   refine k (fun t => match t with | 0 => q0 | 1 => qc | _ => qh) (fun t => match t with | 0 => r0 | 1 => rc | _ => rh) (fun t => match t with | 0 => u0 | 1 => uc | _ => uh) D' H5 tt5 hlp5 (fun t ht => ?_) (bq.rest ok0 (by grind) (.inr ⟨hsum, c0le, ⟨m1, m2⟩, ⟨by grind, by grind⟩⟩))
   match t, ht with
   | 0, _ => exact ⟨r00, r0l, hr05, u0', pc0⟩
   | 1, _ => exact ⟨rc0, rcl, hrc, puc, pcc⟩
   | 2, _ => exact ⟨rh0, rhl, hrh5, uh', pch⟩
end
end FQ
namespace FQ
open PySem L2 FK
theorem sqKr {K : PySem.W.Frag} {a p q : Addr} {od : Option Addr} {n : Nat} {sl : Array (Option Value)} (h : K.lookup a = some ⟨.type "tuple", od, .seq #[.ref p, .ref q] n, sl⟩) : ∀ H : Hp, SqT K H a [.ref p, .ref q] :=
 fun _ => .inr ⟨_, _, n, h, rfl, rfl, (by show 2 ≤ sizeLine; decide), .cons rfl (.cons rfl .nil)⟩
theorem set_perm {α : Type} {L : List α} {i : Nat} {a x : α} (h : L[i]? = some a) : (L.set i x).Perm (x :: L.eraseIdx i) := by
 have hi := (List.getElem?_eq_some_iff.mp h).1
 have g : (L.set i x)[i]? = some x := by
  rw [List.getElem?_set_self hi]
 have p := cons_eraseIdx g
 rw [List.eraseIdx_set_eq] at p
 exact p.symm
theorem idx_at {α : Type} [DecidableEq α] {L : List α} {x : α} (h : x ∈ L) : L[L.idxOf x]? = some x := List.getElem?_eq_some_iff.mpr ⟨List.idxOf_lt_length_iff.mpr h, List.getElem_idxOf _⟩
theorem le_subt {x y z t : Rat} (h : y ≤ z) (e : z - x = t) : y - x ≤ t := by
 subst e
 grind
def rst (a : Rat × Rat) (m : Rat) : List (Rat × Rat) := if m < a.2 then [(m, a.2)] else []
section
variable {S0 S1 S2 : Steps} {p0 D0 D D' i : Nat} {aa q3 b1 b0 : Rat × Rat} {m t1 t2 : Rat}
theorem third_of (ok0 : TsOk p0 S0) (th : Thr S0 D0 (0, 1) t1 t2 D') : ∀ q ∈ thrL (0, 1) t1 t2, wd S0 q = 1 / 3 := fun q hq => by
 have e := th.same q hq
 have w : wd S0 ((0 : Rat), (1 : Rat)) = F S0 1 - F S0 0 := rfl
 rw [w, F_one ok0, F_zero ok0] at e
 grind
theorem bs_mk (ok0 : TsOk p0 S0) (th : Thr S0 D0 (0, 1) t1 t2 D') (tr : TrimAt S1 D (thrL (0, 1) t1 t2) i aa m) (pm : ((thrL (0, 1) t1 t2).set i (aa.1, m)).Perm [q3, b1, b0]) (f1 : ∀ z ∈ (thrL (0, 1) t1 t2).set i (aa.1, m), wd S2 z ≤ wd S2 q3) (f2 : ∀ z ∈ (thrL (0, 1) t1 t2).set i (aa.1, m), wd S1 z ≤ wd S1 b1) (f3 : b0 ∈ (thrL (0, 1) t1 t2).eraseIdx i) :
  Bs S0 S1 S2 b0 b1 q3 (rst aa m) := by
 have sp := set_perm (x := (aa.1, m)) tr.at_
 have pe := cons_eraseIdx tr.at_
 have sub : ∀ q ∈ (thrL (0, 1) t1 t2).eraseIdx i, q ∈ thrL (0, 1) t1 t2 := fun q hq => pe.mem_iff.mp (List.mem_cons_of_mem _ hq)
 have third := third_of ok0 th
 have aw := third aa (List.mem_of_getElem? tr.at_)
 have le3 : ∀ z ∈ (thrL (0, 1) t1 t2).set i (aa.1, m), wd S0 z ≤ 1 / 3 := fun z hz => by
  rcases List.mem_cons.mp (sp.mem_iff.mp hz) with e | e
  ·have mo := F_mono ok0 tr.le
   rw [e]
   exact le_subt mo aw
  ·rw [third z (sub z e)]
   exact Rat.le_refl
 have mem : ∀ z ∈ [q3, b1, b0], z ∈ (thrL (0, 1) t1 t2).set i (aa.1, m) := fun z hz => pm.mem_iff.mpr hz
 have m0 := mem b0 (by simp)
 have m1 := mem b1 (by simp)
 have m3 := mem q3 (by simp)
 have c : Ch 0 (thrL (0, 1) t1 t2) 1 := ⟨rfl, th.lo, rfl, th.st, rfl, th.hi, rfl⟩
 have rev : [q3, b1, b0].Perm [b0, b1, q3] := by
  have := List.reverse_perm [b0, b1, q3]
  simpa using this
 refine ⟨?_, third b0 (sub b0 f3), le3 b1 m1, le3 q3 m3, f2 b0 m0, f2 q3 m3, f1 b0 m0, f1 b1 m1⟩
 unfold rst
 by_cases lt : m < aa.2
 ·rw [if_pos lt]
  obtain ⟨C', c', p'⟩ := Ch.split c tr.lt lt pe.symm
  refine ⟨C', c', p'.trans ?_⟩
  have q1 : List.Perm ((aa.1, m) :: (m, aa.2) :: (thrL (0, 1) t1 t2).eraseIdx i) ((m, aa.2) :: (thrL (0, 1) t1 t2).set i (aa.1, m)) := (List.Perm.swap ..).trans (sp.symm.cons _)
  have q2 : List.Perm ((m, aa.2) :: (thrL (0, 1) t1 t2).set i (aa.1, m)) ((m, aa.2) :: [b0, b1, q3]) := (pm.trans rev).cons _
  exact q1.trans (q2.trans (List.perm_middle (l₁ := [b0, b1, q3]) (l₂ := [])).symm)
 ·rw [if_neg lt]
  have e : m = aa.2 := by
   have := tr.le
   grind
  have ea : (aa.1, m) = aa := by rw [e]
  refine ⟨thrL (0, 1) t1 t2, c, pe.symm.trans ?_⟩
  rw [ea] at sp pm
  exact sp.symm.trans (pm.trans rev)
theorem bs_left {k j : Nat} (ok0 : TsOk p0 S0) (th : Thr S0 D0 (0, 1) t1 t2 D') (tr : TrimAt S1 D (thrL (0, 1) t1 t2) i aa m) (h3 : ((thrL (0, 1) t1 t2).set i (aa.1, m))[k]? = some q3) (f1 : ∀ z ∈ (thrL (0, 1) t1 t2).set i (aa.1, m), wd S2 z ≤ wd S2 q3)
  (hj : (((thrL (0, 1) t1 t2).set i (aa.1, m)).eraseIdx k)[j]? = some (aa.1, m)) (e : (((thrL (0, 1) t1 t2).set i (aa.1, m)).eraseIdx k).eraseIdx j = [b0]) :
  Bs S0 S1 S2 b0 (aa.1, m) q3 (rst aa m) := by
 have sp := set_perm (x := (aa.1, m)) tr.at_
 have pk := cons_eraseIdx h3
 have pj := cons_eraseIdx hj
 rw [e] at pj
 have pm : ((thrL (0, 1) t1 t2).set i (aa.1, m)).Perm [q3, (aa.1, m), b0] := pk.symm.trans (pj.symm.cons _)
 refine bs_mk ok0 th tr pm f1 (fun z hz => ?_) ?_
 ·rcases List.mem_cons.mp (sp.mem_iff.mp hz) with e | e
  ·rw [e]
   exact Rat.le_refl
  ·exact tr.max z e
 ·have q := (List.perm_cons (aa.1, m)).mp (((List.Perm.swap ..).trans pm.symm).trans sp)
  exact q.mem_iff.mp (by simp)
theorem bs_gone {k j : Nat} (ok0 : TsOk p0 S0) (th : Thr S0 D0 (0, 1) t1 t2 D') (tr : TrimAt S1 D (thrL (0, 1) t1 t2) i aa m) (h3 : ((thrL (0, 1) t1 t2).set i (aa.1, m))[k]? = some q3) (f1 : ∀ z ∈ (thrL (0, 1) t1 t2).set i (aa.1, m), wd S2 z ≤ wd S2 q3)
  (hm : (aa.1, m) ∉ ((thrL (0, 1) t1 t2).set i (aa.1, m)).eraseIdx k) (hj : (((thrL (0, 1) t1 t2).set i (aa.1, m)).eraseIdx k)[j]? = some b1) (mx : ∀ z ∈ ((thrL (0, 1) t1 t2).set i (aa.1, m)).eraseIdx k, wd S1 z ≤ wd S1 b1) (e : (((thrL (0, 1) t1 t2).set i (aa.1, m)).eraseIdx k).eraseIdx j = [b0]) :
  Bs S0 S1 S2 b0 b1 q3 (rst aa m) ∧ q3 = (aa.1, m) ∧ b1 ≠ (aa.1, m) := by
 have sp := set_perm (x := (aa.1, m)) tr.at_
 have pk := cons_eraseIdx h3
 have pj := cons_eraseIdx hj
 rw [e] at pj
 have e3 : (aa.1, m) = q3 := by
  have : (aa.1, m) ∈ q3 :: ((thrL (0, 1) t1 t2).set i (aa.1, m)).eraseIdx k := pk.mem_iff.mpr (sp.mem_iff.mpr List.mem_cons_self)
  rcases List.mem_cons.mp this with z | z
  ·exact z
  ·exact absurd z hm
 have po : (((thrL (0, 1) t1 t2).set i (aa.1, m)).eraseIdx k).Perm ((thrL (0, 1) t1 t2).eraseIdx i) := by
  have q := pk.trans sp
  rw [← e3] at q
  exact (List.perm_cons _).mp q
 have pm : ((thrL (0, 1) t1 t2).set i (aa.1, m)).Perm [q3, b1, b0] := pk.symm.trans (pj.symm.cons _)
 refine ⟨bs_mk ok0 th tr pm f1 (fun z hz => ?_) ?_, e3.symm, fun z => ?_⟩
 ·rcases List.mem_cons.mp (sp.mem_iff.mp hz) with e | e
  ·obtain ⟨b, hb, eb⟩ := tr.as
   rw [e, ← eb]
   exact mx b (po.mem_iff.mpr hb)
  ·exact mx z (po.mem_iff.mpr e)
 ·exact po.mem_iff.mp (pj.mem_iff.mp (by simp))
 ·have mb := List.mem_of_getElem? hj
  rw [z] at mb
  exact hm mb
theorem trim_sum (ok0 : TsOk p0 S0) (th : Thr S0 D0 (0, 1) t1 t2 D') (tr : TrimAt S1 D (thrL (0, 1) t1 t2) i aa m) : wd S0 (aa.1, m) + wd S0 (m, aa.2) = 1 / 3 := by
 have aw := third_of ok0 th aa (List.mem_of_getElem? tr.at_)
 have w1 : wd S0 aa = F S0 aa.2 - F S0 aa.1 := rfl
 have w2 : wd S0 (aa.1, m) = F S0 m - F S0 aa.1 := rfl
 have w3 : wd S0 (m, aa.2) = F S0 aa.2 - F S0 m := rfl
 grind
end
theorem Paired.set' {α β : Type} {F : α → β → Prop} : ∀ {xs : List α} {ys : List β} (i : Nat) {x : α} {y : β}, F x y → Paired F xs ys → Paired F (xs.set i x) (ys.set i y)
 | _, _, i, _, _, _, .nil => by rw [List.set_nil, List.set_nil]; exact .nil
 | _, _, 0, _, _, h, .cons r t => .cons h t
 | _, _, i + 1, _, _, h, .cons r t => .cons r (Paired.set' i h t)
theorem rpe_co' {K : PySem.W.Frag} : RpE K (CoQ K) 2 := rpe_pair rpe_fr rpe_fr
theorem hu2_of {A : Around} {k : Nat} (hr : Room k A) : A.units + (1 + 1) < cLine := Nat.lt_of_le_of_lt (Nat.add_le_add_left (by decide : 2 ≤ 64) _) hr.units
theorem hu3_of {A : Around} {k : Nat} (hr : Room k A) : A.units + (2 + 1) < cLine := Nat.lt_of_le_of_lt (Nat.add_le_add_left (by decide : 3 ≤ 64) _) hr.units
def Dealt3 (K : PySem.W.Frag) (Pt Pw : Addr) (S : Nat → Steps) (H H' : Hp) (r : Addr) (l : Nat → Addr) (us : Nat → List V) (Pc : Nat → List (Rat × Rat)) (D : Nat) : Prop :=
 TT Pt Pw H H' ∧ H r = none ∧ H' r = some (.lst [.ref (l 0), .ref (l 1), .ref (l 2)]) ∧ (∀ t, t < 3 → H (l t) = none ∧ l t ≠ r ∧ H' (l t) = some (.lst (us t)) ∧ Paired (CoQ K H') (us t) (Pc t) ∧ PcOk D (Pc t)) ∧ Rs (S 0) (S 1) (S 2) (Pc 0) (Pc 1) (Pc 2)
def spEnvy (K : PySem.W.Frag) (C Pt Pw : Addr) : Sp := fun vs H Q _ => ∃ (a : Addr) (x : Nat → V) (S : Nat → Steps), vs = [.ref a] ∧ SqL K H a [x 0, x 1, x 2] ∧ (∀ t, t < 3 → TasteS K C H (x t) (S t)) ∧ Rdy Pt H ∧ RdW Pw H ∧
 ∀ (r : Addr) (l : Nat → Addr) (us : Nat → List V) (Pc : Nat → List (Rat × Rat)) (D : Nat) (H' : Hp), Dealt3 K Pt Pw S H H' r l us Pc D → Q (.ref r) H'
abbrev NEn : List Str := ["tastes", "spans", "trimming", "small", "third", "second", "pieces"]
theorem scEn : FnScope NEn ["tastes"] (defScope s_deal_without_envy) := ⟨rfl, rfl, rfl, by decide +kernel, rfl, by decide +kernel, by decide +kernel⟩
section
variable {P : Program} {w : World} {K : PySem.W.Frag} {mg : Str → Option Value} {base : Heap} {aL aR aS C Pt Pw : Addr}
theorem tail_en6 (CR : Cl P w K mg base "deal_rest" 12 ["tastes", "pieces", "rest", "holder"] (spRest K C Pt Pw)) {f : Addr} {cdv : Value} {A : Around} {outer : List Env} {s : Shared} {H : Hp} {E : XK} (hr : Room 12 (cx P w K mg base NEn "deal_without_envy" s_deal_without_envy f cdv A outer s H E).A) :
  ∃ tb, PSs (cx P w K mg base NEn "deal_without_envy" s_deal_without_envy f cdv A outer s H E) (List.drop 6 (defBody s_deal_without_envy)) tb ∧ ∀ (Q : VK) (H0 H1 : Hp) (a lsp tm : Addr) (x : Nat → V) (S : Nat → Steps) (v0 sv v1 v2 i rv : V) (b0 b1 b2 aa : Rat × Rat) (m : Rat) (D : Nat) (y6 : Option V),
   TT Pt Pw H0 H1 → SqL K H0 a [x 0, x 1, x 2] → (∀ t, t < 3 → TasteS K C H0 (x t) (S t)) → H1 lsp = some (.lst [v0]) → CoQ K H1 v0 b0 → CoQ K H1 v1 b1 → CoQ K H1 v2 b2 → CoQ K H1 sv (aa.1, m) → SqT K H1 tm [i, sv, rv] → ((rv = .non ∧ m = aa.2) ∨ (m < aa.2 ∧ CoQ K H1 rv (m, aa.2))) →
   Bs (S 0) (S 1) (S 2) b0 b1 b2 (rst aa m) → (0 < D ∧ D ≤ 8000000 ^ 5) → SpAt D b0 → SpAt D b1 → SpAt D b2 → SpAt D (aa.1, m) → SpAt D aa → ((b1 = (aa.1, m) ∧ wd (S 0) b1 + wd (S 0) (m, aa.2) = 1 / 3) ∨ (b1 ≠ (aa.1, m) ∧ wd (S 0) b2 + wd (S 0) (m, aa.2) = 1 / 3)) →
   (∀ (r : Addr) (l : Nat → Addr) (us : Nat → List V) (Pc : Nat → List (Rat × Rat)) (D : Nat) (H' : Hp), Dealt3 K Pt Pw S H0 H' r l us Pc D → Q (.ref r) H') →
   tb { nx := fun _ H' => Q .non H', rt := Q } [some (.ref a), some (.ref lsp), some (.ref tm), some sv, some v2, some v1, y6] H1 := by
 have hu2 := hu2_of hr
 refine ⟨_, pss_cons (ps_set (i := 6) scEn.nd rfl (Or.inl rfl) (pe_lst (pa_cons (pe_lst (pa_cons (pe_ix ix_list (pv 1) pe_int (fun _ _ => rfl)) pa_nil)) (pa_cons (pe_lst (pa_cons (pv 5) pa_nil)) (pa_cons (pe_lst (pa_cons (pv 4) pa_nil)) pa_nil)))))
  (pss_cons (ps_if (pt_cmpR op_notN (pe_ix ix_tup (pv 2) pe_int (fun _ _ => rfl)) pe_non (nomark _)) (pss_one (ps_expr (pe_cl CR hr rfl (pa_cons (pv 0) (pa_cons (pv 6) (pa_cons (pe_ix ix_tup (pv 2) pe_int (fun _ _ => rfl)) (pa_cons (pe_ifExp (pt_cmpR (op_eqP rpe_fr rpe_fr hu2) (pv 5) (pv 3) (nomark _)) pe_int pe_int) pa_nil))))))) pss_nil)
  (pss_one (ps_ret (pv 6)))), ?_⟩
 intro Q H0 H1 a lsp tm x S v0 sv v1 v2 i rv b0 b1 b2 aa m D y6 tt1 ha hT hsp c0 c1 c2 csv hTm hrv bs dD s0 s1 s2 ssm saa hold k
 have dk : DOk D := ⟨dD.1, Nat.lt_of_le_of_lt dD.2 (by decide)⟩
 refine ⟨_, rfl, lsp, _, _, _, rfl, rfl, .of hsp, rfl, (by show 1 ≤ sizeLine; decide), fun l0 hl0 => ?_⟩
 have e0 := Same.upd (o := .lst [v0]) hl0
 refine ⟨_, rfl, (by show 1 ≤ sizeLine; decide), fun l1 hl1 => ?_⟩
 have e1 := Same.upd (o := .lst [v1]) hl1
 refine ⟨_, rfl, (by show 1 ≤ sizeLine; decide), fun l2 hl2 => ?_⟩
 have e2 := Same.upd (o := .lst [v2]) hl2
 refine ⟨(by show 3 ≤ sizeLine; decide), fun lp hlp => ?_⟩
 have e3 := Same.upd (o := .lst [.ref l0, .ref l1, .ref l2]) hlp
 have e23 := e2.trans e3
 have e13 := e1.trans e23
 have e03 := e0.trans e13
 have tt2 := tt1.to e03
 have z1 := e0.free hl1
 have z2 := (e0.trans e1).free hl2
 have zp := (e0.trans (e1.trans e2)).free hlp
 have n0 : l0 ≠ lp := ne_of_none ((e1.trans e2) _ _ upd_same) hlp
 have n1 : l1 ≠ lp := ne_of_none (e2 _ _ upd_same) hlp
 have n2 : l2 ≠ lp := ne_of_none upd_same hlp
 have g0 := e13 _ _ (show (upd H1 l0 (.lst [v0])) l0 = some (.lst [v0]) from upd_same)
 have g1 := e23 _ _ (show (upd (upd H1 l0 (.lst [v0])) l1 (.lst [v1])) l1 = some (.lst [v1]) from upd_same)
 have g2 := e3 _ _ (show (upd (upd (upd H1 l0 (.lst [v0])) l1 (.lst [v1])) l2 (.lst [v2])) l2 = some (.lst [v2]) from upd_same)
 have hTm2 := e03.sqT hTm
 refine ⟨_, rfl, tm, _, _, _, rfl, rfl, hTm2, rfl, rfl, _, rfl, ?_⟩
 rcases hrv with ⟨rfl, em⟩ | ⟨lt, crv⟩
 ·have er : rst aa m = [] := by
   unfold rst
   rw [if_neg (by rw [em]; exact fun z => absurd z (by grind))]
  rw [er] at bs
  refine iteNS rfl ?_
  refine ⟨_, rfl, k lp (fun t => match t with | 0 => l0 | 1 => l1 | _ => l2) (fun t => match t with | 0 => [v0] | 1 => [v1] | _ => [v2]) (fun t => match t with | 0 => [b0] | 1 => [b1] | _ => [b2]) D _ ⟨tt2, tt1.free zp, upd_same, fun t ht => ?_, bs.rs⟩⟩
  match t, ht with
  | 0, _ => exact ⟨tt1.free hl0, n0, g0, .cons (CoQ.same e03 c0) .nil, s0.pc dk⟩
  | 1, _ => exact ⟨tt1.free z1, n1, g1, .cons (CoQ.same e03 c1) .nil, s1.pc dk⟩
  | 2, _ => exact ⟨tt1.free z2, n2, g2, .cons (CoQ.same e03 c2) .nil, s2.pc dk⟩
 ·have er : rst aa m = [(m, aa.2)] := by
   unfold rst
   rw [if_pos lt]
  rw [er] at bs
  have nn : rv ≠ .non := by
   obtain ⟨p, _, _, e, _⟩ := crv
   rw [e]
   exact fun z => nomatch z
  have srr : SpAt D (m, aa.2) := ⟨by have := ssm.x0; have := ssm.lt; show 0 ≤ m; grind, lt, saa.y1, ssm.g2, saa.g2⟩
  refine iteNN nn ?_
  refine ⟨_, rfl, _, rfl, _, rfl, tm, _, _, _, rfl, rfl, hTm2, rfl, _, rfl, _, rfl, _, _, CoQ.same e03 c1, CoQ.same e03 csv, _, rfl, ?_⟩
  have go : ∀ (h c : Nat), ((h = 1 ∧ c = 2) ∨ (h = 2 ∧ c = 1)) → wd (S 0) ((fun t => match t with | 0 => b0 | 1 => b1 | _ => b2 : Nat → Rat × Rat) h) + wd (S 0) (m, aa.2) = 1 / 3 → ∀ (QQ : VK) (EE : XK), (∀ H', (∀ Q2 : VK, (∀ (r : Addr) (l : Nat → Addr) (us : Nat → List V) (Pc : Nat → List (Rat × Rat)) (D : Nat) (H' : Hp), Dealt3 K Pt Pw S H0 H' r l us Pc D → Q2 (.ref r) H') → Q2 (.ref lp) H') → QQ .non H') →
    spRest K C Pt Pw [.ref a, .ref lp, rv, .int h] (upd (upd (upd (upd H1 l0 (.lst [v0])) l1 (.lst [v1])) l2 (.lst [v2])) lp (.lst [.ref l0, .ref l1, .ref l2])) QQ EE := fun h c hc hs QQ EE kk => by
   refine ⟨H0, a, lp, rv, h, c, x, S, (fun t => match t with | 0 => l0 | 1 => l1 | _ => l2), (fun t => match t with | 0 => v0 | 1 => v1 | _ => v2), (fun t => match t with | 0 => b0 | 1 => b1 | _ => b2), (m, aa.2), D, rfl, hc, tt2, ha, hT, tt1.free zp, upd_same, fun t ht => ?_, CoQ.same e03 crv, dD, fun t ht => ?_, srr, bs, hs, fun q r us D' H' tt' hlp' all rs => ?_⟩
   ·match t, ht with
    | 0, _ => exact ⟨n0, g0, CoQ.same e03 c0⟩
    | 1, _ => exact ⟨n1, g1, CoQ.same e03 c1⟩
    | 2, _ => exact ⟨n2, g2, CoQ.same e03 c2⟩
   ·match t, ht with
    | 0, _ => exact s0
    | 1, _ => exact s1
    | 2, _ => exact s2
   ·refine kk H' fun Q2 k2 => k2 lp r us (fun t => match t with | 0 => jn b0 (q 0) | 1 => jn b1 (q 1) | _ => jn b2 (q 2)) D' H' ⟨tt', tt1.free zp, hlp', fun t ht => ?_, rs⟩
    match t, ht with
    | 0, _ => exact all 0 (by decide)
    | 1, _ => exact all 1 (by decide)
    | 2, _ => exact all 2 (by decide)
  refine ite2 (fun d => ?_) (fun d => ?_)
  ·have d' : b1 = (aa.1, m) := of_decide_eq_true d
   rcases hold with ⟨_, hs⟩ | ⟨nb, _⟩
   ·dsimp only [tC, tNil]
    exact go 1 2 (.inl ⟨rfl, rfl⟩) hs _ _ fun H' z => ⟨_, rfl, z Q k⟩
   ·exact absurd d' nb
  ·have d' : ¬ b1 = (aa.1, m) := fun z => d (decide_eq_true z)
   rcases hold with ⟨eb, _⟩ | ⟨_, hs⟩
   ·exact absurd eb d'
   ·dsimp only [tC, tNil]
    exact go 2 1 (.inr ⟨rfl, rfl⟩) hs _ _ fun H' z => ⟨_, rfl, z Q k⟩
theorem ok_envy {f : Addr} {fd : FuncData} (D : DefAt K mg "deal_without_envy" s_deal_without_envy ["tastes"] f fd) (CI : Cl P w K mg base "in_thirds" 11 ["taste", "span"] (spThirds K C)) (CM : Cl P w K mg base "trimmed" 11 ["taste", "spans"] (spTrim K C Pt)) (CT : Cl P w K mg base "take_dearest" 11 ["taste", "spans"] (spTake K C Pt)) (CR : Cl P w K mg base "deal_rest" 12 ["tastes", "pieces", "rest", "holder"] (spRest K C Pt Pw)) (ne : Pw ≠ Pt) (mgS : mg "CAKE_SPAN" = some (.ref aS)) (cS : ∀ H, CoQ K H (.ref aS) (0, 1)) :
  FnOk P w K mg base CX0 13 f fd ["tastes"] (spEnvy K C Pt Pw) := by
 refine D.fn.ok scEn (fun vs H Q E h => ?_) (fun cdv A outer s H vs Q E hr h => ?_)
 ·obtain ⟨a, x, S, rfl, _⟩ := h
  rfl
 ·obtain ⟨a, x, S, rfl, ha, hT, rt, rw', k⟩ := h
  have hr11 : Room 11 _ := hr.mono (by decide)
  have hu3 := hu3_of hr
  obtain ⟨t6, h6, r6⟩ := tail_en6 (P := P) (w := w) (mg := mg) (base := base) (f := f) (cdv := cdv) (A := A) (outer := outer) (s := s) (H := H) (E := E) CR hr
  refine ⟨_, pss_cons (ps_set (i := 1) scEn.nd rfl (Or.inl rfl) (pe_cl CI hr11 rfl (pa_cons (pe_ix ix_list (pv 0) pe_int (fun _ _ => rfl)) (pa_cons (pe_glob (v := .ref aS) rfl mgS rfl) pa_nil))))
   (pss_cons (ps_set (i := 2) scEn.nd rfl (Or.inl rfl) (pe_cl CM hr11 rfl (pa_cons (pe_ix ix_list (pv 0) pe_int (fun _ _ => rfl)) (pa_cons (pv 1) pa_nil))))
   (pss_cons (ps_set (i := 3) scEn.nd rfl (Or.inl rfl) (pe_ix ix_tup (pv 2) pe_int (fun _ _ => rfl)))
   (pss_cons (ps_asg (pv 3) (pg_sub (pv 1) (pe_ix ix_tup (pv 2) pe_int (fun _ _ => rfl)) set_list))
   (pss_cons (ps_set (i := 4) scEn.nd rfl (Or.inl rfl) (pe_cl CT hr11 rfl (pa_cons (pe_ix ix_list (pv 0) pe_int (fun _ _ => rfl)) (pa_cons (pv 1) pa_nil))))
   (pss_cons (ps_if (pt_cmpR (op_inE rpe_co' hu3) (pv 3) (pv 1) rfl) (pss_cons (ps_expr (pe_bm PySem.F.plainAttrs_list PySem.F.slot_list_remove PySem.F.type_list_remove (mt_remove rpe_co' hu3) (pv 1) (pa_cons (pv 3) pa_nil))) (pss_one (ps_set (i := 5) scEn.nd rfl (Or.inl rfl) (pv 3))))
    (pss_one (ps_set (i := 5) scEn.nd rfl (Or.inl rfl) (pe_cl CT hr11 rfl (pa_cons (pe_ix ix_list (pv 0) pe_int (fun _ _ => rfl)) (pa_cons (pv 1) pa_nil)))))) h6))))), ?_⟩
  have tt0 : TT Pt Pw H H := .of rt rw' (Same.refl _)
  obtain ⟨y0, lt0, ll0, p0, ex0, ta0, ok0⟩ := hT 0 (by decide)
  obtain ⟨y1, lt1, ll1, p1, ex1, ta1, ok1⟩ := hT 1 (by decide)
  obtain ⟨y2, lt2, ll2, p2, ex2, ta2, ok2⟩ := hT 2 (by decide)
  have ha' : SqL K H a [.ref y0, .ref y1, .ref y2] := by
   rw [← ex0, ← ex1, ← ex2]
   exact ha
  have s01 : SpAt 1 ((0 : Rat), (1 : Rat)) := ⟨Rat.le_refl, by decide +kernel, Rat.le_refl, Gr.zero 1, Gr.one 1⟩
  obtain ⟨D1, th⟩ := thr_of ok0 (by decide) s01
  refine ⟨_, rfl, a, _, _, _, rfl, rfl, ha', rfl, y0, lt0, ll0, .ref aS, p0, S 0, 0, 1, 1, rfl, ta0, ok0, cS H, ⟨Rat.le_refl, by decide +kernel, Rat.le_refl⟩, ⟨by decide, by decide, Gr.zero 1, Gr.one 1⟩, fun lsp w1 w2 w3 H1 s1 hsp0 hsp c1 c2 c3 => ?_⟩
  have pL : Paired (CoQ K H1) [w1, w2, w3] (thrL (0, 1) (mw (S 0) 0 1 1 3) (mw (S 0) 0 1 2 3)) := .cons c1 (.cons c2 (.cons c3 .nil))
  have len : (thrL (0, 1) (mw (S 0) 0 1 1 3) (mw (S 0) 0 1 2 3)).length = 3 := rfl
  have th' : Thr (S 0) 1 (0, 1) (mw (S 0) 0 1 1 3) (mw (S 0) 0 1 2 3) D1 := th
  have spL : ∀ q ∈ thrL (0, 1) (mw (S 0) 0 1 1 3) (mw (S 0) 0 1 2 3), SpAt D1 q := th'.sp s01
  generalize mw (S 0) 0 1 1 3 = t1 at pL len th' spL
  generalize mw (S 0) 0 1 2 3 = t2 at pL len th' spL
  obtain ⟨wv, wv0, wv1, eD⟩ := th'.w
  have d10 : 0 < D1 := by rw [eD]; omega
  have d11 : D1 ≤ 8000000 ^ 2 := by rw [eD]; omega
  have tt1 := tt0.to s1
  refine ⟨_, rfl, a, _, _, _, rfl, rfl, tt1.sqL ha', rfl, _, rfl, y1, lt1, ll1, lsp, _, p1, D1, S 1, _, rfl, ta1.tt tt1, ok1, .of hsp, pL, ⟨d10, Nat.le_trans d11 (by decide)⟩, spL, by rw [len]; decide, by rw [len]; decide, tt1.rdy, fun i aa m tm sv rv H2 to2 tr hTm csv hrv => ?_⟩
  have tt2 := tt1.trans (TT.tb tt1.rdyw ne to2)
  have hsp2 := to2.lst hsp
  refine ⟨_, rfl, tm, _, _, _, rfl, rfl, hTm, rfl, ?_⟩
  obtain ⟨hi, _⟩ := List.getElem?_eq_some_iff.mp tr.at_
  have it : ixN [w1, w2, w3].length (i : Int) = some i := by
   have : [w1, w2, w3].length = 3 := rfl
   unfold ixN
   rw [if_pos (by omega), if_pos (by omega), Int.toNat_natCast]
  refine ⟨_, rfl, _, rfl, _, rfl, tm, _, _, _, rfl, rfl, hTm, rfl, lsp, _, (i : Int), i, rfl, rfl, hsp2, it, ?_⟩
  have tt3 := tt2.updL (zs := [w1, w2, w3].set i sv) hsp0 hsp2
  have k23 : Keep H2 (upd H2 lsp (.lst ([w1, w2, w3].set i sv))) := Keep.updL hsp2
  obtain ⟨wg, wg0, wg1, gm⟩ := tr.g
  have saa := spL aa (List.mem_of_getElem? tr.at_)
  have ssm : SpAt (D1 * wg) (aa.1, m) := ⟨saa.x0, tr.lt, by have := tr.le; have := saa.y1; show m ≤ 1; grind, saa.g1.up, gm⟩
  have dD : 0 < D1 * wg ∧ D1 * wg ≤ 8000000 ^ 5 := ⟨Nat.mul_pos d10 wg0, Nat.le_trans (Nat.mul_le_mul d11 wg1) (by decide)⟩
  have dk : DOk (D1 * wg) := ⟨dD.1, Nat.lt_of_le_of_lt dD.2 (by decide)⟩
  have pL3 : Paired (CoQ K (upd H2 lsp (.lst ([w1, w2, w3].set i sv)))) ([w1, w2, w3].set i sv) ((thrL (0, 1) t1 t2).set i (aa.1, m)) := Paired.set' i (CoQ.keep k23 csv) (Paired.mapP pL fun _ _ z => CoQ.keep k23 (CoQ.keep to2.keep z))
  have spL3 : ∀ q ∈ (thrL (0, 1) t1 t2).set i (aa.1, m), SpAt (D1 * wg) q := fun q hq => by
   rcases List.mem_or_eq_of_mem_set hq with z | z
   ·exact (spL q z).up
   ·rw [z]; exact ssm
  have len3 : ((thrL (0, 1) t1 t2).set i (aa.1, m)).length = 3 := by rw [List.length_set]; exact len
  refine ⟨_, rfl, a, _, _, _, rfl, rfl, tt3.sqL ha', rfl, _, rfl, y2, lt2, ll2, lsp, _, p2, D1 * wg, S 2, _, rfl, ta2.tt tt3, ok2, upd_same, pL3, dk, spL3, by rw [len3]; decide, by rw [len3]; decide, tt3.rdy, fun kk v3 q3 H4 to4 hv3 hq3 mx3 => ?_⟩
  have tt4 := tt3.trans (TT.tb tt3.rdyw ne to4)
  have hsp4 := to4.lst (show (upd H2 lsp (.lst ([w1, w2, w3].set i sv))) lsp = some (.lst ([w1, w2, w3].set i sv)) from upd_same)
  have tt5 := tt4.updL (zs := ([w1, w2, w3].set i sv).eraseIdx kk) hsp0 hsp4
  have k45 : Keep H4 (upd H4 lsp (.lst (([w1, w2, w3].set i sv).eraseIdx kk))) := Keep.updL hsp4
  have co5 : ∀ {u : V} {z : Rat × Rat}, CoQ K H2 u z → CoQ K (upd H4 lsp (.lst (([w1, w2, w3].set i sv).eraseIdx kk))) u z := fun c => CoQ.keep k45 (CoQ.keep to4.keep (CoQ.keep k23 c))
  have cv3 := CoQ.keep k45 (CoQ.keep to4.keep (Paired.get pL3 kk v3 q3 hv3 hq3))
  have pL5 : Paired (CoQ K (upd H4 lsp (.lst (([w1, w2, w3].set i sv).eraseIdx kk)))) (([w1, w2, w3].set i sv).eraseIdx kk) (((thrL (0, 1) t1 t2).set i (aa.1, m)).eraseIdx kk) := Paired.erase' kk (Paired.mapP pL3 fun _ _ z => CoQ.keep k45 (CoQ.keep to4.keep z))
  have perm3 := cons_eraseIdx hq3
  have len5 : (((thrL (0, 1) t1 t2).set i (aa.1, m)).eraseIdx kk).length = 2 := by
   have := perm3.length_eq
   rw [List.length_cons, len3] at this
   omega
  have sub5 : ∀ q ∈ ((thrL (0, 1) t1 t2).set i (aa.1, m)).eraseIdx kk, SpAt (D1 * wg) q := fun q hq => spL3 q (perm3.mem_iff.mp (List.mem_cons_of_mem _ hq))
  have hTm5 : SqT K (upd H4 lsp (.lst (([w1, w2, w3].set i sv).eraseIdx kk))) tm [.int i, sv, rv] := k45.sqT (to4.keep.sqT (k23.sqT hTm))
  have hrv5 : (rv = .non ∧ m = aa.2) ∨ (m < aa.2 ∧ CoQ K (upd H4 lsp (.lst (([w1, w2, w3].set i sv).eraseIdx kk))) rv (m, aa.2)) := hrv.imp (fun z => z) fun z => ⟨z.1, co5 z.2⟩
  have ts := trim_sum ok0 th' tr
  have s3 := spL3 q3 (List.mem_of_getElem? hq3)
  have sq5 : (upd H4 lsp (.lst (([w1, w2, w3].set i sv).eraseIdx kk))) lsp = some (.lst (([w1, w2, w3].set i sv).eraseIdx kk)) := upd_same
  refine ⟨_, rfl, _, rfl, lsp, _, _, (aa.1, m), rfl, .of sq5, pL5, co5 csv, _, rfl, ?_⟩
  refine ite2 (fun d => ?_) (fun d => ?_)
  ·have d' : (aa.1, m) ∈ ((thrL (0, 1) t1 t2).set i (aa.1, m)).eraseIdx kk := by
    have d2 := d
    simp only [decide_eq_true_eq] at d2
    exact d2
   refine ⟨_, rfl, .inl ⟨rfl, _, .of sq5⟩, _, rfl, lsp, _, sv, _, (aa.1, m), rfl, rfl, sq5, pL5, co5 csv, d', ?_⟩
   have hj : (((thrL (0, 1) t1 t2).set i (aa.1, m)).eraseIdx kk)[@List.idxOf _ instBEqOfDecidableEq (aa.1, m) (((thrL (0, 1) t1 t2).set i (aa.1, m)).eraseIdx kk)]? = some (aa.1, m) := idx_at d'
   generalize @List.idxOf _ instBEqOfDecidableEq (aa.1, m) (((thrL (0, 1) t1 t2).set i (aa.1, m)).eraseIdx kk) = jj at hj ⊢
   have permj := cons_eraseIdx hj
   obtain ⟨b0, eb0⟩ : ∃ b0, (((thrL (0, 1) t1 t2).set i (aa.1, m)).eraseIdx kk).eraseIdx jj = [b0] := by
    refine List.length_eq_one_iff.mp ?_
    have := permj.length_eq
    rw [List.length_cons, len5] at this
    omega
   have pL6 := Paired.erase' jj pL5
   rw [eb0] at pL6 permj
   generalize (([w1, w2, w3].set i sv).eraseIdx kk).eraseIdx jj = zs6 at pL6 ⊢
   obtain ⟨v0, rfl, cv0'⟩ : ∃ v0, zs6 = [v0] ∧ CoQ K (upd H4 lsp (.lst (([w1, w2, w3].set i sv).eraseIdx kk))) v0 b0 := by
    cases pL6 with
    | cons r t =>
     cases t
     exact ⟨_, rfl, r⟩
   have k56 : Keep (upd H4 lsp (.lst (([w1, w2, w3].set i sv).eraseIdx kk))) (upd (upd H4 lsp (.lst (([w1, w2, w3].set i sv).eraseIdx kk))) lsp (.lst [v0])) := Keep.updL sq5
   have tt6 := tt5.updL (zs := [v0]) hsp0 sq5
   have cv0 := CoQ.keep k56 cv0'
   refine ⟨_, rfl, ?_⟩
   have sb0 := sub5 b0 (permj.mem_iff.mp (by simp))
   exact r6 Q H _ a lsp tm x S v0 sv sv v3 (.int i) rv b0 (aa.1, m) q3 aa m (D1 * wg) _ tt6 ha hT upd_same cv0 (CoQ.keep k56 (co5 csv)) (CoQ.keep k56 cv3) (CoQ.keep k56 (co5 csv)) (k56.sqT hTm5) (hrv5.imp (fun z => z) fun z => ⟨z.1, CoQ.keep k56 z.2⟩) (bs_left ok0 th' tr hq3 mx3 hj eb0) dD sb0 ssm s3 ssm saa.up (.inl ⟨rfl, ts⟩) k
  ·have d' : (aa.1, m) ∉ ((thrL (0, 1) t1 t2).set i (aa.1, m)).eraseIdx kk := fun z => d (by simp only [decide_eq_true_eq]; exact z)
   refine ⟨_, rfl, a, _, _, _, rfl, rfl, tt5.sqL ha', rfl, _, rfl, y1, lt1, ll1, lsp, _, p1, D1 * wg, S 1, _, rfl, ta1.tt tt5, ok1, sq5, pL5, dk, sub5, by rw [len5]; decide, by rw [len5]; decide, tt5.rdy, fun jj v1 q1 H6 to6 hv1 hq1 mx1 => ?_⟩
   have tt6 := tt5.trans (TT.tb tt5.rdyw ne to6)
   have hsp6 := to6.lst sq5
   have permj := cons_eraseIdx hq1
   obtain ⟨b0, eb0⟩ : ∃ b0, (((thrL (0, 1) t1 t2).set i (aa.1, m)).eraseIdx kk).eraseIdx jj = [b0] := by
    refine List.length_eq_one_iff.mp ?_
    have := permj.length_eq
    rw [List.length_cons, len5] at this
    omega
   have pL7 := Paired.erase' jj (Paired.mapP pL5 fun _ _ z => CoQ.keep to6.keep z)
   rw [eb0] at pL7 permj
   obtain ⟨bs, e3, nb⟩ := bs_gone (S2 := S 2) ok0 th' tr hq3 mx3 d' hq1 mx1 eb0
   have cv1' := CoQ.keep to6.keep (Paired.get pL5 jj v1 q1 hv1 hq1)
   generalize (([w1, w2, w3].set i sv).eraseIdx kk).eraseIdx jj = zs6 at pL7 ⊢
   obtain ⟨v0, rfl, cv0'⟩ : ∃ v0, zs6 = [v0] ∧ CoQ K H6 v0 b0 := by
    cases pL7 with
    | cons r t =>
     cases t
     exact ⟨_, rfl, r⟩
   have k67 : Keep H6 (upd H6 lsp (.lst [v0])) := Keep.updL hsp6
   have tt7 := tt6.updL (zs := [v0]) hsp0 hsp6
   have cv0 := CoQ.keep k67 cv0'
   have cv1 := CoQ.keep k67 cv1'
   have sb0 := sub5 b0 (permj.mem_iff.mp (by simp))
   have s1' := sub5 q1 (List.mem_of_getElem? hq1)
   have up7 : ∀ {u : V} {z : Rat × Rat}, CoQ K (upd H4 lsp (.lst (([w1, w2, w3].set i sv).eraseIdx kk))) u z → CoQ K (upd H6 lsp (.lst [v0])) u z := fun c => CoQ.keep k67 (CoQ.keep to6.keep c)
   have hs : wd (S 0) q3 + wd (S 0) (m, aa.2) = 1 / 3 := by rw [e3]; exact ts
   exact r6 Q H _ a lsp tm x S v0 sv v1 v3 (.int i) rv b0 q1 q3 aa m (D1 * wg) _ tt7 ha hT upd_same cv0 cv1 (up7 cv3) (up7 (co5 csv)) (k67.sqT (to6.keep.sqT hTm5)) (hrv5.imp (fun z => z) fun z => ⟨z.1, up7 z.2⟩) bs dD sb0 s1' s3 ssm saa.up (.inr ⟨nb, hs⟩) k
def spThree (K : PySem.W.Frag) (C Pt Pw : Addr) : Sp := fun vs H Q _ => ∃ (se a : Addr) (x : Nat → V) (S : Nat → Steps), vs = [.ref se, .ref a] ∧ SqL K H a [x 0, x 1, x 2] ∧ (∀ t, t < 3 → TasteS K C H (x t) (S t)) ∧ Rdy Pt H ∧ RdW Pw H ∧
 ∀ (r : Addr) (l : Nat → Addr) (us : Nat → List V) (Pc : Nat → List (Rat × Rat)) (D : Nat) (H' : Hp), Dealt3 K Pt Pw S H H' r l us Pc D → Q (.ref r) H'
theorem scThree : FnScope ["self", "tastes"] ["self", "tastes"] (defScope m_Three_deal) := ⟨rfl, rfl, rfl, by decide +kernel, rfl, by decide +kernel, by decide +kernel⟩
theorem ok_three {f : Addr} {fd : FuncData} (D : Fun K "deal" "Three.deal" m_Three_deal f fd) (CT : Cl P w K mg base "check_takers" 2 ["tastes", "fewest", "most"] (spTakers K C)) (CE : Cl P w K mg base "deal_without_envy" 13 ["tastes"] (spEnvy K C Pt Pw)) : FnOk P w K mg base CX0 14 f fd ["self", "tastes"] (spThree K C Pt Pw) := by
 refine D.ok scThree (fun vs H Q E h => ?_) (fun cdv A0 outer s H vs Q E hr h => ?_)
 ·obtain ⟨se, a, x, S, rfl, _⟩ := h
  rfl
 ·obtain ⟨se, a, x, S, rfl, ha, hT, rt, rw', k⟩ := h
  have hr2 : Room 2 _ := hr.mono (by decide)
  refine ⟨_, pss_cons (ps_expr (pe_cl CT hr2 rfl (pa_cons (pv 1) (pa_cons pe_int (pa_cons pe_int pa_nil))))) (pss_one (ps_ret (pe_cl CE hr rfl (pa_cons (pv 1) pa_nil)))), ?_⟩
  refine ⟨_, rfl, a, [x 0, x 1, x 2], [S 0, S 1, S 2], 3, 3, rfl, ha, .cons (hT 0 (by decide)) (.cons (hT 1 (by decide)) (.cons (hT 2 (by decide)) .nil)), (by show (3 : Int) ≤ 3; decide), (by show (3 : Int) ≤ 3; decide), ?_⟩
  exact ⟨_, rfl, a, x, S, rfl, ha, hT, rt, rw', k⟩
end
end FQ
namespace FQ
open PySem L2 FK
def spCell (K : PySem.W.Frag) : Sp := fun vs H Q _ => ∃ (p : Addr) (ns : List Int) (k : Nat), vs = [.ref p, .int k] ∧ SqL K H p (ns.map V.int) ∧ Q (.int (ns.getD k 0)) H
def spMixed : Sp := fun vs H Q _ => ∃ a b : Int, vs = [.int a, .int b] ∧ ∀ r : Int, Q (.int r) H
theorem zeroQ {K : PySem.W.Frag} {H : Hp} {p : Addr} : FrQ K (upd H p (.tup [.int 0, .int 1])) (.ref p) 0 := .of sqT_new rfl rfl
theorem oneQ {K : PySem.W.Frag} {H : Hp} {p : Addr} : FrQ K (upd H p (.tup [.int 1, .int 1])) (.ref p) 1 := .of sqT_new rfl rfl
def spSum (K : PySem.W.Frag) : Sp := fun vs H Q _ => ∃ (x : V) (p : Addr) (q : Rat) (c d : Int), vs = [x, .ref p] ∧ FrQ K H x q ∧ SqT K H p [.int c, .int d] ∧ Fit q ∧ 0 ≤ c ∧ 0 < d ∧ c.natAbs < 2 ^ 1900 ∧ d.natAbs < 2 ^ 1900 ∧ ∀ v H', Same H H' → FrQ K H' v (q + (c : Rat) / (d : Rat)) → Q v H'
section
variable {P : Program} {w : World} {K : PySem.W.Frag} {mg : Str → Option Value} {base : Heap} {aL aR : Addr}
theorem scCell : FnScope ["_law_script", "_law_k"] ["_law_script", "_law_k"] (defScope s__law_cell_at) := ⟨rfl, rfl, rfl, by decide +kernel, rfl, by decide +kernel, by decide +kernel⟩
theorem ok_cell {f : Addr} {fd : FuncData} (D : DefAt K mg "_law_cell_at" s__law_cell_at ["_law_script", "_law_k"] f fd) (T : Txt K mg aL aR) : FnOk P w K mg base CX0 1 f fd ["_law_script", "_law_k"] (spCell K) := by
 refine D.fn.ok scCell (fun vs H Q E h => ?_) (fun cdv A outer s H vs Q E hr h => ?_)
 ·obtain ⟨p, ns, n, rfl, _⟩ := h
  rfl
 ·obtain ⟨p, ns, n, rfl, hp, k⟩ := h
  refine ⟨_, pss_cons (ps_if (pt_cmpR op_lt (pv 1) (pe_callB call_len_seq (by rfl) T.len PySem.boot_len (pa_cons (pv 0) pa_nil)) (nomark _)) (pss_one (ps_ret (pe_ix ix_list (pv 0) (pv 1) (fun _ _ => rfl)))) pss_nil) (pss_one (ps_ret pe_int)), ?_⟩
  refine ⟨_, rfl, _, rfl, p, _, rfl, .inl hp, _, _, rfl, rfl, _, rfl, ?_⟩
  refine ite2 (fun h => ?_) (fun h => ?_)
  ·have h' : (n : Int) < ((ns.map V.int).length : Nat) := of_decide_eq_true h
   rw [List.length_map] at h'
   have hn : n < ns.length := by omega
   refine ⟨_, rfl, _, rfl, p, _, _, _, rfl, rfl, hp, atI_nat (v := V.int (ns.getD n 0)) ?_, k⟩
   rw [List.getElem?_map, List.getD_eq_getElem?_getD, List.getElem?_eq_getElem hn]
   rfl
  ·have h' : ¬ (n : Int) < ((ns.map V.int).length : Nat) := fun z => h (decide_eq_true z)
   rw [List.length_map] at h'
   have e : ns.getD n 0 = 0 := by rw [List.getD_eq_getElem?_getD, List.getElem?_eq_none (by omega)]; rfl
   rw [e] at k
   exact k
theorem scMixed : FnScope ["_law_cell", "_law_k", "_law_found"] ["_law_cell", "_law_k"] (defScope s__law_mixed) := ⟨rfl, rfl, rfl, by decide +kernel, rfl, by decide +kernel, by decide +kernel⟩
theorem ok_mixed {f : Addr} {fd : FuncData} (D : DefAt K mg "_law_mixed" s__law_mixed ["_law_cell", "_law_k"] f fd) : FnOk P w K mg base CX0 1 f fd ["_law_cell", "_law_k"] spMixed := by
 refine D.fn.ok scMixed (fun vs H Q E h => ?_) (fun cdv A outer s H vs Q E hr h => ?_)
 ·obtain ⟨a, b, rfl, _⟩ := h
  rfl
 ·obtain ⟨a, b, rfl, k⟩ := h
  refine ⟨_, pss_cons (ps_set (i := 2) scMixed.nd rfl (Or.inl rfl) (pe_op op_mod (pe_op op_mul (pe_op op_add (pe_op op_add (pv 0) (pe_op op_mul pe_int (pv 1))) pe_int) pe_int) pe_int))
   (pss_one (ps_ret (pe_op op_mod (pe_op op_mul (pv 2) (pv 2)) pe_int))), ?_⟩
  refine ⟨_, rfl, _, rfl, _, _, rfl, rfl, .inl ⟨by decide, by decide⟩, _, _, rfl, rfl, _, _, rfl, rfl, _, _, rfl, rfl, .inr ⟨by decide, by decide⟩, _, _, rfl, rfl, (by show (0 : Int) < 2147483647; decide), ?_⟩
  have h0 := Int.emod_nonneg ((a + 977 * b + 31) * 48271) (show (2147483647 : Int) ≠ 0 by decide)
  have h1 := Int.emod_lt_of_pos ((a + 977 * b + 31) * 48271) (show (0 : Int) < 2147483647 by decide)
  refine ⟨_, rfl, _, rfl, _, _, rfl, rfl, .inl ⟨?_, ?_⟩, _, _, rfl, rfl, (by show (0 : Int) < 2147483629; decide), k _⟩
  ·show -(2 ^ 64) < (a + 977 * b + 31) * 48271 % 2147483647
   omega
  ·show (a + 977 * b + 31) * 48271 % 2147483647 < 2 ^ 64
   omega
theorem scLow : FnScope ["_law_a", "_law_b", "_law_one", "_law_other"] ["_law_a", "_law_b"] (defScope s__law_low) := ⟨rfl, rfl, rfl, by decide +kernel, rfl, by decide +kernel, by decide +kernel⟩
def mu2 (σ : St) : Nat := match σ with
 | [_, _, _, some (.int b)] => b.toNat
 | _ => 0
theorem ok_low {f : Addr} {fd : FuncData} (D : DefAt K mg "_law_low" s__law_low ["_law_a", "_law_b"] f fd) : FnOk P w K mg base CX0 1 f fd ["_law_a", "_law_b"] spMade := by
 refine D.fn.ok scLow (fun vs H Q E h => ?_) (fun cdv A outer s H vs Q E hr h => ?_)
 ·obtain ⟨a, b, rfl, _⟩ := h
  rfl
 ·obtain ⟨a0, b0, rfl, ha, hb, hS, k⟩ := h
  have gp := G_pos (a := a0) hb
  have gS : Sm (G a0 b0) := hS.mono (by have := G_le (a := a0) hb; omega)
  refine ⟨_, pss_cons (ps_set (i := 2) scLow.nd rfl (Or.inl rfl) (pv 0))
   (pss_cons (ps_set (i := 3) scLow.nd rfl (Or.inl rfl) (pv 1))
   (pss_cons (ps_while PassesOwn.never (pt_cmpR op_gt (pv 3) pe_int (nomark _))
    (pss_one (ps_par (i := 2) (j := 3) rfl scLow.nd rfl rfl (by decide) rfl rfl (pa_cons (pv 3) (pa_cons (pe_op op_mod (pv 2) (pv 3)) pa_nil)) rfl)))
   (pss_one (ps_ret (pe_tup (pa_cons (pe_op op_fdivS (pv 0) (pv 2)) (pa_cons (pe_op op_fdivS (pv 1) (pv 2)) pa_nil))))))), ?_⟩
  refine ⟨_, rfl, _, rfl, ?_⟩
  refine while_by (fun σ H' => H' = H ∧ ∃ (a b : Int), σ = [some (.int a0), some (.int b0), some (.int a), some (.int b)] ∧ 0 ≤ a ∧ 0 ≤ b ∧ G a b = G a0 b0) (fun σ _ => mu2 σ) ⟨rfl, a0, b0, rfl, ha, Int.le_of_lt hb, rfl⟩ ?_ ?_
  ·rintro σ H' ⟨rfl, a, b, rfl, ha, hb, e⟩
   refine ⟨_, rfl, _, _, rfl, rfl, _, rfl, ?_⟩
   refine ite2 (fun h => ?_) (fun h => ?_)
   ·have hb' : 0 < b := of_decide_eq_true h
    refine ⟨_, rfl, _, rfl, _, rfl, _, _, rfl, rfl, hb', _, _, rfl, ?_⟩
    refine ⟨⟨rfl, b, a % b, rfl, hb, Int.emod_nonneg _ (by omega), (G_step ha hb').trans e⟩, ?_⟩
    show (a % b).toNat < b.toNat
    have := Int.emod_lt_of_pos a hb'
    omega
   ·have hb' : b = 0 := by
     have : ¬ 0 < b := fun z => h (decide_eq_true z)
     omega
    have e' : a = G a0 b0 := by rw [← e, hb', G_zero ha]
    subst e'
    exact ⟨_, rfl, _, rfl, _, _, rfl, rfl, ⟨gp, gS⟩, _, rfl, _, rfl, _, _, rfl, rfl, ⟨gp, gS⟩, (by show 2 ≤ sizeLine; decide), fun p hp => k p hp⟩
  ·rintro σ H Q Q' hq ⟨v, e, i, j, e1, e2, z, e3, q⟩
   exact ⟨v, e, i, j, e1, e2, z, e3, hq _ _ q⟩
theorem scLess : FnScope ["_law_one", "_law_other"] ["_law_one", "_law_other"] (defScope s__law_less) := ⟨rfl, rfl, rfl, by decide +kernel, rfl, by decide +kernel, by decide +kernel⟩
theorem ok_less {f : Addr} {fd : FuncData} (D : DefAt K mg "_law_less" s__law_less ["_law_one", "_law_other"] f fd) : FnOk P w K mg base CX0 1 f fd ["_law_one", "_law_other"] (spBelow K) := by
 refine D.fn.ok scLess (fun vs H Q E h => ?_) (fun cdv A outer s H vs Q E hr h => ?_)
 ·obtain ⟨x, y, q, r, rfl, _⟩ := h
  rfl
 ·obtain ⟨x, y, u, v, rfl, hx, hy, fu, fv, k⟩ := h
  obtain ⟨p, rfl, hp⟩ := hx.sq
  obtain ⟨q, rfl, hq⟩ := hy.sq
  refine ⟨_, pss_one (ps_ret (pe_cmpR op_lt (pe_op op_mulS (pe_ix ix_tup (pv 0) pe_int (fun _ _ => rfl)) (pe_ix ix_tup (pv 1) pe_int (fun _ _ => rfl))) (pe_op op_mulS (pe_ix ix_tup (pv 1) pe_int (fun _ _ => rfl)) (pe_ix ix_tup (pv 0) pe_int (fun _ _ => rfl))) (nomark _))), ?_⟩
  refine ⟨_, rfl, p, _, _, _, rfl, rfl, hp, rfl, _, rfl, q, _, _, _, rfl, rfl, hq, rfl, _, _, rfl, rfl, ⟨fu.s1, fv.s2⟩, ?_⟩
  refine ⟨_, rfl, q, _, _, _, rfl, rfl, hq, rfl, _, rfl, p, _, _, _, rfl, rfl, hp, rfl, _, _, rfl, rfl, ⟨fv.s1, fu.s2⟩, _, _, rfl, rfl, ?_⟩
  rw [decide_eq_decide.mpr (Rat.lt_iff u v)] at k
  exact k
theorem scSum : FnScope ["_law_one", "_law_other"] ["_law_one", "_law_other"] (defScope s__law_sum) := ⟨rfl, rfl, rfl, by decide +kernel, rfl, by decide +kernel, by decide +kernel⟩
theorem sum_fr {q : Rat} {c d : Int} (hd : 0 < d) : ((q.num * d + c * (q.den : Int) : Int) : Rat) / (((q.den : Int) * d : Int) : Rat) = q + (c : Rat) / (d : Rat) := by
 have h1 := q_eq q
 have h3 := den_ne q
 have h4 : (d : Rat) ≠ 0 := by
  intro z
  have := Rat.intCast_inj.mp (show (d : Rat) = ((0 : Int) : Rat) from z)
  omega
 rw [Rat.intCast_add, Rat.intCast_mul, Rat.intCast_mul, Rat.intCast_mul]
 grind
theorem ok_sum {f : Addr} {fd : FuncData} (D : DefAt K mg "_law_sum" s__law_sum ["_law_one", "_law_other"] f fd) (CL : Cl P w K mg base "_law_low" 1 ["_law_a", "_law_b"] spMade) :
  FnOk P w K mg base CX0 2 f fd ["_law_one", "_law_other"] (spSum K) := by
 refine D.fn.ok scSum (fun vs H Q E h => ?_) (fun cdv A outer s H vs Q E hr h => ?_)
 ·obtain ⟨x, p, q, c, d, rfl, _⟩ := h
  rfl
 ·obtain ⟨x, q, u, c, d, rfl, hx, hq, fu, c0, d0, sc, sd, k⟩ := h
  obtain ⟨p, rfl, hp⟩ := hx.sq
  refine ⟨_, pss_one (ps_ret (pe_cl CL hr rfl
   (pa_cons (pe_op op_add (pe_op op_mulS (pe_ix ix_tup (pv 0) pe_int (fun _ _ => rfl)) (pe_ix ix_tup (pv 1) pe_int (fun _ _ => rfl))) (pe_op op_mulS (pe_ix ix_tup (pv 1) pe_int (fun _ _ => rfl)) (pe_ix ix_tup (pv 0) pe_int (fun _ _ => rfl))))
   (pa_cons (pe_op op_mulS (pe_ix ix_tup (pv 0) pe_int (fun _ _ => rfl)) (pe_ix ix_tup (pv 1) pe_int (fun _ _ => rfl))) pa_nil)))), ?_⟩
  have c' : Sm c := .of_bits sc (by decide)
  have d' : Sm d := .of_bits sd (by decide)
  have b0 := den_pos u
  refine ⟨_, rfl, p, _, _, _, rfl, rfl, hp, rfl, _, rfl, q, _, _, _, rfl, rfl, hq, rfl, _, _, rfl, rfl, ⟨fu.s1, d'⟩, ?_⟩
  refine ⟨_, rfl, q, _, _, _, rfl, rfl, hq, rfl, _, rfl, p, _, _, _, rfl, rfl, hp, rfl, _, _, rfl, rfl, ⟨c', fu.s2⟩, _, _, rfl, rfl, ?_⟩
  refine ⟨_, rfl, p, _, _, _, rfl, rfl, hp, rfl, _, rfl, q, _, _, _, rfl, rfl, hq, rfl, _, _, rfl, rfl, ⟨fu.s2, d'⟩, ?_⟩
  have hb : 0 < (u.den : Int) * d := Int.mul_pos b0 d0
  refine ⟨_, _, rfl, Int.add_nonneg (Int.mul_nonneg fu.nn (Int.le_of_lt d0)) (Int.mul_nonneg c0 (Int.le_of_lt b0)), hb, sm_mul (m := 1900) (n := 1900) (by rw [Int.natAbs_natCast]; exact fu.2.2) sd (by decide), fun r hr' => k _ _ (Same.upd hr') ?_⟩
  obtain ⟨l1, l2⟩ := low_fr (a := u.num * d + c * (u.den : Int)) hb
  rw [sum_fr d0] at l1 l2
  exact .of sqT_new l1 l2
theorem scLeft : FnScope ["_law_one", "_law_other"] ["_law_one", "_law_other"] (defScope s__law_left) := ⟨rfl, rfl, rfl, by decide +kernel, rfl, by decide +kernel, by decide +kernel⟩
theorem ok_left {f : Addr} {fd : FuncData} (D : DefAt K mg "_law_left" s__law_left ["_law_one", "_law_other"] f fd) (CL : Cl P w K mg base "_law_low" 1 ["_law_a", "_law_b"] spMade) :
  FnOk P w K mg base CX0 2 f fd ["_law_one", "_law_other"] (spMinus K) := by
 refine FnOk.imp (sp := spTwo K (fun a b c d => a * d - c * b) (fun _ b _ d => b * d)) ?_ left_op
 refine D.fn.ok scLeft (fun vs H Q E h => ?_) (fun cdv A outer s H vs Q E hr h => ?_)
 ·obtain ⟨p, q, a, b, c, d, rfl, _⟩ := h
  rfl
 ·obtain ⟨p, q, a, b, c, d, rfl, hp, hq, ⟨sa, sb, sc, sd⟩, ⟨n1, n2, n3⟩, k⟩ := h
  refine ⟨_, pss_one (ps_ret (pe_cl CL hr rfl
   (pa_cons (pe_op op_sub (pe_op op_mulS (pe_ix ix_tup (pv 0) pe_int (fun _ _ => rfl)) (pe_ix ix_tup (pv 1) pe_int (fun _ _ => rfl))) (pe_op op_mulS (pe_ix ix_tup (pv 1) pe_int (fun _ _ => rfl)) (pe_ix ix_tup (pv 0) pe_int (fun _ _ => rfl))))
   (pa_cons (pe_op op_mulS (pe_ix ix_tup (pv 0) pe_int (fun _ _ => rfl)) (pe_ix ix_tup (pv 1) pe_int (fun _ _ => rfl))) pa_nil)))), ?_⟩
  refine ⟨_, rfl, p, _, _, _, rfl, rfl, hp, rfl, _, rfl, q, _, _, _, rfl, rfl, hq, rfl, _, _, rfl, rfl, ⟨sa, sd⟩, ?_⟩
  refine ⟨_, rfl, q, _, _, _, rfl, rfl, hq, rfl, _, rfl, p, _, _, _, rfl, rfl, hp, rfl, _, _, rfl, rfl, ⟨sc, sb⟩, _, _, rfl, rfl, ?_⟩
  refine ⟨_, rfl, p, _, _, _, rfl, rfl, hp, rfl, _, rfl, q, _, _, _, rfl, rfl, hq, rfl, _, _, rfl, rfl, ⟨sb, sd⟩, ?_⟩
  exact ⟨_, _, rfl, n1, n2, n3, k⟩
end
end FQ
namespace FQ
open PySem L2 FK
def spLFrac (K : PySem.W.Frag) : Sp := fun vs H Q _ => ∃ (x : V) (q : Rat), vs = [x] ∧ FrQ K H x q ∧ Fit q ∧ ∀ H', Same H H' → Q (.bl true) H'
section
variable {P : Program} {w : World} {K : PySem.W.Frag} {mg : Str → Option Value} {base : Heap} {aL aR C : Addr}
theorem scLFrac : FnScope ["_law_thing"] ["_law_thing"] (defScope s__law_fraction) := ⟨rfl, rfl, rfl, by decide +kernel, rfl, by decide +kernel, by decide +kernel⟩
theorem ok_lfrac {f : Addr} {fd : FuncData} (D : DefAt K mg "_law_fraction" s__law_fraction ["_law_thing"] f fd) (CL : Cl P w K mg base "_law_low" 1 ["_law_a", "_law_b"] (spMadeQ K)) (T : Txt K mg aL aR) : FnOk P w K mg base CX0 2 f fd ["_law_thing"] (spLFrac K) := by
 refine D.fn.ok scLFrac (fun vs H Q E h => ?_) (fun cdv A outer s H vs Q E hr h => ?_)
 ·obtain ⟨x, q, rfl, _⟩ := h
  rfl
 ·obtain ⟨x, q, rfl, hx, fq, k⟩ := h
  obtain ⟨p, rfl, hp⟩ := hx.sq
  have hu : _ + (0 + 1) < cLine := hu_of hr
  refine ⟨_, pss_cons (ps_if (PW.pt (pw_or (pt_not (pt_val (pe_isi (pv 0) rfl T.isi rfl T.tuple PyProof.Rows.boot_tuple))) (pw_or1 (pt_cmpR op_ne (pe_callB call_len_seq (by rfl) T.len PySem.boot_len (pa_cons (pv 0) pa_nil)) pe_int (nomark _))))) pss_never pss_nil)
   (pss_cons (ps_if (pt_val (pe_callB (call_any rfl) (by rfl) T.any PyProof.Rows.boot_any (pa_cons
    (pe_comp ["_law_one"] rfl (CompOk.plain rfl (by decide +kernel) (by decide +kernel) (by decide +kernel)) (pi_tup (pv 0)) (fun _ => pg_name (i := 0) (show [Str.ofString "_law_one"].Nodup by decide +kernel) rfl (Or.inl rfl)) (fun _ => pifs_nil)
     (fun _ => pe_or (pe_isi (pv 0) rfl T.isi rfl T.bool PyProof.Rows.boot_bool) (pe_one (pe_not (pe_isi (pv 0) rfl T.isi rfl T.int PyProof.Rows.boot_int))))) pa_nil))) pss_never pss_nil)
   (pss_one (ps_ret (pe_and (pe_cmpR op_ge (pe_ix ix_tup (pv 0) pe_int (fun _ _ => rfl)) pe_int (nomark _)) (pe_and (pe_cmpR op_gt (pe_ix ix_tup (pv 0) pe_int (fun _ _ => rfl)) pe_int (nomark _))
    (pe_one (pe_cmpR (op_eqP rpe_int rpe_int hu) (pe_cl CL hr rfl (pa_cons (pe_ix ix_tup (pv 0) pe_int (fun _ _ => rfl)) (pa_cons (pe_ix ix_tup (pv 0) pe_int (fun _ _ => rfl)) pa_nil))) (pv 0) (nomark _)))))))), ?_⟩
  refine ⟨_, rfl, _, _, .sqT hp, kit_tuple _, _, rfl, iteF ?_⟩
  refine ⟨_, rfl, p, _, rfl, .inr hp, rfl, _, rfl, iteNS rfl ?_⟩
  refine ⟨_, rfl, p, rfl, ⟨_, hp⟩, fun D' hD => ?_⟩
  refine comp_tup (K := K) (a := p) (D := D') (xs := [.int q.num, .int (q.den : Int)]) (fun i ys σ H' => Same H H' ∧ H' D' = some (.lst ys) ∧ ys = List.replicate i (.bl false) ∧ ∃ v, σ = [v]) (by show 2 ≤ sizeLine; decide) ⟨Same.upd hD, upd_same, rfl, _, rfl⟩ ?_ ?_ ?_
  ·rintro i ys σ H' _ ⟨s2, h2, rfl, _⟩
   exact ⟨s2.sqT hp, h2, by rw [List.length_replicate]; exact Nat.le_refl _⟩
  ·rintro i x ys σ H' hx ⟨s2, h2, rfl, v, rfl⟩ c
   obtain ⟨z, rfl⟩ : ∃ z, x = V.int z := by
    match i, hx with
    | 0, hx => exact ⟨_, (Option.some.inj hx).symm⟩
    | 1, hx => exact ⟨_, (Option.some.inj hx).symm⟩
    | n + 2, hx => simp at hx
   refine ⟨_, rfl, _, _, .of (.int _), kit_int_bool _, _, rfl, iteF ?_⟩
   refine ⟨_, rfl, _, _, .of (.int _), kit_int _, _, rfl, h2, ?_⟩
   exact ⟨s2.updN hD, upd_same, (List.replicate_succ' (n := i)).symm, _, rfl⟩
  ·rintro ys σ H' ⟨s2, h2, rfl, _⟩
   have hp2 := s2.sqT hp
   refine ⟨D', [false, false], rfl, .of h2, _, rfl, iteF ?_⟩
   have n0 := fq.nn
   have d0 := den_pos q
   refine ⟨_, rfl, p, _, _, _, rfl, rfl, hp2, rfl, _, _, rfl, rfl, _, rfl, iteY n0 ?_⟩
   refine ⟨_, rfl, p, _, _, _, rfl, rfl, hp2, rfl, _, _, rfl, rfl, _, rfl, iteY d0 ?_⟩
   refine ⟨_, rfl, p, _, _, _, rfl, rfl, hp2, rfl, _, rfl, p, _, _, _, rfl, rfl, hp2, rfl, q.num, (q.den : Int), rfl, n0, d0, fq.s2, fun v H2 s3 d => ?_⟩
   rw [q_eq] at d
   refine ⟨_, rfl, _, _, d, hx.same (s2.trans s3), ?_⟩
   rw [decide_eq_true (show fr q = fr q from rfl)]
   exact k H2 (s2.trans s3)
end
end FQ
namespace FQ
open PySem L2 FK
def spLPiece (K : PySem.W.Frag) : Sp := fun vs H Q _ => ∃ (a : Addr) (xs : List V) (D : Nat) (L : List (Rat × Rat)), vs = [.ref a] ∧ SqL K H a xs ∧ Paired (CoQ K H) xs L ∧ PcOk D L ∧ ∀ H', Same H H' → Q (.bl true) H'
section
variable {P : Program} {w : World} {K : PySem.W.Frag} {mg : Str → Option Value} {base : Heap} {aL aR C : Addr}
theorem scLPiece : FnScope ["_law_piece_here", "_law_last", "_law_span"] ["_law_piece_here"] (defScope s__law_piece) := ⟨rfl, rfl, rfl, by decide +kernel, rfl, by decide +kernel, by decide +kernel⟩
theorem ok_lpiece {f : Addr} {fd : FuncData} (D : DefAt K mg "_law_piece" s__law_piece ["_law_piece_here"] f fd) (CF : Cl P w K mg base "_law_fraction" 2 ["_law_thing"] (spLFrac K)) (CL : Cl P w K mg base "_law_less" 1 ["_law_one", "_law_other"] (spBelow K)) (T : Txt K mg aL aR) : FnOk P w K mg base CX0 3 f fd ["_law_piece_here"] (spLPiece K) := by
 refine D.fn.ok scLPiece (fun vs H Q E h => ?_) (fun cdv A outer s H vs Q E hr h => ?_)
 ·obtain ⟨a, xs, D, L, rfl, _⟩ := h
  rfl
 ·obtain ⟨a, xs, D, L, rfl, ha, hL, pk, k⟩ := h
  have hr1 : Room 1 _ := hr.mono (by decide)
  refine ⟨_, pss_cons (ps_if (pt_not (pt_val (pe_isi (pv 0) rfl T.isi rfl T.list PyProof.Rows.boot_list))) pss_never pss_nil)
   (pss_cons (ps_set (i := 1) scLPiece.nd rfl (Or.inl rfl) pe_non)
   (pss_cons (ps_for PassesOwn.never rfl (pi_list (pv 0)) (pg_name (i := 2) scLPiece.nd rfl (Or.inl rfl))
    (pss_cons (ps_if (PW.pt (pw_or (pt_not (pt_val (pe_isi (pv 2) rfl T.isi rfl T.tuple PyProof.Rows.boot_tuple))) (pw_or (pt_cmpR op_ne (pe_callB call_len_seq (by rfl) T.len PySem.boot_len (pa_cons (pv 2) pa_nil)) pe_int (nomark _))
     (pw_or (pt_not (pt_val (pe_cl CF hr rfl (pa_cons (pe_ix ix_tup (pv 2) pe_int (fun _ _ => rfl)) pa_nil)))) (pw_or1 (pt_not (pt_val (pe_cl CF hr rfl (pa_cons (pe_ix ix_tup (pv 2) pe_int (fun _ _ => rfl)) pa_nil))))))))) pss_never pss_nil)
    (pss_cons (ps_if (PW.pt (pw_or (pt_not (pt_val (pe_cl CL hr1 rfl (pa_cons (pe_ix ix_tup (pv 2) pe_int (fun _ _ => rfl)) (pa_cons (pe_ix ix_tup (pv 2) pe_int (fun _ _ => rfl)) pa_nil))))) (pw_or1 (pt_val (pe_cl CL hr1 rfl (pa_cons (pe_tup (pa_cons pe_int (pa_cons pe_int pa_nil))) (pa_cons (pe_ix ix_tup (pv 2) pe_int (fun _ _ => rfl)) pa_nil))))))) pss_never pss_nil)
    (pss_cons (ps_if (PW.pt (pw_and (pt_cmpR op_notN (pv 1) pe_non (nomark _)) (pw_and1 (pt_not (pt_val (pe_cl CL hr1 rfl (pa_cons (pv 1) (pa_cons (pe_ix ix_tup (pv 2) pe_int (fun _ _ => rfl)) pa_nil)))))))) pss_never pss_nil)
    (pss_one (ps_set (i := 1) scLPiece.nd rfl (Or.inl rfl) (pe_ix ix_tup (pv 2) pe_int (fun _ _ => rfl))))))))
   (pss_one (ps_ret pe_bl)))), ?_⟩
  refine ⟨_, rfl, _, _, .sqL ha, kit_list _, _, rfl, iteF ?_⟩
  refine ⟨_, rfl, a, rfl, ⟨_, ha⟩, ?_⟩
  refine for_list (K := K) (a := a) (xs := xs) (fun i σ H' => Same H H' ∧ ∃ (r : V) (sp : Option V), σ = [some (.ref a), some r, sp] ∧ ((i = 0 ∧ r = .non) ∨ ∃ j q, i = j + 1 ∧ L[j]? = some q ∧ FrQ K H' r q.2))
   ⟨Same.refl _, _, _, rfl, .inl ⟨rfl, rfl⟩⟩ (fun i σ H' _ h => h.1.seq ha) ?_ ?_
  ·rintro i x σ H' hx ⟨s1, r, sp, rfl, hR⟩
   obtain ⟨q, hq, p0, y, z, rfl, hp0, hy, hz⟩ := Paired.get1 hL i x hx
   have wq := pk.win q (List.mem_of_getElem? hq)
   have fq := pk.fit q (List.mem_of_getElem? hq)
   have f1 : Fit q.1 := Bd.fit fq.1 wq.1 (by decide)
   have f2 : Fit q.2 := Bd.fit fq.2 (by grind) (by decide)
   have hp1 := s1.sqT hp0
   refine ⟨_, rfl, _, _, .sqT hp1, kit_tuple _, _, rfl, iteF ?_⟩
   refine ⟨_, rfl, p0, _, rfl, .inr hp1, rfl, _, rfl, iteNS rfl ?_⟩
   refine ⟨_, rfl, p0, _, _, _, rfl, rfl, hp1, rfl, y, q.1, rfl, hy.same s1, f1, fun H2 s2 => ⟨_, rfl, iteF ?_⟩⟩
   have s12 := s1.trans s2
   refine ⟨_, rfl, p0, _, _, _, rfl, rfl, s12.sqT hp0, rfl, z, q.2, rfl, hz.same s12, f2, fun H3 s3 => ⟨_, rfl, iteF ?_⟩⟩
   have s13 := s12.trans s3
   have hp3 := s13.sqT hp0
   refine ⟨_, rfl, p0, _, _, _, rfl, rfl, hp3, rfl, _, rfl, p0, _, _, _, rfl, rfl, hp3, rfl, y, z, q.1, q.2, rfl, hy.same s13, hz.same s13, f1, f2, _, rfl, iteNS wq.2.1 ?_⟩
   refine ⟨(by show 2 ≤ sizeLine; decide), fun t ht => ?_⟩
   have s4 := Same.upd (o := .tup [.int 1, .int 1]) ht
   have s14 := s13.trans s4
   have hp4 := s14.sqT hp0
   refine ⟨_, rfl, p0, _, _, _, rfl, rfl, hp4, rfl, .ref t, z, 1, q.2, rfl, oneQ, hz.same s14, Fit.one, f2, _, rfl, iteN (show ¬ (1 : Rat) < q.2 by grind) ?_⟩
   have fin : Same H (upd H3 t (.tup [.int 1, .int 1])) ∧ ∃ (r : V) (sp : Option V), [some (V.ref a), some z, some (V.ref p0)] = [some (.ref a), some r, sp] ∧ ((i + 1 = 0 ∧ r = .non) ∨ ∃ j q, i + 1 = j + 1 ∧ L[j]? = some q ∧ FrQ K (upd H3 t (.tup [.int 1, .int 1])) r q.2) :=
    ⟨s14, z, _, rfl, .inr ⟨i, q, rfl, hq, hz.same s14⟩⟩
   refine ⟨_, rfl, rfl, _, rfl, ?_⟩
   rcases hR with ⟨_, rfl⟩ | ⟨j, q0, hj, hq0, hr0⟩
   ·refine iteNS rfl (iteF ?_)
    exact ⟨_, rfl, p0, _, _, _, rfl, rfl, hp4, rfl, fin⟩
   ·have w0 := pk.win q0 (List.mem_of_getElem? hq0)
    have f0 := pk.fit q0 (List.mem_of_getElem? hq0)
    have ap : q0.2 < q.1 := by
     obtain ⟨l1, e1⟩ := List.getElem?_eq_some_iff.mp hq0
     obtain ⟨l2, e2⟩ := List.getElem?_eq_some_iff.mp hq
     have := List.pairwise_iff_getElem.mp pk.apart j i l1 l2 (by omega)
     rw [e1, e2] at this
     exact this
    obtain ⟨p2, rfl, h2⟩ := hr0.sq
    refine iteNN (fun z => nomatch z) ?_
    refine ⟨_, rfl, _, rfl, p0, _, _, _, rfl, rfl, hp4, rfl, .ref p2, y, q0.2, q.1, rfl, hr0.same (s2.trans (s3.trans s4)), hy.same s14, Bd.fit f0.2 (by grind) (by decide), f1, _, rfl, ?_⟩
    refine iteNS ap ?_
    exact ⟨_, rfl, p0, _, _, _, rfl, rfl, hp4, rfl, fin⟩
  ·rintro σ H' ⟨s1, r, sp, rfl, _⟩
   exact k H' s1
end
end FQ
namespace FQ
open PySem L2 FK
theorem RpE.mono {α : Type} [DecidableEq α] {K : PySem.W.Frag} {R : Hp → V → α → Prop} {d e : Nat} (h : RpE K R d) (le : d ≤ e) : RpE K R e :=
 ⟨fun hK I h1 h2 => h.inj hK I h1 h2, fun hK I hu h1 h2 r1 r2 => h.eq hK I (by omega) h1 h2 r1 r2⟩
theorem rpe_st {K : PySem.W.Frag} : RpE K (StQ K) 2 := rpe_pair rpe_fr (RpE.mono rpe_int (by decide))
theorem rpe_co {K : PySem.W.Frag} : RpE K (CoQ K) 2 := rpe_pair rpe_fr rpe_fr
def PcS (K : PySem.W.Frag) (H : Hp) (x : V) (L : List (Rat × Rat)) : Prop := ∃ l zs D, x = .ref l ∧ H l = some (.lst zs) ∧ Paired (CoQ K H) zs L ∧ PcOk D L
def spDealt (K : PySem.W.Frag) : Sp := fun vs H Q _ => ∃ (a : Addr) (n : Nat) (xs : List V) (Ls : List (List (Rat × Rat))) (C : List (Rat × Rat)), vs = [.ref a, .int n] ∧ SqL K H a xs ∧ Paired (PcS K H) xs Ls ∧ xs.length = n ∧ n ≤ 1000 ∧ Ls.flatten.Perm C ∧ C.length ≤ 1000 ∧ Ch 0 C 1 ∧ (∀ q ∈ C, Fit q.1 ∧ Fit q.2) ∧
 ∀ H', Same H H' → Q (.bl true) H'
abbrev ND : List Str := ["_law_pieces", "_law_many", "_law_piece_here", "_law_point", "_law_spans", "_law_ahead"]
theorem scDealt : FnScope ND ["_law_pieces", "_law_many"] (defScope s__law_dealt) := ⟨rfl, rfl, rfl, by decide +kernel, rfl, by decide +kernel, by decide +kernel⟩
theorem Paired.erase {α β : Type} {F : α → β → Prop} : ∀ {xs : List α} {ys : List β} (i : Nat), Paired F xs ys → Paired F (xs.eraseIdx i) (ys.eraseIdx i)
 | _, _, i, .nil => by rw [List.eraseIdx_nil, List.eraseIdx_nil]; exact .nil
 | _, _, 0, .cons r t => t
 | _, _, i + 1, .cons r t => .cons r (Paired.erase i t)
def muD (σ : St) (H : Hp) : Nat := match σ with
 | [_, _, _, _, some (.ref sp), _] => match H sp with
  | some (.lst zs) => zs.length
  | _ => 0
 | _ => 0
section
variable {P : Program} {w : World} {K : PySem.W.Frag} {mg : Str → Option Value} {base : Heap} {aL aR C : Addr}
theorem ok_dealt {f : Addr} {fd : FuncData} (D : DefAt K mg "_law_dealt" s__law_dealt ["_law_pieces", "_law_many"] f fd) (CP : Cl P w K mg base "_law_piece" 3 ["_law_piece_here"] (spLPiece K)) (T : Txt K mg aL aR) (hall : mg "all" = none) : FnOk P w K mg base CX0 4 f fd ["_law_pieces", "_law_many"] (spDealt K) := by
 refine D.fn.ok scDealt (fun vs H Q E h => ?_) (fun cdv A outer s H vs Q E hr h => ?_)
 ·obtain ⟨a, n, xs, Ls, C, rfl, _⟩ := h
  rfl
 ·obtain ⟨a, n, xs, Ls, C, rfl, ha, hL, hn, n1000, perm, c1000, ch, cf, k⟩ := h
  have hu : _ + (0 + 1) < cLine := hu_of hr
  have hu3 : _ + (2 + 1) < cLine := Nat.lt_of_le_of_lt (Nat.add_le_add_left (by decide : 3 ≤ 64) _) hr.units
  have big : 10000 ≤ sizeLine := by decide
  have lX := hL.length
  obtain ⟨t4, h4, r4⟩ : ∃ t, PSs (cx P w K mg base ND "_law_dealt" s__law_dealt f cdv A outer s H E) (List.drop 4 (defBody s__law_dealt)) t ∧ ∀ (Q : VK) (H5 : Hp) (sp t' : Addr) (zs : List V) (R0 C0 : List (Rat × Rat)) (x2 x5 : Option V), Same H H5 → H sp = none → H5 sp = some (.lst zs) → FrQ K H5 (.ref t') 0 → Paired (CoQ K H5) zs R0 → R0.Perm C0 → Ch 0 C0 1 → (∀ q ∈ C0, Fit q.1 ∧ Fit q.2) → C0.length ≤ 1000 → (∀ H', Same H H' → Q (.bl true) H') →
    t { nx := fun _ H' => Q .non H', rt := Q } [some (.ref a), some (.int n), x2, some (.ref t'), some (.ref sp), x5] H5 := by
   refine ⟨_, (pss_cons (ps_while PassesOwn.never (pt_truth (pv 4) (fun _ => rfl))
    (pss_cons (ps_comp ["_law_span"] (i := 5) scDealt.nd rfl (Or.inl rfl) rfl (CompOk.free1 (F := ["_law_point"]) (js := [3]) rfl (by decide +kernel) (by decide +kernel) rfl ⟨rfl, trivial⟩ rfl ⟨⟨rfl, rfl, .inl rfl⟩, trivial⟩) (pi_list (pv 4))
     (fun _ => pg_name (i := 0) (show [Str.ofString "_law_span", Str.ofString "_law_point"].Nodup by decide +kernel) rfl (Or.inl rfl)) (fun _ => pifs_one (pt_cmpR (op_eqP rpe_int rpe_int hu) (pe_ix ix_tup (pv 0) pe_int (fun _ _ => rfl)) (pv 1) (nomark _))) (fun _ => pv 0))
    (pss_cons (ps_if (pt_cmpR op_ne (pe_callB call_len_seq (by rfl) T.len PySem.boot_len (pa_cons (pv 5) pa_nil)) pe_int (nomark _)) pss_never pss_nil)
    (pss_cons (ps_expr (pe_bm PySem.F.plainAttrs_list PySem.F.slot_list_remove PySem.F.type_list_remove (mt_remove rpe_co hu3) (pv 4) (pa_cons (pe_ix ix_list (pv 5) pe_int (fun _ _ => rfl)) pa_nil)))
    (pss_one (ps_set (i := 3) scDealt.nd rfl (Or.inr rfl) (pe_ix ix_tup (pe_ix ix_list (pv 5) pe_int (fun _ _ => rfl)) pe_int (fun _ _ => rfl))))))))
   (pss_one (ps_ret (pe_cmpR (op_eqP rpe_int rpe_int hu) (pv 3) (pe_tup (pa_cons pe_int (pa_cons pe_int pa_nil))) (nomark _))))), ?_⟩
   intro Q H5 sp t zs R0 C0 x2 x5 s5 hsp0 hz ht0 pz perm ch cf c1000 k
   refine while_by (fun σ H' => Same H H' ∧ ∃ (zs : List V) (R C' : List (Rat × Rat)) (c : Rat) (v : V) (x5 : Option V), σ = [some (.ref a), some (.int n), x2, some v, some (.ref sp), x5] ∧ H' sp = some (.lst zs) ∧ FrQ K H' v c ∧ Fit c ∧ Paired (CoQ K H') zs R ∧ R.Perm C' ∧ Ch c C' 1 ∧ (∀ q ∈ C', Fit q.1 ∧ Fit q.2) ∧ C'.length ≤ 1000) muD
    ⟨s5, zs, R0, C0, 0, .ref t, _, rfl, hz, ht0, Fit.zero, pz, perm, ch, cf, c1000⟩ ?_ ?_
   ·rintro σ H6 ⟨s6, zs, R, C', c, v, x5, rfl, hz, hv, fc, pz, perm, ch, cf, cl⟩
    refine ⟨_, rfl, !zs.isEmpty, .inl ⟨zs, .of hz, rfl⟩, ?_⟩
    have lz := pz.length
    have lp := perm.length_eq
    cases C' with
    | nil =>
     have e : zs = [] := List.length_eq_zero_iff.mp (by simp at lp; rw [lz, lp]; rfl)
     subst e
     refine iteF ?_
     have e1 : c = 1 := ch
     refine ⟨_, rfl, (by show 2 ≤ sizeLine; decide), fun t2 ht2 => ?_⟩
     have s7 := Same.upd (o := .tup [.int 1, .int 1]) ht2
     refine ⟨_, _, hv.same s7, oneQ, ?_⟩
     rw [e1, decide_eq_true (show fr 1 = fr 1 from rfl)]
     exact k _ (s6.trans s7)
    | cons q C' =>
     have zne : (!zs.isEmpty) = true := by
      cases zs with
      | nil => simp at lz; rw [lp] at lz; simp at lz
      | cons _ _ => rfl
     rw [zne]
     refine iteT ?_
     have hq := ch.ones perm
     have qm : q ∈ R := perm.mem_iff.mpr List.mem_cons_self
     have fq := cf q List.mem_cons_self
     refine ⟨_, rfl, sp, rfl, ⟨_, .of hz⟩, fun D2 hD2 => ?_⟩
     have ne2 : sp ≠ D2 := ne_of_none hz hD2
     have lz1 : zs.length ≤ 1000 := by
      rw [lz, lp]
      exact cl
     refine comp_list (K := K) (a := sp) (D := D2) (xs := zs) (fun i ys σ H' => Same H6 H' ∧ H' D2 = some (.lst ys) ∧ Paired (CoQ K H') ys ((R.take i).filter fun p => decide (p.1 = c)) ∧ ys.length ≤ i ∧ ∃ x0, σ = [x0, some v]) (by omega) ⟨Same.upd hD2, upd_same, .nil, Nat.zero_le _, _, rfl⟩ ?_ ?_ ?_
     ·rintro i ys σ H' _ ⟨s7, h7, p7, l7, _⟩
      exact ⟨.of (s7 _ _ hz), h7, l7⟩
     ·rintro i x ys σ H' hx ⟨s7, h7, p7, l7, x0, rfl⟩ cc
      obtain ⟨r, hr', p0, y1, y2, rfl, hp0, hy1, hy2⟩ := Paired.get1 pz i x hx
      refine ⟨_, rfl, p0, _, _, _, rfl, rfl, s7.sqT hp0, rfl, _, rfl, _, _, hy1.same s7, hv.same s7, _, rfl, ?_⟩
      rw [fr_dec]
      have et : (R.take (i + 1)).filter (fun p => decide (p.1 = c)) = (R.take i).filter (fun p => decide (p.1 = c)) ++ [r].filter (fun p => decide (p.1 = c)) := by
       rw [take_snoc hr', List.filter_append]
      refine ite2 (fun hc => ?_) (fun hc => ?_)
      ·refine ⟨_, rfl, h7, s7.updN hD2, upd_same, ?_, by rw [List.length_append]; show ys.length + 1 ≤ i + 1; omega, _, rfl⟩
       have k1 := Keep.updL (o := .lst (ys ++ [.ref p0])) h7
       rw [et, List.filter_cons_of_pos (p := fun p : Rat × Rat => decide (p.1 = c)) hc, List.filter_nil]
       exact Paired.app (Paired.mapP p7 fun _ _ z => CoQ.keep k1 z) (.cons (CoQ.keep k1 ⟨p0, y1, y2, rfl, s7.sqT hp0, hy1.same s7, hy2.same s7⟩) .nil)
      ·refine ⟨s7, h7, ?_, by omega, _, rfl⟩
       rw [et, List.filter_cons_of_neg (p := fun p : Rat × Rat => decide (p.1 = c)) hc, List.filter_nil, List.append_nil]
       exact p7
     ·rintro ys σ H7 ⟨s7, h7, p7, l7, _⟩
      rw [List.take_of_length_le (by omega), hq] at p7
      obtain ⟨v0, rfl, hv0⟩ : ∃ v0, ys = [v0] ∧ CoQ K H7 v0 q := by
       cases p7 with
       | cons r t =>
        cases t
        exact ⟨_, rfl, r⟩
      have hz7 := s7 _ _ hz
      refine ⟨_, rfl, D2, _, rfl, .inl (.of h7), rfl, _, rfl, iteNS rfl ?_⟩
      refine ⟨_, rfl, .inl ⟨rfl, _, .of hz7⟩, _, rfl, D2, _, _, _, rfl, rfl, .of h7, rfl, ?_⟩
      refine ⟨sp, zs, v0, R, q, rfl, rfl, hz7, Paired.mapP pz fun _ _ z => CoQ.same s7 z, hv0, qm, ?_⟩
      have k2 := Keep.updL (o := .lst (zs.eraseIdx (ixO q R))) hz7
      have h78 : (upd H7 sp (.lst (zs.eraseIdx (ixO q R)))) D2 = some (.lst [v0]) := by rw [upd_ne ne2.symm]; exact h7
      obtain ⟨p0, y1, y2, rfl, hp0, hy1, hy2⟩ := id hv0
      refine ⟨_, rfl, D2, _, _, _, rfl, rfl, .of h78, rfl, p0, _, _, _, rfl, rfl, k2.sqT hp0, rfl, ?_⟩
      refine ⟨⟨(s6.trans s7).updN hsp0, zs.eraseIdx (ixO q R), R.eraseIdx (ixO q R), C', q.2, y2, _, rfl, upd_same, hy2.keep k2, fq.2, ?_, perm_erase perm, ch.2.2, fun r hr' => cf r (List.mem_cons_of_mem _ hr'), ?_⟩, ?_⟩
      ·exact Paired.mapP (Paired.erase _ pz) fun _ _ z => CoQ.keep k2 (CoQ.same s7 z)
      ·simp at cl
       omega
      ·show muD [_, _, _, _, some (.ref sp), _] (upd H7 sp (.lst (zs.eraseIdx (ixO q R)))) < muD [_, _, _, _, some (.ref sp), _] H6
       unfold muD
       simp only [upd_same, hz]
       have li : ixO q R < R.length := ixO_lt qm
       rw [List.length_eraseIdx_of_lt (by omega)]
       omega
   ·rintro σ H Q Q' hq ⟨v, e, b, tb, q⟩
    exact ⟨v, e, b, tb, hq _ _ q⟩
  refine ⟨_, pss_cons (ps_if (PW.pt (pw_or (pt_not (pt_val (pe_isi (pv 0) rfl T.isi rfl T.list PyProof.Rows.boot_list))) (pw_or (pt_cmpR op_ne (pe_callB call_len_seq (by rfl) T.len PySem.boot_len (pa_cons (pv 0) pa_nil)) (pv 1) (nomark _))
    (pw_or1 (pt_not (pt_val (pe_callB (call_all rfl) (by rfl) hall (by decide +kernel : bootBuiltins "all" = some (.builtin "all")) (pa_cons (pe_comp ["_law_piece_here"] rfl (CompOk.plain rfl (by decide +kernel) (by decide +kernel) (by decide +kernel)) (pi_list (pv 0))
     (fun _ => pg_name (i := 0) (show [Str.ofString "_law_piece_here"].Nodup by decide +kernel) rfl (Or.inl rfl)) (fun _ => pifs_nil) (fun _ => pe_cl CP hr rfl (pa_cons (pv 0) pa_nil))) pa_nil)))))))) pss_never pss_nil)
   (pss_cons (ps_set (i := 3) scDealt.nd rfl (Or.inr rfl) (pe_tup (pa_cons pe_int (pa_cons pe_int pa_nil))))
   (pss_cons (ps_set (i := 4) scDealt.nd rfl (Or.inl rfl) (pe_lst pa_nil))
   (pss_cons (ps_for PassesOwn.never rfl (pi_list (pv 0)) (pg_name (i := 2) scDealt.nd rfl (Or.inl rfl)) (pss_one (ps_set (i := 4) scDealt.nd rfl (Or.inl rfl) (pe_op op_cat (pv 4) (pv 2)))))
   h4))), ?_⟩
  refine ⟨_, rfl, _, _, .sqL ha, kit_list _, _, rfl, iteF ?_⟩
  refine ⟨_, rfl, a, _, rfl, .inl ha, _, rfl, rfl, _, rfl, iteNS (by rw [hn]) ?_⟩
  refine ⟨_, rfl, a, rfl, ⟨_, ha⟩, fun D1 hD1 => ?_⟩
  refine comp_list (K := K) (a := a) (D := D1) (xs := xs) (fun i ys σ H' => Same H H' ∧ H' D1 = some (.lst ys) ∧ ys = (List.replicate i true).map V.bl ∧ ∃ v, σ = [v]) (by omega) ⟨Same.upd hD1, upd_same, rfl, _, rfl⟩ ?_ ?_ ?_
  ·rintro i ys σ H' _ ⟨s2, h2, rfl, _⟩
   exact ⟨s2.seq ha, h2, by simp⟩
  ·rintro i x ys σ H' hx ⟨s2, h2, rfl, v, rfl⟩ c
   obtain ⟨L, hL', l, zs, DD, rfl, hl, hz, pk⟩ := Paired.get1 hL i x hx
   refine ⟨_, rfl, l, zs, DD, L, rfl, .of (s2 _ _ hl), Paired.mapP hz fun _ _ z => CoQ.same s2 z, pk, fun H3 s3 => ⟨s3 _ _ h2, (s2.trans s3).updN hD1, upd_same, ?_, _, rfl⟩⟩
   rw [List.replicate_succ', List.map_append]
   rfl
  ·rintro ys σ H' ⟨s2, h2, rfl, _⟩
   have al : (List.replicate xs.length true).all id = true := by simp
   refine ⟨D1, List.replicate xs.length true, rfl, .of h2, _, rfl, ?_⟩
   rw [al]
   refine iteF ?_
   refine ⟨(by show 2 ≤ sizeLine; decide), fun t ht => ⟨Nat.zero_le _, fun sp hsp => ?_⟩⟩
   have s3 := Same.upd (o := .tup [.int 0, .int 1]) ht
   have s4 := Same.upd (o := .lst []) hsp
   have s14 := s2.trans (s3.trans s4)
   refine ⟨_, rfl, a, rfl, ⟨_, s14.seq ha⟩, ?_⟩
   have fl : (Ls.flatten).length = C.length := perm.length_eq
   refine for_list (K := K) (a := a) (xs := xs) (fun i σ H' => Same H H' ∧ ∃ (sp : Addr) (zs : List V) (x2 : Option V), σ = [some (.ref a), some (.int n), x2, some (.ref t), some (.ref sp), none] ∧ H' sp = some (.lst zs) ∧ H sp = none ∧ FrQ K H' (.ref t) 0 ∧ Paired (CoQ K H') zs (Ls.take i).flatten)
    ⟨s14, sp, [], _, rfl, upd_same, (s2.trans s3).free hsp, zeroQ.same s4, .nil⟩ (fun i σ H' _ h => h.1.seq ha) ?_ ?_
   ·rintro i x σ H' hx ⟨s5, sp, zs, x2, rfl, hz, hsp0, ht0, pz⟩
    obtain ⟨L, hL', l, ys, DD, rfl, hl, hy, pk⟩ := Paired.get1 hL i x hx
    have lz : zs.length + ys.length ≤ 1000 := by
     have e1 : ((Ls.take i).flatten ++ L).length ≤ Ls.flatten.length := by
      have : Ls = Ls.take i ++ L :: Ls.drop (i + 1) := by
       obtain ⟨hi, e⟩ := List.getElem?_eq_some_iff.mp hL'
       rw [← e, ← List.drop_eq_getElem_cons hi, List.take_append_drop]
      conv => rhs; rw [this]
      simp
     rw [pz.length, hy.length]
     rw [List.length_append] at e1
     omega
    refine ⟨_, rfl, _, rfl, sp, l, zs, ys, rfl, rfl, hz, s5 _ _ hl, by omega, fun r hr' => ?_⟩
    have s6 := Same.upd (o := .lst (zs ++ ys)) hr'
    refine ⟨s5.trans s6, r, zs ++ ys, _, rfl, upd_same, s5.free hr', ht0.same s6, ?_⟩
    rw [take_snoc hL', List.flatten_append, List.flatten_singleton]
    exact Paired.app (Paired.mapP pz fun _ _ z => CoQ.same s6 z) (Paired.mapP hy fun _ _ z => CoQ.same (s5.trans s6) z)
   ·rintro σ H5 ⟨s5, sp, zs, x2, rfl, hz, hsp0, ht0, pz⟩
    rw [List.take_of_length_le (by omega)] at pz
    exact r4 _ H5 sp t zs Ls.flatten C x2 _ s5 hsp0 hz ht0 pz perm ch cf c1000 k
end
end FQ
namespace FQ
open PySem L2 FK
def spStepsBy (K : PySem.W.Frag) : Sp := fun vs H Q _ => ∃ (cell : Int), vs = [.int cell] ∧ ∀ (l : Addr) (ts : List V) (p : Nat) (S : Steps) (H' : Hp), Same H H' → H l = none → H' l = some (.lst ts) → Paired (StQ K H') ts S → TsOk p S → Q (.ref l) H'
abbrev NS : List Str := ["_law_cell", "_law_parts", "_law_ends", "_law_many", "_law_k", "_law_end", "_law_steps", "_law_weight"]
theorem scStepsBy : FnScope NS ["_law_cell"] (defScope s__law_steps_by) := ⟨rfl, rfl, rfl, by decide +kernel, rfl, by decide +kernel, by decide +kernel⟩
section
variable {P : Program} {w : World} {K : PySem.W.Frag} {mg : Str → Option Value} {base : Heap} {aL aR : Addr}
theorem tail_sb6 (CM : Cl P w K mg base "_law_mixed" 1 ["_law_cell", "_law_k"] spMixed) (CL : Cl P w K mg base "_law_low" 1 ["_law_a", "_law_b"] (spMadeQ K)) (T : Txt K mg aL aR) {f : Addr} {cdv : Value} {A : Around} {outer : List Env} {s : Shared} {H : Hp} {E : XK} (hr : Room 1 (cx P w K mg base NS "_law_steps_by" s__law_steps_by f cdv A outer s H E).A) :
  ∃ t, PSs (cx P w K mg base NS "_law_steps_by" s__law_steps_by f cdv A outer s H E) (List.drop 6 (defBody s__law_steps_by)) t ∧ ∀ (Q : VK) (H1 : Hp) (cell : Int) (n : Nat) (le : Addr) (es : List Int) (x3 x4 x5 x6 x7 : Option V), Same H H1 → 2 ≤ n → n ≤ 1000 → H1 le = some (.lst (es.map V.int)) → es.length ≤ 8 → es.Nodup → (∀ e ∈ es, 1 ≤ e ∧ e < n) →
   (∀ (l : Addr) (ts : List V) (p : Nat) (S : Steps) (H' : Hp), Same H H' → H l = none → H' l = some (.lst ts) → Paired (StQ K H') ts S → TsOk p S → Q (.ref l) H') →
   t { nx := fun _ H' => Q .non H', rt := Q } [some (.int cell), some (.int n), some (.ref le), x3, x4, x5, x6, x7] H1 := by
 refine ⟨_, pss_cons (ps_set (i := 6) scStepsBy.nd rfl (Or.inl rfl) (pe_lst pa_nil))
  (pss_cons (ps_for PassesOwn.never rfl (pi_list (pe_op op_cat (pe_slice sl_list (pe_callB call_sortedI (by rfl) T.sorted PyProof.Rows.boot_sorted (pa_cons (pv 2) pa_nil)) po_none (po_some pe_int)) (pe_lst (pa_cons (pv 1) pa_nil)))) (pg_name (i := 5) scStepsBy.nd rfl (Or.inl rfl))
   (pss_cons (ps_set (i := 7) scStepsBy.nd rfl (Or.inl rfl) (pe_op op_add pe_int (pe_op op_mod (pe_cl CM hr rfl (pa_cons (pv 0) (pa_cons (pe_op op_add pe_int (pe_callB call_len_seq (by rfl) T.len PySem.boot_len (pa_cons (pv 6) pa_nil))) pa_nil))) pe_int)))
   (pss_cons (ps_if (pt_cmpR op_eq (pe_op op_mod (pe_op op_fdiv (pv 0) pe_int) pe_int) pe_int (nomark _)) (pss_one (ps_set (i := 7) scStepsBy.nd rfl (Or.inl rfl) (pe_op op_add pe_int (pe_op op_mod (pe_cl CM hr rfl (pa_cons (pv 0) (pa_cons (pe_op op_add pe_int (pe_callB call_len_seq (by rfl) T.len PySem.boot_len (pa_cons (pv 6) pa_nil))) pa_nil))) pe_int)))) pss_nil)
   (pss_one (ps_expr (pe_bm PySem.F.plainAttrs_list PySem.F.slot_list_append PySem.F.type_list_append mt_append (pv 6) (pa_cons (pe_tup (pa_cons (pe_cl CL hr rfl (pa_cons (pv 5) (pa_cons (pv 1) pa_nil))) (pa_cons (pv 7) pa_nil))) pa_nil)))))))
  (pss_one (ps_ret (pv 6)))), ?_⟩
 intro Q H1 cell n le es x3 x4 x5 x6 x7 s1 n2 n1000 hE hl hnd hb k
 refine ⟨Nat.zero_le _, fun ls hls => ?_⟩
 have t1 : Same H1 (upd H1 ls (.lst [])) := Same.upd hls
 have hls0 : H ls = none := s1.free hls
 have big : 1000 ≤ sizeLine := by decide
 refine ⟨_, rfl, le, es, rfl, .of (t1 _ _ hE), by omega, fun l2 es' hl2 hp hpw => ?_⟩
 have t2 := Same.upd (o := .lst (es'.map V.int)) hl2
 have nd' : es'.Nodup := hp.nodup_iff.mpr hnd
 have pl := hp.length_eq
 refine ⟨_, rfl, l2, _, rfl, sqL_new, fun l3 hl3 => ?_⟩
 have ec : cutV (es'.map V.int) none (some 7) = (es'.take 7).map V.int := by
  unfold cutV
  rw [HT.sIx_none, show (some (7 : Int)) = some ((7 : Nat) : Int) from rfl, HT.sIx_nat, List.drop_zero, List.length_map, Nat.sub_zero, ← List.map_take]
  by_cases z : 7 ≤ es'.length
  ·rw [Nat.min_eq_left z]
  ·rw [Nat.min_eq_right (by omega), List.take_of_length_le (Nat.le_refl _), List.take_of_length_le (by omega)]
 rw [ec]
 have t3 := Same.upd (o := .lst ((es'.take 7).map V.int)) hl3
 refine ⟨_, rfl, (by show 1 ≤ sizeLine; decide), fun l4 hl4 => ?_⟩
 have t4 := Same.upd (o := .lst [.int n]) hl4
 have lt7 : (es'.take 7).length ≤ 7 := by rw [List.length_take]; omega
 refine ⟨l3, l4, _, _, rfl, rfl, t4 _ _ upd_same, upd_same, by rw [List.length_map]; show _ + 1 ≤ sizeLine; omega, fun l5 hl5 => ?_⟩
 have exs : (es'.take 7).map V.int ++ [V.int n] = (es'.take 7 ++ [(n : Int)]).map V.int := by rw [List.map_append]; rfl
 rw [exs]
 have t5 := Same.upd (o := .lst ((es'.take 7 ++ [(n : Int)]).map V.int)) hl5
 have tt := t1.trans (t2.trans (t3.trans (t4.trans t5)))
 refine ⟨l5, rfl, ⟨_, sqL_new⟩, ?_⟩
 have hl50 : (upd H1 ls (.lst [])) l5 = none := (t2.trans (t3.trans t4)).free hl5
 have ne5 : l5 ≠ ls := fun z => by
  rw [z, upd_same] at hl50
  cases hl50
 have lst5 : (es'.take 7 ++ [(n : Int)]).length ≤ 8 := by rw [List.length_append]; show _ + 1 ≤ 8; omega
 refine for_list (K := K) (a := l5) (xs := (es'.take 7 ++ [(n : Int)]).map V.int) (fun i σ H' => Same H1 H' ∧ H' l5 = some (.lst ((es'.take 7 ++ [(n : Int)]).map V.int)) ∧ ∃ (ts : List V) (S : Steps) (x5 x7 : Option V), σ = [some (.int cell), some (.int n), some (.ref le), x3, x4, x5, some (.ref ls), x7] ∧ H' ls = some (.lst ts) ∧ Paired (StQ K H') ts S ∧ MadeOf n ((es'.take 7 ++ [(n : Int)]).take i) S)
  ⟨tt, upd_same, [], [], _, _, rfl, (t2.trans (t3.trans (t4.trans t5))) _ _ upd_same, .nil, MadeOf.nil n⟩ (fun i σ H' _ h => .of h.2.1) ?_ ?_
 ·rintro i x σ H' hx ⟨u1, u2, ts, S, x5, x7, rfl, hT, pT, md⟩
  have il : i < (es'.take 7 ++ [(n : Int)]).length := by
   have := (List.getElem?_eq_some_iff.mp hx).1
   rw [List.length_map] at this
   exact this
  obtain ⟨e, he⟩ : ∃ e, (es'.take 7 ++ [(n : Int)])[i]? = some e := ⟨_, List.getElem?_eq_getElem il⟩
  have ex : x = .int e := by
   rw [List.getElem?_map, he] at hx
   exact (Option.some.inj hx).symm
  subst ex
  have me := List.mem_of_getElem? he
  have eb : 1 ≤ e ∧ e ≤ n := by
   rcases List.mem_append.mp me with q | q
   ·have := hb e (hp.mem_iff.mp (List.mem_of_mem_take q))
    omega
   ·rw [List.mem_singleton.mp q]
    omega
  have lT : ts.length ≤ 8 := by
   have := congrArg List.length md.1
   rw [List.length_map, List.length_map, List.length_take] at this
   rw [pT.length]
   omega
  have step : ∀ (wt : Int) (t : Addr) (v1 : V) (H2 : Hp) (x5 x7 : Option V), 0 < wt → wt ≤ 1000 → Same H' H2 → H2 t = some (.tup [v1, .int wt]) → FrQ K H2 v1 ((e : Rat) / (n : Rat)) →
    (Same H1 (upd H2 ls (.lst (ts ++ [.ref t]))) ∧ (upd H2 ls (.lst (ts ++ [.ref t]))) l5 = some (.lst ((es'.take 7 ++ [(n : Int)]).map V.int)) ∧ ∃ (ts' : List V) (S : Steps) (y5 y7 : Option V), [some (V.int cell), some (.int n), some (.ref le), x3, x4, x5, some (.ref ls), x7] = [some (.int cell), some (.int n), some (.ref le), x3, x4, y5, some (.ref ls), y7] ∧ (upd H2 ls (.lst (ts ++ [.ref t]))) ls = some (.lst ts') ∧ Paired (StQ K (upd H2 ls (.lst (ts ++ [.ref t])))) ts' S ∧ MadeOf n ((es'.take 7 ++ [(n : Int)]).take (i + 1)) S) := by
   intro wt t v1 H2 x5 x7 w0 w1 u3 hH2 hv1
   have k1 := Keep.updL (o := .lst (ts ++ [.ref t])) (u3 _ _ hT)
   refine ⟨(u1.trans u3).updN hls, by rw [upd_ne ne5]; exact u3 _ _ u2, _, S ++ [((e : Rat) / (n : Rat), wt)], _, _, rfl, upd_same, ?_, ?_⟩
   ·exact Paired.app (Paired.mapP pT fun _ _ z => StQ.keep k1 (StQ.same u3 z)) (.cons ⟨t, v1, _, rfl, k1.sqT (.of hH2), hv1.keep k1, rfl⟩ .nil)
   ·rw [take_snoc he]
    exact md.snoc w0 w1
  have b9 : ∀ r : Int, 0 < 1 + r % 9 ∧ 1 + r % 9 ≤ 1000 := fun r => by omega
  have b1000 : ∀ r : Int, 0 < 1 + r % 1000 ∧ 1 + r % 1000 ≤ 1000 := fun r => by omega
  refine ⟨_, rfl, _, rfl, ls, _, rfl, .inl (.of hT), _, _, rfl, rfl, _, _, rfl, fun r => ?_⟩
  refine ⟨_, _, rfl, rfl, (by show (0 : Int) < 9; decide), _, _, rfl, rfl, ?_⟩
  refine ⟨_, rfl, _, _, rfl, rfl, ⟨by decide, by decide⟩, _, _, rfl, rfl, (by show (0 : Int) < 8; decide), rfl, _, rfl, ?_⟩
  refine ite2 (fun h => ?_) (fun h => ?_)
  ·refine ⟨_, rfl, _, rfl, ls, _, rfl, .inl (.of hT), _, _, rfl, rfl, _, _, rfl, fun r2 => ?_⟩
   refine ⟨_, _, rfl, rfl, (by show (0 : Int) < 1000; decide), _, _, rfl, rfl, ?_⟩
   refine ⟨_, rfl, .inl ⟨rfl, _, .of hT⟩, _, rfl, _, rfl, e, (n : Int), rfl, by omega, by omega, .of_bits (n := 20) (by omega) (by decide), fun v1 H2 u3 hv1 => ?_⟩
   rw [Rat.intCast_natCast] at hv1
   refine ⟨_, rfl, (by show 2 ≤ sizeLine; decide), fun t ht => ?_⟩
   have u4 := Same.upd (o := .tup [v1, .int (1 + r2 % 1000)]) ht
   exact ⟨ls, ts, _, rfl, rfl, (u3.trans u4) _ _ hT, by omega, step _ t v1 _ _ _ (b1000 r2).1 (b1000 r2).2 (u3.trans u4) upd_same (hv1.same u4)⟩
  ·refine ⟨_, rfl, .inl ⟨rfl, _, .of hT⟩, _, rfl, _, rfl, e, (n : Int), rfl, by omega, by omega, .of_bits (n := 20) (by omega) (by decide), fun v1 H2 u3 hv1 => ?_⟩
   rw [Rat.intCast_natCast] at hv1
   refine ⟨_, rfl, (by show 2 ≤ sizeLine; decide), fun t ht => ?_⟩
   have u4 := Same.upd (o := .tup [v1, .int (1 + r % 9)]) ht
   exact ⟨ls, ts, _, rfl, rfl, (u3.trans u4) _ _ hT, by omega, step _ t v1 _ _ _ (b9 r).1 (b9 r).2 (u3.trans u4) upd_same (hv1.same u4)⟩
 ·rintro σ H' ⟨u1, u2, ts, S, x5, x7, rfl, hT, pT, md⟩
  rw [List.take_of_length_le (by rw [List.length_map]; exact Nat.le_refl _)] at md
  refine ⟨_, rfl, k ls ts n S H' (s1.trans u1) hls0 hT pT (md.ts (by omega) n1000 lt7 ?_)⟩
  have r1 : es'.Pairwise (· < ·) := sorted_rise hpw nd'
  have bb : ∀ e ∈ es'.take 7, 1 ≤ e ∧ e < n := fun e he => hb e (hp.mem_iff.mp (List.mem_of_mem_take he))
  refine List.pairwise_cons.mpr ⟨fun e he => ?_, List.pairwise_append.mpr ⟨r1.sublist (List.take_sublist _ _), List.pairwise_singleton _ _, fun a ha b hb' => ?_⟩⟩
  ·rcases List.mem_append.mp he with q | q
   ·have := bb e q
    omega
   ·rw [List.mem_singleton.mp q]
    omega
  ·rw [List.mem_singleton.mp hb']
   exact (bb a ha).2
theorem tail_sb5 (CM : Cl P w K mg base "_law_mixed" 1 ["_law_cell", "_law_k"] spMixed) (CL : Cl P w K mg base "_law_low" 1 ["_law_a", "_law_b"] (spMadeQ K)) (T : Txt K mg aL aR) {f : Addr} {cdv : Value} {A : Around} {outer : List Env} {s : Shared} {H : Hp} {E : XK} (hr : Room 1 (cx P w K mg base NS "_law_steps_by" s__law_steps_by f cdv A outer s H E).A) :
  ∃ t, PSs (cx P w K mg base NS "_law_steps_by" s__law_steps_by f cdv A outer s H E) (List.drop 5 (defBody s__law_steps_by)) t ∧ ∀ (Q : VK) (H1 : Hp) (cell m : Int) (n : Nat) (le : Addr) (x4 x5 x6 x7 : Option V), Same H H1 → H le = none → 2 ≤ n → n ≤ 1000 → 0 ≤ m → m ≤ 8 → H1 le = some (.lst []) →
   (∀ (l : Addr) (ts : List V) (p : Nat) (S : Steps) (H' : Hp), Same H H' → H l = none → H' l = some (.lst ts) → Paired (StQ K H') ts S → TsOk p S → Q (.ref l) H') →
   t { nx := fun _ H' => Q .non H', rt := Q } [some (.int cell), some (.int n), some (.ref le), some (.int m), x4, x5, x6, x7] H1 := by
 obtain ⟨t6, h6, r6⟩ := tail_sb6 (P := P) (w := w) (mg := mg) (base := base) (f := f) (cdv := cdv) (A := A) (outer := outer) (s := s) (H := H) (E := E) CM CL T hr
 refine ⟨_, pss_cons (ps_for PassesOwn.never rfl (pi_range1 rfl T.range (pa_cons (pv 3) pa_nil)) (pg_name (i := 4) scStepsBy.nd rfl (Or.inl rfl))
   (pss_cons (ps_set (i := 5) scStepsBy.nd rfl (Or.inl rfl) (pe_op op_add pe_int (pe_op op_mod (pe_cl CM hr rfl (pa_cons (pv 0) (pa_cons (pv 4) pa_nil))) (pv 1))))
   (pss_one (ps_if (PW.pt (pw_and (pt_cmpR op_lt (pv 5) (pv 1) (nomark _)) (pw_and1 (pt_cmpR op_notIn_seq (pv 5) (pv 2) rfl)))) (pss_one (ps_expr (pe_bm PySem.F.plainAttrs_list PySem.F.slot_list_append PySem.F.type_list_append mt_append (pv 2) (pa_cons (pv 5) pa_nil)))) pss_nil)))) h6, ?_⟩
 intro Q H1 cell m n le x4 x5 x6 x7 s1 hle n2 n1000 m0 m8 hE k
 refine ⟨_, rfl, m, rfl, by omega, by omega, ?_⟩
 refine for_range (lo := 0) (n := m.toNat) (fun i σ H' => Same H H' ∧ ∃ (es : List Int) (x4 x5 : Option V), σ = [some (.int cell), some (.int n), some (.ref le), some (.int m), x4, x5, x6, x7] ∧ H' le = some (.lst (es.map V.int)) ∧ es.length ≤ i ∧ es.Nodup ∧ ∀ e ∈ es, 1 ≤ e ∧ e < (n : Int))
  ⟨s1, [], _, _, rfl, hE, Nat.le_refl _, List.nodup_nil, (fun _ z => nomatch z)⟩ ?_ ?_
 ·rintro i σ H' hi ⟨u1, es, y4, y5, rfl, he, hl, hnd, hb⟩
  refine ⟨_, rfl, _, rfl, _, _, rfl, fun r => ?_⟩
  refine ⟨_, rfl, _, _, rfl, rfl, (by show (0 : Int) < n; omega), _, _, rfl, rfl, ?_⟩
  have b0 := Int.emod_nonneg r (show (n : Int) ≠ 0 by omega)
  refine ⟨_, rfl, _, rfl, _, _, rfl, rfl, _, rfl, ?_⟩
  refine ite2 (fun h => ?_) (fun h => ?_)
  ·have h' : 1 + r % (n : Int) < n := of_decide_eq_true h
   refine ⟨_, rfl, _, rfl, le, _, rfl, .inl (.of he), rfl, flat_ints es, _, rfl, ?_⟩
   refine ite2 (fun h2 => ?_) (fun h2 => ?_)
   ·have nin : (1 + r % (n : Int)) ∉ es := fun z => by
     have h2' : (!inV (.int (1 + r % (n : Int))) (es.map V.int)) = true := h2
     rw [inV_int.mpr z] at h2'
     cases h2'
    refine ⟨_, rfl, .inl ⟨rfl, _, .of he⟩, _, rfl, le, _, _, rfl, rfl, he, ?_, ?_⟩
    ·rw [List.length_map]
     have : 100 < sizeLine := by decide
     omega
    ·refine ⟨u1.updN hle, es ++ [1 + r % (n : Int)], _, _, rfl, ?_, ?_, ?_, fun e he' => ?_⟩
     ·rw [upd_same, List.map_append]
      rfl
     ·rw [List.length_append]
      show es.length + 1 ≤ i + 1
      omega
     ·refine List.nodup_append.mpr ⟨hnd, List.pairwise_singleton _ _, fun a ha b hb' => ?_⟩
      rw [List.mem_singleton.mp hb']
      intro z
      rw [z] at ha
      exact nin ha
     ·rcases List.mem_append.mp he' with z | z
      ·exact hb e z
      ·rw [List.mem_singleton.mp z]
       omega
   ·exact ⟨u1, es, _, _, rfl, he, by omega, hnd, hb⟩
  ·exact iteF ⟨u1, es, _, _, rfl, he, by omega, hnd, hb⟩
 ·rintro σ H' ⟨u1, es, y4, y5, rfl, he, hl, hnd, hb⟩
  exact r6 Q H' cell n le es _ _ _ _ _ u1 n2 n1000 he (by omega) hnd hb k
theorem ok_stepsby {f : Addr} {fd : FuncData} (D : DefAt K mg "_law_steps_by" s__law_steps_by ["_law_cell"] f fd) (CM : Cl P w K mg base "_law_mixed" 1 ["_law_cell", "_law_k"] spMixed) (CL : Cl P w K mg base "_law_low" 1 ["_law_a", "_law_b"] (spMadeQ K)) (T : Txt K mg aL aR) : FnOk P w K mg base CX0 2 f fd ["_law_cell"] (spStepsBy K) := by
 refine D.fn.ok scStepsBy (fun vs H Q E h => ?_) (fun cdv A outer s H vs Q E hr h => ?_)
 ·obtain ⟨cell, rfl, _⟩ := h
  rfl
 ·obtain ⟨cell, rfl, k⟩ := h
  obtain ⟨t5, h5, r5⟩ := tail_sb5 (P := P) (w := w) (mg := mg) (base := base) (f := f) (cdv := cdv) (A := A) (outer := outer) (s := s) (H := H) (E := E) CM CL T hr
  obtain ⟨t2, h2, r2⟩ : ∃ t, PSs (cx P w K mg base NS "_law_steps_by" s__law_steps_by f cdv A outer s H E) (List.drop 2 (defBody s__law_steps_by)) t ∧ ∀ (n : Nat), 2 ≤ n → n ≤ 1000 → t { nx := fun _ H' => Q .non H', rt := Q } [some (.int cell), some (.int n), none, none, none, none, none, none] H := by
   refine ⟨_, pss_cons (ps_set (i := 2) scStepsBy.nd rfl (Or.inl rfl) (pe_lst pa_nil))
    (pss_cons (ps_set (i := 3) scStepsBy.nd rfl (Or.inl rfl) (pe_op op_mod (pe_op op_fdiv (pv 0) pe_int) pe_int))
    (pss_cons (ps_if (pt_cmpR op_eq (pe_op op_mod (pe_op op_fdiv (pv 0) pe_int) pe_int) pe_int (nomark _)) (pss_one (ps_set (i := 3) scStepsBy.nd rfl (Or.inl rfl) (pe_op op_mod (pe_op op_fdiv (pv 0) pe_int) pe_int))) pss_nil) h5)), ?_⟩
   intro n n2 n1000
   refine ⟨Nat.zero_le _, fun le hle => ?_⟩
   refine ⟨_, rfl, _, _, rfl, rfl, ⟨by decide, by decide⟩, _, _, rfl, rfl, (by show (0 : Int) < 4; decide), ?_⟩
   refine ⟨_, rfl, _, _, rfl, rfl, ⟨by decide, by decide⟩, _, _, rfl, rfl, (by show (0 : Int) < 4; decide), rfl, _, rfl, ?_⟩
   refine ite2 (fun h => ?_) (fun h => ?_)
   ·refine ⟨_, rfl, _, _, rfl, rfl, ⟨by decide, by decide⟩, _, _, rfl, rfl, (by show (0 : Int) < 9; decide), ?_⟩
    exact r5 Q _ cell _ n le _ _ _ _ (Same.upd hle) hle n2 n1000 (by show 0 ≤ cell / 5 % 9; omega) (by show cell / 5 % 9 ≤ 8; omega) upd_same k
   ·exact r5 Q _ cell _ n le _ _ _ _ (Same.upd hle) hle n2 n1000 (by show 0 ≤ cell / 5 % 4; omega) (by show cell / 5 % 4 ≤ 8; omega) upd_same k
  refine ⟨_, pss_cons (ps_set (i := 1) scStepsBy.nd rfl (Or.inl rfl) pe_int)
   (pss_cons (ps_if (pt_cmpR op_eq (pe_op op_mod (pv 0) pe_int) pe_int (nomark _)) (pss_one (ps_set (i := 1) scStepsBy.nd rfl (Or.inl rfl) (pe_op op_add pe_int (pe_op op_mod (pe_op op_fdiv (pv 0) pe_int) pe_int)))) pss_nil) h2), ?_⟩
  refine ⟨_, rfl, _, _, rfl, rfl, (by show (0 : Int) < 7; decide), rfl, _, rfl, ?_⟩
  refine ite2 (fun h => ?_) (fun h => ?_)
  ·refine ⟨_, rfl, _, _, rfl, rfl, ⟨by decide, by decide⟩, _, _, rfl, rfl, (by show (0 : Int) < 999; decide), _, _, rfl, rfl, ?_⟩
   have e : (2 + cell / 7 % 999 : Int) = ((2 + cell / 7 % 999).toNat : Int) := by omega
   have := r2 (2 + cell / 7 % 999).toNat (by omega) (by omega)
   rw [← e] at this
   exact this
  ·exact r2 12 (by decide) (by decide)
end
end FQ
namespace FQ
open PySem L2 FK
def fBody : Stmt → List Stmt
 | .For _ _ b _ _ => b
 | _ => []
def stAt (l : List Stmt) (k : Nat) : Stmt := l.getD k (.Pass ⟨0, 0, 0, 0⟩)
def spArea (K : PySem.W.Frag) : Sp := fun vs H Q _ => ∃ (a : Addr) (x y : V) (ts : List V) (p D : Nat) (S : Steps) (u v : Rat), vs = [.ref a, x, y] ∧ SqL K H a ts ∧ Paired (StQ K H) ts S ∧ TsOk p S ∧ FrQ K H x u ∧ FrQ K H y v ∧ (0 ≤ u ∧ u ≤ v ∧ v ≤ 1) ∧ DOk D ∧ (Gr D u ∧ Gr D v) ∧
 ∀ r H', Same H H' → FrQ K H' r (A 0 S v - A 0 S u) → Q r H'
abbrev NA : List Str := ["_law_steps", "_law_start", "_law_end", "_law_found", "_law_begin", "_law_last", "_law_weight", "_law_low_here", "_law_high", "_law_part"]
theorem scArea : FnScope NA ["_law_steps", "_law_start", "_law_end"] (defScope s__law_area) := ⟨rfl, rfl, rfl, by decide +kernel, rfl, by decide +kernel, by decide +kernel⟩
abbrev bArea : List Stmt := fBody (stAt (defBody s__law_area) 2)
theorem fit_of {D p : Nat} {q : Rat} {m : Nat} (d : DOk D) (p0 : 0 < p) (p1 : p ≤ 1000) (g : Gr (D * p) q) (h0 : 0 ≤ q) (hm : q ≤ (m : Rat)) (hm2 : m ≤ 1000000) : Bd 250 q := by
 have l1 : D * p ≤ D * 1000 := Nat.mul_le_mul_left _ p1
 have l2 := d.few
 have l3 : m * (D * p) ≤ 1000000 * (D * 1000) := Nat.mul_le_mul hm2 l1
 exact g.bd (Nat.mul_pos d.pos p0) h0 hm (by omega) (by omega)
theorem part_fr {q : Rat} {w : Int} : ((q.num * w : Int) : Rat) / ((q.den : Int) : Rat) = q * (w : Rat) := by
 have h1 := q_eq q
 have h3 := den_ne q
 rw [Rat.intCast_mul]
 grind
section
variable {P : Program} {w : World} {K : PySem.W.Frag} {mg : Str → Option Value} {base : Heap} {aL aR : Addr}
structure Law3 (P : Program) (w : World) (K : PySem.W.Frag) (mg : Str → Option Value) (base : Heap) : Prop where
 less : Cl P w K mg base "_law_less" 1 ["_law_one", "_law_other"] (spBelow K)
 left : Cl P w K mg base "_law_left" 2 ["_law_one", "_law_other"] (spMinus K)
 sum : Cl P w K mg base "_law_sum" 2 ["_law_one", "_law_other"] (spSum K)
theorem tail_ar4 (C : Law3 P w K mg base) {f : Addr} {cdv : Value} {A : Around} {outer : List Env} {s : Shared} {H : Hp} {E : XK} (hr : Room 2 (cx P w K mg base NA "_law_area" s__law_area f cdv A outer s H E).A) :
  ∃ t, PSs (cx P w K mg base NA "_law_area" s__law_area f cdv A outer s H E) (List.drop 4 bArea) t ∧ ∀ (D : Ends) (H1 : Hp) (x0 x1 x2 x4 x9 : Option V) (vf ve vl vh : V) (wt : Int) (fq e l h : Rat), FrQ K H1 vf fq → FrQ K H1 vl l → FrQ K H1 vh h → Fit fq → Ft 250 l → Ft 250 h → 0 ≤ wt → wt ≤ 1000 →
   (∀ (vf' : V) (xp : Option V) (H' : Hp), Same H1 H' → FrQ K H' vf' (fq + if l < h then (h - l) * (wt : Rat) else 0) → D.nx [x0, x1, x2, some vf', some ve, some ve, some (.int wt), some vl, some vh, xp] H') →
   t D [x0, x1, x2, some vf, x4, some ve, some (.int wt), some vl, some vh, x9] H1 := by
 have hr1 : Room 1 _ := hr.mono (by decide)
 refine ⟨_, pss_cons (ps_if (pt_val (pe_cl C.less hr1 rfl (pa_cons (pv 7) (pa_cons (pv 8) pa_nil))))
   (pss_cons (ps_set (i := 9) scArea.nd rfl (Or.inl rfl) (pe_cl C.left hr rfl (pa_cons (pv 8) (pa_cons (pv 7) pa_nil))))
   (pss_one (ps_set (i := 3) scArea.nd rfl (Or.inl rfl) (pe_cl C.sum hr rfl (pa_cons (pv 3) (pa_cons (pe_tup (pa_cons (pe_op op_mulS (pe_ix ix_tup (pv 9) pe_int (fun _ _ => rfl)) (pv 6)) (pa_cons (pe_ix ix_tup (pv 9) pe_int (fun _ _ => rfl)) pa_nil))) pa_nil)))))) pss_nil)
  (pss_one (ps_set (i := 4) scArea.nd rfl (Or.inl rfl) (pv 5))), ?_⟩
 intro D H1 x0 x1 x2 x4 x9 vf ve vl vh wt fq e l h hf hl hh ff fl fh w0 w1 k
 refine ⟨_, rfl, _, rfl, vl, vh, l, h, rfl, hl, hh, fl.fit, fh.fit, _, rfl, ?_⟩
 refine ite2 (fun c => ?_) (fun c => ?_)
 ·have c' : l < h := of_decide_eq_true c
  refine ⟨_, rfl, _, rfl, vh, vl, h, l, rfl, hh, hl, fh.fit, fl.fit, Rat.le_of_lt c', fun v1 H2 s2 d1 => ?_⟩
  obtain ⟨p1, rfl, q1⟩ := d1.sq
  have nn : 0 ≤ h - l := by grind
  have bp : Bd 501 (h - l) := fh.2.sub fl.2
  have fp : Fit (h - l) := ⟨nn, bp.mono (by decide)⟩
  have wS : Sm wt := .of_bits (n := 20) (by omega) (by decide)
  refine ⟨_, rfl, _, rfl, p1, _, _, _, rfl, rfl, q1, rfl, _, rfl, _, _, rfl, rfl, ⟨fp.s1, wS⟩, _, rfl, p1, _, _, _, rfl, rfl, q1, rfl, (by show 2 ≤ sizeLine; decide), fun t ht => ?_⟩
  have s3 := Same.upd (o := .tup [.int ((h - l).num * wt), .int ((h - l).den : Int)]) ht
  have cb : ((h - l).num * wt).natAbs < 2 ^ 1900 := by
   rw [Int.natAbs_mul]
   have := mul_lt_pow (n := 20) bp.1 (show wt.natAbs < 2 ^ 20 by omega)
   exact Nat.lt_of_lt_of_le this (Nat.pow_le_pow_right (by decide) (by decide))
  have db : ((h - l).den : Int).natAbs < 2 ^ 1900 := by
   rw [Int.natAbs_natCast]
   exact (bp.mono (show 501 ≤ 1900 by decide)).2
  refine ⟨vf, t, fq, _, _, rfl, (hf.same s2).same s3, sqT_new, ff, Int.mul_nonneg fp.nn w0, den_pos _, cb, db, fun v2 H3 s4 d2 => ?_⟩
  refine ⟨_, rfl, k v2 _ H3 (s2.trans (s3.trans s4)) ?_⟩
  rw [part_fr] at d2
  rw [if_pos c']
  exact d2
 ·have c' : ¬ l < h := fun z => c (decide_eq_true z)
  refine ⟨_, rfl, k vf _ H1 (Same.refl _) ?_⟩
  rw [if_neg c', show fq + 0 = fq by grind]
  exact hf
theorem tail_ar2 (C : Law3 P w K mg base) {f : Addr} {cdv : Value} {A : Around} {outer : List Env} {s : Shared} {H : Hp} {E : XK} (hr : Room 2 (cx P w K mg base NA "_law_area" s__law_area f cdv A outer s H E).A) :
  ∃ t, PSs (cx P w K mg base NA "_law_area" s__law_area f cdv A outer s H E) bArea t ∧ ∀ (D : Ends) (H1 : Hp) (x0 x7 x8 x9 : Option V) (x y vf vb ve : V) (wt : Int) (fq b e u v : Rat), FrQ K H1 vf fq → FrQ K H1 vb b → FrQ K H1 ve e → FrQ K H1 x u → FrQ K H1 y v → Fit fq → Ft 250 b → Ft 250 e → Ft 250 u → Ft 250 v → 0 ≤ wt → wt ≤ 1000 →
   (∀ (vf' : V) (y7 y8 y9 : Option V) (H' : Hp), Same H1 H' → FrQ K H' vf' (fq + if (if b < u then u else b) < (if v < e then v else e) then ((if v < e then v else e) - (if b < u then u else b)) * (wt : Rat) else 0) → D.nx [x0, some x, some y, some vf', some ve, some ve, some (.int wt), y7, y8, y9] H') →
   t D [x0, some x, some y, some vf, some vb, some ve, some (.int wt), x7, x8, x9] H1 := by
 have hr1 : Room 1 _ := hr.mono (by decide)
 obtain ⟨t4, h4, r4⟩ := tail_ar4 (P := P) (w := w) (mg := mg) (base := base) (f := f) (cdv := cdv) (A := A) (outer := outer) (s := s) (H := H) (E := E) C hr
 obtain ⟨t3, h3, r3⟩ : ∃ t, PSs (cx P w K mg base NA "_law_area" s__law_area f cdv A outer s H E) (List.drop 3 bArea) t ∧ ∀ (D : Ends) (H1 : Hp) (x0 x9 : Option V) (x y vf vb ve vl : V) (wt : Int) (fq e l v : Rat), FrQ K H1 vf fq → FrQ K H1 ve e → FrQ K H1 vl l → FrQ K H1 y v → Fit fq → Ft 250 e → Ft 250 l → Ft 250 v → 0 ≤ wt → wt ≤ 1000 →
   (∀ (vf' : V) (y7 y8 y9 : Option V) (H' : Hp), Same H1 H' → FrQ K H' vf' (fq + if l < (if v < e then v else e) then ((if v < e then v else e) - l) * (wt : Rat) else 0) → D.nx [x0, some x, some y, some vf', some ve, some ve, some (.int wt), y7, y8, y9] H') →
   t D [x0, some x, some y, some vf, some vb, some ve, some (.int wt), some vl, some ve, x9] H1 := by
  refine ⟨_, pss_cons (ps_if (pt_val (pe_cl C.less hr1 rfl (pa_cons (pv 2) (pa_cons (pv 8) pa_nil)))) (pss_one (ps_set (i := 8) scArea.nd rfl (Or.inl rfl) (pv 2))) pss_nil) h4, ?_⟩
  intro D H1 x0 x9 x y vf vb ve vl wt fq e l v hf he hl hv ff fe fl fv w0 w1 k
  refine ⟨_, rfl, _, rfl, y, ve, v, e, rfl, hv, he, fv.fit, fe.fit, _, rfl, ?_⟩
  refine ite2 (fun c => ?_) (fun c => ?_)
  ·have c' : v < e := of_decide_eq_true c
   rw [if_pos c'] at k
   exact ⟨_, rfl, r4 D H1 _ _ _ _ _ vf ve vl y wt fq e l v hf hl hv ff fl fv w0 w1 fun vf' xp H' s1 d1 => k vf' _ _ _ H' s1 d1⟩
  ·have c' : ¬ v < e := fun z => c (decide_eq_true z)
   rw [if_neg c'] at k
   exact r4 D H1 _ _ _ _ _ vf ve vl ve wt fq e l e hf hl he ff fl fe w0 w1 fun vf' xp H' s1 d1 => k vf' _ _ _ H' s1 d1
 refine ⟨_, pss_cons (ps_set (i := 7) scArea.nd rfl (Or.inl rfl) (pv 4)) (pss_cons (ps_set (i := 8) scArea.nd rfl (Or.inl rfl) (pv 5))
  (pss_cons (ps_if (pt_val (pe_cl C.less hr1 rfl (pa_cons (pv 7) (pa_cons (pv 1) pa_nil)))) (pss_one (ps_set (i := 7) scArea.nd rfl (Or.inl rfl) (pv 1))) pss_nil) h3)), ?_⟩
 intro D H1 x0 x7 x8 x9 x y vf vb ve wt fq b e u v hf hb he hu hv ff fb fe fu fv w0 w1 k
 refine ⟨_, rfl, _, rfl, _, rfl, _, rfl, vb, x, b, u, rfl, hb, hu, fb.fit, fu.fit, _, rfl, ?_⟩
 refine ite2 (fun c => ?_) (fun c => ?_)
 ·have c' : b < u := of_decide_eq_true c
  rw [if_pos c'] at k
  exact ⟨_, rfl, r3 D H1 _ _ x y vf vb ve x wt fq e u v hf he hu hv ff fe fu fv w0 w1 k⟩
 ·have c' : ¬ b < u := fun z => c (decide_eq_true z)
  rw [if_neg c'] at k
  exact r3 D H1 _ _ x y vf vb ve vb wt fq e b v hf he hb hv ff fe fb fv w0 w1 k
theorem ok_area {f : Addr} {fd : FuncData} (D : DefAt K mg "_law_area" s__law_area ["_law_steps", "_law_start", "_law_end"] f fd) (C : Law3 P w K mg base) : FnOk P w K mg base CX0 3 f fd ["_law_steps", "_law_start", "_law_end"] (spArea K) := by
 refine D.fn.ok scArea (fun vs H Q E h => ?_) (fun cdv A0 outer s H vs Q E hr h => ?_)
 ·obtain ⟨a, x, y, ts, p, D, S, u, v, rfl, _⟩ := h
  rfl
 ·obtain ⟨a, x, y, ts, p, D, S, u, v, rfl, ha, hS, ok, hu, hv, ⟨u0, uv, v1⟩, d, ⟨gu, gv⟩, k⟩ := h
  obtain ⟨tb, hb, rb⟩ := tail_ar2 (P := P) (w := w) (mg := mg) (base := base) (f := f) (cdv := cdv) (A := A0) (outer := outer) (s := s) (H := H) (E := E) C hr
  refine ⟨_, pss_cons (ps_set (i := 3) scArea.nd rfl (Or.inl rfl) (pe_tup (pa_cons pe_int (pa_cons pe_int pa_nil))))
   (pss_cons (ps_set (i := 4) scArea.nd rfl (Or.inl rfl) (pe_tup (pa_cons pe_int (pa_cons pe_int pa_nil))))
   (pss_cons (ps_for PassesOwn.never rfl (pi_list (pv 0)) (pg_tup rfl (pgs_cons (pg_name (i := 5) scArea.nd rfl (Or.inl rfl)) (pgs_cons (pg_name (i := 6) scArea.nd rfl (Or.inl rfl)) pgs_nil))) hb)
   (pss_one (ps_ret (pv 3))))), ?_⟩
  refine ⟨(by show 2 ≤ sizeLine; decide), fun t1 ht1 => ?_⟩
  refine ⟨(by show 2 ≤ sizeLine; decide), fun t2 ht2 => ?_⟩
  have s1 := Same.upd (o := .tup [.int 0, .int 1]) ht1
  have s2 := Same.upd (o := .tup [.int 0, .int 1]) ht2
  have s12 := s1.trans s2
  refine ⟨_, rfl, a, rfl, ⟨_, s12.seq ha⟩, ?_⟩
  have lX := hS.length
  have f10 : ∀ {q : Rat}, Gr D q → 0 ≤ q → q ≤ 1 → Ft 250 q := fun g h0 h1 => ⟨h0, (d.bd g h0 h1).mono (by decide)⟩
  have v0 : 0 ≤ v := by grind
  have u1 : u ≤ 1 := by grind
  refine for_list (K := K) (a := a) (xs := ts) (fun i σ H' => Same H H' ∧ ∃ (vf vb : V) (x5 x6 x7 x8 x9 : Option V), σ = [some (.ref a), some x, some y, some vf, some vb, x5, x6, x7, x8, x9] ∧ FrQ K H' vf (A 0 (S.take i) v - A 0 (S.take i) u) ∧ FrQ K H' vb (endOf 0 (S.take i)))
   ⟨s12, _, _, _, _, _, _, _, rfl, (show FrQ K _ _ ((0 : Rat) - 0) by rw [show (0 : Rat) - 0 = 0 by grind]; exact zeroQ.same s2), .of sqT_new rfl rfl⟩ (fun i σ H' _ h => h.1.seq ha) ?_ ?_
  ·rintro i z σ H' hz ⟨s3, vf, vb, x5, x6, x7, x8, x9, rfl, hf, hbg⟩
   obtain ⟨st, hst, p0, ye, yw, rfl, hp0, hye, hyw⟩ := Paired.get1 hS i z hz
   cases (show yw = .int st.2 from hyw)
   obtain ⟨r1, r2⟩ := rise_get ok.rise hst
   have ms := List.mem_of_getElem? hst
   have zw := ok.w st ms
   have nx : endOf 0 (S.take (i + 1)) = st.1 := by
    rw [take_snoc hst, show st = (st.1, st.2) from rfl, end_snoc]
   have e0 : 0 ≤ st.1 := by rw [← nx]; exact end_nn ok _
   have eb : Bd 10 st.1 := by rw [← nx]; exact end_bd ok _
   have okr := rise_take i ok.rise
   have fnn : 0 ≤ A 0 (S.take i) v - A 0 (S.take i) u := by
    have := A_mono okr uv
    grind
   have fup : A 0 (S.take i) v - A 0 (S.take i) u ≤ ((1000 : Nat) : Rat) := by
    have a1 := A_up (x := v) (M := 1000) okr (by decide) (fun z hz => Rat.intCast_le_intCast.mpr (ok.w z (List.mem_of_mem_take hz))) v0
    have a2 := A_nn (x := u) okr
    have e : ((1000 : Nat) : Rat) = 1000 := rfl
    grind
   have fg : Gr (D * p) (A 0 (S.take i) v - A 0 (S.take i) u) :=
    Gr.sub (A_gr (Gr.zero _) (fun z hz => (ok.gr z (List.mem_of_mem_take hz)).up') gv.up) (A_gr (Gr.zero _) (fun z hz => (ok.gr z (List.mem_of_mem_take hz)).up') gu.up)
   have ff : Fit (A 0 (S.take i) v - A 0 (S.take i) u) := ⟨fnn, (fit_of d ok.pos ok.few fg fnn fup (by decide)).mono (by decide)⟩
   refine ⟨p0, _, rfl, s3.sqT hp0, rfl, _, _, rfl, _, _, rfl, rfl, ?_⟩
   refine rb _ H' _ _ _ _ x y vf vb ye st.2 _ (endOf 0 (S.take i)) st.1 u v hf hbg (hye.same s3) (hu.same s3) (hv.same s3) ff ⟨end_nn ok i, (end_bd ok i).mono (by decide)⟩ ⟨e0, eb.mono (by decide)⟩ (f10 gu u0 u1) (f10 gv v0 v1) (by omega) zw fun vf' y7 y8 y9 H2 s4 d1 => ?_
   refine ⟨s3.trans s4, vf', ye, _, _, _, _, _, rfl, ?_, ?_⟩
   ·rw [← area_step r1 uv] at d1
    have e : A 0 (S.take (i + 1)) v - A 0 (S.take (i + 1)) u = A 0 (S.take i) v - A 0 (S.take i) u + ((st.2 : Rat) * (max (endOf 0 (S.take i)) (min st.1 v) - endOf 0 (S.take i)) - (st.2 : Rat) * (max (endOf 0 (S.take i)) (min st.1 u) - endOf 0 (S.take i))) := by
     rw [take_snoc hst, show st = (st.1, st.2) from rfl, A_snoc, A_snoc]
     grind
    rw [e]
    exact d1
   ·rw [nx]
    exact (hye.same s3).same s4
  ·rintro σ H' ⟨s3, vf, vb, x5, x6, x7, x8, x9, rfl, hf, hbg⟩
   rw [List.take_of_length_le (by omega)] at hf
   exact ⟨_, rfl, k vf H' s3 hf⟩
end
end FQ
namespace FQ
open PySem L2 FK
def spLWorth (K : PySem.W.Frag) : Sp := fun vs H Q _ => ∃ (a b : Addr) (ts xs : List V) (p D : Nat) (S : Steps) (L : List (Rat × Rat)), vs = [.ref a, .ref b] ∧ SqL K H a ts ∧ Paired (StQ K H) ts S ∧ TsOk p S ∧ SqL K H b xs ∧ Paired (CoQ K H) xs L ∧ SpOk D L ∧ DOk D ∧
 ∀ r H', Same H H' → FrQ K H' r (Wo S L) → Q r H'
theorem PcOk.sp {D : Nat} {L : List (Rat × Rat)} (h : PcOk D L) : SpOk D L := ⟨fun p hp => by have := h.win p hp; grind, h.gr, h.few⟩
theorem _root_.FK.SpOk.take {D : Nat} {L : List (Rat × Rat)} (h : SpOk D L) (i : Nat) : SpOk D (L.take i) := ⟨fun p hp => h.win p (List.mem_of_mem_take hp), fun p hp => h.gr p (List.mem_of_mem_take hp), by have := h.few; rw [List.length_take]; omega⟩
theorem DOk.one : DOk 1 := ⟨by decide, Nat.one_lt_two_pow (by decide)⟩
abbrev NO : List Str := ["_law_steps", "_law_piece_here", "_law_found", "_law_start", "_law_end", "_law_total"]
theorem scLWorth : FnScope NO ["_law_steps", "_law_piece_here"] (defScope s__law_worth) := ⟨rfl, rfl, rfl, by decide +kernel, rfl, by decide +kernel, by decide +kernel⟩
section
variable {P : Program} {w : World} {K : PySem.W.Frag} {mg : Str → Option Value} {base : Heap} {aL aR : Addr}
theorem num_den_q (q : Rat) : (q.num : Rat) / ((q.den : Int) : Rat) = q := q_eq q
theorem ok_lworth {f : Addr} {fd : FuncData} (D : DefAt K mg "_law_worth" s__law_worth ["_law_steps", "_law_piece_here"] f fd) (CA : Cl P w K mg base "_law_area" 3 ["_law_steps", "_law_start", "_law_end"] (spArea K)) (CS : Cl P w K mg base "_law_sum" 2 ["_law_one", "_law_other"] (spSum K))
  (CL : Cl P w K mg base "_law_low" 1 ["_law_a", "_law_b"] (spMadeQ K)) : FnOk P w K mg base CX0 4 f fd ["_law_steps", "_law_piece_here"] (spLWorth K) := by
 refine D.fn.ok scLWorth (fun vs H Q E h => ?_) (fun cdv A0 outer s H vs Q E hr h => ?_)
 ·obtain ⟨a, b, ts, xs, p, D, S, L, rfl, _⟩ := h
  rfl
 ·obtain ⟨a, b, ts, xs, p, D, S, L, rfl, ha, hS, ok, hb, hL, so, d, k⟩ := h
  have hr2 : Room 2 _ := hr.mono (by decide)
  have hr1 : Room 1 _ := hr.mono (by decide)
  refine ⟨_, pss_cons (ps_set (i := 2) scLWorth.nd rfl (Or.inl rfl) (pe_tup (pa_cons pe_int (pa_cons pe_int pa_nil))))
   (pss_cons (ps_for PassesOwn.never rfl (pi_list (pv 1)) (pg_tup rfl (pgs_cons (pg_name (i := 3) scLWorth.nd rfl (Or.inl rfl)) (pgs_cons (pg_name (i := 4) scLWorth.nd rfl (Or.inl rfl)) pgs_nil)))
    (pss_one (ps_set (i := 2) scLWorth.nd rfl (Or.inl rfl) (pe_cl CS hr2 rfl (pa_cons (pv 2) (pa_cons (pe_cl CA hr rfl (pa_cons (pv 0) (pa_cons (pv 3) (pa_cons (pv 4) pa_nil)))) pa_nil))))))
   (pss_cons (ps_set (i := 5) scLWorth.nd rfl (Or.inl rfl) (pe_cl CA hr rfl (pa_cons (pv 0) (pa_cons (pe_tup (pa_cons pe_int (pa_cons pe_int pa_nil))) (pa_cons (pe_tup (pa_cons pe_int (pa_cons pe_int pa_nil))) pa_nil)))))
   (pss_one (ps_ret (pe_cl CL hr1 rfl (pa_cons (pe_op op_mulS (pe_ix ix_tup (pv 2) pe_int (fun _ _ => rfl)) (pe_ix ix_tup (pv 5) pe_int (fun _ _ => rfl))) (pa_cons (pe_op op_mulS (pe_ix ix_tup (pv 2) pe_int (fun _ _ => rfl)) (pe_ix ix_tup (pv 5) pe_int (fun _ _ => rfl))) pa_nil))))))), ?_⟩
  refine ⟨(by show 2 ≤ sizeLine; decide), fun t1 ht1 => ?_⟩
  have s1 := Same.upd (o := .tup [.int 0, .int 1]) ht1
  refine ⟨_, rfl, b, rfl, ⟨_, s1.seq hb⟩, ?_⟩
  have lX := hL.length
  have few := so.few
  have fit : ∀ i, Fit (Ao S (L.take i)) := fun i => by
   have si := so.take i
   have n0 : 0 ≤ Ao S (L.take i) := Ao_nn ok fun q hq => (si.win q hq).2.1
   have := si.few
   exact ⟨n0, (fit_of d ok.pos ok.few (Ao_gr ok si.gr) n0 (Ao_up ok si.win) (by omega)).mono (by decide)⟩
  have afit : ∀ {u v : Rat}, 0 ≤ u → u ≤ v → v ≤ 1 → Gr D u → Gr D v → Fit (A 0 S v - A 0 S u) := fun h0 h1 h2 g1 g2 =>
   ⟨area_nn ok h1, (fit_of (m := 1000) d ok.pos ok.few (area_gr ok g1 g2) (area_nn ok h1) (area_up ok (by grind) h2) (by decide)).mono (by decide)⟩
  refine for_list (K := K) (a := b) (xs := xs) (fun i σ H' => Same H H' ∧ ∃ (vf : V) (x3 x4 x5 : Option V), σ = [some (.ref a), some (.ref b), some vf, x3, x4, x5] ∧ FrQ K H' vf (Ao S (L.take i)))
   ⟨s1, _, _, _, _, rfl, .of sqT_new rfl rfl⟩ (fun i σ H' _ h => h.1.seq hb) ?_ ?_
  ·rintro i z σ H' hz ⟨s3, vf, x3, x4, x5, rfl, hf⟩
   obtain ⟨q, hq, p0, y1, y2, rfl, hp0, hy1, hy2⟩ := Paired.get1 hL i z hz
   have mq := List.mem_of_getElem? hq
   have wq := so.win q mq
   have gq := so.gr q mq
   refine ⟨p0, _, rfl, s3.sqT hp0, rfl, _, _, rfl, _, _, rfl, rfl, ?_⟩
   refine ⟨_, rfl, _, rfl, _, rfl, _, rfl, a, y1, y2, ts, p, D, S, q.1, q.2, rfl, s3.seq ha, Paired.mapP hS fun _ _ z => StQ.same s3 z, ok, hy1.same s3, hy2.same s3, wq, d, gq, fun v1 H2 s4 d1 => ?_⟩
   obtain ⟨p1, rfl, q1⟩ := d1.sq
   have fa := afit wq.1 wq.2.1 wq.2.2 gq.1 gq.2
   refine ⟨vf, p1, _, _, _, rfl, hf.same s4, q1, fit i, fa.nn, den_pos _, fa.2.1, by rw [Int.natAbs_natCast]; exact fa.2.2, fun v2 H3 s5 d2 => ⟨s3.trans (s4.trans s5), v2, _, _, _, rfl, ?_⟩⟩
   rw [num_den_q] at d2
   rw [take_snoc hq, Ao_snoc]
   exact d2
  ·rintro σ H' ⟨s3, vf, x3, x4, x5, rfl, hf⟩
   have f0 := fit L.length
   rw [List.take_of_length_le (by omega)] at hf
   rw [List.take_length] at f0
   refine ⟨_, rfl, (by show 2 ≤ sizeLine; decide), fun t2 ht2 => ⟨(by show 2 ≤ sizeLine; decide), fun t3 ht3 => ?_⟩⟩
   have s4 := Same.upd (o := .tup [.int 0, .int 1]) ht2
   have s5 := Same.upd (o := .tup [.int 1, .int 1]) ht3
   have s35 := s3.trans (s4.trans s5)
   refine ⟨a, .ref t2, .ref t3, ts, p, 1, S, 0, 1, rfl, s35.seq ha, Paired.mapP hS fun _ _ z => StQ.same s35 z, ok, zeroQ.same s5, oneQ, ⟨Rat.le_refl, by decide, Rat.le_refl⟩, DOk.one, ⟨Gr.zero 1, Gr.one 1⟩, fun v1 H2 s6 d1 => ?_⟩
   have e1 : A 0 S 1 - A 0 S 0 = tot S := by
    rw [A_low ok.rise Rat.le_refl]
    show tot S - 0 = tot S
    grind
   rw [e1] at d1
   obtain ⟨p1, rfl, q1⟩ := d1.sq
   obtain ⟨p2, rfl, q2⟩ := hf.sq
   have q2' := (s4.trans (s5.trans s6)).sqT q2
   have ft : Fit (tot S) := by
    have := heft_fit ok S.length
    rw [List.take_length, ok.top] at this
    exact this.fit
   refine ⟨_, rfl, p2, _, _, _, rfl, rfl, q2', rfl, _, rfl, p1, _, _, _, rfl, rfl, q1, rfl, _, _, rfl, rfl, ⟨f0.s1, ft.s2⟩, ?_⟩
   refine ⟨_, rfl, p2, _, _, _, rfl, rfl, q2', rfl, _, rfl, p1, _, _, _, rfl, rfl, q1, rfl, _, _, rfl, rfl, ⟨f0.s2, ft.s1⟩, ?_⟩
   refine ⟨_, _, rfl, Int.mul_nonneg f0.nn (Int.le_of_lt (den_pos _)), Int.mul_pos (den_pos _) (num_pos ok.tp), f0.dn ft, fun v3 H3 s7 d3 => k v3 H3 (s35.trans (s6.trans s7)) ?_⟩
   rw [over_fr ok.tp, Ao_wo ok] at d3
   exact d3
end
end FQ
namespace FQ
open PySem L2 FK
def TellS (K : PySem.W.Frag) (H : Hp) (x : V) (S : Steps) : Prop := ∃ l ts p, x = V.ref l ∧ H l = some (.lst ts) ∧ Paired (StQ K H) ts S ∧ TsOk p S
theorem TellS.same {K : PySem.W.Frag} {H H' : Hp} {x : V} {S : Steps} (s : Same H H') (h : TellS K H x S) : TellS K H' x S := by
 obtain ⟨l, ts, p, e, h1, h2, h3⟩ := h
 exact ⟨l, ts, p, e, s _ _ h1, Paired.mapP h2 fun _ _ z => StQ.same s z, h3⟩
def ToldS (K : PySem.W.Frag) (D : Addr) (H : Hp) (x : V) (S : Steps) : Prop := ∃ l ts p, x = V.ref l ∧ H l = some (.lst ts) ∧ Paired (StQ K H) ts S ∧ TsOk p S ∧ l ≠ D
theorem ToldS.same {K : PySem.W.Frag} {D : Addr} {H H' : Hp} {x : V} {S : Steps} (s : Same H H') (h : ToldS K D H x S) : ToldS K D H' x S := by
 obtain ⟨l, ts, p, e, h1, h2, h3⟩ := h
 exact ⟨l, ts, p, e, s _ _ h1, Paired.mapP h2 fun _ _ z => StQ.same s z, h3⟩
theorem ToldS.but {K : PySem.W.Frag} {D : Addr} {H : Hp} {x : V} {S : Steps} {zs ys : List V} (hD : H D = some (.lst zs)) (h : ToldS K D H x S) : ToldS K D (upd H D (.lst ys)) x S := by
 obtain ⟨l, ts, p, e, h1, h2, h3, h4⟩ := h
 have k1 := Keep.updL (o := .lst ys) hD
 exact ⟨l, ts, p, e, by rw [upd_ne h4]; exact h1, Paired.mapP h2 fun _ _ z => StQ.keep k1 z, h3, h4⟩
theorem ToldS.tell {K : PySem.W.Frag} {D : Addr} {H : Hp} {x : V} {S : Steps} (h : ToldS K D H x S) : TellS K H x S := by
 obtain ⟨l, ts, p, e, h1, h2, h3, _⟩ := h
 exact ⟨l, ts, p, e, h1, h2, h3⟩
end FQ
namespace FQ
open PySem L2 FK
abbrev NL : List Str := ["_law_script", "_law_told", "_law_k", "_law_steps", "_law_tastes", "_law_way", "_law_piece_here", "_law_found", "_law_mine", "_law_others"]
theorem scLaw : FnScope NL ["_law_script"] (defScope s_law) := ⟨rfl, rfl, rfl, by decide +kernel, rfl, by decide +kernel, by decide +kernel⟩
def spLaw (K : PySem.W.Frag) (Pt Pw : Addr) : Sp := fun vs H Q _ => ∃ (a : Addr) (ns : List Int), vs = [.ref a] ∧ SqL K H a (ns.map V.int) ∧ H Pt = some (.tbl #[]) ∧ H Pw = some (.tbl #[]) ∧ ∀ H', Q (.bl true) H'
theorem _root_.FK.Rs.own {S : Nat → Steps} {Pc : Nat → List (Rat × Rat)} (h : Rs (S 0) (S 1) (S 2) (Pc 0) (Pc 1) (Pc 2)) {t p : Nat} (ht : t < 3) (ok : TsOk p (S t)) : (∀ u, u < 3 → Wo (S t) (Pc u) ≤ Wo (S t) (Pc t)) ∧ 1 / 3 ≤ Wo (S t) (Pc t) := by
 have sm := h.sum ok
 have a1 := h.a1
 have a2 := h.a2
 have b0 := h.b0
 have b2 := h.b2
 have c0 := h.c0
 have c1 := h.c1
 have all : ∀ u, u < 3 → Wo (S t) (Pc u) ≤ Wo (S t) (Pc t) := fun u hu => by
  match t, u, ht, hu with
  | 0, 0, _, _ => exact Rat.le_refl
  | 0, 1, _, _ => exact a1
  | 0, 2, _, _ => exact a2
  | 1, 0, _, _ => exact b0
  | 1, 1, _, _ => exact Rat.le_refl
  | 1, 2, _, _ => exact b2
  | 2, 0, _, _ => exact c0
  | 2, 1, _, _ => exact c1
  | 2, 2, _, _ => exact Rat.le_refl
 refine ⟨all, ?_⟩
 have x0 := all 0 (by decide)
 have x1 := all 1 (by decide)
 have x2 := all 2 (by decide)
 grind
theorem get3 {α : Type} (g : Nat → α) (t : Nat) (ht : t < 3) : [g 0, g 1, g 2][t]? = some (g t) := by
 match t, ht with
 | 0, _ => rfl
 | 1, _ => rfl
 | 2, _ => rfl
theorem got3 {α : Type} {g : Nat → α} {t : Nat} {x : α} (h : [g 0, g 1, g 2][t]? = some x) : t < 3 ∧ x = g t := by
 match t, h with
 | 0, h => exact ⟨by decide, by simpa using h.symm⟩
 | 1, h => exact ⟨by decide, by simpa using h.symm⟩
 | 2, h => exact ⟨by decide, by simpa using h.symm⟩
 | n + 3, h => simp at h
section
variable {K : PySem.W.Frag} {C CC Pt Pw : Addr} {H H' : Hp}
theorem TellS.tt {x : V} {S : Steps} (s : TT Pt Pw H H') (h : TellS K H x S) : TellS K H' x S := by
 obtain ⟨l, ts, p, e, h1, h2, h3⟩ := h
 exact ⟨l, ts, p, e, s.lst h1, Paired.mapP h2 fun _ _ z => StQ.keep s.keep z, h3⟩
structure Hands (K : PySem.W.Frag) (C CC Pt Pw : Addr) (H : Hp) (lo lT wv : Addr) (o x : Nat → V) (S : Nat → Steps) : Prop where
 told : H lo = some (.lst [o 0, o 1, o 2])
 tells : ∀ t, t < 3 → TellS K H (o t) (S t)
 tastes : H lT = some (.lst [x 0, x 1, x 2])
 tt : ∀ t, t < 3 → TasteS K C H (x t) (S t)
 way : ∃ dw, H wv = some (.ins CC dw [])
 rdy : Rdy Pt H
 rdyw : RdW Pw H
theorem Hands.to {lo lT wv : Addr} {o x : Nat → V} {S : Nat → Steps} (s : TT Pt Pw H H') (h : Hands K C CC Pt Pw H lo lT wv o x S) : Hands K C CC Pt Pw H' lo lT wv o x S := by
 obtain ⟨h1, h2, h3, h4, ⟨dw, h5⟩, h6, h7⟩ := h
 exact ⟨s.lst h1, fun t ht => (h2 t ht).tt s, s.lst h3, fun t ht => (h4 t ht).tt s, ⟨dw, s.get h5 fun _ z => nomatch z⟩, s.rdy, s.rdyw⟩
theorem Hands.same {lo lT wv : Addr} {o x : Nat → V} {S : Nat → Steps} (s : Same H H') (h : Hands K C CC Pt Pw H lo lT wv o x S) : Hands K C CC Pt Pw H' lo lT wv o x S := h.to (.of h.rdy h.rdyw s)
theorem tells_lst {lo : Addr} {os : List V} {Ss : List Steps} (h : H lo = some (.lst os)) (p : Paired (TellS K H) os Ss) : rpLst K (rpLst K (StQ K)) H (.ref lo) Ss :=
 ⟨lo, os, rfl, .of h, Paired.mapP p fun _ _ ⟨l, ts, _, e, h1, h2, _⟩ => ⟨l, ts, e, .of h1, h2⟩⟩
theorem third_new {p : Addr} : FrQ K (upd H p (.tup [.int 1, .int 3])) (.ref p) (1 / 3) := .of sqT_new (by decide +kernel) (by decide +kernel)
theorem third_fit : Fit (1 / 3 : Rat) := Bd.fit (n := 4) ⟨by decide +kernel, by decide +kernel⟩ (by decide +kernel) (by decide)
theorem all_false (n : Nat) : (List.replicate n false).any id = false := by
 induction n with
 | zero => rfl
 | succ n ih => rw [List.replicate_succ, List.any_cons, ih]; rfl
end
section
variable {P : Program} {w : World} {K : PySem.W.Frag} {mg : Str → Option Value} {base : Heap} {aL aR C CC Pt Pw : Addr}
structure Cs (P : Program) (w : World) (K : PySem.W.Frag) (mg : Str → Option Value) (base : Heap) (C CC Pt Pw : Addr) : Prop where
 cell : Cl P w K mg base "_law_cell_at" 1 ["_law_script", "_law_k"] (spCell K)
 less : Cl P w K mg base "_law_less" 1 ["_law_one", "_law_other"] (spBelow K)
 steps : Cl P w K mg base "_law_steps_by" 2 ["_law_cell"] (spStepsBy K)
 worth : Cl P w K mg base "_law_worth" 4 ["_law_steps", "_law_piece_here"] (spLWorth K)
 dealt : Cl P w K mg base "_law_dealt" 4 ["_law_pieces", "_law_many"] (spDealt K)
 make : Mc P w K mg base "Taste" C 5 ["self", "steps"] (spInit K C)
 told : Ml P w K mg base C "steps" 1 ["self"] (spTold K C)
 deal : Ml P w K mg base CC "deal" 14 ["self", "tastes"] (spThree K C Pt Pw)
 mkp : MkP K CC
 mgc : mg "Three" = some (.ref CC)
 cc : Cls K CC
 sum : mg "sum" = none
abbrev bLaw : List Stmt := lBody ((defBody s_law).getD 9 (.Pass ⟨0, 0, 0, 0⟩))
theorem body_law (CL : Cs P w K mg base C CC Pt Pw) (T : Txt K mg aL aR) {f : Addr} {cdv : Value} {A : Around} {outer : List Env} {s : Shared} {H : Hp} {E : XK} (hr : Room 14 (cx P w K mg base NL "law" s_law f cdv A outer s H E).A) :
  ∃ tb, PSs (cx P w K mg base NL "law" s_law f cdv A outer s H E) bLaw tb ∧ ∀ (D : Ends) (H1 : Hp) (lo r : Addr) (t : Nat) (z : Int) (o : Nat → V) (S : Nat → Steps) (l : Nat → Addr) (us : Nat → List V) (Pc : Nat → List (Rat × Rat)) (Dg : Nat) (y0 y3 y4 y5 y6 y8 y9 : Option V),
   z = t → t < 3 → H1 lo = some (.lst [o 0, o 1, o 2]) → TellS K H1 (o t) (S t) → H1 r = some (.lst [.ref (l 0), .ref (l 1), .ref (l 2)]) → (∀ u, u < 3 → H1 (l u) = some (.lst (us u)) ∧ Paired (CoQ K H1) (us u) (Pc u) ∧ PcOk Dg (Pc u)) → Rs (S 0) (S 1) (S 2) (Pc 0) (Pc 1) (Pc 2) →
   (∀ H' y8 y9, Same H1 H' → D.nx [y0, some (.ref lo), some (.int z), y3, y4, y5, y6, some (.ref r), y8, y9] H') →
   tb D [y0, some (.ref lo), some (.int z), y3, y4, y5, y6, some (.ref r), y8, y9] H1 := by
 have hr1 : Room 1 _ := hr.mono (by decide)
 have hr4 : Room 4 _ := hr.mono (by decide)
 have big : 1000 ≤ sizeLine := by decide
 refine ⟨_, pss_cons (ps_set (i := 8) scLaw.nd rfl (Or.inr rfl) (pe_cl CL.worth hr4 rfl (pa_cons (pe_ix ix_list (pv 1) (pv 2) (fun _ _ => rfl)) (pa_cons (pe_ix ix_list (pv 7) (pv 2) (fun _ _ => rfl)) pa_nil))))
  (pss_cons (ps_comp ["_law_piece_here"] (i := 9) scLaw.nd rfl (Or.inl rfl) rfl (CompOk.free1 (F := ["_law_told", "_law_k"]) (js := [1, 2]) rfl (by decide +kernel) (by decide +kernel) rfl ⟨rfl, rfl, trivial⟩ rfl ⟨⟨rfl, rfl, .inl rfl⟩, ⟨rfl, rfl, .inl rfl⟩, trivial⟩) (pi_list (pv 7))
   (fun _ => pg_name (i := 0) (show [Str.ofString "_law_piece_here", Str.ofString "_law_told", Str.ofString "_law_k"].Nodup by decide +kernel) rfl (Or.inl rfl)) (fun _ => pifs_nil) (fun _ => pe_cl CL.worth hr4 rfl (pa_cons (pe_ix ix_list (pv 1) (pv 2) (fun _ _ => rfl)) (pa_cons (pv 0) pa_nil))))
  (pss_one (ps_if (PW.pt (pw_or (pt_val (pe_cl CL.less hr1 rfl (pa_cons (pv 8) (pa_cons (pe_tup (pa_cons pe_int (pa_cons pe_int pa_nil))) pa_nil)))) (pw_or1 (pt_val (pe_callB (call_any rfl) (by rfl) T.any PyProof.Rows.boot_any (pa_cons (pe_comp ["_law_other"] rfl (CompOk.free1 (F := ["_law_mine"]) (js := [8]) rfl (by decide +kernel) (by decide +kernel) rfl ⟨rfl, trivial⟩ rfl ⟨⟨rfl, rfl, .inl rfl⟩, trivial⟩) (pi_list (pv 9))
    (fun _ => pg_name (i := 0) (show [Str.ofString "_law_other", Str.ofString "_law_mine"].Nodup by decide +kernel) rfl (Or.inl rfl)) (fun _ => pifs_nil) (fun _ => pe_cl CL.less hr1 rfl (pa_cons (pv 1) (pa_cons (pv 0) pa_nil)))) pa_nil)))))) pss_never pss_nil))), ?_⟩
 rintro D H1 lo r t _ o S l us Pc Dg y0 y3 y4 y5 y6 y8 y9 rfl ht hlo tS hR all rs k
 obtain ⟨la, ts, p, eo, hla, pS, ok⟩ := tS
 have hot : [o 0, o 1, o 2][t]? = some (.ref la) := by rw [get3 o t ht, eo]
 obtain ⟨own, th⟩ := rs.own ht ok
 have fits : ∀ u, u < 3 → Fit (Wo (S t) (Pc u)) := fun u hu => by
  have pc := (all u hu).2.2
  have := (Wo_fit ok pc (Pc u).length).1
  rw [List.take_of_length_le (Nat.le_refl _)] at this
  exact this
 obtain ⟨h1, h2, h3⟩ := all t ht
 refine ⟨_, rfl, _, rfl, lo, _, _, _, rfl, rfl, .of hlo, atI_nat hot, _, rfl, _, rfl, r, _, _, _, rfl, rfl, .of hR, atI_nat (get3 (fun u => V.ref (l u)) t ht), la, l t, ts, us t, p, Dg, S t, Pc t, rfl, .of hla, pS, ok, .of h1, h2, h3.sp, h3.d, fun v2 H2 s2 d2 => ?_⟩
 have hR2 := s2 _ _ hR
 refine ⟨_, rfl, r, rfl, ⟨_, .of hR2⟩, fun D1 hD1 => ?_⟩
 refine comp_list (K := K) (a := r) (D := D1) (xs := [.ref (l 0), .ref (l 1), .ref (l 2)]) (fun j ys σ H3 => Same H2 H3 ∧ H3 D1 = some (.lst ys) ∧ Paired (FrQ K H3) ys ([Wo (S t) (Pc 0), Wo (S t) (Pc 1), Wo (S t) (Pc 2)].take j) ∧ ys.length ≤ j ∧ ∃ x0, σ = [x0, some (.ref lo), some (.int (t : Int))])
  (by show 3 ≤ sizeLine; omega) ⟨Same.upd hD1, upd_same, .nil, Nat.le_refl _, _, rfl⟩ ?_ ?_ ?_
 ·rintro j ys σ H3 _ ⟨u1, u2, u3, u4, _⟩
  exact ⟨.of (u1 _ _ hR2), u2, u4⟩
 ·rintro j y ys σ H3 hy ⟨u1, u2, u3, u4, x0, rfl⟩ cc
  obtain ⟨hj, rfl⟩ := got3 (g := fun u => V.ref (l u)) hy
  have u12 := s2.trans u1
  obtain ⟨g1, g2, g3⟩ := all j hj
  refine ⟨_, rfl, _, rfl, lo, _, _, _, rfl, rfl, .of (u12 _ _ hlo), atI_nat hot, _, rfl, la, l j, ts, us j, p, Dg, S t, Pc j, rfl, .of (u12 _ _ hla), Paired.mapP pS fun _ _ z => StQ.same u12 z, ok, .of (u12 _ _ g1), Paired.mapP g2 fun _ _ z => CoQ.same u12 z, g3.sp, g3.d, fun v7 H7 s7 d7 => ?_⟩
  have u27 := s7 _ _ u2
  have k1 := Keep.updL (o := .lst (ys ++ [v7])) u27
  refine ⟨u27, (u1.trans s7).updN hD1, upd_same, ?_, by rw [List.length_append]; exact Nat.add_le_add_right u4 1, _, rfl⟩
  have e1 : [Wo (S t) (Pc 0), Wo (S t) (Pc 1), Wo (S t) (Pc 2)][j]? = some (Wo (S t) (Pc j)) := get3 (fun u => Wo (S t) (Pc u)) j hj
  rw [take_snoc e1]
  exact Paired.app (Paired.mapP u3 fun _ _ z => FrQ.keep k1 (FrQ.same s7 z)) (.cons (FrQ.keep k1 d7) .nil)
 rintro ys σ H3 ⟨u1, u2, u3, u4, _⟩
 rw [List.take_of_length_le (by show 3 ≤ 3; decide)] at u3
 have d3 := d2.same u1
 refine ⟨_, rfl, (by show 2 ≤ sizeLine; decide), fun t4 ht4 => ?_⟩
 have s4 := Same.upd (o := .tup [.int 1, .int 3]) ht4
 refine ⟨_, _, _, _, rfl, d3.same s4, third_new, fits t ht, third_fit, _, rfl, ?_⟩
 refine iteN (by grind) ?_
 have u24 := s4 _ _ u2
 have ly := u3.length
 refine ⟨_, rfl, D1, rfl, ⟨_, .of u24⟩, fun D0 hD0 => ?_⟩
 refine comp_list (K := K) (a := D1) (D := D0) (xs := ys) (fun j zs σ H5 => Same (upd H3 t4 (.tup [.int 1, .int 3])) H5 ∧ H5 D0 = some (.lst zs) ∧ zs = (List.replicate j false).map V.bl ∧ ∃ x0, σ = [x0, some v2]) (by rw [ly]; show 3 ≤ sizeLine; omega) ⟨Same.upd hD0, upd_same, rfl, _, rfl⟩ ?_ ?_ ?_
 ·rintro j zs σ H5 _ ⟨w1, w2, rfl, _⟩
  exact ⟨.of (w1 _ _ u24), w2, by rw [List.length_map, List.length_replicate]; exact Nat.le_refl _⟩
 ·rintro j y zs σ H5 hy ⟨w1, w2, rfl, x0, rfl⟩ cc
  obtain ⟨q, hq, fq⟩ := Paired.get1 u3 j y hy
  obtain ⟨hj, eq⟩ := got3 (g := fun u => Wo (S t) (Pc u)) hq
  have eq' : q = Wo (S t) (Pc j) := eq
  subst eq'
  have w14 := s4.trans w1
  have nl : ¬ Wo (S t) (Pc t) < Wo (S t) (Pc j) := by
   have := own j hj
   grind
  refine ⟨_, rfl, _, rfl, v2, y, _, _, rfl, d3.same w14, fq.same w14, fits t ht, fits j hj, w2, w1.updN hD0, upd_same, ?_, _, rfl⟩
  rw [decide_eq_false nl, List.replicate_succ', List.map_append]
  rfl
 rintro zs σ H5 ⟨w1, w2, rfl, _⟩
 refine ⟨D0, _, rfl, .of w2, _, rfl, ?_⟩
 rw [all_false]
 exact iteF (k _ _ _ (s2.trans (u1.trans (s4.trans w1))))
theorem tail_law6 (CL : Cs P w K mg base C CC Pt Pw) (T : Txt K mg aL aR) (TC : TxtC K C) {f : Addr} {cdv : Value} {A : Around} {outer : List Env} {s : Shared} {H : Hp} {E : XK} (hr : Room 14 (cx P w K mg base NL "law" s_law f cdv A outer s H E).A) :
  ∃ tb, PSs (cx P w K mg base NL "law" s_law f cdv A outer s H E) (List.drop 6 (defBody s_law)) tb ∧ ∀ (Q : VK) (H1 : Hp) (lo lT wv : Addr) (o x : Nat → V) (S : Nat → Steps) (y0 y2 y3 y6 y7 y8 y9 : Option V),
   Hands K C CC Pt Pw H1 lo lT wv o x S → (∀ H', Q (.bl true) H') →
   tb { nx := fun _ H' => Q .non H', rt := Q } [y0, some (.ref lo), y2, y3, some (.ref lT), some (.ref wv), y6, y7, y8, y9] H1 := by
 have hr1 : Room 1 _ := hr.mono (by decide)
 have hr4 : Room 4 _ := hr.mono (by decide)
 have hu4 : _ + (3 + 1) < cLine := Nat.lt_of_le_of_lt (Nat.add_le_add_left (by decide : 4 ≤ 64) _) hr.units
 have big : 1000 ≤ sizeLine := by decide
 obtain ⟨tb, hb, rb⟩ := body_law (P := P) (w := w) (mg := mg) (base := base) (f := f) (cdv := cdv) (A := A) (outer := outer) (s := s) (H := H) (E := E) CL T hr
 refine ⟨_, pss_cons (ps_set (i := 7) scLaw.nd rfl (Or.inl rfl) (pe_ml CL.deal CL.cc hr (pv 5) (pa_cons (pv 4) pa_nil)))
  (pss_cons (ps_if (PW.pt (pw_or (pt_cmpR (op_neL (rpe_lst rpe_st) hu4) (pe_comp ["_law_taste"] rfl (CompOk.plain rfl (by decide +kernel) (by decide +kernel) (by decide +kernel)) (pi_list (pv 4))
    (fun _ => pg_name (i := 0) (show [Str.ofString "_law_taste"].Nodup by decide +kernel) rfl (Or.inl rfl)) (fun _ => pifs_nil) (fun _ => pe_ml0 CL.told TC.cl hr1 (pv 0))) (pv 1) (nomark _)) (pw_or1 (pt_not (pt_val (pe_cl CL.dealt hr4 rfl (pa_cons (pv 7) (pa_cons pe_int pa_nil)))))))) pss_never pss_nil)
  (pss_cons (ps_if (pt_cmpR op_gt (pe_callB (call_sum rfl) (by rfl) CL.sum PyProof.Rows.boot_sum (pa_cons (pe_comp ["_law_piece_here"] rfl (CompOk.plain rfl (by decide +kernel) (by decide +kernel) (by decide +kernel)) (pi_list (pv 7))
    (fun _ => pg_name (i := 0) (show [Str.ofString "_law_piece_here"].Nodup by decide +kernel) rfl (Or.inl rfl)) (fun _ => pifs_nil) (fun _ => pe_callB call_len_seq (by rfl) T.len PySem.boot_len (pa_cons (pv 0) pa_nil))) pa_nil)) pe_int (nomark _)) pss_never pss_nil)
  (pss_cons (ps_for PassesOwn.never rfl (pi_range1 rfl T.range (pa_cons pe_int pa_nil)) (pg_name (i := 2) scLaw.nd rfl (Or.inr rfl)) hb)
  (pss_one (ps_ret pe_bl))))), ?_⟩
 intro Q H1 lo lT wv o x S y0 y2 y3 y6 y7 y8 y9 hd k
 obtain ⟨dw, hw⟩ := hd.way
 refine ⟨_, rfl, wv, dw, _, rfl, hw, rfl, _, rfl, wv, lT, x, S, rfl, .of hd.tastes, hd.tt, hd.rdy, hd.rdyw, fun r l us Pc Dg H2 dl => ?_⟩
 obtain ⟨tt2, hr0, hR, all, rs⟩ := dl
 have hd2 := hd.to tt2
 have hT2 := hd2.tastes
 refine ⟨_, rfl, lT, rfl, ⟨_, .of hT2⟩, fun D1 hD1 => ?_⟩
 refine comp_list (K := K) (a := lT) (D := D1) (xs := [x 0, x 1, x 2]) (fun j ys σ H3 => Same H2 H3 ∧ H3 D1 = some (.lst ys) ∧ Paired (ToldS K D1 H3) ys ([S 0, S 1, S 2].take j) ∧ ys.length ≤ j ∧ ∃ x0, σ = [x0])
  (by show 3 ≤ sizeLine; omega) ⟨Same.upd hD1, upd_same, .nil, Nat.le_refl _, _, rfl⟩ ?_ ?_ ?_
 ·rintro j ys σ H3 _ ⟨u1, u2, u3, u4, _⟩
  exact ⟨.of (u1 _ _ hT2), u2, u4⟩
 ·rintro j y ys σ H3 hy ⟨u1, u2, u3, u4, x0, rfl⟩ cc
  obtain ⟨hj, ey⟩ := got3 hy
  obtain ⟨t, lt, ll, p, ex, ta, ok'⟩ := hd2.tt j hj
  have ey' : y = .ref t := by rw [ey, ex]
  subst ey'
  have ta3 := ta.same u1
  obtain ⟨dx, hx⟩ := ta3.ins
  refine ⟨_, rfl, t, dx, _, rfl, hx, rfl, t, lt, ll, S j, rfl, ta3, fun la zs hl pz => ?_⟩
  have s4 := Same.upd (o := .lst zs) hl
  have u24 := s4 _ _ u2
  refine ⟨u24, (u1.trans s4).updN hD1, upd_same, ?_, by rw [List.length_append]; exact Nat.add_le_add_right u4 1, _, rfl⟩
  rw [take_snoc (get3 S j hj)]
  exact Paired.app (Paired.mapP u3 fun _ _ z => ToldS.but u24 (ToldS.same s4 z)) (.cons (ToldS.but u24 ⟨la, zs, p, rfl, upd_same, Paired.mapP pz fun _ _ z => StQ.same s4 z, ok', (ne_of_none u2 hl).symm⟩) .nil)
 rintro ds σ H3 ⟨u1, u2, u3, u4, _⟩
 rw [List.take_of_length_le (by show 3 ≤ 3; decide)] at u3
 have hd3 := hd2.same u1
 have pO3 : Paired (TellS K H3) [o 0, o 1, o 2] [S 0, S 1, S 2] := .cons (hd3.tells 0 (by decide)) (.cons (hd3.tells 1 (by decide)) (.cons (hd3.tells 2 (by decide)) .nil))
 refine ⟨_, rfl, _, _, tells_lst u2 (Paired.mapP u3 fun _ _ z => z.tell), tells_lst hd3.told pO3, _, rfl, iteNS rfl ?_⟩
 have hR3 := u1 _ _ hR
 have all3 : ∀ u, u < 3 → H3 (l u) = some (.lst (us u)) ∧ Paired (CoQ K H3) (us u) (Pc u) ∧ PcOk Dg (Pc u) := fun u hu => by
  obtain ⟨_, _, a1, a2, a3⟩ := all u hu
  exact ⟨u1 _ _ a1, Paired.mapP a2 fun _ _ z => CoQ.same u1 z, a3⟩
 obtain ⟨Cc, ch, pm⟩ := rs.ch
 have pcs : ∀ u, u < 3 → PcS K H3 (.ref (l u)) (Pc u) := fun u hu => by
  obtain ⟨a1, a2, a3⟩ := all3 u hu
  exact ⟨l u, us u, Dg, rfl, a1, a2, a3⟩
 have lenC : Cc.length ≤ 6 := by
  have e := pm.length_eq
  rw [List.length_append, List.length_append] at e
  have b0 := rs.l0
  have b1 := rs.l1
  have b2 := rs.l2
  omega
 have fitC : ∀ q ∈ Cc, Fit q.1 ∧ Fit q.2 := fun q hq => by
  have m := pm.mem_iff.mp hq
  obtain ⟨u, hu, mu⟩ : ∃ u, u < 3 ∧ q ∈ Pc u := by
   rcases List.mem_append.mp m with z | z
   ·exact ⟨0, by decide, z⟩
   ·rcases List.mem_append.mp z with z | z
    ·exact ⟨1, by decide, z⟩
    ·exact ⟨2, by decide, z⟩
  have pk := (all3 u hu).2.2
  obtain ⟨w0, w1, w2⟩ := pk.win _ mu
  obtain ⟨g0, g1⟩ := pk.gr _ mu
  exact ⟨⟨w0, (pk.d.bd g0 w0 (by grind)).mono (by decide)⟩, ⟨by grind, (pk.d.bd g1 (by grind) w2).mono (by decide)⟩⟩
 refine ⟨_, rfl, r, 3, [.ref (l 0), .ref (l 1), .ref (l 2)], [Pc 0, Pc 1, Pc 2], Cc, rfl, .of hR3, .cons (pcs 0 (by decide)) (.cons (pcs 1 (by decide)) (.cons (pcs 2 (by decide)) .nil)), rfl, by decide, ?_, by omega, ch, fitC, fun H4 s4 => ⟨_, rfl, iteF ?_⟩⟩
 ·show (Pc 0 ++ (Pc 1 ++ (Pc 2 ++ []))).Perm Cc
  rw [List.append_nil]
  exact pm.symm
 have hR4 := s4 _ _ hR3
 have all4 : ∀ u, u < 3 → H4 (l u) = some (.lst (us u)) ∧ Paired (CoQ K H4) (us u) (Pc u) ∧ PcOk Dg (Pc u) := fun u hu => by
  obtain ⟨a1, a2, a3⟩ := all3 u hu
  exact ⟨s4 _ _ a1, Paired.mapP a2 fun _ _ z => CoQ.same s4 z, a3⟩
 refine ⟨_, rfl, r, rfl, ⟨_, .of hR4⟩, fun D2 hD2 => ?_⟩
 refine comp_list (K := K) (a := r) (D := D2) (xs := [.ref (l 0), .ref (l 1), .ref (l 2)]) (fun j ys σ H5 => Same H4 H5 ∧ H5 D2 = some (.lst ys) ∧ ys = (([((us 0).length : Int), ((us 1).length : Int), ((us 2).length : Int)] : List Int).take j).map V.int ∧ ys.length ≤ j ∧ ∃ x0, σ = [x0])
  (by show 3 ≤ sizeLine; omega) ⟨Same.upd hD2, upd_same, rfl, Nat.le_refl _, _, rfl⟩ ?_ ?_ ?_
 ·rintro j ys σ H5 _ ⟨w1, w2, w3, w4, _⟩
  exact ⟨.of (w1 _ _ hR4), w2, w4⟩
 ·rintro j y ys σ H5 hy ⟨w1, w2, w3, w4, x0, rfl⟩ cc
  obtain ⟨hj, rfl⟩ := got3 (g := fun u => V.ref (l u)) hy
  refine ⟨_, rfl, l j, _, rfl, .inl (.of (w1 _ _ (all4 j hj).1)), w2, w1.updN hD2, upd_same, ?_, by rw [List.length_append]; exact Nat.add_le_add_right w4 1, _, rfl⟩
  rw [take_snoc (get3 (fun u => ((us u).length : Int)) j hj), List.map_append, ← w3]
  rfl
 rintro ys σ H5 ⟨w1, w2, w3, w4, _⟩
 rw [List.take_of_length_le (by show 3 ≤ 3; decide)] at w3
 subst w3
 have few : ¬ (8 : Int) < ([((us 0).length : Int), ((us 1).length : Int), ((us 2).length : Int)] : List Int).sum := by
  have e : ([((us 0).length : Int), ((us 1).length : Int), ((us 2).length : Int)] : List Int).sum = ((us 0).length : Int) + (((us 1).length : Int) + (((us 2).length : Int) + 0)) := rfl
  have a0 := (all3 0 (by decide)).2.1.length
  have a1 := (all3 1 (by decide)).2.1.length
  have a2 := (all3 2 (by decide)).2.1.length
  have b0 := rs.l0
  have b1 := rs.l1
  have b2 := rs.l2
  rw [e]
  omega
 refine ⟨D2, _, rfl, .of w2, _, _, rfl, rfl, _, rfl, iteN few ?_⟩
 have hd5 := hd3.same (s4.trans w1)
 have hR5 := w1 _ _ hR4
 have all5 : ∀ u, u < 3 → H5 (l u) = some (.lst (us u)) ∧ Paired (CoQ K H5) (us u) (Pc u) ∧ PcOk Dg (Pc u) := fun u hu => by
  obtain ⟨a1, a2, a3⟩ := all4 u hu
  exact ⟨w1 _ _ a1, Paired.mapP a2 fun _ _ z => CoQ.same w1 z, a3⟩
 refine ⟨(3 : Int), rfl, by decide, by decide, ?_⟩
 refine for_range (lo := 0) (n := 3) (fun i σ H6 => Same H5 H6 ∧ ∃ (y2 y8 y9 : Option V), σ = [y0, some (.ref lo), y2, y3, some (.ref lT), some (.ref wv), y6, some (.ref r), y8, y9])
  ⟨Same.refl _, _, _, _, rfl⟩ ?_ ?_
 ·rintro i σ H6 hi ⟨v1, z2, z8, z9, rfl⟩
  refine rb _ H6 lo r i _ o S l us Pc Dg _ _ _ _ _ _ _ (by omega) hi (v1 _ _ hd5.told) ((hd5.tells i hi).same v1) (v1 _ _ hR5) (fun u hu => ?_) rs (fun H7 z8 z9 s7 => ⟨v1.trans s7, _, _, _, rfl⟩)
  obtain ⟨a1, a2, a3⟩ := all5 u hu
  exact ⟨v1 _ _ a1, Paired.mapP a2 fun _ _ z => CoQ.same v1 z, a3⟩
 ·rintro σ H6 ⟨v1, z2, z8, z9, rfl⟩
  exact k _
end
end FQ
namespace FQ
open PySem L2 FK
def TasteN (K : PySem.W.Frag) (C D : Addr) (H : Hp) (x : V) (S : Steps) : Prop := ∃ t lt ll p, x = V.ref t ∧ TasteAt K C H t lt ll S ∧ TsOk p S ∧ D ≠ lt ∧ D ≠ ll
theorem TasteN.same {K : PySem.W.Frag} {C D : Addr} {H H' : Hp} {x : V} {S : Steps} (s : Same H H') (h : TasteN K C D H x S) : TasteN K C D H' x S := by
 obtain ⟨t, lt, ll, p, e, h1, h2⟩ := h
 exact ⟨t, lt, ll, p, e, h1.same s, h2⟩
theorem TasteN.but {K : PySem.W.Frag} {C D : Addr} {H : Hp} {x : V} {S : Steps} {zs ys : List V} (hD : H D = some (.lst zs)) (h : TasteN K C D H x S) : TasteN K C D (upd H D (.lst ys)) x S := by
 obtain ⟨t, lt, ll, p, e, h1, h2, h3, h4⟩ := h
 exact ⟨t, lt, ll, p, e, h1.but hD h3 h4, h2, h3, h4⟩
theorem TasteN.s {K : PySem.W.Frag} {C D : Addr} {H : Hp} {x : V} {S : Steps} (h : TasteN K C D H x S) : TasteS K C H x S := by
 obtain ⟨t, lt, ll, p, e, h1, h2, _⟩ := h
 exact ⟨t, lt, ll, p, e, h1, h2⟩
section
variable {P : Program} {w : World} {K : PySem.W.Frag} {mg : Str → Option Value} {base : Heap} {aL aR C CC Pt Pw : Addr}
theorem tail_law4 (CL : Cs P w K mg base C CC Pt Pw) (T : Txt K mg aL aR) (TC : TxtC K C) {f : Addr} {cdv : Value} {A : Around} {outer : List Env} {s : Shared} {H : Hp} {E : XK} (hr : Room 14 (cx P w K mg base NL "law" s_law f cdv A outer s H E).A) :
  ∃ tb, PSs (cx P w K mg base NL "law" s_law f cdv A outer s H E) (List.drop 4 (defBody s_law)) tb ∧ ∀ (Q : VK) (H1 : Hp) (lo lT : Addr) (o x : Nat → V) (S : Nat → Steps) (y0 y2 y3 y5 y6 y7 y8 y9 : Option V),
   H1 lo = some (.lst [o 0, o 1, o 2]) → (∀ t, t < 3 → TellS K H1 (o t) (S t)) → H1 lT = some (.lst [x 0, x 1, x 2]) → (∀ t, t < 3 → TasteS K C H1 (x t) (S t)) → Rdy Pt H1 → RdW Pw H1 → (∀ H', Q (.bl true) H') →
   tb { nx := fun _ H' => Q .non H', rt := Q } [y0, some (.ref lo), y2, y3, some (.ref lT), y5, y6, y7, y8, y9] H1 := by
 obtain ⟨t6, h6, r6⟩ := tail_law6 (P := P) (w := w) (mg := mg) (base := base) (f := f) (cdv := cdv) (A := A) (outer := outer) (s := s) (H := H) (E := E) CL T TC hr
 refine ⟨_, pss_cons (ps_set (i := 5) scLaw.nd rfl (Or.inl rfl) (pe_mkP CL.mkp rfl CL.mgc))
  (pss_cons (ps_for PassesOwn.never rfl (pi_list (pe_ml CL.deal CL.cc hr (pv 5) (pa_cons (pe_rev (pv 4)) pa_nil))) (pg_name (i := 6) scLaw.nd rfl (Or.inl rfl)) (pss_one (ps_expr (pe_bm0 PySem.F.plainAttrs_list PySem.F.slot_list_clear PySem.F.type_list_clear mt_clear (pv 6))))) h6), ?_⟩
 intro Q H1 lo lT o x S y0 y2 y3 y5 y6 y7 y8 y9 ho tl hT tt rd rw' k
 intro wv dw hwv hdw ndw
 have s8 : Same H1 (upd (upd H1 dw (.own wv)) wv (.ins CC dw [])) := fun b o e => by
  rw [upd_ne (ne_of_none e hwv), upd_ne (ne_of_none e hdw)]
  exact e
 have hd : Hands K C CC Pt Pw (upd (upd H1 dw (.own wv)) wv (.ins CC dw [])) lo lT wv o x S := ⟨s8 _ _ ho, fun t ht => (tl t ht).same s8, s8 _ _ hT, fun t ht => (tt t ht).same s8, ⟨dw, upd_same⟩, ready_same rd s8, ready_same rw' s8⟩
 refine ⟨_, rfl, wv, dw, _, rfl, upd_same, rfl, _, rfl, lT, _, rfl, .of hd.tastes, (by show 3 ≤ 8; decide), fun p hp => ?_⟩
 have s2 := Same.upd (o := .lst [x 2, x 1, x 0]) hp
 have hd2 := hd.same s2
 refine ⟨wv, p, (fun t => x (2 - t)), (fun t => S (2 - t)), rfl, sqL_new, fun t ht => hd2.tt (2 - t) (by omega), hd2.rdy, hd2.rdyw, fun r l us Pc Dg H3 dl => ?_⟩
 obtain ⟨tt3, hr0, hR, all, _⟩ := dl
 refine ⟨r, rfl, ⟨_, .of hR⟩, ?_⟩
 refine for_list (K := K) (a := r) (xs := [.ref (l 0), .ref (l 1), .ref (l 2)]) (fun j σ H5 => TT Pt Pw (upd (upd (upd H1 dw (.own wv)) wv (.ins CC dw [])) p (.lst [x 2, x 1, x 0])) H5 ∧ H5 r = some (.lst [.ref (l 0), .ref (l 1), .ref (l 2)]) ∧ (∀ t, t < 3 → ∃ zs, H5 (l t) = some (.lst zs)) ∧ ∃ x6, σ = [y0, some (.ref lo), y2, y3, some (.ref lT), some (.ref wv), x6, y7, y8, y9])
  ⟨tt3, hR, fun t ht => ⟨_, (all t ht).2.2.1⟩, _, rfl⟩ (fun j σ H5 _ h => .of h.2.1) ?_ ?_
 ·rintro j v σ H5 hv ⟨w1, w3, w4, x6, rfl⟩
  obtain ⟨hj, rfl⟩ := got3 (g := fun u => V.ref (l u)) hv
  obtain ⟨zs, hz⟩ := w4 j hj
  obtain ⟨f1, f2, _⟩ := all j hj
  refine ⟨_, rfl, .inl ⟨rfl, _, .of hz⟩, l j, _, rfl, rfl, hz, w1.updL f1 hz, by rw [upd_ne f2.symm]; exact w3, fun t ht => ?_, _, rfl⟩
  by_cases e : l t = l j
  ·rw [e]
   exact ⟨_, upd_same⟩
  ·rw [upd_ne e]
   exact w4 t ht
 ·rintro σ H5 ⟨w1, w3, w4, x6, rfl⟩
  exact r6 Q H5 lo lT wv o x S _ _ _ _ _ _ _ (hd2.to w1) k
theorem tail_law3 (CL : Cs P w K mg base C CC Pt Pw) (T : Txt K mg aL aR) (TC : TxtC K C) {f : Addr} {cdv : Value} {A : Around} {outer : List Env} {s : Shared} {H : Hp} {E : XK} (hr : Room 14 (cx P w K mg base NL "law" s_law f cdv A outer s H E).A) :
  ∃ tb, PSs (cx P w K mg base NL "law" s_law f cdv A outer s H E) (List.drop 3 (defBody s_law)) tb ∧ ∀ (Q : VK) (H1 : Hp) (lo lT : Addr) (o x : Nat → V) (S : Nat → Steps) (y0 y2 y3 y5 y6 y7 y8 y9 : Option V),
   H1 lo = some (.lst [o 0, o 1, o 2]) → lo ≠ lT → (∀ t, t < 3 → ToldS K lT H1 (o t) (S t)) → H1 lT = some (.lst [x 0, x 1, x 2]) → (∀ t, t < 3 → TasteN K C lT H1 (x t) (S t)) → Rdy Pt H1 → RdW Pw H1 → (∀ H', Q (.bl true) H') →
   tb { nx := fun _ H' => Q .non H', rt := Q } [y0, some (.ref lo), y2, y3, some (.ref lT), y5, y6, y7, y8, y9] H1 := by
 have hu3' : _ + (2 + 1) < cLine := hu3_of hr
 obtain ⟨t4, h4, r4⟩ := tail_law4 (P := P) (w := w) (mg := mg) (base := base) (f := f) (cdv := cdv) (A := A) (outer := outer) (s := s) (H := H) (E := E) CL T TC hr
 refine ⟨_, pss_cons (ps_if (pt_cmpR (op_eqL rpe_st hu3') (pe_ix ix_list (pv 1) pe_int (fun _ _ => rfl)) (pe_ix ix_list (pv 1) pe_int (fun _ _ => rfl)) (nomark _)) (pss_one (ps_asg (pe_ix ix_list (pv 4) pe_int (fun _ _ => rfl)) (pg_sub (pv 4) pe_int set_list))) pss_nil) h4, ?_⟩
 intro Q H1 lo lT o x S y0 y2 y3 y5 y6 y7 y8 y9 ho nlo tl hT tt rd rw' k
 obtain ⟨l1, ts1, p1, e1, g1, q1, _⟩ := tl 1 (by decide)
 obtain ⟨l0, ts0, p0, e0, g0, q0, _⟩ := tl 0 (by decide)
 refine ⟨_, rfl, lo, _, _, _, rfl, rfl, .of ho, rfl, _, rfl, lo, _, _, _, rfl, rfl, .of ho, rfl, S 1, S 0, ⟨l1, ts1, e1, .of g1, q1⟩, ⟨l0, ts0, e0, .of g0, q0⟩, _, rfl, ?_⟩
 refine ite2 (fun c => ?_) (fun c => ?_)
 ·have c' : S 1 = S 0 := of_decide_eq_true c
  refine ⟨_, rfl, lT, _, _, _, rfl, rfl, .of hT, rfl, ?_⟩
  refine ⟨_, rfl, lT, [x 0, x 1, x 2], (1 : Int), 1, rfl, rfl, hT, rfl, ?_⟩
  refine r4 Q _ lo lT o (fun t => match t with | 0 => x 0 | 1 => x 0 | _ => x 2) S _ _ _ _ _ _ _ _ (by rw [upd_ne nlo]; exact ho) (fun t ht => (ToldS.but hT (tl t ht)).tell) upd_same (fun t ht => ?_) (ready_upd hT rd) (ready_upd hT rw') k
  match t, ht with
  | 0, _ => exact (TasteN.but hT (tt 0 (by decide))).s
  | 1, _ =>
   show TasteS K C _ (x 0) (S 1)
   rw [c']
   exact (TasteN.but hT (tt 0 (by decide))).s
  | 2, _ => exact (TasteN.but hT (tt 2 (by decide))).s
 ·exact r4 Q H1 lo lT o x S _ _ _ _ _ _ _ _ ho (fun t ht => (tl t ht).tell) hT (fun t ht => (tt t ht).s) rd rw' k
theorem ready_new {P : Addr} {pos : Pos} {qual : Str} {H : Hp} (h : H P = some (.tbl #[])) : Ready P pos qual H := ⟨#[], h, trivial, .inl rfl⟩
theorem three_of {α : Type} {L : List α} (h : L.length = 3) : ∃ g : Nat → α, L = [g 0, g 1, g 2] := by
 match L, h with
 | [a, b, c], _ => exact ⟨fun t => match t with | 0 => a | 1 => b | _ => c, rfl⟩
theorem paired3 {α β : Type} {R : α → β → Prop} {g : Nat → α} {k : Nat → β} (h : Paired R [g 0, g 1, g 2] [k 0, k 1, k 2]) : ∀ t, t < 3 → R (g t) (k t) := fun t ht => Paired.get h t _ _ (get3 g t ht) (get3 k t ht)
theorem ok_law {f : Addr} {fd : FuncData} (D : DefAt K mg "law" s_law ["_law_script"] f fd) (CL : Cs P w K mg base C CC Pt Pw) (T : Txt K mg aL aR) (TC : TxtC K C) : FnOk P w K mg base CX0 15 f fd ["_law_script"] (spLaw K Pt Pw) := by
 refine D.fn.ok scLaw (fun vs H Q E h => ?_) (fun cdv A outer s H vs Q E hr h => ?_)
 ·obtain ⟨a, ns, rfl, _⟩ := h
  rfl
 ·obtain ⟨a, ns, rfl, ha, hP, hW, k⟩ := h
  have hr1 : Room 1 _ := hr.mono (by decide)
  have hr2 : Room 2 _ := hr.mono (by decide)
  have hr6 : Room 6 _ := hr.mono (by decide)
  have big : 1000 ≤ sizeLine := by decide
  obtain ⟨t3, h3, r3⟩ := tail_law3 (P := P) (w := w) (mg := mg) (base := base) (f := f) (cdv := cdv) (A := A) (outer := outer) (s := s) (H := H) (E := E) CL T TC hr
  refine ⟨_, pss_cons (ps_set (i := 1) scLaw.nd rfl (Or.inr rfl) (pe_lst pa_nil))
   (pss_cons (ps_for PassesOwn.never rfl (pi_range1 rfl T.range (pa_cons pe_int pa_nil)) (pg_name (i := 2) scLaw.nd rfl (Or.inr rfl))
    (pss_cons (ps_set (i := 3) scLaw.nd rfl (Or.inl rfl) (pe_cl CL.steps hr2 rfl (pa_cons (pe_op op_add (pe_cl CL.cell hr1 rfl (pa_cons (pv 0) (pa_cons (pv 2) pa_nil))) (pe_op op_mul pe_int (pv 2))) pa_nil)))
    (pss_cons (ps_if (PW.pt (pw_and (pt_cmpR op_gt (pv 2) pe_int (nomark _)) (pw_and1 (pt_cmpR op_eq (pe_op op_mod (pe_op op_fdiv (pe_cl CL.cell hr1 rfl (pa_cons (pv 0) (pa_cons pe_int pa_nil))) (pe_op op_add (pv 2) pe_int)) pe_int) pe_int (nomark _)))))
     (pss_one (ps_set (i := 3) scLaw.nd rfl (Or.inl rfl) (pe_ix ix_list (pv 1) (pe_op op_sub (pv 2) pe_int) (fun _ _ => rfl)))) pss_nil)
    (pss_one (ps_expr (pe_bm PySem.F.plainAttrs_list PySem.F.slot_list_append PySem.F.type_list_append mt_append (pv 1) (pa_cons (pv 3) pa_nil)))))))
   (pss_cons (ps_comp ["_law_steps"] (i := 4) scLaw.nd rfl (Or.inl rfl) rfl (CompOk.plain rfl (by decide +kernel) (by decide +kernel) (by decide +kernel)) (pi_list (pv 1))
    (fun _ => pg_name (i := 0) (show [Str.ofString "_law_steps"].Nodup by decide +kernel) rfl (Or.inl rfl)) (fun _ => pifs_nil) (fun _ => pe_mk CL.make hr6 rfl (pa_cons (pe_callTy call_list_of rfl T.list PyProof.Rows.boot_list (pa_cons (pv 0) pa_nil)) pa_nil))) h3)), ?_⟩
  refine ⟨Nat.zero_le _, fun r hr0 => ?_⟩
  have s1 := Same.upd (o := .lst []) hr0
  refine ⟨(3 : Int), rfl, by decide, by decide, ?_⟩
  refine for_range (lo := 0) (n := 3) (fun i σ H' => Same H H' ∧ ∃ (ts : List V) (Ss : List Steps) (y2 y3 : Option V), σ = [some (.ref a), some (.ref r), y2, y3, none, none, none, none, none, none] ∧ H' r = some (.lst ts) ∧ Paired (ToldS K r H') ts Ss ∧ ts.length = i) ⟨s1, [], [], _, _, rfl, upd_same, .nil, rfl⟩ ?_ ?_
  ·rintro i σ H' hi ⟨u1, ts, Ss, y2, y3, rfl, u2, u3, u4⟩
   have ha' := u1.seq ha
   refine ⟨_, rfl, _, rfl, a, ns, i, congrArg (fun z => [V.ref a, .int z]) (by omega), ha', _, rfl, _, _, rfl, rfl, .inl ⟨by decide, by decide⟩, _, _, rfl, rfl, _, rfl, fun l ts1 p S H2 s2 hl hl2 pS ok => ?_⟩
   have hr2 := s2 _ _ u2
   have pt2 : Paired (ToldS K r H2) ts Ss := Paired.mapP u3 fun _ _ z => ToldS.same s2 z
   have nl : l ≠ r := (ne_of_none u2 hl).symm
   have u12 := u1.trans s2
   have fin : ∀ (v : V) (S : Steps) (z2 : Option V), ToldS K r H2 v S → Same H (upd H2 r (.lst (ts ++ [v]))) ∧ ∃ (ts' : List V) (Ss : List Steps) (y2 y3 : Option V), [some (.ref a), some (.ref r), z2, some v, none, none, none, none, none, none] = [some (V.ref a), some (.ref r), y2, y3, none, none, none, none, none, none] ∧ (upd H2 r (.lst (ts ++ [v]))) r = some (.lst ts') ∧ Paired (ToldS K r (upd H2 r (.lst (ts ++ [v])))) ts' Ss ∧ ts'.length = i + 1 := fun v S z2 hv =>
    ⟨u12.updN hr0, _, Ss ++ [S], _, _, rfl, upd_same, Paired.app (Paired.mapP pt2 fun _ _ z => ToldS.but hr2 z) (.cons (ToldS.but hr2 hv) .nil), by rw [List.length_append, u4]; rfl⟩
   refine ⟨_, rfl, _, _, rfl, rfl, _, rfl, ?_⟩
   refine ite2 (fun c1 => ?_) (fun c1 => ?_)
   ·have c1' : (0 : Int) < 0 + i := of_decide_eq_true c1
    refine ⟨_, rfl, a, ns, 3, rfl, s2.seq ha', _, rfl, _, _, rfl, rfl, _, _, rfl, rfl, ⟨by omega, by omega⟩, _, _, rfl, rfl, (by show (0 : Int) < 4; decide), rfl, _, rfl, ?_⟩
    refine ite2 (fun c2 => ?_) (fun c2 => ?_)
    ·have hi' : ts[i - 1]? = some ts[i - 1] := List.getElem?_eq_getElem (by omega)
     obtain ⟨S', _, hS'⟩ := Paired.get1 pt2 (i - 1) _ hi'
     refine ⟨_, rfl, _, rfl, _, _, rfl, rfl, r, _, _, _, rfl, rfl, .of hr2, (show atI ts ((0 : Int) + (i : Int) - 1) = some ts[i - 1] by rw [show (0 : Int) + (i : Int) - 1 = ((i - 1 : Nat) : Int) by omega]; exact atI_nat hi'), ?_⟩
     exact ⟨_, rfl, .inl ⟨rfl, _, .of hr2⟩, _, rfl, r, ts, _, rfl, rfl, hr2, by omega, fin _ _ _ hS'⟩
    ·exact ⟨_, rfl, .inl ⟨rfl, _, .of hr2⟩, _, rfl, r, ts, _, rfl, rfl, hr2, by omega, fin _ _ _ ⟨l, ts1, p, rfl, hl2, pS, ok, nl⟩⟩
   ·exact ⟨_, rfl, .inl ⟨rfl, _, .of hr2⟩, _, rfl, r, ts, _, rfl, rfl, hr2, by omega, fin _ _ _ ⟨l, ts1, p, rfl, hl2, pS, ok, nl⟩⟩
  ·rintro σ H1 ⟨u1, ts, Ss, y2, y3, rfl, u2, u3, u4⟩
   obtain ⟨o, rfl⟩ := three_of u4
   obtain ⟨S, rfl⟩ := three_of (show Ss.length = 3 from u3.length.symm.trans u4)
   have tl := paired3 u3
   refine ⟨_, rfl, r, rfl, ⟨_, .of u2⟩, fun D1 hD1 => ?_⟩
   refine comp_list (K := K) (a := r) (D := D1) (xs := [o 0, o 1, o 2]) (fun j ys σ H2 => Same H1 H2 ∧ H2 D1 = some (.lst ys) ∧ Paired (TasteN K C D1 H2) ys ([S 0, S 1, S 2].take j) ∧ ys.length ≤ j ∧ ∃ x0, σ = [x0])
    (by show 3 ≤ sizeLine; omega) ⟨Same.upd hD1, upd_same, .nil, Nat.le_refl _, _, rfl⟩ ?_ ?_ ?_
   ·rintro j ys σ H2 _ ⟨v1, v2, v3, v4, _⟩
    exact ⟨.of (v1 _ _ u2), v2, v4⟩
   ·rintro j y ys σ H2 hy ⟨v1, v2, v3, v4, x0, rfl⟩ cc
    obtain ⟨hj, ey⟩ := got3 hy
    obtain ⟨l, ts, p, eo, hl, hS, ok, _⟩ := tl j hj
    have ey' : y = .ref l := by rw [ey, eo]
    subst ey'
    refine ⟨_, rfl, l, ts, rfl, .inl (.of (v1 _ _ hl)), fun lg hlg => ?_⟩
    have s3 := Same.upd (o := .lst ts) hlg
    have sA := v1.trans s3
    refine mk_taste (C := C) (p := p) (S := S j) sqL_new (Paired.mapP hS fun _ _ z => StQ.same sA z) ok fun x lt ll H3 s4 hx hlt hll ta => ?_
    have u23 := s3 _ _ v2
    have u24 := s4 _ _ u23
    have n1 : D1 ≠ lt := ne_of_none u23 hlt
    have n2 : D1 ≠ ll := ne_of_none u23 hll
    refine ⟨u24, (sA.trans s4).updN hD1, upd_same, ?_, by rw [List.length_append]; exact Nat.add_le_add_right v4 1, _, rfl⟩
    rw [take_snoc (get3 S j hj)]
    exact Paired.app (Paired.mapP v3 fun _ _ z => TasteN.but u24 (TasteN.same (s3.trans s4) z)) (.cons (TasteN.but u24 ⟨x, lt, ll, p, rfl, ta, ok, n1, n2⟩) .nil)
   ·rintro xs σ H2 ⟨v1, v2, v3, v4, _⟩
    rw [List.take_of_length_le (by show 3 ≤ 3; decide)] at v3
    obtain ⟨x, rfl⟩ := three_of (show xs.length = 3 from v3.length)
    have tl2 : ∀ t, t < 3 → ToldS K D1 H2 (o t) (S t) := fun t ht => by
     obtain ⟨l, ts, p, e, h1, h2, h3, _⟩ := tl t ht
     exact ⟨l, ts, p, e, v1 _ _ h1, Paired.mapP h2 fun _ _ z => StQ.same v1 z, h3, ne_of_none h1 hD1⟩
    exact r3 Q H2 r D1 o x S _ _ _ _ _ _ _ _ (v1 _ _ u2) (ne_of_none u2 hD1) tl2 v2 (paired3 v3) (ready_same (ready_new hP) (u1.trans v1)) (ready_same (ready_new hW) (u1.trans v1)) k
end
end FQ
namespace FQ
open PySem PyProof.Rows L2 FK
theorem tab_mk {K : PySem.W.Frag} {x : Str} {f c P : Addr} {o1 o2 : Value} {d1 d2 : Option Addr} {s1 s2 : Array (Option Value)} {fd : FuncData} {vs : Array Value} (a : PySem.W.nsIn K mainGlobals x = some (some (.ref f))) (l : K.lookup f = some ⟨o1, d1, .func fd, s1⟩) (hc : fd.code = .ref c)
  (t : K.lookup c = some ⟨o2, d2, .fields vs, s2⟩) (u : (vs[11]? : Option Value) = some (.ref P)) : PySem.W.tabIn K x = some (c, P) := by
 unfold PySem.W.tabIn
 simp only [a, l, hc, t, u]
theorem all_mk {l : PySem.W.OpenLaw} {q : Program} {w : World} {K : PySem.W.Frag} {h : Heap} {mg : Str → Option Value} {fa : Addr} (X : K.In h) (G : h.Ns mainGlobals mg) (hfa : mg "law" = some (.ref fa))
  {f1 : Addr} {od1 an1 : Option Addr} {sl1 : Array (Option Value)} {oc1 kV1 dc1 pm1 cd1 ct1 : Value}
  {f2 : Addr} {od2 an2 : Option Addr} {sl2 : Array (Option Value)} {oc2 kV2 dc2 pm2 cd2 ct2 : Value}
  {f3 : Addr} {od3 an3 : Option Addr} {sl3 : Array (Option Value)} {oc3 kV3 dc3 pm3 cd3 ct3 : Value}
  {f4 : Addr} {od4 an4 : Option Addr} {sl4 : Array (Option Value)} {oc4 kV4 dc4 pm4 cd4 ct4 : Value}
  {f5 : Addr} {od5 an5 : Option Addr} {sl5 : Array (Option Value)} {oc5 kV5 dc5 pm5 cd5 ct5 : Value}
  {f6 : Addr} {od6 an6 : Option Addr} {sl6 : Array (Option Value)} {oc6 kV6 dc6 pm6 cd6 ct6 : Value}
  {f7 : Addr} {od7 an7 : Option Addr} {sl7 : Array (Option Value)} {oc7 kV7 dc7 pm7 cd7 ct7 : Value}
  {f8 : Addr} {od8 an8 : Option Addr} {sl8 : Array (Option Value)} {oc8 kV8 dc8 pm8 cd8 ct8 : Value}
  {f9 : Addr} {od9 an9 : Option Addr} {sl9 : Array (Option Value)} {oc9 kV9 dc9 pm9 cd9 ct9 : Value}
  {f10 : Addr} {od10 an10 : Option Addr} {sl10 : Array (Option Value)} {oc10 kV10 dc10 pm10 cd10 ct10 : Value}
  {f11 : Addr} {od11 an11 : Option Addr} {sl11 : Array (Option Value)} {oc11 kV11 dc11 pm11 cd11 ct11 : Value}
  {f12 : Addr} {od12 an12 : Option Addr} {sl12 : Array (Option Value)} {oc12 kV12 dc12 pm12 cd12 ct12 : Value}
  {f13 : Addr} {od13 an13 : Option Addr} {sl13 : Array (Option Value)} {oc13 kV13 dc13 pm13 cd13 ct13 : Value}
  {f14 : Addr} {od14 an14 : Option Addr} {sl14 : Array (Option Value)} {oc14 kV14 dc14 pm14 cd14 ct14 : Value}
  {f15 : Addr} {od15 an15 : Option Addr} {sl15 : Array (Option Value)} {oc15 kV15 dc15 pm15 cd15 ct15 : Value}
  {f16 : Addr} {od16 an16 : Option Addr} {sl16 : Array (Option Value)} {oc16 kV16 dc16 pm16 cd16 ct16 : Value}
  {f17 : Addr} {od17 an17 : Option Addr} {sl17 : Array (Option Value)} {oc17 kV17 dc17 pm17 cd17 ct17 : Value}
  {f18 : Addr} {od18 an18 : Option Addr} {sl18 : Array (Option Value)} {oc18 kV18 dc18 pm18 cd18 ct18 : Value}
  {f19 : Addr} {od19 an19 : Option Addr} {sl19 : Array (Option Value)} {oc19 kV19 dc19 pm19  ct19 : Value}
  {q19 p19 : Addr} {oq19 : Value} {dq19 : Option Addr} {sq19 : Array (Option Value)} {vs19 : Array Value} {e19 : DefRec}
  {f20 : Addr} {od20 an20 : Option Addr} {sl20 : Array (Option Value)} {oc20 kV20 dc20 pm20 cd20 ct20 : Value}
  {f21 : Addr} {od21 an21 : Option Addr} {sl21 : Array (Option Value)} {oc21 kV21 dc21 pm21 cd21 ct21 : Value}
  {f22 : Addr} {od22 an22 : Option Addr} {sl22 : Array (Option Value)} {oc22 kV22 dc22 pm22 cd22 ct22 : Value}
  {f23 : Addr} {od23 an23 : Option Addr} {sl23 : Array (Option Value)} {oc23 kV23 dc23 pm23  ct23 : Value}
  {q23 p23 : Addr} {oq23 : Value} {dq23 : Option Addr} {sq23 : Array (Option Value)} {vs23 : Array Value} {e23 : DefRec}
  {f24 : Addr} {od24 an24 : Option Addr} {sl24 : Array (Option Value)} {oc24 kV24 dc24 pm24 cd24 ct24 : Value}
  {f25 : Addr} {od25 an25 : Option Addr} {sl25 : Array (Option Value)} {oc25 kV25 dc25 pm25 cd25 ct25 : Value}
  {f26 : Addr} {od26 an26 : Option Addr} {sl26 : Array (Option Value)} {oc26 kV26 dc26 pm26 cd26 ct26 : Value}
  {f27 : Addr} {od27 an27 : Option Addr} {sl27 : Array (Option Value)} {oc27 kV27 dc27 pm27 cd27 ct27 : Value}
  {f28 : Addr} {od28 an28 : Option Addr} {sl28 : Array (Option Value)} {oc28 kV28 dc28 pm28 cd28 ct28 : Value}
  {f29 : Addr} {od29 an29 : Option Addr} {sl29 : Array (Option Value)} {oc29 kV29 dc29 pm29 cd29 ct29 : Value}
  {f30 : Addr} {od30 an30 : Option Addr} {sl30 : Array (Option Value)} {oc30 kV30 dc30 pm30 cd30 ct30 : Value}
  {f31 : Addr} {od31 an31 : Option Addr} {sl31 : Array (Option Value)} {oc31 kV31 dc31 pm31 cd31 ct31 : Value}
  {f32 : Addr} {od32 an32 : Option Addr} {sl32 : Array (Option Value)} {oc32 kV32 dc32 pm32 cd32 ct32 : Value}
  {f33 : Addr} {od33 an33 : Option Addr} {sl33 : Array (Option Value)} {oc33 kV33 dc33 pm33 cd33 ct33 : Value}
  {f34 : Addr} {od34 an34 : Option Addr} {sl34 : Array (Option Value)} {oc34 kV34 dc34 pm34 cd34 ct34 : Value}
  {f35 : Addr} {od35 an35 : Option Addr} {sl35 : Array (Option Value)} {oc35 kV35 dc35 pm35 cd35 ct35 : Value}
  {f36 : Addr} {od36 an36 : Option Addr} {sl36 : Array (Option Value)} {oc36 kV36 dc36 pm36 cd36 ct36 : Value}
  {f37 : Addr} {od37 an37 : Option Addr} {sl37 : Array (Option Value)} {oc37 kV37 dc37 pm37 cd37 ct37 : Value}
  {f38 : Addr} {od38 an38 : Option Addr} {sl38 : Array (Option Value)} {oc38 kV38 dc38 pm38 cd38 ct38 : Value}
  {f39 : Addr} {od39 an39 : Option Addr} {sl39 : Array (Option Value)} {oc39 kV39 dc39 pm39 cd39 ct39 : Value}
  {f40 : Addr} {od40 an40 : Option Addr} {sl40 : Array (Option Value)} {oc40 kV40 dc40 pm40 cd40 ct40 : Value}
  {f41 : Addr} {od41 an41 : Option Addr} {sl41 : Array (Option Value)} {oc41 kV41 dc41 pm41 cd41 ct41 : Value}
  {f42 : Addr} {od42 an42 : Option Addr} {sl42 : Array (Option Value)} {oc42 kV42 dc42 pm42 cd42 ct42 : Value}
  {f43 : Addr} {od43 an43 : Option Addr} {sl43 : Array (Option Value)} {oc43 kV43 dc43 pm43 cd43 ct43 : Value}
  {f44 : Addr} {od44 an44 : Option Addr} {sl44 : Array (Option Value)} {oc44 kV44 dc44 pm44 cd44 ct44 : Value}
  {f45 : Addr} {od45 an45 : Option Addr} {sl45 : Array (Option Value)} {oc45 kV45 dc45 pm45 cd45 ct45 : Value}
  {C : Addr}
  {fCm0 : Addr} {odCm0 anCm0 : Option Addr} {slCm0 : Array (Option Value)} {ocCm0 kVCm0 dcCm0 pmCm0 cdCm0 ctCm0 : Value}
  {fCm1 : Addr} {odCm1 anCm1 : Option Addr} {slCm1 : Array (Option Value)} {ocCm1 kVCm1 dcCm1 pmCm1 cdCm1 ctCm1 : Value}
  {fCm2 : Addr} {odCm2 anCm2 : Option Addr} {slCm2 : Array (Option Value)} {ocCm2 kVCm2 dcCm2 pmCm2 cdCm2 ctCm2 : Value}
  {fCm3 : Addr} {odCm3 anCm3 : Option Addr} {slCm3 : Array (Option Value)} {ocCm3 kVCm3 dcCm3 pmCm3 cdCm3 ctCm3 : Value}
  {fCm4 : Addr} {odCm4 anCm4 : Option Addr} {slCm4 : Array (Option Value)} {ocCm4 kVCm4 dcCm4 pmCm4 cdCm4 ctCm4 : Value}
  {fCm5 : Addr} {odCm5 anCm5 : Option Addr} {slCm5 : Array (Option Value)} {ocCm5 kVCm5 dcCm5 pmCm5 cdCm5 ctCm5 : Value}
  {fCm6 : Addr} {odCm6 anCm6 : Option Addr} {slCm6 : Array (Option Value)} {ocCm6 kVCm6 dcCm6 pmCm6 cdCm6 ctCm6 : Value}
  {W : Addr}
  {fWm0 : Addr} {odWm0 anWm0 : Option Addr} {slWm0 : Array (Option Value)} {ocWm0 kVWm0 dcWm0 pmWm0 cdWm0 ctWm0 : Value}
  {aL aR : Addr} {odL odR : Option Addr} {tL uL tR uR t8 t1 t2 : Tok} {nL nR : Nat} {slL slR : Array (Option Value)}
  {aS aS0 aS1 : Addr} {odS od0 odq : Option Addr} {t0 u0 t1q u1 : Tok} {nS n0 n1 : Nat} {slS sl0 sl1q : Array (Option Value)}
  (a1 : PySem.W.nsIn K mainGlobals "is_whole" = some (some (.ref f1)))
  (l1 : K.lookup f1 = some ⟨oc1, od1, .func (PySem.W.fnOf "is_whole" "is_whole" (defArgs s_is_whole) (defBody s_is_whole) (defScope s_is_whole) .none kV1 dc1 pm1 an1 cd1 ct1), sl1⟩) (c1 : PySem.W.codeIn K cd1 "is_whole" = true) (k1 : PySem.W.keepIn K (.ref f1) = true)
  (a2 : PySem.W.nsIn K mainGlobals "greatest_divisor" = some (some (.ref f2)))
  (l2 : K.lookup f2 = some ⟨oc2, od2, .func (PySem.W.fnOf "greatest_divisor" "greatest_divisor" (defArgs s_greatest_divisor) (defBody s_greatest_divisor) (defScope s_greatest_divisor) .none kV2 dc2 pm2 an2 cd2 ct2), sl2⟩) (c2 : PySem.W.codeIn K cd2 "greatest_divisor" = true) (k2 : PySem.W.keepIn K (.ref f2) = true)
  (a3 : PySem.W.nsIn K mainGlobals "is_fraction" = some (some (.ref f3)))
  (l3 : K.lookup f3 = some ⟨oc3, od3, .func (PySem.W.fnOf "is_fraction" "is_fraction" (defArgs s_is_fraction) (defBody s_is_fraction) (defScope s_is_fraction) .none kV3 dc3 pm3 an3 cd3 ct3), sl3⟩) (c3 : PySem.W.codeIn K cd3 "is_fraction" = true) (k3 : PySem.W.keepIn K (.ref f3) = true)
  (a4 : PySem.W.nsIn K mainGlobals "made" = some (some (.ref f4)))
  (l4 : K.lookup f4 = some ⟨oc4, od4, .func (PySem.W.fnOf "made" "made" (defArgs s_made) (defBody s_made) (defScope s_made) .none kV4 dc4 pm4 an4 cd4 ct4), sl4⟩) (c4 : PySem.W.codeIn K cd4 "made" = true) (k4 : PySem.W.keepIn K (.ref f4) = true)
  (a5 : PySem.W.nsIn K mainGlobals "plus" = some (some (.ref f5)))
  (l5 : K.lookup f5 = some ⟨oc5, od5, .func (PySem.W.fnOf "plus" "plus" (defArgs s_plus) (defBody s_plus) (defScope s_plus) .none kV5 dc5 pm5 an5 cd5 ct5), sl5⟩) (c5 : PySem.W.codeIn K cd5 "plus" = true) (k5 : PySem.W.keepIn K (.ref f5) = true)
  (a6 : PySem.W.nsIn K mainGlobals "minus" = some (some (.ref f6)))
  (l6 : K.lookup f6 = some ⟨oc6, od6, .func (PySem.W.fnOf "minus" "minus" (defArgs s_minus) (defBody s_minus) (defScope s_minus) .none kV6 dc6 pm6 an6 cd6 ct6), sl6⟩) (c6 : PySem.W.codeIn K cd6 "minus" = true) (k6 : PySem.W.keepIn K (.ref f6) = true)
  (a7 : PySem.W.nsIn K mainGlobals "times" = some (some (.ref f7)))
  (l7 : K.lookup f7 = some ⟨oc7, od7, .func (PySem.W.fnOf "times" "times" (defArgs s_times) (defBody s_times) (defScope s_times) .none kV7 dc7 pm7 an7 cd7 ct7), sl7⟩) (c7 : PySem.W.codeIn K cd7 "times" = true) (k7 : PySem.W.keepIn K (.ref f7) = true)
  (a8 : PySem.W.nsIn K mainGlobals "over" = some (some (.ref f8)))
  (l8 : K.lookup f8 = some ⟨oc8, od8, .func (PySem.W.fnOf "over" "over" (defArgs s_over) (defBody s_over) (defScope s_over) .none kV8 dc8 pm8 an8 cd8 ct8), sl8⟩) (c8 : PySem.W.codeIn K cd8 "over" = true) (k8 : PySem.W.keepIn K (.ref f8) = true)
  (a9 : PySem.W.nsIn K mainGlobals "below" = some (some (.ref f9)))
  (l9 : K.lookup f9 = some ⟨oc9, od9, .func (PySem.W.fnOf "below" "below" (defArgs s_below) (defBody s_below) (defScope s_below) .none kV9 dc9 pm9 an9 cd9 ct9), sl9⟩) (c9 : PySem.W.codeIn K cd9 "below" = true) (k9 : PySem.W.keepIn K (.ref f9) = true)
  (a10 : PySem.W.nsIn K mainGlobals "apart" = some (some (.ref f10)))
  (l10 : K.lookup f10 = some ⟨oc10, od10, .func (PySem.W.fnOf "apart" "apart" (defArgs s_apart) (defBody s_apart) (defScope s_apart) .none kV10 dc10 pm10 an10 cd10 ct10), sl10⟩) (c10 : PySem.W.codeIn K cd10 "apart" = true) (k10 : PySem.W.keepIn K (.ref f10) = true)
  (a11 : PySem.W.nsIn K mainGlobals "reaches" = some (some (.ref f11)))
  (l11 : K.lookup f11 = some ⟨oc11, od11, .func (PySem.W.fnOf "reaches" "reaches" (defArgs s_reaches) (defBody s_reaches) (defScope s_reaches) .none kV11 dc11 pm11 an11 cd11 ct11), sl11⟩) (c11 : PySem.W.codeIn K cd11 "reaches" = true) (k11 : PySem.W.keepIn K (.ref f11) = true)
  (a12 : PySem.W.nsIn K mainGlobals "crossing" = some (some (.ref f12)))
  (l12 : K.lookup f12 = some ⟨oc12, od12, .func (PySem.W.fnOf "crossing" "crossing" (defArgs s_crossing) (defBody s_crossing) (defScope s_crossing) .none kV12 dc12 pm12 an12 cd12 ct12), sl12⟩) (c12 : PySem.W.codeIn K cd12 "crossing" = true) (k12 : PySem.W.keepIn K (.ref f12) = true)
  (a13 : PySem.W.nsIn K mainGlobals "reached" = some (some (.ref f13)))
  (l13 : K.lookup f13 = some ⟨oc13, od13, .func (PySem.W.fnOf "reached" "reached" (defArgs s_reached) (defBody s_reached) (defScope s_reached) .none kV13 dc13 pm13 an13 cd13 ct13), sl13⟩) (c13 : PySem.W.codeIn K cd13 "reached" = true) (k13 : PySem.W.keepIn K (.ref f13) = true)
  (a14 : PySem.W.nsIn K mainGlobals "is_span" = some (some (.ref f14)))
  (l14 : K.lookup f14 = some ⟨oc14, od14, .func (PySem.W.fnOf "is_span" "is_span" (defArgs s_is_span) (defBody s_is_span) (defScope s_is_span) .none kV14 dc14 pm14 an14 cd14 ct14), sl14⟩) (c14 : PySem.W.codeIn K cd14 "is_span" = true) (k14 : PySem.W.keepIn K (.ref f14) = true)
  (a15 : PySem.W.nsIn K mainGlobals "check_piece" = some (some (.ref f15)))
  (l15 : K.lookup f15 = some ⟨oc15, od15, .func (PySem.W.fnOf "check_piece" "check_piece" (defArgs s_check_piece) (defBody s_check_piece) (defScope s_check_piece) .none kV15 dc15 pm15 an15 cd15 ct15), sl15⟩) (c15 : PySem.W.codeIn K cd15 "check_piece" = true) (k15 : PySem.W.keepIn K (.ref f15) = true)
  (a16 : PySem.W.nsIn K mainGlobals "check_step" = some (some (.ref f16)))
  (l16 : K.lookup f16 = some ⟨oc16, od16, .func (PySem.W.fnOf "check_step" "check_step" (defArgs s_check_step) (defBody s_check_step) (defScope s_check_step) .none kV16 dc16 pm16 an16 cd16 ct16), sl16⟩) (c16 : PySem.W.codeIn K cd16 "check_step" = true) (k16 : PySem.W.keepIn K (.ref f16) = true)
  (a17 : PySem.W.nsIn K mainGlobals "check_steps" = some (some (.ref f17)))
  (l17 : K.lookup f17 = some ⟨oc17, od17, .func (PySem.W.fnOf "check_steps" "check_steps" (defArgs s_check_steps) (defBody s_check_steps) (defScope s_check_steps) .none kV17 dc17 pm17 an17 cd17 ct17), sl17⟩) (c17 : PySem.W.codeIn K cd17 "check_steps" = true) (k17 : PySem.W.keepIn K (.ref f17) = true)
  (a18 : PySem.W.nsIn K mainGlobals "worth_line" = some (some (.ref f18)))
  (l18 : K.lookup f18 = some ⟨oc18, od18, .func (PySem.W.fnOf "worth_line" "worth_line" (defArgs s_worth_line) (defBody s_worth_line) (defScope s_worth_line) .none kV18 dc18 pm18 an18 cd18 ct18), sl18⟩) (c18 : PySem.W.codeIn K cd18 "worth_line" = true) (k18 : PySem.W.keepIn K (.ref f18) = true)
  (a19 : PySem.W.nsIn K mainGlobals "ranked" = some (some (.ref f19)))
  (l19 : K.lookup f19 = some ⟨oc19, od19, .func (PySem.W.fnOf "ranked" "ranked" (defArgs s_ranked) (defBody s_ranked) (defScope s_ranked) .none kV19 dc19 pm19 an19 (.ref q19) ct19), sl19⟩) (c19 : PySem.W.codeIn K (.ref q19) "ranked" = true) (k19 : PySem.W.keepIn K (.ref f19) = true)
  (t19 : K.lookup q19 = some ⟨oq19, dq19, .fields vs19, sq19⟩) (u19 : (vs19[11]? : Option Value) = some (.ref p19)) (r19 : (recsOf q).find? (fun e => e.name == ("ranked" : Str)) = some e19)
  (a20 : PySem.W.nsIn K mainGlobals "turns" = some (some (.ref f20)))
  (l20 : K.lookup f20 = some ⟨oc20, od20, .func (PySem.W.fnOf "turns" "turns" (defArgs s_turns) (defBody s_turns) (defScope s_turns) .none kV20 dc20 pm20 an20 cd20 ct20), sl20⟩) (c20 : PySem.W.codeIn K cd20 "turns" = true) (k20 : PySem.W.keepIn K (.ref f20) = true)
  (a21 : PySem.W.nsIn K mainGlobals "nearest" = some (some (.ref f21)))
  (l21 : K.lookup f21 = some ⟨oc21, od21, .func (PySem.W.fnOf "nearest" "nearest" (defArgs s_nearest) (defBody s_nearest) (defScope s_nearest) .none kV21 dc21 pm21 an21 cd21 ct21), sl21⟩) (c21 : PySem.W.codeIn K cd21 "nearest" = true) (k21 : PySem.W.keepIn K (.ref f21) = true)
  (a22 : PySem.W.nsIn K mainGlobals "combined" = some (some (.ref f22)))
  (l22 : K.lookup f22 = some ⟨oc22, od22, .func (PySem.W.fnOf "combined" "combined" (defArgs s_combined) (defBody s_combined) (defScope s_combined) .none kV22 dc22 pm22 an22 cd22 ct22), sl22⟩) (c22 : PySem.W.codeIn K cd22 "combined" = true) (k22 : PySem.W.keepIn K (.ref f22) = true)
  (a23 : PySem.W.nsIn K mainGlobals "joined" = some (some (.ref f23)))
  (l23 : K.lookup f23 = some ⟨oc23, od23, .func (PySem.W.fnOf "joined" "joined" (defArgs s_joined) (defBody s_joined) (defScope s_joined) .none kV23 dc23 pm23 an23 (.ref q23) ct23), sl23⟩) (c23 : PySem.W.codeIn K (.ref q23) "joined" = true) (k23 : PySem.W.keepIn K (.ref f23) = true)
  (t23 : K.lookup q23 = some ⟨oq23, dq23, .fields vs23, sq23⟩) (u23 : (vs23[11]? : Option Value) = some (.ref p23)) (r23 : (recsOf q).find? (fun e => e.name == ("joined" : Str)) = some e23)
  (a24 : PySem.W.nsIn K mainGlobals "check_tastes" = some (some (.ref f24)))
  (l24 : K.lookup f24 = some ⟨oc24, od24, .func (PySem.W.fnOf "check_tastes" "check_tastes" (defArgs s_check_tastes) (defBody s_check_tastes) (defScope s_check_tastes) .none kV24 dc24 pm24 an24 cd24 ct24), sl24⟩) (c24 : PySem.W.codeIn K cd24 "check_tastes" = true) (k24 : PySem.W.keepIn K (.ref f24) = true)
  (a25 : PySem.W.nsIn K mainGlobals "check_takers" = some (some (.ref f25)))
  (l25 : K.lookup f25 = some ⟨oc25, od25, .func (PySem.W.fnOf "check_takers" "check_takers" (defArgs s_check_takers) (defBody s_check_takers) (defScope s_check_takers) .none kV25 dc25 pm25 an25 cd25 ct25), sl25⟩) (c25 : PySem.W.codeIn K cd25 "check_takers" = true) (k25 : PySem.W.keepIn K (.ref f25) = true)
  (a26 : PySem.W.nsIn K mainGlobals "mark_within" = some (some (.ref f26)))
  (l26 : K.lookup f26 = some ⟨oc26, od26, .func (PySem.W.fnOf "mark_within" "mark_within" (defArgs s_mark_within) (defBody s_mark_within) (defScope s_mark_within) .none kV26 dc26 pm26 an26 cd26 ct26), sl26⟩) (c26 : PySem.W.codeIn K cd26 "mark_within" = true) (k26 : PySem.W.keepIn K (.ref f26) = true)
  (a27 : PySem.W.nsIn K mainGlobals "in_thirds" = some (some (.ref f27)))
  (l27 : K.lookup f27 = some ⟨oc27, od27, .func (PySem.W.fnOf "in_thirds" "in_thirds" (defArgs s_in_thirds) (defBody s_in_thirds) (defScope s_in_thirds) .none kV27 dc27 pm27 an27 cd27 ct27), sl27⟩) (c27 : PySem.W.codeIn K cd27 "in_thirds" = true) (k27 : PySem.W.keepIn K (.ref f27) = true)
  (a28 : PySem.W.nsIn K mainGlobals "dearest" = some (some (.ref f28)))
  (l28 : K.lookup f28 = some ⟨oc28, od28, .func (PySem.W.fnOf "dearest" "dearest" (defArgs s_dearest) (defBody s_dearest) (defScope s_dearest) .none kV28 dc28 pm28 an28 cd28 ct28), sl28⟩) (c28 : PySem.W.codeIn K cd28 "dearest" = true) (k28 : PySem.W.keepIn K (.ref f28) = true)
  (a29 : PySem.W.nsIn K mainGlobals "take_dearest" = some (some (.ref f29)))
  (l29 : K.lookup f29 = some ⟨oc29, od29, .func (PySem.W.fnOf "take_dearest" "take_dearest" (defArgs s_take_dearest) (defBody s_take_dearest) (defScope s_take_dearest) .none kV29 dc29 pm29 an29 cd29 ct29), sl29⟩) (c29 : PySem.W.codeIn K cd29 "take_dearest" = true) (k29 : PySem.W.keepIn K (.ref f29) = true)
  (a30 : PySem.W.nsIn K mainGlobals "trimmed" = some (some (.ref f30)))
  (l30 : K.lookup f30 = some ⟨oc30, od30, .func (PySem.W.fnOf "trimmed" "trimmed" (defArgs s_trimmed) (defBody s_trimmed) (defScope s_trimmed) .none kV30 dc30 pm30 an30 cd30 ct30), sl30⟩) (c30 : PySem.W.codeIn K cd30 "trimmed" = true) (k30 : PySem.W.keepIn K (.ref f30) = true)
  (a31 : PySem.W.nsIn K mainGlobals "deal_rest" = some (some (.ref f31)))
  (l31 : K.lookup f31 = some ⟨oc31, od31, .func (PySem.W.fnOf "deal_rest" "deal_rest" (defArgs s_deal_rest) (defBody s_deal_rest) (defScope s_deal_rest) .none kV31 dc31 pm31 an31 cd31 ct31), sl31⟩) (c31 : PySem.W.codeIn K cd31 "deal_rest" = true) (k31 : PySem.W.keepIn K (.ref f31) = true)
  (a32 : PySem.W.nsIn K mainGlobals "deal_without_envy" = some (some (.ref f32)))
  (l32 : K.lookup f32 = some ⟨oc32, od32, .func (PySem.W.fnOf "deal_without_envy" "deal_without_envy" (defArgs s_deal_without_envy) (defBody s_deal_without_envy) (defScope s_deal_without_envy) .none kV32 dc32 pm32 an32 cd32 ct32), sl32⟩) (c32 : PySem.W.codeIn K cd32 "deal_without_envy" = true) (k32 : PySem.W.keepIn K (.ref f32) = true)
  (a33 : PySem.W.nsIn K mainGlobals "_law_cell_at" = some (some (.ref f33)))
  (l33 : K.lookup f33 = some ⟨oc33, od33, .func (PySem.W.fnOf "_law_cell_at" "_law_cell_at" (defArgs s__law_cell_at) (defBody s__law_cell_at) (defScope s__law_cell_at) .none kV33 dc33 pm33 an33 cd33 ct33), sl33⟩) (c33 : PySem.W.codeIn K cd33 "_law_cell_at" = true) (k33 : PySem.W.keepIn K (.ref f33) = true)
  (a34 : PySem.W.nsIn K mainGlobals "_law_mixed" = some (some (.ref f34)))
  (l34 : K.lookup f34 = some ⟨oc34, od34, .func (PySem.W.fnOf "_law_mixed" "_law_mixed" (defArgs s__law_mixed) (defBody s__law_mixed) (defScope s__law_mixed) .none kV34 dc34 pm34 an34 cd34 ct34), sl34⟩) (c34 : PySem.W.codeIn K cd34 "_law_mixed" = true) (k34 : PySem.W.keepIn K (.ref f34) = true)
  (a35 : PySem.W.nsIn K mainGlobals "_law_low" = some (some (.ref f35)))
  (l35 : K.lookup f35 = some ⟨oc35, od35, .func (PySem.W.fnOf "_law_low" "_law_low" (defArgs s__law_low) (defBody s__law_low) (defScope s__law_low) .none kV35 dc35 pm35 an35 cd35 ct35), sl35⟩) (c35 : PySem.W.codeIn K cd35 "_law_low" = true) (k35 : PySem.W.keepIn K (.ref f35) = true)
  (a36 : PySem.W.nsIn K mainGlobals "_law_less" = some (some (.ref f36)))
  (l36 : K.lookup f36 = some ⟨oc36, od36, .func (PySem.W.fnOf "_law_less" "_law_less" (defArgs s__law_less) (defBody s__law_less) (defScope s__law_less) .none kV36 dc36 pm36 an36 cd36 ct36), sl36⟩) (c36 : PySem.W.codeIn K cd36 "_law_less" = true) (k36 : PySem.W.keepIn K (.ref f36) = true)
  (a37 : PySem.W.nsIn K mainGlobals "_law_sum" = some (some (.ref f37)))
  (l37 : K.lookup f37 = some ⟨oc37, od37, .func (PySem.W.fnOf "_law_sum" "_law_sum" (defArgs s__law_sum) (defBody s__law_sum) (defScope s__law_sum) .none kV37 dc37 pm37 an37 cd37 ct37), sl37⟩) (c37 : PySem.W.codeIn K cd37 "_law_sum" = true) (k37 : PySem.W.keepIn K (.ref f37) = true)
  (a38 : PySem.W.nsIn K mainGlobals "_law_left" = some (some (.ref f38)))
  (l38 : K.lookup f38 = some ⟨oc38, od38, .func (PySem.W.fnOf "_law_left" "_law_left" (defArgs s__law_left) (defBody s__law_left) (defScope s__law_left) .none kV38 dc38 pm38 an38 cd38 ct38), sl38⟩) (c38 : PySem.W.codeIn K cd38 "_law_left" = true) (k38 : PySem.W.keepIn K (.ref f38) = true)
  (a39 : PySem.W.nsIn K mainGlobals "_law_steps_by" = some (some (.ref f39)))
  (l39 : K.lookup f39 = some ⟨oc39, od39, .func (PySem.W.fnOf "_law_steps_by" "_law_steps_by" (defArgs s__law_steps_by) (defBody s__law_steps_by) (defScope s__law_steps_by) .none kV39 dc39 pm39 an39 cd39 ct39), sl39⟩) (c39 : PySem.W.codeIn K cd39 "_law_steps_by" = true) (k39 : PySem.W.keepIn K (.ref f39) = true)
  (a40 : PySem.W.nsIn K mainGlobals "_law_area" = some (some (.ref f40)))
  (l40 : K.lookup f40 = some ⟨oc40, od40, .func (PySem.W.fnOf "_law_area" "_law_area" (defArgs s__law_area) (defBody s__law_area) (defScope s__law_area) .none kV40 dc40 pm40 an40 cd40 ct40), sl40⟩) (c40 : PySem.W.codeIn K cd40 "_law_area" = true) (k40 : PySem.W.keepIn K (.ref f40) = true)
  (a41 : PySem.W.nsIn K mainGlobals "_law_worth" = some (some (.ref f41)))
  (l41 : K.lookup f41 = some ⟨oc41, od41, .func (PySem.W.fnOf "_law_worth" "_law_worth" (defArgs s__law_worth) (defBody s__law_worth) (defScope s__law_worth) .none kV41 dc41 pm41 an41 cd41 ct41), sl41⟩) (c41 : PySem.W.codeIn K cd41 "_law_worth" = true) (k41 : PySem.W.keepIn K (.ref f41) = true)
  (a42 : PySem.W.nsIn K mainGlobals "_law_fraction" = some (some (.ref f42)))
  (l42 : K.lookup f42 = some ⟨oc42, od42, .func (PySem.W.fnOf "_law_fraction" "_law_fraction" (defArgs s__law_fraction) (defBody s__law_fraction) (defScope s__law_fraction) .none kV42 dc42 pm42 an42 cd42 ct42), sl42⟩) (c42 : PySem.W.codeIn K cd42 "_law_fraction" = true) (k42 : PySem.W.keepIn K (.ref f42) = true)
  (a43 : PySem.W.nsIn K mainGlobals "_law_piece" = some (some (.ref f43)))
  (l43 : K.lookup f43 = some ⟨oc43, od43, .func (PySem.W.fnOf "_law_piece" "_law_piece" (defArgs s__law_piece) (defBody s__law_piece) (defScope s__law_piece) .none kV43 dc43 pm43 an43 cd43 ct43), sl43⟩) (c43 : PySem.W.codeIn K cd43 "_law_piece" = true) (k43 : PySem.W.keepIn K (.ref f43) = true)
  (a44 : PySem.W.nsIn K mainGlobals "_law_dealt" = some (some (.ref f44)))
  (l44 : K.lookup f44 = some ⟨oc44, od44, .func (PySem.W.fnOf "_law_dealt" "_law_dealt" (defArgs s__law_dealt) (defBody s__law_dealt) (defScope s__law_dealt) .none kV44 dc44 pm44 an44 cd44 ct44), sl44⟩) (c44 : PySem.W.codeIn K cd44 "_law_dealt" = true) (k44 : PySem.W.keepIn K (.ref f44) = true)
  (a45 : PySem.W.nsIn K mainGlobals "law" = some (some (.ref f45)))
  (l45 : K.lookup f45 = some ⟨oc45, od45, .func (PySem.W.fnOf "law" "law" (defArgs s_law) (defBody s_law) (defScope s_law) .none kV45 dc45 pm45 an45 cd45 ct45), sl45⟩) (c45 : PySem.W.codeIn K cd45 "law" = true) (k45 : PySem.W.keepIn K (.ref f45) = true)
  (d19_23 : p19 ≠ p23)
  (nt : PySem.W.noTabs K = true)
  (aC : PySem.W.nsIn K mainGlobals "Taste" = some (some (.ref C)))
  (aCm0 : PySem.W.findIn K (.ref C) "__init__" = some (some (.ref fCm0)))
  (lCm0 : K.lookup fCm0 = some ⟨ocCm0, odCm0, .func (PySem.W.fnOf "__init__" "Taste.__init__" (defArgs m_Taste___init__) (defBody m_Taste___init__) (defScope m_Taste___init__) .none kVCm0 dcCm0 pmCm0 anCm0 cdCm0 ctCm0), slCm0⟩) (cCm0 : PySem.W.codeIn K cdCm0 "Taste.__init__" = true) (kCm0 : PySem.W.keepIn K (.ref fCm0) = true)
  (iCm0 : PySem.W.isFn K (.ref fCm0) = true)
  (aCm1 : PySem.W.findIn K (.ref C) "steps" = some (some (.ref fCm1)))
  (lCm1 : K.lookup fCm1 = some ⟨ocCm1, odCm1, .func (PySem.W.fnOf "steps" "Taste.steps" (defArgs m_Taste_steps) (defBody m_Taste_steps) (defScope m_Taste_steps) .none kVCm1 dcCm1 pmCm1 anCm1 cdCm1 ctCm1), slCm1⟩) (cCm1 : PySem.W.codeIn K cdCm1 "Taste.steps" = true) (kCm1 : PySem.W.keepIn K (.ref fCm1) = true)
  (iCm1 : PySem.W.isFn K (.ref fCm1) = true)
  (aCm2 : PySem.W.findIn K (.ref C) "worth_up_to" = some (some (.ref fCm2)))
  (lCm2 : K.lookup fCm2 = some ⟨ocCm2, odCm2, .func (PySem.W.fnOf "worth_up_to" "Taste.worth_up_to" (defArgs m_Taste_worth_up_to) (defBody m_Taste_worth_up_to) (defScope m_Taste_worth_up_to) .none kVCm2 dcCm2 pmCm2 anCm2 cdCm2 ctCm2), slCm2⟩) (cCm2 : PySem.W.codeIn K cdCm2 "Taste.worth_up_to" = true) (kCm2 : PySem.W.keepIn K (.ref fCm2) = true)
  (iCm2 : PySem.W.isFn K (.ref fCm2) = true)
  (aCm3 : PySem.W.findIn K (.ref C) "point_at" = some (some (.ref fCm3)))
  (lCm3 : K.lookup fCm3 = some ⟨ocCm3, odCm3, .func (PySem.W.fnOf "point_at" "Taste.point_at" (defArgs m_Taste_point_at) (defBody m_Taste_point_at) (defScope m_Taste_point_at) .none kVCm3 dcCm3 pmCm3 anCm3 cdCm3 ctCm3), slCm3⟩) (cCm3 : PySem.W.codeIn K cdCm3 "Taste.point_at" = true) (kCm3 : PySem.W.keepIn K (.ref fCm3) = true)
  (iCm3 : PySem.W.isFn K (.ref fCm3) = true)
  (aCm4 : PySem.W.findIn K (.ref C) "span_worth" = some (some (.ref fCm4)))
  (lCm4 : K.lookup fCm4 = some ⟨ocCm4, odCm4, .func (PySem.W.fnOf "span_worth" "Taste.span_worth" (defArgs m_Taste_span_worth) (defBody m_Taste_span_worth) (defScope m_Taste_span_worth) .none kVCm4 dcCm4 pmCm4 anCm4 cdCm4 ctCm4), slCm4⟩) (cCm4 : PySem.W.codeIn K cdCm4 "Taste.span_worth" = true) (kCm4 : PySem.W.keepIn K (.ref fCm4) = true)
  (iCm4 : PySem.W.isFn K (.ref fCm4) = true)
  (aCm5 : PySem.W.findIn K (.ref C) "worth" = some (some (.ref fCm5)))
  (lCm5 : K.lookup fCm5 = some ⟨ocCm5, odCm5, .func (PySem.W.fnOf "worth" "Taste.worth" (defArgs m_Taste_worth) (defBody m_Taste_worth) (defScope m_Taste_worth) .none kVCm5 dcCm5 pmCm5 anCm5 cdCm5 ctCm5), slCm5⟩) (cCm5 : PySem.W.codeIn K cdCm5 "Taste.worth" = true) (kCm5 : PySem.W.keepIn K (.ref fCm5) = true)
  (iCm5 : PySem.W.isFn K (.ref fCm5) = true)
  (aCm6 : PySem.W.findIn K (.ref C) "mark" = some (some (.ref fCm6)))
  (lCm6 : K.lookup fCm6 = some ⟨ocCm6, odCm6, .func (PySem.W.fnOf "mark" "Taste.mark" (defArgs m_Taste_mark) (defBody m_Taste_mark) (defScope m_Taste_mark) .none kVCm6 dcCm6 pmCm6 anCm6 cdCm6 ctCm6), slCm6⟩) (cCm6 : PySem.W.codeIn K cdCm6 "Taste.mark" = true) (kCm6 : PySem.W.keepIn K (.ref fCm6) = true)
  (iCm6 : PySem.W.isFn K (.ref fCm6) = true)
  (pgC : PySem.W.plainGet K C Str.empty = true)
  (hdC : PySem.W.hasDictIn K C = true)
  (poC : PySem.W.plainOver K C = true)
  (saC : PySem.W.findIn K (.ref C) "__setattr__" = some (some (.builtin "object.__setattr__")))
  (mkC : PySem.W.makesIn K C = true)
  (kcC : PySem.W.keepIn K (.ref C) = true)
  (nCtold : PySem.W.findIn K (.ref C) "told" = some none)
  (nCline : PySem.W.findIn K (.ref C) "line" = some none)
  (aW : PySem.W.nsIn K mainGlobals "Three" = some (some (.ref W)))
  (aWm0 : PySem.W.findIn K (.ref W) "deal" = some (some (.ref fWm0)))
  (lWm0 : K.lookup fWm0 = some ⟨ocWm0, odWm0, .func (PySem.W.fnOf "deal" "Three.deal" (defArgs m_Three_deal) (defBody m_Three_deal) (defScope m_Three_deal) .none kVWm0 dcWm0 pmWm0 anWm0 cdWm0 ctWm0), slWm0⟩) (cWm0 : PySem.W.codeIn K cdWm0 "Three.deal" = true) (kWm0 : PySem.W.keepIn K (.ref fWm0) = true)
  (iWm0 : PySem.W.isFn K (.ref fWm0) = true)
  (pgW : PySem.W.plainGet K W Str.empty = true)
  (hdW : PySem.W.hasDictIn K W = true)
  (poW : PySem.W.plainOver K W = true)
  (saW : PySem.W.findIn K (.ref W) "__setattr__" = some (some (.builtin "object.__setattr__")))
  (mkW : PySem.W.makesIn K W = true)
  (kcW : PySem.W.keepIn K (.ref W) = true)
  (z1 : PySem.W.nsIn K mainGlobals "isinstance" = some none)
  (z2 : PySem.W.nsIn K mainGlobals "int" = some none)
  (z3 : PySem.W.nsIn K mainGlobals "bool" = some none)
  (z4 : PySem.W.nsIn K mainGlobals "tuple" = some none)
  (z5 : PySem.W.nsIn K mainGlobals "list" = some none)
  (z6 : PySem.W.nsIn K mainGlobals "len" = some none)
  (z7 : PySem.W.nsIn K mainGlobals "range" = some none)
  (z8 : PySem.W.nsIn K mainGlobals "zip" = some none)
  (z9 : PySem.W.nsIn K mainGlobals "sorted" = some none)
  (z10 : PySem.W.nsIn K mainGlobals "any" = some none)
  (z11 : PySem.W.nsIn K mainGlobals "enumerate" = some none)
  (z12 : PySem.W.nsIn K mainGlobals "reversed" = some none)
  (eL : PySem.W.nsIn K mainGlobals "LEFT_END" = some (some (.ref aL)))
  (eLo : K.lookup aL = some ⟨.type "tuple", odL, .seq #[.int 0 tL, .int 1 uL] nL, slL⟩)
  (eR : PySem.W.nsIn K mainGlobals "RIGHT_END" = some (some (.ref aR)))
  (eRo : K.lookup aR = some ⟨.type "tuple", odR, .seq #[.int 1 tR, .int 1 uR] nR, slR⟩)
  (e8 : PySem.W.nsIn K mainGlobals "MOST_STEPS" = some (some (.int 8 t8)))
  (e1 : PySem.W.nsIn K mainGlobals "GREATEST_SECOND_NUMBER" = some (some (.int 1000 t1)))
  (e2 : PySem.W.nsIn K mainGlobals "GREATEST_WEIGHT" = some (some (.int 1000 t2)))
  (haC : PySem.W.findIn K (.ref C) "__class__" = some (some (.builtin "object.__class__")))
  (hnC : PySem.W.specialIn K (.builtin "object.__class__") "__get__" = some (some (.builtin "getset_descriptor.__get__")))
  (htC : PySem.W.takesIn K (.builtin "object.__class__") = some true)
  (hmC : PySem.W.mroIn K C (.type "object") = some true)
  (oiW : PySem.W.findIn K (.ref W) "__init__" = some (some (.builtin "object.__init__")))
  (zall : PySem.W.nsIn K mainGlobals "all" = some none)
  (eS : PySem.W.nsIn K mainGlobals "CAKE_SPAN" = some (some (.ref aS)))
  (eSo : K.lookup aS = some ⟨.type "tuple", odS, .seq #[.ref aS0, .ref aS1] nS, slS⟩)
  (eS0 : K.lookup aS0 = some ⟨.type "tuple", od0, .seq #[.int 0 t0, .int 1 u0] n0, sl0⟩)
  (eS1 : K.lookup aS1 = some ⟨.type "tuple", odq, .seq #[.int 1 t1q, .int 1 u1] n1, sl1q⟩)
  (zsum : PySem.W.nsIn K mainGlobals "sum" = some none) :
  ∃ (tabs : List (Addr × Addr)) (fd : FuncData) (sp : Sp), (∀ t ∈ tabs, ∃ (y : Str) (e : DefRec), (recsOf q).find? (fun e => e.name == y) = some e ∧ PySem.W.tabIn K y = some t) ∧ PySem.W.noTabs K = true ∧ (∀ (s : Shared) (u : Value), BindsTo s fd ⟨[u], []⟩ [("_law_script", u)]) ∧
    (∀ base : Heap, K.In base → base.Ns mainGlobals mg → BM mg base → (∀ t ∈ tabs, PySem.W.CodeHd base t.1 t.2) → FnOk l.prog w K mg base CX0 15 fa fd ["_law_script"] sp) ∧
    ∀ (H : Hp) (a : Addr) (ns : List Int), ns.length ≤ 63 → SqL K H a (ns.map V.int) → (∀ t ∈ tabs, H t.2 = some (.tbl #[])) → sp [.ref a] H (fun v _ => v = .bl true) E0 := by
 have e := hfa.symm.trans (PySem.W.mg_of X G a45)
 cases e
 have T : Txt K mg aL aR := ⟨PySem.W.mg_none_of X G z1, PySem.W.mg_none_of X G z2, PySem.W.mg_none_of X G z3, PySem.W.mg_none_of X G z4, PySem.W.mg_none_of X G z5, PySem.W.mg_none_of X G z6, PySem.W.mg_none_of X G z7, PySem.W.mg_none_of X G z8, PySem.W.mg_none_of X G z9, PySem.W.mg_none_of X G z10, PySem.W.mg_none_of X G z11, PySem.W.mg_none_of X G z12, PySem.W.mg_of X G eL, sqK eLo, PySem.W.mg_of X G eR, sqK eRo⟩
 have F1 := fun_mk (st := s_is_whole) l1 c1 k1
 have D_is_whole : DefAt K mg "is_whole" s_is_whole ["thing"] _ _ := ⟨F1, PySem.W.mg_of X G a1, F1.binds (ps := ["thing"]) fun _ _ _ _ _ _ us hl => match us, hl with | [_], _ => rfl⟩
 have F2 := fun_mk (st := s_greatest_divisor) l2 c2 k2
 have D_greatest_divisor : DefAt K mg "greatest_divisor" s_greatest_divisor ["a", "b"] _ _ := ⟨F2, PySem.W.mg_of X G a2, F2.binds (ps := ["a", "b"]) fun _ _ _ _ _ _ us hl => match us, hl with | [_, _], _ => rfl⟩
 have F3 := fun_mk (st := s_is_fraction) l3 c3 k3
 have D_is_fraction : DefAt K mg "is_fraction" s_is_fraction ["thing"] _ _ := ⟨F3, PySem.W.mg_of X G a3, F3.binds (ps := ["thing"]) fun _ _ _ _ _ _ us hl => match us, hl with | [_], _ => rfl⟩
 have F4 := fun_mk (st := s_made) l4 c4 k4
 have D_made : DefAt K mg "made" s_made ["a", "b"] _ _ := ⟨F4, PySem.W.mg_of X G a4, F4.binds (ps := ["a", "b"]) fun _ _ _ _ _ _ us hl => match us, hl with | [_, _], _ => rfl⟩
 have F5 := fun_mk (st := s_plus) l5 c5 k5
 have D_plus : DefAt K mg "plus" s_plus ["one", "other"] _ _ := ⟨F5, PySem.W.mg_of X G a5, F5.binds (ps := ["one", "other"]) fun _ _ _ _ _ _ us hl => match us, hl with | [_, _], _ => rfl⟩
 have F6 := fun_mk (st := s_minus) l6 c6 k6
 have D_minus : DefAt K mg "minus" s_minus ["one", "other"] _ _ := ⟨F6, PySem.W.mg_of X G a6, F6.binds (ps := ["one", "other"]) fun _ _ _ _ _ _ us hl => match us, hl with | [_, _], _ => rfl⟩
 have F7 := fun_mk (st := s_times) l7 c7 k7
 have D_times : DefAt K mg "times" s_times ["one", "other"] _ _ := ⟨F7, PySem.W.mg_of X G a7, F7.binds (ps := ["one", "other"]) fun _ _ _ _ _ _ us hl => match us, hl with | [_, _], _ => rfl⟩
 have F8 := fun_mk (st := s_over) l8 c8 k8
 have D_over : DefAt K mg "over" s_over ["one", "other"] _ _ := ⟨F8, PySem.W.mg_of X G a8, F8.binds (ps := ["one", "other"]) fun _ _ _ _ _ _ us hl => match us, hl with | [_, _], _ => rfl⟩
 have F9 := fun_mk (st := s_below) l9 c9 k9
 have D_below : DefAt K mg "below" s_below ["one", "other"] _ _ := ⟨F9, PySem.W.mg_of X G a9, F9.binds (ps := ["one", "other"]) fun _ _ _ _ _ _ us hl => match us, hl with | [_, _], _ => rfl⟩
 have F10 := fun_mk (st := s_apart) l10 c10 k10
 have D_apart : DefAt K mg "apart" s_apart ["one", "other"] _ _ := ⟨F10, PySem.W.mg_of X G a10, F10.binds (ps := ["one", "other"]) fun _ _ _ _ _ _ us hl => match us, hl with | [_, _], _ => rfl⟩
 have F11 := fun_mk (st := s_reaches) l11 c11 k11
 have D_reaches : DefAt K mg "reaches" s_reaches ["one", "other", "up"] _ _ := ⟨F11, PySem.W.mg_of X G a11, F11.binds (ps := ["one", "other", "up"]) fun _ _ _ _ _ _ us hl => match us, hl with | [_, _, _], _ => rfl⟩
 have F12 := fun_mk (st := s_crossing) l12 c12 k12
 have D_crossing : DefAt K mg "crossing" s_crossing ["one", "other", "up"] _ _ := ⟨F12, PySem.W.mg_of X G a12, F12.binds (ps := ["one", "other", "up"]) fun _ _ _ _ _ _ us hl => match us, hl with | [_, _, _], _ => rfl⟩
 have F13 := fun_mk (st := s_reached) l13 c13 k13
 have D_reached : DefAt K mg "reached" s_reached ["line", "up"] _ _ := ⟨F13, PySem.W.mg_of X G a13, F13.binds (ps := ["line", "up"]) fun _ _ _ _ _ _ us hl => match us, hl with | [_, _], _ => rfl⟩
 have F14 := fun_mk (st := s_is_span) l14 c14 k14
 have D_is_span : DefAt K mg "is_span" s_is_span ["thing"] _ _ := ⟨F14, PySem.W.mg_of X G a14, F14.binds (ps := ["thing"]) fun _ _ _ _ _ _ us hl => match us, hl with | [_], _ => rfl⟩
 have F15 := fun_mk (st := s_check_piece) l15 c15 k15
 have D_check_piece : DefAt K mg "check_piece" s_check_piece ["piece"] _ _ := ⟨F15, PySem.W.mg_of X G a15, F15.binds (ps := ["piece"]) fun _ _ _ _ _ _ us hl => match us, hl with | [_], _ => rfl⟩
 have F16 := fun_mk (st := s_check_step) l16 c16 k16
 have D_check_step : DefAt K mg "check_step" s_check_step ["step"] _ _ := ⟨F16, PySem.W.mg_of X G a16, F16.binds (ps := ["step"]) fun _ _ _ _ _ _ us hl => match us, hl with | [_], _ => rfl⟩
 have F17 := fun_mk (st := s_check_steps) l17 c17 k17
 have D_check_steps : DefAt K mg "check_steps" s_check_steps ["steps"] _ _ := ⟨F17, PySem.W.mg_of X G a17, F17.binds (ps := ["steps"]) fun _ _ _ _ _ _ us hl => match us, hl with | [_], _ => rfl⟩
 have F18 := fun_mk (st := s_worth_line) l18 c18 k18
 have D_worth_line : DefAt K mg "worth_line" s_worth_line ["steps"] _ _ := ⟨F18, PySem.W.mg_of X G a18, F18.binds (ps := ["steps"]) fun _ _ _ _ _ _ us hl => match us, hl with | [_], _ => rfl⟩
 have F19 := fun_mk (st := s_ranked) l19 c19 k19
 have D_ranked : DefAt K mg "ranked" s_ranked ["those"] _ _ := ⟨F19, PySem.W.mg_of X G a19, F19.binds (ps := ["those"]) fun _ _ _ _ _ _ us hl => match us, hl with | [_], _ => rfl⟩
 have F20 := fun_mk (st := s_turns) l20 c20 k20
 have D_turns : DefAt K mg "turns" s_turns ["piece"] _ _ := ⟨F20, PySem.W.mg_of X G a20, F20.binds (ps := ["piece"]) fun _ _ _ _ _ _ us hl => match us, hl with | [_], _ => rfl⟩
 have F21 := fun_mk (st := s_nearest) l21 c21 k21
 have D_nearest : DefAt K mg "nearest" s_nearest ["ahead", "passed", "other_ahead", "other_passed"] _ _ := ⟨F21, PySem.W.mg_of X G a21, F21.binds (ps := ["ahead", "passed", "other_ahead", "other_passed"]) fun _ _ _ _ _ _ us hl => match us, hl with | [_, _, _, _], _ => rfl⟩
 have F22 := fun_mk (st := s_combined) l22 c22 k22
 have D_combined : DefAt K mg "combined" s_combined ["one", "other", "keeps"] _ _ := ⟨F22, PySem.W.mg_of X G a22, F22.binds (ps := ["one", "other", "keeps"]) fun _ _ _ _ _ _ us hl => match us, hl with | [_, _, _], _ => rfl⟩
 have F23 := fun_mk (st := s_joined) l23 c23 k23
 have D_joined : DefAt K mg "joined" s_joined ["one", "other"] _ _ := ⟨F23, PySem.W.mg_of X G a23, F23.binds (ps := ["one", "other"]) fun _ _ _ _ _ _ us hl => match us, hl with | [_, _], _ => rfl⟩
 have F24 := fun_mk (st := s_check_tastes) l24 c24 k24
 have D_check_tastes : DefAt K mg "check_tastes" s_check_tastes ["tastes"] _ _ := ⟨F24, PySem.W.mg_of X G a24, F24.binds (ps := ["tastes"]) fun _ _ _ _ _ _ us hl => match us, hl with | [_], _ => rfl⟩
 have F25 := fun_mk (st := s_check_takers) l25 c25 k25
 have D_check_takers : DefAt K mg "check_takers" s_check_takers ["tastes", "fewest", "most"] _ _ := ⟨F25, PySem.W.mg_of X G a25, F25.binds (ps := ["tastes", "fewest", "most"]) fun _ _ _ _ _ _ us hl => match us, hl with | [_, _, _], _ => rfl⟩
 have F26 := fun_mk (st := s_mark_within) l26 c26 k26
 have D_mark_within : DefAt K mg "mark_within" s_mark_within ["taste", "span", "part"] _ _ := ⟨F26, PySem.W.mg_of X G a26, F26.binds (ps := ["taste", "span", "part"]) fun _ _ _ _ _ _ us hl => match us, hl with | [_, _, _], _ => rfl⟩
 have F27 := fun_mk (st := s_in_thirds) l27 c27 k27
 have D_in_thirds : DefAt K mg "in_thirds" s_in_thirds ["taste", "span"] _ _ := ⟨F27, PySem.W.mg_of X G a27, F27.binds (ps := ["taste", "span"]) fun _ _ _ _ _ _ us hl => match us, hl with | [_, _], _ => rfl⟩
 have F28 := fun_mk (st := s_dearest) l28 c28 k28
 have D_dearest : DefAt K mg "dearest" s_dearest ["taste", "spans"] _ _ := ⟨F28, PySem.W.mg_of X G a28, F28.binds (ps := ["taste", "spans"]) fun _ _ _ _ _ _ us hl => match us, hl with | [_, _], _ => rfl⟩
 have F29 := fun_mk (st := s_take_dearest) l29 c29 k29
 have D_take_dearest : DefAt K mg "take_dearest" s_take_dearest ["taste", "spans"] _ _ := ⟨F29, PySem.W.mg_of X G a29, F29.binds (ps := ["taste", "spans"]) fun _ _ _ _ _ _ us hl => match us, hl with | [_, _], _ => rfl⟩
 have F30 := fun_mk (st := s_trimmed) l30 c30 k30
 have D_trimmed : DefAt K mg "trimmed" s_trimmed ["taste", "spans"] _ _ := ⟨F30, PySem.W.mg_of X G a30, F30.binds (ps := ["taste", "spans"]) fun _ _ _ _ _ _ us hl => match us, hl with | [_, _], _ => rfl⟩
 have F31 := fun_mk (st := s_deal_rest) l31 c31 k31
 have D_deal_rest : DefAt K mg "deal_rest" s_deal_rest ["tastes", "pieces", "rest", "holder"] _ _ := ⟨F31, PySem.W.mg_of X G a31, F31.binds (ps := ["tastes", "pieces", "rest", "holder"]) fun _ _ _ _ _ _ us hl => match us, hl with | [_, _, _, _], _ => rfl⟩
 have F32 := fun_mk (st := s_deal_without_envy) l32 c32 k32
 have D_deal_without_envy : DefAt K mg "deal_without_envy" s_deal_without_envy ["tastes"] _ _ := ⟨F32, PySem.W.mg_of X G a32, F32.binds (ps := ["tastes"]) fun _ _ _ _ _ _ us hl => match us, hl with | [_], _ => rfl⟩
 have F33 := fun_mk (st := s__law_cell_at) l33 c33 k33
 have D__law_cell_at : DefAt K mg "_law_cell_at" s__law_cell_at ["_law_script", "_law_k"] _ _ := ⟨F33, PySem.W.mg_of X G a33, F33.binds (ps := ["_law_script", "_law_k"]) fun _ _ _ _ _ _ us hl => match us, hl with | [_, _], _ => rfl⟩
 have F34 := fun_mk (st := s__law_mixed) l34 c34 k34
 have D__law_mixed : DefAt K mg "_law_mixed" s__law_mixed ["_law_cell", "_law_k"] _ _ := ⟨F34, PySem.W.mg_of X G a34, F34.binds (ps := ["_law_cell", "_law_k"]) fun _ _ _ _ _ _ us hl => match us, hl with | [_, _], _ => rfl⟩
 have F35 := fun_mk (st := s__law_low) l35 c35 k35
 have D__law_low : DefAt K mg "_law_low" s__law_low ["_law_a", "_law_b"] _ _ := ⟨F35, PySem.W.mg_of X G a35, F35.binds (ps := ["_law_a", "_law_b"]) fun _ _ _ _ _ _ us hl => match us, hl with | [_, _], _ => rfl⟩
 have F36 := fun_mk (st := s__law_less) l36 c36 k36
 have D__law_less : DefAt K mg "_law_less" s__law_less ["_law_one", "_law_other"] _ _ := ⟨F36, PySem.W.mg_of X G a36, F36.binds (ps := ["_law_one", "_law_other"]) fun _ _ _ _ _ _ us hl => match us, hl with | [_, _], _ => rfl⟩
 have F37 := fun_mk (st := s__law_sum) l37 c37 k37
 have D__law_sum : DefAt K mg "_law_sum" s__law_sum ["_law_one", "_law_other"] _ _ := ⟨F37, PySem.W.mg_of X G a37, F37.binds (ps := ["_law_one", "_law_other"]) fun _ _ _ _ _ _ us hl => match us, hl with | [_, _], _ => rfl⟩
 have F38 := fun_mk (st := s__law_left) l38 c38 k38
 have D__law_left : DefAt K mg "_law_left" s__law_left ["_law_one", "_law_other"] _ _ := ⟨F38, PySem.W.mg_of X G a38, F38.binds (ps := ["_law_one", "_law_other"]) fun _ _ _ _ _ _ us hl => match us, hl with | [_, _], _ => rfl⟩
 have F39 := fun_mk (st := s__law_steps_by) l39 c39 k39
 have D__law_steps_by : DefAt K mg "_law_steps_by" s__law_steps_by ["_law_cell"] _ _ := ⟨F39, PySem.W.mg_of X G a39, F39.binds (ps := ["_law_cell"]) fun _ _ _ _ _ _ us hl => match us, hl with | [_], _ => rfl⟩
 have F40 := fun_mk (st := s__law_area) l40 c40 k40
 have D__law_area : DefAt K mg "_law_area" s__law_area ["_law_steps", "_law_start", "_law_end"] _ _ := ⟨F40, PySem.W.mg_of X G a40, F40.binds (ps := ["_law_steps", "_law_start", "_law_end"]) fun _ _ _ _ _ _ us hl => match us, hl with | [_, _, _], _ => rfl⟩
 have F41 := fun_mk (st := s__law_worth) l41 c41 k41
 have D__law_worth : DefAt K mg "_law_worth" s__law_worth ["_law_steps", "_law_piece_here"] _ _ := ⟨F41, PySem.W.mg_of X G a41, F41.binds (ps := ["_law_steps", "_law_piece_here"]) fun _ _ _ _ _ _ us hl => match us, hl with | [_, _], _ => rfl⟩
 have F42 := fun_mk (st := s__law_fraction) l42 c42 k42
 have D__law_fraction : DefAt K mg "_law_fraction" s__law_fraction ["_law_thing"] _ _ := ⟨F42, PySem.W.mg_of X G a42, F42.binds (ps := ["_law_thing"]) fun _ _ _ _ _ _ us hl => match us, hl with | [_], _ => rfl⟩
 have F43 := fun_mk (st := s__law_piece) l43 c43 k43
 have D__law_piece : DefAt K mg "_law_piece" s__law_piece ["_law_piece_here"] _ _ := ⟨F43, PySem.W.mg_of X G a43, F43.binds (ps := ["_law_piece_here"]) fun _ _ _ _ _ _ us hl => match us, hl with | [_], _ => rfl⟩
 have F44 := fun_mk (st := s__law_dealt) l44 c44 k44
 have D__law_dealt : DefAt K mg "_law_dealt" s__law_dealt ["_law_pieces", "_law_many"] _ _ := ⟨F44, PySem.W.mg_of X G a44, F44.binds (ps := ["_law_pieces", "_law_many"]) fun _ _ _ _ _ _ us hl => match us, hl with | [_, _], _ => rfl⟩
 have F45 := fun_mk (st := s_law) l45 c45 k45
 have D_law : DefAt K mg "law" s_law ["_law_script"] _ _ := ⟨F45, PySem.W.mg_of X G a45, F45.binds (ps := ["_law_script"]) fun _ _ _ _ _ _ us hl => match us, hl with | [_], _ => rfl⟩
 have clC : Cls K C := ⟨pgC, hdC, poC, saC⟩
 have M_Taste___init__ := fun_mk (st := m_Taste___init__) lCm0 cCm0 kCm0
 have b_Taste___init__ := M_Taste___init__.binds (ps := ["self", "steps"]) fun _ _ _ _ _ _ us hl => match us, hl with | [_, _], _ => rfl
 have h_Taste___init__ : Meth K C "__init__" _ := ⟨aCm0, iCm0, kCm0⟩
 have k_Taste : Mk K C _ := ⟨mkC, aCm0, iCm0, kcC⟩
 have M_Taste_steps := fun_mk (st := m_Taste_steps) lCm1 cCm1 kCm1
 have b_Taste_steps := M_Taste_steps.binds (ps := ["self"]) fun _ _ _ _ _ _ us hl => match us, hl with | [_], _ => rfl
 have h_Taste_steps : Meth K C "steps" _ := ⟨aCm1, iCm1, kCm1⟩
 have M_Taste_worth_up_to := fun_mk (st := m_Taste_worth_up_to) lCm2 cCm2 kCm2
 have b_Taste_worth_up_to := M_Taste_worth_up_to.binds (ps := ["self", "point"]) fun _ _ _ _ _ _ us hl => match us, hl with | [_, _], _ => rfl
 have h_Taste_worth_up_to : Meth K C "worth_up_to" _ := ⟨aCm2, iCm2, kCm2⟩
 have M_Taste_point_at := fun_mk (st := m_Taste_point_at) lCm3 cCm3 kCm3
 have b_Taste_point_at := M_Taste_point_at.binds (ps := ["self", "worth"]) fun _ _ _ _ _ _ us hl => match us, hl with | [_, _], _ => rfl
 have h_Taste_point_at : Meth K C "point_at" _ := ⟨aCm3, iCm3, kCm3⟩
 have M_Taste_span_worth := fun_mk (st := m_Taste_span_worth) lCm4 cCm4 kCm4
 have b_Taste_span_worth := M_Taste_span_worth.binds (ps := ["self", "span"]) fun _ _ _ _ _ _ us hl => match us, hl with | [_, _], _ => rfl
 have h_Taste_span_worth : Meth K C "span_worth" _ := ⟨aCm4, iCm4, kCm4⟩
 have M_Taste_worth := fun_mk (st := m_Taste_worth) lCm5 cCm5 kCm5
 have b_Taste_worth := M_Taste_worth.binds (ps := ["self", "piece"]) fun _ _ _ _ _ _ us hl => match us, hl with | [_, _], _ => rfl
 have h_Taste_worth : Meth K C "worth" _ := ⟨aCm5, iCm5, kCm5⟩
 have M_Taste_mark := fun_mk (st := m_Taste_mark) lCm6 cCm6 kCm6
 have b_Taste_mark := M_Taste_mark.binds (ps := ["self", "start", "share"]) fun _ _ _ _ _ _ us hl => match us, hl with | [_, _, _], _ => rfl
 have h_Taste_mark : Meth K C "mark" _ := ⟨aCm6, iCm6, kCm6⟩
 have clW : Cls K W := ⟨pgW, hdW, poW, saW⟩
 have M_Three_deal := fun_mk (st := m_Three_deal) lWm0 cWm0 kWm0
 have b_Three_deal := M_Three_deal.binds (ps := ["self", "tastes"]) fun _ _ _ _ _ _ us hl => match us, hl with | [_, _], _ => rfl
 have h_Three_deal : Meth K W "deal" _ := ⟨aWm0, iWm0, kWm0⟩
 have b19 : PySem.W.tabIn K "ranked" = some (q19, p19) := tab_mk a19 l19 rfl t19 u19
 have b23 : PySem.W.tabIn K "joined" = some (q23, p23) := tab_mk a23 l23 rfl t23 u23
 refine ⟨[(q19, p19), (q23, p23)], PySem.W.fnOf "law" "law" (defArgs s_law) (defBody s_law) (defScope s_law) .none kV45 dc45 pm45 an45 cd45 ct45, spLaw K p19 p23, ?_, nt, fun s v => .of_eq rfl, fun base kb nb bm hT => ?_, fun H a ns hl hS hT => ?_⟩
 ·intro t ht
  rcases List.mem_cons.mp ht with rfl | ht
  ·exact ⟨"ranked", e19, r19, b19⟩
  ·skip
   rw [List.mem_singleton.mp ht]
   exact ⟨"joined", e23, r23, b23⟩
 ·have TB_ranked := hT (q19, p19) List.mem_cons_self
  have TB_joined := hT (q23, p23) (List.mem_cons_of_mem _ List.mem_cons_self)
  have TT : TxtT mg := ⟨⟨_, PySem.W.mg_of X G e8⟩, ⟨_, PySem.W.mg_of X G e1⟩, ⟨_, PySem.W.mg_of X G e2⟩⟩
  have TC : TxtC K C := ⟨clC, nCtold, nCline⟩
  have CW := D_is_whole.cl (P := l.prog) (w := w) (base := base) (ok_whole D_is_whole T)
  have CG := D_greatest_divisor.cl (P := l.prog) (w := w) (base := base) (ok_gcd D_greatest_divisor)
  have CM := D_made.cl (P := l.prog) (w := w) (base := base) (ok_made D_made CW CG)
  have C4 : Four l.prog w K mg base := ⟨D_plus.cl (ok_plus D_plus CM), D_minus.cl (ok_minus D_minus CM), D_times.cl (ok_times D_times CM), D_over.cl (ok_over D_over CM), D_below.cl (ok_below D_below)⟩
  have CF := D_is_fraction.cl (P := l.prog) (w := w) (base := base) (ok_frac D_is_fraction CW CG T)
  have CR := D_reached.cl (ok_reached D_reached (D_reaches.cl (ok_reaches D_reaches C4.below)) (D_crossing.cl (ok_crossing D_crossing C4 (D_apart.cl (ok_apart D_apart C4.below C4.minus)))) T)
  have CK := D_check_piece.cl (ok_check D_check_piece (D_is_span.cl (ok_span D_is_span CF C4.below T)) C4.below T)
  have CS := D_check_steps.cl (ok_steps D_check_steps (D_check_step.cl (ok_step D_check_step CF CW T TT)) C4.below T TT)
  have CWL := D_worth_line.cl (ok_line D_worth_line C4 T)
  have MC : Mc l.prog w K mg base "Taste" C 5 ["self", "steps"] (spInit K C) := ⟨_, _, k_Taste, PySem.W.mg_of X G aC, b_Taste___init__, ok_init M_Taste___init__ CS CWL T TC⟩
  have MU : Ml l.prog w K mg base C "worth_up_to" 7 ["self", "point"] (spUpTo K C) := ⟨_, _, h_Taste_worth_up_to, b_Taste_worth_up_to, ok_upto M_Taste_worth_up_to CR TC⟩
  have LC := D__law_cell_at.cl (P := l.prog) (w := w) (base := base) (ok_cell D__law_cell_at T)
  have LM := D__law_mixed.cl (P := l.prog) (w := w) (base := base) (ok_mixed D__law_mixed)
  have okl := ok_low (P := l.prog) (w := w) (base := base) D__law_low
  have LL := D__law_low.cl okl
  have LQ : Cl l.prog w K mg base "_law_low" 1 ["_law_a", "_law_b"] (spMadeQ K) := D__law_low.cl (okl.imp madeQ)
  have L3 : Law3 l.prog w K mg base := ⟨D__law_less.cl (ok_less D__law_less), D__law_left.cl (ok_left D__law_left LL), D__law_sum.cl (ok_sum D__law_sum LL)⟩
  have LS := D__law_steps_by.cl (ok_stepsby D__law_steps_by LM LQ T)
  have LW := D__law_worth.cl (ok_lworth D__law_worth (D__law_area.cl (ok_area D__law_area L3)) L3.sum LQ)
  have MT : Ml l.prog w K mg base C "steps" 1 ["self"] (spTold K C) := ⟨_, _, h_Taste_steps, b_Taste_steps, ok_told M_Taste_steps T TC⟩
  have MSW : Ml l.prog w K mg base C "span_worth" 8 ["self", "span"] (spSpanWorth K C) := ⟨_, _, h_Taste_span_worth, b_Taste_span_worth, ok_spanw M_Taste_span_worth C4.minus MU TC⟩
  have MW : Ml l.prog w K mg base C "worth" 9 ["self", "piece"] (spWorth K C) := ⟨_, _, h_Taste_worth, b_Taste_worth, ok_worth M_Taste_worth CK C4.plus MSW TC⟩
  have MP : Ml l.prog w K mg base C "point_at" 7 ["self", "worth"] (spPointAt K C) := ⟨_, _, h_Taste_point_at, b_Taste_point_at, ok_pointat M_Taste_point_at CR TC⟩
  have MM : Ml l.prog w K mg base C "mark" 8 ["self", "start", "share"] (spMark K C) := ⟨_, _, h_Taste_mark, b_Taste_mark, ok_mark M_Taste_mark C4 MU MP T TC⟩
  have IC : IsC K C := ⟨clC, haC, hnC, htC, hmC⟩
  have CTs := D_check_tastes.cl (P := l.prog) (w := w) (base := base) (ok_tastes D_check_tastes T IC (PySem.W.mg_of X G aC))
  have CTk := D_check_takers.cl (ok_takers D_check_takers CTs T)
  have LF := D__law_fraction.cl (ok_lfrac D__law_fraction LQ T)
  have LPc := D__law_piece.cl (ok_lpiece D__law_piece LF L3.less T)
  have LD := D__law_dealt.cl (ok_dealt D__law_dealt LPc T (PySem.W.mg_none_of X G zall))
  have MKW : MkP K W := ⟨mkW, oiW, kcW⟩
  have CRk := D_ranked.cl (ok_ranked D_ranked rfl TB_ranked bm C4.below T)
  have CMW := D_mark_within.cl (ok_mw D_mark_within C4.times MM MW TC)
  have CI := D_in_thirds.cl (ok_thirds D_in_thirds CMW)
  have CDe := D_dearest.cl (ok_dearest D_dearest CRk MW T TC)
  have CTa := D_take_dearest.cl (ok_take D_take_dearest CDe)
  have CTr := D_trimmed.cl (ok_trim D_trimmed CDe MM MW TC)
  have CTu := D_turns.cl (P := l.prog) (w := w) (base := base) (ok_turns (K := K) (mg := mg) D_turns)
  have CNr := D_nearest.cl (ok_near D_nearest C4.below T)
  have CCo := D_combined.cl (ok_comb D_combined CK CTu CNr T)
  have CJ := D_joined.cl (ok_joined D_joined rfl TB_joined bm CCo)
  have CRe := D_deal_rest.cl (ok_rest (C := C) D_deal_rest CI CTa CJ d19_23.symm)
  have cS : ∀ H, CoQ K H (.ref aS) (0, 1) := fun H => ⟨aS, .ref aS0, .ref aS1, rfl, sqKr eSo H, .of (sqK eS0 H) rfl rfl, .of (sqK eS1 H) rfl rfl⟩
  have CEn := D_deal_without_envy.cl (ok_envy (C := C) D_deal_without_envy CI CTr CTa CRe d19_23.symm (PySem.W.mg_of X G eS) cS)
  have MD : Ml l.prog w K mg base W "deal" 14 ["self", "tastes"] (spThree K C p19 p23) := ⟨_, _, h_Three_deal, b_Three_deal, ok_three M_Three_deal CTk CEn⟩
  exact ok_law D_law ⟨LC, L3.less, LS, LW, LD, MC, MT, MD, MKW, PySem.W.mg_of X G aW, clW, PySem.W.mg_none_of X G zsum⟩ T TC
 ·exact ⟨a, ns, rfl, hS, hT _ List.mem_cons_self, hT _ (List.mem_cons_of_mem _ List.mem_cons_self), fun _ => rfl⟩
end FQ
namespace FQ
open PySem PySem.W PySem.Calls PyProof.Rows
theorem left_one {p q : Program} {loose : List Str} {Xt : Shared → Bool} {α : Type} {Yf : Shared → α} {Ya : World → α} {N : Nat} {H : Params → Heap} {gs : Array GenState} {dr : Drawn} {tk m : Nat} {an : Option Value}
  (e0 : ∀ w : World, (fencedOpening treeTable p w N).map (fun s => (s.heap, s.gens, s.drawn, s.toks)) = some (H w.params, gs, dr, tk))
  (e1 : ∀ w : World, ((H w.params).isNs mainGlobals && gs.size == 0, (H w.params).objs.size, (H w.params).nsMap mainGlobals "__annotations__") = (true, m, an))
  (e2 : ∀ (w : World) (os : OsState), ∃ s M, Nat.ble M N = true ∧ topRun treeTable p w m an M ⟨H w.params, gs, dr, tk, os⟩ (topStub p) = some s ∧
   (staticsOk (importedModules p.main.body) (H w.params) s.heap && namesBound p s.heap && gensDone s && laidKept (H w.params) s.heap) = true ∧
   openSeen q loose (importedModules p.main.body) Xt true s = openGood q loose ∧ Yf s = Ya w) : LeftO p q loose Xt Yf Ya N := fun w => by
 obtain ⟨⟨h, g, d, k, os⟩, a, b⟩ := Option.map_eq_some_iff.mp (e0 w)
 have b' : h = H w.params ∧ g = gs ∧ d = dr ∧ k = tk := by simpa using b
 obtain ⟨rfl, rfl, rfl, rfl⟩ := b'
 have z := e1 w
 simp only [Prod.mk.injEq] at z
 obtain ⟨z1, z2, z3⟩ := z
 obtain ⟨s, M, le, r, l1, l2, l3⟩ := e2 w os
 have r' := topRun_mono (N - M) _ _ _ _ r
 have hN : M + (N - M) = N := by have := Nat.le_of_ble_eq_true le; omega
 rw [hN] at r'
 have t : topFrom treeTable p w N ⟨H w.params, g, d, k, os⟩ = some s := by
  unfold topFrom
  dsimp only
  rw [z1, z2, z3, r']
  dsimp only [Option.bind]
  rw [l1]
 unfold openEnds
 rw [a]
 dsimp only [Option.bind]
 rw [t]
 exact congrArg some (Prod.ext l2 l3)
theorem run_one {p : Program} {w : World} {m : Nat} {an : Option Value} {env : Env} {fp posA posB posC : Pos} {n0 nb n1 n2 : Nat} {s0 sA r : Shared} {sT s' : SharedT} {b : List Stmt}
  (h0 : topGo treeTable p w m an n0 s0 (topStub p) = some (sA, ⟨denote treeTable (.body b env), .body b env, posA, [topFrame fp]⟩))
  (hb : segRun treeTable p w m an 1 nb sA (blockOf b env (.body b env) posA [topFrame fp]) = some (.next, sT.abs, .body b env, posB))
  (h1 : segRunT treeTable p w m an 1 n1 sT (piecesOf b env (.body b env) posB [topFrame fp]) = some (.next, s', .body b env, posC))
  (h2 : topRun treeTable p w m an n2 s'.abs ⟨doneF .next, .body b env, posC, [topFrame fp]⟩ = some r) :
  topRun treeTable p w m an (n0 + (nb + (n1 + n2))) s0 (topStub p) = some r := by
 have k := piece_app (rest := []) (segRun_of h1) (piece_nil (env := env) h2)
 rw [List.append_nil] at k
 exact go_top h0 (piece_block hb k)
end FQ
namespace FQ
open PySem PySem.W PySem.Calls PyProof.Rows
noncomputable section
abbrev pw : Program := PySem.Challenge.pw_fairknife_k09_whole_three
def qv : Program := view pw [0, 2, 3, 4, 5, 6, 8, 9, 10, 11, 12, 13, 14, 15, 16, 17, 19, 20, 21, 22, 24, 25, 26, 27, 28, 29, 30, 31, 33, 34, 35, 36, 37, 38, 39, 40, 42, 43, 44, 45, 46, 47, 48, 49, 50, 51, 52, 54, 55, 56, 57, 58, 59, 60, 61, 62, 63, 64, 65, 66]
def xt (s : Shared) : Bool := xlAt qv [] s && recOk (RowW.records (OpenRow.toRowW (OpenLaw.row PySem.Challenge.rw_fairknife_k09_whole_three))) s
def envT : Env := { scope := pw.main.scope, locals := mainNs, globals := mainNs, cells := [], code := Value.ref 13, frame := some 14 }
abbrev bT : List Stmt := behindTheImports pw
abbrev cT : Code := .body bT envT
def fpT : Pos := { line := 0, col := 0, endLine := 0, endCol := 0 }
def paT : Pos := { line := 0, col := 0, endLine := 0, endCol := 0 }
def pbT : Pos := { line := 0, col := 0, endLine := 0, endCol := 0 }
def pcT : Pos := { line := 341, col := 0, endLine := 364, endCol := 15 }
def anT : Option Value := Option.some (Value.ref 6)
def hx0 : Params → Obj := fun P => { cls := Value.type "tuple", data := Data.seq #[] }
def hx1 : Params → Obj := fun P => { cls := Value.none, data := Data.fields #[] }
def hx2 : Params → Obj := fun P => { cls := Value.type "code", data := Data.fields #[Value.str (Str.ofString "<module>") 182, Value.str (Str.ofString "<module>") 183, Value.str (Str.ofString "/claim/cut.py") 184, Value.int 1 0, Value.int 0 0, Value.int 0 0, Value.int 0 0, Value.int 0 0, Value.ref 11, Value.bool Bool.false, Value.int 181 0, Value.ref 12, Value.none, Value.none, Value.none, Value.none, Value.int 185 0, Value.int 1 0, Value.str (Str.ofString "/claim/cut.py") 186] }
def hx3 : Params → Obj := fun P => { cls := Value.type "frame", slots := #[Option.some (Value.ref 13), Option.some (Value.ref 3), Option.some (Value.ref 3), Option.none, Option.some (Value.str (Str.ofString "__main__") 164), Option.none, Option.some (Value.ref 0)] }
def haT (P : Params) : Heap := ⟨⟨[boot_o_0 P, boot_o_1 P, boot_o_2 P, boot_o_3 P, boot_o_4 P, boot_o_5 P, boot_o_6 P, boot_o_7 P, boot_o_8 P, boot_o_9 P, boot_o_10 P, hx0 P, hx1 P, hx2 P, hx3 P]⟩, { }⟩
def tbT (P : Params) : BT := (.node (boot_o_0 P) (.node (boot_o_1 P) (.node (boot_o_3 P) (.node (boot_o_7 P) .nil .nil) (.node (hx0 P) .nil .nil)) (.node (boot_o_5 P) (.node (boot_o_9 P) .nil .nil) (.node (hx2 P) .nil .nil))) (.node (boot_o_2 P) (.node (boot_o_4 P) (.node (boot_o_8 P) .nil .nil) (.node (hx1 P) .nil .nil)) (.node (boot_o_6 P) (.node (boot_o_10 P) .nil .nil) (.node (hx3 P) .nil .nil))))
def saT (w : World) (os : OsState) : Shared := ⟨haT w.params, .mk [], { }, 187, os⟩
def sbT (w : World) (os : OsState) : SharedT := ⟨tbT w.params, 15, { }, .mk [], { }, 187, os⟩
def s0T (w : World) (os : OsState) : Shared := ⟨boot_heap w.params, .mk [], boot_drawn, boot_toks, os⟩
def aT (w : World) (os : OsState) := topGo treeTable pw w 11 anT 12 (s0T w os) (topStub pw)
def aR (w : World) (os : OsState) : Option (Shared × Thread) := some (saT w os, ⟨denote treeTable cT, cT, paT, [topFrame fpT]⟩)
def bL (w : World) (os : OsState) := segRun treeTable pw w 11 anT 1 1 (saT w os) (blockOf bT envT cT paT [topFrame fpT])
def bR (w : World) (os : OsState) : Option (Flow × Shared × Code × Pos) := some (.next, (sbT w os).abs, cT, pbT)
def zL (w : World) := ((boot_heap w.params).isNs mainGlobals && (Array.mk ([] : List GenState)).size == 0, (boot_heap w.params).objs.size, (boot_heap w.params).nsMap mainGlobals "__annotations__")
def zR : Bool × Nat × Option Value := (true, 11, anT)
def runT (w : World) (os : OsState) : Option ((Flow × Code × Pos) × Shared) :=
 (segRunT treeTable pw w 11 anT 1 3530 (sbT w os) (piecesOf bT envT cT pbT [topFrame fpT])).bind fun x =>
  (topRun treeTable pw w 11 anT 2 x.2.1.abs ⟨doneF .next, cT, pcT, [topFrame fpT]⟩).map fun s => ((x.1, x.2.2.1, x.2.2.2), s)
def osT (s : Shared) := openSeen qv [] (importedModules pw.main.body) xt true s
def eA (w : World) (os : OsState) := (runT w os).map fun y => (y.1, (staticsOk (importedModules pw.main.body) (boot_heap w.params) y.2.heap && namesBound pw y.2.heap && gensDone y.2 && laidKept (boot_heap w.params) y.2.heap))
def eB (w : World) (os : OsState) := (runT w os).map fun y => (osT y.2).1
def eF (w : World) (os : OsState) := (runT w os).map fun y => (osT y.2).2.1
def eC (w : World) (os : OsState) := (runT w os).map fun y => (osT y.2).2.2.1
def eD (w : World) (os : OsState) := (runT w os).map fun y => ((osT y.2).2.2.2.1, (osT y.2).2.2.2.2.1, (osT y.2).2.2.2.2.2.1)
def eG (w : World) (os : OsState) := (runT w os).map fun y => (osT y.2).2.2.2.2.2.2
def eE (as ts : List Addr) (w : World) (os : OsState) := (runT w os).map fun y => (as.map y.2.heap.get?, ts.map y.2.heap.get?)
def rA := (((.next, cT, pcT) : Flow × Code × Pos), true)
def rB := (openGood qv []).1
def rF := (openGood qv []).2.1
def rC := (openGood qv []).2.2.1
def rD := ((openGood qv []).2.2.2.1, (openGood qv []).2.2.2.2.1, (openGood qv []).2.2.2.2.2.1)
def rG := (openGood qv []).2.2.2.2.2.2
theorem aT_s : aT = aT := rfl
theorem aR_s : aR = aR := rfl
theorem bL_s : bL = bL := rfl
theorem bR_s : bR = bR := rfl
theorem zL_s : zL = zL := rfl
theorem eA_s : eA = eA := rfl
theorem eB_s : eB = eB := rfl
theorem eF_s : eF = eF := rfl
theorem eC_s : eC = eC := rfl
theorem eD_s : eD = eD := rfl
theorem eG_s : eG = eG := rfl
theorem eE_s : eE = eE := rfl
theorem rA_s : rA = rA := rfl
theorem rB_s : rB = rB := rfl
theorem rF_s : rF = rF := rfl
theorem rC_s : rC = rC := rfl
theorem rD_s : rD = rD := rfl
theorem rG_s : rG = rG := rfl
end
end FQ
name_quick qaT for FQ.aT by FQ.aT_s
name_quick qaR for FQ.aR by FQ.aR_s
name_quick qbL for FQ.bL by FQ.bL_s
name_quick qbR for FQ.bR by FQ.bR_s
name_quick qzL for FQ.zL by FQ.zL_s
name_quick qeA for FQ.eA by FQ.eA_s
name_quick qeB for FQ.eB by FQ.eB_s
name_quick qeF for FQ.eF by FQ.eF_s
name_quick qeC for FQ.eC by FQ.eC_s
name_quick qeD for FQ.eD by FQ.eD_s
name_quick qeG for FQ.eG by FQ.eG_s
name_quick qeE for FQ.eE by FQ.eE_s
name_quick qrA for FQ.rA by FQ.rA_s
name_quick qrB for FQ.rB by FQ.rB_s
name_quick qrF for FQ.rF by FQ.rF_s
name_quick qrC for FQ.rC by FQ.rC_s
name_quick qrD for FQ.rD by FQ.rD_s
name_quick qrG for FQ.rG by FQ.rG_s
namespace FQ
open PySem PySem.W PySem.Calls PyProof.Rows
theorem a_eq : aT = aR := PySem.W.Fast.qaT_eq.trans ((by kernel_rfl : PySem.W.Fast.qaT = PySem.W.Fast.qaR).trans PySem.W.Fast.qaR_eq.symm)
theorem b_eq : bL = bR := PySem.W.Fast.qbL_eq.trans ((by kernel_rfl : PySem.W.Fast.qbL = PySem.W.Fast.qbR).trans PySem.W.Fast.qbR_eq.symm)
theorem z_eq : zL = fun _ => zR := PySem.W.Fast.qzL_eq.trans (by kernel_rfl : PySem.W.Fast.qzL = fun _ => zR)
theorem op_eq (w : World) : (fencedOpening treeTable pw w 7184).map (fun s => (s.heap, s.gens, s.drawn, s.toks)) = some (boot_heap w.params, Array.mk [], boot_drawn, boot_toks) :=
 boot_open (by kernel_rfl) (by decide) (fun s => by kernel_rfl) w
theorem evA : PySem.W.Fast.qeA = fun _ _ => some PySem.W.Fast.qrA := by kernel_rfl
theorem evB : PySem.W.Fast.qeB = fun _ _ => some PySem.W.Fast.qrB := by kernel_rfl
theorem evC : PySem.W.Fast.qeC = fun _ _ => some PySem.W.Fast.qrC := by kernel_rfl
theorem evD : PySem.W.Fast.qeD = fun _ _ => some PySem.W.Fast.qrD := by kernel_rfl
theorem evF : PySem.W.Fast.qeF = fun _ _ => some PySem.W.Fast.qrF := by kernel_rfl
theorem evG : PySem.W.Fast.qeG = fun _ _ => some PySem.W.Fast.qrG := by kernel_rfl
theorem left_of {as ts : List Addr} {Ya : World → List (Option Obj) × List (Option Obj)} (ev : ∀ w, PySem.W.Fast.qeE as ts w = fun _ => some (Ya w)) : LeftO pw qv [] xt (fun s => (as.map s.heap.get?, ts.map s.heap.get?)) Ya 7184 := by
 refine left_one (H := boot_heap) (gs := .mk []) (m := 11) (an := anT) op_eq (congrFun z_eq) fun w os => ?_
 have hA : eA w os = some rA := by rw [PySem.W.Fast.qeA_eq, PySem.W.Fast.qrA_eq, evA]
 have hB : eB w os = some rB := by rw [PySem.W.Fast.qeB_eq, PySem.W.Fast.qrB_eq, evB]
 have hC : eC w os = some rC := by rw [PySem.W.Fast.qeC_eq, PySem.W.Fast.qrC_eq, evC]
 have hD : eD w os = some rD := by rw [PySem.W.Fast.qeD_eq, PySem.W.Fast.qrD_eq, evD]
 have hF : eF w os = some rF := by rw [PySem.W.Fast.qeF_eq, PySem.W.Fast.qrF_eq, evF]
 have hG : eG w os = some rG := by rw [PySem.W.Fast.qeG_eq, PySem.W.Fast.qrG_eq, evG]
 have hE : eE as ts w os = some (Ya w) := by rw [PySem.W.Fast.qeE_eq]; exact congrFun (ev w) os
 unfold eA at hA
 unfold eB at hB
 unfold eC at hC
 unfold eD at hD
 unfold eE at hE
 unfold eF at hF
 unfold eG at hG
 obtain ⟨y, hy, e⟩ := Option.map_eq_some_iff.mp hA
 rw [hy] at hB hC hD hE hF hG
 unfold runT at hy
 obtain ⟨x, hx, e'⟩ := Option.bind_eq_some_iff.mp hy
 obtain ⟨s, hs, e''⟩ := Option.map_eq_some_iff.mp e'
 obtain ⟨f, s', c', p'⟩ := x
 subst e''
 unfold rA at e
 simp only [Prod.mk.injEq] at e
 obtain ⟨⟨rfl, rfl, rfl⟩, e1⟩ := e
 have b1 : (osT s).1 = (openGood qv []).1 := Option.some.inj hB
 have b2 : (osT s).2.1 = (openGood qv []).2.1 := Option.some.inj hF
 have b3 : (osT s).2.2.1 = (openGood qv []).2.2.1 := Option.some.inj hC
 have b4 : ((osT s).2.2.2.1, (osT s).2.2.2.2.1, (osT s).2.2.2.2.2.1) = ((openGood qv []).2.2.2.1, (openGood qv []).2.2.2.2.1, (openGood qv []).2.2.2.2.2.1) := Option.some.inj hD
 have b5 : (osT s).2.2.2.2.2.2 = (openGood qv []).2.2.2.2.2.2 := Option.some.inj hG
 have e2 : osT s = openGood qv [] := Prod.ext b1 (Prod.ext b2 (Prod.ext b3 (Prod.ext (congrArg (fun z => z.1) b4) (Prod.ext (congrArg (fun z => z.2.1) b4) (Prod.ext (congrArg (fun z => z.2.2) b4) b5)))))
 exact ⟨s, 12 + (1 + (3530 + 2)), by decide, run_one (congrFun (congrFun a_eq w) os) (congrFun (congrFun b_eq w) os) hx hs, e1, e2, Option.some.inj hE⟩
end FQ
open PySem PySem.W PyProof.Rows
section
local macro_rules | `(tactic| o_head $H) => `(tactic| exact (fun (_ : PySem.W.Hook) => by assumption) $H)
set_option maxRecDepth 100000 in
theorem FQ.pre (h : PySem.W.OpenRow.Holds (PySem.W.OpenLaw.row PySem.Challenge.rw_fairknife_k09_whole_three)) : PySem.W.OpenRow.Holds (PySem.W.OpenLaw.row PySem.Challenge.rw_fairknife_k09_whole_three) := by
 k_head
end
def FQ.hA : List Addr := [2, 3, 15, 17, 18, 20, 21, 22, 29, 30, 31, 32, 35, 42, 43, 44, 47, 54, 55, 56, 59, 66, 67, 68, 71, 78, 79, 80, 83, 85, 86, 88, 89, 90, 92, 93, 95, 96, 97, 99, 100, 102, 103, 104, 106, 107, 109, 110, 111, 113, 114, 116, 117, 118, 120, 121, 123, 124, 125, 127, 128, 130, 131, 132, 134, 135, 137, 138, 139, 141, 142, 144, 145, 146, 148, 149, 151, 152, 153, 155, 156, 158, 159, 160, 162, 163, 165, 166, 167, 169, 170, 172, 173, 174, 176, 177, 179, 180, 181, 182, 183, 185, 186, 188, 189, 190, 192, 193, 195, 196, 197, 199, 200, 202, 203, 204, 206, 207, 209, 210, 211, 213, 214, 216, 217, 218, 220, 221, 223, 224, 225, 227, 228, 230, 231, 232, 234, 235, 237, 238, 239, 241, 242, 244, 245, 246, 249, 250, 258, 260, 261, 263, 264, 265, 267, 268, 270, 271, 272, 274, 275, 277, 278, 279, 282, 283, 284, 286, 287, 289, 290, 291, 293, 294, 296, 297, 298, 300, 301, 303, 304, 305, 307, 308, 310, 311, 312, 314, 315, 317, 318, 319, 320, 321, 322, 323, 326, 327, 328, 329, 331, 332, 334, 335, 336, 338, 339, 341, 342, 343, 345, 346, 348, 349, 350, 353, 354, 355, 357, 358, 360, 361, 362, 364, 365, 367, 368, 369, 371, 372, 374, 375, 376, 378, 379, 381, 382, 390, 392, 393, 395, 396, 397, 398, 399, 400, 401, 404, 411, 413, 414, 416, 417, 418, 419, 420, 423, 425, 426, 428, 429, 430, 432, 433, 435, 436, 437, 439, 440, 442, 443, 444, 446, 447, 449, 450, 451, 453, 454, 456, 457, 458, 460, 461, 463, 464, 465, 467, 468, 470, 471, 472, 474, 475, 477, 478, 479, 481, 482, 484, 485, 486, 489, 490, 491, 493, 494, 496, 497, 498, 501, 502, 503, 506, 507]
def FQ.hT : List Addr := [219, 147]
set_option maxRecDepth 100000 in
theorem FQ.ev : ∀ w : World, PySem.W.Fast.qeE FQ.hA FQ.hT w = fun _ => some ((FQ.pre.heap_1 w.params).map fun p => some p.2, FQ.hT.map fun _ => some (tabObj #[])) := fun w => by kernel_rfl
local macro_rules | `(tactic| o_head $H) => `(tactic| refine holds_open (q := FQ.qv) (loose := []) (Xt := FQ.xt) (XP := XL FQ.qv []) (Yf := Hook.obs $H) (Ya := Hook.val $H) (YP := Hook.says $H) (N := 7184) (FQ.left_of FQ.ev) (Hook.of $H) (Hook.keeps $H) (fun s e => xl_of s (Bool.and_eq_true_iff.mp e).1) XL.keeps (by rfl) (by rfl) (by rfl) (fun s e => recFacts_of (Bool.and_eq_true_iff.mp e).2) (by rfl) (by first | assumption | decide +kernel) (by decide +kernel) ⟨rfl, rfl, rfl, rfl, rfl, by decide +kernel⟩ ?_ ?_)
open PySem PySem.W PyProof.Rows
set_option maxRecDepth 100000 in
set_option maxHeartbeats 0 in
theorem PySem.Challenge.cw_fairknife_k09_whole_three_holds : PySem.Challenge.rw_fairknife_k09_whole_three.Holds := by
 w_on; o_law; o_head (kmHook FQ.pre.heap_1 FQ.hA (fun _ => by kernel_rfl) FQ.hT); (· w_witness2)
 k_fill
 refine L2.walk_ofT (l := PySem.Challenge.rw_fairknife_k09_whole_three) (n := 63) (k := 15) (x := "_law_script") rfl (by decide) rfl ⟨rfl, by decide, by decide⟩ (fun w h Y => PySem.W.km_in_of Y) ?F
 case F =>
  intro w mg fa h KX G hmg
  refine' FQ.all_mk KX G hmg ?a1 ?l1 ?c1 ?k1 ?a2 ?l2 ?c2 ?k2 ?a3 ?l3 ?c3 ?k3 ?a4 ?l4 ?c4 ?k4 ?a5 ?l5 ?c5 ?k5 ?a6 ?l6 ?c6 ?k6 ?a7 ?l7 ?c7 ?k7 ?a8 ?l8 ?c8 ?k8 ?a9 ?l9 ?c9 ?k9 ?a10 ?l10 ?c10 ?k10 ?a11 ?l11 ?c11 ?k11 ?a12 ?l12 ?c12 ?k12 ?a13 ?l13 ?c13 ?k13 ?a14 ?l14 ?c14 ?k14 ?a15 ?l15 ?c15 ?k15 ?a16 ?l16 ?c16 ?k16 ?a17 ?l17 ?c17 ?k17 ?a18 ?l18 ?c18 ?k18 ?a19 ?l19 ?c19 ?k19 ?t19 ?u19 ?r19 ?a20 ?l20 ?c20 ?k20 ?a21 ?l21 ?c21 ?k21 ?a22 ?l22 ?c22 ?k22 ?a23 ?l23 ?c23 ?k23 ?t23 ?u23 ?r23 ?a24 ?l24 ?c24 ?k24 ?a25 ?l25 ?c25 ?k25 ?a26 ?l26 ?c26 ?k26 ?a27 ?l27 ?c27 ?k27 ?a28 ?l28 ?c28 ?k28 ?a29 ?l29 ?c29 ?k29 ?a30 ?l30 ?c30 ?k30 ?a31 ?l31 ?c31 ?k31 ?a32 ?l32 ?c32 ?k32 ?a33 ?l33 ?c33 ?k33 ?a34 ?l34 ?c34 ?k34 ?a35 ?l35 ?c35 ?k35 ?a36 ?l36 ?c36 ?k36 ?a37 ?l37 ?c37 ?k37 ?a38 ?l38 ?c38 ?k38 ?a39 ?l39 ?c39 ?k39 ?a40 ?l40 ?c40 ?k40 ?a41 ?l41 ?c41 ?k41 ?a42 ?l42 ?c42 ?k42 ?a43 ?l43 ?c43 ?k43 ?a44 ?l44 ?c44 ?k44 ?a45 ?l45 ?c45 ?k45 ?d19_23 ?nt ?aC ?aCm0 ?lCm0 ?cCm0 ?kCm0 ?iCm0 ?aCm1 ?lCm1 ?cCm1 ?kCm1 ?iCm1 ?aCm2 ?lCm2 ?cCm2 ?kCm2 ?iCm2 ?aCm3 ?lCm3 ?cCm3 ?kCm3 ?iCm3 ?aCm4 ?lCm4 ?cCm4 ?kCm4 ?iCm4 ?aCm5 ?lCm5 ?cCm5 ?kCm5 ?iCm5 ?aCm6 ?lCm6 ?cCm6 ?kCm6 ?iCm6 ?pgC ?hdC ?poC ?saC ?mkC ?kcC ?nCtold ?nCline ?aW ?aWm0 ?lWm0 ?cWm0 ?kWm0 ?iWm0 ?pgW ?hdW ?poW ?saW ?mkW ?kcW ?z1 ?z2 ?z3 ?z4 ?z5 ?z6 ?z7 ?z8 ?z9 ?z10 ?z11 ?z12 ?eL ?eLo ?eR ?eRo ?e8 ?e1 ?e2 ?haC ?hnC ?htC ?hmC ?oiW ?zall ?eS ?eSo ?eS0 ?eS1 ?zsum
  (case a1 => k_is)
  (case l1 => k_is)
  (case c1 => k_is)
  (case k1 => k_is)
  (case a2 => k_is)
  (case l2 => k_is)
  (case c2 => k_is)
  (case k2 => k_is)
  (case a3 => k_is)
  (case l3 => k_is)
  (case c3 => k_is)
  (case k3 => k_is)
  (case a4 => k_is)
  (case l4 => k_is)
  (case c4 => k_is)
  (case k4 => k_is)
  (case a5 => k_is)
  (case l5 => k_is)
  (case c5 => k_is)
  (case k5 => k_is)
  (case a6 => k_is)
  (case l6 => k_is)
  (case c6 => k_is)
  (case k6 => k_is)
  (case a7 => k_is)
  (case l7 => k_is)
  (case c7 => k_is)
  (case k7 => k_is)
  (case a8 => k_is)
  (case l8 => k_is)
  (case c8 => k_is)
  (case k8 => k_is)
  (case a9 => k_is)
  (case l9 => k_is)
  (case c9 => k_is)
  (case k9 => k_is)
  (case a10 => k_is)
  (case l10 => k_is)
  (case c10 => k_is)
  (case k10 => k_is)
  (case a11 => k_is)
  (case l11 => k_is)
  (case c11 => k_is)
  (case k11 => k_is)
  (case a12 => k_is)
  (case l12 => k_is)
  (case c12 => k_is)
  (case k12 => k_is)
  (case a13 => k_is)
  (case l13 => k_is)
  (case c13 => k_is)
  (case k13 => k_is)
  (case a14 => k_is)
  (case l14 => k_is)
  (case c14 => k_is)
  (case k14 => k_is)
  (case a15 => k_is)
  (case l15 => k_is)
  (case c15 => k_is)
  (case k15 => k_is)
  (case a16 => k_is)
  (case l16 => k_is)
  (case c16 => k_is)
  (case k16 => k_is)
  (case a17 => k_is)
  (case l17 => k_is)
  (case c17 => k_is)
  (case k17 => k_is)
  (case a18 => k_is)
  (case l18 => k_is)
  (case c18 => k_is)
  (case k18 => k_is)
  (case a19 => k_is)
  (case l19 => k_is)
  (case c19 => k_is)
  (case k19 => k_is)
  (case t19 => k_is)
  (case u19 => rfl)
  (case r19 => rfl)
  (case a20 => k_is)
  (case l20 => k_is)
  (case c20 => k_is)
  (case k20 => k_is)
  (case a21 => k_is)
  (case l21 => k_is)
  (case c21 => k_is)
  (case k21 => k_is)
  (case a22 => k_is)
  (case l22 => k_is)
  (case c22 => k_is)
  (case k22 => k_is)
  (case a23 => k_is)
  (case l23 => k_is)
  (case c23 => k_is)
  (case k23 => k_is)
  (case t23 => k_is)
  (case u23 => rfl)
  (case r23 => rfl)
  (case a24 => k_is)
  (case l24 => k_is)
  (case c24 => k_is)
  (case k24 => k_is)
  (case a25 => k_is)
  (case l25 => k_is)
  (case c25 => k_is)
  (case k25 => k_is)
  (case a26 => k_is)
  (case l26 => k_is)
  (case c26 => k_is)
  (case k26 => k_is)
  (case a27 => k_is)
  (case l27 => k_is)
  (case c27 => k_is)
  (case k27 => k_is)
  (case a28 => k_is)
  (case l28 => k_is)
  (case c28 => k_is)
  (case k28 => k_is)
  (case a29 => k_is)
  (case l29 => k_is)
  (case c29 => k_is)
  (case k29 => k_is)
  (case a30 => k_is)
  (case l30 => k_is)
  (case c30 => k_is)
  (case k30 => k_is)
  (case a31 => k_is)
  (case l31 => k_is)
  (case c31 => k_is)
  (case k31 => k_is)
  (case a32 => k_is)
  (case l32 => k_is)
  (case c32 => k_is)
  (case k32 => k_is)
  (case a33 => k_is)
  (case l33 => k_is)
  (case c33 => k_is)
  (case k33 => k_is)
  (case a34 => k_is)
  (case l34 => k_is)
  (case c34 => k_is)
  (case k34 => k_is)
  (case a35 => k_is)
  (case l35 => k_is)
  (case c35 => k_is)
  (case k35 => k_is)
  (case a36 => k_is)
  (case l36 => k_is)
  (case c36 => k_is)
  (case k36 => k_is)
  (case a37 => k_is)
  (case l37 => k_is)
  (case c37 => k_is)
  (case k37 => k_is)
  (case a38 => k_is)
  (case l38 => k_is)
  (case c38 => k_is)
  (case k38 => k_is)
  (case a39 => k_is)
  (case l39 => k_is)
  (case c39 => k_is)
  (case k39 => k_is)
  (case a40 => k_is)
  (case l40 => k_is)
  (case c40 => k_is)
  (case k40 => k_is)
  (case a41 => k_is)
  (case l41 => k_is)
  (case c41 => k_is)
  (case k41 => k_is)
  (case a42 => k_is)
  (case l42 => k_is)
  (case c42 => k_is)
  (case k42 => k_is)
  (case a43 => k_is)
  (case l43 => k_is)
  (case c43 => k_is)
  (case k43 => k_is)
  (case a44 => k_is)
  (case l44 => k_is)
  (case c44 => k_is)
  (case k44 => k_is)
  (case a45 => k_is)
  (case l45 => k_is)
  (case c45 => k_is)
  (case k45 => k_is)
  (case d19_23 => decide)
  (case nt => kernel_rfl)
  (case aC => k_is)
  (case aCm0 => k_is)
  (case lCm0 => k_is)
  (case cCm0 => k_is)
  (case kCm0 => k_is)
  (case iCm0 => k_is)
  (case aCm1 => k_is)
  (case lCm1 => k_is)
  (case cCm1 => k_is)
  (case kCm1 => k_is)
  (case iCm1 => k_is)
  (case aCm2 => k_is)
  (case lCm2 => k_is)
  (case cCm2 => k_is)
  (case kCm2 => k_is)
  (case iCm2 => k_is)
  (case aCm3 => k_is)
  (case lCm3 => k_is)
  (case cCm3 => k_is)
  (case kCm3 => k_is)
  (case iCm3 => k_is)
  (case aCm4 => k_is)
  (case lCm4 => k_is)
  (case cCm4 => k_is)
  (case kCm4 => k_is)
  (case iCm4 => k_is)
  (case aCm5 => k_is)
  (case lCm5 => k_is)
  (case cCm5 => k_is)
  (case kCm5 => k_is)
  (case iCm5 => k_is)
  (case aCm6 => k_is)
  (case lCm6 => k_is)
  (case cCm6 => k_is)
  (case kCm6 => k_is)
  (case iCm6 => k_is)
  (case pgC => k_is)
  (case hdC => k_is)
  (case poC => k_is)
  (case saC => k_is)
  (case mkC => k_is)
  (case kcC => k_is)
  (case nCtold => k_is)
  (case nCline => k_is)
  (case aW => k_is)
  (case aWm0 => k_is)
  (case lWm0 => k_is)
  (case cWm0 => k_is)
  (case kWm0 => k_is)
  (case iWm0 => k_is)
  (case pgW => k_is)
  (case hdW => k_is)
  (case poW => k_is)
  (case saW => k_is)
  (case mkW => k_is)
  (case kcW => k_is)
  (case z1 => k_is)
  (case z2 => k_is)
  (case z3 => k_is)
  (case z4 => k_is)
  (case z5 => k_is)
  (case z6 => k_is)
  (case z7 => k_is)
  (case z8 => k_is)
  (case z9 => k_is)
  (case z10 => k_is)
  (case z11 => k_is)
  (case z12 => k_is)
  (case eL => k_is)
  (case eLo => k_is)
  (case eR => k_is)
  (case eRo => k_is)
  (case e8 => k_is)
  (case e1 => k_is)
  (case e2 => k_is)
  (case haC => k_is)
  (case hnC => k_is)
  (case htC => k_is)
  (case hmC => k_is)
  (case oiW => k_is)
  (case zall => k_is)
  (case eS => k_is)
  (case eSo => k_is)
  (case eS0 => k_is)
  (case eS1 => k_is)
  (case zsum => k_is)
#print axioms PySem.Challenge.cw_fairknife_k09_whole_three_holds
