import PyProof.Rows.All
import Wide.All
import OpenK.AllK
import Wide.FinOn
import Lean
import PyProof.EqAt
import PyProof.EqKinds
import PyProof.TupleCall
import KE.KSortKey
import PySem.Challenge.RW_fairknife_k11_whole_alike
set_option Elab.async false
set_option linter.all false
set_option maxRecDepth 100000
set_option maxHeartbeats 4000000
namespace L2
open PySem PySem.Spec PyProof.Rows
abbrev Key := Sum Int Str
def keyIs : Key → Value → Bool
 | .inl k, v => Value.isInt k v
 | .inr x, v => Value.isStrOf x v
def keyH (w : World) : Key → Int
 | .inl k => hashInt k
 | .inr x => hashStr w x
theorem keyIs_shape : ∀ {k : Key} {v : Value}, keyIs k v = true → (∃ i t, k = Sum.inl i ∧ v = Value.int i t) ∨ (∃ x t, k = Sum.inr x ∧ v = Value.str x t)
 | .inl i, v, h => by
  obtain ⟨t, e⟩ := Value.isInt_shape (k := i) (v := v) h
  exact .inl ⟨i, t, rfl, e⟩
 | .inr x, v, h => by
  obtain ⟨t, e⟩ := Value.isStrOf_shape (x := x) (v := v) h
  exact .inr ⟨x, t, rfl, e⟩
theorem key_ll (a b : Int) : decide ((Sum.inl a : Key) = Sum.inl b) = (a == b) := by
 by_cases e : a = b
 ·subst e; simp
 ·have h : ¬ (Sum.inl a : Key) = Sum.inl b := fun q => e (Sum.inl.inj q)
  rw [decide_eq_false h]
  exact (beq_eq_false_iff_ne.mpr e).symm
theorem key_rr (a b : Str) : decide ((Sum.inr a : Key) = Sum.inr b) = decide (a = b) := by
 by_cases e : a = b
 ·subst e; simp
 ·have h : ¬ (Sum.inr a : Key) = Sum.inr b := fun q => e (Sum.inr.inj q)
  rw [decide_eq_false h, decide_eq_false e]
theorem key_lr (a : Int) (b : Str) : decide ((Sum.inl a : Key) = Sum.inr b) = false := decide_eq_false (fun q => nomatch q)
theorem key_rl (a : Str) (b : Int) : decide ((Sum.inr a : Key) = Sum.inl b) = false := decide_eq_false (fun q => nomatch q)
def mixKind (prog : Program) (w : World) : PySem.KeyKind prog w Key where
 is := keyIs
 hash := keyH w
 inj := fun v a b ha hb => by
  rcases keyIs_shape ha with ⟨i, t, rfl, rfl⟩ | ⟨x, t, rfl, rfl⟩
  ·rcases keyIs_shape hb with ⟨j, u, rfl, e⟩ | ⟨y, u, rfl, e⟩
   ·injection e with e1 _; rw [e1]
   ·exact nomatch e
  ·rcases keyIs_shape hb with ⟨j, u, rfl, e⟩ | ⟨y, u, rfl, e⟩
   ·exact nomatch e
   ·injection e with e1 _; rw [e1]
 byValue := fun k v h => by
  rcases keyIs_shape h with ⟨i, t, rfl, rfl⟩ | ⟨x, t, rfl, rfl⟩ <;> rfl
 pyHash := fun hv h => by
  rcases keyIs_shape hv with ⟨i, t, rfl, rfl⟩ | ⟨x, t, rfl, rfl⟩
  ·exact wpAny_pyHash_int h
  ·exact wpAny_pyHash_str h
 eqBool := fun hu hv h => by
  rcases keyIs_shape hu with ⟨i, t, rfl, rfl⟩ | ⟨x, t, rfl, rfl⟩
  ·rcases keyIs_shape hv with ⟨j, u, rfl, rfl⟩ | ⟨y, u, rfl, rfl⟩
   ·rw [key_ll] at h; exact wpAny_eqBool_int h
   ·rw [key_lr] at h; exact SeqAt.EqAt.int_str i t y u _ _ _ _ h
  ·rcases keyIs_shape hv with ⟨j, u, rfl, rfl⟩ | ⟨y, u, rfl, rfl⟩
   ·rw [key_rl] at h; exact SeqAt.EqAt.str_int x t j u _ _ _ _ h
   ·rw [key_rr] at h; exact wpAny_eqBool_str h
 «strs» := fun k x t v h => by
  rcases keyIs_shape h with ⟨i, u, rfl, e⟩ | ⟨y, u, rfl, e⟩
  ·exact nomatch e
  ·injection e with e1 _
   subst e1
   cases v <;> rfl
end L2
namespace L2
open PySem PySem.Spec PyProof.Rows
inductive V where
 | non | bl (b : Bool) | int (i : Int) | str (x : Str) | byt (b : Array UInt8) | flt (b : UInt64) | ref (a : Addr) | ty (n : String)
 deriving DecidableEq
def RelV : V → Value → Prop
 | .non, u => u = Value.none
 | .bl b, u => u = Value.bool b
 | .int i, u => ∃ t, u = Value.int i t
 | .str x, u => ∃ t, u = Value.str x t
 | .byt b, u => ∃ t, u = Value.bytes b t
 | .flt b, u => ∃ t, u = Value.float b t
 | .ref a, u => u = Value.ref a
 | .ty n, u => u = Value.type n
abbrev Vals : List V → List Value → Prop := Paired RelV
theorem Vals.length {xs : List V} {us : List Value} (r : Vals xs us) : xs.length = us.length := Paired.length r
theorem Vals.get : ∀ {xs : List V} {us : List Value} {i : Nat} {x : V}, Vals xs us → xs[i]? = some x → ∃ u, us[i]? = some u ∧ RelV x u
 | _, _, _, _, .nil, e => by simp at e
 | _, _, 0, _, .cons r _, e => by simp at e; subst e; exact ⟨_, rfl, r⟩
 | _, _, i + 1, x, .cons _ t, e => by
  obtain ⟨u, h1, h2⟩ := Vals.get (i := i) (x := x) t (by simpa using e)
  exact ⟨u, by simpa using h1, h2⟩
theorem Vals.set {x : V} {u : Value} (r : RelV x u) : ∀ {xs : List V} {us : List Value} (i : Nat), Vals xs us → Vals (xs.set i x) (us.set i u)
 | _, _, _, .nil => .nil
 | _, _, 0, .cons _ t => .cons r t
 | _, _, i + 1, .cons q t => .cons q (Vals.set r i t)
theorem Vals.append : ∀ {xs ys : List V} {us ws : List Value}, Vals xs us → Vals ys ws → Vals (xs ++ ys) (us ++ ws)
 | _, _, _, _, .nil, s => s
 | _, _, _, _, .cons r t, s => .cons r (Vals.append t s)
theorem Vals.take : ∀ {xs : List V} {us : List Value} (n : Nat), Vals xs us → Vals (xs.take n) (us.take n)
 | _, _, 0, _ => .nil
 | _, _, _ + 1, .nil => .nil
 | _, _, n + 1, .cons r t => .cons r (Vals.take n t)
theorem Vals.drop : ∀ {xs : List V} {us : List Value} (n : Nat), Vals xs us → Vals (xs.drop n) (us.drop n)
 | _, _, 0, r => r
 | _, _, _ + 1, .nil => .nil
 | _, _, n + 1, .cons _ t => Vals.drop n t
def RelO : Option V → Option Value → Prop
 | some v, some u => RelV v u
 | none, none => True
 | _, _ => False
def KV {κ : Type} : List (κ × V) → List (κ × Value) → Prop := Paired fun (p : κ × V) (q : κ × Value) => p.1 = q.1 ∧ RelV p.2 q.2
def kV : Key → V
 | .inl i => .int i
 | .inr x => .str x
inductive HO where
  | lst (xs : List V)
  | tup (xs : List V)
  | dK (kvs : List (Key × V)) | dT (kvs : List (List Key × V))
  | set (S : Int → Bool) (n : Nat)
  | ins (C dx : Addr) (fs : List (Str × V))
  | own (x : Addr)
  | xd (fs : List (Str × V))
  | met (f x : Addr)
  | rng (lo hi : Int)
  | frz (o : Obj) (u : HO)
  | tbl (ps : Array Value)
  | ext (φ : Heap → Prop)
abbrev Hp := Addr → Option HO
def upd (H : Hp) (a : Addr) (o : HO) : Hp := fun b => if b = a then some o else H b
theorem upd_same {H : Hp} {a : Addr} {o : HO} : upd H a o a = some o := by unfold upd; rw [if_pos rfl]
theorem upd_ne {H : Hp} {a b : Addr} {o : HO} (h : b ≠ a) : upd H a o b = H b := by unfold upd; rw [if_neg h]
theorem ne_of {H : Hp} {a b : Addr} {o u : HO} (h : H a = some o) (h' : H b = some u) (d : o ≠ u) : a ≠ b := by
 intro e; subst e; rw [h] at h'; exact d (Option.some.inj h')
theorem ne_of_none {H : Hp} {a b : Addr} {o : HO} (h : H a = some o) (h' : H b = none) : a ≠ b := by
 intro e; subst e; rw [h] at h'; cases h'
section
variable (P : Program) (w : World)
def ObjOk (H : Hp) (h : Heap) (a : Addr) : HO → Prop
 | .lst xs => xs.length ≤ sizeLine ∧ ∃ (its : List Value) (n : Nat), Vals xs its ∧ h.get? a = some { cls := .type "list", data := .seq its.toArray n }
 | .tup xs => xs.length ≤ sizeLine ∧ ∃ its : List Value, Vals xs its ∧ IsTup h a its.toArray
 | .dK kvs => kvs.length ≤ sizeLine ∧ (a == sysModules) = false ∧ ∃ vs, KV kvs vs ∧ h.DictOf (mixKind P w) a vs
 | .dT kvs => kvs.length ≤ sizeLine ∧ (a == sysModules) = false ∧ ∃ xs : List (List Key × Addr × Value),
   Paired (fun (p : List Key × V) (q : List Key × Addr × Value) => p.1 = q.1 ∧ H q.2.1 = some (.tup (p.1.map kV)) ∧ RelV p.2 q.2.2) kvs xs ∧
   ∃ o es ep, h.get? a = some o ∧ o.ExactDict ∧ o.data = .dict es ep ∧ es.toList = xs.map (entryOfKey (tupleKind (mixKind P w))) ∧ (xs.map (·.1)).Nodup
 | .set S n => h.SetOf (intKind P w) a S n
 | .ins C dx fs => H dx = some (.own a) ∧ fs.length ≤ 1000 ∧ dx ≠ a ∧ h.get? a = some (PySem.W.instObj C dx) ∧
   ∃ mA, h.Ns1 dx mA ∧ (∀ f, RelO (fs.lookup f) (mA f)) ∧ PySem.Within mA (fs.map (·.1))
 | .own _ => ∃ o, h.get? a = some o
 | .xd fs => ∃ mA, h.Ns1 a mA ∧ ∀ f, RelO (fs.lookup f) (mA f)
 | .rng lo hi => ∃ t u v, h.get? a = some { cls := .type "range", data := .fields #[.int lo t, .int hi u, .int 1 v] }
 | .frz o u => h.get? a = some o ∧ ObjOk H h a u
 | .tbl ps => h.get? a = some { cls := .none, data := .fields ps }
 | .met f x => h.get? a = some (PySem.W.methodObj (.ref f) (.ref x))
 | .ext φ => φ h ∧ (∃ o, h.get? a = some o) ∧ ∀ h1 h2 : Heap, φ h1 → (∀ o, h1.get? a = some o → h2.get? a = some o) → φ h2
def HOk (H : Hp) (h : Heap) : Prop := ∀ a o, H a = some o → ObjOk P w H h a o
end
section
variable {P : Program} {w : World} {H H' : Hp} {h h' : Heap} {a : Addr} {o : HO}
theorem ObjOk.lt (x : ObjOk P w H h a o) : a < h.objs.size := by
 cases o with
 | lst xs => obtain ⟨_, _, _, _, e⟩ := x; exact Heap.lt_size e
 | tup xs => obtain ⟨_, _, _, p⟩ := x; exact p.lt
 | dK kvs => obtain ⟨_, _, _, _, o, _, _, e, _⟩ := x; exact Heap.lt_size e
 | dT kvs => obtain ⟨_, _, _, _, o, _, _, e, _⟩ := x; exact Heap.lt_size e
 | set S n => obtain ⟨o, _, _, _, e, _⟩ := x; exact Heap.lt_size e
 | ins C dx fs => obtain ⟨_, _, _, e, _⟩ := x; exact Heap.lt_size e
 | own y => obtain ⟨_, e⟩ := x; exact Heap.lt_size e
 | xd fs => obtain ⟨_, ⟨_, _, _, e, _⟩, _⟩ := x; exact Heap.lt_size e
 | rng lo hi => obtain ⟨_, _, _, e⟩ := x; exact Heap.lt_size e
 | frz ob u => obtain ⟨e, _⟩ := x; exact Heap.lt_size e
 | tbl ps => exact Heap.lt_size (show h.get? a = some _ from x)
 | met f y => exact Heap.lt_size (show h.get? a = some _ from x)
 | ext φ => obtain ⟨_, ⟨_, e⟩, _⟩ := x; exact Heap.lt_size e
theorem Paired.mapP {α β : Type} {F G : α → β → Prop} : ∀ {l₁ : List α} {l₂ : List β}, Paired F l₁ l₂ → (∀ a b, F a b → G a b) → Paired G l₁ l₂
 | _, _, .nil, _ => .nil
 | _, _, .cons r t, f => .cons (f _ _ r) (Paired.mapP t f)
theorem ObjOk.stay (x : ObjOk P w H h a o) (k : ∀ b u, (b = a ∨ H b = some (.own a)) → h.get? b = some u → h'.get? b = some u)
  (ho : ∀ b, H b = some (.own a) → H' b = some (.own a)) (ht : ∀ b xs, H b = some (.tup xs) → H' b = some (.tup xs)) : ObjOk P w H' h' a o := by
 induction o with
 | lst xs => obtain ⟨z, its, n, r, e⟩ := x; exact ⟨z, its, n, r, k _ _ (.inl rfl) e⟩
 | tup xs => obtain ⟨z, its, r, ob, e, c⟩ := x; exact ⟨z, its, r, ob, k _ _ (.inl rfl) e, c⟩
 | dK kvs => obtain ⟨z, y, vs, r, ob, es, ep, e, c⟩ := x; exact ⟨z, y, vs, r, ob, es, ep, k _ _ (.inl rfl) e, c⟩
 | dT kvs =>
  obtain ⟨z, y, xs, r, ob, es, ep, e, c⟩ := x
  exact ⟨z, y, xs, Paired.mapP r fun p q z => ⟨z.1, ht _ _ z.2.1, z.2.2⟩, ob, es, ep, k _ _ (.inl rfl) e, c⟩
 | set S n => obtain ⟨ob, es, ep, t, e, c⟩ := x; exact ⟨ob, es, ep, t, k _ _ (.inl rfl) e, c⟩
 | ins C dx fs =>
  obtain ⟨d, z, ne, e, mA, ⟨od, es, ep, e2, c⟩, r⟩ := x
  exact ⟨ho _ d, z, ne, k _ _ (.inl rfl) e, mA, ⟨od, es, ep, k _ _ (.inr d) e2, c⟩, r⟩
 | own y => obtain ⟨ob, e⟩ := x; exact ⟨ob, k _ _ (.inl rfl) e⟩
 | xd fs => obtain ⟨mA, ⟨od, es, ep, e, c⟩, r⟩ := x; exact ⟨mA, ⟨od, es, ep, k _ _ (.inl rfl) e, c⟩, r⟩
 | rng lo hi => obtain ⟨t, u, v, e⟩ := x; exact ⟨t, u, v, k _ _ (.inl rfl) e⟩
 | frz ob u ih => obtain ⟨e, q⟩ := x; exact ⟨k _ _ (.inl rfl) e, ih q⟩
 | tbl ps =>
  have e : h.get? a = some { cls := .none, data := .fields ps } := x
  show h'.get? a = some { cls := .none, data := .fields ps }
  exact k a _ (.inl rfl) e
 | met f y =>
  have e : h.get? a = some (PySem.W.methodObj (.ref f) (.ref y)) := x
  show h'.get? a = some (PySem.W.methodObj (.ref f) (.ref y))
  exact k a _ (.inl rfl) e
 | ext φ => obtain ⟨p, ⟨o, e⟩, st⟩ := x; exact ⟨st _ _ p fun o q => k _ _ (.inl rfl) q, ⟨o, k _ _ (.inl rfl) e⟩, st⟩
theorem HOk.lt (x : HOk P w H h) (e : H a = some o) : a < h.objs.size := (x a o e).lt
theorem HOk.fresh (x : HOk P w H h) (e : h.objs.size ≤ a) : H a = none := by
 cases q : H a with
 | none => rfl
 | some u => exact absurd (Nat.lt_of_lt_of_le (x.lt q) e) (Nat.lt_irrefl _)
theorem HOk.kept (x : HOk P w H h) (k : ∀ b u, h.get? b = some u → h'.get? b = some u) : HOk P w H h' := fun a o e =>
 (x a o e).stay (fun b u _ q => k b u q) (fun _ q => q) fun _ _ q => q
theorem HOk.laid (x : HOk P w H h) (k : ∀ b u, h.get? b = some u → h'.get? b = some u) (hp : h.objs.size ≤ a) (new : ObjOk P w (upd H a o) h' a o) : HOk P w (upd H a o) h' := fun b u e => by
 have hn := x.fresh hp
 by_cases hb : b = a
 ·subst hb; rw [upd_same] at e; cases e; exact new
 ·rw [upd_ne hb] at e
  exact (x b u e).stay (fun c v _ q => k c v q) (fun c q => by rw [upd_ne (ne_of_none q hn)]; exact q) fun c xs q => by rw [upd_ne (ne_of_none q hn)]; exact q
end
def Rd (H : Hp) (a : Addr) (u : HO) : Prop := H a = some u ∨ ∃ o, H a = some (.frz o u)
theorem Rd.ok {P : Program} {w : World} {H : Hp} {h : Heap} {a : Addr} {u : HO} (r : Rd H a u) (x : HOk P w H h) : ObjOk P w H h a u := by
 rcases r with r | ⟨o, r⟩
 ·exact x a u r
 ·obtain ⟨_, q⟩ := x a _ r
  exact q
def Mut : Option HO → Prop
 | some (.lst _) => True
 | some (.dK _) => True
 | some (.dT _) => True
 | some (.set _ _) => True
 | some (.ins _ _ _) => True
 | some (.ext _) => True
 | _ => False
section
variable {P : Program} {w : World} {H : Hp} {h h' : Heap} {x e : Addr} {o' : HO}
theorem HOk.write (ok : HOk P w H h) (mu : Mut (H x)) (he : e = x ∨ H e = some (.own x)) (k : ∀ b u, b ≠ e → h.get? b = some u → h'.get? b = some u) (heo : ∃ u, h'.get? e = some u)
  (new : ObjOk P w (upd H x o') h' x o') : HOk P w (upd H x o') h' := fun b u q => by
 have nown : ∀ c y, H c = some (.own y) → c ≠ x := fun c y r z => by subst z; rw [r] at mu; exact mu
 have ntup : ∀ c xs, H c = some (.tup xs) → c ≠ x := fun c xs r z => by subst z; rw [r] at mu; exact mu
 by_cases hb : b = x
 ·subst hb; rw [upd_same] at q; cases q; exact new
 ·rw [upd_ne hb] at q
  by_cases hbe : b = e
  ·have q' : H b = some (.own x) := by
    rcases he with z | z
    ·exact absurd (hbe.trans z) hb
    ·rw [hbe]; exact z
   rw [q] at q'; cases q'
   obtain ⟨v, hv⟩ := heo
   exact ⟨v, by rw [hbe]; exact hv⟩
  ·refine (ok b u q).stay (fun c v hc r => k c v ?_ r) (fun c r => by rw [upd_ne (nown c b r)]; exact r) fun c xs r => by rw [upd_ne (ntup c xs r)]; exact r
   rcases hc with rfl | hc
   ·exact hbe
   ·rintro rfl
    rcases he with z | z
    ·exact nown c b hc z
    ·rw [hc] at z; cases z; exact hb rfl
end
structure Un (fs ex : List Addr) (H H' : Hp) (h h' : Heap) : Prop where
 keep : ∀ b o, h.get? b = some o → H b = none → b ∉ fs → b ∉ ex → h'.get? b = some o
 slot : ∀ b o, h.get? b = some o → H b = none → b ∈ fs → b ∉ ex → ∃ sl, h'.get? b = some { o with slots := sl }
 free : ∀ b o, h.get? b = some o → H b = none → b ∉ ex → H' b = none
 there : ∀ b o, h.get? b = some o → b ∉ ex → ∃ o', h'.get? b = some o'
 tups : ∀ b xs, H b = some (.tup xs) → H' b = some (.tup xs)
 frzs : ∀ b o u, H b = some (.frz o u) → H' b = some (.frz o u)
 tbls : ∀ b ps, H b = some (.tbl ps) → ∃ more, H' b = some (.tbl (ps ++ more))
section
variable {fs fs' ex ex' : List Addr} {H H1 H2 : Hp} {h h1 h2 h' : Heap} {a x e : Addr} {o : HO}
theorem Un.any (u : Un fs ex H H1 h h1) {b : Addr} {ob : Obj} (q : h.get? b = some ob) (n : H b = none) (hx : b ∉ ex) : ∃ sl, h1.get? b = some { ob with slots := sl } := by
 by_cases hb : b ∈ fs
 ·exact u.slot b ob q n hb hx
 ·exact ⟨ob.slots, u.keep b ob q n hb hx⟩
theorem Un.kept (k : ∀ b u, h.get? b = some u → h'.get? b = some u) : Un fs ex H H h h' :=
 ⟨fun b ob q _ _ _ => k b ob q, fun b ob q _ _ _ => ⟨ob.slots, k b ob q⟩, fun _ _ _ n _ => n, fun b ob q _ => ⟨ob, k b ob q⟩, fun _ _ q => q, fun _ _ _ q => q, fun _ ps q => ⟨#[], by rw [q]; simp⟩⟩
theorem Un.refl : Un fs ex H H h h := Un.kept fun _ _ q => q
theorem Un.laid (k : ∀ b u, h.get? b = some u → h'.get? b = some u) (hp : h.objs.size ≤ a) (hn : H a = none) : Un fs ex H (upd H a o) h h' where
 keep := fun b u q _ _ _ => k b u q
 slot := fun b u q _ _ _ => ⟨u.slots, k b u q⟩
 free := fun b u q n _ => by rw [upd_ne (Nat.ne_of_lt (Nat.lt_of_lt_of_le (Heap.lt_size q) hp))]; exact n
 there := fun b u q _ => ⟨u, k b u q⟩
 tups := fun b xs q => by rw [upd_ne (ne_of_none q hn)]; exact q
 frzs := fun b u xs q => by rw [upd_ne (ne_of_none q hn)]; exact q
 tbls := fun b ps q => ⟨#[], by rw [upd_ne (ne_of_none q hn), q]; simp⟩
theorem Un.write (mu : Mut (H x)) (he : e = x ∨ H e = some (.own x)) (k : ∀ b u, b ≠ e → h.get? b = some u → h'.get? b = some u) (heo : ∃ u, h'.get? e = some u) : Un fs ex H (upd H x o) h h' := by
 have hx : ∀ b, H b = none → b ≠ x := fun b n z => by subst z; rw [n] at mu; exact mu
 have hb : ∀ b, H b = none → b ≠ e := fun b n z => by
  subst z
  rcases he with r | r
  ·exact hx b n r
  ·rw [n] at r; cases r
 have hm : ∀ b u, H b = some u → ¬ Mut (some u) → b ≠ x := fun b u q nm z => by subst z; rw [q] at mu; exact nm mu
 refine ⟨fun b u q n _ _ => k b u (hb b n) q, fun b u q n _ _ => ⟨u.slots, k b u (hb b n) q⟩, fun b u q n _ => by rw [upd_ne (hx b n)]; exact n, fun b u q _ => ?_,
  fun b xs q => by rw [upd_ne (hm b _ q fun z => z)]; exact q, fun b u xs q => by rw [upd_ne (hm b _ q fun z => z)]; exact q, fun b ps q => ⟨#[], by rw [upd_ne (hm b _ q fun z => z), q]; simp⟩⟩
 by_cases hbe : b = e
 ·subst hbe; exact heo
 ·exact ⟨u, k b u hbe q⟩
end
def trk (h : Heap) (H : Hp) : List Addr := (List.range h.objs.size).filter fun a => (H a).isSome
def hidT (h : Heap) (H : Hp) : Heap := PySem.W.hideAll h (trk h H)
theorem hidT_size (h : Heap) (H : Hp) : (hidT h H).objs.size = h.objs.size := PySem.W.hideAll_size _ _
theorem hidT_get {h : Heap} {H : Hp} {b : Addr} {o : Obj} (e : h.get? b = some o) (n : H b = none) : (hidT h H).get? b = some o :=
 PySem.W.hideAll_get _ e fun hm => by
  have q : (H b).isSome = true := (List.mem_filter.mp hm).2
  rw [n] at q; simp at q
theorem of_hidT {h : Heap} {H : Hp} {b : Addr} {o : Obj} (e : (hidT h H).get? b = some o) : h.get? b = some o ∧ H b = none := by
 have e' : h.get? b = some o := PySem.W.of_hideAll (trk h H) e
 refine ⟨e', ?_⟩
 cases q : H b with
 | none => rfl
 | some x =>
  have hm : b ∈ trk h H := List.mem_filter.mpr ⟨List.mem_range.mpr (Heap.lt_size e'), by simp [q]⟩
  have z : (hidT h H).get? b = none := PySem.W.hideAll_none (trk h H) hm
  rw [z] at e; cases e
end L2
namespace L2
open PySem PySem.Spec PyProof.Rows
structure Mod (K : PySem.W.Frag) (mg : Str → Option Value) (base : Heap) : Prop where
 kin : K.In base
 glob : base.Ns mainGlobals mg
 blt : ∃ mb, base.Ns builtinsNs mb ∧ ∀ x : Str, x ≠ "__name__" → mb x = bootBuiltins x
 nolimit : base.NoLimit
structure Cx where
 prog : Program
 w : World
 K : PySem.W.Frag
 mg : Str → Option Value
 base : Heap
 A : Around
 N : List Str
 s₀ : Shared
 H₀ : Hp
 env : Env
 outer : List Env
 stack : List Env
 ex : List Addr
 fn : Str → Bool
 calm : Bool
 pn : List (Addr × Obj)
 xe : Value → Shared → Prop
def frs (l : List Env) : List Addr := l.filterMap (·.frame)
abbrev Cx.fs (X : Cx) : List Addr := frs X.outer
def Vis (sc : Scope) (x : Str) : Prop := sc.names.lookup x = some .local ∨ sc.names.lookup x = some .cell ∨ sc.names.lookup x = some .free
def Loc (sc : Scope) (x : Str) : Prop := sc.names.lookup x = some .local ∨ sc.names.lookup x = some .cell
def Look (env : Env) (h : Heap) (m : Str → Option Value) (x : Str) (u : Value) : Prop :=
 (env.kindOf x = some .local ∧ m x = some u) ∨ ((env.kindOf x = some .cell ∨ env.kindOf x = some .free) ∧ ∃ c, env.cells.lookup x = some c ∧ h.IsCell c (some u))
structure Cx.Ok (X : Cx) : Prop where
 mod : Mod X.K X.mg X.base
 kind : X.env.scope.kind = .function
 glob : X.env.globals = mainGlobals
 blt : X.env.builtins = builtinsNs
 above : X.s₀.heap.objs.size ≤ X.env.locals
 inj : ∀ x y c, X.env.cells.lookup x = some c → X.env.cells.lookup y = some c → x = y
 has : ∀ x, (X.env.kindOf x = some .cell ∨ X.env.kindOf x = some .free) → ∃ c, X.env.cells.lookup x = some c
 cab : ∀ x c, X.fn x = true → X.env.cells.lookup x = some c → X.s₀.heap.objs.size ≤ c
 hd : X.calm = true → X.A.handled = none
 frames : X.A.frames = some X.stack
 stk : X.stack = X.outer ∨ (X.stack = X.env :: X.outer ∧ X.env.frame = some X.env.locals)
 exf : ∀ b ∈ X.ex, b ≠ X.env.locals ∧ ∀ x c, X.env.cells.lookup x = some c → c ≠ b
 bs : ∀ b o, X.base.get? b = some o → X.s₀.heap.get? b = some o ∧ X.H₀ b = none
 bsz : X.base.objs.size ≤ X.s₀.heap.objs.size
 noex : ∀ b o, X.base.get? b = some o → b ∉ X.ex
 exfs : ∀ b ∈ X.ex, b ∉ X.fs
 funs : X.s₀.heap.FunFrames X.base X.outer
 frf : ∀ b ∈ X.fs, X.H₀ b = none
structure Inv (X : Cx) (pins : List (Addr × Obj)) (σ : List (Option V)) (H : Hp) (s : Shared) : Prop where
 ok : X.Ok
 os : s.os = X.s₀.os
 bare : AllBare s.gens
 base : Un X.fs X.ex X.H₀ H X.s₀.heap s.heap
 loc : ∃ m, s.heap.Ns X.env.locals m ∧ ∀ (i : Nat) (x : Str) (v : V), X.N[i]? = some x → σ[i]? = some (some v) → Vis X.env.scope x → ∃ u, RelV v u ∧ Look X.env s.heap m x u
 cell : ∀ x c, X.env.cells.lookup x = some c → ∃ v, s.heap.IsCell c v
 free : H X.env.locals = none
 freeC : ∀ x c, X.env.cells.lookup x = some c → H c = none
 pin : ∀ p ∈ X.pn ++ pins, s.heap.get? p.1 = some p.2 ∧ H p.1 = none ∧ p.1 ≠ X.env.locals ∧ p.1 ∉ X.fs ∧ ∀ v, p.2.data ≠ .cell v
 hok : HOk X.prog X.w H s.heap
 len : σ.length = X.N.length
section
variable {X : Cx} {pins : List (Addr × Obj)} {σ : List (Option V)} {H H' : Hp} {s : Shared} {h' : Heap}
theorem Cx.Ok.nofr (ok : X.Ok) {b : Addr} {o : Obj} (e : X.base.get? b = some o) : b ∉ X.fs := fun hb => by
 have := (ok.funs.mem hb).1
 rw [e] at this; cases this
theorem Inv.bs (I : Inv X pins σ H s) : ∀ b o, X.base.get? b = some o → s.heap.get? b = some o ∧ H b = none := fun b o e =>
 ⟨I.base.keep b o (I.ok.bs b o e).1 (I.ok.bs b o e).2 (I.ok.nofr e) (I.ok.noex b o e), I.base.free b o (I.ok.bs b o e).1 (I.ok.bs b o e).2 (I.ok.noex b o e)⟩
theorem Inv.bk (I : Inv X pins σ H s) : ∀ b o, X.base.get? b = some o → s.heap.get? b = some o := fun b o e => (I.bs b o e).1
theorem Inv.mod (I : Inv X pins σ H s) : Mod X.K X.mg X.base := I.ok.mod
theorem Inv.kIn (I : Inv X pins σ H s) : X.K.In s.heap := I.ok.mod.kin.keeps I.bk
theorem Inv.lt (I : Inv X pins σ H s) : X.env.locals < s.heap.objs.size := let ⟨_, hn, _⟩ := I.loc; hn.lt
theorem Inv.sz (I : Inv X pins σ H s) : X.s₀.heap.objs.size ≤ s.heap.objs.size := Nat.le_trans I.ok.above (Nat.le_of_lt I.lt)
theorem Inv.nofs (I : Inv X pins σ H s) {a : Addr} (h : s.heap.objs.size ≤ a) : a ∉ X.fs := fun hb => by
 obtain ⟨_, o, ho, _⟩ := I.ok.funs.mem hb
 exact absurd (Nat.lt_of_lt_of_le (Heap.lt_size ho) (Nat.le_trans I.sz h)) (Nat.lt_irrefl _)
theorem Inv.cne (I : Inv X pins σ H s) : ∀ x c, X.env.cells.lookup x = some c → c ≠ X.env.locals := fun x c e z => by
 obtain ⟨v, o, ho, hd⟩ := I.cell x c e
 obtain ⟨m, ⟨o', es, ep, ho', hd', _⟩, _⟩ := I.loc
 rw [z, ho'] at ho; cases ho; rw [hd'] at hd; cases hd
theorem Inv.funs (I : Inv X pins σ H s) : s.heap.FunFrames X.base X.outer := by
 have all : ∀ (l : List Env), (∀ b ∈ frs l, b ∈ X.fs) → X.s₀.heap.FunFrames X.base l → s.heap.FunFrames X.base l := by
  intro l
  induction l with
  | nil => intro _ _; trivial
  | cons env r ih =>
   intro hs hl
   obtain ⟨hk, ⟨L, o, hf, hn, ho, hd⟩, hr⟩ := hl
   have hL : L ∈ X.fs := hs L (by unfold frs; rw [List.filterMap_cons, hf]; exact List.mem_cons_self)
   obtain ⟨sl, e⟩ := I.base.slot L o ho (I.ok.frf L hL) hL fun z => I.ok.exfs L z hL
   exact ⟨hk, ⟨L, _, hf, hn, e, hd⟩, ih (fun b hb => hs b (by unfold frs; rw [List.filterMap_cons, hf]; exact List.mem_cons_of_mem _ hb)) hr⟩
 exact all X.outer (fun _ hb => hb) I.ok.funs
theorem Inv.stack (I : Inv X pins σ H s) : s.heap.FunFrames X.base X.stack := by
 rcases I.ok.stk with e | ⟨e, hf⟩
 ·rw [e]; exact I.funs
 ·rw [e]
  obtain ⟨m, hn, _⟩ := I.loc
  refine .cons (by rw [I.ok.kind]; decide) hf hn ?_ I.funs
  exact Heap.get?_none_of_le (Nat.le_trans I.ok.bsz I.ok.above)
theorem Inv.stkSub (I : Inv X pins σ H s) : ∀ b ∈ frs X.stack, b ∈ X.env.locals :: X.fs := fun b hb => by
 rcases I.ok.stk with e | ⟨e, hf⟩
 ·rw [e] at hb; exact List.mem_cons_of_mem _ hb
 ·rw [e] at hb
  unfold frs at hb
  rw [List.filterMap_cons, hf] at hb
  exact hb
theorem Inv.stkFree (I : Inv X pins σ H s) : ∀ b ∈ frs X.stack, H b = none := fun b hb => by
 rcases List.mem_cons.mp (I.stkSub b hb) with e | hb
 ·rw [e]; exact I.free
 ·obtain ⟨_, o, ho, _⟩ := I.ok.funs.mem hb
  exact I.base.free b o ho (I.ok.frf b hb) fun z => I.ok.exfs b z hb
theorem Inv.step {g' : Array GenState} {t' : Nat} {d' : Drawn} {ch : List Addr} (I : Inv X pins σ H s)
  (hch : ∀ b ∈ ch, (b ∈ X.ex ∨ X.s₀.heap.objs.size ≤ b) ∧ b ≠ X.env.locals ∧ (∀ x c, X.env.cells.lookup x = some c → c ≠ b) ∧ ∀ p ∈ X.pn ++ pins, p.1 ≠ b)
  (keep : ∀ b o, b ≠ X.env.locals → b ∉ X.fs → b ∉ ch → s.heap.get? b = some o → H b = none → h'.get? b = some o)
  (slot : ∀ b o, b ≠ X.env.locals → b ∈ X.fs → b ∉ ch → s.heap.get? b = some o → H b = none → ∃ sl, h'.get? b = some { o with slots := sl }) (free : ∀ b o, b ∉ ch → s.heap.get? b = some o → H b = none → H' b = none)
  (there : ∀ b o, b ∉ ch → s.heap.get? b = some o → ∃ o', h'.get? b = some o')
  (tups : ∀ b xs, H b = some (.tup xs) → H' b = some (.tup xs)) (frzs : ∀ b o u, H b = some (.frz o u) → H' b = some (.frz o u)) (tbls : ∀ b ps, H b = some (.tbl ps) → ∃ more, H' b = some (.tbl (ps ++ more)))
  (ns : ∀ m, s.heap.Ns X.env.locals m → h'.Ns X.env.locals m) (hok : HOk X.prog X.w H' h') (hg : AllBare g') :
  Inv X pins σ H' { s with heap := h', gens := g', drawn := d', toks := t' } := by
 have neL : ∀ b o, X.s₀.heap.get? b = some o → b ≠ X.env.locals := fun b o e => Nat.ne_of_lt (Nat.lt_of_lt_of_le (Heap.lt_size e) I.ok.above)
 have neC : ∀ b o, X.s₀.heap.get? b = some o → b ∉ X.ex → b ∉ ch := fun b o e hx hb => by
  rcases (hch b hb).1 with z | z
  ·exact hx z
  ·exact absurd (Nat.lt_of_lt_of_le (Heap.lt_size e) z) (Nat.lt_irrefl _)
 have cellK : ∀ x c, X.env.cells.lookup x = some c → ∀ v, s.heap.IsCell c v → h'.IsCell c v := fun x c e v ⟨o, ho, hd⟩ => by
  have nch : c ∉ ch := fun z => (hch c z).2.2.1 x c e rfl
  by_cases hc : c ∈ X.fs
  ·obtain ⟨sl, q⟩ := slot c o (I.cne x c e) hc nch ho (I.freeC x c e)
   exact ⟨_, q, hd⟩
  ·exact ⟨o, keep c o (I.cne x c e) hc nch ho (I.freeC x c e), hd⟩
 refine ⟨I.ok, I.os, hg, ⟨fun b o e n hb hx => ?_, fun b o e n hb hx => ?_, fun b o e n hx => ?_, fun b o e hx => ?_, fun b xs e => tups b xs (I.base.tups b xs e), fun b o xs e => frzs b o xs (I.base.frzs b o xs e), fun b ps e => ?_⟩, ?_, fun x c e => ?_, ?_, fun x c e => ?_, fun p hp => ?_, hok, I.len⟩
 ·exact keep b o (neL b o e) hb (neC b o e hx) (I.base.keep b o e n hb hx) (I.base.free b o e n hx)
 ·obtain ⟨sl, e1⟩ := I.base.slot b o e n hb hx
  obtain ⟨sl', e2⟩ := slot b _ (neL b o e) hb (neC b o e hx) e1 (I.base.free b o e n hx)
  exact ⟨sl', e2⟩
 ·obtain ⟨o', e1⟩ := I.base.there b o e hx
  exact free b o' (neC b o e hx) e1 (I.base.free b o e n hx)
 ·obtain ⟨o', e1⟩ := I.base.there b o e hx
  exact there b o' (neC b o e hx) e1
 ·obtain ⟨m1, e1⟩ := I.base.tbls b ps e
  obtain ⟨m2, e2⟩ := tbls b _ e1
  exact ⟨m1 ++ m2, by rw [e2, Array.append_assoc]⟩
 ·obtain ⟨m, hn, hl⟩ := I.loc
  refine ⟨m, ns m hn, fun i x v e1 e2 e3 => ?_⟩
  obtain ⟨u, r, l⟩ := hl i x v e1 e2 e3
  refine ⟨u, r, ?_⟩
  rcases l with l | ⟨k, c, e, z⟩
  ·exact .inl l
  ·exact .inr ⟨k, c, e, cellK x c e _ z⟩
 ·obtain ⟨v, z⟩ := I.cell x c e
  exact ⟨v, cellK x c e v z⟩
 ·obtain ⟨m, ⟨o, _, _, ho, _⟩, _⟩ := I.loc
  exact free _ o (fun z => (hch _ z).2.1 rfl) ho I.free
 ·obtain ⟨v, o, ho, hd⟩ := I.cell x c e
  exact free c o (fun z => (hch c z).2.2.1 x c e rfl) ho (I.freeC x c e)
 ·obtain ⟨e, n, ne, nf, d⟩ := I.pin p hp
  have nch : p.1 ∉ ch := fun z => (hch p.1 z).2.2.2 p hp rfl
  exact ⟨keep p.1 p.2 ne nf nch e n, free p.1 p.2 nch e n, ne, nf, d⟩
theorem Inv.un {t' : Nat} (I : Inv X pins σ H s) (u : Un X.fs [] H H' s.heap h') (hok : HOk X.prog X.w H' h') : Inv X pins σ H' { s with heap := h', toks := t' } := by
 obtain ⟨m, ⟨o, es, ep, ho, r⟩, _⟩ := id I.loc
 obtain ⟨sl, hL⟩ := u.any ho I.free (by simp)
 exact I.step (g' := s.gens) (d' := s.drawn) (ch := []) (fun _ z => nomatch z) (fun b o _ hb _ e n => u.keep b o e n hb (by simp)) (fun b o _ hb _ e n => u.slot b o e n hb (by simp)) (fun b o _ e n => u.free b o e n (by simp)) (fun b o _ e => u.there b o e (by simp)) u.tups u.frzs u.tbls (fun m' hm => by
  obtain ⟨o', es', ep', ho', r'⟩ := hm
  rw [ho] at ho'; cases ho'
  exact ⟨_, es', ep', hL, r'⟩) hok I.bare
theorem Inv.call {g' : Array GenState} {t' : Nat} {d' : Drawn} {ch : List Addr} (I : Inv X pins σ H s) (u : Un (frs X.stack) ch H H' s.heap h') (hok : HOk X.prog X.w H' h') (hg : AllBare g')
  (hch : ∀ b ∈ ch, (b ∈ X.ex ∨ X.s₀.heap.objs.size ≤ b) ∧ b ≠ X.env.locals ∧ (∀ x c, X.env.cells.lookup x = some c → c ≠ b) ∧ ∀ p ∈ X.pn ++ pins, p.1 ≠ b) :
  Inv X pins σ H' { s with heap := h', gens := g', drawn := d', toks := t' } := by
 obtain ⟨m, ⟨o, es, ep, ho, r⟩, _⟩ := id I.loc
 obtain ⟨sl, hL⟩ := u.any ho I.free fun z => (hch _ z).2.1 rfl
 exact I.step (ch := ch) hch (fun b o hL hb hc e n => u.keep b o e n (fun z => (List.mem_cons.mp (I.stkSub b z)).elim hL hb) hc) (fun b o _ _ hc e n => u.any e n hc) (fun b o hc e n => u.free b o e n hc) (fun b o hc e => u.there b o e hc) u.tups u.frzs u.tbls (fun m' hm => by
  obtain ⟨o', es', ep', ho', r'⟩ := hm
  rw [ho] at ho'; cases ho'
  exact ⟨_, es', ep', hL, r'⟩) hok hg
theorem Inv.turned {t' : Nat} {it : Addr} (I : Inv X pins σ H s) (k : ∀ b o, b ≠ it → s.heap.get? b = some o → h'.get? b = some o) (hn : H it = none) (hL : it ≠ X.env.locals)
  (h1 : it ∈ X.ex ∨ X.s₀.heap.objs.size ≤ it) (h2 : ∀ x c, X.env.cells.lookup x = some c → c ≠ it) (h3 : ∀ p ∈ X.pn ++ pins, p.1 ≠ it) : Inv X pins σ H { s with heap := h', toks := t' } := by
 have nit : ∀ b u, H b = some u → b ≠ it := fun b u e z => by rw [z, hn] at e; cases e
 refine I.step (g' := s.gens) (d' := s.drawn) (ch := [it]) (fun b hb => ?_) (fun b o _ _ hc e _ => k b o (fun z => hc (by simp [z])) e) (fun b o _ _ hc e _ => ⟨o.slots, k b o (fun z => hc (by simp [z])) e⟩) (fun _ _ _ _ n => n)
  (fun b o hc e => ⟨o, k b o (fun z => hc (by simp [z])) e⟩) (fun _ _ e => e) (fun _ _ _ e => e) (fun b ps e => ⟨#[], by rw [e]; simp⟩) (fun m hm => ?_) (fun b u e => ?_) I.bare
 ·have e : b = it := by simpa using hb
  subst e
  exact ⟨h1, hL, h2, h3⟩
 ·obtain ⟨o, es, ep, ho, r⟩ := hm
  exact ⟨o, es, ep, k _ o (Ne.symm hL) ho, r⟩
 ·refine (I.hok b u e).stay (fun c v hc q => k c v ?_ q) (fun _ q => q) fun _ _ q => q
  rcases hc with z | z
  ·rw [z]; exact nit b u e
  ·exact nit c _ z
theorem Inv.tok (I : Inv X pins σ H s) (t : Nat) : Inv X pins σ H { s with toks := t } := I.un (h' := s.heap) (t' := t) Un.refl I.hok
theorem Inv.kept {t' : Nat} (I : Inv X pins σ H s) (k : ∀ b u, s.heap.get? b = some u → h'.get? b = some u) : Inv X pins σ H { s with heap := h', toks := t' } := I.un (Un.kept k) (I.hok.kept k)
theorem Inv.laid {a : Addr} {o : HO} {t' : Nat} (I : Inv X pins σ H s) (k : ∀ b u, s.heap.get? b = some u → h'.get? b = some u) (hp : s.heap.objs.size ≤ a) (new : ObjOk X.prog X.w (upd H a o) h' a o) :
  Inv X pins σ (upd H a o) { s with heap := h', toks := t' } := I.un (Un.laid k hp (I.hok.fresh hp)) (I.hok.laid k hp new)
theorem Inv.write {x e : Addr} {o : HO} {t' : Nat} (I : Inv X pins σ H s) (mu : Mut (H x)) (he : e = x ∨ H e = some (.own x)) (k : ∀ b u, b ≠ e → s.heap.get? b = some u → h'.get? b = some u) (heo : ∃ u, h'.get? e = some u)
  (new : ObjOk X.prog X.w (upd H x o) h' x o) : Inv X pins σ (upd H x o) { s with heap := h', toks := t' } := I.un (Un.write mu he k heo) (I.hok.write mu he k heo new)
theorem Inv.pins_of {pins' : List (Addr × Obj)} (I : Inv X pins σ H s) (h : ∀ p ∈ pins', s.heap.get? p.1 = some p.2 ∧ H p.1 = none ∧ p.1 ≠ X.env.locals ∧ p.1 ∉ X.fs ∧ ∀ v, p.2.data ≠ .cell v) : Inv X pins' σ H s :=
 ⟨I.ok, I.os, I.bare, I.base, I.loc, I.cell, I.free, I.freeC, fun p hp => (List.mem_append.mp hp).elim (fun z => I.pin p (List.mem_append_left _ z)) (h p), I.hok, I.len⟩
theorem nodup_ix {N : List Str} (hN : N.Nodup) {i j : Nat} {x : Str} (a : N[i]? = some x) (b : N[j]? = some x) : i = j := by
 obtain ⟨h1, e1⟩ := List.getElem?_eq_some_iff.mp a
 obtain ⟨h2, e2⟩ := List.getElem?_eq_some_iff.mp b
 exact (List.getElem_inj hN).mp (e1.trans e2.symm)
theorem store_ok2 {M : Model} {A : Around} {E : Value → Shared → Prop} {i : Nat} {x : Str} {v : V} {u : Value} {Q : Unit → Shared → Prop} (I : Inv X pins σ H s) (hN : X.N.Nodup) (hi : X.N[i]? = some x) (hx : Loc X.env.scope x) (r : RelV v u)
  (h : ∀ s', Inv X pins (σ.set i (some v)) H s' → (∃ a, Heap.SameBut a s.heap s'.heap ∧ (a = X.env.locals ∨ X.env.cells.lookup x = some a)) → Q () s') (hf : X.fn x = true ∨ X.env.scope.names.lookup x = some .local := by first | exact .inl rfl | exact .inr rfl | assumption) : wpAny M A (storeName X.env x u) Q E s := by
 obtain ⟨m, hn, hl⟩ := id I.loc
 have hcls : (X.env.scope.kind == .class || (X.env.scope.kind == .module && X.env.locals != X.env.globals)) = false := by rw [I.ok.kind]; rfl
 have hiσ : i < σ.length := by rw [I.len]; exact (List.getElem?_eq_some_iff.mp hi).1
 have cne := I.cne
 have tracked : ∀ {a : Addr} {h' : Heap}, (∃ o, s.heap.get? a = some o ∧ H a = none) → Heap.SameBut a s.heap h' → HOk X.prog X.w H h' := fun {a h'} ha hs b ob e => by
  obtain ⟨_, _, hfree⟩ := ha
  refine (I.hok b ob e).stay (fun c w' hc q => (hs.2 c ?_).trans q) (fun _ q => q) fun _ _ q => q
  rintro rfl
  rcases hc with rfl | hc
  ·rw [hfree] at e; cases e
  ·rw [hfree] at hc; cases hc
 rcases hx with hk | hk
 ·refine wpAny_storeName_local hk hn (fun h' hn' hs => ?_) hcls
  obtain ⟨oL, _, _, hoL, _⟩ := id hn
  refine h _ ⟨I.ok, I.os, I.bare, ⟨fun b o e n hb hx => ?_, fun b o e n hb hx => ?_, I.base.free, fun b o e hx => ?_, I.base.tups, I.base.frzs, I.base.tbls⟩, ⟨_, hn', fun j y v' e1 e2 e3 => ?_⟩, fun y c e => ?_, I.free, I.freeC, fun p hp => ?_, tracked ⟨oL, hoL, I.free⟩ hs, by simpa using I.len⟩ ⟨_, hs, .inl rfl⟩
  ·exact (hs.2 b (Nat.ne_of_lt (Nat.lt_of_lt_of_le (Heap.lt_size e) I.ok.above))).trans (I.base.keep b o e n hb hx)
  ·obtain ⟨sl, e1⟩ := I.base.slot b o e n hb hx
   exact ⟨sl, (hs.2 b (Nat.ne_of_lt (Nat.lt_of_lt_of_le (Heap.lt_size e) I.ok.above))).trans e1⟩
  ·obtain ⟨o', e1⟩ := I.base.there b o e hx
   exact ⟨o', (hs.2 b (Nat.ne_of_lt (Nat.lt_of_lt_of_le (Heap.lt_size e) I.ok.above))).trans e1⟩
  ·by_cases hj : j = i
   ·subst hj
    rw [hi] at e1; cases e1
    rw [List.getElem?_set_self hiσ] at e2
    cases e2
    exact ⟨u, r, .inl ⟨hk, by simp⟩⟩
   ·rw [List.getElem?_set_ne (Ne.symm hj)] at e2
    obtain ⟨u', r', q⟩ := hl j y v' e1 e2 e3
    refine ⟨u', r', ?_⟩
    rcases q with ⟨k, e⟩ | ⟨k, c, e, z⟩
    ·refine .inl ⟨k, ?_⟩
     have : y ≠ x := fun e => hj (nodup_ix hN e1 (e ▸ hi))
     simp [this, e]
    ·exact .inr ⟨k, c, e, z.sameBut hs (cne y c e)⟩
  ·obtain ⟨w', z⟩ := I.cell y c e
   exact ⟨w', z.sameBut hs (cne y c e)⟩
  ·obtain ⟨e, n, ne, nf, d⟩ := I.pin p hp
   exact ⟨(hs.2 p.1 ne).trans e, n, ne, nf, d⟩
 ·have hfn : X.fn x = true := by
   rcases hf with z | z
   ·exact z
   ·rw [z] at hk; cases hk
  obtain ⟨c, hc⟩ := I.ok.has x (.inl hk)
  obtain ⟨w', z⟩ := I.cell x c hc
  refine wpAny_storeName_cell I.ok.kind hk hc z (fun h' hc' hs => ?_)
  obtain ⟨oc, hoc, hocd⟩ := id z
  refine h { s with heap := h' } ⟨I.ok, I.os, I.bare, ⟨fun b o e n hb hx => ?_, fun b o e n hb hx => ?_, I.base.free, fun b o e hx => ?_, I.base.tups, I.base.frzs, I.base.tbls⟩, ⟨m, hn.sameBut hs (Ne.symm (cne x c hc)), fun j y v' e1 e2 e3 => ?_⟩, fun y c' e => ?_, I.free, I.freeC, fun p hp => ?_, tracked ⟨oc, hoc, I.freeC x c hc⟩ hs, by simpa using I.len⟩ ⟨c, hs, .inr hc⟩
  ·exact (hs.2 b (Nat.ne_of_lt (Nat.lt_of_lt_of_le (Heap.lt_size e) (I.ok.cab x c hfn hc)))).trans (I.base.keep b o e n hb hx)
  ·obtain ⟨sl, e1⟩ := I.base.slot b o e n hb hx
   exact ⟨sl, (hs.2 b (Nat.ne_of_lt (Nat.lt_of_lt_of_le (Heap.lt_size e) (I.ok.cab x c hfn hc)))).trans e1⟩
  ·obtain ⟨o', e1⟩ := I.base.there b o e hx
   exact ⟨o', (hs.2 b (Nat.ne_of_lt (Nat.lt_of_lt_of_le (Heap.lt_size e) (I.ok.cab x c hfn hc)))).trans e1⟩
  ·by_cases hj : j = i
   ·subst hj
    rw [hi] at e1; cases e1
    rw [List.getElem?_set_self hiσ] at e2
    cases e2
    exact ⟨u, r, .inr ⟨.inl hk, c, hc, hc'⟩⟩
   ·rw [List.getElem?_set_ne (Ne.symm hj)] at e2
    obtain ⟨u', r', q⟩ := hl j y v' e1 e2 e3
    refine ⟨u', r', ?_⟩
    rcases q with q | ⟨k, c', e, z'⟩
    ·exact .inl q
    ·refine .inr ⟨k, c', e, z'.sameBut hs ?_⟩
     rintro rfl
     exact hj (nodup_ix hN e1 (I.ok.inj _ _ _ e hc ▸ hi))
  ·by_cases hcc : c' = c
   ·subst hcc; exact ⟨_, hc'⟩
   ·obtain ⟨w2, z2⟩ := I.cell y c' e
    exact ⟨w2, z2.sameBut hs hcc⟩
  ·obtain ⟨e, n, ne, nf, d⟩ := I.pin p hp
   refine ⟨(hs.2 p.1 ?_).trans e, n, ne, nf, d⟩
   intro q
   rw [q, hoc] at e
   have q' : oc = p.2 := Option.some.inj e
   exact d w' (by rw [← q']; exact hocd)
theorem store_ok {M : Model} {A : Around} {E : Value → Shared → Prop} {i : Nat} {x : Str} {v : V} {u : Value} {Q : Unit → Shared → Prop} (I : Inv X pins σ H s) (hN : X.N.Nodup) (hi : X.N[i]? = some x) (hx : Loc X.env.scope x) (r : RelV v u)
  (h : ∀ s', Inv X pins (σ.set i (some v)) H s' → Q () s') (hf : X.fn x = true ∨ X.env.scope.names.lookup x = some .local := by first | exact .inl rfl | exact .inr rfl | assumption) : wpAny M A (storeName X.env x u) Q E s :=
 store_ok2 I hN hi hx r (fun s' I' _ => h s' I') hf
theorem Inv.call' {s' : Shared} {ch : List Addr} (I : Inv X pins σ H s) (ho : s'.os = s.os) (u : Un (frs X.stack) ch H H' s.heap s'.heap) (hok : HOk X.prog X.w H' s'.heap) (hg : AllBare s'.gens)
  (hch : ∀ b ∈ ch, (b ∈ X.ex ∨ X.s₀.heap.objs.size ≤ b) ∧ b ≠ X.env.locals ∧ (∀ x c, X.env.cells.lookup x = some c → c ≠ b) ∧ ∀ p ∈ X.pn ++ pins, p.1 ≠ b) : Inv X pins σ H' s' := by
 obtain ⟨h', g', d', t', o'⟩ := s'
 have e : o' = s.os := ho
 subst e
 exact I.call (g' := g') (t' := t') (d' := d') u hok hg hch
end
abbrev XK := Value → Option Addr → Hp → Prop
abbrev St := List (Option V)
abbrev VK := V → Hp → Prop
abbrev TE := St → Hp → VK → Prop
abbrev TT := St → Hp → (Bool → Hp → Prop) → Prop
abbrev TA := St → Hp → (List V → Hp → Prop) → Prop
structure Ends where
 nx : St → Hp → Prop
 rt : VK
 bk : St → Hp → Prop := fun _ _ => False
 ct : St → Hp → Prop := fun _ _ => False
abbrev TS := Ends → St → Hp → Prop
def EP (X : Cx) (pins : List (Addr × Obj)) (σ : St) (Q : VK) (u : Value) (s' : Shared) : Prop := ∃ v H', Inv X pins σ H' s' ∧ RelV v u ∧ Q v H'
def TP (X : Cx) (pins : List (Addr × Obj)) (σ : St) (Q : Bool → Hp → Prop) (b : Bool) (s' : Shared) : Prop := ∃ H', Inv X pins σ H' s' ∧ Q b H'
def AP (X : Cx) (pins : List (Addr × Obj)) (σ : St) (Q : List V → Hp → Prop) (us : List Value) (s' : Shared) : Prop := ∃ vs H', Inv X pins σ H' s' ∧ Vals vs us ∧ Q vs H'
def SP (X : Cx) (pins : List (Addr × Obj)) (D : Ends) (f : Flow) (s' : Shared) : Prop :=
 match f with
 | .next => ∃ σ' H', Inv X pins σ' H' s' ∧ D.nx σ' H'
 | .brk => ∃ σ' H', Inv X pins σ' H' s' ∧ D.bk σ' H'
 | .cont => ∃ σ' H', Inv X pins σ' H' s' ∧ D.ct σ' H'
 | .ret u => ∃ v σ' H', Inv X pins σ' H' s' ∧ RelV v u ∧ D.rt v H'
def PE (X : Cx) (e : Expr) (t : TE) : Prop :=
 ∀ (pins : List (Addr × Obj)) (s : Shared) (σ : St) (H : Hp) (Q : VK), Inv X pins σ H s → t σ H Q → wpAny (model X.prog X.w) X.A (eval e X.env) (EP X pins σ Q) X.xe s
def PT (X : Cx) (e : Expr) (t : TT) : Prop :=
 ∀ (pins : List (Addr × Obj)) (s : Shared) (σ : St) (H : Hp) (Q : Bool → Hp → Prop), Inv X pins σ H s → t σ H Q → wpAny (model X.prog X.w) X.A (isTrue e X.env (eval e X.env)) (TP X pins σ Q) X.xe s
def PW (X : Cx) (e : Expr) (t : TT) : Prop :=
 ∀ (whole : Sem Value) (pins : List (Addr × Obj)) (s : Shared) (σ : St) (H : Hp) (Q : Bool → Hp → Prop), Inv X pins σ H s → t σ H Q → wpAny (model X.prog X.w) X.A (isTrue e X.env whole) (TP X pins σ Q) X.xe s
theorem PW.pt {X : Cx} {e : Expr} {t : TT} (h : PW X e t) : PT X e t := h _
def PA (X : Cx) (es : List Expr) (t : TA) : Prop :=
 ∀ (pos : Pos) (pins : List (Addr × Obj)) (s : Shared) (σ : St) (H : Hp) (Q : List V → Hp → Prop), Inv X pins σ H s → t σ H Q → wpAny (model X.prog X.w) X.A (spliced (backTo pos (starEach es X.env))) (AP X pins σ Q) X.xe s
def PS (X : Cx) (st : Stmt) (t : TS) : Prop :=
 ∀ (pins : List (Addr × Obj)) (s : Shared) (σ : St) (H : Hp) (D : Ends), Inv X pins σ H s → t D σ H → wpAny (model X.prog X.w) X.A (exec st X.env) (SP X pins D) X.xe s
def PSs (X : Cx) (st : List Stmt) (t : TS) : Prop :=
 ∀ (pins : List (Addr × Obj)) (s : Shared) (σ : St) (H : Hp) (D : Ends), Inv X pins σ H s → t D σ H → wpAny (model X.prog X.w) X.A (execs st X.env) (SP X pins D) X.xe s
theorem thn {α : Type} {t : Sem α} {Q Q' : α → Shared → Prop} {M : Model} {A : Around} {E : Value → Shared → Prop} {s : Shared} (h : wpAny M A t Q E s) (hQ : ∀ a s, Q a s → Q' a s) : wpAny M A t Q' E s := wpAny_mono h hQ fun _ _ x => x
end L2
namespace L2
open PySem PySem.Spec PyProof.Rows
section
variable {X : Cx}
def tVar (i : Nat) : TE := fun σ H Q => ∃ v, σ[i]? = some (some v) ∧ Q v H
def tC (v : V) : TE := fun _ H Q => Q v H
theorem pe_var {i : Nat} {x : Str} {pos : Pos} (hN : X.N[i]? = some x) (hv : Vis X.env.scope x) (hd : (x == ("__debug__" : Str)) = false := by decide) (hcd : (x == ("__classdict__" : Str)) = false := by decide) : PE X (.Name x pos) (tVar i) := by
 intro pins s σ H Q I h
 obtain ⟨v, e, h⟩ := h
 obtain ⟨m, hn, hl⟩ := I.loc
 obtain ⟨u, r, l⟩ := hl i x v hN e hv
 have fin : EP X pins σ Q u s := ⟨v, H, I, r, h⟩
 rcases l with ⟨hk, hm⟩ | ⟨hk, c, hc, hcell⟩
 ·exact wpAny_Name (wpAny_loadName_local I.ok.kind hk hn hm fin) hd
 ·rcases hk with hk | hk
  ·exact wpAny_Name (wpAny_loadName_cell I.ok.kind hk hc hcell fin) hd
  ·exact wpAny_Name (wpAny_loadName_free I.ok.kind hk hc hcell fin hcd) hd
theorem pe_int {i j pos} : PE X (.Constant (.int i) j pos) (tC (.int i)) := fun _ _ _ H _ I h => wpAny_Constant_int ⟨.int i, H, I.tok _, ⟨_, rfl⟩, h⟩
theorem pe_bl {b j pos} : PE X (.Constant (.bool b) j pos) (tC (.bl b)) := fun _ _ _ H _ I h => Constant_bool ⟨.bl b, H, I, rfl, h⟩
theorem pe_non {j pos} : PE X (.Constant .none j pos) (tC .non) := fun _ _ _ H _ I h => Constant_none ⟨.non, H, I, rfl, h⟩
def Gl (X : Cx) (x : Str) : Prop := X.env.kindOf x = some .globalImplicit
theorem ld_glob {E : Value → Shared → Prop} {pins : List (Addr × Obj)} {s : Shared} {σ : St} {H : Hp} {x : Str} {u : Value} {pos : Pos} {Q : Value → Shared → Prop} (I : Inv X pins σ H s) (hg : Gl X x) (hm : X.mg x = some u) (h : Q u s)
  (hd : (x == ("__debug__" : Str)) = false := by decide) : wpAny (model X.prog X.w) X.A (eval (.Name x pos) X.env) Q E s :=
 Calls.Name_function_global I.ok.kind hg (Calls.loadGlobal_global (by rw [I.ok.glob]; exact I.mod.glob.keeps I.bk) hm h) hd
theorem ld_blt {E : Value → Shared → Prop} {pins : List (Addr × Obj)} {s : Shared} {σ : St} {H : Hp} {x : Str} {u : Value} {pos : Pos} {Q : Value → Shared → Prop} (I : Inv X pins σ H s) (hg : Gl X x) (hm : X.mg x = none) (hv : bootBuiltins x = some u) (h : Q u s)
  (hn : x ≠ "__name__" := by decide) (hd : (x == ("__debug__" : Str)) = false := by decide) : wpAny (model X.prog X.w) X.A (eval (.Name x pos) X.env) Q E s := by
 obtain ⟨mb, h1, h2⟩ := I.mod.blt
 exact Calls.Name_function_global I.ok.kind hg (Calls.loadGlobal_builtin (by rw [I.ok.glob]; exact I.mod.glob.keeps I.bk) hm (by rw [I.ok.blt]; exact h1.keeps I.bk) ((h2 x hn).trans hv) h) hd
theorem pe_glob {x : Str} {v : V} {u : Value} {pos : Pos} (hg : Gl X x) (hm : X.mg x = some u) (r : RelV v u) (hd : (x == ("__debug__" : Str)) = false := by decide) : PE X (.Name x pos) (tC v) :=
 fun _ _ _ H _ I h => ld_glob I hg hm ⟨v, H, I, r, h⟩ hd
theorem pe_bltn {x : Str} {v : V} {u : Value} {pos : Pos} (hg : Gl X x) (hm : X.mg x = none) (hv : bootBuiltins x = some u) (r : RelV v u) (hn : x ≠ "__name__" := by decide) (hd : (x == ("__debug__" : Str)) = false := by decide) : PE X (.Name x pos) (tC v) :=
 fun _ _ _ H _ I h => ld_blt I hg hm hv ⟨v, H, I, r, h⟩ hn hd
variable {a b : Expr} {ta tb : TE} {pos : Pos}
def tB (t : TE) : TT := fun σ H Q => t σ H fun x H1 => ∃ c, x = .bl c ∧ Q c H1
theorem pt_val {e : Expr} {t : TE} (h : PE X e t) (he : ∀ whole, isTrue e X.env whole = (do let v ← whole; standAt e.pos; holding [v] (truthy v)) := by intro _; rfl) : PT X e (tB t) := by
 intro pins s σ H Q I hw
 refine isTrue_plain (thn (h pins s σ H _ I hw) fun v s1 ⟨x, H1, I1, r1, q1⟩ => ?_) (he _)
 obtain ⟨d, rfl, q⟩ := q1
 cases r1
 exact wpAny_truthy_bool ⟨H1, I1, q⟩
variable {tA tB' : TT} {rest : List Expr}
def tAnd (t u : TT) : TT := fun σ H Q => t σ H fun c H1 => if c = true then u σ H1 Q else Q false H1
def tOr (t u : TT) : TT := fun σ H Q => t σ H fun c H1 => if c = true then Q true H1 else u σ H1 Q
def tNot (t : TT) : TT := fun σ H Q => t σ H fun c H1 => Q (!c) H1
theorem pw_and1 (ha : PT X a tA) : PW X (.BoolOp .And [a] pos) tA := by
 intro wh pins s σ H Q I h
 refine isTrue_and (thn (ha pins s σ H Q I h) fun c s1 e => ?_)
 cases c with
 | true => exact isTrue_and_nil e
 | false => exact e
theorem pw_or1 (ha : PT X a tA) : PW X (.BoolOp .Or [a] pos) tA := by
 intro wh pins s σ H Q I h
 refine isTrue_or (thn (ha pins s σ H Q I h) fun c s1 e => ?_)
 cases c with
 | false => exact isTrue_or_nil e
 | true => exact e
theorem pw_and (ha : PT X a tA) (hb : PW X (.BoolOp .And (b :: rest) pos) tB') : PW X (.BoolOp .And (a :: b :: rest) pos) (tAnd tA tB') := by
 intro wh pins s σ H Q I h
 refine isTrue_and (thn (ha pins s σ H _ I h) fun c s1 ⟨H1, I1, q1⟩ => ?_)
 cases c with
 | true => exact hb wh pins s1 σ H1 Q I1 q1
 | false => exact ⟨H1, I1, q1⟩
theorem pw_or (ha : PT X a tA) (hb : PW X (.BoolOp .Or (b :: rest) pos) tB') : PW X (.BoolOp .Or (a :: b :: rest) pos) (tOr tA tB') := by
 intro wh pins s σ H Q I h
 refine isTrue_or (thn (ha pins s σ H _ I h) fun c s1 ⟨H1, I1, q1⟩ => ?_)
 cases c with
 | true => exact ⟨H1, I1, q1⟩
 | false => exact hb wh pins s1 σ H1 Q I1 q1
theorem pt_not (ha : PT X a tA) : PT X (.UnaryOp .Not a pos) (tNot tA) := by
 intro pins s σ H Q I h
 exact isTrue_not (ha pins s σ H (fun c H1 => Q (!c) H1) I h)
def tAndV (ta tb : TE) : TE := fun σ H Q => ta σ H fun x H1 => ∃ c, x = .bl c ∧ if c = true then tb σ H1 Q else Q (.bl false) H1
def tOrV (ta tb : TE) : TE := fun σ H Q => ta σ H fun x H1 => ∃ c, x = .bl c ∧ if c = true then Q (.bl true) H1 else tb σ H1 Q
def tNotV (ta : TE) : TE := fun σ H Q => ta σ H fun x H1 => ∃ c, x = .bl c ∧ Q (.bl (!c)) H1
theorem pe_one {op} {t : TE} (h : PE X a t) : PE X (.BoolOp op [a] pos) t := fun pins s σ H Q I hw => BoolOp_one (h pins s σ H Q I hw)
theorem pe_and (ha : PE X a ta) (hb : PE X (.BoolOp .And (b :: rest) pos) tb) : PE X (.BoolOp .And (a :: b :: rest) pos) (tAndV ta tb) := by
 intro pins s σ H Q I h
 refine BoolOp_and (thn (ha pins s σ H _ I h) fun v s1 ⟨x, H1, I1, r1, q1⟩ => ?_)
 obtain ⟨c, rfl, q1⟩ := q1
 cases r1
 refine wpAny_truthy_bool ?_
 cases c with
 | true => exact hb pins s1 σ H1 Q I1 q1
 | false => exact ⟨.bl false, H1, I1, rfl, q1⟩
theorem pe_or (ha : PE X a ta) (hb : PE X (.BoolOp .Or (b :: rest) pos) tb) : PE X (.BoolOp .Or (a :: b :: rest) pos) (tOrV ta tb) := by
 intro pins s σ H Q I h
 refine BoolOp_or (thn (ha pins s σ H _ I h) fun v s1 ⟨x, H1, I1, r1, q1⟩ => ?_)
 obtain ⟨c, rfl, q1⟩ := q1
 cases r1
 refine wpAny_truthy_bool ?_
 cases c with
 | false => exact hb pins s1 σ H1 Q I1 q1
 | true => exact ⟨.bl true, H1, I1, rfl, q1⟩
theorem pe_not (ha : PE X a ta) : PE X (.UnaryOp .Not a pos) (tNotV ta) := by
 intro pins s σ H Q I h
 refine UnaryOp_ (thn (ha pins s σ H _ I h) fun v s1 ⟨x, H1, I1, r1, q1⟩ => ?_)
 obtain ⟨c, rfl, q1⟩ := q1
 cases r1
 exact not_of (wpAny_truthy_bool ⟨.bl (!c), H1, I1, rfl, q1⟩)
def tIf (t : TT) (ta tb : TE) : TE := fun σ H Q => t σ H fun c H1 => if c = true then ta σ H1 Q else tb σ H1 Q
theorem pe_ifExp {c : Expr} (hc : PT X c tA) (ha : PE X a ta) (hb : PE X b tb) : PE X (.IfExp c a b pos) (tIf tA ta tb) := by
 intro pins s σ H Q I h
 refine wpAny_IfExp (thn (hc pins s σ H _ I h) fun d s1 ⟨H1, I1, q1⟩ => ?_)
 cases d with
 | true => exact ha pins s1 σ H1 Q I1 q1
 | false => exact hb pins s1 σ H1 Q I1 q1
end
end L2
namespace L2
open PySem PySem.Spec PyProof.Rows
def SqL (K : PySem.W.Frag) (H : Hp) (a : Addr) (xs : List V) : Prop :=
 Rd H a (.lst xs) ∨
  ∃ (o : Obj) (its : Array Value) (n : Nat), K.lookup a = some o ∧ o.cls = .type "list" ∧ o.dict = none ∧ o.data = .seq its n ∧ its.size ≤ sizeLine ∧ Vals xs its.toList
def SqT (K : PySem.W.Frag) (H : Hp) (a : Addr) (xs : List V) : Prop :=
 Rd H a (.tup xs) ∨
  ∃ (o : Obj) (its : Array Value) (n : Nat), K.lookup a = some o ∧ o.cls = .type "tuple" ∧ o.data = .seq its n ∧ its.size ≤ sizeLine ∧ Vals xs its.toList
def absV : Value → Option V
 | .none => some .non
 | .bool b => some (.bl b)
 | .int i _ => some (.int i)
 | .str x _ => some (.str x)
 | .bytes b _ => some (.byt b)
 | .float b _ => some (.flt b)
 | .ref a => some (.ref a)
 | .type n => some (.ty n)
 | _ => none
theorem RelV.abs {x : V} {u : Value} (r : RelV x u) : absV u = some x := by
 cases x with
 | non => cases r; rfl
 | bl _ => cases r; rfl
 | int _ => obtain ⟨t, rfl⟩ := r; rfl
 | str _ => obtain ⟨t, rfl⟩ := r; rfl
 | byt _ => obtain ⟨t, rfl⟩ := r; rfl
 | flt _ => obtain ⟨t, rfl⟩ := r; rfl
 | ref _ => cases r; rfl
 | ty _ => cases r; rfl
theorem RelV.inj {x y : V} {u : Value} (r : RelV x u) (q : RelV y u) : x = y := Option.some.inj (r.abs.symm.trans q.abs)
theorem Vals.inj : ∀ {xs ys : List V} {us : List Value}, Vals xs us → Vals ys us → xs = ys
 | _, _, _, .nil, .nil => rfl
 | _, _, _, .cons r t, .cons r' t' => by rw [r.inj r', Vals.inj t t']
section
variable {X : Cx} {pins : List (Addr × Obj)} {σ : St} {H : Hp} {s : Shared} {a : Addr} {xs ys : List V}
theorem SqL.of {K : PySem.W.Frag} (h : H a = some (.lst xs)) : SqL K H a xs := .inl (.inl h)
theorem SqT.of {K : PySem.W.Frag} (h : H a = some (.tup xs)) : SqT K H a xs := .inl (.inl h)
theorem Inv.list (I : Inv X pins σ H s) (h : SqL X.K H a xs) : ∃ its : List Value, Vals xs its ∧ PlainL s.heap a its.toArray ∧ xs.length ≤ sizeLine := by
 rcases h with h | ⟨o, its, n, hk, hc, hd, hs, hz, r⟩
 ·obtain ⟨z, its, n, r, e⟩ := h.ok I.hok
  exact ⟨its, r, ⟨_, n, e, rfl, rfl, rfl⟩, z⟩
 ·refine ⟨its.toList, r, ⟨o, n, I.kIn a o hk, hc, hd, by simpa using hs⟩, ?_⟩
  have e := r.length
  simp only [Array.length_toList] at e
  omega
theorem Inv.tuple (I : Inv X pins σ H s) (h : SqT X.K H a xs) : ∃ its : List Value, Vals xs its ∧ IsTup s.heap a its.toArray ∧ xs.length ≤ sizeLine := by
 rcases h with h | ⟨o, its, n, hk, hc, hs, hz, r⟩
 ·obtain ⟨z, its, r, p⟩ := h.ok I.hok
  exact ⟨its, r, p, z⟩
 ·refine ⟨its.toList, r, ⟨o, I.kIn a o hk, hc, n, by simpa using hs⟩, ?_⟩
  have e := r.length
  simp only [Array.length_toList] at e
  omega
theorem Inv.list_inj (I : Inv X pins σ H s) (h : SqL X.K H a xs) (h' : SqL X.K H a ys) : xs = ys := by
 obtain ⟨its, r, ⟨o, n, e, _, _, d⟩, _⟩ := I.list h
 obtain ⟨its', r', ⟨o', n', e', _, _, d'⟩, _⟩ := I.list h'
 rw [e] at e'; cases e'
 rw [d] at d'
 injection d' with d1 _
 have : its = its' := by simpa using congrArg Array.toList d1
 subst this
 exact r.inj r'
theorem Inv.tuple_inj (I : Inv X pins σ H s) (h : SqT X.K H a xs) (h' : SqT X.K H a ys) : xs = ys := by
 obtain ⟨its, r, ⟨o, e, _, n, d⟩, _⟩ := I.tuple h
 obtain ⟨its', r', ⟨o', e', _, n', d'⟩, _⟩ := I.tuple h'
 rw [e] at e'; cases e'
 rw [d] at d'
 injection d' with d1 _
 have : its = its' := by simpa using congrArg Array.toList d1
 subst this
 exact r.inj r'
end
abbrev Cx.wish (X : Cx) (E : Value → Shared → Prop) : Cx := { X with xe := E }
abbrev Cx.nox (X : Cx) : Cx := X.wish fun _ _ => False
theorem Cx.Ok.wish {X : Cx} (ok : X.Ok) (E : Value → Shared → Prop) : (X.wish E).Ok :=
 ⟨ok.mod, ok.kind, ok.glob, ok.blt, ok.above, ok.inj, ok.has, ok.cab, ok.hd, ok.frames, ok.stk, ok.exf, ok.bs, ok.bsz, ok.noex, ok.exfs, ok.funs, ok.frf⟩
theorem Cx.Ok.unwish {X : Cx} {E : Value → Shared → Prop} (ok : (X.wish E).Ok) : X.Ok :=
 ⟨ok.mod, ok.kind, ok.glob, ok.blt, ok.above, ok.inj, ok.has, ok.cab, ok.hd, ok.frames, ok.stk, ok.exf, ok.bs, ok.bsz, ok.noex, ok.exfs, ok.funs, ok.frf⟩
section
variable {X : Cx} {pins : List (Addr × Obj)} {σ : St} {H : Hp} {s : Shared} {E : Value → Shared → Prop}
theorem Inv.wish (I : Inv X pins σ H s) (E : Value → Shared → Prop) : Inv (X.wish E) pins σ H s := ⟨I.ok.wish E, I.os, I.bare, I.base, I.loc, I.cell, I.free, I.freeC, I.pin, I.hok, I.len⟩
theorem Inv.unwish (I : Inv (X.wish E) pins σ H s) : Inv X pins σ H s := ⟨I.ok.unwish, I.os, I.bare, I.base, I.loc, I.cell, I.free, I.freeC, I.pin, I.hok, I.len⟩
theorem SP.unwish {D : Ends} {f : Flow} {s' : Shared} (h : SP (X.wish E) pins D f s') : SP X pins D f s' := by
 cases f with
 | next => obtain ⟨σ', H', I, q⟩ := h; exact ⟨σ', H', I.unwish, q⟩
 | brk => obtain ⟨σ', H', I, q⟩ := h; exact ⟨σ', H', I.unwish, q⟩
 | cont => obtain ⟨σ', H', I, q⟩ := h; exact ⟨σ', H', I.unwish, q⟩
 | ret u => obtain ⟨v, σ', H', I, r, q⟩ := h; exact ⟨v, σ', H', I.unwish, r, q⟩
theorem PSs.nox {st : List Stmt} {t : TS} (h : PSs X.nox st t) : PSs X st t := fun pins s σ H D I hw =>
 wpAny_mono (h pins s σ H D (I.wish _) hw) (fun _ _ q => q.unwish) fun _ _ z => False.elim z
end
section
variable {X : Cx} {st : Stmt} {rest : List Stmt} {t u : TS} {e : Expr} {te : TE} {pos : Pos}
def tNext : TS := fun D σ H => D.nx σ H
def tSeq (t u : TS) : TS := fun D σ H => t { D with nx := u D } σ H
theorem pss_nil : PSs X [] tNext := fun _ _ σ H _ I h => wpAny_execs_nil ⟨σ, H, I, h⟩
theorem pss_cons (h1 : PS X st t) (h2 : PSs X rest u) : PSs X (st :: rest) (tSeq t u) := by
 intro pins s σ H D I h
 refine wpAny_execs_cons (thn (h1 pins s σ H { D with nx := u D } I h) fun f s1 q => ?_)
 cases f with
 | next =>
  obtain ⟨σ', H', I', q⟩ := q
  exact h2 pins s1 σ' H' D I' q
 | ret v => exact q
 | brk => exact q
 | cont => exact q
theorem pss_one (h1 : PS X st t) : PSs X [st] t := by
 intro pins s σ H D I h
 refine wpAny_execs_cons (thn (h1 pins s σ H D I h) fun f s1 q => ?_)
 cases f with
 | next => exact wpAny_execs_nil q
 | ret v => exact q
 | brk => exact q
 | cont => exact q
theorem Inv.quiet {pins : List (Addr × Obj)} {σ : St} {H : Hp} {s : Shared} (I : Inv X pins σ H s) : interactive X.env = false := by simp [interactive, I.ok.kind]
def tDrop (te : TE) : TS := fun D σ H => te σ H fun _ H1 => D.nx σ H1
theorem ps_expr (he : PE X e te) (hs : swapsWith e none pos.line X.env = pure false := by rfl) : PS X (.Expr e pos) (tDrop te) := by
 intro pins s σ H D I h
 exact wpAny_Expr_any (thn (he pins s σ H _ I h) fun v s1 ⟨x, H1, I1, r1, q1⟩ => ⟨σ, H1, I1, q1⟩) I.quiet hs
def tRet (te : TE) : TS := fun D σ H => te σ H D.rt
theorem ps_ret (he : PE X e te) : PS X (.Return (some e) pos) (tRet te) := by
 intro pins s σ H D I h
 exact wpAny_Return_some (thn (he pins s σ H _ I h) fun v s1 ⟨x, H1, I1, r1, q1⟩ => ⟨x, σ, H1, I1, r1, q1⟩)
def tIfS (c : TT) (t u : TS) : TS := fun D σ H => c σ H fun b H1 => if b = true then t D σ H1 else u D σ H1
theorem ps_if {c : Expr} {a b : List Stmt} {tc : TT} (hc : PT X c tc) (ha : PSs X a t) (hb : PSs X b u) : PS X (.If c a b pos) (tIfS tc t u) := by
 intro pins s σ H D I h
 refine wpAny_If (thn (hc pins s σ H _ I h) fun d s1 ⟨H1, I1, q1⟩ => ?_)
 cases d with
 | true => exact ha pins s1 σ H1 D I1 q1
 | false => exact hb pins s1 σ H1 D I1 q1
def tNever : TS := fun _ _ _ => False
theorem pss_never {sts : List Stmt} : PSs X sts tNever := fun _ _ _ _ _ _ h => h.elim
end
abbrev TG := V → St → Hp → (St → Hp → Prop) → Prop
abbrev TGs := List V → St → Hp → (St → Hp → Prop) → Prop
def PG (X : Cx) (target : Expr) (t : TG) : Prop :=
 ∀ (pins : List (Addr × Obj)) (s : Shared) (σ : St) (H : Hp) (v : V) (u : Value) (Q : St → Hp → Prop), Inv X pins σ H s → RelV v u → t v σ H Q →
  wpAny (model X.prog X.w) X.A (assign target X.env u) (fun _ s' => ∃ σ' H', Inv X pins σ' H' s' ∧ Q σ' H') X.xe s
def PGs (X : Cx) (ts : List Expr) (t : TGs) : Prop :=
 ∀ (pins : List (Addr × Obj)) (s : Shared) (σ : St) (H : Hp) (vs : List V) (us : List Value) (Q : St → Hp → Prop), Inv X pins σ H s → Vals vs us → t vs σ H Q →
  wpAny (model X.prog X.w) X.A (assignInOrder ((assignEach ts X.env).map (·.2)) us) (fun _ s' => ∃ σ' H', Inv X pins σ' H' s' ∧ Q σ' H') X.xe s
abbrev TSet := V → V → V → Hp → (Hp → Prop) → Prop
def PSet (X : Cx) (t : TSet) : Prop :=
 ∀ (pins : List (Addr × Obj)) (s : Shared) (σ : St) (H : Hp) (o i v : V) (ov iv u : Value) (Q : Hp → Prop), Inv X pins σ H s → RelV o ov → RelV i iv → RelV v u → t o i v H Q →
  wpAny (model X.prog X.w) X.A (setItem ov iv u) (fun _ s' => ∃ H', Inv X pins σ H' s' ∧ Q H') X.xe s
section
variable {X : Cx} {pos : Pos}
def gName (i : Nat) : TG := fun v σ H Q => Q (σ.set i (some v)) H
theorem pg_name {i : Nat} {x : Str} (hN : X.N.Nodup) (hi : X.N[i]? = some x) (hx : Loc X.env.scope x) (hf : X.fn x = true ∨ X.env.scope.names.lookup x = some .local := by first | exact .inl rfl | exact .inr rfl | assumption) : PG X (.Name x pos) (gName i) := by
 intro pins s σ H v u Q I r h
 exact wpAny_assign_Name (store_ok I hN hi hx r (fun s' I' => ⟨_, H, I', h⟩) hf)
def gNil : TGs := fun vs σ H Q => vs = [] ∧ Q σ H
def gCons (t : TG) (u : TGs) : TGs := fun vs σ H Q => ∃ v r, vs = v :: r ∧ t v σ H fun σ' H' => u r σ' H' Q
theorem pgs_nil : PGs X [] gNil := by
 intro pins s σ H vs us Q I r h
 obtain ⟨e, h⟩ := h
 subst e
 cases r
 exact assignInOrder_nil ⟨σ, H, I, h⟩
theorem pgs_cons {e : Expr} {es : List Expr} {t : TG} {u : TGs} (h1 : PG X e t) (h2 : PGs X es u)
  (hs : (assignEach (e :: es) X.env).map (·.2) = assign e X.env :: (assignEach es X.env).map (·.2) := by rfl) : PGs X (e :: es) (gCons t u) := by
 intro pins s σ H vs us Q I r h
 obtain ⟨v, vr, e1, h⟩ := h
 subst e1
 cases r with
 | cons r rr =>
  rw [hs]
  refine assignInOrder_cons (thn (h1 pins s σ H _ _ _ I r h) fun _ s1 ⟨σ1, H1, I1, q1⟩ => ?_)
  exact h2 pins s1 σ1 H1 _ _ Q I1 rr q1
def gTup (K : PySem.W.Frag) (n : Nat) (t : TGs) : TG := fun v σ H Q => ∃ a xs, v = .ref a ∧ SqT K H a xs ∧ xs.length = n ∧ t xs σ H Q
theorem pg_tup {es : List Expr} {k : Nat} {t : TGs} {n : Nat} (hc : X.calm = true) (h : PGs X es t)
  (hn : (assignEach es X.env).length = n := by rfl) (hst : (assignEach es X.env).findIdx? (·.1) = none := by rfl) : PG X (.Tuple es k pos) (gTup X.K n t) := by
 intro pins s σ H v u Q I r hw
 obtain ⟨a, xs, e1, hq, hl, hw⟩ := hw
 subst e1
 cases r
 obtain ⟨its, rv, ht, hz⟩ := I.tuple hq
 refine assign_Tuple_tuple (I.ok.hd hc) ht (by simp [hn, ← hl, rv.length]) hst fun h' hx => ?_
 have I1 : Inv X pins σ H { s with heap := h' } := I.kept (t' := s.toks) fun b o e => hx b o (Nat.ne_of_lt (Heap.lt_size e)) e
 exact h pins _ σ H xs _ Q I1 (by simpa using rv) hw
def gSub (to ti : TE) (t : TSet) : TG := fun v σ H Q => to σ H fun o H1 => ti σ H1 fun i H2 => t o i v H2 fun H3 => Q σ H3
theorem pg_sub {o i : Expr} {to ti : TE} {t : TSet} (ho : PE X o to) (hi : PE X i ti) (hs : PSet X t)
  (ha : ∀ v, assign (.Subscript o i pos) X.env v = (do
   let ov ← holding [v] (eval o X.env)
   let iv ← holding [v, ov] (eval i X.env)
   standAt pos
   holding [v, ov, iv] (setItem ov iv v)
   release [v, ov, iv] []) := by intro _; rfl) : PG X (.Subscript o i pos) (gSub to ti t) := by
 intro pins s σ H v u Q I r h
 rw [ha]
 refine wpAny_bind (wpAny_holding (thn (ho pins s σ H _ I h) fun ov s1 ⟨x, H1, I1, r1, q1⟩ => ?_))
 refine wpAny_bind (wpAny_holding (thn (hi pins s1 σ H1 _ I1 q1) fun iv s2 ⟨y, H2, I2, r2, q2⟩ => ?_))
 refine wpAny_bind (wpAny_standAt (wpAny_bind (wpAny_holding (thn (hs pins s2 σ H2 x y v ov iv u _ I2 r1 r2 r q2) fun _ s3 ⟨H3, I3, q3⟩ => ?_))))
 exact wpAny_release ⟨σ, H3, I3, q3⟩
def tAsg (te : TE) (g : TG) : TS := fun D σ H => te σ H fun x H1 => g x σ H1 D.nx
theorem ps_asg {tg e : Expr} {te : TE} {g : TG} (he : PE X e te) (hg : PG X tg g) (hs : swapsWithSole [tg] e pos.line X.env = pure false := by rfl) (hw : swappedStores [tg] e X.env = pure none := by rfl)
  (h1 : (assignEach [tg] X.env).map (·.2) = [assign tg X.env] := by rfl) : PS X (.Assign [tg] e pos) (tAsg te g) := by
 intro pins s σ H D I h
 refine wpAny_Assign_stores (thn (he pins s σ H _ I h) fun v s1 ⟨x, H1, I1, r1, q1⟩ => ?_) hs hw
 rw [h1]
 exact thn (hg pins s1 σ H1 x v _ I1 r1 q1) fun _ s2 q => q
theorem ps_set {i : Nat} {x : Str} {e : Expr} {te : TE} {pos' : Pos} (hN : X.N.Nodup) (hi : X.N[i]? = some x) (hx : Loc X.env.scope x) (he : PE X e te) (hs : swapsWith e (some (.Name x pos')) pos.line X.env = pure false := by rfl) (hf : X.fn x = true ∨ X.env.scope.names.lookup x = some .local := by first | exact .inl rfl | exact .inr rfl | assumption) :
  PS X (.Assign [.Name x pos'] e pos) (tAsg te (gName i)) := by
 intro pins s σ H D I h
 refine wpAny_Assign_Name (thn (he pins s σ H _ I h) fun v s1 ⟨y, H1, I1, r1, q1⟩ => ?_) hs
 exact store_ok I1 hN hi hx r1 (fun s2 I2 => ⟨_, H1, I2, q1⟩) hf
def tPar (i j : Nat) (ta : TA) : TS := fun D σ H => ta σ H fun vs H1 => ∃ v w, vs = [v, w] ∧ D.nx ((σ.set i (some v)).set j (some w)) H1
theorem ps_par {i j : Nat} {x y : Str} {a b : Expr} {ta : TA} {px py pt : Pos} {kt k2 pt2} (hc : X.calm = true) (hN : X.N.Nodup) (hi : X.N[i]? = some x) (hj : X.N[j]? = some y) (hij : i ≠ j)
  (hx : X.env.scope.names.lookup x = some .local) (hy : X.env.scope.names.lookup y = some .local) (ha : PA X [a, b] ta)
  (hw : swappedStores [.Tuple [.Name x px, .Name y py] kt pt] (.Tuple [a, b] k2 pt2) X.env = pure (some [x, y]))
  (hs : swapsWithSole [.Tuple [.Name x px, .Name y py] kt pt] (.Tuple [a, b] k2 pt2) pos.line X.env = pure false := by rfl) :
  PS X (.Assign [.Tuple [.Name x px, .Name y py] kt pt] (.Tuple [a, b] k2 pt2) pos) (tPar i j ta) := by
 intro pins s σ H D I h
 rw [exec_Assign_arm]
 refine wpAny_bind (wpAny_standAt ?_)
 rw [hs]
 refine wpAny_bind (wpAny_pure ?_)
 rw [if_neg (by decide)]
 refine wpAny_bind (Tuple_ (thn (ha _ pins s σ H _ I h) fun us s1 ⟨vs, H1, I1, r1, q1⟩ => ?_))
 obtain ⟨v, w, e1, q1⟩ := q1
 subst e1
 obtain ⟨u1, u2, rfl, rv, rw'⟩ : ∃ u1 u2, us = [u1, u2] ∧ RelV v u1 ∧ RelV w u2 := by
  cases r1 with
  | cons p q =>
   cases q with
   | cons p' q' =>
    cases q'
    exact ⟨_, _, rfl, p, p'⟩
 refine wpAny_newObj_type ?_ (by show 2 ≤ sizeLine; decide)
 have I2 : Inv X pins σ H1 { s1 with heap := s1.heap.push { cls := .type "tuple", data := .seq [u1, u2].toArray } } := I1.kept (t' := s1.toks) fun b o e => Heap.get?_push_of_some _ e
 rw [hw]
 refine wpAny_bind (wpAny_pure ?_)
 show wpAny (model X.prog X.w) X.A (do rule "assign.swapped-stores"; let items ← unpackItems (.ref s1.heap.objs.size) 2 none; assignInOrder [fun v => bindName X.env y v, fun v => bindName X.env x v] items.reverse; pure Flow.next) _ _ _
 refine wpAny_bind (wpAny_rule (wpAny_bind (unpackItems_tuple (items := #[u1, u2]) (I.ok.hd hc) (IsTup.new s1.heap _) fun h' hx' => ?_)))
 have I3 := I2.kept (h' := h') (t' := s1.toks) fun b o e => hx' b o (Nat.ne_of_lt (Heap.lt_size e)) e
 show wpAny _ _ (assignInOrder [fun v => bindName X.env y v, fun v => bindName X.env x v] [u2, u1] >>= fun _ => pure Flow.next) _ _ _
 refine wpAny_bind (assignInOrder_cons (wpAny_bindName (store_ok I3 hN hj (.inl hy) rw' (fun s2 I4 => ?_) (.inr hy))))
 refine assignInOrder_cons (wpAny_bindName (store_ok I4 hN hi (.inl hx) rv (fun s3 I5 => assignInOrder_nil (wpAny_pure ?_)) (.inr hx)))
 rw [List.set_comm _ _ (Ne.symm hij)] at I5
 exact ⟨_, H1, I5, q1⟩
end
section
variable {X : Cx} {pos : Pos}
def tWhile (c : TT) (tb : TS) : TS := fun D σ H => ∃ W : Nat → St → Hp → Prop, (∃ m, W m σ H) ∧ ∀ m σ H, W m σ H →
 c σ H fun b H1 => if b = true then ∃ N : St → Hp → Prop, (∀ σ' H', N σ' H' → ∃ m', m' < m ∧ W m' σ' H') ∧ tb { D with nx := N, ct := N, bk := D.nx } σ H1 else D.nx σ H1
theorem ps_while {c : Expr} {body : List Stmt} {tc : TT} {tb : TS} (hp : PassesOwn (model X.prog X.w) X.A X.env X.xe) (hc : PT X c tc) (hb : PSs X body tb) : PS X (.While c body [] pos) (tWhile tc tb) := by
 intro pins s σ H D I h
 obtain ⟨W, ⟨m0, w0⟩, turn⟩ := h
 refine wpAny_While (codeAny_whileLoop (fun n s' => ∃ σ' H', Inv X pins σ' H' s' ∧ W n σ' H') ?_ m0 ⟨σ, H, I, w0⟩)
 rintro n s1 ⟨σ1, H1, I1, w1⟩
 refine wpAny_passesOwn hp (thn (hc pins s1 σ1 H1 _ I1 (turn n σ1 H1 w1)) fun b s2 ⟨H2, I2, q2⟩ => ?_)
 cases b with
 | true =>
  obtain ⟨N, hN, q2⟩ := q2
  rw [if_pos rfl]
  refine wpAny_passesOwn hp (thn (hb pins s2 σ1 H2 _ I2 q2) fun f s3 q3 => ?_)
  cases f with
  | next =>
   obtain ⟨σ3, H3, I3, n3⟩ := q3
   obtain ⟨m', hm, w3⟩ := hN σ3 H3 n3
   exact ⟨m', hm, σ3, H3, I3, w3⟩
  | cont =>
   obtain ⟨σ3, H3, I3, n3⟩ := q3
   obtain ⟨m', hm, w3⟩ := hN σ3 H3 n3
   exact ⟨m', hm, σ3, H3, I3, w3⟩
  | brk => exact q3
  | ret v => exact q3
 | false =>
  rw [if_neg Bool.false_ne_true]
  exact wpAny_execs_nil ⟨σ1, H2, I2, q2⟩
end
structure It where
 go : Nat → Hp → Prop
 yld : Nat → Hp → V → Hp → Prop
 stop : Nat → Hp → Prop
def FpOk (X : Cx) (pins : List (Addr × Obj)) (H : Hp) (b : Addr) : Prop :=
 H b = none ∧ b ≠ X.env.locals ∧ b ∉ X.fs ∧ (b ∈ X.ex ∨ X.s₀.heap.objs.size ≤ b) ∧ (∀ x c, X.env.cells.lookup x = some c → c ≠ b) ∧ ∀ p ∈ X.pn ++ pins, p.1 ≠ b
theorem Inv.fpOk {X : Cx} {pins : List (Addr × Obj)} {σ : St} {H H' : Hp} {s : Shared} {b : Addr} (I : Inv X pins σ H s) (hb : s.heap.objs.size ≤ b) (hn : H' b = none) : FpOk X pins H' b := by
 refine ⟨hn, Nat.ne_of_gt (Nat.lt_of_lt_of_le I.lt hb), I.nofs hb, .inr (Nat.le_trans I.sz hb), fun x c e z => ?_, fun p hp z => ?_⟩
 ·obtain ⟨v, q⟩ := I.cell x c e
  exact absurd (Nat.lt_of_lt_of_le q.lt (by rw [z]; exact hb)) (Nat.lt_irrefl _)
 ·exact absurd (Nat.lt_of_lt_of_le (Heap.lt_size (I.pin p hp).1) (by rw [z]; exact hb)) (Nat.lt_irrefl _)
structure Turn (P : Program) (w : World) (K : PySem.W.Frag) (tg : Expr) (J : It) (fp : List Addr) (it : Addr) (tn : Nat → Heap → Prop) : Prop where
 mem : it ∈ fp
 obj : ∀ i h, tn i h → ∀ b ∈ fp, ∃ o, h.get? b = some o ∧ ∀ v, o.data ≠ .cell v
 keep : ∀ i h h', tn i h → (∀ b ∈ fp, ∀ o, h.get? b = some o → h'.get? b = some o) → tn i h'
 item : ∀ (X : Cx), X.prog = P → X.w = w → X.K = K → X.calm = true → ∀ (i : Nat) (pins : List (Addr × Obj)) (s : Shared) (σ : St) (H : Hp) (E : Value → Shared → Prop), Inv X pins σ H s → (∀ b ∈ fp, FpOk X pins H b) → tn i s.heap → J.go i H →
  wpAny (model P w) X.A (pyNext (.ref it)) (fun r s1 => ∃ u, r = some u ∧
   wpAny (model P w) X.A (letOwnedTupleGo tg (.ref it) u) (fun _ s2 => ∃ x H', Inv X pins σ H' s2 ∧ RelV x u ∧ J.yld i H x H' ∧ tn (i + 1) s2.heap ∧ ∀ b ∈ fp, H' b = none) E s1) E s
 done : ∀ (X : Cx), X.prog = P → X.w = w → X.K = K → X.calm = true → ∀ (i : Nat) (pins : List (Addr × Obj)) (s : Shared) (σ : St) (H : Hp) (E : Value → Shared → Prop), Inv X pins σ H s → (∀ b ∈ fp, FpOk X pins H b) → tn i s.heap → J.stop i H →
  wpAny (model P w) X.A (pyNext (.ref it)) (fun r s1 => r = none ∧ Inv X pins σ H s1) E s
 self : ∀ (A : Around) (i : Nat) (s : Shared) (Q : Value → Shared → Prop) (E : Value → Shared → Prop), tn i s.heap → Q (.ref it) s → wpAny (model P w) A (pyIter (.ref it)) Q E s
abbrev TI := St → Hp → (It → Hp → Prop) → Prop
def PIE (X : Cx) (pins : List (Addr × Obj)) (σ : St) (tg : Expr) (R : It → Hp → Prop) (itv : Value) (s2 : Shared) : Prop :=
 ∃ (it : Addr) (fp : List Addr) (tn : Nat → Heap → Prop) (J : It) (H' : Hp), itv = .ref it ∧ Inv X pins σ H' s2 ∧ Turn X.prog X.w X.K tg J fp it tn ∧ tn 0 s2.heap ∧ (∀ b ∈ fp, FpOk X pins H' b) ∧ R J H'
def PI (X : Cx) (tg iter : Expr) (wi : TI) : Prop :=
 ∀ (pins : List (Addr × Obj)) (s : Shared) (σ : St) (H : Hp) (R : It → Hp → Prop), Inv X pins σ H s → wi σ H R →
  wpAny (model X.prog X.w) X.A (eval iter X.env) (fun v s1 => wpAny (model X.prog X.w) X.A (pyIter v) (PIE X pins σ tg R) X.xe s1) X.xe s
theorem go_of {M : Model} {A : Around} {E : Value → Shared → Prop} {s : Shared} {tg : Expr} {it : Addr} {u : Value} {o : Obj} {n : String} {vs : Array Value} {Q : Unit → Shared → Prop} (ho : s.heap.get? it = some o) (hc : o.cls = .type n) (hd : o.data = .fields vs)
    (hn : ["enumerate", "zip", "dict_itemiterator", "dict_reverseitemiterator", "odict_iterator", "itertools.zip_longest", "itertools.pairwise"].contains n = false) (hQ : Q () s) : wpAny M A (letOwnedTupleGo tg (.ref it) u) Q E s := by
  unfold letOwnedTupleGo
  cases tg <;> first
    | exact wpAny_pure hQ
    | (cases u <;> first
        | exact wpAny_pure hQ
        | (refine wpAny_bind (wpAny_load ho ?_)
           rw [hc, hd]
           show wpAny M A (if (["enumerate", "zip", "dict_itemiterator", "dict_reverseitemiterator", "odict_iterator", "itertools.zip_longest", "itertools.pairwise"].contains n && vs[0]? == some (rawInt _)) = true then _ else _) Q E s
           rw [if_neg (by intro h; rw [hn, Bool.false_and] at h; cases h)]
           exact wpAny_pure hQ))
def Itl (K : PySem.W.Frag) (a : Addr) : It :=
 ⟨fun i H => ∃ xs x, SqL K H a xs ∧ xs[i]? = some x, fun i H x H' => H' = H ∧ ∀ xs, SqL K H a xs → xs[i]? = some x, fun i H => ∃ xs, SqL K H a xs ∧ xs.length ≤ i⟩
def Itt (K : PySem.W.Frag) (a : Addr) : It :=
 ⟨fun i H => ∃ xs x, SqT K H a xs ∧ xs[i]? = some x, fun i H x H' => H' = H ∧ ∀ xs, SqT K H a xs → xs[i]? = some x, fun i H => ∃ xs, SqT K H a xs ∧ xs.length ≤ i⟩
def Itr (lo : Int) (n : Nat) : It := ⟨fun i _ => i < n, fun i H x H' => H' = H ∧ x = .int (lo + i), fun i _ => n ≤ i⟩
theorem turn_list {P : Program} {w : World} {K : PySem.W.Frag} {tg : Expr} (a it : Addr) : Turn P w K tg (Itl K a) [it] it (fun i h => h.IsListIter it a i) where
 mem := by simp
 obj := fun i h st b hb => by
  have e : b = it := by simpa using hb
  subst e
  obtain ⟨o, e, c, d⟩ := st
  exact ⟨o, e, fun v z => by rw [d] at z; cases z⟩
 keep := fun i h h' st k => st.at fun o e => k it (by simp) o e
 item := by
  intro X hP hw hK hc i pins s σ H E I hf st hg
  subst hP hw hK
  obtain ⟨xs, x, hq, hx⟩ := hg
  obtain ⟨its, rv, p, hz⟩ := I.list hq
  obtain ⟨u, hu, ru⟩ := rv.get hx
  obtain ⟨f0, f1, f2, f3, f4, f5⟩ := hf it (by simp)
  refine wpAny_pyNext_list_item st p.isList (x := u) (by simpa using hu) fun h' st' sb => ?_
  have I1 : Inv X pins σ H { s with heap := h' } := I.turned (t' := s.toks) (fun b o hb e => (sb.2 b hb).trans e) f0 f1 f3 f4 f5
  obtain ⟨o, e, c, d⟩ := id st'
  exact ⟨u, rfl, go_of (s := { s with heap := h' }) e c d (by decide) ⟨x, H, I1, ru, ⟨rfl, fun ys hy => by rw [I.list_inj hy hq]; exact hx⟩, st', fun b hb => (hf b hb).1⟩⟩
 done := by
  intro X hP hw hK hc i pins s σ H E I hf st hg
  subst hP hw hK
  obtain ⟨xs, hq, hx⟩ := hg
  obtain ⟨its, rv, p, hz⟩ := I.list hq
  obtain ⟨f0, f1, f2, f3, f4, f5⟩ := hf it (by simp)
  have hl := rv.length
  exact wpAny_pyNext_list_end (I.ok.hd hc) st p.isList (by simp; omega) fun h' eb => ⟨rfl, I.turned (t' := s.toks) (fun b o hb e => eb b o hb e) f0 f1 f3 f4 f5⟩
 self := fun _ _ _ _ _ st h => wpAny_pyIter_listiter st h
theorem turn_tuple {P : Program} {w : World} {K : PySem.W.Frag} {tg : Expr} (a it : Addr) : Turn P w K tg (Itt K a) [it] it (fun i h => h.IsTupleIter it a i) where
 mem := by simp
 obj := fun i h st b hb => by
  have e : b = it := by simpa using hb
  subst e
  obtain ⟨o, e, c, d⟩ := st
  exact ⟨o, e, fun v z => by rw [d] at z; cases z⟩
 keep := fun i h h' st k => st.at fun o e => k it (by simp) o e
 item := by
  intro X hP hw hK hc i pins s σ H E I hf st hg
  subst hP hw hK
  obtain ⟨xs, x, hq, hx⟩ := hg
  obtain ⟨its, rv, p, hz⟩ := I.tuple hq
  obtain ⟨u, hu, ru⟩ := rv.get hx
  obtain ⟨f0, f1, f2, f3, f4, f5⟩ := hf it (by simp)
  refine wpAny_pyNext_tuple_item st (show s.heap.IsTuple a its.toArray from p) (x := u) (by simpa using hu) fun h' st' sb => ?_
  have I1 : Inv X pins σ H { s with heap := h' } := I.turned (t' := s.toks) (fun b o hb e => (sb.2 b hb).trans e) f0 f1 f3 f4 f5
  obtain ⟨o, e, c, d⟩ := id st'
  exact ⟨u, rfl, go_of (s := { s with heap := h' }) e c d (by decide) ⟨x, H, I1, ru, ⟨rfl, fun ys hy => by rw [I.tuple_inj hy hq]; exact hx⟩, st', fun b hb => (hf b hb).1⟩⟩
 done := by
  intro X hP hw hK hc i pins s σ H E I hf st hg
  subst hP hw hK
  obtain ⟨xs, hq, hx⟩ := hg
  obtain ⟨its, rv, p, hz⟩ := I.tuple hq
  obtain ⟨f0, f1, f2, f3, f4, f5⟩ := hf it (by simp)
  have hl := rv.length
  exact wpAny_pyNext_tuple_end (I.ok.hd hc) st (show s.heap.IsTuple a its.toArray from p) (by simp; omega) fun h' eb => ⟨rfl, I.turned (t' := s.toks) (fun b o hb e => eb b o hb e) f0 f1 f3 f4 f5⟩
 self := fun _ _ _ _ _ st h => wpAny_pyIter_tupleiter st h
theorem turn_range {P : Program} {w : World} {K : PySem.W.Frag} {tg : Expr} (it : Addr) (lo : Int) (n : Nat) : Turn P w K tg (Itr lo n) [it] it (fun i h => IsRangeIter h it (lo + (i : Nat) * 1) ((n : Int) - (i : Nat)) 1) where
 mem := by simp
 obj := fun i h st b hb => by
  have e : b = it := by simpa using hb
  subst e
  exact ⟨_, st, fun v z => by
   have z' : Data.fields _ = Data.cell v := z
   cases z'⟩
 keep := fun i h h' st k => k it (by simp) _ st
 item := by
  intro X hP hw hK hc i pins s σ H E I hf st hg
  subst hP hw hK
  obtain ⟨f0, f1, f2, f3, f4, f5⟩ := hf it (by simp)
  have W := Walks.range (prog := X.prog) (w := X.w) (I.ok.hd hc) it lo 1 n
  refine W.item i s _ _ hg st fun v h' tk hv st' kk => ?_
  obtain ⟨t, rfl⟩ := hv
  have I1 : Inv X pins σ H { s with heap := h', toks := tk } := I.turned (fun b o hb e => kk b o (by simpa using hb) e) f0 f1 f3 f4 f5
  refine ⟨_, rfl, go_of (s := { s with heap := h', toks := tk }) (n := "range_iterator") st' rfl rfl (by decide) ⟨.int (lo + i), H, I1, ⟨t, ?_⟩, ⟨rfl, rfl⟩, st', fun b hb => (hf b hb).1⟩⟩
  rw [Int.mul_one]
 done := by
  intro X hP hw hK hc i pins s σ H E I hf st hg
  subst hP hw hK
  obtain ⟨f0, f1, f2, f3, f4, f5⟩ := hf it (by simp)
  exact wpAny_pyNext_range_end (I.ok.hd hc) st (by have : n ≤ i := hg; omega) fun h' eb => ⟨rfl, I.turned (t' := s.toks) (fun b o hb e => eb b o hb e) f0 f1 f3 f4 f5⟩
 self := fun _ _ _ _ _ st h => wpAny_pyIter_rangeiter st h
end L2
namespace L2
open PySem PySem.Spec PyProof.Rows
section
variable {X : Cx} {tg : Expr}
def iList (K : PySem.W.Frag) (tl : TE) : TI := fun σ H R => tl σ H fun x H1 => ∃ a, x = .ref a ∧ (∃ xs, SqL K H1 a xs) ∧ R (Itl K a) H1
def iTup (K : PySem.W.Frag) (tl : TE) : TI := fun σ H R => tl σ H fun x H1 => ∃ a, x = .ref a ∧ (∃ xs, SqT K H1 a xs) ∧ R (Itt K a) H1
theorem pi_list {l : Expr} {tl : TE} (hl : PE X l tl) : PI X tg l (iList X.K tl) := by
 intro pins s σ H R I h
 refine thn (hl pins s σ H _ I h) fun v s1 ⟨x, H1, I1, r1, q1⟩ => ?_
 obtain ⟨a, e, ⟨xs, hq⟩, q⟩ := q1
 subst e
 cases r1
 obtain ⟨its, rv, p, hz⟩ := I1.list hq
 refine wpAny_pyIter_list p.isList ?_
 refine ⟨s1.heap.objs.size, [s1.heap.objs.size], _, _, H1, rfl, I1.kept (t' := s1.toks) fun b o e => Heap.get?_push_of_some _ e, turn_list a _, ⟨_, Heap.get?_push_size _ rfl, rfl, rfl⟩, fun b hb => ?_, q⟩
 have e : b = s1.heap.objs.size := by simpa using hb
 subst e
 exact I1.fpOk (Nat.le_refl _) (I1.hok.fresh (Nat.le_refl _))
theorem pi_tup {l : Expr} {tl : TE} (hl : PE X l tl) : PI X tg l (iTup X.K tl) := by
 intro pins s σ H R I h
 refine thn (hl pins s σ H _ I h) fun v s1 ⟨x, H1, I1, r1, q1⟩ => ?_
 obtain ⟨a, e, ⟨xs, hq⟩, q⟩ := q1
 subst e
 cases r1
 obtain ⟨its, rv, p, hz⟩ := I1.tuple hq
 refine wpAny_pyIter_tuple (show s1.heap.IsTuple a its.toArray from p) ?_
 refine ⟨s1.heap.objs.size, [s1.heap.objs.size], _, _, H1, rfl, I1.kept (t' := s1.toks) fun b o e => Heap.get?_push_of_some _ e, turn_tuple a _, ⟨_, Heap.get?_push_size _ rfl, rfl, rfl⟩, fun b hb => ?_, q⟩
 have e : b = s1.heap.objs.size := by simpa using hb
 subst e
 exact I1.fpOk (Nat.le_refl _) (I1.hok.fresh (Nat.le_refl _))
theorem range_it {pins : List (Addr × Obj)} {σ : St} {H : Hp} {s : Shared} {R : It → Hp → Prop} {E : Value → Shared → Prop} {lo hi : Int} {t u v : Tok} {tk : Nat} (I : Inv X pins σ H s) (h1 : -(2 ^ 62) ≤ lo) (h2 : lo < 2 ^ 62) (h3 : -(2 ^ 62) ≤ hi) (h4 : hi < 2 ^ 62)
  (q : R (Itr lo (hi - lo).toNat) H) : wpAny (model X.prog X.w) X.A (pyIter (.ref s.heap.objs.size)) (PIE X pins σ tg R) E { s with heap := s.heap.push { cls := .type "range", data := .fields #[.int lo t, .int hi u, .int 1 v] }, toks := tk } := by
 refine wpAny_pyIter_range (IsRange.new ..) (small_one h1 h2 h3 h4) ?_
 have I1 : Inv X pins σ H { s with heap := s.heap.push { cls := .type "range", data := .fields #[.int lo t, .int hi u, .int 1 v] }, toks := tk } := I.kept fun b o e => Heap.get?_push_of_some _ e
 refine ⟨(s.heap.push { cls := .type "range", data := .fields #[.int lo t, .int hi u, .int 1 v] }).objs.size, [(s.heap.push { cls := .type "range", data := .fields #[.int lo t, .int hi u, .int 1 v] }).objs.size], _, _, H, rfl,
  I1.kept (t' := tk) fun b o e => Heap.get?_push_of_some _ e, turn_range _ lo (hi - lo).toNat, ?_, fun b hb => ?_, q⟩
 ·have e1 : lo + ((0 : Nat) : Int) * 1 = lo := by simp
  have e2 : (((hi - lo).toNat : Nat) : Int) - ((0 : Nat) : Int) = Builtin.Range.rangeSize lo hi 1 := by rw [rangeSize_one]; split <;> omega
  show IsRangeIter _ _ (lo + ((0 : Nat) : Int) * 1) ((((hi - lo).toNat : Nat) : Int) - ((0 : Nat) : Int)) 1
  rw [e1, e2]
  exact Heap.get?_push_size _ rfl
 ·have e : b = (s.heap.push { cls := .type "range", data := .fields #[.int lo t, .int hi u, .int 1 v] }).objs.size := by simpa using hb
  subst e
  exact I1.fpOk (Nat.le_refl _) (I1.hok.fresh (Nat.le_refl _))
def iRng1 (ta : TA) : TI := fun σ H R => ta σ H fun vs H1 => ∃ j : Int, vs = [.int j] ∧ -(2 ^ 62) ≤ j ∧ j < 2 ^ 62 ∧ R (Itr 0 j.toNat) H1
def iRng2 (ta : TA) : TI := fun σ H R => ta σ H fun vs H1 => ∃ i j : Int, vs = [.int i, .int j] ∧ (-(2 ^ 62) ≤ i ∧ i < 2 ^ 62 ∧ -(2 ^ 62) ≤ j ∧ j < 2 ^ 62) ∧ R (Itr i (j - i).toNat) H1
theorem pi_range1 {a : Expr} {ta : TA} {p pos : Pos} (hg : Gl X "range") (hm : X.mg "range" = none) (ha : PA X [a] ta) (hs : starEach [a] X.env = [(false, eval a X.env)] := by rfl) : PI X tg (.Call (.Name "range" p) [a] [] pos) (iRng1 ta) := by
 intro pins s σ H R I h
 refine Call_ (ld_blt I hg hm boot_range (PyProof.Rows.callWith_type1 (thn (ha pos pins s σ H _ I h) fun us s1 ⟨vs, H1, I1, r1, q1⟩ => ?_) hs rfl))
 obtain ⟨j, e, q1, q2, q⟩ := q1
 subst e
 cases r1 with
 | cons r rr =>
  cases rr
  obtain ⟨t, rfl⟩ := r
  exact call_range_1 (range_it I1 (by omega) (by omega) q1 q2 (by simpa using q))
theorem pi_range2 {a b : Expr} {ta : TA} {p pos : Pos} (hg : Gl X "range") (hm : X.mg "range" = none) (ha : PA X [a, b] ta) (hs : starEach [a, b] X.env = [(false, eval a X.env), (false, eval b X.env)] := by rfl) (hs2 : starEach [b] X.env = [(false, eval b X.env)] := by rfl) :
  PI X tg (.Call (.Name "range" p) [a, b] [] pos) (iRng2 ta) := by
 intro pins s σ H R I h
 refine Call_ (ld_blt I hg hm boot_range (PyProof.Rows.callWith_type1 (thn (ha pos pins s σ H _ I h) fun us s1 ⟨vs, H1, I1, r1, q1⟩ => ?_) (by rw [hs, hs2]) (by rw [hs2]; rfl)))
 obtain ⟨i, j, e, ⟨q1, q2, q3, q4⟩, q⟩ := q1
 subst e
 cases r1 with
 | cons r rr =>
  cases rr with
  | cons r' rr =>
   cases rr
   obtain ⟨t, rfl⟩ := r
   obtain ⟨t', rfl⟩ := r'
   exact call_range_2 (range_it I1 q1 q2 q3 q4 q)
def tFor (wi : TI) (g : TG) (tb : TS) : TS := fun D σ H => wi σ H fun J H1 => ∃ W : Nat → Nat → St → Hp → Prop, (∃ m, W 0 m σ H1) ∧ ∀ i m σ H, W i m σ H →
 (J.stop i H ∧ D.nx σ H) ∨ (J.go i H ∧ ∃ N : St → Hp → Prop, (∀ σ' H', N σ' H' → ∃ m', m' < m ∧ W (i + 1) m' σ' H') ∧ ∀ x H', J.yld i H x H' → g x σ H' fun σ2 H2 => tb { D with nx := N, ct := N, bk := D.nx } σ2 H2)
def pinsAt (fp : List Addr) (h : Heap) : List (Addr × Obj) := fp.filterMap fun b => (h.get? b).map fun o => (b, o)
theorem mem_pinsAt {fp : List Addr} {h : Heap} {b : Addr} {o : Obj} (hb : b ∈ fp) (e : h.get? b = some o) : (b, o) ∈ pinsAt fp h := List.mem_filterMap.mpr ⟨b, hb, by rw [e]; rfl⟩
theorem of_pinsAt {fp : List Addr} {h : Heap} {p : Addr × Obj} (hp : p ∈ pinsAt fp h) : p.1 ∈ fp ∧ h.get? p.1 = some p.2 := by
 obtain ⟨b, hb, e⟩ := List.mem_filterMap.mp hp
 cases q : h.get? b with
 | none => rw [q] at e; cases e
 | some o =>
  rw [q] at e
  have e' : (b, o) = p := Option.some.inj e
  subst e'
  exact ⟨hb, q⟩
theorem Inv.pinned {pins : List (Addr × Obj)} {σ : St} {H : Hp} {s : Shared} {fp : List Addr} (I : Inv X pins σ H s) (hf : ∀ b ∈ fp, FpOk X pins H b) (ho : ∀ b ∈ fp, ∃ o, s.heap.get? b = some o ∧ ∀ v, o.data ≠ .cell v) : Inv X (pins ++ pinsAt fp s.heap) σ H s :=
 I.pins_of fun p hp => (List.mem_append.mp hp).elim (fun z => I.pin p (List.mem_append_right _ z)) fun z => by
  obtain ⟨hb, e⟩ := of_pinsAt z
  obtain ⟨f0, f1, f2, _⟩ := hf p.1 hb
  obtain ⟨o, e', d⟩ := ho p.1 hb
  rw [e] at e'; cases e'
  exact ⟨e, f0, f1, f2, d⟩
theorem Inv.unpinned {pins pl : List (Addr × Obj)} {σ : St} {H : Hp} {s : Shared} (I : Inv X (pins ++ pl) σ H s) : Inv X pins σ H s := I.pins_of fun p hp => I.pin p (List.mem_append_right _ (List.mem_append_left _ hp))
theorem ps_for {iter : Expr} {body : List Stmt} {wi : TI} {g : TG} {tb : TS} {pos : Pos} (hp : PassesOwn (model X.prog X.w) X.A X.env X.xe) (hc : X.calm = true) (hi : PI X tg iter wi) (hg : PG X tg g) (hb : PSs X body tb)
  (hs : ∀ x, foldedSetIterable iter X.env x = pure x := by intro _; rfl) : PS X (.For tg iter body [] pos) (tFor wi g tb) := by
 intro pins s σ H D I h
 refine wpAny_For (thn (hi pins s σ H _ I h) fun v s1 h1 => thn h1 fun itv s2 h2 => ?_) hs
 obtain ⟨it, fp, tn, J, H2, e, I2, T, st2, f2, W, ⟨m0, w0⟩, turn⟩ := h2
 subst e
 have stat : ∀ {H' : Hp}, (∀ b ∈ fp, H' b = none) → ∀ b ∈ fp, FpOk X pins H' b := fun hn b hb => ⟨hn b hb, (f2 b hb).2⟩
 refine codeAny_forLoop_any (fun n s' => ∃ i σ' H', Inv X pins σ' H' s' ∧ tn i s'.heap ∧ (∀ b ∈ fp, H' b = none) ∧ W i n σ' H') ?_ m0 ⟨0, σ, H2, I2, st2, fun b hb => (f2 b hb).1, w0⟩
 rintro n s3 ⟨i, σ3, H3, I3, st3, fr3, w3⟩
 rcases turn i n σ3 H3 w3 with ⟨stop, qn⟩ | ⟨go, N, hN, step⟩
 ·refine wpAny_passesOwn hp (thn (T.done X rfl rfl rfl hc i pins s3 σ3 H3 X.xe I3 (stat fr3) st3 stop) fun r s4 ⟨hr, I4⟩ => ?_)
  subst hr
  exact wpAny_execs_nil ⟨σ3, H3, I4, qn⟩
 ·refine wpAny_passesOwn hp (thn (T.item X rfl rfl rfl hc i pins s3 σ3 H3 X.xe I3 (stat fr3) st3 go) fun r s4 ⟨u, hr, h4⟩ => ?_)
  subst hr
  refine wpAny_passesOwn hp (thn h4 fun _ s5 ⟨x, H5, I5, r5, y5, st5, fr5⟩ => ?_)
  have I5' := I5.pinned (stat fr5) (T.obj _ _ st5)
  refine wpAny_passesOwn hp (thn (hg _ s5 σ3 H5 x u _ I5' r5 (step x H5 y5)) fun _ s6 ⟨σ6, H6, I6, q6⟩ => ?_)
  refine wpAny_passesOwn hp (thn (hb _ s6 σ6 H6 _ I6 q6) fun f s7 q7 => ?_)
  have again : ∀ {σ7 : St} {H7 : Hp}, Inv X (pins ++ pinsAt fp s5.heap) σ7 H7 s7 → N σ7 H7 → ∃ m, m < n ∧ ∃ i σ' H', Inv X pins σ' H' s7 ∧ tn i s7.heap ∧ (∀ b ∈ fp, H' b = none) ∧ W i m σ' H' := fun {σ7 H7} I7 n7 => by
   obtain ⟨m', hm, w7⟩ := hN σ7 H7 n7
   refine ⟨m', hm, i + 1, σ7, H7, I7.unpinned, T.keep _ _ _ st5 fun b hb o e => (I7.pin (b, o) (List.mem_append_right _ (List.mem_append_right _ (mem_pinsAt hb e)))).1, fun b hb => ?_, w7⟩
   obtain ⟨o, e, d⟩ := T.obj _ _ st5 b hb
   exact (I7.pin (b, o) (List.mem_append_right _ (List.mem_append_right _ (mem_pinsAt hb e)))).2.1
  cases f with
  | next => obtain ⟨σ7, H7, I7, n7⟩ := q7; exact again I7 n7
  | cont => obtain ⟨σ7, H7, I7, n7⟩ := q7; exact again I7 n7
  | brk => obtain ⟨σ7, H7, I7, q7⟩ := q7; exact ⟨σ7, H7, I7.unpinned, q7⟩
  | ret v => obtain ⟨x7, σ7, H7, I7, r7, q7⟩ := q7; exact ⟨x7, σ7, H7, I7.unpinned, r7, q7⟩
end
theorem for_list {K : PySem.W.Frag} {a : Addr} {xs : List V} {g : TG} {tb : TS} {D : Ends} {σ : St} {H : Hp} (Pv : Nat → St → Hp → Prop) (h0 : Pv 0 σ H) (hl : ∀ i σ H, i ≤ xs.length → Pv i σ H → SqL K H a xs)
  (hs : ∀ i x σ H, xs[i]? = some x → Pv i σ H → g x σ H fun σ2 H2 => tb { D with nx := Pv (i + 1), ct := Pv (i + 1), bk := D.nx } σ2 H2) (hd : ∀ σ H, Pv xs.length σ H → D.nx σ H) :
  ∃ W : Nat → Nat → St → Hp → Prop, (∃ m, W 0 m σ H) ∧ ∀ i m σ H, W i m σ H →
   ((Itl K a).stop i H ∧ D.nx σ H) ∨ ((Itl K a).go i H ∧ ∃ N : St → Hp → Prop, (∀ σ' H', N σ' H' → ∃ m', m' < m ∧ W (i + 1) m' σ' H') ∧ ∀ x H', (Itl K a).yld i H x H' → g x σ H' fun σ2 H2 => tb { D with nx := N, ct := N, bk := D.nx } σ2 H2) := by
 refine ⟨fun i m σ H => m = xs.length - i ∧ i ≤ xs.length ∧ Pv i σ H, ⟨xs.length, by simp, Nat.zero_le _, h0⟩, ?_⟩
 rintro i m σ H ⟨rfl, hi, p⟩
 have q := hl i σ H hi p
 by_cases hlt : i < xs.length
 ·refine .inr ⟨⟨xs, xs[i], q, by simp [hlt]⟩, Pv (i + 1), fun σ' H' p' => ⟨xs.length - (i + 1), by omega, rfl, hlt, p'⟩, fun x H' y => ?_⟩
  obtain ⟨e, y⟩ := y
  subst e
  exact hs i x σ _ (y xs q) p
 ·have e : i = xs.length := by omega
  subst e
  exact .inl ⟨⟨xs, q, Nat.le_refl _⟩, hd σ H p⟩
theorem for_range {lo : Int} {n : Nat} {g : TG} {tb : TS} {D : Ends} {σ : St} {H : Hp} (Pv : Nat → St → Hp → Prop) (h0 : Pv 0 σ H)
  (hs : ∀ i σ H, i < n → Pv i σ H → g (.int (lo + i)) σ H fun σ2 H2 => tb { D with nx := Pv (i + 1), ct := Pv (i + 1), bk := D.nx } σ2 H2) (hd : ∀ σ H, Pv n σ H → D.nx σ H) :
  ∃ W : Nat → Nat → St → Hp → Prop, (∃ m, W 0 m σ H) ∧ ∀ i m σ H, W i m σ H →
   ((Itr lo n).stop i H ∧ D.nx σ H) ∨ ((Itr lo n).go i H ∧ ∃ N : St → Hp → Prop, (∀ σ' H', N σ' H' → ∃ m', m' < m ∧ W (i + 1) m' σ' H') ∧ ∀ x H', (Itr lo n).yld i H x H' → g x σ H' fun σ2 H2 => tb { D with nx := N, ct := N, bk := D.nx } σ2 H2) := by
 refine ⟨fun i m σ H => m = n - i ∧ i ≤ n ∧ Pv i σ H, ⟨n, by simp, Nat.zero_le _, h0⟩, ?_⟩
 rintro i m σ H ⟨rfl, hi, p⟩
 by_cases hlt : i < n
 ·refine .inr ⟨hlt, Pv (i + 1), fun σ' H' p' => ⟨n - (i + 1), by omega, rfl, hlt, p'⟩, fun x H' y => ?_⟩
  obtain ⟨e, y⟩ := y
  subst e y
  exact hs i σ _ hlt p
 ·have e : i = n := by omega
  subst e
  exact .inl ⟨Nat.le_refl _, hd σ H p⟩
theorem while_by {c : TT} {tb : TS} {D : Ends} {σ : St} {H : Hp} (Pv : St → Hp → Prop) (μ : St → Hp → Nat) (h0 : Pv σ H)
  (hs : ∀ σ H, Pv σ H → c σ H fun b H1 => if b = true then tb { D with nx := fun σ' H' => Pv σ' H' ∧ μ σ' H' < μ σ H, ct := fun σ' H' => Pv σ' H' ∧ μ σ' H' < μ σ H, bk := D.nx } σ H1 else D.nx σ H1)
  (mono : ∀ σ H Q Q', (∀ b H1, Q b H1 → Q' b H1) → c σ H Q → c σ H Q') : tWhile c tb D σ H := by
 refine ⟨fun m σ H => m = μ σ H ∧ Pv σ H, ⟨_, rfl, h0⟩, ?_⟩
 rintro m σ H ⟨rfl, p⟩
 refine mono σ H _ _ (fun b H1 q => ?_) (hs σ H p)
 cases b with
 | true => exact ⟨_, fun σ' H' ⟨p', l⟩ => ⟨_, l, rfl, p'⟩, q⟩
 | false => exact q
end L2
namespace L2
open PySem PySem.Spec PyProof.Rows
abbrev R2 := V → V → Hp → VK → Prop
def OpR (X : Cx) (f : Value → Value → Sem Value) (r : R2) : Prop :=
 ∀ (pins : List (Addr × Obj)) (s : Shared) (σ : St) (H : Hp) (x y : V) (v u : Value) (Q : VK), Inv X pins σ H s → RelV x v → RelV y u → r x y H Q →
  wpAny (model X.prog X.w) X.A (f v u) (EP X pins σ Q) X.xe s
def UnR (X : Cx) (f : Value → Sem Value) (r : V → Hp → VK → Prop) : Prop :=
 ∀ (pins : List (Addr × Obj)) (s : Shared) (σ : St) (H : Hp) (x : V) (v : Value) (Q : VK), Inv X pins σ H s → RelV x v → r x H Q →
  wpAny (model X.prog X.w) X.A (f v) (EP X pins σ Q) X.xe s
def CallR (X : Cx) (f : Value) (r : List V → Hp → VK → Prop) : Prop :=
 ∀ (pins : List (Addr × Obj)) (s : Shared) (σ : St) (H : Hp) (xs : List V) (us : List Value) (Q : VK), Inv X pins σ H s → Vals xs us → r xs H Q →
  wpAny (model X.prog X.w) X.A (call f us) (EP X pins σ Q) X.xe s
def TruR (X : Cx) (r : V → Hp → (Bool → Hp → Prop) → Prop) : Prop :=
 ∀ (pins : List (Addr × Obj)) (s : Shared) (σ : St) (H : Hp) (x : V) (v : Value) (Q : Bool → Hp → Prop), Inv X pins σ H s → RelV x v → r x H Q →
  wpAny (model X.prog X.w) X.A (truthy v) (TP X pins σ Q) X.xe s
def tOp (r : R2) (ta tb : TE) : TE := fun σ H Q => ta σ H fun x H1 => tb σ H1 fun y H2 => r x y H2 Q
def tUn (r : V → Hp → VK → Prop) (ta : TE) : TE := fun σ H Q => ta σ H fun x H1 => r x H1 Q
def rI (C : Int → Int → Prop) (g : Int → Int → V) : R2 := fun x y H Q => ∃ i j, x = .int i ∧ y = .int j ∧ C i j ∧ Q (g i j) H
def rI0 (g : Int → Int → V) : R2 := fun x y H Q => ∃ i j, x = .int i ∧ y = .int j ∧ Q (g i j) H
def rU (g : Int → V) : V → Hp → VK → Prop := fun x H Q => ∃ i, x = .int i ∧ Q (g i) H
section
variable {X : Cx} {a b c : Expr} {ta tb tc : TE} {pos : Pos}
theorem binT (ha : PE X a ta) (hb : PE X b tb) {pins : List (Addr × Obj)} {s : Shared} {σ : St} {H : Hp} {R : V → V → Hp → Prop} (I : Inv X pins σ H s)
  (h : ta σ H fun x H1 => tb σ H1 fun y H2 => R x y H2) {Q : Value → Shared → Prop} {f : Value → Value → Sem Value}
  (hf : ∀ v u s2 x y H2, Inv X pins σ H2 s2 → RelV x v → RelV y u → R x y H2 → wpAny (model X.prog X.w) X.A (f v u) Q X.xe s2) :
  wpAny (model X.prog X.w) X.A (eval a X.env) (fun v s₁ => wpAny (model X.prog X.w) X.A (eval b X.env) (fun u s₂ => wpAny (model X.prog X.w) X.A (f v u) Q X.xe s₂) X.xe s₁) X.xe s := by
 refine thn (ha pins s σ H _ I h) fun v s1 ⟨x, H1, I1, r1, q1⟩ => ?_
 refine thn (hb pins s1 σ H1 _ I1 q1) fun u s2 ⟨y, H2, I2, r2, q2⟩ => ?_
 exact hf v u s2 x y H2 I2 r1 r2 q2
theorem pe_op {op : Operator} {r : R2} (ho : OpR X (binaryOp op) r) (ha : PE X a ta) (hb : PE X b tb) : PE X (.BinOp a op b pos) (tOp r ta tb) := by
 intro pins s σ H Q I h
 exact wpAny_BinOp (binT ha hb I h fun v u s2 x y H2 I2 rx ry q => ho pins s2 σ H2 x y v u Q I2 rx ry q)
theorem pe_un {op : UnaryOp} {r : V → Hp → VK → Prop} (ho : UnR X (unaryOp op) r) (ha : PE X a ta) : PE X (.UnaryOp op a pos) (tUn r ta) := by
 intro pins s σ H Q I h
 exact UnaryOp_ (thn (ha pins s σ H _ I h) fun v s1 ⟨x, H1, I1, r1, q1⟩ => ho pins s1 σ H1 x v Q I1 r1 q1)
theorem opI {f : Value → Value → Sem Value} {C : Int → Int → Prop} {g : Int → Int → Int}
  (rule : ∀ (i j : Int) (t u : Tok) (s : Shared) (Q : Value → Shared → Prop) (E : Value → Shared → Prop), C i j → Q (.int (g i j) s.toks) { s with toks := s.toks + 1 } → wpAny (model X.prog X.w) X.A (f (.int i t) (.int j u)) Q E s) :
  OpR X f (rI C fun i j => .int (g i j)) := by
 intro pins s σ H x y v u Q I rx ry h
 obtain ⟨i, j, rfl, rfl, hc, q⟩ := h
 obtain ⟨t, rfl⟩ := rx
 obtain ⟨t', rfl⟩ := ry
 exact rule i j t t' s _ _ hc ⟨.int (g i j), H, I.tok _, ⟨_, rfl⟩, q⟩
theorem opI0 {f : Value → Value → Sem Value} {g : Int → Int → Int}
  (rule : ∀ (i j : Int) (t u : Tok) (s : Shared) (Q : Value → Shared → Prop) (E : Value → Shared → Prop), Q (.int (g i j) s.toks) { s with toks := s.toks + 1 } → wpAny (model X.prog X.w) X.A (f (.int i t) (.int j u)) Q E s) :
  OpR X f (rI0 fun i j => .int (g i j)) := by
 intro pins s σ H x y v u Q I rx ry h
 obtain ⟨i, j, rfl, rfl, q⟩ := h
 obtain ⟨t, rfl⟩ := rx
 obtain ⟨t', rfl⟩ := ry
 exact rule i j t t' s _ _ ⟨.int (g i j), H, I.tok _, ⟨_, rfl⟩, q⟩
theorem opB0 {f : Value → Value → Sem Value} {g : Int → Int → Bool}
  (rule : ∀ (i j : Int) (t u : Tok) (s : Shared) (Q : Value → Shared → Prop) (E : Value → Shared → Prop), Q (.bool (g i j)) s → wpAny (model X.prog X.w) X.A (f (.int i t) (.int j u)) Q E s) :
  OpR X f (rI0 fun i j => .bl (g i j)) := by
 intro pins s σ H x y v u Q I rx ry h
 obtain ⟨i, j, rfl, rfl, q⟩ := h
 obtain ⟨t, rfl⟩ := rx
 obtain ⟨t', rfl⟩ := ry
 exact rule i j t t' s _ _ ⟨.bl (g i j), H, I, rfl, q⟩
def CDiv (i j : Int) : Prop := 0 < j ∧ j < 1073741824
def CMul (i j : Int) : Prop := (-(2 ^ 64) < i ∧ i < 2 ^ 64) ∨ (-(2 ^ 64) < j ∧ j < 2 ^ 64)
theorem CMul.ok {i j : Int} (h : CMul i j) : IntMulOk i j := by
 rcases h with ⟨h1, h2⟩ | ⟨h1, h2⟩
 ·exact .of_left (intBits_le_64 h1 h2)
 ·exact .of_right (intBits_le_64 h1 h2)
theorem op_add : OpR X (binaryOp .Add) (rI0 fun i j => .int (i + j)) := opI0 fun _ _ _ _ _ _ _ q => add_int q
theorem op_sub : OpR X (binaryOp .Sub) (rI0 fun i j => .int (i - j)) := opI0 fun _ _ _ _ _ _ _ q => sub_int q
theorem op_mul : OpR X (binaryOp .Mult) (rI CMul fun i j => .int (i * j)) := opI fun _ _ _ _ _ _ _ hc q => mul_int q hc.ok
theorem op_fdiv : OpR X (binaryOp .FloorDiv) (rI CDiv fun i j => .int (i / j)) := opI fun i j _ _ _ _ _ hc q => by
 have h1 : (0 : Int) < j := hc.1
 have h2 : j < 1073741824 := hc.2
 exact floordiv_int (by omega) (by rw [Int.fdiv_eq_ediv_of_nonneg i (by omega)]; exact q) (.inl (PyProof.noPylong_small (by omega)))
theorem op_mod : OpR X (binaryOp .Mod) (rI (fun _ j => 0 < j) fun i j => .int (i % j)) := opI fun i j _ _ _ _ _ hc q => by
 have h1 : (0 : Int) < j := hc
 exact mod_int' (by omega) (by rw [Int.fmod_eq_emod_of_nonneg i (by omega)]; exact q)
theorem unI {f : Value → Sem Value} {g : Int → Int}
  (rule : ∀ (i : Int) (t : Tok) (s : Shared) (Q : Value → Shared → Prop) (E : Value → Shared → Prop), Q (.int (g i) s.toks) { s with toks := s.toks + 1 } → wpAny (model X.prog X.w) X.A (f (.int i t)) Q E s) :
  UnR X f (rU fun i => .int (g i)) := by
 intro pins s σ H x v Q I rx h
 obtain ⟨i, rfl, q⟩ := h
 obtain ⟨t, rfl⟩ := rx
 exact rule i t s _ _ ⟨.int (g i), H, I.tok _, ⟨_, rfl⟩, q⟩
theorem un_neg : UnR X (unaryOp .USub) (rU fun i => .int (-i)) := unI fun _ _ _ _ _ q => neg_int q
end
def scal : V → V → Bool
 | .non, .non => true | .non, .int _ => true | .int _, .non => true | .non, .bl _ => true | .bl _, .non => true | .non, .str _ => true | .str _, .non => true
 | .int _, .int _ => true | .bl _, .bl _ => true | .str _, .str _ => true | .byt _, .byt _ => true
 | .int _, .str _ => true | .str _, .int _ => true | .bl _, .str _ => true | .str _, .bl _ => true
 | _, _ => false
def rEq : R2 := fun x y H Q => scal x y = true ∧ Q (.bl (decide (x = y))) H
def rNe : R2 := fun x y H Q => scal x y = true ∧ Q (.bl (!decide (x = y))) H
theorem dec_int {i j : Int} : decide (V.int i = V.int j) = (i == j) := by
 rw [Bool.eq_iff_iff]
 simp
theorem dec_bl {i j : Bool} : decide (V.bl i = V.bl j) = (i == j) := by
 rw [Bool.eq_iff_iff]
 simp
theorem dec_str {i j : Str} : decide (V.str i = V.str j) = (i == j) := by
 rw [Bool.eq_iff_iff]
 simp
theorem dec_byt {i j : Array UInt8} : decide (V.byt i = V.byt j) = (i.toList == j.toList) := by
 rw [Bool.eq_iff_iff]
 cases i
 cases j
 simp
section
variable {X : Cx} {a b c : Expr} {ta tb tc : TE} {pos : Pos}
theorem fin_bl {pins : List (Addr × Obj)} {σ : St} {H : Hp} {s : Shared} {Q : VK} {k k' : Bool} (I : Inv X pins σ H s) (q : Q (.bl k) H) (e : k = k') : EP X pins σ Q (.bool k') s := by
 subst e
 exact ⟨.bl k, H, I, rfl, q⟩
theorem op_eq : OpR X (compareOp .Eq) rEq := by
 intro pins s σ H x y v u Q I rx ry h
 obtain ⟨hs, q⟩ := h
 cases x with
 | non =>
  cases rx
  cases y with
  | non => cases ry; exact PySem.EqNone.eq_none_none (fin_bl I q (by simp))
  | bl j => cases ry; exact PySem.EqNone.eq_none_bool (fin_bl I q (by simp))
  | int j => obtain ⟨t', rfl⟩ := ry; exact PySem.EqNone.eq_none_int (fin_bl I q (by simp))
  | str j => obtain ⟨t', rfl⟩ := ry; exact PySem.EqNone.eq_none_str (fin_bl I q (by simp))
  | _ => exact absurd (show false = true from hs) Bool.false_ne_true
 | bl i =>
  cases rx
  cases y with
  | non => cases ry; exact PySem.EqNone.eq_bool_none (fin_bl I q (by simp))
  | bl j => cases ry; exact eq_bool (fin_bl I q dec_bl)
  | str j => obtain ⟨t', rfl⟩ := ry; exact PySem.EqMixed.eq_bool_str (fin_bl I q (by simp))
  | _ => exact absurd (show false = true from hs) Bool.false_ne_true
 | int i =>
  obtain ⟨t, rfl⟩ := rx
  cases y with
  | non => cases ry; exact PySem.EqNone.eq_int_none (fin_bl I q (by simp))
  | int j => obtain ⟨t', rfl⟩ := ry; exact eq_int (fin_bl I q dec_int)
  | str j => obtain ⟨t', rfl⟩ := ry; exact PySem.EqMixed.eq_int_str (fin_bl I q (by simp))
  | _ => exact absurd (show false = true from hs) Bool.false_ne_true
 | str i =>
  obtain ⟨t, rfl⟩ := rx
  cases y with
  | non => cases ry; exact PySem.EqNone.eq_str_none (fin_bl I q (by simp))
  | bl j => cases ry; exact PySem.EqMixed.eq_str_bool (fin_bl I q (by simp))
  | int j => obtain ⟨t', rfl⟩ := ry; exact PySem.EqMixed.eq_str_int (fin_bl I q (by simp))
  | str j => obtain ⟨t', rfl⟩ := ry; exact eq_str (fin_bl I q dec_str)
  | _ => exact absurd (show false = true from hs) Bool.false_ne_true
 | byt i =>
  obtain ⟨t, rfl⟩ := rx
  cases y with
  | byt j => obtain ⟨t', rfl⟩ := ry; exact PySem.W.eq_bytes (fin_bl I q dec_byt)
  | _ => exact absurd (show false = true from hs) Bool.false_ne_true
 | _ => cases y <;> exact absurd (show false = true from hs) Bool.false_ne_true
theorem op_ne : OpR X (compareOp .NotEq) rNe := by
 intro pins s σ H x y v u Q I rx ry h
 obtain ⟨hs, q⟩ := h
 cases x with
 | non =>
  cases rx
  cases y with
  | non => cases ry; exact PySem.EqNone.ne_none_none (fin_bl I q (by simp))
  | bl j => cases ry; exact PySem.EqNone.ne_none_bool (fin_bl I q (by simp))
  | int j => obtain ⟨t', rfl⟩ := ry; exact PySem.EqNone.ne_none_int (fin_bl I q (by simp))
  | str j => obtain ⟨t', rfl⟩ := ry; exact PySem.EqNone.ne_none_str (fin_bl I q (by simp))
  | _ => exact absurd (show false = true from hs) Bool.false_ne_true
 | bl i =>
  cases rx
  cases y with
  | non => cases ry; exact PySem.EqNone.ne_bool_none (fin_bl I q (by simp))
  | bl j => cases ry; exact ne_bool (fin_bl I q (congrArg not dec_bl))
  | str j => obtain ⟨t', rfl⟩ := ry; exact PySem.EqMixed.ne_bool_str (fin_bl I q (by simp))
  | _ => exact absurd (show false = true from hs) Bool.false_ne_true
 | int i =>
  obtain ⟨t, rfl⟩ := rx
  cases y with
  | non => cases ry; exact PySem.EqNone.ne_int_none (fin_bl I q (by simp))
  | int j => obtain ⟨t', rfl⟩ := ry; exact ne_int (fin_bl I q (congrArg not dec_int))
  | str j => obtain ⟨t', rfl⟩ := ry; exact PySem.EqMixed.ne_int_str (fin_bl I q (by simp))
  | _ => exact absurd (show false = true from hs) Bool.false_ne_true
 | str i =>
  obtain ⟨t, rfl⟩ := rx
  cases y with
  | non => cases ry; exact PySem.EqNone.ne_str_none (fin_bl I q (by simp))
  | bl j => cases ry; exact PySem.EqMixed.ne_str_bool (fin_bl I q (by simp))
  | int j => obtain ⟨t', rfl⟩ := ry; exact PySem.EqMixed.ne_str_int (fin_bl I q (by simp))
  | str j => obtain ⟨t', rfl⟩ := ry; exact ne_str (fin_bl I q (congrArg not dec_str))
  | _ => exact absurd (show false = true from hs) Bool.false_ne_true
 | byt i =>
  obtain ⟨t, rfl⟩ := rx
  cases y with
  | byt j => obtain ⟨t', rfl⟩ := ry; exact PySem.W.ne_bytes (fin_bl I q (congrArg not dec_byt))
  | _ => exact absurd (show false = true from hs) Bool.false_ne_true
 | _ => cases y <;> exact absurd (show false = true from hs) Bool.false_ne_true
theorem op_lt : OpR X (compareOp .Lt) (rI0 fun i j => .bl (decide (i < j))) := opB0 fun _ _ _ _ _ _ _ q => lt_int q
theorem op_gt : OpR X (compareOp .Gt) (rI0 fun i j => .bl (decide (j < i))) := opB0 fun _ _ _ _ _ _ _ q => gt_int q
theorem op_ge : OpR X (compareOp .GtE) (rI0 fun i j => .bl (decide (j ≤ i))) := opB0 fun _ _ _ _ _ _ _ q => ge_int q
theorem op_notN : OpR X (compareOp .IsNot) (fun x y H Q => y = .non ∧ Q (.bl (!decide (x = .non))) H) := by
 intro pins s σ H x y v u Q I rx ry h
 obtain ⟨rfl, q⟩ := h
 cases ry
 refine isnot_none_gen (fin_bl I q ?_)
 cases x <;> first
  | (cases rx; rfl)
  | (obtain ⟨t, rfl⟩ := rx; rfl)
theorem nomark (b : Expr) {op : CmpOp} (h : op ≠ .In := by decide) (h2 : op ≠ .NotIn := by decide) : behindInMarks op b = false := by
 have e1 : (op == CmpOp.In) = false := by cases op <;> first | rfl | exact absurd rfl h
 have e2 : (op == CmpOp.NotIn) = false := by cases op <;> first | rfl | exact absurd rfl h2
 cases b <;> simp [behindInMarks, e1, e2]
theorem pe_cmpR {op : CmpOp} {r : R2} (ho : OpR X (compareOp op) r) (ha : PE X a ta) (hb : PE X b tb) (hm : behindInMarks op b = false) : PE X (.Compare a [op] [b] pos) (tOp r ta tb) := by
 intro pins s σ H Q I h
 exact wpAny_Compare1 (binT ha hb I h fun v u s2 x y H2 I2 rx ry q => ho pins s2 σ H2 x y v u Q I2 rx ry q) hm
def tTest (t : TE) : TT := fun σ H Q => t σ H fun x H' => ∃ k, x = .bl k ∧ Q k H'
theorem pt_cmpR {op : CmpOp} {r : R2} (ho : OpR X (compareOp op) r) (ha : PE X a ta) (hb : PE X b tb) (hm : behindInMarks op b = false) : PT X (.Compare a [op] [b] pos) (tTest (tOp r ta tb)) := by
 intro pins s σ H Q I h
 refine wpAny_isTrue_Compare1 (thn (ha pins s σ H _ I h) fun v s1 ⟨x, H1, I1, r1, q1⟩ => thn (hb pins s1 σ H1 _ I1 q1) fun u s2 ⟨y, H2, I2, r2, q2⟩ =>
  thn (ho pins s2 σ H2 x y v u _ I2 r1 r2 q2) fun c s3 ⟨z, H3, I3, r3, k, e, q3⟩ => ?_) hm
 subst e
 cases r3
 exact wpAny_truthy_bool ⟨H3, I3, q3⟩
def TruV (K : PySem.W.Frag) (x : V) (H : Hp) (k : Bool) : Prop :=
 match x with
 | .non => k = false
 | .bl b => k = b
 | .int i => k = (i != 0)
 | .str y => y.length ≤ sizeLine ∧ k = ((y.length : Int) != 0)
 | .byt y => y.size ≤ sizeLine ∧ k = ((y.size : Int) != 0)
 | .ref p => (∃ xs, SqL K H p xs ∧ k = !xs.isEmpty) ∨ (∃ xs, SqT K H p xs ∧ k = !xs.isEmpty) ∨ ∃ kvs, H p = some (.dK kvs) ∧ k = !kvs.isEmpty
 | _ => False
theorem isEmpty_kv {κ : Type} {kvs : List (κ × V)} {vs : List (κ × Value)} (r : KV kvs vs) : (!vs.isEmpty) = !kvs.isEmpty := by
 cases r <;> rfl
theorem isEmpty_of {xs : List V} {its : List Value} (r : Vals xs its) : (!its.toArray.isEmpty) = !xs.isEmpty := by
 cases r <;> simp
theorem line63 : (sizeLine : Nat) < 2 ^ 63 := by rw [sizeLine_eq]; decide
theorem tru_ok : TruR X (fun x H Q => ∃ k, TruV X.K x H k ∧ Q k H) := by
 intro pins s σ H x v Q I rx h
 obtain ⟨k, e, q⟩ := h
 have hl := line63
 have hs : sizeLine = 16777216 := sizeLine_eq
 cases x with
 | non =>
  cases rx
  have e' : k = false := e
  subst e'
  exact truthy_none ⟨H, I, q⟩
 | bl b =>
  cases rx
  have e' : k = b := e
  subst e'
  exact wpAny_truthy_bool ⟨H, I, q⟩
 | int i =>
  obtain ⟨t, rfl⟩ := rx
  have e' : k = (i != 0) := e
  subst e'
  exact PySem.P.truthy_int ⟨H, I, q⟩
 | str y =>
  obtain ⟨t, rfl⟩ := rx
  obtain ⟨hy, e'⟩ : y.length ≤ sizeLine ∧ k = ((y.length : Int) != 0) := e
  subst e'
  exact PySem.P.truthy_str (by omega) ⟨H, I.tok _, q⟩
 | byt y =>
  obtain ⟨t, rfl⟩ := rx
  obtain ⟨hy, e'⟩ : y.size ≤ sizeLine ∧ k = ((y.size : Int) != 0) := e
  subst e'
  exact PySem.W.truthy_bytes (by omega) ⟨H, I.tok _, q⟩
 | ref p =>
  cases rx
  have e' : (∃ xs, SqL X.K H p xs ∧ k = !xs.isEmpty) ∨ (∃ xs, SqT X.K H p xs ∧ k = !xs.isEmpty) ∨ ∃ kvs, H p = some (.dK kvs) ∧ k = !kvs.isEmpty := e
  rcases e' with ⟨xs, hx, e'⟩ | ⟨xs, hx, e'⟩ | ⟨kvs, hx, e'⟩
  ·subst e'
   obtain ⟨its, r, pl, hz⟩ := I.list hx
   have hlen := r.length
   exact wpAny_truthy_list pl.isList (by simp only [List.size_toArray]; omega) ⟨H, I.tok _, by rw [isEmpty_of r]; exact q⟩
  ·subst e'
   obtain ⟨its, r, pl, hz⟩ := I.tuple hx
   have hlen := r.length
   exact truthy_tuple pl (by simp only [List.size_toArray]; omega) ⟨H, I.tok _, by rw [isEmpty_of r]; exact q⟩
  ·subst e'
   obtain ⟨hz, hS, vs, r, m⟩ : kvs.length ≤ sizeLine ∧ (p == sysModules) = false ∧ ∃ vs, KV kvs vs ∧ s.heap.DictOf (mixKind X.prog X.w) p vs := I.hok p _ hx
   have hlen : kvs.length = vs.length := Paired.length r
   exact wpAny_truthy_dict hS m (by omega) ⟨H, I.tok _, by rw [isEmpty_kv r]; exact q⟩
 | _ => exact (show False from e).elim
theorem pt_truth (ha : PE X a ta) (he : ∀ whole, isTrue a X.env whole = (do let v ← whole; standAt a.pos; holding [v] (truthy v))) :
  PT X a (fun σ H Q => ta σ H fun x H' => ∃ k, TruV X.K x H' k ∧ Q k H') := by
 intro pins s σ H Q I h
 exact isTrue_plain (thn (ha pins s σ H _ I h) fun v s1 ⟨x, H1, I1, r1, q1⟩ => tru_ok pins s1 σ H1 x v Q I1 r1 q1) (he _)
theorem vals1 {x : V} {us : List Value} (r : Vals [x] us) : ∃ u, us = [u] ∧ RelV x u := by
 cases r with
 | cons r1 r2 => cases r2; exact ⟨_, rfl, r1⟩
end
end L2
namespace L2
open PySem PySem.Spec PyProof.Rows
structure ObjM (h : Heap) (x dx C : Addr) (mA : Str → Option Value) : Prop where
 obj : h.get? x = some (PySem.W.instObj C dx)
 ns : h.Ns1 dx mA
 ne : dx ≠ x
theorem lookIn_ns {h : Heap} {dx : Addr} {mA : Str → Option Value} (n : h.Ns1 dx mA) : ∃ od, h.get? dx = some od ∧ ∀ name, PySem.W.lookIn name od = some (mA name) := by
 obtain ⟨o, es, ep, ho, hd, hk, _, hm⟩ := n
 refine ⟨o, ho, fun name => ?_⟩
 have e := hm name
 unfold nsFind findBy at e
 rw [← Array.find?_toList] at e
 unfold PySem.W.lookIn
 rw [hd]
 dsimp only
 split
 ·rename_i y q
  rw [q] at e
  exact congrArg some e
 ·rename_i q
  rw [q] at e
  have a : es.toList.any (·.refKey) = false := by
   rw [List.any_eq_false]
   intro y hy
   obtain ⟨z, t, hkey⟩ := hk y (Array.mem_toList_iff.mp hy)
   simp [DictEntry.refKey, hkey]
  have a' : ¬ es.toList.any (·.refKey) = true := by rw [a]; exact Bool.false_ne_true
  rw [if_neg a']
  exact congrArg some e
theorem ObjM.look {h : Heap} {x dx C : Addr} {mA : Str → Option Value} (I : ObjM h x dx C mA) : ∃ od, PySem.W.InstAt h x (PySem.W.instObj C dx) C (some od) ∧ ∀ name, PySem.W.lookIn name od = some (mA name) :=
 let ⟨od, ho, hl⟩ := lookIn_ns I.ns
 ⟨od, ⟨I.obj, rfl, rfl, ho⟩, hl⟩
section
variable {prog : Program} {w : World} {A : Around} {E : Value → Shared → Prop} {s : Shared} {K : PySem.W.Frag} {x dx C f : Addr} {mA : Str → Option Value} {name : Str} {v : Value}
theorem get_map {expr : Bool} {Q : Value → Shared → Prop} (X : K.In s.heap) (I : ObjM s.heap x dx C mA) (hg : PySem.W.plainGet K C name = true) (hh : PySem.W.hasDictIn K C = true)
  (ha : PySem.W.findIn K (.ref C) name = some none) (hv : mA name = some v) (hv' : PySem.W.handedIn v = true) (h : Q v { s with toks := s.toks + 1 }) :
  wpAny (model prog w) A (getAttr (.ref x) name expr) Q E s := by
 obtain ⟨od, J, hl⟩ := I.look
 exact PySem.W.get_value X J (PySem.W.plainGet_of hg).1 (PySem.W.findObj_own hh ha rfl (by rw [hl, hv])) hv' h
theorem get_meth {pl : Sem Bool} {Q : Value × List Value → Shared → Prop} (X : K.In s.heap) (I : ObjM s.heap x dx C mA) (hg : PySem.W.plainGet K C name = true)
  (hf : PySem.W.findIn K (.ref C) name = some (some (.ref f))) (ht : PySem.W.isFn K (.ref f) = true) (hv : mA name = none) (h : Q (.ref f, [.ref x]) s) :
  wpAny (model prog w) A (getMethod (.ref x) name pl) Q E s := by
 obtain ⟨od, J, hl⟩ := I.look
 exact PySem.W.method_fn X J (PySem.W.plainGet_of hg).1 (PySem.W.plainGet_of hg).2 hf (beq_iff_eq.mp ht) (by show (PySem.W.lookIn name od).map (·.isSome) = some false; rw [hl, hv]; rfl) h
theorem set_map {ns : List Str} {Q : Unit → Shared → Prop} (X : K.In s.heap) (I : ObjM s.heap x dx C mA)
  (hs : PySem.W.findIn K (.ref C) "__setattr__" = some (some (.builtin "object.__setattr__"))) (hp : PySem.W.plainOver K C = true) (ht : PySem.W.takerIn K C name = some none) (hh : PySem.W.hasDictIn K C = true)
  (hw : PySem.Within mA ns) (hsz : ns.length ≤ sizeLine)
  (h : ∀ h', ObjM h' x dx C (fun y => if y = name then some v else mA y) → Heap.SameBut dx s.heap h' → Q () { s with heap := h', toks := s.toks + 2 }) :
  wpAny (model prog w) A (setAttr (.ref x) name v) Q E s := by
 obtain ⟨od, J, hl⟩ := I.look
 refine PySem.W.set_plain X J hs (PySem.W.osa_open (s := { s with toks := s.toks + 1 }) (r := none) X J hp ht fun b => ?_)
 obtain ⟨cd, hc, hd'⟩ := PySem.W.any_some hh
 have hx : s.heap.get? x = some ⟨.ref C, some dx, .plain, #[]⟩ := I.obj
 refine wpAny_bind (wpAny_pure (wpAny_bind (wpAny_bind (wpAny_loadPart hx (wpAny_bind (PySem.W.Looks.here (s := { s with toks := s.toks + 1 }) (PySem.W.looks_clsIn X hc) ?_))))))
 rw [hd']
 refine wpAny_pure (a := some dx) (wpAny_bind (wpAny_pure (wpAny_bind ?_)))
 refine wpAny_nsSet1 (s := { s with toks := s.toks + 1 }) I.ns fun h' hn2 hs2 => ?_
 obtain ⟨oD, esD, epD, hoD, hdD, hcD⟩ := hn2.count (PySem.Within.cons name v hw)
 refine wpAny_bind (wpAny_lookBehind hoD (by rw [hdD]; exact pastItsLine_dict (Nat.le_trans hcD (by rw [List.length_cons]; omega))) ?_)
 exact wpAny_pure (h _ ⟨(hs2.2 _ (Ne.symm I.ne)).trans I.obj, hn2, I.ne⟩ hs2)
theorem make_map {R : Result → Shared → Prop} {vs : List Value} {kw : List (Str × Value)} (X : K.In s.heap) (hm : PySem.W.makesIn K C = true)
  (hi : PySem.W.findIn K (.ref C) "__init__" = some (some (.ref f))) (hf : PySem.W.typeIn K (.ref f) = some (.type "function"))
  (h : codeAny (model prog w) (A.under (.builtin "type.__call__" ⟨.ref C :: vs, kw⟩)) (.call (.ref f) ⟨.ref (s.heap.objs.size + 1) :: vs, kw⟩) (PySem.W.InitBack (s.heap.objs.size + 1) R)
   { s with heap := (s.heap.push PySem.W.emptyDict).push (PySem.W.instObj C s.heap.objs.size) }) :
  codeAny (model prog w) A (.call (.ref C) ⟨vs, kw⟩) R s := by
 obtain ⟨hh, g, d, t, os⟩ := s
 exact PySem.W.make_core (PySem.W.makes_of X hm) (PySem.W.looks_findIn X hi) (fun self => PySem.W.bind_fn X self hf) (.inl rfl) h
theorem make_map0 {R : Result → Shared → Prop} (X : K.In s.heap) (hm : PySem.W.makesIn K C = true)
  (hi : PySem.W.findIn K (.ref C) "__init__" = some (some (.builtin "object.__init__")))
  (hb : ∀ self, PySem.W.Looks (model prog w) s.heap (bindSpecial (.builtin "object.__init__") self) (.builtin "object.__init__", [self]))
  (h : codeAny (model prog w) (A.under (.builtin "type.__call__" ⟨[.ref C], []⟩)) (.call (.builtin "object.__init__") ⟨[.ref (s.heap.objs.size + 1)], []⟩) (PySem.W.InitBack (s.heap.objs.size + 1) R)
   { s with heap := (s.heap.push PySem.W.emptyDict).push (PySem.W.instObj C s.heap.objs.size) }) :
  codeAny (model prog w) A (.call (.ref C) ⟨[], []⟩) R s := by
 obtain ⟨hh, g, d, t, os⟩ := s
 exact PySem.W.make_core (PySem.W.makes_of X hm) (PySem.W.looks_findIn X hi) hb (.inr ⟨rfl, rfl⟩) h
end
def putF (f : Str) (v : V) : List (Str × V) → List (Str × V)
 | [] => [(f, v)]
 | (g, x) :: r => if g = f then (g, v) :: r else (g, x) :: putF f v r
theorem lookup_putF (f g : Str) (v : V) : ∀ fs : List (Str × V), (putF f v fs).lookup g = if g = f then some v else fs.lookup g
 | [] => by
  show List.lookup g [(f, v)] = _
  by_cases h : g = f
  ·have hb : (g == f) = true := beq_iff_eq.mpr h
   simp only [List.lookup, hb, if_pos h]
  ·have hb : (g == f) = false := beq_eq_false_iff_ne.mpr h
   simp only [List.lookup, hb, if_neg h]
 | (k, x) :: r => by
  have ih := lookup_putF f g v r
  rw [show putF f v ((k, x) :: r) = (if k = f then (k, v) :: r else (k, x) :: putF f v r) from rfl]
  by_cases hk : k = f
  ·rw [if_pos hk]
   by_cases h : g = k
   ·have hb : (g == k) = true := beq_iff_eq.mpr h
    simp only [List.lookup, hb, if_pos (h.trans hk)]
   ·have hb : (g == k) = false := beq_eq_false_iff_ne.mpr h
    simp only [List.lookup, hb, if_neg (fun e : g = f => h (e.trans hk.symm))]
  ·rw [if_neg hk]
   by_cases h : g = k
   ·have hb : (g == k) = true := beq_iff_eq.mpr h
    simp only [List.lookup, hb, if_neg (fun e : g = f => hk (h.symm.trans e))]
   ·have hb : (g == k) = false := beq_eq_false_iff_ne.mpr h
    simp only [List.lookup, hb]
    exact ih
theorem keys_putF (f : Str) (v : V) : ∀ fs : List (Str × V), f ∈ (putF f v fs).map (·.1) ∧ ∀ g, g ∈ fs.map (·.1) → g ∈ (putF f v fs).map (·.1)
 | [] => ⟨by simp [putF], fun g h => by simp at h⟩
 | (k, x) :: r => by
  obtain ⟨i1, i2⟩ := keys_putF f v r
  rw [show putF f v ((k, x) :: r) = (if k = f then (k, v) :: r else (k, x) :: putF f v r) from rfl]
  by_cases hk : k = f
  ·rw [if_pos hk]
   subst hk
   exact ⟨by simp, fun g h => by simpa using h⟩
  ·rw [if_neg hk]
   refine ⟨?_, fun g h => ?_⟩
   ·rw [List.map_cons]
    exact List.mem_cons_of_mem _ i1
   ·rw [List.map_cons] at h ⊢
    rcases List.mem_cons.mp h with e | e
    ·exact List.mem_cons.mpr (.inl e)
    ·exact List.mem_cons_of_mem _ (i2 g e)
theorem length_putF (f : Str) (v : V) : ∀ fs : List (Str × V), (putF f v fs).length ≤ fs.length + 1
 | [] => by simp [putF]
 | (k, x) :: r => by
  have ih := length_putF f v r
  rw [show putF f v ((k, x) :: r) = (if k = f then (k, v) :: r else (k, x) :: putF f v r) from rfl]
  by_cases hk : k = f
  ·rw [if_pos hk, List.length_cons, List.length_cons]; omega
  ·rw [if_neg hk, List.length_cons, List.length_cons]; omega
theorem RelO.some_of {v : V} {o : Option Value} (r : RelO (some v) o) : ∃ u, o = some u ∧ RelV v u := by
 cases o with
 | none => exact (show False from r).elim
 | some u => exact ⟨u, rfl, r⟩
theorem RelO.none_of {o : Option Value} (r : RelO none o) : o = none := by
 cases o with
 | none => rfl
 | some u => exact (show False from r).elim
theorem handed_of {v : V} {u : Value} (r : RelV v u) : PySem.W.handedIn u = true := by
 cases v with
 | non => cases (show u = Value.none from r); rfl
 | bl b => cases (show u = Value.bool b from r); rfl
 | int i => obtain ⟨t, e⟩ := (show ∃ t, u = Value.int i t from r); cases e; rfl
 | str x => obtain ⟨t, e⟩ := (show ∃ t, u = Value.str x t from r); cases e; rfl
 | byt b => obtain ⟨t, e⟩ := (show ∃ t, u = Value.bytes b t from r); cases e; rfl
 | flt b => obtain ⟨t, e⟩ := (show ∃ t, u = Value.float b t from r); cases e; rfl
 | ref a => cases (show u = Value.ref a from r); rfl
 | ty n => cases (show u = Value.type n from r); rfl
section
variable {P : Program} {w : World} {H H' : Hp} {h h' : Heap} {a C dx : Addr} {fs fs' : List (Str × V)}
theorem ins_get (hok : HOk P w H h) (e : H a = some (.ins C dx fs)) : ∃ mA, ObjM h a dx C mA ∧ (∀ f, RelO (fs.lookup f) (mA f)) ∧ PySem.Within mA (fs.map (·.1)) ∧ fs.length ≤ 1000 ∧ H dx = some (.own a) := by
 obtain ⟨d, z, ne, ob, mA, n, r, q⟩ := (show ObjOk P w H h a (.ins C dx fs) from hok a _ e)
 exact ⟨mA, ⟨ob, n, ne⟩, r, q, z, d⟩
end
structure Cls (K : PySem.W.Frag) (C : Addr) : Prop where
 pg : PySem.W.plainGet K C Str.empty = true
 hd : PySem.W.hasDictIn K C = true
 po : PySem.W.plainOver K C = true
 sa : PySem.W.findIn K (.ref C) "__setattr__" = some (some (.builtin "object.__setattr__"))
theorem Cls.get {K : PySem.W.Frag} {C : Addr} (c : Cls K C) (f : Str) : PySem.W.plainGet K C f = true := c.pg
def NoAttr (K : PySem.W.Frag) (C : Addr) (f : Str) : Prop := PySem.W.findIn K (.ref C) f = some none
theorem NoAttr.taker {K : PySem.W.Frag} {C : Addr} {f : Str} (n : NoAttr K C f) : PySem.W.takerIn K C f = some none := by
 unfold PySem.W.takerIn
 rw [show PySem.W.findIn K (.ref C) f = some none from n]
 rfl
structure Meth (K : PySem.W.Frag) (C : Addr) (m : Str) (f : Addr) : Prop where
 at_ : PySem.W.findIn K (.ref C) m = some (some (.ref f))
 fn : PySem.W.isFn K (.ref f) = true
 kp : PySem.W.keepIn K (.ref f) = true
section
variable {X : Cx} {pins : List (Addr × Obj)} {σ : St} {H : Hp} {s : Shared} {a C dx : Addr} {fs : List (Str × V)} {f : Str} {v : V} {A : Around} {E : Value → Shared → Prop}
theorem getattr_ok {b : Bool} {Q : Value → Shared → Prop} (I : Inv X pins σ H s) (e : H a = some (.ins C dx fs)) (c : Cls X.K C) (n : NoAttr X.K C f) (l : fs.lookup f = some v)
  (h : ∀ u s', Inv X pins σ H s' → RelV v u → Q u s') : wpAny (model X.prog X.w) A (getAttr (.ref a) f b) Q E s := by
 obtain ⟨mA, O, r, _, _, _⟩ := ins_get I.hok e
 obtain ⟨u, hu, ru⟩ := RelO.some_of (v := v) (o := mA f) (by rw [← l]; exact r f)
 exact get_map I.kIn O (c.get f) c.hd n hu (handed_of ru) (h u _ (I.tok _) ru)
theorem getmeth_ok {m : Str} {g : Addr} {pl : Sem Bool} {Q : Value × List Value → Shared → Prop} (I : Inv X pins σ H s) (e : H a = some (.ins C dx fs)) (c : Cls X.K C) (k : Meth X.K C m g) (l : fs.lookup m = none)
  (h : Q (.ref g, [.ref a]) s) : wpAny (model X.prog X.w) A (getMethod (.ref a) m pl) Q E s := by
 obtain ⟨mA, O, r, _, _, _⟩ := ins_get I.hok e
 have hn : mA m = none := RelO.none_of (by rw [← l]; exact r m)
 exact get_meth I.kIn O (c.get m) k.at_ k.fn hn h
theorem setattr_ok {y : V} {u : Value} {Q : Unit → Shared → Prop} (I : Inv X pins σ H s) (e : H a = some (.ins C dx fs)) (c : Cls X.K C) (n : NoAttr X.K C f) (hl : fs.length < 1000) (ry : RelV y u)
  (h : ∀ s', Inv X pins σ (upd H a (.ins C dx (putF f y fs))) s' → Q () s') : wpAny (model X.prog X.w) A (setAttr (.ref a) f u) Q E s := by
 obtain ⟨mA, O, r, wi, _, ho⟩ := ins_get I.hok e
 have hz : (fs.map (·.1)).length ≤ sizeLine := by rw [List.length_map, sizeLine_eq]; omega
 refine set_map I.kIn O c.sa c.po n.taker c.hd wi hz fun h' O' sb => h _ ?_
 have hd : ∃ o, h'.get? dx = some o := let ⟨o, _, _, e', _⟩ := O'.ns; ⟨o, e'⟩
 refine I.write (x := a) (e := dx) (by rw [e]; exact True.intro) (.inr ho) (fun b q hb z => (sb.2 b hb).trans z) hd ?_
 refine ⟨by rw [upd_ne O.ne]; exact ho, ?_, O.ne, O'.obj, _, O'.ns, fun g => ?_, fun g hg => ?_⟩
 ·have := length_putF f y fs; omega
 ·show RelO ((putF f y fs).lookup g) (if g = f then some u else mA g)
  rw [lookup_putF]
  by_cases q : g = f
  ·rw [if_pos q, if_pos q]; exact ry
  ·rw [if_neg q, if_neg q]; exact r g
 ·by_cases q : g = f
  ·rw [q]; exact (keys_putF f y fs).1
  ·refine (keys_putF f y fs).2 g (wi g fun z => hg ?_)
   show (if g = f then some u else mA g) = none
   rw [if_neg q]; exact z
theorem Inv.made (I : Inv X pins σ H s) : Inv X pins σ (upd (upd H s.heap.objs.size (.own (s.heap.objs.size + 1))) (s.heap.objs.size + 1) (.ins C s.heap.objs.size []))
  { s with heap := (s.heap.push PySem.W.emptyDict).push (PySem.W.instObj C s.heap.objs.size) } := by
 have e1 : (s.heap.push PySem.W.emptyDict).get? s.heap.objs.size = some PySem.W.emptyDict := Heap.get?_push_size s.heap rfl
 have e2 : ((s.heap.push PySem.W.emptyDict).push (PySem.W.instObj C s.heap.objs.size)).get? (s.heap.objs.size + 1) = some (PySem.W.instObj C s.heap.objs.size) := by
  have := Heap.get?_push_size (s.heap.push PySem.W.emptyDict) (o := PySem.W.instObj C s.heap.objs.size) rfl
  rwa [Heap.size_push] at this
 have e3 : (s.heap.push PySem.W.emptyDict).Ns s.heap.objs.size (fun _ => none) := ⟨PySem.W.emptyDict, #[], _, e1, rfl, (fun e he => absurd he (by simp)), fun _ => rfl⟩
 have I1 := I.laid (a := s.heap.objs.size) (o := .own (s.heap.objs.size + 1)) (h' := s.heap.push PySem.W.emptyDict) (t' := s.toks) (fun b u q => Heap.get?_push_of_some _ q) (Nat.le_refl _) ⟨_, e1⟩
 refine I1.laid (a := s.heap.objs.size + 1) (o := .ins C s.heap.objs.size []) (t' := s.toks) (fun b u q => Heap.get?_push_of_some _ q) (Nat.le_of_eq (Heap.size_push _ _)) ?_
 have ne : s.heap.objs.size ≠ s.heap.objs.size + 1 := Nat.ne_of_lt (Nat.lt_succ_self _)
 refine ⟨by rw [upd_ne ne, upd_same], Nat.zero_le _, ne, e2, fun _ => none, (Heap.Ns1.of_empty e3).at fun o q => Heap.get?_push_of_some _ q, fun _ => True.intro, fun y hy => absurd rfl hy⟩
theorem attr_of {prog : Program} {w : World} {env : Env} {e : Expr} {f : Str} {pos : Pos} {s : Shared} {Q : Value → Shared → Prop} (hb : attributeBase e f env (eval e env) = eval e env)
  (h : wpAny (model prog w) A (eval e env) (fun o s₁ => wpAny (model prog w) A (getAttr o f true) Q E s₁) E s) : wpAny (model prog w) A (eval (.Attribute e f pos) env) Q E s :=
 Attribute_any_ h (by rw [arm_eval_Attribute, hb])
end
def tFld (K : PySem.W.Frag) (ta : TE) (f : Str) : TE := fun σ H Q => ta σ H fun x H1 => ∃ a C dx fs v, x = .ref a ∧ H1 a = some (.ins C dx fs) ∧ Cls K C ∧ NoAttr K C f ∧ fs.lookup f = some v ∧ Q v H1
def sFld (K : PySem.W.Frag) (ta tv : TE) (f : Str) : TS := fun D σ H => tv σ H fun y H1 => ta σ H1 fun x H2 => ∃ a C dx fs, x = .ref a ∧ H2 a = some (.ins C dx fs) ∧ Cls K C ∧ NoAttr K C f ∧ fs.length < 1000 ∧
 D.nx σ (upd H2 a (.ins C dx (putF f y fs)))
section
variable {X : Cx} {o e value : Expr} {f : Str} {pos pos' tpos : Pos} {ta tv : TE}
theorem pe_fld (he : PE X e ta) (hb : attributeBase e f X.env (eval e X.env) = eval e X.env) : PE X (.Attribute e f pos) (tFld X.K ta f) := by
 intro pins s σ H Q I h
 refine attr_of hb (thn (he pins s σ H _ I h) fun u s1 ⟨x, H1, I1, rx, a, C, dx, fs, v, ex, ea, c, n, l, q⟩ => ?_)
 subst ex
 obtain rfl : u = Value.ref a := rx
 exact getattr_ok I1 ea c n l fun u' s2 I2 ru => ⟨v, H1, I2, ru, q⟩
theorem ps_fld (ha : PE X o ta) (hv : PE X value tv) (hs : swapsWith value (some (.Attribute o f pos')) pos.line X.env = pure false) : PS X (.Assign [.Attribute o f pos'] value pos) (sFld X.K ta tv f) := by
 intro pins s σ H D I h
 refine plainObj_wpAny_Assign_Attribute (thn (hv pins s σ H _ I h) fun u s1 ⟨y, H1, I1, ry, q⟩ => thn (ha pins s1 σ H1 _ I1 q) fun ov s2 ⟨x, H2, I2, rx, a, C, dx, fs, ex, ea, c, n, l, q2⟩ => ?_) hs
 subst ex
 obtain rfl : ov = Value.ref a := rx
 exact setattr_ok I2 ea c n l ry fun s3 I3 => ⟨σ, _, I3, q2⟩
end
section
variable {X : Cx} {pins : List (Addr × Obj)} {σ : St} {H : Hp} {s : Shared} {A : Around} {E : Value → Shared → Prop} {Q : Value → Shared → Prop} {c : Value} {b : Bool}
inductive TyOf (K : PySem.W.Frag) (H : Hp) : V → Value → Prop where
 | non : TyOf K H .non (.type "NoneType")
 | bl (x : Bool) : TyOf K H (.bl x) (.type "bool")
 | int (i : Int) : TyOf K H (.int i) (.type "int")
 | str (x : Str) : TyOf K H (.str x) (.type "str")
 | flt (x : UInt64) : TyOf K H (.flt x) (.type "float")
 | lst {a : Addr} {xs : List V} (e : H a = some (.lst xs)) : TyOf K H (.ref a) (.type "list")
 | frz {a : Addr} {o : Obj} {xs : List V} (e : H a = some (.frz o (.lst xs))) : TyOf K H (.ref a) (.type "list")
 | tup {a : Addr} {xs : List V} (e : H a = some (.tup xs)) : TyOf K H (.ref a) (.type "tuple")
 | dK {a : Addr} {kvs : List (Key × V)} (e : H a = some (.dK kvs)) : TyOf K H (.ref a) (.type "dict")
 | dT {a : Addr} {kvs : List (List Key × V)} (e : H a = some (.dT kvs)) : TyOf K H (.ref a) (.type "dict")
 | ins {a C dx : Addr} {fs : List (Str × V)} (e : H a = some (.ins C dx fs)) (cl : Cls K C) (ha : PySem.W.findIn K (.ref C) "__class__" = some (some (.builtin "object.__class__")))
   (hn : PySem.W.specialIn K (.builtin "object.__class__") "__get__" = some (some (.builtin "getset_descriptor.__get__"))) (htk : PySem.W.takesIn K (.builtin "object.__class__") = some true)
   (hm : PySem.W.mroIn K C (.type "object") = some true) : TyOf K H (.ref a) (.ref C)
theorem isinst_ok {x : V} {u t : Value} (I : Inv X pins σ H s) (rx : RelV x u) (ty : TyOf X.K H x t) (e : PySem.W.kitOne X.K t c = some b) (h : ∀ tk, Q (.bool b) { s with toks := tk }) :
  wpAny (model X.prog X.w) A (call (.builtin "isinstance") [u, c]) Q E s := by
 cases ty with
 | non => cases (show u = Value.none from rx); exact PySem.W.kia_one PySem.W.kitx_none I.kIn True.intro e (fun z => nomatch z) h
 | bl y => cases (show u = Value.bool y from rx); exact PySem.W.kia_one PySem.W.kitx_bool I.kIn True.intro e (fun z => nomatch z) h
 | int i => obtain ⟨t, q⟩ := (show ∃ t, u = Value.int i t from rx); cases q; exact PySem.W.kia_one PySem.W.kitx_int I.kIn True.intro e (fun z => nomatch z) h
 | str y => obtain ⟨t, q⟩ := (show ∃ t, u = Value.str y t from rx); cases q; exact PySem.W.kia_one PySem.W.kitx_str I.kIn True.intro e (fun z => nomatch z) h
 | flt y => obtain ⟨t, q⟩ := (show ∃ t, u = Value.float y t from rx); cases q; exact PySem.W.kia_one PySem.W.kitx_float I.kIn True.intro e (fun z => nomatch z) h
 | @lst a xs ea =>
  cases (show u = Value.ref a from rx)
  obtain ⟨_, _, n, _, h1⟩ := (show ObjOk X.prog X.w H s.heap a (.lst xs) from I.hok a _ ea)
  exact PySem.W.kia_one PySem.W.kitx_list I.kIn ⟨_, h1, rfl⟩ e (fun z => nomatch z) h
 | @frz a ob xs ea =>
  cases (show u = Value.ref a from rx)
  obtain ⟨_, _, _, n, _, h1⟩ := (show ObjOk X.prog X.w H s.heap a (.frz ob (.lst xs)) from I.hok a _ ea)
  exact PySem.W.kia_one PySem.W.kitx_list I.kIn ⟨_, h1, rfl⟩ e (fun z => nomatch z) h
 | @tup a xs ea =>
  cases (show u = Value.ref a from rx)
  obtain ⟨_, _, _, p⟩ := (show ObjOk X.prog X.w H s.heap a (.tup xs) from I.hok a _ ea)
  obtain ⟨o, h1, h2, _⟩ := p
  exact PySem.W.kia_one PySem.W.kitx_tuple I.kIn ⟨o, h1, h2⟩ e (fun z => nomatch z) h
 | @dK a kvs ea =>
  cases (show u = Value.ref a from rx)
  obtain ⟨_, _, vs, _, p⟩ := (show ObjOk X.prog X.w H s.heap a (.dK kvs) from I.hok a _ ea)
  obtain ⟨o, es, ep, h1, h2, _⟩ := p
  exact PySem.W.kia_one PySem.W.kitx_dict I.kIn ⟨o, h1, h2.1⟩ e (fun z => nomatch z) h
 | @dT a kvs ea =>
  cases (show u = Value.ref a from rx)
  obtain ⟨_, _, xs, _, o, es, ep, h1, h2, _⟩ := (show ObjOk X.prog X.w H s.heap a (.dT kvs) from I.hok a _ ea)
  exact PySem.W.kia_one PySem.W.kitx_dict I.kIn ⟨o, h1, h2.1⟩ e (fun z => nomatch z) h
 | @ins a C dx fs ea cl ha hn htk hm =>
  cases (show u = Value.ref a from rx)
  obtain ⟨mA, O, _⟩ := ins_get I.hok ea
  obtain ⟨od, J, _⟩ := O.look
  exact PySem.W.kia_one (PySem.W.kitx_own (cl.get _) cl.hd ha hn htk hm) I.kIn J e (fun z => nomatch z) h
end
end L2
namespace L2
open PySem PySem.Spec PyProof.Rows
structure Room (k : Nat) (A : Around) : Prop where
 hd : A.handled = none
 dp : A.depth + 3 * k + 5 < recursionLimit
 un : A.units + 16 * k + 200 < cLine
theorem Room.mono {j k : Nat} {A : Around} (r : Room k A) (h : j ≤ k) : Room j A := ⟨r.hd, by have := r.dp; omega, by have := r.un; omega⟩
theorem Room.deeper {k : Nat} {A : Around} (r : Room (k + 1) A) (env : Env) : Room k (A.deeper env) :=
 ⟨r.hd, by have := r.dp; show A.depth + 1 + 3 * k + 5 < _; omega, by have := r.un; show A.units + 3 + 16 * k + 200 < _; omega⟩
theorem make_depth {A : Around} {C : Addr} {us : List Value} {kw : List (Str × Value)} : (A.under (.builtin "type.__call__" ⟨.ref C :: us, kw⟩)).depth = A.depth + 1 := by
 first | rfl | simp [Around.under, Code.weight, Code.isCreation, Code.isGuard, Code.isCaller, Code.frames, Code.isFrame, guardIds]
theorem make_units {A : Around} {C : Addr} {us : List Value} {kw : List (Str × Value)} : (A.under (.builtin "type.__call__" ⟨.ref C :: us, kw⟩)).units = A.units + 1 := by
 first | rfl | simp [Around.under, Code.cUnits, Code.frames, Code.isFrame]
theorem Room.make {k : Nat} {A : Around} (r : Room (k + 1) A) (C : Addr) (us : List Value) (kw : List (Str × Value)) : Room k (A.under (.builtin "type.__call__" ⟨.ref C :: us, kw⟩)) :=
 ⟨r.hd, by have := r.dp; rw [make_depth]; omega, by have := r.un; rw [make_units]; omega⟩
theorem Room.depth {k : Nat} {A : Around} (r : Room k A) : A.depth < recursionLimit := by have := r.dp; omega
theorem Room.units {k : Nat} {A : Around} (r : Room k A) : A.units + 64 < cLine := by have := r.un; omega
def tNil : TA := fun _ H Q => Q [] H
def tCons (ta : TE) (tr : TA) : TA := fun σ H Q => ta σ H fun x H1 => tr σ H1 fun xs H2 => Q (x :: xs) H2
section
variable {X : Cx} {e : Expr} {es : List Expr} {te : TE} {t : TA} {pos : Pos}
theorem pa_nil : PA X [] tNil := fun _ _ _ _ H Q I h => Calls.spliced_nil ⟨[], H, I, .nil, h⟩
theorem pa_cons (ha : PE X e te) (hr : PA X es t) (hs : starEach (e :: es) X.env = (false, eval e X.env) :: starEach es X.env := by rfl) : PA X (e :: es) (tCons te t) := by
 intro pos pins s σ H Q I h
 rw [hs]
 show wpAny _ _ (spliced ((false, eval e X.env) :: backTo pos (starEach es X.env))) _ _ s
 refine Calls.spliced_cons (thn (ha pins s σ H _ I h) fun u s1 ⟨x, H1, I1, r1, q1⟩ => ?_)
 exact thn (hr pos pins s1 σ H1 _ I1 q1) fun us s2 ⟨xs, H2, I2, r2, q2⟩ => ⟨x :: xs, H2, I2, .cons r1 r2, q2⟩
def tTup (t : TA) : TE := fun σ H Q => t σ H fun xs H1 => xs.length ≤ sizeLine ∧ ∀ p, H1 p = none → Q (.ref p) (upd H1 p (.tup xs))
def tLst (t : TA) : TE := fun σ H Q => t σ H fun xs H1 => xs.length ≤ sizeLine ∧ ∀ p, H1 p = none → Q (.ref p) (upd H1 p (.lst xs))
theorem pe_tup {x1} (h : PA X es t) : PE X (.Tuple es x1 pos) (tTup t) := by
 intro pins s σ H Q I hq
 refine wpAny_Tuple_spliced (thn (h pos pins s σ H _ I hq) fun us s1 ⟨xs, H1, I1, r, z, q⟩ => ⟨by rw [← r.length]; exact z, ?_⟩)
 have hf : H1 s1.heap.objs.size = none := I1.hok.fresh (Nat.le_refl _)
 refine ⟨.ref s1.heap.objs.size, upd H1 s1.heap.objs.size (.tup xs), I1.laid (t' := s1.toks) (fun b u e => Heap.get?_push_of_some _ e) (Nat.le_refl _) ?_, rfl, q _ hf⟩
 exact ⟨z, us, r, ⟨_, Heap.get?_push_size _ rfl, rfl, _, rfl⟩⟩
theorem pe_lst (h : PA X es t) : PE X (.List es pos) (tLst t) := by
 intro pins s σ H Q I hq
 refine wpAny_List_spliced (thn (h pos pins s σ H _ I hq) fun us s1 ⟨xs, H1, I1, r, z, q⟩ => ⟨by rw [← r.length]; exact z, ?_⟩)
 have hf : H1 s1.heap.objs.size = none := I1.hok.fresh (Nat.le_refl _)
 refine ⟨.ref s1.heap.objs.size, upd H1 s1.heap.objs.size (.lst xs), I1.laid (t' := s1.toks) (fun b u e => Heap.get?_push_of_some _ e) (Nat.le_refl _) ?_, rfl, q _ hf⟩
 exact ⟨z, us, 0, r, Heap.get?_push_size _ rfl⟩
end
abbrev Sp := List V → Hp → VK → XK → Prop
abbrev CXT := List Env → Hp → Shared → XK → Value → Shared → Prop
structure Env0 (P : Program) (w : World) (K : PySem.W.Frag) (mg : Str → Option Value) (base : Heap) (A : Around) (outer : List Env) (s : Shared) (H : Hp) : Prop where
 frames : A.frames = some outer
 mod : Mod K mg base
 bs : ∀ b o, base.get? b = some o → s.heap.get? b = some o ∧ H b = none
 bsz : base.objs.size ≤ s.heap.objs.size
 funs : s.heap.FunFrames base outer
 frf : ∀ b ∈ frs outer, H b = none
 hok : HOk P w H s.heap
 bare : AllBare s.gens
def CE (outer : List Env) (P : Program) (w : World) (H : Hp) (s : Shared) (Q : VK) (u : Value) (s' : Shared) : Prop :=
 ∃ v H', s'.os = s.os ∧ AllBare s'.gens ∧ Un (frs outer) [] H H' s.heap s'.heap ∧ HOk P w H' s'.heap ∧ RelV v u ∧ Q v H'
def CR (CX : CXT) (outer : List Env) (P : Program) (w : World) (H : Hp) (s : Shared) (Q : VK) (E : XK) (r : Result) (s' : Shared) : Prop :=
 match r with
 | .ok (.ret u) => CE outer P w H s Q u s'
 | .ok _ => False
 | .error e => CX outer H s E e s'
structure FnOk (P : Program) (w : World) (K : PySem.W.Frag) (mg : Str → Option Value) (base : Heap) (CX : CXT) (k : Nat) (f : Addr) (fd : FuncData) (ps : List Str) (sp : Sp) : Prop where
 len : ∀ vs H Q E, sp vs H Q E → vs.length = ps.length
 run : ∀ (A : Around) (outer : List Env) (s : Shared) (H : Hp) (args : Args) (us : List Value) (vs : List V) (Q : VK) (E : XK), Room k A → Env0 P w K mg base A outer s H → BindsTo s fd args (ps.zip us) → Vals vs us → sp vs H Q E →
  codeAny (model P w) A (.call (.ref f) args) (CR CX outer P w H s Q E) s
theorem FnOk.imp {P : Program} {w : World} {K : PySem.W.Frag} {mg : Str → Option Value} {base : Heap} {CX : CXT} {k : Nat} {f : Addr} {fd : FuncData} {ps : List Str} {sp sp' : Sp} (F : FnOk P w K mg base CX k f fd ps sp)
  (h : ∀ vs H Q E, sp' vs H Q E → sp vs H Q E) : FnOk P w K mg base CX k f fd ps sp' :=
 ⟨fun vs H Q E q => F.len vs H Q E (h _ _ _ _ q), fun A outer s H args us vs Q E hr he hb hv hs => F.run A outer s H args us vs Q E hr he hb hv (h _ _ _ _ hs)⟩
theorem Env0.make {P : Program} {w : World} {K : PySem.W.Frag} {mg : Str → Option Value} {base : Heap} {A : Around} {outer : List Env} {s : Shared} {H : Hp} (e : Env0 P w K mg base A outer s H) (C : Addr) (us : List Value) (kw : List (Str × Value)) :
  Env0 P w K mg base (A.under (.builtin "type.__call__" ⟨.ref C :: us, kw⟩)) outer s H := ⟨by first | exact e.frames | (simpa [Around.under, Code.envs, Code.isFrame, pushEnvs] using e.frames), e.mod, e.bs, e.bsz, e.funs, e.frf, e.hok, e.bare⟩
section
variable {X : Cx} {pins : List (Addr × Obj)} {σ : St} {H : Hp} {s s' : Shared}
theorem Inv.env0 (I : Inv X pins σ H s) : Env0 X.prog X.w X.K X.mg X.base X.A X.stack s H :=
 ⟨I.ok.frames, I.ok.mod, I.bs, Nat.le_trans I.ok.bsz I.sz, I.stack, I.stkFree, I.hok, I.bare⟩
theorem Inv.after {Q : VK} {u : Value} (I : Inv X pins σ H s) (h : CE X.stack X.prog X.w H s Q u s') : EP X pins σ Q u s' := by
 obtain ⟨v, H', os, bare, un, hok, r, q⟩ := h
 obtain ⟨hh, g, d, t, os'⟩ := s'
 obtain rfl : os' = s.os := os
 exact ⟨v, H', I.call (h' := hh) (g' := g) (d' := d) (t' := t) (ch := []) un hok bare (fun b z => absurd z (by simp)), r, q⟩
end
def tCall (sp : Sp) (dvs : List V) (E : XK) (t : TA) : TE := fun σ H Q => t σ H fun vs H1 => sp (vs ++ dvs) H1 Q E
def tMeth (C : Addr) (m : Str) (sp : Sp) (dvs : List V) (E : XK) (ta : TE) (t : TA) : TE := fun σ H Q => ta σ H fun x H1 => ∃ a dx fs, x = .ref a ∧ H1 a = some (.ins C dx fs) ∧ fs.lookup m = none ∧
 t σ H1 fun vs H2 => sp (x :: (vs ++ dvs)) H2 Q E
def tMake (C : Addr) (sp : Sp) (dvs : List V) (E : XK) (t : TA) : TE := fun σ H Q => t σ H fun vs H1 => ∀ x dx, H1 x = none → H1 dx = none → dx ≠ x →
 sp (.ref x :: (vs ++ dvs)) (upd (upd H1 dx (.own x)) x (.ins C dx [])) (fun v H2 => v = .non ∧ Q (.ref x) H2) E
def Binds (K : PySem.W.Frag) (fd : FuncData) (ps : List Str) (ds : List Value) : Prop :=
 ∀ (s : Shared) (us : List Value), K.In s.heap → (us ++ ds).length = ps.length → BindsTo s fd ⟨us, []⟩ (ps.zip (us ++ ds))
theorem Binds.all {K : PySem.W.Frag} {fd : FuncData} {ps : List Str} (h : ∀ us : List Value, us.length = ps.length → bindArgs fd ⟨us, []⟩ = pure (ps.zip us)) : Binds K fd ps [] := fun s us _ hl => by
 rw [List.append_nil] at hl ⊢
 exact .of_eq (h us hl)
def Passes (CX : CXT) (X : Cx) (E : XK) : Prop := ∀ (pins : List (Addr × Obj)) (σ : St) (H : Hp) (s : Shared) (e : Value) (s' : Shared), Inv X pins σ H s → CX X.stack H s E e s' → X.xe e s'
section
variable {X : Cx} {CX : CXT} {k : Nat} {f C : Addr} {fd : FuncData} {ps : List Str} {sp : Sp} {dvs : List V} {ds : List Value} {E : XK} {x m : Str} {p pos apos : Pos} {e o : Expr} {es : List Expr} {ta : TE} {t : TA}
theorem run_fn {pins : List (Addr × Obj)} {σ : St} {H : Hp} {s : Shared} {Q : VK} {us : List Value} {vs : List V} (F : FnOk X.prog X.w X.K X.mg X.base CX k f fd ps sp) (hr : Room k X.A) (hb : Binds X.K fd ps ds) (hd : Vals dvs ds) (hx : Passes CX X E)
  (I : Inv X pins σ H s) (r : Vals vs us) (h : sp (vs ++ dvs) H Q E) : wpAny (model X.prog X.w) X.A (call (.ref f) us) (EP X pins σ Q) X.xe s := by
 have r2 : Vals (vs ++ dvs) (us ++ ds) := r.append hd
 have hl : (us ++ ds).length = ps.length := by rw [← r2.length]; exact F.len _ _ _ _ h
 refine wpAny_call (codeAny_mono (F.run X.A X.stack s H ⟨us, []⟩ (us ++ ds) (vs ++ dvs) Q E hr I.env0 (hb s us I.kIn hl) r2 h) fun r s' hq => ?_)
 cases r with
 | error e => exact hx pins σ H s e s' I hq
 | ok fl =>
  cases fl with
  | ret u => exact I.after hq
  | next => exact False.elim hq
  | brk => exact False.elim hq
  | cont => exact False.elim hq
theorem pe_call (F : FnOk X.prog X.w X.K X.mg X.base CX k f fd ps sp) (hr : Room k X.A) (hg : Gl X x) (hm : X.mg x = some (.ref f)) (hk : PySem.W.keepIn X.K (.ref f) = true) (hb : Binds X.K fd ps ds) (hd : Vals dvs ds) (hx : Passes CX X E)
  (ha : PA X (e :: es) t) (hdb : (x == ("__debug__" : Str)) = false := by decide) (he : starEach (e :: es) X.env = (false, eval e X.env) :: starEach es X.env := by rfl) (hpl : (backTo pos (starEach es X.env)).any (·.1) = false := by rfl) :
  PE X (.Call (.Name x p) (e :: es) [] pos) (tCall sp dvs E t) := by
 intro pins s σ H Q I h
 refine wpAny_Call_Name_kw (ld_glob I hg hm ?_ hdb)
 refine PySem.W.callWith_K (h₀ := X.base) I.ok.mod.kin hk (thn (ha pos pins s σ H _ I h) fun us s1 ⟨vs, H1, I1, r, q⟩ => ⟨I1.kIn, ?_⟩) he hpl
 exact run_fn F hr hb hd hx I1 r q
theorem pe_meth {pl : Sem Bool} (he : PE X o ta) (c : Cls X.K C) (hm : Meth X.K C m f) (F : FnOk X.prog X.w X.K X.mg X.base CX k f fd ps sp) (hr : Room k X.A) (hb : Binds X.K fd ps ds) (hd : Vals dvs ds) (hx : Passes CX X E) (ha : PA X (e :: es) t)
  (hst : starEach (e :: es) X.env = (false, eval e X.env) :: starEach es X.env := by rfl) (hpl : (backTo pos (starEach es X.env)).any (·.1) = false := by rfl)
  (ht : eval (.Call (.Attribute o m apos) (e :: es) [] pos) X.env = (do
   let ov ← eval o X.env
   standAt apos.atName
   let (f, first) ← holding [ov] (getMethod ov m pl)
   callWith pos f first (backTo pos (starEach (e :: es) X.env)) (backToKw pos (keywordEach [] X.env))) := by rfl) :
  PE X (.Call (.Attribute o m apos) (e :: es) [] pos) (tMeth C m sp dvs E ta t) := by
 intro pins s σ H Q I h
 refine PySem.W.methodCall_KW (pl := pl) (thn (he pins s σ H _ I h) fun u s1 ⟨x, H1, I1, rx, a, dx, fs, ex, ea, l, q⟩ => ?_) ht
 subst ex
 obtain rfl : u = Value.ref a := rx
 refine getmeth_ok I1 ea c hm l ?_
 refine PySem.W.callWith_K (first := [.ref a]) (h₀ := X.base) I.ok.mod.kin hm.kp (thn (ha pos pins s1 σ H1 _ I1 q) fun us s2 ⟨vs, H2, I2, r, q2⟩ => ⟨I2.kIn, ?_⟩) hst hpl
 exact run_fn (us := .ref a :: us) (vs := .ref a :: vs) F hr hb hd hx I2 (.cons rfl r) q2
theorem pe_meth0 {pl : Sem Bool} (he : PE X o ta) (c : Cls X.K C) (hm : Meth X.K C m f) (F : FnOk X.prog X.w X.K X.mg X.base CX k f fd ps sp) (hr : Room k X.A) (hb : Binds X.K fd ps ds) (hd : Vals dvs ds) (hx : Passes CX X E)
  (ht : eval (.Call (.Attribute o m apos) [] [] pos) X.env = (do
   let ov ← eval o X.env
   standAt apos.atName
   let (f, first) ← holding [ov] (getMethod ov m pl)
   callWith pos f first (backTo pos (starEach [] X.env)) (backToKw pos (keywordEach [] X.env))) := by rfl) :
  PE X (.Call (.Attribute o m apos) [] [] pos) (tMeth C m sp dvs E ta tNil) := by
 intro pins s σ H Q I h
 refine PySem.W.methodCall_KW (pl := pl) (thn (he pins s σ H _ I h) fun u s1 ⟨x, H1, I1, rx, a, dx, fs, ex, ea, l, q⟩ => ?_) ht
 subst ex
 obtain rfl : u = Value.ref a := rx
 refine getmeth_ok I1 ea c hm l ?_
 exact PySem.W.callWith_K0 (first := [.ref a]) I1.kIn hm.kp (run_fn (us := [.ref a]) (vs := [.ref a]) F hr hb hd hx I1 (.cons rfl .nil) q)
structure Mk (K : PySem.W.Frag) (C f : Addr) : Prop where
 makes : PySem.W.makesIn K C = true
 init : PySem.W.findIn K (.ref C) "__init__" = some (some (.ref f))
 fn : PySem.W.isFn K (.ref f) = true
 kp : PySem.W.keepIn K (.ref C) = true
theorem run_make {pins : List (Addr × Obj)} {σ : St} {H : Hp} {s : Shared} {Q : VK} {us : List Value} {vs : List V} (M : Mk X.K C f) (F : FnOk X.prog X.w X.K X.mg X.base CX k f fd ps sp) (hr : Room (k + 1) X.A) (hb : Binds X.K fd ps ds) (hd : Vals dvs ds)
  (hx : Passes CX X E) (I : Inv X pins σ H s) (r : Vals vs us)
  (h : ∀ x dx, H x = none → H dx = none → dx ≠ x → sp (.ref x :: (vs ++ dvs)) (upd (upd H dx (.own x)) x (.ins C dx [])) (fun v H2 => v = .non ∧ Q (.ref x) H2) E) :
  wpAny (model X.prog X.w) X.A (call (.ref C) us) (EP X pins σ Q) X.xe s := by
 have hq := h (s.heap.objs.size + 1) s.heap.objs.size (I.hok.fresh (Nat.le_succ _)) (I.hok.fresh (Nat.le_refl _)) (Nat.ne_of_lt (Nat.lt_succ_self _))
 have I2 := Inv.made (C := C) I
 have r2 : Vals (V.ref (s.heap.objs.size + 1) :: (vs ++ dvs)) (Value.ref (s.heap.objs.size + 1) :: (us ++ ds)) := .cons rfl (r.append hd)
 have hl : (Value.ref (s.heap.objs.size + 1) :: us ++ ds).length = ps.length := by
  have e := r2.length
  rw [F.len _ _ _ _ hq] at e
  exact e.symm
 refine wpAny_call (make_map (f := f) I.kIn M.makes M.init (beq_iff_eq.mp M.fn) (codeAny_mono (F.run _ X.stack _ _ ⟨Value.ref (s.heap.objs.size + 1) :: us, []⟩ (Value.ref (s.heap.objs.size + 1) :: (us ++ ds)) _ _ E (hr.make C us [])
  (I2.env0.make C us []) (hb _ (Value.ref (s.heap.objs.size + 1) :: us) I2.kIn hl) r2 hq) fun r s' hq' => ?_))
 cases r with
 | error e => exact hx pins σ _ _ e s' I2 hq'
 | ok fl =>
  cases fl with
  | ret u =>
   obtain ⟨v, H', I3, rv, ev, q3⟩ := I2.after hq'
   subst ev
   exact ⟨rv, ⟨V.ref (s.heap.objs.size + 1), H', I3, rfl, q3⟩⟩
  | next => exact False.elim hq'
  | brk => exact False.elim hq'
  | cont => exact False.elim hq'
theorem pe_make (M : Mk X.K C f) (F : FnOk X.prog X.w X.K X.mg X.base CX k f fd ps sp) (hr : Room (k + 1) X.A) (hg : Gl X x) (hm : X.mg x = some (.ref C)) (hb : Binds X.K fd ps ds) (hd : Vals dvs ds) (hx : Passes CX X E)
  (ha : PA X (e :: es) t) (hdb : (x == ("__debug__" : Str)) = false := by decide) (he : starEach (e :: es) X.env = (false, eval e X.env) :: starEach es X.env := by rfl) (hpl : (backTo pos (starEach es X.env)).any (·.1) = false := by rfl) :
  PE X (.Call (.Name x p) (e :: es) [] pos) (tMake C sp dvs E t) := by
 intro pins s σ H Q I h
 refine wpAny_Call_Name_kw (ld_glob I hg hm ?_ hdb)
 refine PySem.W.callWith_K (h₀ := X.base) I.ok.mod.kin M.kp (thn (ha pos pins s σ H _ I h) fun us s1 ⟨vs, H1, I1, r, q⟩ => ⟨I1.kIn, ?_⟩) he hpl
 exact run_make M F hr hb hd hx I1 r q
end
section
variable {X : Cx} {CX : CXT} {k : Nat} {f C : Addr} {fd : FuncData} {ps ks : List Str} {sp : Sp} {E : XK} {x m : Str} {p pos apos kpos : Pos} {e o : Expr} {es : List Expr} {kws : List Keyword} {te ta : TE} {t tk : TA} {nm : Option Str}
variable {g : List Value → List Value → List Value} {gV : List V → List V → List V}
end
structure FnScope (N P : List Str) (sc : Scope) : Prop where
 kind : sc.kind = .function
 co : sc.isCoroutine = false
 gen : sc.isGenerator = false
 nd : N.Nodup
 pre : N.take P.length = P
 par : ∀ x ∈ P, sc.names.lookup x = some .local ∨ sc.names.lookup x = some .cell
 nofree : ∀ y ∈ sc.names, y.2 ≠ .free
theorem bindL_out {kindOf : Str → Option NameKind} {x : Str} : ∀ {binds : List (Str × Value)} {m : Str → Option Value}, (∀ v, (x, v) ∉ binds) → bindL kindOf binds m x = m x
 | [], _, _ => rfl
 | (n, v) :: r, m, h => by
  unfold bindL
  rw [bindL_out fun w hw => h w (List.mem_cons_of_mem _ hw)]
  split
  ·have : x ≠ n := by rintro rfl; exact h v List.mem_cons_self
   simp [this]
  ·rfl
theorem bindC_out {kindOf : Str → Option NameKind} {x : Str} : ∀ {binds : List (Str × Value)} {m : Str → Option Value}, (∀ v, (x, v) ∉ binds) → bindC kindOf binds m x = m x
 | [], _, _ => rfl
 | (n, v) :: r, m, h => by
  unfold bindC
  rw [bindC_out fun w hw => h w (List.mem_cons_of_mem _ hw)]
  split
  ·rfl
  ·have : x ≠ n := by rintro rfl; exact h v List.mem_cons_self
   simp [this]
theorem bindL_get {kindOf : Str → Option NameKind} {x : Str} {v : Value} : ∀ {P : List Str} {vs : List Value} {i : Nat} {m : Str → Option Value}, P.Nodup → P[i]? = some x → vs[i]? = some v → kindOf x = some .local →
  bindL kindOf (P.zip vs) m x = some v
 | [], _, _, _, _, h, _, _ => by simp at h
 | _ :: _, [], _, _, _, _, h, _ => by simp at h
 | p :: P, w :: vs, 0, m, nd, h1, h2, hk => by
  simp at h1 h2; subst h1; subst h2
  show bindL kindOf ((p, w) :: P.zip vs) m p = _
  unfold bindL
  rw [bindL_out fun v hv => (List.nodup_cons.mp nd).1 (List.of_mem_zip hv).1, if_pos hk]
  simp
 | p :: P, w :: vs, i + 1, m, nd, h1, h2, hk => by
  show bindL kindOf ((p, w) :: P.zip vs) m x = _
  unfold bindL
  exact bindL_get (i := i) (List.nodup_cons.mp nd).2 (by simpa using h1) (by simpa using h2) hk
theorem bindC_get {kindOf : Str → Option NameKind} {x : Str} {v : Value} : ∀ {P : List Str} {vs : List Value} {i : Nat} {m : Str → Option Value}, P.Nodup → P[i]? = some x → vs[i]? = some v → kindOf x ≠ some .local →
  bindC kindOf (P.zip vs) m x = some v
 | [], _, _, _, _, h, _, _ => by simp at h
 | _ :: _, [], _, _, _, _, h, _ => by simp at h
 | p :: P, w :: vs, 0, m, nd, h1, h2, hk => by
  simp at h1 h2; subst h1; subst h2
  show bindC kindOf ((p, w) :: P.zip vs) m p = _
  unfold bindC
  rw [bindC_out fun v hv => (List.nodup_cons.mp nd).1 (List.of_mem_zip hv).1, if_neg hk]
  simp
 | p :: P, w :: vs, i + 1, m, nd, h1, h2, hk => by
  show bindC kindOf ((p, w) :: P.zip vs) m x = _
  unfold bindC
  exact bindC_get (i := i) (List.nodup_cons.mp nd).2 (by simpa using h1) (by simpa using h2) hk
def start (N : List Str) (vs : List V) : St := vs.map some ++ List.replicate (N.length - vs.length) none
def cxOf (CX : CXT) (P : Program) (w : World) (K : PySem.W.Frag) (mg : Str → Option Value) (base : Heap) (N : List Str) (qual : Str) (scope : Scope) (f : Addr) (cd : Value) (A : Around) (outer : List Env) (s : Shared) (H : Hp) (E : XK) : Cx where
 prog := P
 w := w
 K := K
 mg := mg
 base := base
 A := A.deeper (envOfC qual scope s.heap.objs.size f cd)
 N := N
 s₀ := s
 H₀ := H
 env := envOfC qual scope s.heap.objs.size f cd
 outer := outer
 stack := envOfC qual scope s.heap.objs.size f cd :: outer
 ex := []
 calm := true
 fn := fun _ => true
 pn := []
 xe := fun e s' => wpAny (model P w) (A.deeper (envOfC qual scope s.heap.objs.size f cd)) (leaving (envOfC qual scope s.heap.objs.size f cd) e) (fun _ s'' => CX outer H s E e s'') (fun e' s'' => CX outer H s E e' s'') s'
theorem cell_has {sc : Scope} {n : Nat} {x : Str} (h : sc.names.lookup x = some .cell) : ∃ c, (cellsFrom n sc.names []).lookup x = some c := by
 have q := PySem.W.cellsFrom_some sc.names n [] (.inl h)
 exact Option.isSome_iff_exists.mp q
theorem inv_start {CX : CXT} {P : Program} {w : World} {K : PySem.W.Frag} {mg : Str → Option Value} {base : Heap} {N ps : List Str} {qual : Str} {scope : Scope} {f : Addr} {cd : Value} {A : Around} {outer : List Env} {s s1 : Shared} {H : Hp} {E : XK} {us : List Value} {vs : List V}
  (S : FnScope N ps scope) (hd : A.handled = none) (e0 : Env0 P w K mg base A outer s H) (hl : vs.length = ps.length) (r : Vals vs us)
  (x : InCallC s s.heap.objs.size (bindL (envOfC qual scope s.heap.objs.size f cd).kindOf (ps.zip us) fun _ => none) (cellsFrom (s.heap.objs.size + 1) scope.names []) (bindC (envOfC qual scope s.heap.objs.size f cd).kindOf (ps.zip us) fun _ => none) s1) :
  Inv (cxOf CX P w K mg base N qual scope f cd A outer s H E) [] (start N vs) H s1 := by
 have hpl : ps.length ≤ N.length := by have := congrArg List.length S.pre; rw [List.length_take] at this; omega
 obtain ⟨h1, tk, rfl, hk⟩ := x.done
 have noA : ∀ b : Addr, b ∉ (cxOf CX P w K mg base N qual scope f cd A outer s H E).ex := fun b z => absurd (show b ∈ ([] : List Addr) from z) (by simp)
 refine ⟨⟨e0.mod, S.kind, rfl, rfl, Nat.le_refl _, fun y z c h1 h2 => ?_, fun y hy => ?_, fun y c _ h => ?_, fun _ => hd, Around.frames_deeper e0.frames, .inr ⟨rfl, rfl⟩, fun b z => absurd z (noA b), e0.bs, e0.bsz, fun b _ _ => noA b, fun b z => absurd z (noA b), e0.funs, e0.frf⟩,
  rfl, e0.bare, Un.kept hk, ⟨_, x.toInCall.ns, fun i y v h1 h2 h3 => ?_⟩, fun y c h => ⟨_, x.cell y c h⟩, e0.hok.fresh (Nat.le_refl _), fun y c h => ?_, fun p hp => absurd (show p ∈ ([] : List (Addr × Obj)) from hp) (by simp), e0.hok.kept hk, ?_⟩
 ·exact name_of_addr x.apart (PySem.mem_of_lookup h1) (PySem.mem_of_lookup h2)
 ·have hy : scope.names.lookup y = some .cell ∨ scope.names.lookup y = some .free := hy
  rcases hy with hy | hy
  ·exact cell_has hy
  ·exact absurd rfl (S.nofree _ (PySem.mem_of_lookup hy))
 ·exact Nat.le_of_lt (x.above y c (PySem.mem_of_lookup h))
 ·have hi : i < vs.length := by
   unfold start at h2
   by_cases hi : i < vs.length
   ·exact hi
   ·rw [List.getElem?_append_right (by simpa using hi)] at h2
    rw [List.getElem?_replicate] at h2
    split at h2 <;> cases h2
  have ha : vs[i]? = some v := by
   unfold start at h2
   rw [List.getElem?_append_left (by simpa using hi), List.getElem?_map] at h2
   cases e : vs[i]? with
   | none => rw [e] at h2; cases h2
   | some a => rw [e] at h2; cases h2; rfl
  obtain ⟨u, hu, rv⟩ := r.get ha
  have hp : ps[i]? = some y := by
   rw [← S.pre, List.getElem?_take_of_lt (by omega)]; exact h1
  have ndP : ps.Nodup := by rw [← S.pre]; exact S.nd.sublist (List.take_sublist _ _)
  refine ⟨u, rv, ?_⟩
  rcases S.par y (List.mem_of_getElem? hp) with k | k
  ·exact .inl ⟨k, bindL_get ndP hp hu k⟩
  ·obtain ⟨c, e⟩ := cell_has (n := s.heap.objs.size + 1) k
   refine .inr ⟨.inl k, c, e, ?_⟩
   have q := x.cell y c e
   rw [bindC_get ndP hp hu (by show scope.names.lookup y ≠ _; rw [k]; decide)] at q
   exact q
 ·exact e0.hok.fresh (Nat.le_of_lt (x.above y c (PySem.mem_of_lookup h)))
 ·unfold start
  show _ = N.length
  rw [List.length_append, List.length_map, List.length_replicate]
  omega
theorem fn_of {CX : CXT} {P : Program} {w : World} {K : PySem.W.Frag} {mg : Str → Option Value} {base : Heap} {k : Nat} {f : Addr} {name qual : Str} {params : Arguments} {body : List Stmt} {scope : Scope} {dV kV doc pm cdv ct oc : Value} {an od : Option Addr}
  {osl : Array (Option Value)} {N ps : List Str} {sp : Sp} (lk : K.lookup f = some ⟨oc, od, .func (PySem.W.fnOf name qual params body scope dV kV doc pm an cdv ct), osl⟩) (hcd : PySem.W.codeIn K cdv qual = true) (S : FnScope N ps scope)
  (len : ∀ vs H Q E, sp vs H Q E → vs.length = ps.length)
  (hbody : ∀ (A : Around) (outer : List Env) (s : Shared) (H : Hp) (vs : List V) (Q : VK) (E : XK), Room k (A.deeper (envOfC qual scope s.heap.objs.size f cdv)) → sp vs H Q E →
   ∃ t, PSs (cxOf CX P w K mg base N qual scope f cdv A outer s H E) body t ∧ t { nx := fun _ H' => Q .non H', rt := Q } (start N vs) H) :
  FnOk P w K mg base CX (k + 1) f (PySem.W.fnOf name qual params body scope dV kV doc pm an cdv ct) ps sp := by
 refine ⟨len, fun A outer s H args us vs Q E hr e0 hb r hsp => ?_⟩
 have hl := len _ _ _ _ hsp
 have KX : K.In s.heap := e0.mod.kin.keeps fun b o e => (e0.bs b o e).1
 have lim : s.heap.NoLimit := e0.mod.nolimit.keeps fun b o e => (e0.bs b o e).1
 have hkind : ∀ y ∈ ps.zip us, scope.names.lookup y.1 = some .local ∨ (scope.names.lookup y.1 = some .cell ∧ ((cellsFrom (s.heap.objs.size + 1) scope.names []).lookup y.1).isSome = true) := fun ⟨n, v⟩ hy => by
  rcases S.par n (List.of_mem_zip hy).1 with q | q
  ·exact .inl q
  ·exact .inr ⟨q, PySem.W.cellsFrom_some _ _ _ (.inl q)⟩
 refine codeAny_call_function hr.depth (KX _ _ lk) rfl S.co S.gen rfl (PySem.W.codeRec_of KX hcd) (hb _ _ _ _ ?_)
 refine wpAny_newFunctionEnv_cells S.kind hkind fun env he s1 x => ?_
 subst he
 refine ⟨lim.keeps x.toInCall.keep, codeAny_func ?_⟩
 obtain ⟨t, ht, hq⟩ := hbody A outer s H vs Q E (hr.deeper _) hsp
 have I : Inv (cxOf CX P w K mg base N qual scope f cdv A outer s H E) [] (start N vs) H s1 := inv_start S hr.hd e0 hl r x
 refine wpAny_mono (ht [] s1 (start N vs) H _ I hq) (fun fl s' hs => ?_) fun e s' hs => hs
 have fin : ∀ {σ' : St} {H' : Hp} {v : V} {u : Value}, Inv (cxOf CX P w K mg base N qual scope f cdv A outer s H E) [] σ' H' s' → RelV v u → Q v H' → CE outer P w H s Q u s' :=
  fun {σ' H' v u} J rv q => ⟨v, H', J.os, J.bare, J.base, J.hok, rv, q⟩
 cases fl with
 | ret u =>
  obtain ⟨v, σ', H', J, rv, q⟩ := hs
  exact fin J rv q
 | next =>
  obtain ⟨σ', H', J, q⟩ := hs
  exact fin (v := V.non) (u := Value.none) J rfl q
 | brk =>
  obtain ⟨_, _, _, q⟩ := hs
  exact False.elim q
 | cont =>
  obtain ⟨_, _, _, q⟩ := hs
  exact False.elim q
end L2
namespace L2
open PySem PySem.Spec PyProof.Rows
section
variable {X : Cx} {x : Str} {p pos : Pos} {e : Expr} {es : List Expr} {t : TA} {id T : String} {r : List V → Hp → VK → Prop}
def tCB (r : List V → Hp → VK → Prop) (t : TA) : TE := fun σ H Q => t σ H fun vs H1 => r vs H1 Q
theorem pe_callB (hc : CallR X (.builtin id) r) (hg : Gl X x) (hm : X.mg x = none) (hv : bootBuiltins x = some (.builtin id)) (ha : PA X (e :: es) t) (hn : x ≠ "__name__" := by decide) (hdb : (x == ("__debug__" : Str)) = false := by decide)
  (he : starEach (e :: es) X.env = (false, eval e X.env) :: starEach es X.env := by rfl) (hpl : (backTo pos (starEach es X.env)).any (·.1) = false := by rfl) : PE X (.Call (.Name x p) (e :: es) [] pos) (tCB r t) := by
 intro pins s σ H Q I h
 refine wpAny_Call_Name_kw (ld_blt I hg hm hv ?_ hn hdb)
 exact PyProof.Rows.callWith_builtin1 (thn (ha pos pins s σ H _ I h) fun us s1 ⟨vs, H1, I1, r1, q1⟩ => hc pins s1 σ H1 vs us Q I1 r1 q1) he hpl
theorem pe_callTy (hc : CallR X (.type T) r) (hg : Gl X x) (hm : X.mg x = none) (hv : bootBuiltins x = some (.type T)) (ha : PA X (e :: es) t) (hn : x ≠ "__name__" := by decide) (hdb : (x == ("__debug__" : Str)) = false := by decide)
  (he : starEach (e :: es) X.env = (false, eval e X.env) :: starEach es X.env := by rfl) (hpl : (backTo pos (starEach es X.env)).any (·.1) = false := by rfl) : PE X (.Call (.Name x p) (e :: es) [] pos) (tCB r t) := by
 intro pins s σ H Q I h
 refine wpAny_Call_Name_kw (ld_blt I hg hm hv ?_ hn hdb)
 exact PyProof.Rows.callWith_type1 (thn (ha pos pins s σ H _ I h) fun us s1 ⟨vs, H1, I1, r1, q1⟩ => hc pins s1 σ H1 vs us Q I1 r1 q1) he hpl
end
end L2
namespace HT
open PySem PyProof.Rows
section
open PySem.SeqAt
open PySem.AutoSeq1 (wpAny_loadPart')
open PySem.MeetsSeq PySem.MeetsSeq2 PySem.MeetsSeq3
end
section
variable {prog : Program} {w : World} {A : Around} {E : Value → Shared → Prop} {s : Shared}
def sIx (n d : Nat) : Option Int → Nat
 | none => d
 | some v => if v < 0 then (v + (n : Int)).toNat else min v.toNat n
theorem sIx_none (n d : Nat) : sIx n d none = d := rfl
theorem sIx_nat (n d k : Nat) : sIx n d (some (k : Int)) = min k n := by
 show (if (k : Int) < 0 then ((k : Int) + (n : Int)).toNat else min (k : Int).toNat n) = min k n
 rw [if_neg (by omega), Int.toNat_natCast]
end
end HT
namespace L2
open PySem PySem.Spec PyProof.Rows
abbrev TO := St → Hp → (Option Int → Hp → Prop) → Prop
def PO (X : Cx) (e : Option Expr) (t : TO) : Prop :=
 ∀ (pins : List (Addr × Obj)) (s : Shared) (σ : St) (H : Hp) (Q : Option Int → Hp → Prop), Inv X pins σ H s → t σ H Q →
  wpAny (model X.prog X.w) X.A (evalPart e X.env) (fun u s' => ∃ o H', Inv X pins σ H' s' ∧ IsPart u o ∧ Q o H') X.xe s
def tNoPart : TO := fun _ H Q => Q none H
def tPart (t : TE) : TO := fun σ H Q => t σ H fun x H1 => ∃ i, x = .int i ∧ Q (some i) H1
theorem intsAre_of {ns : List Int} : ∀ {us : List Value}, Vals (ns.map V.int) us → IntsAre us ns := by
 induction ns with
 | nil => intro us r; rw [List.map_nil] at r; cases r; exact .nil
 | cons n ns ih =>
  intro us r
  rw [List.map_cons] at r
  cases r with
  | cons r1 r2 =>
   obtain ⟨t, e⟩ := r1
   subst e
   exact .cons n t (ih r2)
section
variable {X : Cx} {e : Expr} {te : TE} {lo hi : Option Expr} {tl th : TO} {pos p2 : Pos}
theorem po_none : PO X none tNoPart := by
 intro pins s σ H Q I h
 rw [evalPart_none]
 exact wpAny_pure ⟨none, H, I, .none, h⟩
theorem po_some (h : PE X e te) : PO X (some e) (tPart te) := by
 intro pins s σ H Q I hw
 rw [evalPart_some]
 refine thn (h pins s σ H _ I hw) fun u s1 ⟨x, H1, I1, r1, q1⟩ => ?_
 obtain ⟨i, rfl, q⟩ := q1
 obtain ⟨t, rfl⟩ := r1
 exact ⟨some i, H1, I1, .int i t, q⟩
def SlR (X : Cx) (r : V → Option Int → Option Int → Hp → VK → Prop) : Prop :=
 ∀ (pins : List (Addr × Obj)) (s : Shared) (σ : St) (H : Hp) (x : V) (v vl vu : Value) (lo hi : Option Int) (sl : Addr) (Q : VK), Inv X pins σ H s → RelV x v → s.heap.IsSliceOf sl vl vu .none → IsPart vl lo → IsPart vu hi → r x lo hi H Q →
  ∃ T id, typeLookup (.type T) "__getitem__" = pure (some (.builtin id)) ∧ s.TypeIs v T ∧ wpAny (model X.prog X.w) X.A (getItem v (.ref sl)) (EP X pins σ Q) X.xe s
def tSl (r : V → Option Int → Option Int → Hp → VK → Prop) (te : TE) (tl th : TO) : TE := fun σ H Q => te σ H fun x H1 => tl σ H1 fun l H2 => th σ H2 fun u H3 => r x l u H3 Q
theorem pe_slice {r : V → Option Int → Option Int → Hp → VK → Prop} (hr : SlR X r) (he : PE X e te) (hl : PO X lo tl) (hu : PO X hi th) : PE X (.Subscript e (.Slice lo hi none p2) pos) (tSl r te tl th) := by
 intro pins s σ H Q I h
 refine Subscript_ (thn (he pins s σ H _ I h) fun v s1 ⟨x, H1, I1, r1, q1⟩ => ?_)
 refine wpAny_Slice (thn (hl pins s1 σ H1 _ I1 q1) fun vl s2 ⟨l, H2, I2, pl, q2⟩ => thn (hu pins s2 σ H2 _ I2 q2) fun vu s3 ⟨u, H3, I3, pu, q3⟩ => ?_)
 rw [evalPart_none]
 refine wpAny_pure ?_
 have I4 : Inv X pins σ H3 { s3 with heap := s3.heap.push { cls := .type "slice", data := .fields #[vl, vu, .none] } } := I3.kept (t' := s3.toks) fun b ob q => Heap.get?_push_of_some _ q
 obtain ⟨T, id, hT, ht, hg⟩ := hr pins { s3 with heap := s3.heap.push { cls := .type "slice", data := .fields #[vl, vu, .none] } } σ H3 x v vl vu l u s3.heap.objs.size Q I4 r1 (Heap.IsSliceOf.new ..) pl pu q3
 show wpAny (model X.prog X.w) X.A (subscriptTail e (.Slice lo hi none p2) v (.ref s3.heap.objs.size)) (EP X pins σ Q) X.xe { s3 with heap := s3.heap.push { cls := .type "slice", data := .fields #[vl, vu, .none] } }
 exact tail_any (ops := [.ref s3.heap.objs.size, v]) ht hT hg (by with_unfolding_all rfl)
def cutV (xs : List V) (lo hi : Option Int) : List V := (xs.drop (HT.sIx xs.length 0 lo)).take (HT.sIx xs.length xs.length hi - HT.sIx xs.length 0 lo)
theorem cutV_length (xs : List V) (lo hi : Option Int) : (cutV xs lo hi).length ≤ xs.length := by
 unfold cutV
 rw [List.length_take, List.length_drop]
 omega
end
end L2
namespace L2
open PySem PySem.Spec PyProof.Rows
def ixN (n : Nat) (i : Int) : Option Nat := if 0 ≤ i then (if i < n then some i.toNat else none) else if -(n : Int) ≤ i then some (i + n).toNat else none
def atI {α : Type} (xs : List α) (i : Int) : Option α := (ixN xs.length i).bind fun j => xs[j]?
theorem ixN_seq {n : Nat} {i : Int} {j : Nat} (h : ixN n i = some j) : seqIndex? i n = some j ∧ j < n ∧ -(n : Int) ≤ i ∧ i < n := by
 unfold ixN at h
 by_cases h0 : 0 ≤ i
 ·rw [if_pos h0] at h
  by_cases h1 : i < n
  ·rw [if_pos h1] at h
   have e : i.toNat = j := Option.some.inj h
   exact ⟨by rw [seqIndex_of h0 h1, e], by omega, by omega, h1⟩
  ·rw [if_neg h1] at h; cases h
 ·rw [if_neg h0] at h
  by_cases h1 : -(n : Int) ≤ i
  ·rw [if_pos h1] at h
   have e : (i + n).toNat = j := Option.some.inj h
   exact ⟨by rw [seqIndex_neg (by omega) h1, e], by omega, h1, by omega⟩
  ·rw [if_neg h1] at h; cases h
theorem atI_get {α : Type} {xs : List α} {i : Int} {v : α} (h : atI xs i = some v) : ∃ j, seqIndex? i xs.length = some j ∧ xs[j]? = some v ∧ j < xs.length ∧ -(xs.length : Int) ≤ i ∧ i < xs.length := by
 unfold atI at h
 cases e : ixN xs.length i with
 | none => rw [e] at h; cases h
 | some j =>
  rw [e] at h
  obtain ⟨h1, h2, h3, h4⟩ := ixN_seq e
  exact ⟨j, h1, h, h2, h3, h4⟩
theorem atI_nat {α : Type} {xs : List α} {j : Nat} {v : α} (h : xs[j]? = some v) : atI xs (j : Int) = some v := by
 have hj : j < xs.length := (List.getElem?_eq_some_iff.mp h).1
 have e : ixN xs.length (j : Int) = some j := by
  unfold ixN
  rw [if_pos (by omega), if_pos (by omega)]; simp
 unfold atI; rw [e]; exact h
theorem atI_last {α : Type} (xs : List α) (v : α) : atI (xs ++ [v]) (-1) = some v := by
 have hl : (xs ++ [v]).length = xs.length + 1 := by simp
 have e : ixN (xs ++ [v]).length (-1) = some xs.length := by
  unfold ixN
  rw [hl, if_neg (by decide), if_pos (by omega)]
  congr 1
  omega
 unfold atI
 rw [e]
 show (xs ++ [v])[xs.length]? = some v
 simp
def PlainIx (b : Expr) : Prop := ∀ o i, subscripted b false o i = operate [o, i] (getItem o i)
def IxR (X : Cx) (r : R2) : Prop :=
 ∀ (value slice : Expr) (pins : List (Addr × Obj)) (s : Shared) (σ : St) (H : Hp) (x y : V) (v u : Value) (Q : VK), Inv X pins σ H s → RelV x v → RelV y u → r x y H Q →
  subscripted slice false v u = operate [v, u] (getItem v u) → wpAny (model X.prog X.w) X.A (subscriptTail value slice v u) (EP X pins σ Q) X.xe s
def MtR (X : Cx) (id : String) (r : V → List V → Hp → VK → Prop) : Prop :=
 ∀ (pins : List (Addr × Obj)) (s : Shared) (σ : St) (H : Hp) (x : V) (xs : List V) (v : Value) (us : List Value) (Q : VK), Inv X pins σ H s → RelV x v → Vals xs us → r x xs H Q →
  wpAny (model X.prog X.w) X.A (call (.builtin id) (v :: us)) (EP X pins σ Q) X.xe s
section
variable {X : Cx} {a b : Expr} {ta tb : TE} {pos : Pos}
theorem pe_ix {r : R2} (hr : IxR X r) (ha : PE X a ta) (hb : PE X b tb) (hs : PlainIx b) : PE X (.Subscript a b pos) (tOp r ta tb) := by
 intro pins s σ H Q I h
 exact Subscript_ (binT ha hb I h fun v u s2 x y H2 I2 rx ry q => hr a b pins s2 σ H2 x y v u Q I2 rx ry q (hs _ _))
def rIxL (K : PySem.W.Frag) : R2 := fun x y H Q => ∃ p xs i v, x = .ref p ∧ y = .int i ∧ SqL K H p xs ∧ atI xs i = some v ∧ Q v H
def rIxT (K : PySem.W.Frag) : R2 := fun x y H Q => ∃ p xs i v, x = .ref p ∧ y = .int i ∧ SqT K H p xs ∧ atI xs i = some v ∧ Q v H
theorem ix_list : IxR X (rIxL X.K) := by
 intro value slice pins s σ H x y v u Q I rx ry h hs
 obtain ⟨p, xs, i, z, rfl, rfl, hq, he, q⟩ := h
 cases rx
 obtain ⟨t, rfl⟩ := ry
 obtain ⟨its, r, pl, hz⟩ := I.list hq
 obtain ⟨j, h1, h2, h3, h4, h5⟩ := atI_get he
 obtain ⟨w, ew, rw'⟩ := r.get h2
 have hl := r.length
 have hn := line63
 have fin : EP X pins σ Q w s := ⟨z, H, I, rw', q⟩
 by_cases h0 : 0 ≤ i
 ·have hj : i.toNat = j := by
   rw [seqIndex_of h0 h5] at h1
   exact Option.some.inj h1
  exact item_listR pl.isList h0 (by omega) (by rw [hj]; simpa using ew) fin hs
 ·have hj : (i + (its.toArray.size : Int)).toNat = j := by
   rw [seqIndex_neg (by omega) h4] at h1
   rw [List.size_toArray, ← hl]
   exact Option.some.inj h1
  exact subscriptTail_builtinR (x := w) pl.isList.typeIs slot_list_getitem.lookup
   (wpAny_getItem_list_neg (Q := fun r s' => r = w ∧ EP X pins σ Q r s') pl.isList (by omega) (by rw [List.size_toArray] <;> omega) (by omega) (by rw [hj]; simpa using ew) ⟨rfl, fin⟩) hs
theorem ix_tup : IxR X (rIxT X.K) := by
 intro value slice pins s σ H x y v u Q I rx ry h hs
 obtain ⟨p, xs, i, z, rfl, rfl, hq, he, q⟩ := h
 cases rx
 obtain ⟨t, rfl⟩ := ry
 obtain ⟨its, r, pl, hz⟩ := I.tuple hq
 obtain ⟨j, h1, h2, h3, h4, h5⟩ := atI_get he
 obtain ⟨w, ew, rw'⟩ := r.get h2
 have hl := r.length
 have hn := line63
 have fin : EP X pins σ Q w s := ⟨z, H, I, rw', q⟩
 exact subscriptTail_builtinR (x := w) pl.typeIs slot_tuple_getitem.lookup
  (getItem_tuple (j := j) (Q := fun r s' => r = w ∧ EP X pins σ Q r s') pl (by omega) (by omega) (by rw [List.size_toArray, ← hl]; exact h1) (by simpa using ew) ⟨rfl, fin⟩) hs
theorem mapSeq_set (its : List Value) (n j : Nat) (u : Value) : Obj.mapSeq (·.setIfInBounds j u) { cls := .type "list", data := .seq its.toArray n } = { cls := .type "list", data := .seq (its.set j u).toArray n } := by
 simp [Obj.mapSeq]
theorem Inv.lst {pins : List (Addr × Obj)} {σ : St} {H : Hp} {s : Shared} {p : Addr} {xs : List V} (I : Inv X pins σ H s) (h : H p = some (.lst xs)) :
  ∃ (its : List Value) (n : Nat), Vals xs its ∧ s.heap.get? p = some { cls := .type "list", data := .seq its.toArray n } ∧ xs.length ≤ sizeLine := by
 obtain ⟨z, its, n, r, e⟩ := I.hok p _ h
 exact ⟨its, n, r, e, z⟩
theorem Inv.lstUpd {pins : List (Addr × Obj)} {σ : St} {H : Hp} {s : Shared} {p : Addr} {xs ys : List V} {its its' : List Value} {n n' : Nat} {f : Obj → Obj} (I : Inv X pins σ H s) (h : H p = some (.lst xs))
  (ho : s.heap.get? p = some { cls := .type "list", data := .seq its.toArray n }) (hf : f { cls := .type "list", data := .seq its.toArray n } = { cls := .type "list", data := .seq its'.toArray n' }) (r : Vals ys its') (hz : ys.length ≤ sizeLine) (t : Nat) :
  Inv X pins σ (upd H p (.lst ys)) { s with heap := s.heap.update p f, toks := t } := by
 have e : (s.heap.update p f).get? p = some { cls := .type "list", data := .seq its'.toArray n' } := by
  rw [Heap.get?_update_self f ho (by rw [hf] <;> rfl), hf]
 refine I.write (x := p) (e := p) (by rw [h]; trivial) (.inl rfl) (fun b u hb q => (Heap.get?_update_other _ _ (Ne.symm hb)).trans q) ⟨_, e⟩ ?_
 exact ⟨hz, its', n', r, e⟩
def rSetL : V → V → V → Hp → (Hp → Prop) → Prop := fun o i v H Q => ∃ p xs k j, o = .ref p ∧ i = .int k ∧ H p = some (.lst xs) ∧ ixN xs.length k = some j ∧ Q (upd H p (.lst (xs.set j v)))
theorem set_list : PSet X rSetL := by
 intro pins s σ H o i v ov iv u Q I ro ri rv h
 obtain ⟨p, xs, k, j, rfl, rfl, hp, hj, q⟩ := h
 cases ro
 obtain ⟨t, rfl⟩ := ri
 obtain ⟨its, n, r, ho, hz⟩ := I.lst hp
 obtain ⟨h1, h2, h3, h4⟩ := ixN_seq hj
 have hl := r.length
 have hn := line63
 have I' : Inv X pins σ (upd H p (.lst (xs.set j v))) { s with heap := s.heap.update p (Obj.mapSeq (·.setIfInBounds j u)) } :=
  I.lstUpd hp ho (mapSeq_set its n j u) (r.set rv j) (by rw [List.length_set]; exact hz) s.toks
 by_cases h0 : 0 ≤ k
 ·have hk : k.toNat = j := by
   rw [seqIndex_of h0 h4] at h1
   exact Option.some.inj h1
  exact PySem.W.ki_setAt ho h0 (by omega) (by rw [List.size_toArray, ← hl]; exact h4) (by rw [hk]; exact ⟨_, I', q⟩)
 ·have hk : (k + (its.toArray.size : Int)).toNat = j := by
   rw [seqIndex_neg (by omega) h3] at h1
   rw [List.size_toArray, ← hl]
   exact Option.some.inj h1
  exact PySem.W.ki_setBack ho (by omega) (by rw [List.size_toArray, ← hl]; exact h3) (by omega) (by rw [hk]; exact ⟨_, I', q⟩)
theorem slice_bounds (lo hi : Option Int) (n : Nat) : (sliceBounds lo hi none n).1 = ((HT.sIx n 0 lo : Nat) : Int) ∧ (sliceBounds lo hi none n).2.1 = ((HT.sIx n n hi : Nat) : Int) ∧ (sliceBounds lo hi none n).2.2 = 1 := by
 refine ⟨?_, ?_, rfl⟩
 ·cases lo with
  | none => simp [sliceBounds, HT.sIx]
  | some i =>
   simp only [sliceBounds, HT.sIx, Option.getD_none, show (1 : Int) > 0 by decide, if_true]
   by_cases h : i < 0
   ·simp only [h, if_true] <;> omega
   ·simp only [h, if_false] <;> omega
 ·cases hi with
  | none => simp [sliceBounds, HT.sIx]
  | some i =>
   simp only [sliceBounds, HT.sIx, Option.getD_none, show (1 : Int) > 0 by decide, if_true]
   by_cases h : i < 0
   ·simp only [h, if_true] <;> omega
   ·simp only [h, if_false] <;> omega
theorem slicePick_cut (its : List Value) (lo hi : Option Int) : slicePick its.toArray lo hi none = ((its.drop (HT.sIx its.length 0 lo)).take (HT.sIx its.length its.length hi - HT.sIx its.length 0 lo)).toArray := by
 obtain ⟨h1, h2, h3⟩ := slice_bounds lo hi its.toArray.size
 unfold slicePick
 rw [h1, h2, h3]
 simp only [sliceRange_one, pick_run, List.size_toArray] <;> rfl
def rSlL (K : PySem.W.Frag) : V → Option Int → Option Int → Hp → VK → Prop := fun x lo hi H Q => ∃ a xs, x = .ref a ∧ SqL K H a xs ∧ ∀ p, H p = none → Q (.ref p) (upd H p (.lst (cutV xs lo hi)))
theorem sl_list : SlR X (rSlL X.K) := by
 intro pins s σ H x v vl vu lo hi sl Q I rx hs pl pu h
 obtain ⟨a, xs, rfl, hx, q⟩ := h
 cases rx
 obtain ⟨its, r, ht, hz⟩ := I.list hx
 have hlen := r.length
 refine ⟨"list", _, slot_list_getitem.lookup, ht.isList.typeIs, ?_⟩
 refine wpAny_getItem_list_slice ht.isList hs pl pu .none (by simp) ?_ (by rw [List.size_toArray] <;> omega)
 rw [slicePick_cut, ← hlen]
 refine ⟨.ref s.heap.objs.size, _, I.laid (t' := s.toks) (o := .lst (cutV xs lo hi)) (fun b ob q => Heap.get?_push_of_some _ q) (Nat.le_refl _) ?_, rfl, q _ (I.hok.fresh (Nat.le_refl _))⟩
 exact ⟨Nat.le_trans (cutV_length xs lo hi) hz, _, 0, (r.drop (HT.sIx xs.length 0 lo)).take (HT.sIx xs.length xs.length hi - HT.sIx xs.length 0 lo), Heap.get?_push_size _ rfl⟩
def flatV : V → Bool
 | .non => true
 | .bl _ => true
 | .int _ => true
 | .str _ => true
 | _ => false
def eqV : V → V → Bool
 | .non, .non => true
 | .bl a, .bl b => a == b
 | .bl a, .int b => (if a then 1 else 0) == b
 | .int a, .bl b => a == (if b then 1 else 0)
 | .int a, .int b => a == b
 | .str a, .str b => a == b
 | _, _ => false
theorem eqAt_V {A : Around} {s : Shared} {y x : V} {u v : Value} (ry : RelV y u) (rx : RelV x v) (fy : flatV y = true) (fx : flatV x = true) : SeqAt.EqAt A s u v (eqV y x) := by
 cases y with
 | non =>
  cases ry
  cases x with
  | non => cases rx; exact SeqAt.EqAt.same _
  | bl b => cases rx; exact SeqAt.EqAt.none_bool b
  | int b => obtain ⟨t, rfl⟩ := rx; exact SeqAt.EqAt.none_int b t
  | str b => obtain ⟨t, rfl⟩ := rx; exact SeqAt.EqAt.none_str b t
  | _ => exact absurd (show false = true from fx) Bool.false_ne_true
 | bl a =>
  cases ry
  cases x with
  | non => cases rx; exact SeqAt.EqAt.bool_none a
  | bl b => cases rx; exact SeqAt.EqAt.bool_bool a b
  | int b => obtain ⟨t, rfl⟩ := rx; exact SeqAt.EqAt.bool_int a b t
  | str b => obtain ⟨t, rfl⟩ := rx; exact SeqAt.EqAt.bool_str a b t
  | _ => exact absurd (show false = true from fx) Bool.false_ne_true
 | int a =>
  obtain ⟨t', rfl⟩ := ry
  cases x with
  | non => cases rx; exact SeqAt.EqAt.int_none a t'
  | bl b => cases rx; exact SeqAt.EqAt.int_bool a t' b
  | int b => obtain ⟨t, rfl⟩ := rx; exact SeqAt.EqAt.int_int a t' b t
  | str b => obtain ⟨t, rfl⟩ := rx; exact SeqAt.EqAt.int_str a t' b t
  | _ => exact absurd (show false = true from fx) Bool.false_ne_true
 | str a =>
  obtain ⟨t', rfl⟩ := ry
  cases x with
  | non => cases rx; exact SeqAt.EqAt.str_none a t'
  | bl b => cases rx; exact SeqAt.EqAt.str_bool a t' b
  | int b => obtain ⟨t, rfl⟩ := rx; exact SeqAt.EqAt.str_int a t' b t
  | str b => obtain ⟨t, rfl⟩ := rx; exact SeqAt.EqAt.str_str a t' b t
  | _ => exact absurd (show false = true from fx) Bool.false_ne_true
 | _ => exact absurd (show false = true from fy) Bool.false_ne_true
def eqU (x : V) (u : Value) : Bool := match u with
 | .none => eqV .non x
 | .bool b => eqV (.bl b) x
 | .int i _ => eqV (.int i) x
 | .str z _ => eqV (.str z) x
 | _ => false
theorem eqU_of {x y : V} {u : Value} (r : RelV y u) (f : flatV y = true) : eqU x u = eqV y x := by
 cases y with
 | non => cases r; rfl
 | bl b => cases r; rfl
 | int i => obtain ⟨t, rfl⟩ := r; rfl
 | str z => obtain ⟨t, rfl⟩ := r; rfl
 | _ => exact absurd (show false = true from f) Bool.false_ne_true
theorem any_eqU {x : V} : ∀ {xs : List V} {us : List Value}, Vals xs us → xs.all flatV = true → us.any (eqU x) = xs.any fun y => eqV y x
 | _, _, .nil, _ => rfl
 | y :: xs, u :: us, .cons r t, f => by
  rw [List.all_cons, Bool.and_eq_true] at f
  rw [List.any_cons, List.any_cons, eqU_of r f.1, any_eqU t f.2]
theorem mem_eqAt {A : Around} {s : Shared} {x : V} {v : Value} (rx : RelV x v) (fx : flatV x = true) : ∀ {xs : List V} {us : List Value}, Vals xs us → xs.all flatV = true → ∀ u ∈ us, SeqAt.EqAt A s u v (eqU x u)
 | _, _, .nil, _ => fun u hu => by cases hu
 | y :: xs, u :: us, .cons r t, f => fun u' hu => by
  rw [List.all_cons, Bool.and_eq_true] at f
  rcases List.mem_cons.mp hu with rfl | hu
  ·rw [eqU_of r f.1]; exact eqAt_V r rx f.1 fx
  ·exact mem_eqAt rx fx t f.2 u' hu
def inV (x : V) (xs : List V) : Bool := xs.any fun y => eqV y x
def rIn (K : PySem.W.Frag) (neg : Bool) : R2 := fun x y H Q => ∃ p xs, y = .ref p ∧ (SqL K H p xs ∨ SqT K H p xs) ∧ flatV x = true ∧ xs.all flatV = true ∧ Q (.bl (if neg then !inV x xs else inV x xs)) H
theorem op_notIn_seq : OpR X (compareOp .NotIn) (rIn X.K true) := by
 intro pins s σ H x y v u Q I rx ry h
 obtain ⟨p, xs, rfl, hq, fx, fs, q⟩ := h
 cases ry
 rcases hq with hq | hq
 ·obtain ⟨its, r, pl, hz⟩ := I.list hq
  refine SeqAt.notIn_listAt (eqU x) pl.isList (fun w hw => mem_eqAt rx fx r fs w (by simpa using hw)) ⟨.bl _, H, I, rfl, ?_⟩
  rw [show its.toArray.any (eqU x) = its.any (eqU x) by simp, any_eqU r fs]
  exact q
 ·obtain ⟨its, r, pl, hz⟩ := I.tuple hq
  refine SeqAt.notIn_tupleAt (eqU x) pl (fun w hw => mem_eqAt rx fx r fs w (by simpa using hw)) ⟨.bl _, H, I, rfl, ?_⟩
  rw [show its.toArray.any (eqU x) = its.any (eqU x) by simp, any_eqU r fs]
  exact q
theorem call_len_seq : CallR X (.builtin "len") (fun xs H Q => ∃ p ys, xs = [.ref p] ∧ (SqL X.K H p ys ∨ SqT X.K H p ys) ∧ Q (.int ys.length) H) := by
 intro pins s σ H xs us Q I r h
 obtain ⟨p, ys, rfl, hq, q⟩ := h
 obtain ⟨u, rfl, rx⟩ := vals1 r
 cases rx
 have hn := line63
 rcases hq with hq | hq
 ·obtain ⟨its, r', pl, hz⟩ := I.list hq
  have hlen := r'.length
  exact Calls.call_len_list pl.isList (by simp only [List.size_toArray] <;> omega) ⟨.int ys.length, H, I.tok _, ⟨s.toks + 1, by rw [List.size_toArray, hlen]⟩, q⟩
 ·obtain ⟨its, r', pl, hz⟩ := I.tuple hq
  have hlen := r'.length
  exact len_tuple pl (by simp only [List.size_toArray] <;> omega) ⟨.int ys.length, H, I.tok _, ⟨s.toks + 1, by rw [List.size_toArray, hlen]⟩, q⟩
theorem call_list_of : CallR X (.type "list") (fun xs H Q => ∃ p ys, xs = [.ref p] ∧ (SqL X.K H p ys ∨ SqT X.K H p ys) ∧ ∀ l, H l = none → Q (.ref l) (upd H l (.lst ys))) := by
 intro pins s σ H xs us Q I r h
 obtain ⟨p, ys, rfl, hq, q⟩ := h
 obtain ⟨u, rfl, rx⟩ := vals1 r
 cases rx
 have fin : ∀ (its : List Value), Vals ys its → ys.length ≤ sizeLine → ∀ (h' : Heap) (c' : Nat), (∀ b o', s.heap.get? b = some o' → h'.get? b = some o') →
   h'.get? s.heap.objs.size = some { cls := .type "list", dict := none, data := .seq its.toArray c', slots := #[] } → EP X pins σ Q (.ref s.heap.objs.size) { s with heap := h' } := fun its r' hz h' c' kp e =>
  ⟨.ref s.heap.objs.size, _, I.laid (t' := s.toks) kp (Nat.le_refl _) (show ObjOk X.prog X.w _ h' _ (.lst ys) from ⟨hz, its, c', r', e⟩), rfl, q _ (I.hok.fresh (Nat.le_refl _))⟩
 rcases hq with hq | hq
 ·obtain ⟨its, r', pl, hz⟩ := I.list hq
  have hlen := r'.length
  obtain ⟨o, ho, hc, n, hd⟩ := pl.isList
  exact call_list_seq p (.inl rfl) ho hc hd (fun h' c' kp e => fin its r' hz h' c' kp e) (by simp only [List.size_toArray] <;> omega)
 ·obtain ⟨its, r', pl, hz⟩ := I.tuple hq
  have hlen := r'.length
  obtain ⟨o, ho, hc, n, hd⟩ := pl
  exact call_list_seq p (.inr rfl) ho hc hd (fun h' c' kp e => fin its r' hz h' c' kp e) (by simp only [List.size_toArray] <;> omega)
def tyV (K : PySem.W.Frag) (T : String) (x : V) (H : Hp) : Prop := match x with
 | .str _ => T = "str"
 | .int _ => T = "int"
 | .ref p => (T = "list" ∧ ∃ xs, SqL K H p xs) ∨ (T = "tuple" ∧ ∃ o, K.lookup p = some o ∧ o.cls = .type "tuple" ∧ o.dict = none) ∨
   (T = "dict" ∧ ((∃ kvs, H p = some (.dK kvs)) ∨ ∃ kvs, H p = some (.dT kvs))) ∨ (T = "set" ∧ ∃ S n, H p = some (.set S n))
 | _ => False
theorem tyV_is {pins : List (Addr × Obj)} {σ : St} {H : Hp} {s : Shared} {T : String} {x : V} {v : Value} (I : Inv X pins σ H s) (r : RelV x v) (ty : tyV X.K T x H) :
  s.TypeIs v T ∧ ∀ a, v = .ref a → ∃ ob, s.heap.get? a = some ob ∧ ob.dict = none := by
 cases x with
 | str z =>
  obtain ⟨t, rfl⟩ := r
  cases (show T = "str" from ty)
  exact ⟨typeIs_str s z t, fun _ e => nomatch e⟩
 | int i =>
  obtain ⟨t, rfl⟩ := r
  cases (show T = "int" from ty)
  exact ⟨typeIs_int s i t, fun _ e => nomatch e⟩
 | ref p =>
  cases r
  rcases ty with ⟨rfl, xs, hq⟩ | ⟨rfl, o, hk, hc, hd⟩ | ⟨rfl, hk⟩ | ⟨rfl, S, n, hk⟩
  ·obtain ⟨its, _, pl, _⟩ := I.list hq
   refine ⟨pl.isList.typeIs, fun a e => ?_⟩
   cases e
   obtain ⟨o, n, e, c, hd, _⟩ := pl
   exact ⟨o, e, hd⟩
  ·refine ⟨⟨o, I.kIn p o hk, hc⟩, fun a e => ?_⟩
   cases e
   exact ⟨o, I.kIn _ o hk, hd⟩
  ·have z : ∃ o, s.heap.get? p = some o ∧ o.ExactDict := by
    rcases hk with ⟨kvs, hk⟩ | ⟨kvs, hk⟩
    ·obtain ⟨_, _, _, _, o, _, _, e, ex, _⟩ := I.hok p _ hk
     exact ⟨o, e, ex⟩
    ·obtain ⟨_, _, _, _, o, _, _, e, ex, _⟩ := I.hok p _ hk
     exact ⟨o, e, ex⟩
   obtain ⟨o, e, ex⟩ := z
   refine ⟨⟨o, e, ex.1⟩, fun a e2 => ?_⟩
   cases e2
   exact ⟨o, e, ex.2.1⟩
  ·obtain ⟨o, _, _, _, e, ex, _⟩ := I.hok p _ hk
   refine ⟨⟨o, e, ex.1⟩, fun a e2 => ?_⟩
   cases e2
   exact ⟨o, e, ex.2.1⟩
 | _ => exact False.elim ty
def tBM0 (K : PySem.W.Frag) (T : String) (r : V → List V → Hp → VK → Prop) (to : TE) : TE := fun σ H Q => to σ H fun x H1 => tyV K T x H1 ∧ r x [] H1 Q
def tBM (K : PySem.W.Frag) (T : String) (r : V → List V → Hp → VK → Prop) (to : TE) (t : TA) : TE := fun σ H Q => to σ H fun x H1 => tyV K T x H1 ∧ t σ H1 fun xs H2 => r x xs H2 Q
variable {o e : Expr} {es : List Expr} {to : TE} {t : TA} {name : Str} {apos cpos : Pos} {T id : String} {r : V → List V → Hp → VK → Prop}
theorem pe_bm0 (pa : PlainAttrs T) (slot : Slot T name id) (hty : typeOf (.builtin id) = pure (.type "method_descriptor")) (hm : MtR X id r) (ho : PE X o to)
  (hbase : attributeBase o name X.env (eval o X.env) = eval o X.env := by rfl) (hline : (apos.endLine == cpos.line) = true := by rfl) : PE X (.Call (.Attribute o name apos) [] [] cpos) (tBM0 X.K T r to) := by
 intro pins s σ H Q I h
 refine wpAny_Call_method0_late hbase hline (thn (ho pins s σ H _ I h) fun v s1 ⟨x, H1, I1, r1, ty, q1⟩ => ?_)
 obtain ⟨h1, h2⟩ := tyV_is I1 r1 ty
 exact ⟨T, id, pa, slot, hty, h1, h2, Calls.callWith_builtin rfl (PySem.evalArgs_none (hm pins s1 σ H1 x [] v [] Q I1 r1 .nil q1))⟩
theorem pe_bm (pa : PlainAttrs T) (slot : Slot T name id) (hty : typeOf (.builtin id) = pure (.type "method_descriptor")) (hm : MtR X id r) (ho : PE X o to) (ha : PA X (e :: es) t)
  (hbase : attributeBase o name X.env (eval o X.env) = eval o X.env := by rfl)
  (hfew : ((backTo cpos (starEach (e :: es) X.env)).all (fun x => !x.1) && (backToKw cpos (keywordEach [] X.env)).all (fun x => x.1.isSome)
   && decide ((e :: es).length + ([] : List Keyword).length + (if ([] : List Keyword).isEmpty then 0 else 1) < 30)) = true := by rfl)
  (hline : (apos.endLine == cpos.line) = true := by rfl) (hs : starEach (e :: es) X.env = (false, eval e X.env) :: starEach es X.env := by rfl) (hplain : (backTo cpos (starEach es X.env)).any (·.1) = false := by rfl) :
  PE X (.Call (.Attribute o name apos) (e :: es) [] cpos) (tBM X.K T r to t) := by
 intro pins s σ H Q I h
 refine wpAny_Call_method_late hbase hfew hline rfl (thn (ho pins s σ H _ I h) fun v s1 ⟨x, H1, I1, r1, ty, q1⟩ => ?_)
 obtain ⟨h1, h2⟩ := tyV_is I1 r1 ty
 refine ⟨T, id, pa, slot, hty, h1, h2, ?_⟩
 have hA := ha cpos pins s1 σ H1 _ I1 q1
 rw [hs] at hA ⊢
 refine Calls.callWith_builtin (by show (false || (backTo cpos (starEach es X.env)).any (·.1)) = false; rw [hplain] <;> rfl) (Calls.evalArgs_plain ?_)
 exact thn hA fun us s2 ⟨vs, H2, I2, r2, q2⟩ => hm pins s2 σ H2 x vs v us Q I2 r1 r2 q2
/- xs.append(e), list.index on a module's tuple .. are MtR facts of 06m -/
end
end L2
namespace L2
open PySem PySem.Spec PyProof.Rows
def MtM (X : Cx) (id : String) (r : V → List V → Hp → VK → Prop) : Prop :=
 ∀ (pins : List (Addr × Obj)) (s : Shared) (σ : St) (H : Hp) (x : V) (xs : List V) (v : Value) (us : List Value) (Q : VK), Inv X pins σ H s → RelV x v → Vals xs us → r x xs H Q →
  wpAny (model X.prog X.w) X.A (call (.builtin id) (v :: us)) (EP X pins σ Q) X.xe s
theorem Vals.one : ∀ {x : V} {us : List Value}, Vals [x] us → ∃ u, us = [u] ∧ RelV x u
 | _, _, .cons r .nil => ⟨_, rfl, r⟩
theorem Vals.two : ∀ {x y : V} {us : List Value}, Vals [x, y] us → ∃ u v, us = [u, v] ∧ RelV x u ∧ RelV y v
 | _, _, _, .cons r (.cons q .nil) => ⟨_, _, rfl, r, q⟩
theorem Vals.zero : ∀ {us : List Value}, Vals [] us → us = []
 | _, .nil => rfl
theorem Vals.eraseIdx : ∀ {xs : List V} {us : List Value} (i : Nat), Vals xs us → Vals (xs.eraseIdx i) (us.eraseIdx i)
 | _, _, _, .nil => .nil
 | _, _, 0, .cons _ t => t
 | _, _, i + 1, .cons r t => .cons r (Vals.eraseIdx i t)
theorem len_erase {α : Type} : ∀ (l : List α) (i : Nat), (l.eraseIdx i).length ≤ l.length
 | [], _ => Nat.le_refl _
 | _ :: _, 0 => Nat.le_succ _
 | _ :: r, i + 1 => Nat.succ_le_succ (len_erase r i)
section
variable {X : Cx} {pins : List (Addr × Obj)} {σ : St} {H : Hp} {s : Shared} {l b : Addr} {xs ys zs : List V}
theorem Inv.lset {its its' : List Value} {n : Nat} {f : Array Value → Array Value} {t' : Nat} (I : Inv X pins σ H s) (hH : H l = some (.lst xs))
  (e : s.heap.get? l = some { cls := .type "list", data := .seq its.toArray n }) (hf : f its.toArray = its'.toArray) (hv : Vals ys its') (hz : ys.length ≤ sizeLine) :
  Inv X pins σ (upd H l (.lst ys)) { s with heap := s.heap.update l (Obj.mapSeq f), toks := t' } := by
 have q := PySem.IsL.update e f
 rw [hf] at q
 refine I.write (x := l) (e := l) (by rw [hH]; exact trivial) (.inl rfl) (fun b' u hb hu => (Heap.get?_update_other s.heap (Obj.mapSeq f) (Ne.symm hb)).trans hu) ⟨_, q⟩ ?_
 exact ⟨hz, its', _, hv, q⟩
theorem Inv.lnew {its : List Value} {t' : Nat} (I : Inv X pins σ H s) (hv : Vals ys its) (hz : ys.length ≤ sizeLine) :
  Inv X pins σ (upd H s.heap.objs.size (.lst ys)) { s with heap := s.heap.push { cls := .type "list", data := .seq its.toArray }, toks := t' } :=
 I.laid (fun _ _ q => Heap.get?_push_of_some _ q) (Nat.le_refl _) ⟨hz, its, 0, hv, Heap.get?_push_size _ rfl⟩
theorem Inv.fresh (I : Inv X pins σ H s) : H s.heap.objs.size = none := I.hok.fresh (Nat.le_refl _)
theorem Inv.lstM (I : Inv X pins σ H s) (hH : H l = some (.lst xs)) : xs.length ≤ sizeLine ∧ ∃ (its : List Value) (n : Nat), Vals xs its ∧ xs.length = its.length ∧ s.heap.get? l = some { cls := .type "list", data := .seq its.toArray n } := by
 obtain ⟨z, its, n, r, e⟩ := I.hok l _ hH
 exact ⟨z, its, n, r, r.length, e⟩
end
section
variable {X : Cx}
def rAppend : V → List V → Hp → VK → Prop := fun x vs H Q => ∃ l xs y, x = .ref l ∧ vs = [y] ∧ H l = some (.lst xs) ∧ xs.length < sizeLine ∧ Q .non (upd H l (.lst (xs ++ [y])))
theorem mt_append : MtM X "list.append" rAppend := by
 intro pins s σ H x vs v us Q I rx rv h
 obtain ⟨l, xs, y, rfl, rfl, hH, hz, q⟩ := h
 cases rx
 obtain ⟨u, rfl, ru⟩ := rv.one
 obtain ⟨z, its, n, r, hl, e⟩ := I.lstM hH
 refine call_meets F.slot_list_append ⟨_, e, rfl⟩ F.entry_list_append (F.args_list_append_2 _ _) (PySem.list_append l its.toArray n u (by rw [List.size_toArray]; omega)) ⟨e, ?_⟩
 refine ⟨.non, _, I.lset (its' := its ++ [u]) hH e (by simp) (r.append (.cons ru .nil)) ?_, rfl, q⟩
 rw [List.length_append, List.length_singleton]
 omega
def rClear : V → List V → Hp → VK → Prop := fun x vs H Q => ∃ l xs, x = .ref l ∧ vs = [] ∧ H l = some (.lst xs) ∧ Q .non (upd H l (.lst []))
theorem mt_clear : MtM X "list.clear" rClear := by
 intro pins s σ H x vs v us Q I rx rv h
 obtain ⟨l, xs, rfl, rfl, hH, q⟩ := h
 cases rx
 have hus := rv.zero
 subst hus
 obtain ⟨z, its, n, r, hl, e⟩ := I.lstM hH
 refine call_meets F.slot_list_clear ⟨_, e, rfl⟩ F.entry_list_clear (F.args_list_clear_1 _) (AutoSeq1.list_clear_list_0 l its.toArray n (by rw [List.size_toArray]; omega)) ⟨e, ?_⟩
 exact ⟨.non, _, I.lset (its' := []) (ys := []) hH e rfl .nil (Nat.zero_le _), rfl, q⟩
def rCat : R2 := fun x y H Q => ∃ l b xs zs, x = .ref l ∧ y = .ref b ∧ H l = some (.lst xs) ∧ H b = some (.lst zs) ∧ xs.length + zs.length ≤ sizeLine ∧ ∀ p, H p = none → Q (.ref p) (upd H p (.lst (xs ++ zs)))
theorem op_cat : OpR X (binaryOp .Add) rCat := by
 intro pins s σ H x y v u Q I rx ry h
 obtain ⟨l, b, xs, zs, rfl, rfl, hH, hB, hz, q⟩ := h
 cases rx
 cases ry
 obtain ⟨z, its, n, r, hl, e⟩ := I.lstM hH
 obtain ⟨z2, its2, n2, r2, hl2, e2⟩ := I.lstM hB
 refine PySem.P.add_list e e2 ?_ (by rw [List.size_toArray, List.size_toArray]; omega)
 have ea : its.toArray ++ its2.toArray = (its ++ its2).toArray := by simp
 rw [ea]
 exact ⟨.ref _, _, I.lnew (t' := s.toks) (r.append r2) (by rw [List.length_append]; omega), rfl, q _ I.fresh⟩
end
section
variable {prog : Program} {w : World} {A : Around} {E : Value → Shared → Prop} {s : Shared}
set_option maxRecDepth 100000 in
end
section
variable {X : Cx}
end
end L2
namespace Att
open PySem PySem.W PySem.Calls PyProof.Rows
theorem ints_of_wellAll {P : Params} {h : Heap} : ∀ (ns : List Int) (vs : List Value), WellAll P h vs (ns.map WData.int) → IntsAre vs ns := by
 intro ns
 induction ns with
 | nil =>
  intro vs w
  rw [List.map_nil] at w
  cases w
  exact .nil
 | cons n ns ih =>
  intro vs w
  rw [List.map_cons] at w
  cases w with
  | cons a b =>
   cases a
   exact .cons _ _ (ih _ b)
theorem script_of {l : OpenLaw} {n : Nat} (hn : l.most = some n) {P : Params} {h : Heap} {args : List WData} {vals : List Value}
  (hpre : l.row.toRowW.claim.pre args = true) (hwl : WellAll P h vals args) :
  ∃ a vs ns, vals = [Value.ref a] ∧ args = [WData.list (ns.map WData.int)] ∧ h.get? a = some { cls := .type "list", data := .seq vs.toArray } ∧ IntsAre vs ns ∧ ns.length ≤ n := by
 have hsh : WShape.hasAll [] args [.list .int] = true := (pre_splitW hpre).1
 have hc : l.pre.holds [] { args := args } = true := (pre_splitW hpre).2
 obtain ⟨d, r, rfl, h1, h2⟩ := hasAllW_cons hsh
 obtain rfl := hasAllW_nil h2
 obtain ⟨xs, rfl, h3⟩ := hasW_list h1
 obtain ⟨ns, rfl⟩ := items_int h3
 have hlen : ns.length ≤ n := by
  unfold OpenLaw.pre at hc
  have h4 : (WTm.not (.lt (.lit (.int (n : Int))) (.len (.arg 0)))).holds [] { args := [.list (ns.map .int)] } = true := by
   have h4 := (holds_andW hc).1
   rw [hn] at h4
   exact h4
  have h5 := condW_of h4 (w_not (w_lt w_lit (w_len_list (w_arg rfl))))
  rw [List.length_map] at h5
  refine Nat.le_of_not_lt fun q => ?_
  have q' : (n : Int) < ((ns.length : Nat) : Int) := by omega
  first
   | (rw [decide_eq_true q'] at h5; exact absurd h5 (by decide))
   | (simp at h5; omega)
 cases hwl with
 | cons w1 w2 =>
  cases w2
  cases w1 with
  | list ho hall => exact ⟨_, _, ns, rfl, rfl, ho, ints_of_wellAll ns _ hall, hlen⟩
theorem post_true (l : OpenLaw) (args : List WData) : l.row.toRowW.claim.post args (.bool true) args = true :=
 postW_of (r := l.row.toRowW) (X := (true == true))
  (show WShape.has [] (.bool true) .bool = true by first | rfl | decide | simp [WShape.has, WShape.arms, WShape.armsAll])
  (show (WTm.eq .res (.lit (.bool true))).value [] { args := args, res := some (.bool true), after := args } = some (.bool (true == true)) from w_eq_bool (w_res rfl) w_lit) rfl
theorem attach_call {l : OpenLaw} {n : Nat} {q : Program} {loose : List Str} {XP : (Str → Option Value) → Heap → Prop} {YP : World → Heap → Prop} {d : DefRec}
  (hn : l.most = some n) (hdf : d.params.defaults = [])
  (call : ∀ (w : World) (s₀ s₁ : Shared) (mg mb : Str → Option Value) (fa : Addr) (o : Obj) (pm cd doc : Value) (a : Addr) (vs : List Value) (ns : List Int),
   Ground q loose [] XP w s₀ mg mb s₁.heap → YP w s₁.heap →
   s₁.heap.get? fa = some o → o.data = .func (docDef d.name d.params d.body d.scope pm cd doc) → s₁.heap.CodeRec cd d.name → mg d.name = some (.ref fa) →
   s₁.heap.get? a = some { cls := .type "list", data := .seq vs.toArray } → IntsAre vs ns → ns.length ≤ n → s₁.gens = #[] →
   codeAny (model l.prog w) callerA (.call (.ref fa) ⟨[.ref a], []⟩) (fun r s' => r = .ok (.ret (.bool true)) ∧ OldK s₁.heap s'.heap ∧ s'.os = s₁.os ∧ AllBare s'.gens) s₁) :
  WalkO q loose XP YP l.row.toRowW d [] (fun f vs => PySem.call f vs) := by
 intro w s₀ s₁ mg mb G Y fa o pm cd doc dV kV ho hd hcd hD hmg hg args vals as hpre hlay hrd hwl hlo
 obtain rfl : dV = .none := Dflts.none hD hdf
 obtain rfl : kV = .none := Dflts.noKw hD
 obtain ⟨a, vs, ns, rfl, rfl, hobj, hints, hlen⟩ := script_of hn hpre hwl
 refine enter_call (codeAny_mono (call w s₀ s₁ mg mb fa o pm cd doc a vs ns G Y ho (fd_plain hd) hcd hmg hobj hints hlen hg) fun r s' hq => ?_)
 obtain ⟨rfl, h2, h3, h4⟩ := hq
 exact ⟨.inl ⟨.bool true, .bool true, [], rfl, fun _ => rfl, .bool true, post_true l _, fun _ => ⟨List.Pairwise.nil, fun _ hm => (nomatch hm)⟩⟩, h2, h3, h4⟩
section
variable {prog : Program} {w : World} {A : Around} {E : Value → Shared → Prop} {s : Shared} {K : Frag}
end
end Att
namespace L2
open PySem PySem.Spec PyProof.Rows
theorem vals_ints : ∀ {vs : List Value} {ns : List Int}, IntsAre vs ns → Vals (ns.map V.int) vs
 | _, _, .nil => .nil
 | _, _, .cons n t h => .cons ⟨t, rfl⟩ (vals_ints h)
def Only (H : Hp) : Prop := ∀ b, H b = none ∨ ∃ o xs, H b = some (.frz o (.lst xs))
theorem law_call {P : Program} {w : World} {K : PySem.W.Frag} {mg mb : Str → Option Value} {CX : CXT} {k : Nat} {fa a : Addr} {fd : FuncData} {x : Str} {sp : Sp} {s₁ : Shared} {vs : List Value} {ns : List Int}
  (KX : K.In s₁.heap) (hns : s₁.heap.Ns mainGlobals mg) (hb : s₁.heap.Ns builtinsNs mb) (hbb : ∀ x : Str, x ≠ "__name__" → mb x = bootBuiltins x) (hlim : s₁.heap.NoLimit) (hg : s₁.gens = #[])
  (ha : s₁.heap.get? a = some { cls := .type "list", data := .seq vs.toArray }) (hi : IntsAre vs ns) (hl : ns.length ≤ sizeLine) (hr : Room k callerA)
  (F : ∀ base : Heap, K.In base → base.Ns mainGlobals mg → FnOk P w K mg base CX k fa fd [x] sp) (hbind : ∀ (s : Shared) (u : Value), BindsTo s fd ⟨[u], []⟩ [(x, u)])
  (hsp : ∀ H : Hp, Only H → SqL K H a (ns.map V.int) → sp [.ref a] H (fun v _ => v = .bl true) fun _ _ _ => False)
  (hCX : ∀ H e s', CX [] H s₁ (fun _ _ _ => False) e s' → False) :
  codeAny (model P w) callerA (.call (.ref fa) ⟨[.ref a], []⟩) (fun r s' => r = .ok (.ret (.bool true)) ∧ OldK s₁.heap s'.heap ∧ s'.os = s₁.os ∧ AllBare s'.gens) s₁ := by
 have rv := vals_ints hi
 have lenV := hi.length
 have core : ∀ H : Hp, Only H → SqL K H a (ns.map V.int) → HOk P w H s₁.heap → (∀ b, H b ≠ none → b = a) → (H a ≠ none → K.lookup a = none) →
   codeAny (model P w) callerA (.call (.ref fa) ⟨[.ref a], []⟩) (fun r s' => r = .ok (.ret (.bool true)) ∧ OldK s₁.heap s'.heap ∧ s'.os = s₁.os ∧ AllBare s'.gens) s₁ := by
  intro H hO hS hok hA hK
  have base_of : ∀ {b : Addr} {o : Obj}, s₁.heap.get? b = some o → H b = none → (hidT s₁.heap H).get? b = some o := fun e n => hidT_get e n
  have noA : ∀ {b : Addr} {o : Obj} {es : Array DictEntry} {ep : Nat}, s₁.heap.get? b = some o → o.data = .dict es ep → H b = none := fun {b o es ep} e d => by
   cases q : H b with
   | none => rfl
   | some u =>
    have e' : b = a := hA b (by rw [q]; simp)
    subst e'
    rw [ha] at e; cases e
    have d' : Data.seq vs.toArray _ = Data.dict es ep := d
    cases d'
  have nsK : ∀ {b : Addr} {m : Str → Option Value}, s₁.heap.Ns b m → (hidT s₁.heap H).Ns b m := fun {b m} ⟨o, es, ep, e, d, r⟩ => ⟨o, es, ep, base_of e (noA e d), d, r⟩
  have hKb : K.In (hidT s₁.heap H) := fun b o e => base_of (KX b o e) (by
   cases q : H b with
   | none => rfl
   | some u =>
    have e' : b = a := hA b (by rw [q]; simp)
    subst e'
    rw [hK (by rw [q]; simp)] at e; cases e)
  have hM : Mod K mg (hidT s₁.heap H) := ⟨hKb, nsK hns, ⟨mb, nsK hb, hbb⟩, let ⟨mc, h1, h2⟩ := hlim; ⟨mc, nsK h1, h2⟩⟩
  have e0 : Env0 P w K mg (hidT s₁.heap H) callerA [] s₁ H := ⟨rfl, hM, fun b o e => of_hidT e, Nat.le_of_eq (hidT_size _ _), trivial, fun b hb => absurd (show b ∈ ([] : List Addr) from hb) (by simp), hok, .of_eq hg⟩
  refine codeAny_mono ((F _ hKb (nsK hns)).run callerA [] s₁ H ⟨[.ref a], []⟩ [.ref a] [.ref a] _ _ hr e0 (hbind s₁ (.ref a)) (.cons rfl .nil) (hsp H hO hS)) fun r s' h => ?_
  cases r with
  | error e => exact (hCX H e s' h).elim
  | ok fl =>
   cases fl with
   | next => exact False.elim h
   | brk => exact False.elim h
   | cont => exact False.elim h
   | ret u =>
    obtain ⟨v, H', os, bare, un, hok', r', q⟩ := h
    have q' : v = .bl true := q
    subst q'
    obtain rfl : u = Value.bool true := r'
    refine ⟨rfl, OldK.of_keep fun b o e => ?_, os, bare⟩
    cases q : H b with
    | none => exact un.keep b o e q (by intro z; exact absurd (show b ∈ ([] : List Addr) from z) (by simp)) (by simp)
    | some u =>
     rcases hO b with z | ⟨ob, xs, z⟩
     ·rw [q] at z; cases z
     ·have z2 := un.frzs b ob _ z
      obtain ⟨e1, _⟩ := hok b _ z
      obtain ⟨e2, _⟩ := hok' b _ z2
      rw [e] at e1; cases e1
      exact e2
 cases hk : K.lookup a with
 | some o =>
  have e := KX a o hk
  rw [ha] at e
  cases e
  refine core (fun _ => none) (fun _ => .inl rfl) (.inr ⟨_, vs.toArray, _, hk, rfl, rfl, rfl, by rw [List.size_toArray, lenV]; exact hl, by simpa using rv⟩) (fun b u z => by have z' : (none : Option HO) = some u := z; cases z') (fun b z => absurd rfl z) fun z => absurd rfl z
 | none =>
  refine core (fun b => if b = a then some (.frz { cls := .type "list", data := .seq vs.toArray } (.lst (ns.map V.int))) else none) (fun b => ?_) (.inl (.inr ⟨{ cls := .type "list", data := .seq vs.toArray }, if_pos rfl⟩)) (fun b u z => ?_) (fun b z => ?_) fun _ => hk
  ·by_cases hb : b = a
   ·exact .inr ⟨_, _, if_pos hb⟩
   ·exact .inl (if_neg hb)
  ·by_cases hb : b = a
   ·have z' := (if_pos hb).symm.trans z
    cases z'
    subst hb
    exact ⟨ha, by rw [List.length_map]; exact hl, vs, _, rv, ha⟩
   ·have z' := (if_neg hb).symm.trans z
    cases z'
  ·by_cases hb : b = a
   ·exact hb
   ·exact absurd (if_neg hb) z
end L2
namespace L2
open PySem PySem.Spec PyProof.Rows
theorem walk_of {l : PySem.W.OpenLaw} {n k : Nat} {q : Program} {loose : List Str} {XP : (Str → Option Value) → Heap → Prop} {YP : World → Heap → Prop} {d : DefRec} {K : Params → PySem.W.Frag} {CX : World → CXT} {sp : World → Sp} {x : Str}
  (hn : l.most = some n) (hn2 : n ≤ sizeLine) (hdf : d.params.defaults = []) (hr : Room k callerA)
  (hY : ∀ (w : World) (h : Heap), YP w h → (K w.params).In h)
  (F : ∀ (w : World) (mg : Str → Option Value) (fa : Addr) (h : Heap), (K w.params).In h → h.Ns mainGlobals mg → mg d.name = some (.ref fa) →
   ∃ fd : FuncData, (∀ (s : Shared) (u : Value), BindsTo s fd ⟨[u], []⟩ [(x, u)]) ∧
    ∀ base : Heap, (K w.params).In base → base.Ns mainGlobals mg → FnOk l.prog w (K w.params) mg base (CX w) k fa fd [x] (sp w))
  (hsp : ∀ (w : World) (H : Hp) (a : Addr) (ns : List Int), ns.length ≤ n → Only H → SqL (K w.params) H a (ns.map V.int) → sp w [.ref a] H (fun v _ => v = .bl true) fun _ _ _ => False)
  (hCX : ∀ (w : World) (H : Hp) (s : Shared) (e : Value) (s' : Shared), CX w [] H s (fun _ _ _ => False) e s' → False) :
  PySem.W.WalkO q loose XP YP l.row.toRowW d [] (fun f vs => PySem.call f vs) := by
 refine Att.attach_call hn hdf fun w s₀ s₁ mg mb fa o pm cd doc a vs ns G Y ho hd hcd hmg hobj hints hlen hg => ?_
 have KX := hY w _ Y
 obtain ⟨fd, hb, hF⟩ := F w mg fa _ KX G.T.g hmg
 exact law_call KX G.T.g G.T.b G.T.builtins G.T.nolimit hg hobj hints (Nat.le_trans hlen hn2) hr hF hb (fun H hO hS => hsp w H a ns hlen hO hS) fun H e s' => hCX w H s₁ e s'
end L2
/- THE LAST THEOREM (shape; LID, My.* are yours):
   My.Adr: a structure of the addresses that your layer names (classes, functions); My.Txt K t: a structure (Prop) of the equations over K;
   My.txt_mk : {K} {implicit addresses ..} (e1 : nsIn K mainGlobals "law" = some (some (.ref f))) (e2 : K.lookup f = some ⟨oc, od, .func (fnOf "law" "law" params body scope dV kV doc pm an cdv ct), sl⟩) (e3 : codeIn K cdv "law" = true) .. : ∃ t, My.Txt K t
set_option maxRecDepth 100000 in
set_option maxHeartbeats 0 in
theorem PySem.Challenge.cw_LID_holds : PySem.Challenge.rw_LID.Holds := by
 w_on; o_law; k_head; (case hw => w_witness2)
 k_fill
 refine L2.walk_of (l := PySem.Challenge.rw_LID) (n := 63) (k := 40) (x := "script") (CX := fun w => ..) (sp := fun _ => My.sp_law) rfl (by decide) rfl ⟨rfl, by decide, by decide⟩ (fun w h Y => PySem.W.kIn_of Y) ?F ?S ?C
 case F =>
  intro w mg fa h KX G hmg
  have T : ∃ t, My.Txt (L2.KOf KX) t := by
   dsimp only [L2.KOf]                          -- K must stand as «<heap const> w.params» for k_is
   refine' My.txt_mk ?e1 ?e2 ?e3 ..
   (case e1 => PySem.W.k_is)                    -- in the order: a name -> its address -> its object -> its parts
   (case e2 => PySem.W.k_is)
   ..
  obtain ⟨t, T⟩ := T
  have e0 := hmg.symm.trans (PySem.W.mg_of KX G T.law)
  cases e0                                       -- fa is the law's own address
  exact ⟨_, fun s u => .of_eq rfl, fun base kb nb => My.law_fn T kb nb⟩     -- if «.of_eq rfl» comes too early: refine' ⟨_, ?b, fun base kb nb => My.law_fn T kb nb⟩; exact fun s u => .of_eq rfl
 case S => exact fun w H a ns hl hO hS => ..
 case C => exact ..
(the tactic k_is has no namespace: write k_is) -/
namespace L2
open PySem PySem.Spec PyProof.Rows
def inClass (s : Stmt) (j : Nat) : Stmt := match s with
 | .ClassDef _ _ _ body _ _ _ _ _ _ _ => body.getD j (.Pass ⟨0, 0, 0, 0⟩)
 | _ => .Pass ⟨0, 0, 0, 0⟩
def defArgs (s : Stmt) : Arguments := match s with
 | .FunctionDef _ a _ _ _ _ _ _ _ _ => a
 | _ => { posonlyargs := [], args := [], vararg := none, kwonlyargs := [], kw_defaults := [], kwarg := none, defaults := [] }
def defBody (s : Stmt) : List Stmt := match s with
 | .FunctionDef _ _ b _ _ _ _ _ _ _ => b
 | _ => []
def defScope (s : Stmt) : Scope := match s with
 | .FunctionDef _ _ _ _ _ _ sc _ _ _ => sc
 | _ => { kind := .function, names := [], isGenerator := false, isCoroutine := false }
abbrev CX0 : CXT := fun _ _ _ _ _ _ => False
abbrev E0 : XK := fun _ _ _ => False
theorem pass0 {X : Cx} : Passes CX0 X E0 := fun _ _ _ _ _ _ _ h => h.elim
structure Fun (K : PySem.W.Frag) (x qual : Str) (st : Stmt) (f : Addr) (fd : FuncData) : Prop where
 ex : ∃ (oc : Value) (od : Option Addr) (kV doc pm : Value) (an : Option Addr) (cdv ct : Value) (osl : Array (Option Value)),
  fd = PySem.W.fnOf x qual (defArgs st) (defBody st) (defScope st) .none kV doc pm an cdv ct ∧ K.lookup f = some ⟨oc, od, .func fd, osl⟩ ∧ PySem.W.codeIn K cdv qual = true
 kp : PySem.W.keepIn K (.ref f) = true
section
variable {P : Program} {w : World} {K : PySem.W.Frag} {mg : Str → Option Value} {base : Heap}
theorem Fun.ok {x qual : Str} {st : Stmt} {f : Addr} {fd : FuncData} {N ps : List Str} {k : Nat} {sp : Sp} (F : Fun K x qual st f fd) (S : FnScope N ps (defScope st)) (len : ∀ vs H Q E, sp vs H Q E → vs.length = ps.length)
  (hbody : ∀ (cdv : Value) (A : Around) (outer : List Env) (s : Shared) (H : Hp) (vs : List V) (Q : VK) (E : XK), Room k (A.deeper (envOfC qual (defScope st) s.heap.objs.size f cdv)) → sp vs H Q E →
   ∃ t, PSs (cxOf CX0 P w K mg base N qual (defScope st) f cdv A outer s H E).nox (defBody st) t ∧ t { nx := fun _ H' => Q .non H', rt := Q } (start N vs) H) : FnOk P w K mg base CX0 (k + 1) f fd ps sp := by
 obtain ⟨oc, od, kV, doc, pm, an, cdv, ct, osl, rfl, lk, hcd⟩ := F.ex
 refine fn_of lk hcd S len fun A outer s H vs Q E hr hsp => ?_
 obtain ⟨t, h, q⟩ := hbody cdv A outer s H vs Q E hr hsp
 exact ⟨t, h.nox, q⟩
theorem Fun.binds {x qual : Str} {st : Stmt} {f : Addr} {fd : FuncData} {ps : List Str} (F : Fun K x qual st f fd)
  (h : ∀ (kV doc pm : Value) (an : Option Addr) (cdv ct : Value) (us : List Value), us.length = ps.length → bindArgs (PySem.W.fnOf x qual (defArgs st) (defBody st) (defScope st) .none kV doc pm an cdv ct) ⟨us, []⟩ = pure (ps.zip us)) : Binds K fd ps [] := by
 obtain ⟨oc, od, kV, doc, pm, an, cdv, ct, osl, rfl, lk, hcd⟩ := F.ex
 exact .all (h kV doc pm an cdv ct)
theorem fun_mk {x qual : Str} {st : Stmt} {f : Addr} {oc : Value} {od an : Option Addr} {osl : Array (Option Value)} {kV doc pm cdv ct : Value} (l : K.lookup f = some ⟨oc, od, .func (PySem.W.fnOf x qual (defArgs st) (defBody st) (defScope st) .none kV doc pm an cdv ct), osl⟩)
  (c : PySem.W.codeIn K cdv qual = true) (k : PySem.W.keepIn K (.ref f) = true) : Fun K x qual st f (PySem.W.fnOf x qual (defArgs st) (defBody st) (defScope st) .none kV doc pm an cdv ct) := ⟨⟨oc, od, kV, doc, pm, an, cdv, ct, osl, rfl, l, c⟩, k⟩
end
theorem hu_of {A : Around} {k : Nat} (hr : Room k A) : A.units + 1 < cLine := Nat.lt_of_le_of_lt (Nat.add_le_add_left (by decide : 1 ≤ 64) _) hr.units
section
variable {X : Cx}
theorem pv (i : Nat) {x : Str} {pos : Pos} (hN : X.N[i]? = some x := by rfl) (hv : Vis X.env.scope x := by first | exact Or.inl rfl | exact Or.inr (Or.inl rfl) | exact Or.inr (Or.inr rfl)) (hd : (x == ("__debug__" : Str)) = false := by decide)
  (hcd : (x == ("__classdict__" : Str)) = false := by decide) : PE X (.Name x pos) (tVar i) := pe_var hN hv hd hcd
end
theorem iteF {A B : Prop} (h : B) : if false = true then A else B := by
 rw [if_neg Bool.false_ne_true]
 exact h
theorem iteT {A B : Prop} (h : A) : if true = true then A else B := by
 rw [if_pos rfl]
 exact h
theorem ite2 {c A B : Prop} [Decidable c] (h1 : c → A) (h2 : ¬ c → B) : if c then A else B := by
 by_cases h : c
 ·rw [if_pos h]
  exact h1 h
 ·rw [if_neg h]
  exact h2 h
theorem iteNS {c A B : Prop} [Decidable c] (hc : c) (h : B) : if (!decide c) = true then A else B := by
 rw [decide_eq_true hc]
 exact iteF h
def Same (H H' : Hp) : Prop := ∀ b o, H b = some o → H' b = some o
theorem Same.refl (H : Hp) : Same H H := fun _ _ h => h
theorem Same.trans {H H1 H2 : Hp} (a : Same H H1) (b : Same H1 H2) : Same H H2 := fun c o h => b c o (a c o h)
theorem Same.free {H H' : Hp} (e : Same H H') {l : Addr} (h : H' l = Option.none) : H l = Option.none := by
 cases q : H l with
 | none => rfl
 | some o =>
  rw [e l o q] at h
  cases h
theorem Same.seq {K : PySem.W.Frag} {H H' : Hp} {a : Addr} {xs : List V} (e : Same H H') (h : SqL K H a xs) : SqL K H' a xs := by
 rcases h with (h | ⟨o, h⟩) | h
 ·exact .inl (.inl (e _ _ h))
 ·exact .inl (.inr ⟨o, e _ _ h⟩)
 ·exact .inr h
end L2
namespace L2
open PySem PySem.Spec PyProof.Rows
def Sm (i : Int) : Prop := i.natAbs.log2 < 4000
theorem Sm.of_lt {i : Int} (h : i.natAbs < 2 ^ 4000) : Sm i := by
 unfold Sm
 by_cases h0 : i.natAbs = 0
 ·rw [h0]
  exact Nat.lt_of_le_of_lt (Nat.le_of_eq (by decide : Nat.log2 0 = 0)) (by decide)
 ·exact (Nat.log2_lt h0).mpr h
theorem Sm.lt {i : Int} (h : Sm i) : i.natAbs < 2 ^ 4000 := by
 unfold Sm at h
 by_cases h0 : i.natAbs = 0
 ·rw [h0]
  exact Nat.two_pow_pos _
 ·exact (Nat.log2_lt h0).mp h
theorem Sm.of_bits {i : Int} {n : Nat} (h : i.natAbs < 2 ^ n) (hn : n ≤ 4000) : Sm i :=
 .of_lt (Nat.lt_of_lt_of_le h (Nat.pow_le_pow_right (by decide) hn))
theorem Sm.bits {i : Int} (h : Sm i) : Builtin.Int.intBits i ≤ 2 ^ 20 := by
 unfold Builtin.Int.intBits
 have : (4000 : Nat) ≤ 2 ^ 20 := by decide
 have h' : i.natAbs.log2 < 4000 := h
 split <;> omega
section
variable {X : Cx}
def CMulS (i j : Int) : Prop := Sm i ∧ Sm j
def CDivS (_ j : Int) : Prop := 0 < j ∧ Sm j
theorem op_mulS : OpR X (binaryOp .Mult) (rI CMulS fun i j => .int (i * j)) := opI fun _ _ _ _ _ _ _ hc q => mul_int q (IntMulOk.of_bits hc.1.bits hc.2.bits)
theorem op_fdivS : OpR X (binaryOp .FloorDiv) (rI CDivS fun i j => .int (i / j)) := opI fun i j _ _ _ _ _ hc q => by
 have e : Int.fdiv i j = i / j := Int.fdiv_eq_ediv_of_nonneg i (Int.le_of_lt hc.1)
 refine floordiv_int (by have := hc.1; omega) ?_ (.inl (PyProof.noPylong_of_log2 (Nat.lt_trans hc.2 (by decide))))
 rw [e]
 exact q
inductive TyO (K : PySem.W.Frag) (H : Hp) : V → Value → Prop where
 | of {x : V} {t : Value} (h : TyOf K H x t) : TyO K H x t
 | sqT {a : Addr} {xs : List V} (h : SqT K H a xs) : TyO K H (.ref a) (.type "tuple")
 | sqL {a : Addr} {xs : List V} (h : SqL K H a xs) : TyO K H (.ref a) (.type "list")
def rIsi (K : PySem.W.Frag) : List V → Hp → VK → Prop := fun xs H Q => match xs with
 | [x, .ty T] => ∃ t b, TyO K H x t ∧ PySem.W.kitOne K t (.type T) = some b ∧ Q (.bl b) H
 | _ => False
theorem call_isi : CallR X (.builtin "isinstance") (rIsi X.K) := by
 intro pins s σ H xs us Q I r h
 unfold rIsi at h
 split at h
 ·rename_i x T
  obtain ⟨t, b, ty, e, q⟩ := h
  obtain ⟨u, v, rfl, ru, rv⟩ := r.two
  cases (show v = Value.type T from rv)
  have fin : ∀ tk, EP X pins σ Q (.bool b) { s with toks := tk } := fun tk => ⟨.bl b, H, I.tok tk, rfl, q⟩
  cases ty with
  | of h => exact isinst_ok I ru h e fin
  | @sqT a ys h =>
   cases (show u = Value.ref a from ru)
   obtain ⟨its, _, p, _⟩ := I.tuple h
   obtain ⟨o, h1, h2, _⟩ := p
   exact PySem.W.kia_one PySem.W.kitx_tuple I.kIn ⟨o, h1, h2⟩ e (fun z => nomatch z) fin
  | @sqL a ys h =>
   cases (show u = Value.ref a from ru)
   obtain ⟨its, _, p, _⟩ := I.list h
   obtain ⟨o, n, h1, h2, _⟩ := p
   exact PySem.W.kia_one PySem.W.kitx_list I.kIn ⟨o, h1, h2⟩ e (fun z => nomatch z) fin
 ·exact h.elim
def tIsi (K : PySem.W.Frag) (T : String) (te : TE) : TE := tCB (rIsi K) (tCons te (tCons (tC (.ty T)) tNil))
theorem pe_isi {e : Expr} {te : TE} {T : String} {tx : Str} {p p2 pos : Pos} (he : PE X e te) (hg : Gl X "isinstance") (hm : X.mg "isinstance" = none) (hg2 : Gl X tx) (hm2 : X.mg tx = none)
  (hv : bootBuiltins tx = some (.type T)) (hn : tx ≠ "__name__" := by decide) (hd : (tx == ("__debug__" : Str)) = false := by decide)
  (h1 : starEach [e, .Name tx p2] X.env = (false, eval e X.env) :: starEach [.Name tx p2] X.env := by rfl) :
  PE X (.Call (.Name "isinstance" p) [e, .Name tx p2] [] pos) (tIsi X.K T te) :=
 pe_callB (call_isi (X := X)) hg hm PyProof.Rows.boot_isinstance (pa_cons he (pa_cons (pe_bltn (v := .ty T) hg2 hm2 hv rfl hn hd) pa_nil) h1) (he := h1)
theorem kit_int (K : PySem.W.Frag) : PySem.W.kitOne K (.type "int") (.type "int") = some true := rfl
theorem kit_int_bool (K : PySem.W.Frag) : PySem.W.kitOne K (.type "int") (.type "bool") = some false := by kernel_rfl
theorem kit_tuple (K : PySem.W.Frag) : PySem.W.kitOne K (.type "tuple") (.type "tuple") = some true := rfl
theorem kit_list (K : PySem.W.Frag) : PySem.W.kitOne K (.type "list") (.type "list") = some true := rfl
end
def rpInt (_ : Hp) (x : V) (i : Int) : Prop := x = .int i
def rpPair {α β : Type} (K : PySem.W.Frag) (R : Hp → V → α → Prop) (S : Hp → V → β → Prop) (H : Hp) (x : V) (d : α × β) : Prop := ∃ p y z, x = .ref p ∧ SqT K H p [y, z] ∧ R H y d.1 ∧ S H z d.2
def rpLst {α : Type} (K : PySem.W.Frag) (R : Hp → V → α → Prop) (H : Hp) (x : V) (ds : List α) : Prop := ∃ p ys, x = .ref p ∧ SqL K H p ys ∧ Paired (R H) ys ds
structure RpE {α : Type} [DecidableEq α] (K : PySem.W.Frag) (R : Hp → V → α → Prop) (d : Nat) : Prop where
 inj : ∀ {X : Cx} {pins : List (Addr × Obj)} {σ : St} {H : Hp} {s : Shared} {x : V} {a b : α}, X.K = K → Inv X pins σ H s → R H x a → R H x b → a = b
 eq : ∀ {X : Cx} {pins : List (Addr × Obj)} {σ : St} {H : Hp} {s : Shared} {A : Around} {x y : V} {u v : Value} {a b : α}, X.K = K → Inv X pins σ H s → A.units + d < cLine → R H x a → R H y b → RelV x u → RelV y v → SeqAt.EqAt A s u v (decide (a = b))
theorem Paired.get {α β : Type} {F : α → β → Prop} : ∀ {xs : List α} {ys : List β}, Paired F xs ys → ∀ (i : Nat) (x : α) (y : β), xs[i]? = some x → ys[i]? = some y → F x y
 | _, _, .nil, i, x, y, h, _ => by simp at h
 | _, _, .cons r _, 0, x, y, h1, h2 => by
  simp at h1 h2
  subst h1 h2
  exact r
 | _, _, .cons _ t, i + 1, x, y, h1, h2 => Paired.get t i x y (by simpa using h1) (by simpa using h2)
theorem Paired.fn {α β : Type} {F : α → β → Prop} (f : ∀ x a b, F x a → F x b → a = b) : ∀ {xs : List α} {ys zs : List β}, Paired F xs ys → Paired F xs zs → ys = zs
 | _, _, _, .nil, .nil => rfl
 | _, _, _, .cons r t, .cons r' t' => by rw [f _ _ _ r r', Paired.fn f t t']
theorem rpe_int {K : PySem.W.Frag} : RpE K rpInt 0 where
 inj := fun _ _ h1 h2 => by
  have h : V.int _ = V.int _ := h1.symm.trans h2
  exact V.int.inj h
 eq := fun {X pins σ H s A x y u v a b} _ _ _ h1 h2 r1 r2 => by
  cases (show x = .int a from h1)
  cases (show y = .int b from h2)
  obtain ⟨t, rfl⟩ := (show ∃ t, u = Value.int a t from r1)
  obtain ⟨t', rfl⟩ := (show ∃ t, v = Value.int b t from r2)
  have e : (a == b) = decide (a = b) := Bool.beq_eq_decide_eq a b
  rw [← e]
  exact SeqAt.EqAt.int_int a t b t'
section
variable {α β : Type} [DecidableEq α] [DecidableEq β] {K : PySem.W.Frag} {R : Hp → V → α → Prop} {S : Hp → V → β → Prop} {d : Nat} {X : Cx} {pins : List (Addr × Obj)} {σ : St} {H : Hp} {s : Shared} {A : Around}
theorem in1_units (A : Around) : A.in1.units = A.units + 1 := rfl
theorem pair_items (hR : RpE K R d) (hS : RpE K S d) (hK : X.K = K) (I : Inv X pins σ H s) (hu : A.units + (d + 1) < cLine) {y z y' z' : V} {its its' : List Value} {c c' : α × β} (r : Vals [y, z] its) (r' : Vals [y', z'] its')
  (h1 : R H y c.1) (h2 : S H z c.2) (h1' : R H y' c'.1) (h2' : S H z' c'.2) :
  ∃ e : Nat → Bool, (∀ j (q1 : j < its.toArray.size) (q2 : j < its'.toArray.size), SeqAt.EqAt A.in1 s its.toArray[j] its'.toArray[j] (e j)) ∧ ((List.range (min its.toArray.size its'.toArray.size)).all e && its.toArray.size == its'.toArray.size) = decide (c = c') := by
 obtain ⟨u1, u2, rfl, q1, q2⟩ := r.two
 obtain ⟨u1', u2', rfl, q1', q2'⟩ := r'.two
 have hu' : A.in1.units + d < cLine := by rw [in1_units]; omega
 have e1 := hR.eq (A := A.in1) hK I hu' h1 h1' q1 q1'
 have e2 := hS.eq (A := A.in1) hK I hu' h2 h2' q2 q2'
 refine ⟨fun j => match j with | 0 => decide (c.1 = c'.1) | _ => decide (c.2 = c'.2), fun j z1 z2 => ?_, ?_⟩
 ·match j, z1, z2 with
  | 0, _, _ => exact e1
  | 1, _, _ => exact e2
 ·obtain ⟨a, b⟩ := c
  obtain ⟨a', b'⟩ := c'
  show (((List.range 2).all _) && true) = _
  rw [show List.range 2 = [0, 1] from rfl, Bool.and_true]
  simp only [List.all_cons, List.all_nil, Bool.and_true, Prod.mk.injEq]
  exact (Bool.decide_and _ _).symm
theorem rpe_pair (hR : RpE K R d) (hS : RpE K S d) : RpE K (rpPair K R S) (d + 1) where
 inj := fun {X pins σ H s x c c'} hK I h h' => by
  obtain ⟨p, y, z, rfl, q, h1, h2⟩ := h
  obtain ⟨p', y', z', e, q', h1', h2'⟩ := h'
  cases e
  subst hK
  have e := I.tuple_inj q q'
  injection e with e1 e2
  injection e2 with e2 _
  subst e1 e2
  exact Prod.ext (hR.inj rfl I h1 h1') (hS.inj rfl I h2 h2')
 eq := fun {X pins σ H s A x y u v c c'} hK I hu h h' r r' => by
  obtain ⟨p, y, z, rfl, q, h1, h2⟩ := h
  obtain ⟨p', y', z', rfl, q', h1', h2'⟩ := h'
  cases (show u = Value.ref p from r)
  cases (show v = Value.ref p' from r')
  by_cases hp : p = p'
  ·subst hp
   subst hK
   have e := I.tuple_inj q q'
   injection e with e1 e2
   injection e2 with e2 _
   subst e1 e2
   have e : c = c' := Prod.ext (hR.inj rfl I h1 h1') (hS.inj rfl I h2 h2')
   rw [decide_eq_true e]
   exact SeqAt.EqAt.same _
  ·have q0 : SqT X.K H p [y, z] := hK ▸ q
   have q0' : SqT X.K H p' [y', z'] := hK ▸ q'
   obtain ⟨its, rr, pt, _⟩ := I.tuple q0
   obtain ⟨its', rr', pt', _⟩ := I.tuple q0'
   obtain ⟨e, he, ee⟩ := pair_items hR hS hK I hu rr rr' h1 h2 h1' h2'
   rw [← ee]
   exact SeqAt.EqAt.of_refs hp (SeqAt.RcAt.tuples pt pt' (by omega) he)
theorem lst_items (hR : RpE K R d) (hK : X.K = K) (I : Inv X pins σ H s) (hu : A.units + (d + 1) < cLine) {ys ys' : List V} {its its' : List Value} {ds ds' : List α} (r : Vals ys its) (r' : Vals ys' its')
  (h : Paired (R H) ys ds) (h' : Paired (R H) ys' ds') :
  ∀ j (q1 : j < its.toArray.size) (q2 : j < its'.toArray.size), SeqAt.EqAt A.in1 s its.toArray[j] its'.toArray[j] (decide (ds[j]? = ds'[j]?)) := by
 intro j q1 q2
 rw [List.size_toArray] at q1 q2
 have hu' : A.in1.units + d < cLine := by rw [in1_units]; omega
 have l1 := r.length
 have l2 := h.length
 have l1' := r'.length
 have l2' := h'.length
 have g1 : ys[j]? = some (ys[j]'(by omega)) := List.getElem?_eq_getElem _
 have g2 : ds[j]? = some (ds[j]'(by omega)) := List.getElem?_eq_getElem _
 have g1' : ys'[j]? = some (ys'[j]'(by omega)) := List.getElem?_eq_getElem _
 have g2' : ds'[j]? = some (ds'[j]'(by omega)) := List.getElem?_eq_getElem _
 obtain ⟨u, gu, ru⟩ := r.get g1
 obtain ⟨u', gu', ru'⟩ := r'.get g1'
 have a1 := Paired.get h j _ _ g1 g2
 have a1' := Paired.get h' j _ _ g1' g2'
 have eu : its.toArray[j] = u := by
  rw [List.getElem_toArray]
  exact Option.some.inj ((List.getElem?_eq_getElem q1).symm.trans gu)
 have eu' : its'.toArray[j] = u' := by
  rw [List.getElem_toArray]
  exact Option.some.inj ((List.getElem?_eq_getElem q2).symm.trans gu')
 rw [eu, eu', g2, g2']
 have e := hR.eq (A := A.in1) hK I hu' a1 a1' ru ru'
 have ed : decide (some (ds[j]'(by omega)) = some (ds'[j]'(by omega))) = decide ((ds[j]'(by omega)) = (ds'[j]'(by omega))) := by
  simp only [Option.some.injEq]
 rw [ed]
 exact e
theorem all_same {ds ds' : List α} (hl : ds.length = ds'.length) : (List.range ds.length).all (fun j => decide (ds[j]? = ds'[j]?)) = decide (ds = ds') := by
 by_cases h : ds = ds'
 ·subst h
  simp
 ·rw [decide_eq_false h]
  cases e : (List.range ds.length).all (fun j => decide (ds[j]? = ds'[j]?)) with
  | false => rfl
  | true =>
   exfalso
   refine h (List.ext_getElem? fun j => ?_)
   by_cases hj : j < ds.length
   ·exact of_decide_eq_true (List.all_eq_true.mp e j (List.mem_range.mpr hj))
   ·rw [List.getElem?_eq_none (by omega), List.getElem?_eq_none (by omega)]
theorem rc_lst (hR : RpE K R d) (hK : X.K = K) (I : Inv X pins σ H s) (hu : A.units + (d + 1) < cLine) {p p' : Addr} {ys ys' : List V} {ds ds' : List α} (q : SqL K H p ys) (q' : SqL K H p' ys')
  (h : Paired (R H) ys ds) (h' : Paired (R H) ys' ds') : SeqAt.RcAt A s (.ref p) (.ref p') (decide (ds = ds')) ∧ SeqAt.RcNeAt A s (.ref p) (.ref p') (!decide (ds = ds')) := by
 have q0 : SqL X.K H p ys := hK ▸ q
 have q0' : SqL X.K H p' ys' := hK ▸ q'
 obtain ⟨its, rr, pt, _⟩ := I.list q0
 obtain ⟨its', rr', pt', _⟩ := I.list q0'
 have l1 := rr.length
 have l2 := h.length
 have l1' := rr'.length
 have l2' := h'.length
 by_cases hl : ds.length = ds'.length
 ·have hs : its.toArray.size = its'.toArray.size := by simp only [List.size_toArray]; omega
  have en : its.toArray.size = ds.length := by simp only [List.size_toArray]; omega
  have it := lst_items hR hK I hu rr rr' h h'
  have ea := all_same hl
  refine ⟨?_, ?_⟩
  ·rw [← ea, ← en]
   exact SeqAt.RcAt.lists pt.isList pt'.isList hs (by omega) it
  ·rw [← ea, ← en]
   exact SeqAt.RcNeAt.lists pt.isList pt'.isList hs (by omega) it
 ·have hne : ds ≠ ds' := fun e => hl (by rw [e])
  have hs : (its.toArray.size != its'.toArray.size) = true := by
   simp only [List.size_toArray]
   exact bne_iff_ne.mpr (by omega)
  rw [decide_eq_false hne]
  exact ⟨SeqAt.RcAt.lists_lengths pt.isList pt'.isList hs (by omega), SeqAt.RcNeAt.lists_lengths pt.isList pt'.isList hs (by omega)⟩
theorem rpe_lst (hR : RpE K R d) : RpE K (rpLst K R) (d + 1) where
 inj := fun {X pins σ H s x c c'} hK I h h' => by
  obtain ⟨p, ys, rfl, q, h1⟩ := h
  obtain ⟨p', ys', e, q', h1'⟩ := h'
  cases e
  subst hK
  have e := I.list_inj q q'
  subst e
  exact Paired.fn (F := R H) (fun x a b h h' => hR.inj rfl I h h') h1 h1'
 eq := fun {X pins σ H s A x y u v c c'} hK I hu h h' r r' => by
  obtain ⟨p, ys, rfl, q, h1⟩ := h
  obtain ⟨p', ys', rfl, q', h1'⟩ := h'
  cases (show u = Value.ref p from r)
  cases (show v = Value.ref p' from r')
  by_cases hp : p = p'
  ·subst hp
   subst hK
   have e := I.list_inj q q'
   subst e
   have e : c = c' := Paired.fn (F := R H) (fun x a b h h' => hR.inj rfl I h h') h1 h1'
   rw [decide_eq_true e]
   exact SeqAt.EqAt.same _
  ·exact SeqAt.EqAt.of_refs hp (rc_lst hR hK I hu q q' h1 h1').1
end
def rEqP {α β : Type} [DecidableEq α] [DecidableEq β] (K : PySem.W.Frag) (R : Hp → V → α → Prop) (S : Hp → V → β → Prop) : R2 := fun x y H Q => ∃ a b, rpPair K R S H x a ∧ rpPair K R S H y b ∧ Q (.bl (decide (a = b))) H
def rNeP {α β : Type} [DecidableEq α] [DecidableEq β] (K : PySem.W.Frag) (R : Hp → V → α → Prop) (S : Hp → V → β → Prop) : R2 := fun x y H Q => ∃ a b, rpPair K R S H x a ∧ rpPair K R S H y b ∧ Q (.bl (!decide (a = b))) H
def rNeL {α : Type} [DecidableEq α] (K : PySem.W.Frag) (R : Hp → V → α → Prop) : R2 := fun x y H Q => ∃ a b, rpLst K R H x a ∧ rpLst K R H y b ∧ Q (.bl (!decide (a = b))) H
section
variable {α β : Type} [DecidableEq α] [DecidableEq β] {R : Hp → V → α → Prop} {S : Hp → V → β → Prop} {d : Nat} {X : Cx}
theorem op_eqP (hR : RpE X.K R d) (hS : RpE X.K S d) (hu : X.A.units + (d + 1) < cLine) : OpR X (compareOp .Eq) (rEqP X.K R S) := by
 intro pins s σ H x y v u Q I rx ry h
 obtain ⟨c, c', ⟨p, y1, z1, rfl, q, h1, h2⟩, ⟨p', y2, z2, rfl, q', h1', h2'⟩, k⟩ := h
 cases (show v = Value.ref p from rx)
 cases (show u = Value.ref p' from ry)
 obtain ⟨its, rr, pt, _⟩ := I.tuple q
 obtain ⟨its', rr', pt', _⟩ := I.tuple q'
 obtain ⟨e, he, ee⟩ := pair_items hR hS rfl I hu rr rr' h1 h2 h1' h2'
 refine SeqAt.eq_tupleAt pt pt' (by omega) he ⟨.bl _, H, I, rfl, ?_⟩
 rw [ee]
 exact k
theorem op_neP (hR : RpE X.K R d) (hS : RpE X.K S d) (hu : X.A.units + (d + 1) < cLine) : OpR X (compareOp .NotEq) (rNeP X.K R S) := by
 intro pins s σ H x y v u Q I rx ry h
 obtain ⟨c, c', ⟨p, y1, z1, rfl, q, h1, h2⟩, ⟨p', y2, z2, rfl, q', h1', h2'⟩, k⟩ := h
 cases (show v = Value.ref p from rx)
 cases (show u = Value.ref p' from ry)
 obtain ⟨its, rr, pt, _⟩ := I.tuple q
 obtain ⟨its', rr', pt', _⟩ := I.tuple q'
 obtain ⟨e, he, ee⟩ := pair_items hR hS rfl I hu rr rr' h1 h2 h1' h2'
 refine SeqAt.RcNeAt.tuples pt pt' (by omega) he X.prog X.w X.xe _ ⟨.bl _, H, I, rfl, ?_⟩
 rw [ee]
 exact k
theorem op_neL (hR : RpE X.K R d) (hu : X.A.units + (d + 1) < cLine) : OpR X (compareOp .NotEq) (rNeL X.K R) := by
 intro pins s σ H x y v u Q I rx ry h
 obtain ⟨c, c', ⟨p, y1, rfl, q, h1⟩, ⟨p', y2, rfl, q', h1'⟩, k⟩ := h
 cases (show v = Value.ref p from rx)
 cases (show u = Value.ref p' from ry)
 exact (rc_lst hR rfl I hu q q' h1 h1').2 X.prog X.w X.xe _ ⟨.bl _, H, I, rfl, k⟩
theorem any_range (bs : List Bool) : (List.range bs.length).any (fun i => bs.getD i false) = bs.any id := by
 rw [Bool.eq_iff_iff, List.any_eq_true, List.any_eq_true]
 constructor
 ·rintro ⟨i, hi, e⟩
  have hi := List.mem_range.mp hi
  rw [List.getD_eq_getElem?_getD, List.getElem?_eq_getElem hi] at e
  exact ⟨bs[i], List.getElem_mem hi, e⟩
 ·rintro ⟨b, hb, e⟩
  obtain ⟨i, hi, rfl⟩ := List.mem_iff_getElem.mp hb
  refine ⟨i, List.mem_range.mpr hi, ?_⟩
  rw [List.getD_eq_getElem?_getD, List.getElem?_eq_getElem hi]
  exact e
theorem call_any (hc : X.calm = true) : CallR X (.builtin "any") (fun xs H Q => ∃ (p : Addr) (bs : List Bool), xs = [.ref p] ∧ SqL X.K H p (bs.map V.bl) ∧ Q (.bl (bs.any id)) H) := by
 intro pins s σ H xs us Q I r h
 obtain ⟨p, bs, rfl, hq, q⟩ := h
 obtain ⟨u, rfl, rx⟩ := r.one
 cases (show u = Value.ref p from rx)
 obtain ⟨its, rv, pl, hz⟩ := I.list hq
 have hl := rv.length
 rw [List.length_map] at hl
 refine call_any_walk (wpAny_pyIter_list pl.isList ?_)
 have hp : p ≠ s.heap.objs.size := fun e => by
  obtain ⟨o, n, e1, _⟩ := pl
  exact absurd (Heap.lt_size e1) (by rw [e]; exact Nat.lt_irrefl _)
 have old : ∀ b o, s.heap.get? b = some o → (s.heap.push { cls := .type "list_iterator", data := .fields #[.ref p, .int 0 0] }).get? b = some o := fun b o e => Heap.get?_push_of_some _ e
 refine ⟨s.heap.objs.size, [s.heap.objs.size, p], [s.heap.objs.size], its.toArray.size, _, _, fun i => bs.getD i false, rfl,
  Walks.list (A := X.A.in1) (I.ok.hd hc) s.heap.objs.size p hp its.toArray, ⟨⟨_, Heap.get?_push_size _ rfl, rfl, rfl⟩, pl.isList.at fun o e => old p o e⟩, ?_, fun h' tk hk => ?_⟩
 ·intro i v s2 Q2 E2 hv hq2
  have hv' : its[i]? = some v := by simpa using hv
  have hi : i < its.length := (List.getElem?_eq_some_iff.mp hv').1
  have g : (bs.map V.bl)[i]? = some (V.bl (bs.getD i false)) := by
   have hb : i < bs.length := by omega
   rw [List.getElem?_map, List.getD_eq_getElem?_getD, List.getElem?_eq_getElem hb]
   rfl
  obtain ⟨u, gu, ru⟩ := rv.get g
  rw [hv'] at gu
  cases gu
  cases (show v = Value.bool _ from ru)
  exact wpAny_truthy_bool hq2
 ·have en : (List.range its.toArray.size).any (fun i => bs.getD i false) = bs.any id := by
   rw [List.size_toArray, ← hl]
   exact any_range bs
  rw [en]
  refine ⟨.bl _, H, I.kept (h' := h') (t' := tk) (fun b o e => hk b o (fun z => ?_) (old b o e)), rfl, q⟩
  have z' : b = s.heap.objs.size := by simpa using z
  exact absurd (Heap.lt_size e) (by rw [z']; exact Nat.lt_irrefl _)
end
end L2
namespace L2
open PySem PySem.Spec PyProof.Rows
section
variable {prog : Program} {w : World} {A : Around} {R : Result → Shared → Prop} {s : Shared}
theorem compLoop_any {elt target iter : Expr} {ifs : List Expr} {scope : Scope} {pos : Pos} {it acc : Value} {env : Env} (I : Nat → Shared → Prop)
  (turn : ∀ n s, I n s → wpAny (model prog w) A (pyNext it) (fun r s₁ => match r with
   | none => R (.ok .next) s₁
   | some v => wpAny (model prog w) A (letOwnedTupleGo target it v) (fun _ s₁' => wpAny (model prog w) A (assign target env v) (fun _ s₂ =>
     wpAny (model prog w) A (forIn ifs true fun c r => if r = true then do let ok ← isTrue c env (eval c env); pure (ForInStep.yield ok) else pure (ForInStep.yield r)) (fun ok s₃ =>
      if ok = true then wpAny (model prog w) A (eval elt env) (fun x s₄ =>
       wpAny (model prog w) A (call (.builtin "list.append") [acc, x]) (fun _ s₅ => ∃ m, m < n ∧ I m s₅) (fun _ _ => False) s₄) (fun _ _ => False) s₃
      else ∃ m, m < n ∧ I m s₃) (fun _ _ => False) s₂) (fun _ _ => False) s₁') (fun _ _ => False) s₁) (fun _ _ => False) s)
  (n : Nat) (h : I n s) :
  codeAny (model prog w) A (.compLoop (.ListComp elt [⟨target, iter, ifs, 0⟩] scope pos) 0 it acc env) R s := by
 refine codeAny_loop rfl I (fun n s hI => ?_) n h
 show wpAny _ A ((compTurn (.ListComp elt [⟨target, iter, ifs, 0⟩] scope pos) 0 it acc env).onRaise (fun x => do noteFrame x env; theTreesLotGoes x)) _ _ s
 refine wpAny_noted ?_
 rw [compTurn_list]
 refine wpAny_bind (wpAny_standAt (wpAny_bind (wpAny_mono (turn n s hI) (fun r s₁ h₁ => ?_) fun _ _ h' => h'.elim)))
 cases r with
 | none => exact wpAny_pure h₁
 | some v =>
  refine wpAny_bind (wpAny_mono h₁ (fun _ s₁' h₁' => ?_) fun _ _ h' => h'.elim)
  refine wpAny_bind (wpAny_mono h₁' (fun _ s₂ h₂ => wpAny_bind (wpAny_mono h₂ (fun ok s₃ h₃ => ?_) fun _ _ h' => h'.elim)) fun _ _ h' => h'.elim)
  cases ok with
  | false => exact wpAny_pure ⟨rfl, h₃⟩
  | true =>
   exact wpAny_bind (wpAny_bind (wpAny_mono h₃ (fun x s₄ h₄ => wpAny_bind (wpAny_mono h₄ (fun _ s₅ h₅ => wpAny_pure (wpAny_pure ⟨rfl, h₅⟩)) fun _ _ h' => h'.elim)) fun _ _ h' => h'.elim))
end
structure CS where
 s : Shared
 H : Hp
 fp : List Addr
def compCx (X : Cx) (N : List Str) (sc : Scope) (cl : List (Str × Addr)) (s : Shared) (H : Hp) (fp : List Addr) : Cx where
 prog := X.prog
 w := X.w
 K := X.K
 mg := X.mg
 base := X.base
 A := X.A
 N := N
 s₀ := s
 H₀ := H
 env := compEnvC sc cl s.heap.objs.size X.env
 outer := X.stack
 stack := X.stack
 ex := fp
 fn := fun _ => false
 calm := X.calm
 pn := []
 xe := fun _ _ => False
def FreeOk (X : Cx) (sc : Scope) : List Str → List Nat → Prop
 | [], [] => True
 | x :: F, j :: js => (X.N[j]? = some x ∧ sc.names.lookup x = some .free ∧ (X.env.scope.names.lookup x = some .cell ∨ X.env.scope.names.lookup x = some .free)) ∧ FreeOk X sc F js
 | _, _ => False
def ClOk (X : Cx) : List (Str × Addr) → Prop
 | [] => True
 | p :: r => X.env.cells.lookup p.1 = some p.2 ∧ ClOk X r
structure CompOk (X : Cx) (sc : Scope) (cl : List (Str × Addr)) (F : List Str) (js : List Nat) : Prop where
 kind : sc.kind = .function
 cell : ∀ y ∈ sc.names, y.2 ≠ .cell
 names : ∀ y ∈ sc.names, y.2 = .local → sc.names.lookup y.1 = some .local
 clos : closureFor sc X.env = pure cl
 cls : ClOk X cl
 has : ∀ y ∈ sc.names, y.2 = .free → ∃ c, cl.lookup y.1 = some c
 free : FreeOk X sc F js
theorem FreeOk.len {X : Cx} {sc : Scope} : ∀ {F : List Str} {js : List Nat}, FreeOk X sc F js → F.length = js.length
 | [], [], _ => rfl
 | _ :: _, _ :: _, h => congrArg (· + 1) (FreeOk.len h.2)
 | [], _ :: _, h => h.elim
 | _ :: _, [], h => h.elim
theorem FreeOk.get {X : Cx} {sc : Scope} : ∀ {F : List Str} {js : List Nat} {k : Nat} {x : Str}, FreeOk X sc F js → F[k]? = some x →
  ∃ j, js[k]? = some j ∧ X.N[j]? = some x ∧ sc.names.lookup x = some .free ∧ (X.env.scope.names.lookup x = some .cell ∨ X.env.scope.names.lookup x = some .free)
 | [], [], k, x, _, h => by simp at h
 | y :: F, j :: js, 0, x, h, e => by
  simp at e
  subst e
  exact ⟨j, rfl, h.1⟩
 | y :: F, j :: js, k + 1, x, h, e => by
  obtain ⟨j', e1, e2⟩ := FreeOk.get (k := k) h.2 (by simpa using e)
  exact ⟨j', by simpa using e1, e2⟩
 | [], _ :: _, _, _, h, _ => h.elim
 | _ :: _, [], _, _, h, _ => h.elim
theorem ClOk.get {X : Cx} : ∀ {cl : List (Str × Addr)} {x : Str} {c : Addr}, ClOk X cl → cl.lookup x = some c → X.env.cells.lookup x = some c
 | [], _, _, _, e => by simp at e
 | (n, a) :: r, x, c, h, e => by
  rw [List.lookup_cons] at e
  cases hx : x == n with
  | true =>
   rw [hx] at e
   have e1 : x = n := beq_iff_eq.mp hx
   have e2 : a = c := Option.some.inj e
   subst e1 e2
   exact h.1
  | false =>
   rw [hx] at e
   exact ClOk.get h.2 e
theorem lookup_relabel {env : Env} : ∀ {names : List (Str × NameKind)} {x : Str} {k : NameKind},
  (names.map fun (n, k) => if (k == NameKind.free && env.scope.kind == .function && env.kindOf n == some .cell) then (n, NameKind.cell) else (n, k)).lookup x = some k →
  names.lookup x = some k ∨ (names.lookup x = some .free ∧ k = .cell)
 | [], _, _, h => by simp at h
 | (n, k0) :: r, x, k, h => by
  have ih := @lookup_relabel env r x k
  have h' : List.lookup x ((if (k0 == NameKind.free && env.scope.kind == .function && env.kindOf n == some .cell) = true then (n, NameKind.cell) else (n, k0)) :: (r.map fun (n, k) => if (k == NameKind.free && env.scope.kind == .function && env.kindOf n == some .cell) then (n, NameKind.cell) else (n, k))) = some k := h
  by_cases hc : (k0 == NameKind.free && env.scope.kind == .function && env.kindOf n == some .cell) = true
  ·rw [if_pos hc, List.lookup_cons] at h'
   rw [List.lookup_cons]
   cases hx : x == n with
   | true =>
    rw [hx] at h'
    have e : NameKind.cell = k := Option.some.inj h'
    have hf : (k0 == NameKind.free) = true := by
     rw [Bool.and_eq_true, Bool.and_eq_true] at hc
     exact hc.1.1
    have hf' : k0 = NameKind.free := by simpa using hf
    exact .inr ⟨by rw [hf'], e.symm⟩
   | false =>
    rw [hx] at h'
    exact ih h'
  ·rw [if_neg hc, List.lookup_cons] at h'
   rw [List.lookup_cons]
   cases hx : x == n with
   | true =>
    rw [hx] at h'
    exact .inl h'
   | false =>
    rw [hx] at h'
    exact ih h'
theorem lookup_relabel_free {env : Env} : ∀ {names : List (Str × NameKind)} {x : Str}, names.lookup x = some .free →
  (names.map fun (n, k) => if (k == NameKind.free && env.scope.kind == .function && env.kindOf n == some .cell) then (n, NameKind.cell) else (n, k)).lookup x = some .cell ∨
  (names.map fun (n, k) => if (k == NameKind.free && env.scope.kind == .function && env.kindOf n == some .cell) then (n, NameKind.cell) else (n, k)).lookup x = some .free
 | [], _, h => by simp at h
 | (n, k0) :: r, x, h => by
  have ih := @lookup_relabel_free env r x
  show List.lookup x ((if (k0 == NameKind.free && env.scope.kind == .function && env.kindOf n == some .cell) = true then (n, NameKind.cell) else (n, k0)) :: (r.map fun (n, k) => if (k == NameKind.free && env.scope.kind == .function && env.kindOf n == some .cell) then (n, NameKind.cell) else (n, k))) = some .cell ∨
   List.lookup x ((if (k0 == NameKind.free && env.scope.kind == .function && env.kindOf n == some .cell) = true then (n, NameKind.cell) else (n, k0)) :: (r.map fun (n, k) => if (k == NameKind.free && env.scope.kind == .function && env.kindOf n == some .cell) then (n, NameKind.cell) else (n, k))) = some .free
  rw [List.lookup_cons] at h
  by_cases hc : (k0 == NameKind.free && env.scope.kind == .function && env.kindOf n == some .cell) = true
  ·rw [if_pos hc, List.lookup_cons]
   cases hx : x == n with
   | true => exact .inl rfl
   | false =>
    rw [hx] at h
    exact ih h
  ·rw [if_neg hc, List.lookup_cons]
   cases hx : x == n with
   | true =>
    rw [hx] at h
    exact .inr h
   | false =>
    rw [hx] at h
    exact ih h
section
variable {X : Cx} {pins : List (Addr × Obj)} {σ : St} {H : Hp} {s : Shared} {sc : Scope} {cl : List (Str × Addr)} {T F : List Str} {js : List Nat} {fp : List Addr}
theorem CompOk.hasC (C : CompOk X sc cl F js) {x : Str} (h : (relabel sc X.env).names.lookup x = some .cell ∨ (relabel sc X.env).names.lookup x = some .free) : ∃ c, cl.lookup x = some c := by
 have key : ∀ k, (relabel sc X.env).names.lookup x = some k → (k = .cell ∨ k = .free) → ∃ c, cl.lookup x = some c := fun k e hk => by
  rcases lookup_relabel e with e | ⟨e, _⟩
  ·have m := PySem.mem_of_lookup e
   rcases hk with rfl | rfl
   ·exact absurd rfl (C.cell _ m)
   ·exact C.has _ m rfl
  ·exact C.has _ (PySem.mem_of_lookup e) rfl
 rcases h with h | h
 ·exact key _ h (.inl rfl)
 ·exact key _ h (.inr rfl)
theorem comp_ok (C : CompOk X sc cl F js) (I : Inv X pins σ H s) (f : ∀ b ∈ fp, FpOk X pins H b) (fl : ∀ b ∈ fp, b < s.heap.objs.size) (N : List Str) : (compCx X N sc cl s H fp).Ok where
 mod := I.ok.mod
 kind := C.kind
 glob := I.ok.glob
 blt := I.ok.blt
 above := Nat.le_refl _
 inj := fun x y c h1 h2 => I.ok.inj x y c (C.cls.get h1) (C.cls.get h2)
 has := fun x h => C.hasC h
 cab := fun x c h _ => absurd (show false = true from h) Bool.false_ne_true
 hd := I.ok.hd
 frames := I.ok.frames
 stk := .inl rfl
 exf := fun b hb => ⟨Nat.ne_of_lt (fl b hb), fun x c e => (f b hb).2.2.2.2.1 x c (C.cls.get e)⟩
 bs := I.bs
 bsz := Nat.le_trans I.ok.bsz I.sz
 noex := fun b o e hb => by
  rcases (f b hb).2.2.2.1 with z | z
  ·exact I.ok.noex b o e z
  ·exact absurd (Nat.lt_of_lt_of_le (Heap.lt_size (I.ok.bs b o e).1) z) (Nat.lt_irrefl _)
 exfs := fun b hb hz => by
  rcases List.mem_cons.mp (I.stkSub b hz) with e | hz
  ·exact (f b hb).2.1 e
  ·exact (f b hb).2.2.1 hz
 funs := I.stack
 frf := I.stkFree
def compSt (n : Nat) (js : List Nat) (σ : St) : St := List.replicate n none ++ js.map fun j => (σ[j]?).join
theorem inv_comp (C : CompOk X sc cl F js) (I : Inv X pins σ H s) (f : ∀ b ∈ fp, FpOk X pins H b) (fl : ∀ b ∈ fp, b < s.heap.objs.size) {h' : Heap} {tk : Nat} {m : Str → Option Value} (hn : h'.Ns s.heap.objs.size m)
  (old : ∀ b o, s.heap.get? b = some o → h'.get? b = some o) : Inv (compCx X (T ++ F) sc cl s H fp) [] (compSt T.length js σ) H { s with heap := h', toks := tk } := by
 have el := C.free.len
 refine ⟨comp_ok C I f fl _, rfl, I.bare, Un.kept old, ⟨m, hn, fun i x v e1 e2 e3 => ?_⟩, fun x c e => ?_, I.hok.fresh (Nat.le_refl _), fun x c e => I.freeC x c (C.cls.get e), fun p hp => absurd (show p ∈ ([] : List (Addr × Obj)) from hp) (by simp), I.hok.kept old, ?_⟩
 ·have e1' : (T ++ F)[i]? = some x := e1
  have hi : T.length ≤ i := by
   rcases Nat.lt_or_ge i T.length with hi | hi
   ·unfold compSt at e2
    rw [List.getElem?_append_left (by simpa using hi), List.getElem?_replicate, if_pos hi] at e2
    cases e2
   ·exact hi
  rw [List.getElem?_append_right hi] at e1'
  obtain ⟨j, ej, eN, ef, ek⟩ := C.free.get e1'
  unfold compSt at e2
  rw [List.getElem?_append_right (by simpa using hi), List.length_replicate, List.getElem?_map, ej] at e2
  have e2' : (σ[j]?).join = some v := Option.some.inj e2
  have e2'' : σ[j]? = some (some v) := by
   cases q : σ[j]? with
   | none => rw [q] at e2'; cases e2'
   | some o => rw [q] at e2'; exact congrArg some e2'
  obtain ⟨m3, hn3, hl3⟩ := I.loc
  obtain ⟨u, r, l⟩ := hl3 j x v eN e2'' (by rcases ek with k | k; exact .inr (.inl k); exact .inr (.inr k))
  refine ⟨u, r, ?_⟩
  rcases l with ⟨k, _⟩ | ⟨k, c, e, z⟩
  ·have k' : X.env.scope.names.lookup x = some .local := k
   rcases ek with q | q <;> rw [q] at k' <;> cases k'
  ·have hk := lookup_relabel_free (env := X.env) ef
   obtain ⟨c', hc'⟩ := C.hasC (x := x) hk
   have := C.cls.get hc'
   rw [e] at this
   cases this
   obtain ⟨o, ho, hd⟩ := z
   exact .inr ⟨hk, c, hc', o, old _ _ ho, hd⟩
 ·obtain ⟨v, o, ho, hd⟩ := I.cell x c (C.cls.get e)
  exact ⟨v, o, old _ _ ho, hd⟩
 ·unfold compSt
  show _ = (T ++ F).length
  rw [List.length_append, List.length_append, List.length_replicate, List.length_map]
  omega
theorem comp_back (I : Inv X pins σ H s) (f : ∀ b ∈ fp, FpOk X pins H b) {N : List Str} {σ' : St} {H' : Hp} {s1 : Shared} (J : Inv (compCx X N sc cl s H fp) [] σ' H' s1) : Inv X pins σ H' s1 :=
 I.call' (s' := s1) (ch := fp) J.os J.base J.hok J.bare fun b hb => ⟨(f b hb).2.2.2.1, (f b hb).2.1, (f b hb).2.2.2.2.1, (f b hb).2.2.2.2.2⟩
structure Gone (X : Cx) (pins : List (Addr × Obj)) (H : Hp) (C : Addr) : Prop where
 no : H C = none
 loc : C ≠ X.env.locals
 old : X.s₀.heap.objs.size ≤ C
 cell : ∀ x c, X.env.cells.lookup x = some c → c ≠ C
 pin : ∀ p ∈ X.pn ++ pins, p.1 ≠ C
theorem Gone.of (I : Inv X pins σ H s) {H' : Hp} (h : H' s.heap.objs.size = none) : Gone X pins H' s.heap.objs.size where
 no := h
 loc := Nat.ne_of_gt I.lt
 old := I.sz
 cell := fun x c e z => by
  obtain ⟨v, o, ho, _⟩ := I.cell x c e
  exact absurd (Heap.lt_size ho) (by rw [z]; exact Nat.lt_irrefl _)
 pin := fun p hp z => absurd (Heap.lt_size (I.pin p hp).1) (by rw [z]; exact Nat.lt_irrefl _)
theorem Gone.let {C : Addr} (G : Gone X pins H C) (I : Inv X pins σ H s) {h' : Heap} (hs : Heap.SameBut C s.heap h') : Inv X pins σ H { s with heap := h' } :=
 I.turned (t' := s.toks) (fun b o hb e => (hs.2 b hb).trans e) G.no G.loc (.inr G.old) G.cell G.pin
end
def PIfs (X : Cx) (ifs : List Expr) (t : TT) : Prop :=
 ∀ (pins : List (Addr × Obj)) (s : Shared) (σ : St) (H : Hp) (Q : Bool → Hp → Prop), Inv X pins σ H s → t σ H Q →
  wpAny (model X.prog X.w) X.A (forIn ifs true fun c r => if r = true then do let ok ← isTrue c X.env (eval c X.env); pure (ForInStep.yield ok) else pure (ForInStep.yield r)) (TP X pins σ Q) X.xe s
def tNoIf : TT := fun _ H Q => Q true H
theorem pifs_nil {X : Cx} : PIfs X [] tNoIf := fun _ _ _ H _ I h => wpAny_tests_nil ⟨H, I, h⟩
theorem pifs_one {X : Cx} {c : Expr} {t : TT} (h : PT X c t) : PIfs X [c] t := fun pins s σ H Q I hq => wpAny_tests_one (h pins s σ H Q I hq)
def tComp (n : Nat) (js : List Nat) (wi : TI) (g : CS → TG) (tc : CS → TT) (te : CS → TE) : TE := fun σ H Q => wi σ H fun J H1 => ∀ D, H1 D = none → ∃ W : Nat → Nat → List V → St → Hp → Prop, (∃ m, W 0 m [] (compSt n js σ) (upd H1 D (.lst []))) ∧
 ∀ i m ys σ' H', W i m ys σ' H' → H' D = some (.lst ys) ∧ ((J.stop i H' ∧ Q (.ref D) H') ∨ (J.go i H' ∧ ys.length < sizeLine ∧ ∃ N : List V → St → Hp → Prop, (∀ ys' σ'' H'', N ys' σ'' H'' → ∃ m', m' < m ∧ W (i + 1) m' ys' σ'' H'') ∧
  ∀ x H2, J.yld i H' x H2 → ∀ c : CS, g c x σ' H2 fun σ2 H3 => tc c σ2 H3 fun b H4 => if b = true then te c σ2 H4 fun v H5 => H5 D = some (.lst ys) ∧ N (ys ++ [v]) σ2 (upd H5 D (.lst (ys ++ [v]))) else N ys σ2 H4))
section
variable {X : Cx} {elt tg iter : Expr} {ifs : List Expr} {sc : Scope} {pos : Pos} {cl : List (Str × Addr)} {T F : List Str} {js : List Nat} {wi : TI} {g : CS → TG} {tc : CS → TT} {te : CS → TE} {pins : List (Addr × Obj)} {σ : St}
theorem comp_block (hc : X.calm = true) (C : CompOk X sc cl F js) (hg : ∀ c : CS, PG (compCx X (T ++ F) sc cl c.s c.H c.fp) tg (g c)) (hif : ∀ c : CS, PIfs (compCx X (T ++ F) sc cl c.s c.H c.fp) ifs (tc c)) (he : ∀ c : CS, PE (compCx X (T ++ F) sc cl c.s c.H c.fp) elt (te c))
  {H2 : Hp} {s2 : Shared} {it : Addr} {fp : List Addr} {tn : Nat → Heap → Prop} {J : It} {Q : VK} {RR : Value → Addr → Result → Shared → Prop} (I2 : Inv X pins σ H2 s2) (Tn : Turn X.prog X.w X.K tg J fp it tn) (st2 : tn 0 s2.heap) (f2 : ∀ b ∈ fp, FpOk X pins H2 b)
  (hw : ∀ D, H2 D = none → ∃ W : Nat → Nat → List V → St → Hp → Prop, (∃ m, W 0 m [] (compSt T.length js σ) (upd H2 D (.lst []))) ∧
   ∀ i m ys σ' H', W i m ys σ' H' → H' D = some (.lst ys) ∧ ((J.stop i H' ∧ Q (.ref D) H') ∨ (J.go i H' ∧ ys.length < sizeLine ∧ ∃ N : List V → St → Hp → Prop, (∀ ys' σ'' H'', N ys' σ'' H'' → ∃ m', m' < m ∧ W (i + 1) m' ys' σ'' H'') ∧
    ∀ x H2, J.yld i H' x H2 → ∀ c : CS, g c x σ' H2 fun σ2 H3 => tc c σ2 H3 fun b H4 => if b = true then te c σ2 H4 fun v H5 => H5 D = some (.lst ys) ∧ N (ys ++ [v]) σ2 (upd H5 D (.lst (ys ++ [v]))) else N ys σ2 H4)))
  (hRR : ∀ D C H' s1, Inv X pins σ H' s1 → Gone X pins H' C → (∃ m, s1.heap.Ns C m) → Q (.ref D) H' → RR (.ref D) C (.ok .next) s1) :
  wpAny (model X.prog X.w) X.A (newList []) (fun acc s₃ => wpAny (model X.prog X.w) X.A (newFunctionEnv sc X.env.globals cl [] X.env.qual none .none (some X.env)) (fun cenv s₄ =>
   codeAny (model X.prog X.w) X.A (.compStart (.ListComp elt [⟨tg, iter, ifs, 0⟩] sc pos) 0 (.ref it) acc { cenv with scope := relabel sc X.env }) (RR acc cenv.locals) s₄) X.xe s₃) X.xe s2 := by
 obtain ⟨W, ⟨m0, w0⟩, turn⟩ := hw s2.heap.objs.size (I2.hok.fresh (Nat.le_refl _))
 have I3 : Inv X pins σ (upd H2 s2.heap.objs.size (.lst [])) { s2 with heap := s2.heap.push { cls := .type "list", data := .seq ([] : List Value).toArray } } := I2.lnew (t' := s2.toks) .nil (Nat.zero_le _)
 have lt2 : ∀ b ∈ fp, b < s2.heap.objs.size := fun b hb => by
  obtain ⟨o, e, _⟩ := Tn.obj 0 _ st2 b hb
  exact Heap.lt_size e
 have f3 : ∀ b ∈ fp, FpOk X pins (upd H2 s2.heap.objs.size (.lst [])) b := fun b hb => ⟨by rw [upd_ne (Nat.ne_of_lt (lt2 b hb))]; exact (f2 b hb).1, (f2 b hb).2⟩
 refine wpAny_newObj_type ?_
 have st3 : tn 0 ({ s2 with heap := s2.heap.push { cls := .type "list", data := .seq ([] : List Value).toArray } } : Shared).heap := Tn.keep 0 _ _ st2 fun b hb o e => Heap.get?_push_of_some _ e
 have lt3 : ∀ b ∈ fp, b < ({ s2 with heap := s2.heap.push { cls := .type "list", data := .seq ([] : List Value).toArray } } : Shared).heap.objs.size := fun b hb => by
  show b < (s2.heap.push _).objs.size
  rw [Heap.size_push]
  exact Nat.lt_succ_of_lt (lt2 b hb)
 generalize ({ s2 with heap := s2.heap.push { cls := .type "list", data := .seq ([] : List Value).toArray } } : Shared) = s3 at I3 st3 lt3 ⊢
 refine wpAny_newFunctionEnv C.cell (by intro y hy; simp at hy) (fun h4 hns hsb => ?_) C.kind
 have old : ∀ b o, s3.heap.get? b = some o → h4.get? b = some o := fun b o e => hsb.extBut b o (Nat.ne_of_lt (Heap.lt_size e)) (Heap.get?_push_of_some _ e)
 have st4 : tn 0 h4 := Tn.keep 0 _ _ st3 fun b hb o e => old b o e
 have J4 : ∀ tk, Inv (compCx X (T ++ F) sc cl s3 (upd H2 s2.heap.objs.size (.lst [])) fp) [] (compSt T.length js σ) (upd H2 s2.heap.objs.size (.lst [])) { s3 with heap := h4, toks := tk } := fun tk => inv_comp C I3 f3 lt3 hns old
 have fpX : ∀ {H' : Hp}, (∀ b ∈ fp, H' b = none) → ∀ b ∈ fp, FpOk (compCx X (T ++ F) sc cl s3 (upd H2 s2.heap.objs.size (.lst [])) fp) [] H' b := fun hn b hb =>
  ⟨hn b hb, Nat.ne_of_lt (lt3 b hb), (comp_ok C I3 f3 lt3 (T ++ F)).exfs b hb, .inl hb, fun x c e => ((comp_ok C I3 f3 lt3 (T ++ F)).exf b hb).2 x c e, fun p hp => absurd (show p ∈ ([] : List (Addr × Obj)) from hp) (by simp)⟩
 have loop : ∀ s4 : Shared, (∃ tk, s4 = { s3 with heap := h4, toks := tk }) →
   codeAny (model X.prog X.w) X.A (.compLoop (.ListComp elt [⟨tg, iter, ifs, 0⟩] sc pos) 0 (.ref it) (.ref s2.heap.objs.size) (compEnvC sc cl s3.heap.objs.size X.env)) (RR (.ref s2.heap.objs.size) s3.heap.objs.size) s4 := by
  rintro s4 ⟨tk, rfl⟩
  refine compLoop_any (fun n s' => ∃ i ys σ' H', Inv (compCx X (T ++ F) sc cl s3 (upd H2 s2.heap.objs.size (.lst [])) fp) [] σ' H' s' ∧ tn i s'.heap ∧ (∀ b ∈ fp, H' b = none) ∧ W i n ys σ' H') ?_ m0
   ⟨0, [], _, _, J4 tk, st4, fun b hb => (f3 b hb).1, w0⟩
  rintro n s5 ⟨i, ys, σ5, H5, I5, st5, fr5, w5⟩
  obtain ⟨hD, q⟩ := turn i n ys σ5 H5 w5
  rcases q with ⟨stop, q⟩ | ⟨go, hz, N, hN, step⟩
  ·refine thn (Tn.done (compCx X (T ++ F) sc cl s3 (upd H2 s2.heap.objs.size (.lst [])) fp) rfl rfl rfl hc i [] s5 σ5 H5 (fun _ _ => False) I5 (fpX fr5) st5 stop) fun r s6 ⟨hr, I6⟩ => ?_
   subst hr
   obtain ⟨m, hn, _⟩ := id I6.loc
   exact hRR _ _ H5 s6 (comp_back I3 f3 I6) (Gone.of I3 I6.free) ⟨m, hn⟩ q
  ·refine thn (Tn.item (compCx X (T ++ F) sc cl s3 (upd H2 s2.heap.objs.size (.lst [])) fp) rfl rfl rfl hc i [] s5 σ5 H5 (fun _ _ => False) I5 (fpX fr5) st5 go) fun r s6 ⟨u, hr, h6⟩ => ?_
   subst hr
   refine thn h6 fun _ s7 ⟨x, H7, I7, r7, y7, st7, fr7⟩ => ?_
   have I7' := I7.pinned (fpX fr7) (Tn.obj _ _ st7)
   have again : ∀ {s8 : Shared} {σ8 : St} {H8 : Hp} {ys8 : List V}, Inv (compCx X (T ++ F) sc cl s3 (upd H2 s2.heap.objs.size (.lst [])) fp) ([] ++ pinsAt fp s7.heap) σ8 H8 s8 → N ys8 σ8 H8 →
     ∃ m, m < n ∧ ∃ i ys σ' H', Inv (compCx X (T ++ F) sc cl s3 (upd H2 s2.heap.objs.size (.lst [])) fp) [] σ' H' s8 ∧ tn i s8.heap ∧ (∀ b ∈ fp, H' b = none) ∧ W i m ys σ' H' := fun {s8 σ8 H8 ys8} I8 n8 => by
    obtain ⟨m', hm, w8⟩ := hN ys8 σ8 H8 n8
    refine ⟨m', hm, i + 1, ys8, σ8, H8, I8.unpinned, Tn.keep _ _ _ st7 fun b hb o e => (I8.pin (b, o) (List.mem_append_right _ (List.mem_append_right _ (mem_pinsAt hb e)))).1, fun b hb => ?_, w8⟩
    obtain ⟨o, e, d⟩ := Tn.obj _ _ st7 b hb
    exact (I8.pin (b, o) (List.mem_append_right _ (List.mem_append_right _ (mem_pinsAt hb e)))).2.1
   refine thn (hg ⟨s3, _, fp⟩ _ s7 σ5 H7 x u _ I7' r7 (step x H7 y7 ⟨s3, upd H2 s2.heap.objs.size (.lst []), fp⟩)) fun _ s8 ⟨σ8, H8, I8, q8⟩ => ?_
   refine thn (hif ⟨s3, _, fp⟩ _ s8 σ8 H8 _ I8 q8) fun ok s9 ⟨H9, I9, q9⟩ => ?_
   cases ok with
   | false =>
    rw [if_neg Bool.false_ne_true]
    rw [if_neg Bool.false_ne_true] at q9
    exact again I9 q9
   | true =>
    rw [if_pos rfl]
    rw [if_pos rfl] at q9
    refine thn (he ⟨s3, _, fp⟩ _ s9 σ8 H9 _ I9 q9) fun y s10 ⟨v10, H10, I10, r10, hD10, n10⟩ => ?_
    refine thn (mt_append _ s10 σ8 H10 (.ref s2.heap.objs.size) [v10] (.ref s2.heap.objs.size) [y] (fun _ H11 => N (ys ++ [v10]) σ8 H11) I10 rfl (.cons r10 .nil) ⟨_, ys, v10, rfl, rfl, hD10, hz, n10⟩) fun _ s11 ⟨_, H11, I11, _, n11⟩ => ?_
    exact again I11 n11
 exact codeAny_compStart_list (loop _ ⟨_, rfl⟩) (Tn.self X.A 0 _ _ _ st4 (loop _ ⟨_, rfl⟩))
theorem pe_comp (T : List Str) (hc : X.calm = true) (C : CompOk X sc cl F js) (hi : PI X tg iter wi)
  (hg : ∀ c : CS, PG (compCx X (T ++ F) sc cl c.s c.H c.fp) tg (g c)) (hif : ∀ c : CS, PIfs (compCx X (T ++ F) sc cl c.s c.H c.fp) ifs (tc c)) (he : ∀ c : CS, PE (compCx X (T ++ F) sc cl c.s c.H c.fp) elt (te c))
  (hs : ∀ x, foldedSetIterable iter X.env x = pure x := by intro _; rfl) : PE X (.ListComp elt [⟨tg, iter, ifs, 0⟩] sc pos) (tComp T.length js wi g tc te) := by
 intro pins s σ H Q I h
 rw [eval_ListComp]
 refine wpAny_comprehension_free (use := none) rfl hs C.clos C.kind C.names ?_
 refine thn (hi pins s σ H _ I h) fun v s1 h1 => thn h1 fun itv s2 h2 => ?_
 obtain ⟨it, fp, tn, J, H2, e, I2, Tn, st2, f2, hw⟩ := h2
 subst e
 refine comp_block (RR := fun acc C => compPost (model X.prog X.w) X.A X.xe none (EP X pins σ Q) acc C) hc C hg hif he I2 Tn st2 f2 hw ?_
 intro D C' H' s6 I6 G ⟨m, hn⟩ q
 exact ⟨m, hn, fun h' hs' => ⟨.ref D, H', G.let I6 hs', rfl, q⟩⟩
theorem ps_comp (T : List Str) {i : Nat} {x : Str} {pos' spos : Pos} (hN : X.N.Nodup) (hiN : X.N[i]? = some x) (hx : Loc X.env.scope x) (hc : X.calm = true) (C : CompOk X sc cl F js) (hi : PI X tg iter wi)
  (hg : ∀ c : CS, PG (compCx X (T ++ F) sc cl c.s c.H c.fp) tg (g c)) (hif : ∀ c : CS, PIfs (compCx X (T ++ F) sc cl c.s c.H c.fp) ifs (tc c)) (he : ∀ c : CS, PE (compCx X (T ++ F) sc cl c.s c.H c.fp) elt (te c))
  (hsw : swapsWith (.ListComp elt [⟨tg, iter, ifs, 0⟩] sc pos) (some (.Name x pos')) spos.line X.env = pure true := by rfl)
  (hs : ∀ x, foldedSetIterable iter X.env x = pure x := by intro _; rfl) (hf : X.fn x = true ∨ X.env.scope.names.lookup x = some .local := by first | exact .inl rfl | exact .inr rfl | assumption) :
  PS X (.Assign [.Name x pos'] (.ListComp elt [⟨tg, iter, ifs, 0⟩] sc pos) spos) (tAsg (tComp T.length js wi g tc te) (gName i)) := by
 intro pins s σ H D I h
 rw [exec_Assign_Name_used _ _ _ _ hsw]
 refine wpAny_bind (wpAny_standAt (wpAny_bind ?_))
 show wpAny _ X.A (do let _ ← comprehension (.ListComp elt [⟨tg, iter, ifs, 0⟩] sc pos) sc X.env _ (newList []) false (eval iter X.env) (some (assign (.Name x pos') X.env))) _ _ s
 refine wpAny_bind (wpAny_mono (wpAny_comprehension_free (use := some (assign (.Name x pos') X.env)) (Q := fun _ s' => SP X pins D .next s') rfl hs C.clos C.kind C.names ?_) (fun _ s' hq => wpAny_pure (wpAny_pure hq)) fun _ _ e => e)
 refine thn (hi pins s σ H _ I h) fun v s1 h1 => thn h1 fun itv s2 h2 => ?_
 obtain ⟨it, fp, tn, J, H2, e, I2, Tn, st2, f2, hw⟩ := h2
 subst e
 refine comp_block (Q := fun x H1 => gName i x σ H1 D.nx) (RR := fun acc C => compPost (model X.prog X.w) X.A X.xe (some (assign (.Name x pos') X.env)) (fun _ s' => SP X pins D .next s') acc C) hc C hg hif he I2 Tn st2 f2 hw ?_
 intro D' C' H' s6 I6 G ⟨m, hn⟩ q
 show wpAny _ X.A (assign (.Name x pos') X.env (.ref D')) _ _ _
 refine wpAny_assign_Name (store_ok2 I6 hN hiN hx (show RelV (.ref D') (.ref D') from rfl) (fun s7 I7 ⟨a, hs7, ha⟩ => ?_) hf)
 have nC : C' ≠ a := by
  rcases ha with rfl | ha
  ·exact G.loc
  ·exact fun e => G.cell x a ha e.symm
 exact ⟨m, hn.sameBut hs7 nC, fun h' hs' => ⟨_, H', G.let I7 hs', q⟩⟩
end
theorem CompOk.plain {X : Cx} {sc : Scope} (kind : sc.kind = .function) (cell : ∀ y ∈ sc.names, y.2 ≠ .cell) (names : ∀ y ∈ sc.names, y.2 = .local → sc.names.lookup y.1 = some .local) (free : ∀ y ∈ sc.names, y.2 ≠ .free) : CompOk X sc [] [] [] :=
 ⟨kind, cell, names, closureFor_none free, trivial, fun y hy e => absurd e (free y hy), trivial⟩
theorem comp_tup {K : PySem.W.Frag} {a D : Addr} {xs : List V} {g : CS → TG} {tc : CS → TT} {te : CS → TE} {σ0 : St} {H0 : Hp} {Q : Hp → Prop} (Pv : Nat → List V → St → Hp → Prop) (hz : xs.length ≤ sizeLine) (h0 : Pv 0 [] σ0 H0)
  (hl : ∀ i ys σ H, i ≤ xs.length → Pv i ys σ H → SqT K H a xs ∧ H D = some (.lst ys) ∧ ys.length ≤ i)
  (hs : ∀ i x ys σ H, xs[i]? = some x → Pv i ys σ H → ∀ c : CS, g c x σ H fun σ2 H2 => tc c σ2 H2 fun b H3 => if b = true then te c σ2 H3 fun v H4 => H4 D = some (.lst ys) ∧ Pv (i + 1) (ys ++ [v]) σ2 (upd H4 D (.lst (ys ++ [v]))) else Pv (i + 1) ys σ2 H3)
  (hd : ∀ ys σ H, Pv xs.length ys σ H → Q H) :
  ∃ W : Nat → Nat → List V → St → Hp → Prop, (∃ m, W 0 m [] σ0 H0) ∧ ∀ i m ys σ' H', W i m ys σ' H' → H' D = some (.lst ys) ∧ (((Itt K a).stop i H' ∧ Q H') ∨ ((Itt K a).go i H' ∧ ys.length < sizeLine ∧ ∃ N : List V → St → Hp → Prop, (∀ ys' σ'' H'', N ys' σ'' H'' → ∃ m', m' < m ∧ W (i + 1) m' ys' σ'' H'') ∧
    ∀ x H2, (Itt K a).yld i H' x H2 → ∀ c : CS, g c x σ' H2 fun σ2 H3 => tc c σ2 H3 fun b H4 => if b = true then te c σ2 H4 fun v H5 => H5 D = some (.lst ys) ∧ N (ys ++ [v]) σ2 (upd H5 D (.lst (ys ++ [v]))) else N ys σ2 H4)) := by
 refine ⟨fun i m ys σ H => m = xs.length - i ∧ i ≤ xs.length ∧ Pv i ys σ H, ⟨xs.length, by simp, Nat.zero_le _, h0⟩, ?_⟩
 rintro i m ys σ H ⟨rfl, hi, p⟩
 obtain ⟨q, qD, ql⟩ := hl i ys σ H hi p
 refine ⟨qD, ?_⟩
 by_cases hlt : i < xs.length
 ·refine .inr ⟨⟨xs, xs[i], q, by simp [hlt]⟩, by omega, Pv (i + 1), fun ys' σ' H' p' => ⟨xs.length - (i + 1), by omega, rfl, hlt, p'⟩, fun x H' y c => ?_⟩
  obtain ⟨e, y⟩ := y
  subst e
  exact hs i x ys σ _ (y xs q) p c
 ·have e : i = xs.length := by omega
  subst e
  exact .inl ⟨⟨xs, q, Nat.le_refl _⟩, hd ys σ H p⟩
theorem comp_list {K : PySem.W.Frag} {a D : Addr} {xs : List V} {g : CS → TG} {tc : CS → TT} {te : CS → TE} {σ0 : St} {H0 : Hp} {Q : Hp → Prop} (Pv : Nat → List V → St → Hp → Prop) (hz : xs.length ≤ sizeLine) (h0 : Pv 0 [] σ0 H0)
  (hl : ∀ i ys σ H, i ≤ xs.length → Pv i ys σ H → SqL K H a xs ∧ H D = some (.lst ys) ∧ ys.length ≤ i)
  (hs : ∀ i x ys σ H, xs[i]? = some x → Pv i ys σ H → ∀ c : CS, g c x σ H fun σ2 H2 => tc c σ2 H2 fun b H3 => if b = true then te c σ2 H3 fun v H4 => H4 D = some (.lst ys) ∧ Pv (i + 1) (ys ++ [v]) σ2 (upd H4 D (.lst (ys ++ [v]))) else Pv (i + 1) ys σ2 H3)
  (hd : ∀ ys σ H, Pv xs.length ys σ H → Q H) :
  ∃ W : Nat → Nat → List V → St → Hp → Prop, (∃ m, W 0 m [] σ0 H0) ∧ ∀ i m ys σ' H', W i m ys σ' H' → H' D = some (.lst ys) ∧ (((Itl K a).stop i H' ∧ Q H') ∨ ((Itl K a).go i H' ∧ ys.length < sizeLine ∧ ∃ N : List V → St → Hp → Prop, (∀ ys' σ'' H'', N ys' σ'' H'' → ∃ m', m' < m ∧ W (i + 1) m' ys' σ'' H'') ∧
    ∀ x H2, (Itl K a).yld i H' x H2 → ∀ c : CS, g c x σ' H2 fun σ2 H3 => tc c σ2 H3 fun b H4 => if b = true then te c σ2 H4 fun v H5 => H5 D = some (.lst ys) ∧ N (ys ++ [v]) σ2 (upd H5 D (.lst (ys ++ [v]))) else N ys σ2 H4)) := by
 refine ⟨fun i m ys σ H => m = xs.length - i ∧ i ≤ xs.length ∧ Pv i ys σ H, ⟨xs.length, by simp, Nat.zero_le _, h0⟩, ?_⟩
 rintro i m ys σ H ⟨rfl, hi, p⟩
 obtain ⟨q, qD, ql⟩ := hl i ys σ H hi p
 refine ⟨qD, ?_⟩
 by_cases hlt : i < xs.length
 ·refine .inr ⟨⟨xs, xs[i], q, by simp [hlt]⟩, by omega, Pv (i + 1), fun ys' σ' H' p' => ⟨xs.length - (i + 1), by omega, rfl, hlt, p'⟩, fun x H' y c => ?_⟩
  obtain ⟨e, y⟩ := y
  subst e
  exact hs i x ys σ _ (y xs q) p c
 ·have e : i = xs.length := by omega
  subst e
  exact .inl ⟨⟨xs, q, Nat.le_refl _⟩, hd ys σ H p⟩
theorem comp_range {lo : Int} {n : Nat} {D : Addr} {g : CS → TG} {tc : CS → TT} {te : CS → TE} {σ0 : St} {H0 : Hp} {Q : Hp → Prop} (Pv : Nat → List V → St → Hp → Prop) (hz : n ≤ sizeLine) (h0 : Pv 0 [] σ0 H0)
  (hl : ∀ i ys σ H, i ≤ n → Pv i ys σ H → H D = some (.lst ys) ∧ ys.length ≤ i)
  (hs : ∀ i ys σ H, i < n → Pv i ys σ H → ∀ c : CS, g c (.int (lo + i)) σ H fun σ2 H2 => tc c σ2 H2 fun b H3 => if b = true then te c σ2 H3 fun v H4 => H4 D = some (.lst ys) ∧ Pv (i + 1) (ys ++ [v]) σ2 (upd H4 D (.lst (ys ++ [v]))) else Pv (i + 1) ys σ2 H3)
  (hd : ∀ ys σ H, Pv n ys σ H → Q H) :
  ∃ W : Nat → Nat → List V → St → Hp → Prop, (∃ m, W 0 m [] σ0 H0) ∧ ∀ i m ys σ' H', W i m ys σ' H' → H' D = some (.lst ys) ∧ (((Itr lo n).stop i H' ∧ Q H') ∨ ((Itr lo n).go i H' ∧ ys.length < sizeLine ∧ ∃ N : List V → St → Hp → Prop, (∀ ys' σ'' H'', N ys' σ'' H'' → ∃ m', m' < m ∧ W (i + 1) m' ys' σ'' H'') ∧
    ∀ x H2, (Itr lo n).yld i H' x H2 → ∀ c : CS, g c x σ' H2 fun σ2 H3 => tc c σ2 H3 fun b H4 => if b = true then te c σ2 H4 fun v H5 => H5 D = some (.lst ys) ∧ N (ys ++ [v]) σ2 (upd H5 D (.lst (ys ++ [v]))) else N ys σ2 H4)) := by
 refine ⟨fun i m ys σ H => m = n - i ∧ i ≤ n ∧ Pv i ys σ H, ⟨n, by simp, Nat.zero_le _, h0⟩, ?_⟩
 rintro i m ys σ H ⟨rfl, hi, p⟩
 obtain ⟨qD, ql⟩ := hl i ys σ H hi p
 refine ⟨qD, ?_⟩
 by_cases hlt : i < n
 ·refine .inr ⟨hlt, by omega, Pv (i + 1), fun ys' σ' H' p' => ⟨n - (i + 1), by omega, rfl, hlt, p'⟩, fun x H' y c => ?_⟩
  obtain ⟨e, y⟩ := y
  subst e y
  exact hs i ys σ _ hlt p c
 ·have e : i = n := by omega
  subst e
  exact .inl ⟨Nat.le_refl _, hd ys σ H p⟩
end L2
namespace L2
open PySem PySem.Spec PyProof.Rows
theorem iteN {c A B : Prop} [Decidable c] (hc : ¬ c) (h : B) : if decide c = true then A else B := by
 rw [decide_eq_false hc]
 exact iteF h
theorem iteY {c A B : Prop} [Decidable c] (hc : c) (h : A) : if decide c = true then A else B := by
 rw [decide_eq_true hc]
 exact iteT h
theorem Same.upd {H : Hp} {p : Addr} {o : HO} (h : H p = none) : Same H (upd H p o) := fun b u e => by
 rw [upd_ne (ne_of_none e h)]
 exact e
theorem Same.sqT {K : PySem.W.Frag} {H H' : Hp} {a : Addr} {xs : List V} (e : Same H H') (h : SqT K H a xs) : SqT K H' a xs := by
 rcases h with (h | ⟨o, h⟩) | h
 ·exact .inl (.inl (e _ _ h))
 ·exact .inl (.inr ⟨o, e _ _ h⟩)
 ·exact .inr h
theorem sqT_new {K : PySem.W.Frag} {H : Hp} {p : Addr} {xs : List V} : SqT K (upd H p (.tup xs)) p xs := .of upd_same
theorem sqL_new {K : PySem.W.Frag} {H : Hp} {p : Addr} {xs : List V} : SqL K (upd H p (.lst xs)) p xs := .of upd_same
theorem Sm.mono {i j : Int} (h : Sm j) (e : i.natAbs ≤ j.natAbs) : Sm i := .of_lt (Nat.lt_of_le_of_lt e h.lt)
structure DefAt (K : PySem.W.Frag) (mg : Str → Option Value) (x : Str) (st : Stmt) (ps : List Str) (f : Addr) (fd : FuncData) : Prop where
 fn : Fun K x x st f fd
 nm : mg x = some (.ref f)
 bd : Binds K fd ps []
def Cl (P : Program) (w : World) (K : PySem.W.Frag) (mg : Str → Option Value) (base : Heap) (x : Str) (k : Nat) (ps : List Str) (sp : Sp) : Prop :=
 ∃ (f : Addr) (fd : FuncData), mg x = some (.ref f) ∧ PySem.W.keepIn K (.ref f) = true ∧ Binds K fd ps [] ∧ FnOk P w K mg base CX0 k f fd ps sp
theorem DefAt.cl {P : Program} {w : World} {K : PySem.W.Frag} {mg : Str → Option Value} {base : Heap} {x : Str} {st : Stmt} {ps : List Str} {f : Addr} {fd : FuncData} {k : Nat} {sp : Sp} (D : DefAt K mg x st ps f fd) (h : FnOk P w K mg base CX0 k f fd ps sp) : Cl P w K mg base x k ps sp :=
 ⟨f, fd, D.nm, D.fn.kp, D.bd, h⟩
section
variable {X : Cx} {x : Str} {k : Nat} {ps : List Str} {sp : Sp} {e : Expr} {es : List Expr} {p pos : Pos} {t : TA}
theorem pe_cl (C : Cl X.prog X.w X.K X.mg X.base x k ps sp) (hr : Room k X.A) (hg : Gl X x) (ha : PA X (e :: es) t) (hdb : (x == ("__debug__" : Str)) = false := by decide) (he : starEach (e :: es) X.env = (false, eval e X.env) :: starEach es X.env := by rfl)
  (hpl : (backTo pos (starEach es X.env)).any (·.1) = false := by rfl) : PE X (.Call (.Name x p) (e :: es) [] pos) (tCall sp [] E0 t) := by
 obtain ⟨f, fd, h1, h2, h3, h4⟩ := C
 exact pe_call h4 hr hg h1 h2 h3 .nil pass0 ha hdb he hpl
end
end L2
namespace FK
def G (a b : Int) : Int := (Int.gcd a b : Nat)
theorem G_pos {a b : Int} (h : 0 < b) : 0 < G a b := by
 have : Int.gcd a b ≠ 0 := fun e => by
  have := (Int.gcd_eq_zero_iff.mp e).2
  omega
 unfold G
 omega
theorem G_zero {a : Int} (h : 0 ≤ a) : G a 0 = a := by
 unfold G
 rw [Int.gcd_zero_right]
 omega
theorem G_dvd_left (a b : Int) : G a b ∣ a := Int.gcd_dvd_left ..
theorem G_dvd_right (a b : Int) : G a b ∣ b := Int.gcd_dvd_right ..
theorem G_le {a b : Int} (h : 0 < b) : G a b ≤ b := Int.le_of_dvd h (G_dvd_right a b)
theorem G_step {a b : Int} (ha : 0 ≤ a) (hb : 0 < b) : G b (a % b) = G a b := by
 unfold G
 have : Int.gcd b (a % b) = Int.gcd a b := by
  rw [Int.gcd_comm a b]
  obtain ⟨m, rfl⟩ := Int.eq_ofNat_of_zero_le ha
  obtain ⟨n, rfl⟩ := Int.eq_ofNat_of_zero_le (Int.le_of_lt hb)
  have e : ((m : Int) % (n : Int)) = ((m % n : Nat) : Int) := rfl
  rw [e]
  show Nat.gcd n (m % n) = Nat.gcd n m
  rw [Nat.gcd_rec n m, Nat.gcd_comm]
 rw [this]
def lo (a b : Int) : Int := a / G a b
def hi (a b : Int) : Int := b / G a b
theorem lo_eq (a b : Int) : G a b * lo a b = a := Int.mul_ediv_cancel' (G_dvd_left a b)
theorem hi_eq (a b : Int) : G a b * hi a b = b := Int.mul_ediv_cancel' (G_dvd_right a b)
theorem hi_le {a b : Int} (hb : 0 < b) : hi a b ≤ b := Int.ediv_le_self _ (Int.le_of_lt hb)
end FK
namespace L2
open PySem PySem.Spec PyProof.Rows
section
variable {κ : Type} [DecidableEq κ]
end
section
variable {P : Program} {w : World} {H : Hp} {h : Heap} {a : Addr}
end
section
variable {X : Cx} {pins : List (Addr × Obj)} {σ : St} {H : Hp} {s : Shared} {a : Addr} {y v : V} {u r : Value} {o : Option V} {A : Around} {E : Value → Shared → Prop}
end
section
variable {X : Cx} {pins : List (Addr × Obj)} {σ : St} {H : Hp} {s : Shared} {a : Addr} {kvs : List (Key × V)} {k : Key} {u : Value} {A : Around} {E : Value → Shared → Prop}
end
section
variable {X : Cx} {o i e value : Expr} {pos pos' tpos : Pos} {td ty tv : TE}
end
section
variable {X : Cx} {pos : Pos}
end
end L2
namespace L2
open PySem PySem.Spec PyProof.Rows
section
variable {X : Cx} {o i : Expr} {pos : Pos} {td ty : TE}
end
theorem iteNN {c A B : Prop} [Decidable c] (hc : ¬ c) (h : A) : if (!decide c) = true then A else B := by
 rw [decide_eq_false hc]
 exact iteT h
abbrev FrR (K : PySem.W.Frag) := rpPair K rpInt rpInt
theorem FrR.sq {K : PySem.W.Frag} {H : Hp} {x : V} {d : Int × Int} (h : FrR K H x d) : ∃ p, x = .ref p ∧ SqT K H p [.int d.1, .int d.2] := by
 obtain ⟨p, y, z, rfl, q, rfl, rfl⟩ := h
 exact ⟨p, rfl, q⟩
theorem FrR.same {K : PySem.W.Frag} {H H' : Hp} {x : V} {d : Int × Int} (s : Same H H') (h : FrR K H x d) : FrR K H' x d := by
 obtain ⟨p, y, z, rfl, q, h1, h2⟩ := h
 exact ⟨p, y, z, rfl, s.sqT q, h1, h2⟩
theorem Paired.get1 {α β : Type} {F : α → β → Prop} : ∀ {xs : List α} {ys : List β}, Paired F xs ys → ∀ (i : Nat) (x : α), xs[i]? = some x → ∃ y, ys[i]? = some y ∧ F x y
 | _, _, .nil, i, x, h => by simp at h
 | _, _, .cons r _, 0, x, h => by
  simp at h
  subst h
  exact ⟨_, rfl, r⟩
 | _, _, .cons _ t, i + 1, x, h => by
  obtain ⟨y, e, r⟩ := Paired.get1 t i x (by simpa using h)
  exact ⟨y, by simpa using e, r⟩
theorem Paired.app {α β : Type} {F : α → β → Prop} : ∀ {xs xs' : List α} {ys ys' : List β}, Paired F xs ys → Paired F xs' ys' → Paired F (xs ++ xs') (ys ++ ys')
 | _, _, _, _, .nil, s => s
 | _, _, _, _, .cons r t, s => .cons r (Paired.app t s)
end L2
namespace FK
end FK
namespace PySem.AutoSeq1
open PySem PySem.Spec
end PySem.AutoSeq1
namespace L2
open PySem PySem.Spec PyProof.Rows
section
variable {X : Cx}
theorem call_sortedI : CallR X (.builtin "sorted") (fun xs H Q => ∃ (p : Addr) (ns : List Int), xs = [.ref p] ∧ SqL X.K H p (ns.map V.int) ∧ ns.length < 64 ∧ ∀ (l : Addr) (ns' : List Int), H l = none → ns'.Perm ns → ns'.Pairwise (· ≤ ·) → Q (.ref l) (upd H l (.lst (ns'.map V.int)))) := by
 intro pins s σ H xs us Q I r h
 obtain ⟨p, ns, rfl, hq, h64, q⟩ := h
 obtain ⟨u, rfl, rx⟩ := r.one
 cases (show u = Value.ref p from rx)
 obtain ⟨its, rv, pl, hz⟩ := I.list hq
 have hl := rv.length
 rw [List.length_map] at hl
 refine sorted_ints pl.isList (intsAre_of rv) (by omega) fun out ns' a1 a2 a3 => ?_
 obtain ⟨e, he⟩ := sortedAll_at s.heap its out
 refine ⟨.ref (s.heap.objs.size + 1), _, I.laid (a := s.heap.objs.size + 1) (o := .lst (ns'.map V.int)) (t' := s.toks) (fun b u z => sortedAll_old z) (Nat.le_succ _) ⟨?_, out.toList, e, vals_ints a1, ?_⟩, rfl, q _ ns' (I.hok.fresh (Nat.le_succ _)) a2 a3⟩
 ·rw [List.length_map, a2.length_eq]
  exact Nat.le_of_lt (Nat.lt_trans h64 (by decide))
 ·rw [he]
end
end L2
namespace FK
def fr (q : Rat) : Int × Int := (q.num, (q.den : Int))
theorem fr_inj {q r : Rat} (h : fr q = fr r) : q = r := by
 have h1 : q.num = r.num := congrArg Prod.fst h
 have h2 : (q.den : Int) = r.den := congrArg Prod.snd h
 exact Rat.ext h1 (by omega)
theorem fr_dec (q r : Rat) : decide (fr q = fr r) = decide (q = r) := decide_eq_decide.mpr ⟨fr_inj, fun h => by rw [h]⟩
theorem den_pos (q : Rat) : 0 < (q.den : Int) := by have := q.den_pos; omega
theorem num_nn {q : Rat} (h : 0 ≤ q) : 0 ≤ q.num := Rat.num_nonneg.mpr h
theorem fr_cop (q : Rat) : G q.num q.den = 1 := by
 unfold G
 have := q.reduced
 show ((Nat.gcd q.num.natAbs (q.den : Int).natAbs : Nat) : Int) = 1
 rw [Int.natAbs_natCast, this.gcd_eq_one]
 rfl
theorem q_eq (q : Rat) : (q.num : Rat) / ((q.den : Int) : Rat) = q := by
 have := Rat.num_divInt_den q
 rw [Rat.divInt_eq_div] at this
 exact this
theorem den_ne (q : Rat) : ((q.den : Int) : Rat) ≠ 0 := by
 intro h
 have := Rat.intCast_inj.mp (show ((q.den : Int) : Rat) = ((0 : Int) : Rat) from h)
 have := den_pos q
 omega
theorem low_fr {a b : Int} (hb : 0 < b) : lo a b = ((a : Rat) / (b : Rat)).num ∧ hi a b = (((a : Rat) / (b : Rat)).den : Int) := by
 rw [← Rat.divInt_eq_div]
 constructor
 ·rw [Rat.num_divInt, Int.sign_eq_one_of_pos hb, Int.one_mul, Int.gcd_comm]
  rfl
 ·rw [Rat.den_divInt, if_neg (by omega)]
  unfold hi G
  rw [Int.gcd_comm b a, Int.natCast_ediv]
  congr 1
  omega
theorem plus_fr (q r : Rat) : ((q.num * (r.den : Int) + r.num * (q.den : Int) : Int) : Rat) / (((q.den : Int) * (r.den : Int) : Int) : Rat) = q + r := by
 have h1 := q_eq q
 have h2 := q_eq r
 have h3 := den_ne q
 have h4 := den_ne r
 rw [Rat.intCast_add, Rat.intCast_mul, Rat.intCast_mul, Rat.intCast_mul]
 grind
theorem minus_fr (q r : Rat) : ((q.num * (r.den : Int) - r.num * (q.den : Int) : Int) : Rat) / (((q.den : Int) * (r.den : Int) : Int) : Rat) = q - r := by
 have h1 := q_eq q
 have h2 := q_eq r
 have h3 := den_ne q
 have h4 := den_ne r
 rw [Rat.intCast_sub, Rat.intCast_mul, Rat.intCast_mul, Rat.intCast_mul]
 grind
theorem times_fr (q r : Rat) : ((q.num * r.num : Int) : Rat) / (((q.den : Int) * (r.den : Int) : Int) : Rat) = q * r := by
 have h1 := q_eq q
 have h2 := q_eq r
 have h3 := den_ne q
 have h4 := den_ne r
 rw [Rat.intCast_mul, Rat.intCast_mul]
 grind
theorem over_fr {q r : Rat} (h : 0 < r) : ((q.num * (r.den : Int) : Int) : Rat) / (((q.den : Int) * r.num : Int) : Rat) = q / r := by
 have h1 := q_eq q
 have h2 := q_eq r
 have h3 := den_ne q
 have h4 := den_ne r
 have h5 : (r.num : Rat) ≠ 0 := by
  intro z
  rw [z] at h2
  grind
 rw [Rat.intCast_mul, Rat.intCast_mul]
 grind
theorem num_pos {q : Rat} (h : 0 < q) : 0 < q.num := by
 have := (Rat.lt_iff 0 q).mp h
 have e : (0 : Rat).num = 0 := rfl
 have f : ((0 : Rat).den : Int) = 1 := rfl
 rw [e, f, Int.zero_mul, Int.mul_one] at this
 exact this
def Bd (n : Nat) (q : Rat) : Prop := q.num.natAbs < 2 ^ n ∧ q.den < 2 ^ n
theorem Bd.mono {m n : Nat} {q : Rat} (h : Bd m q) (e : m ≤ n) : Bd n q :=
 ⟨Nat.lt_of_lt_of_le h.1 (Nat.pow_le_pow_right (by decide) e), Nat.lt_of_lt_of_le h.2 (Nat.pow_le_pow_right (by decide) e)⟩
theorem Bd.of {a b : Int} {n : Nat} (hb : 0 < b) (ha : a.natAbs < 2 ^ n) (hb2 : b.natAbs < 2 ^ n) : Bd n ((a : Rat) / (b : Rat)) := by
 obtain ⟨e1, e2⟩ := low_fr (a := a) hb
 have g := G_pos (a := a) hb
 have l1 := lo_eq a b
 have l2 := hi_eq a b
 have h1 : (lo a b).natAbs ≤ a.natAbs := by
  conv => rhs; rw [← l1]
  rw [Int.natAbs_mul]
  exact Nat.le_mul_of_pos_left _ (by omega)
 have h2 : (hi a b).natAbs ≤ b.natAbs := by
  conv => rhs; rw [← l2]
  rw [Int.natAbs_mul]
  exact Nat.le_mul_of_pos_left _ (by omega)
 refine ⟨?_, ?_⟩
 ·rw [← e1]
  omega
 ·omega
theorem mul_lt_pow {a b m n : Nat} (h1 : a < 2 ^ m) (h2 : b < 2 ^ n) : a * b < 2 ^ (m + n) := by
 rw [Nat.pow_add]
 rcases Nat.eq_zero_or_pos b with z | z
 ·subst z
  have := Nat.two_pow_pos m
  have := Nat.two_pow_pos n
  rw [Nat.mul_zero]
  exact Nat.mul_pos ‹_› ‹_›
 ·exact Nat.mul_lt_mul_of_lt_of_le h1 (Nat.le_of_lt h2) (Nat.two_pow_pos n)
theorem Bd.add {m n : Nat} {q r : Rat} (h1 : Bd m q) (h2 : Bd n r) : Bd (m + n + 1) (q + r) := by
 rw [← plus_fr q r]
 have d1 := den_pos q
 have d2 := den_pos r
 have a1 := mul_lt_pow h1.1 h2.2
 have a2 := mul_lt_pow h2.1 h1.2
 have a3 := mul_lt_pow h1.2 h2.2
 refine Bd.of (Int.mul_pos d1 d2) ?_ ?_
 ·have : (q.num * (r.den : Int) + r.num * (q.den : Int)).natAbs ≤ q.num.natAbs * r.den + r.num.natAbs * q.den := by
   refine Nat.le_trans (Int.natAbs_add_le _ _) ?_
   rw [Int.natAbs_mul, Int.natAbs_mul, Int.natAbs_natCast, Int.natAbs_natCast]
   exact Nat.le_refl _
  rw [Nat.add_comm n m] at a2
  rw [Nat.pow_succ]
  omega
 ·rw [Int.natAbs_mul, Int.natAbs_natCast, Int.natAbs_natCast, Nat.pow_succ]
  omega
theorem Bd.neg {n : Nat} {q : Rat} (h : Bd n q) : Bd n (-q) := by
 refine ⟨?_, ?_⟩
 ·rw [Rat.neg_num, Int.natAbs_neg]
  exact h.1
 ·rw [Rat.neg_den]
  exact h.2
theorem Bd.sub {m n : Nat} {q r : Rat} (h1 : Bd m q) (h2 : Bd n r) : Bd (m + n + 1) (q - r) := by
 rw [Rat.sub_eq_add_neg]
 exact h1.add h2.neg
theorem Bd.mul {m n : Nat} {q r : Rat} (h1 : Bd m q) (h2 : Bd n r) : Bd (m + n) (q * r) := by
 rw [← times_fr q r]
 refine Bd.of (Int.mul_pos (den_pos q) (den_pos r)) ?_ ?_
 ·rw [Int.natAbs_mul]
  exact mul_lt_pow h1.1 h2.1
 ·rw [Int.natAbs_mul, Int.natAbs_natCast, Int.natAbs_natCast]
  exact mul_lt_pow h1.2 h2.2
theorem Bd.div {m n : Nat} {q r : Rat} (h : 0 < r) (h1 : Bd m q) (h2 : Bd n r) : Bd (m + n) (q / r) := by
 rw [← over_fr h]
 refine Bd.of (Int.mul_pos (den_pos q) (num_pos h)) ?_ ?_
 ·rw [Int.natAbs_mul, Int.natAbs_natCast]
  exact mul_lt_pow h1.1 h2.2
 ·rw [Int.natAbs_mul, Int.natAbs_natCast]
  exact mul_lt_pow h1.2 h2.1
def Gr (D : Nat) (q : Rat) : Prop := ∃ n : Int, q * (D : Rat) = (n : Rat)
theorem Gr.add {D : Nat} {q r : Rat} (h1 : Gr D q) (h2 : Gr D r) : Gr D (q + r) := by
 obtain ⟨a, ha⟩ := h1
 obtain ⟨b, hb⟩ := h2
 exact ⟨a + b, by rw [Rat.intCast_add]; grind⟩
theorem Gr.sub {D : Nat} {q r : Rat} (h1 : Gr D q) (h2 : Gr D r) : Gr D (q - r) := by
 obtain ⟨a, ha⟩ := h1
 obtain ⟨b, hb⟩ := h2
 exact ⟨a - b, by rw [Rat.intCast_sub]; grind⟩
theorem Gr.int (D : Nat) (n : Int) : Gr D (n : Rat) := ⟨n * D, by rw [Rat.intCast_mul]; rfl⟩
theorem Gr.zero (D : Nat) : Gr D 0 := Gr.int D 0
theorem Gr.one (D : Nat) : Gr D 1 := Gr.int D 1
theorem Gr.imul {D : Nat} {q : Rat} (h : Gr D q) (n : Int) : Gr D ((n : Rat) * q) := by
 obtain ⟨a, ha⟩ := h
 exact ⟨n * a, by rw [Rat.intCast_mul]; grind⟩
theorem Gr.up {D E : Nat} {q : Rat} (h : Gr D q) : Gr (D * E) q := by
 obtain ⟨a, ha⟩ := h
 exact ⟨a * E, by rw [Rat.intCast_mul, Rat.natCast_mul, ← ha]; show _ = _ * ((E : Int) : Rat); rw [Rat.intCast_natCast]; grind⟩
theorem Gr.up' {D E : Nat} {q : Rat} (h : Gr E q) : Gr (D * E) q := by
 rw [Nat.mul_comm]
 exact h.up
theorem nat_ne {D : Nat} (h : 0 < D) : (D : Rat) ≠ 0 := by
 intro z
 have := Rat.natCast_inj.mp (show (D : Rat) = ((0 : Nat) : Rat) from z)
 omega
theorem nat_pos {D : Nat} (h : 0 < D) : (0 : Rat) < (D : Rat) := by
 have := Rat.natCast_lt_natCast.mpr h
 exact this
theorem Gr.bd {D n : Nat} {q : Rat} (h : Gr D q) (hD : 0 < D) (h0 : 0 ≤ q) {m : Nat} (hm : q ≤ (m : Rat)) (hs : m * D < 2 ^ n) (hs2 : D < 2 ^ n) : Bd n q := by
 obtain ⟨a, ha⟩ := h
 have e : q = ((a : Rat) / ((D : Int) : Rat)) := by
  rw [Rat.intCast_natCast, ← ha]
  have := nat_ne hD
  grind
 have p := nat_pos hD
 rw [e]
 refine Bd.of (by omega) ?_ (by rw [Int.natAbs_natCast]; exact hs2)
 have a0 : 0 ≤ a := by
  have : (0 : Rat) ≤ (a : Rat) := by
   rw [← ha]
   exact Rat.mul_nonneg h0 (Rat.le_of_lt p)
  exact Rat.intCast_le_intCast.mp this
 have a1 : a ≤ ((m * D : Nat) : Int) := by
  have : (a : Rat) ≤ ((m * D : Nat) : Int) := by
   rw [← ha, Rat.intCast_natCast, Rat.natCast_mul]
   exact Rat.mul_le_mul_of_nonneg_right hm (Rat.le_of_lt p)
  exact Rat.intCast_le_intCast.mp this
 omega
end FK
namespace FK
abbrev Steps := List (Rat × Int)
def A : Rat → Steps → Rat → Rat
 | _, [], _ => 0
 | b, (e, w) :: S, x => (w : Rat) * (max b (min e x) - b) + A e S x
def endOf : Rat → Steps → Rat
 | b, [] => b
 | _, (e, _) :: S => endOf e S
def Rise : Rat → Steps → Prop
 | _, [] => True
 | b, (e, w) :: S => b < e ∧ 0 < w ∧ Rise e S
theorem A_snoc : ∀ (b : Rat) (S : Steps) (e : Rat) (w : Int) (x : Rat), A b (S ++ [(e, w)]) x = A b S x + (w : Rat) * (max (endOf b S) (min e x) - endOf b S)
 | b, [], e, w, x => by
  show (w : Rat) * (max b (min e x) - b) + 0 = 0 + (w : Rat) * (max b (min e x) - b)
  grind
 | b, (e', w') :: S, e, w, x => by
  show (w' : Rat) * (max b (min e' x) - b) + A e' (S ++ [(e, w)]) x = (w' : Rat) * (max b (min e' x) - b) + A e' S x + (w : Rat) * (max (endOf e' S) (min e x) - endOf e' S)
  rw [A_snoc e' S e w x]
  grind
theorem end_snoc : ∀ (b : Rat) (S : Steps) (e : Rat) (w : Int), endOf b (S ++ [(e, w)]) = e
 | _, [], _, _ => rfl
 | _, (e', _) :: S, e, w => end_snoc e' S e w
theorem w_pos {w : Int} (h : 0 < w) : (0 : Rat) < (w : Rat) := Rat.intCast_pos.mpr h
theorem Rise.le : ∀ {b : Rat} {S : Steps}, Rise b S → b ≤ endOf b S
 | b, [], _ => Rat.le_refl
 | b, (e, w) :: S, h => Rat.le_trans (Rat.le_of_lt h.1) (Rise.le h.2.2)
theorem mul_mono {w x y : Rat} (hw : 0 < w) (h : x ≤ y) : w * x ≤ w * y := Rat.mul_le_mul_of_nonneg_left h (Rat.le_of_lt hw)
theorem mul_smono {w x y : Rat} (hw : 0 < w) (h : x < y) : w * x < w * y := Rat.mul_lt_mul_of_pos_left h hw
theorem A_low : ∀ {b : Rat} {S : Steps} {x : Rat}, Rise b S → x ≤ b → A b S x = 0
 | b, [], x, _, _ => rfl
 | b, (e, w) :: S, x, h, hx => by
  show (w : Rat) * (max b (min e x) - b) + A e S x = 0
  have h1 : b < e := h.1
  rw [A_low h.2.2 (by grind), show max b (min e x) = b by grind]
  grind
theorem A_mono : ∀ {b : Rat} {S : Steps} {x y : Rat}, Rise b S → x ≤ y → A b S x ≤ A b S y
 | b, [], x, y, _, _ => Rat.le_refl
 | b, (e, w) :: S, x, y, h, hx => by
  have h1 := A_mono (x := x) (y := y) h.2.2 hx
  have h2 := mul_mono (w_pos h.2.1) (x := max b (min e x) - b) (y := max b (min e y) - b) (by grind)
  show (w : Rat) * (max b (min e x) - b) + A e S x ≤ (w : Rat) * (max b (min e y) - b) + A e S y
  grind
theorem A_nn {b : Rat} {S : Steps} {x : Rat} (h : Rise b S) : 0 ≤ A b S x := by
 rcases Rat.le_total (a := x) (b := b) with z | z
 ·rw [A_low h z]
  exact Rat.le_refl
 ·have := A_mono (x := b) (y := x) h z
  rw [A_low h Rat.le_refl] at this
  exact this
theorem A_smono : ∀ {b : Rat} {S : Steps} {x y : Rat}, Rise b S → b ≤ x → x < y → y ≤ endOf b S → A b S x < A b S y
 | b, [], x, y, _, h1, h2, h3 => by
  exfalso
  have : y ≤ b := h3
  grind
 | b, (e, w) :: S, x, y, h, h1, h2, h3 => by
  have hw := w_pos h.2.1
  have r1 : b < e := h.1
  show (w : Rat) * (max b (min e x) - b) + A e S x < (w : Rat) * (max b (min e y) - b) + A e S y
  by_cases z : e ≤ x
  ·have := A_smono (x := x) (y := y) h.2.2 z h2 h3
   rw [show max b (min e x) = e by grind, show max b (min e y) = e by grind]
   grind
  ·have m1 := A_mono (x := x) (y := y) h.2.2 (Rat.le_of_lt h2)
   have m2 := mul_smono hw (x := max b (min e x) - b) (y := max b (min e y) - b) (by grind)
   grind
def apt (x y : Rat) : Rat := if x < y then y - x else x - y
def Rch (p q : Rat × Rat) (u : Rat) : Prop := ¬ (p.2 < u ∧ q.2 < u) ∧ ¬ (u < p.2 ∧ u < q.2)
instance (p q : Rat × Rat) (u : Rat) : Decidable (Rch p q u) := inferInstanceAs (Decidable (_ ∧ _))
def crs (p q : Rat × Rat) (u : Rat) : Rat := if p.2 = u then p.1 else p.1 + (q.1 - p.1) * (apt p.2 u / apt p.2 q.2)
def rch : List (Rat × Rat) → Rat → Option Rat
 | p :: q :: L, u => if Rch p q u then some (crs p q u) else rch (q :: L) u
 | _, _ => none
def hl : Rat → Rat → Steps → List (Rat × Rat)
 | b, h, [] => [(b, h)]
 | b, h, (e, w) :: S => (b, h) :: hl e (h + (e - b) * (w : Rat)) S
theorem hl_head : ∀ (b h : Rat) (S : Steps), ∃ T, hl b h S = (b, h) :: T
 | b, h, [] => ⟨[], rfl⟩
 | b, h, (e, w) :: S => ⟨_, rfl⟩
theorem hl_len : ∀ (b h : Rat) (S : Steps), (hl b h S).length = S.length + 1
 | b, h, [] => rfl
 | b, h, (e, w) :: S => by
  show (hl e _ S).length + 1 = S.length + 1 + 1
  rw [hl_len]
theorem hl_snoc : ∀ (b h : Rat) (S : Steps) (e : Rat) (w : Int), Rise b S → hl b h (S ++ [(e, w)]) = hl b h S ++ [(e, h + A b S (endOf b S) + (e - endOf b S) * (w : Rat))]
 | b, h, [], e, w, _ => by
  show [(b, h), (e, h + (e - b) * (w : Rat))] = [(b, h), (e, h + 0 + (e - b) * (w : Rat))]
  rw [show h + 0 = h by grind]
 | b, h, (e', w') :: S, e, w, r => by
  show (b, h) :: hl e' (h + (e' - b) * (w' : Rat)) (S ++ [(e, w)]) = (b, h) :: (hl e' (h + (e' - b) * (w' : Rat)) S ++ [(e, h + ((w' : Rat) * (max b (min e' (endOf e' S)) - b) + A e' S (endOf e' S)) + (e - endOf e' S) * (w : Rat))])
  have h1 := Rise.le r.2.2
  have h2 := r.1
  rw [hl_snoc e' _ S e w r.2.2, show max b (min e' (endOf e' S)) = e' by grind]
  congr 4
  grind
theorem hl_last : ∀ (b h : Rat) (S : Steps), Rise b S → (hl b h S).getLast? = some (endOf b S, h + A b S (endOf b S))
 | b, h, [], _ => by
  show some (b, h) = some (b, h + 0)
  rw [show h + 0 = h by grind]
 | b, h, (e, w) :: S, r => by
  obtain ⟨T, hT⟩ := hl_head e (h + (e - b) * (w : Rat)) S
  have ih := hl_last e (h + (e - b) * (w : Rat)) S r.2.2
  have h1 := Rise.le r.2.2
  have h2 := r.1
  show ((b, h) :: hl e (h + (e - b) * (w : Rat)) S).getLast? = some (endOf e S, h + ((w : Rat) * (max b (min e (endOf e S)) - b) + A e S (endOf e S)))
  rw [hT] at ih ⊢
  rw [List.getLast?_cons_cons, ih, show max b (min e (endOf e S)) = e by grind]
  congr 2
  grind
theorem rch_up : ∀ {b h c x : Rat} {S : Steps}, Rise b S → 0 < c → S ≠ [] → b ≤ x → x ≤ endOf b S → rch ((hl b h S).map fun z => (z.2 / c, z.1)) x = some ((h + A b S x) / c)
 | b, h, c, x, [], _, _, n, _, _ => absurd rfl n
 | b, h, c, x, (e, w) :: S, r, hc, _, h1, h2 => by
  obtain ⟨T, hT⟩ := hl_head e (h + (e - b) * (w : Rat)) S
  have ih := @rch_up e (h + (e - b) * (w : Rat)) c x S r.2.2 hc
  have r1 : b < e := r.1
  have hw := w_pos r.2.1
  show rch (((b, h) :: hl e (h + (e - b) * (w : Rat)) S).map fun z => (z.2 / c, z.1)) x = some ((h + ((w : Rat) * (max b (min e x) - b) + A e S x)) / c)
  rw [hT] at ih ⊢
  show (if Rch (h / c, b) ((h + (e - b) * (w : Rat)) / c, e) x then some (crs (h / c, b) ((h + (e - b) * (w : Rat)) / c, e) x) else rch (((e, h + (e - b) * (w : Rat)) :: T).map fun z => (z.2 / c, z.1)) x) = _
  have cn : c ≠ 0 := by grind
  by_cases hx : x ≤ e
  ·rw [if_pos (by unfold Rch; grind), A_low r.2.2 hx]
   congr 1
   unfold crs apt
   simp only
   by_cases hb : b = x
   ·rw [if_pos hb, show max b (min e x) = b by grind]
    grind
   ·rw [if_neg hb, if_pos (by grind), if_pos r1, show max b (min e x) = x by grind]
    have : e - b ≠ 0 := by grind
    grind
  ·have hS : S ≠ [] := by
    intro z
    subst z
    have : x ≤ e := h2
    exact hx this
   rw [if_neg (by unfold Rch; grind), ih hS (by grind) h2, show max b (min e x) = e by grind]
   congr 2
   grind
theorem rch_at : ∀ {b h c y : Rat} {S : Steps}, Rise b S → 0 < c → S ≠ [] → h ≤ y * c → y * c ≤ h + A b S (endOf b S) →
  ∃ x, rch ((hl b h S).map fun z => (z.1, z.2 / c)) y = some x ∧ b ≤ x ∧ x ≤ endOf b S ∧ h + A b S x = y * c ∧ ∃ p ∈ hl b h S, ∃ e w, (e, w) ∈ S ∧ x = p.1 + (y * c - p.2) / (w : Rat)
 | b, h, c, y, [], _, _, n, _, _ => absurd rfl n
 | b, h, c, y, (e, w) :: S, r, hc, _, h1, h2 => by
  obtain ⟨T, hT⟩ := hl_head e (h + (e - b) * (w : Rat)) S
  have ih := @rch_at e (h + (e - b) * (w : Rat)) c y S r.2.2 hc
  have r1 : b < e := r.1
  have rl := Rise.le r.2.2
  have hw := w_pos r.2.1
  have cn : c ≠ 0 := by grind
  have wn : (w : Rat) ≠ 0 := by grind
  have en : e - b ≠ 0 := by grind
  have d1 : h / c ≤ y := by
   have := (Rat.div_lt_iff (a := y * c) (b := c) (c := h / c) hc)
   have e1 : y * c / c = y := by grind
   have e2 : h / c * c = h := by grind
   rw [e1, e2] at this
   grind
  have dd : ∀ z : Rat, z / c < y ↔ z < y * c := fun z => Rat.div_lt_iff hc
  have dg : ∀ z : Rat, y < z / c ↔ y * c < z := fun z => Rat.lt_div_iff hc
  show ∃ x, rch (((b, h) :: hl e (h + (e - b) * (w : Rat)) S).map fun z => (z.1, z.2 / c)) y = some x ∧ b ≤ x ∧ x ≤ endOf e S ∧ h + ((w : Rat) * (max b (min e x) - b) + A e S x) = y * c ∧ ∃ p ∈ (b, h) :: hl e (h + (e - b) * (w : Rat)) S, ∃ e' w', (e', w') ∈ (e, w) :: S ∧ x = p.1 + (y * c - p.2) / (w' : Rat)
  have go : ∀ U, rch ((b, h / c) :: (e, (h + (e - b) * (w : Rat)) / c) :: U) y = if Rch (b, h / c) (e, (h + (e - b) * (w : Rat)) / c) y then some (crs (b, h / c) (e, (h + (e - b) * (w : Rat)) / c) y) else rch ((e, (h + (e - b) * (w : Rat)) / c) :: U) y := fun _ => rfl
  by_cases hx : y * c ≤ h + (e - b) * (w : Rat)
  ·have q1 : (0 : Rat) ≤ (y * c - h) / (w : Rat) := by
    have := (Rat.div_lt_iff (a := y * c - h) (b := (w : Rat)) (c := 0) hw)
    grind
   have q2 : (y * c - h) / (w : Rat) ≤ e - b := by
    have := (Rat.lt_div_iff (a := e - b) (b := y * c - h) (c := (w : Rat)) hw)
    grind
   refine ⟨b + (y * c - h) / (w : Rat), ?_, ?_, ?_, ?_, (b, h), List.mem_cons_self, e, w, List.mem_cons_self, rfl⟩
   ·rw [hT]
    show rch ((b, h / c) :: (e, (h + (e - b) * (w : Rat)) / c) :: _) y = _
    rw [go, if_pos (by unfold Rch; grind)]
    congr 1
    unfold crs apt
    simp only
    by_cases hb : h / c = y
    ·rw [if_pos hb]
     grind
    ·rw [if_neg hb, if_pos (by grind)]
     have : h / c < (h + (e - b) * (w : Rat)) / c := by
      have := (Rat.lt_div_iff (a := h / c) (b := h + (e - b) * (w : Rat)) hc).mpr (by
       have e2 : h / c * c = h := by grind
       have := Rat.mul_pos (a := e - b) (b := (w : Rat)) (by grind) hw
       grind)
      exact this
     rw [if_pos this]
     have n1 : (h + (e - b) * (w : Rat)) / c - h / c ≠ 0 := by grind
     have n2 : (h + (e - b) * (w : Rat)) / c - h / c = (e - b) * (w : Rat) / c := by grind
     rw [n2]
     grind
   ·grind
   ·grind
   ·rw [show max b (min e (b + (y * c - h) / (w : Rat))) = b + (y * c - h) / (w : Rat) by grind, A_low r.2.2 (by grind)]
    grind
  ·have hx' : h + (e - b) * (w : Rat) < y * c := by grind
   have hS : S ≠ [] := by
    intro z
    subst z
    have h2' : y * c ≤ h + ((w : Rat) * (max b (min e e) - b) + 0) := h2
    rw [show max b (min e e) = e by grind] at h2'
    grind
   have h2' : y * c ≤ h + ((w : Rat) * (max b (min e (endOf e S)) - b) + A e S (endOf e S)) := h2
   rw [show max b (min e (endOf e S)) = e by grind] at h2'
   obtain ⟨x, e1, e2, e3, e4, p, hp, e', w', hm, ex⟩ := ih hS (by grind) (by grind)
   refine ⟨x, ?_, by grind, e3, ?_, p, List.mem_cons_of_mem _ hp, e', w', List.mem_cons_of_mem _ hm, ex⟩
   ·rw [hT] at e1 ⊢
    show rch ((b, h / c) :: (e, (h + (e - b) * (w : Rat)) / c) :: _) y = _
    rw [go, if_neg (by
     have d3 := (dd h).mpr (by have := Rat.mul_pos (a := e - b) (b := (w : Rat)) (by grind) hw; grind)
     have d4 := (dd (h + (e - b) * (w : Rat))).mpr hx'
     unfold Rch
     exact fun z => z.1 ⟨d3, d4⟩)]
    exact e1
   ·rw [show max b (min e x) = e by grind]
    grind
end FK
namespace FK
theorem rise_get : ∀ {b : Rat} {S : Steps} {i : Nat} {z : Rat × Int}, Rise b S → S[i]? = some z → endOf b (S.take i) < z.1 ∧ 0 < z.2
 | b, [], i, z, _, h => by simp at h
 | b, (e, w) :: S, 0, z, r, h => by
  have h' : (e, w) = z := by simpa using h
  subst h'
  exact ⟨r.1, r.2.1⟩
 | b, (e, w) :: S, i + 1, z, r, h => by
  have h' : S[i]? = some z := by simpa using h
  show endOf e (S.take i) < z.1 ∧ 0 < z.2
  exact rise_get r.2.2 h'
theorem rise_take : ∀ {b : Rat} {S : Steps} (i : Nat), Rise b S → Rise b (S.take i)
 | b, [], i, _ => by rw [List.take_nil]; trivial
 | b, (e, w) :: S, 0, r => trivial
 | b, (e, w) :: S, i + 1, r => ⟨r.1, r.2.1, rise_take i r.2.2⟩
theorem take_snoc {α : Type} {L : List α} {i : Nat} {z : α} (h : L[i]? = some z) : L.take (i + 1) = L.take i ++ [z] := by
 rw [List.take_succ, h]
 rfl
theorem A_take : ∀ {b : Rat} {S : Steps} (i : Nat), Rise b S → A b (S.take i) (endOf b (S.take i)) = A b S (endOf b (S.take i))
 | b, [], i, _ => by rw [List.take_nil]
 | b, (e, w) :: S, 0, r => by
  show 0 = A b ((e, w) :: S) b
  exact (A_low r Rat.le_refl).symm
 | b, (e, w) :: S, i + 1, r => by
  show (w : Rat) * (max b (min e (endOf e (S.take i))) - b) + A e (S.take i) (endOf e (S.take i)) = (w : Rat) * (max b (min e (endOf e (S.take i))) - b) + A e S (endOf e (S.take i))
  rw [A_take i r.2.2]
theorem end_take_le : ∀ {b : Rat} {S : Steps} (i : Nat), Rise b S → endOf b (S.take i) ≤ endOf b S
 | b, [], i, _ => by rw [List.take_nil]; exact Rat.le_refl
 | b, (e, w) :: S, 0, r => Rise.le r
 | b, (e, w) :: S, i + 1, r => end_take_le i r.2.2
theorem A_up : ∀ {b : Rat} {S : Steps} {x M : Rat}, Rise b S → 0 ≤ M → (∀ z ∈ S, (z.2 : Rat) ≤ M) → b ≤ x → A b S x ≤ M * (x - b)
 | b, [], x, M, _, h0, hM, hx => by
  show (0 : Rat) ≤ M * (x - b)
  exact Rat.mul_nonneg h0 (by grind)
 | b, (e, w) :: S, x, M, r, h0, hM, hx => by
  have r1 : b < e := r.1
  have hw : (w : Rat) ≤ M := hM (e, w) List.mem_cons_self
  show (w : Rat) * (max b (min e x) - b) + A e S x ≤ M * (x - b)
  by_cases z : x ≤ e
  ·rw [A_low r.2.2 z, show max b (min e x) = x by grind]
   have := Rat.mul_le_mul_of_nonneg_right hw (show (0 : Rat) ≤ x - b by grind)
   grind
  ·have ih := A_up (x := x) r.2.2 h0 (fun z hz => hM z (List.mem_cons_of_mem _ hz)) (by grind)
   have := Rat.mul_le_mul_of_nonneg_right hw (show (0 : Rat) ≤ e - b by grind)
   rw [show max b (min e x) = e by grind]
   grind
theorem hl_get : ∀ {b h : Rat} {S : Steps} {i : Nat}, Rise b S → i ≤ S.length → (hl b h S)[i]? = some (endOf b (S.take i), h + A b S (endOf b (S.take i)))
 | b, h, [], i, _, hi => by
  have : i = 0 := by simpa using hi
  subst this
  show some (b, h) = some (b, h + 0)
  rw [show h + 0 = h by grind]
 | b, h, (e, w) :: S, 0, r, _ => by
  show some (b, h) = some (b, h + A b ((e, w) :: S) b)
  rw [A_low r Rat.le_refl, show h + 0 = h by grind]
 | b, h, (e, w) :: S, i + 1, r, hi => by
  have r1 : b < e := r.1
  have hi' : i ≤ S.length := by simpa using hi
  have l1 := Rise.le (rise_take i r.2.2)
  show (hl e (h + (e - b) * (w : Rat)) S)[i]? = some (endOf e (S.take i), h + ((w : Rat) * (max b (min e (endOf e (S.take i))) - b) + A e S (endOf e (S.take i))))
  rw [hl_get r.2.2 hi', show max b (min e (endOf e (S.take i))) = e by grind]
  congr 2
  grind
theorem hl_inv {b h : Rat} {S : Steps} {i : Nat} {z : Rat × Rat} (r : Rise b S) (e : (hl b h S)[i]? = some z) : i ≤ S.length ∧ z = (endOf b (S.take i), h + A b S (endOf b (S.take i))) := by
 have l := (List.getElem?_eq_some_iff.mp e).1
 rw [hl_len] at l
 have hi : i ≤ S.length := by omega
 rw [hl_get r hi] at e
 exact ⟨hi, (Option.some.inj e).symm⟩
theorem Gr.mx {D : Nat} {a b : Rat} (h1 : Gr D a) (h2 : Gr D b) : Gr D (max a b) := by
 by_cases h : a ≤ b
 ·rw [show max a b = b by grind]; exact h2
 ·rw [show max a b = a by grind]; exact h1
theorem Gr.mn {D : Nat} {a b : Rat} (h1 : Gr D a) (h2 : Gr D b) : Gr D (min a b) := by
 by_cases h : a ≤ b
 ·rw [show min a b = a by grind]; exact h1
 ·rw [show min a b = b by grind]; exact h2
theorem A_gr : ∀ {D : Nat} {b : Rat} {S : Steps} {x : Rat}, Gr D b → (∀ z ∈ S, Gr D z.1) → Gr D x → Gr D (A b S x)
 | D, b, [], x, _, _, _ => Gr.zero D
 | D, b, (e, w) :: S, x, hb, hS, hx => by
  have he := hS (e, w) List.mem_cons_self
  exact Gr.add (Gr.imul (Gr.sub (hb.mx (he.mn hx)) hb) w) (A_gr he (fun z hz => hS z (List.mem_cons_of_mem _ hz)) hx)
theorem end_gr : ∀ {D : Nat} {b : Rat} {S : Steps}, Gr D b → (∀ z ∈ S, Gr D z.1) → Gr D (endOf b S)
 | D, b, [], hb, _ => hb
 | D, b, (e, w) :: S, _, hS => end_gr (b := e) (S := S) (hS (e, w) List.mem_cons_self) fun z hz => hS z (List.mem_cons_of_mem _ hz)
structure TsOk (p : Nat) (S : Steps) : Prop where
 pos : 0 < p
 few : p ≤ 1000
 ne : S ≠ []
 len : S.length ≤ 8
 rise : Rise 0 S
 top : endOf 0 S = 1
 gr : ∀ z ∈ S, Gr p z.1
 w : ∀ z ∈ S, z.2 ≤ 1000
def tot (S : Steps) : Rat := A 0 S 1
def F (S : Steps) (x : Rat) : Rat := A 0 S x / tot S
section
variable {p : Nat} {S : Steps}
theorem TsOk.tp (h : TsOk p S) : 0 < tot S := by
 have := A_smono (x := 0) (y := 1) h.rise Rat.le_refl (by decide) (by rw [h.top]; exact Rat.le_refl)
 rw [A_low h.rise Rat.le_refl] at this
 exact this
theorem TsOk.up (h : TsOk p S) {x : Rat} (h0 : 0 ≤ x) (h1 : x ≤ 1) : A 0 S x ≤ 1000 := by
 have := A_up (x := x) (M := 1000) h.rise (by decide) (fun z hz => by
  have := Rat.intCast_le_intCast.mpr (h.w z hz)
  exact this) h0
 grind
theorem TsOk.tg (h : TsOk p S) : Gr p (tot S) := A_gr (Gr.zero p) h.gr (Gr.one p)
theorem TsOk.num (h : TsOk p S) : ∃ N : Nat, 0 < N ∧ N ≤ 1000 * p ∧ tot S * (p : Rat) = (N : Rat) := by
 obtain ⟨n, hn⟩ := h.tg
 have pp := nat_pos h.pos
 have q := Rat.mul_pos h.tp pp
 rw [hn] at q
 have n0 : 0 < n := Rat.intCast_pos.mp q
 have u := Rat.mul_le_mul_of_nonneg_right (h.up (x := 1) (by decide) Rat.le_refl) (Rat.le_of_lt pp)
 have u' : (n : Rat) ≤ ((1000 * p : Nat) : Int) := by
  rw [← hn, Rat.intCast_natCast, Rat.natCast_mul]
  exact u
 have n1 := Rat.intCast_le_intCast.mp u'
 refine ⟨n.toNat, by omega, by omega, ?_⟩
 rw [hn, ← Rat.intCast_natCast]
 congr 1
 omega
theorem F_nn (h : TsOk p S) (x : Rat) : 0 ≤ F S x := by
 unfold F
 have a := A_nn (x := x) h.rise
 have t := h.tp
 have := (Rat.div_lt_iff (a := A 0 S x) (b := tot S) (c := 0) t)
 grind
theorem F_mono (h : TsOk p S) {x y : Rat} (e : x ≤ y) : F S x ≤ F S y := by
 unfold F
 have t := h.tp
 have a := A_mono (x := x) (y := y) h.rise e
 have := (Rat.div_lt_iff (a := A 0 S y) (b := tot S) (c := A 0 S x / tot S) t)
 have e2 : A 0 S x / tot S * tot S = A 0 S x := by grind
 rw [e2] at this
 grind
theorem F_smono (h : TsOk p S) {x y : Rat} (h0 : 0 ≤ x) (e : x < y) (h1 : y ≤ 1) : F S x < F S y := by
 unfold F
 have t := h.tp
 have a := A_smono (x := x) (y := y) h.rise h0 e (by rw [h.top]; exact h1)
 refine (Rat.div_lt_iff t).mpr ?_
 have e2 : A 0 S y / tot S * tot S = A 0 S y := by grind
 rw [e2]
 exact a
theorem F_zero (h : TsOk p S) : F S 0 = 0 := by
 unfold F
 rw [A_low h.rise Rat.le_refl]
 grind
theorem F_one (h : TsOk p S) : F S 1 = 1 := by
 have := h.tp
 show tot S / tot S = 1
 grind
theorem F_le (h : TsOk p S) {x : Rat} (h1 : x ≤ 1) : F S x ≤ 1 := by
 have := F_mono h h1
 rw [F_one h] at this
 exact this
theorem F_gr (h : TsOk p S) {N D : Nat} (hN : tot S * (p : Rat) = (N : Rat)) {x : Rat} (hx : Gr D x) : Gr (D * N) (F S x) := by
 obtain ⟨n, hn⟩ := A_gr (D := D * p) (b := 0) (S := S) (x := x) (Gr.zero _) (fun z hz => (h.gr z hz).up') hx.up
 have t := h.tp
 refine ⟨n, ?_⟩
 rw [← hn, Rat.natCast_mul, Rat.natCast_mul, ← hN]
 unfold F
 grind
theorem F_bd (h : TsOk p S) {D n : Nat} {x : Rat} (hx : Gr D x) (hD : 0 < D) (h1 : x ≤ 1) (hs : D * 1000000 < 2 ^ n) : Bd n (F S x) := by
 obtain ⟨N, n0, n1, hN⟩ := h.num
 have f := h.few
 have : D * N ≤ D * 1000000 := Nat.mul_le_mul_left _ (by omega)
 exact (F_gr h hN hx).bd (Nat.mul_pos hD n0) (F_nn h x) (m := 1) (by rw [show ((1 : Nat) : Rat) = 1 from rfl]; exact F_le h h1) (by omega) (by omega)
def wl (S : Steps) : List (Rat × Rat) := (hl 0 0 S).map fun z => (z.1, z.2 / tot S)
def wlF (S : Steps) : List (Rat × Rat) := (hl 0 0 S).map fun z => (z.2 / tot S, z.1)
theorem zero_add' (x : Rat) : 0 + x = x := by grind
theorem wlF_rch (h : TsOk p S) {x : Rat} (h0 : 0 ≤ x) (h1 : x ≤ 1) : rch (wlF S) x = some (F S x) := by
 have := rch_up (h := 0) (x := x) h.rise h.tp h.ne h0 (by rw [h.top]; exact h1)
 rw [zero_add'] at this
 exact this
theorem wl_get (h : TsOk p S) {i : Nat} {z : Rat × Rat} (e : (wl S)[i]? = some z) : i ≤ S.length ∧ z = (endOf 0 (S.take i), F S (endOf 0 (S.take i))) := by
 unfold wl at e
 rw [List.getElem?_map] at e
 cases q : (hl 0 0 S)[i]? with
 | none => rw [q] at e; cases e
 | some y =>
  rw [q] at e
  obtain ⟨a, b⟩ := hl_inv h.rise q
  subst b
  refine ⟨a, ?_⟩
  rw [← Option.some.inj e, zero_add']
  rfl
theorem end_nn (h : TsOk p S) (i : Nat) : 0 ≤ endOf 0 (S.take i) := Rise.le (rise_take i h.rise)
theorem end_le (h : TsOk p S) (i : Nat) : endOf 0 (S.take i) ≤ 1 := by
 have := end_take_le i h.rise
 rw [h.top] at this
 exact this
theorem end_g (h : TsOk p S) (i : Nat) : Gr p (endOf 0 (S.take i)) := end_gr (Gr.zero p) fun z hz => h.gr z (List.mem_of_mem_take hz)
theorem end_bd (h : TsOk p S) (i : Nat) : Bd 10 (endOf 0 (S.take i)) := by
 have f := h.few
 exact (end_g h i).bd h.pos (end_nn h i) (m := 1) (by rw [show ((1 : Nat) : Rat) = 1 from rfl]; exact end_le h i) (by omega) (by omega)
theorem endF_bd (h : TsOk p S) (i : Nat) : Bd 30 (F S (endOf 0 (S.take i))) := by
 have f := h.few
 exact F_bd h (end_g h i) h.pos (end_le h i) (by omega)
theorem end_step (h : TsOk p S) {i : Nat} (hi : i + 1 ≤ S.length) : endOf 0 (S.take i) < endOf 0 (S.take (i + 1)) := by
 obtain ⟨a, _⟩ := rise_get (i := i) (z := S[i]) h.rise (List.getElem?_eq_getElem (by omega))
 rw [take_snoc (z := S[i]) (List.getElem?_eq_getElem (by omega))]
 rw [show S[i] = (S[i].1, S[i].2) from rfl, end_snoc]
 exact a
end
end FK
namespace FK
def Wo (S : Steps) : List (Rat × Rat) → Rat
 | [] => 0
 | p :: L => (F S p.2 - F S p.1) + Wo S L
theorem area_step {b e lo hi : Rat} {w : Int} (hb : b < e) (hl : lo ≤ hi) :
  (w : Rat) * (max b (min e hi) - b) - (w : Rat) * (max b (min e lo) - b) = if (if b < lo then lo else b) < (if hi < e then hi else e) then ((if hi < e then hi else e) - (if b < lo then lo else b)) * (w : Rat) else 0 := by
 have : max b (min e hi) - max b (min e lo) = if (if b < lo then lo else b) < (if hi < e then hi else e) then (if hi < e then hi else e) - (if b < lo then lo else b) else 0 := by grind
 have e1 : (w : Rat) * (max b (min e hi) - b) - (w : Rat) * (max b (min e lo) - b) = (w : Rat) * (max b (min e hi) - max b (min e lo)) := by grind
 rw [e1, this]
 split <;> grind
end FK
namespace FK
theorem nfrac_lt {n : Nat} (hn : 0 < n) {a b : Int} (h : a < b) : (a : Rat) / (n : Rat) < (b : Rat) / (n : Rat) := by
 have p := nat_pos hn
 refine (Rat.div_lt_iff p).mpr ?_
 have e : (b : Rat) / (n : Rat) * (n : Rat) = (b : Rat) := by grind
 rw [e]
 exact Rat.intCast_lt_intCast.mpr h
theorem nfrac_gr {n : Nat} (hn : 0 < n) (a : Int) : Gr n ((a : Rat) / (n : Rat)) := ⟨a, by
 have := nat_ne hn
 grind⟩
theorem nfrac_self {n : Nat} (hn : 0 < n) : (((n : Nat) : Int) : Rat) / (n : Rat) = 1 := by
 have := nat_ne hn
 rw [Rat.intCast_natCast]
 grind
def MadeOf (n : Nat) (es : List Int) (S : Steps) : Prop := S.map Prod.fst = es.map (fun (e : Int) => (e : Rat) / (n : Rat)) ∧ ∀ z ∈ S, 0 < z.2 ∧ z.2 ≤ 1000
theorem MadeOf.nil (n : Nat) : MadeOf n [] [] := ⟨rfl, fun _ h => nomatch h⟩
theorem MadeOf.snoc {n : Nat} {es : List Int} {S : Steps} (h : MadeOf n es S) {e w : Int} (h0 : 0 < w) (h1 : w ≤ 1000) : MadeOf n (es ++ [e]) (S ++ [((e : Rat) / (n : Rat), w)]) := by
 refine ⟨by rw [List.map_append, List.map_append, h.1]; rfl, fun z hz => ?_⟩
 rcases List.mem_append.mp hz with q | q
 ·exact h.2 z q
 ·rw [List.mem_singleton.mp q]
  exact ⟨h0, h1⟩
theorem MadeOf.rise {n : Nat} (hn : 0 < n) : ∀ {es : List Int} {S : Steps} {b : Int}, MadeOf n es S → (b :: es).Pairwise (· < ·) → Rise ((b : Rat) / (n : Rat)) S
 | [], [], b, _, _ => trivial
 | [], z :: S, b, h, _ => by cases h.1
 | e :: es, [], b, h, _ => by cases h.1
 | e :: es, (x, w) :: S, b, h, hp => by
  obtain ⟨h1, h2⟩ := h
  injection h1 with e1 e2
  have pc := List.pairwise_cons.mp hp
  have ex : x = (e : Rat) / (n : Rat) := e1
  refine ⟨?_, (h2 (x, w) List.mem_cons_self).1, ?_⟩
  ·rw [ex]
   exact nfrac_lt hn (pc.1 e List.mem_cons_self)
  ·rw [ex]
   exact MadeOf.rise hn ⟨e2, fun z hz => h2 z (List.mem_cons_of_mem _ hz)⟩ pc.2
theorem MadeOf.ts {n : Nat} {es : List Int} {S : Steps} (h2n : 0 < n) (hn : n ≤ 1000) (h : MadeOf n (es ++ [(n : Int)]) S) (hl : es.length ≤ 7) (hp : (0 :: (es ++ [(n : Int)])).Pairwise (· < ·)) : TsOk n S := by
 have len : S.length = es.length + 1 := by
  have := congrArg List.length h.1
  simpa using this
 have ne : S ≠ [] := fun z => by
  rw [z] at len
  simp at len
 refine ⟨h2n, hn, ne, by omega, ?_, ?_, fun z hz => ?_, fun z hz => (h.2 z hz).2⟩
 ·have := MadeOf.rise h2n h hp
  rw [show ((0 : Int) : Rat) / (n : Rat) = 0 by rw [show ((0 : Int) : Rat) = 0 from rfl]; grind] at this
  exact this
 ·obtain ⟨S0, l, rfl⟩ : ∃ S0 l, S = S0 ++ [l] := ⟨S.dropLast, S.getLast ne, (List.dropLast_concat_getLast ne).symm⟩
  have h1 := h.1
  rw [List.map_append, List.map_append] at h1
  have := List.append_inj_right' h1 rfl
  have e : l.1 = (((n : Nat) : Int) : Rat) / (n : Rat) := by
   injection this
  rw [show l = (l.1, l.2) from rfl, end_snoc, e, nfrac_self h2n]
 ·have : z.1 ∈ S.map Prod.fst := List.mem_map.mpr ⟨z, hz, rfl⟩
  rw [h.1] at this
  obtain ⟨e, _, q⟩ := List.mem_map.mp this
  rw [← q]
  exact nfrac_gr h2n e
theorem sorted_rise {es : List Int} (h1 : es.Pairwise (· ≤ ·)) (h2 : es.Nodup) : es.Pairwise (· < ·) := by
 refine List.Pairwise.imp₂ (fun a b h1 h2 => ?_) h1 h2
 omega
end FK
namespace FK
def Ao (S : Steps) : List (Rat × Rat) → Rat
 | [] => 0
 | p :: L => (A 0 S p.2 - A 0 S p.1) + Ao S L
theorem Ao_snoc (S : Steps) : ∀ (L : List (Rat × Rat)) (p : Rat × Rat), Ao S (L ++ [p]) = Ao S L + (A 0 S p.2 - A 0 S p.1)
 | [], p => by
  show (A 0 S p.2 - A 0 S p.1) + 0 = 0 + (A 0 S p.2 - A 0 S p.1)
  grind
 | q :: L, p => by
  show (A 0 S q.2 - A 0 S q.1) + Ao S (L ++ [p]) = (A 0 S q.2 - A 0 S q.1) + Ao S L + (A 0 S p.2 - A 0 S p.1)
  rw [Ao_snoc S L p]
  grind
theorem Ao_wo {p : Nat} {S : Steps} (h : TsOk p S) : ∀ (L : List (Rat × Rat)), Ao S L / tot S = Wo S L
 | [] => by
  show (0 : Rat) / tot S = 0
  grind
 | q :: L => by
  have ih := Ao_wo h L
  have t := h.tp
  show ((A 0 S q.2 - A 0 S q.1) + Ao S L) / tot S = (A 0 S q.2 / tot S - A 0 S q.1 / tot S) + Wo S L
  rw [← ih]
  grind
structure SpOk (D : Nat) (L : List (Rat × Rat)) : Prop where
 win : ∀ p ∈ L, 0 ≤ p.1 ∧ p.1 ≤ p.2 ∧ p.2 ≤ 1
 gr : ∀ p ∈ L, Gr D p.1 ∧ Gr D p.2
 few : L.length ≤ 1000
theorem area_nn {p : Nat} {S : Steps} (h : TsOk p S) {a b : Rat} (hab : a ≤ b) : 0 ≤ A 0 S b - A 0 S a := by
 have := A_mono h.rise hab
 grind
theorem area_up {p : Nat} {S : Steps} (h : TsOk p S) {a b : Rat} (hb0 : 0 ≤ b) (hb : b ≤ 1) : A 0 S b - A 0 S a ≤ 1000 := by
 have := h.up hb0 hb
 have := A_nn (x := a) h.rise
 grind
theorem area_gr {p : Nat} {S : Steps} (h : TsOk p S) {D : Nat} {a b : Rat} (ga : Gr D a) (gb : Gr D b) : Gr (D * p) (A 0 S b - A 0 S a) :=
 Gr.sub (A_gr (Gr.zero _) (fun z hz => (h.gr z hz).up') gb.up) (A_gr (Gr.zero _) (fun z hz => (h.gr z hz).up') ga.up)
theorem Ao_gr {p : Nat} {S : Steps} (h : TsOk p S) {D : Nat} : ∀ {L : List (Rat × Rat)}, (∀ q ∈ L, Gr D q.1 ∧ Gr D q.2) → Gr (D * p) (Ao S L)
 | [], _ => Gr.zero _
 | q :: L, hL => Gr.add (area_gr h (hL q List.mem_cons_self).1 (hL q List.mem_cons_self).2) (Ao_gr h fun z hz => hL z (List.mem_cons_of_mem _ hz))
theorem Ao_nn {p : Nat} {S : Steps} (h : TsOk p S) : ∀ {L : List (Rat × Rat)}, (∀ q ∈ L, q.1 ≤ q.2) → 0 ≤ Ao S L
 | [], _ => Rat.le_refl
 | q :: L, hL => by
  have a := area_nn h (hL q List.mem_cons_self)
  have := Ao_nn h fun z hz => hL z (List.mem_cons_of_mem _ hz)
  show 0 ≤ (A 0 S q.2 - A 0 S q.1) + Ao S L
  grind
theorem Ao_up {p : Nat} {S : Steps} (h : TsOk p S) : ∀ {L : List (Rat × Rat)}, (∀ q ∈ L, 0 ≤ q.1 ∧ q.1 ≤ q.2 ∧ q.2 ≤ 1) → Ao S L ≤ ((1000 * L.length : Nat) : Rat)
 | [], _ => by
  show (0 : Rat) ≤ ((1000 * 0 : Nat) : Rat)
  exact Rat.le_refl
 | q :: L, hL => by
  have w := hL q List.mem_cons_self
  have a := area_up h (a := q.1) (b := q.2) (by grind) w.2.2
  have := Ao_up h (L := L) fun z hz => hL z (List.mem_cons_of_mem _ hz)
  show (A 0 S q.2 - A 0 S q.1) + Ao S L ≤ ((1000 * (L.length + 1) : Nat) : Rat)
  rw [show 1000 * (L.length + 1) = 1000 * L.length + 1000 by omega, Rat.natCast_add]
  have e : ((1000 : Nat) : Rat) = 1000 := rfl
  grind
end FK
namespace FK
theorem F_inv {p : Nat} {S : Steps} (h : TsOk p S) {x y : Rat} (x0 : 0 ≤ x) (y1 : y ≤ 1) (e : F S y ≤ F S x) : y ≤ x := by
 by_cases c : y ≤ x
 ·exact c
 ·have := F_smono h (x := x) (y := y) x0 (by grind) y1
  grind
theorem F_lt {p : Nat} {S : Steps} (h : TsOk p S) {x y : Rat} (e : F S x < F S y) : x < y := by
 by_cases c : y ≤ x
 ·have := F_mono h c
  grind
 ·grind
theorem F_inj {p : Nat} {S : Steps} (h : TsOk p S) {x y : Rat} (x0 : 0 ≤ x) (x1 : x ≤ 1) (y0 : 0 ≤ y) (y1 : y ≤ 1) (e : F S x = F S y) : x = y := by
 have a := F_inv h (x := x) (y := y) x0 y1 (by grind)
 have b := F_inv h (x := y) (y := x) y0 x1 (by grind)
 grind
end FK
namespace FK
def Ch : Rat → List (Rat × Rat) → Rat → Prop
 | a, [], b => a = b
 | a, p :: C, b => p.1 = a ∧ p.1 < p.2 ∧ Ch p.2 C b
theorem Ch.ge : ∀ {a b : Rat} {C : List (Rat × Rat)}, Ch a C b → ∀ p ∈ C, a ≤ p.1
 | a, b, [], _, p, h => nomatch h
 | a, b, q :: C, h, p, hp => by
  obtain ⟨h1, h2, h3⟩ := h
  rcases List.mem_cons.mp hp with z | z
  ·rw [z, h1]
   exact Rat.le_refl
  ·have := Ch.ge h3 p z
   grind
theorem Ch.only {a b : Rat} {q : Rat × Rat} {C : List (Rat × Rat)} (h : Ch a (q :: C) b) : (q :: C).filter (fun p => decide (p.1 = a)) = [q] := by
 obtain ⟨h1, h2, h3⟩ := h
 rw [List.filter_cons_of_pos (by simpa using h1), List.filter_eq_nil_iff.mpr]
 intro p hp
 have := Ch.ge h3 p hp
 have : p.1 ≠ a := by grind
 simpa using this
theorem Ch.ones {a b : Rat} {q : Rat × Rat} {C R : List (Rat × Rat)} (h : Ch a (q :: C) b) (hp : R.Perm (q :: C)) : R.filter (fun p => decide (p.1 = a)) = [q] := by
 have := hp.filter (fun p => decide (p.1 = a))
 rw [h.only] at this
 exact List.perm_singleton.mp this
abbrev ixO {α : Type} [DecidableEq α] (q : α) (R : List α) : Nat := R.idxOf q
theorem ixO_lt {α : Type} [DecidableEq α] {q : α} {R : List α} (h : q ∈ R) : ixO q R < R.length := List.idxOf_lt_length_iff.mpr h
theorem perm_erase {α : Type} [DecidableEq α] {q : α} {C R : List α} (hp : R.Perm (q :: C)) : (R.eraseIdx (ixO q R)).Perm C := by
 have := hp.erase q
 rw [List.erase_cons_head, List.erase_eq_eraseIdx_of_idxOf (i := R.idxOf q) rfl] at this
 exact this
end FK
namespace L2
open PySem PySem.Spec PyProof.Rows
section
variable {X : Cx} {pins : List (Addr × Obj)} {σ : St} {H : Hp} {s : Shared} {h' : Heap}
theorem Inv.turnedN {t' : Nat} {ch : List Addr} {T : Addr} {o : HO} (I : Inv X pins σ H s) (k : ∀ b o, b ∉ ch → s.heap.get? b = some o → h'.get? b = some o) (hf : ∀ b ∈ ch, FpOk X pins H b)
  (hT : s.heap.objs.size ≤ T) (new : ObjOk X.prog X.w (upd H T o) h' T o) : Inv X pins σ (upd H T o) { s with heap := h', toks := t' } := by
 have hn : H T = none := I.hok.fresh hT
 have nch : ∀ b u, H b = some u → b ∉ ch := fun b u e z => by
  rw [(hf b z).1] at e
  cases e
 refine I.step (g' := s.gens) (d' := s.drawn) (ch := ch) (fun b hb => ?_) (fun b o _ _ hc e _ => k b o hc e) (fun b o _ _ hc e _ => ⟨o.slots, k b o hc e⟩) (fun b o hc e n => ?_)
  (fun b o hc e => ⟨o, k b o hc e⟩) (fun b xs e => by rw [upd_ne (ne_of_none e hn)]; exact e) (fun b u xs e => by rw [upd_ne (ne_of_none e hn)]; exact e) (fun b ps e => ⟨#[], by rw [upd_ne (ne_of_none e hn), e]; simp⟩) (fun m hm => ?_) (fun b u e => ?_) I.bare
 ·obtain ⟨_, f1, _, f3, f4, f5⟩ := hf b hb
  exact ⟨f3, f1, f4, f5⟩
 ·rw [upd_ne (Nat.ne_of_lt (Nat.lt_of_lt_of_le (Heap.lt_size e) hT))]
  exact n
 ·obtain ⟨o, es, ep, ho, r⟩ := hm
  exact ⟨o, es, ep, k _ o (fun z => (hf _ z).2.1 rfl) ho, r⟩
 ·by_cases hb : b = T
  ·subst hb
   rw [upd_same] at e
   cases e
   exact new
  ·rw [upd_ne hb] at e
   refine (I.hok b u e).stay (fun c v hc q => k c v ?_ q) (fun c q => by rw [upd_ne (ne_of_none q hn)]; exact q) fun c xs q => by rw [upd_ne (ne_of_none q hn)]; exact q
   rcases hc with z | z
   ·rw [z]
    exact nch b u e
   ·exact nch c _ z
theorem Inv.turnedL {t' : Nat} {ch : List Addr} (I : Inv X pins σ H s) (k : ∀ b o, b ∉ ch → s.heap.get? b = some o → h'.get? b = some o) (hf : ∀ b ∈ ch, FpOk X pins H b) : Inv X pins σ H { s with heap := h', toks := t' } := by
 have nch : ∀ b u, H b = some u → b ∉ ch := fun b u e z => by
  rw [(hf b z).1] at e
  cases e
 refine I.step (g' := s.gens) (d' := s.drawn) (ch := ch) (fun b hb => ?_) (fun b o _ _ hc e _ => k b o hc e) (fun b o _ _ hc e _ => ⟨o.slots, k b o hc e⟩) (fun b o hc e n => n)
  (fun b o hc e => ⟨o, k b o hc e⟩) (fun b xs e => e) (fun b u xs e => e) (fun b ps e => ⟨#[], by rw [e]; simp⟩) (fun m hm => ?_) (fun b u e => ?_) I.bare
 ·obtain ⟨_, f1, _, f3, f4, f5⟩ := hf b hb
  exact ⟨f3, f1, f4, f5⟩
 ·obtain ⟨o, es, ep, ho, r⟩ := hm
  exact ⟨o, es, ep, k _ o (fun z => (hf _ z).2.1 rfl) ho, r⟩
 ·refine (I.hok b u e).stay (fun c v hc q => k c v ?_ q) (fun _ q => q) fun _ _ q => q
  rcases hc with z | z
  ·rw [z]
   exact nch b u e
  ·exact nch c _ z
end
def Itz (K : PySem.W.Frag) (l1 l2 : Addr) : It :=
  ⟨fun i H => ∃ xs ys x y, SqL K H l1 xs ∧ SqL K H l2 ys ∧ xs[i]? = some x ∧ ys[i]? = some y,
   fun i H v H' => ∃ T x y, v = .ref T ∧ H T = none ∧ H' = upd H T (.tup [x, y]) ∧ (∀ xs, SqL K H l1 xs → xs[i]? = some x) ∧ (∀ ys, SqL K H l2 ys → ys[i]? = some y),
   fun i H => ∃ xs ys, SqL K H l1 xs ∧ SqL K H l2 ys ∧ (xs.length ≤ i ∨ ys.length ≤ i)⟩
def tnZ (z TI TO i1 i2 l1 l2 : Addr) (i : Nat) (h : Heap) : Prop := IsZip h z TI TO .none ∧ IsPair h TI (.ref i1) (.ref i2) ∧ (∃ a b, IsPair h TO a b) ∧ h.IsListIter i1 l1 i ∧ h.IsListIter i2 l2 i
theorem turn_zip {P : Program} {w : World} {K : PySem.W.Frag} {elts : List Expr} {kk : Nat} {tp : Pos} {z TI TO i1 i2 l1 l2 : Addr} (D : ZipApart z TI TO i1 i2 l1 l2) : Turn P w K (.Tuple elts kk tp) (Itz K l1 l2) [z, TI, TO, i1, i2] z (tnZ z TI TO i1 i2 l1 l2) where
 mem := by simp
 obj := fun i h st b hb => by
  obtain ⟨hz, hTI, ⟨a, c, hTO⟩, ⟨o1, e1, _, d1⟩, ⟨o2, e2, _, d2⟩⟩ := st
  simp only [List.mem_cons, List.mem_nil_iff, or_false] at hb
  rcases hb with rfl | rfl | rfl | rfl | rfl
  ·exact ⟨_, hz, fun v z => by cases z⟩
  ·exact ⟨_, hTI, fun v z => by cases z⟩
  ·exact ⟨_, hTO, fun v z => by cases z⟩
  ·exact ⟨_, e1, fun v z => by rw [d1] at z; cases z⟩
  ·exact ⟨_, e2, fun v z => by rw [d2] at z; cases z⟩
 keep := fun i h h' st k => by
  obtain ⟨hz, hTI, ⟨a, c, hTO⟩, h1, h2⟩ := st
  exact ⟨k z (by simp) _ hz, k TI (by simp) _ hTI, ⟨a, c, k TO (by simp) _ hTO⟩, h1.at fun o e => k i1 (by simp) o e, h2.at fun o e => k i2 (by simp) o e⟩
 item := by
  intro X hP hw hK hc i pins s σ H E I hf st hg
  subst hP hw hK
  obtain ⟨xs, ys, x, y, hq1, hq2, hx, hy⟩ := hg
  obtain ⟨its1, rv1, p1, hz1⟩ := I.list hq1
  obtain ⟨its2, rv2, p2, hz2⟩ := I.list hq2
  obtain ⟨u1, hu1, ru1⟩ := rv1.get hx
  obtain ⟨u2, hu2, ru2⟩ := rv2.get hy
  obtain ⟨hz, hTI, ⟨a, c, hTO⟩, h1, h2⟩ := st
  refine wpAny_pyNext_zip_item D hz hTI hTO h1 h2 p1.isList p2.isList (x := u1) (y := u2) (by simpa using hu1) (by simpa using hu2) fun h' a1 a2 a3 a4 a5 a6 a7 => ?_
  refine ⟨_, rfl, wpAny_letOwnedTupleGo_zip a1 fun h'' b1 b2 => ?_⟩
  have lt : ∀ {c o}, s.heap.get? c = some o → s.heap.objs.size ≠ c := fun e => Nat.ne_of_gt (Heap.lt_size e)
  have kp : ∀ b o, b ∉ [z, TO, i1, i2] → s.heap.get? b = some o → h''.get? b = some o := fun b o hb e => by
   simp only [List.mem_cons, List.mem_nil_iff, or_false, not_or] at hb
   exact b2.extBut _ _ hb.1 (a7 b o hb.1 hb.2.1 hb.2.2.1 hb.2.2.2 e)
  have hT : h''.get? s.heap.objs.size = some { cls := .type "tuple", data := .seq #[u1, u2] } := b2.extBut _ _ (lt hz) a5
  have I2 : Inv X pins σ (upd H s.heap.objs.size (.tup [x, y])) { s with heap := h'', toks := s.toks } := by
   refine I.turnedN (ch := [z, TO, i1, i2]) kp (fun b hb => hf b ?_) (Nat.le_refl _) ⟨(by show 2 ≤ sizeLine; decide), [u1, u2], .cons ru1 (.cons ru2 .nil), ⟨_, hT, rfl, _, rfl⟩⟩
   simp only [List.mem_cons, List.mem_nil_iff, or_false] at hb ⊢
   rcases hb with rfl | rfl | rfl | rfl <;> simp
  refine ⟨.ref s.heap.objs.size, _, I2, rfl, ⟨s.heap.objs.size, x, y, rfl, I.hok.fresh (Nat.le_refl _), rfl, fun zs hy' => by rw [I.list_inj hy' hq1]; exact hx, fun zs hy' => by rw [I.list_inj hy' hq2]; exact hy⟩,
   ⟨b1, b2.extBut _ _ D.TIz (a7 _ _ D.TIz D.TITO D.TIi1 D.TIi2 hTI), ⟨_, _, b2.extBut _ _ D.TOz a2⟩, a3.extBut b2.extBut D.i1z, a4.extBut b2.extBut D.i2z⟩, fun b hb => ?_⟩
  have ne : b ≠ s.heap.objs.size := by
   intro e
   subst e
   simp only [List.mem_cons, List.mem_nil_iff, or_false] at hb
   obtain ⟨o1, e1, _⟩ := h1
   obtain ⟨o2, e2, _⟩ := h2
   rcases hb with e | e | e | e | e
   ·exact lt hz e
   ·exact lt hTI e
   ·exact lt hTO e
   ·exact lt e1 e
   ·exact lt e2 e
  rw [upd_ne ne]
  exact (hf b hb).1
 done := by
  intro X hP hw hK hc i pins s σ H E I hf st hg
  subst hP hw hK
  obtain ⟨xs, ys, hq1, hq2, hl⟩ := hg
  obtain ⟨its1, rv1, p1, hz1⟩ := I.list hq1
  obtain ⟨its2, rv2, p2, hz2⟩ := I.list hq2
  have l1' := rv1.length
  have l2' := rv2.length
  obtain ⟨hz, hTI, ⟨a, c, hTO⟩, h1, h2⟩ := st
  refine wpAny_pyNext_zip_end (I.ok.hd hc) D hz hTI hTO h1 h2 p1.isList p2.isList ?_ fun h' k => ⟨rfl, ?_⟩
  ·rcases hl with e | e
   ·exact .inl (by simp; omega)
   ·exact .inr (by simp; omega)
  ·refine I.turnedL (t' := s.toks) (ch := [z, TO, i1, i2]) (fun b o hb e => ?_) fun b hb => hf b ?_
   ·simp only [List.mem_cons, List.mem_nil_iff, or_false, not_or] at hb
    exact k b o hb.1 hb.2.1 hb.2.2.1 hb.2.2.2 e
   ·simp only [List.mem_cons, List.mem_nil_iff, or_false] at hb ⊢
    rcases hb with rfl | rfl | rfl | rfl <;> simp
 self := fun _ _ _ _ _ st h => wpAny_pyIter_zip st.1 h
section
variable {X : Cx}
def iZip (K : PySem.W.Frag) (ta : TA) : TI := fun σ H R => ta σ H fun vs H1 => ∃ l1 l2, vs = [.ref l1, .ref l2] ∧ (∃ xs, SqL K H1 l1 xs) ∧ (∃ ys, SqL K H1 l2 ys) ∧ R (Itz K l1 l2) H1
theorem pi_zip {elts : List Expr} {kk : Nat} {tp : Pos} {a b : Expr} {ta : TA} {p pos : Pos} (hg : Gl X "zip") (hm : X.mg "zip" = none) (ha : PA X [a, b] ta) (hs : starEach [a, b] X.env = (false, eval a X.env) :: starEach [b] X.env := by rfl) (hp : (backTo pos (starEach [b] X.env)).any (·.1) = false := by rfl) :
  PI X (.Tuple elts kk tp) (.Call (.Name "zip" p) [a, b] [] pos) (iZip X.K ta) := by
 intro pins s σ H R I h
 refine Call_ (ld_blt I hg hm boot_zip (PyProof.Rows.callWith_type1 (thn (ha pos pins s σ H _ I h) fun us s1 ⟨vs, H1, I1, r1, q1⟩ => ?_) hs hp))
 obtain ⟨l1, l2, rfl, ⟨xs, hq1⟩, ⟨ys, hq2⟩, q⟩ := q1
 obtain ⟨u1, u2, rfl, e1, e2⟩ := r1.two
 cases (show u1 = Value.ref l1 from e1)
 cases (show u2 = Value.ref l2 from e2)
 obtain ⟨its1, rv1, p1, hz1⟩ := I1.list hq1
 obtain ⟨its2, rv2, p2, hz2⟩ := I1.list hq2
 have lt1 : l1 < s1.heap.objs.size := by obtain ⟨o, e, _⟩ := p1.isList; exact Heap.lt_size e
 have lt2 : l2 < s1.heap.objs.size := by obtain ⟨o, e, _⟩ := p2.isList; exact Heap.lt_size e
 refine call_zip_2 p1.isList p2.isList fun h' a1 a2 a3 a4 a5 a6 a7 => ?_
 have I2 : Inv X pins σ H1 { s1 with heap := h', toks := s1.toks } := I1.kept a7
 refine wpAny_pyIter_zip a1 ⟨s1.heap.objs.size + 4, [s1.heap.objs.size + 4, s1.heap.objs.size + 2, s1.heap.objs.size + 3, s1.heap.objs.size, s1.heap.objs.size + 1], _, _, H1, rfl, I2, turn_zip (l1 := l1) (l2 := l2) ?_, ⟨a1, a2, ⟨_, _, a3⟩, a4, a5⟩, fun b hb => ?_, q⟩
 ·have lt1' : @LT.lt Nat _ l1 s1.heap.objs.size := lt1
  have lt2' : @LT.lt Nat _ l2 s1.heap.objs.size := lt2
  constructor <;> (intro z; have z' : @Eq Nat _ _ := z; omega)
 ·have hb' : s1.heap.objs.size ≤ b := by
   simp only [List.mem_cons, List.mem_nil_iff, or_false] at hb
   rcases hb with rfl | rfl | rfl | rfl | rfl
   ·exact Nat.le_add_right _ _
   ·exact Nat.le_add_right _ _
   ·exact Nat.le_add_right _ _
   ·exact Nat.le_refl _
   ·exact Nat.le_add_right _ _
  have f := I1.fpOk (H' := H1) hb' (I1.hok.fresh hb')
  exact f
end
theorem CompOk.free1 {X : Cx} {sc : Scope} {cl : List (Str × Addr)} {F : List Str} {js : List Nat} (kind : sc.kind = .function) (cell : ∀ y ∈ sc.names, y.2 ≠ .cell) (names : ∀ y ∈ sc.names, y.2 = .local → sc.names.lookup y.1 = some .local)
  (clos : closureFor sc X.env = pure cl) (cls : ClOk X cl) (has : (sc.names.all fun y => !(decide (y.2 = .free)) || (cl.lookup y.1).isSome) = true) (free : FreeOk X sc F js) : CompOk X sc cl F js :=
 ⟨kind, cell, names, clos, cls, fun y hy e => by
  have := List.all_eq_true.mp has y hy
  rw [decide_eq_true e] at this
  exact Option.isSome_iff_exists.mp this, free⟩
theorem comp_zip {K : PySem.W.Frag} {l1 l2 D : Addr} {xs zs : List V} {g : CS → TG} {tc : CS → TT} {te : CS → TE} {σ0 : St} {H0 : Hp} {Q : Hp → Prop} (Pv : Nat → List V → St → Hp → Prop) (hzs : zs.length = xs.length) (hz : xs.length ≤ sizeLine) (h0 : Pv 0 [] σ0 H0)
  (hl : ∀ i ys σ H, i ≤ xs.length → Pv i ys σ H → SqL K H l1 xs ∧ SqL K H l2 zs ∧ H D = some (.lst ys) ∧ ys.length ≤ i)
  (hs : ∀ i x z ys σ H T, xs[i]? = some x → zs[i]? = some z → Pv i ys σ H → H T = none → ∀ c : CS, g c (.ref T) σ (upd H T (.tup [x, z])) fun σ2 H2 => tc c σ2 H2 fun b H3 => if b = true then te c σ2 H3 fun v H4 => H4 D = some (.lst ys) ∧ Pv (i + 1) (ys ++ [v]) σ2 (upd H4 D (.lst (ys ++ [v]))) else Pv (i + 1) ys σ2 H3)
  (hd : ∀ ys σ H, Pv xs.length ys σ H → Q H) :
  ∃ W : Nat → Nat → List V → St → Hp → Prop, (∃ m, W 0 m [] σ0 H0) ∧ ∀ i m ys σ' H', W i m ys σ' H' → H' D = some (.lst ys) ∧ (((Itz K l1 l2).stop i H' ∧ Q H') ∨ ((Itz K l1 l2).go i H' ∧ ys.length < sizeLine ∧ ∃ N : List V → St → Hp → Prop, (∀ ys' σ'' H'', N ys' σ'' H'' → ∃ m', m' < m ∧ W (i + 1) m' ys' σ'' H'') ∧
    ∀ x H2, (Itz K l1 l2).yld i H' x H2 → ∀ c : CS, g c x σ' H2 fun σ2 H3 => tc c σ2 H3 fun b H4 => if b = true then te c σ2 H4 fun v H5 => H5 D = some (.lst ys) ∧ N (ys ++ [v]) σ2 (upd H5 D (.lst (ys ++ [v]))) else N ys σ2 H4)) := by
 refine ⟨fun i m ys σ H => m = xs.length - i ∧ i ≤ xs.length ∧ Pv i ys σ H, ⟨xs.length, by simp, Nat.zero_le _, h0⟩, ?_⟩
 rintro i m ys σ H ⟨rfl, hi, p⟩
 obtain ⟨q1, q2, qD, ql⟩ := hl i ys σ H hi p
 refine ⟨qD, ?_⟩
 by_cases hlt : i < xs.length
 ·refine .inr ⟨⟨xs, zs, xs[i], zs[i]'(by omega), q1, q2, by simp [hlt], by simp [hzs, hlt]⟩, by omega, Pv (i + 1), fun ys' σ' H' p' => ⟨xs.length - (i + 1), by omega, rfl, hlt, p'⟩, fun x H' y c => ?_⟩
  obtain ⟨T, a, b, rfl, hT, rfl, y1, y2⟩ := y
  exact hs i a b ys σ _ T (y1 xs q1) (y2 zs q2) p hT c
 ·have e : i = xs.length := by omega
  subst e
  exact .inl ⟨⟨xs, zs, q1, q2, .inl (Nat.le_refl _)⟩, hd ys σ H p⟩
def Keep (H H' : Hp) : Prop := ∀ b o, H b = some o → (∀ zs, o ≠ .lst zs) → (∀ ps, o ≠ .tbl ps) → H' b = some o
theorem Keep.of {H H' : Hp} (s : Same H H') : Keep H H' := fun b o e _ _ => s b o e
theorem Keep.trans {A B C : Hp} (h : Keep A B) (g : Keep B C) : Keep A C := fun b o e n m => g b o (h b o e n m) n m
theorem Keep.updL {H : Hp} {D : Addr} {zs : List V} {o : HO} (h : H D = some (.lst zs)) : Keep H (upd H D o) := fun b u e n _ => by
 rw [upd_ne (ne_of e h (n zs))]
 exact e
theorem Keep.sqT {K : PySem.W.Frag} {H H' : Hp} {a : Addr} {xs : List V} (s : Keep H H') (h : SqT K H a xs) : SqT K H' a xs := by
 rcases h with (z | ⟨o, z⟩) | z
 ·exact .inl (.inl (s _ _ z (fun _ z => nomatch z) (fun _ z => nomatch z)))
 ·exact .inl (.inr ⟨o, s _ _ z (fun _ z => nomatch z) (fun _ z => nomatch z)⟩)
 ·exact .inr z
theorem Keep.fr {K : PySem.W.Frag} {H H' : Hp} {x : V} {d : Int × Int} (s : Keep H H') (h : FrR K H x d) : FrR K H' x d := by
 obtain ⟨p, y, z, rfl, q, h1, h2⟩ := h
 exact ⟨p, y, z, rfl, s.sqT q, h1, h2⟩
theorem Same.updN {H H' : Hp} {D : Addr} {o : HO} (s : Same H H') (h : H D = none) : Same H (L2.upd H' D o) := fun b u e => by
 rw [upd_ne (ne_of_none e h)]
 exact s b u e
def Ml (P : Program) (w : World) (K : PySem.W.Frag) (mg : Str → Option Value) (base : Heap) (C : Addr) (m : Str) (k : Nat) (ps : List Str) (sp : Sp) : Prop :=
 ∃ (f : Addr) (fd : FuncData), Meth K C m f ∧ Binds K fd ps [] ∧ FnOk P w K mg base CX0 k f fd ps sp
def Mc (P : Program) (w : World) (K : PySem.W.Frag) (mg : Str → Option Value) (base : Heap) (x : Str) (C : Addr) (k : Nat) (ps : List Str) (sp : Sp) : Prop :=
 ∃ (f : Addr) (fd : FuncData), Mk K C f ∧ mg x = some (.ref C) ∧ Binds K fd ps [] ∧ FnOk P w K mg base CX0 k f fd ps sp
section
variable {X : Cx} {k : Nat} {C : Addr} {ps : List Str} {sp : Sp} {x m : Str} {p pos apos : Pos} {e o : Expr} {es : List Expr} {ta : TE} {t : TA}
theorem pe_ml {pl : Sem Bool} (M : Ml X.prog X.w X.K X.mg X.base C m k ps sp) (c : Cls X.K C) (hr : Room k X.A) (he : PE X o ta) (ha : PA X (e :: es) t)
  (hst : starEach (e :: es) X.env = (false, eval e X.env) :: starEach es X.env := by rfl) (hpl : (backTo pos (starEach es X.env)).any (·.1) = false := by rfl)
  (ht : eval (.Call (.Attribute o m apos) (e :: es) [] pos) X.env = (do
   let ov ← eval o X.env
   standAt apos.atName
   let (f, first) ← holding [ov] (getMethod ov m pl)
   callWith pos f first (backTo pos (starEach (e :: es) X.env)) (backToKw pos (keywordEach [] X.env))) := by rfl) :
  PE X (.Call (.Attribute o m apos) (e :: es) [] pos) (tMeth C m sp [] E0 ta t) := by
 obtain ⟨f, fd, h1, h2, h3⟩ := M
 exact pe_meth he c h1 h3 hr h2 .nil pass0 ha hst hpl ht
theorem pe_ml0 {pl : Sem Bool} (M : Ml X.prog X.w X.K X.mg X.base C m k ps sp) (c : Cls X.K C) (hr : Room k X.A) (he : PE X o ta)
  (ht : eval (.Call (.Attribute o m apos) [] [] pos) X.env = (do
   let ov ← eval o X.env
   standAt apos.atName
   let (f, first) ← holding [ov] (getMethod ov m pl)
   callWith pos f first (backTo pos (starEach [] X.env)) (backToKw pos (keywordEach [] X.env))) := by rfl) :
  PE X (.Call (.Attribute o m apos) [] [] pos) (tMeth C m sp [] E0 ta tNil) := by
 obtain ⟨f, fd, h1, h2, h3⟩ := M
 exact pe_meth0 he c h1 h3 hr h2 .nil pass0 ht
theorem pe_mk (M : Mc X.prog X.w X.K X.mg X.base x C k ps sp) (hr : Room (k + 1) X.A) (hg : Gl X x) (ha : PA X (e :: es) t) (hdb : (x == ("__debug__" : Str)) = false := by decide) (he : starEach (e :: es) X.env = (false, eval e X.env) :: starEach es X.env := by rfl)
  (hpl : (backTo pos (starEach es X.env)).any (·.1) = false := by rfl) : PE X (.Call (.Name x p) (e :: es) [] pos) (tMake C sp [] E0 t) := by
 obtain ⟨f, fd, h1, h2, h3, h4⟩ := M
 exact pe_make h1 h4 hr hg h2 h3 .nil pass0 ha hdb he hpl
end
theorem ixN_of {n : Nat} {i : Int} (h0 : 0 ≤ i) (h1 : i < n) : ixN n i = some i.toNat := by
 unfold ixN
 rw [if_pos h0, if_pos h1]
theorem atI_of {α : Type} {xs : List α} {i : Int} {v : α} (h0 : 0 ≤ i) (h : xs[i.toNat]? = some v) : atI xs i = some v := by
 obtain ⟨m, rfl⟩ := Int.eq_ofNat_of_zero_le h0
 exact atI_nat (by simpa using h)
theorem flat_ints (l : List Int) : (l.map V.int).all flatV = true := by
 rw [List.all_map]
 exact List.all_eq_true.mpr fun _ _ => rfl
theorem inV_int {e : Int} {l : List Int} : inV (.int e) (l.map V.int) = true ↔ e ∈ l := by
 unfold inV
 rw [List.any_map, List.any_eq_true]
 constructor
 ·rintro ⟨y, hy, h⟩
  have : (y == e) = true := h
  rw [← beq_iff_eq.mp this]
  exact hy
 ·exact fun h => ⟨e, h, beq_self_eq_true e⟩
end L2
namespace PySem.SeqAt
open PySem.AutoSeq1 (wpAny_loadPart')
open PySem.MeetsSeq
theorem rm_loop (l : Addr) (its : Array Value) (n : Nat) (x : Value) (e : Value → Bool) (j : Nat) (hj : j < its.size) (hit : e its[j] = true) (hz : its.size ≤ sizeLine) (k : Nat) :
  ∀ i : Nat, j - i = k → i ≤ j → (∀ m (hm : m < its.size), i ≤ m → m < j → e its[m] = false) → Meets (Builtin.«list.remove.loop» ⟨[.ref l, x, rawInt i], []⟩)
   (fun A R s => s.heap.get? l = some { cls := .type "list", dict := none, data := .seq its n, slots := #[] } ∧ (∀ y, y ∈ its → EqAt A.in1 s y x (e y)) ∧ R (.ok (.ret .none)) { s with heap := s.heap.update l (Obj.mapSeq fun xs => xs.eraseIdxIfInBounds j) }) := by
 induction k with
 | zero =>
  intro i hk hij hno prog w A R st hh
  obtain ⟨hp, g, d, tk, os⟩ := st
  obtain ⟨hl, he, h⟩ := hh
  have hij' : i = j := by omega
  subst hij'
  wp_walk using wpAny_loadPart' hl
  have hi : its[((i : Nat) : Int).toNat]? = some its[i] := by simp [hj]
  rw [hi]
  refine wpAny_bind (he _ (Array.getElem_mem hj) prog w _ _ ?_)
  rw [hit]
  have hz2 : (its.eraseIdxIfInBounds i).size ≤ sizeLine + 1 := Nat.le_trans (size_erased its _) (Nat.le_succ_of_le hz)
  wp_walk using (wpAny_updateSeq hl rfl (hz := hz) (_hz' := hz2)), wpAny_loadPart' hl
  simpa using h
 | succ k ih =>
  intro i hk hij hno prog w A R st hh
  obtain ⟨hp, g, d, tk, os⟩ := st
  obtain ⟨hl, he, h⟩ := hh
  have hlt : i < its.size := by omega
  wp_walk using wpAny_loadPart' hl
  have hi : its[((i : Nat) : Int).toNat]? = some its[i] := by simp [hlt]
  have hc : ((i : Int) + 1) = ((i + 1 : Nat) : Int) := by push_cast; rfl
  rw [hi]
  refine wpAny_bind (he _ (Array.getElem_mem hlt) prog w _ _ ?_)
  rw [hno i hlt (Nat.le_refl _) (by omega)]
  wp_walk
  rw [hc]
  refine ⟨plainId_quiet plain_remove_loop _, codeAny_builtin entry_remove_loop ?_⟩
  rw [Around.under_plainId plain_remove_loop _]
  exact ih (i + 1) (by omega) (by omega) (fun m hm h1 h2 => hno m hm (by omega) h2) prog w A R _ ⟨hl, he, h⟩
theorem rm_at (l : Addr) (its : Array Value) (n : Nat) (x : Value) (e : Value → Bool) (j : Nat) (hj : j < its.size) (hit : e its[j] = true) (hno : ∀ m (hm : m < its.size), m < j → e its[m] = false) (hz : its.size ≤ sizeLine) :
  Meets (Builtin.«list.remove» ⟨[.ref l, x], []⟩)
   (fun A R s => s.heap.get? l = some { cls := .type "list", dict := none, data := .seq its n, slots := #[] } ∧ (∀ y, y ∈ its → EqAt A.in1 s y x (e y)) ∧ R (.ok (.ret .none)) { s with heap := s.heap.update l (Obj.mapSeq fun xs => xs.eraseIdxIfInBounds j) }) := by
 intro prog w A R st hh
 obtain ⟨hp, g, d, tk, os⟩ := st
 obtain ⟨hl, he, h⟩ := hh
 wp_walk using wpAny_loadPart' hl
 refine ⟨plainId_quiet plain_remove_loop _, codeAny_builtin entry_remove_loop ?_⟩
 rw [Around.under_plainId plain_remove_loop _]
 exact rm_loop l its n x e j hj hit hz _ 0 rfl (Nat.zero_le _) (fun m hm _ h2 => hno m hm h2) prog w A R _ ⟨hl, he, h⟩
end PySem.SeqAt
namespace L2
open PySem PySem.Spec PyProof.Rows
section
variable {X : Cx}
theorem relV_fn {x y : V} {u : Value} (h1 : RelV x u) (h2 : RelV y u) : x = y := by
 cases x <;> cases y <;> simp only [RelV] at h1 h2
 all_goals first
  | rfl
  | (subst h1; simp at h2 <;> simp [h2])
  | (obtain ⟨t, rfl⟩ := h1; simp at h2 <;> simp [h2])
def rRemove {α : Type} [DecidableEq α] (R : Hp → V → α → Prop) : V → List V → Hp → VK → Prop := fun x vs H Q => ∃ l xs y ds d, x = .ref l ∧ vs = [y] ∧ H l = some (.lst xs) ∧ Paired (R H) xs ds ∧ R H y d ∧ d ∈ ds ∧ Q .non (upd H l (.lst (xs.eraseIdx (ds.idxOf d))))
theorem mt_remove {α : Type} [DecidableEq α] {R : Hp → V → α → Prop} {dd : Nat} (hR : RpE X.K R dd) (hu : X.A.units + (dd + 1) < cLine) : MtM X "list.remove" (rRemove R) := by
 intro pins s σ H x vs v us Q I rx rv h
 obtain ⟨l, xs, y, ds, d, rfl, rfl, hH, hD, hd, hm, q⟩ := h
 cases rx
 obtain ⟨u, rfl, ru⟩ := rv.one
 obtain ⟨z, its, n, r, hl, e⟩ := I.lstM hH
 have ld := hD.length
 have hj : ds.idxOf d < ds.length := List.idxOf_lt_length_iff.mpr hm
 classical
 let f : Value → Bool := fun u' => decide (∃ (m : Nat) (c : α), its[m]? = some u' ∧ ds[m]? = some c ∧ c = d)
 have fe : ∀ (m : Nat) (u' : Value) (c : α), its[m]? = some u' → ds[m]? = some c → f u' = decide (c = d) := fun m u' c h1 h2 => by
  by_cases hc : c = d
  ·rw [decide_eq_true hc]
   exact decide_eq_true ⟨m, c, h1, h2, hc⟩
  ·rw [decide_eq_false hc]
   refine decide_eq_false fun ⟨m', c', g1, g2, g3⟩ => hc ?_
   have im : m < xs.length := by have := (List.getElem?_eq_some_iff.mp h1).1; omega
   have im' : m' < xs.length := by have := (List.getElem?_eq_some_iff.mp g1).1; omega
   obtain ⟨w1, e1, r1⟩ := r.get (List.getElem?_eq_getElem im)
   obtain ⟨w2, e2, r2⟩ := r.get (List.getElem?_eq_getElem im')
   rw [h1] at e1
   rw [g1] at e2
   cases e1
   cases e2
   have ex := relV_fn r1 r2
   have a1 := Paired.get hD m _ _ (List.getElem?_eq_getElem im) h2
   have a2 := Paired.get hD m' _ _ (List.getElem?_eq_getElem im') g2
   rw [ex] at a1
   rw [← g3]
   exact hR.inj rfl I a1 a2
 have hit : f (its.toArray[ds.idxOf d]'(by rw [List.size_toArray]; omega)) = true := by
  have g : its[ds.idxOf d]? = some (its[ds.idxOf d]'(by omega)) := List.getElem?_eq_getElem _
  have := fe _ _ d g (List.getElem?_eq_some_iff.mpr ⟨hj, List.getElem_idxOf hj⟩)
  rw [decide_eq_true rfl] at this
  simpa using this
 have hno : ∀ m (hm : m < its.toArray.size), m < ds.idxOf d → f its.toArray[m] = false := fun m hm' hlt => by
  have im : m < its.length := by simpa using hm'
  have g : its[m]? = some (its[m]'im) := List.getElem?_eq_getElem _
  have g2 : ds[m]? = some (ds[m]'(by omega)) := List.getElem?_eq_getElem _
  have := fe _ _ _ g g2
  have nf := List.not_of_lt_findIdx (p := (· == d)) hlt
  rw [decide_eq_false (fun z => by rw [z] at nf; simp at nf)] at this
  simpa using this
 refine call_meets F.slot_list_remove ⟨_, e, rfl⟩ F.entry_list_remove (F.args_list_remove_2 _ _)
  (SeqAt.rm_at l its.toArray n u f (ds.idxOf d) (by rw [List.size_toArray]; omega) hit hno (by rw [List.size_toArray]; omega)) ⟨e, fun y' hy' => ?_, ?_⟩
 ·obtain ⟨m, hm1, hm2⟩ := Array.mem_iff_getElem.mp hy'
  have im : m < its.length := by simpa using hm1
  have g : its[m]? = some y' := by
   rw [List.getElem?_eq_getElem im]
   congr 1
  have g2 : ds[m]? = some (ds[m]'(by omega)) := List.getElem?_eq_getElem _
  have g1 : xs[m]? = some (xs[m]'(by omega)) := List.getElem?_eq_getElem _
  obtain ⟨w1, e1, r1⟩ := r.get g1
  rw [g] at e1
  cases e1
  rw [fe _ _ _ g g2]
  exact hR.eq (by rfl) I (by rw [in1_units]; omega) (Paired.get hD m _ _ g1 g2) hd r1 ru
 ·refine ⟨.non, _, I.lset (its' := its.eraseIdx (ds.idxOf d)) hH e ?_ (r.eraseIdx _) ?_, rfl, q⟩
  ·simp
  ·exact Nat.le_trans (len_erase _ _) z
theorem all_range (bs : List Bool) : (List.range bs.length).all (fun i => bs.getD i false) = bs.all id := by
 rw [Bool.eq_iff_iff, List.all_eq_true, List.all_eq_true]
 constructor
 ·intro h b hb
  obtain ⟨i, hi, rfl⟩ := List.mem_iff_getElem.mp hb
  have := h i (List.mem_range.mpr hi)
  rw [List.getD_eq_getElem?_getD, List.getElem?_eq_getElem hi] at this
  exact this
 ·intro h i hi
  have hi := List.mem_range.mp hi
  rw [List.getD_eq_getElem?_getD, List.getElem?_eq_getElem hi]
  exact h _ (List.getElem_mem hi)
theorem call_all (hc : X.calm = true) : CallR X (.builtin "all") (fun xs H Q => ∃ (p : Addr) (bs : List Bool), xs = [.ref p] ∧ SqL X.K H p (bs.map V.bl) ∧ Q (.bl (bs.all id)) H) := by
 intro pins s σ H xs us Q I r h
 obtain ⟨p, bs, rfl, hq, q⟩ := h
 obtain ⟨u, rfl, rx⟩ := r.one
 cases (show u = Value.ref p from rx)
 obtain ⟨its, rv, pl, hz⟩ := I.list hq
 have hl := rv.length
 rw [List.length_map] at hl
 refine call_all_walk (wpAny_pyIter_list pl.isList ?_)
 have hp : p ≠ s.heap.objs.size := fun e => by
  obtain ⟨o, n, e1, _⟩ := pl
  exact absurd (Heap.lt_size e1) (by rw [e]; exact Nat.lt_irrefl _)
 have old : ∀ b o, s.heap.get? b = some o → (s.heap.push { cls := .type "list_iterator", data := .fields #[.ref p, .int 0 0] }).get? b = some o := fun b o e => Heap.get?_push_of_some _ e
 refine ⟨s.heap.objs.size, [s.heap.objs.size, p], [s.heap.objs.size], its.toArray.size, _, _, fun i => bs.getD i false, rfl,
  Walks.list (A := X.A.in1) (I.ok.hd hc) s.heap.objs.size p hp its.toArray, ⟨⟨_, Heap.get?_push_size _ rfl, rfl, rfl⟩, pl.isList.at fun o e => old p o e⟩, ?_, fun h' tk hk => ?_⟩
 ·intro i v s2 Q2 E2 hv hq2
  have hv' : its[i]? = some v := by simpa using hv
  have hi : i < its.length := (List.getElem?_eq_some_iff.mp hv').1
  have g : (bs.map V.bl)[i]? = some (V.bl (bs.getD i false)) := by
   have hb : i < bs.length := by omega
   rw [List.getElem?_map, List.getD_eq_getElem?_getD, List.getElem?_eq_getElem hb]
   rfl
  obtain ⟨u, gu, ru⟩ := rv.get g
  rw [hv'] at gu
  cases gu
  cases (show v = Value.bool _ from ru)
  exact wpAny_truthy_bool hq2
 ·have en : (List.range its.toArray.size).all (fun i => bs.getD i false) = bs.all id := by
   rw [List.size_toArray, ← hl]
   exact all_range bs
  rw [en]
  refine ⟨.bl _, H, I.kept (h' := h') (t' := tk) (fun b o e => hk b o (fun z => ?_) (old b o e)), rfl, q⟩
  have z' : b = s.heap.objs.size := by simpa using z
  exact absurd (Heap.lt_size e) (by rw [z']; exact Nat.lt_irrefl _)
structure IsC (K : PySem.W.Frag) (C : Addr) : Prop where
 cl : Cls K C
 ha : PySem.W.findIn K (.ref C) "__class__" = some (some (.builtin "object.__class__"))
 hn : PySem.W.specialIn K (.builtin "object.__class__") "__get__" = some (some (.builtin "getset_descriptor.__get__"))
 htk : PySem.W.takesIn K (.builtin "object.__class__") = some true
 hm : PySem.W.mroIn K C (.type "object") = some true
theorem call_isC : CallR X (.builtin "isinstance") (fun xs H Q => ∃ a C dx fs, xs = [.ref a, .ref C] ∧ H a = some (.ins C dx fs) ∧ IsC X.K C ∧ Q (.bl true) H) := by
 intro pins s σ H xs us Q I r h
 obtain ⟨a, C, dx, fs, rfl, hH, ic, q⟩ := h
 obtain ⟨u, v, rfl, ru, rv⟩ := r.two
 cases (show v = Value.ref C from rv)
 exact isinst_ok I ru (TyOf.ins hH ic.cl ic.ha ic.hn ic.htk ic.hm) (by unfold PySem.W.kitOne; rw [if_pos (by simp)]) fun tk => ⟨.bl true, H, I.tok tk, rfl, q⟩
structure MkP (K : PySem.W.Frag) (C : Addr) : Prop where
 makes : PySem.W.makesIn K C = true
 init : PySem.W.findIn K (.ref C) "__init__" = some (some (.builtin "object.__init__"))
 kp : PySem.W.keepIn K (.ref C) = true
def tMakeP (C : Addr) : TE := fun _ H Q => ∀ x dx, H x = none → H dx = none → dx ≠ x → Q (.ref x) (upd (upd H dx (.own x)) x (.ins C dx []))
theorem pe_mkP {x : Str} {C : Addr} {p pos : Pos} (M : MkP X.K C) (hg : Gl X x) (hm : X.mg x = some (.ref C)) (hdb : (x == ("__debug__" : Str)) = false := by decide) : PE X (.Call (.Name x p) [] [] pos) (tMakeP C) := by
 intro pins s σ H Q I h
 refine wpAny_Call_Name_kw (ld_glob I hg hm ?_ hdb)
 refine PySem.W.callWith_K0 I.kIn M.kp ?_
 have hq := h (s.heap.objs.size + 1) s.heap.objs.size (I.hok.fresh (Nat.le_succ _)) (I.hok.fresh (Nat.le_refl _)) (Nat.ne_of_lt (Nat.lt_succ_self _))
 have I2 := Inv.made (C := C) I
 refine wpAny_call (make_map0 I.kIn M.makes M.init (fun self => PySem.W.Looks.of_pure (PySem.W.oi_bind self)) ?_)
 have Y := PySem.W.makes_of (M := model X.prog X.w) I.kIn M.makes
 have e2 : ((s.heap.push PySem.W.emptyDict).push (PySem.W.instObj C s.heap.objs.size)).get? (s.heap.objs.size + 1) = some (PySem.W.instObj C s.heap.objs.size) := by
  have := Heap.get?_push_size (s.heap.push PySem.W.emptyDict) (o := PySem.W.instObj C s.heap.objs.size) rfl
  rwa [Heap.size_push] at this
 have t1 : PySem.W.Looks (model X.prog X.w) ((s.heap.push PySem.W.emptyDict).push (PySem.W.instObj C s.heap.objs.size)) (typeOf (.ref (s.heap.objs.size + 1))) (.ref C) := (PySem.W.Looks.ld e2).andThen .now
 have t2 : PySem.W.Looks (model X.prog X.w) ((s.heap.push PySem.W.emptyDict).push (PySem.W.instObj C s.heap.objs.size)) (isInstance (.ref (s.heap.objs.size + 1)) (.type "object")) true := t1.andThen (Y.top.keeps fun b o e => Heap.get?_push_of_some _ (Heap.get?_push_of_some _ e))
 refine codeAny_call_builtin PySem.W.oi_plain PySem.W.entry_oi (PySem.W.check_slot (rest := []) (kw := []) PySem.W.oi_kind PySem.W.oi_split t2 (PySem.W.oi_args (.ref (s.heap.objs.size + 1))) ?_)
 rw [PySem.W.oi_run]
 exact wpAny_pure ⟨rfl, ⟨.ref (s.heap.objs.size + 1), _, I2, rfl, hq⟩⟩
end
end L2
namespace L2
open PySem PySem.Spec PyProof.Rows
section
variable {X : Cx}
end
end L2
namespace Stb
open PySem PyProof.Rows
section
variable {prog : Program} {w : World} {A : Around} {E : Value → Shared → Prop} {s : Shared} {b0 : Array Keyed}
end
end Stb
namespace L2
open PySem PySem.Spec PyProof.Rows
section
variable {X : Cx}
end
section
variable {X : Cx} {x : Str} {k : Nat} {e : Expr} {es : List Expr} {p pos : Pos} {t : TA} {tf : TE}
end
end L2
namespace L2
open PySem PySem.Spec PyProof.Rows
end L2
namespace L2
open PySem PySem.Spec PyProof.Rows
end L2
namespace L2
open PySem PySem.Spec PyProof.Rows
section
variable {X : Cx}
theorem paired_of {α β : Type} {R : α → β → Prop} : ∀ {xs : List α} {ys : List β}, xs.length = ys.length → (∀ (i : Nat) (x : α) (y : β), xs[i]? = some x → ys[i]? = some y → R x y) → Paired R xs ys
 | [], [], _, _ => .nil
 | x :: xs, y :: ys, hl, h => .cons (h 0 x y rfl rfl) (paired_of (Nat.succ.inj hl) fun i a b e1 e2 => h (i + 1) a b (by simpa using e1) (by simpa using e2))
end
end L2
namespace L2
open PySem PySem.Spec PyProof.Rows
section
variable {X : Cx} {pins : List (Addr × Obj)} {σ : St} {H H' : Hp} {s s' : Shared} {T : Hp → Prop} {a kS f : Addr} {e e1 n : Nat} {kz : List Int} {ks acc : Array Value} {B : Around} {E : Value → Shared → Prop} {Pq : PySem.Fin → Shared → Prop}
end
end L2
namespace L2
open PySem PySem.Spec PyProof.Rows
section
variable {X : Cx} {pins : List (Addr × Obj)} {σ : St} {H H' : Hp} {s s' : Shared} {T : Hp → Prop} {a kS f : Addr} {n : Nat} {kz : List Int}
end
end L2
namespace L2
open PySem PySem.Spec PyProof.Rows
section
variable {X : Cx}
end
end L2
namespace L2
open PySem PySem.Spec PyProof.Rows
section
variable {P : Addr} {pos : Pos} {qual : Str} {H H' H2 : Hp} {K : PySem.W.Frag}
end
end L2
namespace L2
open PySem PySem.Spec PyProof.Rows
theorem rev_range (n : Nat) (h : n ≤ 8) : sliceRange (sliceBounds none none (some (-1)) n).1 (sliceBounds none none (some (-1)) n).2.1 (sliceBounds none none (some (-1)) n).2.2 = (List.range n).reverse := by
 have all : ∀ m : Fin 9, sliceRange (sliceBounds none none (some (-1)) m.1).1 (sliceBounds none none (some (-1)) m.1).2.1 (sliceBounds none none (some (-1)) m.1).2.2 = (List.range m.1).reverse := by decide +kernel
 exact all ⟨n, by omega⟩
theorem pick_all {α : Type} (xs : List α) : (List.range xs.length).filterMap (xs.toArray[·]?) = xs := by
 have e : (fun i : Nat => xs.toArray[i]?) = fun i => xs[i]? := by
  funext i
  simp
 rw [e]
 refine List.ext_getElem? fun i => ?_
 induction xs generalizing i with
 | nil => rfl
 | cons x xs ih =>
  rw [List.length_cons, List.range_succ_eq_map, List.filterMap_cons]
  show (x :: List.filterMap (fun i => (x :: xs)[i]?) (List.map Nat.succ (List.range xs.length)))[i]? = _
  rw [List.filterMap_map]
  cases i with
  | zero => rfl
  | succ i =>
   show (List.filterMap (fun i => xs[i]?) (List.range xs.length))[i]? = xs[i]?
   exact ih (by funext i; simp) i
theorem pick_rev {xs : List Value} (h : xs.length ≤ 8) : slicePick xs.toArray none none (some (-1)) = xs.reverse.toArray := by
 unfold slicePick
 rw [List.size_toArray, rev_range _ h, List.filterMap_reverse, pick_all]
section
variable {X : Cx}
def tRev (K : PySem.W.Frag) (te : TE) : TE := fun σ H Q => te σ H fun x H1 => ∃ a ys, x = .ref a ∧ SqL K H1 a ys ∧ ys.length ≤ 8 ∧ ∀ p, H1 p = none → Q (.ref p) (upd H1 p (.lst ys.reverse))
theorem paired_rev {α β : Type} {R : α → β → Prop} {xs : List α} {ys : List β} (h : Paired R xs ys) : Paired R xs.reverse ys.reverse := by
 induction h with
 | nil => exact .nil
 | cons r t ih =>
  rw [List.reverse_cons, List.reverse_cons]
  exact Paired.app ih (.cons r .nil)
theorem pe_rev {e : Expr} {te : TE} {pos p2 p3 p4 : Pos} (he : PE X e te) : PE X (.Subscript e (.Slice none none (some (.UnaryOp .USub (.Constant (.int 1) 0 p3) p4)) p2) pos) (tRev X.K te) := by
 intro pins s σ H Q I h
 refine Subscript_ (thn (he pins s σ H _ I h) fun v s1 ⟨x, H1, I1, r1, q1⟩ => ?_)
 obtain ⟨a, ys, rfl, hx, l8, q⟩ := q1
 cases r1
 refine wpAny_Slice ?_
 rw [evalPart_none]
 refine wpAny_pure ?_
 refine wpAny_pure ?_
 rw [evalPart_some]
 have pn : PE X (.UnaryOp .USub (.Constant (.int 1) 0 p3) p4) (tUn (rU fun i => .int (-i)) (tC (.int 1))) := pe_un un_neg pe_int
 refine thn (pn pins s1 σ H1 (fun v' H' => v' = .int (-1) ∧ H' = H1) I1 ⟨1, rfl, rfl, rfl⟩) fun u s2 ⟨v', H2, I2, r2, e1, e2⟩ => ?_
 subst e1 e2
 obtain ⟨t, rfl⟩ := r2
 have I4 : Inv X pins σ H2 { s2 with heap := s2.heap.push { cls := .type "slice", data := .fields #[.none, .none, .int (-1) t] } } := I2.kept (t' := s2.toks) fun b ob q => Heap.get?_push_of_some _ q
 obtain ⟨its, r, ht, hz⟩ := I4.list hx
 have lr := r.length
 show wpAny (model X.prog X.w) X.A (subscriptTail e (.Slice none none (some (.UnaryOp .USub (.Constant (.int 1) 0 p3) p4)) p2) (.ref a) (.ref s2.heap.objs.size)) (EP X pins σ Q) X.xe { s2 with heap := s2.heap.push { cls := .type "slice", data := .fields #[.none, .none, .int (-1) t] } }
 refine tail_any (ops := [.ref a, .ref s2.heap.objs.size]) ht.isList.typeIs slot_list_getitem.lookup ?_ (by with_unfolding_all rfl)
 refine wpAny_getItem_list_slice ht.isList (Heap.IsSliceOf.new ..) .none .none (.int (-1) t) (by simp) ?_ (by rw [List.size_toArray]; exact Nat.le_trans (by omega : its.length ≤ 8) (by decide))
 rw [pick_rev (by omega)]
 refine ⟨.ref _, _, I4.laid (t' := s2.toks) (o := .lst ys.reverse) (fun b ob q => Heap.get?_push_of_some _ q) (Nat.le_refl _) ?_, rfl, q _ (I4.hok.fresh (Nat.le_refl _))⟩
 exact ⟨by rw [List.length_reverse]; exact Nat.le_trans l8 (by decide), its.reverse, 0, paired_rev r, Heap.get?_push_size _ rfl⟩
end
end L2
namespace FK
def mk (S : Steps) (a y : Rat) : Rat := (rch (wl S) (F S a + y)).getD 0
end FK
namespace FK
theorem Ch.snoc : ∀ {a b c : Rat} {C : List (Rat × Rat)}, Ch a C b → b < c → Ch a (C ++ [(b, c)]) c
 | a, b, c, [], h, lt => by
  have e : a = b := h
  exact ⟨e.symm, lt, rfl⟩
 | a, b, c, p :: C, h, lt => ⟨h.1, h.2.1, Ch.snoc h.2.2 lt⟩
end FK
namespace FK
end FK
namespace FK
theorem part_lt {x f : Rat} (x0 : 0 < x) (f0 : 0 < f) (f1 : f < 1) : 0 < x * f ∧ x * f < x := by
 have a := mul_smono x0 f0
 have b := mul_smono x0 f1
 have z : x * 0 = 0 := by grind
 have o : x * 1 = x := by grind
 rw [z] at a
 rw [o] at b
 exact ⟨a, b⟩
end FK
namespace FK
end FK
namespace FK
def Con {α : Type} (R : α → α → Prop) : α → List α → Prop
 | _, [] => True
 | p, q :: L => R p q ∧ Con R q L
theorem Con.map {α β : Type} {R : α → α → Prop} {R' : β → β → Prop} {f : α → β} (h : ∀ p q, R p q → R' (f p) (f q)) : ∀ {p : α} {L : List α}, Con R p L → Con R' (f p) (L.map f)
 | _, [], _ => trivial
 | _, _ :: _, c => ⟨h _ _ c.1, Con.map h c.2⟩
theorem Con.imp {α : Type} {R R' : α → α → Prop} (h : ∀ p q, R p q → R' p q) : ∀ {p : α} {L : List α}, Con R p L → Con R' p L
 | _, [], _ => trivial
 | _, _ :: _, c => ⟨h _ _ c.1, Con.imp h c.2⟩
theorem Con.app {α : Type} {R : α → α → Prop} : ∀ {p q : α} {L M : List α}, Con R p (L ++ [q]) → Con R q M → Con R p (L ++ q :: M)
 | _, _, [], _, c, d => ⟨c.1, d⟩
 | _, _, _ :: _, _, c, d => ⟨c.1, Con.app c.2 d⟩
def Af (N : Nat) (e : Rat → Rat) (E : List (Rat → Rat)) (BQ Ba : Nat) (x1 x2 : Rat) : Prop := ∃ (Q a : Nat) (b : Int), 0 < Q ∧ Q ≤ BQ ∧ a ≤ Ba ∧ (∀ x, x1 ≤ x → x ≤ x2 → e x * ((N : Rat) * (Q : Rat)) = (a : Rat) * x + (b : Rat)) ∧ ∀ g ∈ E, ∃ k m : Int, ∀ x, x1 ≤ x → x ≤ x2 → g x * (Q : Rat) = (k : Rat) * x + (m : Rat)
def GX (B : Nat) (x : Rat) : Prop := ∃ G : Nat, 0 < G ∧ G ≤ B ∧ Gr G x
theorem GX.mono {B C : Nat} {x : Rat} (h : GX B x) (l : B ≤ C) : GX C x := by
 obtain ⟨G, a, b, c⟩ := h
 exact ⟨G, a, Nat.le_trans b l, c⟩
structure Sg (N : Nat) (e : Rat → Rat) (E : List (Rat → Rat)) (BQ Ba BX : Nat) (p q : Rat × Rat) : Prop where
 lt : p.1 < q.1
 le : p.2 ≤ q.2
 af : Af N e E BQ Ba p.1 q.1
 p2 : p.2 = e p.1
 q2 : q.2 = e q.1
 gp : GX BX p.1
 gq : GX BX q.1
def NoIn (U : List Rat) (p q : Rat × Rat) : Prop := ∀ u ∈ U, ¬ (p.2 < u ∧ u < q.2)
theorem crs_at {N : Nat} {e : Rat → Rat} {E : List (Rat → Rat)} {BQ Ba BX g : Nat} {p q : Rat × Rat} {u : Rat} (n0 : 0 < N) (s : Sg N e E BQ Ba BX p q) (l1 : p.2 < u) (l2 : u < q.2) (gu : Gr (N * g) u) (g0 : 0 < g) :
  p.1 < crs p q u ∧ crs p q u < q.1 ∧ e (crs p q u) = u ∧ GX (Ba * g) (crs p q u) := by
 obtain ⟨Q, a, b, q0, q1, a1, af, _⟩ := s.af
 have lt := s.lt
 have ap := af p.1 Rat.le_refl (Rat.le_of_lt lt)
 have aq := af q.1 (Rat.le_of_lt lt) Rat.le_refl
 rw [← s.p2] at ap
 rw [← s.q2] at aq
 have nq : (0 : Rat) < (N : Rat) * (Q : Rat) := Rat.mul_pos (nat_pos n0) (nat_pos q0)
 have e1 : crs p q u = p.1 + (q.1 - p.1) * ((u - p.2) / (q.2 - p.2)) := by
  unfold crs apt
  rw [if_neg (by grind), if_pos l1, if_pos (by grind)]
 have d0 : 0 < q.2 - p.2 := by grind
 have r0 : 0 < (u - p.2) / (q.2 - p.2) := by
  have := (Rat.lt_div_iff (a := 0) (b := u - p.2) (c := q.2 - p.2) d0).mpr (by grind)
  exact this
 have r1 : (u - p.2) / (q.2 - p.2) < 1 := (Rat.div_lt_iff d0).mpr (by grind)
 obtain ⟨m0, m1⟩ := part_lt (show 0 < q.1 - p.1 by grind) r0 r1
 have x1 : p.1 < crs p q u := by rw [e1]; grind
 have x2 : crs p q u < q.1 := by rw [e1]; grind
 have ax := af _ (Rat.le_of_lt x1) (Rat.le_of_lt x2)
 have ea : (a : Rat) * (q.1 - p.1) = (q.2 - p.2) * ((N : Rat) * (Q : Rat)) := by grind
 have key : (a : Rat) * crs p q u + (b : Rat) = u * ((N : Rat) * (Q : Rat)) := by
  rw [e1]
  have : (a : Rat) * ((q.1 - p.1) * ((u - p.2) / (q.2 - p.2))) = (u - p.2) * ((N : Rat) * (Q : Rat)) := by
   have e2 : (a : Rat) * ((q.1 - p.1) * ((u - p.2) / (q.2 - p.2))) = ((a : Rat) * (q.1 - p.1)) * ((u - p.2) / (q.2 - p.2)) := by grind
   rw [e2, ea]
   grind
  grind
 have apos : 0 < a := by
  rcases Nat.eq_zero_or_pos a with z | z
  ·exfalso
   rw [z] at ea
   have : (0 : Rat) < (q.2 - p.2) * ((N : Rat) * (Q : Rat)) := Rat.mul_pos d0 nq
   have z0 : ((0 : Nat) : Rat) = 0 := rfl
   rw [z0] at ea
   grind
  ·exact z
 refine ⟨x1, x2, ?_, a * g, Nat.mul_pos apos g0, Nat.mul_le_mul_right _ a1, ?_⟩
 ·have : e (crs p q u) * ((N : Rat) * (Q : Rat)) = u * ((N : Rat) * (Q : Rat)) := by rw [ax, key]
  have n := Rat.ne_of_gt nq
  grind
 ·obtain ⟨m, hm⟩ := gu
  refine ⟨m * Q - b * g, ?_⟩
  rw [Rat.intCast_sub, Rat.intCast_mul, Rat.intCast_mul, ← hm, Rat.intCast_natCast, Rat.intCast_natCast, Rat.natCast_mul, Rat.natCast_mul]
  grind
def mid (U : List Rat) (p q : Rat × Rat) : List (Rat × Rat) := (U.filter fun u => decide (p.2 < u) && decide (u < q.2)).map fun u => (crs p q u, u)
theorem mid_cons_in {U : List Rat} {p q : Rat × Rat} {u : Rat} (h1 : p.2 < u) (h2 : u < q.2) : mid (u :: U) p q = (crs p q u, u) :: mid U p q := by
 unfold mid
 rw [List.filter_cons_of_pos (by simp [h1, h2])]
 rfl
theorem mid_cons_out {U : List Rat} {p q : Rat × Rat} {u : Rat} (h : ¬ (p.2 < u ∧ u < q.2)) : mid (u :: U) p q = mid U p q := by
 unfold mid
 rw [List.filter_cons_of_neg (by simpa using h)]
theorem seg_con {N : Nat} {e : Rat → Rat} {E : List (Rat → Rat)} {BQ Ba BX BY g : Nat} {p q : Rat × Rat} (n0 : 0 < N) (g0 : 0 < g) (s : Sg N e E BQ Ba BX p q) (mono : ∀ x y, p.1 ≤ x → x ≤ y → y ≤ q.1 → e x ≤ e y) (b1 : BX ≤ BY) (b2 : Ba * g ≤ BY) :
  ∀ (V U0 : List Rat) (c : Rat × Rat), V.Pairwise (· < ·) → (∀ v ∈ V, Gr (N * g) v) → p.1 ≤ c.1 → c.1 < q.1 → c.2 = e c.1 → GX BY c.1 → (∀ u ∈ U0, u ≤ c.2 ∨ q.2 ≤ u) → (c.2 = p.2 ∨ ∀ v ∈ V, c.2 < v) →
   Con (fun a b => Sg N e E BQ Ba BY a b ∧ NoIn (U0 ++ V) a b) c (mid V p q ++ [q]) := by
 have lt := s.lt
 have sub : ∀ {x y : Rat}, p.1 ≤ x → y ≤ q.1 → Af N e E BQ Ba x y := fun {x y} h1 h2 => by
  obtain ⟨Q, a, b, q0, q1, a1, af, hs⟩ := s.af
  refine ⟨Q, a, b, q0, q1, a1, fun z z1 z2 => af z (by grind) (by grind), fun g hg => ?_⟩
  obtain ⟨k, m, h⟩ := hs g hg
  exact ⟨k, m, fun z z1 z2 => h z (by grind) (by grind)⟩
 intro V
 induction V with
 | nil =>
  intro U0 c _ _ c1 c2 ce cg u0 _
  have le := mono c.1 q.1 c1 (Rat.le_of_lt c2) Rat.le_refl
  rw [← ce, ← s.q2] at le
  refine ⟨⟨⟨c2, le, sub c1 Rat.le_refl, ce, s.q2, cg, s.gq.mono b1⟩, fun u hu z => ?_⟩, trivial⟩
  rw [List.append_nil] at hu
  rcases u0 u hu with y | y
  ·grind
  ·grind
 | cons v V ih =>
  intro U0 c pw gv c1 c2 ce cg u0 fr
  obtain ⟨pv, pw'⟩ := List.pairwise_cons.mp pw
  have pc : p.2 ≤ c.2 := by
   have := mono p.1 c.1 Rat.le_refl c1 (Rat.le_of_lt c2)
   rw [← s.p2, ← ce] at this
   exact this
  have eU : U0 ++ v :: V = (U0 ++ [v]) ++ V := by rw [List.append_assoc]; rfl
  by_cases h : p.2 < v ∧ v < q.2
  ·have cv : c.2 < v := by
    rcases fr with z | z
    ·rw [z]
     exact h.1
    ·exact z v (List.mem_cons_self ..)
   obtain ⟨x1, x2, x3, x4⟩ := crs_at n0 s h.1 h.2 (gv v (List.mem_cons_self ..)) g0
   have cx : c.1 < crs p q v := by
    by_cases z : c.1 < crs p q v
    ·exact z
    ·exfalso
     have := mono (crs p q v) c.1 (Rat.le_of_lt x1) (by grind) (Rat.le_of_lt c2)
     rw [x3, ← ce] at this
     grind
   rw [mid_cons_in h.1 h.2, List.cons_append]
   refine ⟨⟨⟨cx, Rat.le_of_lt cv, sub c1 (Rat.le_of_lt x2), ce, x3.symm, cg, x4.mono b2⟩, fun u hu z => ?_⟩, ?_⟩
   ·rcases List.mem_append.mp hu with y | y
    ·rcases u0 u y with y | y
     ·grind
     ·have : v < q.2 := h.2
      have : u < v := z.2
      grind
    ·rcases List.mem_cons.mp y with y | y
     ·rw [y] at z
      exact absurd z.2 (by show ¬ v < v; grind)
     ·have := pv u y
      have : u < v := z.2
      grind
   ·rw [eU]
    refine ih (U0 ++ [v]) (crs p q v, v) pw' (fun w hw => gv w (List.mem_cons_of_mem _ hw)) (Rat.le_of_lt x1) x2 x3.symm (x4.mono b2) (fun u hu => ?_) (.inr fun w hw => pv w hw)
    rcases List.mem_append.mp hu with y | y
    ·rcases u0 u y with y | y
     ·exact .inl (by show u ≤ v; grind)
     ·exact .inr y
    ·exact .inl (by rw [List.mem_singleton.mp y]; exact Rat.le_refl)
  ·rw [mid_cons_out h, eU]
   refine ih (U0 ++ [v]) c pw' (fun w hw => gv w (List.mem_cons_of_mem _ hw)) c1 c2 ce cg (fun u hu => ?_) ?_
   ·rcases List.mem_append.mp hu with y | y
    ·exact u0 u y
    ·rw [List.mem_singleton.mp y]
     grind
   ·rcases fr with z | z
    ·exact .inl z
    ·exact .inr fun w hw => z w (List.mem_cons_of_mem _ hw)
def ptF (U : List Rat) : Rat × Rat → List (Rat × Rat) → List (Rat × Rat)
 | _, [] => []
 | p, q :: L => mid U p q ++ q :: ptF U q L
theorem pt_con {N : Nat} {e : Rat → Rat} {E : List (Rat → Rat)} {BQ Ba BX BY g : Nat} {U : List Rat} {X : Rat} (n0 : 0 < N) (g0 : 0 < g) (pw : U.Pairwise (· < ·)) (gU : ∀ v ∈ U, Gr (N * g) v) (mono : ∀ x y, 0 ≤ x → x ≤ y → y ≤ X → e x ≤ e y) (b1 : BX ≤ BY) (b2 : Ba * g ≤ BY) :
  ∀ {p : Rat × Rat} {L : List (Rat × Rat)}, 0 ≤ p.1 → (∀ q ∈ L, q.1 ≤ X) → Con (Sg N e E BQ Ba BX) p L → Con (fun a b => Sg N e E BQ Ba BY a b ∧ NoIn U a b) p (ptF U p L)
 | p, [], _, _, _ => trivial
 | p, q :: L, p0, qX, c => by
  obtain ⟨s, c'⟩ := c
  have lt := s.lt
  have qx := qX q (List.mem_cons_self ..)
  have := seg_con n0 g0 s (fun x y h1 h2 h3 => mono x y (by grind) h2 (by grind)) b1 b2 U [] p pw gU Rat.le_refl lt s.p2 (s.gp.mono b1) (fun _ z => nomatch z) (.inl rfl)
  rw [List.nil_append] at this
  exact Con.app this (pt_con n0 g0 pw gU mono b1 b2 (by grind) (fun r hr => qX r (List.mem_cons_of_mem _ hr)) c')
theorem ptF_len (U : List Rat) : ∀ {p : Rat × Rat} {L : List (Rat × Rat)}, Con (fun a b => a.2 ≤ b.2) p L → (ptF U p L).length ≤ L.length + (U.filter fun u => decide (p.2 < u)).length
 | p, [], _ => Nat.zero_le _
 | p, q :: L, c => by
  have ih := ptF_len U c.2
  have aux : ∀ V : List Rat, (V.filter fun u => decide (p.2 < u) && decide (u < q.2)).length + (V.filter fun u => decide (q.2 < u)).length ≤ (V.filter fun u => decide (p.2 < u)).length := by
   intro V
   induction V with
   | nil => exact Nat.le_refl _
   | cons v V ih =>
    have le := c.1
    simp only [List.filter_cons]
    by_cases h1 : p.2 < v <;> by_cases h2 : v < q.2 <;> by_cases h3 : q.2 < v
    ·grind
    ·simp [h1, h2, h3]; omega
    ·simp [h1, h2, h3]; omega
    ·simp [h1, h2, h3]; omega
    ·grind
    ·simp [h1, h2, h3]; omega
    ·grind
    ·simp [h1, h2, h3]; omega
  have a := aux U
  show (mid U p q ++ q :: ptF U q L).length ≤ (L.length + 1) + _
  unfold mid
  rw [List.length_append, List.length_map, List.length_cons]
  omega
end FK
namespace FK
theorem A_af : ∀ {b : Rat} {S : Steps} {y1 y2 : Rat} {p : Nat}, Rise b S → Gr p b → (∀ z ∈ S, Gr p z.1) → (∀ z ∈ S, z.2 ≤ 1000) → y1 ≤ y2 → (∀ z ∈ S, ¬ (y1 < z.1 ∧ z.1 < y2)) → (b ≤ y1 ∨ y2 ≤ b) →
  ∃ (w : Nat) (c : Rat), w ≤ 1000 ∧ Gr p c ∧ ∀ y, y1 ≤ y → y ≤ y2 → A b S y = (w : Rat) * y + c
 | b, [], y1, y2, p, _, gb, _, _, _, _, _ => ⟨0, 0, by decide, Gr.zero p, fun y _ _ => by
   show (0 : Rat) = ((0 : Nat) : Rat) * y + 0
   rw [show ((0 : Nat) : Rat) = 0 from rfl]
   grind⟩
 | b, (e, w) :: S, y1, y2, p, r, gb, gS, wS, le, no, h => by
  obtain ⟨be, w0, r'⟩ := r
  have ge := gS (e, w) List.mem_cons_self
  by_cases c1 : y2 ≤ b
  ·refine ⟨0, 0, by decide, Gr.zero p, fun y h1 h2 => ?_⟩
   rw [A_low (show Rise b ((e, w) :: S) from ⟨be, w0, r'⟩) (by grind), show ((0 : Nat) : Rat) = 0 from rfl]
   grind
  ·have by1 : b ≤ y1 := by grind
   have ne := no (e, w) List.mem_cons_self
   by_cases c2 : e ≤ y1
   ·obtain ⟨w', c, w1, gc, af⟩ := A_af (y1 := y1) (y2 := y2) r' ge (fun z hz => gS z (List.mem_cons_of_mem _ hz)) (fun z hz => wS z (List.mem_cons_of_mem _ hz)) le (fun z hz => no z (List.mem_cons_of_mem _ hz)) (.inl c2)
    refine ⟨w', c + (w : Rat) * (e - b), w1, Gr.add gc (Gr.imul (Gr.sub ge gb) w), fun y h1 h2 => ?_⟩
    show (w : Rat) * (max b (min e y) - b) + A e S y = _
    rw [af y h1 h2, show max b (min e y) = e by grind]
    grind
   ·have ey : y2 ≤ e := by
     have : ¬ (y1 < e ∧ e < y2) := ne
     grind
    have w1 := wS (e, w) List.mem_cons_self
    have w1' : w ≤ 1000 := w1
    refine ⟨w.toNat, -((w : Rat) * b), by omega, ?_, fun y h1 h2 => ?_⟩
    ·have := Gr.sub (Gr.zero p) (Gr.imul gb w)
     have e0 : (0 : Rat) - (w : Rat) * b = -((w : Rat) * b) := by grind
     rw [e0] at this
     exact this
    ·show (w : Rat) * (max b (min e y) - b) + A e S y = _
     have ew : ((w.toNat : Nat) : Rat) = (w : Rat) := by
      rw [← Rat.intCast_natCast, Int.toNat_of_nonneg (by omega)]
     rw [A_low r' (by grind), show max b (min e y) = y by grind, ew]
     grind
def ends (S : Steps) : List Rat := (wl S).map (·.1)
def lvls (S : Steps) : List Rat := (wl S).map (·.2)
theorem ends_mem {p : Nat} {S : Steps} (ok : TsOk p S) {z : Rat × Int} (hz : z ∈ S) : z.1 ∈ ends S := by
 obtain ⟨i, hi⟩ := List.mem_iff_getElem?.mp hz
 have il := (List.getElem?_eq_some_iff.mp hi).1
 have g := hl_get (b := 0) (h := 0) (S := S) (i := i + 1) ok.rise (by omega)
 have e : endOf 0 (S.take (i + 1)) = z.1 := by
  rw [take_snoc hi]
  exact end_snoc 0 _ _ _
 rw [e] at g
 unfold ends wl
 rw [List.map_map]
 exact List.mem_map.mpr ⟨_, List.mem_of_getElem? g, rfl⟩
theorem F_af {p : Nat} {S : Steps} (ok : TsOk p S) {y1 y2 : Rat} (y0 : 0 ≤ y1) (le : y1 ≤ y2) (no : ∀ u ∈ ends S, ¬ (y1 < u ∧ u < y2)) :
  ∃ (w N : Nat) (c : Int), w ≤ 1000 ∧ 0 < N ∧ N ≤ 1000 * p ∧ tot S * (p : Rat) = (N : Rat) ∧ ∀ y, y1 ≤ y → y ≤ y2 → F S y * (N : Rat) = ((w * p : Nat) : Rat) * y + (c : Rat) := by
 obtain ⟨w, c, w1, ⟨m, hm⟩, af⟩ := A_af (b := 0) (S := S) (y1 := y1) (y2 := y2) ok.rise (Gr.zero p) ok.gr ok.w le (fun z hz => no z.1 (ends_mem ok hz)) (.inl y0)
 obtain ⟨N, n0, n1, hN⟩ := ok.num
 refine ⟨w, N, m, w1, n0, n1, hN, fun y h1 h2 => ?_⟩
 have t := ok.tp
 have a := af y h1 h2
 rw [← hN, Rat.natCast_mul]
 unfold F
 rw [a]
 have tn : tot S ≠ 0 := by grind
 have e : ((w : Rat) * y + c) / tot S * (tot S * (p : Rat)) = ((w : Rat) * y + c) * (p : Rat) := by grind
 rw [e, ← hm]
 grind
end FK
namespace FK
def sf (S : Steps) (e : Rat → Rat) (x : Rat) : Rat := F S (e x) + x
def nxt (S : Steps) (e : Rat → Rat) (x : Rat) : Rat := mk S (e x) x
structure Dm (e : Rat → Rat) (X : Rat) : Prop where
 pos : 0 < X
 le1 : X ≤ 1
 zero : e 0 = 0
 win : ∀ x, 0 ≤ x → x ≤ X → 0 ≤ e x ∧ e x ≤ 1
 mono : ∀ x y, 0 ≤ x → x ≤ y → y ≤ X → e x ≤ e y
theorem num_uniq {N M : Nat} (h : (N : Rat) = (M : Rat)) : N = M := Rat.natCast_inj.mp h
theorem sf_sg {p : Nat} {S : Steps} (ok : TsOk p S) {N : Nat} (hN : tot S * (p : Rat) = (N : Rat)) {e : Rat → Rat} {X : Rat} (dm : Dm e X) {E : List (Rat → Rat)} {BQ Ba BX : Nat} {a b : Rat × Rat} (s : Sg 1 e E BQ Ba BX a b) (no : NoIn (ends S) a b) (a0 : 0 ≤ a.1) (bX : b.1 ≤ X) :
  Sg N (sf S e) (e :: E) BQ (1000000 * (Ba + BQ)) BX (a.1, F S a.2 + a.1) (b.1, F S b.2 + b.1) := by
 have lt := s.lt
 have le := s.le
 have pp := s.p2
 have qq := s.q2
 have wa := dm.win a.1 a0 (by grind)
 have wb := dm.win b.1 (by grind) bX
 have a20 : 0 ≤ a.2 := by rw [pp]; exact wa.1
 obtain ⟨w, N', c, w1, n0, n1, hN', fa⟩ := F_af ok a20 le no
 have : N' = N := num_uniq (by rw [← hN', hN])
 subst this
 obtain ⟨Q, k, m, q0, q1, k1, af, hs⟩ := s.af
 have few := ok.few
 refine ⟨lt, ?_, ⟨Q, w * p * k + N' * Q, (w * p : Nat) * m + c * Q, q0, q1, ?_, fun x h1 h2 => ?_, fun g hg => ?_⟩, by show F S a.2 + a.1 = F S (e a.1) + a.1; rw [pp], by show F S b.2 + b.1 = F S (e b.1) + b.1; rw [qq], s.gp, s.gq⟩
 ·have := F_mono ok le
  show F S a.2 + a.1 ≤ F S b.2 + b.1
  grind
 ·have x1 : w * p ≤ 1000000 := Nat.le_trans (Nat.mul_le_mul w1 few) (by decide)
  have x2 : N' ≤ 1000000 := by omega
  have x3 : w * p * k ≤ 1000000 * Ba := Nat.mul_le_mul x1 k1
  have x4 : N' * Q ≤ 1000000 * BQ := Nat.mul_le_mul x2 q1
  omega
 ·have ex := af x h1 h2
  have e1 : a.2 ≤ e x := by rw [pp]; exact dm.mono a.1 x a0 h1 (by grind)
  have e2 : e x ≤ b.2 := by rw [qq]; exact dm.mono x b.1 (by grind) h2 bX
  have f := fa (e x) e1 e2
  unfold sf
  rw [Rat.natCast_add, Rat.natCast_mul, Rat.natCast_mul N' Q, Rat.intCast_add, Rat.intCast_mul, Rat.intCast_mul, Rat.intCast_natCast, Rat.intCast_natCast]
  have o1 : ((1 : Nat) : Rat) = 1 := rfl
  rw [o1] at ex
  have ex' : e x * (Q : Rat) = (k : Rat) * x + (m : Rat) := by grind
  have g1 : (F S (e x) + x) * ((N' : Rat) * (Q : Rat)) = (F S (e x) * (N' : Rat)) * (Q : Rat) + x * ((N' : Rat) * (Q : Rat)) := by grind
  rw [g1, f]
  have g2 : (((w * p : Nat) : Rat) * e x + (c : Rat)) * (Q : Rat) = ((w * p : Nat) : Rat) * (e x * (Q : Rat)) + (c : Rat) * (Q : Rat) := by grind
  rw [g2, ex']
  grind
 ·rcases List.mem_cons.mp hg with z | z
  ·rw [z]
   refine ⟨k, m, fun x h1 h2 => ?_⟩
   have := af x h1 h2
   rw [show ((1 : Nat) : Rat) = 1 from rfl] at this
   rw [Rat.intCast_natCast]
   grind
  ·exact hs g z
theorem sf_mono {p : Nat} {S : Steps} (ok : TsOk p S) {e : Rat → Rat} {X : Rat} (dm : Dm e X) {x y : Rat} (h0 : 0 ≤ x) (h1 : x ≤ y) (h2 : y ≤ X) : sf S e x ≤ sf S e y := by
 have := F_mono ok (dm.mono x y h0 h1 h2)
 unfold sf
 grind
theorem lvl_gr {p : Nat} {S : Steps} (ok : TsOk p S) {N : Nat} (hN : tot S * (p : Rat) = (N : Rat)) {v : Rat} (hv : v ∈ lvls S) : Gr N v := by
 obtain ⟨z, hz, rfl⟩ := List.mem_map.mp hv
 obtain ⟨i, hi⟩ := List.mem_iff_getElem?.mp hz
 obtain ⟨il, rfl⟩ := wl_get ok hi
 obtain ⟨m, hm⟩ := A_gr (D := p) (b := 0) (S := S) (x := endOf 0 (S.take i)) (Gr.zero p) ok.gr (end_g ok i)
 refine ⟨m, ?_⟩
 have t := ok.tp
 have tn : tot S ≠ 0 := by grind
 show F S (endOf 0 (S.take i)) * (N : Rat) = _
 rw [← hN, ← hm]
 unfold F
 grind
theorem mk_at {p : Nat} {S : Steps} (ok : TsOk p S) {y : Rat} (y0 : 0 ≤ y) (y1 : y ≤ 1) : ∃ t, rch (wl S) y = some t ∧ 0 ≤ t ∧ t ≤ 1 ∧ F S t = y := by
 have t := ok.tp
 have a0 : (0 : Rat) ≤ y * tot S := Rat.mul_nonneg y0 (Rat.le_of_lt t)
 have a1 : y * tot S ≤ tot S := by
  have := Rat.mul_le_mul_of_nonneg_right y1 (Rat.le_of_lt t)
  grind
 obtain ⟨x, e1, e2, e3, e4, _⟩ := rch_at (h := 0) ok.rise t ok.ne a0 (by rw [ok.top, zero_add']; exact a1)
 rw [ok.top] at e3
 refine ⟨x, e1, e2, e3, ?_⟩
 unfold F
 have tn : tot S ≠ 0 := by grind
 grind
end FK
namespace FK
theorem nx_sg {p : Nat} {S : Steps} (ok : TsOk p S) {N : Nat} (hN : tot S * (p : Rat) = (N : Rat)) {e : Rat → Rat} {X : Rat} (dm : Dm e X) {E : List (Rat → Rat)} {BQ Ba BX : Nat} {a b : Rat × Rat} (s : Sg N (sf S e) E BQ Ba BX a b) (no : NoIn (lvls S) a b) (a0 : 0 ≤ a.1) (bX : b.1 ≤ X) (b1 : b.2 ≤ 1) :
  Sg 1 (nxt S e) E (1000000 * BQ) Ba BX (a.1, (rch (wl S) a.2).getD 0) (b.1, (rch (wl S) b.2).getD 0) := by
 have lt := s.lt
 have le := s.le
 have pp := s.p2
 have qq := s.q2
 have wa := dm.win a.1 a0 (by grind)
 have fa0 := F_nn ok (e a.1)
 have a20 : 0 ≤ a.2 := by rw [pp]; unfold sf; grind
 have sm : ∀ x y, a.1 ≤ x → x ≤ y → y ≤ b.1 → sf S e x ≤ sf S e y := fun x y h1 h2 h3 => sf_mono ok dm (by grind) h2 (by grind)
 obtain ⟨t1, r1, t10, t11, ft1⟩ := mk_at ok a20 (show a.2 ≤ 1 by grind)
 obtain ⟨t2, r2, t20, t21, ft2⟩ := mk_at ok (show 0 ≤ b.2 by grind) b1
 have slt : a.2 < b.2 := by
  have := F_mono ok (dm.mono a.1 b.1 a0 (Rat.le_of_lt lt) bX)
  rw [pp, qq]
  unfold sf
  grind
 have tt : t1 < t2 := F_lt ok (by rw [ft1, ft2]; exact slt)
 have noE : ∀ u ∈ ends S, ¬ (t1 < u ∧ u < t2) := fun u hu z => by
  obtain ⟨c, hc, rfl⟩ := List.mem_map.mp hu
  obtain ⟨i, hi⟩ := List.mem_iff_getElem?.mp hc
  obtain ⟨il, rfl⟩ := wl_get ok hi
  have z1 : t1 < endOf 0 (S.take i) := z.1
  have z2 : endOf 0 (S.take i) < t2 := z.2
  have g1 := F_smono ok t10 z1 (by grind)
  have g2 := F_smono ok (by grind) z2 t21
  rw [ft1] at g1
  rw [ft2] at g2
  exact no (F S (endOf 0 (S.take i))) (List.mem_map.mpr ⟨_, hc, rfl⟩) ⟨g1, g2⟩
 obtain ⟨w, N', c, w1, n0, n1, hN', fa⟩ := F_af ok t10 (Rat.le_of_lt tt) noE
 have : N' = N := num_uniq (by rw [← hN', hN])
 subst this
 obtain ⟨Q, k, m, q0, q1, k1, af, hs⟩ := s.af
 have wpos : 0 < w := by
  rcases Nat.eq_zero_or_pos w with z | z
  ·exfalso
   have f1 := fa t1 Rat.le_refl (Rat.le_of_lt tt)
   have f2 := fa t2 (Rat.le_of_lt tt) Rat.le_refl
   rw [z, Nat.zero_mul, show ((0 : Nat) : Rat) = 0 from rfl, ft1] at f1
   rw [z, Nat.zero_mul, show ((0 : Nat) : Rat) = 0 from rfl, ft2] at f2
   have np := nat_pos n0
   have := Rat.mul_lt_mul_of_pos_right slt np
   grind
  ·exact z
 have ea : (rch (wl S) a.2).getD 0 = t1 := by rw [r1]; rfl
 have eb : (rch (wl S) b.2).getD 0 = t2 := by rw [r2]; rfl
 have en : ∀ x, nxt S e x = (rch (wl S) (sf S e x)).getD 0 := fun x => rfl
 refine ⟨lt, by show (rch (wl S) a.2).getD 0 ≤ (rch (wl S) b.2).getD 0; rw [ea, eb]; exact Rat.le_of_lt tt, ⟨w * p * Q, k, m - c * Q, Nat.mul_pos (Nat.mul_pos wpos ok.pos) q0, ?_, k1, fun x h1 h2 => ?_, fun g hg => ?_⟩, by show (rch (wl S) a.2).getD 0 = nxt S e a.1; rw [en, ← pp], by show (rch (wl S) b.2).getD 0 = nxt S e b.1; rw [en, ← qq], s.gp, s.gq⟩
 ·exact Nat.mul_le_mul (Nat.le_trans (Nat.mul_le_mul w1 ok.few) (by decide)) q1
 ·have l1 := sm a.1 x Rat.le_refl h1 h2
  have l2 := sm x b.1 h1 h2 Rat.le_refl
  rw [← pp] at l1
  rw [← qq] at l2
  obtain ⟨t, r, u0, u1, ft⟩ := mk_at ok (show 0 ≤ sf S e x by grind) (show sf S e x ≤ 1 by grind)
  have et : nxt S e x = t := by rw [en, r]; rfl
  have i1 : t1 ≤ t := F_inv ok u0 t11 (by rw [ft, ft1]; exact l1)
  have i2 : t ≤ t2 := F_inv ok t20 u1 (by rw [ft, ft2]; exact l2)
  have f := fa t i1 i2
  rw [ft] at f
  have ax := af x h1 h2
  rw [et, Rat.natCast_mul, Rat.intCast_sub, Rat.intCast_mul, Rat.intCast_natCast, show ((1 : Nat) : Rat) = 1 from rfl]
  have g1 : t * (1 * (((w * p : Nat) : Rat) * (Q : Rat))) = (((w * p : Nat) : Rat) * t) * (Q : Rat) := by grind
  have g2 : ((w * p : Nat) : Rat) * t = sf S e x * (N' : Rat) - (c : Rat) := by grind
  rw [g1, g2]
  grind
 ·obtain ⟨k', m', h⟩ := hs g hg
  refine ⟨(w * p : Nat) * k', (w * p : Nat) * m', fun x h1 h2 => ?_⟩
  have := h x h1 h2
  rw [Rat.natCast_mul, Rat.intCast_mul, Rat.intCast_mul, Rat.intCast_natCast]
  have e1 : g x * (((w * p : Nat) : Rat) * (Q : Rat)) = ((w * p : Nat) : Rat) * (g x * (Q : Rat)) := by grind
  rw [e1, this]
  grind
def upTo1 (L : List (Rat × Rat)) : List (Rat × Rat) := L.filter fun c => decide (c.2 ≤ 1)
theorem up_con {R : Rat × Rat → Rat × Rat → Prop} (lt : ∀ a b, R a b → a.2 < b.2) (one : ∀ a b, R a b → ¬ (a.2 < 1 ∧ 1 < b.2)) : ∀ {a : Rat × Rat} {L : List (Rat × Rat)}, Con R a L → a.2 ≤ 1 → 1 ≤ ((a :: L).getLast (List.cons_ne_nil _ _)).2 →
  Con (fun a b => R a b ∧ b.2 ≤ 1) a (upTo1 L) ∧ ((a :: upTo1 L).getLast (List.cons_ne_nil _ _)).2 = 1
 | a, [], _, a1, l1 => ⟨trivial, by
   have : 1 ≤ a.2 := l1
   show a.2 = 1
   grind⟩
 | a, b :: L, c, a1, l1 => by
  by_cases h : b.2 ≤ 1
  ·have e : upTo1 (b :: L) = b :: upTo1 L := List.filter_cons_of_pos (decide_eq_true h)
   rw [List.getLast_cons (List.cons_ne_nil _ _)] at l1
   obtain ⟨i1, i2⟩ := up_con lt one c.2 h l1
   rw [e]
   refine ⟨⟨⟨c.1, h⟩, i1⟩, ?_⟩
   rw [List.getLast_cons (List.cons_ne_nil _ _)]
   exact i2
  ·have gt : ∀ (q : Rat × Rat) (M : List (Rat × Rat)), Con R q M → 1 < q.2 → upTo1 M = [] := by
    intro q M
    induction M generalizing q with
    | nil => intro _ _; rfl
    | cons r M ih =>
     intro cc g
     have := lt _ _ cc.1
     have h' : ¬ r.2 ≤ 1 := by grind
     have e : upTo1 (r :: M) = upTo1 M := List.filter_cons_of_neg (by simpa using h')
     rw [e]
     exact ih r cc.2 (by grind)
   have e : upTo1 (b :: L) = [] := by
    have : upTo1 (b :: L) = upTo1 L := List.filter_cons_of_neg (by simpa using h)
    rw [this]
    exact gt b L c.2 (by grind)
   rw [e]
   refine ⟨trivial, ?_⟩
   have := one _ _ c.1
   show a.2 = 1
   grind
end FK
namespace FK
theorem con_le {R : Rat × Rat → Rat × Rat → Prop} (lt : ∀ a b, R a b → a.1 < b.1) : ∀ {p : Rat × Rat} {L : List (Rat × Rat)}, Con R p L → p.1 ≤ ((p :: L).getLast (List.cons_ne_nil _ _)).1 ∧ ∀ q ∈ L, q.1 ≤ ((p :: L).getLast (List.cons_ne_nil _ _)).1
 | p, [], _ => ⟨Rat.le_refl, fun _ z => nomatch z⟩
 | p, q :: L, c => by
  obtain ⟨i1, i2⟩ := con_le lt c.2
  have := lt _ _ c.1
  rw [List.getLast_cons (List.cons_ne_nil _ _)]
  refine ⟨by grind, fun r hr => ?_⟩
  rcases List.mem_cons.mp hr with z | z
  ·rw [z]
   exact i1
  ·exact i2 r z
theorem Con.bnd {R : Rat × Rat → Rat × Rat → Prop} (lt : ∀ a b, R a b → a.1 < b.1) {X : Rat} : ∀ {p : Rat × Rat} {L : List (Rat × Rat)}, Con R p L → 0 ≤ p.1 → ((p :: L).getLast (List.cons_ne_nil _ _)).1 ≤ X → Con (fun a b => R a b ∧ 0 ≤ a.1 ∧ b.1 ≤ X) p L
 | p, [], _, _, _ => trivial
 | p, q :: L, c, p0, l => by
  have := lt _ _ c.1
  rw [List.getLast_cons (List.cons_ne_nil _ _)] at l
  have := (con_le lt c.2).1
  exact ⟨⟨c.1, p0, by grind⟩, Con.bnd lt c.2 (by grind) l⟩
theorem ptF_last (U : List Rat) : ∀ (p : Rat × Rat) (L : List (Rat × Rat)), (p :: ptF U p L).getLast (List.cons_ne_nil _ _) = (p :: L).getLast (List.cons_ne_nil _ _)
 | p, [] => rfl
 | p, q :: L => by
  have ih := ptF_last U q L
  have e : p :: ptF U p (q :: L) = (p :: mid U p q) ++ (q :: ptF U q L) := rfl
  rw [List.getLast_cons (l := q :: L) (List.cons_ne_nil _ _), ← ih]
  simp only [e]
  rw [List.getLast_append_of_ne_nil _ (List.cons_ne_nil _ _)]
theorem end_up {p : Nat} {S : Steps} (ok : TsOk p S) {i : Nat} : ∀ {k : Nat}, i + k + 1 ≤ S.length → endOf 0 (S.take i) < endOf 0 (S.take (i + k + 1))
 | 0, h => end_step ok h
 | k + 1, h => by
  have a := end_up ok (i := i) (k := k) (by omega)
  have b := end_step ok (i := i + k + 1) (by omega)
  have e : i + (k + 1) + 1 = i + k + 1 + 1 := by omega
  rw [e]
  grind
theorem wl_pw {p : Nat} {S : Steps} (ok : TsOk p S) : (wl S).Pairwise fun a b => a.1 < b.1 ∧ a.2 < b.2 := by
 refine List.pairwise_iff_getElem.mpr fun i j hi hj ij => ?_
 obtain ⟨il, e1⟩ := wl_get ok (List.getElem?_eq_getElem hi)
 obtain ⟨jl, e2⟩ := wl_get ok (List.getElem?_eq_getElem hj)
 rw [e1, e2]
 have h := end_up ok (i := i) (k := j - i - 1) (by omega)
 rw [show i + (j - i - 1) + 1 = j by omega] at h
 exact ⟨h, F_smono ok (end_nn ok i) h (end_le ok j)⟩
theorem ends_pw {p : Nat} {S : Steps} (ok : TsOk p S) : (ends S).Pairwise (· < ·) := List.pairwise_map.mpr ((wl_pw ok).imp fun h => h.1)
theorem lvls_pw {p : Nat} {S : Steps} (ok : TsOk p S) : (lvls S).Pairwise (· < ·) := List.pairwise_map.mpr ((wl_pw ok).imp fun h => h.2)
theorem wl_len (S : Steps) : (wl S).length = S.length + 1 := by
 unfold wl
 rw [List.length_map, hl_len]
theorem one_lvl {p : Nat} {S : Steps} (ok : TsOk p S) : (1 : Rat) ∈ lvls S := by
 have hl' : S.length < (wl S).length := by rw [wl_len]; omega
 have hi : (wl S)[S.length]? = some (wl S)[S.length] := List.getElem?_eq_getElem hl'
 obtain ⟨_, e⟩ := wl_get ok hi
 rw [e, List.take_length, ok.top, F_one ok] at hi
 exact List.mem_map.mpr ⟨_, List.mem_of_getElem? hi, rfl⟩
theorem ends_gr {p : Nat} {S : Steps} (ok : TsOk p S) {u : Rat} (hu : u ∈ ends S) : Gr (1 * p) u := by
 obtain ⟨z, hz, rfl⟩ := List.mem_map.mp hu
 obtain ⟨i, hi⟩ := List.mem_iff_getElem?.mp hz
 obtain ⟨_, rfl⟩ := wl_get ok hi
 rw [Nat.one_mul]
 exact end_g ok i
abbrev toS (S : Steps) (c : Rat × Rat) : Rat × Rat := (c.1, F S c.2 + c.1)
abbrev toE (S : Steps) (c : Rat × Rat) : Rat × Rat := (c.1, (rch (wl S) c.2).getD 0)
def stg (S : Steps) (L : List (Rat × Rat)) : List (Rat × Rat) := (upTo1 (ptF (lvls S) (0, 0) ((ptF (ends S) (0, 0) L).map (toS S)))).map (toE S)
theorem zero_pt {p : Nat} {S : Steps} (ok : TsOk p S) : (rch (wl S) 0).getD 0 = 0 := by
 obtain ⟨t, r, t0, t1, ft⟩ := mk_at ok (y := 0) Rat.le_refl (by decide +kernel)
 rw [r]
 show t = 0
 exact F_inj ok t0 t1 Rat.le_refl (by decide +kernel) (by rw [ft, F_zero ok])
theorem stage {p : Nat} {S : Steps} (ok : TsOk p S) {e : Rat → Rat} {X : Rat} (dm : Dm e X) {E : List (Rat → Rat)} {BQ Ba BX BY : Nat} {L : List (Rat × Rat)} (c : Con (Sg 1 e E BQ Ba BX) (0, 0) L) (last : (((0, 0) :: L).getLast (List.cons_ne_nil _ _)).1 = X) (top : 1 ≤ sf S e X) (b1 : BX ≤ BY) (b2 : Ba * 1000 ≤ BY) (b3 : 1000000 * (Ba + BQ) ≤ BY) :
  ∃ X', Dm (nxt S e) X' ∧ X' ≤ X ∧ nxt S e X' = 1 ∧ Con (Sg 1 (nxt S e) (e :: E) (1000000 * BQ) (1000000 * (Ba + BQ)) BY) (0, 0) (stg S L) ∧ (((0, 0) :: stg S L).getLast (List.cons_ne_nil _ _)).1 = X' ∧ (∀ x, 0 ≤ x → x ≤ X' → 0 ≤ nxt S e x ∧ nxt S e x ≤ 1 ∧ F S (nxt S e x) = F S (e x) + x ∧ rch (wl S) (F S (e x) + x) = some (nxt S e x)) ∧
   Con (fun a b => (Sg 1 e E BQ Ba BY a b ∧ NoIn (ends S) a b) ∧ 0 ≤ a.1 ∧ b.1 ≤ X) (0, 0) (ptF (ends S) (0, 0) L) ∧ (∃ N : Nat, 0 < N ∧ N ≤ 1000000 ∧ Con (fun a b => (Sg N (sf S e) (e :: E) BQ (1000000 * (Ba + BQ)) BY a b ∧ NoIn (lvls S) a b) ∧ 0 ≤ a.1 ∧ b.1 ≤ X) (0, 0) (ptF (lvls S) (0, 0) ((ptF (ends S) (0, 0) L).map (toS S)))) ∧
   (ptF (lvls S) (0, 0) ((ptF (ends S) (0, 0) L).map (toS S))).length ≤ L.length + 18 := by
 obtain ⟨N, n0, n1, hN⟩ := ok.num
 have few := ok.few
 have sglt : ∀ {M : Nat} {f : Rat → Rat} {E' : List (Rat → Rat)} {A B C : Nat} (a b : Rat × Rat), Sg M f E' A B C a b → a.1 < b.1 := fun _ _ s => s.lt
 have z0 : (0 : Rat) ≤ ((0, 0) : Rat × Rat).1 := Rat.le_refl
 have inX : ∀ q ∈ L, q.1 ≤ X := fun q hq => by
  rw [← last]
  exact (con_le sglt c).2 q hq
 have b2' : Ba * p ≤ BY := Nat.le_trans (Nat.mul_le_mul_left _ few) b2
 have c1 := pt_con (U := ends S) (by decide) ok.pos (ends_pw ok) (fun u hu => ends_gr ok hu) dm.mono b1 b2' z0 inX c
 have l1 := ptF_last (ends S) (0, 0) L
 have c1' := Con.bnd (X := X) (fun a b h => h.1.lt) c1 z0 (by rw [l1, last]; exact Rat.le_refl)
 have hz : toS S (0, 0) = (0, 0) := by
  show (((0 : Rat)), F S 0 + 0) = (0, 0)
  rw [F_zero ok, Rat.add_zero]
 have c2 : Con (Sg N (sf S e) (e :: E) BQ (1000000 * (Ba + BQ)) BY) (0, 0) ((ptF (ends S) (0, 0) L).map (toS S)) := by
  have := Con.map (f := toS S) (R' := Sg N (sf S e) (e :: E) BQ (1000000 * (Ba + BQ)) BY) (fun a b h => sf_sg ok hN dm h.1.1 h.1.2 h.2.1 h.2.2) c1'
  rw [hz] at this
  exact this
 have l2 : (((0, 0) :: (ptF (ends S) (0, 0) L).map (toS S)).getLast (List.cons_ne_nil _ _)) = toS S (((0, 0) :: L).getLast (List.cons_ne_nil _ _)) := by
  rw [← l1, ← List.getLast_map (f := toS S) (h := by simp)]
  simp only [List.map_cons, hz]
 have l2x : (((0, 0) :: (ptF (ends S) (0, 0) L).map (toS S)).getLast (List.cons_ne_nil _ _)).1 = X := by rw [l2]; exact last
 have in2 : ∀ q ∈ (ptF (ends S) (0, 0) L).map (toS S), q.1 ≤ X := fun q hq => by
  have := (con_le sglt c2).2 q hq
  rw [l2x] at this
  exact this
 have c3 := pt_con (g := 1) (U := lvls S) n0 (by decide) (lvls_pw ok) (fun u hu => by rw [Nat.mul_one]; exact lvl_gr ok hN hu) (fun x y h1 h2 h3 => sf_mono ok dm h1 h2 h3) (Nat.le_refl BY) (by rw [Nat.mul_one]; exact b3) z0 in2 c2
 have l3 := ptF_last (lvls S) (0, 0) ((ptF (ends S) (0, 0) L).map (toS S))
 have c3' := Con.bnd (X := X) (fun a b h => h.1.lt) c3 z0 (by rw [l3, l2x]; exact Rat.le_refl)
 have lastY : 1 ≤ (((0, 0) :: ptF (lvls S) (0, 0) ((ptF (ends S) (0, 0) L).map (toS S))).getLast (List.cons_ne_nil _ _)).2 := by
  rw [l3, l2]
  show 1 ≤ F S (((0, 0) :: L).getLast (List.cons_ne_nil _ _)).2 + (((0, 0) :: L).getLast (List.cons_ne_nil _ _)).1
  have e2 : (((0, 0) :: L).getLast (List.cons_ne_nil _ _)).2 = e X := by
   have : ∀ {q : Rat × Rat} {M : List (Rat × Rat)}, Con (Sg 1 e E BQ Ba BX) q M → q.2 = e q.1 → ((q :: M).getLast (List.cons_ne_nil _ _)).2 = e ((q :: M).getLast (List.cons_ne_nil _ _)).1 := by
    intro q M
    induction M generalizing q with
    | nil => intro _ h; exact h
    | cons r M ih =>
     intro cc _
     rw [List.getLast_cons (List.cons_ne_nil _ _)]
     exact ih cc.2 cc.1.q2
   rw [this c dm.zero.symm, last]
  rw [e2, last]
  exact top
 have slt : ∀ a b : Rat × Rat, ((Sg N (sf S e) (e :: E) BQ (1000000 * (Ba + BQ)) BY a b ∧ NoIn (lvls S) a b) ∧ 0 ≤ a.1 ∧ b.1 ≤ X) → a.2 < b.2 := fun a b h => by
  have := F_mono ok (dm.mono a.1 b.1 h.2.1 (Rat.le_of_lt h.1.1.lt) h.2.2)
  have := h.1.1.lt
  rw [h.1.1.p2, h.1.1.q2]
  unfold sf
  grind
 obtain ⟨c4, l4⟩ := up_con slt (fun a b h => h.1.2 1 (one_lvl ok)) c3' (by decide +kernel) lastY
 have c5 := Con.map (f := toE S) (R' := Sg 1 (nxt S e) (e :: E) (1000000 * BQ) (1000000 * (Ba + BQ)) BY) (fun a b h => nx_sg ok hN dm h.1.1.1 h.1.1.2 h.1.2.1 h.1.2.2 h.2) c4
 have hz2 : toE S (0, 0) = (0, 0) := by
  show ((0 : Rat), (rch (wl S) 0).getD 0) = (0, 0)
  rw [zero_pt ok]
 rw [hz2] at c5
 generalize hK : ((0, 0) :: upTo1 (ptF (lvls S) (0, 0) ((ptF (ends S) (0, 0) L).map (toS S)))).getLast (List.cons_ne_nil _ _) = kl at l4
 have l5 : ((0, 0) :: stg S L).getLast (List.cons_ne_nil _ _) = toE S kl := by
  rw [← hK, ← List.getLast_map (f := toE S) (h := by simp)]
  simp only [List.map_cons, hz2]
  rfl
 have klX : kl.1 ≤ X ∧ 0 ≤ kl.1 ∧ kl.2 = sf S e kl.1 := by
  have ge : ∀ {q : Rat × Rat} {M : List (Rat × Rat)}, Con (fun a b => ((Sg N (sf S e) (e :: E) BQ (1000000 * (Ba + BQ)) BY a b ∧ NoIn (lvls S) a b) ∧ 0 ≤ a.1 ∧ b.1 ≤ X) ∧ b.2 ≤ 1) q M → (q.1 ≤ X ∧ 0 ≤ q.1 ∧ q.2 = sf S e q.1) → (((q :: M).getLast (List.cons_ne_nil _ _)).1 ≤ X ∧ 0 ≤ ((q :: M).getLast (List.cons_ne_nil _ _)).1 ∧ ((q :: M).getLast (List.cons_ne_nil _ _)).2 = sf S e ((q :: M).getLast (List.cons_ne_nil _ _)).1) := by
   intro q M
   induction M generalizing q with
   | nil => intro _ h; exact h
   | cons r M ih =>
    intro cc hq
    rw [List.getLast_cons (List.cons_ne_nil _ _)]
    have := cc.1.1.1.1.lt
    exact ih cc.2 ⟨cc.1.1.2.2, by grind, cc.1.1.1.1.q2⟩
  rw [← hK]
  refine ge c4 ⟨Rat.le_of_lt dm.pos, Rat.le_refl, ?_⟩
  show (0 : Rat) = F S (e 0) + 0
  rw [dm.zero, F_zero ok, Rat.add_zero]
 obtain ⟨k1, k2, k3⟩ := klX
 rw [l4] at k3
 have sfz : sf S e 0 = 0 := by
  unfold sf
  rw [dm.zero, F_zero ok, Rat.add_zero]
 have le1 := dm.le1
 have kpos : 0 < kl.1 := by
  by_cases z : 0 < kl.1
  ·exact z
  ·have : kl.1 = 0 := by grind
   rw [this, sfz] at k3
   exact absurd k3 (by decide +kernel)
 have wn : ∀ x, 0 ≤ x → x ≤ kl.1 → 0 ≤ nxt S e x ∧ nxt S e x ≤ 1 ∧ F S (nxt S e x) = F S (e x) + x ∧ rch (wl S) (F S (e x) + x) = some (nxt S e x) := fun x h1 h2 => by
  have a1 := sf_mono ok dm h1 h2 k1
  rw [← k3] at a1
  have a0 : 0 ≤ sf S e x := by
   have := F_nn ok (e x)
   unfold sf
   grind
  obtain ⟨t, r, t0, t1, ft⟩ := mk_at ok a0 a1
  have et : nxt S e x = t := by
   show (rch (wl S) (sf S e x)).getD 0 = t
   rw [r]
   rfl
  rw [et]
  exact ⟨t0, t1, ft, r⟩
 have e1 : nxt S e kl.1 = 1 := by
  obtain ⟨a, b, f, _⟩ := wn kl.1 k2 Rat.le_refl
  refine F_inj ok a b (by decide +kernel) Rat.le_refl ?_
  rw [f, F_one ok]
  exact k3.symm
 refine ⟨kl.1, ⟨kpos, by grind, ?_, fun x h1 h2 => ⟨(wn x h1 h2).1, (wn x h1 h2).2.1⟩, fun x y h1 h2 h3 => ?_⟩, k1, e1, c5, by rw [l5], wn, c1', ⟨N, n0, by omega, c3'⟩, ?_⟩
 ·show (rch (wl S) (sf S e 0)).getD 0 = 0
  rw [sfz]
  exact zero_pt ok
 ·obtain ⟨a1, a2, a3, _⟩ := wn x h1 (by grind)
  obtain ⟨d1, d2, d3, _⟩ := wn y (by grind) h3
  refine F_inv ok d1 a2 ?_
  rw [a3, d3]
  exact sf_mono ok dm h1 h2 (by grind)
 ·have le2 : ∀ {M : Nat} {f : Rat → Rat} {E' : List (Rat → Rat)} {A B C : Nat} (a b : Rat × Rat), Sg M f E' A B C a b → a.2 ≤ b.2 := fun _ _ s => s.le
  have n1' := ptF_len (ends S) (Con.imp le2 c)
  have n2' := ptF_len (lvls S) (Con.imp le2 c2)
  have f1 := List.length_filter_le (fun u => decide (((0, 0) : Rat × Rat).2 < u)) (ends S)
  have f2 := List.length_filter_le (fun u => decide (((0, 0) : Rat × Rat).2 < u)) (lvls S)
  have w1 : (ends S).length = S.length + 1 := by unfold ends; rw [List.length_map, wl_len]
  have w2 : (lvls S).length = S.length + 1 := by unfold lvls; rw [List.length_map, wl_len]
  have sl := ok.len
  rw [List.length_map] at n2'
  omega
end FK
namespace FK
def ef (Ss : List Steps) : Rat → Rat := Ss.foldl (fun e S => nxt S e) (fun _ => 0)
theorem ef_snoc (Ss : List Steps) (S : Steps) : ef (Ss ++ [S]) = nxt S (ef Ss) := by
 unfold ef
 rw [List.foldl_append]
 rfl
theorem con_af {e : Rat → Rat} {E : List (Rat → Rat)} {BQ Ba BX : Nat} : ∀ {p : Rat × Rat} {L : List (Rat × Rat)}, Con (Sg 1 e E BQ Ba BX) p L → ∀ x, p.1 ≤ x → x ≤ ((p :: L).getLast (List.cons_ne_nil _ _)).1 → p.1 < x → ∃ Q : Nat, 0 < Q ∧ Q ≤ BQ ∧ ∀ g ∈ e :: E, ∃ k m : Int, g x * (Q : Rat) = (k : Rat) * x + (m : Rat)
 | p, [], _, x, _, h2, h3 => by
  have : x ≤ p.1 := h2
  exact absurd h3 (by grind)
 | p, q :: L, c, x, h1, h2, h3 => by
  rw [List.getLast_cons (List.cons_ne_nil _ _)] at h2
  by_cases z : x ≤ q.1
  ·obtain ⟨Q, k, m, q0, q1, _, af, hs⟩ := c.1.af
   refine ⟨Q, q0, q1, fun g hg => ?_⟩
   rcases List.mem_cons.mp hg with y | y
   ·rw [y]
    have := af x h1 z
    rw [show ((1 : Nat) : Rat) = 1 from rfl] at this
    exact ⟨k, m, by rw [Rat.intCast_natCast]; grind⟩
   ·obtain ⟨k', m', h⟩ := hs g y
    exact ⟨k', m', h x h1 z⟩
  ·exact con_af c.2 x (by grind) h2 (by grind)
def efs (Ss : List Steps) : Nat → List (Rat → Rat)
 | 0 => []
 | i + 1 => ef (Ss.take i) :: efs Ss i
theorem efs_mem (Ss : List Steps) : ∀ {i j : Nat}, j < i → ef (Ss.take j) ∈ efs Ss i
 | 0, j, h => absurd h (Nat.not_lt_zero _)
 | i + 1, j, h => by
  by_cases c : j = i
  ·rw [c]
   exact List.mem_cons_self ..
  ·exact List.mem_cons_of_mem _ (efs_mem Ss (by omega))
structure CInv (Ss : List Steps) (i : Nat) (L : List (Rat × Rat)) (X : Rat) : Prop where
 dm : Dm (ef (Ss.take i)) X
 con : Con (Sg 1 (ef (Ss.take i)) (efs Ss i) (1000000 ^ i) (i * 1000000 ^ i) ((i + 1) * 1000000 ^ i)) (0, 0) L
 last : (((0, 0) :: L).getLast (List.cons_ne_nil _ _)).1 = X
 top : (i = 0 ∧ X = 1) ∨ ef (Ss.take i) X = 1
 few : L.length ≤ 1 + 18 * i
 hist : ∀ j S, j < i → Ss[j]? = some S → ∀ x, 0 ≤ x → x ≤ X → 0 ≤ ef (Ss.take (j + 1)) x ∧ ef (Ss.take (j + 1)) x ≤ 1 ∧ F S (ef (Ss.take (j + 1)) x) = F S (ef (Ss.take j) x) + x ∧ rch (wl S) (F S (ef (Ss.take j) x) + x) = some (ef (Ss.take (j + 1)) x)
theorem cinv_start (Ss : List Steps) : CInv Ss 0 [(1, 0)] 1 := by
 have e0 : ef (Ss.take 0) = fun _ => 0 := rfl
 have b : ∀ x : Rat, ef (Ss.take 0) x = 0 := fun _ => rfl
 refine ⟨⟨by decide +kernel, Rat.le_refl, rfl, fun x _ _ => ⟨by rw [b]; exact Rat.le_refl, by rw [b]; decide +kernel⟩, fun x y _ _ _ => by rw [b, b]; exact Rat.le_refl⟩, ⟨⟨by decide +kernel, Rat.le_refl, ⟨1, 0, 0, by decide, by decide, Nat.le_refl _, fun x _ _ => ?_, fun _ z => nomatch z⟩, rfl, rfl, ⟨1, by decide, by decide, Gr.zero 1⟩, ⟨1, by decide, by decide, Gr.one 1⟩⟩, trivial⟩, rfl, .inl ⟨rfl, rfl⟩, by decide, fun j S h => absurd h (Nat.not_lt_zero _)⟩
 ·rw [b, show ((0 : Nat) : Rat) = 0 from rfl, show ((0 : Int) : Rat) = 0 from rfl]
  grind
theorem cinv_top {Ss : List Steps} {i : Nat} {L : List (Rat × Rat)} {X : Rat} (h : CInv Ss i L X) {p : Nat} {S : Steps} (ok : TsOk p S) : 1 ≤ sf S (ef (Ss.take i)) X := by
 unfold sf
 rcases h.top with ⟨z, x1⟩ | z
 ·subst z
  rw [show ef (Ss.take 0) X = 0 from rfl, F_zero ok, x1]
  decide +kernel
 ·rw [z, F_one ok]
  have := h.dm.pos
  grind
theorem cinv_lim {i : Nat} (h : i < 6) : (i + 1) * 1000000 ^ i ≤ (i + 2) * 1000000 ^ (i + 1) ∧ i * 1000000 ^ i * 1000 ≤ (i + 2) * 1000000 ^ (i + 1) ∧ 1000000 * (i * 1000000 ^ i + 1000000 ^ i) ≤ (i + 2) * 1000000 ^ (i + 1) ∧ 1000000 * 1000000 ^ i * ((i + 2) * 1000000 ^ (i + 1)) * 2 < 2 ^ 280 ∧ 0 < 1000000 ^ i := by
 have : i = 0 ∨ i = 1 ∨ i = 2 ∨ i = 3 ∨ i = 4 ∨ i = 5 := by omega
 rcases this with rfl | rfl | rfl | rfl | rfl | rfl <;> decide
theorem cinv_step {Ss : List Steps} {i : Nat} {L : List (Rat × Rat)} {X : Rat} (h : CInv Ss i L X) (i6 : i < 6) {p : Nat} {S : Steps} (hS : Ss[i]? = some S) (ok : TsOk p S) : ∃ X', CInv Ss (i + 1) (stg S L) X' := by
 obtain ⟨l1, l2, l3, l4, l5⟩ := cinv_lim i6
 obtain ⟨X', dm', xX, one, cN, lN, wn, cS, _, few⟩ := stage ok h.dm h.con h.last (cinv_top h ok) l1 l2 l3
 have et : ef (Ss.take (i + 1)) = nxt S (ef (Ss.take i)) := by rw [take_snoc hS, ef_snoc]
 have q1 : 1000000 * 1000000 ^ i = 1000000 ^ (i + 1) := by rw [Nat.pow_succ, Nat.mul_comm]
 have q2 : 1000000 * (i * 1000000 ^ i + 1000000 ^ i) = (i + 1) * 1000000 ^ (i + 1) := by
  rw [Nat.pow_succ, Nat.add_mul, Nat.one_mul, Nat.mul_add]
  have : i * (1000000 ^ i * 1000000) = 1000000 * (i * 1000000 ^ i) := by
   rw [Nat.mul_comm 1000000, Nat.mul_assoc]
  omega
 rw [q1, q2] at cN
 refine ⟨X', by rw [et]; exact dm', by rw [et]; exact cN, lN, .inr (by rw [et]; exact one), ?_, fun j S' hj hS' x x0 x1 => ?_⟩
 ·have e1 : (stg S L).length ≤ (ptF (lvls S) (0, 0) ((ptF (ends S) (0, 0) L).map (toS S))).length := by
   unfold stg upTo1
   rw [List.length_map]
   exact List.length_filter_le _ _
  have := h.few
  omega
 ·by_cases c : j = i
  ·subst c
   rw [hS] at hS'
   cases hS'
   rw [et]
   exact wn x x0 x1
  ·exact h.hist j S' (by omega) hS' x x0 (by grind)
structure CwOk (Ss : List Steps) (n : Nat) (X : Rat) : Prop where
 pos : 0 < X
 le1 : X ≤ 1
 hist : ∀ j S, j < n → Ss[j]? = some S → 0 ≤ ef (Ss.take (j + 1)) X ∧ ef (Ss.take (j + 1)) X ≤ 1 ∧ F S (ef (Ss.take (j + 1)) X) = F S (ef (Ss.take j) X) + X ∧ rch (wl S) (F S (ef (Ss.take j) X) + X) = some (ef (Ss.take (j + 1)) X)
 top : ef (Ss.take n) X = 1
 gr : ∃ G : Nat, 0 < G ∧ G ≤ 7 * 1000000 ^ 6 ∧ Gr G X ∧ ∃ Q : Nat, 0 < Q ∧ Q ≤ 1000000 ^ 6 ∧ ∀ j, j ≤ n → Gr (Q * G) (ef (Ss.take j) X)
theorem cinv_end {Ss : List Steps} {n : Nat} {L : List (Rat × Rat)} {X : Rat} (h : CInv Ss n L X) (n1 : 1 ≤ n) (n6 : n ≤ 6) : CwOk Ss n X := by
 have hg : GX ((n + 1) * 1000000 ^ n) X := by
  have : ∀ {q : Rat × Rat} {M : List (Rat × Rat)}, Con (Sg 1 (ef (Ss.take n)) (efs Ss n) (1000000 ^ n) (n * 1000000 ^ n) ((n + 1) * 1000000 ^ n)) q M → GX ((n + 1) * 1000000 ^ n) q.1 → GX ((n + 1) * 1000000 ^ n) ((q :: M).getLast (List.cons_ne_nil _ _)).1 := by
   intro q M
   induction M generalizing q with
   | nil => intro _ g; exact g
   | cons r M ih =>
    intro cc _
    rw [List.getLast_cons (List.cons_ne_nil _ _)]
    exact ih cc.2 cc.1.gq
  rw [← h.last]
  refine this h.con ⟨1, by decide, ?_, Gr.zero 1⟩
  exact Nat.mul_pos (by omega) (Nat.pow_pos (by decide))
 obtain ⟨G, g0, g1, g2⟩ := hg
 have pw : 1000000 ^ n ≤ 1000000 ^ 6 := Nat.pow_le_pow_right (by decide) n6
 obtain ⟨Q, q0, q1, af⟩ := con_af h.con X (Rat.le_of_lt h.dm.pos) (by rw [h.last]; exact Rat.le_refl) h.dm.pos
 refine ⟨h.dm.pos, h.dm.le1, fun j S hj hS => h.hist j S hj hS X (Rat.le_of_lt h.dm.pos) Rat.le_refl, ?_, G, g0, Nat.le_trans g1 (Nat.mul_le_mul (by omega) pw), g2, Q, q0, Nat.le_trans q1 pw, fun j hj => ?_⟩
 ·rcases h.top with ⟨z, _⟩ | z
  ·omega
  ·exact z
 ·obtain ⟨k, m, e⟩ := af (ef (Ss.take j)) (by
   by_cases c : j = n
   ·rw [c]
    exact List.mem_cons_self ..
   ·exact List.mem_cons_of_mem _ (efs_mem Ss (by omega)))
  obtain ⟨i, hi⟩ := g2
  refine ⟨k * i + m * G, ?_⟩
  rw [Rat.natCast_mul, Rat.intCast_add, Rat.intCast_mul, Rat.intCast_mul, Rat.intCast_natCast, ← hi]
  have e1 : ef (Ss.take j) X * ((Q : Rat) * (G : Rat)) = (ef (Ss.take j) X * (Q : Rat)) * (G : Rat) := by grind
  rw [e1, e]
  grind
end FK
namespace FQ
open PySem L2 FK
def top (i : Nat) : Stmt := PySem.Challenge.pw_fairknife_k11_whole_alike.main.body.getD i (.Pass ⟨0, 0, 0, 0⟩)
abbrev s_is_whole : Stmt := top 8
abbrev s_greatest_divisor : Stmt := top 9
abbrev s_is_fraction : Stmt := top 10
abbrev s_made : Stmt := top 11
abbrev s_plus : Stmt := top 12
abbrev s_minus : Stmt := top 13
abbrev s_times : Stmt := top 14
abbrev s_over : Stmt := top 15
abbrev s_below : Stmt := top 16
abbrev s_apart : Stmt := top 18
abbrev s_reaches : Stmt := top 19
abbrev s_crossing : Stmt := top 20
abbrev s_reached : Stmt := top 21
abbrev s_parted : Stmt := top 22
abbrev s_is_span : Stmt := top 26
abbrev s_check_piece : Stmt := top 27
abbrev s_check_step : Stmt := top 32
abbrev s_check_steps : Stmt := top 33
abbrev s_check_tastes : Stmt := top 34
abbrev s_worth_line : Stmt := top 35
abbrev m_Taste___init__ : Stmt := inClass (top 36) 0
abbrev m_Taste_steps : Stmt := inClass (top 36) 1
abbrev m_Taste_corners : Stmt := inClass (top 36) 2
abbrev m_Taste_worth_up_to : Stmt := inClass (top 36) 3
abbrev m_Taste_point_at : Stmt := inClass (top 36) 4
abbrev m_Taste_mark : Stmt := inClass (top 36) 7
abbrev s_check_takers : Stmt := top 38
abbrev s_next_end_line : Stmt := top 39
abbrev s_common_worth : Stmt := top 40
abbrev m_Alike_deal : Stmt := inClass (top 42) 0
abbrev s__law_cell_at : Stmt := top 44
abbrev s__law_mixed : Stmt := top 45
abbrev s__law_low : Stmt := top 46
abbrev s__law_less : Stmt := top 47
abbrev s__law_sum : Stmt := top 48
abbrev s__law_left : Stmt := top 49
abbrev s__law_steps_by : Stmt := top 50
abbrev s__law_area : Stmt := top 51
abbrev s__law_worth : Stmt := top 52
abbrev s__law_fraction : Stmt := top 53
abbrev s__law_piece : Stmt := top 54
abbrev s__law_dealt : Stmt := top 55
abbrev s_law : Stmt := top 56
end FQ
namespace FQ
open PySem L2 FK
def Fit (q : Rat) : Prop := 0 ≤ q ∧ Bd 1990 q
def FrQ (K : PySem.W.Frag) (H : Hp) (x : V) (q : Rat) : Prop := FrR K H x (fr q)
theorem FrQ.same {K : PySem.W.Frag} {H H' : Hp} {x : V} {q : Rat} (s : Same H H') (h : FrQ K H x q) : FrQ K H' x q := FrR.same s h
theorem FrQ.sq {K : PySem.W.Frag} {H : Hp} {x : V} {q : Rat} (h : FrQ K H x q) : ∃ p, x = .ref p ∧ SqT K H p [.int q.num, .int (q.den : Int)] := FrR.sq h
theorem FrQ.of {K : PySem.W.Frag} {H : Hp} {p : Addr} {a b : Int} {q : Rat} (h : SqT K H p [.int a, .int b]) (ha : a = q.num) (hb : b = (q.den : Int)) : FrQ K H (.ref p) q := ⟨p, _, _, rfl, h, by rw [ha]; rfl, by rw [hb]; rfl⟩
theorem rpe_fr {K : PySem.W.Frag} : RpE K (FrQ K) 1 where
 inj := fun hK I h1 h2 => fr_inj ((rpe_pair (d := 0) rpe_int rpe_int).inj hK I h1 h2)
 eq := fun {X pins σ H s A x y u v a b} hK I hu h1 h2 r1 r2 => by
  have := (rpe_pair (d := 0) rpe_int rpe_int).eq hK I hu h1 h2 r1 r2
  rw [fr_dec] at this
  exact this
abbrev CoQ (K : PySem.W.Frag) := rpPair K (FrQ K) (FrQ K)
theorem CoQ.same {K : PySem.W.Frag} {H H' : Hp} {x : V} {d : Rat × Rat} (s : Same H H') (h : CoQ K H x d) : CoQ K H' x d := by
 obtain ⟨p, y, z, rfl, q, h1, h2⟩ := h
 exact ⟨p, y, z, rfl, s.sqT q, h1.same s, h2.same s⟩
theorem Fit.nn {q : Rat} (h : Fit q) : 0 ≤ q.num := num_nn h.1
theorem Fit.s1 {q : Rat} (h : Fit q) : Sm q.num := .of_bits h.2.1 (by decide)
theorem Fit.s2 {q : Rat} (h : Fit q) : Sm (q.den : Int) := .of_bits (by rw [Int.natAbs_natCast]; exact h.2.2) (by decide)
theorem Fit.zero : Fit 0 := ⟨Rat.le_refl, by decide, by show (1 : Nat) < 2 ^ 1990; exact Nat.one_lt_two_pow (by decide)⟩
theorem Bd.fit {n : Nat} {q : Rat} (h : Bd n q) (h0 : 0 ≤ q) (hn : n ≤ 1990) : Fit q := ⟨h0, h.mono hn⟩
theorem sm_mul {a b : Int} {m n : Nat} (h1 : a.natAbs < 2 ^ m) (h2 : b.natAbs < 2 ^ n) (h : m + n ≤ 4000) : Sm (a * b) := .of_bits (n := m + n) (by rw [Int.natAbs_mul]; exact mul_lt_pow h1 h2) h
theorem Fit.dd {q r : Rat} (h1 : Fit q) (h2 : Fit r) : Sm ((q.den : Int) * (r.den : Int)) := sm_mul (m := 1990) (n := 1990) (by rw [Int.natAbs_natCast]; exact h1.2.2) (by rw [Int.natAbs_natCast]; exact h2.2.2) (by decide)
theorem Fit.dn {q r : Rat} (h1 : Fit q) (h2 : Fit r) : Sm ((q.den : Int) * r.num) := sm_mul (m := 1990) (n := 1990) (by rw [Int.natAbs_natCast]; exact h1.2.2) h2.2.1 (by decide)
def spWhole : Sp := fun vs H Q _ => ∃ i : Int, vs = [.int i] ∧ Q (.bl true) H
def spGcd : Sp := fun vs H Q _ => ∃ a b : Int, vs = [.int a, .int b] ∧ 0 ≤ a ∧ 0 ≤ b ∧ Q (.int (G a b)) H
def spMade : Sp := fun vs H Q _ => ∃ a b : Int, vs = [.int a, .int b] ∧ 0 ≤ a ∧ 0 < b ∧ Sm b ∧ ∀ p, H p = none → Q (.ref p) (upd H p (.tup [.int (lo a b), .int (hi a b)]))
def spMadeQ (K : PySem.W.Frag) : Sp := fun vs H Q _ => ∃ a b : Int, vs = [.int a, .int b] ∧ 0 ≤ a ∧ 0 < b ∧ Sm b ∧ ∀ v H', Same H H' → FrQ K H' v ((a : Rat) / (b : Rat)) → Q v H'
def spTwo (K : PySem.W.Frag) (f g : Int → Int → Int → Int → Int) : Sp := fun vs H Q _ => ∃ (p q : Addr) (a b c d : Int), vs = [.ref p, .ref q] ∧ SqT K H p [.int a, .int b] ∧ SqT K H q [.int c, .int d] ∧ (Sm a ∧ Sm b ∧ Sm c ∧ Sm d) ∧
 (0 ≤ f a b c d ∧ 0 < g a b c d ∧ Sm (g a b c d)) ∧ ∀ r, H r = none → Q (.ref r) (upd H r (.tup [.int (lo (f a b c d) (g a b c d)), .int (hi (f a b c d) (g a b c d))]))
def spOp (K : PySem.W.Frag) (f : Rat → Rat → Rat) (c : Rat → Rat → Prop) : Sp := fun vs H Q _ => ∃ (x y : V) (q r : Rat), vs = [x, y] ∧ FrQ K H x q ∧ FrQ K H y r ∧ Fit q ∧ Fit r ∧ c q r ∧ ∀ v H', Same H H' → FrQ K H' v (f q r) → Q v H'
abbrev spPlus (K : PySem.W.Frag) := spOp K (fun a b => a + b) (fun _ _ => True)
abbrev spMinus (K : PySem.W.Frag) := spOp K (fun a b => a - b) (fun a b => b ≤ a)
abbrev spTimes (K : PySem.W.Frag) := spOp K (fun a b => a * b) (fun _ _ => True)
abbrev spOver (K : PySem.W.Frag) := spOp K (fun a b => a / b) (fun _ b => 0 < b)
def spBelow (K : PySem.W.Frag) : Sp := fun vs H Q _ => ∃ (x y : V) (q r : Rat), vs = [x, y] ∧ FrQ K H x q ∧ FrQ K H y r ∧ Fit q ∧ Fit r ∧ Q (.bl (decide (q < r))) H
def spFrac (K : PySem.W.Frag) : Sp := fun vs H Q _ => ∃ (x : V) (q : Rat), vs = [x] ∧ FrQ K H x q ∧ 0 ≤ q ∧ Q (.bl true) H
structure Txt (K : PySem.W.Frag) (mg : Str → Option Value) (aL aR : Addr) : Prop where
 isi : mg "isinstance" = none
 int : mg "int" = none
 bool : mg "bool" = none
 tuple : mg "tuple" = none
 list : mg "list" = none
 len : mg "len" = none
 range : mg "range" = none
 zip : mg "zip" = none
 sorted : mg "sorted" = none
 any : mg "any" = none
 enumerate : mg "enumerate" = none
 reversed : mg "reversed" = none
 left : mg "LEFT_END" = some (.ref aL)
 leftT : ∀ H : Hp, SqT K H aL [.int 0, .int 1]
 right : mg "RIGHT_END" = some (.ref aR)
 rightT : ∀ H : Hp, SqT K H aR [.int 1, .int 1]
theorem sqK {K : PySem.W.Frag} {a : Addr} {od : Option Addr} {i j : Int} {t u : Tok} {n : Nat} {sl : Array (Option Value)} (h : K.lookup a = some ⟨.type "tuple", od, .seq #[.int i t, .int j u] n, sl⟩) : ∀ H : Hp, SqT K H a [.int i, .int j] :=
 fun _ => .inr ⟨_, _, n, h, rfl, rfl, (by show 2 ≤ sizeLine; decide), .cons ⟨t, rfl⟩ (.cons ⟨u, rfl⟩ .nil)⟩
theorem Txt.l {K : PySem.W.Frag} {mg : Str → Option Value} {aL aR : Addr} (T : Txt K mg aL aR) (H : Hp) : FrQ K H (.ref aL) 0 := .of (T.leftT H) rfl rfl
theorem Txt.r {K : PySem.W.Frag} {mg : Str → Option Value} {aL aR : Addr} (T : Txt K mg aL aR) (H : Hp) : FrQ K H (.ref aR) 1 := .of (T.rightT H) rfl rfl
theorem Fit.one : Fit 1 := ⟨by decide, by show (1 : Nat) < 2 ^ 1990; exact Nat.one_lt_two_pow (by decide), by show (1 : Nat) < 2 ^ 1990; exact Nat.one_lt_two_pow (by decide)⟩
section
variable {P : Program} {w : World} {K : PySem.W.Frag} {mg : Str → Option Value} {base : Heap} {aL aR : Addr}
theorem scWhole : FnScope ["thing"] ["thing"] (defScope s_is_whole) := ⟨rfl, rfl, rfl, by decide +kernel, rfl, by decide +kernel, by decide +kernel⟩
theorem ok_whole {f : Addr} {fd : FuncData} (D : DefAt K mg "is_whole" s_is_whole ["thing"] f fd) (T : Txt K mg aL aR) : FnOk P w K mg base CX0 1 f fd ["thing"] spWhole := by
 refine D.fn.ok scWhole (fun vs H Q E h => ?_) (fun cdv A outer s H vs Q E hr h => ?_)
 ·obtain ⟨i, rfl, _⟩ := h
  rfl
 ·obtain ⟨i, rfl, k⟩ := h
  refine ⟨_, pss_one (ps_ret (pe_and (pe_isi (pv 0) rfl T.isi rfl T.int PyProof.Rows.boot_int) (pe_one (pe_not (pe_isi (pv 0) rfl T.isi rfl T.bool PyProof.Rows.boot_bool))))), ?_⟩
  refine ⟨_, rfl, _, _, .of (.int _), kit_int _, _, rfl, ?_⟩
  refine iteT ?_
  exact ⟨_, rfl, _, _, .of (.int _), kit_int_bool _, _, rfl, k⟩
theorem scGcd : FnScope ["a", "b", "rest"] ["a", "b"] (defScope s_greatest_divisor) := ⟨rfl, rfl, rfl, by decide +kernel, rfl, by decide +kernel, by decide +kernel⟩
def mu1 (σ : St) : Nat := match σ with
 | [_, some (.int b), _] => b.toNat
 | _ => 0
theorem ok_gcd {f : Addr} {fd : FuncData} (D : DefAt K mg "greatest_divisor" s_greatest_divisor ["a", "b"] f fd) : FnOk P w K mg base CX0 1 f fd ["a", "b"] spGcd := by
 refine D.fn.ok scGcd (fun vs H Q E h => ?_) (fun cdv A outer s H vs Q E hr h => ?_)
 ·obtain ⟨a, b, rfl, _⟩ := h
  rfl
 ·obtain ⟨a0, b0, rfl, ha, hb, k⟩ := h
  refine ⟨_, pss_cons (ps_while PassesOwn.never (pt_cmpR op_gt (pv 1) pe_int (nomark _))
   (pss_cons (ps_set (i := 2) scGcd.nd rfl (Or.inl rfl) (pe_op op_mod (pv 0) (pv 1)))
   (pss_cons (ps_set (i := 0) scGcd.nd rfl (Or.inl rfl) (pv 1))
   (pss_one (ps_set (i := 1) scGcd.nd rfl (Or.inl rfl) (pv 2))))))
   (pss_one (ps_ret (pv 0))), ?_⟩
  refine while_by (fun σ H' => H' = H ∧ ∃ (a b : Int) (r : Option V), σ = [some (.int a), some (.int b), r] ∧ 0 ≤ a ∧ 0 ≤ b ∧ G a b = G a0 b0) (fun σ _ => mu1 σ) ⟨rfl, a0, b0, none, rfl, ha, hb, rfl⟩ ?_ ?_
  ·rintro σ H' ⟨rfl, a, b, r, rfl, ha, hb, e⟩
   refine ⟨_, rfl, _, _, rfl, rfl, _, rfl, ?_⟩
   refine ite2 (fun h => ?_) (fun h => ?_)
   ·have hb' : 0 < b := of_decide_eq_true h
    refine ⟨_, rfl, _, rfl, _, _, rfl, rfl, hb', _, rfl, _, rfl, ?_⟩
    refine ⟨⟨rfl, b, a % b, _, rfl, hb, Int.emod_nonneg _ (by omega), (G_step ha hb').trans e⟩, ?_⟩
    show (a % b).toNat < b.toNat
    have := Int.emod_lt_of_pos a hb'
    omega
   ·have hb' : b = 0 := by
     have : ¬ 0 < b := fun z => h (decide_eq_true z)
     omega
    refine ⟨_, rfl, ?_⟩
    have e' : a = G a0 b0 := by rw [← e, hb', G_zero ha]
    rw [e']
    exact k
  ·rintro σ H Q Q' hq ⟨v, e, i, j, e1, e2, z, e3, q⟩
   exact ⟨v, e, i, j, e1, e2, z, e3, hq _ _ q⟩
theorem scMade : FnScope ["a", "b", "common"] ["a", "b"] (defScope s_made) := ⟨rfl, rfl, rfl, by decide +kernel, rfl, by decide +kernel, by decide +kernel⟩
theorem ok_made {f : Addr} {fd : FuncData} (D : DefAt K mg "made" s_made ["a", "b"] f fd) (CW : Cl P w K mg base "is_whole" 1 ["thing"] spWhole) (CG : Cl P w K mg base "greatest_divisor" 1 ["a", "b"] spGcd) :
  FnOk P w K mg base CX0 2 f fd ["a", "b"] spMade := by
 refine D.fn.ok scMade (fun vs H Q E h => ?_) (fun cdv A outer s H vs Q E hr h => ?_)
 ·obtain ⟨a, b, rfl, _⟩ := h
  rfl
 ·obtain ⟨a, b, rfl, ha, hb, hS, k⟩ := h
  refine ⟨_, pss_cons (ps_if (PW.pt (pw_or (pt_not (pt_val (pe_cl CW hr rfl (pa_cons (pv 0) pa_nil)))) (pw_or1 (pt_not (pt_val (pe_cl CW hr rfl (pa_cons (pv 1) pa_nil))))))) pss_never pss_nil)
   (pss_cons (ps_if (PW.pt (pw_or (pt_cmpR op_lt (pv 0) pe_int (nomark _)) (pw_or1 (pt_cmpR op_lt (pv 1) pe_int (nomark _))))) pss_never pss_nil)
   (pss_cons (ps_set (i := 2) scMade.nd rfl (Or.inl rfl) (pe_cl CG hr rfl (pa_cons (pv 0) (pa_cons (pv 1) pa_nil))))
   (pss_one (ps_ret (pe_tup (pa_cons (pe_op op_fdivS (pv 0) (pv 2)) (pa_cons (pe_op op_fdivS (pv 1) (pv 2)) pa_nil))))))), ?_⟩
  refine ⟨_, rfl, a, rfl, _, rfl, iteF ?_⟩
  refine ⟨_, rfl, b, rfl, _, rfl, iteF ?_⟩
  refine ⟨_, rfl, _, _, rfl, rfl, _, rfl, iteN (by omega) ?_⟩
  refine ⟨_, rfl, _, _, rfl, rfl, _, rfl, iteN (by omega) ?_⟩
  have gp := G_pos (a := a) hb
  have gS : Sm (G a b) := hS.mono (by have := G_le (a := a) hb; omega)
  refine ⟨_, rfl, _, rfl, a, b, rfl, ha, Int.le_of_lt hb, ?_⟩
  exact ⟨_, rfl, _, rfl, _, _, rfl, rfl, ⟨gp, gS⟩, _, rfl, _, rfl, _, _, rfl, rfl, ⟨gp, gS⟩, (by show 2 ≤ sizeLine; decide), fun p hp => k p hp⟩
theorem madeQ : ∀ vs H Q E, spMadeQ K vs H Q E → spMade vs H Q E := by
 rintro vs H Q E ⟨a, b, rfl, ha, hb, hS, k⟩
 refine ⟨a, b, rfl, ha, hb, hS, fun p hp => k _ _ (Same.upd hp) ?_⟩
 obtain ⟨e1, e2⟩ := low_fr (a := a) hb
 exact .of sqT_new e1 e2
theorem two_op {f g : Int → Int → Int → Int → Int} {F : Rat → Rat → Rat} {c : Rat → Rat → Prop}
  (h : ∀ q r : Rat, Fit q → Fit r → c q r → (0 ≤ f q.num q.den r.num r.den ∧ 0 < g q.num q.den r.num r.den ∧ Sm (g q.num q.den r.num r.den)) ∧ ((f q.num q.den r.num r.den : Int) : Rat) / ((g q.num q.den r.num r.den : Int) : Rat) = F q r) :
  ∀ vs H Q E, spOp K F c vs H Q E → spTwo K f g vs H Q E := by
 rintro vs H Q E ⟨x, y, q, r, rfl, hx, hy, fq, fr, hc, k⟩
 obtain ⟨p1, rfl, h1⟩ := hx.sq
 obtain ⟨p2, rfl, h2⟩ := hy.sq
 obtain ⟨e1, e2⟩ := h q r fq fr hc
 refine ⟨p1, p2, _, _, _, _, rfl, h1, h2, ⟨fq.s1, fq.s2, fr.s1, fr.s2⟩, e1, fun p hp => k _ _ (Same.upd hp) ?_⟩
 obtain ⟨l1, l2⟩ := low_fr (a := f q.num q.den r.num r.den) e1.2.1
 rw [e2] at l1 l2
 exact .of sqT_new l1 l2
theorem low_nn {q r : Rat} (h1 : Fit q) (h2 : Fit r) : 0 < (q.den : Int) * (r.den : Int) := Int.mul_pos (den_pos q) (den_pos r)
theorem sum_op : ∀ vs H Q E, spPlus K vs H Q E → spTwo K (fun a b c d => a * d + c * b) (fun _ b _ d => b * d) vs H Q E :=
 two_op fun q r h1 h2 _ => ⟨⟨Int.add_nonneg (Int.mul_nonneg h1.nn (Int.le_of_lt (den_pos r))) (Int.mul_nonneg h2.nn (Int.le_of_lt (den_pos q))), low_nn h1 h2, h1.dd h2⟩, plus_fr q r⟩
theorem left_op : ∀ vs H Q E, spMinus K vs H Q E → spTwo K (fun a b c d => a * d - c * b) (fun _ b _ d => b * d) vs H Q E :=
 two_op fun q r h1 h2 h3 => ⟨⟨by
  have := (Rat.le_iff r q).mp h3
  omega, low_nn h1 h2, h1.dd h2⟩, minus_fr q r⟩
theorem times_op : ∀ vs H Q E, spTimes K vs H Q E → spTwo K (fun a _ c _ => a * c) (fun _ b _ d => b * d) vs H Q E :=
 two_op fun q r h1 h2 _ => ⟨⟨Int.mul_nonneg h1.nn h2.nn, low_nn h1 h2, h1.dd h2⟩, times_fr q r⟩
theorem over_op : ∀ vs H Q E, spOver K vs H Q E → spTwo K (fun a _ _ d => a * d) (fun _ b c _ => b * c) vs H Q E :=
 two_op fun q r h1 h2 h3 => ⟨⟨Int.mul_nonneg h1.nn (Int.le_of_lt (den_pos r)), Int.mul_pos (den_pos q) (num_pos h3), h1.dn h2⟩, over_fr h3⟩
theorem scPlus : FnScope ["one", "other"] ["one", "other"] (defScope s_plus) := ⟨rfl, rfl, rfl, by decide +kernel, rfl, by decide +kernel, by decide +kernel⟩
theorem scMinus : FnScope ["one", "other"] ["one", "other"] (defScope s_minus) := ⟨rfl, rfl, rfl, by decide +kernel, rfl, by decide +kernel, by decide +kernel⟩
theorem scTimes : FnScope ["one", "other"] ["one", "other"] (defScope s_times) := ⟨rfl, rfl, rfl, by decide +kernel, rfl, by decide +kernel, by decide +kernel⟩
theorem scOver : FnScope ["one", "other"] ["one", "other"] (defScope s_over) := ⟨rfl, rfl, rfl, by decide +kernel, rfl, by decide +kernel, by decide +kernel⟩
theorem scBelow : FnScope ["one", "other"] ["one", "other"] (defScope s_below) := ⟨rfl, rfl, rfl, by decide +kernel, rfl, by decide +kernel, by decide +kernel⟩
theorem ok_plus {f : Addr} {fd : FuncData} (D : DefAt K mg "plus" s_plus ["one", "other"] f fd) (CM : Cl P w K mg base "made" 2 ["a", "b"] spMade) :
  FnOk P w K mg base CX0 3 f fd ["one", "other"] (spPlus K) := by
 refine FnOk.imp (sp := spTwo K (fun a b c d => a * d + c * b) (fun _ b _ d => b * d)) ?_ sum_op
 refine D.fn.ok scPlus (fun vs H Q E h => ?_) (fun cdv A outer s H vs Q E hr h => ?_)
 ·obtain ⟨p, q, a, b, c, d, rfl, _⟩ := h
  rfl
 ·obtain ⟨p, q, a, b, c, d, rfl, hp, hq, ⟨sa, sb, sc, sd⟩, ⟨n1, n2, n3⟩, k⟩ := h
  refine ⟨_, pss_one (ps_ret (pe_cl CM hr rfl
   (pa_cons (pe_op op_add (pe_op op_mulS (pe_ix ix_tup (pv 0) pe_int (fun _ _ => rfl)) (pe_ix ix_tup (pv 1) pe_int (fun _ _ => rfl))) (pe_op op_mulS (pe_ix ix_tup (pv 1) pe_int (fun _ _ => rfl)) (pe_ix ix_tup (pv 0) pe_int (fun _ _ => rfl))))
   (pa_cons (pe_op op_mulS (pe_ix ix_tup (pv 0) pe_int (fun _ _ => rfl)) (pe_ix ix_tup (pv 1) pe_int (fun _ _ => rfl))) pa_nil)))), ?_⟩
  refine ⟨_, rfl, p, _, _, _, rfl, rfl, hp, rfl, _, rfl, q, _, _, _, rfl, rfl, hq, rfl, _, _, rfl, rfl, ⟨sa, sd⟩, ?_⟩
  refine ⟨_, rfl, q, _, _, _, rfl, rfl, hq, rfl, _, rfl, p, _, _, _, rfl, rfl, hp, rfl, _, _, rfl, rfl, ⟨sc, sb⟩, _, _, rfl, rfl, ?_⟩
  refine ⟨_, rfl, p, _, _, _, rfl, rfl, hp, rfl, _, rfl, q, _, _, _, rfl, rfl, hq, rfl, _, _, rfl, rfl, ⟨sb, sd⟩, ?_⟩
  exact ⟨_, _, rfl, n1, n2, n3, k⟩
theorem ok_minus {f : Addr} {fd : FuncData} (D : DefAt K mg "minus" s_minus ["one", "other"] f fd) (CM : Cl P w K mg base "made" 2 ["a", "b"] spMade) :
  FnOk P w K mg base CX0 3 f fd ["one", "other"] (spMinus K) := by
 refine FnOk.imp (sp := spTwo K (fun a b c d => a * d - c * b) (fun _ b _ d => b * d)) ?_ left_op
 refine D.fn.ok scMinus (fun vs H Q E h => ?_) (fun cdv A outer s H vs Q E hr h => ?_)
 ·obtain ⟨p, q, a, b, c, d, rfl, _⟩ := h
  rfl
 ·obtain ⟨p, q, a, b, c, d, rfl, hp, hq, ⟨sa, sb, sc, sd⟩, ⟨n1, n2, n3⟩, k⟩ := h
  refine ⟨_, pss_one (ps_ret (pe_cl CM hr rfl
   (pa_cons (pe_op op_sub (pe_op op_mulS (pe_ix ix_tup (pv 0) pe_int (fun _ _ => rfl)) (pe_ix ix_tup (pv 1) pe_int (fun _ _ => rfl))) (pe_op op_mulS (pe_ix ix_tup (pv 1) pe_int (fun _ _ => rfl)) (pe_ix ix_tup (pv 0) pe_int (fun _ _ => rfl))))
   (pa_cons (pe_op op_mulS (pe_ix ix_tup (pv 0) pe_int (fun _ _ => rfl)) (pe_ix ix_tup (pv 1) pe_int (fun _ _ => rfl))) pa_nil)))), ?_⟩
  refine ⟨_, rfl, p, _, _, _, rfl, rfl, hp, rfl, _, rfl, q, _, _, _, rfl, rfl, hq, rfl, _, _, rfl, rfl, ⟨sa, sd⟩, ?_⟩
  refine ⟨_, rfl, q, _, _, _, rfl, rfl, hq, rfl, _, rfl, p, _, _, _, rfl, rfl, hp, rfl, _, _, rfl, rfl, ⟨sc, sb⟩, _, _, rfl, rfl, ?_⟩
  refine ⟨_, rfl, p, _, _, _, rfl, rfl, hp, rfl, _, rfl, q, _, _, _, rfl, rfl, hq, rfl, _, _, rfl, rfl, ⟨sb, sd⟩, ?_⟩
  exact ⟨_, _, rfl, n1, n2, n3, k⟩
theorem ok_times {f : Addr} {fd : FuncData} (D : DefAt K mg "times" s_times ["one", "other"] f fd) (CM : Cl P w K mg base "made" 2 ["a", "b"] spMade) :
  FnOk P w K mg base CX0 3 f fd ["one", "other"] (spTimes K) := by
 refine FnOk.imp (sp := spTwo K (fun a _ c _ => a * c) (fun _ b _ d => b * d)) ?_ times_op
 refine D.fn.ok scTimes (fun vs H Q E h => ?_) (fun cdv A outer s H vs Q E hr h => ?_)
 ·obtain ⟨p, q, a, b, c, d, rfl, _⟩ := h
  rfl
 ·obtain ⟨p, q, a, b, c, d, rfl, hp, hq, ⟨sa, sb, sc, sd⟩, ⟨n1, n2, n3⟩, k⟩ := h
  refine ⟨_, pss_one (ps_ret (pe_cl CM hr rfl
   (pa_cons (pe_op op_mulS (pe_ix ix_tup (pv 0) pe_int (fun _ _ => rfl)) (pe_ix ix_tup (pv 1) pe_int (fun _ _ => rfl)))
   (pa_cons (pe_op op_mulS (pe_ix ix_tup (pv 0) pe_int (fun _ _ => rfl)) (pe_ix ix_tup (pv 1) pe_int (fun _ _ => rfl))) pa_nil)))), ?_⟩
  refine ⟨_, rfl, p, _, _, _, rfl, rfl, hp, rfl, _, rfl, q, _, _, _, rfl, rfl, hq, rfl, _, _, rfl, rfl, ⟨sa, sc⟩, ?_⟩
  refine ⟨_, rfl, p, _, _, _, rfl, rfl, hp, rfl, _, rfl, q, _, _, _, rfl, rfl, hq, rfl, _, _, rfl, rfl, ⟨sb, sd⟩, ?_⟩
  exact ⟨_, _, rfl, n1, n2, n3, k⟩
theorem ok_over {f : Addr} {fd : FuncData} (D : DefAt K mg "over" s_over ["one", "other"] f fd) (CM : Cl P w K mg base "made" 2 ["a", "b"] spMade) :
  FnOk P w K mg base CX0 3 f fd ["one", "other"] (spOver K) := by
 refine FnOk.imp (sp := spTwo K (fun a _ _ d => a * d) (fun _ b c _ => b * c)) ?_ over_op
 refine D.fn.ok scOver (fun vs H Q E h => ?_) (fun cdv A outer s H vs Q E hr h => ?_)
 ·obtain ⟨p, q, a, b, c, d, rfl, _⟩ := h
  rfl
 ·obtain ⟨p, q, a, b, c, d, rfl, hp, hq, ⟨sa, sb, sc, sd⟩, ⟨n1, n2, n3⟩, k⟩ := h
  refine ⟨_, pss_one (ps_ret (pe_cl CM hr rfl
   (pa_cons (pe_op op_mulS (pe_ix ix_tup (pv 0) pe_int (fun _ _ => rfl)) (pe_ix ix_tup (pv 1) pe_int (fun _ _ => rfl)))
   (pa_cons (pe_op op_mulS (pe_ix ix_tup (pv 0) pe_int (fun _ _ => rfl)) (pe_ix ix_tup (pv 1) pe_int (fun _ _ => rfl))) pa_nil)))), ?_⟩
  refine ⟨_, rfl, p, _, _, _, rfl, rfl, hp, rfl, _, rfl, q, _, _, _, rfl, rfl, hq, rfl, _, _, rfl, rfl, ⟨sa, sd⟩, ?_⟩
  refine ⟨_, rfl, p, _, _, _, rfl, rfl, hp, rfl, _, rfl, q, _, _, _, rfl, rfl, hq, rfl, _, _, rfl, rfl, ⟨sb, sc⟩, ?_⟩
  exact ⟨_, _, rfl, n1, n2, n3, k⟩
theorem ok_below {f : Addr} {fd : FuncData} (D : DefAt K mg "below" s_below ["one", "other"] f fd) : FnOk P w K mg base CX0 1 f fd ["one", "other"] (spBelow K) := by
 refine D.fn.ok scBelow (fun vs H Q E h => ?_) (fun cdv A outer s H vs Q E hr h => ?_)
 ·obtain ⟨x, y, q, r, rfl, _⟩ := h
  rfl
 ·obtain ⟨x, y, u, v, rfl, hx, hy, fu, fv, k⟩ := h
  obtain ⟨p, rfl, hp⟩ := hx.sq
  obtain ⟨q, rfl, hq⟩ := hy.sq
  refine ⟨_, pss_one (ps_ret (pe_cmpR op_lt (pe_op op_mulS (pe_ix ix_tup (pv 0) pe_int (fun _ _ => rfl)) (pe_ix ix_tup (pv 1) pe_int (fun _ _ => rfl))) (pe_op op_mulS (pe_ix ix_tup (pv 1) pe_int (fun _ _ => rfl)) (pe_ix ix_tup (pv 0) pe_int (fun _ _ => rfl))) (nomark _))), ?_⟩
  refine ⟨_, rfl, p, _, _, _, rfl, rfl, hp, rfl, _, rfl, q, _, _, _, rfl, rfl, hq, rfl, _, _, rfl, rfl, ⟨fu.s1, fv.s2⟩, ?_⟩
  refine ⟨_, rfl, q, _, _, _, rfl, rfl, hq, rfl, _, rfl, p, _, _, _, rfl, rfl, hp, rfl, _, _, rfl, rfl, ⟨fv.s1, fu.s2⟩, _, _, rfl, rfl, ?_⟩
  rw [decide_eq_decide.mpr (Rat.lt_iff u v)] at k
  exact k
theorem scFrac : FnScope ["thing", "a", "b"] ["thing"] (defScope s_is_fraction) := ⟨rfl, rfl, rfl, by decide +kernel, rfl, by decide +kernel, by decide +kernel⟩
theorem ok_frac {f : Addr} {fd : FuncData} (D : DefAt K mg "is_fraction" s_is_fraction ["thing"] f fd) (CW : Cl P w K mg base "is_whole" 1 ["thing"] spWhole) (CG : Cl P w K mg base "greatest_divisor" 1 ["a", "b"] spGcd) (T : Txt K mg aL aR) :
  FnOk P w K mg base CX0 2 f fd ["thing"] (spFrac K) := by
 refine D.fn.ok scFrac (fun vs H Q E h => ?_) (fun cdv A outer s H vs Q E hr h => ?_)
 ·obtain ⟨x, q, rfl, _⟩ := h
  rfl
 ·obtain ⟨x, q, rfl, hx, h0, k⟩ := h
  obtain ⟨p, rfl, hp⟩ := hx.sq
  have ha := num_nn h0
  have hb := den_pos q
  refine ⟨_, pss_cons (ps_if (PW.pt (pw_or (pt_not (pt_val (pe_isi (pv 0) rfl T.isi rfl T.tuple PyProof.Rows.boot_tuple))) (pw_or1 (pt_cmpR op_ne (pe_callB call_len_seq (by rfl) T.len PySem.boot_len (pa_cons (pv 0) pa_nil)) pe_int (nomark _))))) pss_never pss_nil)
   (pss_cons (ps_set (i := 1) scFrac.nd rfl (Or.inl rfl) (pe_ix ix_tup (pv 0) pe_int (fun _ _ => rfl)))
   (pss_cons (ps_set (i := 2) scFrac.nd rfl (Or.inl rfl) (pe_ix ix_tup (pv 0) pe_int (fun _ _ => rfl)))
   (pss_cons (ps_if (PW.pt (pw_or (pt_not (pt_val (pe_cl CW hr rfl (pa_cons (pv 1) pa_nil)))) (pw_or (pt_not (pt_val (pe_cl CW hr rfl (pa_cons (pv 2) pa_nil))))
    (pw_or (pt_cmpR op_lt (pv 1) pe_int (nomark _)) (pw_or1 (pt_cmpR op_lt (pv 2) pe_int (nomark _))))))) pss_never pss_nil)
   (pss_one (ps_ret (pe_cmpR op_eq (pe_cl CG hr rfl (pa_cons (pv 1) (pa_cons (pv 2) pa_nil))) pe_int (nomark _))))))), ?_⟩
  refine ⟨_, rfl, _, _, .sqT hp, kit_tuple _, _, rfl, iteF ?_⟩
  refine ⟨_, rfl, p, _, rfl, .inr hp, rfl, _, rfl, iteNS rfl ?_⟩
  refine ⟨_, rfl, p, _, _, _, rfl, rfl, hp, rfl, _, rfl, p, _, _, _, rfl, rfl, hp, rfl, ?_⟩
  refine ⟨_, rfl, q.num, rfl, _, rfl, iteF ?_⟩
  refine ⟨_, rfl, (q.den : Int), rfl, _, rfl, iteF ?_⟩
  refine ⟨_, rfl, _, _, rfl, rfl, _, rfl, iteN (by omega) ?_⟩
  refine ⟨_, rfl, _, _, rfl, rfl, _, rfl, iteN (by omega) ?_⟩
  refine ⟨_, rfl, _, rfl, q.num, (q.den : Int), rfl, ha, Int.le_of_lt hb, rfl, ?_⟩
  have e : decide (V.int (G q.num q.den) = V.int 1) = true := decide_eq_true (by rw [fr_cop])
  rw [e]
  exact k
end
end FQ
namespace FQ
open PySem L2 FK
abbrev cx (P : Program) (w : World) (K : PySem.W.Frag) (mg : Str → Option Value) (base : Heap) (N : List Str) (q : Str) (st : Stmt) (f : Addr) (cdv : Value) (A : Around) (outer : List Env) (s : Shared) (H : Hp) (E : XK) : Cx := (cxOf CX0 P w K mg base N q (defScope st) f cdv A outer s H E).nox
abbrev spApart (K : PySem.W.Frag) := spOp K apt (fun _ _ => True)
def Ft (n : Nat) (q : Rat) : Prop := 0 ≤ q ∧ Bd n q
theorem Ft.fit {n : Nat} {q : Rat} (h : Ft n q) (hn : n ≤ 1990 := by decide) : Fit q := ⟨h.1, h.2.mono hn⟩
theorem apt_nn (x y : Rat) : 0 ≤ apt x y := by unfold apt; grind
theorem apt_pos {x y : Rat} (h : x ≠ y) : 0 < apt x y := by unfold apt; grind
theorem apt_bd {x y : Rat} {m n : Nat} (h1 : Bd m x) (h2 : Bd n y) : Bd (m + n + 1) (apt x y) := by
 unfold apt
 split
 ·rw [Nat.add_comm m n]
  exact h2.sub h1
 ·exact h1.sub h2
def spReaches (K : PySem.W.Frag) : Sp := fun vs H Q _ => ∃ (x y z : V) (p q : Rat × Rat) (u : Rat), vs = [x, y, z] ∧ CoQ K H x p ∧ CoQ K H y q ∧ FrQ K H z u ∧ Fit p.2 ∧ Fit q.2 ∧ Fit u ∧ Q (.bl (decide (Rch p q u))) H
def spCrossing (K : PySem.W.Frag) : Sp := fun vs H Q _ => ∃ (x y z : V) (p q : Rat × Rat) (u : Rat), vs = [x, y, z] ∧ CoQ K H x p ∧ CoQ K H y q ∧ FrQ K H z u ∧ (Ft 280 p.1 ∧ Ft 280 p.2 ∧ Ft 280 q.1 ∧ Ft 280 q.2 ∧ Ft 280 u) ∧ p.1 ≤ q.1 ∧ Rch p q u ∧
 ∀ v H', Same H H' → FrQ K H' v (crs p q u) → Q v H'
def AnsQ (K : PySem.W.Frag) (H : Hp) (v : V) : Option Rat → Prop
 | none => v = .non
 | some q => FrQ K H v q
structure LnOk (L : List (Rat × Rat)) : Prop where
 few : L.length ≤ 1000
 fit : ∀ p ∈ L, Ft 280 p.1 ∧ Ft 280 p.2
 rise : ∀ (i : Nat) (p q : Rat × Rat), L[i]? = some p → L[i + 1]? = some q → p.1 ≤ q.1
def spReached (K : PySem.W.Frag) : Sp := fun vs H Q _ => ∃ (a : Addr) (xs : List V) (z : V) (L : List (Rat × Rat)) (u : Rat), vs = [.ref a, z] ∧ SqL K H a xs ∧ Paired (CoQ K H) xs L ∧ FrQ K H z u ∧ LnOk L ∧ Ft 280 u ∧
 ∀ v H', Same H H' → AnsQ K H' v (rch L u) → Q v H'
theorem rch_drop {L : List (Rat × Rat)} {u : Rat} {i : Nat} {p q : Rat × Rat} (h1 : L[i]? = some p) (h2 : L[i + 1]? = some q) : rch (L.drop i) u = if Rch p q u then some (crs p q u) else rch (L.drop (i + 1)) u := by
 obtain ⟨l1, e1⟩ := List.getElem?_eq_some_iff.mp h1
 obtain ⟨l2, e2⟩ := List.getElem?_eq_some_iff.mp h2
 rw [List.drop_eq_getElem_cons l1, List.drop_eq_getElem_cons l2, e1, e2]
 rfl
theorem rch_end {L : List (Rat × Rat)} {u : Rat} {i : Nat} (h : L.length ≤ i + 1) : rch (L.drop i) u = none := by
 have : (L.drop i).length ≤ 1 := by rw [List.length_drop]; omega
 match L.drop i, this with
 | [], _ => rfl
 | [_], _ => rfl
section
variable {P : Program} {w : World} {K : PySem.W.Frag} {mg : Str → Option Value} {base : Heap} {aL aR : Addr}
theorem scApart : FnScope ["one", "other"] ["one", "other"] (defScope s_apart) := ⟨rfl, rfl, rfl, by decide +kernel, rfl, by decide +kernel, by decide +kernel⟩
theorem ok_apart {f : Addr} {fd : FuncData} (D : DefAt K mg "apart" s_apart ["one", "other"] f fd) (CB : Cl P w K mg base "below" 1 ["one", "other"] (spBelow K)) (CM : Cl P w K mg base "minus" 3 ["one", "other"] (spMinus K)) :
  FnOk P w K mg base CX0 4 f fd ["one", "other"] (spApart K) := by
 refine D.fn.ok scApart (fun vs H Q E h => ?_) (fun cdv A outer s H vs Q E hr h => ?_)
 ·obtain ⟨x, y, q, r, rfl, _⟩ := h
  rfl
 ·obtain ⟨x, y, q, r, rfl, hx, hy, fq, fr, _, k⟩ := h
  have hr1 : Room 1 _ := hr.mono (by decide)
  refine ⟨_, pss_one (ps_ret (pe_ifExp (pt_val (pe_cl CB hr1 rfl (pa_cons (pv 0) (pa_cons (pv 1) pa_nil)))) (pe_cl CM hr rfl (pa_cons (pv 1) (pa_cons (pv 0) pa_nil))) (pe_cl CM hr rfl (pa_cons (pv 0) (pa_cons (pv 1) pa_nil))))), ?_⟩
  refine ⟨_, rfl, _, rfl, x, y, q, r, rfl, hx, hy, fq, fr, _, rfl, ?_⟩
  refine ite2 (fun h => ?_) (fun h => ?_)
  ·have h' : q < r := of_decide_eq_true h
   refine ⟨_, rfl, _, rfl, y, x, r, q, rfl, hy, hx, fr, fq, Rat.le_of_lt h', fun v H' s hv => k v H' s ?_⟩
   rw [show apt q r = r - q from if_pos h']
   exact hv
  ·have h' : ¬ q < r := fun z => h (decide_eq_true z)
   refine ⟨_, rfl, _, rfl, x, y, q, r, rfl, hx, hy, fq, fr, by grind, fun v H' s hv => k v H' s ?_⟩
   rw [show apt q r = q - r from if_neg h']
   exact hv
theorem scReaches : FnScope ["one", "other", "up"] ["one", "other", "up"] (defScope s_reaches) := ⟨rfl, rfl, rfl, by decide +kernel, rfl, by decide +kernel, by decide +kernel⟩
theorem ok_reaches {f : Addr} {fd : FuncData} (D : DefAt K mg "reaches" s_reaches ["one", "other", "up"] f fd) (CB : Cl P w K mg base "below" 1 ["one", "other"] (spBelow K)) :
  FnOk P w K mg base CX0 2 f fd ["one", "other", "up"] (spReaches K) := by
 refine D.fn.ok scReaches (fun vs H Q E h => ?_) (fun cdv A outer s H vs Q E hr h => ?_)
 ·obtain ⟨x, y, z, p, q, u, rfl, _⟩ := h
  rfl
 ·obtain ⟨x, y, z, p, q, u, rfl, ⟨px, x1, x2, rfl, hx, hx1, hx2⟩, ⟨py, y1, y2, rfl, hy, hy1, hy2⟩, hz, fp, fq, fu, k⟩ := h
  obtain ⟨t, ht, rt⟩ : ∃ t, PSs (cx P w K mg base ["one", "other", "up"] "reaches" s_reaches f cdv A outer s H E) (List.drop 1 (defBody s_reaches)) t ∧ ∀ D : Ends, D.rt = Q → ¬ (p.2 < u ∧ q.2 < u) → t D [some (.ref px), some (.ref py), some z] H := by
   refine ⟨_, pss_one (ps_ret (pe_not (pe_and (pe_cl CB hr rfl (pa_cons (pv 2) (pa_cons (pe_ix ix_tup (pv 0) pe_int (fun _ _ => rfl)) pa_nil))) (pe_one (pe_cl CB hr rfl (pa_cons (pv 2) (pa_cons (pe_ix ix_tup (pv 1) pe_int (fun _ _ => rfl)) pa_nil))))))), fun D hD hn => ?_⟩
   refine ⟨_, rfl, _, rfl, px, _, _, _, rfl, rfl, hx, rfl, z, x2, u, p.2, rfl, hz, hx2, fu, fp, _, rfl, ?_⟩
   refine ite2 (fun h => ?_) (fun h => ?_)
   ·have h' : u < p.2 := of_decide_eq_true h
    refine ⟨_, rfl, _, rfl, py, _, _, _, rfl, rfl, hy, rfl, z, y2, u, q.2, rfl, hz, hy2, fu, fq, _, rfl, ?_⟩
    show D.rt _ H
    rw [hD, show (!decide (u < q.2)) = decide (Rch p q u) by
     by_cases h2 : u < q.2
     ·rw [decide_eq_true h2, decide_eq_false (by unfold Rch; exact fun z => z.2 ⟨h', h2⟩)]
      rfl
     ·rw [decide_eq_false h2, decide_eq_true (by unfold Rch; exact ⟨hn, fun z => h2 z.2⟩)]
      rfl]
    exact k
   ·have h' : ¬ u < p.2 := fun z => h (decide_eq_true z)
    refine ⟨_, rfl, ?_⟩
    show D.rt (.bl true) H
    rw [show true = decide (Rch p q u) from (decide_eq_true (by unfold Rch; exact ⟨hn, fun z => h' z.1⟩)).symm, hD]
    exact k
  refine ⟨_, pss_cons (ps_if (PW.pt (pw_and (pt_val (pe_cl CB hr rfl (pa_cons (pe_ix ix_tup (pv 0) pe_int (fun _ _ => rfl)) (pa_cons (pv 2) pa_nil)))) (pw_and1 (pt_val (pe_cl CB hr rfl (pa_cons (pe_ix ix_tup (pv 1) pe_int (fun _ _ => rfl)) (pa_cons (pv 2) pa_nil))))))) (pss_one (ps_ret pe_bl)) pss_nil) ht, ?_⟩
  refine ⟨_, rfl, px, _, _, _, rfl, rfl, hx, rfl, _, rfl, x2, z, p.2, u, rfl, hx2, hz, fp, fu, _, rfl, ?_⟩
  refine ite2 (fun h => ?_) (fun h => ?_)
  ·have h' : p.2 < u := of_decide_eq_true h
   refine ⟨_, rfl, py, _, _, _, rfl, rfl, hy, rfl, _, rfl, y2, z, q.2, u, rfl, hy2, hz, fq, fu, _, rfl, ?_⟩
   refine ite2 (fun h2 => ?_) (fun h2 => ?_)
   ·have h2' : q.2 < u := of_decide_eq_true h2
    show Q (.bl false) H
    rw [show false = decide (Rch p q u) from (decide_eq_false (by unfold Rch; exact fun z => z.1 ⟨h', h2'⟩)).symm]
    exact k
   ·exact rt _ rfl fun z => h2 (decide_eq_true z.2)
  ·exact iteF (rt _ rfl fun z => h (decide_eq_true z.1))
theorem scCrossing : FnScope ["one", "other", "up", "part"] ["one", "other", "up"] (defScope s_crossing) := ⟨rfl, rfl, rfl, by decide +kernel, rfl, by decide +kernel, by decide +kernel⟩
structure Four (P : Program) (w : World) (K : PySem.W.Frag) (mg : Str → Option Value) (base : Heap) : Prop where
 plus : Cl P w K mg base "plus" 3 ["one", "other"] (spPlus K)
 minus : Cl P w K mg base "minus" 3 ["one", "other"] (spMinus K)
 times : Cl P w K mg base "times" 3 ["one", "other"] (spTimes K)
 over : Cl P w K mg base "over" 3 ["one", "other"] (spOver K)
 below : Cl P w K mg base "below" 1 ["one", "other"] (spBelow K)
theorem ok_crossing {f : Addr} {fd : FuncData} (D : DefAt K mg "crossing" s_crossing ["one", "other", "up"] f fd) (C : Four P w K mg base) (CA : Cl P w K mg base "apart" 4 ["one", "other"] (spApart K)) :
  FnOk P w K mg base CX0 5 f fd ["one", "other", "up"] (spCrossing K) := by
 refine D.fn.ok scCrossing (fun vs H Q E h => ?_) (fun cdv A outer s H vs Q E hr h => ?_)
 ·obtain ⟨x, y, z, p, q, u, rfl, _⟩ := h
  rfl
 ·obtain ⟨x, y, z, p, q, u, rfl, ⟨px, x1, x2, rfl, hx, hx1, hx2⟩, ⟨py, y1, y2, rfl, hy, hy1, hy2⟩, hz, ⟨f1, f2, f3, f4, fu⟩, hle, hR, k⟩ := h
  have hr3 : Room 3 _ := hr.mono (by decide)
  have hu : _ + (0 + 1) < cLine := hu_of hr
  refine ⟨_, pss_cons (ps_if (pt_cmpR (op_eqP rpe_int rpe_int hu) (pe_ix ix_tup (pv 0) pe_int (fun _ _ => rfl)) (pv 2) (nomark _)) (pss_one (ps_ret (pe_ix ix_tup (pv 0) pe_int (fun _ _ => rfl)))) pss_nil)
   (pss_cons (ps_set (i := 3) scCrossing.nd rfl (Or.inl rfl) (pe_cl C.over hr3 rfl (pa_cons (pe_cl CA hr rfl (pa_cons (pe_ix ix_tup (pv 0) pe_int (fun _ _ => rfl)) (pa_cons (pv 2) pa_nil)))
    (pa_cons (pe_cl CA hr rfl (pa_cons (pe_ix ix_tup (pv 0) pe_int (fun _ _ => rfl)) (pa_cons (pe_ix ix_tup (pv 1) pe_int (fun _ _ => rfl)) pa_nil))) pa_nil))))
   (pss_one (ps_ret (pe_cl C.plus hr3 rfl (pa_cons (pe_ix ix_tup (pv 0) pe_int (fun _ _ => rfl)) (pa_cons (pe_cl C.times hr3 rfl
    (pa_cons (pe_cl C.minus hr3 rfl (pa_cons (pe_ix ix_tup (pv 1) pe_int (fun _ _ => rfl)) (pa_cons (pe_ix ix_tup (pv 0) pe_int (fun _ _ => rfl)) pa_nil))) (pa_cons (pv 3) pa_nil))) pa_nil)))))), ?_⟩
  refine ⟨_, rfl, px, _, _, _, rfl, rfl, hx, rfl, _, rfl, _, _, hx2, hz, _, rfl, ?_⟩
  rw [fr_dec]
  refine ite2 (fun h => ?_) (fun h => ?_)
  ·have h' : p.2 = u := of_decide_eq_true h
   refine ⟨_, rfl, px, _, _, _, rfl, rfl, hx, rfl, k _ _ (Same.refl _) ?_⟩
   rw [show crs p q u = p.1 from if_pos h']
   exact hx1
  ·have h' : p.2 ≠ u := fun z => h (decide_eq_true z)
   have hne : p.2 ≠ q.2 := by
    intro e
    have h1 := hR.1
    have h2 := hR.2
    grind
   have bu := apt_bd f2.2 fu.2
   have bq := apt_bd f2.2 f4.2
   have ap := apt_pos hne
   refine ⟨_, rfl, px, _, _, _, rfl, rfl, hx, rfl, _, rfl, x2, z, p.2, u, rfl, hx2, hz, f2.fit, fu.fit, trivial, fun v1 H1 s1 e1 => ?_⟩
   refine ⟨_, rfl, px, _, _, _, rfl, rfl, s1.sqT hx, rfl, _, rfl, py, _, _, _, rfl, rfl, s1.sqT hy, rfl, x2, y2, p.2, q.2, rfl, hx2.same s1, hy2.same s1, f2.fit, f4.fit, trivial, fun v2 H2 s2 e2 => ?_⟩
   refine ⟨v1, v2, _, _, rfl, e1.same s2, e2, ⟨apt_nn _ _, bu.mono (by decide)⟩, ⟨apt_nn _ _, bq.mono (by decide)⟩, ap, fun v3 H3 s3 e3 => ?_⟩
   have s13 := s1.trans (s2.trans s3)
   have bp := Bd.div ap bu bq
   have np : (0 : Rat) ≤ apt p.2 u / apt p.2 q.2 := by
    have := (Rat.div_lt_iff (a := apt p.2 u) (b := apt p.2 q.2) (c := 0) ap)
    have := apt_nn p.2 u
    grind
   refine ⟨_, rfl, px, _, _, _, rfl, rfl, s13.sqT hx, rfl, _, rfl, py, _, _, _, rfl, rfl, s13.sqT hy, rfl, _, rfl, px, _, _, _, rfl, rfl, s13.sqT hx, rfl, y1, x1, q.1, p.1, rfl, hy1.same s13, hx1.same s13, f3.fit, f1.fit, hle, fun v4 H4 s4 e4 => ?_⟩
   have b4 := Bd.sub f3.2 f1.2
   have n4 : (0 : Rat) ≤ q.1 - p.1 := by grind
   refine ⟨_, rfl, v4, v3, _, _, rfl, e4, e3.same s4, ⟨n4, b4.mono (by decide)⟩, ⟨np, bp.mono (by decide)⟩, trivial, fun v5 H5 s5 e5 => ?_⟩
   refine ⟨x1, v5, p.1, _, rfl, hx1.same (s13.trans (s4.trans s5)), e5, f1.fit, ⟨Rat.mul_nonneg n4 np, (b4.mul bp).mono (by decide)⟩, trivial, fun v6 H6 s6 e6 => k v6 H6 (s13.trans (s4.trans (s5.trans s6))) ?_⟩
   rw [show crs p q u = p.1 + (q.1 - p.1) * (apt p.2 u / apt p.2 q.2) from if_neg h']
   exact e6
theorem scReached : FnScope ["line", "up", "k"] ["line", "up"] (defScope s_reached) := ⟨rfl, rfl, rfl, by decide +kernel, rfl, by decide +kernel, by decide +kernel⟩
theorem ok_reached {f : Addr} {fd : FuncData} (D : DefAt K mg "reached" s_reached ["line", "up"] f fd) (CR : Cl P w K mg base "reaches" 2 ["one", "other", "up"] (spReaches K)) (CC : Cl P w K mg base "crossing" 5 ["one", "other", "up"] (spCrossing K)) (T : Txt K mg aL aR) :
  FnOk P w K mg base CX0 6 f fd ["line", "up"] (spReached K) := by
 refine D.fn.ok scReached (fun vs H Q E h => ?_) (fun cdv A outer s H vs Q E hr h => ?_)
 ·obtain ⟨a, xs, z, L, u, rfl, _⟩ := h
  rfl
 ·obtain ⟨a, xs, z, L, u, rfl, ha, hL, hz, ok, fu, k⟩ := h
  have hr2 : Room 2 _ := hr.mono (by decide)
  refine ⟨_, pss_cons (ps_for PassesOwn.never rfl (pi_range2 rfl T.range (pa_cons pe_int (pa_cons (pe_callB call_len_seq (by rfl) T.len PySem.boot_len (pa_cons (pv 0) pa_nil)) pa_nil))) (pg_name (i := 2) scReached.nd rfl (Or.inl rfl))
    (pss_one (ps_if (pt_val (pe_cl CR hr2 rfl (pa_cons (pe_ix ix_list (pv 0) (pe_op op_sub (pv 2) pe_int) (fun _ _ => rfl)) (pa_cons (pe_ix ix_list (pv 0) (pv 2) (fun _ _ => rfl)) (pa_cons (pv 1) pa_nil)))))
     (pss_one (ps_ret (pe_cl CC hr rfl (pa_cons (pe_ix ix_list (pv 0) (pe_op op_sub (pv 2) pe_int) (fun _ _ => rfl)) (pa_cons (pe_ix ix_list (pv 0) (pv 2) (fun _ _ => rfl)) (pa_cons (pv 1) pa_nil)))))) pss_nil)))
   (pss_one (ps_ret pe_non)), ?_⟩
  have lX := hL.length
  have few := ok.few
  refine ⟨_, rfl, a, _, rfl, .inl ha, ?_⟩
  refine ⟨1, (xs.length : Nat), rfl, ⟨by omega, by omega, by omega, by omega⟩, ?_⟩
  refine for_range (lo := 1) (n := ((xs.length : Int) - 1).toNat) (fun i σ H' => H' = H ∧ (∃ x2, σ = [some (.ref a), some z, x2]) ∧ rch (L.drop i) u = rch L u) ⟨rfl, ⟨_, rfl⟩, by rw [List.drop_zero]⟩ ?_ ?_
  ·rintro i σ H' hi ⟨rfl, ⟨x2, rfl⟩, e⟩
   obtain ⟨p, hp, cp⟩ := Paired.get1 hL i xs[i] (List.getElem?_eq_getElem (by omega))
   obtain ⟨q, hq, cq⟩ := Paired.get1 hL (i + 1) xs[i + 1] (List.getElem?_eq_getElem (by omega))
   have a1 : atI xs (1 + (i : Int) - 1) = some xs[i] := atI_of (by omega) (by
    rw [show (1 + (i : Int) - 1).toNat = i by omega]
    exact List.getElem?_eq_getElem (by omega))
   have a2 : atI xs (1 + (i : Int)) = some xs[i + 1] := atI_of (by omega) (by
    rw [show (1 + (i : Int)).toNat = i + 1 by omega]
    exact List.getElem?_eq_getElem (by omega))
   have g1 := ok.fit p (List.mem_of_getElem? hp)
   have g2 := ok.fit q (List.mem_of_getElem? hq)
   rw [rch_drop hp hq] at e
   refine ⟨_, rfl, _, rfl, _, _, rfl, rfl, a, _, _, _, rfl, rfl, ha, a1, _, rfl, _, rfl, a, _, _, _, rfl, rfl, ha, a2, _, rfl, _, _, z, p, q, u, rfl, cp, cq, hz, g1.2.fit, g2.2.fit, fu.fit, _, rfl, ?_⟩
   refine ite2 (fun h => ?_) (fun h => ?_)
   ·have h' : Rch p q u := of_decide_eq_true h
    rw [if_pos h'] at e
    refine ⟨_, rfl, _, rfl, _, _, rfl, rfl, a, _, _, _, rfl, rfl, ha, a1, _, rfl, _, rfl, a, _, _, _, rfl, rfl, ha, a2, _, rfl, _, _, z, p, q, u, rfl, cp, cq, hz, ⟨g1.1, g1.2, g2.1, g2.2, fu⟩, ok.rise i p q hp hq, h', fun v H2 s2 e2 => k v H2 s2 ?_⟩
    rw [← e]
    exact e2
   ·have h' : ¬ Rch p q u := fun z => h (decide_eq_true z)
    rw [if_neg h'] at e
    exact ⟨rfl, ⟨_, rfl⟩, e⟩
  ·rintro σ H' ⟨rfl, ⟨x2, rfl⟩, e⟩
   refine k _ _ (Same.refl _) ?_
   rw [← e, rch_end (by omega)]
   rfl
end
end FQ
namespace FQ
open PySem L2 FK
structure DOk (D : Nat) : Prop where
 pos : 0 < D
 few : D < 2 ^ 250
structure PcOk (D : Nat) (L : List (Rat × Rat)) : Prop where
 d : DOk D
 win : ∀ p ∈ L, 0 ≤ p.1 ∧ p.1 < p.2 ∧ p.2 ≤ 1
 apart : L.Pairwise fun a b => a.2 < b.1
 gr : ∀ p ∈ L, Gr D p.1 ∧ Gr D p.2
 few : L.length ≤ 1000
theorem DOk.bd {D : Nat} (h : DOk D) {q : Rat} (g : Gr D q) (h0 : 0 ≤ q) (h1 : q ≤ 1) : Bd 280 q :=
 (g.bd (n := 250) h.pos h0 (m := 1) (by rw [show ((1 : Nat) : Rat) = 1 from rfl]; exact h1) (by rw [Nat.one_mul]; exact h.few) h.few).mono (by decide)
theorem PcOk.fit {D : Nat} {L : List (Rat × Rat)} (h : PcOk D L) (p : Rat × Rat) (hp : p ∈ L) : Bd 280 p.1 ∧ Bd 280 p.2 := by
 have w := h.win p hp
 have g := h.gr p hp
 exact ⟨h.d.bd g.1 w.1 (by grind), h.d.bd g.2 (by grind) w.2.2⟩
def spSpan (K : PySem.W.Frag) : Sp := fun vs H Q _ => ∃ (x : V) (p : Rat × Rat), vs = [x] ∧ CoQ K H x p ∧ (0 ≤ p.1 ∧ p.1 < p.2 ∧ p.2 ≤ 1) ∧ (Bd 280 p.1 ∧ Bd 280 p.2) ∧ Q (.bl true) H
def spCheck (K : PySem.W.Frag) : Sp := fun vs H Q _ => ∃ (a : Addr) (xs : List V) (D : Nat) (L : List (Rat × Rat)), vs = [.ref a] ∧ SqL K H a xs ∧ Paired (CoQ K H) xs L ∧ PcOk D L ∧ Q .non H
abbrev StQ (K : PySem.W.Frag) := rpPair K (FrQ K) rpInt
theorem StQ.same {K : PySem.W.Frag} {H H' : Hp} {x : V} {d : Rat × Int} (s : Same H H') (h : StQ K H x d) : StQ K H' x d := by
 obtain ⟨p, y, z, rfl, q, h1, h2⟩ := h
 exact ⟨p, y, z, rfl, s.sqT q, h1.same s, h2⟩
theorem FrQ.keep {K : PySem.W.Frag} {H H' : Hp} {x : V} {q : Rat} (s : Keep H H') (h : FrQ K H x q) : FrQ K H' x q := s.fr h
theorem CoQ.keep {K : PySem.W.Frag} {H H' : Hp} {x : V} {d : Rat × Rat} (s : Keep H H') (h : CoQ K H x d) : CoQ K H' x d := by
 obtain ⟨p, y, z, rfl, q, h1, h2⟩ := h
 exact ⟨p, y, z, rfl, s.sqT q, h1.keep s, h2.keep s⟩
theorem StQ.keep {K : PySem.W.Frag} {H H' : Hp} {x : V} {d : Rat × Int} (s : Keep H H') (h : StQ K H x d) : StQ K H' x d := by
 obtain ⟨p, y, z, rfl, q, h1, h2⟩ := h
 exact ⟨p, y, z, rfl, s.sqT q, h1.keep s, h2⟩
structure TxtT (mg : Str → Option Value) : Prop where
 most : ∃ t, mg "MOST_STEPS" = some (.int 8 t)
 second : ∃ t, mg "GREATEST_SECOND_NUMBER" = some (.int 1000 t)
 weight : ∃ t, mg "GREATEST_WEIGHT" = some (.int 1000 t)
def spStep (K : PySem.W.Frag) : Sp := fun vs H Q _ => ∃ (x : V) (z : Rat × Int), vs = [x] ∧ StQ K H x z ∧ 0 ≤ z.1 ∧ z.1.den ≤ 1000 ∧ 1 ≤ z.2 ∧ z.2 ≤ 1000 ∧ Q .non H
def spSteps (K : PySem.W.Frag) : Sp := fun vs H Q _ => ∃ (a : Addr) (xs : List V) (p : Nat) (S : Steps), vs = [.ref a] ∧ SqL K H a xs ∧ Paired (StQ K H) xs S ∧ TsOk p S ∧ Q .non H
def spLine (K : PySem.W.Frag) : Sp := fun vs H Q _ => ∃ (a : Addr) (xs : List V) (p : Nat) (S : Steps), vs = [.ref a] ∧ SqL K H a xs ∧ Paired (StQ K H) xs S ∧ TsOk p S ∧
 ∀ (r : Addr) (ys : List V) (H' : Hp), Same H H' → H r = none → H' r = some (.lst ys) → Paired (CoQ K H') ys (wl S) → Q (.ref r) H'
theorem gr_den {D : Nat} {q : Rat} (h : Gr D q) (hD : 0 < D) : q.den ≤ D := by
 obtain ⟨n, hn⟩ := h
 have e : q = ((n : Rat) / ((D : Int) : Rat)) := by
  rw [Rat.intCast_natCast, ← hn]
  have := nat_ne hD
  grind
 obtain ⟨_, e2⟩ := low_fr (a := n) (b := (D : Int)) (by omega)
 rw [← e] at e2
 have := hi_le (a := n) (b := (D : Int)) (by omega)
 omega
section
variable {P : Program} {w : World} {K : PySem.W.Frag} {mg : Str → Option Value} {base : Heap} {aL aR : Addr}
theorem scSpan : FnScope ["thing"] ["thing"] (defScope s_is_span) := ⟨rfl, rfl, rfl, by decide +kernel, rfl, by decide +kernel, by decide +kernel⟩
theorem ok_span {f : Addr} {fd : FuncData} (D : DefAt K mg "is_span" s_is_span ["thing"] f fd) (CF : Cl P w K mg base "is_fraction" 2 ["thing"] (spFrac K)) (CB : Cl P w K mg base "below" 1 ["one", "other"] (spBelow K)) (T : Txt K mg aL aR) :
  FnOk P w K mg base CX0 3 f fd ["thing"] (spSpan K) := by
 refine D.fn.ok scSpan (fun vs H Q E h => ?_) (fun cdv A outer s H vs Q E hr h => ?_)
 ·obtain ⟨x, q, rfl, _⟩ := h
  rfl
 ·obtain ⟨x, q, rfl, ⟨p, y, z, rfl, hp, hy, hz⟩, ⟨w0, w1, w2⟩, ⟨b1, b2⟩, k⟩ := h
  have hr1 : Room 1 _ := hr.mono (by decide)
  have n2 : 0 ≤ q.2 := by grind
  have f1 : Fit q.1 := Bd.fit b1 w0 (by decide)
  have f2 : Fit q.2 := Bd.fit b2 n2 (by decide)
  refine ⟨_, pss_cons (ps_if (PW.pt (pw_or (pt_not (pt_val (pe_isi (pv 0) rfl T.isi rfl T.tuple PyProof.Rows.boot_tuple))) (pw_or1 (pt_cmpR op_ne (pe_callB call_len_seq (by rfl) T.len PySem.boot_len (pa_cons (pv 0) pa_nil)) pe_int (nomark _))))) pss_never pss_nil)
   (pss_cons (ps_if (PW.pt (pw_or (pt_not (pt_val (pe_cl CF hr rfl (pa_cons (pe_ix ix_tup (pv 0) pe_int (fun _ _ => rfl)) pa_nil)))) (pw_or1 (pt_not (pt_val (pe_cl CF hr rfl (pa_cons (pe_ix ix_tup (pv 0) pe_int (fun _ _ => rfl)) pa_nil))))))) pss_never pss_nil)
   (pss_one (ps_ret (pe_and (pe_cl CB hr1 rfl (pa_cons (pe_ix ix_tup (pv 0) pe_int (fun _ _ => rfl)) (pa_cons (pe_ix ix_tup (pv 0) pe_int (fun _ _ => rfl)) pa_nil)))
    (pe_one (pe_not (pe_cl CB hr1 rfl (pa_cons (pe_glob (v := .ref aR) rfl T.right rfl) (pa_cons (pe_ix ix_tup (pv 0) pe_int (fun _ _ => rfl)) pa_nil))))))))), ?_⟩
  refine ⟨_, rfl, _, _, .sqT hp, kit_tuple _, _, rfl, iteF ?_⟩
  refine ⟨_, rfl, p, _, rfl, .inr hp, rfl, _, rfl, iteNS rfl ?_⟩
  refine ⟨_, rfl, p, _, _, _, rfl, rfl, hp, rfl, y, q.1, rfl, hy, w0, _, rfl, iteF ?_⟩
  refine ⟨_, rfl, p, _, _, _, rfl, rfl, hp, rfl, z, q.2, rfl, hz, n2, _, rfl, iteF ?_⟩
  refine ⟨_, rfl, p, _, _, _, rfl, rfl, hp, rfl, _, rfl, p, _, _, _, rfl, rfl, hp, rfl, y, z, q.1, q.2, rfl, hy, hz, f1, f2, _, rfl, ?_⟩
  refine iteY w1 ?_
  refine ⟨_, rfl, p, _, _, _, rfl, rfl, hp, rfl, .ref aR, z, 1, q.2, rfl, T.r H, hz, Fit.one, f2, _, rfl, ?_⟩
  rw [decide_eq_false (show ¬ (1 : Rat) < q.2 by grind)]
  exact k
theorem scCheck : FnScope ["piece", "reached", "span"] ["piece"] (defScope s_check_piece) := ⟨rfl, rfl, rfl, by decide +kernel, rfl, by decide +kernel, by decide +kernel⟩
theorem ok_check {f : Addr} {fd : FuncData} (D : DefAt K mg "check_piece" s_check_piece ["piece"] f fd) (CS : Cl P w K mg base "is_span" 3 ["thing"] (spSpan K)) (CB : Cl P w K mg base "below" 1 ["one", "other"] (spBelow K)) (T : Txt K mg aL aR) :
  FnOk P w K mg base CX0 4 f fd ["piece"] (spCheck K) := by
 refine D.fn.ok scCheck (fun vs H Q E h => ?_) (fun cdv A outer s H vs Q E hr h => ?_)
 ·obtain ⟨p, xs, D, L, rfl, _⟩ := h
  rfl
 ·obtain ⟨p, xs, D, L, rfl, hp, hL, hG, k⟩ := h
  have hr1 : Room 1 _ := hr.mono (by decide)
  refine ⟨_, pss_cons (ps_if (pt_not (pt_val (pe_isi (pv 0) rfl T.isi rfl T.list PyProof.Rows.boot_list))) pss_never pss_nil)
   (pss_cons (ps_set (i := 1) scCheck.nd rfl (Or.inl rfl) pe_non)
   (pss_one (ps_for PassesOwn.never rfl (pi_list (pv 0)) (pg_name (i := 2) scCheck.nd rfl (Or.inl rfl))
    (pss_cons (ps_if (pt_not (pt_val (pe_cl CS hr rfl (pa_cons (pv 2) pa_nil)))) pss_never pss_nil)
    (pss_cons (ps_if (PW.pt (pw_and (pt_cmpR op_notN (pv 1) pe_non (nomark _)) (pw_and1 (pt_not (pt_val (pe_cl CB hr1 rfl (pa_cons (pv 1) (pa_cons (pe_ix ix_tup (pv 2) pe_int (fun _ _ => rfl)) pa_nil)))))))) pss_never pss_nil)
    (pss_one (ps_set (i := 1) scCheck.nd rfl (Or.inl rfl) (pe_ix ix_tup (pv 2) pe_int (fun _ _ => rfl))))))))), ?_⟩
  refine ⟨_, rfl, _, _, .sqL hp, kit_list _, _, rfl, iteF ?_⟩
  refine ⟨_, rfl, p, rfl, ⟨_, hp⟩, ?_⟩
  refine for_list (K := K) (a := p) (xs := xs) (fun i σ H' => H' = H ∧ ∃ (r : V) (sp : Option V), σ = [some (.ref p), some r, sp] ∧ ((i = 0 ∧ r = .non) ∨ ∃ j q, i = j + 1 ∧ L[j]? = some q ∧ FrQ K H r q.2))
   ⟨rfl, _, _, rfl, .inl ⟨rfl, rfl⟩⟩ (fun i σ H' _ h => by rw [h.1]; exact hp) ?_ ?_
  ·rintro i x σ H' hx ⟨rfl, r, sp, rfl, hR⟩
   obtain ⟨q, hq, hs⟩ := Paired.get1 hL i x hx
   obtain ⟨p0, y, z, rfl, hp0, hy, hz⟩ := id hs
   have wq := hG.win q (List.mem_of_getElem? hq)
   have fq := hG.fit q (List.mem_of_getElem? hq)
   refine ⟨_, rfl, _, q, rfl, hs, wq, fq, _, rfl, iteF ?_⟩
   have fin : H' = H' ∧ ∃ (r : V) (sp : Option V), [some (V.ref p), some z, some (V.ref p0)] = [some (.ref p), some r, sp] ∧ ((i + 1 = 0 ∧ r = .non) ∨ ∃ j q, i + 1 = j + 1 ∧ L[j]? = some q ∧ FrQ K H' r q.2) :=
    ⟨rfl, z, _, rfl, .inr ⟨i, q, rfl, hq, hz⟩⟩
   refine ⟨_, rfl, rfl, _, rfl, ?_⟩
   rcases hR with ⟨_, rfl⟩ | ⟨j, q0, hj, hq0, hr0⟩
   ·refine iteNS rfl (iteF ?_)
    exact ⟨_, rfl, p0, _, _, _, rfl, rfl, hp0, rfl, fin⟩
   ·have w0 := hG.win q0 (List.mem_of_getElem? hq0)
    have f0 := hG.fit q0 (List.mem_of_getElem? hq0)
    have ap : q0.2 < q.1 := by
     obtain ⟨l1, e1⟩ := List.getElem?_eq_some_iff.mp hq0
     obtain ⟨l2, e2⟩ := List.getElem?_eq_some_iff.mp hq
     have := List.pairwise_iff_getElem.mp hG.apart j i l1 l2 (by omega)
     rw [e1, e2] at this
     exact this
    obtain ⟨p2, rfl, h2⟩ := hr0.sq
    refine iteNN (fun z => nomatch z) ?_
    refine ⟨_, rfl, _, rfl, p0, _, _, _, rfl, rfl, hp0, rfl, .ref p2, y, q0.2, q.1, rfl, hr0, hy, Bd.fit f0.2 (by grind) (by decide), Bd.fit fq.1 wq.1 (by decide), _, rfl, ?_⟩
    refine iteNS ap ?_
    exact ⟨_, rfl, p0, _, _, _, rfl, rfl, hp0, rfl, fin⟩
  ·rintro σ H' ⟨rfl, r, sp, rfl, _⟩
   exact k
theorem scStep : FnScope ["step"] ["step"] (defScope s_check_step) := ⟨rfl, rfl, rfl, by decide +kernel, rfl, by decide +kernel, by decide +kernel⟩
theorem ok_step {f : Addr} {fd : FuncData} (D : DefAt K mg "check_step" s_check_step ["step"] f fd) (CF : Cl P w K mg base "is_fraction" 2 ["thing"] (spFrac K)) (CW : Cl P w K mg base "is_whole" 1 ["thing"] spWhole) (T : Txt K mg aL aR) (TT : TxtT mg) :
  FnOk P w K mg base CX0 3 f fd ["step"] (spStep K) := by
 obtain ⟨t2, e2⟩ := TT.second
 obtain ⟨t3, e3⟩ := TT.weight
 refine D.fn.ok scStep (fun vs H Q E h => ?_) (fun cdv A outer s H vs Q E hr h => ?_)
 ·obtain ⟨x, q, rfl, _⟩ := h
  rfl
 ·obtain ⟨x, q, rfl, ⟨p, y, z, rfl, hp, hy, hz⟩, h0, hd, w1, w2, k⟩ := h
  cases (show z = .int q.2 from hz)
  obtain ⟨p1, rfl, h1⟩ := hy.sq
  have hr1 : Room 1 _ := hr.mono (by decide)
  refine ⟨_, pss_cons (ps_if (PW.pt (pw_or (pt_not (pt_val (pe_isi (pv 0) rfl T.isi rfl T.tuple PyProof.Rows.boot_tuple))) (pw_or1 (pt_cmpR op_ne (pe_callB call_len_seq (by rfl) T.len PySem.boot_len (pa_cons (pv 0) pa_nil)) pe_int (nomark _))))) pss_never pss_nil)
   (pss_cons (ps_if (PW.pt (pw_or (pt_not (pt_val (pe_cl CF hr rfl (pa_cons (pe_ix ix_tup (pv 0) pe_int (fun _ _ => rfl)) pa_nil)))) (pw_or1 (pt_cmpR op_gt (pe_ix ix_tup (pe_ix ix_tup (pv 0) pe_int (fun _ _ => rfl)) pe_int (fun _ _ => rfl)) (pe_glob (v := .int 1000) rfl e2 ⟨_, rfl⟩) (nomark _))))) pss_never pss_nil)
   (pss_one (ps_if (PW.pt (pw_or (pt_not (pt_val (pe_cl CW hr1 rfl (pa_cons (pe_ix ix_tup (pv 0) pe_int (fun _ _ => rfl)) pa_nil)))) (pw_or (pt_cmpR op_lt (pe_ix ix_tup (pv 0) pe_int (fun _ _ => rfl)) pe_int (nomark _)) (pw_or1 (pt_cmpR op_gt (pe_ix ix_tup (pv 0) pe_int (fun _ _ => rfl)) (pe_glob (v := .int 1000) rfl e3 ⟨_, rfl⟩) (nomark _)))))) pss_never pss_nil))), ?_⟩
  refine ⟨_, rfl, _, _, .sqT hp, kit_tuple _, _, rfl, iteF ?_⟩
  refine ⟨_, rfl, p, _, rfl, .inr hp, rfl, _, rfl, iteNS rfl ?_⟩
  refine ⟨_, rfl, p, _, _, _, rfl, rfl, hp, rfl, .ref p1, q.1, rfl, hy, h0, _, rfl, iteF ?_⟩
  refine ⟨_, rfl, p, _, _, _, rfl, rfl, hp, rfl, p1, _, _, _, rfl, rfl, h1, rfl, _, _, rfl, rfl, _, rfl, iteN (by omega) ?_⟩
  refine ⟨_, rfl, p, _, _, _, rfl, rfl, hp, rfl, q.2, rfl, _, rfl, iteF ?_⟩
  refine ⟨_, rfl, p, _, _, _, rfl, rfl, hp, rfl, _, _, rfl, rfl, _, rfl, iteN (by omega) ?_⟩
  refine ⟨_, rfl, p, _, _, _, rfl, rfl, hp, rfl, _, _, rfl, rfl, _, rfl, iteN (by omega) ?_⟩
  exact k
theorem scSteps : FnScope ["steps", "start", "step"] ["steps"] (defScope s_check_steps) := ⟨rfl, rfl, rfl, by decide +kernel, rfl, by decide +kernel, by decide +kernel⟩
theorem ok_steps {f : Addr} {fd : FuncData} (D : DefAt K mg "check_steps" s_check_steps ["steps"] f fd) (CT : Cl P w K mg base "check_step" 3 ["step"] (spStep K)) (CB : Cl P w K mg base "below" 1 ["one", "other"] (spBelow K)) (T : Txt K mg aL aR) (TT : TxtT mg) :
  FnOk P w K mg base CX0 4 f fd ["steps"] (spSteps K) := by
 obtain ⟨t1, e1⟩ := TT.most
 refine D.fn.ok scSteps (fun vs H Q E h => ?_) (fun cdv A outer s H vs Q E hr h => ?_)
 ·obtain ⟨a, xs, p, S, rfl, _⟩ := h
  rfl
 ·obtain ⟨a, xs, p, S, rfl, ha, hS, ok, k⟩ := h
  have hr1 : Room 1 _ := hr.mono (by decide)
  have hu : _ + (0 + 1) < cLine := hu_of hr
  have lX := hS.length
  have l8 := ok.len
  have l0 : 0 < S.length := List.length_pos_iff.mpr ok.ne
  have few := ok.few
  refine ⟨_, pss_cons (ps_if (pt_not (pt_val (pe_isi (pv 0) rfl T.isi rfl T.list PyProof.Rows.boot_list))) pss_never pss_nil)
   (pss_cons (ps_if (PW.pt (pw_or (pt_cmpR op_lt (pe_callB call_len_seq (by rfl) T.len PySem.boot_len (pa_cons (pv 0) pa_nil)) pe_int (nomark _)) (pw_or1 (pt_cmpR op_gt (pe_callB call_len_seq (by rfl) T.len PySem.boot_len (pa_cons (pv 0) pa_nil)) (pe_glob (v := .int 8) rfl e1 ⟨_, rfl⟩) (nomark _))))) pss_never pss_nil)
   (pss_cons (ps_set (i := 1) scSteps.nd rfl (Or.inl rfl) (pe_glob (v := .ref aL) rfl T.left rfl))
   (pss_cons (ps_for PassesOwn.never rfl (pi_list (pv 0)) (pg_name (i := 2) scSteps.nd rfl (Or.inl rfl))
    (pss_cons (ps_expr (pe_cl CT hr rfl (pa_cons (pv 2) pa_nil)))
    (pss_cons (ps_if (pt_not (pt_val (pe_cl CB hr1 rfl (pa_cons (pv 1) (pa_cons (pe_ix ix_tup (pv 2) pe_int (fun _ _ => rfl)) pa_nil))))) pss_never pss_nil)
    (pss_one (ps_set (i := 1) scSteps.nd rfl (Or.inl rfl) (pe_ix ix_tup (pv 2) pe_int (fun _ _ => rfl)))))))
   (pss_one (ps_if (pt_cmpR (op_neP rpe_int rpe_int hu) (pv 1) (pe_glob (v := .ref aR) rfl T.right rfl) (nomark _)) pss_never pss_nil))))), ?_⟩
  refine ⟨_, rfl, _, _, .sqL ha, kit_list _, _, rfl, iteF ?_⟩
  refine ⟨_, rfl, a, _, rfl, .inl ha, _, _, rfl, rfl, _, rfl, iteN (by omega) ?_⟩
  refine ⟨_, rfl, a, _, rfl, .inl ha, _, _, rfl, rfl, _, rfl, iteN (by omega) ?_⟩
  refine ⟨_, rfl, a, rfl, ⟨_, ha⟩, ?_⟩
  refine for_list (K := K) (a := a) (xs := xs) (fun i σ H' => H' = H ∧ ∃ (v : V) (x2 : Option V), σ = [some (.ref a), some v, x2] ∧ FrQ K H v (endOf 0 (S.take i)))
   ⟨rfl, _, _, rfl, T.l H⟩ (fun i σ H' _ h => by rw [h.1]; exact ha) ?_ ?_
  ·rintro i x σ H' hx ⟨rfl, v, x2, rfl, hv⟩
   obtain ⟨z, hz, hs⟩ := Paired.get1 hS i x hx
   obtain ⟨r1, r2⟩ := rise_get ok.rise hz
   have mz := List.mem_of_getElem? hz
   have z0 : 0 ≤ z.1 := by
    have := end_nn ok i
    grind
   have zd := gr_den (ok.gr z mz) ok.pos
   have zw := ok.w z mz
   refine ⟨_, rfl, x, z, rfl, hs, z0, by omega, by omega, zw, ?_⟩
   obtain ⟨p0, y, q, rfl, hp0, hy, hq⟩ := id hs
   have nx : endOf 0 (S.take (i + 1)) = z.1 := by
    rw [take_snoc hz, show z = (z.1, z.2) from rfl, end_snoc]
   have zb : Bd 10 z.1 := by
    rw [← nx]
    exact end_bd ok (i + 1)
   refine ⟨_, rfl, _, rfl, p0, _, _, _, rfl, rfl, hp0, rfl, v, y, _, _, rfl, hv, hy, ⟨end_nn ok i, (end_bd ok i).mono (by decide)⟩, ⟨z0, zb.mono (by decide)⟩, _, rfl, ?_⟩
   refine iteNS r1 ?_
   refine ⟨_, rfl, p0, _, _, _, rfl, rfl, hp0, rfl, rfl, y, _, rfl, ?_⟩
   rw [nx]
   exact hy
  ·rintro σ H' ⟨rfl, v, x2, rfl, hv⟩
   rw [List.take_of_length_le (by omega), ok.top] at hv
   refine ⟨_, rfl, _, _, hv, T.r H', _, rfl, iteNS rfl ?_⟩
   exact k
end
end FQ
namespace FQ
open PySem L2 FK
theorem Paired.last {α β : Type} {F : α → β → Prop} : ∀ {xs : List α} {L : List β} {l : β}, Paired F xs (L ++ [l]) → ∃ xs0 v, xs = xs0 ++ [v] ∧ Paired F xs0 L ∧ F v l
 | _, [], _, .cons r .nil => ⟨[], _, rfl, .nil, r⟩
 | _, _ :: L, _, .cons r t => by
  obtain ⟨xs0, v, rfl, h1, h2⟩ := Paired.last (L := L) t
  exact ⟨_ :: xs0, v, rfl, .cons r h1, h2⟩
theorem hl_split {b h : Rat} {S : Steps} (r : Rise b S) : ∃ L, hl b h S = L ++ [(endOf b S, h + A b S (endOf b S))] := List.getLast?_eq_some_iff.mp (hl_last b h S r)
abbrev NW : List Str := ["steps", "ends", "hefts", "step", "length"]
theorem scLine : FnScope NW ["steps"] (defScope s_worth_line) := ⟨rfl, rfl, rfl, by decide +kernel, rfl, by decide +kernel, by decide +kernel⟩
section
variable {P : Program} {w : World} {K : PySem.W.Frag} {mg : Str → Option Value} {base : Heap} {aL aR : Addr}
theorem int_bd {n : Int} (h0 : 0 ≤ n) (h1 : n ≤ 1000) : Bd 10 (n : Rat) := by
 refine ⟨?_, ?_⟩
 ·show n.natAbs < 2 ^ 10
  omega
 ·show (1 : Nat) < 2 ^ 10
  decide
theorem int_nn {n : Int} (h : 0 ≤ n) : (0 : Rat) ≤ (n : Rat) := Rat.intCast_nonneg.mpr h
theorem heft_fit {p : Nat} {S : Steps} (ok : TsOk p S) (i : Nat) : Ft 20 (A 0 (S.take i) (endOf 0 (S.take i))) := by
 have f := ok.few
 rw [A_take i ok.rise]
 refine ⟨A_nn ok.rise, ?_⟩
 refine (A_gr (Gr.zero p) ok.gr (end_g ok i)).bd ok.pos (A_nn ok.rise) (m := 1000) (ok.up (end_nn ok i) (end_le ok i)) ?_ ?_
 ·omega
 ·omega
theorem ok_line {f : Addr} {fd : FuncData} (D : DefAt K mg "worth_line" s_worth_line ["steps"] f fd) (C : Four P w K mg base) (T : Txt K mg aL aR) : FnOk P w K mg base CX0 4 f fd ["steps"] (spLine K) := by
  refine D.fn.ok scLine (fun vs H Q E h => ?_) (fun cdv A0 outer s H vs Q E hr h => ?_)
  · obtain ⟨a, xs, p, S, rfl, _⟩ := h
    rfl
  · obtain ⟨a, xs, p, S, rfl, ha, hS, ok, k⟩ := h
    have lX := hS.length
    have l8 := ok.len
    refine ⟨_, pss_cons (ps_set (i := 1) scLine.nd rfl (Or.inl rfl) (pe_lst (pa_cons (pe_glob (v := .ref aL) rfl T.left rfl) pa_nil)))
      (pss_cons (ps_set (i := 2) scLine.nd rfl (Or.inr rfl) (pe_lst (pa_cons (pe_tup (pa_cons pe_int (pa_cons pe_int pa_nil))) pa_nil)))
      (pss_cons (ps_for PassesOwn.never rfl (pi_list (pv 0)) (pg_name (i := 3) scLine.nd rfl (Or.inl rfl))
        (pss_cons (ps_set (i := 4) scLine.nd rfl (Or.inl rfl) (pe_cl C.minus hr rfl (pa_cons (pe_ix ix_tup (pv 3) pe_int (fun _ _ => rfl)) (pa_cons (pe_ix ix_list (pv 1) (pe_un un_neg pe_int) (fun _ _ => rfl)) pa_nil))))
        (pss_cons (ps_expr (pe_bm PySem.F.plainAttrs_list PySem.F.slot_list_append PySem.F.type_list_append mt_append (pv 2) (pa_cons (pe_cl C.plus hr rfl (pa_cons (pe_ix ix_list (pv 2) (pe_un un_neg pe_int) (fun _ _ => rfl))
          (pa_cons (pe_cl C.times hr rfl (pa_cons (pv 4) (pa_cons (pe_tup (pa_cons (pe_ix ix_tup (pv 3) pe_int (fun _ _ => rfl)) (pa_cons pe_int pa_nil))) pa_nil))) pa_nil))) pa_nil)))
        (pss_one (ps_expr (pe_bm PySem.F.plainAttrs_list PySem.F.slot_list_append PySem.F.type_list_append mt_append (pv 1) (pa_cons (pe_ix ix_tup (pv 3) pe_int (fun _ _ => rfl)) pa_nil)))))))
      (pss_one (ps_ret (pe_comp ["point", "heft"] rfl (CompOk.free1 (F := ["hefts"]) (js := [2]) rfl (by decide +kernel) (by decide +kernel) rfl ⟨rfl, trivial⟩ rfl ⟨⟨rfl, rfl, .inl rfl⟩, trivial⟩) (pi_zip rfl T.zip (pa_cons (pv 1) (pa_cons (pv 2) pa_nil)))
        (fun _ => pg_tup rfl (pgs_cons (pg_name (i := 0) (show [Str.ofString "point", Str.ofString "heft", Str.ofString "hefts"].Nodup by decide +kernel) rfl (Or.inl rfl)) (pgs_cons (pg_name (i := 1) (show [Str.ofString "point", Str.ofString "heft", Str.ofString "hefts"].Nodup by decide +kernel) rfl (Or.inl rfl)) pgs_nil)))
        (fun _ => pifs_nil)
        (fun _ => pe_tup (pa_cons (pv 0) (pa_cons (pe_cl C.over hr rfl (pa_cons (pv 1) (pa_cons (pe_ix ix_list (pv 2) (pe_un un_neg pe_int) (fun _ _ => rfl)) pa_nil))) pa_nil)))))))), ?_⟩
    refine ⟨(by show 1 ≤ sizeLine; decide), fun le hle => ?_⟩
    refine ⟨(by show 2 ≤ sizeLine; decide), fun t ht => ⟨(by show 1 ≤ sizeLine; decide), fun lh hlh => ?_⟩⟩
    have s1 : Same H (upd H le (.lst [.ref aL])) := Same.upd hle
    have s2 := s1.trans (Same.upd (o := .tup [.int 0, .int 1]) ht)
    have s3 := s2.trans (Same.upd (o := .lst [.ref t]) hlh)
    have hlh0 : H lh = none := s2.free hlh
    have e2 : (upd (upd H le (.lst [.ref aL])) t (.tup [.int 0, .int 1])) le = some (.lst [.ref aL]) := Same.upd ht _ _ upd_same
    have ne : le ≠ lh := ne_of_none e2 hlh
    refine ⟨_, rfl, a, rfl, ⟨_, s3.seq ha⟩, ?_⟩
    refine for_list (K := K) (a := a) (xs := xs) (fun i σ H' => Same H H' ∧ ∃ (es hs : List V) (x3 x4 : Option V), σ = [some (.ref a), some (.ref le), some (.ref lh), x3, x4] ∧ H' le = some (.lst es) ∧ H' lh = some (.lst hs) ∧
        Paired (FrQ K H') es ((hl 0 0 (S.take i)).map Prod.fst) ∧ Paired (FrQ K H') hs ((hl 0 0 (S.take i)).map Prod.snd))
      ⟨s3, _, _, _, _, rfl, by rw [upd_ne ne]; exact e2, upd_same, .cons (T.l _) .nil, .cons (.of (.of (Same.upd hlh _ _ upd_same)) rfl rfl) .nil⟩ (fun i σ H' _ h => h.1.seq ha) ?_ ?_
    · rintro i x σ H' hx ⟨s4, es, hs, x3, x4, rfl, hE, hHh, pE, pH⟩
      obtain ⟨z, hz, hs0⟩ := Paired.get1 hS i x hx
      obtain ⟨p0, y, q, rfl, hp0, hy, hq⟩ := id hs0
      cases (show q = .int z.2 from hq)
      obtain ⟨r1, r2⟩ := rise_get ok.rise hz
      have mz := List.mem_of_getElem? hz
      have nx : endOf 0 (S.take (i + 1)) = z.1 := by
        rw [take_snoc hz, show z = (z.1, z.2) from rfl, end_snoc]
      have z0 : 0 ≤ z.1 := by rw [← nx]; exact end_nn ok _
      have zb : Bd 10 z.1 := by rw [← nx]; exact end_bd ok _
      have zw := ok.w z mz
      obtain ⟨L, hL⟩ := hl_split (b := 0) (h := 0) (rise_take i ok.rise)
      rw [zero_add'] at hL
      have hl1 : hl 0 0 (S.take (i + 1)) = L ++ [(endOf 0 (S.take i), A 0 (S.take i) (endOf 0 (S.take i)))] ++ [(z.1, A 0 (S.take i) (endOf 0 (S.take i)) + (z.1 - endOf 0 (S.take i)) * (z.2 : Rat))] := by
        have := hl_snoc 0 0 (S.take i) z.1 z.2 (rise_take i ok.rise)
        rw [zero_add'] at this
        rw [take_snoc hz, show z = (z.1, z.2) from rfl, this, hL]
      have pE' := pE
      have pH' := pH
      rw [hL, List.map_append] at pE' pH'
      obtain ⟨es0, v, rfl, _, hv⟩ := Paired.last pE'
      obtain ⟨hs1, u, rfl, _, hu⟩ := Paired.last pH'
      have hf := heft_fit ok i
      have dl : Bd 21 (z.1 - endOf 0 (S.take i)) := Bd.sub zb (end_bd ok i)
      have dn : 0 ≤ z.1 - endOf 0 (S.take i) := by grind
      have sp0 := s4.sqT hp0
      refine ⟨_, rfl, p0, _, _, _, rfl, rfl, sp0, rfl, _, rfl, _, rfl, le, _, _, _, rfl, rfl, .of hE, atI_last _ _, y, v, z.1, _, rfl, hy.same s4, hv, ⟨z0, zb.mono (by decide)⟩, ⟨end_nn ok i, (end_bd ok i).mono (by decide)⟩, Rat.le_of_lt r1, fun v1 H1 t1 d1 => ?_⟩
      have hE1 := t1 _ _ hE
      have hH1 := t1 _ _ hHh
      refine ⟨_, rfl, .inl ⟨rfl, _, .of hH1⟩, _, rfl, _, rfl, lh, _, _, _, rfl, rfl, .of hH1, atI_last _ _, _, rfl, _, rfl, p0, _, _, _, rfl, rfl, t1.sqT sp0, rfl, (by show 2 ≤ sizeLine; decide), fun t5 ht5 => ?_⟩
      have t2 := Same.upd (o := .tup [.int z.2, .int 1]) ht5
      refine ⟨v1, .ref t5, _, (z.2 : Rat), rfl, d1.same t2, .of sqT_new rfl rfl, ⟨dn, dl.mono (by decide)⟩, ⟨int_nn (by omega), (int_bd (by omega) zw).mono (by decide)⟩, trivial, fun v2 H2 t3 d2 => ?_⟩
      have t13 := t1.trans (t2.trans t3)
      have bm : Bd 31 ((z.1 - endOf 0 (S.take i)) * (z.2 : Rat)) := Bd.mul dl (int_bd (by omega) zw)
      have mn : 0 ≤ (z.1 - endOf 0 (S.take i)) * (z.2 : Rat) := Rat.mul_nonneg dn (int_nn (by omega))
      refine ⟨u, v2, _, _, rfl, (hu.same t13), d2, hf.fit, ⟨mn, bm.mono (by decide)⟩, trivial, fun v3 H3 t4 d3 => ?_⟩
      have t14 := t13.trans t4
      have hE3 := t14 _ _ hE
      have hH3 := t14 _ _ hHh
      have lenH : (hs1 ++ [u]).length ≤ 100 := by
        rw [pH.length, List.length_map, hl_len, List.length_take]
        omega
      have lenE : (es0 ++ [v]).length ≤ 100 := by
        rw [pE.length, List.length_map, hl_len, List.length_take]
        omega
      have big : 1000 ≤ sizeLine := by decide
      refine ⟨lh, _, v3, rfl, rfl, hH3, by omega, ?_⟩
      have k1 : Keep H3 (upd H3 lh (.lst (hs1 ++ [u] ++ [v3]))) := Keep.updL hH3
      have hE4 : (upd H3 lh (.lst (hs1 ++ [u] ++ [v3]))) le = some (.lst (es0 ++ [v])) := by rw [upd_ne ne]; exact hE3
      refine ⟨_, rfl, .inl ⟨rfl, _, .of hE4⟩, _, rfl, p0, _, _, _, rfl, rfl, k1.sqT (t14.sqT sp0), rfl, le, _, _, rfl, rfl, hE4, by omega, ?_⟩
      have k2 : Keep (upd H3 lh (.lst (hs1 ++ [u] ++ [v3]))) (upd (upd H3 lh (.lst (hs1 ++ [u] ++ [v3]))) le (.lst (es0 ++ [v] ++ [y]))) := Keep.updL hE4
      have kk := (Keep.of t14).trans (k1.trans k2)
      refine ⟨((s4.trans t14).updN hlh0).updN hle, _, _, _, _, rfl, upd_same, by rw [upd_ne ne.symm, upd_same], ?_, ?_⟩
      · rw [hl1, List.map_append, ← hL]
        exact Paired.app (Paired.mapP pE fun _ _ z => z.keep kk) (.cons ((hy.same s4).keep kk) .nil)
      · rw [hl1, List.map_append, ← hL]
        exact Paired.app (Paired.mapP pH fun _ _ z => z.keep kk) (.cons (d3.keep (k1.trans k2)) .nil)
    · rintro σ H' ⟨s4, es, hs, x3, x4, rfl, hE, hHh, pE, pH⟩
      rw [List.take_of_length_le (by omega)] at pE pH
      have lE : es.length = S.length + 1 := by rw [pE.length, List.length_map, hl_len]
      have lH : hs.length = S.length + 1 := by rw [pH.length, List.length_map, hl_len]
      obtain ⟨L, hL⟩ := hl_split (b := 0) (h := 0) ok.rise
      rw [zero_add', ok.top] at hL
      have pH' := pH
      rw [hL, List.map_append] at pH'
      obtain ⟨hs1, u, rfl, _, hu⟩ := Paired.last pH'
      refine ⟨_, rfl, _, rfl, le, lh, rfl, ⟨_, .of hE⟩, ⟨_, .of hHh⟩, fun D1 hD1 => ?_⟩
      have neE : le ≠ D1 := ne_of_none hE hD1
      have neH : lh ≠ D1 := ne_of_none hHh hD1
      refine comp_zip (K := K) (l1 := le) (l2 := lh) (D := D1) (xs := es) (zs := hs1 ++ [u]) (fun i ys σ H2 => Same H' H2 ∧ H2 D1 = some (.lst ys) ∧ Paired (CoQ K H2) ys ((wl S).take i) ∧ i ≤ S.length + 1 ∧ ∃ x0 x1, σ = [x0, x1, some (.ref lh)])
        (by omega) (by have : 1000 ≤ sizeLine := by decide
                       omega) ⟨Same.upd hD1, upd_same, .nil, by omega, _, _, rfl⟩ ?_ ?_ ?_
      · rintro i ys σ H2 hi ⟨t1, h1, h2, h3, _⟩
        refine ⟨.of (t1 _ _ hE), .of (t1 _ _ hHh), h1, ?_⟩
        rw [h2.length, List.length_take]
        omega
      · rintro i x y ys σ H2 T0 hx hy ⟨t1, h1, h2, h3, x0, x1, rfl⟩ hT0 c
        obtain ⟨q1, hq1, fq1⟩ := Paired.get1 pE i x hx
        obtain ⟨q2, hq2, fq2⟩ := Paired.get1 pH i y hy
        have i1 : i < S.length + 1 := by have := (List.getElem?_eq_some_iff.mp hx).1; omega
        have hg := hl_get (h := 0) ok.rise (show i ≤ S.length by omega)
        rw [List.getElem?_map, hg] at hq1 hq2
        have eq1 : endOf 0 (S.take i) = q1 := Option.some.inj hq1
        have eq2 : A 0 S (endOf 0 (S.take i)) = q2 := by rw [← Option.some.inj hq2, zero_add']
        have t2 : Same H2 (upd H2 T0 (.tup [x, y])) := Same.upd hT0
        have t12 := t1.trans t2
        have hH2 := t12 _ _ hHh
        have hf := heft_fit ok i
        rw [A_take i ok.rise, eq2] at hf
        have tb : Ft 20 (tot S) := by
          have := heft_fit ok S.length
          rw [List.take_length, ok.top] at this
          exact this
        refine ⟨T0, _, rfl, sqT_new, rfl, x, _, rfl, y, _, rfl, rfl, ?_⟩
        refine ⟨_, rfl, _, rfl, _, rfl, _, rfl, lh, _, _, _, rfl, rfl, .of hH2, atI_last _ _, y, u, q2, tot S, rfl, fq2.same t12, hu.same t12, hf.fit, tb.fit, ok.tp, fun v1 H3 t3 d1 => ?_⟩
        refine ⟨(by show 2 ≤ sizeLine; decide), fun r hr5 => ?_⟩
        have t4 : Same H3 (upd H3 r (.tup [x, v1])) := Same.upd hr5
        have hD4 := (t2.trans (t3.trans t4)) _ _ h1
        refine ⟨hD4, ?_, upd_same, ?_, by omega, _, _, rfl⟩
        · exact (t12.trans (t3.trans t4)).updN hD1
        · have wi : (wl S)[i]? = some (q1, q2 / tot S) := by
            unfold wl
            rw [List.getElem?_map, hg, zero_add', eq2, eq1]
            rfl
          rw [take_snoc wi]
          have k1 := Keep.updL (o := .lst (ys ++ [.ref r])) hD4
          have kk := (Keep.of (t2.trans (t3.trans t4))).trans k1
          refine Paired.app (Paired.mapP h2 fun _ _ z => CoQ.keep kk z) (.cons ⟨r, x, v1, rfl, k1.sqT sqT_new, ?_, (d1.same t4).keep k1⟩ .nil)
          exact (fq1.same (t12.trans (t3.trans t4))).keep k1
      · rintro ys σ H2 ⟨t1, h1, h2, h3, _⟩
        rw [List.take_of_length_le (by unfold wl; rw [List.length_map, hl_len]; omega)] at h2
        exact k D1 ys H2 (s4.trans t1) (s4.free hD1) h1 h2
end
end FQ
namespace FQ
open PySem L2 FK
structure TxtC (K : PySem.W.Frag) (C : Addr) : Prop where
 cl : Cls K C
 nT : NoAttr K C "told"
 nL : NoAttr K C "line"
abbrev fldT (lt ll : Addr) : List (Str × V) := putF "line" (.ref ll) (putF "told" (.ref lt) [])
structure TasteAt (K : PySem.W.Frag) (C : Addr) (H : Hp) (x lt ll : Addr) (S : Steps) : Prop where
 ins : ∃ dx, H x = some (.ins C dx (fldT lt ll))
 told : ∃ ts, H lt = some (.lst ts) ∧ Paired (StQ K H) ts S
 line : ∃ ls, H ll = some (.lst ls) ∧ Paired (CoQ K H) ls (wl S)
theorem TasteAt.same {K : PySem.W.Frag} {C : Addr} {H H' : Hp} {x lt ll : Addr} {S : Steps} (s : Same H H') (h : TasteAt K C H x lt ll S) : TasteAt K C H' x lt ll S := by
 obtain ⟨⟨dx, h1⟩, ⟨ts, h2, h3⟩, ⟨ls, h4, h5⟩⟩ := h
 exact ⟨⟨dx, s _ _ h1⟩, ⟨ts, s _ _ h2, Paired.mapP h3 fun _ _ z => StQ.same s z⟩, ⟨ls, s _ _ h4, Paired.mapP h5 fun _ _ z => CoQ.same s z⟩⟩
theorem TasteAt.but {K : PySem.W.Frag} {C : Addr} {H : Hp} {x lt ll l : Addr} {S : Steps} {zs ys : List V} (h : TasteAt K C H x lt ll S) (hl : H l = some (.lst zs)) (n1 : l ≠ lt) (n2 : l ≠ ll) : TasteAt K C (upd H l (.lst ys)) x lt ll S := by
 obtain ⟨⟨dx, h1⟩, ⟨ts, h2, h3⟩, ⟨ls, h4, h5⟩⟩ := h
 have k := Keep.updL (o := .lst ys) hl
 refine ⟨⟨dx, ?_⟩, ⟨ts, ?_, Paired.mapP h3 fun _ _ z => StQ.keep k z⟩, ⟨ls, ?_, Paired.mapP h5 fun _ _ z => CoQ.keep k z⟩⟩
 ·exact k _ _ h1 (fun _ z => nomatch z) (fun _ z => nomatch z)
 ·rw [upd_ne n1.symm]
  exact h2
 ·rw [upd_ne n2.symm]
  exact h4
def spInit (K : PySem.W.Frag) (C : Addr) : Sp := fun vs H Q _ => ∃ (x dx a : Addr) (xs : List V) (p : Nat) (S : Steps), vs = [.ref x, .ref a] ∧ H x = some (.ins C dx []) ∧ SqL K H a xs ∧ Paired (StQ K H) xs S ∧ TsOk p S ∧
 ∀ (lt ll : Addr) (H' : Hp), (∀ b o, H b = some o → b ≠ x → H' b = some o) → H lt = none → H ll = none → TasteAt K C H' x lt ll S → Q .non H'
def spTold (K : PySem.W.Frag) (C : Addr) : Sp := fun vs H Q _ => ∃ (x lt ll : Addr) (S : Steps), vs = [.ref x] ∧ TasteAt K C H x lt ll S ∧ ∀ (l : Addr) (ts : List V), H l = none → Paired (StQ K H) ts S → Q (.ref l) (upd H l (.lst ts))
def spUpTo (K : PySem.W.Frag) (C : Addr) : Sp := fun vs H Q _ => ∃ (x lt ll : Addr) (z : V) (p : Nat) (S : Steps) (q : Rat), vs = [.ref x, z] ∧ TasteAt K C H x lt ll S ∧ TsOk p S ∧ FrQ K H z q ∧ 0 ≤ q ∧ q ≤ 1 ∧ Bd 280 q ∧
 ∀ v H', Same H H' → FrQ K H' v (F S q) → Q v H'
theorem mk_taste {K : PySem.W.Frag} {C : Addr} {H : Hp} {R : Addr → Hp → Prop} {E : XK} {a : Addr} {xs : List V} {p : Nat} {S : Steps} (ha : SqL K H a xs) (hS : Paired (StQ K H) xs S) (ok : TsOk p S)
  (k : ∀ (x lt ll : Addr) (H' : Hp), Same H H' → H x = none → H lt = none → H ll = none → TasteAt K C H' x lt ll S → R x H') :
  ∀ x dx, H x = none → H dx = none → dx ≠ x → spInit K C [.ref x, .ref a] (upd (upd H dx (.own x)) x (.ins C dx [])) (fun v H2 => v = .non ∧ R x H2) E := by
 intro x dx hx hdx ne
 have s0 : Same H (upd (upd H dx (.own x)) x (.ins C dx [])) := fun b o e => by
  rw [upd_ne (ne_of_none e hx), upd_ne (ne_of_none e hdx)]
  exact e
 refine ⟨x, dx, a, xs, p, S, rfl, upd_same, s0.seq ha, Paired.mapP hS fun _ _ z => StQ.same s0 z, ok, fun lt ll H' h1 h2 h3 h4 => ⟨rfl, k x lt ll H' (fun b o e => h1 b o (s0 b o e) (ne_of_none e hx)) hx (s0.free h2) (s0.free h3) h4⟩⟩
theorem wlF_eq (S : Steps) : wlF S = (wl S).map fun z => (z.2, z.1) := by
 unfold wl wlF
 rw [List.map_map]
 rfl
section
variable {p : Nat} {S : Steps}
theorem wl_ok (h : TsOk p S) : LnOk (wl S) where
 few := by
  have := h.len
  unfold wl
  rw [List.length_map, hl_len]
  omega
 fit := fun z hz => by
  obtain ⟨i, hi⟩ := List.mem_iff_getElem?.mp hz
  obtain ⟨_, rfl⟩ := wl_get h hi
  exact ⟨⟨end_nn h i, (end_bd h i).mono (by decide)⟩, ⟨F_nn h _, (endF_bd h i).mono (by decide)⟩⟩
 rise := fun i a b ha hb => by
  obtain ⟨_, rfl⟩ := wl_get h ha
  obtain ⟨l2, rfl⟩ := wl_get h hb
  exact Rat.le_of_lt (end_step h l2)
theorem wlF_ok (h : TsOk p S) : LnOk (wlF S) := by
 have o := wl_ok h
 rw [wlF_eq]
 refine ⟨by rw [List.length_map]; exact o.few, fun z hz => ?_, fun i a b ha hb => ?_⟩
 ·obtain ⟨y, hy, rfl⟩ := List.mem_map.mp hz
  exact ⟨(o.fit y hy).2, (o.fit y hy).1⟩
 ·rw [List.getElem?_map] at ha hb
  cases qa : (wl S)[i]? with
  | none => rw [qa] at ha; cases ha
  | some a' =>
   cases qb : (wl S)[i + 1]? with
   | none => rw [qb] at hb; cases hb
   | some b' =>
    rw [qa] at ha
    rw [qb] at hb
    cases (Option.some.inj ha)
    cases (Option.some.inj hb)
    obtain ⟨_, rfl⟩ := wl_get h qa
    obtain ⟨l2, rfl⟩ := wl_get h qb
    exact F_mono h (Rat.le_of_lt (end_step h l2))
end
section
variable {P : Program} {w : World} {K : PySem.W.Frag} {mg : Str → Option Value} {base : Heap} {aL aR C : Addr}
theorem scInit : FnScope ["self", "steps"] ["self", "steps"] (defScope m_Taste___init__) := ⟨rfl, rfl, rfl, by decide +kernel, rfl, by decide +kernel, by decide +kernel⟩
theorem ok_init {f : Addr} {fd : FuncData} (D : Fun K "__init__" "Taste.__init__" m_Taste___init__ f fd) (CS : Cl P w K mg base "check_steps" 4 ["steps"] (spSteps K)) (CL : Cl P w K mg base "worth_line" 4 ["steps"] (spLine K)) (T : Txt K mg aL aR) (TC : TxtC K C) :
  FnOk P w K mg base CX0 5 f fd ["self", "steps"] (spInit K C) := by
 refine D.ok scInit (fun vs H Q E h => ?_) (fun cdv A0 outer s H vs Q E hr h => ?_)
 ·obtain ⟨x, dx, a, xs, p, S, rfl, _⟩ := h
  rfl
 ·obtain ⟨x, dx, a, xs, p, S, rfl, hx, ha, hS, ok, k⟩ := h
  refine ⟨_, pss_cons (ps_expr (pe_cl CS hr rfl (pa_cons (pv 1) pa_nil)))
   (pss_cons (ps_fld (pv 0) (pe_callTy call_list_of rfl T.list PyProof.Rows.boot_list (pa_cons (pv 1) pa_nil)) rfl)
   (pss_one (ps_fld (pv 0) (pe_cl CL hr rfl (pa_cons (pv 1) pa_nil)) rfl))), ?_⟩
  refine ⟨_, rfl, a, xs, p, S, rfl, ha, hS, ok, ?_⟩
  refine ⟨_, rfl, a, xs, rfl, .inl ha, fun lt hlt => ?_⟩
  have s1 : Same H (upd H lt (.lst xs)) := Same.upd hlt
  have nx : x ≠ lt := ne_of_none hx hlt
  refine ⟨_, rfl, x, C, dx, [], rfl, s1 _ _ hx, TC.cl, TC.nT, (by show 0 < 1000; decide), ?_⟩
  have k1 : Keep H (upd (upd H lt (.lst xs)) x (.ins C dx (putF "told" (.ref lt) []))) → True := fun _ => trivial
  have sq2 : SqL K (upd (upd H lt (.lst xs)) x (.ins C dx (putF "told" (.ref lt) []))) a xs := by
   rcases s1.seq ha with (z | ⟨o, z⟩) | z
   ·exact .inl (.inl (by rw [upd_ne (ne_of z (s1 _ _ hx) (fun z => nomatch z))]; exact z))
   ·exact .inl (.inr ⟨o, by rw [upd_ne (ne_of z (s1 _ _ hx) (fun z => nomatch z))]; exact z⟩)
   ·exact .inr z
  have tq : ∀ (b : Addr) (zs : List V), SqT K H b zs → SqT K (upd (upd H lt (.lst xs)) x (.ins C dx (putF "told" (.ref lt) []))) b zs := fun b zs hb => by
   rcases s1.sqT hb with (z | ⟨o, z⟩) | z
   ·exact .inl (.inl (by rw [upd_ne (ne_of z (s1 _ _ hx) (fun z => nomatch z))]; exact z))
   ·exact .inl (.inr ⟨o, by rw [upd_ne (ne_of z (s1 _ _ hx) (fun z => nomatch z))]; exact z⟩)
   ·exact .inr z
  have stq : Paired (StQ K (upd (upd H lt (.lst xs)) x (.ins C dx (putF "told" (.ref lt) [])))) xs S := Paired.mapP hS fun y z ⟨b, u, v, e1, e2, ⟨b2, u2, v2, e4, e5, e6, e7⟩, e3⟩ => ⟨b, u, v, e1, tq _ _ e2, ⟨b2, u2, v2, e4, tq _ _ e5, e6, e7⟩, e3⟩
  refine ⟨_, rfl, a, xs, p, S, rfl, sq2, stq, ok, fun ll ys H' s2 hll hL pL => ?_⟩
  have hx2 : H' x = some (.ins C dx (putF "told" (.ref lt) [])) := s2 _ _ upd_same
  have hlt2 : H' lt = some (.lst xs) := s2 _ _ (by rw [upd_ne nx.symm]; exact upd_same)
  have nxl : x ≠ ll := ne_of hx2 hL (fun z => nomatch z)
  refine ⟨_, rfl, x, C, dx, _, rfl, hx2, TC.cl, TC.nL, (by show 1 < 1000; decide), ?_⟩
  have tq2 : ∀ (b : Addr) (zs : List V), SqT K H' b zs → SqT K (upd H' x (.ins C dx (fldT lt ll))) b zs := fun b zs hb => by
   rcases hb with (z | ⟨o, z⟩) | z
   ·exact .inl (.inl (by rw [upd_ne (ne_of z hx2 (fun z => nomatch z))]; exact z))
   ·exact .inl (.inr ⟨o, by rw [upd_ne (ne_of z hx2 (fun z => nomatch z))]; exact z⟩)
   ·exact .inr z
  refine k lt ll _ (fun b o e hb => ?_) hlt ?_ ⟨⟨dx, upd_same⟩, ⟨xs, ?_, ?_⟩, ⟨ys, ?_, ?_⟩⟩
  ·rw [upd_ne hb]
   exact s2 _ _ (by rw [upd_ne hb]; exact s1 _ _ e)
  ·have : (upd H lt (.lst xs)) ll = none := by
    have := hll
    rw [upd_ne nxl.symm] at this
    exact this
   exact s1.free this
  ·rw [upd_ne nx.symm]
   exact hlt2
  ·exact Paired.mapP stq fun y z ⟨b, u, v, e1, e2, ⟨b2, u2, v2, e4, e5, e6, e7⟩, e3⟩ => ⟨b, u, v, e1, tq2 _ _ (s2.sqT e2), ⟨b2, u2, v2, e4, tq2 _ _ (s2.sqT e5), e6, e7⟩, e3⟩
  ·rw [upd_ne nxl.symm]
   exact hL
  ·exact Paired.mapP pL fun y z ⟨b, u, v, e1, e2, ⟨b2, u2, v2, e4, e5, e6, e7⟩, ⟨b3, u3, v3, g4, g5, g6, g7⟩⟩ => ⟨b, u, v, e1, tq2 _ _ e2, ⟨b2, u2, v2, e4, tq2 _ _ e5, e6, e7⟩, ⟨b3, u3, v3, g4, tq2 _ _ g5, g6, g7⟩⟩
theorem scTold : FnScope ["self"] ["self"] (defScope m_Taste_steps) := ⟨rfl, rfl, rfl, by decide +kernel, rfl, by decide +kernel, by decide +kernel⟩
theorem ok_told {f : Addr} {fd : FuncData} (D : Fun K "steps" "Taste.steps" m_Taste_steps f fd) (T : Txt K mg aL aR) (TC : TxtC K C) : FnOk P w K mg base CX0 1 f fd ["self"] (spTold K C) := by
 refine D.ok scTold (fun vs H Q E h => ?_) (fun cdv A0 outer s H vs Q E hr h => ?_)
 ·obtain ⟨x, lt, ll, S, rfl, _⟩ := h
  rfl
 ·obtain ⟨x, lt, ll, S, rfl, ⟨⟨dx, h1⟩, ⟨ts, h2, h3⟩, _⟩, k⟩ := h
  refine ⟨_, pss_one (ps_ret (pe_callTy call_list_of rfl T.list PyProof.Rows.boot_list (pa_cons (pe_fld (pv 0) rfl) pa_nil))), ?_⟩
  exact ⟨_, rfl, x, C, dx, _, _, rfl, h1, TC.cl, TC.nT, rfl, lt, ts, rfl, .inl (.of h2), fun l hl => k l ts hl h3⟩
theorem scUpTo : FnScope ["self", "point"] ["self", "point"] (defScope m_Taste_worth_up_to) := ⟨rfl, rfl, rfl, by decide +kernel, rfl, by decide +kernel, by decide +kernel⟩
theorem ok_upto {f : Addr} {fd : FuncData} (D : Fun K "worth_up_to" "Taste.worth_up_to" m_Taste_worth_up_to f fd) (CR : Cl P w K mg base "reached" 6 ["line", "up"] (spReached K)) (TC : TxtC K C) : FnOk P w K mg base CX0 7 f fd ["self", "point"] (spUpTo K C) := by
 refine D.ok scUpTo (fun vs H Q E h => ?_) (fun cdv A0 outer s H vs Q E hr h => ?_)
 ·obtain ⟨x, lt, ll, z, p, S, q, rfl, _⟩ := h
  rfl
 ·obtain ⟨x, lt, ll, z, p, S, q, rfl, ⟨⟨dx, h1⟩, _, ⟨ls, h4, h5⟩⟩, ok, hz, q0, q1, qb, k⟩ := h
  refine ⟨_, pss_one (ps_ret (pe_cl CR hr rfl (pa_cons (pe_comp ["corner"] rfl (CompOk.plain rfl (by decide +kernel) (by decide +kernel) (by decide +kernel)) (pi_list (pe_fld (pv 0) rfl))
   (fun _ => pg_name (i := 0) (show [Str.ofString "corner"].Nodup by decide +kernel) rfl (Or.inl rfl)) (fun _ => pifs_nil)
   (fun _ => pe_tup (pa_cons (pe_ix ix_tup (pv 0) pe_int (fun _ _ => rfl)) (pa_cons (pe_ix ix_tup (pv 0) pe_int (fun _ _ => rfl)) pa_nil)))) (pa_cons (pv 1) pa_nil)))), ?_⟩
  refine ⟨_, rfl, x, C, dx, _, _, rfl, h1, TC.cl, TC.nL, rfl, ll, rfl, ⟨_, .of h4⟩, fun D1 hD1 => ?_⟩
  have ne1 : ll ≠ D1 := ne_of_none h4 hD1
  have lw : (wl S).length ≤ 9 := by
   have := ok.len
   unfold wl
   rw [List.length_map, hl_len]
   omega
  have lL := h5.length
  have big : 1000 ≤ sizeLine := by decide
  refine comp_list (K := K) (a := ll) (D := D1) (xs := ls) (fun i ys σ H2 => Same H H2 ∧ H2 D1 = some (.lst ys) ∧ Paired (CoQ K H2) ys ((wlF S).take i) ∧ i ≤ ls.length ∧ ∃ x0, σ = [x0])
   (by omega) ⟨Same.upd hD1, upd_same, .nil, by omega, _, rfl⟩ ?_ ?_ ?_
  ·rintro i ys σ H2 hi ⟨t1, e1, e2, e3, _⟩
   refine ⟨.of (t1 _ _ h4), e1, ?_⟩
   rw [e2.length, List.length_take]
   omega
  ·rintro i y ys σ H2 hy ⟨t1, e1, e2, e3, x0, rfl⟩ c
   obtain ⟨c0, hc, py, u1, u2, rfl, hp, hu1, hu2⟩ := Paired.get1 h5 i y hy
   refine ⟨_, rfl, py, _, _, _, rfl, rfl, t1.sqT hp, rfl, _, rfl, py, _, _, _, rfl, rfl, t1.sqT hp, rfl, (by show 2 ≤ sizeLine; decide), fun r hr5 => ?_⟩
   have t2 : Same H2 (upd H2 r (.tup [u2, u1])) := Same.upd hr5
   have hD2 := t2 _ _ e1
   refine ⟨hD2, (t1.trans t2).updN hD1, upd_same, ?_, by have := (List.getElem?_eq_some_iff.mp hy).1; omega, _, rfl⟩
   have wi : (wlF S)[i]? = some (c0.2, c0.1) := by
    rw [wlF_eq, List.getElem?_map, hc]
    rfl
   rw [take_snoc wi]
   have k1 := Keep.updL (o := .lst (ys ++ [.ref r])) hD2
   exact Paired.app (Paired.mapP e2 fun _ _ z => CoQ.keep k1 (CoQ.same t2 z)) (.cons ⟨r, u2, u1, rfl, k1.sqT sqT_new, (hu2.same (t1.trans t2)).keep k1, (hu1.same (t1.trans t2)).keep k1⟩ .nil)
  ·rintro ys σ H2 ⟨t1, e1, e2, e3, _⟩
   have lF : (wlF S).length = (wl S).length := by rw [wlF_eq, List.length_map]
   rw [List.take_of_length_le (by omega)] at e2
   refine ⟨_, rfl, D1, ys, z, wlF S, q, rfl, .of e1, e2, hz.same t1, wlF_ok ok, ⟨q0, qb⟩, fun v H3 t3 a3 => k v H3 (t1.trans t3) ?_⟩
   rw [wlF_rch ok q0 q1] at a3
   exact a3
end
end FQ
namespace FQ
open PySem L2 FK
def spPointAt (K : PySem.W.Frag) (C : Addr) : Sp := fun vs H Q _ => ∃ (x lt ll : Addr) (z : V) (p : Nat) (S : Steps) (y : Rat), vs = [.ref x, z] ∧ TasteAt K C H x lt ll S ∧ TsOk p S ∧ FrQ K H z y ∧ Ft 280 y ∧ ∀ v H', Same H H' → AnsQ K H' v (rch (wl S) y) → Q v H'
def spMark (K : PySem.W.Frag) (C : Addr) : Sp := fun vs H Q _ => ∃ (x lt ll : Addr) (z1 z2 : V) (p : Nat) (S : Steps) (a h : Rat), vs = [.ref x, z1, z2] ∧ TasteAt K C H x lt ll S ∧ TsOk p S ∧ FrQ K H z1 a ∧ FrQ K H z2 h ∧ (0 ≤ a ∧ a ≤ 1 ∧ Bd 280 a) ∧ Fit (F S a) ∧ Fit h ∧ Ft 280 (F S a + h) ∧
 ∀ v H', Same H H' → AnsQ K H' v (rch (wl S) (F S a + h)) → Q v H'
section
variable {P : Program} {w : World} {K : PySem.W.Frag} {mg : Str → Option Value} {base : Heap} {aL aR C : Addr}
theorem scPointAt : FnScope ["self", "worth"] ["self", "worth"] (defScope m_Taste_point_at) := ⟨rfl, rfl, rfl, by decide +kernel, rfl, by decide +kernel, by decide +kernel⟩
theorem ok_pointat {f : Addr} {fd : FuncData} (D : Fun K "point_at" "Taste.point_at" m_Taste_point_at f fd) (CR : Cl P w K mg base "reached" 6 ["line", "up"] (spReached K)) (TC : TxtC K C) : FnOk P w K mg base CX0 7 f fd ["self", "worth"] (spPointAt K C) := by
 refine D.ok scPointAt (fun vs H Q E h => ?_) (fun cdv A0 outer s H vs Q E hr h => ?_)
 ·obtain ⟨x, lt, ll, z, p, S, y, rfl, _⟩ := h
  rfl
 ·obtain ⟨x, lt, ll, z, p, S, y, rfl, ⟨⟨dx, h1⟩, _, ⟨ls, h4, h5⟩⟩, ok, hz, fy, k⟩ := h
  refine ⟨_, pss_one (ps_ret (pe_cl CR hr rfl (pa_cons (pe_fld (pv 0) rfl) (pa_cons (pv 1) pa_nil)))), ?_⟩
  exact ⟨_, rfl, x, C, dx, _, _, rfl, h1, TC.cl, TC.nL, rfl, _, rfl, ll, ls, z, wl S, y, rfl, .of h4, h5, hz, wl_ok ok, fy, k⟩
theorem scMark : FnScope ["self", "start", "share"] ["self", "start", "share"] (defScope m_Taste_mark) := ⟨rfl, rfl, rfl, by decide +kernel, rfl, by decide +kernel, by decide +kernel⟩
theorem ok_mark {f : Addr} {fd : FuncData} (D : Fun K "mark" "Taste.mark" m_Taste_mark f fd) (C4 : Four P w K mg base) (MU : Ml P w K mg base C "worth_up_to" 7 ["self", "point"] (spUpTo K C)) (MP : Ml P w K mg base C "point_at" 7 ["self", "worth"] (spPointAt K C)) (T : Txt K mg aL aR) (TC : TxtC K C) :
  FnOk P w K mg base CX0 8 f fd ["self", "start", "share"] (spMark K C) := by
 refine D.ok scMark (fun vs H Q E h => ?_) (fun cdv A0 outer s H vs Q E hr h => ?_)
 ·obtain ⟨x, lt, ll, z1, z2, p, S, a, h, rfl, _⟩ := h
  rfl
 ·obtain ⟨x, lt, ll, z1, z2, p, S, a, h, rfl, ta, ok, h1, h2, ⟨a0, a1, ab⟩, fF, fh, fy, k⟩ := h
  have hr1 : Room 1 _ := hr.mono (by decide)
  have hr3 : Room 3 _ := hr.mono (by decide)
  refine ⟨_, pss_cons (ps_if (pt_val (pe_cl C4.below hr1 rfl (pa_cons (pe_glob (v := .ref aR) rfl T.right rfl) (pa_cons (pv 1) pa_nil)))) pss_never pss_nil)
   (pss_one (ps_ret (pe_ml MP TC.cl hr (pv 0) (pa_cons (pe_cl C4.plus hr3 rfl (pa_cons (pe_ml MU TC.cl hr (pv 0) (pa_cons (pv 1) pa_nil)) (pa_cons (pv 2) pa_nil))) pa_nil)))), ?_⟩
  obtain ⟨dx, hx⟩ := ta.ins
  refine ⟨_, rfl, .ref aR, z1, 1, a, rfl, T.r H, h1, Fit.one, Bd.fit ab a0 (by decide), _, rfl, iteN (show ¬ (1 : Rat) < a by grind) ?_⟩
  refine ⟨_, rfl, x, dx, _, rfl, hx, rfl, _, rfl, x, dx, _, rfl, hx, rfl, _, rfl, x, lt, ll, z1, p, S, a, rfl, ta, ok, h1, a0, a1, ab, fun v1 H1 s1 d1 => ?_⟩
  refine ⟨_, rfl, v1, z2, _, h, rfl, d1, h2.same s1, fF, fh, trivial, fun v2 H2 s2 d2 => ?_⟩
  exact ⟨x, lt, ll, v2, p, S, _, rfl, ta.same (s1.trans s2), ok, d2, fy, fun v3 H3 s3 d3 => k v3 H3 (s1.trans (s2.trans s3)) d3⟩
end
end FQ
namespace FQ
open PySem L2 FK
def TasteS (K : PySem.W.Frag) (C : Addr) (H : Hp) (x : V) (S : Steps) : Prop := ∃ t lt ll p, x = .ref t ∧ TasteAt K C H t lt ll S ∧ TsOk p S
def spTastes (K : PySem.W.Frag) (C : Addr) : Sp := fun vs H Q _ => ∃ (a : Addr) (xs : List V) (Ss : List Steps), vs = [.ref a] ∧ SqL K H a xs ∧ Paired (TasteS K C H) xs Ss ∧ Q .non H
def spTakers (K : PySem.W.Frag) (C : Addr) : Sp := fun vs H Q _ => ∃ (a : Addr) (xs : List V) (Ss : List Steps) (i j : Int), vs = [.ref a, .int i, .int j] ∧ SqL K H a xs ∧ Paired (TasteS K C H) xs Ss ∧ i ≤ xs.length ∧ xs.length ≤ j ∧ Q .non H
section
variable {P : Program} {w : World} {K : PySem.W.Frag} {mg : Str → Option Value} {base : Heap} {aL aR C : Addr}
theorem scTastes : FnScope ["tastes", "taste"] ["tastes"] (defScope s_check_tastes) := ⟨rfl, rfl, rfl, by decide +kernel, rfl, by decide +kernel, by decide +kernel⟩
theorem ok_tastes {f : Addr} {fd : FuncData} (D : DefAt K mg "check_tastes" s_check_tastes ["tastes"] f fd) (T : Txt K mg aL aR) (IC : IsC K C) (mgC : mg "Taste" = some (.ref C)) : FnOk P w K mg base CX0 1 f fd ["tastes"] (spTastes K C) := by
 refine D.fn.ok scTastes (fun vs H Q E h => ?_) (fun cdv A outer s H vs Q E hr h => ?_)
 ·obtain ⟨a, xs, Ss, rfl, _⟩ := h
  rfl
 ·obtain ⟨a, xs, Ss, rfl, ha, hS, k⟩ := h
  refine ⟨_, pss_cons (ps_if (pt_not (pt_val (pe_isi (pv 0) rfl T.isi rfl T.list PyProof.Rows.boot_list))) pss_never pss_nil)
   (pss_one (ps_for PassesOwn.never rfl (pi_list (pv 0)) (pg_name (i := 1) scTastes.nd rfl (Or.inl rfl))
    (pss_one (ps_if (pt_not (pt_val (pe_callB call_isC (by rfl) T.isi PyProof.Rows.boot_isinstance (pa_cons (pv 1) (pa_cons (pe_glob (v := .ref C) rfl mgC rfl) pa_nil))))) pss_never pss_nil)))), ?_⟩
  refine ⟨_, rfl, _, _, .sqL ha, kit_list _, _, rfl, iteF ?_⟩
  refine ⟨_, rfl, a, rfl, ⟨_, ha⟩, ?_⟩
  refine for_list (K := K) (a := a) (xs := xs) (fun i σ H' => H' = H ∧ ∃ x1, σ = [some (.ref a), x1]) ⟨rfl, _, rfl⟩ (fun i σ H' _ h => by rw [h.1]; exact ha) ?_ ?_
  ·rintro i x σ H' hx ⟨rfl, x1, rfl⟩
   obtain ⟨S, hS', t, lt, ll, p, rfl, ta, ok⟩ := Paired.get1 hS i x hx
   obtain ⟨dx, h1⟩ := ta.ins
   exact ⟨_, rfl, t, C, dx, _, rfl, h1, IC, _, rfl, iteF ⟨rfl, _, rfl⟩⟩
  ·rintro σ H' ⟨rfl, x1, rfl⟩
   exact k
theorem scTakers : FnScope ["tastes", "fewest", "most"] ["tastes", "fewest", "most"] (defScope s_check_takers) := ⟨rfl, rfl, rfl, by decide +kernel, rfl, by decide +kernel, by decide +kernel⟩
theorem ok_takers {f : Addr} {fd : FuncData} (D : DefAt K mg "check_takers" s_check_takers ["tastes", "fewest", "most"] f fd) (CT : Cl P w K mg base "check_tastes" 1 ["tastes"] (spTastes K C)) (T : Txt K mg aL aR) : FnOk P w K mg base CX0 2 f fd ["tastes", "fewest", "most"] (spTakers K C) := by
 refine D.fn.ok scTakers (fun vs H Q E h => ?_) (fun cdv A outer s H vs Q E hr h => ?_)
 ·obtain ⟨a, xs, Ss, i, j, rfl, _⟩ := h
  rfl
 ·obtain ⟨a, xs, Ss, i, j, rfl, ha, hS, hi, hj, k⟩ := h
  refine ⟨_, pss_cons (ps_expr (pe_cl CT hr rfl (pa_cons (pv 0) pa_nil)))
   (pss_one (ps_if (PW.pt (pw_or (pt_cmpR op_lt (pe_callB call_len_seq (by rfl) T.len PySem.boot_len (pa_cons (pv 0) pa_nil)) (pv 1) (nomark _)) (pw_or1 (pt_cmpR op_gt (pe_callB call_len_seq (by rfl) T.len PySem.boot_len (pa_cons (pv 0) pa_nil)) (pv 2) (nomark _))))) pss_never pss_nil)), ?_⟩
  refine ⟨_, rfl, a, xs, Ss, rfl, ha, hS, ?_⟩
  refine ⟨_, rfl, a, _, rfl, .inl ha, _, rfl, _, _, rfl, rfl, _, rfl, iteN (by omega) ?_⟩
  refine ⟨_, rfl, a, _, rfl, .inl ha, _, rfl, _, _, rfl, rfl, _, rfl, iteN (by omega) ?_⟩
  exact k
end
end FQ
namespace FK
theorem ptF_snoc (U : List Rat) : ∀ {p a q : Rat × Rat} {L : List (Rat × Rat)} {i : Nat}, (p :: L)[i]? = some a → L[i]? = some q → ptF U p (L.take (i + 1)) = ptF U p (L.take i) ++ (mid U a q ++ [q])
 | p, a, q, [], i, _, h => by cases h
 | p, a, q, r :: L, 0, ha, h => by
  cases ha
  cases h
  show mid U p q ++ q :: ptF U q (L.take 0) = ptF U p [] ++ (mid U p q ++ [q])
  rw [List.take_zero]
  rfl
 | p, a, q, r :: L, i + 1, ha, h => by
  have ih := ptF_snoc U (p := r) (L := L) (i := i) (a := a) (q := q) ha h
  show mid U p r ++ r :: ptF U r (L.take (i + 1)) = (mid U p r ++ r :: ptF U r (L.take i)) ++ (mid U a q ++ [q])
  rw [ih, List.append_assoc]
  rfl
theorem mid_snoc {U : List Rat} {j : Nat} {u : Rat} (p q : Rat × Rat) (h : U[j]? = some u) : mid (U.take (j + 1)) p q = mid (U.take j) p q ++ (if p.2 < u ∧ u < q.2 then [(crs p q u, u)] else []) := by
 unfold mid
 rw [take_snoc h, List.filter_append, List.map_append]
 congr 1
 by_cases c : p.2 < u ∧ u < q.2
 ·rw [if_pos c, List.filter_cons_of_pos (by simp [c.1, c.2])]
  rfl
 ·rw [if_neg c, List.filter_cons_of_neg (by simpa using c)]
  rfl
theorem ptF_few (U : List Rat) : ∀ (p : Rat × Rat) (L : List (Rat × Rat)), (ptF U p L).length ≤ L.length * (U.length + 1)
 | _, [] => Nat.zero_le _
 | p, q :: L => by
  have ih := ptF_few U q L
  have f := List.length_filter_le (fun u => decide (p.2 < u) && decide (u < q.2)) U
  show (mid U p q ++ q :: ptF U q L).length ≤ (L.length + 1) * (U.length + 1)
  unfold mid
  rw [List.length_append, List.length_map, List.length_cons, Nat.add_mul, Nat.one_mul]
  omega
end FK
namespace FQ
open PySem L2 FK
def spCorners (K : PySem.W.Frag) (C : Addr) : Sp := fun vs H Q _ => ∃ (x lt ll : Addr) (S : Steps), vs = [.ref x] ∧ TasteAt K C H x lt ll S ∧ ∀ (l : Addr) (ts : List V), H l = none → Paired (CoQ K H) ts (wl S) → Q (.ref l) (upd H l (.lst ts))
def spParted (K : PySem.W.Frag) : Sp := fun vs H Q _ => ∃ (a b : Addr) (xs us : List V) (p : Rat × Rat) (L : List (Rat × Rat)) (U : List Rat), vs = [.ref a, .ref b] ∧ SqL K H a xs ∧ Paired (CoQ K H) xs (p :: L) ∧ SqL K H b us ∧ Paired (FrQ K H) us U ∧ (∀ c ∈ p :: L, Ft 280 c.1 ∧ Ft 280 c.2) ∧ (∀ u ∈ U, Ft 280 u) ∧ Con (fun a b => a.1 ≤ b.1) p L ∧ L.length ≤ 400 ∧ U.length ≤ 9 ∧
 ∀ (l : Addr) (ys : List V) (H' : Hp), Same H H' → H l = none → H' l = some (.lst ys) → Paired (CoQ K H') ys (p :: ptF U p L) → Q (.ref l) H'
abbrev NPt : List Str := ["line", "ups", "corners", "k", "up"]
theorem scPt : FnScope NPt ["line", "ups"] (defScope s_parted) := ⟨rfl, rfl, rfl, by decide +kernel, rfl, by decide +kernel, by decide +kernel⟩
theorem con_at {R : Rat × Rat → Rat × Rat → Prop} : ∀ {p a q : Rat × Rat} {L : List (Rat × Rat)} {i : Nat}, Con R p L → (p :: L)[i]? = some a → L[i]? = some q → R a q
 | _, _, _, [], _, _, _, h => by cases h
 | _, _, _, r :: L, 0, c, ha, h => by
  cases ha
  cases h
  exact c.1
 | _, _, _, r :: L, i + 1, c, ha, h => con_at (p := r) (L := L) (i := i) c.2 ha h
section
variable {P : Program} {w : World} {K : PySem.W.Frag} {mg : Str → Option Value} {base : Heap} {aL aR C : Addr}
theorem scCorners : FnScope ["self"] ["self"] (defScope m_Taste_corners) := ⟨rfl, rfl, rfl, by decide +kernel, rfl, by decide +kernel, by decide +kernel⟩
theorem ok_corners {f : Addr} {fd : FuncData} (D : Fun K "corners" "Taste.corners" m_Taste_corners f fd) (T : Txt K mg aL aR) (TC : TxtC K C) : FnOk P w K mg base CX0 1 f fd ["self"] (spCorners K C) := by
 refine D.ok scCorners (fun vs H Q E h => ?_) (fun cdv A0 outer s H vs Q E hr h => ?_)
 ·obtain ⟨x, lt, ll, S, rfl, _⟩ := h
  rfl
 ·obtain ⟨x, lt, ll, S, rfl, ta, k⟩ := h
  refine ⟨_, pss_one (ps_ret (pe_callTy call_list_of rfl T.list PyProof.Rows.boot_list (pa_cons (pe_fld (pv 0) rfl) pa_nil))), ?_⟩
  obtain ⟨dx, hx⟩ := ta.ins
  obtain ⟨ls, h4, h5⟩ := ta.line
  exact ⟨_, rfl, x, C, dx, _, _, rfl, hx, TC.cl, TC.nL, rfl, ll, ls, rfl, .inl (.of h4), fun l hl => k l ls hl h5⟩
theorem ok_parted {f : Addr} {fd : FuncData} (D : DefAt K mg "parted" s_parted ["line", "ups"] f fd) (CB : Cl P w K mg base "below" 1 ["one", "other"] (spBelow K)) (CC : Cl P w K mg base "crossing" 5 ["one", "other", "up"] (spCrossing K)) (T : Txt K mg aL aR) :
  FnOk P w K mg base CX0 6 f fd ["line", "ups"] (spParted K) := by
 refine D.fn.ok scPt (fun vs H Q E h => ?_) (fun cdv A outer s H vs Q E hr h => ?_)
 ·obtain ⟨a, b, xs, us, p, L, U, rfl, _⟩ := h
  rfl
 ·obtain ⟨a, b, xs, us, p, L, U, rfl, ha, pX, hb, pU, fc, fu, con, l4, u9, k⟩ := h
  have hr1 : Room 1 _ := hr.mono (by decide)
  have big : 10000 ≤ sizeLine := by decide
  refine ⟨_, pss_cons (ps_set (i := 2) scPt.nd rfl (Or.inl rfl) (pe_slice sl_list (pv 0) po_none (po_some pe_int)))
   (pss_cons (ps_for PassesOwn.never rfl (pi_range2 rfl T.range (pa_cons pe_int (pa_cons (pe_callB call_len_seq (by rfl) T.len PySem.boot_len (pa_cons (pv 0) pa_nil)) pa_nil))) (pg_name (i := 3) scPt.nd rfl (Or.inl rfl))
    (pss_cons (ps_for PassesOwn.never rfl (pi_list (pv 1)) (pg_name (i := 4) scPt.nd rfl (Or.inl rfl))
     (pss_one (ps_if (PW.pt (pw_and (pt_val (pe_cl CB hr1 rfl (pa_cons (pe_ix ix_tup (pe_ix ix_list (pv 0) (pe_op op_sub (pv 3) pe_int) (fun _ _ => rfl)) pe_int (fun _ _ => rfl)) (pa_cons (pv 4) pa_nil)))) (pw_and1 (pt_val (pe_cl CB hr1 rfl (pa_cons (pv 4) (pa_cons (pe_ix ix_tup (pe_ix ix_list (pv 0) (pv 3) (fun _ _ => rfl)) pe_int (fun _ _ => rfl)) pa_nil)))))))
      (pss_one (ps_expr (pe_bm PySem.F.plainAttrs_list PySem.F.slot_list_append PySem.F.type_list_append mt_append (pv 2) (pa_cons (pe_tup (pa_cons (pe_cl CC hr rfl (pa_cons (pe_ix ix_list (pv 0) (pe_op op_sub (pv 3) pe_int) (fun _ _ => rfl)) (pa_cons (pe_ix ix_list (pv 0) (pv 3) (fun _ _ => rfl)) (pa_cons (pv 4) pa_nil)))) (pa_cons (pv 4) pa_nil))) pa_nil)))) pss_nil)))
    (pss_one (ps_expr (pe_bm PySem.F.plainAttrs_list PySem.F.slot_list_append PySem.F.type_list_append mt_append (pv 2) (pa_cons (pe_ix ix_list (pv 0) (pv 3) (fun _ _ => rfl)) pa_nil))))))
   (pss_one (ps_ret (pv 2)))), ?_⟩
  have lX := pX.length
  have lX' : xs.length = L.length + 1 := by rw [lX]; rfl
  have lU := pU.length
  obtain ⟨x0, xt, rfl, hx0, hxt⟩ : ∃ x0 xt, xs = x0 :: xt ∧ CoQ K H x0 p ∧ Paired (CoQ K H) xt L := by
   cases pX with
   | cons h t => exact ⟨_, _, rfl, h, t⟩
  refine ⟨_, rfl, _, rfl, a, _, rfl, ha, fun l0 hl0 => ?_⟩
  have ec : cutV (x0 :: xt) none (some 1) = [x0] := by
   unfold cutV
   rw [HT.sIx_none, show (some (1 : Int)) = some ((1 : Nat) : Int) from rfl, HT.sIx_nat, List.drop_zero, Nat.sub_zero, Nat.min_eq_left (by rw [lX']; omega)]
   rfl
  rw [ec]
  have s1 := Same.upd (o := .lst [x0]) hl0
  refine ⟨_, rfl, a, _, rfl, .inl (s1.seq ha), ?_⟩
  refine ⟨1, ((L.length + 1 : Nat) : Int), by rw [← lX'], ⟨by omega, by omega, by omega, by omega⟩, ?_⟩
  refine for_range (lo := 1) (n := (((L.length + 1 : Nat) : Int) - 1).toNat) (fun i σ H1 => Same H H1 ∧ ∃ (ys : List V) (y3 y4 : Option V), σ = [some (.ref a), some (.ref b), some (.ref l0), y3, y4] ∧ H1 l0 = some (.lst ys) ∧ Paired (CoQ K H1) ys (p :: ptF U p (L.take i)))
   ⟨s1, [x0], _, _, rfl, upd_same, .cons (CoQ.same s1 hx0) .nil⟩ ?_ ?_
  ·rintro i σ H1 hi ⟨u1, ys, y3, y4, rfl, u2, u3⟩
   have il : i < L.length := by omega
   obtain ⟨c, hc⟩ : ∃ c, (p :: L)[i]? = some c := ⟨_, List.getElem?_eq_getElem (by show i < L.length + 1; omega)⟩
   obtain ⟨q, hq⟩ : ∃ q, L[i]? = some q := ⟨_, List.getElem?_eq_getElem il⟩
   obtain ⟨vc, hvc⟩ : ∃ v, (x0 :: xt)[i]? = some v := ⟨_, List.getElem?_eq_getElem (by omega)⟩
   obtain ⟨vq, hvq⟩ : ∃ v, (x0 :: xt)[i + 1]? = some v := ⟨_, List.getElem?_eq_getElem (by omega)⟩
   have cc : CoQ K H vc c := by
    obtain ⟨c', e, h'⟩ := Paired.get1 (Paired.cons hx0 hxt) i vc hvc
    rw [hc] at e
    cases e
    exact h'
   have cq : CoQ K H vq q := by
    obtain ⟨c', e, h'⟩ := Paired.get1 (Paired.cons hx0 hxt) (i + 1) vq hvq
    rw [show (p :: L)[i + 1]? = L[i]? from rfl, hq] at e
    cases e
    exact h'
   have ec0 : (1 : Int) + (i : Int) - 1 = ((i : Nat) : Int) := by omega
   have ec1 : (1 : Int) + (i : Int) = ((i + 1 : Nat) : Int) := by omega
   obtain ⟨fc1, fc2⟩ := fc c (List.mem_of_getElem? hc)
   obtain ⟨fq1, fq2⟩ := fc q (List.mem_cons_of_mem _ (List.mem_of_getElem? hq))
   have lcq := con_at con hc hq
   have few1 := ptF_few U p (L.take i)
   have tk : (L.take i).length ≤ L.length := by rw [List.length_take]; omega
   have mul1 : (L.take i).length * (U.length + 1) ≤ 400 * 10 := Nat.mul_le_mul (by omega) (by omega)
   refine ⟨_, rfl, b, rfl, ⟨_, u1.seq hb⟩, ?_⟩
   refine for_list (K := K) (a := b) (xs := us) (fun j σ H2 => Same H H2 ∧ ∃ (zs : List V) (y4 : Option V), σ = [some (.ref a), some (.ref b), some (.ref l0), some (.int (1 + (i : Int))), y4] ∧ H2 l0 = some (.lst zs) ∧ Paired (CoQ K H2) zs (p :: (ptF U p (L.take i) ++ mid (U.take j) c q)))
    ⟨u1, ys, _, rfl, u2, by rw [show mid (U.take 0) c q = [] from rfl, List.append_nil]; exact u3⟩ (fun j σ H2 _ h => h.1.seq hb) ?_ ?_
   ·rintro j vu σ H2 hvu ⟨v1, zs, y4, rfl, v2, v3⟩
    obtain ⟨u, hu, fvu⟩ := Paired.get1 pU j vu hvu
    have fu' := fu u (List.mem_of_getElem? hu)
    have ms := mid_snoc c q hu
    obtain ⟨pc, ya, yb, rfl, hpc, hya, hyb⟩ := CoQ.same v1 cc
    obtain ⟨pq, za, zb, rfl, hpq, hza, hzb⟩ := CoQ.same v1 cq
    have fvu2 := fvu.same v1
    have ml : (mid (U.take j) c q).length ≤ 9 := by
     unfold mid
     rw [List.length_map]
     have := List.length_filter_le (fun u => decide (c.2 < u) && decide (u < q.2)) (U.take j)
     have tl : (U.take j).length ≤ U.length := by rw [List.length_take]; omega
     omega
    have zl : zs.length ≤ 5000 := by
     rw [v3.length]
     show (ptF U p (L.take i) ++ mid (U.take j) c q).length + 1 ≤ 5000
     rw [List.length_append]
     omega
    refine ⟨_, rfl, _, rfl, _, _, rfl, rfl, a, _, _, _, rfl, rfl, v1.seq ha, by rw [ec0]; exact atI_nat hvc, pc, _, _, _, rfl, rfl, hpc, rfl, _, rfl, yb, vu, c.2, u, rfl, hyb, fvu2, fc2.fit, fu'.fit, _, rfl, ?_⟩
    refine ite2 (fun d1 => ?_) (fun d1 => ?_)
    ·have d1' : c.2 < u := of_decide_eq_true d1
     refine ⟨_, rfl, _, rfl, _, rfl, a, _, _, _, rfl, rfl, v1.seq ha, by rw [ec1]; exact atI_nat hvq, pq, _, _, _, rfl, rfl, hpq, rfl, vu, zb, u, q.2, rfl, fvu2, hzb, fu'.fit, fq2.fit, _, rfl, ?_⟩
     refine ite2 (fun d2 => ?_) (fun d2 => ?_)
     ·have d2' : u < q.2 := of_decide_eq_true d2
      rw [if_pos ⟨d1', d2'⟩] at ms
      refine ⟨_, rfl, .inl ⟨rfl, _, .of v2⟩, _, rfl, _, rfl, _, _, rfl, rfl, a, _, _, _, rfl, rfl, v1.seq ha, by rw [ec0]; exact atI_nat hvc, _, rfl, _, rfl, a, _, _, _, rfl, rfl, v1.seq ha, by rw [ec1]; exact atI_nat hvq, _, rfl, .ref pc, .ref pq, vu, c, q, u, rfl, ⟨pc, ya, yb, rfl, hpc, hya, hyb⟩, ⟨pq, za, zb, rfl, hpq, hza, hzb⟩, fvu2, ⟨fc1, fc2, fq1, fq2, fu'⟩, lcq, ⟨by grind, by grind⟩, fun v5 H5 s5 d5 => ?_⟩
      refine ⟨_, rfl, (by show 2 ≤ sizeLine; decide), fun t6 ht6 => ?_⟩
      have s6 := Same.upd (o := .tup [v5, vu]) ht6
      have s56 := s5.trans s6
      have v26 := s56 _ _ v2
      have k1 := Keep.updL (o := .lst (zs ++ [.ref t6])) v26
      refine ⟨l0, zs, _, rfl, rfl, v26, by omega, (v1.trans s56).updN hl0, _, _, rfl, upd_same, ?_⟩
      rw [ms, ← List.append_assoc]
      exact Paired.app (xs := zs) (ys := p :: (ptF U p (L.take i) ++ mid (U.take j) c q)) (Paired.mapP v3 fun _ _ z => CoQ.keep k1 (CoQ.same s56 z)) (.cons (CoQ.keep k1 ⟨t6, v5, vu, rfl, sqT_new, d5.same s6, fvu2.same s56⟩) .nil)
     ·rw [if_neg fun z => d2 (decide_eq_true z.2), List.append_nil] at ms
      exact ⟨v1, zs, _, rfl, v2, by rw [ms]; exact v3⟩
    ·rw [if_neg fun z => d1 (decide_eq_true z.1), List.append_nil] at ms
     exact ⟨v1, zs, _, rfl, v2, by rw [ms]; exact v3⟩
   ·rintro σ H2 ⟨v1, zs, y4, rfl, v2, v3⟩
    rw [show U.take us.length = U from List.take_of_length_le (by omega)] at v3
    have zl : zs.length ≤ 5000 := by
     rw [v3.length]
     have ml : (mid U c q).length ≤ 9 := by
      unfold mid
      rw [List.length_map]
      have := List.length_filter_le (fun u => decide (c.2 < u) && decide (u < q.2)) U
      omega
     show (ptF U p (L.take i) ++ mid U c q).length + 1 ≤ 5000
     rw [List.length_append]
     omega
    have k1 := Keep.updL (o := .lst (zs ++ [vq])) v2
    refine ⟨_, rfl, .inl ⟨rfl, _, .of v2⟩, _, rfl, _, rfl, a, _, _, _, rfl, rfl, v1.seq ha, by rw [ec1]; exact atI_nat hvq, l0, zs, _, rfl, rfl, v2, by omega, v1.updN hl0, _, _, _, rfl, upd_same, ?_⟩
    rw [ptF_snoc U hc hq, ← List.append_assoc]
    exact Paired.app (xs := zs) (ys := p :: (ptF U p (L.take i) ++ mid U c q)) (Paired.mapP v3 fun _ _ z => CoQ.keep k1 z) (.cons (CoQ.keep k1 (CoQ.same v1 cq)) .nil)
  ·rintro σ H1 ⟨u1, ys, y3, y4, rfl, u2, u3⟩
   rw [List.take_of_length_le (by omega)] at u3
   exact ⟨_, rfl, k l0 ys H1 u1 hl0 u2 u3⟩
end
end FQ
namespace FK
theorem Con.all {R : Rat × Rat → Rat × Rat → Prop} {P : Rat × Rat → Prop} (h : ∀ a b, R a b → P b) : ∀ {p : Rat × Rat} {L : List (Rat × Rat)}, Con R p L → ∀ c ∈ L, P c
 | _, [], _, _, z => nomatch z
 | _, q :: L, c, r, z => by
  rcases List.mem_cons.mp z with y | y
  ·rw [y]
   exact h _ _ c.1
  ·exact Con.all h c.2 r y
theorem ptF_mem (U : List Rat) : ∀ (p : Rat × Rat) (L : List (Rat × Rat)), ∀ c ∈ L, c ∈ ptF U p L
 | _, [], _, z => nomatch z
 | p, q :: L, c, z => by
  refine List.mem_append_right _ ?_
  rcases List.mem_cons.mp z with y | y
  ·rw [y]
   exact List.mem_cons_self ..
  ·exact List.mem_cons_of_mem _ (ptF_mem U q L c y)
theorem two_nat : ((2 : Nat) : Rat) = 2 := rfl
theorem sg_bd {N : Nat} {e : Rat → Rat} {E : List (Rat → Rat)} {BQ Ba BX n : Nat} {a b : Rat × Rat} (s : Sg N e E BQ Ba BX a b) (n0 : 0 < N) (x0 : 0 ≤ b.1) (x1 : b.1 ≤ 1) (y0 : 0 ≤ b.2) (y2 : b.2 ≤ 2) (lim : N * BQ * BX * 2 < 2 ^ n) : Bd n b.1 ∧ Bd n b.2 ∧ ∃ D : Nat, 0 < D ∧ D ≤ N * BQ * BX ∧ Gr D b.1 ∧ Gr D b.2 := by
 obtain ⟨Q, k, m, q0, q1, k1, af, _⟩ := s.af
 obtain ⟨G, g0, g1, i, hi⟩ := s.gq
 have ax := af b.1 (Rat.le_of_lt s.lt) Rat.le_refl
 rw [← s.q2] at ax
 have d0 : 0 < N * Q * G := Nat.mul_pos (Nat.mul_pos n0 q0) g0
 have d1 : N * Q * G ≤ N * BQ * BX := Nat.mul_le_mul (Nat.mul_le_mul_left _ q1) g1
 have gy : Gr (N * Q * G) b.2 := by
  refine ⟨k * i + m * G, ?_⟩
  rw [Rat.natCast_mul, Rat.natCast_mul, Rat.intCast_add, Rat.intCast_mul, Rat.intCast_mul, Rat.intCast_natCast, Rat.intCast_natCast]
  have e1 : b.2 * ((N : Rat) * (Q : Rat) * (G : Rat)) = (b.2 * ((N : Rat) * (Q : Rat))) * (G : Rat) := by grind
  rw [e1, ax, ← hi]
  grind
 have gx : Gr (N * Q * G) b.1 := Gr.up' ⟨i, hi⟩
 have l2 : 2 * (N * Q * G) < 2 ^ n := by omega
 have l1 : N * Q * G < 2 ^ n := by omega
 refine ⟨gx.bd d0 x0 (m := 2) (by rw [two_nat]; grind) l2 l1, gy.bd d0 y0 (m := 2) (by rw [two_nat]; exact y2) l2 l1, N * Q * G, d0, d1, gx, gy⟩
end FK
namespace FQ
open PySem L2 FK
def spNext (K : PySem.W.Frag) (C : Addr) : Sp := fun vs H Q _ => ∃ (a x lt ll : Addr) (xs : List V) (p : Nat) (S : Steps) (e : Rat → Rat) (E0 : List (Rat → Rat)) (X : Rat) (BQ Ba BX BY : Nat) (L : List (Rat × Rat)), vs = [.ref a, .ref x] ∧ SqL K H a xs ∧ Paired (CoQ K H) xs ((0, 0) :: L) ∧ TasteAt K C H x lt ll S ∧ TsOk p S ∧ Dm e X ∧ Con (Sg 1 e E0 BQ Ba BX) (0, 0) L ∧ (((0, 0) :: L).getLast (List.cons_ne_nil _ _)).1 = X ∧ 1 ≤ sf S e X ∧ (BX ≤ BY ∧ Ba * 1000 ≤ BY ∧ 1000000 * (Ba + BQ) ≤ BY ∧ 1000000 * BQ * BY * 2 < 2 ^ 280 ∧ 0 < BQ) ∧ L.length ≤ 200 ∧
 ∀ (l : Addr) (ys : List V) (H' : Hp), Same H H' → H l = none → H' l = some (.lst ys) → Paired (CoQ K H') ys ((0, 0) :: stg S L) → Q (.ref l) H'
abbrev NNx : List Str := ["line", "taste", "corners", "starts", "stops"]
theorem scNx : FnScope NNx ["line", "taste"] (defScope s_next_end_line) := ⟨rfl, rfl, rfl, by decide +kernel, rfl, by decide +kernel, by decide +kernel⟩
theorem toS_pt {S : Steps} {p : Nat} (ok : TsOk p S) : toS S (0, 0) = (0, 0) := by
 show ((0 : Rat), F S 0 + 0) = (0, 0)
 rw [F_zero ok, Rat.add_zero]
theorem toE_pt {S : Steps} {p : Nat} (ok : TsOk p S) : toE S (0, 0) = (0, 0) := by
 show ((0 : Rat), (rch (wl S) 0).getD 0) = (0, 0)
 rw [zero_pt ok]
section
variable {P : Program} {w : World} {K : PySem.W.Frag} {mg : Str → Option Value} {base : Heap} {aL aR C : Addr}
theorem ok_next {f : Addr} {fd : FuncData} (D : DefAt K mg "next_end_line" s_next_end_line ["line", "taste"] f fd) (CP : Cl P w K mg base "parted" 6 ["line", "ups"] (spParted K)) (C4 : Four P w K mg base) (MCn : Ml P w K mg base C "corners" 1 ["self"] (spCorners K C)) (MU : Ml P w K mg base C "worth_up_to" 7 ["self", "point"] (spUpTo K C)) (MP : Ml P w K mg base C "point_at" 7 ["self", "worth"] (spPointAt K C)) (T : Txt K mg aL aR) (TC : TxtC K C) :
  FnOk P w K mg base CX0 8 f fd ["line", "taste"] (spNext K C) := by
 refine D.fn.ok scNx (fun vs H Q E h => ?_) (fun cdv A outer s H vs Q E hr h => ?_)
 ·obtain ⟨a, x, lt, ll, xs, p, S, e, E0, X, BQ, Ba, BX, BY, L, rfl, _⟩ := h
  rfl
 ·obtain ⟨a, x, lt, ll, xs, p, S, e, E0, X, BQ, Ba, BX, BY, L, rfl, ha, pX, ta, ok, dm, con, last, top, ⟨b1, b2, b3, lim, q0⟩, l2, k⟩ := h
  have hr1 : Room 1 _ := hr.mono (by decide)
  have hr3 : Room 3 _ := hr.mono (by decide)
  have hr6 : Room 6 _ := hr.mono (by decide)
  have big : 10000 ≤ sizeLine := by decide
  refine ⟨_, pss_cons (ps_set (i := 2) scNx.nd rfl (Or.inl rfl) (pe_ml0 MCn TC.cl hr1 (pv 1)))
   (pss_cons (ps_set (i := 3) scNx.nd rfl (Or.inl rfl) (pe_cl CP hr6 rfl (pa_cons (pv 0) (pa_cons (pe_comp ["corner"] rfl (CompOk.plain rfl (by decide +kernel) (by decide +kernel) (by decide +kernel)) (pi_list (pv 2))
    (fun _ => pg_name (i := 0) (show [Str.ofString "corner"].Nodup by decide +kernel) rfl (Or.inl rfl)) (fun _ => pifs_nil) (fun _ => pe_ix ix_tup (pv 0) pe_int (fun _ _ => rfl))) pa_nil))))
   (pss_cons (ps_comp ["corner"] (i := 4) scNx.nd rfl (Or.inl rfl) rfl (CompOk.free1 (F := ["taste"]) (js := [1]) rfl (by decide +kernel) (by decide +kernel) rfl ⟨rfl, trivial⟩ rfl ⟨⟨rfl, rfl, .inl rfl⟩, trivial⟩) (pi_list (pv 3))
    (fun _ => pg_name (i := 0) (show [Str.ofString "corner", Str.ofString "taste"].Nodup by decide +kernel) rfl (Or.inl rfl)) (fun _ => pifs_nil)
    (fun _ => pe_tup (pa_cons (pe_ix ix_tup (pv 0) pe_int (fun _ _ => rfl)) (pa_cons (pe_cl C4.plus hr3 rfl (pa_cons (pe_ml MU TC.cl hr (pv 1) (pa_cons (pe_ix ix_tup (pv 0) pe_int (fun _ _ => rfl)) pa_nil)) (pa_cons (pe_ix ix_tup (pv 0) pe_int (fun _ _ => rfl)) pa_nil))) pa_nil))))
   (pss_cons (ps_set (i := 4) scNx.nd rfl (Or.inl rfl) (pe_cl CP hr6 rfl (pa_cons (pv 4) (pa_cons (pe_comp ["corner"] rfl (CompOk.plain rfl (by decide +kernel) (by decide +kernel) (by decide +kernel)) (pi_list (pv 2))
    (fun _ => pg_name (i := 0) (show [Str.ofString "corner"].Nodup by decide +kernel) rfl (Or.inl rfl)) (fun _ => pifs_nil) (fun _ => pe_ix ix_tup (pv 0) pe_int (fun _ _ => rfl))) pa_nil))))
   (pss_one (ps_ret (pe_comp ["corner"] rfl (CompOk.free1 (F := ["taste"]) (js := [1]) rfl (by decide +kernel) (by decide +kernel) rfl ⟨rfl, trivial⟩ rfl ⟨⟨rfl, rfl, .inl rfl⟩, trivial⟩) (pi_list (pv 4))
    (fun _ => pg_name (i := 0) (show [Str.ofString "corner", Str.ofString "taste"].Nodup by decide +kernel) rfl (Or.inl rfl)) (fun _ => pifs_one (pt_not (pt_val (pe_cl C4.below hr1 rfl (pa_cons (pe_tup (pa_cons pe_int (pa_cons pe_int pa_nil))) (pa_cons (pe_ix ix_tup (pv 0) pe_int (fun _ _ => rfl)) pa_nil))))))
    (fun _ => pe_tup (pa_cons (pe_ix ix_tup (pv 0) pe_int (fun _ _ => rfl)) (pa_cons (pe_ml MP TC.cl hr (pv 1) (pa_cons (pe_ix ix_tup (pv 0) pe_int (fun _ _ => rfl)) pa_nil)) pa_nil))))))))), ?_⟩
  obtain ⟨X', dm', xX, one, cN, lN, wn, cS, ⟨N, n0, n6, cP⟩, few⟩ := stage ok dm con last top b1 b2 b3
  have le1 := dm.le1
  have wlL : (wl S).length = S.length + 1 := wl_len S
  have sl := ok.len
  have endsL : (ends S).length = S.length + 1 := by unfold ends; rw [List.length_map, wlL]
  have lvlsL : (lvls S).length = S.length + 1 := by unfold lvls; rw [List.length_map, wlL]
  have bqy : 1 * BQ * BY * 2 < 2 ^ 280 := by
   have : 1 * BQ * BY * 2 ≤ 1000000 * BQ * BY * 2 := Nat.mul_le_mul_right _ (Nat.mul_le_mul_right _ (Nat.mul_le_mul_right _ (by decide)))
   omega
  have bqx : 1 * BQ * BX * 2 < 2 ^ 280 := by
   have : 1 * BQ * BX * 2 ≤ 1 * BQ * BY * 2 := Nat.mul_le_mul_right _ (Nat.mul_le_mul_left _ b1)
   omega
  have bqn : N * BQ * BY * 2 < 2 ^ 280 := by
   have : N * BQ * BY * 2 ≤ 1000000 * BQ * BY * 2 := Nat.mul_le_mul_right _ (Nat.mul_le_mul_right _ (Nat.mul_le_mul_right _ n6))
   omega
  have z250 : Ft 280 (0 : Rat) := ⟨Rat.le_refl, by decide +kernel, by decide +kernel⟩
  have sglt : ∀ {M : Nat} {f : Rat → Rat} {E' : List (Rat → Rat)} {A B C : Nat} (a b : Rat × Rat), Sg M f E' A B C a b → a.1 < b.1 := fun _ _ s => s.lt
  have conB := Con.bnd (X := X) sglt con Rat.le_refl (by rw [last]; exact Rat.le_refl)
  have ft0 : ∀ c ∈ (0, 0) :: L, Ft 280 c.1 ∧ Ft 280 c.2 := fun c hc => by
   rcases List.mem_cons.mp hc with z | z
   ·rw [z]
    exact ⟨z250, z250⟩
   ·refine Con.all (P := fun c => Ft 280 c.1 ∧ Ft 280 c.2) (fun a b h => ?_) conB c z
    have lt := h.1.lt
    have x0 : 0 ≤ b.1 := by have := h.2.1; grind
    have w := dm.win b.1 x0 h.2.2
    rw [← h.1.q2] at w
    obtain ⟨g1, g2, _⟩ := sg_bd h.1 (by decide) x0 (by have := h.2.2; grind) w.1 (by grind) bqx
    exact ⟨⟨x0, g1⟩, ⟨w.1, g2⟩⟩
  have ftU : ∀ (i : Nat) (z : Rat × Rat), (wl S)[i]? = some z → Ft 280 z.1 ∧ Ft 280 z.2 := fun i z h => by
   obtain ⟨il, rfl⟩ := wl_get ok h
   exact ⟨⟨end_nn ok i, (end_bd ok i).mono (by decide)⟩, ⟨F_nn ok _, (endF_bd ok i).mono (by decide)⟩⟩
  have ftE : ∀ u ∈ ends S, Ft 280 u := fun u hu => by
   obtain ⟨z, hz, rfl⟩ := List.mem_map.mp hu
   obtain ⟨i, hi⟩ := List.mem_iff_getElem?.mp hz
   exact (ftU i z hi).1
  have ftV : ∀ u ∈ lvls S, Ft 280 u := fun u hu => by
   obtain ⟨z, hz, rfl⟩ := List.mem_map.mp hu
   obtain ⟨i, hi⟩ := List.mem_iff_getElem?.mp hz
   exact (ftU i z hi).2
  obtain ⟨dx, hx⟩ := ta.ins
  refine ⟨_, rfl, x, dx, _, rfl, hx, rfl, x, lt, ll, S, rfl, ta, fun lc ts hlc pc => ?_⟩
  have s1 := Same.upd (o := .lst ts) hlc
  have ltS : ts.length = S.length + 1 := by rw [pc.length, wlL]
  have pc1 : Paired (CoQ K (upd H lc (.lst ts))) ts (wl S) := Paired.mapP pc fun _ _ z => CoQ.same s1 z
  refine ⟨_, rfl, _, rfl, lc, rfl, ⟨_, sqL_new⟩, fun D1 hD1 => ?_⟩
  refine comp_list (K := K) (a := lc) (D := D1) (xs := ts) (fun j ys σ H2 => Same (upd H lc (.lst ts)) H2 ∧ H2 D1 = some (.lst ys) ∧ Paired (FrQ K H2) ys ((ends S).take j) ∧ j ≤ ts.length ∧ ∃ x0, σ = [x0])
   (by omega) ⟨Same.upd hD1, upd_same, .nil, by omega, _, rfl⟩ ?_ ?_ ?_
  ·rintro j ys σ H2 _ ⟨u1, u2, u3, u4, _⟩
   refine ⟨.of (u1 _ _ upd_same), u2, ?_⟩
   rw [u3.length, List.length_take]
   omega
  ·rintro j y ys σ H2 hy ⟨u1, u2, u3, u4, x0, rfl⟩ cc
   obtain ⟨z, hz, pz, ya, yb, rfl, hpz, hya, hyb⟩ := Paired.get1 pc1 j y hy
   have k1 := Keep.updL (o := .lst (ys ++ [ya])) u2
   refine ⟨_, rfl, pz, _, _, _, rfl, rfl, u1.sqT hpz, rfl, u2, u1.updN hD1, upd_same, ?_, by have := (List.getElem?_eq_some_iff.mp hy).1; omega, _, rfl⟩
   have e1 : (ends S)[j]? = some z.1 := by
    show ((wl S).map _)[j]? = _
    rw [List.getElem?_map, hz]
    rfl
   rw [take_snoc e1]
   exact Paired.app (Paired.mapP u3 fun _ _ z => FrQ.keep k1 z) (.cons (FrQ.keep k1 (FrQ.same u1 hya)) .nil)
  rintro us σ H2 ⟨u1, u2, u3, u4, _⟩
  rw [List.take_of_length_le (by omega)] at u3
  have s2 := s1.trans u1
  refine ⟨a, D1, xs, us, (0, 0), L, ends S, rfl, s2.seq ha, Paired.mapP pX fun _ _ z => CoQ.same s2 z, .of u2, u3, ft0, ftE, Con.imp (fun a b h => Rat.le_of_lt h.lt) con, by omega, by omega, fun l3 ys3 H3 s3 hl3 h3 p3 => ?_⟩
  have s13 := s2.trans s3
  have fewS := ptF_few (ends S) (0, 0) L
  have fewS' : (ptF (ends S) (0, 0) L).length ≤ L.length + 9 := by
   have := ptF_len (ends S) (Con.imp (fun _ _ h => h.le) con)
   have f1 := List.length_filter_le (fun u => decide (((0, 0) : Rat × Rat).2 < u)) (ends S)
   omega
  have l3' : ys3.length = (ptF (ends S) (0, 0) L).length + 1 := by rw [p3.length]; rfl
  have ta3 := ta.same s13
  have inS : ∀ c ∈ (0, 0) :: ptF (ends S) (0, 0) L, 0 ≤ c.1 ∧ c.1 ≤ X ∧ 0 ≤ c.2 ∧ c.2 ≤ 1 ∧ Bd 280 c.1 ∧ Bd 280 c.2 ∧ ∃ Dd : Nat, 0 < Dd ∧ Dd ≤ 1 * BQ * BY ∧ Gr Dd c.2 := fun c hc => by
   rcases List.mem_cons.mp hc with z | z
   ·rw [z]
    have bq : 0 < 1 * BQ * BY := by rw [Nat.one_mul]; exact Nat.mul_pos q0 (by omega)
    exact ⟨Rat.le_refl, Rat.le_of_lt dm.pos, Rat.le_refl, by decide +kernel, z250.2, z250.2, 1, by decide, bq, Gr.zero 1⟩
   ·refine Con.all (P := fun c => 0 ≤ c.1 ∧ c.1 ≤ X ∧ 0 ≤ c.2 ∧ c.2 ≤ 1 ∧ Bd 280 c.1 ∧ Bd 280 c.2 ∧ ∃ Dd : Nat, 0 < Dd ∧ Dd ≤ 1 * BQ * BY ∧ Gr Dd c.2) (fun a b h => ?_) cS c z
    have lt := h.1.1.lt
    have x0 : 0 ≤ b.1 := by have := h.2.1; grind
    have w := dm.win b.1 x0 h.2.2
    rw [← h.1.1.q2] at w
    obtain ⟨g1, g2, Dd, g3, g4, _, g6⟩ := sg_bd h.1.1 (by decide) x0 (by have := h.2.2; grind) w.1 (by grind) bqy
    exact ⟨x0, h.2.2, w.1, w.2, g1, g2, Dd, g3, g4, g6⟩
  refine ⟨_, rfl, l3, rfl, ⟨_, .of h3⟩, fun D2 hD2 => ?_⟩
  refine comp_list (K := K) (a := l3) (D := D2) (xs := ys3) (fun j ys σ H4 => Same H3 H4 ∧ H4 D2 = some (.lst ys) ∧ Paired (CoQ K H4) ys ((((0, 0) :: ptF (ends S) (0, 0) L).map (toS S)).take j) ∧ j ≤ ys3.length ∧ ∃ x0, σ = [x0, some (.ref x)])
   (by omega) ⟨Same.upd hD2, upd_same, .nil, by omega, _, rfl⟩ ?_ ?_ ?_
  ·rintro j ys σ H4 _ ⟨v1, v2, v3, v4, _⟩
   refine ⟨.of (v1 _ _ h3), v2, ?_⟩
   rw [v3.length, List.length_take]
   omega
  ·rintro j y ys σ H4 hy ⟨v1, v2, v3, v4, x0, rfl⟩ cc
   obtain ⟨c, hc, pz, ya, yb, rfl, hpz, hya, hyb⟩ := Paired.get1 p3 j y hy
   obtain ⟨i1, i2, i3, i4, i5, i6, Dd, d0, d1, dg⟩ := inS c (List.mem_of_getElem? hc)
   have ta4 := ta3.same v1
   obtain ⟨dx4, hx4⟩ := ta4.ins
   have hpz4 := v1.sqT hpz
   refine ⟨_, rfl, pz, _, _, _, rfl, rfl, hpz4, rfl, _, rfl, x, dx4, _, rfl, hx4, rfl, _, rfl, pz, _, _, _, rfl, rfl, hpz4, rfl, x, lt, ll, yb, p, S, c.2, rfl, ta4, ok, hyb.same v1, i3, i4, i6, fun v5 H5 s5 d5 => ?_⟩
   have fF : Bd 1990 (F S c.2) := F_bd ok dg d0 i4 (Nat.lt_of_lt_of_le (show Dd * 1000000 < 2 ^ 280 * 2 ^ 30 by
    have h1 : Dd * 1000000 ≤ (1 * BQ * BY) * 2 ^ 30 := Nat.mul_le_mul d1 (by decide)
    have h2 : (1 * BQ * BY) * 2 ^ 30 < 2 ^ 280 * 2 ^ 30 := Nat.mul_lt_mul_of_pos_right (Nat.lt_of_le_of_lt (Nat.le_mul_of_pos_right _ (by decide)) bqy) (Nat.two_pow_pos 30)
    exact Nat.lt_of_le_of_lt h1 h2) (by rw [← Nat.pow_add]; exact Nat.pow_le_pow_right (by decide) (by decide)))
   have v15 := v1.trans s5
   refine ⟨_, rfl, pz, _, _, _, rfl, rfl, v15.sqT hpz, rfl, v5, ya, _, c.1, rfl, d5, hya.same v15, ⟨F_nn ok _, fF⟩, Bd.fit i5 i1 (by decide), trivial, fun v6 H6 s6 d6 => ?_⟩
   refine ⟨(by show 2 ≤ sizeLine; decide), fun t7 ht7 => ?_⟩
   have s7 := Same.upd (o := .tup [ya, v6]) ht7
   have v16 := v15.trans (s6.trans s7)
   have v27 := (s5.trans (s6.trans s7)) _ _ v2
   have k1 := Keep.updL (o := .lst (ys ++ [.ref t7])) v27
   refine ⟨v27, v16.updN hD2, upd_same, ?_, by have := (List.getElem?_eq_some_iff.mp hy).1; omega, _, rfl⟩
   have e1 : (((0, 0) :: ptF (ends S) (0, 0) L).map (toS S))[j]? = some (toS S c) := by rw [List.getElem?_map, hc]; rfl
   rw [take_snoc e1]
   exact Paired.app (Paired.mapP v3 fun _ _ z => CoQ.keep k1 (CoQ.same (s5.trans (s6.trans s7)) z)) (.cons (CoQ.keep k1 ⟨t7, ya, v6, rfl, sqT_new, hya.same v16, d6.same s7⟩) .nil)
  rintro zs4 σ H4 ⟨v1, v2, v3, v4, _⟩
  rw [List.take_of_length_le (by rw [List.length_map]; show _ + 1 ≤ _; omega), List.map_cons, toS_pt ok] at v3
  have s14 := s13.trans v1
  have hlc4 := (s3.trans v1) _ _ (u1 _ _ (upd_same (H := H) (a := lc) (o := .lst ts)))
  have pc4 : Paired (CoQ K H4) ts (wl S) := Paired.mapP pc fun _ _ z => CoQ.same s14 z
  refine ⟨_, rfl, _, rfl, lc, rfl, ⟨_, .of hlc4⟩, fun D3 hD3 => ?_⟩
  refine comp_list (K := K) (a := lc) (D := D3) (xs := ts) (fun j ys σ H2 => Same H4 H2 ∧ H2 D3 = some (.lst ys) ∧ Paired (FrQ K H2) ys ((lvls S).take j) ∧ j ≤ ts.length ∧ ∃ x0, σ = [x0])
   (by omega) ⟨Same.upd hD3, upd_same, .nil, by omega, _, rfl⟩ ?_ ?_ ?_
  ·rintro j ys σ H2 _ ⟨u1, u2, u3, u4, _⟩
   refine ⟨.of (u1 _ _ hlc4), u2, ?_⟩
   rw [u3.length, List.length_take]
   omega
  ·rintro j y ys σ H2 hy ⟨u1, u2, u3, u4, x0, rfl⟩ cc
   obtain ⟨z, hz, pz, ya, yb, rfl, hpz, hya, hyb⟩ := Paired.get1 pc4 j y hy
   have k1 := Keep.updL (o := .lst (ys ++ [yb])) u2
   refine ⟨_, rfl, pz, _, _, _, rfl, rfl, u1.sqT hpz, rfl, u2, u1.updN hD3, upd_same, ?_, by have := (List.getElem?_eq_some_iff.mp hy).1; omega, _, rfl⟩
   have e1 : (lvls S)[j]? = some z.2 := by
    show ((wl S).map _)[j]? = _
    rw [List.getElem?_map, hz]
    rfl
   rw [take_snoc e1]
   exact Paired.app (Paired.mapP u3 fun _ _ z => FrQ.keep k1 z) (.cons (FrQ.keep k1 (FrQ.same u1 hyb)) .nil)
  rintro us5 σ H5 ⟨w1, w2, w3, w4, _⟩
  rw [List.take_of_length_le (by omega)] at w3
  have s15 := s14.trans w1
  have fewP : (ptF (lvls S) (0, 0) ((ptF (ends S) (0, 0) L).map (toS S))).length ≤ 400 := by omega
  have inP : ∀ c ∈ (0, 0) :: ptF (lvls S) (0, 0) ((ptF (ends S) (0, 0) L).map (toS S)), Ft 280 c.1 ∧ Ft 280 c.2 := fun c hc => by
   rcases List.mem_cons.mp hc with z | z
   ·rw [z]
    exact ⟨z250, z250⟩
   ·refine Con.all (P := fun c => Ft 280 c.1 ∧ Ft 280 c.2) (fun a b h => ?_) cP c z
    have lt := h.1.1.lt
    have x0 : 0 ≤ b.1 := by have := h.2.1; grind
    have w := dm.win b.1 x0 h.2.2
    have f0 := F_nn ok (e b.1)
    have f1 := F_le ok w.2
    have xX := h.2.2
    have y0 : 0 ≤ b.2 := by rw [h.1.1.q2]; unfold sf; grind
    have y2 : b.2 ≤ 2 := by rw [h.1.1.q2]; unfold sf; grind
    obtain ⟨g1, g2, _⟩ := sg_bd h.1.1 n0 x0 (by grind) y0 y2 bqn
    exact ⟨⟨x0, g1⟩, ⟨y0, g2⟩⟩
  have inP0 : ∀ c ∈ (0, 0) :: (ptF (ends S) (0, 0) L).map (toS S), Ft 280 c.1 ∧ Ft 280 c.2 := fun c hc => by
   rcases List.mem_cons.mp hc with z | z
   ·rw [z]
    exact ⟨z250, z250⟩
   ·exact inP c (List.mem_cons_of_mem _ (ptF_mem _ _ _ c z))
  have conS : Con (fun a b => a.1 ≤ b.1) (0, 0) ((ptF (ends S) (0, 0) L).map (toS S)) := by
   have := Con.map (f := toS S) (R' := fun a b => a.1 ≤ b.1) (fun a b h => Rat.le_of_lt h.1.1.lt) cS
   rw [toS_pt ok] at this
   exact this
  refine ⟨D2, D3, zs4, us5, (0, 0), (ptF (ends S) (0, 0) L).map (toS S), lvls S, rfl, .of (w1 _ _ v2), Paired.mapP v3 fun _ _ z => CoQ.same w1 z, .of w2, w3, inP0, ftV, conS, by rw [List.length_map]; omega, by omega, fun l6 ys6 H6 s6 hl6 h6 p6 => ?_⟩
  have s16 := s15.trans s6
  have ta6 := ta.same s16
  have l6' : ys6.length = (ptF (lvls S) (0, 0) ((ptF (ends S) (0, 0) L).map (toS S))).length + 1 := by rw [p6.length]; rfl
  refine ⟨_, rfl, l6, rfl, ⟨_, .of h6⟩, fun D7 hD7 => ?_⟩
  refine comp_list (K := K) (a := l6) (D := D7) (xs := ys6) (fun j ys σ H7 => Same H6 H7 ∧ H7 D7 = some (.lst ys) ∧ Paired (CoQ K H7) ys ((upTo1 (((0, 0) :: ptF (lvls S) (0, 0) ((ptF (ends S) (0, 0) L).map (toS S))).take j)).map (toE S)) ∧ ys.length ≤ j ∧ ∃ x0, σ = [x0, some (.ref x)])
   (by omega) ⟨Same.upd hD7, upd_same, .nil, Nat.le_refl _, _, rfl⟩ ?_ ?_ ?_
  ·rintro j ys σ H7 _ ⟨q1, q2, q3, q4, _⟩
   exact ⟨.of (q1 _ _ h6), q2, q4⟩
  ·rintro j y ys σ H7 hy ⟨q1, q2, q3, q4, x0, rfl⟩ cc
   obtain ⟨c, hc, pz, ya, yb, rfl, hpz, hya, hyb⟩ := Paired.get1 p6 j y hy
   obtain ⟨f1, f2⟩ := inP c (List.mem_of_getElem? hc)
   have up1 : upTo1 (((0, 0) :: ptF (lvls S) (0, 0) ((ptF (ends S) (0, 0) L).map (toS S))).take (j + 1)) = upTo1 (((0, 0) :: ptF (lvls S) (0, 0) ((ptF (ends S) (0, 0) L).map (toS S))).take j) ++ (if c.2 ≤ 1 then [c] else []) := by
    rw [take_snoc hc]
    unfold upTo1
    rw [List.filter_append]
    congr 1
    by_cases z : c.2 ≤ 1
    ·rw [if_pos z, List.filter_cons_of_pos (by simpa using z)]
     rfl
    ·rw [if_neg z, List.filter_cons_of_neg (by simpa using z)]
     rfl
   refine ⟨(by show 2 ≤ sizeLine; decide), fun t8 ht8 => ?_⟩
   have s8 := Same.upd (o := .tup [.int 1, .int 1]) ht8
   have q18 := q1.trans s8
   have oneq : FrQ K (upd H7 t8 (.tup [.int 1, .int 1])) (.ref t8) 1 := .of sqT_new rfl rfl
   refine ⟨_, rfl, pz, _, _, _, rfl, rfl, q18.sqT hpz, rfl, .ref t8, yb, 1, c.2, rfl, oneq, hyb.same q18, Fit.one, f2.fit, _, rfl, ?_⟩
   have q28 := s8 _ _ q2
   refine ite2 (fun d => ?_) (fun d => ?_)
   ·have d' : c.2 ≤ 1 := by
     by_cases z : 1 < c.2
     ·rw [decide_eq_true z] at d
      cases d
     ·grind
    rw [if_pos d'] at up1
    have ta8 := ta6.same q18
    obtain ⟨dx8, hx8⟩ := ta8.ins
    obtain ⟨t, rt, _⟩ := mk_at ok f2.1 d'
    refine ⟨_, rfl, pz, _, _, _, rfl, rfl, q18.sqT hpz, rfl, _, rfl, x, dx8, _, rfl, hx8, rfl, _, rfl, pz, _, _, _, rfl, rfl, q18.sqT hpz, rfl, x, lt, ll, yb, p, S, c.2, rfl, ta8, ok, hyb.same q18, f2, fun v9 H9 s9 d9 => ?_⟩
    rw [rt] at d9
    have d9' : FrQ K H9 v9 t := d9
    refine ⟨(by show 2 ≤ sizeLine; decide), fun tA htA => ?_⟩
    have sA := Same.upd (o := .tup [ya, v9]) htA
    have q9 := s9.trans sA
    have q2A := q9 _ _ q28
    have k1 := Keep.updL (o := .lst (ys ++ [.ref tA])) q2A
    refine ⟨q2A, (q18.trans q9).updN hD7, upd_same, ?_, by rw [List.length_append]; exact Nat.add_le_add_right q4 1, _, rfl⟩
    rw [up1, List.map_append]
    refine Paired.app (Paired.mapP q3 fun _ _ z => CoQ.keep k1 (CoQ.same (s8.trans q9) z)) (.cons (CoQ.keep k1 ⟨tA, ya, v9, rfl, sqT_new, hya.same (q18.trans q9), ?_⟩) .nil)
    show FrQ K _ v9 ((rch (wl S) c.2).getD 0)
    rw [rt]
    exact d9'.same sA
   ·have d' : ¬ c.2 ≤ 1 := fun z => d (by rw [decide_eq_false (show ¬ 1 < c.2 by grind)]; rfl)
    rw [if_neg d', List.append_nil] at up1
    exact ⟨q18, q28, by rw [up1]; exact Paired.mapP q3 fun _ _ z => CoQ.same s8 z, by omega, _, rfl⟩
  rintro ys7 σ H7 ⟨q1, q2, q3, q4, _⟩
  rw [List.take_of_length_le (by show _ + 1 ≤ _; omega)] at q3
  have eu : upTo1 ((0, 0) :: ptF (lvls S) (0, 0) ((ptF (ends S) (0, 0) L).map (toS S))) = (0, 0) :: upTo1 (ptF (lvls S) (0, 0) ((ptF (ends S) (0, 0) L).map (toS S))) := List.filter_cons_of_pos (by decide +kernel)
  rw [eu, List.map_cons, toE_pt ok] at q3
  exact k D7 ys7 H7 (s16.trans q1) (s16.free hD7) q2 q3
end
end FQ
namespace FQ
open PySem L2 FK
def spCommon (K : PySem.W.Frag) (C : Addr) : Sp := fun vs H Q _ => ∃ (b : Addr) (xs : List V) (Ss : List Steps) (n : Nat), vs = [.ref b] ∧ SqL K H b xs ∧ Paired (TasteS K C H) xs Ss ∧ xs.length = n ∧ 1 ≤ n ∧ n ≤ 6 ∧
 ∀ (v : V) (X : Rat) (H' : Hp), Same H H' → FrQ K H' v X → CwOk Ss n X → Q v H'
theorem scCw : FnScope ["tastes", "line", "taste"] ["tastes"] (defScope s_common_worth) := ⟨rfl, rfl, rfl, by decide +kernel, rfl, by decide +kernel, by decide +kernel⟩
theorem at_last {xs : List V} {v : V} (h : xs[xs.length - 1]? = some v) (h0 : 0 < xs.length) : atI xs (-1) = some v := by
 unfold atI ixN
 rw [if_neg (by decide), if_pos (by omega)]
 show xs[((-1 : Int) + (xs.length : Int)).toNat]? = some v
 rw [show ((-1 : Int) + (xs.length : Int)).toNat = xs.length - 1 by omega]
 exact h
section
variable {P : Program} {w : World} {K : PySem.W.Frag} {mg : Str → Option Value} {base : Heap} {aL aR C : Addr}
theorem ok_common {f : Addr} {fd : FuncData} (D : DefAt K mg "common_worth" s_common_worth ["tastes"] f fd) (CN : Cl P w K mg base "next_end_line" 8 ["line", "taste"] (spNext K C)) (T : Txt K mg aL aR) :
  FnOk P w K mg base CX0 9 f fd ["tastes"] (spCommon K C) := by
 refine D.fn.ok scCw (fun vs H Q E h => ?_) (fun cdv A outer s H vs Q E hr h => ?_)
 ·obtain ⟨b, xs, Ss, n, rfl, _⟩ := h
  rfl
 ·obtain ⟨b, xs, Ss, n, rfl, hb, pT, lx, n1, n6, k⟩ := h
  refine ⟨_, pss_cons (ps_set (i := 1) scCw.nd rfl (Or.inl rfl) (pe_lst (pa_cons (pe_tup (pa_cons (pe_tup (pa_cons pe_int (pa_cons pe_int pa_nil))) (pa_cons (pe_glob (v := .ref aL) rfl T.left rfl) pa_nil))) (pa_cons (pe_tup (pa_cons (pe_tup (pa_cons pe_int (pa_cons pe_int pa_nil))) (pa_cons (pe_glob (v := .ref aL) rfl T.left rfl) pa_nil))) pa_nil))))
   (pss_cons (ps_for PassesOwn.never rfl (pi_list (pv 0)) (pg_name (i := 2) scCw.nd rfl (Or.inl rfl)) (pss_one (ps_set (i := 1) scCw.nd rfl (Or.inl rfl) (pe_cl CN hr rfl (pa_cons (pv 1) (pa_cons (pv 2) pa_nil))))))
   (pss_one (ps_ret (pe_ix ix_tup (pe_ix ix_list (pv 1) (pe_un un_neg pe_int) (fun _ _ => rfl)) pe_int (fun _ _ => rfl))))), ?_⟩
  refine ⟨(by show 2 ≤ sizeLine; decide), fun t1 ht1 => ⟨(by show 2 ≤ sizeLine; decide), fun t2 ht2 => ?_⟩⟩
  have s1 := Same.upd (o := .tup [.int 0, .int 1]) ht1
  have s2 := Same.upd (o := .tup [.ref t1, .ref aL]) ht2
  refine ⟨(by show 2 ≤ sizeLine; decide), fun t3 ht3 => ⟨(by show 2 ≤ sizeLine; decide), fun t4 ht4 => ?_⟩⟩
  have s3 := Same.upd (o := .tup [.int 1, .int 1]) ht3
  have s4 := Same.upd (o := .tup [.ref t3, .ref aL]) ht4
  refine ⟨(by show 2 ≤ sizeLine; decide), fun l0 hl0 => ?_⟩
  have s5 := Same.upd (o := .lst [.ref t2, .ref t4]) hl0
  have s15 := s1.trans (s2.trans (s3.trans (s4.trans s5)))
  have c1 : CoQ K (upd (upd (upd (upd (upd H t1 (.tup [.int 0, .int 1])) t2 (.tup [.ref t1, .ref aL])) t3 (.tup [.int 1, .int 1])) t4 (.tup [.ref t3, .ref aL])) l0 (.lst [.ref t2, .ref t4])) (.ref t2) (0, 0) := CoQ.same (s3.trans (s4.trans s5)) ⟨t2, .ref t1, .ref aL, rfl, sqT_new, FrQ.same s2 (.of sqT_new rfl rfl), T.l _⟩
  have c2 : CoQ K (upd (upd (upd (upd (upd H t1 (.tup [.int 0, .int 1])) t2 (.tup [.ref t1, .ref aL])) t3 (.tup [.int 1, .int 1])) t4 (.tup [.ref t3, .ref aL])) l0 (.lst [.ref t2, .ref t4])) (.ref t4) (1, 0) := CoQ.same s5 ⟨t4, .ref t3, .ref aL, rfl, sqT_new, FrQ.same s4 (.of sqT_new rfl rfl), T.l _⟩
  refine ⟨_, rfl, b, rfl, ⟨_, s15.seq hb⟩, ?_⟩
  refine for_list (K := K) (a := b) (xs := xs) (fun i σ H1 => Same H H1 ∧ ∃ (l : Addr) (ys : List V) (L : List (Rat × Rat)) (X : Rat) (y2 : Option V), σ = [some (.ref b), some (.ref l), y2] ∧ H1 l = some (.lst ys) ∧ Paired (CoQ K H1) ys ((0, 0) :: L) ∧ CInv Ss i L X)
   ⟨s15, l0, _, [(1, 0)], 1, _, rfl, upd_same, .cons c1 (.cons c2 .nil), cinv_start Ss⟩ (fun i σ H1 _ h => h.1.seq hb) ?_ ?_
  ·rintro i v σ H1 hv ⟨u1, l, ys, L, X, y2, rfl, u2, u3, ci⟩
   have il := (List.getElem?_eq_some_iff.mp hv).1
   obtain ⟨S, hS, t, lt, ll, p, rfl, ta, ok⟩ := Paired.get1 pT i v hv
   obtain ⟨X', ci'⟩ := cinv_step ci (by omega) hS ok
   obtain ⟨l1, l2, l3, l4, l5⟩ := cinv_lim (i := i) (by omega)
   refine ⟨_, rfl, _, rfl, l, t, lt, ll, ys, p, S, _, _, X, _, _, _, (i + 2) * 1000000 ^ (i + 1), L, rfl, .of u2, u3, ta.same u1, ok, ci.dm, ci.con, ci.last, cinv_top ci ok, ⟨l1, l2, l3, l4, l5⟩, by have := ci.few; omega, fun l' ys' H2 s2' hl' h2 p2 => ?_⟩
   exact ⟨u1.trans s2', l', ys', stg S L, X', _, rfl, h2, p2, ci'⟩
  ·rintro σ H1 ⟨u1, l, ys, L, X, y2, rfl, u2, u3, ci⟩
   rw [lx] at ci
   have ly := u3.length
   have ly' : ys.length = L.length + 1 := by rw [ly]; rfl
   obtain ⟨v, hv⟩ : ∃ v, ys[ys.length - 1]? = some v := ⟨_, List.getElem?_eq_getElem (by omega)⟩
   obtain ⟨c, hc, pz, ya, yb, rfl, hpz, hya, hyb⟩ := Paired.get1 u3 _ _ hv
   have ec : c.1 = X := by
    rw [← ci.last, List.getLast_eq_getElem]
    have := List.getElem?_eq_some_iff.mp hc
    obtain ⟨h1, h2⟩ := this
    rw [← h2]
    congr 2
    omega
   rw [ec] at hya
   refine ⟨_, rfl, _, rfl, l, _, _, _, rfl, rfl, .of u2, at_last hv (by omega), pz, _, _, _, rfl, rfl, hpz, rfl, k _ X H1 u1 hya (cinv_end ci n1 n6)⟩
end
end FQ
namespace FQ
open PySem L2 FK
structure Pcs (K : PySem.W.Frag) (H : Hp) (ls : List Addr) (sp : Nat → Rat × Rat) : Prop where
 nd : ls.Nodup
 at_ : ∀ (t : Nat) (l : Addr), ls[t]? = some l → ∃ v, H l = some (.lst [v]) ∧ CoQ K H v (sp t)
abbrev spE (Ss : List Steps) (X : Rat) (t : Nat) : Rat × Rat := (ef (Ss.take t) X, ef (Ss.take (t + 1)) X)
def spAlike (K : PySem.W.Frag) (C : Addr) : Sp := fun vs H Q _ => ∃ (se b : Addr) (xs : List V) (Ss : List Steps) (n : Nat), vs = [.ref se, .ref b] ∧ SqL K H b xs ∧ Paired (TasteS K C H) xs Ss ∧ xs.length = n ∧ 1 ≤ n ∧ n ≤ 6 ∧
 ∀ (r : Addr) (ls : List Addr) (X : Rat) (H' : Hp), Same H H' → H r = none → H' r = some (.lst (ls.map V.ref)) → ls.length = n → (∀ l ∈ ls, H l = none ∧ l ≠ r) → CwOk Ss n X → Pcs K H' ls (spE Ss X) → Q (.ref r) H'
theorem cw_pt {Ss : List Steps} {n : Nat} {X : Rat} (h : CwOk Ss n X) : ∃ D : Nat, DOk D ∧ D * 1000000 < 2 ^ 270 ∧ Gr D X ∧ ∀ j, j ≤ n → j ≤ Ss.length → 0 ≤ ef (Ss.take j) X ∧ ef (Ss.take j) X ≤ 1 ∧ Gr D (ef (Ss.take j) X) := by
 obtain ⟨G, g0, g1, g2, Q, q0, q1, gq⟩ := h.gr
 have l : Q * G ≤ 1000000 ^ 6 * (7 * 1000000 ^ 6) := Nat.mul_le_mul q1 g1
 refine ⟨Q * G, ⟨Nat.mul_pos q0 g0, Nat.lt_of_le_of_lt l (by decide)⟩, Nat.lt_of_le_of_lt (Nat.mul_le_mul_right _ l) (by decide), g2.up', fun j hj hl => ?_⟩
 refine ⟨?_, ?_, gq j hj⟩
 ·cases j with
  | zero => exact Rat.le_refl
  | succ j =>
   exact (h.hist j Ss[j] (by omega) (List.getElem?_eq_getElem (by omega))).1
 ·cases j with
  | zero => exact (show (0 : Rat) ≤ 1 by decide +kernel)
  | succ j => exact (h.hist j Ss[j] (by omega) (List.getElem?_eq_getElem (by omega))).2.1
theorem cw_lt {Ss : List Steps} {n : Nat} {X : Rat} (h : CwOk Ss n X) {j : Nat} {S : Steps} {p : Nat} (hj : j < n) (hS : Ss[j]? = some S) (ok : TsOk p S) : ef (Ss.take j) X < ef (Ss.take (j + 1)) X := by
 obtain ⟨_, _, e, _⟩ := h.hist j S hj hS
 have := h.pos
 exact F_lt ok (by grind)
abbrev NAk : List Str := ["self", "tastes", "share", "pieces", "start", "taste", "stop"]
section
variable {P : Program} {w : World} {K : PySem.W.Frag} {mg : Str → Option Value} {base : Heap} {aL aR C : Addr}
theorem scAk : FnScope NAk ["self", "tastes"] (defScope m_Alike_deal) := ⟨rfl, rfl, rfl, by decide +kernel, rfl, by decide +kernel, by decide +kernel⟩
theorem ok_alike {f : Addr} {fd : FuncData} (D : Fun K "deal" "Alike.deal" m_Alike_deal f fd) (CT : Cl P w K mg base "check_takers" 2 ["tastes", "fewest", "most"] (spTakers K C)) (CW : Cl P w K mg base "common_worth" 9 ["tastes"] (spCommon K C)) (MM : Ml P w K mg base C "mark" 8 ["self", "start", "share"] (spMark K C)) (T : Txt K mg aL aR) (TC : TxtC K C) :
  FnOk P w K mg base CX0 10 f fd ["self", "tastes"] (spAlike K C) := by
 refine D.ok scAk (fun vs H Q E h => ?_) (fun cdv A0 outer s H vs Q E hr h => ?_)
 ·obtain ⟨se, b, xs, Ss, n, rfl, _⟩ := h
  rfl
 ·obtain ⟨se, b, xs, Ss, n, rfl, hb, pT, lx, n1, n6, k⟩ := h
  have hr2 : Room 2 _ := hr.mono (by decide)
  have hr8 : Room 8 _ := hr.mono (by decide)
  have big : 1000 ≤ sizeLine := by decide
  refine ⟨_, pss_cons (ps_expr (pe_cl CT hr2 rfl (pa_cons (pv 1) (pa_cons pe_int (pa_cons pe_int pa_nil)))))
   (pss_cons (ps_set (i := 2) scAk.nd rfl (Or.inl rfl) (pe_cl CW hr rfl (pa_cons (pv 1) pa_nil)))
   (pss_cons (ps_set (i := 3) scAk.nd rfl (Or.inl rfl) (pe_lst pa_nil))
   (pss_cons (ps_set (i := 4) scAk.nd rfl (Or.inl rfl) (pe_glob (v := .ref aL) rfl T.left rfl))
   (pss_cons (ps_for PassesOwn.never rfl (pi_list (pv 1)) (pg_name (i := 5) scAk.nd rfl (Or.inl rfl))
    (pss_cons (ps_set (i := 6) scAk.nd rfl (Or.inl rfl) (pe_ml MM TC.cl hr8 (pv 5) (pa_cons (pv 4) (pa_cons (pv 2) pa_nil))))
    (pss_cons (ps_expr (pe_bm PySem.F.plainAttrs_list PySem.F.slot_list_append PySem.F.type_list_append mt_append (pv 3) (pa_cons (pe_lst (pa_cons (pe_tup (pa_cons (pv 4) (pa_cons (pv 6) pa_nil))) pa_nil)) pa_nil)))
    (pss_one (ps_set (i := 4) scAk.nd rfl (Or.inl rfl) (pv 6))))))
   (pss_one (ps_ret (pv 3))))))), ?_⟩
  refine ⟨_, rfl, b, xs, Ss, 1, 6, rfl, hb, pT, by omega, by omega, ?_⟩
  refine ⟨_, rfl, b, xs, Ss, n, rfl, hb, pT, lx, n1, n6, fun vX X H1 s1 dX cw => ?_⟩
  refine ⟨Nat.zero_le _, fun r hr0 => ?_⟩
  have s2 := Same.upd (o := .lst []) hr0
  have s12 := s1.trans s2
  have hr0' : H r = none := s1.free hr0
  have lS := pT.length
  obtain ⟨Dd, dk, dlim, gX, pts⟩ := cw_pt cw
  have le1 := cw.le1
  have pos := cw.pos
  refine ⟨_, rfl, b, rfl, ⟨_, s12.seq hb⟩, ?_⟩
  refine for_list (K := K) (a := b) (xs := xs) (fun i σ H2 => Same H H2 ∧ ∃ (ls : List Addr) (v : V) (y5 y6 : Option V), σ = [some (.ref se), some (.ref b), some vX, some (.ref r), some v, y5, y6] ∧ H2 r = some (.lst (ls.map V.ref)) ∧ ls.length = i ∧ (∀ l ∈ ls, H l = none ∧ l ≠ r) ∧ Pcs K H2 ls (spE Ss X) ∧ FrQ K H2 v (ef (Ss.take i) X) ∧ FrQ K H2 vX X)
   ⟨s12, [], .ref aL, _, _, rfl, upd_same, rfl, (fun _ z => nomatch z), ⟨List.nodup_nil, fun t l z => by cases z⟩, T.l _, dX.same s2⟩ (fun i σ H2 _ h => h.1.seq hb) ?_ ?_
  ·rintro i y σ H2 hy ⟨u1, ls, v, y5, y6, rfl, u2, u3, u4, pc, dv, dx2⟩
   have il := (List.getElem?_eq_some_iff.mp hy).1
   obtain ⟨S, hS, t, lt, ll, p, rfl, ta, ok⟩ := Paired.get1 pT i y hy
   obtain ⟨a0, a1, ga⟩ := pts i (by omega) (by omega)
   obtain ⟨c0, c1, gc⟩ := pts (i + 1) (by omega) (by omega)
   obtain ⟨_, _, e3, e4⟩ := cw.hist i S (by omega) hS
   have ta2 := ta.same u1
   obtain ⟨dx, hx⟩ := ta2.ins
   have fa0 := F_nn ok (ef (Ss.take i) X)
   have bF : Bd 280 (F S (ef (Ss.take i) X)) := (F_bd ok ga dk.pos a1 dlim).mono (by decide)
   have bG : Bd 280 (F S (ef (Ss.take (i + 1)) X)) := (F_bd ok gc dk.pos c1 dlim).mono (by decide)
   rw [e3] at bG
   refine ⟨_, rfl, t, dx, _, rfl, hx, rfl, _, rfl, _, rfl, t, lt, ll, v, vX, p, S, ef (Ss.take i) X, X, rfl, ta2, ok, dv, dx2, ⟨a0, a1, dk.bd ga a0 a1⟩, Bd.fit bF fa0 (by decide), Bd.fit (dk.bd gX (Rat.le_of_lt pos) le1) (Rat.le_of_lt pos) (by decide), ⟨by grind, bG⟩, fun v3 H3 s3 d3 => ?_⟩
   rw [e4] at d3
   have d3' : FrQ K H3 v3 (ef (Ss.take (i + 1)) X) := d3
   have u13 := u1.trans s3
   have u23 := s3 _ _ u2
   refine ⟨_, rfl, .inl ⟨rfl, _, .of u23⟩, _, rfl, _, rfl, (by show 2 ≤ sizeLine; decide), fun t4 ht4 => ⟨(by show 1 ≤ sizeLine; decide), fun l hl => ?_⟩⟩
   have s4 := Same.upd (o := .tup [v, v3]) ht4
   have s5 := Same.upd (o := .lst [.ref t4]) hl
   have s35 := s3.trans (s4.trans s5)
   have u14 := u1.trans s35
   have u25 := s35 _ _ u2
   have lr : l ≠ r := (ne_of_none (s4 _ _ u23) hl).symm
   have lH : H l = none := (u13.trans s4).free hl
   have k1 := Keep.updL (o := .lst (ls.map V.ref ++ [.ref l])) u25
   have nl : l ∉ ls := fun z => by
    obtain ⟨j, hj⟩ := List.mem_iff_getElem?.mp z
    obtain ⟨v', e2, _⟩ := pc.at_ j l hj
    have := (s3.trans s4) _ _ e2
    rw [hl] at this
    cases this
   have hl3 : (ls.map V.ref).length ≤ 8 := by rw [List.length_map]; omega
   refine ⟨r, _, _, rfl, rfl, u25, by omega, ?_⟩
   refine ⟨_, rfl, u14.updN hr0', ls ++ [l], v3, _, _, rfl, by rw [upd_same, List.map_append]; rfl, by rw [List.length_append, u3]; rfl, fun y hy => ?_, ⟨?_, fun j y hj => ?_⟩, FrQ.keep k1 (d3'.same (s4.trans s5)), FrQ.keep k1 (dx2.same s35)⟩
   ·rcases List.mem_append.mp hy with z | z
    ·exact u4 y z
    ·rw [List.mem_singleton.mp z]
     exact ⟨lH, lr⟩
   ·refine List.nodup_append.mpr ⟨pc.nd, List.pairwise_singleton .., fun a ha b' hb' z => ?_⟩
    rw [List.mem_singleton.mp hb'] at z
    rw [z] at ha
    exact nl ha
   ·by_cases c : j < ls.length
    ·rw [List.getElem?_append_left c] at hj
     obtain ⟨v', e2, cv'⟩ := pc.at_ j y hj
     have yD := (u4 y (List.mem_of_getElem? hj)).2
     exact ⟨v', by rw [upd_ne yD]; exact s35 _ _ e2, CoQ.keep k1 (CoQ.same s35 cv')⟩
    ·have tl := (List.getElem?_eq_some_iff.mp hj).1
     rw [List.length_append] at tl
     have e5 : j = ls.length := by
      have : [l].length = 1 := rfl
      omega
     subst e5
     rw [List.getElem?_concat_length] at hj
     cases hj
     rw [u3]
     exact ⟨.ref t4, by rw [upd_ne lr]; exact upd_same, CoQ.keep k1 (CoQ.same s5 ⟨t4, v, v3, rfl, sqT_new, dv.same (s3.trans s4), d3'.same s4⟩)⟩
  ·rintro σ H2 ⟨u1, ls, v, y5, y6, rfl, u2, u3, u4, pc, dv, dx2⟩
   exact ⟨_, rfl, k r ls X H2 u1 hr0' u2 (by omega) u4 cw pc⟩
end
end FQ
namespace FQ
open PySem L2 FK
def spCell (K : PySem.W.Frag) : Sp := fun vs H Q _ => ∃ (p : Addr) (ns : List Int) (k : Nat), vs = [.ref p, .int k] ∧ SqL K H p (ns.map V.int) ∧ Q (.int (ns.getD k 0)) H
def spMixed : Sp := fun vs H Q _ => ∃ a b : Int, vs = [.int a, .int b] ∧ ∀ r : Int, Q (.int r) H
theorem zeroQ {K : PySem.W.Frag} {H : Hp} {p : Addr} : FrQ K (upd H p (.tup [.int 0, .int 1])) (.ref p) 0 := .of sqT_new rfl rfl
theorem oneQ {K : PySem.W.Frag} {H : Hp} {p : Addr} : FrQ K (upd H p (.tup [.int 1, .int 1])) (.ref p) 1 := .of sqT_new rfl rfl
def spSum (K : PySem.W.Frag) : Sp := fun vs H Q _ => ∃ (x : V) (p : Addr) (q : Rat) (c d : Int), vs = [x, .ref p] ∧ FrQ K H x q ∧ SqT K H p [.int c, .int d] ∧ Fit q ∧ 0 ≤ c ∧ 0 < d ∧ c.natAbs < 2 ^ 1990 ∧ d.natAbs < 2 ^ 1990 ∧ ∀ v H', Same H H' → FrQ K H' v (q + (c : Rat) / (d : Rat)) → Q v H'
section
variable {P : Program} {w : World} {K : PySem.W.Frag} {mg : Str → Option Value} {base : Heap} {aL aR : Addr}
theorem scCell : FnScope ["_law_script", "_law_k"] ["_law_script", "_law_k"] (defScope s__law_cell_at) := ⟨rfl, rfl, rfl, by decide +kernel, rfl, by decide +kernel, by decide +kernel⟩
theorem ok_cell {f : Addr} {fd : FuncData} (D : DefAt K mg "_law_cell_at" s__law_cell_at ["_law_script", "_law_k"] f fd) (T : Txt K mg aL aR) : FnOk P w K mg base CX0 1 f fd ["_law_script", "_law_k"] (spCell K) := by
 refine D.fn.ok scCell (fun vs H Q E h => ?_) (fun cdv A outer s H vs Q E hr h => ?_)
 ·obtain ⟨p, ns, n, rfl, _⟩ := h
  rfl
 ·obtain ⟨p, ns, n, rfl, hp, k⟩ := h
  refine ⟨_, pss_cons (ps_if (pt_cmpR op_lt (pv 1) (pe_callB call_len_seq (by rfl) T.len PySem.boot_len (pa_cons (pv 0) pa_nil)) (nomark _)) (pss_one (ps_ret (pe_ix ix_list (pv 0) (pv 1) (fun _ _ => rfl)))) pss_nil) (pss_one (ps_ret pe_int)), ?_⟩
  refine ⟨_, rfl, _, rfl, p, _, rfl, .inl hp, _, _, rfl, rfl, _, rfl, ?_⟩
  refine ite2 (fun h => ?_) (fun h => ?_)
  ·have h' : (n : Int) < ((ns.map V.int).length : Nat) := of_decide_eq_true h
   rw [List.length_map] at h'
   have hn : n < ns.length := by omega
   refine ⟨_, rfl, _, rfl, p, _, _, _, rfl, rfl, hp, atI_nat (v := V.int (ns.getD n 0)) ?_, k⟩
   rw [List.getElem?_map, List.getD_eq_getElem?_getD, List.getElem?_eq_getElem hn]
   rfl
  ·have h' : ¬ (n : Int) < ((ns.map V.int).length : Nat) := fun z => h (decide_eq_true z)
   rw [List.length_map] at h'
   have e : ns.getD n 0 = 0 := by rw [List.getD_eq_getElem?_getD, List.getElem?_eq_none (by omega)]; rfl
   rw [e] at k
   exact k
theorem scMixed : FnScope ["_law_cell", "_law_k", "_law_found"] ["_law_cell", "_law_k"] (defScope s__law_mixed) := ⟨rfl, rfl, rfl, by decide +kernel, rfl, by decide +kernel, by decide +kernel⟩
theorem ok_mixed {f : Addr} {fd : FuncData} (D : DefAt K mg "_law_mixed" s__law_mixed ["_law_cell", "_law_k"] f fd) : FnOk P w K mg base CX0 1 f fd ["_law_cell", "_law_k"] spMixed := by
 refine D.fn.ok scMixed (fun vs H Q E h => ?_) (fun cdv A outer s H vs Q E hr h => ?_)
 ·obtain ⟨a, b, rfl, _⟩ := h
  rfl
 ·obtain ⟨a, b, rfl, k⟩ := h
  refine ⟨_, pss_cons (ps_set (i := 2) scMixed.nd rfl (Or.inl rfl) (pe_op op_mod (pe_op op_mul (pe_op op_add (pe_op op_add (pv 0) (pe_op op_mul pe_int (pv 1))) pe_int) pe_int) pe_int))
   (pss_one (ps_ret (pe_op op_mod (pe_op op_mul (pv 2) (pv 2)) pe_int))), ?_⟩
  refine ⟨_, rfl, _, rfl, _, _, rfl, rfl, .inl ⟨by decide, by decide⟩, _, _, rfl, rfl, _, _, rfl, rfl, _, _, rfl, rfl, .inr ⟨by decide, by decide⟩, _, _, rfl, rfl, (by show (0 : Int) < 2147483647; decide), ?_⟩
  have h0 := Int.emod_nonneg ((a + 977 * b + 31) * 48271) (show (2147483647 : Int) ≠ 0 by decide)
  have h1 := Int.emod_lt_of_pos ((a + 977 * b + 31) * 48271) (show (0 : Int) < 2147483647 by decide)
  refine ⟨_, rfl, _, rfl, _, _, rfl, rfl, .inl ⟨?_, ?_⟩, _, _, rfl, rfl, (by show (0 : Int) < 2147483629; decide), k _⟩
  ·show -(2 ^ 64) < (a + 977 * b + 31) * 48271 % 2147483647
   omega
  ·show (a + 977 * b + 31) * 48271 % 2147483647 < 2 ^ 64
   omega
theorem scLow : FnScope ["_law_a", "_law_b", "_law_one", "_law_other"] ["_law_a", "_law_b"] (defScope s__law_low) := ⟨rfl, rfl, rfl, by decide +kernel, rfl, by decide +kernel, by decide +kernel⟩
def mu2 (σ : St) : Nat := match σ with
 | [_, _, _, some (.int b)] => b.toNat
 | _ => 0
theorem ok_low {f : Addr} {fd : FuncData} (D : DefAt K mg "_law_low" s__law_low ["_law_a", "_law_b"] f fd) : FnOk P w K mg base CX0 1 f fd ["_law_a", "_law_b"] spMade := by
 refine D.fn.ok scLow (fun vs H Q E h => ?_) (fun cdv A outer s H vs Q E hr h => ?_)
 ·obtain ⟨a, b, rfl, _⟩ := h
  rfl
 ·obtain ⟨a0, b0, rfl, ha, hb, hS, k⟩ := h
  have gp := G_pos (a := a0) hb
  have gS : Sm (G a0 b0) := hS.mono (by have := G_le (a := a0) hb; omega)
  refine ⟨_, pss_cons (ps_set (i := 2) scLow.nd rfl (Or.inl rfl) (pv 0))
   (pss_cons (ps_set (i := 3) scLow.nd rfl (Or.inl rfl) (pv 1))
   (pss_cons (ps_while PassesOwn.never (pt_cmpR op_gt (pv 3) pe_int (nomark _))
    (pss_one (ps_par (i := 2) (j := 3) rfl scLow.nd rfl rfl (by decide) rfl rfl (pa_cons (pv 3) (pa_cons (pe_op op_mod (pv 2) (pv 3)) pa_nil)) rfl)))
   (pss_one (ps_ret (pe_tup (pa_cons (pe_op op_fdivS (pv 0) (pv 2)) (pa_cons (pe_op op_fdivS (pv 1) (pv 2)) pa_nil))))))), ?_⟩
  refine ⟨_, rfl, _, rfl, ?_⟩
  refine while_by (fun σ H' => H' = H ∧ ∃ (a b : Int), σ = [some (.int a0), some (.int b0), some (.int a), some (.int b)] ∧ 0 ≤ a ∧ 0 ≤ b ∧ G a b = G a0 b0) (fun σ _ => mu2 σ) ⟨rfl, a0, b0, rfl, ha, Int.le_of_lt hb, rfl⟩ ?_ ?_
  ·rintro σ H' ⟨rfl, a, b, rfl, ha, hb, e⟩
   refine ⟨_, rfl, _, _, rfl, rfl, _, rfl, ?_⟩
   refine ite2 (fun h => ?_) (fun h => ?_)
   ·have hb' : 0 < b := of_decide_eq_true h
    refine ⟨_, rfl, _, rfl, _, rfl, _, _, rfl, rfl, hb', _, _, rfl, ?_⟩
    refine ⟨⟨rfl, b, a % b, rfl, hb, Int.emod_nonneg _ (by omega), (G_step ha hb').trans e⟩, ?_⟩
    show (a % b).toNat < b.toNat
    have := Int.emod_lt_of_pos a hb'
    omega
   ·have hb' : b = 0 := by
     have : ¬ 0 < b := fun z => h (decide_eq_true z)
     omega
    have e' : a = G a0 b0 := by rw [← e, hb', G_zero ha]
    subst e'
    exact ⟨_, rfl, _, rfl, _, _, rfl, rfl, ⟨gp, gS⟩, _, rfl, _, rfl, _, _, rfl, rfl, ⟨gp, gS⟩, (by show 2 ≤ sizeLine; decide), fun p hp => k p hp⟩
  ·rintro σ H Q Q' hq ⟨v, e, i, j, e1, e2, z, e3, q⟩
   exact ⟨v, e, i, j, e1, e2, z, e3, hq _ _ q⟩
theorem scLess : FnScope ["_law_one", "_law_other"] ["_law_one", "_law_other"] (defScope s__law_less) := ⟨rfl, rfl, rfl, by decide +kernel, rfl, by decide +kernel, by decide +kernel⟩
theorem ok_less {f : Addr} {fd : FuncData} (D : DefAt K mg "_law_less" s__law_less ["_law_one", "_law_other"] f fd) : FnOk P w K mg base CX0 1 f fd ["_law_one", "_law_other"] (spBelow K) := by
 refine D.fn.ok scLess (fun vs H Q E h => ?_) (fun cdv A outer s H vs Q E hr h => ?_)
 ·obtain ⟨x, y, q, r, rfl, _⟩ := h
  rfl
 ·obtain ⟨x, y, u, v, rfl, hx, hy, fu, fv, k⟩ := h
  obtain ⟨p, rfl, hp⟩ := hx.sq
  obtain ⟨q, rfl, hq⟩ := hy.sq
  refine ⟨_, pss_one (ps_ret (pe_cmpR op_lt (pe_op op_mulS (pe_ix ix_tup (pv 0) pe_int (fun _ _ => rfl)) (pe_ix ix_tup (pv 1) pe_int (fun _ _ => rfl))) (pe_op op_mulS (pe_ix ix_tup (pv 1) pe_int (fun _ _ => rfl)) (pe_ix ix_tup (pv 0) pe_int (fun _ _ => rfl))) (nomark _))), ?_⟩
  refine ⟨_, rfl, p, _, _, _, rfl, rfl, hp, rfl, _, rfl, q, _, _, _, rfl, rfl, hq, rfl, _, _, rfl, rfl, ⟨fu.s1, fv.s2⟩, ?_⟩
  refine ⟨_, rfl, q, _, _, _, rfl, rfl, hq, rfl, _, rfl, p, _, _, _, rfl, rfl, hp, rfl, _, _, rfl, rfl, ⟨fv.s1, fu.s2⟩, _, _, rfl, rfl, ?_⟩
  rw [decide_eq_decide.mpr (Rat.lt_iff u v)] at k
  exact k
theorem scSum : FnScope ["_law_one", "_law_other"] ["_law_one", "_law_other"] (defScope s__law_sum) := ⟨rfl, rfl, rfl, by decide +kernel, rfl, by decide +kernel, by decide +kernel⟩
theorem sum_fr {q : Rat} {c d : Int} (hd : 0 < d) : ((q.num * d + c * (q.den : Int) : Int) : Rat) / (((q.den : Int) * d : Int) : Rat) = q + (c : Rat) / (d : Rat) := by
 have h1 := q_eq q
 have h3 := den_ne q
 have h4 : (d : Rat) ≠ 0 := by
  intro z
  have := Rat.intCast_inj.mp (show (d : Rat) = ((0 : Int) : Rat) from z)
  omega
 rw [Rat.intCast_add, Rat.intCast_mul, Rat.intCast_mul, Rat.intCast_mul]
 grind
theorem ok_sum {f : Addr} {fd : FuncData} (D : DefAt K mg "_law_sum" s__law_sum ["_law_one", "_law_other"] f fd) (CL : Cl P w K mg base "_law_low" 1 ["_law_a", "_law_b"] spMade) :
  FnOk P w K mg base CX0 2 f fd ["_law_one", "_law_other"] (spSum K) := by
 refine D.fn.ok scSum (fun vs H Q E h => ?_) (fun cdv A outer s H vs Q E hr h => ?_)
 ·obtain ⟨x, p, q, c, d, rfl, _⟩ := h
  rfl
 ·obtain ⟨x, q, u, c, d, rfl, hx, hq, fu, c0, d0, sc, sd, k⟩ := h
  obtain ⟨p, rfl, hp⟩ := hx.sq
  refine ⟨_, pss_one (ps_ret (pe_cl CL hr rfl
   (pa_cons (pe_op op_add (pe_op op_mulS (pe_ix ix_tup (pv 0) pe_int (fun _ _ => rfl)) (pe_ix ix_tup (pv 1) pe_int (fun _ _ => rfl))) (pe_op op_mulS (pe_ix ix_tup (pv 1) pe_int (fun _ _ => rfl)) (pe_ix ix_tup (pv 0) pe_int (fun _ _ => rfl))))
   (pa_cons (pe_op op_mulS (pe_ix ix_tup (pv 0) pe_int (fun _ _ => rfl)) (pe_ix ix_tup (pv 1) pe_int (fun _ _ => rfl))) pa_nil)))), ?_⟩
  have c' : Sm c := .of_bits sc (by decide)
  have d' : Sm d := .of_bits sd (by decide)
  have b0 := den_pos u
  refine ⟨_, rfl, p, _, _, _, rfl, rfl, hp, rfl, _, rfl, q, _, _, _, rfl, rfl, hq, rfl, _, _, rfl, rfl, ⟨fu.s1, d'⟩, ?_⟩
  refine ⟨_, rfl, q, _, _, _, rfl, rfl, hq, rfl, _, rfl, p, _, _, _, rfl, rfl, hp, rfl, _, _, rfl, rfl, ⟨c', fu.s2⟩, _, _, rfl, rfl, ?_⟩
  refine ⟨_, rfl, p, _, _, _, rfl, rfl, hp, rfl, _, rfl, q, _, _, _, rfl, rfl, hq, rfl, _, _, rfl, rfl, ⟨fu.s2, d'⟩, ?_⟩
  have hb : 0 < (u.den : Int) * d := Int.mul_pos b0 d0
  refine ⟨_, _, rfl, Int.add_nonneg (Int.mul_nonneg fu.nn (Int.le_of_lt d0)) (Int.mul_nonneg c0 (Int.le_of_lt b0)), hb, sm_mul (m := 1990) (n := 1990) (by rw [Int.natAbs_natCast]; exact fu.2.2) sd (by decide), fun r hr' => k _ _ (Same.upd hr') ?_⟩
  obtain ⟨l1, l2⟩ := low_fr (a := u.num * d + c * (u.den : Int)) hb
  rw [sum_fr d0] at l1 l2
  exact .of sqT_new l1 l2
theorem scLeft : FnScope ["_law_one", "_law_other"] ["_law_one", "_law_other"] (defScope s__law_left) := ⟨rfl, rfl, rfl, by decide +kernel, rfl, by decide +kernel, by decide +kernel⟩
theorem ok_left {f : Addr} {fd : FuncData} (D : DefAt K mg "_law_left" s__law_left ["_law_one", "_law_other"] f fd) (CL : Cl P w K mg base "_law_low" 1 ["_law_a", "_law_b"] spMade) :
  FnOk P w K mg base CX0 2 f fd ["_law_one", "_law_other"] (spMinus K) := by
 refine FnOk.imp (sp := spTwo K (fun a b c d => a * d - c * b) (fun _ b _ d => b * d)) ?_ left_op
 refine D.fn.ok scLeft (fun vs H Q E h => ?_) (fun cdv A outer s H vs Q E hr h => ?_)
 ·obtain ⟨p, q, a, b, c, d, rfl, _⟩ := h
  rfl
 ·obtain ⟨p, q, a, b, c, d, rfl, hp, hq, ⟨sa, sb, sc, sd⟩, ⟨n1, n2, n3⟩, k⟩ := h
  refine ⟨_, pss_one (ps_ret (pe_cl CL hr rfl
   (pa_cons (pe_op op_sub (pe_op op_mulS (pe_ix ix_tup (pv 0) pe_int (fun _ _ => rfl)) (pe_ix ix_tup (pv 1) pe_int (fun _ _ => rfl))) (pe_op op_mulS (pe_ix ix_tup (pv 1) pe_int (fun _ _ => rfl)) (pe_ix ix_tup (pv 0) pe_int (fun _ _ => rfl))))
   (pa_cons (pe_op op_mulS (pe_ix ix_tup (pv 0) pe_int (fun _ _ => rfl)) (pe_ix ix_tup (pv 1) pe_int (fun _ _ => rfl))) pa_nil)))), ?_⟩
  refine ⟨_, rfl, p, _, _, _, rfl, rfl, hp, rfl, _, rfl, q, _, _, _, rfl, rfl, hq, rfl, _, _, rfl, rfl, ⟨sa, sd⟩, ?_⟩
  refine ⟨_, rfl, q, _, _, _, rfl, rfl, hq, rfl, _, rfl, p, _, _, _, rfl, rfl, hp, rfl, _, _, rfl, rfl, ⟨sc, sb⟩, _, _, rfl, rfl, ?_⟩
  refine ⟨_, rfl, p, _, _, _, rfl, rfl, hp, rfl, _, rfl, q, _, _, _, rfl, rfl, hq, rfl, _, _, rfl, rfl, ⟨sb, sd⟩, ?_⟩
  exact ⟨_, _, rfl, n1, n2, n3, k⟩
end
end FQ
namespace FQ
open PySem L2 FK
def spLFrac (K : PySem.W.Frag) : Sp := fun vs H Q _ => ∃ (x : V) (q : Rat), vs = [x] ∧ FrQ K H x q ∧ Fit q ∧ ∀ H', Same H H' → Q (.bl true) H'
section
variable {P : Program} {w : World} {K : PySem.W.Frag} {mg : Str → Option Value} {base : Heap} {aL aR C : Addr}
theorem scLFrac : FnScope ["_law_thing"] ["_law_thing"] (defScope s__law_fraction) := ⟨rfl, rfl, rfl, by decide +kernel, rfl, by decide +kernel, by decide +kernel⟩
theorem ok_lfrac {f : Addr} {fd : FuncData} (D : DefAt K mg "_law_fraction" s__law_fraction ["_law_thing"] f fd) (CL : Cl P w K mg base "_law_low" 1 ["_law_a", "_law_b"] (spMadeQ K)) (T : Txt K mg aL aR) : FnOk P w K mg base CX0 2 f fd ["_law_thing"] (spLFrac K) := by
 refine D.fn.ok scLFrac (fun vs H Q E h => ?_) (fun cdv A outer s H vs Q E hr h => ?_)
 ·obtain ⟨x, q, rfl, _⟩ := h
  rfl
 ·obtain ⟨x, q, rfl, hx, fq, k⟩ := h
  obtain ⟨p, rfl, hp⟩ := hx.sq
  have hu : _ + (0 + 1) < cLine := hu_of hr
  refine ⟨_, pss_cons (ps_if (PW.pt (pw_or (pt_not (pt_val (pe_isi (pv 0) rfl T.isi rfl T.tuple PyProof.Rows.boot_tuple))) (pw_or1 (pt_cmpR op_ne (pe_callB call_len_seq (by rfl) T.len PySem.boot_len (pa_cons (pv 0) pa_nil)) pe_int (nomark _))))) pss_never pss_nil)
   (pss_cons (ps_if (pt_val (pe_callB (call_any rfl) (by rfl) T.any PyProof.Rows.boot_any (pa_cons
    (pe_comp ["_law_one"] rfl (CompOk.plain rfl (by decide +kernel) (by decide +kernel) (by decide +kernel)) (pi_tup (pv 0)) (fun _ => pg_name (i := 0) (show [Str.ofString "_law_one"].Nodup by decide +kernel) rfl (Or.inl rfl)) (fun _ => pifs_nil)
     (fun _ => pe_or (pe_isi (pv 0) rfl T.isi rfl T.bool PyProof.Rows.boot_bool) (pe_one (pe_not (pe_isi (pv 0) rfl T.isi rfl T.int PyProof.Rows.boot_int))))) pa_nil))) pss_never pss_nil)
   (pss_one (ps_ret (pe_and (pe_cmpR op_ge (pe_ix ix_tup (pv 0) pe_int (fun _ _ => rfl)) pe_int (nomark _)) (pe_and (pe_cmpR op_gt (pe_ix ix_tup (pv 0) pe_int (fun _ _ => rfl)) pe_int (nomark _))
    (pe_one (pe_cmpR (op_eqP rpe_int rpe_int hu) (pe_cl CL hr rfl (pa_cons (pe_ix ix_tup (pv 0) pe_int (fun _ _ => rfl)) (pa_cons (pe_ix ix_tup (pv 0) pe_int (fun _ _ => rfl)) pa_nil))) (pv 0) (nomark _)))))))), ?_⟩
  refine ⟨_, rfl, _, _, .sqT hp, kit_tuple _, _, rfl, iteF ?_⟩
  refine ⟨_, rfl, p, _, rfl, .inr hp, rfl, _, rfl, iteNS rfl ?_⟩
  refine ⟨_, rfl, p, rfl, ⟨_, hp⟩, fun D' hD => ?_⟩
  refine comp_tup (K := K) (a := p) (D := D') (xs := [.int q.num, .int (q.den : Int)]) (fun i ys σ H' => Same H H' ∧ H' D' = some (.lst ys) ∧ ys = List.replicate i (.bl false) ∧ ∃ v, σ = [v]) (by show 2 ≤ sizeLine; decide) ⟨Same.upd hD, upd_same, rfl, _, rfl⟩ ?_ ?_ ?_
  ·rintro i ys σ H' _ ⟨s2, h2, rfl, _⟩
   exact ⟨s2.sqT hp, h2, by rw [List.length_replicate]; exact Nat.le_refl _⟩
  ·rintro i x ys σ H' hx ⟨s2, h2, rfl, v, rfl⟩ c
   obtain ⟨z, rfl⟩ : ∃ z, x = V.int z := by
    match i, hx with
    | 0, hx => exact ⟨_, (Option.some.inj hx).symm⟩
    | 1, hx => exact ⟨_, (Option.some.inj hx).symm⟩
    | n + 2, hx => simp at hx
   refine ⟨_, rfl, _, _, .of (.int _), kit_int_bool _, _, rfl, iteF ?_⟩
   refine ⟨_, rfl, _, _, .of (.int _), kit_int _, _, rfl, h2, ?_⟩
   exact ⟨s2.updN hD, upd_same, (List.replicate_succ' (n := i)).symm, _, rfl⟩
  ·rintro ys σ H' ⟨s2, h2, rfl, _⟩
   have hp2 := s2.sqT hp
   refine ⟨D', [false, false], rfl, .of h2, _, rfl, iteF ?_⟩
   have n0 := fq.nn
   have d0 := den_pos q
   refine ⟨_, rfl, p, _, _, _, rfl, rfl, hp2, rfl, _, _, rfl, rfl, _, rfl, iteY n0 ?_⟩
   refine ⟨_, rfl, p, _, _, _, rfl, rfl, hp2, rfl, _, _, rfl, rfl, _, rfl, iteY d0 ?_⟩
   refine ⟨_, rfl, p, _, _, _, rfl, rfl, hp2, rfl, _, rfl, p, _, _, _, rfl, rfl, hp2, rfl, q.num, (q.den : Int), rfl, n0, d0, fq.s2, fun v H2 s3 d => ?_⟩
   rw [q_eq] at d
   refine ⟨_, rfl, _, _, d, hx.same (s2.trans s3), ?_⟩
   rw [decide_eq_true (show fr q = fr q from rfl)]
   exact k H2 (s2.trans s3)
end
end FQ
namespace FQ
open PySem L2 FK
def spLPiece (K : PySem.W.Frag) : Sp := fun vs H Q _ => ∃ (a : Addr) (xs : List V) (D : Nat) (L : List (Rat × Rat)), vs = [.ref a] ∧ SqL K H a xs ∧ Paired (CoQ K H) xs L ∧ PcOk D L ∧ ∀ H', Same H H' → Q (.bl true) H'
section
variable {P : Program} {w : World} {K : PySem.W.Frag} {mg : Str → Option Value} {base : Heap} {aL aR C : Addr}
theorem scLPiece : FnScope ["_law_piece_here", "_law_last", "_law_span"] ["_law_piece_here"] (defScope s__law_piece) := ⟨rfl, rfl, rfl, by decide +kernel, rfl, by decide +kernel, by decide +kernel⟩
theorem ok_lpiece {f : Addr} {fd : FuncData} (D : DefAt K mg "_law_piece" s__law_piece ["_law_piece_here"] f fd) (CF : Cl P w K mg base "_law_fraction" 2 ["_law_thing"] (spLFrac K)) (CL : Cl P w K mg base "_law_less" 1 ["_law_one", "_law_other"] (spBelow K)) (T : Txt K mg aL aR) : FnOk P w K mg base CX0 3 f fd ["_law_piece_here"] (spLPiece K) := by
 refine D.fn.ok scLPiece (fun vs H Q E h => ?_) (fun cdv A outer s H vs Q E hr h => ?_)
 ·obtain ⟨a, xs, D, L, rfl, _⟩ := h
  rfl
 ·obtain ⟨a, xs, D, L, rfl, ha, hL, pk, k⟩ := h
  have hr1 : Room 1 _ := hr.mono (by decide)
  refine ⟨_, pss_cons (ps_if (pt_not (pt_val (pe_isi (pv 0) rfl T.isi rfl T.list PyProof.Rows.boot_list))) pss_never pss_nil)
   (pss_cons (ps_set (i := 1) scLPiece.nd rfl (Or.inl rfl) pe_non)
   (pss_cons (ps_for PassesOwn.never rfl (pi_list (pv 0)) (pg_name (i := 2) scLPiece.nd rfl (Or.inl rfl))
    (pss_cons (ps_if (PW.pt (pw_or (pt_not (pt_val (pe_isi (pv 2) rfl T.isi rfl T.tuple PyProof.Rows.boot_tuple))) (pw_or (pt_cmpR op_ne (pe_callB call_len_seq (by rfl) T.len PySem.boot_len (pa_cons (pv 2) pa_nil)) pe_int (nomark _))
     (pw_or (pt_not (pt_val (pe_cl CF hr rfl (pa_cons (pe_ix ix_tup (pv 2) pe_int (fun _ _ => rfl)) pa_nil)))) (pw_or1 (pt_not (pt_val (pe_cl CF hr rfl (pa_cons (pe_ix ix_tup (pv 2) pe_int (fun _ _ => rfl)) pa_nil))))))))) pss_never pss_nil)
    (pss_cons (ps_if (PW.pt (pw_or (pt_not (pt_val (pe_cl CL hr1 rfl (pa_cons (pe_ix ix_tup (pv 2) pe_int (fun _ _ => rfl)) (pa_cons (pe_ix ix_tup (pv 2) pe_int (fun _ _ => rfl)) pa_nil))))) (pw_or1 (pt_val (pe_cl CL hr1 rfl (pa_cons (pe_tup (pa_cons pe_int (pa_cons pe_int pa_nil))) (pa_cons (pe_ix ix_tup (pv 2) pe_int (fun _ _ => rfl)) pa_nil))))))) pss_never pss_nil)
    (pss_cons (ps_if (PW.pt (pw_and (pt_cmpR op_notN (pv 1) pe_non (nomark _)) (pw_and1 (pt_not (pt_val (pe_cl CL hr1 rfl (pa_cons (pv 1) (pa_cons (pe_ix ix_tup (pv 2) pe_int (fun _ _ => rfl)) pa_nil)))))))) pss_never pss_nil)
    (pss_one (ps_set (i := 1) scLPiece.nd rfl (Or.inl rfl) (pe_ix ix_tup (pv 2) pe_int (fun _ _ => rfl))))))))
   (pss_one (ps_ret pe_bl)))), ?_⟩
  refine ⟨_, rfl, _, _, .sqL ha, kit_list _, _, rfl, iteF ?_⟩
  refine ⟨_, rfl, a, rfl, ⟨_, ha⟩, ?_⟩
  refine for_list (K := K) (a := a) (xs := xs) (fun i σ H' => Same H H' ∧ ∃ (r : V) (sp : Option V), σ = [some (.ref a), some r, sp] ∧ ((i = 0 ∧ r = .non) ∨ ∃ j q, i = j + 1 ∧ L[j]? = some q ∧ FrQ K H' r q.2))
   ⟨Same.refl _, _, _, rfl, .inl ⟨rfl, rfl⟩⟩ (fun i σ H' _ h => h.1.seq ha) ?_ ?_
  ·rintro i x σ H' hx ⟨s1, r, sp, rfl, hR⟩
   obtain ⟨q, hq, p0, y, z, rfl, hp0, hy, hz⟩ := Paired.get1 hL i x hx
   have wq := pk.win q (List.mem_of_getElem? hq)
   have fq := pk.fit q (List.mem_of_getElem? hq)
   have f1 : Fit q.1 := Bd.fit fq.1 wq.1 (by decide)
   have f2 : Fit q.2 := Bd.fit fq.2 (by grind) (by decide)
   have hp1 := s1.sqT hp0
   refine ⟨_, rfl, _, _, .sqT hp1, kit_tuple _, _, rfl, iteF ?_⟩
   refine ⟨_, rfl, p0, _, rfl, .inr hp1, rfl, _, rfl, iteNS rfl ?_⟩
   refine ⟨_, rfl, p0, _, _, _, rfl, rfl, hp1, rfl, y, q.1, rfl, hy.same s1, f1, fun H2 s2 => ⟨_, rfl, iteF ?_⟩⟩
   have s12 := s1.trans s2
   refine ⟨_, rfl, p0, _, _, _, rfl, rfl, s12.sqT hp0, rfl, z, q.2, rfl, hz.same s12, f2, fun H3 s3 => ⟨_, rfl, iteF ?_⟩⟩
   have s13 := s12.trans s3
   have hp3 := s13.sqT hp0
   refine ⟨_, rfl, p0, _, _, _, rfl, rfl, hp3, rfl, _, rfl, p0, _, _, _, rfl, rfl, hp3, rfl, y, z, q.1, q.2, rfl, hy.same s13, hz.same s13, f1, f2, _, rfl, iteNS wq.2.1 ?_⟩
   refine ⟨(by show 2 ≤ sizeLine; decide), fun t ht => ?_⟩
   have s4 := Same.upd (o := .tup [.int 1, .int 1]) ht
   have s14 := s13.trans s4
   have hp4 := s14.sqT hp0
   refine ⟨_, rfl, p0, _, _, _, rfl, rfl, hp4, rfl, .ref t, z, 1, q.2, rfl, oneQ, hz.same s14, Fit.one, f2, _, rfl, iteN (show ¬ (1 : Rat) < q.2 by grind) ?_⟩
   have fin : Same H (upd H3 t (.tup [.int 1, .int 1])) ∧ ∃ (r : V) (sp : Option V), [some (V.ref a), some z, some (V.ref p0)] = [some (.ref a), some r, sp] ∧ ((i + 1 = 0 ∧ r = .non) ∨ ∃ j q, i + 1 = j + 1 ∧ L[j]? = some q ∧ FrQ K (upd H3 t (.tup [.int 1, .int 1])) r q.2) :=
    ⟨s14, z, _, rfl, .inr ⟨i, q, rfl, hq, hz.same s14⟩⟩
   refine ⟨_, rfl, rfl, _, rfl, ?_⟩
   rcases hR with ⟨_, rfl⟩ | ⟨j, q0, hj, hq0, hr0⟩
   ·refine iteNS rfl (iteF ?_)
    exact ⟨_, rfl, p0, _, _, _, rfl, rfl, hp4, rfl, fin⟩
   ·have w0 := pk.win q0 (List.mem_of_getElem? hq0)
    have f0 := pk.fit q0 (List.mem_of_getElem? hq0)
    have ap : q0.2 < q.1 := by
     obtain ⟨l1, e1⟩ := List.getElem?_eq_some_iff.mp hq0
     obtain ⟨l2, e2⟩ := List.getElem?_eq_some_iff.mp hq
     have := List.pairwise_iff_getElem.mp pk.apart j i l1 l2 (by omega)
     rw [e1, e2] at this
     exact this
    obtain ⟨p2, rfl, h2⟩ := hr0.sq
    refine iteNN (fun z => nomatch z) ?_
    refine ⟨_, rfl, _, rfl, p0, _, _, _, rfl, rfl, hp4, rfl, .ref p2, y, q0.2, q.1, rfl, hr0.same (s2.trans (s3.trans s4)), hy.same s14, Bd.fit f0.2 (by grind) (by decide), f1, _, rfl, ?_⟩
    refine iteNS ap ?_
    exact ⟨_, rfl, p0, _, _, _, rfl, rfl, hp4, rfl, fin⟩
  ·rintro σ H' ⟨s1, r, sp, rfl, _⟩
   exact k H' s1
end
end FQ
namespace FQ
open PySem L2 FK
theorem RpE.mono {α : Type} [DecidableEq α] {K : PySem.W.Frag} {R : Hp → V → α → Prop} {d e : Nat} (h : RpE K R d) (le : d ≤ e) : RpE K R e :=
 ⟨fun hK I h1 h2 => h.inj hK I h1 h2, fun hK I hu h1 h2 r1 r2 => h.eq hK I (by omega) h1 h2 r1 r2⟩
theorem rpe_st {K : PySem.W.Frag} : RpE K (StQ K) 2 := rpe_pair rpe_fr (RpE.mono rpe_int (by decide))
theorem rpe_co {K : PySem.W.Frag} : RpE K (CoQ K) 2 := rpe_pair rpe_fr rpe_fr
def PcS (K : PySem.W.Frag) (H : Hp) (x : V) (L : List (Rat × Rat)) : Prop := ∃ l zs D, x = .ref l ∧ H l = some (.lst zs) ∧ Paired (CoQ K H) zs L ∧ PcOk D L
def spDealt (K : PySem.W.Frag) : Sp := fun vs H Q _ => ∃ (a : Addr) (n : Nat) (xs : List V) (Ls : List (List (Rat × Rat))) (C : List (Rat × Rat)), vs = [.ref a, .int n] ∧ SqL K H a xs ∧ Paired (PcS K H) xs Ls ∧ xs.length = n ∧ n ≤ 1000 ∧ Ls.flatten.Perm C ∧ C.length ≤ 1000 ∧ Ch 0 C 1 ∧ (∀ q ∈ C, Fit q.1 ∧ Fit q.2) ∧
 ∀ H', Same H H' → Q (.bl true) H'
abbrev ND : List Str := ["_law_pieces", "_law_many", "_law_piece_here", "_law_point", "_law_spans", "_law_ahead"]
theorem scDealt : FnScope ND ["_law_pieces", "_law_many"] (defScope s__law_dealt) := ⟨rfl, rfl, rfl, by decide +kernel, rfl, by decide +kernel, by decide +kernel⟩
theorem Paired.erase {α β : Type} {F : α → β → Prop} : ∀ {xs : List α} {ys : List β} (i : Nat), Paired F xs ys → Paired F (xs.eraseIdx i) (ys.eraseIdx i)
 | _, _, i, .nil => by rw [List.eraseIdx_nil, List.eraseIdx_nil]; exact .nil
 | _, _, 0, .cons r t => t
 | _, _, i + 1, .cons r t => .cons r (Paired.erase i t)
def muD (σ : St) (H : Hp) : Nat := match σ with
 | [_, _, _, _, some (.ref sp), _] => match H sp with
  | some (.lst zs) => zs.length
  | _ => 0
 | _ => 0
section
variable {P : Program} {w : World} {K : PySem.W.Frag} {mg : Str → Option Value} {base : Heap} {aL aR C : Addr}
theorem ok_dealt {f : Addr} {fd : FuncData} (D : DefAt K mg "_law_dealt" s__law_dealt ["_law_pieces", "_law_many"] f fd) (CP : Cl P w K mg base "_law_piece" 3 ["_law_piece_here"] (spLPiece K)) (T : Txt K mg aL aR) (hall : mg "all" = none) : FnOk P w K mg base CX0 4 f fd ["_law_pieces", "_law_many"] (spDealt K) := by
 refine D.fn.ok scDealt (fun vs H Q E h => ?_) (fun cdv A outer s H vs Q E hr h => ?_)
 ·obtain ⟨a, n, xs, Ls, C, rfl, _⟩ := h
  rfl
 ·obtain ⟨a, n, xs, Ls, C, rfl, ha, hL, hn, n1000, perm, c1000, ch, cf, k⟩ := h
  have hu : _ + (0 + 1) < cLine := hu_of hr
  have hu3 : _ + (2 + 1) < cLine := Nat.lt_of_le_of_lt (Nat.add_le_add_left (by decide : 3 ≤ 64) _) hr.units
  have big : 10000 ≤ sizeLine := by decide
  have lX := hL.length
  obtain ⟨t4, h4, r4⟩ : ∃ t, PSs (cx P w K mg base ND "_law_dealt" s__law_dealt f cdv A outer s H E) (List.drop 4 (defBody s__law_dealt)) t ∧ ∀ (Q : VK) (H5 : Hp) (sp t' : Addr) (zs : List V) (R0 C0 : List (Rat × Rat)) (x2 x5 : Option V), Same H H5 → H sp = none → H5 sp = some (.lst zs) → FrQ K H5 (.ref t') 0 → Paired (CoQ K H5) zs R0 → R0.Perm C0 → Ch 0 C0 1 → (∀ q ∈ C0, Fit q.1 ∧ Fit q.2) → C0.length ≤ 1000 → (∀ H', Same H H' → Q (.bl true) H') →
    t { nx := fun _ H' => Q .non H', rt := Q } [some (.ref a), some (.int n), x2, some (.ref t'), some (.ref sp), x5] H5 := by
   refine ⟨_, (pss_cons (ps_while PassesOwn.never (pt_truth (pv 4) (fun _ => rfl))
    (pss_cons (ps_comp ["_law_span"] (i := 5) scDealt.nd rfl (Or.inl rfl) rfl (CompOk.free1 (F := ["_law_point"]) (js := [3]) rfl (by decide +kernel) (by decide +kernel) rfl ⟨rfl, trivial⟩ rfl ⟨⟨rfl, rfl, .inl rfl⟩, trivial⟩) (pi_list (pv 4))
     (fun _ => pg_name (i := 0) (show [Str.ofString "_law_span", Str.ofString "_law_point"].Nodup by decide +kernel) rfl (Or.inl rfl)) (fun _ => pifs_one (pt_cmpR (op_eqP rpe_int rpe_int hu) (pe_ix ix_tup (pv 0) pe_int (fun _ _ => rfl)) (pv 1) (nomark _))) (fun _ => pv 0))
    (pss_cons (ps_if (pt_cmpR op_ne (pe_callB call_len_seq (by rfl) T.len PySem.boot_len (pa_cons (pv 5) pa_nil)) pe_int (nomark _)) pss_never pss_nil)
    (pss_cons (ps_expr (pe_bm PySem.F.plainAttrs_list PySem.F.slot_list_remove PySem.F.type_list_remove (mt_remove rpe_co hu3) (pv 4) (pa_cons (pe_ix ix_list (pv 5) pe_int (fun _ _ => rfl)) pa_nil)))
    (pss_one (ps_set (i := 3) scDealt.nd rfl (Or.inr rfl) (pe_ix ix_tup (pe_ix ix_list (pv 5) pe_int (fun _ _ => rfl)) pe_int (fun _ _ => rfl))))))))
   (pss_one (ps_ret (pe_cmpR (op_eqP rpe_int rpe_int hu) (pv 3) (pe_tup (pa_cons pe_int (pa_cons pe_int pa_nil))) (nomark _))))), ?_⟩
   intro Q H5 sp t zs R0 C0 x2 x5 s5 hsp0 hz ht0 pz perm ch cf c1000 k
   refine while_by (fun σ H' => Same H H' ∧ ∃ (zs : List V) (R C' : List (Rat × Rat)) (c : Rat) (v : V) (x5 : Option V), σ = [some (.ref a), some (.int n), x2, some v, some (.ref sp), x5] ∧ H' sp = some (.lst zs) ∧ FrQ K H' v c ∧ Fit c ∧ Paired (CoQ K H') zs R ∧ R.Perm C' ∧ Ch c C' 1 ∧ (∀ q ∈ C', Fit q.1 ∧ Fit q.2) ∧ C'.length ≤ 1000) muD
    ⟨s5, zs, R0, C0, 0, .ref t, _, rfl, hz, ht0, Fit.zero, pz, perm, ch, cf, c1000⟩ ?_ ?_
   ·rintro σ H6 ⟨s6, zs, R, C', c, v, x5, rfl, hz, hv, fc, pz, perm, ch, cf, cl⟩
    refine ⟨_, rfl, !zs.isEmpty, .inl ⟨zs, .of hz, rfl⟩, ?_⟩
    have lz := pz.length
    have lp := perm.length_eq
    cases C' with
    | nil =>
     have e : zs = [] := List.length_eq_zero_iff.mp (by simp at lp; rw [lz, lp]; rfl)
     subst e
     refine iteF ?_
     have e1 : c = 1 := ch
     refine ⟨_, rfl, (by show 2 ≤ sizeLine; decide), fun t2 ht2 => ?_⟩
     have s7 := Same.upd (o := .tup [.int 1, .int 1]) ht2
     refine ⟨_, _, hv.same s7, oneQ, ?_⟩
     rw [e1, decide_eq_true (show fr 1 = fr 1 from rfl)]
     exact k _ (s6.trans s7)
    | cons q C' =>
     have zne : (!zs.isEmpty) = true := by
      cases zs with
      | nil => simp at lz; rw [lp] at lz; simp at lz
      | cons _ _ => rfl
     rw [zne]
     refine iteT ?_
     have hq := ch.ones perm
     have qm : q ∈ R := perm.mem_iff.mpr List.mem_cons_self
     have fq := cf q List.mem_cons_self
     refine ⟨_, rfl, sp, rfl, ⟨_, .of hz⟩, fun D2 hD2 => ?_⟩
     have ne2 : sp ≠ D2 := ne_of_none hz hD2
     have lz1 : zs.length ≤ 1000 := by
      rw [lz, lp]
      exact cl
     refine comp_list (K := K) (a := sp) (D := D2) (xs := zs) (fun i ys σ H' => Same H6 H' ∧ H' D2 = some (.lst ys) ∧ Paired (CoQ K H') ys ((R.take i).filter fun p => decide (p.1 = c)) ∧ ys.length ≤ i ∧ ∃ x0, σ = [x0, some v]) (by omega) ⟨Same.upd hD2, upd_same, .nil, Nat.zero_le _, _, rfl⟩ ?_ ?_ ?_
     ·rintro i ys σ H' _ ⟨s7, h7, p7, l7, _⟩
      exact ⟨.of (s7 _ _ hz), h7, l7⟩
     ·rintro i x ys σ H' hx ⟨s7, h7, p7, l7, x0, rfl⟩ cc
      obtain ⟨r, hr', p0, y1, y2, rfl, hp0, hy1, hy2⟩ := Paired.get1 pz i x hx
      refine ⟨_, rfl, p0, _, _, _, rfl, rfl, s7.sqT hp0, rfl, _, rfl, _, _, hy1.same s7, hv.same s7, _, rfl, ?_⟩
      rw [fr_dec]
      have et : (R.take (i + 1)).filter (fun p => decide (p.1 = c)) = (R.take i).filter (fun p => decide (p.1 = c)) ++ [r].filter (fun p => decide (p.1 = c)) := by
       rw [take_snoc hr', List.filter_append]
      refine ite2 (fun hc => ?_) (fun hc => ?_)
      ·refine ⟨_, rfl, h7, s7.updN hD2, upd_same, ?_, by rw [List.length_append]; show ys.length + 1 ≤ i + 1; omega, _, rfl⟩
       have k1 := Keep.updL (o := .lst (ys ++ [.ref p0])) h7
       rw [et, List.filter_cons_of_pos (p := fun p : Rat × Rat => decide (p.1 = c)) hc, List.filter_nil]
       exact Paired.app (Paired.mapP p7 fun _ _ z => CoQ.keep k1 z) (.cons (CoQ.keep k1 ⟨p0, y1, y2, rfl, s7.sqT hp0, hy1.same s7, hy2.same s7⟩) .nil)
      ·refine ⟨s7, h7, ?_, by omega, _, rfl⟩
       rw [et, List.filter_cons_of_neg (p := fun p : Rat × Rat => decide (p.1 = c)) hc, List.filter_nil, List.append_nil]
       exact p7
     ·rintro ys σ H7 ⟨s7, h7, p7, l7, _⟩
      rw [List.take_of_length_le (by omega), hq] at p7
      obtain ⟨v0, rfl, hv0⟩ : ∃ v0, ys = [v0] ∧ CoQ K H7 v0 q := by
       cases p7 with
       | cons r t =>
        cases t
        exact ⟨_, rfl, r⟩
      have hz7 := s7 _ _ hz
      refine ⟨_, rfl, D2, _, rfl, .inl (.of h7), rfl, _, rfl, iteNS rfl ?_⟩
      refine ⟨_, rfl, .inl ⟨rfl, _, .of hz7⟩, _, rfl, D2, _, _, _, rfl, rfl, .of h7, rfl, ?_⟩
      refine ⟨sp, zs, v0, R, q, rfl, rfl, hz7, Paired.mapP pz fun _ _ z => CoQ.same s7 z, hv0, qm, ?_⟩
      have k2 := Keep.updL (o := .lst (zs.eraseIdx (ixO q R))) hz7
      have h78 : (upd H7 sp (.lst (zs.eraseIdx (ixO q R)))) D2 = some (.lst [v0]) := by rw [upd_ne ne2.symm]; exact h7
      obtain ⟨p0, y1, y2, rfl, hp0, hy1, hy2⟩ := id hv0
      refine ⟨_, rfl, D2, _, _, _, rfl, rfl, .of h78, rfl, p0, _, _, _, rfl, rfl, k2.sqT hp0, rfl, ?_⟩
      refine ⟨⟨(s6.trans s7).updN hsp0, zs.eraseIdx (ixO q R), R.eraseIdx (ixO q R), C', q.2, y2, _, rfl, upd_same, hy2.keep k2, fq.2, ?_, perm_erase perm, ch.2.2, fun r hr' => cf r (List.mem_cons_of_mem _ hr'), ?_⟩, ?_⟩
      ·exact Paired.mapP (Paired.erase _ pz) fun _ _ z => CoQ.keep k2 (CoQ.same s7 z)
      ·simp at cl
       omega
      ·show muD [_, _, _, _, some (.ref sp), _] (upd H7 sp (.lst (zs.eraseIdx (ixO q R)))) < muD [_, _, _, _, some (.ref sp), _] H6
       unfold muD
       simp only [upd_same, hz]
       have li : ixO q R < R.length := ixO_lt qm
       rw [List.length_eraseIdx_of_lt (by omega)]
       omega
   ·rintro σ H Q Q' hq ⟨v, e, b, tb, q⟩
    exact ⟨v, e, b, tb, hq _ _ q⟩
  refine ⟨_, pss_cons (ps_if (PW.pt (pw_or (pt_not (pt_val (pe_isi (pv 0) rfl T.isi rfl T.list PyProof.Rows.boot_list))) (pw_or (pt_cmpR op_ne (pe_callB call_len_seq (by rfl) T.len PySem.boot_len (pa_cons (pv 0) pa_nil)) (pv 1) (nomark _))
    (pw_or1 (pt_not (pt_val (pe_callB (call_all rfl) (by rfl) hall (by decide +kernel : bootBuiltins "all" = some (.builtin "all")) (pa_cons (pe_comp ["_law_piece_here"] rfl (CompOk.plain rfl (by decide +kernel) (by decide +kernel) (by decide +kernel)) (pi_list (pv 0))
     (fun _ => pg_name (i := 0) (show [Str.ofString "_law_piece_here"].Nodup by decide +kernel) rfl (Or.inl rfl)) (fun _ => pifs_nil) (fun _ => pe_cl CP hr rfl (pa_cons (pv 0) pa_nil))) pa_nil)))))))) pss_never pss_nil)
   (pss_cons (ps_set (i := 3) scDealt.nd rfl (Or.inr rfl) (pe_tup (pa_cons pe_int (pa_cons pe_int pa_nil))))
   (pss_cons (ps_set (i := 4) scDealt.nd rfl (Or.inl rfl) (pe_lst pa_nil))
   (pss_cons (ps_for PassesOwn.never rfl (pi_list (pv 0)) (pg_name (i := 2) scDealt.nd rfl (Or.inl rfl)) (pss_one (ps_set (i := 4) scDealt.nd rfl (Or.inl rfl) (pe_op op_cat (pv 4) (pv 2)))))
   h4))), ?_⟩
  refine ⟨_, rfl, _, _, .sqL ha, kit_list _, _, rfl, iteF ?_⟩
  refine ⟨_, rfl, a, _, rfl, .inl ha, _, rfl, rfl, _, rfl, iteNS (by rw [hn]) ?_⟩
  refine ⟨_, rfl, a, rfl, ⟨_, ha⟩, fun D1 hD1 => ?_⟩
  refine comp_list (K := K) (a := a) (D := D1) (xs := xs) (fun i ys σ H' => Same H H' ∧ H' D1 = some (.lst ys) ∧ ys = (List.replicate i true).map V.bl ∧ ∃ v, σ = [v]) (by omega) ⟨Same.upd hD1, upd_same, rfl, _, rfl⟩ ?_ ?_ ?_
  ·rintro i ys σ H' _ ⟨s2, h2, rfl, _⟩
   exact ⟨s2.seq ha, h2, by simp⟩
  ·rintro i x ys σ H' hx ⟨s2, h2, rfl, v, rfl⟩ c
   obtain ⟨L, hL', l, zs, DD, rfl, hl, hz, pk⟩ := Paired.get1 hL i x hx
   refine ⟨_, rfl, l, zs, DD, L, rfl, .of (s2 _ _ hl), Paired.mapP hz fun _ _ z => CoQ.same s2 z, pk, fun H3 s3 => ⟨s3 _ _ h2, (s2.trans s3).updN hD1, upd_same, ?_, _, rfl⟩⟩
   rw [List.replicate_succ', List.map_append]
   rfl
  ·rintro ys σ H' ⟨s2, h2, rfl, _⟩
   have al : (List.replicate xs.length true).all id = true := by simp
   refine ⟨D1, List.replicate xs.length true, rfl, .of h2, _, rfl, ?_⟩
   rw [al]
   refine iteF ?_
   refine ⟨(by show 2 ≤ sizeLine; decide), fun t ht => ⟨Nat.zero_le _, fun sp hsp => ?_⟩⟩
   have s3 := Same.upd (o := .tup [.int 0, .int 1]) ht
   have s4 := Same.upd (o := .lst []) hsp
   have s14 := s2.trans (s3.trans s4)
   refine ⟨_, rfl, a, rfl, ⟨_, s14.seq ha⟩, ?_⟩
   have fl : (Ls.flatten).length = C.length := perm.length_eq
   refine for_list (K := K) (a := a) (xs := xs) (fun i σ H' => Same H H' ∧ ∃ (sp : Addr) (zs : List V) (x2 : Option V), σ = [some (.ref a), some (.int n), x2, some (.ref t), some (.ref sp), none] ∧ H' sp = some (.lst zs) ∧ H sp = none ∧ FrQ K H' (.ref t) 0 ∧ Paired (CoQ K H') zs (Ls.take i).flatten)
    ⟨s14, sp, [], _, rfl, upd_same, (s2.trans s3).free hsp, zeroQ.same s4, .nil⟩ (fun i σ H' _ h => h.1.seq ha) ?_ ?_
   ·rintro i x σ H' hx ⟨s5, sp, zs, x2, rfl, hz, hsp0, ht0, pz⟩
    obtain ⟨L, hL', l, ys, DD, rfl, hl, hy, pk⟩ := Paired.get1 hL i x hx
    have lz : zs.length + ys.length ≤ 1000 := by
     have e1 : ((Ls.take i).flatten ++ L).length ≤ Ls.flatten.length := by
      have : Ls = Ls.take i ++ L :: Ls.drop (i + 1) := by
       obtain ⟨hi, e⟩ := List.getElem?_eq_some_iff.mp hL'
       rw [← e, ← List.drop_eq_getElem_cons hi, List.take_append_drop]
      conv => rhs; rw [this]
      simp
     rw [pz.length, hy.length]
     rw [List.length_append] at e1
     omega
    refine ⟨_, rfl, _, rfl, sp, l, zs, ys, rfl, rfl, hz, s5 _ _ hl, by omega, fun r hr' => ?_⟩
    have s6 := Same.upd (o := .lst (zs ++ ys)) hr'
    refine ⟨s5.trans s6, r, zs ++ ys, _, rfl, upd_same, s5.free hr', ht0.same s6, ?_⟩
    rw [take_snoc hL', List.flatten_append, List.flatten_singleton]
    exact Paired.app (Paired.mapP pz fun _ _ z => CoQ.same s6 z) (Paired.mapP hy fun _ _ z => CoQ.same (s5.trans s6) z)
   ·rintro σ H5 ⟨s5, sp, zs, x2, rfl, hz, hsp0, ht0, pz⟩
    rw [List.take_of_length_le (by omega)] at pz
    exact r4 _ H5 sp t zs Ls.flatten C x2 _ s5 hsp0 hz ht0 pz perm ch cf c1000 k
end
end FQ
namespace FQ
open PySem L2 FK
def spStepsBy (K : PySem.W.Frag) : Sp := fun vs H Q _ => ∃ (cell : Int), vs = [.int cell] ∧ ∀ (l : Addr) (ts : List V) (p : Nat) (S : Steps) (H' : Hp), Same H H' → H l = none → H' l = some (.lst ts) → Paired (StQ K H') ts S → TsOk p S → Q (.ref l) H'
abbrev NS : List Str := ["_law_cell", "_law_parts", "_law_ends", "_law_many", "_law_k", "_law_end", "_law_steps", "_law_weight"]
theorem scStepsBy : FnScope NS ["_law_cell"] (defScope s__law_steps_by) := ⟨rfl, rfl, rfl, by decide +kernel, rfl, by decide +kernel, by decide +kernel⟩
section
variable {P : Program} {w : World} {K : PySem.W.Frag} {mg : Str → Option Value} {base : Heap} {aL aR : Addr}
theorem tail_sb6 (CM : Cl P w K mg base "_law_mixed" 1 ["_law_cell", "_law_k"] spMixed) (CL : Cl P w K mg base "_law_low" 1 ["_law_a", "_law_b"] (spMadeQ K)) (T : Txt K mg aL aR) {f : Addr} {cdv : Value} {A : Around} {outer : List Env} {s : Shared} {H : Hp} {E : XK} (hr : Room 1 (cx P w K mg base NS "_law_steps_by" s__law_steps_by f cdv A outer s H E).A) :
  ∃ t, PSs (cx P w K mg base NS "_law_steps_by" s__law_steps_by f cdv A outer s H E) (List.drop 6 (defBody s__law_steps_by)) t ∧ ∀ (Q : VK) (H1 : Hp) (cell : Int) (n : Nat) (le : Addr) (es : List Int) (x3 x4 x5 x6 x7 : Option V), Same H H1 → 2 ≤ n → n ≤ 1000 → H1 le = some (.lst (es.map V.int)) → es.length ≤ 8 → es.Nodup → (∀ e ∈ es, 1 ≤ e ∧ e < n) →
   (∀ (l : Addr) (ts : List V) (p : Nat) (S : Steps) (H' : Hp), Same H H' → H l = none → H' l = some (.lst ts) → Paired (StQ K H') ts S → TsOk p S → Q (.ref l) H') →
   t { nx := fun _ H' => Q .non H', rt := Q } [some (.int cell), some (.int n), some (.ref le), x3, x4, x5, x6, x7] H1 := by
 refine ⟨_, pss_cons (ps_set (i := 6) scStepsBy.nd rfl (Or.inl rfl) (pe_lst pa_nil))
  (pss_cons (ps_for PassesOwn.never rfl (pi_list (pe_op op_cat (pe_slice sl_list (pe_callB call_sortedI (by rfl) T.sorted PyProof.Rows.boot_sorted (pa_cons (pv 2) pa_nil)) po_none (po_some pe_int)) (pe_lst (pa_cons (pv 1) pa_nil)))) (pg_name (i := 5) scStepsBy.nd rfl (Or.inl rfl))
   (pss_cons (ps_set (i := 7) scStepsBy.nd rfl (Or.inl rfl) (pe_op op_add pe_int (pe_op op_mod (pe_cl CM hr rfl (pa_cons (pv 0) (pa_cons (pe_op op_add pe_int (pe_callB call_len_seq (by rfl) T.len PySem.boot_len (pa_cons (pv 6) pa_nil))) pa_nil))) pe_int)))
   (pss_cons (ps_if (pt_cmpR op_eq (pe_op op_mod (pe_op op_fdiv (pv 0) pe_int) pe_int) pe_int (nomark _)) (pss_one (ps_set (i := 7) scStepsBy.nd rfl (Or.inl rfl) (pe_op op_add pe_int (pe_op op_mod (pe_cl CM hr rfl (pa_cons (pv 0) (pa_cons (pe_op op_add pe_int (pe_callB call_len_seq (by rfl) T.len PySem.boot_len (pa_cons (pv 6) pa_nil))) pa_nil))) pe_int)))) pss_nil)
   (pss_one (ps_expr (pe_bm PySem.F.plainAttrs_list PySem.F.slot_list_append PySem.F.type_list_append mt_append (pv 6) (pa_cons (pe_tup (pa_cons (pe_cl CL hr rfl (pa_cons (pv 5) (pa_cons (pv 1) pa_nil))) (pa_cons (pv 7) pa_nil))) pa_nil)))))))
  (pss_one (ps_ret (pv 6)))), ?_⟩
 intro Q H1 cell n le es x3 x4 x5 x6 x7 s1 n2 n1000 hE hl hnd hb k
 refine ⟨Nat.zero_le _, fun ls hls => ?_⟩
 have t1 : Same H1 (upd H1 ls (.lst [])) := Same.upd hls
 have hls0 : H ls = none := s1.free hls
 have big : 1000 ≤ sizeLine := by decide
 refine ⟨_, rfl, le, es, rfl, .of (t1 _ _ hE), by omega, fun l2 es' hl2 hp hpw => ?_⟩
 have t2 := Same.upd (o := .lst (es'.map V.int)) hl2
 have nd' : es'.Nodup := hp.nodup_iff.mpr hnd
 have pl := hp.length_eq
 refine ⟨_, rfl, l2, _, rfl, sqL_new, fun l3 hl3 => ?_⟩
 have ec : cutV (es'.map V.int) none (some 7) = (es'.take 7).map V.int := by
  unfold cutV
  rw [HT.sIx_none, show (some (7 : Int)) = some ((7 : Nat) : Int) from rfl, HT.sIx_nat, List.drop_zero, List.length_map, Nat.sub_zero, ← List.map_take]
  by_cases z : 7 ≤ es'.length
  ·rw [Nat.min_eq_left z]
  ·rw [Nat.min_eq_right (by omega), List.take_of_length_le (Nat.le_refl _), List.take_of_length_le (by omega)]
 rw [ec]
 have t3 := Same.upd (o := .lst ((es'.take 7).map V.int)) hl3
 refine ⟨_, rfl, (by show 1 ≤ sizeLine; decide), fun l4 hl4 => ?_⟩
 have t4 := Same.upd (o := .lst [.int n]) hl4
 have lt7 : (es'.take 7).length ≤ 7 := by rw [List.length_take]; omega
 refine ⟨l3, l4, _, _, rfl, rfl, t4 _ _ upd_same, upd_same, by rw [List.length_map]; show _ + 1 ≤ sizeLine; omega, fun l5 hl5 => ?_⟩
 have exs : (es'.take 7).map V.int ++ [V.int n] = (es'.take 7 ++ [(n : Int)]).map V.int := by rw [List.map_append]; rfl
 rw [exs]
 have t5 := Same.upd (o := .lst ((es'.take 7 ++ [(n : Int)]).map V.int)) hl5
 have tt := t1.trans (t2.trans (t3.trans (t4.trans t5)))
 refine ⟨l5, rfl, ⟨_, sqL_new⟩, ?_⟩
 have hl50 : (upd H1 ls (.lst [])) l5 = none := (t2.trans (t3.trans t4)).free hl5
 have ne5 : l5 ≠ ls := fun z => by
  rw [z, upd_same] at hl50
  cases hl50
 have lst5 : (es'.take 7 ++ [(n : Int)]).length ≤ 8 := by rw [List.length_append]; show _ + 1 ≤ 8; omega
 refine for_list (K := K) (a := l5) (xs := (es'.take 7 ++ [(n : Int)]).map V.int) (fun i σ H' => Same H1 H' ∧ H' l5 = some (.lst ((es'.take 7 ++ [(n : Int)]).map V.int)) ∧ ∃ (ts : List V) (S : Steps) (x5 x7 : Option V), σ = [some (.int cell), some (.int n), some (.ref le), x3, x4, x5, some (.ref ls), x7] ∧ H' ls = some (.lst ts) ∧ Paired (StQ K H') ts S ∧ MadeOf n ((es'.take 7 ++ [(n : Int)]).take i) S)
  ⟨tt, upd_same, [], [], _, _, rfl, (t2.trans (t3.trans (t4.trans t5))) _ _ upd_same, .nil, MadeOf.nil n⟩ (fun i σ H' _ h => .of h.2.1) ?_ ?_
 ·rintro i x σ H' hx ⟨u1, u2, ts, S, x5, x7, rfl, hT, pT, md⟩
  have il : i < (es'.take 7 ++ [(n : Int)]).length := by
   have := (List.getElem?_eq_some_iff.mp hx).1
   rw [List.length_map] at this
   exact this
  obtain ⟨e, he⟩ : ∃ e, (es'.take 7 ++ [(n : Int)])[i]? = some e := ⟨_, List.getElem?_eq_getElem il⟩
  have ex : x = .int e := by
   rw [List.getElem?_map, he] at hx
   exact (Option.some.inj hx).symm
  subst ex
  have me := List.mem_of_getElem? he
  have eb : 1 ≤ e ∧ e ≤ n := by
   rcases List.mem_append.mp me with q | q
   ·have := hb e (hp.mem_iff.mp (List.mem_of_mem_take q))
    omega
   ·rw [List.mem_singleton.mp q]
    omega
  have lT : ts.length ≤ 8 := by
   have := congrArg List.length md.1
   rw [List.length_map, List.length_map, List.length_take] at this
   rw [pT.length]
   omega
  have step : ∀ (wt : Int) (t : Addr) (v1 : V) (H2 : Hp) (x5 x7 : Option V), 0 < wt → wt ≤ 1000 → Same H' H2 → H2 t = some (.tup [v1, .int wt]) → FrQ K H2 v1 ((e : Rat) / (n : Rat)) →
    (Same H1 (upd H2 ls (.lst (ts ++ [.ref t]))) ∧ (upd H2 ls (.lst (ts ++ [.ref t]))) l5 = some (.lst ((es'.take 7 ++ [(n : Int)]).map V.int)) ∧ ∃ (ts' : List V) (S : Steps) (y5 y7 : Option V), [some (V.int cell), some (.int n), some (.ref le), x3, x4, x5, some (.ref ls), x7] = [some (.int cell), some (.int n), some (.ref le), x3, x4, y5, some (.ref ls), y7] ∧ (upd H2 ls (.lst (ts ++ [.ref t]))) ls = some (.lst ts') ∧ Paired (StQ K (upd H2 ls (.lst (ts ++ [.ref t])))) ts' S ∧ MadeOf n ((es'.take 7 ++ [(n : Int)]).take (i + 1)) S) := by
   intro wt t v1 H2 x5 x7 w0 w1 u3 hH2 hv1
   have k1 := Keep.updL (o := .lst (ts ++ [.ref t])) (u3 _ _ hT)
   refine ⟨(u1.trans u3).updN hls, by rw [upd_ne ne5]; exact u3 _ _ u2, _, S ++ [((e : Rat) / (n : Rat), wt)], _, _, rfl, upd_same, ?_, ?_⟩
   ·exact Paired.app (Paired.mapP pT fun _ _ z => StQ.keep k1 (StQ.same u3 z)) (.cons ⟨t, v1, _, rfl, k1.sqT (.of hH2), hv1.keep k1, rfl⟩ .nil)
   ·rw [take_snoc he]
    exact md.snoc w0 w1
  have b9 : ∀ r : Int, 0 < 1 + r % 9 ∧ 1 + r % 9 ≤ 1000 := fun r => by omega
  have b1000 : ∀ r : Int, 0 < 1 + r % 1000 ∧ 1 + r % 1000 ≤ 1000 := fun r => by omega
  refine ⟨_, rfl, _, rfl, ls, _, rfl, .inl (.of hT), _, _, rfl, rfl, _, _, rfl, fun r => ?_⟩
  refine ⟨_, _, rfl, rfl, (by show (0 : Int) < 9; decide), _, _, rfl, rfl, ?_⟩
  refine ⟨_, rfl, _, _, rfl, rfl, ⟨by decide, by decide⟩, _, _, rfl, rfl, (by show (0 : Int) < 8; decide), rfl, _, rfl, ?_⟩
  refine ite2 (fun h => ?_) (fun h => ?_)
  ·refine ⟨_, rfl, _, rfl, ls, _, rfl, .inl (.of hT), _, _, rfl, rfl, _, _, rfl, fun r2 => ?_⟩
   refine ⟨_, _, rfl, rfl, (by show (0 : Int) < 1000; decide), _, _, rfl, rfl, ?_⟩
   refine ⟨_, rfl, .inl ⟨rfl, _, .of hT⟩, _, rfl, _, rfl, e, (n : Int), rfl, by omega, by omega, .of_bits (n := 20) (by omega) (by decide), fun v1 H2 u3 hv1 => ?_⟩
   rw [Rat.intCast_natCast] at hv1
   refine ⟨_, rfl, (by show 2 ≤ sizeLine; decide), fun t ht => ?_⟩
   have u4 := Same.upd (o := .tup [v1, .int (1 + r2 % 1000)]) ht
   exact ⟨ls, ts, _, rfl, rfl, (u3.trans u4) _ _ hT, by omega, step _ t v1 _ _ _ (b1000 r2).1 (b1000 r2).2 (u3.trans u4) upd_same (hv1.same u4)⟩
  ·refine ⟨_, rfl, .inl ⟨rfl, _, .of hT⟩, _, rfl, _, rfl, e, (n : Int), rfl, by omega, by omega, .of_bits (n := 20) (by omega) (by decide), fun v1 H2 u3 hv1 => ?_⟩
   rw [Rat.intCast_natCast] at hv1
   refine ⟨_, rfl, (by show 2 ≤ sizeLine; decide), fun t ht => ?_⟩
   have u4 := Same.upd (o := .tup [v1, .int (1 + r % 9)]) ht
   exact ⟨ls, ts, _, rfl, rfl, (u3.trans u4) _ _ hT, by omega, step _ t v1 _ _ _ (b9 r).1 (b9 r).2 (u3.trans u4) upd_same (hv1.same u4)⟩
 ·rintro σ H' ⟨u1, u2, ts, S, x5, x7, rfl, hT, pT, md⟩
  rw [List.take_of_length_le (by rw [List.length_map]; exact Nat.le_refl _)] at md
  refine ⟨_, rfl, k ls ts n S H' (s1.trans u1) hls0 hT pT (md.ts (by omega) n1000 lt7 ?_)⟩
  have r1 : es'.Pairwise (· < ·) := sorted_rise hpw nd'
  have bb : ∀ e ∈ es'.take 7, 1 ≤ e ∧ e < n := fun e he => hb e (hp.mem_iff.mp (List.mem_of_mem_take he))
  refine List.pairwise_cons.mpr ⟨fun e he => ?_, List.pairwise_append.mpr ⟨r1.sublist (List.take_sublist _ _), List.pairwise_singleton _ _, fun a ha b hb' => ?_⟩⟩
  ·rcases List.mem_append.mp he with q | q
   ·have := bb e q
    omega
   ·rw [List.mem_singleton.mp q]
    omega
  ·rw [List.mem_singleton.mp hb']
   exact (bb a ha).2
theorem tail_sb5 (CM : Cl P w K mg base "_law_mixed" 1 ["_law_cell", "_law_k"] spMixed) (CL : Cl P w K mg base "_law_low" 1 ["_law_a", "_law_b"] (spMadeQ K)) (T : Txt K mg aL aR) {f : Addr} {cdv : Value} {A : Around} {outer : List Env} {s : Shared} {H : Hp} {E : XK} (hr : Room 1 (cx P w K mg base NS "_law_steps_by" s__law_steps_by f cdv A outer s H E).A) :
  ∃ t, PSs (cx P w K mg base NS "_law_steps_by" s__law_steps_by f cdv A outer s H E) (List.drop 5 (defBody s__law_steps_by)) t ∧ ∀ (Q : VK) (H1 : Hp) (cell m : Int) (n : Nat) (le : Addr) (x4 x5 x6 x7 : Option V), Same H H1 → H le = none → 2 ≤ n → n ≤ 1000 → 0 ≤ m → m ≤ 8 → H1 le = some (.lst []) →
   (∀ (l : Addr) (ts : List V) (p : Nat) (S : Steps) (H' : Hp), Same H H' → H l = none → H' l = some (.lst ts) → Paired (StQ K H') ts S → TsOk p S → Q (.ref l) H') →
   t { nx := fun _ H' => Q .non H', rt := Q } [some (.int cell), some (.int n), some (.ref le), some (.int m), x4, x5, x6, x7] H1 := by
 obtain ⟨t6, h6, r6⟩ := tail_sb6 (P := P) (w := w) (mg := mg) (base := base) (f := f) (cdv := cdv) (A := A) (outer := outer) (s := s) (H := H) (E := E) CM CL T hr
 refine ⟨_, pss_cons (ps_for PassesOwn.never rfl (pi_range1 rfl T.range (pa_cons (pv 3) pa_nil)) (pg_name (i := 4) scStepsBy.nd rfl (Or.inl rfl))
   (pss_cons (ps_set (i := 5) scStepsBy.nd rfl (Or.inl rfl) (pe_op op_add pe_int (pe_op op_mod (pe_cl CM hr rfl (pa_cons (pv 0) (pa_cons (pv 4) pa_nil))) (pv 1))))
   (pss_one (ps_if (PW.pt (pw_and (pt_cmpR op_lt (pv 5) (pv 1) (nomark _)) (pw_and1 (pt_cmpR op_notIn_seq (pv 5) (pv 2) rfl)))) (pss_one (ps_expr (pe_bm PySem.F.plainAttrs_list PySem.F.slot_list_append PySem.F.type_list_append mt_append (pv 2) (pa_cons (pv 5) pa_nil)))) pss_nil)))) h6, ?_⟩
 intro Q H1 cell m n le x4 x5 x6 x7 s1 hle n2 n1000 m0 m8 hE k
 refine ⟨_, rfl, m, rfl, by omega, by omega, ?_⟩
 refine for_range (lo := 0) (n := m.toNat) (fun i σ H' => Same H H' ∧ ∃ (es : List Int) (x4 x5 : Option V), σ = [some (.int cell), some (.int n), some (.ref le), some (.int m), x4, x5, x6, x7] ∧ H' le = some (.lst (es.map V.int)) ∧ es.length ≤ i ∧ es.Nodup ∧ ∀ e ∈ es, 1 ≤ e ∧ e < (n : Int))
  ⟨s1, [], _, _, rfl, hE, Nat.le_refl _, List.nodup_nil, (fun _ z => nomatch z)⟩ ?_ ?_
 ·rintro i σ H' hi ⟨u1, es, y4, y5, rfl, he, hl, hnd, hb⟩
  refine ⟨_, rfl, _, rfl, _, _, rfl, fun r => ?_⟩
  refine ⟨_, rfl, _, _, rfl, rfl, (by show (0 : Int) < n; omega), _, _, rfl, rfl, ?_⟩
  have b0 := Int.emod_nonneg r (show (n : Int) ≠ 0 by omega)
  refine ⟨_, rfl, _, rfl, _, _, rfl, rfl, _, rfl, ?_⟩
  refine ite2 (fun h => ?_) (fun h => ?_)
  ·have h' : 1 + r % (n : Int) < n := of_decide_eq_true h
   refine ⟨_, rfl, _, rfl, le, _, rfl, .inl (.of he), rfl, flat_ints es, _, rfl, ?_⟩
   refine ite2 (fun h2 => ?_) (fun h2 => ?_)
   ·have nin : (1 + r % (n : Int)) ∉ es := fun z => by
     have h2' : (!inV (.int (1 + r % (n : Int))) (es.map V.int)) = true := h2
     rw [inV_int.mpr z] at h2'
     cases h2'
    refine ⟨_, rfl, .inl ⟨rfl, _, .of he⟩, _, rfl, le, _, _, rfl, rfl, he, ?_, ?_⟩
    ·rw [List.length_map]
     have : 100 < sizeLine := by decide
     omega
    ·refine ⟨u1.updN hle, es ++ [1 + r % (n : Int)], _, _, rfl, ?_, ?_, ?_, fun e he' => ?_⟩
     ·rw [upd_same, List.map_append]
      rfl
     ·rw [List.length_append]
      show es.length + 1 ≤ i + 1
      omega
     ·refine List.nodup_append.mpr ⟨hnd, List.pairwise_singleton _ _, fun a ha b hb' => ?_⟩
      rw [List.mem_singleton.mp hb']
      intro z
      rw [z] at ha
      exact nin ha
     ·rcases List.mem_append.mp he' with z | z
      ·exact hb e z
      ·rw [List.mem_singleton.mp z]
       omega
   ·exact ⟨u1, es, _, _, rfl, he, by omega, hnd, hb⟩
  ·exact iteF ⟨u1, es, _, _, rfl, he, by omega, hnd, hb⟩
 ·rintro σ H' ⟨u1, es, y4, y5, rfl, he, hl, hnd, hb⟩
  exact r6 Q H' cell n le es _ _ _ _ _ u1 n2 n1000 he (by omega) hnd hb k
theorem ok_stepsby {f : Addr} {fd : FuncData} (D : DefAt K mg "_law_steps_by" s__law_steps_by ["_law_cell"] f fd) (CM : Cl P w K mg base "_law_mixed" 1 ["_law_cell", "_law_k"] spMixed) (CL : Cl P w K mg base "_law_low" 1 ["_law_a", "_law_b"] (spMadeQ K)) (T : Txt K mg aL aR) : FnOk P w K mg base CX0 2 f fd ["_law_cell"] (spStepsBy K) := by
 refine D.fn.ok scStepsBy (fun vs H Q E h => ?_) (fun cdv A outer s H vs Q E hr h => ?_)
 ·obtain ⟨cell, rfl, _⟩ := h
  rfl
 ·obtain ⟨cell, rfl, k⟩ := h
  obtain ⟨t5, h5, r5⟩ := tail_sb5 (P := P) (w := w) (mg := mg) (base := base) (f := f) (cdv := cdv) (A := A) (outer := outer) (s := s) (H := H) (E := E) CM CL T hr
  obtain ⟨t2, h2, r2⟩ : ∃ t, PSs (cx P w K mg base NS "_law_steps_by" s__law_steps_by f cdv A outer s H E) (List.drop 2 (defBody s__law_steps_by)) t ∧ ∀ (n : Nat), 2 ≤ n → n ≤ 1000 → t { nx := fun _ H' => Q .non H', rt := Q } [some (.int cell), some (.int n), none, none, none, none, none, none] H := by
   refine ⟨_, pss_cons (ps_set (i := 2) scStepsBy.nd rfl (Or.inl rfl) (pe_lst pa_nil))
    (pss_cons (ps_set (i := 3) scStepsBy.nd rfl (Or.inl rfl) (pe_op op_mod (pe_op op_fdiv (pv 0) pe_int) pe_int))
    (pss_cons (ps_if (pt_cmpR op_eq (pe_op op_mod (pe_op op_fdiv (pv 0) pe_int) pe_int) pe_int (nomark _)) (pss_one (ps_set (i := 3) scStepsBy.nd rfl (Or.inl rfl) (pe_op op_mod (pe_op op_fdiv (pv 0) pe_int) pe_int))) pss_nil) h5)), ?_⟩
   intro n n2 n1000
   refine ⟨Nat.zero_le _, fun le hle => ?_⟩
   refine ⟨_, rfl, _, _, rfl, rfl, ⟨by decide, by decide⟩, _, _, rfl, rfl, (by show (0 : Int) < 4; decide), ?_⟩
   refine ⟨_, rfl, _, _, rfl, rfl, ⟨by decide, by decide⟩, _, _, rfl, rfl, (by show (0 : Int) < 4; decide), rfl, _, rfl, ?_⟩
   refine ite2 (fun h => ?_) (fun h => ?_)
   ·refine ⟨_, rfl, _, _, rfl, rfl, ⟨by decide, by decide⟩, _, _, rfl, rfl, (by show (0 : Int) < 9; decide), ?_⟩
    exact r5 Q _ cell _ n le _ _ _ _ (Same.upd hle) hle n2 n1000 (by show 0 ≤ cell / 5 % 9; omega) (by show cell / 5 % 9 ≤ 8; omega) upd_same k
   ·exact r5 Q _ cell _ n le _ _ _ _ (Same.upd hle) hle n2 n1000 (by show 0 ≤ cell / 5 % 4; omega) (by show cell / 5 % 4 ≤ 8; omega) upd_same k
  refine ⟨_, pss_cons (ps_set (i := 1) scStepsBy.nd rfl (Or.inl rfl) pe_int)
   (pss_cons (ps_if (pt_cmpR op_eq (pe_op op_mod (pv 0) pe_int) pe_int (nomark _)) (pss_one (ps_set (i := 1) scStepsBy.nd rfl (Or.inl rfl) (pe_op op_add pe_int (pe_op op_mod (pe_op op_fdiv (pv 0) pe_int) pe_int)))) pss_nil) h2), ?_⟩
  refine ⟨_, rfl, _, _, rfl, rfl, (by show (0 : Int) < 7; decide), rfl, _, rfl, ?_⟩
  refine ite2 (fun h => ?_) (fun h => ?_)
  ·refine ⟨_, rfl, _, _, rfl, rfl, ⟨by decide, by decide⟩, _, _, rfl, rfl, (by show (0 : Int) < 999; decide), _, _, rfl, rfl, ?_⟩
   have e : (2 + cell / 7 % 999 : Int) = ((2 + cell / 7 % 999).toNat : Int) := by omega
   have := r2 (2 + cell / 7 % 999).toNat (by omega) (by omega)
   rw [← e] at this
   exact this
  ·exact r2 12 (by decide) (by decide)
end
end FQ
namespace FQ
open PySem L2 FK
def fBody : Stmt → List Stmt
 | .For _ _ b _ _ => b
 | _ => []
def stAt (l : List Stmt) (k : Nat) : Stmt := l.getD k (.Pass ⟨0, 0, 0, 0⟩)
def spArea (K : PySem.W.Frag) : Sp := fun vs H Q _ => ∃ (a : Addr) (x y : V) (ts : List V) (p D : Nat) (S : Steps) (u v : Rat), vs = [.ref a, x, y] ∧ SqL K H a ts ∧ Paired (StQ K H) ts S ∧ TsOk p S ∧ FrQ K H x u ∧ FrQ K H y v ∧ (0 ≤ u ∧ u ≤ v ∧ v ≤ 1) ∧ DOk D ∧ (Gr D u ∧ Gr D v) ∧
 ∀ r H', Same H H' → FrQ K H' r (A 0 S v - A 0 S u) → Q r H'
abbrev NA : List Str := ["_law_steps", "_law_start", "_law_end", "_law_found", "_law_begin", "_law_last", "_law_weight", "_law_low_here", "_law_high", "_law_part"]
theorem scArea : FnScope NA ["_law_steps", "_law_start", "_law_end"] (defScope s__law_area) := ⟨rfl, rfl, rfl, by decide +kernel, rfl, by decide +kernel, by decide +kernel⟩
abbrev bArea : List Stmt := fBody (stAt (defBody s__law_area) 2)
theorem fit_of {D p : Nat} {q : Rat} {m : Nat} (d : DOk D) (p0 : 0 < p) (p1 : p ≤ 1000) (g : Gr (D * p) q) (h0 : 0 ≤ q) (hm : q ≤ (m : Rat)) (hm2 : m ≤ 1000000) : Bd 280 q := by
 have l1 : D * p ≤ D * 1000 := Nat.mul_le_mul_left _ p1
 have l2 := d.few
 have l3 : m * (D * p) ≤ 1000000 * (D * 1000) := Nat.mul_le_mul hm2 l1
 exact g.bd (Nat.mul_pos d.pos p0) h0 hm (by omega) (by omega)
theorem part_fr {q : Rat} {w : Int} : ((q.num * w : Int) : Rat) / ((q.den : Int) : Rat) = q * (w : Rat) := by
 have h1 := q_eq q
 have h3 := den_ne q
 rw [Rat.intCast_mul]
 grind
section
variable {P : Program} {w : World} {K : PySem.W.Frag} {mg : Str → Option Value} {base : Heap} {aL aR : Addr}
structure Law3 (P : Program) (w : World) (K : PySem.W.Frag) (mg : Str → Option Value) (base : Heap) : Prop where
 less : Cl P w K mg base "_law_less" 1 ["_law_one", "_law_other"] (spBelow K)
 left : Cl P w K mg base "_law_left" 2 ["_law_one", "_law_other"] (spMinus K)
 sum : Cl P w K mg base "_law_sum" 2 ["_law_one", "_law_other"] (spSum K)
theorem tail_ar4 (C : Law3 P w K mg base) {f : Addr} {cdv : Value} {A : Around} {outer : List Env} {s : Shared} {H : Hp} {E : XK} (hr : Room 2 (cx P w K mg base NA "_law_area" s__law_area f cdv A outer s H E).A) :
  ∃ t, PSs (cx P w K mg base NA "_law_area" s__law_area f cdv A outer s H E) (List.drop 4 bArea) t ∧ ∀ (D : Ends) (H1 : Hp) (x0 x1 x2 x4 x9 : Option V) (vf ve vl vh : V) (wt : Int) (fq e l h : Rat), FrQ K H1 vf fq → FrQ K H1 vl l → FrQ K H1 vh h → Fit fq → Ft 280 l → Ft 280 h → 0 ≤ wt → wt ≤ 1000 →
   (∀ (vf' : V) (xp : Option V) (H' : Hp), Same H1 H' → FrQ K H' vf' (fq + if l < h then (h - l) * (wt : Rat) else 0) → D.nx [x0, x1, x2, some vf', some ve, some ve, some (.int wt), some vl, some vh, xp] H') →
   t D [x0, x1, x2, some vf, x4, some ve, some (.int wt), some vl, some vh, x9] H1 := by
 have hr1 : Room 1 _ := hr.mono (by decide)
 refine ⟨_, pss_cons (ps_if (pt_val (pe_cl C.less hr1 rfl (pa_cons (pv 7) (pa_cons (pv 8) pa_nil))))
   (pss_cons (ps_set (i := 9) scArea.nd rfl (Or.inl rfl) (pe_cl C.left hr rfl (pa_cons (pv 8) (pa_cons (pv 7) pa_nil))))
   (pss_one (ps_set (i := 3) scArea.nd rfl (Or.inl rfl) (pe_cl C.sum hr rfl (pa_cons (pv 3) (pa_cons (pe_tup (pa_cons (pe_op op_mulS (pe_ix ix_tup (pv 9) pe_int (fun _ _ => rfl)) (pv 6)) (pa_cons (pe_ix ix_tup (pv 9) pe_int (fun _ _ => rfl)) pa_nil))) pa_nil)))))) pss_nil)
  (pss_one (ps_set (i := 4) scArea.nd rfl (Or.inl rfl) (pv 5))), ?_⟩
 intro D H1 x0 x1 x2 x4 x9 vf ve vl vh wt fq e l h hf hl hh ff fl fh w0 w1 k
 refine ⟨_, rfl, _, rfl, vl, vh, l, h, rfl, hl, hh, fl.fit, fh.fit, _, rfl, ?_⟩
 refine ite2 (fun c => ?_) (fun c => ?_)
 ·have c' : l < h := of_decide_eq_true c
  refine ⟨_, rfl, _, rfl, vh, vl, h, l, rfl, hh, hl, fh.fit, fl.fit, Rat.le_of_lt c', fun v1 H2 s2 d1 => ?_⟩
  obtain ⟨p1, rfl, q1⟩ := d1.sq
  have nn : 0 ≤ h - l := by grind
  have bp : Bd 561 (h - l) := fh.2.sub fl.2
  have fp : Fit (h - l) := ⟨nn, bp.mono (by decide)⟩
  have wS : Sm wt := .of_bits (n := 20) (by omega) (by decide)
  refine ⟨_, rfl, _, rfl, p1, _, _, _, rfl, rfl, q1, rfl, _, rfl, _, _, rfl, rfl, ⟨fp.s1, wS⟩, _, rfl, p1, _, _, _, rfl, rfl, q1, rfl, (by show 2 ≤ sizeLine; decide), fun t ht => ?_⟩
  have s3 := Same.upd (o := .tup [.int ((h - l).num * wt), .int ((h - l).den : Int)]) ht
  have cb : ((h - l).num * wt).natAbs < 2 ^ 1990 := by
   rw [Int.natAbs_mul]
   have := mul_lt_pow (n := 20) bp.1 (show wt.natAbs < 2 ^ 20 by omega)
   exact Nat.lt_of_lt_of_le this (Nat.pow_le_pow_right (by decide) (by decide))
  have db : ((h - l).den : Int).natAbs < 2 ^ 1990 := by
   rw [Int.natAbs_natCast]
   exact (bp.mono (show 561 ≤ 1990 by decide)).2
  refine ⟨vf, t, fq, _, _, rfl, (hf.same s2).same s3, sqT_new, ff, Int.mul_nonneg fp.nn w0, den_pos _, cb, db, fun v2 H3 s4 d2 => ?_⟩
  refine ⟨_, rfl, k v2 _ H3 (s2.trans (s3.trans s4)) ?_⟩
  rw [part_fr] at d2
  rw [if_pos c']
  exact d2
 ·have c' : ¬ l < h := fun z => c (decide_eq_true z)
  refine ⟨_, rfl, k vf _ H1 (Same.refl _) ?_⟩
  rw [if_neg c', show fq + 0 = fq by grind]
  exact hf
theorem tail_ar2 (C : Law3 P w K mg base) {f : Addr} {cdv : Value} {A : Around} {outer : List Env} {s : Shared} {H : Hp} {E : XK} (hr : Room 2 (cx P w K mg base NA "_law_area" s__law_area f cdv A outer s H E).A) :
  ∃ t, PSs (cx P w K mg base NA "_law_area" s__law_area f cdv A outer s H E) bArea t ∧ ∀ (D : Ends) (H1 : Hp) (x0 x7 x8 x9 : Option V) (x y vf vb ve : V) (wt : Int) (fq b e u v : Rat), FrQ K H1 vf fq → FrQ K H1 vb b → FrQ K H1 ve e → FrQ K H1 x u → FrQ K H1 y v → Fit fq → Ft 280 b → Ft 280 e → Ft 280 u → Ft 280 v → 0 ≤ wt → wt ≤ 1000 →
   (∀ (vf' : V) (y7 y8 y9 : Option V) (H' : Hp), Same H1 H' → FrQ K H' vf' (fq + if (if b < u then u else b) < (if v < e then v else e) then ((if v < e then v else e) - (if b < u then u else b)) * (wt : Rat) else 0) → D.nx [x0, some x, some y, some vf', some ve, some ve, some (.int wt), y7, y8, y9] H') →
   t D [x0, some x, some y, some vf, some vb, some ve, some (.int wt), x7, x8, x9] H1 := by
 have hr1 : Room 1 _ := hr.mono (by decide)
 obtain ⟨t4, h4, r4⟩ := tail_ar4 (P := P) (w := w) (mg := mg) (base := base) (f := f) (cdv := cdv) (A := A) (outer := outer) (s := s) (H := H) (E := E) C hr
 obtain ⟨t3, h3, r3⟩ : ∃ t, PSs (cx P w K mg base NA "_law_area" s__law_area f cdv A outer s H E) (List.drop 3 bArea) t ∧ ∀ (D : Ends) (H1 : Hp) (x0 x9 : Option V) (x y vf vb ve vl : V) (wt : Int) (fq e l v : Rat), FrQ K H1 vf fq → FrQ K H1 ve e → FrQ K H1 vl l → FrQ K H1 y v → Fit fq → Ft 280 e → Ft 280 l → Ft 280 v → 0 ≤ wt → wt ≤ 1000 →
   (∀ (vf' : V) (y7 y8 y9 : Option V) (H' : Hp), Same H1 H' → FrQ K H' vf' (fq + if l < (if v < e then v else e) then ((if v < e then v else e) - l) * (wt : Rat) else 0) → D.nx [x0, some x, some y, some vf', some ve, some ve, some (.int wt), y7, y8, y9] H') →
   t D [x0, some x, some y, some vf, some vb, some ve, some (.int wt), some vl, some ve, x9] H1 := by
  refine ⟨_, pss_cons (ps_if (pt_val (pe_cl C.less hr1 rfl (pa_cons (pv 2) (pa_cons (pv 8) pa_nil)))) (pss_one (ps_set (i := 8) scArea.nd rfl (Or.inl rfl) (pv 2))) pss_nil) h4, ?_⟩
  intro D H1 x0 x9 x y vf vb ve vl wt fq e l v hf he hl hv ff fe fl fv w0 w1 k
  refine ⟨_, rfl, _, rfl, y, ve, v, e, rfl, hv, he, fv.fit, fe.fit, _, rfl, ?_⟩
  refine ite2 (fun c => ?_) (fun c => ?_)
  ·have c' : v < e := of_decide_eq_true c
   rw [if_pos c'] at k
   exact ⟨_, rfl, r4 D H1 _ _ _ _ _ vf ve vl y wt fq e l v hf hl hv ff fl fv w0 w1 fun vf' xp H' s1 d1 => k vf' _ _ _ H' s1 d1⟩
  ·have c' : ¬ v < e := fun z => c (decide_eq_true z)
   rw [if_neg c'] at k
   exact r4 D H1 _ _ _ _ _ vf ve vl ve wt fq e l e hf hl he ff fl fe w0 w1 fun vf' xp H' s1 d1 => k vf' _ _ _ H' s1 d1
 refine ⟨_, pss_cons (ps_set (i := 7) scArea.nd rfl (Or.inl rfl) (pv 4)) (pss_cons (ps_set (i := 8) scArea.nd rfl (Or.inl rfl) (pv 5))
  (pss_cons (ps_if (pt_val (pe_cl C.less hr1 rfl (pa_cons (pv 7) (pa_cons (pv 1) pa_nil)))) (pss_one (ps_set (i := 7) scArea.nd rfl (Or.inl rfl) (pv 1))) pss_nil) h3)), ?_⟩
 intro D H1 x0 x7 x8 x9 x y vf vb ve wt fq b e u v hf hb he hu hv ff fb fe fu fv w0 w1 k
 refine ⟨_, rfl, _, rfl, _, rfl, _, rfl, vb, x, b, u, rfl, hb, hu, fb.fit, fu.fit, _, rfl, ?_⟩
 refine ite2 (fun c => ?_) (fun c => ?_)
 ·have c' : b < u := of_decide_eq_true c
  rw [if_pos c'] at k
  exact ⟨_, rfl, r3 D H1 _ _ x y vf vb ve x wt fq e u v hf he hu hv ff fe fu fv w0 w1 k⟩
 ·have c' : ¬ b < u := fun z => c (decide_eq_true z)
  rw [if_neg c'] at k
  exact r3 D H1 _ _ x y vf vb ve vb wt fq e b v hf he hb hv ff fe fb fv w0 w1 k
theorem ok_area {f : Addr} {fd : FuncData} (D : DefAt K mg "_law_area" s__law_area ["_law_steps", "_law_start", "_law_end"] f fd) (C : Law3 P w K mg base) : FnOk P w K mg base CX0 3 f fd ["_law_steps", "_law_start", "_law_end"] (spArea K) := by
 refine D.fn.ok scArea (fun vs H Q E h => ?_) (fun cdv A0 outer s H vs Q E hr h => ?_)
 ·obtain ⟨a, x, y, ts, p, D, S, u, v, rfl, _⟩ := h
  rfl
 ·obtain ⟨a, x, y, ts, p, D, S, u, v, rfl, ha, hS, ok, hu, hv, ⟨u0, uv, v1⟩, d, ⟨gu, gv⟩, k⟩ := h
  obtain ⟨tb, hb, rb⟩ := tail_ar2 (P := P) (w := w) (mg := mg) (base := base) (f := f) (cdv := cdv) (A := A0) (outer := outer) (s := s) (H := H) (E := E) C hr
  refine ⟨_, pss_cons (ps_set (i := 3) scArea.nd rfl (Or.inl rfl) (pe_tup (pa_cons pe_int (pa_cons pe_int pa_nil))))
   (pss_cons (ps_set (i := 4) scArea.nd rfl (Or.inl rfl) (pe_tup (pa_cons pe_int (pa_cons pe_int pa_nil))))
   (pss_cons (ps_for PassesOwn.never rfl (pi_list (pv 0)) (pg_tup rfl (pgs_cons (pg_name (i := 5) scArea.nd rfl (Or.inl rfl)) (pgs_cons (pg_name (i := 6) scArea.nd rfl (Or.inl rfl)) pgs_nil))) hb)
   (pss_one (ps_ret (pv 3))))), ?_⟩
  refine ⟨(by show 2 ≤ sizeLine; decide), fun t1 ht1 => ?_⟩
  refine ⟨(by show 2 ≤ sizeLine; decide), fun t2 ht2 => ?_⟩
  have s1 := Same.upd (o := .tup [.int 0, .int 1]) ht1
  have s2 := Same.upd (o := .tup [.int 0, .int 1]) ht2
  have s12 := s1.trans s2
  refine ⟨_, rfl, a, rfl, ⟨_, s12.seq ha⟩, ?_⟩
  have lX := hS.length
  have f10 : ∀ {q : Rat}, Gr D q → 0 ≤ q → q ≤ 1 → Ft 280 q := fun g h0 h1 => ⟨h0, (d.bd g h0 h1).mono (by decide)⟩
  have v0 : 0 ≤ v := by grind
  have u1 : u ≤ 1 := by grind
  refine for_list (K := K) (a := a) (xs := ts) (fun i σ H' => Same H H' ∧ ∃ (vf vb : V) (x5 x6 x7 x8 x9 : Option V), σ = [some (.ref a), some x, some y, some vf, some vb, x5, x6, x7, x8, x9] ∧ FrQ K H' vf (A 0 (S.take i) v - A 0 (S.take i) u) ∧ FrQ K H' vb (endOf 0 (S.take i)))
   ⟨s12, _, _, _, _, _, _, _, rfl, (show FrQ K _ _ ((0 : Rat) - 0) by rw [show (0 : Rat) - 0 = 0 by grind]; exact zeroQ.same s2), .of sqT_new rfl rfl⟩ (fun i σ H' _ h => h.1.seq ha) ?_ ?_
  ·rintro i z σ H' hz ⟨s3, vf, vb, x5, x6, x7, x8, x9, rfl, hf, hbg⟩
   obtain ⟨st, hst, p0, ye, yw, rfl, hp0, hye, hyw⟩ := Paired.get1 hS i z hz
   cases (show yw = .int st.2 from hyw)
   obtain ⟨r1, r2⟩ := rise_get ok.rise hst
   have ms := List.mem_of_getElem? hst
   have zw := ok.w st ms
   have nx : endOf 0 (S.take (i + 1)) = st.1 := by
    rw [take_snoc hst, show st = (st.1, st.2) from rfl, end_snoc]
   have e0 : 0 ≤ st.1 := by rw [← nx]; exact end_nn ok _
   have eb : Bd 10 st.1 := by rw [← nx]; exact end_bd ok _
   have okr := rise_take i ok.rise
   have fnn : 0 ≤ A 0 (S.take i) v - A 0 (S.take i) u := by
    have := A_mono okr uv
    grind
   have fup : A 0 (S.take i) v - A 0 (S.take i) u ≤ ((1000 : Nat) : Rat) := by
    have a1 := A_up (x := v) (M := 1000) okr (by decide) (fun z hz => Rat.intCast_le_intCast.mpr (ok.w z (List.mem_of_mem_take hz))) v0
    have a2 := A_nn (x := u) okr
    have e : ((1000 : Nat) : Rat) = 1000 := rfl
    grind
   have fg : Gr (D * p) (A 0 (S.take i) v - A 0 (S.take i) u) :=
    Gr.sub (A_gr (Gr.zero _) (fun z hz => (ok.gr z (List.mem_of_mem_take hz)).up') gv.up) (A_gr (Gr.zero _) (fun z hz => (ok.gr z (List.mem_of_mem_take hz)).up') gu.up)
   have ff : Fit (A 0 (S.take i) v - A 0 (S.take i) u) := ⟨fnn, (fit_of d ok.pos ok.few fg fnn fup (by decide)).mono (by decide)⟩
   refine ⟨p0, _, rfl, s3.sqT hp0, rfl, _, _, rfl, _, _, rfl, rfl, ?_⟩
   refine rb _ H' _ _ _ _ x y vf vb ye st.2 _ (endOf 0 (S.take i)) st.1 u v hf hbg (hye.same s3) (hu.same s3) (hv.same s3) ff ⟨end_nn ok i, (end_bd ok i).mono (by decide)⟩ ⟨e0, eb.mono (by decide)⟩ (f10 gu u0 u1) (f10 gv v0 v1) (by omega) zw fun vf' y7 y8 y9 H2 s4 d1 => ?_
   refine ⟨s3.trans s4, vf', ye, _, _, _, _, _, rfl, ?_, ?_⟩
   ·rw [← area_step r1 uv] at d1
    have e : A 0 (S.take (i + 1)) v - A 0 (S.take (i + 1)) u = A 0 (S.take i) v - A 0 (S.take i) u + ((st.2 : Rat) * (max (endOf 0 (S.take i)) (min st.1 v) - endOf 0 (S.take i)) - (st.2 : Rat) * (max (endOf 0 (S.take i)) (min st.1 u) - endOf 0 (S.take i))) := by
     rw [take_snoc hst, show st = (st.1, st.2) from rfl, A_snoc, A_snoc]
     grind
    rw [e]
    exact d1
   ·rw [nx]
    exact (hye.same s3).same s4
  ·rintro σ H' ⟨s3, vf, vb, x5, x6, x7, x8, x9, rfl, hf, hbg⟩
   rw [List.take_of_length_le (by omega)] at hf
   exact ⟨_, rfl, k vf H' s3 hf⟩
end
end FQ
namespace FQ
open PySem L2 FK
def spLWorth (K : PySem.W.Frag) : Sp := fun vs H Q _ => ∃ (a b : Addr) (ts xs : List V) (p D : Nat) (S : Steps) (L : List (Rat × Rat)), vs = [.ref a, .ref b] ∧ SqL K H a ts ∧ Paired (StQ K H) ts S ∧ TsOk p S ∧ SqL K H b xs ∧ Paired (CoQ K H) xs L ∧ SpOk D L ∧ DOk D ∧
 ∀ r H', Same H H' → FrQ K H' r (Wo S L) → Q r H'
theorem PcOk.sp {D : Nat} {L : List (Rat × Rat)} (h : PcOk D L) : SpOk D L := ⟨fun p hp => by have := h.win p hp; grind, h.gr, h.few⟩
theorem _root_.FK.SpOk.take {D : Nat} {L : List (Rat × Rat)} (h : SpOk D L) (i : Nat) : SpOk D (L.take i) := ⟨fun p hp => h.win p (List.mem_of_mem_take hp), fun p hp => h.gr p (List.mem_of_mem_take hp), by have := h.few; rw [List.length_take]; omega⟩
theorem DOk.one : DOk 1 := ⟨by decide, Nat.one_lt_two_pow (by decide)⟩
abbrev NO : List Str := ["_law_steps", "_law_piece_here", "_law_found", "_law_start", "_law_end", "_law_total"]
theorem scLWorth : FnScope NO ["_law_steps", "_law_piece_here"] (defScope s__law_worth) := ⟨rfl, rfl, rfl, by decide +kernel, rfl, by decide +kernel, by decide +kernel⟩
section
variable {P : Program} {w : World} {K : PySem.W.Frag} {mg : Str → Option Value} {base : Heap} {aL aR : Addr}
theorem num_den_q (q : Rat) : (q.num : Rat) / ((q.den : Int) : Rat) = q := q_eq q
theorem ok_lworth {f : Addr} {fd : FuncData} (D : DefAt K mg "_law_worth" s__law_worth ["_law_steps", "_law_piece_here"] f fd) (CA : Cl P w K mg base "_law_area" 3 ["_law_steps", "_law_start", "_law_end"] (spArea K)) (CS : Cl P w K mg base "_law_sum" 2 ["_law_one", "_law_other"] (spSum K))
  (CL : Cl P w K mg base "_law_low" 1 ["_law_a", "_law_b"] (spMadeQ K)) : FnOk P w K mg base CX0 4 f fd ["_law_steps", "_law_piece_here"] (spLWorth K) := by
 refine D.fn.ok scLWorth (fun vs H Q E h => ?_) (fun cdv A0 outer s H vs Q E hr h => ?_)
 ·obtain ⟨a, b, ts, xs, p, D, S, L, rfl, _⟩ := h
  rfl
 ·obtain ⟨a, b, ts, xs, p, D, S, L, rfl, ha, hS, ok, hb, hL, so, d, k⟩ := h
  have hr2 : Room 2 _ := hr.mono (by decide)
  have hr1 : Room 1 _ := hr.mono (by decide)
  refine ⟨_, pss_cons (ps_set (i := 2) scLWorth.nd rfl (Or.inl rfl) (pe_tup (pa_cons pe_int (pa_cons pe_int pa_nil))))
   (pss_cons (ps_for PassesOwn.never rfl (pi_list (pv 1)) (pg_tup rfl (pgs_cons (pg_name (i := 3) scLWorth.nd rfl (Or.inl rfl)) (pgs_cons (pg_name (i := 4) scLWorth.nd rfl (Or.inl rfl)) pgs_nil)))
    (pss_one (ps_set (i := 2) scLWorth.nd rfl (Or.inl rfl) (pe_cl CS hr2 rfl (pa_cons (pv 2) (pa_cons (pe_cl CA hr rfl (pa_cons (pv 0) (pa_cons (pv 3) (pa_cons (pv 4) pa_nil)))) pa_nil))))))
   (pss_cons (ps_set (i := 5) scLWorth.nd rfl (Or.inl rfl) (pe_cl CA hr rfl (pa_cons (pv 0) (pa_cons (pe_tup (pa_cons pe_int (pa_cons pe_int pa_nil))) (pa_cons (pe_tup (pa_cons pe_int (pa_cons pe_int pa_nil))) pa_nil)))))
   (pss_one (ps_ret (pe_cl CL hr1 rfl (pa_cons (pe_op op_mulS (pe_ix ix_tup (pv 2) pe_int (fun _ _ => rfl)) (pe_ix ix_tup (pv 5) pe_int (fun _ _ => rfl))) (pa_cons (pe_op op_mulS (pe_ix ix_tup (pv 2) pe_int (fun _ _ => rfl)) (pe_ix ix_tup (pv 5) pe_int (fun _ _ => rfl))) pa_nil))))))), ?_⟩
  refine ⟨(by show 2 ≤ sizeLine; decide), fun t1 ht1 => ?_⟩
  have s1 := Same.upd (o := .tup [.int 0, .int 1]) ht1
  refine ⟨_, rfl, b, rfl, ⟨_, s1.seq hb⟩, ?_⟩
  have lX := hL.length
  have few := so.few
  have fit : ∀ i, Fit (Ao S (L.take i)) := fun i => by
   have si := so.take i
   have n0 : 0 ≤ Ao S (L.take i) := Ao_nn ok fun q hq => (si.win q hq).2.1
   have := si.few
   exact ⟨n0, (fit_of d ok.pos ok.few (Ao_gr ok si.gr) n0 (Ao_up ok si.win) (by omega)).mono (by decide)⟩
  have afit : ∀ {u v : Rat}, 0 ≤ u → u ≤ v → v ≤ 1 → Gr D u → Gr D v → Fit (A 0 S v - A 0 S u) := fun h0 h1 h2 g1 g2 =>
   ⟨area_nn ok h1, (fit_of (m := 1000) d ok.pos ok.few (area_gr ok g1 g2) (area_nn ok h1) (area_up ok (by grind) h2) (by decide)).mono (by decide)⟩
  refine for_list (K := K) (a := b) (xs := xs) (fun i σ H' => Same H H' ∧ ∃ (vf : V) (x3 x4 x5 : Option V), σ = [some (.ref a), some (.ref b), some vf, x3, x4, x5] ∧ FrQ K H' vf (Ao S (L.take i)))
   ⟨s1, _, _, _, _, rfl, .of sqT_new rfl rfl⟩ (fun i σ H' _ h => h.1.seq hb) ?_ ?_
  ·rintro i z σ H' hz ⟨s3, vf, x3, x4, x5, rfl, hf⟩
   obtain ⟨q, hq, p0, y1, y2, rfl, hp0, hy1, hy2⟩ := Paired.get1 hL i z hz
   have mq := List.mem_of_getElem? hq
   have wq := so.win q mq
   have gq := so.gr q mq
   refine ⟨p0, _, rfl, s3.sqT hp0, rfl, _, _, rfl, _, _, rfl, rfl, ?_⟩
   refine ⟨_, rfl, _, rfl, _, rfl, _, rfl, a, y1, y2, ts, p, D, S, q.1, q.2, rfl, s3.seq ha, Paired.mapP hS fun _ _ z => StQ.same s3 z, ok, hy1.same s3, hy2.same s3, wq, d, gq, fun v1 H2 s4 d1 => ?_⟩
   obtain ⟨p1, rfl, q1⟩ := d1.sq
   have fa := afit wq.1 wq.2.1 wq.2.2 gq.1 gq.2
   refine ⟨vf, p1, _, _, _, rfl, hf.same s4, q1, fit i, fa.nn, den_pos _, fa.2.1, by rw [Int.natAbs_natCast]; exact fa.2.2, fun v2 H3 s5 d2 => ⟨s3.trans (s4.trans s5), v2, _, _, _, rfl, ?_⟩⟩
   rw [num_den_q] at d2
   rw [take_snoc hq, Ao_snoc]
   exact d2
  ·rintro σ H' ⟨s3, vf, x3, x4, x5, rfl, hf⟩
   have f0 := fit L.length
   rw [List.take_of_length_le (by omega)] at hf
   rw [List.take_length] at f0
   refine ⟨_, rfl, (by show 2 ≤ sizeLine; decide), fun t2 ht2 => ⟨(by show 2 ≤ sizeLine; decide), fun t3 ht3 => ?_⟩⟩
   have s4 := Same.upd (o := .tup [.int 0, .int 1]) ht2
   have s5 := Same.upd (o := .tup [.int 1, .int 1]) ht3
   have s35 := s3.trans (s4.trans s5)
   refine ⟨a, .ref t2, .ref t3, ts, p, 1, S, 0, 1, rfl, s35.seq ha, Paired.mapP hS fun _ _ z => StQ.same s35 z, ok, zeroQ.same s5, oneQ, ⟨Rat.le_refl, by decide, Rat.le_refl⟩, DOk.one, ⟨Gr.zero 1, Gr.one 1⟩, fun v1 H2 s6 d1 => ?_⟩
   have e1 : A 0 S 1 - A 0 S 0 = tot S := by
    rw [A_low ok.rise Rat.le_refl]
    show tot S - 0 = tot S
    grind
   rw [e1] at d1
   obtain ⟨p1, rfl, q1⟩ := d1.sq
   obtain ⟨p2, rfl, q2⟩ := hf.sq
   have q2' := (s4.trans (s5.trans s6)).sqT q2
   have ft : Fit (tot S) := by
    have := heft_fit ok S.length
    rw [List.take_length, ok.top] at this
    exact this.fit
   refine ⟨_, rfl, p2, _, _, _, rfl, rfl, q2', rfl, _, rfl, p1, _, _, _, rfl, rfl, q1, rfl, _, _, rfl, rfl, ⟨f0.s1, ft.s2⟩, ?_⟩
   refine ⟨_, rfl, p2, _, _, _, rfl, rfl, q2', rfl, _, rfl, p1, _, _, _, rfl, rfl, q1, rfl, _, _, rfl, rfl, ⟨f0.s2, ft.s1⟩, ?_⟩
   refine ⟨_, _, rfl, Int.mul_nonneg f0.nn (Int.le_of_lt (den_pos _)), Int.mul_pos (den_pos _) (num_pos ok.tp), f0.dn ft, fun v3 H3 s7 d3 => k v3 H3 (s35.trans (s6.trans s7)) ?_⟩
   rw [over_fr ok.tp, Ao_wo ok] at d3
   exact d3
end
end FQ
namespace FQ
open PySem L2 FK
abbrev NL : List Str := ["_law_script", "_law_many", "_law_told", "_law_k", "_law_cell", "_law_tastes", "_law_way", "_law_piece_here", "_law_found", "_law_point", "_law_worth_here"]
theorem scLaw : FnScope NL ["_law_script"] (defScope s_law) := ⟨rfl, rfl, rfl, by decide +kernel, rfl, by decide +kernel, by decide +kernel⟩
def spLaw (K : PySem.W.Frag) : Sp := fun vs H Q _ => ∃ (a : Addr) (ns : List Int), vs = [.ref a] ∧ SqL K H a (ns.map V.int) ∧ ns.length ≤ 63 ∧ ∀ H', Q (.bl true) H'
def Tl (K : PySem.W.Frag) (D1 D2 : Addr) (H : Hp) (x : V) (S : Steps) : Prop := ∃ l ts p, x = V.ref l ∧ H l = some (.lst ts) ∧ Paired (StQ K H) ts S ∧ TsOk p S ∧ l ≠ D1 ∧ l ≠ D2
def Ta (K : PySem.W.Frag) (C D1 D2 : Addr) (H : Hp) (x : V) (S : Steps) : Prop := ∃ t lt ll p, x = V.ref t ∧ TasteAt K C H t lt ll S ∧ TsOk p S ∧ D1 ≠ lt ∧ D1 ≠ ll ∧ D2 ≠ lt ∧ D2 ≠ ll
section
variable {K : PySem.W.Frag} {C D1 D2 : Addr} {H H' : Hp} {x : V} {S : Steps}
theorem Tl.same (s : Same H H') (h : Tl K D1 D2 H x S) : Tl K D1 D2 H' x S := by
 obtain ⟨l, ts, p, e, h1, h2, h3⟩ := h
 exact ⟨l, ts, p, e, s _ _ h1, Paired.mapP h2 fun _ _ z => StQ.same s z, h3⟩
theorem Tl.but1 {zs ys : List V} (hD : H D1 = some (.lst zs)) (h : Tl K D1 D2 H x S) : Tl K D1 D2 (upd H D1 (.lst ys)) x S := by
 obtain ⟨l, ts, p, e, h1, h2, h3, h4, h5⟩ := h
 have k1 := Keep.updL (o := .lst ys) hD
 exact ⟨l, ts, p, e, by rw [upd_ne h4]; exact h1, Paired.mapP h2 fun _ _ z => StQ.keep k1 z, h3, h4, h5⟩
theorem Tl.but2 {zs ys : List V} (hD : H D2 = some (.lst zs)) (h : Tl K D1 D2 H x S) : Tl K D1 D2 (upd H D2 (.lst ys)) x S := by
 obtain ⟨l, ts, p, e, h1, h2, h3, h4, h5⟩ := h
 have k1 := Keep.updL (o := .lst ys) hD
 exact ⟨l, ts, p, e, by rw [upd_ne h5]; exact h1, Paired.mapP h2 fun _ _ z => StQ.keep k1 z, h3, h4, h5⟩
theorem Ta.same (s : Same H H') (h : Ta K C D1 D2 H x S) : Ta K C D1 D2 H' x S := by
 obtain ⟨t, lt, ll, p, e, h1, h2⟩ := h
 exact ⟨t, lt, ll, p, e, h1.same s, h2⟩
theorem Ta.but1 {zs ys : List V} (hD : H D1 = some (.lst zs)) (h : Ta K C D1 D2 H x S) : Ta K C D1 D2 (upd H D1 (.lst ys)) x S := by
 obtain ⟨t, lt, ll, p, e, h1, h2, h3, h4, h5⟩ := h
 exact ⟨t, lt, ll, p, e, h1.but hD h3 h4, h2, h3, h4, h5⟩
theorem Ta.but2 {zs ys : List V} (hD : H D2 = some (.lst zs)) (h : Ta K C D1 D2 H x S) : Ta K C D1 D2 (upd H D2 (.lst ys)) x S := by
 obtain ⟨t, lt, ll, p, e, h1, h2, h3, h4, h5, h6⟩ := h
 exact ⟨t, lt, ll, p, e, h1.but hD h5 h6, h2, h3, h4, h5, h6⟩
theorem Ta.s (h : Ta K C D1 D2 H x S) : TasteS K C H x S := by
 obtain ⟨t, lt, ll, p, e, h1, h2, _⟩ := h
 exact ⟨t, lt, ll, p, e, h1, h2⟩
end
structure Hands (K : PySem.W.Frag) (C CC : Addr) (H : Hp) (lo lT wv : Addr) (os xs : List V) (Ss : List Steps) : Prop where
 told : H lo = some (.lst os)
 tells : Paired (Tl K lo lT H) os Ss
 tastes : H lT = some (.lst xs)
 tt : Paired (Ta K C lo lT H) xs Ss
 way : ∃ dw, H wv = some (.ins CC dw [])
 ne : lo ≠ lT
theorem Hands.same {K : PySem.W.Frag} {C CC : Addr} {H H' : Hp} {lo lT wv : Addr} {os xs : List V} {Ss : List Steps} (s : Same H H') (h : Hands K C CC H lo lT wv os xs Ss) : Hands K C CC H' lo lT wv os xs Ss := by
 obtain ⟨h1, h2, h3, h4, ⟨dw, h5⟩, h6⟩ := h
 exact ⟨s _ _ h1, Paired.mapP h2 fun _ _ z => Tl.same s z, s _ _ h3, Paired.mapP h4 fun _ _ z => Ta.same s z, ⟨dw, s _ _ h5⟩, h6⟩
theorem Pcs.same {K : PySem.W.Frag} {H H' : Hp} {fs : List Addr} {sp : Nat → Rat × Rat} (s : Same H H') (h : Pcs K H fs sp) : Pcs K H' fs sp :=
 ⟨h.nd, fun t l e => by
  obtain ⟨v, h1, h2⟩ := h.at_ t l e
  exact ⟨v, s _ _ h1, CoQ.same s h2⟩⟩
theorem tl_lst {K : PySem.W.Frag} {H : Hp} {lo lT : Addr} {os : List V} {Ss : List Steps} (h : H lo = some (.lst os)) (p : Paired (Tl K lo lT H) os Ss) : rpLst K (rpLst K (StQ K)) H (.ref lo) Ss :=
 ⟨lo, os, rfl, .of h, Paired.mapP p fun _ _ ⟨l, ts, _, e, h1, h2, _⟩ => ⟨l, ts, e, .of h1, h2⟩⟩
theorem Wo_wd' (S : Steps) (p : Rat × Rat) : Wo S [p] = F S p.2 - F S p.1 := by
 show (F S p.2 - F S p.1) + 0 = F S p.2 - F S p.1
 grind
structure AkOk (Ss : List Steps) (n : Nat) (X : Rat) : Prop where
 pc : ∀ t, t < n → ∃ D, PcOk D [spE Ss X t]
 ch : Ch 0 ((List.range n).map (spE Ss X)) 1
 wo : ∀ (t : Nat) (S : Steps), t < n → Ss[t]? = some S → Wo S [spE Ss X t] = X
 fit : ∀ t, t ≤ n → Fit (ef (Ss.take t) X)
 fx : Fit X
theorem ak_ok {Ss : List Steps} {n : Nat} {X : Rat} (cw : CwOk Ss n X) (ls : Ss.length = n) (ok : ∀ (t : Nat) (S : Steps), Ss[t]? = some S → ∃ p, TsOk p S) : AkOk Ss n X := by
 obtain ⟨D, dk, dlim, gX, pts⟩ := cw_pt cw
 have le1 := cw.le1
 have pos := cw.pos
 have lt : ∀ t, t < n → ef (Ss.take t) X < ef (Ss.take (t + 1)) X := fun t ht => by
  have hS : Ss[t]? = some (Ss[t]'(by omega)) := List.getElem?_eq_getElem (by omega)
  obtain ⟨p, o⟩ := ok t _ hS
  exact cw_lt cw ht hS o
 refine ⟨fun t ht => ?_, ?_, fun t S ht hS => ?_, fun t ht => ?_, Bd.fit (dk.bd gX (Rat.le_of_lt pos) le1) (Rat.le_of_lt pos) (by decide)⟩
 ·obtain ⟨a0, a1, ga⟩ := pts t (by omega) (by omega)
  obtain ⟨c0, c1, gc⟩ := pts (t + 1) (by omega) (by omega)
  refine ⟨D, dk, fun p hp => ?_, List.pairwise_singleton .., fun p hp => ?_, by show 1 ≤ 1000; decide⟩
  ·rw [List.mem_singleton.mp hp]
   exact ⟨a0, lt t ht, c1⟩
  ·rw [List.mem_singleton.mp hp]
   exact ⟨ga, gc⟩
 ·have aux : ∀ k, k ≤ n → Ch 0 ((List.range k).map (spE Ss X)) (ef (Ss.take k) X) := by
   intro k
   induction k with
   | zero => intro _; exact (show (0 : Rat) = 0 from rfl)
   | succ k ih =>
    intro hk
    rw [List.range_succ, List.map_append]
    exact (ih (by omega)).snoc (lt k (by omega))
  have := aux n (Nat.le_refl _)
  rw [cw.top] at this
  exact this
 ·obtain ⟨_, _, e, _⟩ := cw.hist t S ht hS
  rw [Wo_wd']
  show F S (ef (Ss.take (t + 1)) X) - F S (ef (Ss.take t) X) = X
  rw [e]
  grind
 ·obtain ⟨a0, a1, ga⟩ := pts t ht (by omega)
  exact Bd.fit (dk.bd ga a0 a1) a0 (by decide)
section
variable {P : Program} {w : World} {K : PySem.W.Frag} {mg : Str → Option Value} {base : Heap} {aL aR C CC : Addr}
structure Cs (P : Program) (w : World) (K : PySem.W.Frag) (mg : Str → Option Value) (base : Heap) (C CC : Addr) : Prop where
 cell : Cl P w K mg base "_law_cell_at" 1 ["_law_script", "_law_k"] (spCell K)
 steps : Cl P w K mg base "_law_steps_by" 2 ["_law_cell"] (spStepsBy K)
 worth : Cl P w K mg base "_law_worth" 4 ["_law_steps", "_law_piece_here"] (spLWorth K)
 dealt : Cl P w K mg base "_law_dealt" 4 ["_law_pieces", "_law_many"] (spDealt K)
 make : Mc P w K mg base "Taste" C 5 ["self", "steps"] (spInit K C)
 told : Ml P w K mg base C "steps" 1 ["self"] (spTold K C)
 deal : Ml P w K mg base CC "deal" 10 ["self", "tastes"] (spAlike K C)
 mkp : MkP K CC
 mgc : mg "Alike" = some (.ref CC)
 cc : Cls K CC
theorem ok_of {H : Hp} {lo lT : Addr} {os : List V} {Ss : List Steps} (p : Paired (Tl K lo lT H) os Ss) : ∀ (t : Nat) (S : Steps), Ss[t]? = some S → ∃ q, TsOk q S := fun t S h => by
 have l := p.length
 have tl := (List.getElem?_eq_some_iff.mp h).1
 obtain ⟨S', e, _, _, q, _, _, _, ok, _⟩ := Paired.get1 p t (os[t]'(by omega)) (List.getElem?_eq_getElem (by omega))
 rw [h] at e
 cases e
 exact ⟨q, ok⟩
theorem tail_law11 (CL : Cs P w K mg base C CC) (T : Txt K mg aL aR) (hall : mg "all" = none) {f : Addr} {cdv : Value} {A : Around} {outer : List Env} {s : Shared} {H : Hp} {E : XK} (hr : Room 10 (cx P w K mg base NL "law" s_law f cdv A outer s H E).A) :
  ∃ t, PSs (cx P w K mg base NL "law" s_law f cdv A outer s H E) (List.drop 11 (defBody s_law)) t ∧ ∀ (Q : VK) (H1 : Hp) (lo lT wv r : Addr) (os xs : List V) (Ss : List Steps) (n : Nat) (ls : List Addr) (X : Rat) (y0 y3 y4 y7 y9 y10 : Option V),
   Hands K C CC H1 lo lT wv os xs Ss → H1 r = some (.lst (ls.map V.ref)) → Pcs K H1 ls (spE Ss X) → ls.length = n → os.length = n → 1 ≤ n → n ≤ 6 → CwOk Ss n X → (∀ H', Q (.bl true) H') →
   t { nx := fun _ H' => Q .non H', rt := Q } [y0, some (.int n), some (.ref lo), y3, y4, some (.ref lT), some (.ref wv), y7, some (.ref r), y9, y10] H1 := by
 have hr4 : Room 4 _ := hr.mono (by decide)
 have hu : _ + (0 + 1) < cLine := hu_of hr
 have big : 1000 ≤ sizeLine := by decide
 refine ⟨_, pss_cons (ps_set (i := 9) scLaw.nd rfl (Or.inl rfl) (pe_tup (pa_cons pe_int (pa_cons pe_int pa_nil))))
  (pss_cons (ps_for PassesOwn.never rfl (pi_list (pv 8)) (pg_name (i := 7) scLaw.nd rfl (Or.inl rfl))
   (pss_cons (ps_if (pt_cmpR (op_neP rpe_int rpe_int hu) (pe_ix ix_tup (pe_ix ix_list (pv 7) pe_int (fun _ _ => rfl)) pe_int (fun _ _ => rfl)) (pv 9) (nomark _)) pss_never pss_nil)
   (pss_one (ps_set (i := 9) scLaw.nd rfl (Or.inl rfl) (pe_ix ix_tup (pe_ix ix_list (pv 7) pe_int (fun _ _ => rfl)) pe_int (fun _ _ => rfl))))))
  (pss_cons (ps_set (i := 10) scLaw.nd rfl (Or.inr rfl) (pe_cl CL.worth hr4 rfl (pa_cons (pe_ix ix_list (pv 2) pe_int (fun _ _ => rfl)) (pa_cons (pe_ix ix_list (pv 8) pe_int (fun _ _ => rfl)) pa_nil))))
  (pss_one (ps_ret (pe_callB (call_all rfl) (by rfl) hall PyProof.Rows.boot_all (pa_cons (pe_comp ["_law_k"] rfl (CompOk.free1 (F := ["_law_told", "_law_found", "_law_worth_here"]) (js := [2, 8, 10]) rfl (by decide +kernel) (by decide +kernel) rfl ⟨rfl, rfl, rfl, trivial⟩ rfl ⟨⟨rfl, rfl, .inl rfl⟩, ⟨rfl, rfl, .inl rfl⟩, ⟨rfl, rfl, .inl rfl⟩, trivial⟩) (pi_range1 rfl T.range (pa_cons (pv 1) pa_nil))
   (fun _ => pg_name (i := 0) (show [Str.ofString "_law_k", Str.ofString "_law_told", Str.ofString "_law_found", Str.ofString "_law_worth_here"].Nodup by decide +kernel) rfl (Or.inl rfl)) (fun _ => pifs_nil)
   (fun _ => pe_cmpR (op_eqP rpe_int rpe_int hu) (pe_cl CL.worth hr4 rfl (pa_cons (pe_ix ix_list (pv 1) (pv 0) (fun _ _ => rfl)) (pa_cons (pe_ix ix_list (pv 2) (pv 0) (fun _ _ => rfl)) pa_nil))) (pv 3) (nomark _))) pa_nil)))))), ?_⟩
 intro Q H1 lo lT wv r os xs Ss n ls X y0 y3 y4 y7 y9 y10 hd hr0 pc lls los n1 n6 cw k
 have lS : Ss.length = n := by rw [← hd.tells.length, los]
 have ak := ak_ok cw lS (ok_of hd.tells)
 refine ⟨(by show 2 ≤ sizeLine; decide), fun t1 ht1 => ?_⟩
 have s1 := Same.upd (o := .tup [.int 0, .int 1]) ht1
 have getL : ∀ (H2 : Hp), Same H1 H2 → ∀ t, t < n → ∃ l p ya yb, (ls.map V.ref)[t]? = some (.ref l) ∧ H2 l = some (.lst [.ref p]) ∧ SqT K H2 p [ya, yb] ∧ FrQ K H2 ya (ef (Ss.take t) X) ∧ FrQ K H2 yb (ef (Ss.take (t + 1)) X) := fun H2 s2 t ht => by
  obtain ⟨v, e, p, ya, yb, rfl, h1, h2, h3⟩ := (pc.same s2).at_ t ls[t] (List.getElem?_eq_getElem (by omega))
  exact ⟨ls[t], p, ya, yb, by rw [List.getElem?_map, List.getElem?_eq_getElem (by omega)]; rfl, e, h1, h2, h3⟩
 refine ⟨_, rfl, r, rfl, ⟨_, .of (s1 _ _ hr0)⟩, ?_⟩
 refine for_list (K := K) (a := r) (xs := ls.map V.ref) (fun i σ H2 => Same H1 H2 ∧ ∃ (v : V) (x7 : Option V), σ = [y0, some (.int n), some (.ref lo), y3, y4, some (.ref lT), some (.ref wv), x7, some (.ref r), some v, y10] ∧ FrQ K H2 v (ef (Ss.take i) X))
  ⟨s1, .ref t1, _, rfl, .of sqT_new rfl rfl⟩ (fun i σ H2 _ h => .of (h.1 _ _ hr0)) ?_ ?_
 ·rintro i x σ H2 hx ⟨u1, v, x7, rfl, dv⟩
  have il : i < n := by have := (List.getElem?_eq_some_iff.mp hx).1; rw [List.length_map] at this; omega
  obtain ⟨l, p, ya, yb, e1, e2, e3, e4, e5⟩ := getL H2 u1 i il
  rw [e1] at hx
  cases hx
  refine ⟨_, rfl, l, _, _, _, rfl, rfl, .of e2, rfl, p, _, _, _, rfl, rfl, e3, rfl, _, rfl, _, _, e4, dv, _, rfl, iteNS rfl ?_⟩
  exact ⟨_, rfl, l, _, _, _, rfl, rfl, .of e2, rfl, p, _, _, _, rfl, rfl, e3, rfl, u1, yb, _, rfl, e5⟩
 ·rintro σ H2 ⟨u1, v, x7, rfl, dv⟩
  have wor : ∀ (H3 : Hp) (t : Nat), Same H1 H3 → t < n → ∃ l l', os[t]? = some (.ref l) ∧ (ls.map V.ref)[t]? = some (.ref l') ∧ ∀ (R : VK) (E' : XK), (∀ v H', Same H3 H' → FrQ K H' v X → R v H') → spLWorth K [.ref l, .ref l'] H3 R E' := fun H3 t s3 ht => by
   obtain ⟨S, hS, l, tl, q, e1, e2, e3, e4, _⟩ := Paired.get1 (hd.same s3).tells t (os[t]'(by omega)) (List.getElem?_eq_getElem (by omega))
   obtain ⟨l', p, ya, yb, f1, f2, f3, f4, f5⟩ := getL H3 s3 t ht
   obtain ⟨G, pk⟩ := ak.pc t ht
   refine ⟨l, l', by rw [List.getElem?_eq_getElem (by omega), e1], f1, fun R E' kk => ⟨l, l', tl, _, q, G, S, [spE Ss X t], rfl, .of e2, e3, e4, .of f2, .cons ⟨p, ya, yb, rfl, f3, f4, f5⟩ .nil, pk.sp, pk.d, fun v' H4 s4 d4 => ?_⟩⟩
   rw [ak.wo t S ht hS] at d4
   exact kk v' H4 s4 d4
  obtain ⟨l, l', e1, e2, e3⟩ := wor H2 0 u1 (by omega)
  refine ⟨_, rfl, lo, _, _, _, rfl, rfl, .of (u1 _ _ hd.told), atI_nat (j := 0) e1, _, rfl, r, _, _, _, rfl, rfl, .of (u1 _ _ hr0), atI_nat (j := 0) e2, e3 _ E0 fun v3 H3 s3 d3 => ?_⟩
  have u13 := u1.trans s3
  refine ⟨_, rfl, (n : Int), rfl, by omega, by omega, fun D1 hD1 => ?_⟩
  refine comp_range (lo := 0) (n := n) (D := D1) (fun i ys σ H4 => Same H3 H4 ∧ H4 D1 = some (.lst ys) ∧ ys = (List.replicate i true).map V.bl ∧ ∃ x0, σ = [x0, some (.ref lo), some (.ref r), some v3])
   (by omega) ⟨Same.upd hD1, upd_same, rfl, _, rfl⟩ ?_ ?_ ?_
  ·rintro i ys σ H4 _ ⟨v1, v2, rfl, _⟩
   exact ⟨v2, by rw [List.length_map, List.length_replicate]; exact Nat.le_refl _⟩
  ·rintro i ys σ H4 hi ⟨v1, v2, rfl, x0, rfl⟩ cc
   obtain ⟨l, l', e1, e2, e3⟩ := wor H4 i (u13.trans v1) hi
   refine ⟨_, rfl, _, rfl, lo, _, _, _, rfl, rfl, .of ((u13.trans v1) _ _ hd.told), by rw [Int.zero_add]; exact atI_nat e1, _, rfl, _, rfl, r, _, _, _, rfl, rfl, .of ((u13.trans v1) _ _ hr0), by rw [Int.zero_add]; exact atI_nat e2, e3 _ E0 fun v5 H5 s5 d5 => ?_⟩
   refine ⟨_, rfl, _, _, d5, (d3.same v1).same s5, s5 _ _ v2, (v1.trans s5).updN hD1, upd_same, ?_, _, rfl⟩
   rw [List.replicate_succ', List.map_append, decide_eq_true (rfl : fr X = fr X)]
   rfl
  ·rintro ys σ H4 ⟨v1, v2, rfl, _⟩
   refine ⟨D1, _, rfl, .of v2, ?_⟩
   have : (List.replicate n true).all id = true := by simp
   rw [this]
   exact k _
end
end FQ
namespace FQ
open PySem L2 FK
section
variable {P : Program} {w : World} {K : PySem.W.Frag} {mg : Str → Option Value} {base : Heap} {aL aR C CC : Addr}
theorem all_false (n : Nat) : (List.replicate n false).any id = false := by
 induction n with
 | zero => rfl
 | succ n ih => rw [List.replicate_succ, List.any_cons, ih]; rfl
theorem flat_sp (sp : Nat → Rat × Rat) : ∀ l : List Nat, (l.map fun t => [sp t]).flatten = l.map sp
 | [] => rfl
 | t :: l => by
  rw [List.map_cons, List.flatten_cons, flat_sp sp l]
  rfl
theorem tail_law8 (CL : Cs P w K mg base C CC) (T : Txt K mg aL aR) (TC : TxtC K C) (hall : mg "all" = none) {f : Addr} {cdv : Value} {A : Around} {outer : List Env} {s : Shared} {H : Hp} {E : XK} (hr : Room 10 (cx P w K mg base NL "law" s_law f cdv A outer s H E).A) :
  ∃ t, PSs (cx P w K mg base NL "law" s_law f cdv A outer s H E) (List.drop 8 (defBody s_law)) t ∧ ∀ (Q : VK) (H1 : Hp) (lo lT wv : Addr) (os xs : List V) (Ss : List Steps) (n : Nat) (y0 y3 y4 y7 y8 y9 y10 : Option V),
   Hands K C CC H1 lo lT wv os xs Ss → os.length = n → 1 ≤ n → n ≤ 6 → (∀ H', Q (.bl true) H') →
   t { nx := fun _ H' => Q .non H', rt := Q } [y0, some (.int n), some (.ref lo), y3, y4, some (.ref lT), some (.ref wv), y7, y8, y9, y10] H1 := by
 have hr1 : Room 1 _ := hr.mono (by decide)
 have hr4 : Room 4 _ := hr.mono (by decide)
 have hu4 : _ + (3 + 1) < cLine := Nat.lt_of_le_of_lt (Nat.add_le_add_left (by decide : 4 ≤ 64) _) hr.units
 have big : 1000 ≤ sizeLine := by decide
 obtain ⟨t11, h11, r11⟩ := tail_law11 (P := P) (w := w) (mg := mg) (base := base) (f := f) (cdv := cdv) (A := A) (outer := outer) (s := s) (H := H) (E := E) CL T hall hr
 refine ⟨_, pss_cons (ps_set (i := 8) scLaw.nd rfl (Or.inr rfl) (pe_ml CL.deal CL.cc hr (pv 6) (pa_cons (pv 5) pa_nil)))
  (pss_cons (ps_if (pt_cmpR (op_neL (rpe_lst rpe_st) hu4) (pe_comp ["_law_taste"] rfl (CompOk.plain rfl (by decide +kernel) (by decide +kernel) (by decide +kernel)) (pi_list (pv 5))
    (fun _ => pg_name (i := 0) (show [Str.ofString "_law_taste"].Nodup by decide +kernel) rfl (Or.inl rfl)) (fun _ => pifs_nil) (fun _ => pe_ml0 CL.told TC.cl hr1 (pv 0))) (pv 2) (nomark _)) pss_never pss_nil)
  (pss_cons (ps_if (PW.pt (pw_or (pt_not (pt_val (pe_cl CL.dealt hr4 rfl (pa_cons (pv 8) (pa_cons (pv 1) pa_nil))))) (pw_or1 (pt_val (pe_callB (call_any rfl) (by rfl) T.any PyProof.Rows.boot_any (pa_cons (pe_comp ["_law_piece_here"] rfl (CompOk.plain rfl (by decide +kernel) (by decide +kernel) (by decide +kernel)) (pi_list (pv 8))
    (fun _ => pg_name (i := 0) (show [Str.ofString "_law_piece_here"].Nodup by decide +kernel) rfl (Or.inl rfl)) (fun _ => pifs_nil) (fun _ => pe_cmpR op_ne (pe_callB call_len_seq (by rfl) T.len PySem.boot_len (pa_cons (pv 0) pa_nil)) pe_int (nomark _))) pa_nil)))))) pss_never pss_nil) h11)), ?_⟩
 intro Q H1 lo lT wv os xs Ss n y0 y3 y4 y7 y8 y9 y10 hd los n1 n6 k
 have lS : Ss.length = n := by rw [← hd.tells.length, los]
 have lX : xs.length = n := by rw [hd.tt.length, lS]
 obtain ⟨dw, hw⟩ := hd.way
 refine ⟨_, rfl, wv, dw, _, rfl, hw, rfl, _, rfl, wv, lT, xs, Ss, n, rfl, .of hd.tastes, Paired.mapP hd.tt fun _ _ z => z.s, lX, n1, n6, fun r ls X H2 s2 hr0 hr2 lls fr cw pc => ?_⟩
 have hd2 := hd.same s2
 have hT2 := hd2.tastes
 have ak := ak_ok cw lS (ok_of hd.tells)
 refine ⟨_, rfl, lT, rfl, ⟨_, .of hT2⟩, fun D1 hD1 => ?_⟩
 refine comp_list (K := K) (a := lT) (D := D1) (xs := xs) (fun j ys σ H3 => Same H2 H3 ∧ H3 D1 = some (.lst ys) ∧ Paired (Tl K D1 D1 H3) ys (Ss.take j) ∧ j ≤ xs.length ∧ ∃ x0, σ = [x0])
  (by omega) ⟨Same.upd hD1, upd_same, .nil, by omega, _, rfl⟩ ?_ ?_ ?_
 ·rintro j ys σ H3 _ ⟨u1, u2, u3, u4, _⟩
  refine ⟨.of (u1 _ _ hT2), u2, ?_⟩
  rw [u3.length, List.length_take]
  omega
 ·rintro j y ys σ H3 hy ⟨u1, u2, u3, u4, x0, rfl⟩ cc
  obtain ⟨S, hS', t, lt, ll, p, rfl, ta, ok', _⟩ := Paired.get1 hd2.tt j y hy
  have ta3 := ta.same u1
  obtain ⟨dx, hx⟩ := ta3.ins
  refine ⟨_, rfl, t, dx, _, rfl, hx, rfl, t, lt, ll, S, rfl, ta3, fun l zs hl pz => ?_⟩
  have s4 := Same.upd (o := .lst zs) hl
  have u24 := s4 _ _ u2
  have nl := (ne_of_none u2 hl).symm
  refine ⟨u24, (u1.trans s4).updN hD1, upd_same, ?_, by have := (List.getElem?_eq_some_iff.mp hy).1; omega, _, rfl⟩
  rw [take_snoc hS']
  exact Paired.app (Paired.mapP u3 fun _ _ z => Tl.but1 u24 (Tl.same s4 z)) (.cons (Tl.but1 u24 ⟨l, zs, p, rfl, upd_same, Paired.mapP pz fun _ _ z => StQ.same s4 z, ok', nl, nl⟩) .nil)
 rintro ds σ H3 ⟨u1, u2, u3, u4, _⟩
 rw [List.take_of_length_le (by omega)] at u3
 have hd3 := hd2.same u1
 refine ⟨_, rfl, _, _, tl_lst u2 u3, tl_lst hd3.told hd3.tells, _, rfl, iteNS rfl ?_⟩
 have hr3 := u1 _ _ hr2
 have pc3 := pc.same u1
 have lM : (ls.map V.ref).length = n := by rw [List.length_map, lls]
 have getL : ∀ (j : Nat) (x : V), (ls.map V.ref)[j]? = some x → ∃ l v, x = .ref l ∧ ls[j]? = some l ∧ H3 l = some (.lst [v]) ∧ CoQ K H3 v (spE Ss X j) := fun j x hx => by
  rw [List.getElem?_map] at hx
  obtain ⟨l, hl, rfl⟩ := Option.map_eq_some_iff.mp hx
  obtain ⟨v, e, c⟩ := pc3.at_ j l hl
  exact ⟨l, v, rfl, hl, e, c⟩
 refine ⟨_, rfl, _, rfl, r, n, ls.map V.ref, (List.range n).map fun t => [spE Ss X t], (List.range n).map (spE Ss X), rfl, .of hr3, paired_of (by rw [lM, List.length_map, List.length_range]) (fun j x y hx hy => ?_), lM, by omega, by rw [flat_sp], by rw [List.length_map, List.length_range]; omega, ak.ch, fun q hq => ?_, fun H4 s4 => ?_⟩
 ·obtain ⟨l, v, rfl, hl, e, c⟩ := getL j x hx
  rw [List.getElem?_map] at hy
  obtain ⟨t, ht, rfl⟩ := Option.map_eq_some_iff.mp hy
  have jn : j < n := by have := (List.getElem?_eq_some_iff.mp hl).1; omega
  rw [List.getElem?_range jn] at ht
  cases ht
  obtain ⟨D, pk⟩ := ak.pc j jn
  exact ⟨l, _, D, rfl, e, .cons c .nil, pk⟩
 ·obtain ⟨t, ht, rfl⟩ := List.mem_map.mp hq
  have tn := List.mem_range.mp ht
  exact ⟨ak.fit t (by omega), ak.fit (t + 1) (by omega)⟩
 refine ⟨_, rfl, iteF ?_⟩
 have hr4' := s4 _ _ hr3
 refine ⟨_, rfl, r, rfl, ⟨_, .of hr4'⟩, fun D0 hD0 => ?_⟩
 refine comp_list (K := K) (a := r) (D := D0) (xs := ls.map V.ref) (fun j ys σ H5 => Same H4 H5 ∧ H5 D0 = some (.lst ys) ∧ ys = (List.replicate j false).map V.bl ∧ ∃ x0, σ = [x0]) (by omega) ⟨Same.upd hD0, upd_same, rfl, _, rfl⟩ ?_ ?_ ?_
 ·rintro j ys σ H5 _ ⟨v1, v2, rfl, _⟩
  exact ⟨.of (v1 _ _ hr4'), v2, by rw [List.length_map, List.length_replicate]; exact Nat.le_refl _⟩
 ·rintro j y ys σ H5 hy ⟨v1, v2, rfl, x0, rfl⟩ cc
  obtain ⟨l, v, rfl, hl, e, c⟩ := getL j y hy
  refine ⟨_, rfl, l, _, rfl, .inl (.of ((s4.trans v1) _ _ e)), rfl, v2, v1.updN hD0, upd_same, ?_, _, rfl⟩
  rw [List.replicate_succ', List.map_append]
  rfl
 rintro ys σ H5 ⟨v1, v2, rfl, _⟩
 refine ⟨D0, _, rfl, .of v2, _, rfl, ?_⟩
 rw [all_false]
 refine iteF ?_
 have s35 := s4.trans v1
 exact r11 Q H5 lo lT wv r os xs Ss n ls X _ _ _ _ _ _ (hd3.same s35) (s35 _ _ hr3) (pc3.same s35) lls los n1 n6 cw k
end
end FQ
namespace FQ
open PySem L2 FK
theorem Paired.set2 {α β : Type} {R : α → β → Prop} : ∀ {xs : List α} {ys : List β} {x : α} {y : β} (i : Nat), Paired R xs ys → R x y → Paired R (xs.set i x) (ys.set i y)
 | _, _, _, _, _, .nil, _ => .nil
 | _, _, _, _, 0, .cons _ t, h => .cons h t
 | _, _, _, _, i + 1, .cons r t, h => .cons r (Paired.set2 i t h)
section
variable {P : Program} {w : World} {K : PySem.W.Frag} {mg : Str → Option Value} {base : Heap} {aL aR C CC : Addr}
theorem tail_law7 (CL : Cs P w K mg base C CC) (T : Txt K mg aL aR) (TC : TxtC K C) (hall : mg "all" = none) {f : Addr} {cdv : Value} {A : Around} {outer : List Env} {s : Shared} {H : Hp} {E : XK} (hr : Room 10 (cx P w K mg base NL "law" s_law f cdv A outer s H E).A) :
  ∃ t, PSs (cx P w K mg base NL "law" s_law f cdv A outer s H E) (List.drop 7 (defBody s_law)) t ∧ ∀ (Q : VK) (H1 : Hp) (a : Addr) (ns : List Int) (lo lT wv : Addr) (os xs : List V) (Ss : List Steps) (n : Nat) (y3 y4 y7 y8 y9 y10 : Option V),
   SqL K H1 a (ns.map V.int) → Hands K C CC H1 lo lT wv os xs Ss → os.length = n → 1 ≤ n → n ≤ 6 → (∀ H', Q (.bl true) H') →
   t { nx := fun _ H' => Q .non H', rt := Q } [some (.ref a), some (.int n), some (.ref lo), y3, y4, some (.ref lT), some (.ref wv), y7, y8, y9, y10] H1 := by
 have hr1 : Room 1 _ := hr.mono (by decide)
 obtain ⟨t8, h8, r8⟩ := tail_law8 (P := P) (w := w) (mg := mg) (base := base) (f := f) (cdv := cdv) (A := A) (outer := outer) (s := s) (H := H) (E := E) CL T TC hall hr
 refine ⟨_, pss_cons (ps_if (PW.pt (pw_and (pt_cmpR op_gt (pv 1) pe_int (nomark _)) (pw_and1 (pt_cmpR op_eq (pe_op op_mod (pe_cl CL.cell hr1 rfl (pa_cons (pv 0) (pa_cons pe_int pa_nil))) pe_int) pe_int (nomark _)))))
  (pss_cons (ps_asg (pe_ix ix_list (pv 5) pe_int (fun _ _ => rfl)) (pg_sub (pv 5) pe_int set_list)) (pss_one (ps_asg (pe_ix ix_list (pv 2) pe_int (fun _ _ => rfl)) (pg_sub (pv 2) pe_int set_list)))) pss_nil) h8, ?_⟩
 intro Q H1 a ns lo lT wv os xs Ss n y3 y4 y7 y8 y9 y10 ha hd los n1 n6 k
 have lS : Ss.length = n := by rw [← hd.tells.length, los]
 have lX : xs.length = n := by rw [hd.tt.length, lS]
 refine ⟨_, rfl, _, _, rfl, rfl, _, rfl, ?_⟩
 refine ite2 (fun c => ?_) (fun c => ?_)
 ·have c' : (1 : Int) < n := of_decide_eq_true c
  refine ⟨_, rfl, a, ns, 0, rfl, ha, _, _, rfl, rfl, (by show (0 : Int) < 2; decide), rfl, _, rfl, ?_⟩
  refine ite2 (fun d => ?_) (fun d => ?_)
  ·have g0 : xs[0]? = some (xs[0]'(by omega)) := List.getElem?_eq_getElem (by omega)
   have f0 : os[0]? = some (os[0]'(by omega)) := List.getElem?_eq_getElem (by omega)
   obtain ⟨S0, e0, ta0⟩ := Paired.get1 hd.tt 0 _ g0
   obtain ⟨S0', e0', tl0⟩ := Paired.get1 hd.tells 0 _ f0
   rw [e0] at e0'
   cases e0'
   have ix1 : ∀ m : Nat, 1 < m → ixN m 1 = some 1 := fun m h => (ixN_of (by decide) (by omega)).trans rfl
   refine ⟨_, rfl, lT, _, _, _, rfl, rfl, .of hd.tastes, atI_nat (j := 0) g0, ?_⟩
   refine ⟨_, rfl, lT, xs, _, 1, rfl, rfl, hd.tastes, ix1 _ (by omega), ?_⟩
   have hT := hd.tastes
   have ho1 : (upd H1 lT (.lst (xs.set 1 (xs[0]'(by omega))))) lo = some (.lst os) := by rw [upd_ne hd.ne]; exact hd.told
   refine ⟨_, rfl, lo, _, _, _, rfl, rfl, .of ho1, atI_nat (j := 0) f0, ?_⟩
   refine ⟨_, rfl, lo, os, _, 1, rfl, rfl, ho1, ix1 _ (by omega), ?_⟩
   obtain ⟨dw, hw⟩ := hd.way
   refine r8 Q _ lo lT wv (os.set 1 (os[0]'(by omega))) (xs.set 1 (xs[0]'(by omega))) (Ss.set 1 S0) n _ _ _ _ _ _ _ ⟨upd_same, ?_, ?_, ?_, ⟨dw, ?_⟩, hd.ne⟩ (by rw [List.length_set]; exact los) n1 n6 k
   ·exact Paired.mapP (Paired.set2 1 hd.tells tl0) fun _ _ z => Tl.but1 ho1 (Tl.but2 hT z)
   ·rw [upd_ne hd.ne.symm, upd_same]
   ·exact Paired.mapP (Paired.set2 1 hd.tt ta0) fun _ _ z => Ta.but1 ho1 (Ta.but2 hT z)
   ·rw [upd_ne (ne_of hw hd.told fun z => nomatch z), upd_ne (ne_of hw hT fun z => nomatch z)]
    exact hw
  ·exact r8 Q H1 lo lT wv os xs Ss n _ _ _ _ _ _ _ hd los n1 n6 k
 ·exact r8 Q H1 lo lT wv os xs Ss n _ _ _ _ _ _ _ hd los n1 n6 k
theorem tail_law6 (CL : Cs P w K mg base C CC) (T : Txt K mg aL aR) (TC : TxtC K C) (hall : mg "all" = none) {f : Addr} {cdv : Value} {A : Around} {outer : List Env} {s : Shared} {H : Hp} {E : XK} (hr : Room 10 (cx P w K mg base NL "law" s_law f cdv A outer s H E).A) :
  ∃ t, PSs (cx P w K mg base NL "law" s_law f cdv A outer s H E) (List.drop 6 (defBody s_law)) t ∧ ∀ (Q : VK) (H1 : Hp) (a : Addr) (ns : List Int) (lo lT wv : Addr) (os xs : List V) (Ss : List Steps) (n : Nat) (y3 y4 y7 y8 y9 y10 : Option V),
   SqL K H1 a (ns.map V.int) → Hands K C CC H1 lo lT wv os xs Ss → os.length = n → 1 ≤ n → n ≤ 6 → (∀ H', Q (.bl true) H') →
   t { nx := fun _ H' => Q .non H', rt := Q } [some (.ref a), some (.int n), some (.ref lo), y3, y4, some (.ref lT), some (.ref wv), y7, y8, y9, y10] H1 := by
 obtain ⟨t7, h7, r7⟩ := tail_law7 (P := P) (w := w) (mg := mg) (base := base) (f := f) (cdv := cdv) (A := A) (outer := outer) (s := s) (H := H) (E := E) CL T TC hall hr
 refine ⟨_, pss_cons (ps_if (pt_cmpR op_lt (pv 1) pe_int (nomark _)) (pss_one (ps_for PassesOwn.never rfl (pi_list (pe_ml CL.deal CL.cc hr (pv 6) (pa_cons (pe_rev (pv 5)) pa_nil))) (pg_name (i := 7) scLaw.nd rfl (Or.inl rfl)) (pss_one (ps_expr (pe_bm0 PySem.F.plainAttrs_list PySem.F.slot_list_clear PySem.F.type_list_clear mt_clear (pv 7)))))) pss_nil) h7, ?_⟩
 intro Q H1 a ns lo lT wv os xs Ss n y3 y4 y7 y8 y9 y10 ha hd los n1 n6 k
 have lS : Ss.length = n := by rw [← hd.tells.length, los]
 have lX : xs.length = n := by rw [hd.tt.length, lS]
 refine ⟨_, rfl, _, _, rfl, rfl, _, rfl, ?_⟩
 refine ite2 (fun c => ?_) (fun c => ?_)
 ·obtain ⟨dw, hw⟩ := hd.way
  refine ⟨_, rfl, wv, dw, _, rfl, hw, rfl, _, rfl, lT, xs, rfl, .of hd.tastes, by omega, fun p hp => ?_⟩
  have s2 := Same.upd (o := .lst xs.reverse) hp
  have hd2 := hd.same s2
  refine ⟨wv, p, xs.reverse, Ss.reverse, n, rfl, sqL_new, paired_rev (Paired.mapP hd2.tt fun _ _ z => z.s), by rw [List.length_reverse]; exact lX, n1, n6, fun r ls X H3 s3 hr0 hr3 lls fr cw pc => ?_⟩
  have s13 := s2.trans s3
  refine ⟨r, rfl, ⟨_, .of hr3⟩, ?_⟩
  have getL : ∀ l ∈ ls, ∃ zs, H3 l = some (.lst zs) := fun l hl => by
   obtain ⟨j, hj⟩ := List.mem_iff_getElem?.mp hl
   obtain ⟨v, e, _⟩ := pc.at_ j l hj
   exact ⟨_, e⟩
  refine for_list (K := K) (a := r) (xs := ls.map V.ref) (fun j σ H5 => Same H1 H5 ∧ H5 r = some (.lst (ls.map V.ref)) ∧ (∀ l ∈ ls, ∃ zs, H5 l = some (.lst zs)) ∧ ∃ x7, σ = [some (.ref a), some (.int n), some (.ref lo), y3, y4, some (.ref lT), some (.ref wv), x7, y8, y9, y10])
   ⟨s13, hr3, getL, _, rfl⟩ (fun j σ H5 _ h => .of h.2.1) ?_ ?_
  ·rintro j x σ H5 hx ⟨w1, w3, w4, x7, rfl⟩
   rw [List.getElem?_map] at hx
   obtain ⟨l, hl, rfl⟩ := Option.map_eq_some_iff.mp hx
   have ml := List.mem_of_getElem? hl
   obtain ⟨zs, hz⟩ := w4 l ml
   obtain ⟨f1, f2⟩ := fr l ml
   refine ⟨_, rfl, .inl ⟨rfl, _, .of hz⟩, l, _, rfl, rfl, hz, w1.updN (s2.free f1), by rw [upd_ne f2.symm]; exact w3, fun l' hl' => ?_, _, rfl⟩
   by_cases e : l' = l
   ·rw [e]
    exact ⟨_, upd_same⟩
   ·rw [upd_ne e]
    exact w4 l' hl'
  ·rintro σ H5 ⟨w1, w3, w4, x7, rfl⟩
   exact r7 Q H5 a ns lo lT wv os xs Ss n _ _ _ _ _ _ (w1.seq ha) (hd.same w1) los n1 n6 k
 ·exact r7 Q H1 a ns lo lT wv os xs Ss n _ _ _ _ _ _ ha hd los n1 n6 k
theorem tail_law4 (CL : Cs P w K mg base C CC) (T : Txt K mg aL aR) (TC : TxtC K C) (hall : mg "all" = none) {f : Addr} {cdv : Value} {A : Around} {outer : List Env} {s : Shared} {H : Hp} {E : XK} (hr : Room 10 (cx P w K mg base NL "law" s_law f cdv A outer s H E).A) :
  ∃ t, PSs (cx P w K mg base NL "law" s_law f cdv A outer s H E) (List.drop 4 (defBody s_law)) t ∧ ∀ (Q : VK) (H1 : Hp) (a : Addr) (ns : List Int) (lo : Addr) (os : List V) (Ss : List Steps) (n : Nat) (y3 y4 y5 y6 y7 y8 y9 y10 : Option V),
   SqL K H1 a (ns.map V.int) → H1 lo = some (.lst os) → Paired (Tl K lo lo H1) os Ss → os.length = n → 1 ≤ n → n ≤ 6 → (∀ H', Q (.bl true) H') →
   t { nx := fun _ H' => Q .non H', rt := Q } [some (.ref a), some (.int n), some (.ref lo), y3, y4, y5, y6, y7, y8, y9, y10] H1 := by
 have hr6 : Room 6 _ := hr.mono (by decide)
 have big : 1000 ≤ sizeLine := by decide
 obtain ⟨t6, h6, r6⟩ := tail_law6 (P := P) (w := w) (mg := mg) (base := base) (f := f) (cdv := cdv) (A := A) (outer := outer) (s := s) (H := H) (E := E) CL T TC hall hr
 refine ⟨_, pss_cons (ps_comp ["_law_steps"] (i := 5) scLaw.nd rfl (Or.inl rfl) rfl (CompOk.plain rfl (by decide +kernel) (by decide +kernel) (by decide +kernel)) (pi_list (pv 2))
   (fun _ => pg_name (i := 0) (show [Str.ofString "_law_steps"].Nodup by decide +kernel) rfl (Or.inl rfl)) (fun _ => pifs_nil) (fun _ => pe_mk CL.make hr6 rfl (pa_cons (pe_callTy call_list_of rfl T.list PyProof.Rows.boot_list (pa_cons (pv 0) pa_nil)) pa_nil)))
  (pss_cons (ps_set (i := 6) scLaw.nd rfl (Or.inl rfl) (pe_mkP CL.mkp rfl CL.mgc)) h6), ?_⟩
 intro Q H1 a ns lo os Ss n y3 y4 y5 y6 y7 y8 y9 y10 ha ho pO los n1 n6 k
 have lS : Ss.length = n := by rw [← pO.length, los]
 refine ⟨_, rfl, lo, rfl, ⟨_, .of ho⟩, fun D1 hD1 => ?_⟩
 have nlo : lo ≠ D1 := ne_of_none ho hD1
 refine comp_list (K := K) (a := lo) (D := D1) (xs := os) (fun j ys σ H2 => Same H1 H2 ∧ H2 D1 = some (.lst ys) ∧ Paired (Ta K C lo D1 H2) ys (Ss.take j) ∧ j ≤ os.length ∧ ∃ x0, σ = [x0])
  (by omega) ⟨Same.upd hD1, upd_same, .nil, by omega, _, rfl⟩ ?_ ?_ ?_
 ·rintro j ys σ H2 _ ⟨u1, u2, u3, u4, _⟩
  refine ⟨.of (u1 _ _ ho), u2, ?_⟩
  rw [u3.length, List.length_take]
  omega
 ·rintro j y ys σ H2 hy ⟨u1, u2, u3, u4, x0, rfl⟩ cc
  obtain ⟨S, hS', l, ts, p, rfl, hl, hS, ok, _⟩ := Paired.get1 pO j y hy
  refine ⟨_, rfl, l, ts, rfl, .inl (.of (u1 _ _ hl)), fun lg hlg => ?_⟩
  have s3 := Same.upd (o := .lst ts) hlg
  have sA := u1.trans s3
  refine mk_taste (C := C) (p := p) (S := S) sqL_new (Paired.mapP hS fun _ _ z => StQ.same sA z) ok fun x lt ll H3 s4 hx hlt hll ta => ?_
  have u23 := s3 _ _ u2
  have u24 := s4 _ _ u23
  have ho3 := sA _ _ ho
  refine ⟨u24, (sA.trans s4).updN hD1, upd_same, ?_, by have := (List.getElem?_eq_some_iff.mp hy).1; omega, _, rfl⟩
  rw [take_snoc hS']
  exact Paired.app (Paired.mapP u3 fun _ _ z => Ta.but2 u24 (Ta.same (s3.trans s4) z)) (.cons (Ta.but2 u24 ⟨x, lt, ll, p, rfl, ta, ok, ne_of_none ho3 hlt, ne_of_none ho3 hll, ne_of_none u23 hlt, ne_of_none u23 hll⟩) .nil)
 ·rintro xs σ H2 ⟨u1, u2, u3, u4, _⟩
  rw [List.take_of_length_le (by omega)] at u3
  intro wv dw hwv hdw ndw
  have s8 : Same H2 (upd (upd H2 dw (.own wv)) wv (.ins CC dw [])) := fun b o e => by
   rw [upd_ne (ne_of_none e hwv), upd_ne (ne_of_none e hdw)]
   exact e
  have s18 := u1.trans s8
  refine r6 Q _ a ns lo D1 wv os xs Ss n _ _ _ _ _ _ (s18.seq ha) ⟨s18 _ _ ho, Paired.mapP pO fun _ _ z => ?_, s8 _ _ u2, Paired.mapP u3 fun _ _ z => Ta.same s8 z, ⟨dw, upd_same⟩, nlo⟩ los n1 n6 k
  obtain ⟨l, ts, p, e, h1, h2, h3, h4, _⟩ := z
  exact ⟨l, ts, p, e, s18 _ _ h1, Paired.mapP h2 fun _ _ z => StQ.same s18 z, h3, h4, ne_of_none h1 hD1⟩
theorem ok_law {f : Addr} {fd : FuncData} (D : DefAt K mg "law" s_law ["_law_script"] f fd) (CL : Cs P w K mg base C CC) (T : Txt K mg aL aR) (TC : TxtC K C) (hall : mg "all" = none) : FnOk P w K mg base CX0 11 f fd ["_law_script"] (spLaw K) := by
 refine D.fn.ok scLaw (fun vs H Q E h => ?_) (fun cdv A outer s H vs Q E hr h => ?_)
 ·obtain ⟨a, ns, rfl, _⟩ := h
  rfl
 ·obtain ⟨a, ns, rfl, ha, _, k⟩ := h
  have hr1 : Room 1 _ := hr.mono (by decide)
  have hr2 : Room 2 _ := hr.mono (by decide)
  have big : 1000 ≤ sizeLine := by decide
  obtain ⟨t4, h4, r4⟩ := tail_law4 (P := P) (w := w) (mg := mg) (base := base) (f := f) (cdv := cdv) (A := A) (outer := outer) (s := s) (H := H) (E := E) CL T TC hall hr
  obtain ⟨t2, h2, r2⟩ : ∃ t, PSs (cx P w K mg base NL "law" s_law f cdv A outer s H E) (List.drop 2 (defBody s_law)) t ∧ ∀ (n : Nat), 1 ≤ n → n ≤ 6 → t { nx := fun _ H' => Q .non H', rt := Q } [some (.ref a), some (.int n), none, none, none, none, none, none, none, none, none] H := by
   refine ⟨_, pss_cons (ps_set (i := 2) scLaw.nd rfl (Or.inr rfl) (pe_lst pa_nil))
    (pss_cons (ps_for PassesOwn.never rfl (pi_range1 rfl T.range (pa_cons (pv 1) pa_nil)) (pg_name (i := 3) scLaw.nd rfl (Or.inl rfl))
     (pss_cons (ps_set (i := 4) scLaw.nd rfl (Or.inl rfl) (pe_op op_add (pe_cl CL.cell hr1 rfl (pa_cons (pv 0) (pa_cons (pe_op op_add pe_int (pv 3)) pa_nil))) (pe_op op_mul pe_int (pv 3))))
     (pss_cons (ps_if (pt_cmpR op_gt (pv 1) pe_int (nomark _)) (pss_one (ps_set (i := 4) scLaw.nd rfl (Or.inl rfl) (pe_op op_add (pe_op op_mul (pe_op op_fdiv (pv 4) pe_int) pe_int) (pe_op op_mod (pv 4) pe_int)))) pss_nil)
     (pss_one (ps_expr (pe_bm PySem.F.plainAttrs_list PySem.F.slot_list_append PySem.F.type_list_append mt_append (pv 2) (pa_cons (pe_cl CL.steps hr2 rfl (pa_cons (pv 4) pa_nil)) pa_nil))))))) h4), fun n n1 n6 => ?_⟩
   refine ⟨Nat.zero_le _, fun r hr0 => ?_⟩
   have s1 := Same.upd (o := .lst []) hr0
   refine ⟨_, rfl, (n : Int), rfl, by omega, by omega, ?_⟩
   refine for_range (lo := 0) (n := n) (fun i σ H' => Same H H' ∧ ∃ (ts : List V) (Ss : List Steps) (y3 y4 : Option V), σ = [some (.ref a), some (.int n), some (.ref r), y3, y4, none, none, none, none, none, none] ∧ H' r = some (.lst ts) ∧ Paired (Tl K r r H') ts Ss ∧ ts.length = i) ⟨s1, [], [], _, _, rfl, upd_same, .nil, rfl⟩ ?_ ?_
   ·rintro i σ H' hi ⟨u1, ts, Ss, y3, y4, rfl, u2, u3, u4⟩
    have ha' := u1.seq ha
    have app : ∀ (l : Addr) (tl : List V) (p : Nat) (S : Steps) (H2 : Hp) (z4 : Option V), Same H' H2 → H' l = none → H2 l = some (.lst tl) → Paired (StQ K H2) tl S → TsOk p S → Same H (upd H2 r (.lst (ts ++ [.ref l]))) ∧ ∃ (ts' : List V) (Ss' : List Steps) (y3 y4 : Option V), [some (.ref a), some (.int n), some (.ref r), some (.int (0 + (i : Int))), z4, none, none, none, none, none, none] = [some (V.ref a), some (.int n), some (.ref r), y3, y4, none, none, none, none, none, none] ∧ (upd H2 r (.lst (ts ++ [.ref l]))) r = some (.lst ts') ∧ Paired (Tl K r r (upd H2 r (.lst (ts ++ [.ref l])))) ts' Ss' ∧ ts'.length = i + 1 :=
     fun l tl p S H2 z4 s2 hl hl2 pS ok => by
      have ur2 := s2 _ _ u2
      have nl : l ≠ r := (ne_of_none u2 hl).symm
      exact ⟨(u1.trans s2).updN hr0, _, Ss ++ [S], _, _, rfl, upd_same, Paired.app (Paired.mapP u3 fun _ _ z => Tl.but1 ur2 (Tl.same s2 z)) (.cons (Tl.but1 ur2 ⟨l, tl, p, rfl, hl2, pS, ok, nl, nl⟩) .nil), by rw [List.length_append, u4]; rfl⟩
    refine ⟨_, rfl, _, rfl, _, _, rfl, rfl, a, ns, 1 + i, congrArg (fun z => [V.ref a, .int z]) (by omega), ha', _, rfl, _, _, rfl, rfl, .inl ⟨by decide, by decide⟩, _, _, rfl, rfl, ?_⟩
    refine ⟨_, rfl, _, _, rfl, rfl, _, rfl, ?_⟩
    refine ite2 (fun c => ?_) (fun c => ?_)
    ·refine ⟨_, rfl, _, _, rfl, rfl, ⟨by decide, by decide⟩, _, _, rfl, rfl, .inr ⟨by decide, by decide⟩, _, rfl, _, _, rfl, rfl, (by show (0 : Int) < 20; decide), _, _, rfl, rfl, ?_⟩
     refine ⟨_, rfl, .inl ⟨rfl, _, .of u2⟩, _, rfl, _, rfl, fun l tl p S H2 s2 hl hl2 pS ok => ?_⟩
     exact ⟨r, ts, _, rfl, rfl, s2 _ _ u2, by omega, app l tl p S H2 _ s2 hl hl2 pS ok⟩
    ·refine ⟨_, rfl, .inl ⟨rfl, _, .of u2⟩, _, rfl, _, rfl, fun l tl p S H2 s2 hl hl2 pS ok => ?_⟩
     exact ⟨r, ts, _, rfl, rfl, s2 _ _ u2, by omega, app l tl p S H2 _ s2 hl hl2 pS ok⟩
   ·rintro σ H' ⟨u1, ts, Ss, y3, y4, rfl, u2, u3, u4⟩
    exact r4 Q H' a ns r ts Ss n _ _ _ _ _ _ _ _ (u1.seq ha) u2 u3 u4 n1 n6 k
  refine ⟨_, pss_cons (ps_set (i := 1) scLaw.nd rfl (Or.inl rfl) (pe_op op_add pe_int (pe_op op_mod (pe_cl CL.cell hr1 rfl (pa_cons (pv 0) (pa_cons pe_int pa_nil))) pe_int)))
   (pss_cons (ps_if (pt_cmpR op_eq (pe_op op_mod (pe_op op_fdiv (pe_cl CL.cell hr1 rfl (pa_cons (pv 0) (pa_cons pe_int pa_nil))) pe_int) pe_int) pe_int (nomark _)) (pss_one (ps_set (i := 1) scLaw.nd rfl (Or.inl rfl) (pe_op op_add pe_int (pe_op op_mod (pe_op op_fdiv (pe_cl CL.cell hr1 rfl (pa_cons (pv 0) (pa_cons pe_int pa_nil))) pe_int) pe_int)))) pss_nil) h2), ?_⟩
  have m3 : ∀ x : Int, 0 ≤ x % 3 ∧ x % 3 < 3 := fun x => ⟨Int.emod_nonneg x (by decide), Int.emod_lt_of_pos x (by decide)⟩
  refine ⟨_, rfl, a, ns, 0, rfl, ha, _, _, rfl, rfl, (by show (0 : Int) < 3; decide), _, _, rfl, rfl, ?_⟩
  refine ⟨_, rfl, a, ns, 0, rfl, ha, _, _, rfl, rfl, ⟨by decide, by decide⟩, _, _, rfl, rfl, (by show (0 : Int) < 8; decide), rfl, _, rfl, ?_⟩
  refine ite2 (fun c => ?_) (fun c => ?_)
  ·refine ⟨_, rfl, a, ns, 0, rfl, ha, _, _, rfl, rfl, ⟨by decide, by decide⟩, _, _, rfl, rfl, (by show (0 : Int) < 3; decide), _, _, rfl, rfl, ?_⟩
   have b := m3 (ns.getD 0 0 / 24)
   obtain ⟨n, hn⟩ : ∃ n : Nat, 4 + ns.getD 0 0 / 24 % 3 = (n : Int) := ⟨(4 + ns.getD 0 0 / 24 % 3).toNat, by omega⟩
   have r := r2 n (by omega) (by omega)
   rw [← hn] at r
   exact r
  ·have b := m3 (ns.getD 0 0)
   obtain ⟨n, hn⟩ : ∃ n : Nat, 1 + ns.getD 0 0 % 3 = (n : Int) := ⟨(1 + ns.getD 0 0 % 3).toNat, by omega⟩
   have r := r2 n (by omega) (by omega)
   rw [← hn] at r
   exact r
end
end FQ
namespace FQ
open PySem L2 FK
theorem all_mk {l : PySem.W.OpenLaw} {w : World} {K : PySem.W.Frag} {h : Heap} {mg : Str → Option Value} {fa : Addr} (X : K.In h) (G : h.Ns mainGlobals mg) (hfa : mg "law" = some (.ref fa))
  {f1 : Addr} {od1 an1 : Option Addr} {sl1 : Array (Option Value)} {oc1 kV1 dc1 pm1 cd1 ct1 : Value}
  {f2 : Addr} {od2 an2 : Option Addr} {sl2 : Array (Option Value)} {oc2 kV2 dc2 pm2 cd2 ct2 : Value}
  {f3 : Addr} {od3 an3 : Option Addr} {sl3 : Array (Option Value)} {oc3 kV3 dc3 pm3 cd3 ct3 : Value}
  {f4 : Addr} {od4 an4 : Option Addr} {sl4 : Array (Option Value)} {oc4 kV4 dc4 pm4 cd4 ct4 : Value}
  {f5 : Addr} {od5 an5 : Option Addr} {sl5 : Array (Option Value)} {oc5 kV5 dc5 pm5 cd5 ct5 : Value}
  {f6 : Addr} {od6 an6 : Option Addr} {sl6 : Array (Option Value)} {oc6 kV6 dc6 pm6 cd6 ct6 : Value}
  {f7 : Addr} {od7 an7 : Option Addr} {sl7 : Array (Option Value)} {oc7 kV7 dc7 pm7 cd7 ct7 : Value}
  {f8 : Addr} {od8 an8 : Option Addr} {sl8 : Array (Option Value)} {oc8 kV8 dc8 pm8 cd8 ct8 : Value}
  {f9 : Addr} {od9 an9 : Option Addr} {sl9 : Array (Option Value)} {oc9 kV9 dc9 pm9 cd9 ct9 : Value}
  {f10 : Addr} {od10 an10 : Option Addr} {sl10 : Array (Option Value)} {oc10 kV10 dc10 pm10 cd10 ct10 : Value}
  {f11 : Addr} {od11 an11 : Option Addr} {sl11 : Array (Option Value)} {oc11 kV11 dc11 pm11 cd11 ct11 : Value}
  {f12 : Addr} {od12 an12 : Option Addr} {sl12 : Array (Option Value)} {oc12 kV12 dc12 pm12 cd12 ct12 : Value}
  {f13 : Addr} {od13 an13 : Option Addr} {sl13 : Array (Option Value)} {oc13 kV13 dc13 pm13 cd13 ct13 : Value}
  {f14 : Addr} {od14 an14 : Option Addr} {sl14 : Array (Option Value)} {oc14 kV14 dc14 pm14 cd14 ct14 : Value}
  {f15 : Addr} {od15 an15 : Option Addr} {sl15 : Array (Option Value)} {oc15 kV15 dc15 pm15 cd15 ct15 : Value}
  {f16 : Addr} {od16 an16 : Option Addr} {sl16 : Array (Option Value)} {oc16 kV16 dc16 pm16 cd16 ct16 : Value}
  {f17 : Addr} {od17 an17 : Option Addr} {sl17 : Array (Option Value)} {oc17 kV17 dc17 pm17 cd17 ct17 : Value}
  {f18 : Addr} {od18 an18 : Option Addr} {sl18 : Array (Option Value)} {oc18 kV18 dc18 pm18 cd18 ct18 : Value}
  {f19 : Addr} {od19 an19 : Option Addr} {sl19 : Array (Option Value)} {oc19 kV19 dc19 pm19 cd19 ct19 : Value}
  {f20 : Addr} {od20 an20 : Option Addr} {sl20 : Array (Option Value)} {oc20 kV20 dc20 pm20 cd20 ct20 : Value}
  {f21 : Addr} {od21 an21 : Option Addr} {sl21 : Array (Option Value)} {oc21 kV21 dc21 pm21 cd21 ct21 : Value}
  {f22 : Addr} {od22 an22 : Option Addr} {sl22 : Array (Option Value)} {oc22 kV22 dc22 pm22 cd22 ct22 : Value}
  {f23 : Addr} {od23 an23 : Option Addr} {sl23 : Array (Option Value)} {oc23 kV23 dc23 pm23 cd23 ct23 : Value}
  {f24 : Addr} {od24 an24 : Option Addr} {sl24 : Array (Option Value)} {oc24 kV24 dc24 pm24 cd24 ct24 : Value}
  {f25 : Addr} {od25 an25 : Option Addr} {sl25 : Array (Option Value)} {oc25 kV25 dc25 pm25 cd25 ct25 : Value}
  {f26 : Addr} {od26 an26 : Option Addr} {sl26 : Array (Option Value)} {oc26 kV26 dc26 pm26 cd26 ct26 : Value}
  {f27 : Addr} {od27 an27 : Option Addr} {sl27 : Array (Option Value)} {oc27 kV27 dc27 pm27 cd27 ct27 : Value}
  {f28 : Addr} {od28 an28 : Option Addr} {sl28 : Array (Option Value)} {oc28 kV28 dc28 pm28 cd28 ct28 : Value}
  {f29 : Addr} {od29 an29 : Option Addr} {sl29 : Array (Option Value)} {oc29 kV29 dc29 pm29 cd29 ct29 : Value}
  {f30 : Addr} {od30 an30 : Option Addr} {sl30 : Array (Option Value)} {oc30 kV30 dc30 pm30 cd30 ct30 : Value}
  {f31 : Addr} {od31 an31 : Option Addr} {sl31 : Array (Option Value)} {oc31 kV31 dc31 pm31 cd31 ct31 : Value}
  {f32 : Addr} {od32 an32 : Option Addr} {sl32 : Array (Option Value)} {oc32 kV32 dc32 pm32 cd32 ct32 : Value}
  {f33 : Addr} {od33 an33 : Option Addr} {sl33 : Array (Option Value)} {oc33 kV33 dc33 pm33 cd33 ct33 : Value}
  {f34 : Addr} {od34 an34 : Option Addr} {sl34 : Array (Option Value)} {oc34 kV34 dc34 pm34 cd34 ct34 : Value}
  {f35 : Addr} {od35 an35 : Option Addr} {sl35 : Array (Option Value)} {oc35 kV35 dc35 pm35 cd35 ct35 : Value}
  {f36 : Addr} {od36 an36 : Option Addr} {sl36 : Array (Option Value)} {oc36 kV36 dc36 pm36 cd36 ct36 : Value}
  {C : Addr}
  {fCm0 : Addr} {odCm0 anCm0 : Option Addr} {slCm0 : Array (Option Value)} {ocCm0 kVCm0 dcCm0 pmCm0 cdCm0 ctCm0 : Value}
  {fCm1 : Addr} {odCm1 anCm1 : Option Addr} {slCm1 : Array (Option Value)} {ocCm1 kVCm1 dcCm1 pmCm1 cdCm1 ctCm1 : Value}
  {fCm2 : Addr} {odCm2 anCm2 : Option Addr} {slCm2 : Array (Option Value)} {ocCm2 kVCm2 dcCm2 pmCm2 cdCm2 ctCm2 : Value}
  {fCm3 : Addr} {odCm3 anCm3 : Option Addr} {slCm3 : Array (Option Value)} {ocCm3 kVCm3 dcCm3 pmCm3 cdCm3 ctCm3 : Value}
  {fCm4 : Addr} {odCm4 anCm4 : Option Addr} {slCm4 : Array (Option Value)} {ocCm4 kVCm4 dcCm4 pmCm4 cdCm4 ctCm4 : Value}
  {fCm5 : Addr} {odCm5 anCm5 : Option Addr} {slCm5 : Array (Option Value)} {ocCm5 kVCm5 dcCm5 pmCm5 cdCm5 ctCm5 : Value}
  {W : Addr}
  {fWm0 : Addr} {odWm0 anWm0 : Option Addr} {slWm0 : Array (Option Value)} {ocWm0 kVWm0 dcWm0 pmWm0 cdWm0 ctWm0 : Value}
  {aL aR : Addr} {odL odR : Option Addr} {tL uL tR uR t8 t1 t2 : Tok} {nL nR : Nat} {slL slR : Array (Option Value)}
  (a1 : PySem.W.nsIn K mainGlobals "is_whole" = some (some (.ref f1)))
  (l1 : K.lookup f1 = some ⟨oc1, od1, .func (PySem.W.fnOf "is_whole" "is_whole" (defArgs s_is_whole) (defBody s_is_whole) (defScope s_is_whole) .none kV1 dc1 pm1 an1 cd1 ct1), sl1⟩) (c1 : PySem.W.codeIn K cd1 "is_whole" = true) (k1 : PySem.W.keepIn K (.ref f1) = true)
  (a2 : PySem.W.nsIn K mainGlobals "greatest_divisor" = some (some (.ref f2)))
  (l2 : K.lookup f2 = some ⟨oc2, od2, .func (PySem.W.fnOf "greatest_divisor" "greatest_divisor" (defArgs s_greatest_divisor) (defBody s_greatest_divisor) (defScope s_greatest_divisor) .none kV2 dc2 pm2 an2 cd2 ct2), sl2⟩) (c2 : PySem.W.codeIn K cd2 "greatest_divisor" = true) (k2 : PySem.W.keepIn K (.ref f2) = true)
  (a3 : PySem.W.nsIn K mainGlobals "is_fraction" = some (some (.ref f3)))
  (l3 : K.lookup f3 = some ⟨oc3, od3, .func (PySem.W.fnOf "is_fraction" "is_fraction" (defArgs s_is_fraction) (defBody s_is_fraction) (defScope s_is_fraction) .none kV3 dc3 pm3 an3 cd3 ct3), sl3⟩) (c3 : PySem.W.codeIn K cd3 "is_fraction" = true) (k3 : PySem.W.keepIn K (.ref f3) = true)
  (a4 : PySem.W.nsIn K mainGlobals "made" = some (some (.ref f4)))
  (l4 : K.lookup f4 = some ⟨oc4, od4, .func (PySem.W.fnOf "made" "made" (defArgs s_made) (defBody s_made) (defScope s_made) .none kV4 dc4 pm4 an4 cd4 ct4), sl4⟩) (c4 : PySem.W.codeIn K cd4 "made" = true) (k4 : PySem.W.keepIn K (.ref f4) = true)
  (a5 : PySem.W.nsIn K mainGlobals "plus" = some (some (.ref f5)))
  (l5 : K.lookup f5 = some ⟨oc5, od5, .func (PySem.W.fnOf "plus" "plus" (defArgs s_plus) (defBody s_plus) (defScope s_plus) .none kV5 dc5 pm5 an5 cd5 ct5), sl5⟩) (c5 : PySem.W.codeIn K cd5 "plus" = true) (k5 : PySem.W.keepIn K (.ref f5) = true)
  (a6 : PySem.W.nsIn K mainGlobals "minus" = some (some (.ref f6)))
  (l6 : K.lookup f6 = some ⟨oc6, od6, .func (PySem.W.fnOf "minus" "minus" (defArgs s_minus) (defBody s_minus) (defScope s_minus) .none kV6 dc6 pm6 an6 cd6 ct6), sl6⟩) (c6 : PySem.W.codeIn K cd6 "minus" = true) (k6 : PySem.W.keepIn K (.ref f6) = true)
  (a7 : PySem.W.nsIn K mainGlobals "times" = some (some (.ref f7)))
  (l7 : K.lookup f7 = some ⟨oc7, od7, .func (PySem.W.fnOf "times" "times" (defArgs s_times) (defBody s_times) (defScope s_times) .none kV7 dc7 pm7 an7 cd7 ct7), sl7⟩) (c7 : PySem.W.codeIn K cd7 "times" = true) (k7 : PySem.W.keepIn K (.ref f7) = true)
  (a8 : PySem.W.nsIn K mainGlobals "over" = some (some (.ref f8)))
  (l8 : K.lookup f8 = some ⟨oc8, od8, .func (PySem.W.fnOf "over" "over" (defArgs s_over) (defBody s_over) (defScope s_over) .none kV8 dc8 pm8 an8 cd8 ct8), sl8⟩) (c8 : PySem.W.codeIn K cd8 "over" = true) (k8 : PySem.W.keepIn K (.ref f8) = true)
  (a9 : PySem.W.nsIn K mainGlobals "below" = some (some (.ref f9)))
  (l9 : K.lookup f9 = some ⟨oc9, od9, .func (PySem.W.fnOf "below" "below" (defArgs s_below) (defBody s_below) (defScope s_below) .none kV9 dc9 pm9 an9 cd9 ct9), sl9⟩) (c9 : PySem.W.codeIn K cd9 "below" = true) (k9 : PySem.W.keepIn K (.ref f9) = true)
  (a10 : PySem.W.nsIn K mainGlobals "apart" = some (some (.ref f10)))
  (l10 : K.lookup f10 = some ⟨oc10, od10, .func (PySem.W.fnOf "apart" "apart" (defArgs s_apart) (defBody s_apart) (defScope s_apart) .none kV10 dc10 pm10 an10 cd10 ct10), sl10⟩) (c10 : PySem.W.codeIn K cd10 "apart" = true) (k10 : PySem.W.keepIn K (.ref f10) = true)
  (a11 : PySem.W.nsIn K mainGlobals "reaches" = some (some (.ref f11)))
  (l11 : K.lookup f11 = some ⟨oc11, od11, .func (PySem.W.fnOf "reaches" "reaches" (defArgs s_reaches) (defBody s_reaches) (defScope s_reaches) .none kV11 dc11 pm11 an11 cd11 ct11), sl11⟩) (c11 : PySem.W.codeIn K cd11 "reaches" = true) (k11 : PySem.W.keepIn K (.ref f11) = true)
  (a12 : PySem.W.nsIn K mainGlobals "crossing" = some (some (.ref f12)))
  (l12 : K.lookup f12 = some ⟨oc12, od12, .func (PySem.W.fnOf "crossing" "crossing" (defArgs s_crossing) (defBody s_crossing) (defScope s_crossing) .none kV12 dc12 pm12 an12 cd12 ct12), sl12⟩) (c12 : PySem.W.codeIn K cd12 "crossing" = true) (k12 : PySem.W.keepIn K (.ref f12) = true)
  (a13 : PySem.W.nsIn K mainGlobals "reached" = some (some (.ref f13)))
  (l13 : K.lookup f13 = some ⟨oc13, od13, .func (PySem.W.fnOf "reached" "reached" (defArgs s_reached) (defBody s_reached) (defScope s_reached) .none kV13 dc13 pm13 an13 cd13 ct13), sl13⟩) (c13 : PySem.W.codeIn K cd13 "reached" = true) (k13 : PySem.W.keepIn K (.ref f13) = true)
  (a14 : PySem.W.nsIn K mainGlobals "is_span" = some (some (.ref f14)))
  (l14 : K.lookup f14 = some ⟨oc14, od14, .func (PySem.W.fnOf "is_span" "is_span" (defArgs s_is_span) (defBody s_is_span) (defScope s_is_span) .none kV14 dc14 pm14 an14 cd14 ct14), sl14⟩) (c14 : PySem.W.codeIn K cd14 "is_span" = true) (k14 : PySem.W.keepIn K (.ref f14) = true)
  (a15 : PySem.W.nsIn K mainGlobals "check_piece" = some (some (.ref f15)))
  (l15 : K.lookup f15 = some ⟨oc15, od15, .func (PySem.W.fnOf "check_piece" "check_piece" (defArgs s_check_piece) (defBody s_check_piece) (defScope s_check_piece) .none kV15 dc15 pm15 an15 cd15 ct15), sl15⟩) (c15 : PySem.W.codeIn K cd15 "check_piece" = true) (k15 : PySem.W.keepIn K (.ref f15) = true)
  (a16 : PySem.W.nsIn K mainGlobals "check_step" = some (some (.ref f16)))
  (l16 : K.lookup f16 = some ⟨oc16, od16, .func (PySem.W.fnOf "check_step" "check_step" (defArgs s_check_step) (defBody s_check_step) (defScope s_check_step) .none kV16 dc16 pm16 an16 cd16 ct16), sl16⟩) (c16 : PySem.W.codeIn K cd16 "check_step" = true) (k16 : PySem.W.keepIn K (.ref f16) = true)
  (a17 : PySem.W.nsIn K mainGlobals "check_steps" = some (some (.ref f17)))
  (l17 : K.lookup f17 = some ⟨oc17, od17, .func (PySem.W.fnOf "check_steps" "check_steps" (defArgs s_check_steps) (defBody s_check_steps) (defScope s_check_steps) .none kV17 dc17 pm17 an17 cd17 ct17), sl17⟩) (c17 : PySem.W.codeIn K cd17 "check_steps" = true) (k17 : PySem.W.keepIn K (.ref f17) = true)
  (a18 : PySem.W.nsIn K mainGlobals "worth_line" = some (some (.ref f18)))
  (l18 : K.lookup f18 = some ⟨oc18, od18, .func (PySem.W.fnOf "worth_line" "worth_line" (defArgs s_worth_line) (defBody s_worth_line) (defScope s_worth_line) .none kV18 dc18 pm18 an18 cd18 ct18), sl18⟩) (c18 : PySem.W.codeIn K cd18 "worth_line" = true) (k18 : PySem.W.keepIn K (.ref f18) = true)
  (a19 : PySem.W.nsIn K mainGlobals "parted" = some (some (.ref f19)))
  (l19 : K.lookup f19 = some ⟨oc19, od19, .func (PySem.W.fnOf "parted" "parted" (defArgs s_parted) (defBody s_parted) (defScope s_parted) .none kV19 dc19 pm19 an19 cd19 ct19), sl19⟩) (c19 : PySem.W.codeIn K cd19 "parted" = true) (k19 : PySem.W.keepIn K (.ref f19) = true)
  (a20 : PySem.W.nsIn K mainGlobals "check_tastes" = some (some (.ref f20)))
  (l20 : K.lookup f20 = some ⟨oc20, od20, .func (PySem.W.fnOf "check_tastes" "check_tastes" (defArgs s_check_tastes) (defBody s_check_tastes) (defScope s_check_tastes) .none kV20 dc20 pm20 an20 cd20 ct20), sl20⟩) (c20 : PySem.W.codeIn K cd20 "check_tastes" = true) (k20 : PySem.W.keepIn K (.ref f20) = true)
  (a21 : PySem.W.nsIn K mainGlobals "check_takers" = some (some (.ref f21)))
  (l21 : K.lookup f21 = some ⟨oc21, od21, .func (PySem.W.fnOf "check_takers" "check_takers" (defArgs s_check_takers) (defBody s_check_takers) (defScope s_check_takers) .none kV21 dc21 pm21 an21 cd21 ct21), sl21⟩) (c21 : PySem.W.codeIn K cd21 "check_takers" = true) (k21 : PySem.W.keepIn K (.ref f21) = true)
  (a22 : PySem.W.nsIn K mainGlobals "next_end_line" = some (some (.ref f22)))
  (l22 : K.lookup f22 = some ⟨oc22, od22, .func (PySem.W.fnOf "next_end_line" "next_end_line" (defArgs s_next_end_line) (defBody s_next_end_line) (defScope s_next_end_line) .none kV22 dc22 pm22 an22 cd22 ct22), sl22⟩) (c22 : PySem.W.codeIn K cd22 "next_end_line" = true) (k22 : PySem.W.keepIn K (.ref f22) = true)
  (a23 : PySem.W.nsIn K mainGlobals "common_worth" = some (some (.ref f23)))
  (l23 : K.lookup f23 = some ⟨oc23, od23, .func (PySem.W.fnOf "common_worth" "common_worth" (defArgs s_common_worth) (defBody s_common_worth) (defScope s_common_worth) .none kV23 dc23 pm23 an23 cd23 ct23), sl23⟩) (c23 : PySem.W.codeIn K cd23 "common_worth" = true) (k23 : PySem.W.keepIn K (.ref f23) = true)
  (a24 : PySem.W.nsIn K mainGlobals "_law_cell_at" = some (some (.ref f24)))
  (l24 : K.lookup f24 = some ⟨oc24, od24, .func (PySem.W.fnOf "_law_cell_at" "_law_cell_at" (defArgs s__law_cell_at) (defBody s__law_cell_at) (defScope s__law_cell_at) .none kV24 dc24 pm24 an24 cd24 ct24), sl24⟩) (c24 : PySem.W.codeIn K cd24 "_law_cell_at" = true) (k24 : PySem.W.keepIn K (.ref f24) = true)
  (a25 : PySem.W.nsIn K mainGlobals "_law_mixed" = some (some (.ref f25)))
  (l25 : K.lookup f25 = some ⟨oc25, od25, .func (PySem.W.fnOf "_law_mixed" "_law_mixed" (defArgs s__law_mixed) (defBody s__law_mixed) (defScope s__law_mixed) .none kV25 dc25 pm25 an25 cd25 ct25), sl25⟩) (c25 : PySem.W.codeIn K cd25 "_law_mixed" = true) (k25 : PySem.W.keepIn K (.ref f25) = true)
  (a26 : PySem.W.nsIn K mainGlobals "_law_low" = some (some (.ref f26)))
  (l26 : K.lookup f26 = some ⟨oc26, od26, .func (PySem.W.fnOf "_law_low" "_law_low" (defArgs s__law_low) (defBody s__law_low) (defScope s__law_low) .none kV26 dc26 pm26 an26 cd26 ct26), sl26⟩) (c26 : PySem.W.codeIn K cd26 "_law_low" = true) (k26 : PySem.W.keepIn K (.ref f26) = true)
  (a27 : PySem.W.nsIn K mainGlobals "_law_less" = some (some (.ref f27)))
  (l27 : K.lookup f27 = some ⟨oc27, od27, .func (PySem.W.fnOf "_law_less" "_law_less" (defArgs s__law_less) (defBody s__law_less) (defScope s__law_less) .none kV27 dc27 pm27 an27 cd27 ct27), sl27⟩) (c27 : PySem.W.codeIn K cd27 "_law_less" = true) (k27 : PySem.W.keepIn K (.ref f27) = true)
  (a28 : PySem.W.nsIn K mainGlobals "_law_sum" = some (some (.ref f28)))
  (l28 : K.lookup f28 = some ⟨oc28, od28, .func (PySem.W.fnOf "_law_sum" "_law_sum" (defArgs s__law_sum) (defBody s__law_sum) (defScope s__law_sum) .none kV28 dc28 pm28 an28 cd28 ct28), sl28⟩) (c28 : PySem.W.codeIn K cd28 "_law_sum" = true) (k28 : PySem.W.keepIn K (.ref f28) = true)
  (a29 : PySem.W.nsIn K mainGlobals "_law_left" = some (some (.ref f29)))
  (l29 : K.lookup f29 = some ⟨oc29, od29, .func (PySem.W.fnOf "_law_left" "_law_left" (defArgs s__law_left) (defBody s__law_left) (defScope s__law_left) .none kV29 dc29 pm29 an29 cd29 ct29), sl29⟩) (c29 : PySem.W.codeIn K cd29 "_law_left" = true) (k29 : PySem.W.keepIn K (.ref f29) = true)
  (a30 : PySem.W.nsIn K mainGlobals "_law_steps_by" = some (some (.ref f30)))
  (l30 : K.lookup f30 = some ⟨oc30, od30, .func (PySem.W.fnOf "_law_steps_by" "_law_steps_by" (defArgs s__law_steps_by) (defBody s__law_steps_by) (defScope s__law_steps_by) .none kV30 dc30 pm30 an30 cd30 ct30), sl30⟩) (c30 : PySem.W.codeIn K cd30 "_law_steps_by" = true) (k30 : PySem.W.keepIn K (.ref f30) = true)
  (a31 : PySem.W.nsIn K mainGlobals "_law_area" = some (some (.ref f31)))
  (l31 : K.lookup f31 = some ⟨oc31, od31, .func (PySem.W.fnOf "_law_area" "_law_area" (defArgs s__law_area) (defBody s__law_area) (defScope s__law_area) .none kV31 dc31 pm31 an31 cd31 ct31), sl31⟩) (c31 : PySem.W.codeIn K cd31 "_law_area" = true) (k31 : PySem.W.keepIn K (.ref f31) = true)
  (a32 : PySem.W.nsIn K mainGlobals "_law_worth" = some (some (.ref f32)))
  (l32 : K.lookup f32 = some ⟨oc32, od32, .func (PySem.W.fnOf "_law_worth" "_law_worth" (defArgs s__law_worth) (defBody s__law_worth) (defScope s__law_worth) .none kV32 dc32 pm32 an32 cd32 ct32), sl32⟩) (c32 : PySem.W.codeIn K cd32 "_law_worth" = true) (k32 : PySem.W.keepIn K (.ref f32) = true)
  (a33 : PySem.W.nsIn K mainGlobals "_law_fraction" = some (some (.ref f33)))
  (l33 : K.lookup f33 = some ⟨oc33, od33, .func (PySem.W.fnOf "_law_fraction" "_law_fraction" (defArgs s__law_fraction) (defBody s__law_fraction) (defScope s__law_fraction) .none kV33 dc33 pm33 an33 cd33 ct33), sl33⟩) (c33 : PySem.W.codeIn K cd33 "_law_fraction" = true) (k33 : PySem.W.keepIn K (.ref f33) = true)
  (a34 : PySem.W.nsIn K mainGlobals "_law_piece" = some (some (.ref f34)))
  (l34 : K.lookup f34 = some ⟨oc34, od34, .func (PySem.W.fnOf "_law_piece" "_law_piece" (defArgs s__law_piece) (defBody s__law_piece) (defScope s__law_piece) .none kV34 dc34 pm34 an34 cd34 ct34), sl34⟩) (c34 : PySem.W.codeIn K cd34 "_law_piece" = true) (k34 : PySem.W.keepIn K (.ref f34) = true)
  (a35 : PySem.W.nsIn K mainGlobals "_law_dealt" = some (some (.ref f35)))
  (l35 : K.lookup f35 = some ⟨oc35, od35, .func (PySem.W.fnOf "_law_dealt" "_law_dealt" (defArgs s__law_dealt) (defBody s__law_dealt) (defScope s__law_dealt) .none kV35 dc35 pm35 an35 cd35 ct35), sl35⟩) (c35 : PySem.W.codeIn K cd35 "_law_dealt" = true) (k35 : PySem.W.keepIn K (.ref f35) = true)
  (a36 : PySem.W.nsIn K mainGlobals "law" = some (some (.ref f36)))
  (l36 : K.lookup f36 = some ⟨oc36, od36, .func (PySem.W.fnOf "law" "law" (defArgs s_law) (defBody s_law) (defScope s_law) .none kV36 dc36 pm36 an36 cd36 ct36), sl36⟩) (c36 : PySem.W.codeIn K cd36 "law" = true) (k36 : PySem.W.keepIn K (.ref f36) = true)
  (aC : PySem.W.nsIn K mainGlobals "Taste" = some (some (.ref C)))
  (aCm0 : PySem.W.findIn K (.ref C) "__init__" = some (some (.ref fCm0)))
  (lCm0 : K.lookup fCm0 = some ⟨ocCm0, odCm0, .func (PySem.W.fnOf "__init__" "Taste.__init__" (defArgs m_Taste___init__) (defBody m_Taste___init__) (defScope m_Taste___init__) .none kVCm0 dcCm0 pmCm0 anCm0 cdCm0 ctCm0), slCm0⟩) (cCm0 : PySem.W.codeIn K cdCm0 "Taste.__init__" = true) (kCm0 : PySem.W.keepIn K (.ref fCm0) = true)
  (iCm0 : PySem.W.isFn K (.ref fCm0) = true)
  (aCm1 : PySem.W.findIn K (.ref C) "steps" = some (some (.ref fCm1)))
  (lCm1 : K.lookup fCm1 = some ⟨ocCm1, odCm1, .func (PySem.W.fnOf "steps" "Taste.steps" (defArgs m_Taste_steps) (defBody m_Taste_steps) (defScope m_Taste_steps) .none kVCm1 dcCm1 pmCm1 anCm1 cdCm1 ctCm1), slCm1⟩) (cCm1 : PySem.W.codeIn K cdCm1 "Taste.steps" = true) (kCm1 : PySem.W.keepIn K (.ref fCm1) = true)
  (iCm1 : PySem.W.isFn K (.ref fCm1) = true)
  (aCm2 : PySem.W.findIn K (.ref C) "corners" = some (some (.ref fCm2)))
  (lCm2 : K.lookup fCm2 = some ⟨ocCm2, odCm2, .func (PySem.W.fnOf "corners" "Taste.corners" (defArgs m_Taste_corners) (defBody m_Taste_corners) (defScope m_Taste_corners) .none kVCm2 dcCm2 pmCm2 anCm2 cdCm2 ctCm2), slCm2⟩) (cCm2 : PySem.W.codeIn K cdCm2 "Taste.corners" = true) (kCm2 : PySem.W.keepIn K (.ref fCm2) = true)
  (iCm2 : PySem.W.isFn K (.ref fCm2) = true)
  (aCm3 : PySem.W.findIn K (.ref C) "worth_up_to" = some (some (.ref fCm3)))
  (lCm3 : K.lookup fCm3 = some ⟨ocCm3, odCm3, .func (PySem.W.fnOf "worth_up_to" "Taste.worth_up_to" (defArgs m_Taste_worth_up_to) (defBody m_Taste_worth_up_to) (defScope m_Taste_worth_up_to) .none kVCm3 dcCm3 pmCm3 anCm3 cdCm3 ctCm3), slCm3⟩) (cCm3 : PySem.W.codeIn K cdCm3 "Taste.worth_up_to" = true) (kCm3 : PySem.W.keepIn K (.ref fCm3) = true)
  (iCm3 : PySem.W.isFn K (.ref fCm3) = true)
  (aCm4 : PySem.W.findIn K (.ref C) "point_at" = some (some (.ref fCm4)))
  (lCm4 : K.lookup fCm4 = some ⟨ocCm4, odCm4, .func (PySem.W.fnOf "point_at" "Taste.point_at" (defArgs m_Taste_point_at) (defBody m_Taste_point_at) (defScope m_Taste_point_at) .none kVCm4 dcCm4 pmCm4 anCm4 cdCm4 ctCm4), slCm4⟩) (cCm4 : PySem.W.codeIn K cdCm4 "Taste.point_at" = true) (kCm4 : PySem.W.keepIn K (.ref fCm4) = true)
  (iCm4 : PySem.W.isFn K (.ref fCm4) = true)
  (aCm5 : PySem.W.findIn K (.ref C) "mark" = some (some (.ref fCm5)))
  (lCm5 : K.lookup fCm5 = some ⟨ocCm5, odCm5, .func (PySem.W.fnOf "mark" "Taste.mark" (defArgs m_Taste_mark) (defBody m_Taste_mark) (defScope m_Taste_mark) .none kVCm5 dcCm5 pmCm5 anCm5 cdCm5 ctCm5), slCm5⟩) (cCm5 : PySem.W.codeIn K cdCm5 "Taste.mark" = true) (kCm5 : PySem.W.keepIn K (.ref fCm5) = true)
  (iCm5 : PySem.W.isFn K (.ref fCm5) = true)
  (pgC : PySem.W.plainGet K C Str.empty = true)
  (hdC : PySem.W.hasDictIn K C = true)
  (poC : PySem.W.plainOver K C = true)
  (saC : PySem.W.findIn K (.ref C) "__setattr__" = some (some (.builtin "object.__setattr__")))
  (mkC : PySem.W.makesIn K C = true)
  (kcC : PySem.W.keepIn K (.ref C) = true)
  (nCtold : PySem.W.findIn K (.ref C) "told" = some none)
  (nCline : PySem.W.findIn K (.ref C) "line" = some none)
  (aW : PySem.W.nsIn K mainGlobals "Alike" = some (some (.ref W)))
  (aWm0 : PySem.W.findIn K (.ref W) "deal" = some (some (.ref fWm0)))
  (lWm0 : K.lookup fWm0 = some ⟨ocWm0, odWm0, .func (PySem.W.fnOf "deal" "Alike.deal" (defArgs m_Alike_deal) (defBody m_Alike_deal) (defScope m_Alike_deal) .none kVWm0 dcWm0 pmWm0 anWm0 cdWm0 ctWm0), slWm0⟩) (cWm0 : PySem.W.codeIn K cdWm0 "Alike.deal" = true) (kWm0 : PySem.W.keepIn K (.ref fWm0) = true)
  (iWm0 : PySem.W.isFn K (.ref fWm0) = true)
  (pgW : PySem.W.plainGet K W Str.empty = true)
  (hdW : PySem.W.hasDictIn K W = true)
  (poW : PySem.W.plainOver K W = true)
  (saW : PySem.W.findIn K (.ref W) "__setattr__" = some (some (.builtin "object.__setattr__")))
  (mkW : PySem.W.makesIn K W = true)
  (kcW : PySem.W.keepIn K (.ref W) = true)
  (z1 : PySem.W.nsIn K mainGlobals "isinstance" = some none)
  (z2 : PySem.W.nsIn K mainGlobals "int" = some none)
  (z3 : PySem.W.nsIn K mainGlobals "bool" = some none)
  (z4 : PySem.W.nsIn K mainGlobals "tuple" = some none)
  (z5 : PySem.W.nsIn K mainGlobals "list" = some none)
  (z6 : PySem.W.nsIn K mainGlobals "len" = some none)
  (z7 : PySem.W.nsIn K mainGlobals "range" = some none)
  (z8 : PySem.W.nsIn K mainGlobals "zip" = some none)
  (z9 : PySem.W.nsIn K mainGlobals "sorted" = some none)
  (z10 : PySem.W.nsIn K mainGlobals "any" = some none)
  (z11 : PySem.W.nsIn K mainGlobals "enumerate" = some none)
  (z12 : PySem.W.nsIn K mainGlobals "reversed" = some none)
  (eL : PySem.W.nsIn K mainGlobals "LEFT_END" = some (some (.ref aL)))
  (eLo : K.lookup aL = some ⟨.type "tuple", odL, .seq #[.int 0 tL, .int 1 uL] nL, slL⟩)
  (eR : PySem.W.nsIn K mainGlobals "RIGHT_END" = some (some (.ref aR)))
  (eRo : K.lookup aR = some ⟨.type "tuple", odR, .seq #[.int 1 tR, .int 1 uR] nR, slR⟩)
  (e8 : PySem.W.nsIn K mainGlobals "MOST_STEPS" = some (some (.int 8 t8)))
  (e1 : PySem.W.nsIn K mainGlobals "GREATEST_SECOND_NUMBER" = some (some (.int 1000 t1)))
  (e2 : PySem.W.nsIn K mainGlobals "GREATEST_WEIGHT" = some (some (.int 1000 t2)))
  (haC : PySem.W.findIn K (.ref C) "__class__" = some (some (.builtin "object.__class__")))
  (hnC : PySem.W.specialIn K (.builtin "object.__class__") "__get__" = some (some (.builtin "getset_descriptor.__get__")))
  (htC : PySem.W.takesIn K (.builtin "object.__class__") = some true)
  (hmC : PySem.W.mroIn K C (.type "object") = some true)
  (oiW : PySem.W.findIn K (.ref W) "__init__" = some (some (.builtin "object.__init__")))
  (zall : PySem.W.nsIn K mainGlobals "all" = some none) :
  ∃ fd : FuncData, (∀ (s : Shared) (v : Value), BindsTo s fd ⟨[v], []⟩ [("_law_script", v)]) ∧ ∀ base : Heap, K.In base → base.Ns mainGlobals mg → FnOk l.prog w K mg base CX0 11 fa fd ["_law_script"] (spLaw K) := by
 have e := hfa.symm.trans (PySem.W.mg_of X G a36)
 cases e
 have T : Txt K mg aL aR := ⟨PySem.W.mg_none_of X G z1, PySem.W.mg_none_of X G z2, PySem.W.mg_none_of X G z3, PySem.W.mg_none_of X G z4, PySem.W.mg_none_of X G z5, PySem.W.mg_none_of X G z6, PySem.W.mg_none_of X G z7, PySem.W.mg_none_of X G z8, PySem.W.mg_none_of X G z9, PySem.W.mg_none_of X G z10, PySem.W.mg_none_of X G z11, PySem.W.mg_none_of X G z12, PySem.W.mg_of X G eL, sqK eLo, PySem.W.mg_of X G eR, sqK eRo⟩
 have F1 := fun_mk (st := s_is_whole) l1 c1 k1
 have D_is_whole : DefAt K mg "is_whole" s_is_whole ["thing"] _ _ := ⟨F1, PySem.W.mg_of X G a1, F1.binds (ps := ["thing"]) fun _ _ _ _ _ _ us hl => match us, hl with | [_], _ => rfl⟩
 have F2 := fun_mk (st := s_greatest_divisor) l2 c2 k2
 have D_greatest_divisor : DefAt K mg "greatest_divisor" s_greatest_divisor ["a", "b"] _ _ := ⟨F2, PySem.W.mg_of X G a2, F2.binds (ps := ["a", "b"]) fun _ _ _ _ _ _ us hl => match us, hl with | [_, _], _ => rfl⟩
 have F3 := fun_mk (st := s_is_fraction) l3 c3 k3
 have D_is_fraction : DefAt K mg "is_fraction" s_is_fraction ["thing"] _ _ := ⟨F3, PySem.W.mg_of X G a3, F3.binds (ps := ["thing"]) fun _ _ _ _ _ _ us hl => match us, hl with | [_], _ => rfl⟩
 have F4 := fun_mk (st := s_made) l4 c4 k4
 have D_made : DefAt K mg "made" s_made ["a", "b"] _ _ := ⟨F4, PySem.W.mg_of X G a4, F4.binds (ps := ["a", "b"]) fun _ _ _ _ _ _ us hl => match us, hl with | [_, _], _ => rfl⟩
 have F5 := fun_mk (st := s_plus) l5 c5 k5
 have D_plus : DefAt K mg "plus" s_plus ["one", "other"] _ _ := ⟨F5, PySem.W.mg_of X G a5, F5.binds (ps := ["one", "other"]) fun _ _ _ _ _ _ us hl => match us, hl with | [_, _], _ => rfl⟩
 have F6 := fun_mk (st := s_minus) l6 c6 k6
 have D_minus : DefAt K mg "minus" s_minus ["one", "other"] _ _ := ⟨F6, PySem.W.mg_of X G a6, F6.binds (ps := ["one", "other"]) fun _ _ _ _ _ _ us hl => match us, hl with | [_, _], _ => rfl⟩
 have F7 := fun_mk (st := s_times) l7 c7 k7
 have D_times : DefAt K mg "times" s_times ["one", "other"] _ _ := ⟨F7, PySem.W.mg_of X G a7, F7.binds (ps := ["one", "other"]) fun _ _ _ _ _ _ us hl => match us, hl with | [_, _], _ => rfl⟩
 have F8 := fun_mk (st := s_over) l8 c8 k8
 have D_over : DefAt K mg "over" s_over ["one", "other"] _ _ := ⟨F8, PySem.W.mg_of X G a8, F8.binds (ps := ["one", "other"]) fun _ _ _ _ _ _ us hl => match us, hl with | [_, _], _ => rfl⟩
 have F9 := fun_mk (st := s_below) l9 c9 k9
 have D_below : DefAt K mg "below" s_below ["one", "other"] _ _ := ⟨F9, PySem.W.mg_of X G a9, F9.binds (ps := ["one", "other"]) fun _ _ _ _ _ _ us hl => match us, hl with | [_, _], _ => rfl⟩
 have F10 := fun_mk (st := s_apart) l10 c10 k10
 have D_apart : DefAt K mg "apart" s_apart ["one", "other"] _ _ := ⟨F10, PySem.W.mg_of X G a10, F10.binds (ps := ["one", "other"]) fun _ _ _ _ _ _ us hl => match us, hl with | [_, _], _ => rfl⟩
 have F11 := fun_mk (st := s_reaches) l11 c11 k11
 have D_reaches : DefAt K mg "reaches" s_reaches ["one", "other", "up"] _ _ := ⟨F11, PySem.W.mg_of X G a11, F11.binds (ps := ["one", "other", "up"]) fun _ _ _ _ _ _ us hl => match us, hl with | [_, _, _], _ => rfl⟩
 have F12 := fun_mk (st := s_crossing) l12 c12 k12
 have D_crossing : DefAt K mg "crossing" s_crossing ["one", "other", "up"] _ _ := ⟨F12, PySem.W.mg_of X G a12, F12.binds (ps := ["one", "other", "up"]) fun _ _ _ _ _ _ us hl => match us, hl with | [_, _, _], _ => rfl⟩
 have F13 := fun_mk (st := s_reached) l13 c13 k13
 have D_reached : DefAt K mg "reached" s_reached ["line", "up"] _ _ := ⟨F13, PySem.W.mg_of X G a13, F13.binds (ps := ["line", "up"]) fun _ _ _ _ _ _ us hl => match us, hl with | [_, _], _ => rfl⟩
 have F14 := fun_mk (st := s_is_span) l14 c14 k14
 have D_is_span : DefAt K mg "is_span" s_is_span ["thing"] _ _ := ⟨F14, PySem.W.mg_of X G a14, F14.binds (ps := ["thing"]) fun _ _ _ _ _ _ us hl => match us, hl with | [_], _ => rfl⟩
 have F15 := fun_mk (st := s_check_piece) l15 c15 k15
 have D_check_piece : DefAt K mg "check_piece" s_check_piece ["piece"] _ _ := ⟨F15, PySem.W.mg_of X G a15, F15.binds (ps := ["piece"]) fun _ _ _ _ _ _ us hl => match us, hl with | [_], _ => rfl⟩
 have F16 := fun_mk (st := s_check_step) l16 c16 k16
 have D_check_step : DefAt K mg "check_step" s_check_step ["step"] _ _ := ⟨F16, PySem.W.mg_of X G a16, F16.binds (ps := ["step"]) fun _ _ _ _ _ _ us hl => match us, hl with | [_], _ => rfl⟩
 have F17 := fun_mk (st := s_check_steps) l17 c17 k17
 have D_check_steps : DefAt K mg "check_steps" s_check_steps ["steps"] _ _ := ⟨F17, PySem.W.mg_of X G a17, F17.binds (ps := ["steps"]) fun _ _ _ _ _ _ us hl => match us, hl with | [_], _ => rfl⟩
 have F18 := fun_mk (st := s_worth_line) l18 c18 k18
 have D_worth_line : DefAt K mg "worth_line" s_worth_line ["steps"] _ _ := ⟨F18, PySem.W.mg_of X G a18, F18.binds (ps := ["steps"]) fun _ _ _ _ _ _ us hl => match us, hl with | [_], _ => rfl⟩
 have F19 := fun_mk (st := s_parted) l19 c19 k19
 have D_parted : DefAt K mg "parted" s_parted ["line", "ups"] _ _ := ⟨F19, PySem.W.mg_of X G a19, F19.binds (ps := ["line", "ups"]) fun _ _ _ _ _ _ us hl => match us, hl with | [_, _], _ => rfl⟩
 have F20 := fun_mk (st := s_check_tastes) l20 c20 k20
 have D_check_tastes : DefAt K mg "check_tastes" s_check_tastes ["tastes"] _ _ := ⟨F20, PySem.W.mg_of X G a20, F20.binds (ps := ["tastes"]) fun _ _ _ _ _ _ us hl => match us, hl with | [_], _ => rfl⟩
 have F21 := fun_mk (st := s_check_takers) l21 c21 k21
 have D_check_takers : DefAt K mg "check_takers" s_check_takers ["tastes", "fewest", "most"] _ _ := ⟨F21, PySem.W.mg_of X G a21, F21.binds (ps := ["tastes", "fewest", "most"]) fun _ _ _ _ _ _ us hl => match us, hl with | [_, _, _], _ => rfl⟩
 have F22 := fun_mk (st := s_next_end_line) l22 c22 k22
 have D_next_end_line : DefAt K mg "next_end_line" s_next_end_line ["line", "taste"] _ _ := ⟨F22, PySem.W.mg_of X G a22, F22.binds (ps := ["line", "taste"]) fun _ _ _ _ _ _ us hl => match us, hl with | [_, _], _ => rfl⟩
 have F23 := fun_mk (st := s_common_worth) l23 c23 k23
 have D_common_worth : DefAt K mg "common_worth" s_common_worth ["tastes"] _ _ := ⟨F23, PySem.W.mg_of X G a23, F23.binds (ps := ["tastes"]) fun _ _ _ _ _ _ us hl => match us, hl with | [_], _ => rfl⟩
 have F24 := fun_mk (st := s__law_cell_at) l24 c24 k24
 have D__law_cell_at : DefAt K mg "_law_cell_at" s__law_cell_at ["_law_script", "_law_k"] _ _ := ⟨F24, PySem.W.mg_of X G a24, F24.binds (ps := ["_law_script", "_law_k"]) fun _ _ _ _ _ _ us hl => match us, hl with | [_, _], _ => rfl⟩
 have F25 := fun_mk (st := s__law_mixed) l25 c25 k25
 have D__law_mixed : DefAt K mg "_law_mixed" s__law_mixed ["_law_cell", "_law_k"] _ _ := ⟨F25, PySem.W.mg_of X G a25, F25.binds (ps := ["_law_cell", "_law_k"]) fun _ _ _ _ _ _ us hl => match us, hl with | [_, _], _ => rfl⟩
 have F26 := fun_mk (st := s__law_low) l26 c26 k26
 have D__law_low : DefAt K mg "_law_low" s__law_low ["_law_a", "_law_b"] _ _ := ⟨F26, PySem.W.mg_of X G a26, F26.binds (ps := ["_law_a", "_law_b"]) fun _ _ _ _ _ _ us hl => match us, hl with | [_, _], _ => rfl⟩
 have F27 := fun_mk (st := s__law_less) l27 c27 k27
 have D__law_less : DefAt K mg "_law_less" s__law_less ["_law_one", "_law_other"] _ _ := ⟨F27, PySem.W.mg_of X G a27, F27.binds (ps := ["_law_one", "_law_other"]) fun _ _ _ _ _ _ us hl => match us, hl with | [_, _], _ => rfl⟩
 have F28 := fun_mk (st := s__law_sum) l28 c28 k28
 have D__law_sum : DefAt K mg "_law_sum" s__law_sum ["_law_one", "_law_other"] _ _ := ⟨F28, PySem.W.mg_of X G a28, F28.binds (ps := ["_law_one", "_law_other"]) fun _ _ _ _ _ _ us hl => match us, hl with | [_, _], _ => rfl⟩
 have F29 := fun_mk (st := s__law_left) l29 c29 k29
 have D__law_left : DefAt K mg "_law_left" s__law_left ["_law_one", "_law_other"] _ _ := ⟨F29, PySem.W.mg_of X G a29, F29.binds (ps := ["_law_one", "_law_other"]) fun _ _ _ _ _ _ us hl => match us, hl with | [_, _], _ => rfl⟩
 have F30 := fun_mk (st := s__law_steps_by) l30 c30 k30
 have D__law_steps_by : DefAt K mg "_law_steps_by" s__law_steps_by ["_law_cell"] _ _ := ⟨F30, PySem.W.mg_of X G a30, F30.binds (ps := ["_law_cell"]) fun _ _ _ _ _ _ us hl => match us, hl with | [_], _ => rfl⟩
 have F31 := fun_mk (st := s__law_area) l31 c31 k31
 have D__law_area : DefAt K mg "_law_area" s__law_area ["_law_steps", "_law_start", "_law_end"] _ _ := ⟨F31, PySem.W.mg_of X G a31, F31.binds (ps := ["_law_steps", "_law_start", "_law_end"]) fun _ _ _ _ _ _ us hl => match us, hl with | [_, _, _], _ => rfl⟩
 have F32 := fun_mk (st := s__law_worth) l32 c32 k32
 have D__law_worth : DefAt K mg "_law_worth" s__law_worth ["_law_steps", "_law_piece_here"] _ _ := ⟨F32, PySem.W.mg_of X G a32, F32.binds (ps := ["_law_steps", "_law_piece_here"]) fun _ _ _ _ _ _ us hl => match us, hl with | [_, _], _ => rfl⟩
 have F33 := fun_mk (st := s__law_fraction) l33 c33 k33
 have D__law_fraction : DefAt K mg "_law_fraction" s__law_fraction ["_law_thing"] _ _ := ⟨F33, PySem.W.mg_of X G a33, F33.binds (ps := ["_law_thing"]) fun _ _ _ _ _ _ us hl => match us, hl with | [_], _ => rfl⟩
 have F34 := fun_mk (st := s__law_piece) l34 c34 k34
 have D__law_piece : DefAt K mg "_law_piece" s__law_piece ["_law_piece_here"] _ _ := ⟨F34, PySem.W.mg_of X G a34, F34.binds (ps := ["_law_piece_here"]) fun _ _ _ _ _ _ us hl => match us, hl with | [_], _ => rfl⟩
 have F35 := fun_mk (st := s__law_dealt) l35 c35 k35
 have D__law_dealt : DefAt K mg "_law_dealt" s__law_dealt ["_law_pieces", "_law_many"] _ _ := ⟨F35, PySem.W.mg_of X G a35, F35.binds (ps := ["_law_pieces", "_law_many"]) fun _ _ _ _ _ _ us hl => match us, hl with | [_, _], _ => rfl⟩
 have F36 := fun_mk (st := s_law) l36 c36 k36
 have D_law : DefAt K mg "law" s_law ["_law_script"] _ _ := ⟨F36, PySem.W.mg_of X G a36, F36.binds (ps := ["_law_script"]) fun _ _ _ _ _ _ us hl => match us, hl with | [_], _ => rfl⟩
 have clC : Cls K C := ⟨pgC, hdC, poC, saC⟩
 have M_Taste___init__ := fun_mk (st := m_Taste___init__) lCm0 cCm0 kCm0
 have b_Taste___init__ := M_Taste___init__.binds (ps := ["self", "steps"]) fun _ _ _ _ _ _ us hl => match us, hl with | [_, _], _ => rfl
 have h_Taste___init__ : Meth K C "__init__" _ := ⟨aCm0, iCm0, kCm0⟩
 have k_Taste : Mk K C _ := ⟨mkC, aCm0, iCm0, kcC⟩
 have M_Taste_steps := fun_mk (st := m_Taste_steps) lCm1 cCm1 kCm1
 have b_Taste_steps := M_Taste_steps.binds (ps := ["self"]) fun _ _ _ _ _ _ us hl => match us, hl with | [_], _ => rfl
 have h_Taste_steps : Meth K C "steps" _ := ⟨aCm1, iCm1, kCm1⟩
 have M_Taste_corners := fun_mk (st := m_Taste_corners) lCm2 cCm2 kCm2
 have b_Taste_corners := M_Taste_corners.binds (ps := ["self"]) fun _ _ _ _ _ _ us hl => match us, hl with | [_], _ => rfl
 have h_Taste_corners : Meth K C "corners" _ := ⟨aCm2, iCm2, kCm2⟩
 have M_Taste_worth_up_to := fun_mk (st := m_Taste_worth_up_to) lCm3 cCm3 kCm3
 have b_Taste_worth_up_to := M_Taste_worth_up_to.binds (ps := ["self", "point"]) fun _ _ _ _ _ _ us hl => match us, hl with | [_, _], _ => rfl
 have h_Taste_worth_up_to : Meth K C "worth_up_to" _ := ⟨aCm3, iCm3, kCm3⟩
 have M_Taste_point_at := fun_mk (st := m_Taste_point_at) lCm4 cCm4 kCm4
 have b_Taste_point_at := M_Taste_point_at.binds (ps := ["self", "worth"]) fun _ _ _ _ _ _ us hl => match us, hl with | [_, _], _ => rfl
 have h_Taste_point_at : Meth K C "point_at" _ := ⟨aCm4, iCm4, kCm4⟩
 have M_Taste_mark := fun_mk (st := m_Taste_mark) lCm5 cCm5 kCm5
 have b_Taste_mark := M_Taste_mark.binds (ps := ["self", "start", "share"]) fun _ _ _ _ _ _ us hl => match us, hl with | [_, _, _], _ => rfl
 have h_Taste_mark : Meth K C "mark" _ := ⟨aCm5, iCm5, kCm5⟩
 have clW : Cls K W := ⟨pgW, hdW, poW, saW⟩
 have M_Alike_deal := fun_mk (st := m_Alike_deal) lWm0 cWm0 kWm0
 have b_Alike_deal := M_Alike_deal.binds (ps := ["self", "tastes"]) fun _ _ _ _ _ _ us hl => match us, hl with | [_, _], _ => rfl
 have h_Alike_deal : Meth K W "deal" _ := ⟨aWm0, iWm0, kWm0⟩
 refine ⟨PySem.W.fnOf "law" "law" (defArgs s_law) (defBody s_law) (defScope s_law) .none kV36 dc36 pm36 an36 cd36 ct36, fun s v => .of_eq rfl, fun base kb nb => ?_⟩
 have TT : TxtT mg := ⟨⟨_, PySem.W.mg_of X G e8⟩, ⟨_, PySem.W.mg_of X G e1⟩, ⟨_, PySem.W.mg_of X G e2⟩⟩
 have TC : TxtC K C := ⟨clC, nCtold, nCline⟩
 have CW := D_is_whole.cl (P := l.prog) (w := w) (base := base) (ok_whole D_is_whole T)
 have CG := D_greatest_divisor.cl (P := l.prog) (w := w) (base := base) (ok_gcd D_greatest_divisor)
 have CM := D_made.cl (P := l.prog) (w := w) (base := base) (ok_made D_made CW CG)
 have C4 : Four l.prog w K mg base := ⟨D_plus.cl (ok_plus D_plus CM), D_minus.cl (ok_minus D_minus CM), D_times.cl (ok_times D_times CM), D_over.cl (ok_over D_over CM), D_below.cl (ok_below D_below)⟩
 have CF := D_is_fraction.cl (P := l.prog) (w := w) (base := base) (ok_frac D_is_fraction CW CG T)
 have CR := D_reached.cl (ok_reached D_reached (D_reaches.cl (ok_reaches D_reaches C4.below)) (D_crossing.cl (ok_crossing D_crossing C4 (D_apart.cl (ok_apart D_apart C4.below C4.minus)))) T)
 have CK := D_check_piece.cl (ok_check D_check_piece (D_is_span.cl (ok_span D_is_span CF C4.below T)) C4.below T)
 have CS := D_check_steps.cl (ok_steps D_check_steps (D_check_step.cl (ok_step D_check_step CF CW T TT)) C4.below T TT)
 have CWL := D_worth_line.cl (ok_line D_worth_line C4 T)
 have MC : Mc l.prog w K mg base "Taste" C 5 ["self", "steps"] (spInit K C) := ⟨_, _, k_Taste, PySem.W.mg_of X G aC, b_Taste___init__, ok_init M_Taste___init__ CS CWL T TC⟩
 have MU : Ml l.prog w K mg base C "worth_up_to" 7 ["self", "point"] (spUpTo K C) := ⟨_, _, h_Taste_worth_up_to, b_Taste_worth_up_to, ok_upto M_Taste_worth_up_to CR TC⟩
 have LC := D__law_cell_at.cl (P := l.prog) (w := w) (base := base) (ok_cell D__law_cell_at T)
 have LM := D__law_mixed.cl (P := l.prog) (w := w) (base := base) (ok_mixed D__law_mixed)
 have okl := ok_low (P := l.prog) (w := w) (base := base) D__law_low
 have LL := D__law_low.cl okl
 have LQ : Cl l.prog w K mg base "_law_low" 1 ["_law_a", "_law_b"] (spMadeQ K) := D__law_low.cl (okl.imp madeQ)
 have L3 : Law3 l.prog w K mg base := ⟨D__law_less.cl (ok_less D__law_less), D__law_left.cl (ok_left D__law_left LL), D__law_sum.cl (ok_sum D__law_sum LL)⟩
 have LS := D__law_steps_by.cl (ok_stepsby D__law_steps_by LM LQ T)
 have LW := D__law_worth.cl (ok_lworth D__law_worth (D__law_area.cl (ok_area D__law_area L3)) L3.sum LQ)
 have MT : Ml l.prog w K mg base C "steps" 1 ["self"] (spTold K C) := ⟨_, _, h_Taste_steps, b_Taste_steps, ok_told M_Taste_steps T TC⟩
 have MP : Ml l.prog w K mg base C "point_at" 7 ["self", "worth"] (spPointAt K C) := ⟨_, _, h_Taste_point_at, b_Taste_point_at, ok_pointat M_Taste_point_at CR TC⟩
 have MM : Ml l.prog w K mg base C "mark" 8 ["self", "start", "share"] (spMark K C) := ⟨_, _, h_Taste_mark, b_Taste_mark, ok_mark M_Taste_mark C4 MU MP T TC⟩
 have IC : IsC K C := ⟨clC, haC, hnC, htC, hmC⟩
 have CTs := D_check_tastes.cl (P := l.prog) (w := w) (base := base) (ok_tastes D_check_tastes T IC (PySem.W.mg_of X G aC))
 have CTk := D_check_takers.cl (ok_takers D_check_takers CTs T)
 have LF := D__law_fraction.cl (ok_lfrac D__law_fraction LQ T)
 have LPc := D__law_piece.cl (ok_lpiece D__law_piece LF L3.less T)
 have LD := D__law_dealt.cl (ok_dealt D__law_dealt LPc T (PySem.W.mg_none_of X G zall))
 have MKW : MkP K W := ⟨mkW, oiW, kcW⟩
 have CX := D_crossing.cl (ok_crossing D_crossing C4 (D_apart.cl (ok_apart D_apart C4.below C4.minus)))
 have CPt := D_parted.cl (ok_parted D_parted C4.below CX T)
 have MCn : Ml l.prog w K mg base C "corners" 1 ["self"] (spCorners K C) := ⟨_, _, h_Taste_corners, b_Taste_corners, ok_corners M_Taste_corners T TC⟩
 have CNx := D_next_end_line.cl (ok_next D_next_end_line CPt C4 MCn MU MP T TC)
 have CCw := D_common_worth.cl (ok_common D_common_worth CNx T)
 have MD : Ml l.prog w K mg base W "deal" 10 ["self", "tastes"] (spAlike K C) := ⟨_, _, h_Alike_deal, b_Alike_deal, ok_alike M_Alike_deal CTk CCw MM T TC⟩
 exact ok_law D_law ⟨LC, LS, LW, LD, MC, MT, MD, MKW, PySem.W.mg_of X G aW, clW⟩ T TC (PySem.W.mg_none_of X G zall)
theorem walk {l : PySem.W.OpenLaw} {q : Program} {loose : List Str} {XP : (Str → Option Value) → Heap → Prop} {YP : World → Heap → Prop} {d : DefRec} {K : Params → PySem.W.Frag} (hn : l.most = some 63) (hdf : d.params.defaults = [])
  (hY : ∀ (w : World) (h : Heap), YP w h → (K w.params).In h)
  (F : ∀ (w : World) (mg : Str → Option Value) (fa : Addr) (h : Heap), (K w.params).In h → h.Ns mainGlobals mg → mg d.name = some (.ref fa) →
   ∃ fd : FuncData, (∀ (s : Shared) (u : Value), BindsTo s fd ⟨[u], []⟩ [("_law_script", u)]) ∧ ∀ base : Heap, (K w.params).In base → base.Ns mainGlobals mg → FnOk l.prog w (K w.params) mg base CX0 11 fa fd ["_law_script"] (spLaw (K w.params))) :
  PySem.W.WalkO q loose XP YP l.row.toRowW d [] (fun f vs => PySem.call f vs) :=
 L2.walk_of (n := 63) (k := 11) (x := "_law_script") (CX := fun _ => CX0) (sp := fun w => spLaw (K w.params)) hn (by decide) hdf ⟨rfl, by decide, by decide⟩ hY F (fun _ _ a ns hl _ hS => ⟨a, ns, rfl, hS, hl, fun _ => rfl⟩) fun _ _ _ _ _ z => z
end FQ
namespace FQ
open PySem PySem.W PySem.Calls PyProof.Rows
theorem left_one {p q : Program} {loose : List Str} {Xt : Shared → Bool} {α : Type} {Yf : Shared → α} {Ya : World → α} {N : Nat} {H : Params → Heap} {gs : Array GenState} {dr : Drawn} {tk m : Nat} {an : Option Value}
  (e0 : ∀ w : World, (fencedOpening treeTable p w N).map (fun s => (s.heap, s.gens, s.drawn, s.toks)) = some (H w.params, gs, dr, tk))
  (e1 : ∀ w : World, ((H w.params).isNs mainGlobals && gs.size == 0, (H w.params).objs.size, (H w.params).nsMap mainGlobals "__annotations__") = (true, m, an))
  (e2 : ∀ (w : World) (os : OsState), ∃ s M, Nat.ble M N = true ∧ topRun treeTable p w m an M ⟨H w.params, gs, dr, tk, os⟩ (topStub p) = some s ∧
   (staticsOk (importedModules p.main.body) (H w.params) s.heap && namesBound p s.heap && gensDone s && laidKept (H w.params) s.heap) = true ∧
   openSeen q loose (importedModules p.main.body) Xt true s = openGood q loose ∧ Yf s = Ya w) : LeftO p q loose Xt Yf Ya N := fun w => by
 obtain ⟨⟨h, g, d, k, os⟩, a, b⟩ := Option.map_eq_some_iff.mp (e0 w)
 have b' : h = H w.params ∧ g = gs ∧ d = dr ∧ k = tk := by simpa using b
 obtain ⟨rfl, rfl, rfl, rfl⟩ := b'
 have z := e1 w
 simp only [Prod.mk.injEq] at z
 obtain ⟨z1, z2, z3⟩ := z
 obtain ⟨s, M, le, r, l1, l2, l3⟩ := e2 w os
 have r' := topRun_mono (N - M) _ _ _ _ r
 have hN : M + (N - M) = N := by have := Nat.le_of_ble_eq_true le; omega
 rw [hN] at r'
 have t : topFrom treeTable p w N ⟨H w.params, g, d, k, os⟩ = some s := by
  unfold topFrom
  dsimp only
  rw [z1, z2, z3, r']
  dsimp only [Option.bind]
  rw [l1]
 unfold openEnds
 rw [a]
 dsimp only [Option.bind]
 rw [t]
 exact congrArg some (Prod.ext l2 l3)
theorem run_one {p : Program} {w : World} {m : Nat} {an : Option Value} {env : Env} {fp posA posB posC : Pos} {n0 nb n1 n2 : Nat} {s0 sA r : Shared} {sT s' : SharedT} {b : List Stmt}
  (h0 : topGo treeTable p w m an n0 s0 (topStub p) = some (sA, ⟨denote treeTable (.body b env), .body b env, posA, [topFrame fp]⟩))
  (hb : segRun treeTable p w m an 1 nb sA (blockOf b env (.body b env) posA [topFrame fp]) = some (.next, sT.abs, .body b env, posB))
  (h1 : segRunT treeTable p w m an 1 n1 sT (piecesOf b env (.body b env) posB [topFrame fp]) = some (.next, s', .body b env, posC))
  (h2 : topRun treeTable p w m an n2 s'.abs ⟨doneF .next, .body b env, posC, [topFrame fp]⟩ = some r) :
  topRun treeTable p w m an (n0 + (nb + (n1 + n2))) s0 (topStub p) = some r := by
 have k := piece_app (rest := []) (segRun_of h1) (piece_nil (env := env) h2)
 rw [List.append_nil] at k
 exact go_top h0 (piece_block hb k)
end FQ
namespace FQ
open PySem PySem.W PySem.Calls PyProof.Rows
noncomputable section
abbrev pw : Program := PySem.Challenge.pw_fairknife_k11_whole_alike
def qv : Program := view pw [0, 2, 3, 4, 5, 6, 8, 9, 10, 11, 12, 13, 14, 15, 16, 18, 19, 20, 21, 22, 24, 25, 26, 27, 29, 30, 31, 32, 33, 34, 35, 36, 38, 39, 40, 41, 42, 44, 45, 46, 47, 48, 49, 50, 51, 52, 53, 54, 55, 56]
def xt (s : Shared) : Bool := xlAt qv [] s && recOk (RowW.records (OpenRow.toRowW (OpenLaw.row PySem.Challenge.rw_fairknife_k11_whole_alike))) s
def envT : Env := { scope := pw.main.scope, locals := mainNs, globals := mainNs, cells := [], code := Value.ref 13, frame := some 14 }
abbrev bT : List Stmt := behindTheImports pw
abbrev cT : Code := .body bT envT
def fpT : Pos := { line := 0, col := 0, endLine := 0, endCol := 0 }
def paT : Pos := { line := 0, col := 0, endLine := 0, endCol := 0 }
def pbT : Pos := { line := 0, col := 0, endLine := 0, endCol := 0 }
def pcT : Pos := { line := 292, col := 0, endLine := 321, endCol := 117 }
def anT : Option Value := Option.some (Value.ref 6)
def hx0 : Params → Obj := fun P => { cls := Value.type "tuple", data := Data.seq #[] }
def hx1 : Params → Obj := fun P => { cls := Value.none, data := Data.fields #[] }
def hx2 : Params → Obj := fun P => { cls := Value.type "code", data := Data.fields #[Value.str (Str.ofString "<module>") 182, Value.str (Str.ofString "<module>") 183, Value.str (Str.ofString "/claim/cut.py") 184, Value.int 1 0, Value.int 0 0, Value.int 0 0, Value.int 0 0, Value.int 0 0, Value.ref 11, Value.bool Bool.false, Value.int 181 0, Value.ref 12, Value.none, Value.none, Value.none, Value.none, Value.int 185 0, Value.int 1 0, Value.str (Str.ofString "/claim/cut.py") 186] }
def hx3 : Params → Obj := fun P => { cls := Value.type "frame", slots := #[Option.some (Value.ref 13), Option.some (Value.ref 3), Option.some (Value.ref 3), Option.none, Option.some (Value.str (Str.ofString "__main__") 164), Option.none, Option.some (Value.ref 0)] }
def haT (P : Params) : Heap := ⟨⟨[boot_o_0 P, boot_o_1 P, boot_o_2 P, boot_o_3 P, boot_o_4 P, boot_o_5 P, boot_o_6 P, boot_o_7 P, boot_o_8 P, boot_o_9 P, boot_o_10 P, hx0 P, hx1 P, hx2 P, hx3 P]⟩, { }⟩
def tbT (P : Params) : BT := (.node (boot_o_0 P) (.node (boot_o_1 P) (.node (boot_o_3 P) (.node (boot_o_7 P) .nil .nil) (.node (hx0 P) .nil .nil)) (.node (boot_o_5 P) (.node (boot_o_9 P) .nil .nil) (.node (hx2 P) .nil .nil))) (.node (boot_o_2 P) (.node (boot_o_4 P) (.node (boot_o_8 P) .nil .nil) (.node (hx1 P) .nil .nil)) (.node (boot_o_6 P) (.node (boot_o_10 P) .nil .nil) (.node (hx3 P) .nil .nil))))
def saT (w : World) (os : OsState) : Shared := ⟨haT w.params, .mk [], { }, 187, os⟩
def sbT (w : World) (os : OsState) : SharedT := ⟨tbT w.params, 15, { }, .mk [], { }, 187, os⟩
def s0T (w : World) (os : OsState) : Shared := ⟨boot_heap w.params, .mk [], boot_drawn, boot_toks, os⟩
def aT (w : World) (os : OsState) := topGo treeTable pw w 11 anT 12 (s0T w os) (topStub pw)
def aR (w : World) (os : OsState) : Option (Shared × Thread) := some (saT w os, ⟨denote treeTable cT, cT, paT, [topFrame fpT]⟩)
def bL (w : World) (os : OsState) := segRun treeTable pw w 11 anT 1 1 (saT w os) (blockOf bT envT cT paT [topFrame fpT])
def bR (w : World) (os : OsState) : Option (Flow × Shared × Code × Pos) := some (.next, (sbT w os).abs, cT, pbT)
def zL (w : World) := ((boot_heap w.params).isNs mainGlobals && (Array.mk ([] : List GenState)).size == 0, (boot_heap w.params).objs.size, (boot_heap w.params).nsMap mainGlobals "__annotations__")
def zR : Bool × Nat × Option Value := (true, 11, anT)
def runT (w : World) (os : OsState) : Option ((Flow × Code × Pos) × Shared) :=
 (segRunT treeTable pw w 11 anT 1 3222 (sbT w os) (piecesOf bT envT cT pbT [topFrame fpT])).bind fun x =>
  (topRun treeTable pw w 11 anT 2 x.2.1.abs ⟨doneF .next, cT, pcT, [topFrame fpT]⟩).map fun s => ((x.1, x.2.2.1, x.2.2.2), s)
def osT (s : Shared) := openSeen qv [] (importedModules pw.main.body) xt true s
def eA (w : World) (os : OsState) := (runT w os).map fun y => (y.1, (staticsOk (importedModules pw.main.body) (boot_heap w.params) y.2.heap && namesBound pw y.2.heap && gensDone y.2 && laidKept (boot_heap w.params) y.2.heap))
def eB (w : World) (os : OsState) := (runT w os).map fun y => (osT y.2).1
def eF (w : World) (os : OsState) := (runT w os).map fun y => (osT y.2).2.1
def eC (w : World) (os : OsState) := (runT w os).map fun y => (osT y.2).2.2.1
def eD (w : World) (os : OsState) := (runT w os).map fun y => ((osT y.2).2.2.2.1, (osT y.2).2.2.2.2.1, (osT y.2).2.2.2.2.2.1)
def eG (w : World) (os : OsState) := (runT w os).map fun y => (osT y.2).2.2.2.2.2.2
def eE (as : List Addr) (w : World) (os : OsState) := (runT w os).map fun y => as.map y.2.heap.get?
def rA := (((.next, cT, pcT) : Flow × Code × Pos), true)
def rB := (openGood qv []).1
def rF := (openGood qv []).2.1
def rC := (openGood qv []).2.2.1
def rD := ((openGood qv []).2.2.2.1, (openGood qv []).2.2.2.2.1, (openGood qv []).2.2.2.2.2.1)
def rG := (openGood qv []).2.2.2.2.2.2
theorem aT_s : aT = aT := rfl
theorem aR_s : aR = aR := rfl
theorem bL_s : bL = bL := rfl
theorem bR_s : bR = bR := rfl
theorem zL_s : zL = zL := rfl
theorem eA_s : eA = eA := rfl
theorem eB_s : eB = eB := rfl
theorem eF_s : eF = eF := rfl
theorem eC_s : eC = eC := rfl
theorem eD_s : eD = eD := rfl
theorem eG_s : eG = eG := rfl
theorem eE_s : eE = eE := rfl
theorem rA_s : rA = rA := rfl
theorem rB_s : rB = rB := rfl
theorem rF_s : rF = rF := rfl
theorem rC_s : rC = rC := rfl
theorem rD_s : rD = rD := rfl
theorem rG_s : rG = rG := rfl
end
end FQ
name_quick qaT for FQ.aT by FQ.aT_s
name_quick qaR for FQ.aR by FQ.aR_s
name_quick qbL for FQ.bL by FQ.bL_s
name_quick qbR for FQ.bR by FQ.bR_s
name_quick qzL for FQ.zL by FQ.zL_s
name_quick qeA for FQ.eA by FQ.eA_s
name_quick qeB for FQ.eB by FQ.eB_s
name_quick qeF for FQ.eF by FQ.eF_s
name_quick qeC for FQ.eC by FQ.eC_s
name_quick qeD for FQ.eD by FQ.eD_s
name_quick qeG for FQ.eG by FQ.eG_s
name_quick qeE for FQ.eE by FQ.eE_s
name_quick qrA for FQ.rA by FQ.rA_s
name_quick qrB for FQ.rB by FQ.rB_s
name_quick qrF for FQ.rF by FQ.rF_s
name_quick qrC for FQ.rC by FQ.rC_s
name_quick qrD for FQ.rD by FQ.rD_s
name_quick qrG for FQ.rG by FQ.rG_s
namespace FQ
open PySem PySem.W PySem.Calls PyProof.Rows
theorem a_eq : aT = aR := PySem.W.Fast.qaT_eq.trans ((by kernel_rfl : PySem.W.Fast.qaT = PySem.W.Fast.qaR).trans PySem.W.Fast.qaR_eq.symm)
theorem b_eq : bL = bR := PySem.W.Fast.qbL_eq.trans ((by kernel_rfl : PySem.W.Fast.qbL = PySem.W.Fast.qbR).trans PySem.W.Fast.qbR_eq.symm)
theorem z_eq : zL = fun _ => zR := PySem.W.Fast.qzL_eq.trans (by kernel_rfl : PySem.W.Fast.qzL = fun _ => zR)
theorem op_eq (w : World) : (fencedOpening treeTable pw w 6568).map (fun s => (s.heap, s.gens, s.drawn, s.toks)) = some (boot_heap w.params, Array.mk [], boot_drawn, boot_toks) :=
 boot_open (by kernel_rfl) (by decide) (fun s => by kernel_rfl) w
theorem evA : PySem.W.Fast.qeA = fun _ _ => some PySem.W.Fast.qrA := by kernel_rfl
theorem evB : PySem.W.Fast.qeB = fun _ _ => some PySem.W.Fast.qrB := by kernel_rfl
theorem evC : PySem.W.Fast.qeC = fun _ _ => some PySem.W.Fast.qrC := by kernel_rfl
theorem evD : PySem.W.Fast.qeD = fun _ _ => some PySem.W.Fast.qrD := by kernel_rfl
theorem evF : PySem.W.Fast.qeF = fun _ _ => some PySem.W.Fast.qrF := by kernel_rfl
theorem evG : PySem.W.Fast.qeG = fun _ _ => some PySem.W.Fast.qrG := by kernel_rfl
theorem left_of {as : List Addr} {Ya : World → List (Option Obj)} (ev : ∀ w, PySem.W.Fast.qeE as w = fun _ => some (Ya w)) : LeftO pw qv [] xt (fun s => as.map s.heap.get?) Ya 6568 := by
 refine left_one (H := boot_heap) (gs := .mk []) (m := 11) (an := anT) op_eq (congrFun z_eq) fun w os => ?_
 have hA : eA w os = some rA := by rw [PySem.W.Fast.qeA_eq, PySem.W.Fast.qrA_eq, evA]
 have hB : eB w os = some rB := by rw [PySem.W.Fast.qeB_eq, PySem.W.Fast.qrB_eq, evB]
 have hC : eC w os = some rC := by rw [PySem.W.Fast.qeC_eq, PySem.W.Fast.qrC_eq, evC]
 have hD : eD w os = some rD := by rw [PySem.W.Fast.qeD_eq, PySem.W.Fast.qrD_eq, evD]
 have hF : eF w os = some rF := by rw [PySem.W.Fast.qeF_eq, PySem.W.Fast.qrF_eq, evF]
 have hG : eG w os = some rG := by rw [PySem.W.Fast.qeG_eq, PySem.W.Fast.qrG_eq, evG]
 have hE : eE as w os = some (Ya w) := by rw [PySem.W.Fast.qeE_eq]; exact congrFun (ev w) os
 unfold eA at hA
 unfold eB at hB
 unfold eC at hC
 unfold eD at hD
 unfold eE at hE
 unfold eF at hF
 unfold eG at hG
 obtain ⟨y, hy, e⟩ := Option.map_eq_some_iff.mp hA
 rw [hy] at hB hC hD hE hF hG
 unfold runT at hy
 obtain ⟨x, hx, e'⟩ := Option.bind_eq_some_iff.mp hy
 obtain ⟨s, hs, e''⟩ := Option.map_eq_some_iff.mp e'
 obtain ⟨f, s', c', p'⟩ := x
 subst e''
 unfold rA at e
 simp only [Prod.mk.injEq] at e
 obtain ⟨⟨rfl, rfl, rfl⟩, e1⟩ := e
 have b1 : (osT s).1 = (openGood qv []).1 := Option.some.inj hB
 have b2 : (osT s).2.1 = (openGood qv []).2.1 := Option.some.inj hF
 have b3 : (osT s).2.2.1 = (openGood qv []).2.2.1 := Option.some.inj hC
 have b4 : ((osT s).2.2.2.1, (osT s).2.2.2.2.1, (osT s).2.2.2.2.2.1) = ((openGood qv []).2.2.2.1, (openGood qv []).2.2.2.2.1, (openGood qv []).2.2.2.2.2.1) := Option.some.inj hD
 have b5 : (osT s).2.2.2.2.2.2 = (openGood qv []).2.2.2.2.2.2 := Option.some.inj hG
 have e2 : osT s = openGood qv [] := Prod.ext b1 (Prod.ext b2 (Prod.ext b3 (Prod.ext (congrArg (fun z => z.1) b4) (Prod.ext (congrArg (fun z => z.2.1) b4) (Prod.ext (congrArg (fun z => z.2.2) b4) b5)))))
 exact ⟨s, 12 + (1 + (3222 + 2)), by decide, run_one (congrFun (congrFun a_eq w) os) (congrFun (congrFun b_eq w) os) hx hs, e1, e2, Option.some.inj hE⟩
end FQ
open PySem PySem.W PyProof.Rows
section
local macro_rules | `(tactic| o_head $H) => `(tactic| exact (fun (_ : PySem.W.Hook) => by assumption) $H)
set_option maxRecDepth 100000 in
theorem FQ.pre (h : PySem.W.OpenRow.Holds (PySem.W.OpenLaw.row PySem.Challenge.rw_fairknife_k11_whole_alike)) : PySem.W.OpenRow.Holds (PySem.W.OpenLaw.row PySem.Challenge.rw_fairknife_k11_whole_alike) := by
 k_head
end
def FQ.hA : List Addr := [2, 3, 15, 17, 18, 20, 21, 22, 29, 30, 31, 32, 35, 42, 43, 44, 47, 54, 55, 56, 59, 66, 67, 68, 71, 78, 79, 80, 83, 85, 86, 88, 89, 90, 92, 93, 95, 96, 97, 99, 100, 102, 103, 104, 106, 107, 109, 110, 111, 113, 114, 116, 117, 118, 120, 121, 123, 124, 125, 127, 128, 130, 131, 132, 134, 135, 137, 138, 139, 141, 142, 144, 145, 146, 148, 149, 151, 152, 153, 155, 156, 158, 159, 160, 162, 163, 165, 166, 167, 169, 170, 172, 173, 174, 176, 177, 179, 180, 181, 182, 183, 185, 186, 188, 189, 190, 192, 193, 195, 196, 197, 199, 200, 202, 203, 204, 206, 207, 209, 210, 211, 213, 214, 216, 217, 218, 221, 222, 230, 232, 233, 235, 236, 237, 239, 240, 242, 243, 244, 246, 247, 249, 250, 251, 254, 255, 256, 258, 259, 261, 262, 263, 265, 266, 268, 269, 270, 272, 273, 275, 276, 277, 279, 280, 282, 283, 284, 286, 287, 289, 290, 291, 292, 293, 294, 295, 298, 300, 301, 303, 304, 305, 308, 309, 310, 312, 313, 315, 316, 324, 326, 327, 329, 330, 331, 332, 333, 334, 335, 338, 345, 347, 348, 350, 351, 352, 353, 354, 357, 359, 360, 362, 363, 364, 366, 367, 369, 370, 371, 373, 374, 376, 377, 378, 380, 381, 383, 384, 385, 387, 388, 390, 391, 392, 394, 395, 397, 398, 399, 401, 402, 404, 405, 406, 408, 409, 411, 412, 413, 415, 416, 418, 419, 420, 423, 424, 425, 427, 428, 430, 431, 432, 435, 436, 437, 440, 441]
set_option maxRecDepth 100000 in
theorem FQ.ev : ∀ w : World, PySem.W.Fast.qeE FQ.hA w = fun _ => some ((FQ.pre.heap_1 w.params).map fun p => some p.2) := fun w => by kernel_rfl
local macro_rules | `(tactic| o_head $H) => `(tactic| refine holds_open (q := FQ.qv) (loose := []) (Xt := FQ.xt) (XP := XL FQ.qv []) (Yf := Hook.obs $H) (Ya := Hook.val $H) (YP := Hook.says $H) (N := 6568) (FQ.left_of FQ.ev) (Hook.of $H) (Hook.keeps $H) (fun s e => xl_of s (Bool.and_eq_true_iff.mp e).1) XL.keeps (by rfl) (by rfl) (by rfl) (fun s e => recFacts_of (Bool.and_eq_true_iff.mp e).2) (by rfl) (by first | assumption | decide +kernel) (by decide +kernel) ⟨rfl, rfl, rfl, rfl, rfl, by decide +kernel⟩ ?_ ?_)
open PySem PySem.W PyProof.Rows
set_option maxRecDepth 100000 in
set_option maxHeartbeats 0 in
theorem PySem.Challenge.cw_fairknife_k11_whole_alike_holds : PySem.Challenge.rw_fairknife_k11_whole_alike.Holds := by
 w_on; o_law; o_head (kHook FQ.pre.heap_1 FQ.hA (fun _ => by kernel_rfl)); (· w_witness2)
 k_fill
 refine FQ.walk (l := PySem.Challenge.rw_fairknife_k11_whole_alike) rfl rfl (fun w h Y => PySem.W.kIn_of Y) ?F
 case F =>
  intro w mg fa h KX G hmg
  refine' FQ.all_mk KX G hmg ?a1 ?l1 ?c1 ?k1 ?a2 ?l2 ?c2 ?k2 ?a3 ?l3 ?c3 ?k3 ?a4 ?l4 ?c4 ?k4 ?a5 ?l5 ?c5 ?k5 ?a6 ?l6 ?c6 ?k6 ?a7 ?l7 ?c7 ?k7 ?a8 ?l8 ?c8 ?k8 ?a9 ?l9 ?c9 ?k9 ?a10 ?l10 ?c10 ?k10 ?a11 ?l11 ?c11 ?k11 ?a12 ?l12 ?c12 ?k12 ?a13 ?l13 ?c13 ?k13 ?a14 ?l14 ?c14 ?k14 ?a15 ?l15 ?c15 ?k15 ?a16 ?l16 ?c16 ?k16 ?a17 ?l17 ?c17 ?k17 ?a18 ?l18 ?c18 ?k18 ?a19 ?l19 ?c19 ?k19 ?a20 ?l20 ?c20 ?k20 ?a21 ?l21 ?c21 ?k21 ?a22 ?l22 ?c22 ?k22 ?a23 ?l23 ?c23 ?k23 ?a24 ?l24 ?c24 ?k24 ?a25 ?l25 ?c25 ?k25 ?a26 ?l26 ?c26 ?k26 ?a27 ?l27 ?c27 ?k27 ?a28 ?l28 ?c28 ?k28 ?a29 ?l29 ?c29 ?k29 ?a30 ?l30 ?c30 ?k30 ?a31 ?l31 ?c31 ?k31 ?a32 ?l32 ?c32 ?k32 ?a33 ?l33 ?c33 ?k33 ?a34 ?l34 ?c34 ?k34 ?a35 ?l35 ?c35 ?k35 ?a36 ?l36 ?c36 ?k36 ?aC ?aCm0 ?lCm0 ?cCm0 ?kCm0 ?iCm0 ?aCm1 ?lCm1 ?cCm1 ?kCm1 ?iCm1 ?aCm2 ?lCm2 ?cCm2 ?kCm2 ?iCm2 ?aCm3 ?lCm3 ?cCm3 ?kCm3 ?iCm3 ?aCm4 ?lCm4 ?cCm4 ?kCm4 ?iCm4 ?aCm5 ?lCm5 ?cCm5 ?kCm5 ?iCm5 ?pgC ?hdC ?poC ?saC ?mkC ?kcC ?nCtold ?nCline ?aW ?aWm0 ?lWm0 ?cWm0 ?kWm0 ?iWm0 ?pgW ?hdW ?poW ?saW ?mkW ?kcW ?z1 ?z2 ?z3 ?z4 ?z5 ?z6 ?z7 ?z8 ?z9 ?z10 ?z11 ?z12 ?eL ?eLo ?eR ?eRo ?e8 ?e1 ?e2 ?haC ?hnC ?htC ?hmC ?oiW ?zall
  (case a1 => k_is)
  (case l1 => k_is)
  (case c1 => k_is)
  (case k1 => k_is)
  (case a2 => k_is)
  (case l2 => k_is)
  (case c2 => k_is)
  (case k2 => k_is)
  (case a3 => k_is)
  (case l3 => k_is)
  (case c3 => k_is)
  (case k3 => k_is)
  (case a4 => k_is)
  (case l4 => k_is)
  (case c4 => k_is)
  (case k4 => k_is)
  (case a5 => k_is)
  (case l5 => k_is)
  (case c5 => k_is)
  (case k5 => k_is)
  (case a6 => k_is)
  (case l6 => k_is)
  (case c6 => k_is)
  (case k6 => k_is)
  (case a7 => k_is)
  (case l7 => k_is)
  (case c7 => k_is)
  (case k7 => k_is)
  (case a8 => k_is)
  (case l8 => k_is)
  (case c8 => k_is)
  (case k8 => k_is)
  (case a9 => k_is)
  (case l9 => k_is)
  (case c9 => k_is)
  (case k9 => k_is)
  (case a10 => k_is)
  (case l10 => k_is)
  (case c10 => k_is)
  (case k10 => k_is)
  (case a11 => k_is)
  (case l11 => k_is)
  (case c11 => k_is)
  (case k11 => k_is)
  (case a12 => k_is)
  (case l12 => k_is)
  (case c12 => k_is)
  (case k12 => k_is)
  (case a13 => k_is)
  (case l13 => k_is)
  (case c13 => k_is)
  (case k13 => k_is)
  (case a14 => k_is)
  (case l14 => k_is)
  (case c14 => k_is)
  (case k14 => k_is)
  (case a15 => k_is)
  (case l15 => k_is)
  (case c15 => k_is)
  (case k15 => k_is)
  (case a16 => k_is)
  (case l16 => k_is)
  (case c16 => k_is)
  (case k16 => k_is)
  (case a17 => k_is)
  (case l17 => k_is)
  (case c17 => k_is)
  (case k17 => k_is)
  (case a18 => k_is)
  (case l18 => k_is)
  (case c18 => k_is)
  (case k18 => k_is)
  (case a19 => k_is)
  (case l19 => k_is)
  (case c19 => k_is)
  (case k19 => k_is)
  (case a20 => k_is)
  (case l20 => k_is)
  (case c20 => k_is)
  (case k20 => k_is)
  (case a21 => k_is)
  (case l21 => k_is)
  (case c21 => k_is)
  (case k21 => k_is)
  (case a22 => k_is)
  (case l22 => k_is)
  (case c22 => k_is)
  (case k22 => k_is)
  (case a23 => k_is)
  (case l23 => k_is)
  (case c23 => k_is)
  (case k23 => k_is)
  (case a24 => k_is)
  (case l24 => k_is)
  (case c24 => k_is)
  (case k24 => k_is)
  (case a25 => k_is)
  (case l25 => k_is)
  (case c25 => k_is)
  (case k25 => k_is)
  (case a26 => k_is)
  (case l26 => k_is)
  (case c26 => k_is)
  (case k26 => k_is)
  (case a27 => k_is)
  (case l27 => k_is)
  (case c27 => k_is)
  (case k27 => k_is)
  (case a28 => k_is)
  (case l28 => k_is)
  (case c28 => k_is)
  (case k28 => k_is)
  (case a29 => k_is)
  (case l29 => k_is)
  (case c29 => k_is)
  (case k29 => k_is)
  (case a30 => k_is)
  (case l30 => k_is)
  (case c30 => k_is)
  (case k30 => k_is)
  (case a31 => k_is)
  (case l31 => k_is)
  (case c31 => k_is)
  (case k31 => k_is)
  (case a32 => k_is)
  (case l32 => k_is)
  (case c32 => k_is)
  (case k32 => k_is)
  (case a33 => k_is)
  (case l33 => k_is)
  (case c33 => k_is)
  (case k33 => k_is)
  (case a34 => k_is)
  (case l34 => k_is)
  (case c34 => k_is)
  (case k34 => k_is)
  (case a35 => k_is)
  (case l35 => k_is)
  (case c35 => k_is)
  (case k35 => k_is)
  (case a36 => k_is)
  (case l36 => k_is)
  (case c36 => k_is)
  (case k36 => k_is)
  (case aC => k_is)
  (case aCm0 => k_is)
  (case lCm0 => k_is)
  (case cCm0 => k_is)
  (case kCm0 => k_is)
  (case iCm0 => k_is)
  (case aCm1 => k_is)
  (case lCm1 => k_is)
  (case cCm1 => k_is)
  (case kCm1 => k_is)
  (case iCm1 => k_is)
  (case aCm2 => k_is)
  (case lCm2 => k_is)
  (case cCm2 => k_is)
  (case kCm2 => k_is)
  (case iCm2 => k_is)
  (case aCm3 => k_is)
  (case lCm3 => k_is)
  (case cCm3 => k_is)
  (case kCm3 => k_is)
  (case iCm3 => k_is)
  (case aCm4 => k_is)
  (case lCm4 => k_is)
  (case cCm4 => k_is)
  (case kCm4 => k_is)
  (case iCm4 => k_is)
  (case aCm5 => k_is)
  (case lCm5 => k_is)
  (case cCm5 => k_is)
  (case kCm5 => k_is)
  (case iCm5 => k_is)
  (case pgC => k_is)
  (case hdC => k_is)
  (case poC => k_is)
  (case saC => k_is)
  (case mkC => k_is)
  (case kcC => k_is)
  (case nCtold => k_is)
  (case nCline => k_is)
  (case aW => k_is)
  (case aWm0 => k_is)
  (case lWm0 => k_is)
  (case cWm0 => k_is)
  (case kWm0 => k_is)
  (case iWm0 => k_is)
  (case pgW => k_is)
  (case hdW => k_is)
  (case poW => k_is)
  (case saW => k_is)
  (case mkW => k_is)
  (case kcW => k_is)
  (case z1 => k_is)
  (case z2 => k_is)
  (case z3 => k_is)
  (case z4 => k_is)
  (case z5 => k_is)
  (case z6 => k_is)
  (case z7 => k_is)
  (case z8 => k_is)
  (case z9 => k_is)
  (case z10 => k_is)
  (case z11 => k_is)
  (case z12 => k_is)
  (case eL => k_is)
  (case eLo => k_is)
  (case eR => k_is)
  (case eRo => k_is)
  (case e8 => k_is)
  (case e1 => k_is)
  (case e2 => k_is)
  (case haC => k_is)
  (case hnC => k_is)
  (case htC => k_is)
  (case hmC => k_is)
  (case oiW => k_is)
  (case zall => k_is)
#print axioms PySem.Challenge.cw_fairknife_k11_whole_alike_holds
