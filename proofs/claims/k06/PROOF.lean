import PyProof.Rows.All
import Wide.All
import OpenK.AllK
import Wide.FinOn
import Lean
import PyProof.EqAt
import PyProof.EqKinds
import PyProof.TupleCall
import PySem.Challenge.RW_nofall_k06_ties_whose_fall_parts
set_option genSizeOf false
set_option genSizeOfSpec false
set_option Elab.async false
set_option linter.all false
set_option maxRecDepth 100000
namespace L2
open PySem PySem.Spec PyProof.Rows

noncomputable abbrev Key := Sum Int Str
noncomputable def keyIs : Key → Value → Bool
  | .inl k, v => Value.isInt k v
  | .inr x, v => Value.isStrOf x v
noncomputable def keyH (w : World) : Key → Int
  | .inl k => hashInt k
  | .inr x => hashStr w x
theorem keyIs_shape : ∀ {k : Key} {v : Value}, keyIs k v = true → (∃ i t, k = Sum.inl i ∧ v = Value.int i t) ∨ (∃ x t, k = Sum.inr x ∧ v = Value.str x t)
  | .inl i, v, h => by
    obtain ⟨t, e⟩ := Value.isInt_shape (k := i) (v := v) h
    exact .inl ⟨i, t, rfl, e⟩
  | .inr x, v, h => by
    obtain ⟨t, e⟩ := Value.isStrOf_shape (x := x) (v := v) h
    exact .inr ⟨x, t, rfl, e⟩
theorem keyIs_int (i : Int) (t : Tok) : keyIs (.inl i) (.int i t) = true := by simp [keyIs, Value.isInt]
theorem keyIs_str (x : Str) (t : Tok) : keyIs (.inr x) (.str x t) = true := by simp [keyIs, Value.isStrOf]
theorem key_ll (a b : Int) : decide ((Sum.inl a : Key) = Sum.inl b) = (a == b) := by
  by_cases e : a = b
  · subst e; simp
  · have h : ¬ (Sum.inl a : Key) = Sum.inl b := fun q => e (Sum.inl.inj q)
    rw [decide_eq_false h]
    exact (beq_eq_false_iff_ne.mpr e).symm
theorem key_rr (a b : Str) : decide ((Sum.inr a : Key) = Sum.inr b) = decide (a = b) := by
  by_cases e : a = b
  · subst e; simp
  · have h : ¬ (Sum.inr a : Key) = Sum.inr b := fun q => e (Sum.inr.inj q)
    rw [decide_eq_false h, decide_eq_false e]
theorem key_lr (a : Int) (b : Str) : decide ((Sum.inl a : Key) = Sum.inr b) = false := decide_eq_false (fun q => nomatch q)
theorem key_rl (a : Str) (b : Int) : decide ((Sum.inr a : Key) = Sum.inl b) = false := decide_eq_false (fun q => nomatch q)

noncomputable def mixKind (prog : Program) (w : World) : PySem.KeyKind prog w Key where
  is := keyIs
  hash := keyH w
  inj := fun v a b ha hb => by
    rcases keyIs_shape ha with ⟨i, t, rfl, rfl⟩ | ⟨x, t, rfl, rfl⟩
    · rcases keyIs_shape hb with ⟨j, u, rfl, e⟩ | ⟨y, u, rfl, e⟩
      · injection e with e1 _; rw [e1]
      · exact nomatch e
    · rcases keyIs_shape hb with ⟨j, u, rfl, e⟩ | ⟨y, u, rfl, e⟩
      · exact nomatch e
      · injection e with e1 _; rw [e1]
  byValue := fun k v h => by
    rcases keyIs_shape h with ⟨i, t, rfl, rfl⟩ | ⟨x, t, rfl, rfl⟩ <;> rfl
  pyHash := fun hv h => by
    rcases keyIs_shape hv with ⟨i, t, rfl, rfl⟩ | ⟨x, t, rfl, rfl⟩
    · exact wpAny_pyHash_int h
    · exact wpAny_pyHash_str h
  eqBool := fun hu hv h => by
    rcases keyIs_shape hu with ⟨i, t, rfl, rfl⟩ | ⟨x, t, rfl, rfl⟩
    · rcases keyIs_shape hv with ⟨j, u, rfl, rfl⟩ | ⟨y, u, rfl, rfl⟩
      · rw [key_ll] at h; exact wpAny_eqBool_int h
      · rw [key_lr] at h; exact SeqAt.EqAt.int_str i t y u _ _ _ _ h
    · rcases keyIs_shape hv with ⟨j, u, rfl, rfl⟩ | ⟨y, u, rfl, rfl⟩
      · rw [key_rl] at h; exact SeqAt.EqAt.str_int x t j u _ _ _ _ h
      · rw [key_rr] at h; exact wpAny_eqBool_str h
  «strs» := fun k x t v h => by
    rcases keyIs_shape h with ⟨i, u, rfl, e⟩ | ⟨y, u, rfl, e⟩
    · exact nomatch e
    · injection e with e1 _
      subst e1
      cases v <;> rfl

theorem mixKind_int (prog : Program) (w : World) (i : Int) (t : Tok) : (mixKind prog w).is (.inl i) (.int i t) = true := keyIs_int i t
theorem mixKind_str (prog : Program) (w : World) (x : Str) (t : Tok) : (mixKind prog w).is (.inr x) (.str x t) = true := keyIs_str x t
end L2

namespace L2
open PySem PySem.Spec PyProof.Rows

inductive V where
  | non | bl (b : Bool) | int (i : Int) | str (x : Str) | byt (b : Array UInt8) | flt (b : UInt64) | ref (a : Addr) | ty (n : String)
  deriving DecidableEq

noncomputable def RelV : V → Value → Prop
  | .non, u => u = Value.none
  | .bl b, u => u = Value.bool b
  | .int i, u => ∃ t, u = Value.int i t
  | .str x, u => ∃ t, u = Value.str x t
  | .byt b, u => ∃ t, u = Value.bytes b t
  | .flt b, u => ∃ t, u = Value.float b t
  | .ref a, u => u = Value.ref a
  | .ty n, u => u = Value.type n

noncomputable abbrev Vals : List V → List Value → Prop := Paired RelV
theorem Vals.length {xs : List V} {us : List Value} (r : Vals xs us) : xs.length = us.length := Paired.length r
theorem Vals.get : ∀ {xs : List V} {us : List Value} {i : Nat} {x : V}, Vals xs us → xs[i]? = some x → ∃ u, us[i]? = some u ∧ RelV x u
  | _, _, _, _, .nil, e => by simp at e
  | _, _, 0, _, .cons r _, e => by simp at e; subst e; exact ⟨_, rfl, r⟩
  | _, _, i + 1, x, .cons _ t, e => by
    obtain ⟨u, h1, h2⟩ := Vals.get (i := i) (x := x) t (by simpa using e)
    exact ⟨u, by simpa using h1, h2⟩
theorem Vals.set {x : V} {u : Value} (r : RelV x u) : ∀ {xs : List V} {us : List Value} (i : Nat), Vals xs us → Vals (xs.set i x) (us.set i u)
  | _, _, _, .nil => .nil
  | _, _, 0, .cons _ t => .cons r t
  | _, _, i + 1, .cons q t => .cons q (Vals.set r i t)
theorem Vals.append : ∀ {xs ys : List V} {us ws : List Value}, Vals xs us → Vals ys ws → Vals (xs ++ ys) (us ++ ws)
  | _, _, _, _, .nil, s => s
  | _, _, _, _, .cons r t, s => .cons r (Vals.append t s)
theorem Vals.take : ∀ {xs : List V} {us : List Value} (n : Nat), Vals xs us → Vals (xs.take n) (us.take n)
  | _, _, 0, _ => .nil
  | _, _, _ + 1, .nil => .nil
  | _, _, n + 1, .cons r t => .cons r (Vals.take n t)
theorem Vals.drop : ∀ {xs : List V} {us : List Value} (n : Nat), Vals xs us → Vals (xs.drop n) (us.drop n)
  | _, _, 0, r => r
  | _, _, _ + 1, .nil => .nil
  | _, _, n + 1, .cons _ t => Vals.drop n t
noncomputable def RelO : Option V → Option Value → Prop
  | some v, some u => RelV v u
  | none, none => True
  | _, _ => False
noncomputable def KV {κ : Type} : List (κ × V) → List (κ × Value) → Prop := Paired fun (p : κ × V) (q : κ × Value) => p.1 = q.1 ∧ RelV p.2 q.2

noncomputable def kV : Key → V
  | .inl i => .int i
  | .inr x => .str x

inductive HO where
  | lst (xs : List V)
  | tup (xs : List V)
  | dK (kvs : List (Key × V)) | dT (kvs : List (List Key × V))
  | set (S : Int → Bool) (n : Nat)
  | ins (C dx : Addr) (fs : List (Str × V))
  | own (x : Addr)
  | xd (fs : List (Str × V))
  | met (f x : Addr)
  | rng (lo hi : Int)
  | frz (o : Obj) (u : HO)
  | tbl (ps : Array Value)
  | ext (φ : Heap → Prop)

noncomputable abbrev Hp := Addr → Option HO
noncomputable def upd (H : Hp) (a : Addr) (o : HO) : Hp := fun b => if b = a then some o else H b
theorem upd_same {H : Hp} {a : Addr} {o : HO} : upd H a o a = some o := by unfold upd; rw [if_pos rfl]
theorem upd_ne {H : Hp} {a b : Addr} {o : HO} (h : b ≠ a) : upd H a o b = H b := by unfold upd; rw [if_neg h]
theorem upd_upd {H : Hp} {a : Addr} {o u : HO} : upd (upd H a o) a u = upd H a u := by
  funext b; unfold upd; split <;> rfl
theorem ne_of {H : Hp} {a b : Addr} {o u : HO} (h : H a = some o) (h' : H b = some u) (d : o ≠ u) : a ≠ b := by
  intro e; subst e; rw [h] at h'; exact d (Option.some.inj h')
theorem ne_of_none {H : Hp} {a b : Addr} {o : HO} (h : H a = some o) (h' : H b = none) : a ≠ b := by
  intro e; subst e; rw [h] at h'; cases h'

section
variable (P : Program) (w : World)
noncomputable def ObjOk (H : Hp) (h : Heap) (a : Addr) : HO → Prop
  | .lst xs => xs.length ≤ sizeLine ∧ ∃ (its : List Value) (n : Nat), Vals xs its ∧ h.get? a = some { cls := .type "list", data := .seq its.toArray n }
  | .tup xs => xs.length ≤ sizeLine ∧ ∃ its : List Value, Vals xs its ∧ IsTup h a its.toArray
  | .dK kvs => kvs.length ≤ sizeLine ∧ (a == sysModules) = false ∧ ∃ vs, KV kvs vs ∧ h.DictOf (mixKind P w) a vs
  | .dT kvs => kvs.length ≤ sizeLine ∧ (a == sysModules) = false ∧ ∃ xs : List (List Key × Addr × Value),
      Paired (fun (p : List Key × V) (q : List Key × Addr × Value) => p.1 = q.1 ∧ H q.2.1 = some (.tup (p.1.map kV)) ∧ RelV p.2 q.2.2) kvs xs ∧
      ∃ o es ep, h.get? a = some o ∧ o.ExactDict ∧ o.data = .dict es ep ∧ es.toList = xs.map (entryOfKey (tupleKind (mixKind P w))) ∧ (xs.map (·.1)).Nodup
  | .set S n => h.SetOf (intKind P w) a S n
  | .ins C dx fs => H dx = some (.own a) ∧ fs.length ≤ 1000 ∧ dx ≠ a ∧ h.get? a = some (PySem.W.instObj C dx) ∧
      ∃ mA, h.Ns1 dx mA ∧ (∀ f, RelO (fs.lookup f) (mA f)) ∧ PySem.Within mA (fs.map (·.1))
  | .own _ => ∃ o, h.get? a = some o
  | .xd fs => ∃ mA, h.Ns1 a mA ∧ ∀ f, RelO (fs.lookup f) (mA f)
  | .rng lo hi => ∃ t u v, h.get? a = some { cls := .type "range", data := .fields #[.int lo t, .int hi u, .int 1 v] }
  | .frz o u => h.get? a = some o ∧ ObjOk H h a u
  | .tbl ps => h.get? a = some { cls := .none, data := .fields ps }
  | .met f x => h.get? a = some (PySem.W.methodObj (.ref f) (.ref x))
  | .ext φ => φ h ∧ (∃ o, h.get? a = some o) ∧ ∀ h1 h2 : Heap, φ h1 → (∀ o, h1.get? a = some o → h2.get? a = some o) → φ h2
noncomputable def HOk (H : Hp) (h : Heap) : Prop := ∀ a o, H a = some o → ObjOk P w H h a o
end

section
variable {P : Program} {w : World} {H H' : Hp} {h h' : Heap} {a : Addr} {o : HO}
theorem ObjOk.lt (x : ObjOk P w H h a o) : a < h.objs.size := by
  cases o with
  | lst xs => obtain ⟨_, _, _, _, e⟩ := x; exact Heap.lt_size e
  | tup xs => obtain ⟨_, _, _, p⟩ := x; exact p.lt
  | dK kvs => obtain ⟨_, _, _, _, o, _, _, e, _⟩ := x; exact Heap.lt_size e
  | dT kvs => obtain ⟨_, _, _, _, o, _, _, e, _⟩ := x; exact Heap.lt_size e
  | set S n => obtain ⟨o, _, _, _, e, _⟩ := x; exact Heap.lt_size e
  | ins C dx fs => obtain ⟨_, _, _, e, _⟩ := x; exact Heap.lt_size e
  | own y => obtain ⟨_, e⟩ := x; exact Heap.lt_size e
  | xd fs => obtain ⟨_, ⟨_, _, _, e, _⟩, _⟩ := x; exact Heap.lt_size e
  | rng lo hi => obtain ⟨_, _, _, e⟩ := x; exact Heap.lt_size e
  | frz ob u => obtain ⟨e, _⟩ := x; exact Heap.lt_size e
  | tbl ps => exact Heap.lt_size (show h.get? a = some _ from x)
  | met f y => exact Heap.lt_size (show h.get? a = some _ from x)
  | ext φ => obtain ⟨_, ⟨_, e⟩, _⟩ := x; exact Heap.lt_size e
theorem Paired.mapP {α β : Type} {F G : α → β → Prop} : ∀ {l₁ : List α} {l₂ : List β}, Paired F l₁ l₂ → (∀ a b, F a b → G a b) → Paired G l₁ l₂
  | _, _, .nil, _ => .nil
  | _, _, .cons r t, f => .cons (f _ _ r) (Paired.mapP t f)
theorem ObjOk.stay (x : ObjOk P w H h a o) (k : ∀ b u, (b = a ∨ H b = some (.own a)) → h.get? b = some u → h'.get? b = some u)
    (ho : ∀ b, H b = some (.own a) → H' b = some (.own a)) (ht : ∀ b xs, H b = some (.tup xs) → H' b = some (.tup xs)) : ObjOk P w H' h' a o := by
  induction o with
  | lst xs => obtain ⟨z, its, n, r, e⟩ := x; exact ⟨z, its, n, r, k _ _ (.inl rfl) e⟩
  | tup xs => obtain ⟨z, its, r, ob, e, c⟩ := x; exact ⟨z, its, r, ob, k _ _ (.inl rfl) e, c⟩
  | dK kvs => obtain ⟨z, y, vs, r, ob, es, ep, e, c⟩ := x; exact ⟨z, y, vs, r, ob, es, ep, k _ _ (.inl rfl) e, c⟩
  | dT kvs =>
    obtain ⟨z, y, xs, r, ob, es, ep, e, c⟩ := x
    exact ⟨z, y, xs, Paired.mapP r fun p q z => ⟨z.1, ht _ _ z.2.1, z.2.2⟩, ob, es, ep, k _ _ (.inl rfl) e, c⟩
  | set S n => obtain ⟨ob, es, ep, t, e, c⟩ := x; exact ⟨ob, es, ep, t, k _ _ (.inl rfl) e, c⟩
  | ins C dx fs =>
    obtain ⟨d, z, ne, e, mA, ⟨od, es, ep, e2, c⟩, r⟩ := x
    exact ⟨ho _ d, z, ne, k _ _ (.inl rfl) e, mA, ⟨od, es, ep, k _ _ (.inr d) e2, c⟩, r⟩
  | own y => obtain ⟨ob, e⟩ := x; exact ⟨ob, k _ _ (.inl rfl) e⟩
  | xd fs => obtain ⟨mA, ⟨od, es, ep, e, c⟩, r⟩ := x; exact ⟨mA, ⟨od, es, ep, k _ _ (.inl rfl) e, c⟩, r⟩
  | rng lo hi => obtain ⟨t, u, v, e⟩ := x; exact ⟨t, u, v, k _ _ (.inl rfl) e⟩
  | frz ob u ih => obtain ⟨e, q⟩ := x; exact ⟨k _ _ (.inl rfl) e, ih q⟩
  | tbl ps =>
    have e : h.get? a = some { cls := .none, data := .fields ps } := x
    show h'.get? a = some { cls := .none, data := .fields ps }
    exact k a _ (.inl rfl) e
  | met f y =>
    have e : h.get? a = some (PySem.W.methodObj (.ref f) (.ref y)) := x
    show h'.get? a = some (PySem.W.methodObj (.ref f) (.ref y))
    exact k a _ (.inl rfl) e
  | ext φ => obtain ⟨p, ⟨o, e⟩, st⟩ := x; exact ⟨st _ _ p fun o q => k _ _ (.inl rfl) q, ⟨o, k _ _ (.inl rfl) e⟩, st⟩
theorem HOk.lt (x : HOk P w H h) (e : H a = some o) : a < h.objs.size := (x a o e).lt
theorem HOk.fresh (x : HOk P w H h) (e : h.objs.size ≤ a) : H a = none := by
  cases q : H a with
  | none => rfl
  | some u => exact absurd (Nat.lt_of_lt_of_le (x.lt q) e) (Nat.lt_irrefl _)
theorem HOk.kept (x : HOk P w H h) (k : ∀ b u, h.get? b = some u → h'.get? b = some u) : HOk P w H h' := fun a o e =>
  (x a o e).stay (fun b u _ q => k b u q) (fun _ q => q) fun _ _ q => q
theorem HOk.laid (x : HOk P w H h) (k : ∀ b u, h.get? b = some u → h'.get? b = some u) (hp : h.objs.size ≤ a) (new : ObjOk P w (upd H a o) h' a o) : HOk P w (upd H a o) h' := fun b u e => by
  have hn := x.fresh hp
  by_cases hb : b = a
  · subst hb; rw [upd_same] at e; cases e; exact new
  · rw [upd_ne hb] at e
    exact (x b u e).stay (fun c v _ q => k c v q) (fun c q => by rw [upd_ne (ne_of_none q hn)]; exact q) fun c xs q => by rw [upd_ne (ne_of_none q hn)]; exact q
end

noncomputable def Rd (H : Hp) (a : Addr) (u : HO) : Prop := H a = some u ∨ ∃ o, H a = some (.frz o u)
theorem Rd.ok {P : Program} {w : World} {H : Hp} {h : Heap} {a : Addr} {u : HO} (r : Rd H a u) (x : HOk P w H h) : ObjOk P w H h a u := by
  rcases r with r | ⟨o, r⟩
  · exact x a u r
  · obtain ⟨_, q⟩ := x a _ r
    exact q
noncomputable def Mut : Option HO → Prop
  | some (.lst _) => True
  | some (.dK _) => True
  | some (.dT _) => True
  | some (.set _ _) => True
  | some (.ins _ _ _) => True
  | some (.ext _) => True
  | _ => False
section
variable {P : Program} {w : World} {H : Hp} {h h' : Heap} {x e : Addr} {o' : HO}
theorem HOk.write (ok : HOk P w H h) (mu : Mut (H x)) (he : e = x ∨ H e = some (.own x)) (k : ∀ b u, b ≠ e → h.get? b = some u → h'.get? b = some u) (heo : ∃ u, h'.get? e = some u)
    (new : ObjOk P w (upd H x o') h' x o') : HOk P w (upd H x o') h' := fun b u q => by
  have nown : ∀ c y, H c = some (.own y) → c ≠ x := fun c y r z => by subst z; rw [r] at mu; exact mu
  have ntup : ∀ c xs, H c = some (.tup xs) → c ≠ x := fun c xs r z => by subst z; rw [r] at mu; exact mu
  by_cases hb : b = x
  · subst hb; rw [upd_same] at q; cases q; exact new
  · rw [upd_ne hb] at q
    by_cases hbe : b = e
    · have q' : H b = some (.own x) := by
        rcases he with z | z
        · exact absurd (hbe.trans z) hb
        · rw [hbe]; exact z
      rw [q] at q'; cases q'
      obtain ⟨v, hv⟩ := heo
      exact ⟨v, by rw [hbe]; exact hv⟩
    · refine (ok b u q).stay (fun c v hc r => k c v ?_ r) (fun c r => by rw [upd_ne (nown c b r)]; exact r) fun c xs r => by rw [upd_ne (ntup c xs r)]; exact r
      rcases hc with rfl | hc
      · exact hbe
      · rintro rfl
        rcases he with z | z
        · exact nown c b hc z
        · rw [hc] at z; cases z; exact hb rfl
end

structure Un (fs ex : List Addr) (H H' : Hp) (h h' : Heap) : Prop where
  keep : ∀ b o, h.get? b = some o → H b = none → b ∉ fs → b ∉ ex → h'.get? b = some o
  slot : ∀ b o, h.get? b = some o → H b = none → b ∈ fs → b ∉ ex → ∃ sl, h'.get? b = some { o with slots := sl }
  free : ∀ b o, h.get? b = some o → H b = none → b ∉ ex → H' b = none
  there : ∀ b o, h.get? b = some o → b ∉ ex → ∃ o', h'.get? b = some o'
  tups : ∀ b xs, H b = some (.tup xs) → H' b = some (.tup xs)
  frzs : ∀ b o u, H b = some (.frz o u) → H' b = some (.frz o u)
  tbls : ∀ b ps, H b = some (.tbl ps) → ∃ more, H' b = some (.tbl (ps ++ more))
section
variable {fs fs' ex ex' : List Addr} {H H1 H2 : Hp} {h h1 h2 h' : Heap} {a x e : Addr} {o : HO}
theorem Un.any (u : Un fs ex H H1 h h1) {b : Addr} {ob : Obj} (q : h.get? b = some ob) (n : H b = none) (hx : b ∉ ex) : ∃ sl, h1.get? b = some { ob with slots := sl } := by
  by_cases hb : b ∈ fs
  · exact u.slot b ob q n hb hx
  · exact ⟨ob.slots, u.keep b ob q n hb hx⟩
theorem Un.kept (k : ∀ b u, h.get? b = some u → h'.get? b = some u) : Un fs ex H H h h' :=
  ⟨fun b ob q _ _ _ => k b ob q, fun b ob q _ _ _ => ⟨ob.slots, k b ob q⟩, fun _ _ _ n _ => n, fun b ob q _ => ⟨ob, k b ob q⟩, fun _ _ q => q, fun _ _ _ q => q, fun _ ps q => ⟨#[], by rw [q]; simp⟩⟩
theorem Un.refl : Un fs ex H H h h := Un.kept fun _ _ q => q
theorem Un.laid (k : ∀ b u, h.get? b = some u → h'.get? b = some u) (hp : h.objs.size ≤ a) (hn : H a = none) : Un fs ex H (upd H a o) h h' where
  keep := fun b u q _ _ _ => k b u q
  slot := fun b u q _ _ _ => ⟨u.slots, k b u q⟩
  free := fun b u q n _ => by rw [upd_ne (Nat.ne_of_lt (Nat.lt_of_lt_of_le (Heap.lt_size q) hp))]; exact n
  there := fun b u q _ => ⟨u, k b u q⟩
  tups := fun b xs q => by rw [upd_ne (ne_of_none q hn)]; exact q
  frzs := fun b u xs q => by rw [upd_ne (ne_of_none q hn)]; exact q
  tbls := fun b ps q => ⟨#[], by rw [upd_ne (ne_of_none q hn), q]; simp⟩
theorem Un.write (mu : Mut (H x)) (he : e = x ∨ H e = some (.own x)) (k : ∀ b u, b ≠ e → h.get? b = some u → h'.get? b = some u) (heo : ∃ u, h'.get? e = some u) : Un fs ex H (upd H x o) h h' := by
  have hx : ∀ b, H b = none → b ≠ x := fun b n z => by subst z; rw [n] at mu; exact mu
  have hb : ∀ b, H b = none → b ≠ e := fun b n z => by
    subst z
    rcases he with r | r
    · exact hx b n r
    · rw [n] at r; cases r
  have hm : ∀ b u, H b = some u → ¬ Mut (some u) → b ≠ x := fun b u q nm z => by subst z; rw [q] at mu; exact nm mu
  refine ⟨fun b u q n _ _ => k b u (hb b n) q, fun b u q n _ _ => ⟨u.slots, k b u (hb b n) q⟩, fun b u q n _ => by rw [upd_ne (hx b n)]; exact n, fun b u q _ => ?_,
    fun b xs q => by rw [upd_ne (hm b _ q fun z => z)]; exact q, fun b u xs q => by rw [upd_ne (hm b _ q fun z => z)]; exact q, fun b ps q => ⟨#[], by rw [upd_ne (hm b _ q fun z => z), q]; simp⟩⟩
  by_cases hbe : b = e
  · subst hbe; exact heo
  · exact ⟨u, k b u hbe q⟩
end

noncomputable def trk (h : Heap) (H : Hp) : List Addr := (List.range h.objs.size).filter fun a => (H a).isSome
noncomputable def hidT (h : Heap) (H : Hp) : Heap := PySem.W.hideAll h (trk h H)
theorem hidT_size (h : Heap) (H : Hp) : (hidT h H).objs.size = h.objs.size := PySem.W.hideAll_size _ _
theorem hidT_get {h : Heap} {H : Hp} {b : Addr} {o : Obj} (e : h.get? b = some o) (n : H b = none) : (hidT h H).get? b = some o :=
  PySem.W.hideAll_get _ e fun hm => by
    have q : (H b).isSome = true := (List.mem_filter.mp hm).2
    rw [n] at q; simp at q
theorem of_hidT {h : Heap} {H : Hp} {b : Addr} {o : Obj} (e : (hidT h H).get? b = some o) : h.get? b = some o ∧ H b = none := by
  have e' : h.get? b = some o := PySem.W.of_hideAll (trk h H) e
  refine ⟨e', ?_⟩
  cases q : H b with
  | none => rfl
  | some x =>
    have hm : b ∈ trk h H := List.mem_filter.mpr ⟨List.mem_range.mpr (Heap.lt_size e'), by simp [q]⟩
    have z : (hidT h H).get? b = none := PySem.W.hideAll_none (trk h H) hm
    rw [z] at e; cases e

noncomputable def allNews (g h : Heap) (L : Addr) : List (Addr × Obj) := (List.range h.objs.size).filterMap fun a => if a = L ∨ (g.get? a).isSome = true then none else (h.get? a).map fun o => (a, o)
theorem of_mem_allNews {g h : Heap} {L : Addr} {p : Addr × Obj} (hp : p ∈ allNews g h L) : p.1 ≠ L ∧ g.get? p.1 = none ∧ h.get? p.1 = some p.2 := by
  obtain ⟨b, _, e⟩ := List.mem_filterMap.mp hp
  split at e
  · cases e
  · rename_i hn
    cases q : h.get? b with
    | none => rw [q] at e; simp at e
    | some u =>
      rw [q] at e
      simp only [Option.map_some, Option.some.injEq] at e
      subst e
      refine ⟨fun z => hn (.inl z), ?_, q⟩
      show g.get? b = none
      cases r : g.get? b with
      | none => rfl
      | some v => exact (hn (.inr (by simp [r]))).elim
noncomputable def rest (g h : Heap) (L d : Addr) : List (Addr × Obj) := (allNews g h L).filter fun p => decide (p.1 ≠ d)
theorem news_all {g h : Heap} {L : Addr} : News g L h (allNews g h L) := fun p hp => let ⟨a, b, c⟩ := of_mem_allNews hp; ⟨c, a, b⟩
end L2

namespace L2
open PySem PySem.Spec PyProof.Rows

structure Mod (K : PySem.W.Frag) (mg : Str → Option Value) (base : Heap) : Prop where
  kin : K.In base
  glob : base.Ns mainGlobals mg
  blt : ∃ mb, base.Ns builtinsNs mb ∧ ∀ x : Str, x ≠ "__name__" → mb x = bootBuiltins x
  nolimit : base.NoLimit

structure Cx where
  prog : Program
  w : World
  K : PySem.W.Frag
  mg : Str → Option Value
  base : Heap
  A : Around
  N : List Str
  s₀ : Shared
  H₀ : Hp
  env : Env
  outer : List Env
  stack : List Env
  ex : List Addr
  fn : Str → Bool
  calm : Bool
  pn : List (Addr × Obj)
  xe : Value → Shared → Prop
noncomputable def frs (l : List Env) : List Addr := l.filterMap (·.frame)
noncomputable abbrev Cx.fs (X : Cx) : List Addr := frs X.outer

noncomputable def Vis (sc : Scope) (x : Str) : Prop := sc.names.lookup x = some .local ∨ sc.names.lookup x = some .cell ∨ sc.names.lookup x = some .free
noncomputable def Loc (sc : Scope) (x : Str) : Prop := sc.names.lookup x = some .local ∨ sc.names.lookup x = some .cell
noncomputable def Look (env : Env) (h : Heap) (m : Str → Option Value) (x : Str) (u : Value) : Prop :=
  (env.kindOf x = some .local ∧ m x = some u) ∨ ((env.kindOf x = some .cell ∨ env.kindOf x = some .free) ∧ ∃ c, env.cells.lookup x = some c ∧ h.IsCell c (some u))

structure Cx.Ok (X : Cx) : Prop where
  mod : Mod X.K X.mg X.base
  kind : X.env.scope.kind = .function
  glob : X.env.globals = mainGlobals
  blt : X.env.builtins = builtinsNs
  above : X.s₀.heap.objs.size ≤ X.env.locals
  inj : ∀ x y c, X.env.cells.lookup x = some c → X.env.cells.lookup y = some c → x = y
  has : ∀ x, (X.env.kindOf x = some .cell ∨ X.env.kindOf x = some .free) → ∃ c, X.env.cells.lookup x = some c
  cab : ∀ x c, X.fn x = true → X.env.cells.lookup x = some c → X.s₀.heap.objs.size ≤ c
  hd : X.calm = true → X.A.handled = none
  frames : X.A.frames = some X.stack
  stk : X.stack = X.outer ∨ (X.stack = X.env :: X.outer ∧ X.env.frame = some X.env.locals)
  exf : ∀ b ∈ X.ex, b ≠ X.env.locals ∧ ∀ x c, X.env.cells.lookup x = some c → c ≠ b
  bs : ∀ b o, X.base.get? b = some o → X.s₀.heap.get? b = some o ∧ X.H₀ b = none
  bsz : X.base.objs.size ≤ X.s₀.heap.objs.size
  noex : ∀ b o, X.base.get? b = some o → b ∉ X.ex
  exfs : ∀ b ∈ X.ex, b ∉ X.fs
  funs : X.s₀.heap.FunFrames X.base X.outer
  frf : ∀ b ∈ X.fs, X.H₀ b = none

structure Inv (X : Cx) (pins : List (Addr × Obj)) (σ : List (Option V)) (H : Hp) (s : Shared) : Prop where
  ok : X.Ok
  os : s.os = X.s₀.os
  bare : AllBare s.gens
  base : Un X.fs X.ex X.H₀ H X.s₀.heap s.heap
  loc : ∃ m, s.heap.Ns X.env.locals m ∧ ∀ (i : Nat) (x : Str) (v : V), X.N[i]? = some x → σ[i]? = some (some v) → Vis X.env.scope x → ∃ u, RelV v u ∧ Look X.env s.heap m x u
  cell : ∀ x c, X.env.cells.lookup x = some c → ∃ v, s.heap.IsCell c v
  free : H X.env.locals = none
  freeC : ∀ x c, X.env.cells.lookup x = some c → H c = none
  pin : ∀ p ∈ X.pn ++ pins, s.heap.get? p.1 = some p.2 ∧ H p.1 = none ∧ p.1 ≠ X.env.locals ∧ p.1 ∉ X.fs ∧ ∀ v, p.2.data ≠ .cell v
  hok : HOk X.prog X.w H s.heap
  len : σ.length = X.N.length

section
variable {X : Cx} {pins : List (Addr × Obj)} {σ : List (Option V)} {H H' : Hp} {s : Shared} {h' : Heap}

theorem Cx.Ok.nofr (ok : X.Ok) {b : Addr} {o : Obj} (e : X.base.get? b = some o) : b ∉ X.fs := fun hb => by
  have := (ok.funs.mem hb).1
  rw [e] at this; cases this
theorem Inv.bs (I : Inv X pins σ H s) : ∀ b o, X.base.get? b = some o → s.heap.get? b = some o ∧ H b = none := fun b o e =>
  ⟨I.base.keep b o (I.ok.bs b o e).1 (I.ok.bs b o e).2 (I.ok.nofr e) (I.ok.noex b o e), I.base.free b o (I.ok.bs b o e).1 (I.ok.bs b o e).2 (I.ok.noex b o e)⟩
theorem Inv.bk (I : Inv X pins σ H s) : ∀ b o, X.base.get? b = some o → s.heap.get? b = some o := fun b o e => (I.bs b o e).1
theorem Inv.mod (I : Inv X pins σ H s) : Mod X.K X.mg X.base := I.ok.mod
theorem Inv.kIn (I : Inv X pins σ H s) : X.K.In s.heap := I.ok.mod.kin.keeps I.bk
theorem Inv.fr (I : Inv X pins σ H s) : ∃ m, Fr X.base X.env.locals s.heap m :=
  let ⟨m, hn, _⟩ := I.loc
  ⟨m, hn, I.bk, Nat.le_trans I.ok.bsz I.ok.above⟩
theorem Inv.lt (I : Inv X pins σ H s) : X.env.locals < s.heap.objs.size := let ⟨_, hn, _⟩ := I.loc; hn.lt
theorem Inv.sz (I : Inv X pins σ H s) : X.s₀.heap.objs.size ≤ s.heap.objs.size := Nat.le_trans I.ok.above (Nat.le_of_lt I.lt)
theorem Inv.nofs (I : Inv X pins σ H s) {a : Addr} (h : s.heap.objs.size ≤ a) : a ∉ X.fs := fun hb => by
  obtain ⟨_, o, ho, _⟩ := I.ok.funs.mem hb
  exact absurd (Nat.lt_of_lt_of_le (Heap.lt_size ho) (Nat.le_trans I.sz h)) (Nat.lt_irrefl _)
theorem Inv.cne (I : Inv X pins σ H s) : ∀ x c, X.env.cells.lookup x = some c → c ≠ X.env.locals := fun x c e z => by
  obtain ⟨v, o, ho, hd⟩ := I.cell x c e
  obtain ⟨m, ⟨o', es, ep, ho', hd', _⟩, _⟩ := I.loc
  rw [z, ho'] at ho; cases ho; rw [hd'] at hd; cases hd
theorem Inv.funs (I : Inv X pins σ H s) : s.heap.FunFrames X.base X.outer := by
  have all : ∀ (l : List Env), (∀ b ∈ frs l, b ∈ X.fs) → X.s₀.heap.FunFrames X.base l → s.heap.FunFrames X.base l := by
    intro l
    induction l with
    | nil => intro _ _; trivial
    | cons env r ih =>
      intro hs hl
      obtain ⟨hk, ⟨L, o, hf, hn, ho, hd⟩, hr⟩ := hl
      have hL : L ∈ X.fs := hs L (by unfold frs; rw [List.filterMap_cons, hf]; exact List.mem_cons_self)
      obtain ⟨sl, e⟩ := I.base.slot L o ho (I.ok.frf L hL) hL fun z => I.ok.exfs L z hL
      exact ⟨hk, ⟨L, _, hf, hn, e, hd⟩, ih (fun b hb => hs b (by unfold frs; rw [List.filterMap_cons, hf]; exact List.mem_cons_of_mem _ hb)) hr⟩
  exact all X.outer (fun _ hb => hb) I.ok.funs

theorem Inv.stack (I : Inv X pins σ H s) : s.heap.FunFrames X.base X.stack := by
  rcases I.ok.stk with e | ⟨e, hf⟩
  · rw [e]; exact I.funs
  · rw [e]
    obtain ⟨m, hn, _⟩ := I.loc
    refine .cons (by rw [I.ok.kind]; decide) hf hn ?_ I.funs
    exact Heap.get?_none_of_le (Nat.le_trans I.ok.bsz I.ok.above)
theorem Inv.stkSub (I : Inv X pins σ H s) : ∀ b ∈ frs X.stack, b ∈ X.env.locals :: X.fs := fun b hb => by
  rcases I.ok.stk with e | ⟨e, hf⟩
  · rw [e] at hb; exact List.mem_cons_of_mem _ hb
  · rw [e] at hb
    unfold frs at hb
    rw [List.filterMap_cons, hf] at hb
    exact hb
theorem Inv.stkFree (I : Inv X pins σ H s) : ∀ b ∈ frs X.stack, H b = none := fun b hb => by
  rcases List.mem_cons.mp (I.stkSub b hb) with e | hb
  · rw [e]; exact I.free
  · obtain ⟨_, o, ho, _⟩ := I.ok.funs.mem hb
    exact I.base.free b o ho (I.ok.frf b hb) fun z => I.ok.exfs b z hb

theorem Inv.step {g' : Array GenState} {t' : Nat} {d' : Drawn} {ch : List Addr} (I : Inv X pins σ H s)
    (hch : ∀ b ∈ ch, (b ∈ X.ex ∨ X.s₀.heap.objs.size ≤ b) ∧ b ≠ X.env.locals ∧ (∀ x c, X.env.cells.lookup x = some c → c ≠ b) ∧ ∀ p ∈ X.pn ++ pins, p.1 ≠ b)
    (keep : ∀ b o, b ≠ X.env.locals → b ∉ X.fs → b ∉ ch → s.heap.get? b = some o → H b = none → h'.get? b = some o)
    (slot : ∀ b o, b ≠ X.env.locals → b ∈ X.fs → b ∉ ch → s.heap.get? b = some o → H b = none → ∃ sl, h'.get? b = some { o with slots := sl }) (free : ∀ b o, b ∉ ch → s.heap.get? b = some o → H b = none → H' b = none)
    (there : ∀ b o, b ∉ ch → s.heap.get? b = some o → ∃ o', h'.get? b = some o')
    (tups : ∀ b xs, H b = some (.tup xs) → H' b = some (.tup xs)) (frzs : ∀ b o u, H b = some (.frz o u) → H' b = some (.frz o u)) (tbls : ∀ b ps, H b = some (.tbl ps) → ∃ more, H' b = some (.tbl (ps ++ more)))
    (ns : ∀ m, s.heap.Ns X.env.locals m → h'.Ns X.env.locals m) (hok : HOk X.prog X.w H' h') (hg : AllBare g') :
    Inv X pins σ H' { s with heap := h', gens := g', drawn := d', toks := t' } := by
  have neL : ∀ b o, X.s₀.heap.get? b = some o → b ≠ X.env.locals := fun b o e => Nat.ne_of_lt (Nat.lt_of_lt_of_le (Heap.lt_size e) I.ok.above)
  have neC : ∀ b o, X.s₀.heap.get? b = some o → b ∉ X.ex → b ∉ ch := fun b o e hx hb => by
    rcases (hch b hb).1 with z | z
    · exact hx z
    · exact absurd (Nat.lt_of_lt_of_le (Heap.lt_size e) z) (Nat.lt_irrefl _)
  have cellK : ∀ x c, X.env.cells.lookup x = some c → ∀ v, s.heap.IsCell c v → h'.IsCell c v := fun x c e v ⟨o, ho, hd⟩ => by
    have nch : c ∉ ch := fun z => (hch c z).2.2.1 x c e rfl
    by_cases hc : c ∈ X.fs
    · obtain ⟨sl, q⟩ := slot c o (I.cne x c e) hc nch ho (I.freeC x c e)
      exact ⟨_, q, hd⟩
    · exact ⟨o, keep c o (I.cne x c e) hc nch ho (I.freeC x c e), hd⟩
  refine ⟨I.ok, I.os, hg, ⟨fun b o e n hb hx => ?_, fun b o e n hb hx => ?_, fun b o e n hx => ?_, fun b o e hx => ?_, fun b xs e => tups b xs (I.base.tups b xs e), fun b o xs e => frzs b o xs (I.base.frzs b o xs e), fun b ps e => ?_⟩, ?_, fun x c e => ?_, ?_, fun x c e => ?_, fun p hp => ?_, hok, I.len⟩
  · exact keep b o (neL b o e) hb (neC b o e hx) (I.base.keep b o e n hb hx) (I.base.free b o e n hx)
  · obtain ⟨sl, e1⟩ := I.base.slot b o e n hb hx
    obtain ⟨sl', e2⟩ := slot b _ (neL b o e) hb (neC b o e hx) e1 (I.base.free b o e n hx)
    exact ⟨sl', e2⟩
  · obtain ⟨o', e1⟩ := I.base.there b o e hx
    exact free b o' (neC b o e hx) e1 (I.base.free b o e n hx)
  · obtain ⟨o', e1⟩ := I.base.there b o e hx
    exact there b o' (neC b o e hx) e1
  · obtain ⟨m1, e1⟩ := I.base.tbls b ps e
    obtain ⟨m2, e2⟩ := tbls b _ e1
    exact ⟨m1 ++ m2, by rw [e2, Array.append_assoc]⟩
  · obtain ⟨m, hn, hl⟩ := I.loc
    refine ⟨m, ns m hn, fun i x v e1 e2 e3 => ?_⟩
    obtain ⟨u, r, l⟩ := hl i x v e1 e2 e3
    refine ⟨u, r, ?_⟩
    rcases l with l | ⟨k, c, e, z⟩
    · exact .inl l
    · exact .inr ⟨k, c, e, cellK x c e _ z⟩
  · obtain ⟨v, z⟩ := I.cell x c e
    exact ⟨v, cellK x c e v z⟩
  · obtain ⟨m, ⟨o, _, _, ho, _⟩, _⟩ := I.loc
    exact free _ o (fun z => (hch _ z).2.1 rfl) ho I.free
  · obtain ⟨v, o, ho, hd⟩ := I.cell x c e
    exact free c o (fun z => (hch c z).2.2.1 x c e rfl) ho (I.freeC x c e)
  · obtain ⟨e, n, ne, nf, d⟩ := I.pin p hp
    have nch : p.1 ∉ ch := fun z => (hch p.1 z).2.2.2 p hp rfl
    exact ⟨keep p.1 p.2 ne nf nch e n, free p.1 p.2 nch e n, ne, nf, d⟩
theorem Inv.un {t' : Nat} (I : Inv X pins σ H s) (u : Un X.fs [] H H' s.heap h') (hok : HOk X.prog X.w H' h') : Inv X pins σ H' { s with heap := h', toks := t' } := by
  obtain ⟨m, ⟨o, es, ep, ho, r⟩, _⟩ := id I.loc
  obtain ⟨sl, hL⟩ := u.any ho I.free (by simp)
  exact I.step (g' := s.gens) (d' := s.drawn) (ch := []) (fun _ z => nomatch z) (fun b o _ hb _ e n => u.keep b o e n hb (by simp)) (fun b o _ hb _ e n => u.slot b o e n hb (by simp)) (fun b o _ e n => u.free b o e n (by simp)) (fun b o _ e => u.there b o e (by simp)) u.tups u.frzs u.tbls (fun m' hm => by
    obtain ⟨o', es', ep', ho', r'⟩ := hm
    rw [ho] at ho'; cases ho'
    exact ⟨_, es', ep', hL, r'⟩) hok I.bare
theorem Inv.call {g' : Array GenState} {t' : Nat} {d' : Drawn} {ch : List Addr} (I : Inv X pins σ H s) (u : Un (frs X.stack) ch H H' s.heap h') (hok : HOk X.prog X.w H' h') (hg : AllBare g')
    (hch : ∀ b ∈ ch, (b ∈ X.ex ∨ X.s₀.heap.objs.size ≤ b) ∧ b ≠ X.env.locals ∧ (∀ x c, X.env.cells.lookup x = some c → c ≠ b) ∧ ∀ p ∈ X.pn ++ pins, p.1 ≠ b) :
    Inv X pins σ H' { s with heap := h', gens := g', drawn := d', toks := t' } := by
  obtain ⟨m, ⟨o, es, ep, ho, r⟩, _⟩ := id I.loc
  obtain ⟨sl, hL⟩ := u.any ho I.free fun z => (hch _ z).2.1 rfl
  exact I.step (ch := ch) hch (fun b o hL hb hc e n => u.keep b o e n (fun z => (List.mem_cons.mp (I.stkSub b z)).elim hL hb) hc) (fun b o _ _ hc e n => u.any e n hc) (fun b o hc e n => u.free b o e n hc) (fun b o hc e => u.there b o e hc) u.tups u.frzs u.tbls (fun m' hm => by
    obtain ⟨o', es', ep', ho', r'⟩ := hm
    rw [ho] at ho'; cases ho'
    exact ⟨_, es', ep', hL, r'⟩) hok hg
theorem Inv.turned {t' : Nat} {it : Addr} (I : Inv X pins σ H s) (k : ∀ b o, b ≠ it → s.heap.get? b = some o → h'.get? b = some o) (hn : H it = none) (hL : it ≠ X.env.locals)
    (h1 : it ∈ X.ex ∨ X.s₀.heap.objs.size ≤ it) (h2 : ∀ x c, X.env.cells.lookup x = some c → c ≠ it) (h3 : ∀ p ∈ X.pn ++ pins, p.1 ≠ it) : Inv X pins σ H { s with heap := h', toks := t' } := by
  have nit : ∀ b u, H b = some u → b ≠ it := fun b u e z => by rw [z, hn] at e; cases e
  refine I.step (g' := s.gens) (d' := s.drawn) (ch := [it]) (fun b hb => ?_) (fun b o _ _ hc e _ => k b o (fun z => hc (by simp [z])) e) (fun b o _ _ hc e _ => ⟨o.slots, k b o (fun z => hc (by simp [z])) e⟩) (fun _ _ _ _ n => n)
    (fun b o hc e => ⟨o, k b o (fun z => hc (by simp [z])) e⟩) (fun _ _ e => e) (fun _ _ _ e => e) (fun b ps e => ⟨#[], by rw [e]; simp⟩) (fun m hm => ?_) (fun b u e => ?_) I.bare
  · have e : b = it := by simpa using hb
    subst e
    exact ⟨h1, hL, h2, h3⟩
  · obtain ⟨o, es, ep, ho, r⟩ := hm
    exact ⟨o, es, ep, k _ o (Ne.symm hL) ho, r⟩
  · refine (I.hok b u e).stay (fun c v hc q => k c v ?_ q) (fun _ q => q) fun _ _ q => q
    rcases hc with z | z
    · rw [z]; exact nit b u e
    · exact nit c _ z
theorem Inv.tok (I : Inv X pins σ H s) (t : Nat) : Inv X pins σ H { s with toks := t } := I.un (h' := s.heap) (t' := t) Un.refl I.hok
theorem Inv.kept {t' : Nat} (I : Inv X pins σ H s) (k : ∀ b u, s.heap.get? b = some u → h'.get? b = some u) : Inv X pins σ H { s with heap := h', toks := t' } := I.un (Un.kept k) (I.hok.kept k)
theorem Inv.laid {a : Addr} {o : HO} {t' : Nat} (I : Inv X pins σ H s) (k : ∀ b u, s.heap.get? b = some u → h'.get? b = some u) (hp : s.heap.objs.size ≤ a) (new : ObjOk X.prog X.w (upd H a o) h' a o) :
    Inv X pins σ (upd H a o) { s with heap := h', toks := t' } := I.un (Un.laid k hp (I.hok.fresh hp)) (I.hok.laid k hp new)
theorem Inv.write {x e : Addr} {o : HO} {t' : Nat} (I : Inv X pins σ H s) (mu : Mut (H x)) (he : e = x ∨ H e = some (.own x)) (k : ∀ b u, b ≠ e → s.heap.get? b = some u → h'.get? b = some u) (heo : ∃ u, h'.get? e = some u)
    (new : ObjOk X.prog X.w (upd H x o) h' x o) : Inv X pins σ (upd H x o) { s with heap := h', toks := t' } := I.un (Un.write mu he k heo) (I.hok.write mu he k heo new)
theorem Inv.pins_of {pins' : List (Addr × Obj)} (I : Inv X pins σ H s) (h : ∀ p ∈ pins', s.heap.get? p.1 = some p.2 ∧ H p.1 = none ∧ p.1 ≠ X.env.locals ∧ p.1 ∉ X.fs ∧ ∀ v, p.2.data ≠ .cell v) : Inv X pins' σ H s :=
  ⟨I.ok, I.os, I.bare, I.base, I.loc, I.cell, I.free, I.freeC, fun p hp => (List.mem_append.mp hp).elim (fun z => I.pin p (List.mem_append_left _ z)) (h p), I.hok, I.len⟩

theorem nodup_ix {N : List Str} (hN : N.Nodup) {i j : Nat} {x : Str} (a : N[i]? = some x) (b : N[j]? = some x) : i = j := by
  obtain ⟨h1, e1⟩ := List.getElem?_eq_some_iff.mp a
  obtain ⟨h2, e2⟩ := List.getElem?_eq_some_iff.mp b
  exact (List.getElem_inj hN).mp (e1.trans e2.symm)

theorem store_ok2 {M : Model} {A : Around} {E : Value → Shared → Prop} {i : Nat} {x : Str} {v : V} {u : Value} {Q : Unit → Shared → Prop} (I : Inv X pins σ H s) (hN : X.N.Nodup) (hi : X.N[i]? = some x) (hx : Loc X.env.scope x) (r : RelV v u)
    (h : ∀ s', Inv X pins (σ.set i (some v)) H s' → (∃ a, Heap.SameBut a s.heap s'.heap ∧ (a = X.env.locals ∨ X.env.cells.lookup x = some a)) → Q () s') (hf : X.fn x = true ∨ X.env.scope.names.lookup x = some .local := by first | exact .inl rfl | exact .inr rfl | assumption) : wpAny M A (storeName X.env x u) Q E s := by
  obtain ⟨m, hn, hl⟩ := id I.loc
  have hcls : (X.env.scope.kind == .class || (X.env.scope.kind == .module && X.env.locals != X.env.globals)) = false := by rw [I.ok.kind]; rfl
  have hiσ : i < σ.length := by rw [I.len]; exact (List.getElem?_eq_some_iff.mp hi).1
  have cne := I.cne
  have tracked : ∀ {a : Addr} {h' : Heap}, (∃ o, s.heap.get? a = some o ∧ H a = none) → Heap.SameBut a s.heap h' → HOk X.prog X.w H h' := fun {a h'} ha hs b ob e => by
    obtain ⟨_, _, hfree⟩ := ha
    refine (I.hok b ob e).stay (fun c w' hc q => (hs.2 c ?_).trans q) (fun _ q => q) fun _ _ q => q
    rintro rfl
    rcases hc with rfl | hc
    · rw [hfree] at e; cases e
    · rw [hfree] at hc; cases hc
  rcases hx with hk | hk
  · refine wpAny_storeName_local hk hn (fun h' hn' hs => ?_) hcls
    obtain ⟨oL, _, _, hoL, _⟩ := id hn
    refine h _ ⟨I.ok, I.os, I.bare, ⟨fun b o e n hb hx => ?_, fun b o e n hb hx => ?_, I.base.free, fun b o e hx => ?_, I.base.tups, I.base.frzs, I.base.tbls⟩, ⟨_, hn', fun j y v' e1 e2 e3 => ?_⟩, fun y c e => ?_, I.free, I.freeC, fun p hp => ?_, tracked ⟨oL, hoL, I.free⟩ hs, by simpa using I.len⟩ ⟨_, hs, .inl rfl⟩
    · exact (hs.2 b (Nat.ne_of_lt (Nat.lt_of_lt_of_le (Heap.lt_size e) I.ok.above))).trans (I.base.keep b o e n hb hx)
    · obtain ⟨sl, e1⟩ := I.base.slot b o e n hb hx
      exact ⟨sl, (hs.2 b (Nat.ne_of_lt (Nat.lt_of_lt_of_le (Heap.lt_size e) I.ok.above))).trans e1⟩
    · obtain ⟨o', e1⟩ := I.base.there b o e hx
      exact ⟨o', (hs.2 b (Nat.ne_of_lt (Nat.lt_of_lt_of_le (Heap.lt_size e) I.ok.above))).trans e1⟩
    · by_cases hj : j = i
      · subst hj
        rw [hi] at e1; cases e1
        rw [List.getElem?_set_self hiσ] at e2
        cases e2
        exact ⟨u, r, .inl ⟨hk, by simp⟩⟩
      · rw [List.getElem?_set_ne (Ne.symm hj)] at e2
        obtain ⟨u', r', q⟩ := hl j y v' e1 e2 e3
        refine ⟨u', r', ?_⟩
        rcases q with ⟨k, e⟩ | ⟨k, c, e, z⟩
        · refine .inl ⟨k, ?_⟩
          have : y ≠ x := fun e => hj (nodup_ix hN e1 (e ▸ hi))
          simp [this, e]
        · exact .inr ⟨k, c, e, z.sameBut hs (cne y c e)⟩
    · obtain ⟨w', z⟩ := I.cell y c e
      exact ⟨w', z.sameBut hs (cne y c e)⟩
    · obtain ⟨e, n, ne, nf, d⟩ := I.pin p hp
      exact ⟨(hs.2 p.1 ne).trans e, n, ne, nf, d⟩
  · have hfn : X.fn x = true := by
      rcases hf with z | z
      · exact z
      · rw [z] at hk; cases hk
    obtain ⟨c, hc⟩ := I.ok.has x (.inl hk)
    obtain ⟨w', z⟩ := I.cell x c hc
    refine wpAny_storeName_cell I.ok.kind hk hc z (fun h' hc' hs => ?_)
    obtain ⟨oc, hoc, hocd⟩ := id z
    refine h { s with heap := h' } ⟨I.ok, I.os, I.bare, ⟨fun b o e n hb hx => ?_, fun b o e n hb hx => ?_, I.base.free, fun b o e hx => ?_, I.base.tups, I.base.frzs, I.base.tbls⟩, ⟨m, hn.sameBut hs (Ne.symm (cne x c hc)), fun j y v' e1 e2 e3 => ?_⟩, fun y c' e => ?_, I.free, I.freeC, fun p hp => ?_, tracked ⟨oc, hoc, I.freeC x c hc⟩ hs, by simpa using I.len⟩ ⟨c, hs, .inr hc⟩
    · exact (hs.2 b (Nat.ne_of_lt (Nat.lt_of_lt_of_le (Heap.lt_size e) (I.ok.cab x c hfn hc)))).trans (I.base.keep b o e n hb hx)
    · obtain ⟨sl, e1⟩ := I.base.slot b o e n hb hx
      exact ⟨sl, (hs.2 b (Nat.ne_of_lt (Nat.lt_of_lt_of_le (Heap.lt_size e) (I.ok.cab x c hfn hc)))).trans e1⟩
    · obtain ⟨o', e1⟩ := I.base.there b o e hx
      exact ⟨o', (hs.2 b (Nat.ne_of_lt (Nat.lt_of_lt_of_le (Heap.lt_size e) (I.ok.cab x c hfn hc)))).trans e1⟩
    · by_cases hj : j = i
      · subst hj
        rw [hi] at e1; cases e1
        rw [List.getElem?_set_self hiσ] at e2
        cases e2
        exact ⟨u, r, .inr ⟨.inl hk, c, hc, hc'⟩⟩
      · rw [List.getElem?_set_ne (Ne.symm hj)] at e2
        obtain ⟨u', r', q⟩ := hl j y v' e1 e2 e3
        refine ⟨u', r', ?_⟩
        rcases q with q | ⟨k, c', e, z'⟩
        · exact .inl q
        · refine .inr ⟨k, c', e, z'.sameBut hs ?_⟩
          rintro rfl
          exact hj (nodup_ix hN e1 (I.ok.inj _ _ _ e hc ▸ hi))
    · by_cases hcc : c' = c
      · subst hcc; exact ⟨_, hc'⟩
      · obtain ⟨w2, z2⟩ := I.cell y c' e
        exact ⟨w2, z2.sameBut hs hcc⟩
    · obtain ⟨e, n, ne, nf, d⟩ := I.pin p hp
      refine ⟨(hs.2 p.1 ?_).trans e, n, ne, nf, d⟩
      intro q
      rw [q, hoc] at e
      have q' : oc = p.2 := Option.some.inj e
      exact d w' (by rw [← q']; exact hocd)
theorem store_ok {M : Model} {A : Around} {E : Value → Shared → Prop} {i : Nat} {x : Str} {v : V} {u : Value} {Q : Unit → Shared → Prop} (I : Inv X pins σ H s) (hN : X.N.Nodup) (hi : X.N[i]? = some x) (hx : Loc X.env.scope x) (r : RelV v u)
    (h : ∀ s', Inv X pins (σ.set i (some v)) H s' → Q () s') (hf : X.fn x = true ∨ X.env.scope.names.lookup x = some .local := by first | exact .inl rfl | exact .inr rfl | assumption) : wpAny M A (storeName X.env x u) Q E s :=
  store_ok2 I hN hi hx r (fun s' I' _ => h s' I') hf
theorem Inv.call' {s' : Shared} {ch : List Addr} (I : Inv X pins σ H s) (ho : s'.os = s.os) (u : Un (frs X.stack) ch H H' s.heap s'.heap) (hok : HOk X.prog X.w H' s'.heap) (hg : AllBare s'.gens)
    (hch : ∀ b ∈ ch, (b ∈ X.ex ∨ X.s₀.heap.objs.size ≤ b) ∧ b ≠ X.env.locals ∧ (∀ x c, X.env.cells.lookup x = some c → c ≠ b) ∧ ∀ p ∈ X.pn ++ pins, p.1 ≠ b) : Inv X pins σ H' s' := by
  obtain ⟨h', g', d', t', o'⟩ := s'
  have e : o' = s.os := ho
  subst e
  exact I.call (g' := g') (t' := t') (d' := d') u hok hg hch
end

noncomputable abbrev XK := Value → Option Addr → Hp → Prop
noncomputable abbrev St := List (Option V)
noncomputable abbrev VK := V → Hp → Prop
noncomputable abbrev TE := St → Hp → VK → Prop
noncomputable abbrev TT := St → Hp → (Bool → Hp → Prop) → Prop
noncomputable abbrev TA := St → Hp → (List V → Hp → Prop) → Prop
structure Ends where
  nx : St → Hp → Prop
  rt : VK
  bk : St → Hp → Prop := fun _ _ => False
  ct : St → Hp → Prop := fun _ _ => False
noncomputable abbrev TS := Ends → St → Hp → Prop

noncomputable def EP (X : Cx) (pins : List (Addr × Obj)) (σ : St) (Q : VK) (u : Value) (s' : Shared) : Prop := ∃ v H', Inv X pins σ H' s' ∧ RelV v u ∧ Q v H'
noncomputable def TP (X : Cx) (pins : List (Addr × Obj)) (σ : St) (Q : Bool → Hp → Prop) (b : Bool) (s' : Shared) : Prop := ∃ H', Inv X pins σ H' s' ∧ Q b H'
noncomputable def AP (X : Cx) (pins : List (Addr × Obj)) (σ : St) (Q : List V → Hp → Prop) (us : List Value) (s' : Shared) : Prop := ∃ vs H', Inv X pins σ H' s' ∧ Vals vs us ∧ Q vs H'
noncomputable def SP (X : Cx) (pins : List (Addr × Obj)) (D : Ends) (f : Flow) (s' : Shared) : Prop :=
  match f with
  | .next => ∃ σ' H', Inv X pins σ' H' s' ∧ D.nx σ' H'
  | .brk => ∃ σ' H', Inv X pins σ' H' s' ∧ D.bk σ' H'
  | .cont => ∃ σ' H', Inv X pins σ' H' s' ∧ D.ct σ' H'
  | .ret u => ∃ v σ' H', Inv X pins σ' H' s' ∧ RelV v u ∧ D.rt v H'

noncomputable def PE (X : Cx) (e : Expr) (t : TE) : Prop :=
  ∀ (pins : List (Addr × Obj)) (s : Shared) (σ : St) (H : Hp) (Q : VK), Inv X pins σ H s → t σ H Q → wpAny (model X.prog X.w) X.A (eval e X.env) (EP X pins σ Q) X.xe s
noncomputable def PT (X : Cx) (e : Expr) (t : TT) : Prop :=
  ∀ (pins : List (Addr × Obj)) (s : Shared) (σ : St) (H : Hp) (Q : Bool → Hp → Prop), Inv X pins σ H s → t σ H Q → wpAny (model X.prog X.w) X.A (isTrue e X.env (eval e X.env)) (TP X pins σ Q) X.xe s
noncomputable def PW (X : Cx) (e : Expr) (t : TT) : Prop :=
  ∀ (whole : Sem Value) (pins : List (Addr × Obj)) (s : Shared) (σ : St) (H : Hp) (Q : Bool → Hp → Prop), Inv X pins σ H s → t σ H Q → wpAny (model X.prog X.w) X.A (isTrue e X.env whole) (TP X pins σ Q) X.xe s
theorem PW.pt {X : Cx} {e : Expr} {t : TT} (h : PW X e t) : PT X e t := h _
noncomputable def PA (X : Cx) (es : List Expr) (t : TA) : Prop :=
  ∀ (pos : Pos) (pins : List (Addr × Obj)) (s : Shared) (σ : St) (H : Hp) (Q : List V → Hp → Prop), Inv X pins σ H s → t σ H Q → wpAny (model X.prog X.w) X.A (spliced (backTo pos (starEach es X.env))) (AP X pins σ Q) X.xe s
noncomputable def PS (X : Cx) (st : Stmt) (t : TS) : Prop :=
  ∀ (pins : List (Addr × Obj)) (s : Shared) (σ : St) (H : Hp) (D : Ends), Inv X pins σ H s → t D σ H → wpAny (model X.prog X.w) X.A (exec st X.env) (SP X pins D) X.xe s
noncomputable def PSs (X : Cx) (st : List Stmt) (t : TS) : Prop :=
  ∀ (pins : List (Addr × Obj)) (s : Shared) (σ : St) (H : Hp) (D : Ends), Inv X pins σ H s → t D σ H → wpAny (model X.prog X.w) X.A (execs st X.env) (SP X pins D) X.xe s
theorem thn {α : Type} {t : Sem α} {Q Q' : α → Shared → Prop} {M : Model} {A : Around} {E : Value → Shared → Prop} {s : Shared} (h : wpAny M A t Q E s) (hQ : ∀ a s, Q a s → Q' a s) : wpAny M A t Q' E s := wpAny_mono h hQ fun _ _ x => x
end L2

namespace L2
open PySem PySem.Spec PyProof.Rows
section
variable {X : Cx}

theorem bin {a b : Expr} {ta tb : TE} (ha : PE X a ta) (hb : PE X b tb) {pins : List (Addr × Obj)} {s : Shared} {σ : St} {H : Hp} {R : V → V → Hp → Prop} (I : Inv X pins σ H s) (h : ta σ H fun x H1 => tb σ H1 fun y H2 => R x y H2)
    {α : Type} {Q : α → Shared → Prop} {f : Value → Value → Sem α}
    (hf : ∀ v u s2 x y H2, Inv X pins σ H2 s2 → RelV x v → RelV y u → R x y H2 → wpAny (model X.prog X.w) X.A (f v u) Q X.xe s2) :
    wpAny (model X.prog X.w) X.A (eval a X.env) (fun v s₁ => wpAny (model X.prog X.w) X.A (eval b X.env) (fun u s₂ => wpAny (model X.prog X.w) X.A (f v u) Q X.xe s₂) X.xe s₁) X.xe s := by
  refine thn (ha pins s σ H _ I h) fun v s1 ⟨x, H1, I1, r1, q1⟩ => ?_
  refine thn (hb pins s1 σ H1 _ I1 q1) fun u s2 ⟨y, H2, I2, r2, q2⟩ => ?_
  exact hf v u s2 x y H2 I2 r1 r2 q2

noncomputable def tVar (i : Nat) : TE := fun σ H Q => ∃ v, σ[i]? = some (some v) ∧ Q v H
noncomputable def tC (v : V) : TE := fun _ H Q => Q v H
theorem pe_var {i : Nat} {x : Str} {pos : Pos} (hN : X.N[i]? = some x) (hv : Vis X.env.scope x) (hd : (x == ("__debug__" : Str)) = false := by decide) (hcd : (x == ("__classdict__" : Str)) = false := by decide) : PE X (.Name x pos) (tVar i) := by
  intro pins s σ H Q I h
  obtain ⟨v, e, h⟩ := h
  obtain ⟨m, hn, hl⟩ := I.loc
  obtain ⟨u, r, l⟩ := hl i x v hN e hv
  have fin : EP X pins σ Q u s := ⟨v, H, I, r, h⟩
  rcases l with ⟨hk, hm⟩ | ⟨hk, c, hc, hcell⟩
  · exact wpAny_Name (wpAny_loadName_local I.ok.kind hk hn hm fin) hd
  · rcases hk with hk | hk
    · exact wpAny_Name (wpAny_loadName_cell I.ok.kind hk hc hcell fin) hd
    · exact wpAny_Name (wpAny_loadName_free I.ok.kind hk hc hcell fin hcd) hd
theorem pe_int {i j pos} : PE X (.Constant (.int i) j pos) (tC (.int i)) := fun _ _ _ H _ I h => wpAny_Constant_int ⟨.int i, H, I.tok _, ⟨_, rfl⟩, h⟩
theorem pe_bl {b j pos} : PE X (.Constant (.bool b) j pos) (tC (.bl b)) := fun _ _ _ H _ I h => Constant_bool ⟨.bl b, H, I, rfl, h⟩
theorem pe_non {j pos} : PE X (.Constant .none j pos) (tC .non) := fun _ _ _ H _ I h => Constant_none ⟨.non, H, I, rfl, h⟩
theorem pe_str {x j pos} : PE X (.Constant (.str x) j pos) (tC (.str x)) := fun _ _ _ H _ I h => Calls.Constant_str ⟨.str x, H, I.tok _, ⟨_, rfl⟩, h⟩

noncomputable def Gl (X : Cx) (x : Str) : Prop := X.env.kindOf x = some .globalImplicit
theorem ld_glob {E : Value → Shared → Prop} {pins : List (Addr × Obj)} {s : Shared} {σ : St} {H : Hp} {x : Str} {u : Value} {pos : Pos} {Q : Value → Shared → Prop} (I : Inv X pins σ H s) (hg : Gl X x) (hm : X.mg x = some u) (h : Q u s)
    (hd : (x == ("__debug__" : Str)) = false := by decide) : wpAny (model X.prog X.w) X.A (eval (.Name x pos) X.env) Q E s :=
  Calls.Name_function_global I.ok.kind hg (Calls.loadGlobal_global (by rw [I.ok.glob]; exact I.mod.glob.keeps I.bk) hm h) hd
theorem ld_blt {E : Value → Shared → Prop} {pins : List (Addr × Obj)} {s : Shared} {σ : St} {H : Hp} {x : Str} {u : Value} {pos : Pos} {Q : Value → Shared → Prop} (I : Inv X pins σ H s) (hg : Gl X x) (hm : X.mg x = none) (hv : bootBuiltins x = some u) (h : Q u s)
    (hn : x ≠ "__name__" := by decide) (hd : (x == ("__debug__" : Str)) = false := by decide) : wpAny (model X.prog X.w) X.A (eval (.Name x pos) X.env) Q E s := by
  obtain ⟨mb, h1, h2⟩ := I.mod.blt
  exact Calls.Name_function_global I.ok.kind hg (Calls.loadGlobal_builtin (by rw [I.ok.glob]; exact I.mod.glob.keeps I.bk) hm (by rw [I.ok.blt]; exact h1.keeps I.bk) ((h2 x hn).trans hv) h) hd
theorem pe_glob {x : Str} {v : V} {u : Value} {pos : Pos} (hg : Gl X x) (hm : X.mg x = some u) (r : RelV v u) (hd : (x == ("__debug__" : Str)) = false := by decide) : PE X (.Name x pos) (tC v) :=
  fun _ _ _ H _ I h => ld_glob I hg hm ⟨v, H, I, r, h⟩ hd
theorem pe_bltn {x : Str} {v : V} {u : Value} {pos : Pos} (hg : Gl X x) (hm : X.mg x = none) (hv : bootBuiltins x = some u) (r : RelV v u) (hn : x ≠ "__name__" := by decide) (hd : (x == ("__debug__" : Str)) = false := by decide) : PE X (.Name x pos) (tC v) :=
  fun _ _ _ H _ I h => ld_blt I hg hm hv ⟨v, H, I, r, h⟩ hn hd

variable {a b : Expr} {ta tb : TE} {pos : Pos}
noncomputable def PC (X : Cx) (op : CmpOp) (a b : Expr) (t : TE) : Prop :=
  ∀ (pins : List (Addr × Obj)) (s : Shared) (σ : St) (H : Hp) (Q : VK), Inv X pins σ H s → t σ H Q →
    wpAny (model X.prog X.w) X.A (eval a X.env) (fun v s₁ => wpAny (model X.prog X.w) X.A (eval b X.env) (fun u s₂ => wpAny (model X.prog X.w) X.A (compareOp op v u) (EP X pins σ Q) X.xe s₂) X.xe s₁) X.xe s
noncomputable def tB (t : TE) : TT := fun σ H Q => t σ H fun x H1 => ∃ c, x = .bl c ∧ Q c H1
theorem pt_cmp {op : CmpOp} {t : TE} (h : PC X op a b t) (h1 : behindInMarks op b = false := by first | exact nobehind _ (by decide) (by decide) | rfl) : PT X (.Compare a [op] [b] pos) (tB t) := by
  intro pins s σ H Q I hw
  refine wpAny_isTrue_Compare1 (thn (h pins s σ H _ I hw) fun v s1 h1 => thn h1 fun u s2 h2 => thn h2 fun c s3 ⟨x, H1, I1, r1, q1⟩ => ?_) h1
  obtain ⟨d, rfl, q⟩ := q1
  cases r1
  exact wpAny_truthy_bool ⟨H1, I1, q⟩
theorem pt_val {e : Expr} {t : TE} (h : PE X e t) (he : ∀ whole, isTrue e X.env whole = (do let v ← whole; standAt e.pos; holding [v] (truthy v)) := by intro _; rfl) : PT X e (tB t) := by
  intro pins s σ H Q I hw
  refine isTrue_plain (thn (h pins s σ H _ I hw) fun v s1 ⟨x, H1, I1, r1, q1⟩ => ?_) (he _)
  obtain ⟨d, rfl, q⟩ := q1
  cases r1
  exact wpAny_truthy_bool ⟨H1, I1, q⟩

variable {tA tB' : TT} {rest : List Expr}
noncomputable def tAnd (t u : TT) : TT := fun σ H Q => t σ H fun c H1 => if c = true then u σ H1 Q else Q false H1
noncomputable def tOr (t u : TT) : TT := fun σ H Q => t σ H fun c H1 => if c = true then Q true H1 else u σ H1 Q
noncomputable def tNot (t : TT) : TT := fun σ H Q => t σ H fun c H1 => Q (!c) H1
theorem pw_and1 (ha : PT X a tA) : PW X (.BoolOp .And [a] pos) tA := by
  intro wh pins s σ H Q I h
  refine isTrue_and (thn (ha pins s σ H Q I h) fun c s1 e => ?_)
  cases c with
  | true => exact isTrue_and_nil e
  | false => exact e
theorem pw_or1 (ha : PT X a tA) : PW X (.BoolOp .Or [a] pos) tA := by
  intro wh pins s σ H Q I h
  refine isTrue_or (thn (ha pins s σ H Q I h) fun c s1 e => ?_)
  cases c with
  | false => exact isTrue_or_nil e
  | true => exact e
theorem pw_and (ha : PT X a tA) (hb : PW X (.BoolOp .And (b :: rest) pos) tB') : PW X (.BoolOp .And (a :: b :: rest) pos) (tAnd tA tB') := by
  intro wh pins s σ H Q I h
  refine isTrue_and (thn (ha pins s σ H _ I h) fun c s1 ⟨H1, I1, q1⟩ => ?_)
  cases c with
  | true => exact hb wh pins s1 σ H1 Q I1 q1
  | false => exact ⟨H1, I1, q1⟩
theorem pw_or (ha : PT X a tA) (hb : PW X (.BoolOp .Or (b :: rest) pos) tB') : PW X (.BoolOp .Or (a :: b :: rest) pos) (tOr tA tB') := by
  intro wh pins s σ H Q I h
  refine isTrue_or (thn (ha pins s σ H _ I h) fun c s1 ⟨H1, I1, q1⟩ => ?_)
  cases c with
  | true => exact ⟨H1, I1, q1⟩
  | false => exact hb wh pins s1 σ H1 Q I1 q1
theorem pt_not (ha : PT X a tA) : PT X (.UnaryOp .Not a pos) (tNot tA) := by
  intro pins s σ H Q I h
  exact isTrue_not (ha pins s σ H (fun c H1 => Q (!c) H1) I h)
noncomputable def tAndV (ta tb : TE) : TE := fun σ H Q => ta σ H fun x H1 => ∃ c, x = .bl c ∧ if c = true then tb σ H1 Q else Q (.bl false) H1
noncomputable def tNotV (ta : TE) : TE := fun σ H Q => ta σ H fun x H1 => ∃ c, x = .bl c ∧ Q (.bl (!c)) H1
theorem pe_one {op} {t : TE} (h : PE X a t) : PE X (.BoolOp op [a] pos) t := fun pins s σ H Q I hw => BoolOp_one (h pins s σ H Q I hw)
theorem pe_and (ha : PE X a ta) (hb : PE X (.BoolOp .And (b :: rest) pos) tb) : PE X (.BoolOp .And (a :: b :: rest) pos) (tAndV ta tb) := by
  intro pins s σ H Q I h
  refine BoolOp_and (thn (ha pins s σ H _ I h) fun v s1 ⟨x, H1, I1, r1, q1⟩ => ?_)
  obtain ⟨c, rfl, q1⟩ := q1
  cases r1
  refine wpAny_truthy_bool ?_
  cases c with
  | true => exact hb pins s1 σ H1 Q I1 q1
  | false => exact ⟨.bl false, H1, I1, rfl, q1⟩
theorem pe_not (ha : PE X a ta) : PE X (.UnaryOp .Not a pos) (tNotV ta) := by
  intro pins s σ H Q I h
  refine UnaryOp_ (thn (ha pins s σ H _ I h) fun v s1 ⟨x, H1, I1, r1, q1⟩ => ?_)
  obtain ⟨c, rfl, q1⟩ := q1
  cases r1
  exact not_of (wpAny_truthy_bool ⟨.bl (!c), H1, I1, rfl, q1⟩)
noncomputable def tIf (t : TT) (ta tb : TE) : TE := fun σ H Q => t σ H fun c H1 => if c = true then ta σ H1 Q else tb σ H1 Q
theorem pe_ifExp {c : Expr} (hc : PT X c tA) (ha : PE X a ta) (hb : PE X b tb) : PE X (.IfExp c a b pos) (tIf tA ta tb) := by
  intro pins s σ H Q I h
  refine wpAny_IfExp (thn (hc pins s σ H _ I h) fun d s1 ⟨H1, I1, q1⟩ => ?_)
  cases d with
  | true => exact ha pins s1 σ H1 Q I1 q1
  | false => exact hb pins s1 σ H1 Q I1 q1
end
end L2

namespace L2
open PySem PySem.Spec PyProof.Rows

noncomputable def SqL (K : PySem.W.Frag) (H : Hp) (a : Addr) (xs : List V) : Prop :=
  Rd H a (.lst xs) ∨
    ∃ (o : Obj) (its : Array Value) (n : Nat), K.lookup a = some o ∧ o.cls = .type "list" ∧ o.dict = none ∧ o.data = .seq its n ∧ its.size ≤ sizeLine ∧ Vals xs its.toList
noncomputable def SqT (K : PySem.W.Frag) (H : Hp) (a : Addr) (xs : List V) : Prop :=
  Rd H a (.tup xs) ∨
    ∃ (o : Obj) (its : Array Value) (n : Nat), K.lookup a = some o ∧ o.cls = .type "tuple" ∧ o.data = .seq its n ∧ its.size ≤ sizeLine ∧ Vals xs its.toList
noncomputable def absV : Value → Option V
  | .none => some .non
  | .bool b => some (.bl b)
  | .int i _ => some (.int i)
  | .str x _ => some (.str x)
  | .bytes b _ => some (.byt b)
  | .float b _ => some (.flt b)
  | .ref a => some (.ref a)
  | .type n => some (.ty n)
  | _ => none
theorem RelV.abs {x : V} {u : Value} (r : RelV x u) : absV u = some x := by
  cases x with
  | non => cases r; rfl
  | bl _ => cases r; rfl
  | int _ => obtain ⟨t, rfl⟩ := r; rfl
  | str _ => obtain ⟨t, rfl⟩ := r; rfl
  | byt _ => obtain ⟨t, rfl⟩ := r; rfl
  | flt _ => obtain ⟨t, rfl⟩ := r; rfl
  | ref _ => cases r; rfl
  | ty _ => cases r; rfl
theorem RelV.inj {x y : V} {u : Value} (r : RelV x u) (q : RelV y u) : x = y := Option.some.inj (r.abs.symm.trans q.abs)
theorem Vals.inj : ∀ {xs ys : List V} {us : List Value}, Vals xs us → Vals ys us → xs = ys
  | _, _, _, .nil, .nil => rfl
  | _, _, _, .cons r t, .cons r' t' => by rw [r.inj r', Vals.inj t t']
section
variable {X : Cx} {pins : List (Addr × Obj)} {σ : St} {H : Hp} {s : Shared} {a : Addr} {xs ys : List V}
theorem SqL.of {K : PySem.W.Frag} (h : H a = some (.lst xs)) : SqL K H a xs := .inl (.inl h)
theorem SqT.of {K : PySem.W.Frag} (h : H a = some (.tup xs)) : SqT K H a xs := .inl (.inl h)
theorem Inv.list (I : Inv X pins σ H s) (h : SqL X.K H a xs) : ∃ its : List Value, Vals xs its ∧ PlainL s.heap a its.toArray ∧ xs.length ≤ sizeLine := by
  rcases h with h | ⟨o, its, n, hk, hc, hd, hs, hz, r⟩
  · obtain ⟨z, its, n, r, e⟩ := h.ok I.hok
    exact ⟨its, r, ⟨_, n, e, rfl, rfl, rfl⟩, z⟩
  · refine ⟨its.toList, r, ⟨o, n, I.kIn a o hk, hc, hd, by simpa using hs⟩, ?_⟩
    have e := r.length
    simp only [Array.length_toList] at e
    omega
theorem Inv.tuple (I : Inv X pins σ H s) (h : SqT X.K H a xs) : ∃ its : List Value, Vals xs its ∧ IsTup s.heap a its.toArray ∧ xs.length ≤ sizeLine := by
  rcases h with h | ⟨o, its, n, hk, hc, hs, hz, r⟩
  · obtain ⟨z, its, r, p⟩ := h.ok I.hok
    exact ⟨its, r, p, z⟩
  · refine ⟨its.toList, r, ⟨o, I.kIn a o hk, hc, n, by simpa using hs⟩, ?_⟩
    have e := r.length
    simp only [Array.length_toList] at e
    omega
theorem Inv.list_inj (I : Inv X pins σ H s) (h : SqL X.K H a xs) (h' : SqL X.K H a ys) : xs = ys := by
  obtain ⟨its, r, ⟨o, n, e, _, _, d⟩, _⟩ := I.list h
  obtain ⟨its', r', ⟨o', n', e', _, _, d'⟩, _⟩ := I.list h'
  rw [e] at e'; cases e'
  rw [d] at d'
  injection d' with d1 _
  have : its = its' := by simpa using congrArg Array.toList d1
  subst this
  exact r.inj r'
theorem Inv.tuple_inj (I : Inv X pins σ H s) (h : SqT X.K H a xs) (h' : SqT X.K H a ys) : xs = ys := by
  obtain ⟨its, r, ⟨o, e, _, n, d⟩, _⟩ := I.tuple h
  obtain ⟨its', r', ⟨o', e', _, n', d'⟩, _⟩ := I.tuple h'
  rw [e] at e'; cases e'
  rw [d] at d'
  injection d' with d1 _
  have : its = its' := by simpa using congrArg Array.toList d1
  subst this
  exact r.inj r'
end

noncomputable abbrev Cx.wish (X : Cx) (E : Value → Shared → Prop) : Cx := { X with xe := E }
noncomputable abbrev Cx.nox (X : Cx) : Cx := X.wish fun _ _ => False
theorem Cx.Ok.wish {X : Cx} (ok : X.Ok) (E : Value → Shared → Prop) : (X.wish E).Ok :=
  ⟨ok.mod, ok.kind, ok.glob, ok.blt, ok.above, ok.inj, ok.has, ok.cab, ok.hd, ok.frames, ok.stk, ok.exf, ok.bs, ok.bsz, ok.noex, ok.exfs, ok.funs, ok.frf⟩
theorem Cx.Ok.unwish {X : Cx} {E : Value → Shared → Prop} (ok : (X.wish E).Ok) : X.Ok :=
  ⟨ok.mod, ok.kind, ok.glob, ok.blt, ok.above, ok.inj, ok.has, ok.cab, ok.hd, ok.frames, ok.stk, ok.exf, ok.bs, ok.bsz, ok.noex, ok.exfs, ok.funs, ok.frf⟩
section
variable {X : Cx} {pins : List (Addr × Obj)} {σ : St} {H : Hp} {s : Shared} {E : Value → Shared → Prop}
theorem Inv.wish (I : Inv X pins σ H s) (E : Value → Shared → Prop) : Inv (X.wish E) pins σ H s := ⟨I.ok.wish E, I.os, I.bare, I.base, I.loc, I.cell, I.free, I.freeC, I.pin, I.hok, I.len⟩
theorem Inv.unwish (I : Inv (X.wish E) pins σ H s) : Inv X pins σ H s := ⟨I.ok.unwish, I.os, I.bare, I.base, I.loc, I.cell, I.free, I.freeC, I.pin, I.hok, I.len⟩
theorem SP.unwish {D : Ends} {f : Flow} {s' : Shared} (h : SP (X.wish E) pins D f s') : SP X pins D f s' := by
  cases f with
  | next => obtain ⟨σ', H', I, q⟩ := h; exact ⟨σ', H', I.unwish, q⟩
  | brk => obtain ⟨σ', H', I, q⟩ := h; exact ⟨σ', H', I.unwish, q⟩
  | cont => obtain ⟨σ', H', I, q⟩ := h; exact ⟨σ', H', I.unwish, q⟩
  | ret u => obtain ⟨v, σ', H', I, r, q⟩ := h; exact ⟨v, σ', H', I.unwish, r, q⟩
theorem PSs.nox {st : List Stmt} {t : TS} (h : PSs X.nox st t) : PSs X st t := fun pins s σ H D I hw =>
  wpAny_mono (h pins s σ H D (I.wish _) hw) (fun _ _ q => q.unwish) fun _ _ z => False.elim z
end

section
variable {X : Cx} {st : Stmt} {rest : List Stmt} {t u : TS} {e : Expr} {te : TE} {pos : Pos}
noncomputable def tNext : TS := fun D σ H => D.nx σ H
noncomputable def tSeq (t u : TS) : TS := fun D σ H => t { D with nx := u D } σ H
theorem pss_nil : PSs X [] tNext := fun _ _ σ H _ I h => wpAny_execs_nil ⟨σ, H, I, h⟩
theorem pss_cons (h1 : PS X st t) (h2 : PSs X rest u) : PSs X (st :: rest) (tSeq t u) := by
  intro pins s σ H D I h
  refine wpAny_execs_cons (thn (h1 pins s σ H { D with nx := u D } I h) fun f s1 q => ?_)
  cases f with
  | next =>
    obtain ⟨σ', H', I', q⟩ := q
    exact h2 pins s1 σ' H' D I' q
  | ret v => exact q
  | brk => exact q
  | cont => exact q
theorem pss_one (h1 : PS X st t) : PSs X [st] t := by
  intro pins s σ H D I h
  refine wpAny_execs_cons (thn (h1 pins s σ H D I h) fun f s1 q => ?_)
  cases f with
  | next => exact wpAny_execs_nil q
  | ret v => exact q
  | brk => exact q
  | cont => exact q
theorem Inv.quiet {pins : List (Addr × Obj)} {σ : St} {H : Hp} {s : Shared} (I : Inv X pins σ H s) : interactive X.env = false := by simp [interactive, I.ok.kind]
noncomputable def tDrop (te : TE) : TS := fun D σ H => te σ H fun _ H1 => D.nx σ H1
theorem ps_expr (he : PE X e te) (hs : swapsWith e none pos.line X.env = pure false := by rfl) : PS X (.Expr e pos) (tDrop te) := by
  intro pins s σ H D I h
  exact wpAny_Expr_any (thn (he pins s σ H _ I h) fun v s1 ⟨x, H1, I1, r1, q1⟩ => ⟨σ, H1, I1, q1⟩) I.quiet hs
noncomputable def tRet (te : TE) : TS := fun D σ H => te σ H D.rt
theorem ps_ret (he : PE X e te) : PS X (.Return (some e) pos) (tRet te) := by
  intro pins s σ H D I h
  exact wpAny_Return_some (thn (he pins s σ H _ I h) fun v s1 ⟨x, H1, I1, r1, q1⟩ => ⟨x, σ, H1, I1, r1, q1⟩)
noncomputable def tIfS (c : TT) (t u : TS) : TS := fun D σ H => c σ H fun b H1 => if b = true then t D σ H1 else u D σ H1
theorem ps_if {c : Expr} {a b : List Stmt} {tc : TT} (hc : PT X c tc) (ha : PSs X a t) (hb : PSs X b u) : PS X (.If c a b pos) (tIfS tc t u) := by
  intro pins s σ H D I h
  refine wpAny_If (thn (hc pins s σ H _ I h) fun d s1 ⟨H1, I1, q1⟩ => ?_)
  cases d with
  | true => exact ha pins s1 σ H1 D I1 q1
  | false => exact hb pins s1 σ H1 D I1 q1
noncomputable def tNever : TS := fun _ _ _ => False
theorem ps_never : PS X st tNever := fun _ _ _ _ _ _ h => h.elim
end

noncomputable abbrev TG := V → St → Hp → (St → Hp → Prop) → Prop
noncomputable abbrev TGs := List V → St → Hp → (St → Hp → Prop) → Prop
noncomputable def PG (X : Cx) (target : Expr) (t : TG) : Prop :=
  ∀ (pins : List (Addr × Obj)) (s : Shared) (σ : St) (H : Hp) (v : V) (u : Value) (Q : St → Hp → Prop), Inv X pins σ H s → RelV v u → t v σ H Q →
    wpAny (model X.prog X.w) X.A (assign target X.env u) (fun _ s' => ∃ σ' H', Inv X pins σ' H' s' ∧ Q σ' H') X.xe s
noncomputable def PGs (X : Cx) (ts : List Expr) (t : TGs) : Prop :=
  ∀ (pins : List (Addr × Obj)) (s : Shared) (σ : St) (H : Hp) (vs : List V) (us : List Value) (Q : St → Hp → Prop), Inv X pins σ H s → Vals vs us → t vs σ H Q →
    wpAny (model X.prog X.w) X.A (assignInOrder ((assignEach ts X.env).map (·.2)) us) (fun _ s' => ∃ σ' H', Inv X pins σ' H' s' ∧ Q σ' H') X.xe s
noncomputable abbrev TSet := V → V → V → Hp → (Hp → Prop) → Prop
noncomputable def PSet (X : Cx) (t : TSet) : Prop :=
  ∀ (pins : List (Addr × Obj)) (s : Shared) (σ : St) (H : Hp) (o i v : V) (ov iv u : Value) (Q : Hp → Prop), Inv X pins σ H s → RelV o ov → RelV i iv → RelV v u → t o i v H Q →
    wpAny (model X.prog X.w) X.A (setItem ov iv u) (fun _ s' => ∃ H', Inv X pins σ H' s' ∧ Q H') X.xe s
section
variable {X : Cx} {pos : Pos}
noncomputable def gName (i : Nat) : TG := fun v σ H Q => Q (σ.set i (some v)) H
theorem pg_name {i : Nat} {x : Str} (hN : X.N.Nodup) (hi : X.N[i]? = some x) (hx : Loc X.env.scope x) (hf : X.fn x = true ∨ X.env.scope.names.lookup x = some .local := by first | exact .inl rfl | exact .inr rfl | assumption) : PG X (.Name x pos) (gName i) := by
  intro pins s σ H v u Q I r h
  exact wpAny_assign_Name (store_ok I hN hi hx r (fun s' I' => ⟨_, H, I', h⟩) hf)
noncomputable def gNil : TGs := fun vs σ H Q => vs = [] ∧ Q σ H
noncomputable def gCons (t : TG) (u : TGs) : TGs := fun vs σ H Q => ∃ v r, vs = v :: r ∧ t v σ H fun σ' H' => u r σ' H' Q
theorem pgs_nil : PGs X [] gNil := by
  intro pins s σ H vs us Q I r h
  obtain ⟨e, h⟩ := h
  subst e
  cases r
  exact assignInOrder_nil ⟨σ, H, I, h⟩
theorem pgs_cons {e : Expr} {es : List Expr} {t : TG} {u : TGs} (h1 : PG X e t) (h2 : PGs X es u)
    (hs : (assignEach (e :: es) X.env).map (·.2) = assign e X.env :: (assignEach es X.env).map (·.2) := by rfl) : PGs X (e :: es) (gCons t u) := by
  intro pins s σ H vs us Q I r h
  obtain ⟨v, vr, e1, h⟩ := h
  subst e1
  cases r with
  | cons r rr =>
    rw [hs]
    refine assignInOrder_cons (thn (h1 pins s σ H _ _ _ I r h) fun _ s1 ⟨σ1, H1, I1, q1⟩ => ?_)
    exact h2 pins s1 σ1 H1 _ _ Q I1 rr q1
noncomputable def gTup (K : PySem.W.Frag) (n : Nat) (t : TGs) : TG := fun v σ H Q => ∃ a xs, v = .ref a ∧ SqT K H a xs ∧ xs.length = n ∧ t xs σ H Q
theorem pg_tup {es : List Expr} {k : Nat} {t : TGs} {n : Nat} (hc : X.calm = true) (h : PGs X es t)
    (hn : (assignEach es X.env).length = n := by rfl) (hst : (assignEach es X.env).findIdx? (·.1) = none := by rfl) : PG X (.Tuple es k pos) (gTup X.K n t) := by
  intro pins s σ H v u Q I r hw
  obtain ⟨a, xs, e1, hq, hl, hw⟩ := hw
  subst e1
  cases r
  obtain ⟨its, rv, ht, hz⟩ := I.tuple hq
  refine assign_Tuple_tuple (I.ok.hd hc) ht (by simp [hn, ← hl, rv.length]) hst fun h' hx => ?_
  have I1 : Inv X pins σ H { s with heap := h' } := I.kept (t' := s.toks) fun b o e => hx b o (Nat.ne_of_lt (Heap.lt_size e)) e
  exact h pins _ σ H xs _ Q I1 (by simpa using rv) hw
noncomputable def gSub (to ti : TE) (t : TSet) : TG := fun v σ H Q => to σ H fun o H1 => ti σ H1 fun i H2 => t o i v H2 fun H3 => Q σ H3
theorem pg_sub {o i : Expr} {to ti : TE} {t : TSet} (ho : PE X o to) (hi : PE X i ti) (hs : PSet X t)
    (ha : ∀ v, assign (.Subscript o i pos) X.env v = (do
      let ov ← holding [v] (eval o X.env)
      let iv ← holding [v, ov] (eval i X.env)
      standAt pos
      holding [v, ov, iv] (setItem ov iv v)
      release [v, ov, iv] []) := by intro _; rfl) : PG X (.Subscript o i pos) (gSub to ti t) := by
  intro pins s σ H v u Q I r h
  rw [ha]
  refine wpAny_bind (wpAny_holding (thn (ho pins s σ H _ I h) fun ov s1 ⟨x, H1, I1, r1, q1⟩ => ?_))
  refine wpAny_bind (wpAny_holding (thn (hi pins s1 σ H1 _ I1 q1) fun iv s2 ⟨y, H2, I2, r2, q2⟩ => ?_))
  refine wpAny_bind (wpAny_standAt (wpAny_bind (wpAny_holding (thn (hs pins s2 σ H2 x y v ov iv u _ I2 r1 r2 r q2) fun _ s3 ⟨H3, I3, q3⟩ => ?_))))
  exact wpAny_release ⟨σ, H3, I3, q3⟩
noncomputable def tAsg (te : TE) (g : TG) : TS := fun D σ H => te σ H fun x H1 => g x σ H1 D.nx
theorem ps_asg {tg e : Expr} {te : TE} {g : TG} (he : PE X e te) (hg : PG X tg g) (hs : swapsWithSole [tg] e pos.line X.env = pure false := by rfl) (hw : swappedStores [tg] e X.env = pure none := by rfl)
    (h1 : (assignEach [tg] X.env).map (·.2) = [assign tg X.env] := by rfl) : PS X (.Assign [tg] e pos) (tAsg te g) := by
  intro pins s σ H D I h
  refine wpAny_Assign_stores (thn (he pins s σ H _ I h) fun v s1 ⟨x, H1, I1, r1, q1⟩ => ?_) hs hw
  rw [h1]
  exact thn (hg pins s1 σ H1 x v _ I1 r1 q1) fun _ s2 q => q
theorem ps_set {i : Nat} {x : Str} {e : Expr} {te : TE} {pos' : Pos} (hN : X.N.Nodup) (hi : X.N[i]? = some x) (hx : Loc X.env.scope x) (he : PE X e te) (hs : swapsWith e (some (.Name x pos')) pos.line X.env = pure false := by rfl) (hf : X.fn x = true ∨ X.env.scope.names.lookup x = some .local := by first | exact .inl rfl | exact .inr rfl | assumption) :
    PS X (.Assign [.Name x pos'] e pos) (tAsg te (gName i)) := by
  intro pins s σ H D I h
  refine wpAny_Assign_Name (thn (he pins s σ H _ I h) fun v s1 ⟨y, H1, I1, r1, q1⟩ => ?_) hs
  exact store_ok I1 hN hi hx r1 (fun s2 I2 => ⟨_, H1, I2, q1⟩) hf
end

section
variable {X : Cx} {pos : Pos}
noncomputable def tWhile (c : TT) (tb : TS) : TS := fun D σ H => ∃ W : Nat → St → Hp → Prop, (∃ m, W m σ H) ∧ ∀ m σ H, W m σ H →
  c σ H fun b H1 => if b = true then ∃ N : St → Hp → Prop, (∀ σ' H', N σ' H' → ∃ m', m' < m ∧ W m' σ' H') ∧ tb { D with nx := N, ct := N, bk := D.nx } σ H1 else D.nx σ H1
theorem ps_while {c : Expr} {body : List Stmt} {tc : TT} {tb : TS} (hp : PassesOwn (model X.prog X.w) X.A X.env X.xe) (hc : PT X c tc) (hb : PSs X body tb) : PS X (.While c body [] pos) (tWhile tc tb) := by
  intro pins s σ H D I h
  obtain ⟨W, ⟨m0, w0⟩, turn⟩ := h
  refine wpAny_While (codeAny_whileLoop (fun n s' => ∃ σ' H', Inv X pins σ' H' s' ∧ W n σ' H') ?_ m0 ⟨σ, H, I, w0⟩)
  rintro n s1 ⟨σ1, H1, I1, w1⟩
  refine wpAny_passesOwn hp (thn (hc pins s1 σ1 H1 _ I1 (turn n σ1 H1 w1)) fun b s2 ⟨H2, I2, q2⟩ => ?_)
  cases b with
  | true =>
    obtain ⟨N, hN, q2⟩ := q2
    rw [if_pos rfl]
    refine wpAny_passesOwn hp (thn (hb pins s2 σ1 H2 _ I2 q2) fun f s3 q3 => ?_)
    cases f with
    | next =>
      obtain ⟨σ3, H3, I3, n3⟩ := q3
      obtain ⟨m', hm, w3⟩ := hN σ3 H3 n3
      exact ⟨m', hm, σ3, H3, I3, w3⟩
    | cont =>
      obtain ⟨σ3, H3, I3, n3⟩ := q3
      obtain ⟨m', hm, w3⟩ := hN σ3 H3 n3
      exact ⟨m', hm, σ3, H3, I3, w3⟩
    | brk => exact q3
    | ret v => exact q3
  | false =>
    rw [if_neg Bool.false_ne_true]
    exact wpAny_execs_nil ⟨σ1, H2, I2, q2⟩
end

structure It where
  go : Nat → Hp → Prop
  yld : Nat → Hp → V → Hp → Prop
  stop : Nat → Hp → Prop
noncomputable def FpOk (X : Cx) (pins : List (Addr × Obj)) (H : Hp) (b : Addr) : Prop :=
  H b = none ∧ b ≠ X.env.locals ∧ b ∉ X.fs ∧ (b ∈ X.ex ∨ X.s₀.heap.objs.size ≤ b) ∧ (∀ x c, X.env.cells.lookup x = some c → c ≠ b) ∧ ∀ p ∈ X.pn ++ pins, p.1 ≠ b
theorem Inv.fpOk {X : Cx} {pins : List (Addr × Obj)} {σ : St} {H H' : Hp} {s : Shared} {b : Addr} (I : Inv X pins σ H s) (hb : s.heap.objs.size ≤ b) (hn : H' b = none) : FpOk X pins H' b := by
  refine ⟨hn, Nat.ne_of_gt (Nat.lt_of_lt_of_le I.lt hb), I.nofs hb, .inr (Nat.le_trans I.sz hb), fun x c e z => ?_, fun p hp z => ?_⟩
  · obtain ⟨v, q⟩ := I.cell x c e
    exact absurd (Nat.lt_of_lt_of_le q.lt (by rw [z]; exact hb)) (Nat.lt_irrefl _)
  · exact absurd (Nat.lt_of_lt_of_le (Heap.lt_size (I.pin p hp).1) (by rw [z]; exact hb)) (Nat.lt_irrefl _)
structure Turn (P : Program) (w : World) (K : PySem.W.Frag) (tg : Expr) (J : It) (fp : List Addr) (it : Addr) (tn : Nat → Heap → Prop) : Prop where
  mem : it ∈ fp
  obj : ∀ i h, tn i h → ∀ b ∈ fp, ∃ o, h.get? b = some o ∧ ∀ v, o.data ≠ .cell v
  keep : ∀ i h h', tn i h → (∀ b ∈ fp, ∀ o, h.get? b = some o → h'.get? b = some o) → tn i h'
  item : ∀ (X : Cx), X.prog = P → X.w = w → X.K = K → X.calm = true → ∀ (i : Nat) (pins : List (Addr × Obj)) (s : Shared) (σ : St) (H : Hp) (E : Value → Shared → Prop), Inv X pins σ H s → (∀ b ∈ fp, FpOk X pins H b) → tn i s.heap → J.go i H →
    wpAny (model P w) X.A (pyNext (.ref it)) (fun r s1 => ∃ u, r = some u ∧
      wpAny (model P w) X.A (letOwnedTupleGo tg (.ref it) u) (fun _ s2 => ∃ x H', Inv X pins σ H' s2 ∧ RelV x u ∧ J.yld i H x H' ∧ tn (i + 1) s2.heap ∧ ∀ b ∈ fp, H' b = none) E s1) E s
  done : ∀ (X : Cx), X.prog = P → X.w = w → X.K = K → X.calm = true → ∀ (i : Nat) (pins : List (Addr × Obj)) (s : Shared) (σ : St) (H : Hp) (E : Value → Shared → Prop), Inv X pins σ H s → (∀ b ∈ fp, FpOk X pins H b) → tn i s.heap → J.stop i H →
    wpAny (model P w) X.A (pyNext (.ref it)) (fun r s1 => r = none ∧ Inv X pins σ H s1) E s
  self : ∀ (A : Around) (i : Nat) (s : Shared) (Q : Value → Shared → Prop) (E : Value → Shared → Prop), tn i s.heap → Q (.ref it) s → wpAny (model P w) A (pyIter (.ref it)) Q E s
noncomputable abbrev TI := St → Hp → (It → Hp → Prop) → Prop
noncomputable def PIE (X : Cx) (pins : List (Addr × Obj)) (σ : St) (tg : Expr) (R : It → Hp → Prop) (itv : Value) (s2 : Shared) : Prop :=
  ∃ (it : Addr) (fp : List Addr) (tn : Nat → Heap → Prop) (J : It) (H' : Hp), itv = .ref it ∧ Inv X pins σ H' s2 ∧ Turn X.prog X.w X.K tg J fp it tn ∧ tn 0 s2.heap ∧ (∀ b ∈ fp, FpOk X pins H' b) ∧ R J H'
noncomputable def PI (X : Cx) (tg iter : Expr) (wi : TI) : Prop :=
  ∀ (pins : List (Addr × Obj)) (s : Shared) (σ : St) (H : Hp) (R : It → Hp → Prop), Inv X pins σ H s → wi σ H R →
    wpAny (model X.prog X.w) X.A (eval iter X.env) (fun v s1 => wpAny (model X.prog X.w) X.A (pyIter v) (PIE X pins σ tg R) X.xe s1) X.xe s

theorem go_of {M : Model} {A : Around} {E : Value → Shared → Prop} {s : Shared} {tg : Expr} {it : Addr} {u : Value} {o : Obj} {n : String} {vs : Array Value} {Q : Unit → Shared → Prop} (ho : s.heap.get? it = some o) (hc : o.cls = .type n) (hd : o.data = .fields vs)
    (hn : ["enumerate", "zip", "dict_itemiterator", "dict_reverseitemiterator", "odict_iterator", "itertools.zip_longest", "itertools.pairwise"].contains n = false) (hQ : Q () s) : wpAny M A (letOwnedTupleGo tg (.ref it) u) Q E s := by
  unfold letOwnedTupleGo
  cases tg <;> first
    | exact wpAny_pure hQ
    | (cases u <;> first
        | exact wpAny_pure hQ
        | (refine wpAny_bind (wpAny_load ho ?_)
           rw [hc, hd]
           show wpAny M A (if (["enumerate", "zip", "dict_itemiterator", "dict_reverseitemiterator", "odict_iterator", "itertools.zip_longest", "itertools.pairwise"].contains n && vs[0]? == some (rawInt _)) = true then _ else _) Q E s
           rw [if_neg (by intro h; rw [hn, Bool.false_and] at h; cases h)]
           exact wpAny_pure hQ))

noncomputable def Itl (K : PySem.W.Frag) (a : Addr) : It :=
  ⟨fun i H => ∃ xs x, SqL K H a xs ∧ xs[i]? = some x, fun i H x H' => H' = H ∧ ∀ xs, SqL K H a xs → xs[i]? = some x, fun i H => ∃ xs, SqL K H a xs ∧ xs.length ≤ i⟩
noncomputable def Itt (K : PySem.W.Frag) (a : Addr) : It :=
  ⟨fun i H => ∃ xs x, SqT K H a xs ∧ xs[i]? = some x, fun i H x H' => H' = H ∧ ∀ xs, SqT K H a xs → xs[i]? = some x, fun i H => ∃ xs, SqT K H a xs ∧ xs.length ≤ i⟩
noncomputable def Itr (lo : Int) (n : Nat) : It := ⟨fun i _ => i < n, fun i H x H' => H' = H ∧ x = .int (lo + i), fun i _ => n ≤ i⟩
theorem turn_list {P : Program} {w : World} {K : PySem.W.Frag} {tg : Expr} (a it : Addr) : Turn P w K tg (Itl K a) [it] it (fun i h => h.IsListIter it a i) where
  mem := by simp
  obj := fun i h st b hb => by
    have e : b = it := by simpa using hb
    subst e
    obtain ⟨o, e, c, d⟩ := st
    exact ⟨o, e, fun v z => by rw [d] at z; cases z⟩
  keep := fun i h h' st k => st.at fun o e => k it (by simp) o e
  item := by
    intro X hP hw hK hc i pins s σ H E I hf st hg
    subst hP hw hK
    obtain ⟨xs, x, hq, hx⟩ := hg
    obtain ⟨its, rv, p, hz⟩ := I.list hq
    obtain ⟨u, hu, ru⟩ := rv.get hx
    obtain ⟨f0, f1, f2, f3, f4, f5⟩ := hf it (by simp)
    refine wpAny_pyNext_list_item st p.isList (x := u) (by simpa using hu) fun h' st' sb => ?_
    have I1 : Inv X pins σ H { s with heap := h' } := I.turned (t' := s.toks) (fun b o hb e => (sb.2 b hb).trans e) f0 f1 f3 f4 f5
    obtain ⟨o, e, c, d⟩ := id st'
    exact ⟨u, rfl, go_of (s := { s with heap := h' }) e c d (by decide) ⟨x, H, I1, ru, ⟨rfl, fun ys hy => by rw [I.list_inj hy hq]; exact hx⟩, st', fun b hb => (hf b hb).1⟩⟩
  done := by
    intro X hP hw hK hc i pins s σ H E I hf st hg
    subst hP hw hK
    obtain ⟨xs, hq, hx⟩ := hg
    obtain ⟨its, rv, p, hz⟩ := I.list hq
    obtain ⟨f0, f1, f2, f3, f4, f5⟩ := hf it (by simp)
    have hl := rv.length
    exact wpAny_pyNext_list_end (I.ok.hd hc) st p.isList (by simp; omega) fun h' eb => ⟨rfl, I.turned (t' := s.toks) (fun b o hb e => eb b o hb e) f0 f1 f3 f4 f5⟩
  self := fun _ _ _ _ _ st h => wpAny_pyIter_listiter st h
theorem turn_tuple {P : Program} {w : World} {K : PySem.W.Frag} {tg : Expr} (a it : Addr) : Turn P w K tg (Itt K a) [it] it (fun i h => h.IsTupleIter it a i) where
  mem := by simp
  obj := fun i h st b hb => by
    have e : b = it := by simpa using hb
    subst e
    obtain ⟨o, e, c, d⟩ := st
    exact ⟨o, e, fun v z => by rw [d] at z; cases z⟩
  keep := fun i h h' st k => st.at fun o e => k it (by simp) o e
  item := by
    intro X hP hw hK hc i pins s σ H E I hf st hg
    subst hP hw hK
    obtain ⟨xs, x, hq, hx⟩ := hg
    obtain ⟨its, rv, p, hz⟩ := I.tuple hq
    obtain ⟨u, hu, ru⟩ := rv.get hx
    obtain ⟨f0, f1, f2, f3, f4, f5⟩ := hf it (by simp)
    refine wpAny_pyNext_tuple_item st (show s.heap.IsTuple a its.toArray from p) (x := u) (by simpa using hu) fun h' st' sb => ?_
    have I1 : Inv X pins σ H { s with heap := h' } := I.turned (t' := s.toks) (fun b o hb e => (sb.2 b hb).trans e) f0 f1 f3 f4 f5
    obtain ⟨o, e, c, d⟩ := id st'
    exact ⟨u, rfl, go_of (s := { s with heap := h' }) e c d (by decide) ⟨x, H, I1, ru, ⟨rfl, fun ys hy => by rw [I.tuple_inj hy hq]; exact hx⟩, st', fun b hb => (hf b hb).1⟩⟩
  done := by
    intro X hP hw hK hc i pins s σ H E I hf st hg
    subst hP hw hK
    obtain ⟨xs, hq, hx⟩ := hg
    obtain ⟨its, rv, p, hz⟩ := I.tuple hq
    obtain ⟨f0, f1, f2, f3, f4, f5⟩ := hf it (by simp)
    have hl := rv.length
    exact wpAny_pyNext_tuple_end (I.ok.hd hc) st (show s.heap.IsTuple a its.toArray from p) (by simp; omega) fun h' eb => ⟨rfl, I.turned (t' := s.toks) (fun b o hb e => eb b o hb e) f0 f1 f3 f4 f5⟩
  self := fun _ _ _ _ _ st h => wpAny_pyIter_tupleiter st h
theorem turn_range {P : Program} {w : World} {K : PySem.W.Frag} {tg : Expr} (it : Addr) (lo : Int) (n : Nat) : Turn P w K tg (Itr lo n) [it] it (fun i h => IsRangeIter h it (lo + (i : Nat) * 1) ((n : Int) - (i : Nat)) 1) where
  mem := by simp
  obj := fun i h st b hb => by
    have e : b = it := by simpa using hb
    subst e
    exact ⟨_, st, fun v z => by
      have z' : Data.fields _ = Data.cell v := z
      cases z'⟩
  keep := fun i h h' st k => k it (by simp) _ st
  item := by
    intro X hP hw hK hc i pins s σ H E I hf st hg
    subst hP hw hK
    obtain ⟨f0, f1, f2, f3, f4, f5⟩ := hf it (by simp)
    have W := Walks.range (prog := X.prog) (w := X.w) (I.ok.hd hc) it lo 1 n
    refine W.item i s _ _ hg st fun v h' tk hv st' kk => ?_
    obtain ⟨t, rfl⟩ := hv
    have I1 : Inv X pins σ H { s with heap := h', toks := tk } := I.turned (fun b o hb e => kk b o (by simpa using hb) e) f0 f1 f3 f4 f5
    refine ⟨_, rfl, go_of (s := { s with heap := h', toks := tk }) (n := "range_iterator") st' rfl rfl (by decide) ⟨.int (lo + i), H, I1, ⟨t, ?_⟩, ⟨rfl, rfl⟩, st', fun b hb => (hf b hb).1⟩⟩
    rw [Int.mul_one]
  done := by
    intro X hP hw hK hc i pins s σ H E I hf st hg
    subst hP hw hK
    obtain ⟨f0, f1, f2, f3, f4, f5⟩ := hf it (by simp)
    exact wpAny_pyNext_range_end (I.ok.hd hc) st (by have : n ≤ i := hg; omega) fun h' eb => ⟨rfl, I.turned (t' := s.toks) (fun b o hb e => eb b o hb e) f0 f1 f3 f4 f5⟩
  self := fun _ _ _ _ _ st h => wpAny_pyIter_rangeiter st h
end L2

namespace L2
open PySem PySem.Spec PyProof.Rows
section
variable {X : Cx} {tg : Expr}
noncomputable def iList (K : PySem.W.Frag) (tl : TE) : TI := fun σ H R => tl σ H fun x H1 => ∃ a, x = .ref a ∧ (∃ xs, SqL K H1 a xs) ∧ R (Itl K a) H1
theorem pi_list {l : Expr} {tl : TE} (hl : PE X l tl) : PI X tg l (iList X.K tl) := by
  intro pins s σ H R I h
  refine thn (hl pins s σ H _ I h) fun v s1 ⟨x, H1, I1, r1, q1⟩ => ?_
  obtain ⟨a, e, ⟨xs, hq⟩, q⟩ := q1
  subst e
  cases r1
  obtain ⟨its, rv, p, hz⟩ := I1.list hq
  refine wpAny_pyIter_list p.isList ?_
  refine ⟨s1.heap.objs.size, [s1.heap.objs.size], _, _, H1, rfl, I1.kept (t' := s1.toks) fun b o e => Heap.get?_push_of_some _ e, turn_list a _, ⟨_, Heap.get?_push_size _ rfl, rfl, rfl⟩, fun b hb => ?_, q⟩
  have e : b = s1.heap.objs.size := by simpa using hb
  subst e
  exact I1.fpOk (Nat.le_refl _) (I1.hok.fresh (Nat.le_refl _))
theorem range_it {pins : List (Addr × Obj)} {σ : St} {H : Hp} {s : Shared} {R : It → Hp → Prop} {E : Value → Shared → Prop} {lo hi : Int} {t u v : Tok} {tk : Nat} (I : Inv X pins σ H s) (h1 : -(2 ^ 62) ≤ lo) (h2 : lo < 2 ^ 62) (h3 : -(2 ^ 62) ≤ hi) (h4 : hi < 2 ^ 62)
    (q : R (Itr lo (hi - lo).toNat) H) : wpAny (model X.prog X.w) X.A (pyIter (.ref s.heap.objs.size)) (PIE X pins σ tg R) E { s with heap := s.heap.push { cls := .type "range", data := .fields #[.int lo t, .int hi u, .int 1 v] }, toks := tk } := by
  refine wpAny_pyIter_range (IsRange.new ..) (small_one h1 h2 h3 h4) ?_
  have I1 : Inv X pins σ H { s with heap := s.heap.push { cls := .type "range", data := .fields #[.int lo t, .int hi u, .int 1 v] }, toks := tk } := I.kept fun b o e => Heap.get?_push_of_some _ e
  refine ⟨(s.heap.push { cls := .type "range", data := .fields #[.int lo t, .int hi u, .int 1 v] }).objs.size, [(s.heap.push { cls := .type "range", data := .fields #[.int lo t, .int hi u, .int 1 v] }).objs.size], _, _, H, rfl,
    I1.kept (t' := tk) fun b o e => Heap.get?_push_of_some _ e, turn_range _ lo (hi - lo).toNat, ?_, fun b hb => ?_, q⟩
  · have e1 : lo + ((0 : Nat) : Int) * 1 = lo := by simp
    have e2 : (((hi - lo).toNat : Nat) : Int) - ((0 : Nat) : Int) = Builtin.Range.rangeSize lo hi 1 := by rw [rangeSize_one]; split <;> omega
    show IsRangeIter _ _ (lo + ((0 : Nat) : Int) * 1) ((((hi - lo).toNat : Nat) : Int) - ((0 : Nat) : Int)) 1
    rw [e1, e2]
    exact Heap.get?_push_size _ rfl
  · have e : b = (s.heap.push { cls := .type "range", data := .fields #[.int lo t, .int hi u, .int 1 v] }).objs.size := by simpa using hb
    subst e
    exact I1.fpOk (Nat.le_refl _) (I1.hok.fresh (Nat.le_refl _))
noncomputable def iRng1 (ta : TA) : TI := fun σ H R => ta σ H fun vs H1 => ∃ j : Int, vs = [.int j] ∧ -(2 ^ 62) ≤ j ∧ j < 2 ^ 62 ∧ R (Itr 0 j.toNat) H1
noncomputable def iRng2 (ta : TA) : TI := fun σ H R => ta σ H fun vs H1 => ∃ i j : Int, vs = [.int i, .int j] ∧ (-(2 ^ 62) ≤ i ∧ i < 2 ^ 62 ∧ -(2 ^ 62) ≤ j ∧ j < 2 ^ 62) ∧ R (Itr i (j - i).toNat) H1
theorem pi_range1 {a : Expr} {ta : TA} {p pos : Pos} (hg : Gl X "range") (hm : X.mg "range" = none) (ha : PA X [a] ta) (hs : starEach [a] X.env = [(false, eval a X.env)] := by rfl) : PI X tg (.Call (.Name "range" p) [a] [] pos) (iRng1 ta) := by
  intro pins s σ H R I h
  refine Call_ (ld_blt I hg hm boot_range (PyProof.Rows.callWith_type1 (thn (ha pos pins s σ H _ I h) fun us s1 ⟨vs, H1, I1, r1, q1⟩ => ?_) hs rfl))
  obtain ⟨j, e, q1, q2, q⟩ := q1
  subst e
  cases r1 with
  | cons r rr =>
    cases rr
    obtain ⟨t, rfl⟩ := r
    exact call_range_1 (range_it I1 (by omega) (by omega) q1 q2 (by simpa using q))
theorem pi_range2 {a b : Expr} {ta : TA} {p pos : Pos} (hg : Gl X "range") (hm : X.mg "range" = none) (ha : PA X [a, b] ta) (hs : starEach [a, b] X.env = [(false, eval a X.env), (false, eval b X.env)] := by rfl) (hs2 : starEach [b] X.env = [(false, eval b X.env)] := by rfl) :
    PI X tg (.Call (.Name "range" p) [a, b] [] pos) (iRng2 ta) := by
  intro pins s σ H R I h
  refine Call_ (ld_blt I hg hm boot_range (PyProof.Rows.callWith_type1 (thn (ha pos pins s σ H _ I h) fun us s1 ⟨vs, H1, I1, r1, q1⟩ => ?_) (by rw [hs, hs2]) (by rw [hs2]; rfl)))
  obtain ⟨i, j, e, ⟨q1, q2, q3, q4⟩, q⟩ := q1
  subst e
  cases r1 with
  | cons r rr =>
    cases rr with
    | cons r' rr =>
      cases rr
      obtain ⟨t, rfl⟩ := r
      obtain ⟨t', rfl⟩ := r'
      exact call_range_2 (range_it I1 q1 q2 q3 q4 q)

noncomputable def tFor (wi : TI) (g : TG) (tb : TS) : TS := fun D σ H => wi σ H fun J H1 => ∃ W : Nat → Nat → St → Hp → Prop, (∃ m, W 0 m σ H1) ∧ ∀ i m σ H, W i m σ H →
  (J.stop i H ∧ D.nx σ H) ∨ (J.go i H ∧ ∃ N : St → Hp → Prop, (∀ σ' H', N σ' H' → ∃ m', m' < m ∧ W (i + 1) m' σ' H') ∧ ∀ x H', J.yld i H x H' → g x σ H' fun σ2 H2 => tb { D with nx := N, ct := N, bk := D.nx } σ2 H2)
noncomputable def pinsAt (fp : List Addr) (h : Heap) : List (Addr × Obj) := fp.filterMap fun b => (h.get? b).map fun o => (b, o)
theorem mem_pinsAt {fp : List Addr} {h : Heap} {b : Addr} {o : Obj} (hb : b ∈ fp) (e : h.get? b = some o) : (b, o) ∈ pinsAt fp h := List.mem_filterMap.mpr ⟨b, hb, by rw [e]; rfl⟩
theorem of_pinsAt {fp : List Addr} {h : Heap} {p : Addr × Obj} (hp : p ∈ pinsAt fp h) : p.1 ∈ fp ∧ h.get? p.1 = some p.2 := by
  obtain ⟨b, hb, e⟩ := List.mem_filterMap.mp hp
  cases q : h.get? b with
  | none => rw [q] at e; cases e
  | some o =>
    rw [q] at e
    have e' : (b, o) = p := Option.some.inj e
    subst e'
    exact ⟨hb, q⟩
theorem Inv.pinned {pins : List (Addr × Obj)} {σ : St} {H : Hp} {s : Shared} {fp : List Addr} (I : Inv X pins σ H s) (hf : ∀ b ∈ fp, FpOk X pins H b) (ho : ∀ b ∈ fp, ∃ o, s.heap.get? b = some o ∧ ∀ v, o.data ≠ .cell v) : Inv X (pins ++ pinsAt fp s.heap) σ H s :=
  I.pins_of fun p hp => (List.mem_append.mp hp).elim (fun z => I.pin p (List.mem_append_right _ z)) fun z => by
    obtain ⟨hb, e⟩ := of_pinsAt z
    obtain ⟨f0, f1, f2, _⟩ := hf p.1 hb
    obtain ⟨o, e', d⟩ := ho p.1 hb
    rw [e] at e'; cases e'
    exact ⟨e, f0, f1, f2, d⟩
theorem Inv.unpinned {pins pl : List (Addr × Obj)} {σ : St} {H : Hp} {s : Shared} (I : Inv X (pins ++ pl) σ H s) : Inv X pins σ H s := I.pins_of fun p hp => I.pin p (List.mem_append_right _ (List.mem_append_left _ hp))
theorem ps_for {iter : Expr} {body : List Stmt} {wi : TI} {g : TG} {tb : TS} {pos : Pos} (hp : PassesOwn (model X.prog X.w) X.A X.env X.xe) (hc : X.calm = true) (hi : PI X tg iter wi) (hg : PG X tg g) (hb : PSs X body tb)
    (hs : ∀ x, foldedSetIterable iter X.env x = pure x := by intro _; rfl) : PS X (.For tg iter body [] pos) (tFor wi g tb) := by
  intro pins s σ H D I h
  refine wpAny_For (thn (hi pins s σ H _ I h) fun v s1 h1 => thn h1 fun itv s2 h2 => ?_) hs
  obtain ⟨it, fp, tn, J, H2, e, I2, T, st2, f2, W, ⟨m0, w0⟩, turn⟩ := h2
  subst e
  -- what stays true of the iterator's objects through the loop
  have stat : ∀ {H' : Hp}, (∀ b ∈ fp, H' b = none) → ∀ b ∈ fp, FpOk X pins H' b := fun hn b hb => ⟨hn b hb, (f2 b hb).2⟩
  refine codeAny_forLoop_any (fun n s' => ∃ i σ' H', Inv X pins σ' H' s' ∧ tn i s'.heap ∧ (∀ b ∈ fp, H' b = none) ∧ W i n σ' H') ?_ m0 ⟨0, σ, H2, I2, st2, fun b hb => (f2 b hb).1, w0⟩
  rintro n s3 ⟨i, σ3, H3, I3, st3, fr3, w3⟩
  rcases turn i n σ3 H3 w3 with ⟨stop, qn⟩ | ⟨go, N, hN, step⟩
  · refine wpAny_passesOwn hp (thn (T.done X rfl rfl rfl hc i pins s3 σ3 H3 X.xe I3 (stat fr3) st3 stop) fun r s4 ⟨hr, I4⟩ => ?_)
    subst hr
    exact wpAny_execs_nil ⟨σ3, H3, I4, qn⟩
  · refine wpAny_passesOwn hp (thn (T.item X rfl rfl rfl hc i pins s3 σ3 H3 X.xe I3 (stat fr3) st3 go) fun r s4 ⟨u, hr, h4⟩ => ?_)
    subst hr
    refine wpAny_passesOwn hp (thn h4 fun _ s5 ⟨x, H5, I5, r5, y5, st5, fr5⟩ => ?_)
    have I5' := I5.pinned (stat fr5) (T.obj _ _ st5)
    refine wpAny_passesOwn hp (thn (hg _ s5 σ3 H5 x u _ I5' r5 (step x H5 y5)) fun _ s6 ⟨σ6, H6, I6, q6⟩ => ?_)
    refine wpAny_passesOwn hp (thn (hb _ s6 σ6 H6 _ I6 q6) fun f s7 q7 => ?_)
    have again : ∀ {σ7 : St} {H7 : Hp}, Inv X (pins ++ pinsAt fp s5.heap) σ7 H7 s7 → N σ7 H7 → ∃ m, m < n ∧ ∃ i σ' H', Inv X pins σ' H' s7 ∧ tn i s7.heap ∧ (∀ b ∈ fp, H' b = none) ∧ W i m σ' H' := fun {σ7 H7} I7 n7 => by
      obtain ⟨m', hm, w7⟩ := hN σ7 H7 n7
      refine ⟨m', hm, i + 1, σ7, H7, I7.unpinned, T.keep _ _ _ st5 fun b hb o e => (I7.pin (b, o) (List.mem_append_right _ (List.mem_append_right _ (mem_pinsAt hb e)))).1, fun b hb => ?_, w7⟩
      obtain ⟨o, e, d⟩ := T.obj _ _ st5 b hb
      exact (I7.pin (b, o) (List.mem_append_right _ (List.mem_append_right _ (mem_pinsAt hb e)))).2.1
    cases f with
    | next => obtain ⟨σ7, H7, I7, n7⟩ := q7; exact again I7 n7
    | cont => obtain ⟨σ7, H7, I7, n7⟩ := q7; exact again I7 n7
    | brk => obtain ⟨σ7, H7, I7, q7⟩ := q7; exact ⟨σ7, H7, I7.unpinned, q7⟩
    | ret v => obtain ⟨x7, σ7, H7, I7, r7, q7⟩ := q7; exact ⟨x7, σ7, H7, I7.unpinned, r7, q7⟩
end

theorem for_list {K : PySem.W.Frag} {a : Addr} {xs : List V} {g : TG} {tb : TS} {D : Ends} {σ : St} {H : Hp} (Pv : Nat → St → Hp → Prop) (h0 : Pv 0 σ H) (hl : ∀ i σ H, i ≤ xs.length → Pv i σ H → SqL K H a xs)
    (hs : ∀ i x σ H, xs[i]? = some x → Pv i σ H → g x σ H fun σ2 H2 => tb { D with nx := Pv (i + 1), ct := Pv (i + 1), bk := D.nx } σ2 H2) (hd : ∀ σ H, Pv xs.length σ H → D.nx σ H) :
    ∃ W : Nat → Nat → St → Hp → Prop, (∃ m, W 0 m σ H) ∧ ∀ i m σ H, W i m σ H →
      ((Itl K a).stop i H ∧ D.nx σ H) ∨ ((Itl K a).go i H ∧ ∃ N : St → Hp → Prop, (∀ σ' H', N σ' H' → ∃ m', m' < m ∧ W (i + 1) m' σ' H') ∧ ∀ x H', (Itl K a).yld i H x H' → g x σ H' fun σ2 H2 => tb { D with nx := N, ct := N, bk := D.nx } σ2 H2) := by
  refine ⟨fun i m σ H => m = xs.length - i ∧ i ≤ xs.length ∧ Pv i σ H, ⟨xs.length, by simp, Nat.zero_le _, h0⟩, ?_⟩
  rintro i m σ H ⟨rfl, hi, p⟩
  have q := hl i σ H hi p
  by_cases hlt : i < xs.length
  · refine .inr ⟨⟨xs, xs[i], q, by simp [hlt]⟩, Pv (i + 1), fun σ' H' p' => ⟨xs.length - (i + 1), by omega, rfl, hlt, p'⟩, fun x H' y => ?_⟩
    obtain ⟨e, y⟩ := y
    subst e
    exact hs i x σ _ (y xs q) p
  · have e : i = xs.length := by omega
    subst e
    exact .inl ⟨⟨xs, q, Nat.le_refl _⟩, hd σ H p⟩
theorem for_range {lo : Int} {n : Nat} {g : TG} {tb : TS} {D : Ends} {σ : St} {H : Hp} (Pv : Nat → St → Hp → Prop) (h0 : Pv 0 σ H)
    (hs : ∀ i σ H, i < n → Pv i σ H → g (.int (lo + i)) σ H fun σ2 H2 => tb { D with nx := Pv (i + 1), ct := Pv (i + 1), bk := D.nx } σ2 H2) (hd : ∀ σ H, Pv n σ H → D.nx σ H) :
    ∃ W : Nat → Nat → St → Hp → Prop, (∃ m, W 0 m σ H) ∧ ∀ i m σ H, W i m σ H →
      ((Itr lo n).stop i H ∧ D.nx σ H) ∨ ((Itr lo n).go i H ∧ ∃ N : St → Hp → Prop, (∀ σ' H', N σ' H' → ∃ m', m' < m ∧ W (i + 1) m' σ' H') ∧ ∀ x H', (Itr lo n).yld i H x H' → g x σ H' fun σ2 H2 => tb { D with nx := N, ct := N, bk := D.nx } σ2 H2) := by
  refine ⟨fun i m σ H => m = n - i ∧ i ≤ n ∧ Pv i σ H, ⟨n, by simp, Nat.zero_le _, h0⟩, ?_⟩
  rintro i m σ H ⟨rfl, hi, p⟩
  by_cases hlt : i < n
  · refine .inr ⟨hlt, Pv (i + 1), fun σ' H' p' => ⟨n - (i + 1), by omega, rfl, hlt, p'⟩, fun x H' y => ?_⟩
    obtain ⟨e, y⟩ := y
    subst e y
    exact hs i σ _ hlt p
  · have e : i = n := by omega
    subst e
    exact .inl ⟨Nat.le_refl _, hd σ H p⟩
theorem while_by {c : TT} {tb : TS} {D : Ends} {σ : St} {H : Hp} (Pv : St → Hp → Prop) (μ : St → Hp → Nat) (h0 : Pv σ H)
    (hs : ∀ σ H, Pv σ H → c σ H fun b H1 => if b = true then tb { D with nx := fun σ' H' => Pv σ' H' ∧ μ σ' H' < μ σ H, ct := fun σ' H' => Pv σ' H' ∧ μ σ' H' < μ σ H, bk := D.nx } σ H1 else D.nx σ H1)
    (mono : ∀ σ H Q Q', (∀ b H1, Q b H1 → Q' b H1) → c σ H Q → c σ H Q') : tWhile c tb D σ H := by
  refine ⟨fun m σ H => m = μ σ H ∧ Pv σ H, ⟨_, rfl, h0⟩, ?_⟩
  rintro m σ H ⟨rfl, p⟩
  refine mono σ H _ _ (fun b H1 q => ?_) (hs σ H p)
  cases b with
  | true => exact ⟨_, fun σ' H' ⟨p', l⟩ => ⟨_, l, rfl, p'⟩, q⟩
  | false => exact q
end L2

namespace L2
open PySem PySem.Spec PyProof.Rows

noncomputable abbrev R2 := V → V → Hp → VK → Prop
noncomputable def OpR (X : Cx) (f : Value → Value → Sem Value) (r : R2) : Prop :=
  ∀ (pins : List (Addr × Obj)) (s : Shared) (σ : St) (H : Hp) (x y : V) (v u : Value) (Q : VK), Inv X pins σ H s → RelV x v → RelV y u → r x y H Q →
    wpAny (model X.prog X.w) X.A (f v u) (EP X pins σ Q) X.xe s
noncomputable def UnR (X : Cx) (f : Value → Sem Value) (r : V → Hp → VK → Prop) : Prop :=
  ∀ (pins : List (Addr × Obj)) (s : Shared) (σ : St) (H : Hp) (x : V) (v : Value) (Q : VK), Inv X pins σ H s → RelV x v → r x H Q →
    wpAny (model X.prog X.w) X.A (f v) (EP X pins σ Q) X.xe s
noncomputable def CallR (X : Cx) (f : Value) (r : List V → Hp → VK → Prop) : Prop :=
  ∀ (pins : List (Addr × Obj)) (s : Shared) (σ : St) (H : Hp) (xs : List V) (us : List Value) (Q : VK), Inv X pins σ H s → Vals xs us → r xs H Q →
    wpAny (model X.prog X.w) X.A (call f us) (EP X pins σ Q) X.xe s
noncomputable def TruR (X : Cx) (r : V → Hp → (Bool → Hp → Prop) → Prop) : Prop :=
  ∀ (pins : List (Addr × Obj)) (s : Shared) (σ : St) (H : Hp) (x : V) (v : Value) (Q : Bool → Hp → Prop), Inv X pins σ H s → RelV x v → r x H Q →
    wpAny (model X.prog X.w) X.A (truthy v) (TP X pins σ Q) X.xe s

noncomputable def tOp (r : R2) (ta tb : TE) : TE := fun σ H Q => ta σ H fun x H1 => tb σ H1 fun y H2 => r x y H2 Q
noncomputable def tUn (r : V → Hp → VK → Prop) (ta : TE) : TE := fun σ H Q => ta σ H fun x H1 => r x H1 Q
noncomputable def rI (C : Int → Int → Prop) (g : Int → Int → V) : R2 := fun x y H Q => ∃ i j, x = .int i ∧ y = .int j ∧ C i j ∧ Q (g i j) H
noncomputable def rI0 (g : Int → Int → V) : R2 := fun x y H Q => ∃ i j, x = .int i ∧ y = .int j ∧ Q (g i j) H
noncomputable def rU (g : Int → V) : V → Hp → VK → Prop := fun x H Q => ∃ i, x = .int i ∧ Q (g i) H

section
variable {X : Cx} {a b c : Expr} {ta tb tc : TE} {pos : Pos}

theorem binT (ha : PE X a ta) (hb : PE X b tb) {pins : List (Addr × Obj)} {s : Shared} {σ : St} {H : Hp} {R : V → V → Hp → Prop} (I : Inv X pins σ H s)
    (h : ta σ H fun x H1 => tb σ H1 fun y H2 => R x y H2) {Q : Value → Shared → Prop} {f : Value → Value → Sem Value}
    (hf : ∀ v u s2 x y H2, Inv X pins σ H2 s2 → RelV x v → RelV y u → R x y H2 → wpAny (model X.prog X.w) X.A (f v u) Q X.xe s2) :
    wpAny (model X.prog X.w) X.A (eval a X.env) (fun v s₁ => wpAny (model X.prog X.w) X.A (eval b X.env) (fun u s₂ => wpAny (model X.prog X.w) X.A (f v u) Q X.xe s₂) X.xe s₁) X.xe s := by
  refine thn (ha pins s σ H _ I h) fun v s1 ⟨x, H1, I1, r1, q1⟩ => ?_
  refine thn (hb pins s1 σ H1 _ I1 q1) fun u s2 ⟨y, H2, I2, r2, q2⟩ => ?_
  exact hf v u s2 x y H2 I2 r1 r2 q2

theorem pe_op {op : Operator} {r : R2} (ho : OpR X (binaryOp op) r) (ha : PE X a ta) (hb : PE X b tb) : PE X (.BinOp a op b pos) (tOp r ta tb) := by
  intro pins s σ H Q I h
  exact wpAny_BinOp (binT ha hb I h fun v u s2 x y H2 I2 rx ry q => ho pins s2 σ H2 x y v u Q I2 rx ry q)
theorem pe_un {op : UnaryOp} {r : V → Hp → VK → Prop} (ho : UnR X (unaryOp op) r) (ha : PE X a ta) : PE X (.UnaryOp op a pos) (tUn r ta) := by
  intro pins s σ H Q I h
  exact UnaryOp_ (thn (ha pins s σ H _ I h) fun v s1 ⟨x, H1, I1, r1, q1⟩ => ho pins s1 σ H1 x v Q I1 r1 q1)
theorem opI {f : Value → Value → Sem Value} {C : Int → Int → Prop} {g : Int → Int → Int}
    (rule : ∀ (i j : Int) (t u : Tok) (s : Shared) (Q : Value → Shared → Prop) (E : Value → Shared → Prop), C i j → Q (.int (g i j) s.toks) { s with toks := s.toks + 1 } → wpAny (model X.prog X.w) X.A (f (.int i t) (.int j u)) Q E s) :
    OpR X f (rI C fun i j => .int (g i j)) := by
  intro pins s σ H x y v u Q I rx ry h
  obtain ⟨i, j, rfl, rfl, hc, q⟩ := h
  obtain ⟨t, rfl⟩ := rx
  obtain ⟨t', rfl⟩ := ry
  exact rule i j t t' s _ _ hc ⟨.int (g i j), H, I.tok _, ⟨_, rfl⟩, q⟩
theorem opI0 {f : Value → Value → Sem Value} {g : Int → Int → Int}
    (rule : ∀ (i j : Int) (t u : Tok) (s : Shared) (Q : Value → Shared → Prop) (E : Value → Shared → Prop), Q (.int (g i j) s.toks) { s with toks := s.toks + 1 } → wpAny (model X.prog X.w) X.A (f (.int i t) (.int j u)) Q E s) :
    OpR X f (rI0 fun i j => .int (g i j)) := by
  intro pins s σ H x y v u Q I rx ry h
  obtain ⟨i, j, rfl, rfl, q⟩ := h
  obtain ⟨t, rfl⟩ := rx
  obtain ⟨t', rfl⟩ := ry
  exact rule i j t t' s _ _ ⟨.int (g i j), H, I.tok _, ⟨_, rfl⟩, q⟩
theorem opB0 {f : Value → Value → Sem Value} {g : Int → Int → Bool}
    (rule : ∀ (i j : Int) (t u : Tok) (s : Shared) (Q : Value → Shared → Prop) (E : Value → Shared → Prop), Q (.bool (g i j)) s → wpAny (model X.prog X.w) X.A (f (.int i t) (.int j u)) Q E s) :
    OpR X f (rI0 fun i j => .bl (g i j)) := by
  intro pins s σ H x y v u Q I rx ry h
  obtain ⟨i, j, rfl, rfl, q⟩ := h
  obtain ⟨t, rfl⟩ := rx
  obtain ⟨t', rfl⟩ := ry
  exact rule i j t t' s _ _ ⟨.bl (g i j), H, I, rfl, q⟩

noncomputable def CDiv (i j : Int) : Prop := 0 < j ∧ j < 1073741824
noncomputable def CPow (i j : Int) : Prop := 0 ≤ j ∧ j ≤ 1000000 ∧ i.natAbs < 2 ^ 64
noncomputable def CMul (i j : Int) : Prop := (-(2 ^ 64) < i ∧ i < 2 ^ 64) ∨ (-(2 ^ 64) < j ∧ j < 2 ^ 64)
theorem CMul.ok {i j : Int} (h : CMul i j) : IntMulOk i j := by
  rcases h with ⟨h1, h2⟩ | ⟨h1, h2⟩
  · exact .of_left (intBits_le_64 h1 h2)
  · exact .of_right (intBits_le_64 h1 h2)
theorem op_add : OpR X (binaryOp .Add) (rI0 fun i j => .int (i + j)) := opI0 fun _ _ _ _ _ _ _ q => add_int q
theorem op_sub : OpR X (binaryOp .Sub) (rI0 fun i j => .int (i - j)) := opI0 fun _ _ _ _ _ _ _ q => sub_int q
theorem op_mul : OpR X (binaryOp .Mult) (rI CMul fun i j => .int (i * j)) := opI fun _ _ _ _ _ _ _ hc q => mul_int q hc.ok
theorem op_fdiv : OpR X (binaryOp .FloorDiv) (rI CDiv fun i j => .int (i / j)) := opI fun i j _ _ _ _ _ hc q => by
  have h1 : (0 : Int) < j := hc.1
  have h2 : j < 1073741824 := hc.2
  exact floordiv_int (by omega) (by rw [Int.fdiv_eq_ediv_of_nonneg i (by omega)]; exact q) (.inl (PyProof.noPylong_small (by omega)))
theorem op_mod : OpR X (binaryOp .Mod) (rI (fun _ j => 0 < j) fun i j => .int (i % j)) := opI fun i j _ _ _ _ _ hc q => by
  have h1 : (0 : Int) < j := hc
  exact mod_int' (by omega) (by rw [Int.fmod_eq_emod_of_nonneg i (by omega)]; exact q)
theorem op_pow : OpR X (binaryOp .Pow) (rI CPow fun i j => .int (i ^ j.toNat)) := opI fun _ _ _ _ _ _ _ hc q => pow_int_small hc.1 hc.2.1 hc.2.2 q
theorem unI {f : Value → Sem Value} {g : Int → Int}
    (rule : ∀ (i : Int) (t : Tok) (s : Shared) (Q : Value → Shared → Prop) (E : Value → Shared → Prop), Q (.int (g i) s.toks) { s with toks := s.toks + 1 } → wpAny (model X.prog X.w) X.A (f (.int i t)) Q E s) :
    UnR X f (rU fun i => .int (g i)) := by
  intro pins s σ H x v Q I rx h
  obtain ⟨i, rfl, q⟩ := h
  obtain ⟨t, rfl⟩ := rx
  exact rule i t s _ _ ⟨.int (g i), H, I.tok _, ⟨_, rfl⟩, q⟩
theorem un_neg : UnR X (unaryOp .USub) (rU fun i => .int (-i)) := unI fun _ _ _ _ _ q => neg_int q
end

noncomputable def scal : V → V → Bool
  | .non, .non => true | .non, .int _ => true | .int _, .non => true | .non, .bl _ => true | .bl _, .non => true | .non, .str _ => true | .str _, .non => true
  | .int _, .int _ => true | .bl _, .bl _ => true | .str _, .str _ => true | .byt _, .byt _ => true
  | .int _, .str _ => true | .str _, .int _ => true | .bl _, .str _ => true | .str _, .bl _ => true
  | _, _ => false
noncomputable def rEq : R2 := fun x y H Q => scal x y = true ∧ Q (.bl (decide (x = y))) H
noncomputable def rNe : R2 := fun x y H Q => scal x y = true ∧ Q (.bl (!decide (x = y))) H

theorem dec_int {i j : Int} : decide (V.int i = V.int j) = (i == j) := by
  rw [Bool.eq_iff_iff]
  simp
theorem dec_bl {i j : Bool} : decide (V.bl i = V.bl j) = (i == j) := by
  rw [Bool.eq_iff_iff]
  simp
theorem dec_str {i j : Str} : decide (V.str i = V.str j) = (i == j) := by
  rw [Bool.eq_iff_iff]
  simp
theorem dec_byt {i j : Array UInt8} : decide (V.byt i = V.byt j) = (i.toList == j.toList) := by
  rw [Bool.eq_iff_iff]
  cases i
  cases j
  simp

section
variable {X : Cx} {a b c : Expr} {ta tb tc : TE} {pos : Pos}
theorem fin_bl {pins : List (Addr × Obj)} {σ : St} {H : Hp} {s : Shared} {Q : VK} {k k' : Bool} (I : Inv X pins σ H s) (q : Q (.bl k) H) (e : k = k') : EP X pins σ Q (.bool k') s := by
  subst e
  exact ⟨.bl k, H, I, rfl, q⟩
theorem op_eq : OpR X (compareOp .Eq) rEq := by
  intro pins s σ H x y v u Q I rx ry h
  obtain ⟨hs, q⟩ := h
  cases x with
  | non =>
    cases rx
    cases y with
    | non => cases ry; exact PySem.EqNone.eq_none_none (fin_bl I q (by simp))
    | bl j => cases ry; exact PySem.EqNone.eq_none_bool (fin_bl I q (by simp))
    | int j => obtain ⟨t', rfl⟩ := ry; exact PySem.EqNone.eq_none_int (fin_bl I q (by simp))
    | str j => obtain ⟨t', rfl⟩ := ry; exact PySem.EqNone.eq_none_str (fin_bl I q (by simp))
    | _ => exact absurd (show false = true from hs) Bool.false_ne_true
  | bl i =>
    cases rx
    cases y with
    | non => cases ry; exact PySem.EqNone.eq_bool_none (fin_bl I q (by simp))
    | bl j => cases ry; exact eq_bool (fin_bl I q dec_bl)
    | str j => obtain ⟨t', rfl⟩ := ry; exact PySem.EqMixed.eq_bool_str (fin_bl I q (by simp))
    | _ => exact absurd (show false = true from hs) Bool.false_ne_true
  | int i =>
    obtain ⟨t, rfl⟩ := rx
    cases y with
    | non => cases ry; exact PySem.EqNone.eq_int_none (fin_bl I q (by simp))
    | int j => obtain ⟨t', rfl⟩ := ry; exact eq_int (fin_bl I q dec_int)
    | str j => obtain ⟨t', rfl⟩ := ry; exact PySem.EqMixed.eq_int_str (fin_bl I q (by simp))
    | _ => exact absurd (show false = true from hs) Bool.false_ne_true
  | str i =>
    obtain ⟨t, rfl⟩ := rx
    cases y with
    | non => cases ry; exact PySem.EqNone.eq_str_none (fin_bl I q (by simp))
    | bl j => cases ry; exact PySem.EqMixed.eq_str_bool (fin_bl I q (by simp))
    | int j => obtain ⟨t', rfl⟩ := ry; exact PySem.EqMixed.eq_str_int (fin_bl I q (by simp))
    | str j => obtain ⟨t', rfl⟩ := ry; exact eq_str (fin_bl I q dec_str)
    | _ => exact absurd (show false = true from hs) Bool.false_ne_true
  | byt i =>
    obtain ⟨t, rfl⟩ := rx
    cases y with
    | byt j => obtain ⟨t', rfl⟩ := ry; exact PySem.W.eq_bytes (fin_bl I q dec_byt)
    | _ => exact absurd (show false = true from hs) Bool.false_ne_true
  | _ => cases y <;> exact absurd (show false = true from hs) Bool.false_ne_true
theorem op_ne : OpR X (compareOp .NotEq) rNe := by
  intro pins s σ H x y v u Q I rx ry h
  obtain ⟨hs, q⟩ := h
  cases x with
  | non =>
    cases rx
    cases y with
    | non => cases ry; exact PySem.EqNone.ne_none_none (fin_bl I q (by simp))
    | bl j => cases ry; exact PySem.EqNone.ne_none_bool (fin_bl I q (by simp))
    | int j => obtain ⟨t', rfl⟩ := ry; exact PySem.EqNone.ne_none_int (fin_bl I q (by simp))
    | str j => obtain ⟨t', rfl⟩ := ry; exact PySem.EqNone.ne_none_str (fin_bl I q (by simp))
    | _ => exact absurd (show false = true from hs) Bool.false_ne_true
  | bl i =>
    cases rx
    cases y with
    | non => cases ry; exact PySem.EqNone.ne_bool_none (fin_bl I q (by simp))
    | bl j => cases ry; exact ne_bool (fin_bl I q (congrArg not dec_bl))
    | str j => obtain ⟨t', rfl⟩ := ry; exact PySem.EqMixed.ne_bool_str (fin_bl I q (by simp))
    | _ => exact absurd (show false = true from hs) Bool.false_ne_true
  | int i =>
    obtain ⟨t, rfl⟩ := rx
    cases y with
    | non => cases ry; exact PySem.EqNone.ne_int_none (fin_bl I q (by simp))
    | int j => obtain ⟨t', rfl⟩ := ry; exact ne_int (fin_bl I q (congrArg not dec_int))
    | str j => obtain ⟨t', rfl⟩ := ry; exact PySem.EqMixed.ne_int_str (fin_bl I q (by simp))
    | _ => exact absurd (show false = true from hs) Bool.false_ne_true
  | str i =>
    obtain ⟨t, rfl⟩ := rx
    cases y with
    | non => cases ry; exact PySem.EqNone.ne_str_none (fin_bl I q (by simp))
    | bl j => cases ry; exact PySem.EqMixed.ne_str_bool (fin_bl I q (by simp))
    | int j => obtain ⟨t', rfl⟩ := ry; exact PySem.EqMixed.ne_str_int (fin_bl I q (by simp))
    | str j => obtain ⟨t', rfl⟩ := ry; exact ne_str (fin_bl I q (congrArg not dec_str))
    | _ => exact absurd (show false = true from hs) Bool.false_ne_true
  | byt i =>
    obtain ⟨t, rfl⟩ := rx
    cases y with
    | byt j => obtain ⟨t', rfl⟩ := ry; exact PySem.W.ne_bytes (fin_bl I q (congrArg not dec_byt))
    | _ => exact absurd (show false = true from hs) Bool.false_ne_true
  | _ => cases y <;> exact absurd (show false = true from hs) Bool.false_ne_true

theorem op_lt : OpR X (compareOp .Lt) (rI0 fun i j => .bl (decide (i < j))) := opB0 fun _ _ _ _ _ _ _ q => lt_int q
theorem op_le : OpR X (compareOp .LtE) (rI0 fun i j => .bl (decide (i ≤ j))) := opB0 fun _ _ _ _ _ _ _ q => le_int q
theorem op_gt : OpR X (compareOp .Gt) (rI0 fun i j => .bl (decide (j < i))) := opB0 fun _ _ _ _ _ _ _ q => gt_int q
theorem op_ge : OpR X (compareOp .GtE) (rI0 fun i j => .bl (decide (j ≤ i))) := opB0 fun _ _ _ _ _ _ _ q => ge_int q
theorem op_isN : OpR X (compareOp .Is) (fun x y H Q => y = .non ∧ Q (.bl (decide (x = .non))) H) := by
  intro pins s σ H x y v u Q I rx ry h
  obtain ⟨rfl, q⟩ := h
  cases ry
  refine is_none_gen (fin_bl I q ?_)
  cases x <;> first
    | (cases rx; rfl)
    | (obtain ⟨t, rfl⟩ := rx; rfl)
theorem op_notN : OpR X (compareOp .IsNot) (fun x y H Q => y = .non ∧ Q (.bl (!decide (x = .non))) H) := by
  intro pins s σ H x y v u Q I rx ry h
  obtain ⟨rfl, q⟩ := h
  cases ry
  refine isnot_none_gen (fin_bl I q ?_)
  cases x <;> first
    | (cases rx; rfl)
    | (obtain ⟨t, rfl⟩ := rx; rfl)

theorem nomark (b : Expr) {op : CmpOp} (h : op ≠ .In := by decide) (h2 : op ≠ .NotIn := by decide) : behindInMarks op b = false := by
  have e1 : (op == CmpOp.In) = false := by cases op <;> first | rfl | exact absurd rfl h
  have e2 : (op == CmpOp.NotIn) = false := by cases op <;> first | rfl | exact absurd rfl h2
  cases b <;> simp [behindInMarks, e1, e2]
theorem pe_cmpR {op : CmpOp} {r : R2} (ho : OpR X (compareOp op) r) (ha : PE X a ta) (hb : PE X b tb) (hm : behindInMarks op b = false) : PE X (.Compare a [op] [b] pos) (tOp r ta tb) := by
  intro pins s σ H Q I h
  exact wpAny_Compare1 (binT ha hb I h fun v u s2 x y H2 I2 rx ry q => ho pins s2 σ H2 x y v u Q I2 rx ry q) hm
noncomputable def tTest (t : TE) : TT := fun σ H Q => t σ H fun x H' => ∃ k, x = .bl k ∧ Q k H'
theorem pt_cmpR {op : CmpOp} {r : R2} (ho : OpR X (compareOp op) r) (ha : PE X a ta) (hb : PE X b tb) (hm : behindInMarks op b = false) : PT X (.Compare a [op] [b] pos) (tTest (tOp r ta tb)) := by
  intro pins s σ H Q I h
  refine wpAny_isTrue_Compare1 (thn (ha pins s σ H _ I h) fun v s1 ⟨x, H1, I1, r1, q1⟩ => thn (hb pins s1 σ H1 _ I1 q1) fun u s2 ⟨y, H2, I2, r2, q2⟩ =>
    thn (ho pins s2 σ H2 x y v u _ I2 r1 r2 q2) fun c s3 ⟨z, H3, I3, r3, k, e, q3⟩ => ?_) hm
  subst e
  cases r3
  exact wpAny_truthy_bool ⟨H3, I3, q3⟩
noncomputable def tChain (r r' : R2) (ta tb tc : TE) : TE := fun σ H Q => ta σ H fun x H1 => tb σ H1 fun y H2 => r x y H2 fun z H3 => ∃ k, z = .bl k ∧
  (if k = true then tc σ H3 fun w' H4 => r' y w' H4 Q else Q (.bl false) H3)
theorem pe_chain {op op' : CmpOp} {r r' : R2} (ho : OpR X (compareOp op) r) (ho' : OpR X (compareOp op') r') (ha : PE X a ta) (hb : PE X b tb) (hc : PE X c tc)
    (hm : lastMarks [op, op'] [b, c] = false := by with_unfolding_all rfl) : PE X (.Compare a [op, op'] [b, c] pos) (tChain r r' ta tb tc) := by
  intro pins s σ H Q I h
  refine Compare_chain (thn (ha pins s σ H _ I h) fun v s1 ⟨x, H1, I1, r1, q1⟩ => chain_link (thn (hb pins s1 σ H1 _ I1 q1) fun u s2 ⟨y, H2, I2, r2, q2⟩ =>
    thn (ho pins s2 σ H2 x y v u _ I2 r1 r2 q2) fun d s3 ⟨z, H3, I3, r3, k, e, q3⟩ => ?_)) hm
  subst e
  cases r3
  refine wpAny_truthy_bool ?_
  cases k with
  | false => exact ite_ff ⟨.bl false, H3, I3, rfl, q3⟩
  | true => exact ite_tt (chain_last (thn (hc pins s3 σ H3 _ I3 q3) fun w' s4 ⟨z', H4, I4, r4, q4⟩ => ho' pins s4 σ H4 y z' u w' Q I4 r2 r4 q4))
theorem pt_chain {op op' : CmpOp} {r r' : R2} (ho : OpR X (compareOp op) r) (ho' : OpR X (compareOp op') r') (ha : PE X a ta) (hb : PE X b tb) (hc : PE X c tc)
    (hm : lastMarks [op, op'] [b, c] = false := by with_unfolding_all rfl) : PT X (.Compare a [op, op'] [b, c] pos) (tTest (tChain r r' ta tb tc)) := by
  intro pins s σ H Q I h
  refine isTrue_chain (thn (ha pins s σ H _ I h) fun v s1 ⟨x, H1, I1, r1, q1⟩ => test_link (thn (hb pins s1 σ H1 _ I1 q1) fun u s2 ⟨y, H2, I2, r2, q2⟩ =>
    thn (ho pins s2 σ H2 x y v u _ I2 r1 r2 q2) fun d s3 ⟨z, H3, I3, r3, k, e, q3⟩ => ?_)) hm
  subst e
  cases r3
  refine wpAny_truthy_bool ?_
  cases k with
  | false =>
    obtain ⟨k', e', q'⟩ := q3
    cases e'
    exact ite_ff ⟨H3, I3, q'⟩
  | true =>
    refine ite_tt (test_last (thn (hc pins s3 σ H3 _ I3 q3) fun w' s4 ⟨z', H4, I4, r4, q4⟩ => thn (ho' pins s4 σ H4 y z' u w' _ I4 r2 r4 q4) fun d' s5 ⟨z2, H5, I5, r5, k2, e2, q5⟩ => ?_))
    subst e2
    cases r5
    exact wpAny_truthy_bool ⟨H5, I5, q5⟩

noncomputable def TruV (K : PySem.W.Frag) (x : V) (H : Hp) (k : Bool) : Prop :=
  match x with
  | .non => k = false
  | .bl b => k = b
  | .int i => k = (i != 0)
  | .str y => y.length ≤ sizeLine ∧ k = ((y.length : Int) != 0)
  | .byt y => y.size ≤ sizeLine ∧ k = ((y.size : Int) != 0)
  | .ref p => (∃ xs, SqL K H p xs ∧ k = !xs.isEmpty) ∨ (∃ xs, SqT K H p xs ∧ k = !xs.isEmpty) ∨ ∃ kvs, H p = some (.dK kvs) ∧ k = !kvs.isEmpty
  | _ => False
theorem isEmpty_kv {κ : Type} {kvs : List (κ × V)} {vs : List (κ × Value)} (r : KV kvs vs) : (!vs.isEmpty) = !kvs.isEmpty := by
  cases r <;> rfl
theorem isEmpty_of {xs : List V} {its : List Value} (r : Vals xs its) : (!its.toArray.isEmpty) = !xs.isEmpty := by
  cases r <;> simp
theorem line63 : (sizeLine : Nat) < 2 ^ 63 := by rw [sizeLine_eq]; decide
theorem tru_ok : TruR X (fun x H Q => ∃ k, TruV X.K x H k ∧ Q k H) := by
  intro pins s σ H x v Q I rx h
  obtain ⟨k, e, q⟩ := h
  have hl := line63
  have hs : sizeLine = 16777216 := sizeLine_eq
  cases x with
  | non =>
    cases rx
    have e' : k = false := e
    subst e'
    exact truthy_none ⟨H, I, q⟩
  | bl b =>
    cases rx
    have e' : k = b := e
    subst e'
    exact wpAny_truthy_bool ⟨H, I, q⟩
  | int i =>
    obtain ⟨t, rfl⟩ := rx
    have e' : k = (i != 0) := e
    subst e'
    exact PySem.P.truthy_int ⟨H, I, q⟩
  | str y =>
    obtain ⟨t, rfl⟩ := rx
    obtain ⟨hy, e'⟩ : y.length ≤ sizeLine ∧ k = ((y.length : Int) != 0) := e
    subst e'
    exact PySem.P.truthy_str (by omega) ⟨H, I.tok _, q⟩
  | byt y =>
    obtain ⟨t, rfl⟩ := rx
    obtain ⟨hy, e'⟩ : y.size ≤ sizeLine ∧ k = ((y.size : Int) != 0) := e
    subst e'
    exact PySem.W.truthy_bytes (by omega) ⟨H, I.tok _, q⟩
  | ref p =>
    cases rx
    have e' : (∃ xs, SqL X.K H p xs ∧ k = !xs.isEmpty) ∨ (∃ xs, SqT X.K H p xs ∧ k = !xs.isEmpty) ∨ ∃ kvs, H p = some (.dK kvs) ∧ k = !kvs.isEmpty := e
    rcases e' with ⟨xs, hx, e'⟩ | ⟨xs, hx, e'⟩ | ⟨kvs, hx, e'⟩
    · subst e'
      obtain ⟨its, r, pl, hz⟩ := I.list hx
      have hlen := r.length
      exact wpAny_truthy_list pl.isList (by simp only [List.size_toArray]; omega) ⟨H, I.tok _, by rw [isEmpty_of r]; exact q⟩
    · subst e'
      obtain ⟨its, r, pl, hz⟩ := I.tuple hx
      have hlen := r.length
      exact truthy_tuple pl (by simp only [List.size_toArray]; omega) ⟨H, I.tok _, by rw [isEmpty_of r]; exact q⟩
    · subst e'
      obtain ⟨hz, hS, vs, r, m⟩ : kvs.length ≤ sizeLine ∧ (p == sysModules) = false ∧ ∃ vs, KV kvs vs ∧ s.heap.DictOf (mixKind X.prog X.w) p vs := I.hok p _ hx
      have hlen : kvs.length = vs.length := Paired.length r
      exact wpAny_truthy_dict hS m (by omega) ⟨H, I.tok _, by rw [isEmpty_kv r]; exact q⟩
  | _ => exact (show False from e).elim
theorem pt_truth (ha : PE X a ta) (he : ∀ whole, isTrue a X.env whole = (do let v ← whole; standAt a.pos; holding [v] (truthy v))) :
    PT X a (fun σ H Q => ta σ H fun x H' => ∃ k, TruV X.K x H' k ∧ Q k H') := by
  intro pins s σ H Q I h
  exact isTrue_plain (thn (ha pins s σ H _ I h) fun v s1 ⟨x, H1, I1, r1, q1⟩ => tru_ok pins s1 σ H1 x v Q I1 r1 q1) (he _)

theorem vals1 {x : V} {us : List Value} (r : Vals [x] us) : ∃ u, us = [u] ∧ RelV x u := by
  cases r with
  | cons r1 r2 => cases r2; exact ⟨_, rfl, r1⟩
theorem vals2 {x y : V} {us : List Value} (r : Vals [x, y] us) : ∃ u w', us = [u, w'] ∧ RelV x u ∧ RelV y w' := by
  cases r with
  | cons r1 r2 =>
    cases r2 with
    | cons r3 r4 => cases r4; exact ⟨_, _, rfl, r1, r3⟩
theorem call_abs : CallR X (.builtin "abs") (fun xs H Q => ∃ i, xs = [.int i] ∧ Q (.int (if i < 0 then -i else i)) H) := by
  intro pins s σ H xs us Q I r h
  obtain ⟨i, rfl, q⟩ := h
  obtain ⟨u, rfl, t, rfl⟩ := vals1 r
  exact call_abs_int fun u tk => ⟨.int (if i < 0 then -i else i), H, I.tok _, ⟨_, rfl⟩, q⟩
theorem call_min2 (hc : X.calm = true) : CallR X (.builtin "min") (fun xs H Q => ∃ i j, xs = [.int i, .int j] ∧ Q (.int (if j < i then j else i)) H) := by
  intro pins s σ H xs us Q I r h
  obtain ⟨i, j, rfl, q⟩ := h
  obtain ⟨u, w', rfl, ⟨t, rfl⟩, ⟨t', rfl⟩⟩ := vals2 r
  refine min_two_ints (I.ok.hd hc) fun h' tk k => ⟨_, H, I.kept k, ?_, q⟩
  by_cases hj : j < i
  · rw [if_pos hj, if_pos hj]; exact ⟨_, rfl⟩
  · rw [if_neg hj, if_neg hj]; exact ⟨_, rfl⟩
theorem call_int1 : CallR X (.type "int") (fun xs H Q => (∃ i, xs = [.int i] ∧ Q (.int i) H) ∨ ∃ k, xs = [.bl k] ∧ Q (.int (if k then 1 else 0)) H) := by
  intro pins s σ H xs us Q I r h
  rcases h with ⟨i, rfl, q⟩ | ⟨k, rfl, q⟩
  · obtain ⟨u, rfl, t, rfl⟩ := vals1 r
    exact call_int_int ⟨.int i, H, I, ⟨_, rfl⟩, q⟩
  · obtain ⟨u, rfl, r1⟩ := vals1 r
    cases r1
    exact call_int_bool ⟨.int (if k then 1 else 0), H, I.tok _, ⟨_, rfl⟩, q⟩
end
end L2

namespace L2
open PySem PySem.Spec PyProof.Rows

structure ObjM (h : Heap) (x dx C : Addr) (mA : Str → Option Value) : Prop where
  obj : h.get? x = some (PySem.W.instObj C dx)
  ns : h.Ns1 dx mA
  ne : dx ≠ x

theorem lookIn_ns {h : Heap} {dx : Addr} {mA : Str → Option Value} (n : h.Ns1 dx mA) : ∃ od, h.get? dx = some od ∧ ∀ name, PySem.W.lookIn name od = some (mA name) := by
  obtain ⟨o, es, ep, ho, hd, hk, _, hm⟩ := n
  refine ⟨o, ho, fun name => ?_⟩
  have e := hm name
  unfold nsFind findBy at e
  rw [← Array.find?_toList] at e
  unfold PySem.W.lookIn
  rw [hd]
  dsimp only
  split
  · rename_i y q
    rw [q] at e
    exact congrArg some e
  · rename_i q
    rw [q] at e
    have a : es.toList.any (·.refKey) = false := by
      rw [List.any_eq_false]
      intro y hy
      obtain ⟨z, t, hkey⟩ := hk y (Array.mem_toList_iff.mp hy)
      simp [DictEntry.refKey, hkey]
    have a' : ¬ es.toList.any (·.refKey) = true := by rw [a]; exact Bool.false_ne_true
    rw [if_neg a']
    exact congrArg some e

theorem ObjM.look {h : Heap} {x dx C : Addr} {mA : Str → Option Value} (I : ObjM h x dx C mA) : ∃ od, PySem.W.InstAt h x (PySem.W.instObj C dx) C (some od) ∧ ∀ name, PySem.W.lookIn name od = some (mA name) :=
  let ⟨od, ho, hl⟩ := lookIn_ns I.ns
  ⟨od, ⟨I.obj, rfl, rfl, ho⟩, hl⟩

section
variable {prog : Program} {w : World} {A : Around} {E : Value → Shared → Prop} {s : Shared} {K : PySem.W.Frag} {x dx C f : Addr} {mA : Str → Option Value} {name : Str} {v : Value}

end

section
variable {P : Program} {w : World} {H H' : Hp} {h h' : Heap} {a C dx : Addr} {fs fs' : List (Str × V)}
theorem ins_get (hok : HOk P w H h) (e : H a = some (.ins C dx fs)) : ∃ mA, ObjM h a dx C mA ∧ (∀ f, RelO (fs.lookup f) (mA f)) ∧ PySem.Within mA (fs.map (·.1)) ∧ fs.length ≤ 1000 ∧ H dx = some (.own a) := by
  obtain ⟨d, z, ne, ob, mA, n, r, q⟩ := (show ObjOk P w H h a (.ins C dx fs) from hok a _ e)
  exact ⟨mA, ⟨ob, n, ne⟩, r, q, z, d⟩
end

structure Cls (K : PySem.W.Frag) (C : Addr) : Prop where
  pg : PySem.W.plainGet K C Str.empty = true
  hd : PySem.W.hasDictIn K C = true
  po : PySem.W.plainOver K C = true
  sa : PySem.W.findIn K (.ref C) "__setattr__" = some (some (.builtin "object.__setattr__"))
theorem Cls.get {K : PySem.W.Frag} {C : Addr} (c : Cls K C) (f : Str) : PySem.W.plainGet K C f = true := c.pg
structure Con (K : PySem.W.Frag) (C : Addr) (f : Str) (v : V) (u : Value) : Prop where
  at_ : PySem.W.findIn K (.ref C) f = some (some u)
  rel : RelV v u
  get : PySem.W.specialIn K u "__get__" = some none
  cp : PySem.W.copiedNames.contains f = false
structure Meth (K : PySem.W.Frag) (C : Addr) (m : Str) (f : Addr) : Prop where
  at_ : PySem.W.findIn K (.ref C) m = some (some (.ref f))
  fn : PySem.W.isFn K (.ref f) = true
  kp : PySem.W.keepIn K (.ref f) = true

section
variable {X : Cx} {pins : List (Addr × Obj)} {σ : St} {H : Hp} {s : Shared} {a C dx : Addr} {fs : List (Str × V)} {f : Str} {v : V} {A : Around} {E : Value → Shared → Prop}

end

section
variable {X : Cx} {o e value : Expr} {f : Str} {pos pos' tpos : Pos} {ta tv : TE}
end

section
variable {X : Cx} {pins : List (Addr × Obj)} {σ : St} {H : Hp} {s : Shared} {A : Around} {E : Value → Shared → Prop} {Q : Value → Shared → Prop} {c : Value} {b : Bool}
inductive TyOf (K : PySem.W.Frag) (H : Hp) : V → Value → Prop where
  | non : TyOf K H .non (.type "NoneType")
  | bl (x : Bool) : TyOf K H (.bl x) (.type "bool")
  | int (i : Int) : TyOf K H (.int i) (.type "int")
  | str (x : Str) : TyOf K H (.str x) (.type "str")
  | flt (x : UInt64) : TyOf K H (.flt x) (.type "float")
  | lst {a : Addr} {xs : List V} (e : H a = some (.lst xs)) : TyOf K H (.ref a) (.type "list")
  | frz {a : Addr} {o : Obj} {xs : List V} (e : H a = some (.frz o (.lst xs))) : TyOf K H (.ref a) (.type "list")
  | tup {a : Addr} {xs : List V} (e : H a = some (.tup xs)) : TyOf K H (.ref a) (.type "tuple")
  | dK {a : Addr} {kvs : List (Key × V)} (e : H a = some (.dK kvs)) : TyOf K H (.ref a) (.type "dict")
  | dT {a : Addr} {kvs : List (List Key × V)} (e : H a = some (.dT kvs)) : TyOf K H (.ref a) (.type "dict")
  | ins {a C dx : Addr} {fs : List (Str × V)} (e : H a = some (.ins C dx fs)) (cl : Cls K C) (ha : PySem.W.findIn K (.ref C) "__class__" = some (some (.builtin "object.__class__")))
      (hn : PySem.W.specialIn K (.builtin "object.__class__") "__get__" = some (some (.builtin "getset_descriptor.__get__"))) (htk : PySem.W.takesIn K (.builtin "object.__class__") = some true)
      (hm : PySem.W.mroIn K C (.type "object") = some true) : TyOf K H (.ref a) (.ref C)
theorem isinst_ok {x : V} {u t : Value} (I : Inv X pins σ H s) (rx : RelV x u) (ty : TyOf X.K H x t) (e : PySem.W.kitOne X.K t c = some b) (h : ∀ tk, Q (.bool b) { s with toks := tk }) :
    wpAny (model X.prog X.w) A (call (.builtin "isinstance") [u, c]) Q E s := by
  cases ty with
  | non => cases (show u = Value.none from rx); exact PySem.W.kia_one PySem.W.kitx_none I.kIn True.intro e (fun z => nomatch z) h
  | bl y => cases (show u = Value.bool y from rx); exact PySem.W.kia_one PySem.W.kitx_bool I.kIn True.intro e (fun z => nomatch z) h
  | int i => obtain ⟨t, q⟩ := (show ∃ t, u = Value.int i t from rx); cases q; exact PySem.W.kia_one PySem.W.kitx_int I.kIn True.intro e (fun z => nomatch z) h
  | str y => obtain ⟨t, q⟩ := (show ∃ t, u = Value.str y t from rx); cases q; exact PySem.W.kia_one PySem.W.kitx_str I.kIn True.intro e (fun z => nomatch z) h
  | flt y => obtain ⟨t, q⟩ := (show ∃ t, u = Value.float y t from rx); cases q; exact PySem.W.kia_one PySem.W.kitx_float I.kIn True.intro e (fun z => nomatch z) h
  | @lst a xs ea =>
    cases (show u = Value.ref a from rx)
    obtain ⟨_, _, n, _, h1⟩ := (show ObjOk X.prog X.w H s.heap a (.lst xs) from I.hok a _ ea)
    exact PySem.W.kia_one PySem.W.kitx_list I.kIn ⟨_, h1, rfl⟩ e (fun z => nomatch z) h
  | @frz a ob xs ea =>
    cases (show u = Value.ref a from rx)
    obtain ⟨_, _, _, n, _, h1⟩ := (show ObjOk X.prog X.w H s.heap a (.frz ob (.lst xs)) from I.hok a _ ea)
    exact PySem.W.kia_one PySem.W.kitx_list I.kIn ⟨_, h1, rfl⟩ e (fun z => nomatch z) h
  | @tup a xs ea =>
    cases (show u = Value.ref a from rx)
    obtain ⟨_, _, _, p⟩ := (show ObjOk X.prog X.w H s.heap a (.tup xs) from I.hok a _ ea)
    obtain ⟨o, h1, h2, _⟩ := p
    exact PySem.W.kia_one PySem.W.kitx_tuple I.kIn ⟨o, h1, h2⟩ e (fun z => nomatch z) h
  | @dK a kvs ea =>
    cases (show u = Value.ref a from rx)
    obtain ⟨_, _, vs, _, p⟩ := (show ObjOk X.prog X.w H s.heap a (.dK kvs) from I.hok a _ ea)
    obtain ⟨o, es, ep, h1, h2, _⟩ := p
    exact PySem.W.kia_one PySem.W.kitx_dict I.kIn ⟨o, h1, h2.1⟩ e (fun z => nomatch z) h
  | @dT a kvs ea =>
    cases (show u = Value.ref a from rx)
    obtain ⟨_, _, xs, _, o, es, ep, h1, h2, _⟩ := (show ObjOk X.prog X.w H s.heap a (.dT kvs) from I.hok a _ ea)
    exact PySem.W.kia_one PySem.W.kitx_dict I.kIn ⟨o, h1, h2.1⟩ e (fun z => nomatch z) h
  | @ins a C dx fs ea cl ha hn htk hm =>
    cases (show u = Value.ref a from rx)
    obtain ⟨mA, O, _⟩ := ins_get I.hok ea
    obtain ⟨od, J, _⟩ := O.look
    exact PySem.W.kia_one (PySem.W.kitx_own (cl.get _) cl.hd ha hn htk hm) I.kIn J e (fun z => nomatch z) h
end
end L2

namespace L2
open PySem PySem.Spec PyProof.Rows

structure Room (k : Nat) (A : Around) : Prop where
  hd : A.handled = none
  dp : A.depth + 3 * k + 5 < recursionLimit
  un : A.units + 16 * k + 200 < cLine
theorem Room.mono {j k : Nat} {A : Around} (r : Room k A) (h : j ≤ k) : Room j A := ⟨r.hd, by have := r.dp; omega, by have := r.un; omega⟩
theorem Room.deeper {k : Nat} {A : Around} (r : Room (k + 1) A) (env : Env) : Room k (A.deeper env) :=
  ⟨r.hd, by have := r.dp; show A.depth + 1 + 3 * k + 5 < _; omega, by have := r.un; show A.units + 3 + 16 * k + 200 < _; omega⟩
theorem Room.depth {k : Nat} {A : Around} (r : Room k A) : A.depth < recursionLimit := by have := r.dp; omega
theorem Room.units {k : Nat} {A : Around} (r : Room k A) : A.units + 64 < cLine := by have := r.un; omega
noncomputable def tNil : TA := fun _ H Q => Q [] H
noncomputable def tCons (ta : TE) (tr : TA) : TA := fun σ H Q => ta σ H fun x H1 => tr σ H1 fun xs H2 => Q (x :: xs) H2
section
variable {X : Cx} {e : Expr} {es : List Expr} {te : TE} {t : TA} {pos : Pos}
theorem pa_nil : PA X [] tNil := fun _ _ _ _ H Q I h => Calls.spliced_nil ⟨[], H, I, .nil, h⟩
theorem pa_cons (ha : PE X e te) (hr : PA X es t) (hs : starEach (e :: es) X.env = (false, eval e X.env) :: starEach es X.env := by rfl) : PA X (e :: es) (tCons te t) := by
  intro pos pins s σ H Q I h
  rw [hs]
  show wpAny _ _ (spliced ((false, eval e X.env) :: backTo pos (starEach es X.env))) _ _ s
  refine Calls.spliced_cons (thn (ha pins s σ H _ I h) fun u s1 ⟨x, H1, I1, r1, q1⟩ => ?_)
  exact thn (hr pos pins s1 σ H1 _ I1 q1) fun us s2 ⟨xs, H2, I2, r2, q2⟩ => ⟨x :: xs, H2, I2, .cons r1 r2, q2⟩

noncomputable def tTup (t : TA) : TE := fun σ H Q => t σ H fun xs H1 => xs.length ≤ sizeLine ∧ ∀ p, H1 p = none → Q (.ref p) (upd H1 p (.tup xs))
noncomputable def tLst (t : TA) : TE := fun σ H Q => t σ H fun xs H1 => xs.length ≤ sizeLine ∧ ∀ p, H1 p = none → Q (.ref p) (upd H1 p (.lst xs))
theorem pe_tup {x1} (h : PA X es t) : PE X (.Tuple es x1 pos) (tTup t) := by
  intro pins s σ H Q I hq
  refine wpAny_Tuple_spliced (thn (h pos pins s σ H _ I hq) fun us s1 ⟨xs, H1, I1, r, z, q⟩ => ⟨by rw [← r.length]; exact z, ?_⟩)
  have hf : H1 s1.heap.objs.size = none := I1.hok.fresh (Nat.le_refl _)
  refine ⟨.ref s1.heap.objs.size, upd H1 s1.heap.objs.size (.tup xs), I1.laid (t' := s1.toks) (fun b u e => Heap.get?_push_of_some _ e) (Nat.le_refl _) ?_, rfl, q _ hf⟩
  exact ⟨z, us, r, ⟨_, Heap.get?_push_size _ rfl, rfl, _, rfl⟩⟩
theorem pe_lst (h : PA X es t) : PE X (.List es pos) (tLst t) := by
  intro pins s σ H Q I hq
  refine wpAny_List_spliced (thn (h pos pins s σ H _ I hq) fun us s1 ⟨xs, H1, I1, r, z, q⟩ => ⟨by rw [← r.length]; exact z, ?_⟩)
  have hf : H1 s1.heap.objs.size = none := I1.hok.fresh (Nat.le_refl _)
  refine ⟨.ref s1.heap.objs.size, upd H1 s1.heap.objs.size (.lst xs), I1.laid (t' := s1.toks) (fun b u e => Heap.get?_push_of_some _ e) (Nat.le_refl _) ?_, rfl, q _ hf⟩
  exact ⟨z, us, 0, r, Heap.get?_push_size _ rfl⟩
end

noncomputable abbrev Sp := List V → Hp → VK → XK → Prop
noncomputable abbrev CXT := List Env → Hp → Shared → XK → Value → Shared → Prop

structure Env0 (P : Program) (w : World) (K : PySem.W.Frag) (mg : Str → Option Value) (base : Heap) (A : Around) (outer : List Env) (s : Shared) (H : Hp) : Prop where
  frames : A.frames = some outer
  mod : Mod K mg base
  bs : ∀ b o, base.get? b = some o → s.heap.get? b = some o ∧ H b = none
  bsz : base.objs.size ≤ s.heap.objs.size
  funs : s.heap.FunFrames base outer
  frf : ∀ b ∈ frs outer, H b = none
  hok : HOk P w H s.heap
  bare : AllBare s.gens
noncomputable def CE (outer : List Env) (P : Program) (w : World) (H : Hp) (s : Shared) (Q : VK) (u : Value) (s' : Shared) : Prop :=
  ∃ v H', s'.os = s.os ∧ AllBare s'.gens ∧ Un (frs outer) [] H H' s.heap s'.heap ∧ HOk P w H' s'.heap ∧ RelV v u ∧ Q v H'
noncomputable def CR (CX : CXT) (outer : List Env) (P : Program) (w : World) (H : Hp) (s : Shared) (Q : VK) (E : XK) (r : Result) (s' : Shared) : Prop :=
  match r with
  | .ok (.ret u) => CE outer P w H s Q u s'
  | .ok _ => False
  | .error e => CX outer H s E e s'
structure FnOk (P : Program) (w : World) (K : PySem.W.Frag) (mg : Str → Option Value) (base : Heap) (CX : CXT) (k : Nat) (f : Addr) (fd : FuncData) (ps : List Str) (sp : Sp) : Prop where
  len : ∀ vs H Q E, sp vs H Q E → vs.length = ps.length
  run : ∀ (A : Around) (outer : List Env) (s : Shared) (H : Hp) (args : Args) (us : List Value) (vs : List V) (Q : VK) (E : XK), Room k A → Env0 P w K mg base A outer s H → BindsTo s fd args (ps.zip us) → Vals vs us → sp vs H Q E →
    codeAny (model P w) A (.call (.ref f) args) (CR CX outer P w H s Q E) s
section
variable {X : Cx} {pins : List (Addr × Obj)} {σ : St} {H : Hp} {s s' : Shared}
theorem Inv.env0 (I : Inv X pins σ H s) : Env0 X.prog X.w X.K X.mg X.base X.A X.stack s H :=
  ⟨I.ok.frames, I.ok.mod, I.bs, Nat.le_trans I.ok.bsz I.sz, I.stack, I.stkFree, I.hok, I.bare⟩
theorem Inv.after {Q : VK} {u : Value} (I : Inv X pins σ H s) (h : CE X.stack X.prog X.w H s Q u s') : EP X pins σ Q u s' := by
  obtain ⟨v, H', os, bare, un, hok, r, q⟩ := h
  obtain ⟨hh, g, d, t, os'⟩ := s'
  obtain rfl : os' = s.os := os
  exact ⟨v, H', I.call (h' := hh) (g' := g) (d' := d) (t' := t) (ch := []) un hok bare (fun b z => absurd z (by simp)), r, q⟩
end

noncomputable def tCall (sp : Sp) (dvs : List V) (E : XK) (t : TA) : TE := fun σ H Q => t σ H fun vs H1 => sp (vs ++ dvs) H1 Q E
noncomputable def Binds (K : PySem.W.Frag) (fd : FuncData) (ps : List Str) (ds : List Value) : Prop :=
  ∀ (s : Shared) (us : List Value), K.In s.heap → (us ++ ds).length = ps.length → BindsTo s fd ⟨us, []⟩ (ps.zip (us ++ ds))
theorem Binds.all {K : PySem.W.Frag} {fd : FuncData} {ps : List Str} (h : ∀ us : List Value, us.length = ps.length → bindArgs fd ⟨us, []⟩ = pure (ps.zip us)) : Binds K fd ps [] := fun s us _ hl => by
  rw [List.append_nil] at hl ⊢
  exact .of_eq (h us hl)

noncomputable def Passes (CX : CXT) (X : Cx) (E : XK) : Prop := ∀ (pins : List (Addr × Obj)) (σ : St) (H : Hp) (s : Shared) (e : Value) (s' : Shared), Inv X pins σ H s → CX X.stack H s E e s' → X.xe e s'

section
variable {X : Cx} {CX : CXT} {k : Nat} {f C : Addr} {fd : FuncData} {ps : List Str} {sp : Sp} {dvs : List V} {ds : List Value} {E : XK} {x m : Str} {p pos apos : Pos} {e o : Expr} {es : List Expr} {ta : TE} {t : TA}

theorem run_fn {pins : List (Addr × Obj)} {σ : St} {H : Hp} {s : Shared} {Q : VK} {us : List Value} {vs : List V} (F : FnOk X.prog X.w X.K X.mg X.base CX k f fd ps sp) (hr : Room k X.A) (hb : Binds X.K fd ps ds) (hd : Vals dvs ds) (hx : Passes CX X E)
    (I : Inv X pins σ H s) (r : Vals vs us) (h : sp (vs ++ dvs) H Q E) : wpAny (model X.prog X.w) X.A (call (.ref f) us) (EP X pins σ Q) X.xe s := by
  have r2 : Vals (vs ++ dvs) (us ++ ds) := r.append hd
  have hl : (us ++ ds).length = ps.length := by rw [← r2.length]; exact F.len _ _ _ _ h
  refine wpAny_call (codeAny_mono (F.run X.A X.stack s H ⟨us, []⟩ (us ++ ds) (vs ++ dvs) Q E hr I.env0 (hb s us I.kIn hl) r2 h) fun r s' hq => ?_)
  cases r with
  | error e => exact hx pins σ H s e s' I hq
  | ok fl =>
    cases fl with
    | ret u => exact I.after hq
    | next => exact False.elim hq
    | brk => exact False.elim hq
    | cont => exact False.elim hq

theorem pe_call (F : FnOk X.prog X.w X.K X.mg X.base CX k f fd ps sp) (hr : Room k X.A) (hg : Gl X x) (hm : X.mg x = some (.ref f)) (hk : PySem.W.keepIn X.K (.ref f) = true) (hb : Binds X.K fd ps ds) (hd : Vals dvs ds) (hx : Passes CX X E)
    (ha : PA X (e :: es) t) (hdb : (x == ("__debug__" : Str)) = false := by decide) (he : starEach (e :: es) X.env = (false, eval e X.env) :: starEach es X.env := by rfl) (hpl : (backTo pos (starEach es X.env)).any (·.1) = false := by rfl) :
    PE X (.Call (.Name x p) (e :: es) [] pos) (tCall sp dvs E t) := by
  intro pins s σ H Q I h
  refine wpAny_Call_Name_kw (ld_glob I hg hm ?_ hdb)
  refine PySem.W.callWith_K (h₀ := X.base) I.ok.mod.kin hk (thn (ha pos pins s σ H _ I h) fun us s1 ⟨vs, H1, I1, r, q⟩ => ⟨I1.kIn, ?_⟩) he hpl
  exact run_fn F hr hb hd hx I1 r q
structure Mk (K : PySem.W.Frag) (C f : Addr) : Prop where
  makes : PySem.W.makesIn K C = true
  init : PySem.W.findIn K (.ref C) "__init__" = some (some (.ref f))
  fn : PySem.W.isFn K (.ref f) = true
  kp : PySem.W.keepIn K (.ref C) = true

end

section
variable {X : Cx} {CX : CXT} {k : Nat} {f C : Addr} {fd : FuncData} {ps ks : List Str} {sp : Sp} {E : XK} {x m : Str} {p pos apos kpos : Pos} {e o : Expr} {es : List Expr} {kws : List Keyword} {te ta : TE} {t tk : TA} {nm : Option Str}
structure KBinds (K : PySem.W.Frag) (fd : FuncData) (ps ks : List Str) (g : List Value → List Value → List Value) (gV : List V → List V → List V) : Prop where
  to : ∀ (s : Shared) (us ws : List Value), K.In s.heap → (g us ws).length = ps.length → BindsTo s fd ⟨us, ks.zip ws⟩ (ps.zip (g us ws))
  rel : ∀ {vs : List V} {us : List Value} {zs : List V} {ws : List Value}, Vals vs us → Vals zs ws → Vals (gV vs zs) (g us ws)
variable {g : List Value → List Value → List Value} {gV : List V → List V → List V}
end

structure FnScope (N P : List Str) (sc : Scope) : Prop where
  kind : sc.kind = .function
  co : sc.isCoroutine = false
  gen : sc.isGenerator = false
  nd : N.Nodup
  pre : N.take P.length = P
  par : ∀ x ∈ P, sc.names.lookup x = some .local ∨ sc.names.lookup x = some .cell
  nofree : ∀ y ∈ sc.names, y.2 ≠ .free

theorem bindL_out {kindOf : Str → Option NameKind} {x : Str} : ∀ {binds : List (Str × Value)} {m : Str → Option Value}, (∀ v, (x, v) ∉ binds) → bindL kindOf binds m x = m x
  | [], _, _ => rfl
  | (n, v) :: r, m, h => by
    unfold bindL
    rw [bindL_out fun w hw => h w (List.mem_cons_of_mem _ hw)]
    split
    · have : x ≠ n := by rintro rfl; exact h v List.mem_cons_self
      simp [this]
    · rfl
theorem bindC_out {kindOf : Str → Option NameKind} {x : Str} : ∀ {binds : List (Str × Value)} {m : Str → Option Value}, (∀ v, (x, v) ∉ binds) → bindC kindOf binds m x = m x
  | [], _, _ => rfl
  | (n, v) :: r, m, h => by
    unfold bindC
    rw [bindC_out fun w hw => h w (List.mem_cons_of_mem _ hw)]
    split
    · rfl
    · have : x ≠ n := by rintro rfl; exact h v List.mem_cons_self
      simp [this]
theorem bindL_get {kindOf : Str → Option NameKind} {x : Str} {v : Value} : ∀ {P : List Str} {vs : List Value} {i : Nat} {m : Str → Option Value}, P.Nodup → P[i]? = some x → vs[i]? = some v → kindOf x = some .local →
    bindL kindOf (P.zip vs) m x = some v
  | [], _, _, _, _, h, _, _ => by simp at h
  | _ :: _, [], _, _, _, _, h, _ => by simp at h
  | p :: P, w :: vs, 0, m, nd, h1, h2, hk => by
    simp at h1 h2; subst h1; subst h2
    show bindL kindOf ((p, w) :: P.zip vs) m p = _
    unfold bindL
    rw [bindL_out fun v hv => (List.nodup_cons.mp nd).1 (List.of_mem_zip hv).1, if_pos hk]
    simp
  | p :: P, w :: vs, i + 1, m, nd, h1, h2, hk => by
    show bindL kindOf ((p, w) :: P.zip vs) m x = _
    unfold bindL
    exact bindL_get (i := i) (List.nodup_cons.mp nd).2 (by simpa using h1) (by simpa using h2) hk
theorem bindC_get {kindOf : Str → Option NameKind} {x : Str} {v : Value} : ∀ {P : List Str} {vs : List Value} {i : Nat} {m : Str → Option Value}, P.Nodup → P[i]? = some x → vs[i]? = some v → kindOf x ≠ some .local →
    bindC kindOf (P.zip vs) m x = some v
  | [], _, _, _, _, h, _, _ => by simp at h
  | _ :: _, [], _, _, _, _, h, _ => by simp at h
  | p :: P, w :: vs, 0, m, nd, h1, h2, hk => by
    simp at h1 h2; subst h1; subst h2
    show bindC kindOf ((p, w) :: P.zip vs) m p = _
    unfold bindC
    rw [bindC_out fun v hv => (List.nodup_cons.mp nd).1 (List.of_mem_zip hv).1, if_neg hk]
    simp
  | p :: P, w :: vs, i + 1, m, nd, h1, h2, hk => by
    show bindC kindOf ((p, w) :: P.zip vs) m x = _
    unfold bindC
    exact bindC_get (i := i) (List.nodup_cons.mp nd).2 (by simpa using h1) (by simpa using h2) hk

noncomputable def start (N : List Str) (vs : List V) : St := vs.map some ++ List.replicate (N.length - vs.length) none

noncomputable def cxOf (CX : CXT) (P : Program) (w : World) (K : PySem.W.Frag) (mg : Str → Option Value) (base : Heap) (N : List Str) (qual : Str) (scope : Scope) (f : Addr) (cd : Value) (A : Around) (outer : List Env) (s : Shared) (H : Hp) (E : XK) : Cx where
  prog := P
  w := w
  K := K
  mg := mg
  base := base
  A := A.deeper (envOfC qual scope s.heap.objs.size f cd)
  N := N
  s₀ := s
  H₀ := H
  env := envOfC qual scope s.heap.objs.size f cd
  outer := outer
  stack := envOfC qual scope s.heap.objs.size f cd :: outer
  ex := []
  calm := true
  fn := fun _ => true
  pn := []
  xe := fun e s' => wpAny (model P w) (A.deeper (envOfC qual scope s.heap.objs.size f cd)) (leaving (envOfC qual scope s.heap.objs.size f cd) e) (fun _ s'' => CX outer H s E e s'') (fun e' s'' => CX outer H s E e' s'') s'

theorem cell_has {sc : Scope} {n : Nat} {x : Str} (h : sc.names.lookup x = some .cell) : ∃ c, (cellsFrom n sc.names []).lookup x = some c := by
  have q := PySem.W.cellsFrom_some sc.names n [] (.inl h)
  exact Option.isSome_iff_exists.mp q

theorem inv_start {CX : CXT} {P : Program} {w : World} {K : PySem.W.Frag} {mg : Str → Option Value} {base : Heap} {N ps : List Str} {qual : Str} {scope : Scope} {f : Addr} {cd : Value} {A : Around} {outer : List Env} {s s1 : Shared} {H : Hp} {E : XK} {us : List Value} {vs : List V}
    (S : FnScope N ps scope) (hd : A.handled = none) (e0 : Env0 P w K mg base A outer s H) (hl : vs.length = ps.length) (r : Vals vs us)
    (x : InCallC s s.heap.objs.size (bindL (envOfC qual scope s.heap.objs.size f cd).kindOf (ps.zip us) fun _ => none) (cellsFrom (s.heap.objs.size + 1) scope.names []) (bindC (envOfC qual scope s.heap.objs.size f cd).kindOf (ps.zip us) fun _ => none) s1) :
    Inv (cxOf CX P w K mg base N qual scope f cd A outer s H E) [] (start N vs) H s1 := by
  have hpl : ps.length ≤ N.length := by have := congrArg List.length S.pre; rw [List.length_take] at this; omega
  obtain ⟨h1, tk, rfl, hk⟩ := x.done
  have noA : ∀ b : Addr, b ∉ (cxOf CX P w K mg base N qual scope f cd A outer s H E).ex := fun b z => absurd (show b ∈ ([] : List Addr) from z) (by simp)
  refine ⟨⟨e0.mod, S.kind, rfl, rfl, Nat.le_refl _, fun y z c h1 h2 => ?_, fun y hy => ?_, fun y c _ h => ?_, fun _ => hd, Around.frames_deeper e0.frames, .inr ⟨rfl, rfl⟩, fun b z => absurd z (noA b), e0.bs, e0.bsz, fun b _ _ => noA b, fun b z => absurd z (noA b), e0.funs, e0.frf⟩,
    rfl, e0.bare, Un.kept hk, ⟨_, x.toInCall.ns, fun i y v h1 h2 h3 => ?_⟩, fun y c h => ⟨_, x.cell y c h⟩, e0.hok.fresh (Nat.le_refl _), fun y c h => ?_, fun p hp => absurd (show p ∈ ([] : List (Addr × Obj)) from hp) (by simp), e0.hok.kept hk, ?_⟩
  · exact name_of_addr x.apart (PySem.mem_of_lookup h1) (PySem.mem_of_lookup h2)
  · have hy : scope.names.lookup y = some .cell ∨ scope.names.lookup y = some .free := hy
    rcases hy with hy | hy
    · exact cell_has hy
    · exact absurd rfl (S.nofree _ (PySem.mem_of_lookup hy))
  · exact Nat.le_of_lt (x.above y c (PySem.mem_of_lookup h))
  · have hi : i < vs.length := by
      unfold start at h2
      by_cases hi : i < vs.length
      · exact hi
      · rw [List.getElem?_append_right (by simpa using hi)] at h2
        rw [List.getElem?_replicate] at h2
        split at h2 <;> cases h2
    have ha : vs[i]? = some v := by
      unfold start at h2
      rw [List.getElem?_append_left (by simpa using hi), List.getElem?_map] at h2
      cases e : vs[i]? with
      | none => rw [e] at h2; cases h2
      | some a => rw [e] at h2; cases h2; rfl
    obtain ⟨u, hu, rv⟩ := r.get ha
    have hp : ps[i]? = some y := by
      rw [← S.pre, List.getElem?_take_of_lt (by omega)]; exact h1
    have ndP : ps.Nodup := by rw [← S.pre]; exact S.nd.sublist (List.take_sublist _ _)
    refine ⟨u, rv, ?_⟩
    rcases S.par y (List.mem_of_getElem? hp) with k | k
    · exact .inl ⟨k, bindL_get ndP hp hu k⟩
    · obtain ⟨c, e⟩ := cell_has (n := s.heap.objs.size + 1) k
      refine .inr ⟨.inl k, c, e, ?_⟩
      have q := x.cell y c e
      rw [bindC_get ndP hp hu (by show scope.names.lookup y ≠ _; rw [k]; decide)] at q
      exact q
  · exact e0.hok.fresh (Nat.le_of_lt (x.above y c (PySem.mem_of_lookup h)))
  · unfold start
    show _ = N.length
    rw [List.length_append, List.length_map, List.length_replicate]
    omega

theorem fn_of {CX : CXT} {P : Program} {w : World} {K : PySem.W.Frag} {mg : Str → Option Value} {base : Heap} {k : Nat} {f : Addr} {name qual : Str} {params : Arguments} {body : List Stmt} {scope : Scope} {dV kV doc pm cdv ct oc : Value} {an od : Option Addr}
    {osl : Array (Option Value)} {N ps : List Str} {sp : Sp} (lk : K.lookup f = some ⟨oc, od, .func (PySem.W.fnOf name qual params body scope dV kV doc pm an cdv ct), osl⟩) (hcd : PySem.W.codeIn K cdv qual = true) (S : FnScope N ps scope)
    (len : ∀ vs H Q E, sp vs H Q E → vs.length = ps.length)
    (hbody : ∀ (A : Around) (outer : List Env) (s : Shared) (H : Hp) (vs : List V) (Q : VK) (E : XK), Room k (A.deeper (envOfC qual scope s.heap.objs.size f cdv)) → sp vs H Q E →
      ∃ t, PSs (cxOf CX P w K mg base N qual scope f cdv A outer s H E) body t ∧ t { nx := fun _ H' => Q .non H', rt := Q } (start N vs) H) :
    FnOk P w K mg base CX (k + 1) f (PySem.W.fnOf name qual params body scope dV kV doc pm an cdv ct) ps sp := by
  refine ⟨len, fun A outer s H args us vs Q E hr e0 hb r hsp => ?_⟩
  have hl := len _ _ _ _ hsp
  have KX : K.In s.heap := e0.mod.kin.keeps fun b o e => (e0.bs b o e).1
  have lim : s.heap.NoLimit := e0.mod.nolimit.keeps fun b o e => (e0.bs b o e).1
  have hkind : ∀ y ∈ ps.zip us, scope.names.lookup y.1 = some .local ∨ (scope.names.lookup y.1 = some .cell ∧ ((cellsFrom (s.heap.objs.size + 1) scope.names []).lookup y.1).isSome = true) := fun ⟨n, v⟩ hy => by
    rcases S.par n (List.of_mem_zip hy).1 with q | q
    · exact .inl q
    · exact .inr ⟨q, PySem.W.cellsFrom_some _ _ _ (.inl q)⟩
  refine codeAny_call_function hr.depth (KX _ _ lk) rfl S.co S.gen rfl (PySem.W.codeRec_of KX hcd) (hb _ _ _ _ ?_)
  refine wpAny_newFunctionEnv_cells S.kind hkind fun env he s1 x => ?_
  subst he
  refine ⟨lim.keeps x.toInCall.keep, codeAny_func ?_⟩
  obtain ⟨t, ht, hq⟩ := hbody A outer s H vs Q E (hr.deeper _) hsp
  have I : Inv (cxOf CX P w K mg base N qual scope f cdv A outer s H E) [] (start N vs) H s1 := inv_start S hr.hd e0 hl r x
  refine wpAny_mono (ht [] s1 (start N vs) H _ I hq) (fun fl s' hs => ?_) fun e s' hs => hs
  have fin : ∀ {σ' : St} {H' : Hp} {v : V} {u : Value}, Inv (cxOf CX P w K mg base N qual scope f cdv A outer s H E) [] σ' H' s' → RelV v u → Q v H' → CE outer P w H s Q u s' :=
    fun {σ' H' v u} J rv q => ⟨v, H', J.os, J.bare, J.base, J.hok, rv, q⟩
  cases fl with
  | ret u =>
    obtain ⟨v, σ', H', J, rv, q⟩ := hs
    exact fin J rv q
  | next =>
    obtain ⟨σ', H', J, q⟩ := hs
    exact fin (v := V.non) (u := Value.none) J rfl q
  | brk =>
    obtain ⟨_, _, _, q⟩ := hs
    exact False.elim q
  | cont =>
    obtain ⟨_, _, _, q⟩ := hs
    exact False.elim q
end L2

namespace L2
open PySem PySem.Spec PyProof.Rows
section
variable {X : Cx} {x : Str} {p pos : Pos} {e : Expr} {es : List Expr} {t : TA} {id T : String} {r : List V → Hp → VK → Prop}

noncomputable def tCB (r : List V → Hp → VK → Prop) (t : TA) : TE := fun σ H Q => t σ H fun vs H1 => r vs H1 Q
theorem pe_callB (hc : CallR X (.builtin id) r) (hg : Gl X x) (hm : X.mg x = none) (hv : bootBuiltins x = some (.builtin id)) (ha : PA X (e :: es) t) (hn : x ≠ "__name__" := by decide) (hdb : (x == ("__debug__" : Str)) = false := by decide)
    (he : starEach (e :: es) X.env = (false, eval e X.env) :: starEach es X.env := by rfl) (hpl : (backTo pos (starEach es X.env)).any (·.1) = false := by rfl) : PE X (.Call (.Name x p) (e :: es) [] pos) (tCB r t) := by
  intro pins s σ H Q I h
  refine wpAny_Call_Name_kw (ld_blt I hg hm hv ?_ hn hdb)
  exact PyProof.Rows.callWith_builtin1 (thn (ha pos pins s σ H _ I h) fun us s1 ⟨vs, H1, I1, r1, q1⟩ => hc pins s1 σ H1 vs us Q I1 r1 q1) he hpl
theorem pe_callTy (hc : CallR X (.type T) r) (hg : Gl X x) (hm : X.mg x = none) (hv : bootBuiltins x = some (.type T)) (ha : PA X (e :: es) t) (hn : x ≠ "__name__" := by decide) (hdb : (x == ("__debug__" : Str)) = false := by decide)
    (he : starEach (e :: es) X.env = (false, eval e X.env) :: starEach es X.env := by rfl) (hpl : (backTo pos (starEach es X.env)).any (·.1) = false := by rfl) : PE X (.Call (.Name x p) (e :: es) [] pos) (tCB r t) := by
  intro pins s σ H Q I h
  refine wpAny_Call_Name_kw (ld_blt I hg hm hv ?_ hn hdb)
  exact PyProof.Rows.callWith_type1 (thn (ha pos pins s σ H _ I h) fun us s1 ⟨vs, H1, I1, r1, q1⟩ => hc pins s1 σ H1 vs us Q I1 r1 q1) he hpl
end
end L2

namespace HT
open PySem PyProof.Rows

section
open PySem.SeqAt
open PySem.AutoSeq1 (wpAny_loadPart')
open PySem.MeetsSeq PySem.MeetsSeq2 PySem.MeetsSeq3

end

section
variable {prog : Program} {w : World} {A : Around} {E : Value → Shared → Prop} {s : Shared}

theorem cat_tup {t b : Addr} {vs ws : List Value} {Q : Value → Shared → Prop} (ht : IsTup s.heap t vs.toArray) (hb : IsTup s.heap b ws.toArray) (hv : vs ≠ [])
    (h1 : ws = [] → Q (.ref t) s) (h2 : ws ≠ [] → Q (.ref s.heap.objs.size) { s with heap := s.heap.push { cls := .type "tuple", data := .seq (vs ++ ws).toArray } })
    (hsz : vs.length + ws.length ≤ sizeLine) : wpAny (model prog w) A (binaryOp .Add (.ref t) (.ref b)) Q E s := by
  obtain ⟨⟨cls, dd, data, sl⟩, ho, hc, n, hd⟩ := id ht
  obtain ⟨⟨cls2, dd2, data2, sl2⟩, ho2, hc2, n2, hd2⟩ := id hb
  simp only at hc hd hc2 hd2
  subst hc hd hc2 hd2
  have e : vs.toArray ++ ws.toArray = (vs ++ ws).toArray := by simp
  by_cases hw : ws = []
  · exact concat_meets ⟨_, ho, rfl⟩ ⟨_, ho2, rfl⟩ noFill_tuple_add seq_tuple_add PySem.F.slot_tuple_add PySem.F.entry_tuple_add (PySem.F.args_tuple_add_2 _ _)
      (tuple_addW1 t b vs.toArray ws.toArray n n2 dd dd2 sl sl2 (by simpa using hv) (by simp [hw])) ⟨ho, ho2, h1 hw⟩
  · refine concat_meets ⟨_, ho, rfl⟩ ⟨_, ho2, rfl⟩ noFill_tuple_add seq_tuple_add PySem.F.slot_tuple_add PySem.F.entry_tuple_add (PySem.F.args_tuple_add_2 _ _)
      (tuple_addW2 t b vs.toArray ws.toArray n n2 dd dd2 sl sl2 (by simpa using hv) (by simpa using hw) (by rw [List.size_toArray, List.size_toArray]; exact hsz)) ⟨ho, ho2, ?_⟩
    rw [e]
    exact h2 hw

noncomputable def sIx (n d : Nat) : Option Int → Nat
  | none => d
  | some v => if v < 0 then (v + (n : Int)).toNat else min v.toNat n
theorem sIx_none (n d : Nat) : sIx n d none = d := rfl
theorem sIx_nat (n d k : Nat) : sIx n d (some (k : Int)) = min k n := by
  show (if (k : Int) < 0 then ((k : Int) + (n : Int)).toNat else min (k : Int).toNat n) = min k n
  rw [if_neg (by omega), Int.toNat_natCast]
theorem sIx_le (n d : Nat) (hd : d ≤ n) (o : Option Int) : sIx n d o ≤ n := by
  cases o with
  | none => exact hd
  | some v =>
    show (if v < 0 then (v + (n : Int)).toNat else min v.toNat n) ≤ n
    by_cases hv : v < 0
    · rw [if_pos hv]; omega
    · rw [if_neg hv]; exact Nat.min_le_right _ _
theorem clip_eq (v : Int) (n d : Nat) : (if v < 0 then max (v + (n : Int)) 0 else min v (n : Int)) = ((sIx n d (some v) : Nat) : Int) := by
  show (if v < 0 then max (v + (n : Int)) 0 else min v (n : Int)) = (((if v < 0 then (v + (n : Int)).toNat else min v.toNat n) : Nat) : Int)
  by_cases hv : v < 0
  · simp only [if_pos hv]; omega
  · simp only [if_neg hv]; omega
theorem adjust_gen (lo hi : Option Int) (n : Nat) : Builtin.Slice.sliceAdjust lo hi 1 (n : Int) = (((sIx n 0 lo : Nat) : Int), ((sIx n n hi : Nat) : Int)) := by
  have h1 : ¬ ((1 : Int) < 0) := by omega
  unfold Builtin.Slice.sliceAdjust
  simp only [h1, if_false]
  refine Prod.ext ?_ ?_
  · cases lo with
    | none => rfl
    | some v => exact clip_eq v n 0
  · cases hi with
    | none => rfl
    | some v => exact clip_eq v n n
theorem places_gen (i j : Nat) : Builtin.Slice.slicePlaces (i : Int) (j : Int) 1 = j - i := by
  unfold Builtin.Slice.slicePlaces
  have h1 : (1 : Int) > 0 := by omega
  simp only [h1, if_true, Int.ediv_one]
  split <;> omega
theorem slicePart_ {v : Value} {o : Option Int} {Q : Option Int → Shared → Prop} (p : IsPart v o) (h : Q o s) : wpAny (model prog w) A (Builtin.Slice.slicePartIndex v) Q E s := by
  cases p with
  | none => exact slicePart_none h
  | int i t => exact slicePart_int h
theorem sliceApplied_gen {sl : Addr} {vl vu : Value} {lo hi : Option Int} {n : Nat} {Q : Int × Int × Nat → Shared → Prop} (hs : s.heap.IsSliceOf sl vl vu .none) (pl : IsPart vl lo) (pu : IsPart vu hi)
    (h : Q (((sIx n 0 lo : Nat) : Int), 1, sIx n n hi - sIx n 0 lo) s) : wpAny (model prog w) A (Builtin.Slice.sliceApplied (.ref sl) (pure (n : Int))) Q E s := by
  obtain ⟨os, hos, hcs, hds⟩ := id hs
  unfold Builtin.Slice.sliceApplied Builtin.Slice.sliceFields
  refine wpAny_bind (wpAny_bind (wpAny_field hos hds (x := vl) rfl (wpAny_bind (wpAny_field hos hds (x := vu) rfl (wpAny_bind (wpAny_field hos hds (x := .none) rfl (wpAny_pure ?_)))))))
  refine wpAny_bind (slicePart_none ?_)
  show wpAny _ _ (if ((1 : Int) == 0) = true then _ else _) _ _ s
  rw [if_neg (by decide)]
  refine wpAny_bind (slicePart_ pl (wpAny_bind (slicePart_ pu (wpAny_bind (wpAny_pure ?_)))))
  show wpAny _ _ (match Builtin.Slice.sliceAdjust lo hi 1 (n : Int) with | (lo, hi) => pure (lo, (1 : Int), Builtin.Slice.slicePlaces lo hi 1)) _ _ s
  rw [adjust_gen lo hi n]
  show wpAny _ _ (pure (((sIx n 0 lo : Nat) : Int), (1 : Int), Builtin.Slice.slicePlaces ((sIx n 0 lo : Nat) : Int) ((sIx n n hi : Nat) : Int) 1)) _ _ s
  rw [places_gen]
  exact wpAny_pure h
theorem pick_gen (xs : Array Value) (i k : Nat) : ((List.range k).filterMap fun (m : Nat) => xs[((i : Int) + (m : Int) * 1).toNat]?).toArray = ((xs.toList.drop i).take k).toArray := by
  have e : (fun (m : Nat) => xs[((i : Int) + (m : Int) * 1).toNat]?) = fun m => xs[i + m]? := by
    funext m
    have : ((i : Int) + (m : Int) * 1).toNat = i + m := by omega
    rw [this]
  rw [e]
  have := pick_run xs i k
  rw [List.filterMap_map] at this
  have e2 : ((fun x => xs[x]?) ∘ fun x => i + x) = fun m => xs[i + m]? := rfl
  rw [e2] at this
  rw [this]

theorem getItem_tuple_cut {t sl : Addr} {items : Array Value} {vl vu : Value} {lo hi : Option Int} {Q : Value → Shared → Prop} (ht : IsTup s.heap t items) (hs : s.heap.IsSliceOf sl vl vu .none) (pl : IsPart vl lo) (pu : IsPart vu hi)
    (hw : ¬ (sIx items.size 0 lo = 0 ∧ sIx items.size items.size hi = items.size))
    (h : Q (.ref s.heap.objs.size) { s with heap := s.heap.push { cls := .type "tuple", data := .seq ((items.toList.drop (sIx items.size 0 lo)).take (sIx items.size items.size hi - sIx items.size 0 lo)).toArray } })
    (hsz : items.size ≤ sizeLine) : wpAny (model prog w) A (getItem (.ref t) (.ref sl)) Q E s := by
  have htake : sizeOk (.seq ((items.toList.drop (sIx items.size 0 lo)).take (sIx items.size items.size hi - sIx items.size 0 lo)).toArray) := by
    show ((items.toList.drop (sIx items.size 0 lo)).take (sIx items.size items.size hi - sIx items.size 0 lo)).toArray.size ≤ sizeLine
    rw [List.size_toArray, List.length_take, List.length_drop, Array.length_toList]
    omega
  have hj : sIx items.size items.size hi ≤ items.size := sIx_le _ _ (Nat.le_refl _) hi
  obtain ⟨os, hos, hcs, hds⟩ := id hs
  have hTs : s.TypeIs (.ref sl) "slice" := ⟨os, hos, hcs⟩
  unfold getItem
  try with_reducible refine wpAny_holding ?_
  first | refine wpAny_bind (wpAny_pure ?_) | skip
  refine wpAny_bind (wpAny_sequenceKey ht.typeIs (by decide) ?_)
  refine wpAny_bind (wpAny_callSpecial?_slot (name := Str.ofString "__getitem__") ht.typeIs PyProof.Rows.slot_tuple_getitem
    (wpAny_call_entry PyProof.Rows.slot_tuple_getitem ht.typeIs entry_tuple_getitem ?_ (args_tuple_getitem _ _)))
  show wpAny _ _ (Builtin.Tuple.tupleItemsOf (.ref t) >>= _) _ _ s
  refine wpAny_bind (tupleItemsOf_ ht ?_)
  refine wpAny_bind (wpAny_typeOf hTs ?_)
  rw [if_pos (by decide)]
  refine wpAny_bind (sliceApplied_gen hs pl pu ?_)
  have hno : ¬ ((((sIx items.size 0 lo : Nat) : Int) == 0 && (1 : Int) == 1 && (sIx items.size items.size hi - sIx items.size 0 lo) == items.size) = true) := by
    intro q
    rw [Bool.and_eq_true, Bool.and_eq_true] at q
    have q1 : ((sIx items.size 0 lo : Nat) : Int) = 0 := eq_of_beq q.1.1
    have q2 : sIx items.size items.size hi - sIx items.size 0 lo = items.size := eq_of_beq q.2
    exact hw ⟨by omega, by omega⟩
  show wpAny _ _ (if (((sIx items.size 0 lo : Nat) : Int) == 0 && (1 : Int) == 1 && (sIx items.size items.size hi - sIx items.size 0 lo) == items.size) = true then _ else _) _ _ s
  rw [if_neg hno, pick_gen]
  first
    | exact wpAny_bind (m := Builtin.Tuple.tupleExact _) (wpAny_newObj_type (wpAny_pure ⟨_, rfl, wpAny_pure h⟩) htake)
    | exact wpAny_bind (m := Builtin.Tuple.tupleExact _) (wpAny_newObj_type (wpAny_bind (wpAny_pure (wpAny_pure ⟨_, rfl, wpAny_pure h⟩))) htake)
    | exact wpAny_bind (wpAny_bind (m := Builtin.Tuple.tupleExact _) (wpAny_newObj_type (wpAny_pure (wpAny_pure ⟨_, rfl, wpAny_pure h⟩)) htake))
    | exact wpAny_bind (wpAny_bind (m := Builtin.Tuple.tupleExact _) (wpAny_newObj_type (wpAny_pure ⟨_, rfl, wpAny_pure h⟩) htake))
end
end HT

namespace L2
open PySem PySem.Spec PyProof.Rows

noncomputable abbrev TO := St → Hp → (Option Int → Hp → Prop) → Prop
noncomputable def PO (X : Cx) (e : Option Expr) (t : TO) : Prop :=
  ∀ (pins : List (Addr × Obj)) (s : Shared) (σ : St) (H : Hp) (Q : Option Int → Hp → Prop), Inv X pins σ H s → t σ H Q →
    wpAny (model X.prog X.w) X.A (evalPart e X.env) (fun u s' => ∃ o H', Inv X pins σ H' s' ∧ IsPart u o ∧ Q o H') X.xe s
noncomputable def tNoPart : TO := fun _ H Q => Q none H
noncomputable def tPart (t : TE) : TO := fun σ H Q => t σ H fun x H1 => ∃ i, x = .int i ∧ Q (some i) H1

theorem intsAre_of {ns : List Int} : ∀ {us : List Value}, Vals (ns.map V.int) us → IntsAre us ns := by
  induction ns with
  | nil => intro us r; rw [List.map_nil] at r; cases r; exact .nil
  | cons n ns ih =>
    intro us r
    rw [List.map_cons] at r
    cases r with
    | cons r1 r2 =>
      obtain ⟨t, e⟩ := r1
      subst e
      exact .cons n t (ih r2)

section
variable {X : Cx} {e : Expr} {te : TE} {lo hi : Option Expr} {tl th : TO} {pos p2 : Pos}

theorem po_none : PO X none tNoPart := by
  intro pins s σ H Q I h
  rw [evalPart_none]
  exact wpAny_pure ⟨none, H, I, .none, h⟩
theorem po_some (h : PE X e te) : PO X (some e) (tPart te) := by
  intro pins s σ H Q I hw
  rw [evalPart_some]
  refine thn (h pins s σ H _ I hw) fun u s1 ⟨x, H1, I1, r1, q1⟩ => ?_
  obtain ⟨i, rfl, q⟩ := q1
  obtain ⟨t, rfl⟩ := r1
  exact ⟨some i, H1, I1, .int i t, q⟩

noncomputable def SlR (X : Cx) (r : V → Option Int → Option Int → Hp → VK → Prop) : Prop :=
  ∀ (pins : List (Addr × Obj)) (s : Shared) (σ : St) (H : Hp) (x : V) (v vl vu : Value) (lo hi : Option Int) (sl : Addr) (Q : VK), Inv X pins σ H s → RelV x v → s.heap.IsSliceOf sl vl vu .none → IsPart vl lo → IsPart vu hi → r x lo hi H Q →
    ∃ T id, typeLookup (.type T) "__getitem__" = pure (some (.builtin id)) ∧ s.TypeIs v T ∧ wpAny (model X.prog X.w) X.A (getItem v (.ref sl)) (EP X pins σ Q) X.xe s
noncomputable def tSl (r : V → Option Int → Option Int → Hp → VK → Prop) (te : TE) (tl th : TO) : TE := fun σ H Q => te σ H fun x H1 => tl σ H1 fun l H2 => th σ H2 fun u H3 => r x l u H3 Q
theorem pe_slice {r : V → Option Int → Option Int → Hp → VK → Prop} (hr : SlR X r) (he : PE X e te) (hl : PO X lo tl) (hu : PO X hi th) : PE X (.Subscript e (.Slice lo hi none p2) pos) (tSl r te tl th) := by
  intro pins s σ H Q I h
  refine Subscript_ (thn (he pins s σ H _ I h) fun v s1 ⟨x, H1, I1, r1, q1⟩ => ?_)
  refine wpAny_Slice (thn (hl pins s1 σ H1 _ I1 q1) fun vl s2 ⟨l, H2, I2, pl, q2⟩ => thn (hu pins s2 σ H2 _ I2 q2) fun vu s3 ⟨u, H3, I3, pu, q3⟩ => ?_)
  rw [evalPart_none]
  refine wpAny_pure ?_
  have I4 : Inv X pins σ H3 { s3 with heap := s3.heap.push { cls := .type "slice", data := .fields #[vl, vu, .none] } } := I3.kept (t' := s3.toks) fun b ob q => Heap.get?_push_of_some _ q
  obtain ⟨T, id, hT, ht, hg⟩ := hr pins { s3 with heap := s3.heap.push { cls := .type "slice", data := .fields #[vl, vu, .none] } } σ H3 x v vl vu l u s3.heap.objs.size Q I4 r1 (Heap.IsSliceOf.new ..) pl pu q3
  show wpAny (model X.prog X.w) X.A (subscriptTail e (.Slice lo hi none p2) v (.ref s3.heap.objs.size)) (EP X pins σ Q) X.xe { s3 with heap := s3.heap.push { cls := .type "slice", data := .fields #[vl, vu, .none] } }
  exact tail_any (ops := [.ref s3.heap.objs.size, v]) ht hT hg (by with_unfolding_all rfl)

noncomputable def cutV (xs : List V) (lo hi : Option Int) : List V := (xs.drop (HT.sIx xs.length 0 lo)).take (HT.sIx xs.length xs.length hi - HT.sIx xs.length 0 lo)
theorem cutV_length (xs : List V) (lo hi : Option Int) : (cutV xs lo hi).length ≤ xs.length := by
  unfold cutV
  rw [List.length_take, List.length_drop]
  omega
noncomputable def rSlT (K : PySem.W.Frag) : V → Option Int → Option Int → Hp → VK → Prop := fun x lo hi H Q => ∃ a xs, x = .ref a ∧ SqT K H a xs ∧
  ¬ (HT.sIx xs.length 0 lo = 0 ∧ HT.sIx xs.length xs.length hi = xs.length) ∧ ∀ p, H p = none → Q (.ref p) (upd H p (.tup (cutV xs lo hi)))
theorem sl_tup : SlR X (rSlT X.K) := by
  intro pins s σ H x v vl vu lo hi sl Q I rx hs pl pu h
  obtain ⟨a, xs, rfl, hx, hw, q⟩ := h
  cases rx
  obtain ⟨its, r, ht, hz⟩ := I.tuple hx
  have hlen : its.toArray.size = xs.length := by rw [List.size_toArray]; exact r.length.symm
  refine ⟨"tuple", _, PyProof.Rows.slot_tuple_getitem.lookup, ht.typeIs, ?_⟩
  refine HT.getItem_tuple_cut ht hs pl pu (by rw [hlen]; exact hw) ?_ (by rw [hlen]; exact hz)
  rw [hlen]
  refine ⟨.ref s.heap.objs.size, _, I.laid (t' := s.toks) (o := .tup (cutV xs lo hi)) (fun b ob q => Heap.get?_push_of_some _ q) (Nat.le_refl _) ?_, rfl, q _ (I.hok.fresh (Nat.le_refl _))⟩
  exact ⟨Nat.le_trans (cutV_length xs lo hi) hz, _, (r.drop (HT.sIx xs.length 0 lo)).take (HT.sIx xs.length xs.length hi - HT.sIx xs.length 0 lo), IsTup.new _ _⟩

noncomputable def rCatT (K : PySem.W.Frag) : R2 := fun x y H Q => ∃ a b xs ys, x = .ref a ∧ y = .ref b ∧ SqT K H a xs ∧ SqT K H b ys ∧ xs ≠ [] ∧ xs.length + ys.length ≤ sizeLine ∧
  (ys = [] → Q (.ref a) H) ∧ (ys ≠ [] → ∀ p, H p = none → Q (.ref p) (upd H p (.tup (xs ++ ys))))
theorem Vals.nil_iff {xs : List V} {us : List Value} (r : Vals xs us) : us = [] ↔ xs = [] := by
  cases r with
  | nil => simp
  | cons _ _ => simp
theorem op_catT : OpR X (binaryOp .Add) (rCatT X.K) := by
  intro pins s σ H x y v u Q I rx ry h
  obtain ⟨a, b, xs, ys, rfl, rfl, ha, hb, hx, hz, q1, q2⟩ := h
  cases rx
  cases ry
  obtain ⟨its, r1, p1, _⟩ := I.tuple ha
  obtain ⟨its2, r2, p2, _⟩ := I.tuple hb
  refine HT.cat_tup p1 p2 (fun z => hx (r1.nil_iff.mp z)) (fun z => ⟨.ref a, H, I, rfl, q1 (r2.nil_iff.mp z)⟩) (fun z => ?_) (by rw [← r1.length, ← r2.length]; exact hz)
  refine ⟨.ref s.heap.objs.size, _, I.laid (t' := s.toks) (o := .tup (xs ++ ys)) (fun b ob q => Heap.get?_push_of_some _ q) (Nat.le_refl _) ?_, rfl, q2 (fun w => z (r2.nil_iff.mpr w)) _ (I.hok.fresh (Nat.le_refl _))⟩
  exact ⟨by rw [List.length_append]; exact hz, _, r1.append r2, IsTup.new _ _⟩
end
end L2

namespace L2
open PySem PySem.Spec PyProof.Rows

noncomputable def ixN (n : Nat) (i : Int) : Option Nat := if 0 ≤ i then (if i < n then some i.toNat else none) else if -(n : Int) ≤ i then some (i + n).toNat else none
noncomputable def atI {α : Type} (xs : List α) (i : Int) : Option α := (ixN xs.length i).bind fun j => xs[j]?
theorem ixN_seq {n : Nat} {i : Int} {j : Nat} (h : ixN n i = some j) : seqIndex? i n = some j ∧ j < n ∧ -(n : Int) ≤ i ∧ i < n := by
  unfold ixN at h
  by_cases h0 : 0 ≤ i
  · rw [if_pos h0] at h
    by_cases h1 : i < n
    · rw [if_pos h1] at h
      have e : i.toNat = j := Option.some.inj h
      exact ⟨by rw [seqIndex_of h0 h1, e], by omega, by omega, h1⟩
    · rw [if_neg h1] at h; cases h
  · rw [if_neg h0] at h
    by_cases h1 : -(n : Int) ≤ i
    · rw [if_pos h1] at h
      have e : (i + n).toNat = j := Option.some.inj h
      exact ⟨by rw [seqIndex_neg (by omega) h1, e], by omega, h1, by omega⟩
    · rw [if_neg h1] at h; cases h
theorem atI_get {α : Type} {xs : List α} {i : Int} {v : α} (h : atI xs i = some v) : ∃ j, seqIndex? i xs.length = some j ∧ xs[j]? = some v ∧ j < xs.length ∧ -(xs.length : Int) ≤ i ∧ i < xs.length := by
  unfold atI at h
  cases e : ixN xs.length i with
  | none => rw [e] at h; cases h
  | some j =>
    rw [e] at h
    obtain ⟨h1, h2, h3, h4⟩ := ixN_seq e
    exact ⟨j, h1, h, h2, h3, h4⟩
theorem atI_nat {α : Type} {xs : List α} {j : Nat} {v : α} (h : xs[j]? = some v) : atI xs (j : Int) = some v := by
  have hj : j < xs.length := (List.getElem?_eq_some_iff.mp h).1
  have e : ixN xs.length (j : Int) = some j := by
    unfold ixN
    rw [if_pos (by omega), if_pos (by omega)]; simp
  unfold atI; rw [e]; exact h
noncomputable def PlainIx (b : Expr) : Prop := ∀ o i, subscripted b false o i = operate [o, i] (getItem o i)
noncomputable def IxR (X : Cx) (r : R2) : Prop :=
  ∀ (value slice : Expr) (pins : List (Addr × Obj)) (s : Shared) (σ : St) (H : Hp) (x y : V) (v u : Value) (Q : VK), Inv X pins σ H s → RelV x v → RelV y u → r x y H Q →
    subscripted slice false v u = operate [v, u] (getItem v u) → wpAny (model X.prog X.w) X.A (subscriptTail value slice v u) (EP X pins σ Q) X.xe s
noncomputable def MtR (X : Cx) (id : String) (r : V → List V → Hp → VK → Prop) : Prop :=
  ∀ (pins : List (Addr × Obj)) (s : Shared) (σ : St) (H : Hp) (x : V) (xs : List V) (v : Value) (us : List Value) (Q : VK), Inv X pins σ H s → RelV x v → Vals xs us → r x xs H Q →
    wpAny (model X.prog X.w) X.A (call (.builtin id) (v :: us)) (EP X pins σ Q) X.xe s
section
variable {X : Cx} {a b : Expr} {ta tb : TE} {pos : Pos}
theorem pe_ix {r : R2} (hr : IxR X r) (ha : PE X a ta) (hb : PE X b tb) (hs : PlainIx b) : PE X (.Subscript a b pos) (tOp r ta tb) := by
  intro pins s σ H Q I h
  exact Subscript_ (binT ha hb I h fun v u s2 x y H2 I2 rx ry q => hr a b pins s2 σ H2 x y v u Q I2 rx ry q (hs _ _))

noncomputable def rIxL (K : PySem.W.Frag) : R2 := fun x y H Q => ∃ p xs i v, x = .ref p ∧ y = .int i ∧ SqL K H p xs ∧ atI xs i = some v ∧ Q v H
noncomputable def rIxT (K : PySem.W.Frag) : R2 := fun x y H Q => ∃ p xs i v, x = .ref p ∧ y = .int i ∧ SqT K H p xs ∧ atI xs i = some v ∧ Q v H
theorem ix_list : IxR X (rIxL X.K) := by
  intro value slice pins s σ H x y v u Q I rx ry h hs
  obtain ⟨p, xs, i, z, rfl, rfl, hq, he, q⟩ := h
  cases rx
  obtain ⟨t, rfl⟩ := ry
  obtain ⟨its, r, pl, hz⟩ := I.list hq
  obtain ⟨j, h1, h2, h3, h4, h5⟩ := atI_get he
  obtain ⟨w, ew, rw'⟩ := r.get h2
  have hl := r.length
  have hn := line63
  have fin : EP X pins σ Q w s := ⟨z, H, I, rw', q⟩
  by_cases h0 : 0 ≤ i
  · have hj : i.toNat = j := by
      rw [seqIndex_of h0 h5] at h1
      exact Option.some.inj h1
    exact item_listR pl.isList h0 (by omega) (by rw [hj]; simpa using ew) fin hs
  · have hj : (i + (its.toArray.size : Int)).toNat = j := by
      rw [seqIndex_neg (by omega) h4] at h1
      rw [List.size_toArray, ← hl]
      exact Option.some.inj h1
    exact subscriptTail_builtinR (x := w) pl.isList.typeIs slot_list_getitem.lookup
      (wpAny_getItem_list_neg (Q := fun r s' => r = w ∧ EP X pins σ Q r s') pl.isList (by omega) (by rw [List.size_toArray] <;> omega) (by omega) (by rw [hj]; simpa using ew) ⟨rfl, fin⟩) hs
theorem ix_tup : IxR X (rIxT X.K) := by
  intro value slice pins s σ H x y v u Q I rx ry h hs
  obtain ⟨p, xs, i, z, rfl, rfl, hq, he, q⟩ := h
  cases rx
  obtain ⟨t, rfl⟩ := ry
  obtain ⟨its, r, pl, hz⟩ := I.tuple hq
  obtain ⟨j, h1, h2, h3, h4, h5⟩ := atI_get he
  obtain ⟨w, ew, rw'⟩ := r.get h2
  have hl := r.length
  have hn := line63
  have fin : EP X pins σ Q w s := ⟨z, H, I, rw', q⟩
  exact subscriptTail_builtinR (x := w) pl.typeIs slot_tuple_getitem.lookup
    (getItem_tuple (j := j) (Q := fun r s' => r = w ∧ EP X pins σ Q r s') pl (by omega) (by omega) (by rw [List.size_toArray, ← hl]; exact h1) (by simpa using ew) ⟨rfl, fin⟩) hs
theorem mapSeq_set (its : List Value) (n j : Nat) (u : Value) : Obj.mapSeq (·.setIfInBounds j u) { cls := .type "list", data := .seq its.toArray n } = { cls := .type "list", data := .seq (its.set j u).toArray n } := by
  simp [Obj.mapSeq]
theorem Inv.lst {pins : List (Addr × Obj)} {σ : St} {H : Hp} {s : Shared} {p : Addr} {xs : List V} (I : Inv X pins σ H s) (h : H p = some (.lst xs)) :
    ∃ (its : List Value) (n : Nat), Vals xs its ∧ s.heap.get? p = some { cls := .type "list", data := .seq its.toArray n } ∧ xs.length ≤ sizeLine := by
  obtain ⟨z, its, n, r, e⟩ := I.hok p _ h
  exact ⟨its, n, r, e, z⟩
theorem Inv.lstUpd {pins : List (Addr × Obj)} {σ : St} {H : Hp} {s : Shared} {p : Addr} {xs ys : List V} {its its' : List Value} {n n' : Nat} {f : Obj → Obj} (I : Inv X pins σ H s) (h : H p = some (.lst xs))
    (ho : s.heap.get? p = some { cls := .type "list", data := .seq its.toArray n }) (hf : f { cls := .type "list", data := .seq its.toArray n } = { cls := .type "list", data := .seq its'.toArray n' }) (r : Vals ys its') (hz : ys.length ≤ sizeLine) (t : Nat) :
    Inv X pins σ (upd H p (.lst ys)) { s with heap := s.heap.update p f, toks := t } := by
  have e : (s.heap.update p f).get? p = some { cls := .type "list", data := .seq its'.toArray n' } := by
    rw [Heap.get?_update_self f ho (by rw [hf] <;> rfl), hf]
  refine I.write (x := p) (e := p) (by rw [h]; trivial) (.inl rfl) (fun b u hb q => (Heap.get?_update_other _ _ (Ne.symm hb)).trans q) ⟨_, e⟩ ?_
  exact ⟨hz, its', n', r, e⟩
noncomputable def rSetL : V → V → V → Hp → (Hp → Prop) → Prop := fun o i v H Q => ∃ p xs k j, o = .ref p ∧ i = .int k ∧ H p = some (.lst xs) ∧ ixN xs.length k = some j ∧ Q (upd H p (.lst (xs.set j v)))
theorem set_list : PSet X rSetL := by
  intro pins s σ H o i v ov iv u Q I ro ri rv h
  obtain ⟨p, xs, k, j, rfl, rfl, hp, hj, q⟩ := h
  cases ro
  obtain ⟨t, rfl⟩ := ri
  obtain ⟨its, n, r, ho, hz⟩ := I.lst hp
  obtain ⟨h1, h2, h3, h4⟩ := ixN_seq hj
  have hl := r.length
  have hn := line63
  have I' : Inv X pins σ (upd H p (.lst (xs.set j v))) { s with heap := s.heap.update p (Obj.mapSeq (·.setIfInBounds j u)) } :=
    I.lstUpd hp ho (mapSeq_set its n j u) (r.set rv j) (by rw [List.length_set]; exact hz) s.toks
  by_cases h0 : 0 ≤ k
  · have hk : k.toNat = j := by
      rw [seqIndex_of h0 h4] at h1
      exact Option.some.inj h1
    exact PySem.W.ki_setAt ho h0 (by omega) (by rw [List.size_toArray, ← hl]; exact h4) (by rw [hk]; exact ⟨_, I', q⟩)
  · have hk : (k + (its.toArray.size : Int)).toNat = j := by
      rw [seqIndex_neg (by omega) h3] at h1
      rw [List.size_toArray, ← hl]
      exact Option.some.inj h1
    exact PySem.W.ki_setBack ho (by omega) (by rw [List.size_toArray, ← hl]; exact h3) (by omega) (by rw [hk]; exact ⟨_, I', q⟩)

theorem slice_bounds (lo hi : Option Int) (n : Nat) : (sliceBounds lo hi none n).1 = ((HT.sIx n 0 lo : Nat) : Int) ∧ (sliceBounds lo hi none n).2.1 = ((HT.sIx n n hi : Nat) : Int) ∧ (sliceBounds lo hi none n).2.2 = 1 := by
  refine ⟨?_, ?_, rfl⟩
  · cases lo with
    | none => simp [sliceBounds, HT.sIx]
    | some i =>
      simp only [sliceBounds, HT.sIx, Option.getD_none, show (1 : Int) > 0 by decide, if_true]
      by_cases h : i < 0
      · simp only [h, if_true] <;> omega
      · simp only [h, if_false] <;> omega
  · cases hi with
    | none => simp [sliceBounds, HT.sIx]
    | some i =>
      simp only [sliceBounds, HT.sIx, Option.getD_none, show (1 : Int) > 0 by decide, if_true]
      by_cases h : i < 0
      · simp only [h, if_true] <;> omega
      · simp only [h, if_false] <;> omega
theorem slicePick_cut (its : List Value) (lo hi : Option Int) : slicePick its.toArray lo hi none = ((its.drop (HT.sIx its.length 0 lo)).take (HT.sIx its.length its.length hi - HT.sIx its.length 0 lo)).toArray := by
  obtain ⟨h1, h2, h3⟩ := slice_bounds lo hi its.toArray.size
  unfold slicePick
  rw [h1, h2, h3]
  simp only [sliceRange_one, pick_run, List.size_toArray] <;> rfl
noncomputable def rSlL (K : PySem.W.Frag) : V → Option Int → Option Int → Hp → VK → Prop := fun x lo hi H Q => ∃ a xs, x = .ref a ∧ SqL K H a xs ∧ ∀ p, H p = none → Q (.ref p) (upd H p (.lst (cutV xs lo hi)))
theorem sl_list : SlR X (rSlL X.K) := by
  intro pins s σ H x v vl vu lo hi sl Q I rx hs pl pu h
  obtain ⟨a, xs, rfl, hx, q⟩ := h
  cases rx
  obtain ⟨its, r, ht, hz⟩ := I.list hx
  have hlen := r.length
  refine ⟨"list", _, slot_list_getitem.lookup, ht.isList.typeIs, ?_⟩
  refine wpAny_getItem_list_slice ht.isList hs pl pu .none (by simp) ?_ (by rw [List.size_toArray] <;> omega)
  rw [slicePick_cut, ← hlen]
  refine ⟨.ref s.heap.objs.size, _, I.laid (t' := s.toks) (o := .lst (cutV xs lo hi)) (fun b ob q => Heap.get?_push_of_some _ q) (Nat.le_refl _) ?_, rfl, q _ (I.hok.fresh (Nat.le_refl _))⟩
  exact ⟨Nat.le_trans (cutV_length xs lo hi) hz, _, 0, (r.drop (HT.sIx xs.length 0 lo)).take (HT.sIx xs.length xs.length hi - HT.sIx xs.length 0 lo), Heap.get?_push_size _ rfl⟩

noncomputable def flatV : V → Bool
  | .non => true
  | .bl _ => true
  | .int _ => true
  | .str _ => true
  | _ => false
noncomputable def eqV : V → V → Bool
  | .non, .non => true
  | .bl a, .bl b => a == b
  | .bl a, .int b => (if a then 1 else 0) == b
  | .int a, .bl b => a == (if b then 1 else 0)
  | .int a, .int b => a == b
  | .str a, .str b => a == b
  | _, _ => false
theorem eqAt_V {A : Around} {s : Shared} {y x : V} {u v : Value} (ry : RelV y u) (rx : RelV x v) (fy : flatV y = true) (fx : flatV x = true) : SeqAt.EqAt A s u v (eqV y x) := by
  cases y with
  | non =>
    cases ry
    cases x with
    | non => cases rx; exact SeqAt.EqAt.same _
    | bl b => cases rx; exact SeqAt.EqAt.none_bool b
    | int b => obtain ⟨t, rfl⟩ := rx; exact SeqAt.EqAt.none_int b t
    | str b => obtain ⟨t, rfl⟩ := rx; exact SeqAt.EqAt.none_str b t
    | _ => exact absurd (show false = true from fx) Bool.false_ne_true
  | bl a =>
    cases ry
    cases x with
    | non => cases rx; exact SeqAt.EqAt.bool_none a
    | bl b => cases rx; exact SeqAt.EqAt.bool_bool a b
    | int b => obtain ⟨t, rfl⟩ := rx; exact SeqAt.EqAt.bool_int a b t
    | str b => obtain ⟨t, rfl⟩ := rx; exact SeqAt.EqAt.bool_str a b t
    | _ => exact absurd (show false = true from fx) Bool.false_ne_true
  | int a =>
    obtain ⟨t', rfl⟩ := ry
    cases x with
    | non => cases rx; exact SeqAt.EqAt.int_none a t'
    | bl b => cases rx; exact SeqAt.EqAt.int_bool a t' b
    | int b => obtain ⟨t, rfl⟩ := rx; exact SeqAt.EqAt.int_int a t' b t
    | str b => obtain ⟨t, rfl⟩ := rx; exact SeqAt.EqAt.int_str a t' b t
    | _ => exact absurd (show false = true from fx) Bool.false_ne_true
  | str a =>
    obtain ⟨t', rfl⟩ := ry
    cases x with
    | non => cases rx; exact SeqAt.EqAt.str_none a t'
    | bl b => cases rx; exact SeqAt.EqAt.str_bool a t' b
    | int b => obtain ⟨t, rfl⟩ := rx; exact SeqAt.EqAt.str_int a t' b t
    | str b => obtain ⟨t, rfl⟩ := rx; exact SeqAt.EqAt.str_str a t' b t
    | _ => exact absurd (show false = true from fx) Bool.false_ne_true
  | _ => exact absurd (show false = true from fy) Bool.false_ne_true
noncomputable def eqU (x : V) (u : Value) : Bool := match u with
  | .none => eqV .non x
  | .bool b => eqV (.bl b) x
  | .int i _ => eqV (.int i) x
  | .str z _ => eqV (.str z) x
  | _ => false
theorem eqU_of {x y : V} {u : Value} (r : RelV y u) (f : flatV y = true) : eqU x u = eqV y x := by
  cases y with
  | non => cases r; rfl
  | bl b => cases r; rfl
  | int i => obtain ⟨t, rfl⟩ := r; rfl
  | str z => obtain ⟨t, rfl⟩ := r; rfl
  | _ => exact absurd (show false = true from f) Bool.false_ne_true
theorem any_eqU {x : V} : ∀ {xs : List V} {us : List Value}, Vals xs us → xs.all flatV = true → us.any (eqU x) = xs.any fun y => eqV y x
  | _, _, .nil, _ => rfl
  | y :: xs, u :: us, .cons r t, f => by
    rw [List.all_cons, Bool.and_eq_true] at f
    rw [List.any_cons, List.any_cons, eqU_of r f.1, any_eqU t f.2]
theorem mem_eqAt {A : Around} {s : Shared} {x : V} {v : Value} (rx : RelV x v) (fx : flatV x = true) : ∀ {xs : List V} {us : List Value}, Vals xs us → xs.all flatV = true → ∀ u ∈ us, SeqAt.EqAt A s u v (eqU x u)
  | _, _, .nil, _ => fun u hu => by cases hu
  | y :: xs, u :: us, .cons r t, f => fun u' hu => by
    rw [List.all_cons, Bool.and_eq_true] at f
    rcases List.mem_cons.mp hu with rfl | hu
    · rw [eqU_of r f.1]; exact eqAt_V r rx f.1 fx
    · exact mem_eqAt rx fx t f.2 u' hu
noncomputable def inV (x : V) (xs : List V) : Bool := xs.any fun y => eqV y x
noncomputable def rIn (K : PySem.W.Frag) (neg : Bool) : R2 := fun x y H Q => ∃ p xs, y = .ref p ∧ (SqL K H p xs ∨ SqT K H p xs) ∧ flatV x = true ∧ xs.all flatV = true ∧ Q (.bl (if neg then !inV x xs else inV x xs)) H
theorem op_in_seq : OpR X (compareOp .In) (rIn X.K false) := by
  intro pins s σ H x y v u Q I rx ry h
  obtain ⟨p, xs, rfl, hq, fx, fs, q⟩ := h
  cases ry
  rcases hq with hq | hq
  · obtain ⟨its, r, pl, hz⟩ := I.list hq
    refine SeqAt.in_listAt (eqU x) pl.isList (fun w hw => mem_eqAt rx fx r fs w (by simpa using hw)) ⟨.bl _, H, I, rfl, ?_⟩
    rw [show its.toArray.any (eqU x) = its.any (eqU x) by simp, any_eqU r fs]
    exact q
  · obtain ⟨its, r, pl, hz⟩ := I.tuple hq
    refine SeqAt.in_tupleAt (eqU x) pl (fun w hw => mem_eqAt rx fx r fs w (by simpa using hw)) ⟨.bl _, H, I, rfl, ?_⟩
    rw [show its.toArray.any (eqU x) = its.any (eqU x) by simp, any_eqU r fs]
    exact q
theorem op_notIn_seq : OpR X (compareOp .NotIn) (rIn X.K true) := by
  intro pins s σ H x y v u Q I rx ry h
  obtain ⟨p, xs, rfl, hq, fx, fs, q⟩ := h
  cases ry
  rcases hq with hq | hq
  · obtain ⟨its, r, pl, hz⟩ := I.list hq
    refine SeqAt.notIn_listAt (eqU x) pl.isList (fun w hw => mem_eqAt rx fx r fs w (by simpa using hw)) ⟨.bl _, H, I, rfl, ?_⟩
    rw [show its.toArray.any (eqU x) = its.any (eqU x) by simp, any_eqU r fs]
    exact q
  · obtain ⟨its, r, pl, hz⟩ := I.tuple hq
    refine SeqAt.notIn_tupleAt (eqU x) pl (fun w hw => mem_eqAt rx fx r fs w (by simpa using hw)) ⟨.bl _, H, I, rfl, ?_⟩
    rw [show its.toArray.any (eqU x) = its.any (eqU x) by simp, any_eqU r fs]
    exact q
theorem call_len_seq : CallR X (.builtin "len") (fun xs H Q => ∃ p ys, xs = [.ref p] ∧ (SqL X.K H p ys ∨ SqT X.K H p ys) ∧ Q (.int ys.length) H) := by
  intro pins s σ H xs us Q I r h
  obtain ⟨p, ys, rfl, hq, q⟩ := h
  obtain ⟨u, rfl, rx⟩ := vals1 r
  cases rx
  have hn := line63
  rcases hq with hq | hq
  · obtain ⟨its, r', pl, hz⟩ := I.list hq
    have hlen := r'.length
    exact Calls.call_len_list pl.isList (by simp only [List.size_toArray] <;> omega) ⟨.int ys.length, H, I.tok _, ⟨s.toks + 1, by rw [List.size_toArray, hlen]⟩, q⟩
  · obtain ⟨its, r', pl, hz⟩ := I.tuple hq
    have hlen := r'.length
    exact len_tuple pl (by simp only [List.size_toArray] <;> omega) ⟨.int ys.length, H, I.tok _, ⟨s.toks + 1, by rw [List.size_toArray, hlen]⟩, q⟩
theorem call_list_of : CallR X (.type "list") (fun xs H Q => ∃ p ys, xs = [.ref p] ∧ (SqL X.K H p ys ∨ SqT X.K H p ys) ∧ ∀ l, H l = none → Q (.ref l) (upd H l (.lst ys))) := by
  intro pins s σ H xs us Q I r h
  obtain ⟨p, ys, rfl, hq, q⟩ := h
  obtain ⟨u, rfl, rx⟩ := vals1 r
  cases rx
  have fin : ∀ (its : List Value), Vals ys its → ys.length ≤ sizeLine → ∀ (h' : Heap) (c' : Nat), (∀ b o', s.heap.get? b = some o' → h'.get? b = some o') →
      h'.get? s.heap.objs.size = some { cls := .type "list", dict := none, data := .seq its.toArray c', slots := #[] } → EP X pins σ Q (.ref s.heap.objs.size) { s with heap := h' } := fun its r' hz h' c' kp e =>
    ⟨.ref s.heap.objs.size, _, I.laid (t' := s.toks) kp (Nat.le_refl _) (show ObjOk X.prog X.w _ h' _ (.lst ys) from ⟨hz, its, c', r', e⟩), rfl, q _ (I.hok.fresh (Nat.le_refl _))⟩
  rcases hq with hq | hq
  · obtain ⟨its, r', pl, hz⟩ := I.list hq
    have hlen := r'.length
    obtain ⟨o, ho, hc, n, hd⟩ := pl.isList
    exact call_list_seq p (.inl rfl) ho hc hd (fun h' c' kp e => fin its r' hz h' c' kp e) (by simp only [List.size_toArray] <;> omega)
  · obtain ⟨its, r', pl, hz⟩ := I.tuple hq
    have hlen := r'.length
    obtain ⟨o, ho, hc, n, hd⟩ := pl
    exact call_list_seq p (.inr rfl) ho hc hd (fun h' c' kp e => fin its r' hz h' c' kp e) (by simp only [List.size_toArray] <;> omega)
theorem call_tuple_of : CallR X (.type "tuple") (fun xs H Q => ∃ p ys, xs = [.ref p] ∧ ((SqL X.K H p ys ∧ ∀ l, H l = none → Q (.ref l) (upd H l (.tup ys))) ∨ (SqT X.K H p ys ∧ Q (.ref p) H))) := by
  intro pins s σ H xs us Q I r h
  obtain ⟨p, ys, rfl, h⟩ := h
  obtain ⟨u, rfl, rx⟩ := vals1 r
  cases rx
  rcases h with ⟨hq, q⟩ | ⟨hq, q⟩
  · obtain ⟨its, r', pl, hz⟩ := I.list hq
    have hlen := r'.length
    refine call_tuple_list pl.isList (fun h' kp => ?_) (by simp only [List.size_toArray] <;> omega)
    have I1 : Inv X pins σ H { s with heap := h' } := I.kept (t' := s.toks) kp
    have I2 : Inv X pins σ (upd H h'.objs.size (.tup ys)) { s with heap := h'.push { cls := .type "tuple", data := .seq its.toArray } } :=
      I1.laid (t' := s.toks) (fun b o e => Heap.get?_push_of_some _ e) (Nat.le_refl _) (show ObjOk X.prog X.w _ _ _ (.tup ys) from ⟨hz, its, r', IsTup.new _ _⟩)
    exact ⟨.ref h'.objs.size, _, I2, rfl, q _ (I1.hok.fresh (Nat.le_refl _))⟩
  · obtain ⟨its, r', pl, hz⟩ := I.tuple hq
    exact call_tuple_same pl ⟨.ref p, H, I, rfl, q⟩

noncomputable def tyV (K : PySem.W.Frag) (T : String) (x : V) (H : Hp) : Prop := match x with
  | .str _ => T = "str"
  | .int _ => T = "int"
  | .ref p => (T = "list" ∧ ∃ xs, SqL K H p xs) ∨ (T = "tuple" ∧ ∃ o, K.lookup p = some o ∧ o.cls = .type "tuple" ∧ o.dict = none) ∨
      (T = "dict" ∧ ((∃ kvs, H p = some (.dK kvs)) ∨ ∃ kvs, H p = some (.dT kvs))) ∨ (T = "set" ∧ ∃ S n, H p = some (.set S n))
  | _ => False
theorem tyV_is {pins : List (Addr × Obj)} {σ : St} {H : Hp} {s : Shared} {T : String} {x : V} {v : Value} (I : Inv X pins σ H s) (r : RelV x v) (ty : tyV X.K T x H) :
    s.TypeIs v T ∧ ∀ a, v = .ref a → ∃ ob, s.heap.get? a = some ob ∧ ob.dict = none := by
  cases x with
  | str z =>
    obtain ⟨t, rfl⟩ := r
    cases (show T = "str" from ty)
    exact ⟨typeIs_str s z t, fun _ e => nomatch e⟩
  | int i =>
    obtain ⟨t, rfl⟩ := r
    cases (show T = "int" from ty)
    exact ⟨typeIs_int s i t, fun _ e => nomatch e⟩
  | ref p =>
    cases r
    rcases ty with ⟨rfl, xs, hq⟩ | ⟨rfl, o, hk, hc, hd⟩ | ⟨rfl, hk⟩ | ⟨rfl, S, n, hk⟩
    · obtain ⟨its, _, pl, _⟩ := I.list hq
      refine ⟨pl.isList.typeIs, fun a e => ?_⟩
      cases e
      obtain ⟨o, n, e, c, hd, _⟩ := pl
      exact ⟨o, e, hd⟩
    · refine ⟨⟨o, I.kIn p o hk, hc⟩, fun a e => ?_⟩
      cases e
      exact ⟨o, I.kIn _ o hk, hd⟩
    · have z : ∃ o, s.heap.get? p = some o ∧ o.ExactDict := by
        rcases hk with ⟨kvs, hk⟩ | ⟨kvs, hk⟩
        · obtain ⟨_, _, _, _, o, _, _, e, ex, _⟩ := I.hok p _ hk
          exact ⟨o, e, ex⟩
        · obtain ⟨_, _, _, _, o, _, _, e, ex, _⟩ := I.hok p _ hk
          exact ⟨o, e, ex⟩
      obtain ⟨o, e, ex⟩ := z
      refine ⟨⟨o, e, ex.1⟩, fun a e2 => ?_⟩
      cases e2
      exact ⟨o, e, ex.2.1⟩
    · obtain ⟨o, _, _, _, e, ex, _⟩ := I.hok p _ hk
      refine ⟨⟨o, e, ex.1⟩, fun a e2 => ?_⟩
      cases e2
      exact ⟨o, e, ex.2.1⟩
  | _ => exact False.elim ty
noncomputable def tBM (K : PySem.W.Frag) (T : String) (r : V → List V → Hp → VK → Prop) (to : TE) (t : TA) : TE := fun σ H Q => to σ H fun x H1 => tyV K T x H1 ∧ t σ H1 fun xs H2 => r x xs H2 Q
variable {o e : Expr} {es : List Expr} {to : TE} {t : TA} {name : Str} {apos cpos : Pos} {T id : String} {r : V → List V → Hp → VK → Prop}
theorem pe_bm (pa : PlainAttrs T) (slot : Slot T name id) (hty : typeOf (.builtin id) = pure (.type "method_descriptor")) (hm : MtR X id r) (ho : PE X o to) (ha : PA X (e :: es) t)
    (hbase : attributeBase o name X.env (eval o X.env) = eval o X.env := by rfl)
    (hfew : ((backTo cpos (starEach (e :: es) X.env)).all (fun x => !x.1) && (backToKw cpos (keywordEach [] X.env)).all (fun x => x.1.isSome)
      && decide ((e :: es).length + ([] : List Keyword).length + (if ([] : List Keyword).isEmpty then 0 else 1) < 30)) = true := by rfl)
    (hline : (apos.endLine == cpos.line) = true := by rfl) (hs : starEach (e :: es) X.env = (false, eval e X.env) :: starEach es X.env := by rfl) (hplain : (backTo cpos (starEach es X.env)).any (·.1) = false := by rfl) :
    PE X (.Call (.Attribute o name apos) (e :: es) [] cpos) (tBM X.K T r to t) := by
  intro pins s σ H Q I h
  refine wpAny_Call_method_late hbase hfew hline rfl (thn (ho pins s σ H _ I h) fun v s1 ⟨x, H1, I1, r1, ty, q1⟩ => ?_)
  obtain ⟨h1, h2⟩ := tyV_is I1 r1 ty
  refine ⟨T, id, pa, slot, hty, h1, h2, ?_⟩
  have hA := ha cpos pins s1 σ H1 _ I1 q1
  rw [hs] at hA ⊢
  refine Calls.callWith_builtin (by show (false || (backTo cpos (starEach es X.env)).any (·.1)) = false; rw [hplain] <;> rfl) (Calls.evalArgs_plain ?_)
  exact thn hA fun us s2 ⟨vs, H2, I2, r2, q2⟩ => hm pins s2 σ H2 x vs v us Q I2 r1 r2 q2
/- xs.append(e), list.index on a module's tuple .. are MtR facts of 06m -/
end
end L2

namespace L2
open PySem PySem.Spec PyProof.Rows

noncomputable def MtM (X : Cx) (id : String) (r : V → List V → Hp → VK → Prop) : Prop :=
  ∀ (pins : List (Addr × Obj)) (s : Shared) (σ : St) (H : Hp) (x : V) (xs : List V) (v : Value) (us : List Value) (Q : VK), Inv X pins σ H s → RelV x v → Vals xs us → r x xs H Q →
    wpAny (model X.prog X.w) X.A (call (.builtin id) (v :: us)) (EP X pins σ Q) X.xe s

theorem Vals.one : ∀ {x : V} {us : List Value}, Vals [x] us → ∃ u, us = [u] ∧ RelV x u
  | _, _, .cons r .nil => ⟨_, rfl, r⟩
theorem Vals.eraseIdx : ∀ {xs : List V} {us : List Value} (i : Nat), Vals xs us → Vals (xs.eraseIdx i) (us.eraseIdx i)
  | _, _, _, .nil => .nil
  | _, _, 0, .cons _ t => t
  | _, _, i + 1, .cons r t => .cons r (Vals.eraseIdx i t)
theorem Vals.rep {xs : List V} {us : List Value} (h : Vals xs us) : ∀ k : Nat, Vals (List.replicate k xs).flatten (List.replicate k us).flatten
  | 0 => .nil
  | k + 1 => by
    rw [List.replicate_succ, List.replicate_succ, List.flatten_cons, List.flatten_cons]
    exact Vals.append h (Vals.rep h k)
theorem len_erase {α : Type} : ∀ (l : List α) (i : Nat), (l.eraseIdx i).length ≤ l.length
  | [], _ => Nat.le_refl _
  | _ :: _, 0 => Nat.le_succ _
  | _ :: r, i + 1 => Nat.succ_le_succ (len_erase r i)
theorem foldl_rep (its : List Value) : ∀ (k : Nat) (acc : List Value),
    List.foldl (fun x1 x2 => x1 ++ x2) acc.toArray (List.replicate k its.toArray) = (acc ++ (List.replicate k its).flatten).toArray
  | 0, acc => by simp
  | k + 1, acc => by
    have e : acc.toArray ++ its.toArray = (acc ++ its).toArray := by simp
    have e2 : (acc ++ its) ++ (List.replicate k its).flatten = acc ++ (List.replicate (k + 1) its).flatten := by
      rw [List.replicate_succ, List.flatten_cons, List.append_assoc]
    rw [← e2, ← foldl_rep its k (acc ++ its), ← e, List.replicate_succ, List.foldl_cons]

section
variable {X : Cx} {pins : List (Addr × Obj)} {σ : St} {H : Hp} {s : Shared} {l b : Addr} {xs ys zs : List V}

theorem Inv.lset {its its' : List Value} {n : Nat} {f : Array Value → Array Value} {t' : Nat} (I : Inv X pins σ H s) (hH : H l = some (.lst xs))
    (e : s.heap.get? l = some { cls := .type "list", data := .seq its.toArray n }) (hf : f its.toArray = its'.toArray) (hv : Vals ys its') (hz : ys.length ≤ sizeLine) :
    Inv X pins σ (upd H l (.lst ys)) { s with heap := s.heap.update l (Obj.mapSeq f), toks := t' } := by
  have q := PySem.IsL.update e f
  rw [hf] at q
  refine I.write (x := l) (e := l) (by rw [hH]; exact trivial) (.inl rfl) (fun b' u hb hu => (Heap.get?_update_other s.heap (Obj.mapSeq f) (Ne.symm hb)).trans hu) ⟨_, q⟩ ?_
  exact ⟨hz, its', _, hv, q⟩
theorem Inv.lnew {its : List Value} {t' : Nat} (I : Inv X pins σ H s) (hv : Vals ys its) (hz : ys.length ≤ sizeLine) :
    Inv X pins σ (upd H s.heap.objs.size (.lst ys)) { s with heap := s.heap.push { cls := .type "list", data := .seq its.toArray }, toks := t' } :=
  I.laid (fun _ _ q => Heap.get?_push_of_some _ q) (Nat.le_refl _) ⟨hz, its, 0, hv, Heap.get?_push_size _ rfl⟩
theorem Inv.fresh (I : Inv X pins σ H s) : H s.heap.objs.size = none := I.hok.fresh (Nat.le_refl _)
theorem Inv.lstM (I : Inv X pins σ H s) (hH : H l = some (.lst xs)) : xs.length ≤ sizeLine ∧ ∃ (its : List Value) (n : Nat), Vals xs its ∧ xs.length = its.length ∧ s.heap.get? l = some { cls := .type "list", data := .seq its.toArray n } := by
  obtain ⟨z, its, n, r, e⟩ := I.hok l _ hH
  exact ⟨z, its, n, r, r.length, e⟩

theorem notLongL {n : Nat} (h : n ≤ sizeLine) : Builtin.List.listTooLong n = false := by
  unfold Builtin.List.listTooLong
  exact decide_eq_false (by omega)
end

section
variable {X : Cx}

noncomputable def rAppend : V → List V → Hp → VK → Prop := fun x vs H Q => ∃ l xs y, x = .ref l ∧ vs = [y] ∧ H l = some (.lst xs) ∧ xs.length < sizeLine ∧ Q .non (upd H l (.lst (xs ++ [y])))
theorem mt_append : MtM X "list.append" rAppend := by
  intro pins s σ H x vs v us Q I rx rv h
  obtain ⟨l, xs, y, rfl, rfl, hH, hz, q⟩ := h
  cases rx
  obtain ⟨u, rfl, ru⟩ := rv.one
  obtain ⟨z, its, n, r, hl, e⟩ := I.lstM hH
  refine call_meets F.slot_list_append ⟨_, e, rfl⟩ F.entry_list_append (F.args_list_append_2 _ _) (PySem.list_append l its.toArray n u (by rw [List.size_toArray]; omega)) ⟨e, ?_⟩
  refine ⟨.non, _, I.lset (its' := its ++ [u]) hH e (by simp) (r.append (.cons ru .nil)) ?_, rfl, q⟩
  rw [List.length_append, List.length_singleton]
  omega

noncomputable def rExtend : V → List V → Hp → VK → Prop := fun x vs H Q => ∃ l b xs zs, x = .ref l ∧ vs = [.ref b] ∧ H l = some (.lst xs) ∧ H b = some (.lst zs) ∧ xs.length + zs.length ≤ sizeLine ∧ Q .non (upd H l (.lst (xs ++ zs)))
theorem mt_extend : MtM X "list.extend" rExtend := by
  intro pins s σ H x vs v us Q I rx rv h
  obtain ⟨l, b, xs, zs, rfl, rfl, hH, hB, hz, q⟩ := h
  cases rx
  obtain ⟨u, rfl, ru⟩ := rv.one
  cases ru
  obtain ⟨z, its, n, r, hl, e⟩ := I.lstM hH
  obtain ⟨z2, its2, n2, r2, hl2, e2⟩ := I.lstM hB
  have hsz : its.toArray.size + its2.toArray.size ≤ sizeLine := by rw [List.size_toArray, List.size_toArray]; omega
  have hlong : ¬ (!its.toArray.isEmpty && Builtin.List.listTooLong (its.toArray.size + its2.toArray.size)) = true := by
    rw [notLongL hsz, Bool.and_false]
    exact Bool.false_ne_true
  refine call_meets F.slot_list_extend ⟨_, e, rfl⟩ F.entry_list_extend (F.args_list_extend_2 _ _)
    (AutoSeq1.list_extend_list_list_0 l its.toArray n b its2.toArray n2 hlong (by rw [List.size_toArray]; omega) (by omega)) ⟨e, e2, ?_⟩
  refine ⟨.non, _, I.lset (its' := its ++ its2) hH e (by simp) (r.append r2) ?_, rfl, q⟩
  rw [List.length_append]
  omega

noncomputable def rPopAt : V → List V → Hp → VK → Prop := fun x vs H Q => ∃ l xs i k y, x = .ref l ∧ vs = [.int i] ∧ H l = some (.lst xs) ∧ -(2 ^ 63) ≤ i ∧ i < 2 ^ 63 ∧ seqIndex? i xs.length = some k ∧ xs[k]? = some y ∧ Q y (upd H l (.lst (xs.eraseIdx k)))
theorem mt_popAt : MtM X "list.pop" rPopAt := by
  intro pins s σ H x vs v us Q I rx rv h
  obtain ⟨l, xs, i, k, y, rfl, rfl, hH, h1, h2, hk, hy, q⟩ := h
  cases rx
  obtain ⟨u, rfl, ru⟩ := rv.one
  obtain ⟨t, rfl⟩ := ru
  obtain ⟨z, its, n, r, hl, e⟩ := I.lstM hH
  obtain ⟨w, hw, rw'⟩ := r.get hy
  refine call_meets F.slot_list_pop ⟨_, e, rfl⟩ F.entry_list_pop (F.args_list_pop_2 _ _)
    (MeetsSeq.list_pop_at l its.toArray n i t k w (fitsIndex_both h1 h2) (by rw [List.size_toArray, ← hl]; exact hk) (by rw [← Array.getElem?_toList]; exact hw) (by rw [List.size_toArray]; omega)) ⟨e, ?_⟩
  refine ⟨y, _, I.lset (its' := its.eraseIdx k) hH e ?_ (r.eraseIdx k) ?_, rw', q⟩
  · show its.toArray.eraseIdxIfInBounds k = (its.eraseIdx k).toArray
    rw [List.eraseIdxIfInBounds_toArray]
  · have := len_erase xs k
    omega

noncomputable def rCat : R2 := fun x y H Q => ∃ l b xs zs, x = .ref l ∧ y = .ref b ∧ H l = some (.lst xs) ∧ H b = some (.lst zs) ∧ xs.length + zs.length ≤ sizeLine ∧ ∀ p, H p = none → Q (.ref p) (upd H p (.lst (xs ++ zs)))
theorem op_cat : OpR X (binaryOp .Add) rCat := by
  intro pins s σ H x y v u Q I rx ry h
  obtain ⟨l, b, xs, zs, rfl, rfl, hH, hB, hz, q⟩ := h
  cases rx
  cases ry
  obtain ⟨z, its, n, r, hl, e⟩ := I.lstM hH
  obtain ⟨z2, its2, n2, r2, hl2, e2⟩ := I.lstM hB
  refine PySem.P.add_list e e2 ?_ (by rw [List.size_toArray, List.size_toArray]; omega)
  have ea : its.toArray ++ its2.toArray = (its ++ its2).toArray := by simp
  rw [ea]
  exact ⟨.ref _, _, I.lnew (t' := s.toks) (r.append r2) (by rw [List.length_append]; omega), rfl, q _ I.fresh⟩
noncomputable def rRep : R2 := fun x y H Q => ∃ l k xs, x = .ref l ∧ y = .int k ∧ H l = some (.lst xs) ∧ -(2 ^ 63) ≤ k ∧ k < 2 ^ 63 ∧ xs.length * k.toNat ≤ sizeLine ∧
  ∀ p, H p = none → Q (.ref p) (upd H p (.lst (List.replicate k.toNat xs).flatten))
theorem len_rep {α : Type} (xs : List α) (k : Nat) : (List.replicate k xs).flatten.length = k * xs.length := by
  induction k with
  | zero => simp
  | succ k ih => rw [List.replicate_succ, List.flatten_cons, List.length_append, ih, Nat.succ_mul, Nat.add_comm]
theorem op_rep : OpR X (binaryOp .Mult) rRep := by
  intro pins s σ H x y v u Q I rx ry h
  obtain ⟨l, k, xs, rfl, rfl, hH, h1, h2, hz, q⟩ := h
  cases rx
  obtain ⟨t, rfl⟩ := ry
  obtain ⟨z, its, n, r, hl, e⟩ := I.lstM hH
  have hlen : its.toArray.size * k.toNat ≤ sizeLine := by rw [List.size_toArray, ← hl]; exact hz
  have hcap : ¬ its.toArray.size * k.toNat > (2 ^ 63 - 1) / 8 := by
    have : (sizeLine : Nat) ≤ (2 ^ 63 - 1) / 8 := by decide
    omega
  have hfit : ¬ (!Builtin.List.listFitsIndex k) = true := by
    rw [fitsIndex_both h1 h2]
    exact Bool.false_ne_true
  have hlong : ¬ Builtin.List.listTooLong (its.toArray.size * k.toNat) = true := by
    rw [notLongL hlen]
    exact Bool.false_ne_true
  have hnew : List.foldl (fun x1 x2 => x1 ++ x2) #[] (List.replicate (if its.toArray.isEmpty = true then 0 else k.toNat) its.toArray) = (List.replicate k.toNat its).flatten.toArray := by
    have f0 : ∀ m : Nat, List.foldl (fun x1 x2 => x1 ++ x2) #[] (List.replicate m its.toArray) = (List.replicate m its).flatten.toArray := fun m => by
      have := foldl_rep its m []
      rw [List.nil_append] at this
      exact this
    rw [f0]
    cases its with
    | nil => simp
    | cons a r' => rw [if_neg (by simp)]
  refine wpAny_binaryOp_repeat_ref (T := "list") (U := "int") (by decide) ⟨_, e, rfl⟩ (fun s' => typeIs_int s' k t) noFill_list_mul F.fills_int_mul F.slot_int_rmul repeat_list F.slot_int_index.lookup
    (call_meets F.slot_int_rmul (typeIs_int s k t) F.entry_int_rmul (F.args_int_rmul_2 _ _) (int___rmul___int_list k t l its.toArray n)
      ⟨e, rfl, ⟨_, e, rfl⟩, call_meets F.slot_list_mul ⟨_, e, rfl⟩ F.entry_list_mul (F.args_list_mul_2 _ _) (AutoListH.list___mul___list_int_3 l its.toArray n k t hfit hcap hlong) ⟨e, ?_⟩⟩)
  rw [hnew]
  exact ⟨.ref _, _, I.lnew (t' := s.toks) (r.rep k.toNat) (by rw [len_rep, Nat.mul_comm]; exact hz), rfl, q _ I.fresh⟩

end

section
variable {prog : Program} {w : World} {A : Around} {E : Value → Shared → Prop} {s : Shared}
end

section
variable {X : Cx}
end
end L2

namespace Att
open PySem PySem.W PySem.Calls PyProof.Rows

theorem ints_of_wellAll {P : Params} {h : Heap} : ∀ (ns : List Int) (vs : List Value), WellAll P h vs (ns.map WData.int) → IntsAre vs ns := by
  intro ns
  induction ns with
  | nil =>
    intro vs w
    rw [List.map_nil] at w
    cases w
    exact .nil
  | cons n ns ih =>
    intro vs w
    rw [List.map_cons] at w
    cases w with
    | cons a b =>
      cases a
      exact .cons _ _ (ih _ b)

theorem script_of {l : OpenLaw} {n : Nat} (hn : l.most = some n) {P : Params} {h : Heap} {args : List WData} {vals : List Value}
    (hpre : l.row.toRowW.claim.pre args = true) (hwl : WellAll P h vals args) :
    ∃ a vs ns, vals = [Value.ref a] ∧ args = [WData.list (ns.map WData.int)] ∧ h.get? a = some { cls := .type "list", data := .seq vs.toArray } ∧ IntsAre vs ns ∧ ns.length ≤ n := by
  have hsh : WShape.hasAll [] args [.list .int] = true := (pre_splitW hpre).1
  have hc : l.pre.holds [] { args := args } = true := (pre_splitW hpre).2
  obtain ⟨d, r, rfl, h1, h2⟩ := hasAllW_cons hsh
  obtain rfl := hasAllW_nil h2
  obtain ⟨xs, rfl, h3⟩ := hasW_list h1
  obtain ⟨ns, rfl⟩ := items_int h3
  have hlen : ns.length ≤ n := by
    unfold OpenLaw.pre at hc
    have h4 : (WTm.not (.lt (.lit (.int (n : Int))) (.len (.arg 0)))).holds [] { args := [.list (ns.map .int)] } = true := by
      have h4 := (holds_andW hc).1
      rw [hn] at h4
      exact h4
    have h5 := condW_of h4 (w_not (w_lt w_lit (w_len_list (w_arg rfl))))
    rw [List.length_map] at h5
    refine Nat.le_of_not_lt fun q => ?_
    have q' : (n : Int) < ((ns.length : Nat) : Int) := by omega
    first
      | (rw [decide_eq_true q'] at h5; exact absurd h5 (by decide))
      | (simp at h5; omega)
  cases hwl with
  | cons w1 w2 =>
    cases w2
    cases w1 with
    | list ho hall => exact ⟨_, _, ns, rfl, rfl, ho, ints_of_wellAll ns _ hall, hlen⟩

theorem post_true (l : OpenLaw) (args : List WData) : l.row.toRowW.claim.post args (.bool true) args = true :=
  postW_of (r := l.row.toRowW) (X := (true == true))
    (show WShape.has [] (.bool true) .bool = true by first | rfl | decide | simp [WShape.has, WShape.arms, WShape.armsAll])
    (show (WTm.eq .res (.lit (.bool true))).value [] { args := args, res := some (.bool true), after := args } = some (.bool (true == true)) from w_eq_bool (w_res rfl) w_lit) rfl

theorem attach_call {l : OpenLaw} {n : Nat} {q : Program} {loose : List Str} {XP : (Str → Option Value) → Heap → Prop} {YP : World → Heap → Prop} {d : DefRec}
    (hn : l.most = some n) (hdf : d.params.defaults = [])
    (call : ∀ (w : World) (s₀ s₁ : Shared) (mg mb : Str → Option Value) (fa : Addr) (o : Obj) (pm cd doc : Value) (a : Addr) (vs : List Value) (ns : List Int),
      Ground q loose [] XP w s₀ mg mb s₁.heap → YP w s₁.heap →
      s₁.heap.get? fa = some o → o.data = .func (docDef d.name d.params d.body d.scope pm cd doc) → s₁.heap.CodeRec cd d.name → mg d.name = some (.ref fa) →
      s₁.heap.get? a = some { cls := .type "list", data := .seq vs.toArray } → IntsAre vs ns → ns.length ≤ n → s₁.gens = #[] →
      codeAny (model l.prog w) callerA (.call (.ref fa) ⟨[.ref a], []⟩) (fun r s' => r = .ok (.ret (.bool true)) ∧ OldK s₁.heap s'.heap ∧ s'.os = s₁.os ∧ AllBare s'.gens) s₁) :
    WalkO q loose XP YP l.row.toRowW d [] (fun f vs => PySem.call f vs) := by
  intro w s₀ s₁ mg mb G Y fa o pm cd doc dV kV ho hd hcd hD hmg hg args vals as hpre hlay hrd hwl hlo
  obtain rfl : dV = .none := Dflts.none hD hdf
  obtain rfl : kV = .none := Dflts.noKw hD
  obtain ⟨a, vs, ns, rfl, rfl, hobj, hints, hlen⟩ := script_of hn hpre hwl
  refine enter_call (codeAny_mono (call w s₀ s₁ mg mb fa o pm cd doc a vs ns G Y ho (fd_plain hd) hcd hmg hobj hints hlen hg) fun r s' hq => ?_)
  obtain ⟨rfl, h2, h3, h4⟩ := hq
  exact ⟨.inl ⟨.bool true, .bool true, [], rfl, fun _ => rfl, .bool true, post_true l _, fun _ => ⟨List.Pairwise.nil, fun _ hm => (nomatch hm)⟩⟩, h2, h3, h4⟩

section
variable {prog : Program} {w : World} {A : Around} {E : Value → Shared → Prop} {s : Shared} {K : Frag}

noncomputable def ledger (h : Heap) (L d : Addr) : List (Addr × Obj) := (List.range h.objs.size).filterMap fun a => if a = L ∨ a = d then none else (h.get? a).map fun o => (a, o)
end
end Att

namespace L2
open PySem PySem.Spec PyProof.Rows

theorem vals_ints : ∀ {vs : List Value} {ns : List Int}, IntsAre vs ns → Vals (ns.map V.int) vs
  | _, _, .nil => .nil
  | _, _, .cons n t h => .cons ⟨t, rfl⟩ (vals_ints h)

noncomputable def Only (H : Hp) : Prop := ∀ b, H b = none ∨ ∃ o xs, H b = some (.frz o (.lst xs))

theorem law_call {P : Program} {w : World} {K : PySem.W.Frag} {mg mb : Str → Option Value} {CX : CXT} {k : Nat} {fa a : Addr} {fd : FuncData} {x : Str} {sp : Sp} {s₁ : Shared} {vs : List Value} {ns : List Int}
    (KX : K.In s₁.heap) (hns : s₁.heap.Ns mainGlobals mg) (hb : s₁.heap.Ns builtinsNs mb) (hbb : ∀ x : Str, x ≠ "__name__" → mb x = bootBuiltins x) (hlim : s₁.heap.NoLimit) (hg : s₁.gens = #[])
    (ha : s₁.heap.get? a = some { cls := .type "list", data := .seq vs.toArray }) (hi : IntsAre vs ns) (hl : ns.length ≤ sizeLine) (hr : Room k callerA)
    (F : ∀ base : Heap, K.In base → base.Ns mainGlobals mg → FnOk P w K mg base CX k fa fd [x] sp) (hbind : ∀ (s : Shared) (u : Value), BindsTo s fd ⟨[u], []⟩ [(x, u)])
    (hsp : ∀ H : Hp, Only H → SqL K H a (ns.map V.int) → sp [.ref a] H (fun v _ => v = .bl true) fun _ _ _ => False)
    (hCX : ∀ H e s', CX [] H s₁ (fun _ _ _ => False) e s' → False) :
    codeAny (model P w) callerA (.call (.ref fa) ⟨[.ref a], []⟩) (fun r s' => r = .ok (.ret (.bool true)) ∧ OldK s₁.heap s'.heap ∧ s'.os = s₁.os ∧ AllBare s'.gens) s₁ := by
  have rv := vals_ints hi
  have lenV := hi.length
  -- from an abstract heap in which nothing but the script may be tracked
  have core : ∀ H : Hp, Only H → SqL K H a (ns.map V.int) → HOk P w H s₁.heap → (∀ b, H b ≠ none → b = a) → (H a ≠ none → K.lookup a = none) →
      codeAny (model P w) callerA (.call (.ref fa) ⟨[.ref a], []⟩) (fun r s' => r = .ok (.ret (.bool true)) ∧ OldK s₁.heap s'.heap ∧ s'.os = s₁.os ∧ AllBare s'.gens) s₁ := by
    intro H hO hS hok hA hK
    have base_of : ∀ {b : Addr} {o : Obj}, s₁.heap.get? b = some o → H b = none → (hidT s₁.heap H).get? b = some o := fun e n => hidT_get e n
    have noA : ∀ {b : Addr} {o : Obj} {es : Array DictEntry} {ep : Nat}, s₁.heap.get? b = some o → o.data = .dict es ep → H b = none := fun {b o es ep} e d => by
      cases q : H b with
      | none => rfl
      | some u =>
        have e' : b = a := hA b (by rw [q]; simp)
        subst e'
        rw [ha] at e; cases e
        have d' : Data.seq vs.toArray _ = Data.dict es ep := d
        cases d'
    have nsK : ∀ {b : Addr} {m : Str → Option Value}, s₁.heap.Ns b m → (hidT s₁.heap H).Ns b m := fun {b m} ⟨o, es, ep, e, d, r⟩ => ⟨o, es, ep, base_of e (noA e d), d, r⟩
    have hKb : K.In (hidT s₁.heap H) := fun b o e => base_of (KX b o e) (by
      cases q : H b with
      | none => rfl
      | some u =>
        have e' : b = a := hA b (by rw [q]; simp)
        subst e'
        rw [hK (by rw [q]; simp)] at e; cases e)
    have hM : Mod K mg (hidT s₁.heap H) := ⟨hKb, nsK hns, ⟨mb, nsK hb, hbb⟩, let ⟨mc, h1, h2⟩ := hlim; ⟨mc, nsK h1, h2⟩⟩
    have e0 : Env0 P w K mg (hidT s₁.heap H) callerA [] s₁ H := ⟨rfl, hM, fun b o e => of_hidT e, Nat.le_of_eq (hidT_size _ _), trivial, fun b hb => absurd (show b ∈ ([] : List Addr) from hb) (by simp), hok, .of_eq hg⟩
    refine codeAny_mono ((F _ hKb (nsK hns)).run callerA [] s₁ H ⟨[.ref a], []⟩ [.ref a] [.ref a] _ _ hr e0 (hbind s₁ (.ref a)) (.cons rfl .nil) (hsp H hO hS)) fun r s' h => ?_
    cases r with
    | error e => exact (hCX H e s' h).elim
    | ok fl =>
      cases fl with
      | next => exact False.elim h
      | brk => exact False.elim h
      | cont => exact False.elim h
      | ret u =>
        obtain ⟨v, H', os, bare, un, hok', r', q⟩ := h
        have q' : v = .bl true := q
        subst q'
        obtain rfl : u = Value.bool true := r'
        refine ⟨rfl, OldK.of_keep fun b o e => ?_, os, bare⟩
        cases q : H b with
        | none => exact un.keep b o e q (by intro z; exact absurd (show b ∈ ([] : List Addr) from z) (by simp)) (by simp)
        | some u =>
          rcases hO b with z | ⟨ob, xs, z⟩
          · rw [q] at z; cases z
          · have z2 := un.frzs b ob _ z
            obtain ⟨e1, _⟩ := hok b _ z
            obtain ⟨e2, _⟩ := hok' b _ z2
            rw [e] at e1; cases e1
            exact e2
  cases hk : K.lookup a with
  | some o =>
    -- the script is one of the module's own objects
    have e := KX a o hk
    rw [ha] at e
    cases e
    refine core (fun _ => none) (fun _ => .inl rfl) (.inr ⟨_, vs.toArray, _, hk, rfl, rfl, rfl, by rw [List.size_toArray, lenV]; exact hl, by simpa using rv⟩) (fun b u z => by have z' : (none : Option HO) = some u := z; cases z') (fun b z => absurd rfl z) fun z => absurd rfl z
  | none =>
    refine core (fun b => if b = a then some (.frz { cls := .type "list", data := .seq vs.toArray } (.lst (ns.map V.int))) else none) (fun b => ?_) (.inl (.inr ⟨{ cls := .type "list", data := .seq vs.toArray }, if_pos rfl⟩)) (fun b u z => ?_) (fun b z => ?_) fun _ => hk
    · by_cases hb : b = a
      · exact .inr ⟨_, _, if_pos hb⟩
      · exact .inl (if_neg hb)
    · by_cases hb : b = a
      · have z' := (if_pos hb).symm.trans z
        cases z'
        subst hb
        exact ⟨ha, by rw [List.length_map]; exact hl, vs, _, rv, ha⟩
      · have z' := (if_neg hb).symm.trans z
        cases z'
    · by_cases hb : b = a
      · exact hb
      · exact absurd (if_neg hb) z
end L2

namespace L2
open PySem PySem.Spec PyProof.Rows

theorem walk_of {l : PySem.W.OpenLaw} {n k : Nat} {q : Program} {loose : List Str} {XP : (Str → Option Value) → Heap → Prop} {YP : World → Heap → Prop} {d : DefRec} {K : Params → PySem.W.Frag} {CX : World → CXT} {sp : World → Sp} {x : Str}
    (hn : l.most = some n) (hn2 : n ≤ sizeLine) (hdf : d.params.defaults = []) (hr : Room k callerA)
    (hY : ∀ (w : World) (h : Heap), YP w h → (K w.params).In h)
    (F : ∀ (w : World) (mg : Str → Option Value) (fa : Addr) (h : Heap), (K w.params).In h → h.Ns mainGlobals mg → mg d.name = some (.ref fa) →
      ∃ fd : FuncData, (∀ (s : Shared) (u : Value), BindsTo s fd ⟨[u], []⟩ [(x, u)]) ∧
        ∀ base : Heap, (K w.params).In base → base.Ns mainGlobals mg → FnOk l.prog w (K w.params) mg base (CX w) k fa fd [x] (sp w))
    (hsp : ∀ (w : World) (H : Hp) (a : Addr) (ns : List Int), ns.length ≤ n → Only H → SqL (K w.params) H a (ns.map V.int) → sp w [.ref a] H (fun v _ => v = .bl true) fun _ _ _ => False)
    (hCX : ∀ (w : World) (H : Hp) (s : Shared) (e : Value) (s' : Shared), CX w [] H s (fun _ _ _ => False) e s' → False) :
    PySem.W.WalkO q loose XP YP l.row.toRowW d [] (fun f vs => PySem.call f vs) := by
  refine Att.attach_call hn hdf fun w s₀ s₁ mg mb fa o pm cd doc a vs ns G Y ho hd hcd hmg hobj hints hlen hg => ?_
  have KX := hY w _ Y
  obtain ⟨fd, hb, hF⟩ := F w mg fa _ KX G.T.g hmg
  exact law_call KX G.T.g G.T.b G.T.builtins G.T.nolimit hg hobj hints (Nat.le_trans hlen hn2) hr hF hb (fun H hO hS => hsp w H a ns hlen hO hS) fun H e s' => hCX w H s₁ e s'
end L2



namespace L2
open PySem PySem.Spec PyProof.Rows

noncomputable def defArgs (s : Stmt) : Arguments := match s with
  | .FunctionDef _ a _ _ _ _ _ _ _ _ => a
  | _ => { posonlyargs := [], args := [], vararg := none, kwonlyargs := [], kw_defaults := [], kwarg := none, defaults := [] }
noncomputable def defBody (s : Stmt) : List Stmt := match s with
  | .FunctionDef _ _ b _ _ _ _ _ _ _ => b
  | _ => []
noncomputable def defScope (s : Stmt) : Scope := match s with
  | .FunctionDef _ _ _ _ _ _ sc _ _ _ => sc
  | _ => { kind := .function, names := [], isGenerator := false, isCoroutine := false }

noncomputable abbrev CX0 : CXT := fun _ _ _ _ _ _ => False
noncomputable abbrev E0 : XK := fun _ _ _ => False
theorem pass0 {X : Cx} : Passes CX0 X E0 := fun _ _ _ _ _ _ _ h => h.elim

structure Fun (K : PySem.W.Frag) (x qual : Str) (st : Stmt) (f : Addr) (fd : FuncData) : Prop where
  ex : ∃ (oc : Value) (od : Option Addr) (kV doc pm : Value) (an : Option Addr) (cdv ct : Value) (osl : Array (Option Value)),
    fd = PySem.W.fnOf x qual (defArgs st) (defBody st) (defScope st) .none kV doc pm an cdv ct ∧ K.lookup f = some ⟨oc, od, .func fd, osl⟩ ∧ PySem.W.codeIn K cdv qual = true
  kp : PySem.W.keepIn K (.ref f) = true
section
variable {P : Program} {w : World} {K : PySem.W.Frag} {mg : Str → Option Value} {base : Heap}
theorem Fun.ok {x qual : Str} {st : Stmt} {f : Addr} {fd : FuncData} {N ps : List Str} {k : Nat} {sp : Sp} (F : Fun K x qual st f fd) (S : FnScope N ps (defScope st)) (len : ∀ vs H Q E, sp vs H Q E → vs.length = ps.length)
    (hbody : ∀ (cdv : Value) (A : Around) (outer : List Env) (s : Shared) (H : Hp) (vs : List V) (Q : VK) (E : XK), Room k (A.deeper (envOfC qual (defScope st) s.heap.objs.size f cdv)) → sp vs H Q E →
      ∃ t, PSs (cxOf CX0 P w K mg base N qual (defScope st) f cdv A outer s H E).nox (defBody st) t ∧ t { nx := fun _ H' => Q .non H', rt := Q } (start N vs) H) : FnOk P w K mg base CX0 (k + 1) f fd ps sp := by
  obtain ⟨oc, od, kV, doc, pm, an, cdv, ct, osl, rfl, lk, hcd⟩ := F.ex
  refine fn_of lk hcd S len fun A outer s H vs Q E hr hsp => ?_
  obtain ⟨t, h, q⟩ := hbody cdv A outer s H vs Q E hr hsp
  exact ⟨t, h.nox, q⟩
theorem Fun.binds {x qual : Str} {st : Stmt} {f : Addr} {fd : FuncData} {ps : List Str} (F : Fun K x qual st f fd)
    (h : ∀ (kV doc pm : Value) (an : Option Addr) (cdv ct : Value) (us : List Value), us.length = ps.length → bindArgs (PySem.W.fnOf x qual (defArgs st) (defBody st) (defScope st) .none kV doc pm an cdv ct) ⟨us, []⟩ = pure (ps.zip us)) : Binds K fd ps [] := by
  obtain ⟨oc, od, kV, doc, pm, an, cdv, ct, osl, rfl, lk, hcd⟩ := F.ex
  exact .all (h kV doc pm an cdv ct)
theorem fun_mk {x qual : Str} {st : Stmt} {f : Addr} {oc : Value} {od an : Option Addr} {osl : Array (Option Value)} {kV doc pm cdv ct : Value} (l : K.lookup f = some ⟨oc, od, .func (PySem.W.fnOf x qual (defArgs st) (defBody st) (defScope st) .none kV doc pm an cdv ct), osl⟩)
    (c : PySem.W.codeIn K cdv qual = true) (k : PySem.W.keepIn K (.ref f) = true) : Fun K x qual st f (PySem.W.fnOf x qual (defArgs st) (defBody st) (defScope st) .none kV doc pm an cdv ct) := ⟨⟨oc, od, kV, doc, pm, an, cdv, ct, osl, rfl, l, c⟩, k⟩
end
theorem hu_of {A : Around} {k : Nat} (hr : Room k A) : A.units + 1 < cLine := Nat.lt_of_le_of_lt (Nat.add_le_add_left (by decide : 1 ≤ 64) _) hr.units
section
variable {X : Cx}
theorem pv (i : Nat) {x : Str} {pos : Pos} (hN : X.N[i]? = some x := by rfl) (hv : Vis X.env.scope x := by first | exact Or.inl rfl | exact Or.inr (Or.inl rfl) | exact Or.inr (Or.inr rfl)) (hd : (x == ("__debug__" : Str)) = false := by decide)
    (hcd : (x == ("__classdict__" : Str)) = false := by decide) : PE X (.Name x pos) (tVar i) := pe_var hN hv hd hcd
end

theorem iteF {A B : Prop} (h : B) : if false = true then A else B := by
  rw [if_neg Bool.false_ne_true]
  exact h
theorem iteT {A B : Prop} (h : A) : if true = true then A else B := by
  rw [if_pos rfl]
  exact h
theorem ite2 {c A B : Prop} [Decidable c] (h1 : c → A) (h2 : ¬ c → B) : if c then A else B := by
  by_cases h : c
  · rw [if_pos h]
    exact h1 h
  · rw [if_neg h]
    exact h2 h
theorem iteNS {c A B : Prop} [Decidable c] (hc : c) (h : B) : if (!decide c) = true then A else B := by
  rw [decide_eq_true hc]
  exact iteF h

noncomputable def Same (H H' : Hp) : Prop := ∀ b o, H b = some o → H' b = some o
theorem Same.refl (H : Hp) : Same H H := fun _ _ h => h
theorem Same.trans {H H1 H2 : Hp} (a : Same H H1) (b : Same H1 H2) : Same H H2 := fun c o h => b c o (a c o h)
theorem Same.free {H H' : Hp} (e : Same H H') {l : Addr} (h : H' l = Option.none) : H l = Option.none := by
  cases q : H l with
  | none => rfl
  | some o =>
    rw [e l o q] at h
    cases h
end L2

set_option Elab.async false
set_option linter.all false
set_option maxRecDepth 100000
namespace L2
open PySem PySem.Spec PyProof.Rows

structure CB where
  cl : List (Str × Addr)
  C : Addr
  s : Shared
  H : Hp
  ex : List Addr
noncomputable abbrev Cx.comp (X : Cx) (own : List Str) (scope : Scope) (c : CB) : Cx where
  prog := X.prog
  w := X.w
  K := X.K
  mg := X.mg
  base := X.base
  A := X.A
  N := own ++ X.N
  s₀ := c.s
  H₀ := c.H
  env := compEnvC scope c.cl c.C X.env
  outer := X.stack
  stack := X.stack
  ex := c.ex
  fn := fun _ => false
  calm := X.calm
  pn := []
  xe := fun _ _ => False

noncomputable def cloF (cells : List (Str × Addr)) : List (Str × NameKind) → List (Str × Addr) → List (Str × Addr)
  | [], acc => acc
  | (n, k) :: r, acc => if k == .free then cloF cells r ((n, (cells.lookup n).getD 0) :: acc) else cloF cells r acc
theorem closure_loop {env : Env} : ∀ (names : List (Str × NameKind)) (acc : List (Str × Addr)), (∀ x ∈ names, x.2 = .free → ∃ c, env.cells.lookup x.1 = some c) →
    (forIn names acc fun (p : Str × NameKind) (r : List (Str × Addr)) => match p with
      | (name, kind) => if (kind == NameKind.free) = true then do let a ← cellOf env name; pure (ForInStep.yield ((name, a) :: r)) else pure (ForInStep.yield r) : Sem (List (Str × Addr))) = pure (cloF env.cells names acc)
  | [], acc, _ => by simp [cloF]
  | (n, k) :: r, acc, h => by
    rw [List.forIn_cons]
    by_cases hk : (k == NameKind.free) = true
    · obtain ⟨c, hc⟩ := h (n, k) List.mem_cons_self (by simpa using hk)
      have e : cellOf env n = pure c := by unfold cellOf; rw [hc]
      have ih := closure_loop (env := env) r ((n, c) :: acc) fun x hx => h x (List.mem_cons_of_mem _ hx)
      show ((if (k == NameKind.free) = true then do let a ← cellOf env n; pure (ForInStep.yield ((n, a) :: acc)) else pure (ForInStep.yield acc)) >>= _ : Sem _) = _
      rw [if_pos hk, e]
      unfold cloF
      rw [if_pos hk, hc]
      exact ih
    · have ih := closure_loop (env := env) r acc fun x hx => h x (List.mem_cons_of_mem _ hx)
      show ((if (k == NameKind.free) = true then do let a ← cellOf env n; pure (ForInStep.yield ((n, a) :: acc)) else pure (ForInStep.yield acc)) >>= _ : Sem _) = _
      rw [if_neg hk]
      unfold cloF
      rw [if_neg hk]
      exact ih
theorem closure_eq {scope : Scope} {env : Env} (h : ∀ x ∈ scope.names, x.2 = .free → ∃ c, env.cells.lookup x.1 = some c) : closureFor scope env = pure (cloF env.cells scope.names []) := by
  have e := closure_loop (env := env) scope.names [] h
  unfold closureFor
  show (forIn scope.names [] _ >>= fun cs => pure cs : Sem _) = _
  have e2 : (forIn scope.names ([] : List (Str × Addr)) fun (p : Str × NameKind) (r : List (Str × Addr)) => match p with
      | (name, kind) => if (kind == NameKind.free) = true then do let a ← cellOf env name; pure (ForInStep.yield ((name, a) :: r)) else pure (ForInStep.yield r) : Sem (List (Str × Addr))) = pure (cloF env.cells scope.names []) := e
  rw [e2]
  rfl
theorem cloF_get {cells : List (Str × Addr)} {x : Str} {c : Addr} : ∀ {names : List (Str × NameKind)} {acc : List (Str × Addr)}, (cloF cells names acc).lookup x = some c → acc.lookup x = some c ∨ ((x, NameKind.free) ∈ names ∧ c = (cells.lookup x).getD 0)
  | [], acc, h => .inl h
  | (n, k) :: r, acc, h => by
    unfold cloF at h
    by_cases hk : (k == NameKind.free) = true
    · rw [if_pos hk] at h
      have hk' : k = .free := by simpa using hk
      rcases cloF_get h with q | ⟨q1, q2⟩
      · rw [List.lookup_cons] at q
        cases hx : x == n with
        | true =>
          rw [hx] at q
          have e : x = n := by simpa using hx
          subst e hk'
          exact .inr ⟨List.mem_cons_self, (Option.some.inj q).symm⟩
        | false => rw [hx] at q; exact .inl q
      · exact .inr ⟨List.mem_cons_of_mem _ q1, q2⟩
    · rw [if_neg hk] at h
      rcases cloF_get h with q | ⟨q1, q2⟩
      · exact .inl q
      · exact .inr ⟨List.mem_cons_of_mem _ q1, q2⟩
theorem cloF_acc {cells : List (Str × Addr)} {x : Str} : ∀ {names : List (Str × NameKind)} {acc : List (Str × Addr)}, (acc.lookup x).isSome = true → ((cloF cells names acc).lookup x).isSome = true
  | [], _, h => h
  | (n, k) :: r, acc, h => by
    unfold cloF
    split
    · refine cloF_acc ?_
      rw [List.lookup_cons]
      cases hx : x == n <;> simp [h]
    · exact cloF_acc h
theorem cloF_has {cells : List (Str × Addr)} {x : Str} : ∀ {names : List (Str × NameKind)} {acc : List (Str × Addr)}, (x, NameKind.free) ∈ names → ((cloF cells names acc).lookup x).isSome = true
  | (n, k) :: r, acc, h => by
    unfold cloF
    rcases List.mem_cons.mp h with e | h
    · cases e
      rw [if_pos (by rfl)]
      exact cloF_acc (by simp [List.lookup_cons])
    · split
      · exact cloF_has h
      · exact cloF_has h

noncomputable def compOk (env : Env) (scope : Scope) (N : List Str) : Bool :=
  (scope.kind == .function) && scope.names.all fun y => match y.2 with
    | .local => !(N.contains y.1) && (scope.names.lookup y.1 == some .local)
    | .cell => false
    | .free => env.kindOf y.1 == some .cell || env.kindOf y.1 == some .free
    | _ => true
theorem relabel_vis {env : Env} : ∀ {names : List (Str × NameKind)} {x : Str} {q : NameKind}, (names.map fun (n, k) => if (k == NameKind.free && env.scope.kind == .function && env.kindOf n == some .cell) then (n, NameKind.cell) else (n, k)).lookup x = some q →
    ∃ k, (x, k) ∈ names ∧ names.lookup x = some k ∧ (q = k ∨ (q = .cell ∧ k = .free))
  | [], _, _, h => by simp at h
  | (n, k) :: r, x, q, h => by
    have ih := @relabel_vis env r x q
    have h' : List.lookup x ((if (k == NameKind.free && env.scope.kind == .function && env.kindOf n == some .cell) = true then (n, NameKind.cell) else (n, k)) :: (r.map fun (n, k) => if (k == NameKind.free && env.scope.kind == .function && env.kindOf n == some .cell) then (n, NameKind.cell) else (n, k))) = some q := h
    by_cases hc : (k == NameKind.free && env.scope.kind == .function && env.kindOf n == some .cell) = true
    · rw [if_pos hc, List.lookup_cons] at h'
      cases hx : x == n with
      | true =>
        rw [hx] at h'
        have e : x = n := by simpa using hx
        subst e
        have hk : k = .free := by simp at hc; exact hc.1.1
        exact ⟨k, List.mem_cons_self, by simp [List.lookup_cons], .inr ⟨(Option.some.inj h').symm, hk⟩⟩
      | false =>
        rw [hx] at h'
        obtain ⟨k', h1, h2, h3⟩ := ih h'
        exact ⟨k', List.mem_cons_of_mem _ h1, by rw [List.lookup_cons, hx]; exact h2, h3⟩
    · rw [if_neg hc, List.lookup_cons] at h'
      cases hx : x == n with
      | true =>
        rw [hx] at h'
        have e : x = n := by simpa using hx
        subst e
        exact ⟨k, List.mem_cons_self, by simp [List.lookup_cons], .inl (Option.some.inj h').symm⟩
      | false =>
        rw [hx] at h'
        obtain ⟨k', h1, h2, h3⟩ := ih h'
        exact ⟨k', List.mem_cons_of_mem _ h1, by rw [List.lookup_cons, hx]; exact h2, h3⟩

theorem HOk.track {P : Program} {w : World} {H : Hp} {h : Heap} {a : Addr} {o : HO} (x : HOk P w H h) (hn : H a = none) (new : ObjOk P w (upd H a o) h a o) : HOk P w (upd H a o) h := fun b u e => by
  by_cases hb : b = a
  · subst hb; rw [upd_same] at e; cases e; exact new
  · rw [upd_ne hb] at e
    exact (x b u e).stay (fun c v _ q => q) (fun c q => by rw [upd_ne (ne_of_none q hn)]; exact q) fun c xs q => by rw [upd_ne (ne_of_none q hn)]; exact q

theorem comp_loop {prog : Program} {w : World} {A : Around} {s : Shared} {elt target iter : Expr} {ifs : List Expr} {scope : Scope} {pos : Pos} {it acc : Value} {env : Env} {R : Result → Shared → Prop} (I : Nat → Shared → Prop)
    (turn : ∀ n s, I n s → wpAny (model prog w) A (pyNext it) (fun r s₁ => match r with
      | none => R (.ok .next) s₁
      | some v => wpAny (model prog w) A (letOwnedTupleGo target it v) (fun _ s₀ => wpAny (model prog w) A (assign target env v) (fun _ s₂ =>
          wpAny (model prog w) A (forIn ifs true fun c r => if r = true then do let ok ← isTrue c env (eval c env); pure (ForInStep.yield ok) else pure (ForInStep.yield r)) (fun ok s₃ =>
            if ok = true then wpAny (model prog w) A (eval elt env) (fun x s₄ =>
              wpAny (model prog w) A (call (.builtin "list.append") [acc, x]) (fun _ s₅ => ∃ m, m < n ∧ I m s₅) (fun _ _ => False) s₄) (fun _ _ => False) s₃
            else ∃ m, m < n ∧ I m s₃) (fun _ _ => False) s₂) (fun _ _ => False) s₀) (fun _ _ => False) s₁) (fun _ _ => False) s)
    (n : Nat) (h : I n s) : codeAny (model prog w) A (.compLoop (.ListComp elt [⟨target, iter, ifs, 0⟩] scope pos) 0 it acc env) R s := by
  refine codeAny_loop rfl I (fun n s hI => ?_) n h
  show wpAny _ A ((compTurn (.ListComp elt [⟨target, iter, ifs, 0⟩] scope pos) 0 it acc env).onRaise (fun x => do noteFrame x env; theTreesLotGoes x)) _ _ s
  refine wpAny_noted ?_
  rw [compTurn_list]
  refine wpAny_bind (wpAny_standAt (wpAny_bind (wpAny_mono (turn n s hI) (fun r s₁ h₁ => ?_) fun _ _ h' => h'.elim)))
  cases r with
  | none => exact wpAny_pure h₁
  | some v =>
    refine wpAny_bind (wpAny_mono h₁ (fun _ s₀ h₀' => ?_) fun _ _ h' => h'.elim)
    refine wpAny_bind (wpAny_mono h₀' (fun _ s₂ h₂ => wpAny_bind (wpAny_mono h₂ (fun ok s₃ h₃ => ?_) fun _ _ h' => h'.elim)) fun _ _ h' => h'.elim)
    cases ok with
    | false => exact wpAny_pure ⟨rfl, h₃⟩
    | true =>
      exact wpAny_bind (wpAny_bind (wpAny_mono h₃ (fun x s₄ h₄ => wpAny_bind (wpAny_mono h₄ (fun _ s₅ h₅ => wpAny_pure (wpAny_pure ⟨rfl, h₅⟩)) fun _ _ h' => h'.elim)) fun _ _ h' => h'.elim))

noncomputable def PTs (X : Cx) (ifs : List Expr) (t : TT) : Prop :=
  ∀ (pins : List (Addr × Obj)) (s : Shared) (σ : St) (H : Hp) (Q : Bool → Hp → Prop), Inv X pins σ H s → t σ H Q →
    wpAny (model X.prog X.w) X.A (forIn ifs true fun c r => if r = true then do let ok ← isTrue c X.env (eval c X.env); pure (ForInStep.yield ok) else pure (ForInStep.yield r)) (TP X pins σ Q) X.xe s
theorem pts_nil {X : Cx} : PTs X [] (fun _ H Q => Q true H) := fun _ _ _ H _ I h => wpAny_tests_nil ⟨H, I, h⟩
theorem pts_one {X : Cx} {c : Expr} {t : TT} (hc : PT X c t) : PTs X [c] t := fun pins s σ H Q I h => wpAny_tests_one (hc pins s σ H Q I h)

noncomputable def LcEnd (J : It) (n : Nat) (g : CB → TG) (tt : CB → TT) (te : CB → TE) (σ : St) (Q : VK) (H : Hp) : Prop := ∃ W : Nat → Nat → List V → Hp → Prop, (∃ m, W 0 m [] H) ∧ ∀ (c : CB) i m ys H, W i m ys H →
  (J.stop i H ∧ ∀ p, H p = none → Q (.ref p) (upd H p (.lst ys))) ∨
  (J.go i H ∧ ys.length < sizeLine ∧ ∃ N : List V → Hp → Prop, (∀ ys' H', N ys' H' → ∃ m', m' < m ∧ W (i + 1) m' ys' H') ∧ ∀ x H', J.yld i H x H' → g c x (List.replicate n none ++ σ) H' fun σ2 H2 => tt c σ2 H2 fun b H3 =>
    if b = true then te c σ2 H3 fun v H4 => N (ys ++ [v]) H4 else N ys H3)
noncomputable def tLC (n : Nat) (wi : TI) (g : CB → TG) (tt : CB → TT) (te : CB → TE) : TE := fun σ H Q => wi σ H fun J H1 => LcEnd J n g tt te σ Q H1

section
variable {X : Cx} {own : List Str} {scope : Scope} {tg iter elt : Expr} {ifs : List Expr} {pos : Pos} {wi : TI} {g : CB → TG} {tt : CB → TT} {te : CB → TE}

theorem compOk_kind (h : compOk X.env scope X.N = true) : scope.kind = .function := by
  unfold compOk at h
  simp only [Bool.and_eq_true, beq_iff_eq] at h
  exact h.1
theorem compOk_all (h : compOk X.env scope X.N = true) : ∀ y ∈ scope.names, (y.2 = .local → y.1 ∉ X.N ∧ scope.names.lookup y.1 = some .local) ∧ y.2 ≠ .cell ∧ (y.2 = .free → X.env.kindOf y.1 = some .cell ∨ X.env.kindOf y.1 = some .free) := by
  unfold compOk at h
  rw [Bool.and_eq_true, List.all_eq_true] at h
  intro y hy
  have q := h.2 y hy
  obtain ⟨n, k⟩ := y
  cases k with
  | «local» => simp at q ⊢; exact q
  | cell => simp at q
  | free => simp at q ⊢; exact q
  | globalExplicit => simp
  | globalImplicit => simp

theorem comp_enter {pins : List (Addr × Obj)} {σ : St} {H : Hp} {s : Shared} {fp : List Addr} {h₁ : Heap} {tk : Nat} (hk : compOk X.env scope X.N = true) (I : Inv X pins σ H s) (hf : ∀ b ∈ fp, FpOk X pins H b) (hfo : ∀ b ∈ fp, ∃ o, s.heap.get? b = some o)
    (hns : h₁.Ns (s.heap.objs.size + 1) fun _ => none) (old : ∀ b o, s.heap.get? b = some o → h₁.get? b = some o) (hD : h₁.get? s.heap.objs.size = some { cls := .type "list", data := .seq #[] 0 }) :
    Inv (X.comp own scope ⟨cloF X.env.cells scope.names [], s.heap.objs.size + 1, s, H, fp⟩) [(s.heap.objs.size, { cls := .type "list", data := .seq #[] 0 })] (List.replicate own.length none ++ σ) H { s with heap := h₁, toks := tk } := by
  have hkk := compOk_kind hk
  have hka := compOk_all hk
  have hhas : ∀ x, (x, NameKind.free) ∈ scope.names → ∃ c, X.env.cells.lookup x = some c := fun x hx => I.ok.has x ((hka _ hx).2.2 rfl)
  have hcl : ∀ x c, (cloF X.env.cells scope.names []).lookup x = some c → X.env.cells.lookup x = some c ∧ (x, NameKind.free) ∈ scope.names := fun x c e => by
    rcases cloF_get e with q | ⟨q1, q2⟩
    · simp at q
    · obtain ⟨c', e'⟩ := hhas x q1
      rw [e'] at q2
      exact ⟨by rw [e', q2]; rfl, q1⟩
  have hvis : ∀ x, (relabel scope X.env).names.lookup x = some .cell ∨ (relabel scope X.env).names.lookup x = some .free → (x, NameKind.free) ∈ scope.names := fun x hx => by
    have key : ∀ q, (relabel scope X.env).names.lookup x = some q → q = .cell ∨ q = .free → (x, NameKind.free) ∈ scope.names := fun q hq hq' => by
      obtain ⟨k, h1, h2, h3⟩ := relabel_vis (env := X.env) (names := scope.names) hq
      rcases h3 with h3 | ⟨_, h3⟩
      · subst h3
        rcases hq' with z | z
        · exact absurd z (hka _ h1).2.1
        · rw [z] at h1; exact h1
      · rw [h3] at h1; exact h1
    rcases hx with hx | hx
    · exact key _ hx (.inl rfl)
    · exact key _ hx (.inr rfl)
  have hlt : ∀ b o, s.heap.get? b = some o → b < s.heap.objs.size := fun b o e => Heap.lt_size e
  refine ⟨⟨I.ok.mod, hkk, I.ok.glob, I.ok.blt, Nat.le_succ _, fun x y c h1 h2 => I.ok.inj x y c (hcl x c h1).1 (hcl y c h2).1, fun x hx => ?_, fun x c z => (nomatch z), I.ok.hd, I.ok.frames, .inl rfl, fun b hb => ⟨?_, fun x c e => (hf b hb).2.2.2.2.1 x c (hcl x c e).1⟩, I.bs,
      Nat.le_trans I.ok.bsz I.sz, fun b o e hb => ?_, fun b hb hs => ?_, I.stack, I.stkFree⟩, rfl, I.bare, Un.kept old, ⟨_, hns, fun i x v h1 h2 h3 => ?_⟩, fun x c e => ?_, ?_, fun x c e => I.freeC x c (hcl x c e).1, fun p hp => ?_, I.hok.kept old, ?_⟩
  · have hx' : (relabel scope X.env).names.lookup x = some .cell ∨ (relabel scope X.env).names.lookup x = some .free := hx
    exact Option.isSome_iff_exists.mp (cloF_has (hvis x hx'))
  · obtain ⟨o, e⟩ := hfo b hb
    exact Nat.ne_of_lt (Nat.lt_succ_of_lt (hlt b o e))
  · have hb' : b ∈ fp := hb
    rcases (hf b hb').2.2.2.1 with z | z
    · exact I.ok.noex b o e z
    · exact absurd (Nat.lt_of_lt_of_le (Heap.lt_size (I.ok.bs b o e).1) z) (Nat.lt_irrefl _)
  · have hb' : b ∈ fp := hb
    rcases List.mem_cons.mp (I.stkSub b hs) with z | z
    · exact (hf b hb').2.1 z
    · exact (hf b hb').2.2.1 z
  · have hi : own.length ≤ i := by
      by_cases hi : i < own.length
      · rw [List.getElem?_append_left (by simpa using hi), List.getElem?_replicate] at h2
        split at h2 <;> cases h2
      · omega
    have h1' : X.N[i - own.length]? = some x := by
      have q : (own ++ X.N)[i]? = some x := h1
      rwa [List.getElem?_append_right hi] at q
    have h2' : σ[i - own.length]? = some (some v) := by
      rw [List.getElem?_append_right (by simpa using hi)] at h2
      simpa using h2
    have h3' : Vis (relabel scope X.env) x := h3
    have hfr : (x, NameKind.free) ∈ scope.names := by
      rcases h3' with z | z
      · obtain ⟨k, q1, q2, q3⟩ := relabel_vis (env := X.env) (names := scope.names) z
        rcases q3 with q3 | ⟨q3, _⟩
        · subst q3
          exact absurd (List.mem_of_getElem? h1') ((hka _ q1).1 rfl).1
        · cases q3
      · exact hvis x z
    have hkx := (hka _ hfr).2.2 rfl
    obtain ⟨m, hm, hl⟩ := I.loc
    obtain ⟨u, ru, lu⟩ := hl _ x v h1' h2' (by rcases hkx with z | z; exact .inr (.inl z); exact .inr (.inr z))
    refine ⟨u, ru, .inr ⟨?_, ?_⟩⟩
    · rcases h3' with z | z | z
      · obtain ⟨k, q1, q2, q3⟩ := relabel_vis (env := X.env) (names := scope.names) z
        rcases q3 with q3 | ⟨q3, _⟩
        · subst q3
          exact absurd (List.mem_of_getElem? h1') ((hka _ q1).1 rfl).1
        · cases q3
      · exact .inl z
      · exact .inr z
    · rcases lu with ⟨z, _⟩ | ⟨_, c, e, ic⟩
      · rcases hkx with q | q
        · rw [q] at z; cases z
        · rw [q] at z; cases z
      · obtain ⟨c', e'⟩ := Option.isSome_iff_exists.mp (cloF_has (cells := X.env.cells) (acc := []) hfr)
        have e2 := (hcl x c' e').1
        rw [e] at e2
        cases e2
        obtain ⟨o, ho, hd⟩ := ic
        exact ⟨c, e', o, old _ _ ho, hd⟩
  · obtain ⟨v, o, ho, hd⟩ := I.cell x c (hcl x c e).1
    exact ⟨v, o, old _ _ ho, hd⟩
  · exact I.hok.fresh (Nat.le_succ _)
  · have hp' : p = (s.heap.objs.size, { cls := .type "list", data := .seq #[] 0 }) := by simpa using hp
    subst hp'
    refine ⟨hD, I.hok.fresh (Nat.le_refl _), Nat.ne_of_lt (Nat.lt_succ_self _), fun z => ?_, fun v z => nomatch z⟩
    obtain ⟨_, o, ho, _⟩ := I.stack.mem z
    exact absurd (Heap.lt_size ho) (Nat.lt_irrefl _)
  · show (List.replicate own.length none ++ σ).length = (own ++ X.N).length
    rw [List.length_append, List.length_append, List.length_replicate, I.len]

theorem comp_leave {pins pn : List (Addr × Obj)} {σ σ' : St} {H H' : Hp} {s s' : Shared} {fp : List Addr} {cl : List (Str × Addr)} {ys : List V} {us : List Value} {n : Nat} (I : Inv X pins σ H s) (hf : ∀ b ∈ fp, FpOk X pins H b)
    (J : Inv (X.comp own scope ⟨cl, s.heap.objs.size + 1, s, H, fp⟩) pn σ' H' s') (hp : (s.heap.objs.size, ({ cls := .type "list", data := .seq us.toArray n } : Obj)) ∈ pn) (hv : Vals ys us) (hz : ys.length ≤ sizeLine) :
    Inv X pins σ (upd H' s.heap.objs.size (.lst ys)) s' ∧ H' s.heap.objs.size = none := by
  obtain ⟨hD, hDn, _⟩ := J.pin _ (List.mem_append_right _ hp)
  refine ⟨I.call' J.os ⟨fun b o e n hb hx => J.base.keep b o e n hb hx, fun b o e n hb hx => J.base.slot b o e n hb hx, fun b o e n hx => ?_, fun b o e hx => J.base.there b o e hx, fun b xs e => ?_, fun b o u e => ?_, fun b ps e => ?_⟩ ?_ J.bare ?_, hDn⟩
  · rw [upd_ne (Nat.ne_of_lt (Heap.lt_size e))]
    exact J.base.free b o e n hx
  · have q := J.base.tups b xs e
    rw [upd_ne (ne_of_none q hDn)]
    exact q
  · have q := J.base.frzs b o u e
    rw [upd_ne (ne_of_none q hDn)]
    exact q
  · obtain ⟨more, q⟩ := J.base.tbls b ps e
    exact ⟨more, by rw [upd_ne (ne_of_none q hDn)]; exact q⟩
  · exact J.hok.track hDn ⟨hz, us, n, hv, hD⟩
  · intro b hb
    exact ⟨(hf b hb).2.2.2.1, (hf b hb).2.1, (hf b hb).2.2.2.2.1, (hf b hb).2.2.2.2.2⟩

theorem comp_reset {pins pn : List (Addr × Obj)} {σ σ' : St} {H H' : Hp} {s s' : Shared} {fp : List Addr} {cl : List (Str × Addr)} (hk : compOk X.env scope X.N = true) (I : Inv X pins σ H s) (hf : ∀ b ∈ fp, FpOk X pins H b)
    (hcl : ∀ x, (x, NameKind.free) ∈ scope.names → ∃ c, cl.lookup x = some c ∧ X.env.cells.lookup x = some c)
    (J : Inv (X.comp own scope ⟨cl, s.heap.objs.size + 1, s, H, fp⟩) pn σ' H' s') : Inv (X.comp own scope ⟨cl, s.heap.objs.size + 1, s, H, fp⟩) pn (List.replicate own.length none ++ σ) H' s' := by
  have hka := compOk_all hk
  refine ⟨J.ok, J.os, J.bare, J.base, ?_, J.cell, J.free, J.freeC, J.pin, J.hok, ?_⟩
  · obtain ⟨mC, hmC, _⟩ := J.loc
    refine ⟨mC, hmC, fun i x v h1 h2 h3 => ?_⟩
    have hi : own.length ≤ i := by
      by_cases hi : i < own.length
      · rw [List.getElem?_append_left (by simpa using hi), List.getElem?_replicate] at h2
        split at h2 <;> cases h2
      · omega
    have h1' : X.N[i - own.length]? = some x := by
      have q : (own ++ X.N)[i]? = some x := h1
      rwa [List.getElem?_append_right hi] at q
    have h2' : σ[i - own.length]? = some (some v) := by
      rw [List.getElem?_append_right (by simpa using hi)] at h2
      simpa using h2
    have h3' : Vis (relabel scope X.env) x := h3
    have nloc : ¬ (relabel scope X.env).names.lookup x = some .local := fun z => by
      obtain ⟨k, q1, q2, q3⟩ := relabel_vis (env := X.env) (names := scope.names) z
      rcases q3 with q3 | ⟨q3, _⟩
      · subst q3
        exact absurd (List.mem_of_getElem? h1') ((hka _ q1).1 rfl).1
      · cases q3
    have hkk : (relabel scope X.env).names.lookup x = some .cell ∨ (relabel scope X.env).names.lookup x = some .free := by
      rcases h3' with z | z
      · exact absurd z nloc
      · exact z
    have hfr : (x, NameKind.free) ∈ scope.names := by
      have key : ∀ q, (relabel scope X.env).names.lookup x = some q → q = .cell ∨ q = .free → (x, NameKind.free) ∈ scope.names := fun q hq hq' => by
        obtain ⟨k, h1, h2, h3⟩ := relabel_vis (env := X.env) (names := scope.names) hq
        rcases h3 with h3 | ⟨_, h3⟩
        · subst h3
          rcases hq' with z | z
          · exact absurd z (hka _ h1).2.1
          · rw [z] at h1; exact h1
        · rw [h3] at h1; exact h1
      rcases hkk with hx | hx
      · exact key _ hx (.inl rfl)
      · exact key _ hx (.inr rfl)
    have hkx := (hka _ hfr).2.2 rfl
    obtain ⟨m, hm, hl⟩ := I.loc
    obtain ⟨u, ru, lu⟩ := hl _ x v h1' h2' (by rcases hkx with z | z; exact .inr (.inl z); exact .inr (.inr z))
    refine ⟨u, ru, .inr ⟨hkk, ?_⟩⟩
    rcases lu with ⟨z, _⟩ | ⟨_, c, e, ic⟩
    · rcases hkx with q | q
      · rw [q] at z; cases z
      · rw [q] at z; cases z
    · obtain ⟨c', e', e2⟩ := hcl x hfr
      rw [e] at e2
      cases e2
      obtain ⟨o, ho, hd⟩ := ic
      obtain ⟨sl, q⟩ := J.base.any ho (I.freeC x c e) fun z => (hf c z).2.2.2.2.1 x c e rfl
      exact ⟨c, e', _, q, hd⟩
  · show (List.replicate own.length none ++ σ).length = (own ++ X.N).length
    rw [List.length_append, List.length_append, List.length_replicate, I.len]

theorem comp_walk {pins : List (Addr × Obj)} {σ : St} {H : Hp} {s : Shared} {it : Addr} {fp : List Addr} {tn : Nat → Heap → Prop} {J : It} {W : Nat → Nat → List V → Hp → Prop} {E : Value → Shared → Prop} {RR : Value → Addr → Result → Shared → Prop} (hc : X.calm = true)
    (hk : compOk X.env scope X.N = true) (hg : ∀ c, PG (X.comp own scope c) tg (g c)) (ht : ∀ c, PTs (X.comp own scope c) ifs (tt c)) (he : ∀ c, PE (X.comp own scope c) elt (te c))
    (I : Inv X pins σ H s) (T : Turn X.prog X.w X.K tg J fp it tn) (st : tn 0 s.heap) (hf : ∀ b ∈ fp, FpOk X pins H b) {m0 : Nat} (w0 : W 0 m0 [] H) {D : List V → Hp → Prop}
    (turn : ∀ (c : CB) i m ys H, W i m ys H → (J.stop i H ∧ D ys H) ∨
      (J.go i H ∧ ys.length < sizeLine ∧ ∃ N : List V → Hp → Prop, (∀ ys' H', N ys' H' → ∃ m', m' < m ∧ W (i + 1) m' ys' H') ∧ ∀ x H', J.yld i H x H' → g c x (List.replicate own.length none ++ σ) H' fun σ2 H2 => tt c σ2 H2 fun b H3 =>
        if b = true then te c σ2 H3 fun v H4 => N (ys ++ [v]) H4 else N ys H3))
    (fin : ∀ s' m' ys H', (s'.heap.Ns (s.heap.objs.size + 1) m') → H' (s.heap.objs.size + 1) = none → H' s.heap.objs.size = none → Inv X pins σ (upd H' s.heap.objs.size (.lst ys)) s' → D ys H' → RR (.ref s.heap.objs.size) (s.heap.objs.size + 1) (.ok .next) s') :
    wpAny (model X.prog X.w) X.A (newList []) (fun acc s₃ => wpAny (model X.prog X.w) X.A (newFunctionEnv scope X.env.globals (cloF X.env.cells scope.names []) [] X.env.qual none .none (some X.env)) (fun cenv s₄ =>
      codeAny (model X.prog X.w) X.A (.compStart (.ListComp elt [⟨tg, iter, ifs, 0⟩] scope pos) 0 (.ref it) acc { cenv with scope := relabel scope X.env }) (RR acc cenv.locals) s₄) E s₃) E s := by
  have hkk := compOk_kind hk
  have hka := compOk_all hk
  refine wpAny_newObj_type (wpAny_newFunctionEnv (fun y hy => (hka y hy).2.1) (by intro y hy; simp at hy) (fun h₁ hns₁ hsb₁ => ?_) hkk)
  dsimp only at hns₁ hsb₁ ⊢
  generalize hH2 : s.heap.push { cls := .type "list", dict := none, data := .seq ([] : List Value).toArray } = H2 at hns₁ hsb₁ ⊢
  have hC : H2.objs.size = s.heap.objs.size + 1 := by rw [← hH2, Heap.size_push]
  rw [hC] at hns₁ hsb₁ ⊢
  have old : ∀ b o, s.heap.get? b = some o → h₁.get? b = some o := fun b o e => hsb₁.extBut b o (Nat.ne_of_lt (Nat.lt_succ_of_lt (Heap.lt_size e))) (Heap.get?_push_of_some _ (hH2 ▸ Heap.get?_push_of_some _ e))
  have hacc : h₁.get? s.heap.objs.size = some { cls := .type "list", data := .seq #[] 0 } := hsb₁.extBut _ _ (Nat.ne_of_lt (Nat.lt_succ_self _)) (Heap.get?_push_of_some _ (hH2 ▸ Heap.get?_push_size _ rfl))
  have hns : h₁.Ns (s.heap.objs.size + 1) fun _ => none := by simpa using hns₁
  have hfo : ∀ b ∈ fp, ∃ o, s.heap.get? b = some o := fun b hb => let ⟨o, e, _⟩ := T.obj 0 _ st b hb; ⟨o, e⟩
  have st₁ : tn 0 h₁ := T.keep 0 _ _ st fun b _ o e => old b o e
  have I₁ := comp_enter (own := own) (tk := s.toks + ([] : List (Str × Value)).length) hk I hf hfo hns old hacc
  have loop : ∀ s₃ : Shared, s₃ = { s with heap := h₁, toks := s.toks + ([] : List (Str × Value)).length } →
      codeAny (model X.prog X.w) X.A (.compLoop (.ListComp elt [⟨tg, iter, ifs, 0⟩] scope pos) 0 (.ref it) (.ref s.heap.objs.size) (compEnvC scope (cloF X.env.cells scope.names []) (s.heap.objs.size + 1) X.env))
        (RR (.ref s.heap.objs.size) (s.heap.objs.size + 1)) s₃ := by
    rintro s₃ rfl
    have neD : ∀ b ∈ fp, b ≠ s.heap.objs.size := fun b hb => by
      obtain ⟨o, e⟩ := hfo b hb
      exact Nat.ne_of_lt (Heap.lt_size e)
    have stat : ∀ {H' : Hp} {o : Obj}, (∀ b ∈ fp, H' b = none) → ∀ b ∈ fp, FpOk (X.comp own scope ⟨cloF X.env.cells scope.names [], s.heap.objs.size + 1, s, H, fp⟩) [(s.heap.objs.size, o)] H' b := fun {H' o} hn b hb =>
      ⟨hn b hb, (I₁.ok.exf b hb).1, I₁.ok.exfs b hb, .inl hb, (I₁.ok.exf b hb).2, fun p hp => by
        have hp' : p = (s.heap.objs.size, o) := by simpa using hp
        subst hp'
        exact Ne.symm (neD b hb)⟩
    refine comp_loop (fun k s' => ∃ i ys us n H', Inv (X.comp own scope ⟨cloF X.env.cells scope.names [], s.heap.objs.size + 1, s, H, fp⟩) [(s.heap.objs.size, { cls := .type "list", data := .seq (us : List Value).toArray n })] (List.replicate own.length none ++ σ) H' s' ∧
        Vals ys us ∧ ys.length ≤ sizeLine ∧ tn i s'.heap ∧ (∀ b ∈ fp, H' b = none) ∧ W i k ys H') ?_ m0 ⟨0, [], [], 0, H, I₁, .nil, Nat.zero_le _, st₁, fun b hb => (hf b hb).1, w0⟩
    rintro k s3 ⟨i, ys, us, n, H3, I3, hv, hz, st3, fr3, w3⟩
    rcases turn ⟨cloF X.env.cells scope.names [], s.heap.objs.size + 1, s, H, fp⟩ i k ys H3 w3 with ⟨stop, d⟩ | ⟨go, hlt, N, hN, step⟩
    · refine thn (T.done (X.comp own scope ⟨cloF X.env.cells scope.names [], s.heap.objs.size + 1, s, H, fp⟩) rfl rfl rfl hc i _ s3 _ H3 _ I3 (stat fr3) st3 stop) fun r s4 ⟨hr, I4⟩ => ?_
      subst hr
      obtain ⟨m', hm', _⟩ := I4.loc
      obtain ⟨J4, hDn⟩ := comp_leave I hf I4 (List.mem_singleton.mpr rfl) hv hz
      exact fin s4 m' ys H3 hm' I4.free hDn J4 d
    · refine thn (T.item (X.comp own scope ⟨cloF X.env.cells scope.names [], s.heap.objs.size + 1, s, H, fp⟩) rfl rfl rfl hc i _ s3 _ H3 _ I3 (stat fr3) st3 go) fun r s4 ⟨u, hr, h4⟩ => ?_
      subst hr
      refine thn h4 fun _ s5 ⟨x, H5, I5, r5, y5, st5, fr5⟩ => ?_
      have I5' := I5.pinned (stat fr5) (T.obj _ _ st5)
      refine thn (hg _ _ s5 _ H5 x u _ I5' r5 (step x H5 y5)) fun _ s6 ⟨σ6, H6, I6, q6⟩ => ?_
      refine thn (ht _ _ s6 σ6 H6 _ I6 q6) fun b s7 ⟨H7, I7, q7⟩ => ?_
      -- the turn's end: the iterator's records stand, the names are forgotten
      have clH : ∀ x, (x, NameKind.free) ∈ scope.names → ∃ c, (cloF X.env.cells scope.names []).lookup x = some c ∧ X.env.cells.lookup x = some c := fun x hx => by
        obtain ⟨c, e⟩ := I.ok.has x ((hka _ hx).2.2 rfl)
        obtain ⟨c', e'⟩ := Option.isSome_iff_exists.mp (cloF_has (cells := X.env.cells) (acc := []) hx)
        rcases cloF_get e' with q | ⟨_, q⟩
        · simp at q
        · rw [e] at q
          exact ⟨c', e', by rw [e, q]; rfl⟩
      have keepT : ∀ {H' : Hp} {σ' : St} {s' : Shared} {pn : List (Addr × Obj)}, (∀ p ∈ pinsAt fp s5.heap, p ∈ pn) → Inv (X.comp own scope ⟨cloF X.env.cells scope.names [], s.heap.objs.size + 1, s, H, fp⟩) pn σ' H' s' → tn (i + 1) s'.heap ∧ ∀ b ∈ fp, H' b = none := fun {H' σ' s' pn} hs I' =>
        ⟨T.keep _ _ _ st5 fun b hb o e => (I'.pin (b, o) (List.mem_append_right _ (hs _ (mem_pinsAt hb e)))).1, fun b hb => by
          obtain ⟨o, e, _⟩ := T.obj _ _ st5 b hb
          exact (I'.pin (b, o) (List.mem_append_right _ (hs _ (mem_pinsAt hb e)))).2.1⟩
      cases b with
      | false =>
        rw [if_neg Bool.false_ne_true]
        rw [if_neg Bool.false_ne_true] at q7
        obtain ⟨m', hm', w7⟩ := hN _ _ q7
        obtain ⟨t7, f7⟩ := keepT (fun p hp => List.mem_append_right _ hp) I7
        exact ⟨m', hm', i + 1, ys, us, n, H7, comp_reset hk I hf clH I7.unpinned, hv, hz, t7, f7, w7⟩
      | true =>
        rw [if_pos rfl]
        rw [if_pos rfl] at q7
        refine thn (he _ _ s7 σ6 H7 _ I7 q7) fun u8 s8 ⟨v8, H8, I8, r8, q8⟩ => ?_
        obtain ⟨m', hm', w8⟩ := hN _ _ q8
        obtain ⟨t8, f8⟩ := keepT (fun p hp => List.mem_append_right _ hp) I8
        obtain ⟨hD8, nD8, lD8, fD8, _⟩ := I8.pin (s.heap.objs.size, { cls := .type "list", data := .seq us.toArray n }) (List.mem_append_right _ (List.mem_append_left _ (List.mem_singleton.mpr rfl)))
        refine append_at (hsz := by rw [List.size_toArray, ← hv.length]; exact Nat.le_of_lt hlt) hD8 fun h9 hs9 hD9 => ?_
        have J8 : Inv (X.comp own scope ⟨cloF X.env.cells scope.names [], s.heap.objs.size + 1, s, H, fp⟩) (pinsAt fp s5.heap) σ6 H8 s8 := I8.pins_of fun p hp => I8.pin p (List.mem_append_right _ (List.mem_append_right _ hp))
        have J9 : Inv (X.comp own scope ⟨cloF X.env.cells scope.names [], s.heap.objs.size + 1, s, H, fp⟩) (pinsAt fp s5.heap) σ6 H8 { s8 with heap := h9 } := J8.turned (t' := s8.toks) (it := s.heap.objs.size) (fun b o hb e => (hs9.2 b hb).trans e) nD8 lD8 (.inr (Nat.le_refl _))
          (fun x c e z => by
            obtain ⟨v, o, ho, hd⟩ := J8.cell x c e
            rw [z, hD8] at ho
            cases ho
            cases hd)
          (fun p hp => by
            have hp' : p ∈ pinsAt fp s5.heap := by simpa using hp
            exact neD _ (of_pinsAt hp').1)
        obtain ⟨t9, f9⟩ := keepT (fun p hp => hp) J9
        have e9 : h9.get? s.heap.objs.size = some { cls := .type "list", data := .seq (us ++ [u8]).toArray (n + 1) } := by
          rw [hD9, List.push_toArray]
        have J9' : Inv (X.comp own scope ⟨cloF X.env.cells scope.names [], s.heap.objs.size + 1, s, H, fp⟩) [(s.heap.objs.size, { cls := .type "list", data := .seq (us ++ [u8]).toArray (n + 1) })] σ6 H8 { s8 with heap := h9 } := J9.pins_of fun p hp => by
          have hp' : p = (s.heap.objs.size, { cls := .type "list", data := .seq (us ++ [u8]).toArray (n + 1) }) := by simpa using hp
          subst hp'
          exact ⟨e9, nD8, lD8, fD8, fun v z => nomatch z⟩
        exact ⟨m', hm', i + 1, ys ++ [v8], us ++ [u8], n + 1, H8, comp_reset hk I hf clH J9', hv.append (.cons r8 .nil), by rw [List.length_append, List.length_singleton]; exact hlt, t9, f9, w8⟩
  exact codeAny_compStart_list (loop _ rfl) (T.self _ 0 _ _ _ st₁ (loop _ rfl))

theorem comp_clos {pins : List (Addr × Obj)} {σ : St} {H : Hp} {s : Shared} (hk : compOk X.env scope X.N = true) (I : Inv X pins σ H s) : closureFor scope X.env = pure (cloF X.env.cells scope.names []) :=
  closure_eq fun x hx hf => I.ok.has x.1 ((compOk_all hk x hx).2.2 hf)
theorem comp_gone {pins : List (Addr × Obj)} {σ : St} {H : Hp} {s s' : Shared} {C : Addr} {h' : Heap} {m : Str → Option Value} (I : Inv X pins σ H s') (hs : X.s₀.heap.objs.size ≤ C) (hC : C ≠ X.env.locals) (hcl : ∀ x c, X.env.cells.lookup x = some c → c ≠ C) (hp : ∀ p ∈ X.pn ++ pins, p.1 ≠ C) (hn : H C = none)
    (hb : Heap.SameBut C s'.heap h') : Inv X pins σ H { s' with heap := h' } := I.turned (t' := s'.toks) (fun b o hb' e => (hb.2 b hb').trans e) hn hC (.inr hs) hcl hp

theorem pe_lc (own : List Str) (hc : X.calm = true) (hi : PI X tg iter wi) (hg : ∀ c, PG (X.comp own scope c) tg (g c)) (ht : ∀ c, PTs (X.comp own scope c) ifs (tt c)) (he : ∀ c, PE (X.comp own scope c) elt (te c))
    (hk : compOk X.env scope X.N = true := by rfl) (hs : ∀ x, foldedSetIterable iter X.env x = pure x := by intro _; rfl) :
    PE X (.ListComp elt [⟨tg, iter, ifs, 0⟩] scope pos) (tLC own.length wi g tt te) := by
  intro pins s σ H Q I h
  rw [eval_ListComp]
  have hka := compOk_all hk
  refine wpAny_comprehension_free (use := none) rfl hs (comp_clos hk I) (compOk_kind hk) (fun x hx hl => ((hka x hx).1 hl).2) (thn (hi pins s σ H _ I h) fun v s1 h1 => thn h1 fun itv s2 h2 => ?_)
  obtain ⟨it, fp, tn, J, H2, e, I2, T, st2, f2, W, ⟨m0, w0⟩, turn⟩ := h2
  subst e
  refine comp_walk (RR := fun acc C => compPost (model X.prog X.w) X.A X.xe none (EP X pins σ Q) acc C) (D := fun ys H => ∀ p, H p = none → Q (.ref p) (upd H p (.lst ys))) hc hk hg ht he I2 T st2 f2 w0 turn ?_
  intro s' m' ys H' hns hCn hDn J' d
  have lt2 : ∀ {b : Addr} {o : Obj}, s2.heap.get? b = some o → b ≠ s2.heap.objs.size + 1 := fun e => Nat.ne_of_lt (Nat.lt_succ_of_lt (Heap.lt_size e))
  refine ⟨m', hns, fun h' hb => ⟨.ref s2.heap.objs.size, _, comp_gone (m := m') (s := s2) J' (Nat.le_trans I2.sz (Nat.le_succ _)) (Ne.symm (Nat.ne_of_lt (Nat.lt_succ_of_lt I2.lt))) (fun x c e => ?_) (fun p hp => ?_) ?_ hb, rfl, d _ hDn⟩⟩
  · obtain ⟨v, o, ho, _⟩ := I2.cell x c e
    exact lt2 ho
  · exact lt2 (I2.pin p hp).1
  · rw [upd_ne (Nat.ne_of_gt (Nat.lt_succ_self _))]
    exact hCn

theorem ps_lc (own : List Str) {i : Nat} {y : Str} {py spos : Pos} (hc : X.calm = true) (hN : X.N.Nodup) (hiN : X.N[i]? = some y) (hx : Loc X.env.scope y) (hi : PI X tg iter wi) (hg : ∀ c, PG (X.comp own scope c) tg (g c)) (ht : ∀ c, PTs (X.comp own scope c) ifs (tt c)) (he : ∀ c, PE (X.comp own scope c) elt (te c))
    (hsw : swapsWith (.ListComp elt [⟨tg, iter, ifs, 0⟩] scope pos) (some (.Name y py)) spos.line X.env = pure true := by rfl)
    (hk : compOk X.env scope X.N = true := by rfl) (hs : ∀ x, foldedSetIterable iter X.env x = pure x := by intro _; rfl) (hf : X.fn y = true ∨ X.env.scope.names.lookup y = some .local := by first | exact .inl rfl | exact .inr rfl | assumption) :
    PS X (.Assign [.Name y py] (.ListComp elt [⟨tg, iter, ifs, 0⟩] scope pos) spos) (tAsg (tLC own.length wi g tt te) (gName i)) := by
  intro pins s σ H D I h
  rw [exec_Assign_Name_used _ _ _ _ hsw]
  have hka := compOk_all hk
  refine wpAny_bind (wpAny_standAt (wpAny_bind ?_))
  show wpAny _ X.A (do let _ ← comprehension (.ListComp elt [⟨tg, iter, ifs, 0⟩] scope pos) scope X.env _ (newList []) false (eval iter X.env) (some (assign (.Name y py) X.env))) _ _ s
  refine wpAny_bind (wpAny_mono (wpAny_comprehension_free (use := some (assign (.Name y py) X.env)) (Q := fun _ s' => SP X pins D .next s') rfl hs (comp_clos hk I) (compOk_kind hk) (fun x hx hl => ((hka x hx).1 hl).2)
    (thn (hi pins s σ H _ I h) fun v s1 h1 => thn h1 fun itv s2 h2 => ?_)) (fun _ s' hq => wpAny_pure (wpAny_pure hq)) fun _ _ e => e)
  obtain ⟨it, fp, tn, J, H2, e, I2, T, st2, f2, W, ⟨m0, w0⟩, turn⟩ := h2
  subst e
  refine comp_walk (RR := fun acc C => compPost (model X.prog X.w) X.A X.xe (some (assign (.Name y py) X.env)) (fun _ s' => SP X pins D .next s') acc C) (D := fun ys H => ∀ p, H p = none → gName i (.ref p) σ (upd H p (.lst ys)) D.nx) hc hk hg ht he I2 T st2 f2 w0 turn ?_
  intro s' m' ys H' hns hCn hDn J' d
  have lt2 : ∀ {b : Addr} {o : Obj}, s2.heap.get? b = some o → b ≠ s2.heap.objs.size + 1 := fun e => Nat.ne_of_lt (Nat.lt_succ_of_lt (Heap.lt_size e))
  show wpAny _ X.A (assign (.Name y py) X.env (.ref s2.heap.objs.size)) _ _ _
  refine wpAny_assign_Name (store_ok2 (v := .ref s2.heap.objs.size) J' hN hiN hx rfl (fun s'' J'' ⟨a, hsb, ha⟩ => ?_) hf)
  have hLne : X.env.locals ≠ s2.heap.objs.size + 1 := Nat.ne_of_lt (Nat.lt_succ_of_lt I2.lt)
  have hCa : s2.heap.objs.size + 1 ≠ a := by
    rcases ha with ha | ha
    · rw [ha]; exact Ne.symm hLne
    · obtain ⟨v, o, ho, _⟩ := I2.cell _ _ ha
      exact Ne.symm (lt2 ho)
  refine ⟨m', hns.sameBut hsb hCa, fun h' hb => ⟨_, _, comp_gone (m := m') (s := s2) J'' (Nat.le_trans I2.sz (Nat.le_succ _)) (Ne.symm hLne) (fun x c e => ?_) (fun p hp => ?_) ?_ hb, d _ hDn⟩⟩
  · obtain ⟨v, o, ho, _⟩ := I2.cell x c e
    exact lt2 ho
  · exact lt2 (I2.pin p hp).1
  · rw [upd_ne (Nat.ne_of_gt (Nat.lt_succ_self _))]
    exact hCn
end

section
variable {X : Cx} {tg : Expr} {K : PySem.W.Frag} {g : CB → TG} {tt : CB → TT} {te : CB → TE} {σ : St} {H : Hp} {Q : VK} {n : Nat}
noncomputable def iSeq (K : PySem.W.Frag) (tl : TE) : TI := fun σ H R => tl σ H fun x H1 => ∃ a, x = .ref a ∧ (((∃ xs, SqL K H1 a xs) ∧ R (Itl K a) H1) ∨ ((∃ xs, SqT K H1 a xs) ∧ R (Itt K a) H1))
theorem pi_seq {l : Expr} {tl : TE} (hl : PE X l tl) : PI X tg l (iSeq X.K tl) := by
  intro pins s σ H R I h
  refine thn (hl pins s σ H _ I h) fun v s1 ⟨x, H1, I1, r1, q1⟩ => ?_
  obtain ⟨a, e, q1⟩ := q1
  subst e
  cases r1
  rcases q1 with ⟨⟨xs, hq⟩, q⟩ | ⟨⟨xs, hq⟩, q⟩
  · obtain ⟨its, rv, p, hz⟩ := I1.list hq
    refine wpAny_pyIter_list p.isList ?_
    refine ⟨s1.heap.objs.size, [s1.heap.objs.size], _, _, H1, rfl, I1.kept (t' := s1.toks) fun b o e => Heap.get?_push_of_some _ e, turn_list a _, ⟨_, Heap.get?_push_size _ rfl, rfl, rfl⟩, fun b hb => ?_, q⟩
    have e : b = s1.heap.objs.size := by simpa using hb
    subst e
    exact I1.fpOk (Nat.le_refl _) (I1.hok.fresh (Nat.le_refl _))
  · obtain ⟨its, rv, p, hz⟩ := I1.tuple hq
    refine wpAny_pyIter_tuple (show s1.heap.IsTuple a its.toArray from p) ?_
    refine ⟨s1.heap.objs.size, [s1.heap.objs.size], _, _, H1, rfl, I1.kept (t' := s1.toks) fun b o e => Heap.get?_push_of_some _ e, turn_tuple a _, ⟨_, Heap.get?_push_size _ rfl, rfl, rfl⟩, fun b hb => ?_, q⟩
    have e : b = s1.heap.objs.size := by simpa using hb
    subst e
    exact I1.fpOk (Nat.le_refl _) (I1.hok.fresh (Nat.le_refl _))
theorem lc_any {J : It} (k : Nat) (hk : k ≤ 1000) (Pv : Nat → List V → Hp → Prop) (h0 : Pv 0 [] H) (hgo : ∀ i ys H, i < k → Pv i ys H → J.go i H) (hst : ∀ ys H, Pv k ys H → J.stop k H) (hl : ∀ i ys H, Pv i ys H → ys.length ≤ i)
    (hs : ∀ c i x ys H H', i < k → J.yld i H x H' → Pv i ys H → g c x (List.replicate n none ++ σ) H' fun σ2 H2 => tt c σ2 H2 fun b H3 => if b = true then te c σ2 H3 fun v H4 => Pv (i + 1) (ys ++ [v]) H4 else Pv (i + 1) ys H3)
    (hd : ∀ ys H, Pv k ys H → ∀ p, H p = none → Q (.ref p) (upd H p (.lst ys))) : LcEnd J n g tt te σ Q H := by
  refine ⟨fun i m ys H => m = k - i ∧ i ≤ k ∧ Pv i ys H, ⟨k, by simp, Nat.zero_le _, h0⟩, ?_⟩
  rintro c i m ys H ⟨rfl, hi, p⟩
  by_cases hlt : i < k
  · refine .inr ⟨hgo i ys H hlt p, ?_, Pv (i + 1), fun ys' H' p' => ⟨k - (i + 1), by omega, rfl, hlt, p'⟩, fun x H' y => hs c i x ys H H' hlt y p⟩
    have := hl i ys H p
    have h24 := sizeLine_eq
    omega
  · have e : i = k := by omega
    subst e
    exact .inl ⟨hst ys H p, hd ys H p⟩
theorem lc_list {a : Addr} {xs : List V} (hk : xs.length ≤ 1000) (Pv : Nat → List V → Hp → Prop) (h0 : Pv 0 [] H) (hq : ∀ i ys H, Pv i ys H → SqL K H a xs) (hl : ∀ i ys H, Pv i ys H → ys.length ≤ i)
    (hs : ∀ c i x ys H, xs[i]? = some x → Pv i ys H → g c x (List.replicate n none ++ σ) H fun σ2 H2 => tt c σ2 H2 fun b H3 => if b = true then te c σ2 H3 fun v H4 => Pv (i + 1) (ys ++ [v]) H4 else Pv (i + 1) ys H3)
    (hd : ∀ ys H, Pv xs.length ys H → ∀ p, H p = none → Q (.ref p) (upd H p (.lst ys))) : LcEnd (Itl K a) n g tt te σ Q H :=
  lc_any xs.length hk Pv h0 (fun i ys H hi p => ⟨xs, xs[i], hq i ys H p, by simp [hi]⟩) (fun ys H p => ⟨xs, hq _ ys H p, Nat.le_refl _⟩) hl (fun c i x ys H H' hi y p => by
    obtain ⟨e, y⟩ := y
    subst e
    exact hs c i x ys _ (y xs (hq i ys _ p)) p) hd
theorem lc_tup {a : Addr} {xs : List V} (hk : xs.length ≤ 1000) (Pv : Nat → List V → Hp → Prop) (h0 : Pv 0 [] H) (hq : ∀ i ys H, Pv i ys H → SqT K H a xs) (hl : ∀ i ys H, Pv i ys H → ys.length ≤ i)
    (hs : ∀ c i x ys H, xs[i]? = some x → Pv i ys H → g c x (List.replicate n none ++ σ) H fun σ2 H2 => tt c σ2 H2 fun b H3 => if b = true then te c σ2 H3 fun v H4 => Pv (i + 1) (ys ++ [v]) H4 else Pv (i + 1) ys H3)
    (hd : ∀ ys H, Pv xs.length ys H → ∀ p, H p = none → Q (.ref p) (upd H p (.lst ys))) : LcEnd (Itt K a) n g tt te σ Q H :=
  lc_any xs.length hk Pv h0 (fun i ys H hi p => ⟨xs, xs[i], hq i ys H p, by simp [hi]⟩) (fun ys H p => ⟨xs, hq _ ys H p, Nat.le_refl _⟩) hl (fun c i x ys H H' hi y p => by
    obtain ⟨e, y⟩ := y
    subst e
    exact hs c i x ys _ (y xs (hq i ys _ p)) p) hd
theorem lc_rng {lo : Int} {k : Nat} (hk : k ≤ 1000) (Pv : Nat → List V → Hp → Prop) (h0 : Pv 0 [] H) (hl : ∀ i ys H, Pv i ys H → ys.length ≤ i)
    (hs : ∀ c i ys H, i < k → Pv i ys H → g c (.int (lo + i)) (List.replicate n none ++ σ) H fun σ2 H2 => tt c σ2 H2 fun b H3 => if b = true then te c σ2 H3 fun v H4 => Pv (i + 1) (ys ++ [v]) H4 else Pv (i + 1) ys H3)
    (hd : ∀ ys H, Pv k ys H → ∀ p, H p = none → Q (.ref p) (upd H p (.lst ys))) : LcEnd (Itr lo k) n g tt te σ Q H :=
  lc_any k hk Pv h0 (fun i ys H hi p => hi) (fun ys H p => Nat.le_refl k) hl (fun c i x ys H H' hi y p => by
    obtain ⟨e, y⟩ := y
    subst e y
    exact hs c i ys _ hi p) hd
theorem lc_seq {a : Addr} {xs : List V} (hk : xs.length ≤ 1000) (Pv : Nat → List V → Hp → Prop) (h0 : Pv 0 [] H) (hq : (∀ i ys H, Pv i ys H → SqL K H a xs) ∨ (∀ i ys H, Pv i ys H → SqT K H a xs)) (hl : ∀ i ys H, Pv i ys H → ys.length ≤ i)
    (hs : ∀ c i x ys H, xs[i]? = some x → Pv i ys H → g c x (List.replicate n none ++ σ) H fun σ2 H2 => tt c σ2 H2 fun b H3 => if b = true then te c σ2 H3 fun v H4 => Pv (i + 1) (ys ++ [v]) H4 else Pv (i + 1) ys H3)
    (hd : ∀ ys H, Pv xs.length ys H → ∀ p, H p = none → Q (.ref p) (upd H p (.lst ys))) :
    ((∃ xs, SqL K H a xs) ∧ LcEnd (Itl K a) n g tt te σ Q H) ∨ ((∃ xs, SqT K H a xs) ∧ LcEnd (Itt K a) n g tt te σ Q H) := by
  rcases hq with hq | hq
  · exact .inl ⟨⟨xs, hq _ _ _ h0⟩, lc_list hk Pv h0 hq hl hs hd⟩
  · exact .inr ⟨⟨xs, hq _ _ _ h0⟩, lc_tup hk Pv h0 hq hl hs hd⟩
end
end L2

set_option Elab.async false
set_option linter.all false
set_option maxRecDepth 100000
namespace NfSort
open PySem PySem.W PyProof.Rows

noncomputable def kwp {α : Type} (n : Nat) (key : Nat → Int) : KasT α → (α → Prop) → Prop
  | .ret a, Q => Q a
  | .ask i j k, Q => i < n ∧ j < n ∧ kwp n key (k (decide (key i < key j))) Q
theorem kwp_mono {α : Type} {n : Nat} {key : Nat → Int} {Q Q' : α → Prop} (h : ∀ a, Q a → Q' a) : ∀ {t : KasT α}, kwp n key t Q → kwp n key t Q'
  | .ret a, q => h a q
  | .ask _ _ k, q => ⟨q.1, q.2.1, kwp_mono h q.2.2⟩
theorem kwp_bind {α β : Type} {n : Nat} {key : Nat → Int} {f : α → KasT β} {Q : β → Prop} : ∀ {t : KasT α}, kwp n key t (fun a => kwp n key (f a) Q) → kwp n key (t.bind f) Q
  | .ret a, q => q
  | .ask _ _ k, q => ⟨q.1, q.2.1, kwp_bind q.2.2⟩
theorem kwp_run {α : Type} {n : Nat} {key : Nat → Int} {cmp : Nat → Nat → (Bool → Shared → Prop) → Shared → Prop} {s : Shared} {G : α → Shared → Prop} (hc : ∀ i j C, i < n → j < n → C (decide (key i < key j)) s → cmp i j C s) :
    ∀ {t : KasT α}, kwp n key t (fun a => G a s) → t.kasWp cmp G s
  | .ret _, q => q
  | .ask i j k, q => hc i j _ q.1 q.2.1 (kwp_run hc q.2.2)

section
variable {n : Nat} {key : Nat → Int} {p : Array Nat}
noncomputable def Pm (n : Nat) (p : Array Nat) : Prop := p.Perm (List.range n).toArray
noncomputable def kk (key : Nat → Int) (p : Array Nat) (i : Nat) : Int := key (p.getD i 0)
theorem Pm.size (h : Pm n p) : p.size = n := by
  have := Array.Perm.size_eq h
  simpa using this
theorem getD_eq (p : Array Nat) (i : Nat) : p.getD i 0 = (p[i]?).getD 0 := by
  by_cases h : i < p.size <;> simp [Array.getD, h]
theorem Pm.lt (h : Pm n p) {i : Nat} (hi : i < n) : p.getD i 0 < n := by
  have hs := h.size
  have hi' : i < p.size := by omega
  have hm : p[i] ∈ p.toList := by
    have := Array.getElem_mem hi'
    simpa using this
  have hp : p.toList.Perm (List.range n) := by
    have := Array.perm_iff_toList_perm.mp h
    simpa using this
  have e : p.getD i 0 = p[i] := by simp [Array.getD, hi']
  rw [e]
  exact List.mem_range.mp (hp.mem_iff.mp hm)
theorem Pm.rev (h : Pm n p) (i j : Nat) : Pm n (kas_rev p i j) := Array.Perm.trans (mirror_perm _ _ _ _) h
theorem Pm.bub (h : Pm n p) (i j : Nat) : Pm n (bubble p i j) := Array.Perm.trans (bubble_perm _ _ _) h
theorem kk_rev (h : Pm n p) {i j : Nat} (hj : j ≤ n) (t : Nat) : kk key (kas_rev p i j) t = if i ≤ t ∧ t < j then kk key p (i + j - 1 - t) else kk key p t := by
  unfold kk kas_rev
  rw [getD_eq, getElem?_mirror_all (by rw [h.size]; exact hj)]
  split
  · rw [getD_eq]
  · rw [getD_eq]
theorem kk_bub (h : Pm n p) {k l : Nat} (hk : k < n) (hl : l ≤ k) (t : Nat) : kk key (bubble p k (k - l)) t = if t = l then kk key p k else if l < t ∧ t ≤ k then kk key p (t - 1) else kk key p t := by
  unfold kk
  rw [getD_eq, getElem?_bubble (by rw [h.size]; exact hk) _ (by omega)]
  have e : k - (k - l) = l := by omega
  rw [e]
  split
  · rw [getD_eq]
  · split
    · rw [getD_eq]
    · rw [getD_eq]
noncomputable def Up (key : Nat → Int) (p : Array Nat) (m : Nat) : Prop := ∀ i j, i ≤ j → j < m → kk key p i ≤ kk key p j
noncomputable def Dn (key : Nat → Int) (p : Array Nat) (m : Nat) : Prop := ∀ i j, i ≤ j → j < m → kk key p j ≤ kk key p i
noncomputable def Rn (key : Nat → Int) (p : Array Nat) (m q : Nat) : Prop := q + 1 ≤ m ∧ ∀ t, m ≤ t + q + 1 → t < m → kk key p t = kk key p (m - 1)

theorem Up.more {a : Nat} (h : Up key p a) (h1 : 1 ≤ a) (hx : kk key p (a - 1) ≤ kk key p a) : Up key p (a + 1) := fun i j hij hj => by
  by_cases hja : j < a
  · exact h i j hij hja
  · obtain rfl : j = a := by omega
    by_cases hi : i = j
    · subst hi; exact Int.le_refl _
    · exact Int.le_trans (h i (j - 1) (by omega) (by omega)) hx
theorem Dn.more {a : Nat} (h : Dn key p a) (h1 : 1 ≤ a) (hx : kk key p a ≤ kk key p (a - 1)) : Dn key p (a + 1) := fun i j hij hj => by
  by_cases hja : j < a
  · exact h i j hij hja
  · obtain rfl : j = a := by omega
    by_cases hi : i = j
    · subst hi; exact Int.le_refl _
    · exact Int.le_trans hx (h i (j - 1) (by omega) (by omega))

theorem asc_ok (hp : Pm n p) : ∀ (f a : Nat), 1 ≤ a → a + f ≤ n → Up key p a → kwp n key (kas_asc p f a) (fun m => a ≤ m ∧ m ≤ a + f ∧ Up key p m ∧ (m < a + f → kk key p m < kk key p (m - 1)))
  | 0, a, h1, hf, hu => ⟨Nat.le_refl _, Nat.le_refl _, hu, fun h => absurd h (by omega)⟩
  | f + 1, a, h1, hf, hu => by
    refine ⟨hp.lt (by omega), hp.lt (by omega), ?_⟩
    by_cases hc : key (p.getD a 0) < key (p.getD (a - 1) 0)
    · (rw [decide_eq_true hc]; dsimp only; rw [if_pos rfl])
      exact ⟨Nat.le_refl _, by omega, hu, fun _ => hc⟩
    · (rw [decide_eq_false hc]; dsimp only; rw [if_neg Bool.false_ne_true])
      refine kwp_mono (fun m ⟨a1, a2, a3, a4⟩ => ⟨by omega, by omega, a3, fun h => a4 (by omega)⟩) (asc_ok hp f (a + 1) (by omega) (by omega) (hu.more h1 (Int.not_lt.mp hc)))
theorem rev_run (hp : Pm n p) {a q : Nat} (ha : a ≤ n) (hr : Rn key p a q) (t : Nat) : kk key (kas_rev p (a - (q + 1)) a) t = kk key p t := by
  rw [kk_rev hp ha]
  split
  · rename_i h
    rw [hr.2 t (by omega) h.2]
    exact hr.2 _ (by have := hr.1; omega) (by omega)
  · rfl
theorem Dn.eq {p' : Array Nat} {m : Nat} (h : Dn key p m) (e : ∀ t, kk key p' t = kk key p t) : Dn key p' m := fun i j a b => by rw [e, e]; exact h i j a b
theorem desc_ok : ∀ (f : Nat) (p : Array Nat) (a q : Nat), Pm n p → 1 ≤ a → a + f ≤ n → Dn key p a → Rn key p a q →
    kwp n key (kas_desc f p a q) (fun r => Pm n r.1 ∧ a ≤ r.2.1 ∧ r.2.1 ≤ a + f ∧ Dn key r.1 r.2.1 ∧ Rn key r.1 r.2.1 r.2.2)
  | 0, p, a, q, hp, h1, hf, hd, hr => ⟨hp, Nat.le_refl _, Nat.le_refl _, hd, hr⟩
  | f + 1, p, a, q, hp, h1, hf, hd, hr => by
    refine ⟨hp.lt (by omega), hp.lt (by omega), ?_⟩
    have fin : ∀ {p' : Array Nat} {q' : Nat}, Pm n p' → Dn key p' (a + 1) → Rn key p' (a + 1) q' → kwp n key (kas_desc f p' (a + 1) q') (fun r => Pm n r.1 ∧ a ≤ r.2.1 ∧ r.2.1 ≤ a + (f + 1) ∧ Dn key r.1 r.2.1 ∧ Rn key r.1 r.2.1 r.2.2) := fun x y z =>
      kwp_mono (fun r ⟨a1, a2, a3, a4, a5⟩ => ⟨a1, by omega, by omega, a4, a5⟩) (desc_ok f _ (a + 1) _ x (by omega) (by omega) y z)
    have rn0 : ∀ p' : Array Nat, Rn key p' (a + 1) 0 := fun p' => ⟨by omega, fun t h1 h2 => by
      have e : t = a + 1 - 1 := by omega
      rw [e]⟩
    by_cases hc : key (p.getD a 0) < key (p.getD (a - 1) 0)
    · (rw [decide_eq_true hc]; dsimp only; rw [if_pos rfl])
      have hc' : kk key p a < kk key p (a - 1) := hc
      by_cases hq : q > 0
      · rw [if_pos hq]
        have e := rev_run (key := key) hp (by omega) hr
        exact fin (hp.rev _ _) ((hd.more h1 (Int.le_of_lt hc')).eq e) (rn0 _)
      · rw [if_neg hq]
        exact fin hp (hd.more h1 (Int.le_of_lt hc')) (rn0 _)
    · (rw [decide_eq_false hc]; dsimp only; rw [if_neg Bool.false_ne_true])
      refine ⟨hp.lt (by omega), hp.lt (by omega), ?_⟩
      by_cases hc2 : key (p.getD (a - 1) 0) < key (p.getD a 0)
      · (rw [decide_eq_true hc2]; dsimp only; rw [if_pos rfl])
        exact ⟨hp, Nat.le_refl _, (by show a ≤ a + (f + 1); omega), hd, hr⟩
      · (rw [decide_eq_false hc2]; dsimp only; rw [if_neg Bool.false_ne_true])
        have e : kk key p a = kk key p (a - 1) := Int.le_antisymm (Int.not_lt.mp hc2) (Int.not_lt.mp hc)
        refine fin hp (hd.more h1 (Int.le_of_eq e)) ⟨by have := hr.1; omega, fun t t1 t2 => ?_⟩
        show _ = kk key p a
        by_cases ht : t = a
        · rw [ht]
        · rw [e]
          exact hr.2 t (by omega) (by omega)
theorem tail3_ok {a : Nat} (hp : Pm n p) (h1 : 1 ≤ a) (ha : a ≤ n) (hd : Dn key p a) : kwp n key (kas_tail3 a n p) (fun r => Pm n r.2 ∧ 1 ≤ r.1 ∧ r.1 ≤ n ∧ Up key r.2 r.1) := by
  unfold kas_tail3
  have hu : Up key (kas_rev p 0 a) a := fun i j hij hj => by
    rw [kk_rev hp ha, kk_rev hp ha, if_pos ⟨by omega, by omega⟩, if_pos ⟨by omega, hj⟩]
    exact hd _ _ (by omega) (by omega)
  refine kwp_bind (kwp_mono (fun m ⟨a1, a2, a3, _⟩ => ?_) (asc_ok (hp.rev 0 a) (n - a) a h1 (by omega) hu))
  exact ⟨hp.rev 0 a, by omega, by omega, a3⟩
theorem descPart_ok {a : Nat} (hp : Pm n p) (ha : a + 1 ≤ n) (hd : Dn key p (a + 1)) : kwp n key (kas_descPart a n p) (fun r => Pm n r.2 ∧ 1 ≤ r.1 ∧ r.1 ≤ n ∧ Up key r.2 r.1) := by
  unfold kas_descPart
  refine kwp_bind (kwp_mono (fun r ⟨a1, a2, a3, a4, a5⟩ => ?_) (desc_ok (n - (a + 1)) p (a + 1) 0 hp (by omega) (by omega) hd ⟨by omega, fun t h1 h2 => by
    have e : t = a + 1 - 1 := by omega
    rw [e]⟩))
  split
  · exact tail3_ok (a1.rev _ _) (by omega) (by omega) (a4.eq (rev_run a1 (by omega) a5))
  · exact tail3_ok a1 (by omega) (by omega) a4
theorem count_ok (hp : Pm n p) (h1 : 1 ≤ n) : kwp n key (kas_count n p) (fun r => Pm n r.2 ∧ 1 ≤ r.1 ∧ r.1 ≤ n ∧ Up key r.2 r.1) := by
  unfold kas_count
  have u1 : Up key p 1 := fun i j hij hj => by
    have e : i = j := by omega
    rw [e]; exact Int.le_refl _
  refine kwp_bind (kwp_mono (fun m ⟨a1, a2, a3, a4⟩ => ?_) (asc_ok hp (n - 1) 1 (Nat.le_refl _) (by omega) u1))
  by_cases hm : m = n
  · rw [if_pos (by simpa using hm)]
    exact ⟨hp, by omega, by omega, a3⟩
  · rw [if_neg (by simpa using hm)]
    have hlt := a4 (by omega)
    by_cases hm1 : m > 1
    · rw [if_pos hm1]
      refine ⟨hp.lt (by omega), hp.lt (by omega), ?_⟩
      by_cases hc : key (p.getD 0 0) < key (p.getD (m - 1) 0)
      · (rw [decide_eq_true hc]; dsimp only; rw [if_pos rfl])
        exact ⟨hp, by omega, by omega, a3⟩
      · (rw [decide_eq_false hc]; dsimp only; rw [if_neg Bool.false_ne_true])
        have hall : ∀ t, t < m → kk key p t = kk key p 0 := fun t ht => by
          have e1 := a3 0 t (by omega) ht
          have e2 := a3 t (m - 1) (by omega) (by omega)
          have e3 : kk key p (m - 1) ≤ kk key p 0 := Int.not_lt.mp hc
          omega
        have e : ∀ t, kk key (kas_rev p 0 m) t = kk key p t := fun t => by
          rw [kk_rev hp (by omega)]
          split
          · rename_i h
            rw [hall t h.2, hall _ (by omega)]
          · rfl
        refine descPart_ok (hp.rev 0 m) (by omega) (Dn.eq (p := p) (Dn.more (fun i j hij hj => ?_) (by omega) (Int.le_of_lt hlt)) e)
        rw [hall i (by omega), hall j hj]
        exact Int.le_refl _
    · rw [if_neg hm1]
      obtain rfl : m = 1 := by omega
      refine descPart_ok hp (by omega) (Dn.more (fun i j hij hj => ?_) (by omega) (Int.le_of_lt hlt))
      have e : i = j := by omega
      rw [e]; exact Int.le_refl _
theorem place_ok {k : Nat} (hp : Pm n p) (hk : k < n) (hu : Up key p k) : ∀ (f l r : Nat), l ≤ r → r ≤ k → r ≤ l + f → (∀ t, t < l → kk key p t ≤ kk key p k) → (∀ t, r ≤ t → t < k → kk key p k < kk key p t) →
    kwp n key (kas_place p k f l r) (fun l' => l' ≤ k ∧ (∀ t, t < l' → kk key p t ≤ kk key p k) ∧ (∀ t, l' ≤ t → t < k → kk key p k < kk key p t))
  | 0, l, r, h1, h2, h3, h4, h5 => ⟨by omega, h4, fun t a b => h5 t (by omega) b⟩
  | f + 1, l, r, h1, h2, h3, h4, h5 => by
    unfold kas_place
    by_cases hlr : l ≥ r
    · rw [if_pos hlr]
      exact ⟨by omega, h4, fun t a b => h5 t (by omega) b⟩
    · rw [if_neg hlr]
      have hm : (l + r) / 2 < r := by omega
      refine ⟨hp.lt hk, hp.lt (by omega), ?_⟩
      by_cases hc : key (p.getD k 0) < key (p.getD ((l + r) / 2) 0)
      · (rw [decide_eq_true hc]; dsimp only; rw [if_pos rfl])
        have hc' : kk key p k < kk key p ((l + r) / 2) := hc
        exact place_ok hp hk hu f l _ (by omega) (by omega) (by omega) h4 fun t a b => Int.lt_of_lt_of_le hc' (hu _ t a b)
      · (rw [decide_eq_false hc]; dsimp only; rw [if_neg Bool.false_ne_true])
        have hc' : kk key p ((l + r) / 2) ≤ kk key p k := Int.not_lt.mp hc
        exact place_ok hp hk hu f _ r (by omega) (by omega) (by omega) (fun t a => Int.le_trans (hu t _ (by omega) (by omega)) hc') h5
theorem bin_ok : ∀ (f : Nat) (p : Array Nat) (k : Nat), Pm n p → k + f ≤ n → Up key p k → kwp n key (kas_bin f p k) (fun p' => Pm n p' ∧ Up key p' (k + f))
  | 0, p, k, hp, hk, hu => ⟨hp, hu⟩
  | f + 1, p, k, hp, hk, hu => by
    unfold kas_bin
    refine kwp_bind (kwp_mono (fun l ⟨a1, a2, a3⟩ => ?_) (place_ok hp (by omega) hu k 0 k (Nat.zero_le _) (Nat.le_refl _) (by omega) (fun t h => absurd h (by omega)) (fun t h1 h2 => absurd h1 (by omega))))
    have e := kk_bub (key := key) hp (k := k) (by omega) a1
    have hu' : Up key (bubble p k (k - l)) (k + 1) := fun i j hij hj => by
      rw [e, e]
      by_cases hi : i = l
      · rw [if_pos hi]
        by_cases hj' : j = l
        · rw [if_pos hj']; exact Int.le_refl _
        · rw [if_neg hj', if_pos ⟨by omega, by omega⟩]
          exact Int.le_of_lt (a3 _ (by omega) (by omega))
      · rw [if_neg hi]
        by_cases hi2 : l < i ∧ i ≤ k
        · rw [if_pos hi2, if_neg (by omega), if_pos ⟨by omega, by omega⟩]
          exact hu _ _ (by omega) (by omega)
        · rw [if_neg hi2]
          by_cases hj' : j = l
          · rw [if_pos hj']
            exact a2 i (by omega)
          · rw [if_neg hj']
            by_cases hj2 : l < j ∧ j ≤ k
            · rw [if_pos hj2]
              exact hu _ _ (by omega) (by omega)
            · rw [if_neg hj2]
              exact hu _ _ hij (by omega)
    refine kwp_mono (fun p' ⟨b1, b2⟩ => ⟨b1, ?_⟩) (bin_ok f _ (k + 1) (hp.bub _ _) (by omega) hu')
    have e2 : k + (f + 1) = k + 1 + f := by omega
    rw [e2]; exact b2
theorem sort_ok (h1 : 1 ≤ n) : kwp n key (kas_sort n) (fun p => Pm n p ∧ Up key p n) := by
  unfold kas_sort
  refine kwp_bind (kwp_mono (fun r ⟨a1, a2, a3, a4⟩ => ?_) (count_ok (p := (List.range n).toArray) (Array.Perm.refl _) h1))
  have e : max r.1 1 = r.1 := by omega
  rw [e]
  split
  · refine kwp_mono (fun p' ⟨b1, b2⟩ => ⟨b1, ?_⟩) (bin_ok (n - r.1) r.2 r.1 a1 (by omega) a4)
    have e2 : r.1 + (n - r.1) = n := by omega
    rw [e2] at b2; exact b2
  · have e2 : r.1 = n := by omega
    rw [e2] at a4
    exact ⟨a1, a4⟩
end
end NfSort

set_option Elab.async false
set_option linter.all false
set_option maxRecDepth 100000
namespace L2
open PySem PySem.Spec PyProof.Rows

section
variable {prog : Program} {w : World} {A : Around} {E : Value → Shared → Prop} {s : Shared}
theorem draw_listN {it t : Addr} {items : Array Value} (hne : t ≠ it) : ∀ (n i : Nat) (s : Shared) (Q : List Value → Shared → Prop), s.heap.IsListIter it t i → s.heap.IsList t items → i + n ≤ items.size →
    (∀ h', h'.IsListIter it t (i + n) → Heap.SameBut it s.heap h' → Q ((items.toList.drop i).take n) { s with heap := h' }) → wpAny (model prog w) A (draw (.ref it) n) Q E s
  | 0, i, s, Q, hit, _, _, hQ => by
    show wpAny _ _ (pure []) Q E s
    exact wpAny_pure (by simpa using hQ s.heap hit (Heap.SameBut.refl ..))
  | n + 1, i, s, Q, hit, ht, hle, hQ => by
    have hlt : i < items.size := by omega
    show wpAny _ _ (pyNext (.ref it) >>= _) Q E s
    refine wpAny_bind (wpAny_pyNext_list_item hit ht (x := items[i]) (by simp [hlt]) fun h₁ hit₁ hs₁ => ?_)
    refine wpAny_bind (wpAny_holding (draw_listN hne n (i + 1) _ _ hit₁ (ht.extBut hs₁.extBut hne) (by omega) fun h₂ hit₂ hs₂ => wpAny_pure ?_))
    have hd : items.toList.drop i = items[i] :: items.toList.drop (i + 1) := by simp [List.drop_eq_getElem_cons, hlt]
    have := hQ h₂ (by rw [show i + (n + 1) = i + 1 + n by omega]; exact hit₂) (hs₁.trans hs₂)
    rw [hd, List.take_succ_cons] at this
    exact this
theorem unpackItems_listN {t : Addr} {items : Array Value} {Q : List Value → Shared → Prop} (hh : A.handled = none) (ht : s.heap.IsList t items)
    (hQ : ∀ h', Heap.ExtBut s.heap.objs.size s.heap h' → Q items.toList { s with heap := h' }) : wpAny (model prog w) A (unpackItems (.ref t) items.size none) Q E s := by
  have hlt : t ≠ s.heap.objs.size := by obtain ⟨o, ho, _⟩ := ht; exact Nat.ne_of_lt (Heap.lt_size ho)
  have hT : s.TypeIs (.ref t) "list" := by obtain ⟨o, ho, hc, _⟩ := ht; exact ⟨o, ho, hc⟩
  unfold unpackItems
  refine wpAny_bind ?_
  · unfold notIterableAtAll
    refine wpAny_bind (wpAny_specialOf hT slot_list_iter.lookup ?_)
    refine wpAny_pure ?_
    simp only [Bool.false_eq_true, if_false]
    refine wpAny_bind (wpAny_holding (wpAny_pyIter_list ht ?_))
    refine wpAny_bind (wpAny_holding (draw_listN hlt items.size 0 _ _ ⟨_, Heap.get?_push_size _ rfl, rfl, rfl⟩ (ht.push _) (by omega) fun h₁ hit₁ hs₁ => ?_))
    have hall : List.take items.size (List.drop 0 items.toList) = items.toList := by
      rw [List.drop_zero]; exact List.take_of_length_le (by simp)
    rw [hall]
    rw [if_neg (by simp)]
    have ht₁ : h₁.IsList t items := (ht.push _).extBut hs₁.extBut hlt
    refine wpAny_bind (wpAny_holding (wpAny_pyNext_list_end hh hit₁ ht₁ (by simp) fun h₂ he₂ => ?_))
    simp only [Option.isSome_none, Bool.false_eq_true, if_false]
    refine wpAny_pure (hQ h₂ fun b o hb e => he₂ b o hb (hs₁.extBut b o hb (Heap.get?_push_of_some _ e)))
theorem unpack_listN {t : Addr} {items : Array Value} {targets : List (Bool × (Value → Sem Unit))} {Q : Unit → Shared → Prop} (hh : A.handled = none) (ht : s.heap.IsList t items)
    (hn : targets.length = items.size) (hstar : targets.findIdx? (·.1) = none)
    (h : ∀ h', Heap.ExtBut s.heap.objs.size s.heap h' → wpAny (model prog w) A (assignInOrder (targets.map (·.2)) items.toList) Q E { s with heap := h' }) :
    wpAny (model prog w) A (unpack (.ref t) targets) Q E s := by
  unfold unpack
  rw [hn, hstar]
  exact wpAny_bind (wpAny_holding (unpackItems_listN hh ht h))
end
section
variable {X : Cx} {pos : Pos}
noncomputable def gLst (K : PySem.W.Frag) (n : Nat) (t : TGs) : TG := fun v σ H Q => ∃ a xs, v = .ref a ∧ SqL K H a xs ∧ xs.length = n ∧ t xs σ H Q
theorem pg_lst {es : List Expr} {k : Nat} {t : TGs} {n : Nat} (hc : X.calm = true) (h : PGs X es t)
    (hn : (assignEach es X.env).length = n := by rfl) (hst : (assignEach es X.env).findIdx? (·.1) = none := by rfl) : PG X (.Tuple es k pos) (gLst X.K n t) := by
  intro pins s σ H v u Q I r hw
  obtain ⟨a, xs, e1, hq, hl, hw⟩ := hw
  subst e1
  cases r
  obtain ⟨its, rv, ht, hz⟩ := I.list hq
  rw [PyProof.Rows.assign_Tuple]
  refine wpAny_bind (wpAny_standAt (unpack_listN (I.ok.hd hc) ht.isList (by simp [hn, ← hl, rv.length]) hst fun h' hx => ?_))
  have I1 : Inv X pins σ H { s with heap := h' } := I.kept (t' := s.toks) fun b o e => hx b o (Nat.ne_of_lt (Heap.lt_size e)) e
  exact h pins _ σ H xs _ Q I1 (by simpa using rv) hw
end

section
variable {X : Cx}
theorem call_isinst1 : CallR X (.builtin "isinstance") (fun xs H Q => ∃ x c t b, xs = [x, .ty c] ∧ TyOf X.K H x t ∧ PySem.W.kitOne X.K t (.type c) = some b ∧ Q (.bl b) H) := by
  intro pins s σ H xs us Q I r h
  obtain ⟨x, c, t, b, rfl, ty, e, q⟩ := h
  obtain ⟨u, u2, rfl, rx, rc⟩ := vals2 r
  cases rc
  exact isinst_ok I rx ty e fun tk => ⟨.bl b, H, I.tok _, rfl, q⟩
theorem call_isinst2 : CallR X (.builtin "isinstance") (fun xs H Q => ∃ x p c1 c2 t b, xs = [x, .ref p] ∧ TyOf X.K H x t ∧ SqT X.K H p [.ty c1, .ty c2] ∧ PySem.W.kitAny X.K t [.type c1, .type c2] = some b ∧ Q (.bl b) H) := by
  intro pins s σ H xs us Q I r h
  obtain ⟨x, p, c1, c2, t, b, rfl, ty, hp, e, q⟩ := h
  obtain ⟨u, u2, rfl, rx, rc⟩ := vals2 r
  cases rc
  obtain ⟨its, rv, ⟨o, ho, hcl, n, hd⟩, hz⟩ := I.tuple hp
  obtain ⟨v1, v2, rfl, r1, r2⟩ := vals2 rv
  cases r1
  cases r2
  obtain ⟨oc, od, odt, osl⟩ := o
  cases hcl
  cases hd
  have fin : ∀ tk, EP X pins σ Q (.bool b) { s with toks := tk } := fun tk => ⟨.bl b, H, I.tok _, rfl, q⟩
  cases ty with
  | non => cases (show u = Value.none from rx); exact PySem.W.kia_tup PySem.W.kitx_none I.kIn True.intro ho e (fun z => nomatch z) fin
  | bl y => cases (show u = Value.bool y from rx); exact PySem.W.kia_tup PySem.W.kitx_bool I.kIn True.intro ho e (fun z => nomatch z) fin
  | int i => obtain ⟨t, q⟩ := (show ∃ t, u = Value.int i t from rx); cases q; exact PySem.W.kia_tup PySem.W.kitx_int I.kIn True.intro ho e (fun z => nomatch z) fin
  | str y => obtain ⟨t, q⟩ := (show ∃ t, u = Value.str y t from rx); cases q; exact PySem.W.kia_tup PySem.W.kitx_str I.kIn True.intro ho e (fun z => nomatch z) fin
  | flt y => obtain ⟨t, q⟩ := (show ∃ t, u = Value.float y t from rx); cases q; exact PySem.W.kia_tup PySem.W.kitx_float I.kIn True.intro ho e (fun z => nomatch z) fin
  | @lst a xs ea =>
    cases (show u = Value.ref a from rx)
    obtain ⟨_, _, n, _, h1⟩ := (show ObjOk X.prog X.w H s.heap a (.lst xs) from I.hok a _ ea)
    exact PySem.W.kia_tup PySem.W.kitx_list I.kIn ⟨_, h1, rfl⟩ ho e (fun z => nomatch z) fin
  | @frz a ob xs ea =>
    cases (show u = Value.ref a from rx)
    obtain ⟨_, _, _, n, _, h1⟩ := (show ObjOk X.prog X.w H s.heap a (.frz ob (.lst xs)) from I.hok a _ ea)
    exact PySem.W.kia_tup PySem.W.kitx_list I.kIn ⟨_, h1, rfl⟩ ho e (fun z => nomatch z) fin
  | @tup a xs ea =>
    cases (show u = Value.ref a from rx)
    obtain ⟨_, _, _, p⟩ := (show ObjOk X.prog X.w H s.heap a (.tup xs) from I.hok a _ ea)
    obtain ⟨o, h1, h2, _⟩ := p
    exact PySem.W.kia_tup PySem.W.kitx_tuple I.kIn ⟨o, h1, h2⟩ ho e (fun z => nomatch z) fin
  | @dK a kvs ea =>
    cases (show u = Value.ref a from rx)
    obtain ⟨_, _, vs, _, p⟩ := (show ObjOk X.prog X.w H s.heap a (.dK kvs) from I.hok a _ ea)
    obtain ⟨o, es, ep, h1, h2, _⟩ := p
    exact PySem.W.kia_tup PySem.W.kitx_dict I.kIn ⟨o, h1, h2.1⟩ ho e (fun z => nomatch z) fin
  | @dT a kvs ea =>
    cases (show u = Value.ref a from rx)
    obtain ⟨_, _, xs, _, o, es, ep, h1, h2, _⟩ := (show ObjOk X.prog X.w H s.heap a (.dT kvs) from I.hok a _ ea)
    exact PySem.W.kia_tup PySem.W.kitx_dict I.kIn ⟨o, h1, h2.1⟩ ho e (fun z => nomatch z) fin
  | @ins a C dx fs ea cl ha hn htk hm =>
    cases (show u = Value.ref a from rx)
    obtain ⟨mA, O, _⟩ := ins_get I.hok ea
    obtain ⟨od, J, _⟩ := O.look
    exact PySem.W.kia_tup (PySem.W.kitx_own (cl.get _) cl.hd ha hn htk hm) I.kIn J ho e (fun z => nomatch z) fin

theorem vals_bl : ∀ {bs : List Bool} {us : List Value}, Vals (bs.map V.bl) us → us = bs.map Value.bool
  | [], _, h => by cases h; rfl
  | b :: bs, _, h => by
    cases h with
    | cons r t =>
      cases r
      rw [vals_bl t]
      rfl
theorem all_range (bs : List Bool) : (List.range bs.length).all (fun i => bs.getD i true) = bs.all id := by
  rw [Bool.eq_iff_iff]
  simp only [List.all_eq_true, List.mem_range]
  constructor
  · intro h x hx
    obtain ⟨i, hi, e⟩ := List.mem_iff_getElem.mp hx
    have q := h i hi
    simp [hi] at q
    rw [← e]; exact q
  · intro h i hi
    have q := h bs[i] (List.getElem_mem hi)
    simpa [hi] using q
theorem call_allB (hc : X.calm = true) : CallR X (.builtin "all") (fun xs H Q => ∃ (p : Addr) (bs : List Bool), xs = [.ref p] ∧ SqL X.K H p (bs.map V.bl) ∧ Q (.bl (bs.all id)) H) := by
  intro pins s σ H xs us Q I r h
  obtain ⟨p, bs, rfl, hp, q⟩ := h
  obtain ⟨u, rfl, rx⟩ := vals1 r
  cases rx
  obtain ⟨its, rv, pl, hz⟩ := I.list hp
  have e := vals_bl rv
  subst e
  have hlt : p ≠ s.heap.objs.size := by obtain ⟨o, ho, _⟩ := pl.isList; exact Nat.ne_of_lt (Heap.lt_size ho)
  refine call_all_walk (wpAny_pyIter_list pl.isList ?_)
  refine ⟨_, _, _, _, _, _, fun i => bs.getD i true, rfl, Walks.list (A := X.A.in1) (I.ok.hd hc) _ p hlt _, ⟨⟨_, Heap.get?_push_size _ rfl, rfl, rfl⟩, pl.isList.push _⟩, ?_, fun h' tk hk => ?_⟩
  · intro i v s Q E hP hQ
    have hP' : (bs.map Value.bool)[i]? = some v := by simpa using hP
    rw [List.getElem?_map] at hP'
    cases hb : bs[i]? with
    | none => rw [hb] at hP'; cases hP'
    | some b =>
      rw [hb] at hP'
      cases hP'
      refine wpAny_truthy_bool ?_
      have e : bs.getD i true = b := by rw [List.getD_eq_getElem?_getD, hb]; rfl
      have hQ' : Q (bs.getD i true) s := hQ
      rw [e] at hQ'
      exact hQ'
  · have e : (List.range (bs.map Value.bool).toArray.size).all (fun i => bs.getD i true) = bs.all id := by
      rw [List.size_toArray, List.length_map]
      exact all_range bs
    rw [e]
    refine ⟨.bl (bs.all id), H, I.kept fun b o eb => hk b o ?_ (Heap.get?_push_of_some _ eb), rfl, q⟩
    intro hm
    have : b = s.heap.objs.size := by simpa using hm
    exact absurd (Heap.lt_size eb) (by rw [this]; exact Nat.lt_irrefl _)

theorem call_minT (hc : X.calm = true) : CallR X (.builtin "min") (fun xs H Q => ∃ p a b, xs = [.ref p] ∧ SqT X.K H p [.int a, .int b] ∧ Q (.int (if b < a then b else a)) H) := by
  intro pins s σ H xs us Q I r h
  obtain ⟨p, a, b, rfl, hp, q⟩ := h
  obtain ⟨u, rfl, rx⟩ := vals1 r
  cases rx
  obtain ⟨its, rv, pl, hz⟩ := I.tuple hp
  obtain ⟨v1, v2, rfl, ⟨t1, rfl⟩, ⟨t2, rfl⟩⟩ := vals2 rv
  have pl' : s.heap.IsTuple p (intItems #[(a, t1), (b, t2)]) := by
    have z : s.heap.IsTuple p #[Value.int a t1, Value.int b t2] := pl
    simpa [intItems] using z
  have hlt : p < s.heap.objs.size := by obtain ⟨o, ho, _⟩ := pl; exact Heap.lt_size ho
  refine call_min_walk (wpAny_pyIter_tuple pl' ?_)
  refine ⟨_, [s.heap.objs.size, p], [s.heap.objs.size], _, _, _, _, rfl, Walks.tuple (A := X.A.in1) (I.ok.hd hc) _ p (Nat.ne_of_lt hlt) (intItems #[(a, t1), (b, t2)]), ⟨⟨_, Heap.get?_push_size _ rfl, rfl, rfl⟩, pl'.push _⟩, fun c hc => ?_, by simp [intItems],
    CmpOf.ints_lt (numAt #[(a, t1), (b, t2)]) (fun _ _ => intItems_at), fun v h' tk hP hk => ?_⟩
  · show c < (s.heap.push _).objs.size
    rw [Heap.size_push]
    rcases List.mem_cons.mp hc with rfl | hc
    · exact Nat.lt_succ_self _
    · have : c = p := by simpa using hc
      rw [this]; exact Nat.lt_succ_of_lt hlt
  · have hv : v = if b < a then Value.int b t2 else Value.int a t1 := by
      have hP' : (intItems #[(a, t1), (b, t2)])[argBest (fun i j => decide (numAt #[(a, t1), (b, t2)] i < numAt #[(a, t1), (b, t2)] j)) 1]? = some v := by
        have hsz2 : (intItems #[(a, t1), (b, t2)]).size - 1 = 1 := by simp [intItems]
        rw [← hsz2]; exact hP
      by_cases hba : b < a
      · have e : argBest (fun i j => decide (numAt #[(a, t1), (b, t2)] i < numAt #[(a, t1), (b, t2)] j)) 1 = 1 := by simp [argBest, numAt, hba]
        rw [e] at hP'
        simpa [intItems, hba] using hP'.symm
      · have e : argBest (fun i j => decide (numAt #[(a, t1), (b, t2)] i < numAt #[(a, t1), (b, t2)] j)) 1 = 0 := by simp [argBest, numAt, hba]
        rw [e] at hP'
        simpa [intItems, hba] using hP'.symm
    subst hv
    refine ⟨.int (if b < a then b else a), H, I.kept fun b o eb => hk b o ?_ (Heap.get?_push_of_some _ eb), ?_, q⟩
    · intro hm
      have : b = s.heap.objs.size := by simpa using hm
      exact absurd (Heap.lt_size eb) (by rw [this]; exact Nat.lt_irrefl _)
    · by_cases hba : b < a
      · rw [if_pos hba, if_pos hba]; exact ⟨_, rfl⟩
      · rw [if_neg hba, if_neg hba]; exact ⟨_, rfl⟩
theorem call_maxT (hc : X.calm = true) : CallR X (.builtin "max") (fun xs H Q => ∃ p a b, xs = [.ref p] ∧ SqT X.K H p [.int a, .int b] ∧ Q (.int (if b > a then b else a)) H) := by
  intro pins s σ H xs us Q I r h
  obtain ⟨p, a, b, rfl, hp, q⟩ := h
  obtain ⟨u, rfl, rx⟩ := vals1 r
  cases rx
  obtain ⟨its, rv, pl, hz⟩ := I.tuple hp
  obtain ⟨v1, v2, rfl, ⟨t1, rfl⟩, ⟨t2, rfl⟩⟩ := vals2 rv
  have pl' : s.heap.IsTuple p (intItems #[(a, t1), (b, t2)]) := by
    have z : s.heap.IsTuple p #[Value.int a t1, Value.int b t2] := pl
    simpa [intItems] using z
  have hlt : p < s.heap.objs.size := by obtain ⟨o, ho, _⟩ := pl; exact Heap.lt_size ho
  refine call_max_walk (wpAny_pyIter_tuple pl' ?_)
  refine ⟨_, [s.heap.objs.size, p], [s.heap.objs.size], _, _, _, _, rfl, Walks.tuple (A := X.A.in1) (I.ok.hd hc) _ p (Nat.ne_of_lt hlt) (intItems #[(a, t1), (b, t2)]), ⟨⟨_, Heap.get?_push_size _ rfl, rfl, rfl⟩, pl'.push _⟩, fun c hc => ?_, by simp [intItems],
    CmpOf.ints_gt (numAt #[(a, t1), (b, t2)]) (fun _ _ => intItems_at), fun v h' tk hP hk => ?_⟩
  · show c < (s.heap.push _).objs.size
    rw [Heap.size_push]
    rcases List.mem_cons.mp hc with rfl | hc
    · exact Nat.lt_succ_self _
    · have : c = p := by simpa using hc
      rw [this]; exact Nat.lt_succ_of_lt hlt
  · have hv : v = if b > a then Value.int b t2 else Value.int a t1 := by
      have hP' : (intItems #[(a, t1), (b, t2)])[argBest (fun i j => decide (numAt #[(a, t1), (b, t2)] i > numAt #[(a, t1), (b, t2)] j)) 1]? = some v := by
        have hsz2 : (intItems #[(a, t1), (b, t2)]).size - 1 = 1 := by simp [intItems]
        rw [← hsz2]; exact hP
      by_cases hba : b > a
      · have e : argBest (fun i j => decide (numAt #[(a, t1), (b, t2)] i > numAt #[(a, t1), (b, t2)] j)) 1 = 1 := by simp [argBest, numAt, hba]
        rw [e] at hP'
        simpa [intItems, hba] using hP'.symm
      · have e : argBest (fun i j => decide (numAt #[(a, t1), (b, t2)] i > numAt #[(a, t1), (b, t2)] j)) 1 = 0 := by simp [argBest, numAt, hba]
        rw [e] at hP'
        simpa [intItems, hba] using hP'.symm
    subst hv
    refine ⟨.int (if b > a then b else a), H, I.kept fun b o eb => hk b o ?_ (Heap.get?_push_of_some _ eb), ?_, q⟩
    · intro hm
      have : b = s.heap.objs.size := by simpa using hm
      exact absurd (Heap.lt_size eb) (by rw [this]; exact Nat.lt_irrefl _)
    · by_cases hba : b > a
      · rw [if_pos hba, if_pos hba]; exact ⟨_, rfl⟩
      · rw [if_neg hba, if_neg hba]; exact ⟨_, rfl⟩

theorem call_rng1 : CallR X (.type "range") (fun xs H Q => ∃ j, xs = [.int j] ∧ ∀ p, H p = none → Q (.ref p) (upd H p (.rng 0 j))) := by
  intro pins s σ H xs us Q I r h
  obtain ⟨j, rfl, q⟩ := h
  obtain ⟨u, rfl, t, rfl⟩ := vals1 r
  refine call_range_1 ?_
  exact ⟨.ref s.heap.objs.size, _, I.laid (o := .rng 0 j) (fun b o e => Heap.get?_push_of_some _ e) (Nat.le_refl _) ⟨_, _, _, Heap.get?_push_size _ rfl⟩, rfl, q _ I.fresh⟩
theorem call_rng2 : CallR X (.type "range") (fun xs H Q => ∃ i j, xs = [.int i, .int j] ∧ ∀ p, H p = none → Q (.ref p) (upd H p (.rng i j))) := by
  intro pins s σ H xs us Q I r h
  obtain ⟨i, j, rfl, q⟩ := h
  obtain ⟨u, u2, rfl, ⟨t, rfl⟩, ⟨t2, rfl⟩⟩ := vals2 r
  refine call_range_2 ?_
  exact ⟨.ref s.heap.objs.size, _, I.laid (o := .rng i j) (fun b o e => Heap.get?_push_of_some _ e) (Nat.le_refl _) ⟨_, _, _, Heap.get?_push_size _ rfl⟩, rfl, q _ I.fresh⟩
noncomputable def rngL (lo hi : Int) : List V := (List.range (hi - lo).toNat).map fun i => V.int (lo + (i : Nat))
theorem vals_items {lo : Int} : ∀ {n : Nat} {us : List Value}, us.length = n → (∀ j v, us[j]? = some v → ∃ t, v = Value.int (lo + (j : Nat) * 1) t) → Vals ((List.range n).map fun i => V.int (lo + (i : Nat))) us := by
  intro n us hl h
  have key : ∀ (us : List Value) (k : Nat), (∀ j v, us[j]? = some v → ∃ t, v = Value.int (lo + ((k + j : Nat) : Int)) t) → Vals ((List.range' k us.length).map fun i => V.int (lo + (i : Nat))) us := by
    intro us
    induction us with
    | nil => intro k _; exact .nil
    | cons u us ih =>
      intro k hk
      obtain ⟨t, e⟩ := hk 0 u (by simp)
      rw [List.length_cons, List.range'_succ, List.map_cons]
      refine .cons ⟨t, by simpa using e⟩ (ih (k + 1) fun j v hv => ?_)
      obtain ⟨t, e⟩ := hk (j + 1) v (by simpa using hv)
      exact ⟨t, by rw [e]; congr 2; omega⟩
  have q := key us 0 fun j v hv => by
    obtain ⟨t, e⟩ := h j v hv
    exact ⟨t, by rw [e]; simp⟩
  rw [hl, ← List.range_eq_range'] at q
  exact q
theorem call_list_rng (hc : X.calm = true) : CallR X (.type "list") (fun xs H Q => ∃ p lo hi, xs = [.ref p] ∧ H p = some (.rng lo hi) ∧ (-1000 ≤ lo ∧ lo ≤ 1000 ∧ -1000 ≤ hi ∧ hi ≤ 1000) ∧ ∀ l, H l = none → Q (.ref l) (upd H l (.lst (rngL lo hi)))) := by
  intro pins s σ H xs us Q I r h
  obtain ⟨p, lo, hi, rfl, hp, ⟨b1, b2, b3, b4⟩, q⟩ := h
  obtain ⟨u, rfl, rx⟩ := vals1 r
  cases rx
  obtain ⟨t, u, v, e⟩ := I.hok p _ hp
  have hsz : Builtin.Range.rangeSize lo hi 1 = (((hi - lo).toNat : Nat) : Int) := by rw [rangeSize_one]; split <;> omega
  refine call_list_range (I.ok.hd hc) (show IsRange s.heap p lo hi 1 t u v from e) (small_one (by omega) (by omega) (by omega) (by omega)) hsz (by omega) fun h' tk acc' c' hk ho ⟨hn, hit⟩ => ?_
  have hv : Vals (rngL lo hi) acc'.toList := vals_items (by simpa using hn) fun j w hw => hit j w (by simpa using hw)
  refine ⟨.ref s.heap.objs.size, _, I.laid (o := .lst (rngL lo hi)) hk (Nat.le_refl _) ⟨?_, acc'.toList, c', hv, by simpa using ho⟩, rfl, q _ I.fresh⟩
  unfold rngL
  rw [List.length_map, List.length_range, sizeLine_eq]
  omega
end
end L2

set_option Elab.async false
set_option linter.all false
set_option maxRecDepth 100000
namespace L2
open PySem PySem.Spec PyProof.Rows

noncomputable abbrev Tie := Int × Int
noncomputable def Pr (H : Hp) (v : V) (t : Tie) : Prop := ∃ p, v = .ref p ∧ H p = some (.tup [.int t.1, .int t.2])
noncomputable abbrev Prs (H : Hp) : List V → List Tie → Prop := Paired (Pr H)
noncomputable def tcode (t : Tie) : Int := 64 * t.1 + t.2
noncomputable def Nice (t : Tie) : Prop := 0 ≤ t.2 ∧ t.2 < 64
noncomputable def PairV (h : Heap) (u : Value) (t : Tie) : Prop := ∃ a o t1 t2 n, u = .ref a ∧ h.get? a = some o ∧ o.cls = .type "tuple" ∧ o.data = .seq #[.int t.1 t1, .int t.2 t2] n
theorem PairV.keep {h h' : Heap} {u : Value} {t : Tie} (x : PairV h u t) (k : ∀ a o, h.get? a = some o → o.cls = .type "tuple" → h'.get? a = some o) : PairV h' u t := by
  obtain ⟨a, o, t1, t2, n, e, ho, hc, hd⟩ := x
  exact ⟨a, o, t1, t2, n, e, k a o ho hc, hc, hd⟩
theorem pget {α β : Type} {F : α → β → Prop} {l₁ : List α} {l₂ : List β} (h : Paired F l₁ l₂) : ∀ {i : Nat} {b : β}, l₂[i]? = some b → ∃ a, l₁[i]? = some a ∧ F a b := by
  induction h with
  | nil => intro i x e; simp at e
  | cons r t ih =>
    intro i x e
    cases i with
    | zero => simp at e; subst e; exact ⟨_, rfl, r⟩
    | succ i =>
      obtain ⟨c, e1, f⟩ := ih (by simpa using e)
      exact ⟨c, by simpa using e1, f⟩
theorem ppick {α β : Type} {F : α → β → Prop} {l₁ : List α} {l₂ : List β} (h : Paired F l₁ l₂) (da : α) (db : β) : ∀ (p : List Nat), (∀ i ∈ p, i < l₂.length) → Paired F (p.map fun i => l₁.getD i da) (p.map fun i => l₂.getD i db)
  | [], _ => .nil
  | i :: p, hp => by
    have hi : i < l₂.length := hp i List.mem_cons_self
    obtain ⟨a, e, f⟩ := pget h (i := i) (b := l₂[i]) (by simp [hi])
    refine .cons ?_ (ppick h da db p fun j hj => hp j (List.mem_cons_of_mem _ hj))
    have e1 : l₁.getD i da = a := by rw [List.getD_eq_getElem?_getD, e]; rfl
    have e2 : l₂.getD i db = l₂[i] := by simp [hi]
    show F (l₁.getD i da) (l₂.getD i db)
    rw [e1, e2]
    exact f
theorem snds {α : Type} : ∀ us : List α, List.map (fun x => x.snd) (us.zip us) = us
  | [] => rfl
  | u :: us => by rw [List.zip_cons_cons, List.map_cons, snds us]
theorem map_range_self {α : Type} (l : List α) (d : α) : (List.range l.length).map (fun i => l.getD i d) = l := by
  apply List.ext_getElem
  · simp
  · intro i h1 h2
    simp at h1 ⊢
    simp [h1]
section
variable {X : Cx} {pins : List (Addr × Obj)} {σ : St} {H : Hp} {s : Shared}
theorem Inv.pairs (I : Inv X pins σ H s) : ∀ {vs : List V} {ts : List Tie} {us : List Value}, Prs H vs ts → Vals vs us → Paired (PairV s.heap) us ts
  | _, _, _, .nil, r => by cases r; exact .nil
  | _, _, _, .cons p q, r => by
    cases r with
    | cons r rr =>
      refine .cons ?_ (I.pairs q rr)
      obtain ⟨a, rfl, e⟩ := p
      cases r
      obtain ⟨_, its, rv, ⟨o, ho, hc, n, hd⟩⟩ := I.hok a _ e
      obtain ⟨v1, v2, rfl, ⟨t1, rfl⟩, ⟨t2, rfl⟩⟩ := vals2 rv
      exact ⟨a, o, t1, t2, n, rfl, ho, hc, hd⟩
end

section
variable {prog : Program} {w : World} {A : Around} {E : Value → Shared → Prop} {s : Shared}
theorem lt_pairs {x y : Value} {a b : Tie} {Q : Bool → Shared → Prop} (hx : PairV s.heap x a) (hy : PairV s.heap y b) (na : Nice a) (nb : Nice b) (h : Q (decide (tcode a < tcode b)) s) : wpAny (model prog w) A (keyLt' (tuples' true) x y) Q E s := by
  obtain ⟨p, o, t1, t2, n, rfl, ho, hc, hd⟩ := hx
  obtain ⟨p', o', t1', t2', n', rfl, ho', hc', hd'⟩ := hy
  obtain ⟨a1, a2⟩ := a
  obtain ⟨b1, b2⟩ := b
  unfold Nice at na nb
  simp only at na nb
  refine PySem.W.kat_lt ho hd ho' hd' ?_
  refine PySem.W.kat_cons (wpAny_eqBool_int ?_)
  by_cases e1 : a1 = b1
  · subst e1
    rw [beq_self_eq_true]
    refine PySem.W.kat_yes (PySem.W.kat_cons (wpAny_eqBool_int ?_))
    by_cases e2 : a2 = b2
    · subst e2
      rw [beq_self_eq_true]
      refine PySem.W.kat_yes (PySem.W.kat_nil ?_)
      have e : decide (tcode (a1, a2) < tcode (a1, a2)) = false := decide_eq_false (Int.lt_irrefl _)
      rw [e] at h
      exact h
    · rw [beq_eq_false_iff_ne.mpr e2]
      refine PySem.W.kat_no (PySem.W.kat_one _ _ (lt_int ?_))
      have e : decide (tcode (a1, a2) < tcode (a1, b2)) = decide (a2 < b2) := by
        apply decide_eq_decide.mpr
        unfold tcode
        omega
      rw [e] at h
      exact h
  · rw [beq_eq_false_iff_ne.mpr e1]
    refine PySem.W.kat_no (oneLt_int ?_)
    have e : decide (tcode (a1, a2) < tcode (b1, b2)) = decide (a1 < b1) := by
      apply decide_eq_decide.mpr
      unfold tcode
      simp only
      constructor
      · intro h; omega
      · intro h; omega
    rw [e] at h
    exact h
theorem kat_of : ∀ {us : List Value} {ts : List Tie}, Paired (PairV s.heap) us ts → ∃ fs, PySem.W.KatTups s.heap us fs ∧ fs.length = us.length ∧ ∀ v ∈ fs, ∃ i t, v = Value.int i t
  | _, _, .nil => ⟨[], .nil, rfl, fun _ h => nomatch h⟩
  | _, _, .cons p q => by
    obtain ⟨a, o, t1, t2, n, rfl, ho, hc, hd⟩ := p
    obtain ⟨fs, k, hl, hv⟩ := kat_of q
    refine ⟨_ :: fs, .cons ho hc hd (f := Value.int _ t1) rfl k, by simp [hl], fun v hv' => ?_⟩
    rcases List.mem_cons.mp hv' with rfl | h
    · exact ⟨_, _, rfl⟩
    · exact hv v h
theorem sort_tree {a : Addr} {us : List Value} {ts : List Tie} {n : Nat} {P : PySem.Fin → Shared → Prop} (ho : s.heap.get? a = some (seqObj "list" us.toArray n))
    (hp : Paired (PairV s.heap) us ts) (hn : ∀ t ∈ ts, Nice t) (h64 : us.length < 64)
    (h : ∀ p : List Nat, p.Perm (List.range us.length) → (∀ i j, i ≤ j → j < us.length → tcode (ts.getD (p.getD i 0) (0, 0)) ≤ tcode (ts.getD (p.getD j 0) (0, 0))) →
      P (.done (.ret .none)) { s with heap := sortedHeap s.heap a us (p.map fun i => us.getD i Value.none).toArray }) :
    wpAny (model prog w) A (Builtin.«list.sort» ⟨[.ref a], []⟩) P E s := by
  have hlen := hp.length
  have h24 := sizeLine_eq
  rw [list_sort_plain]
  have ha : a < s.heap.objs.size := Heap.lt_size ho
  refine wpAny_bind (listItems_at ho rfl ?_)
  refine wpAny_bind (listUpdate_at ho rfl ?_ (by rw [List.size_toArray, sizeLine_eq]; omega) (Nat.zero_le _))
  obtain ⟨e1, ho1⟩ : ∃ e1, (s.heap.update a (Obj.mapSeq fun _ => (#[] : Array Value))).get? a = some (seqObj "list" #[] e1) := ⟨_, get?_update_seq ho (fun _ => #[])⟩
  refine wpAny_bind (seqEpoch_at ho1 rfl ?_)
  refine wpAny_bind (wpAny_newTuple ?_ (by show us.length ≤ _; rw [sizeLine_eq]; omega))
  refine wpAny_bind (wpAny_newList ?_ (Nat.zero_le _))
  refine wpAny_holding ?_
  have ho6 : (((s.heap.update a (Obj.mapSeq fun _ => (#[] : Array Value))).push (seqObj "tuple" us.toArray 0)).push (seqObj "list" #[] 0)).get? a = some (seqObj "list" #[] e1) := by
    rw [Heap.get?_push_ne _ _ _ (by rw [size_push', Heap.size_update]; exact Nat.ne_of_lt (Nat.lt_succ_of_lt ha)), Heap.get?_push_ne _ _ _ (by rw [Heap.size_update]; exact Nat.ne_of_lt ha)]
    exact ho1
  have kept : ∀ b o, s.heap.get? b = some o → o.cls = .type "tuple" → (((s.heap.update a (Obj.mapSeq fun _ => (#[] : Array Value))).push (seqObj "tuple" us.toArray 0)).push (seqObj "list" #[] 0)).get? b = some o := fun b o q hc => by
    have hlt : b < s.heap.objs.size := Heap.lt_size q
    have hne : b ≠ a := fun z => by
      rw [z, ho] at q
      cases q
      have z2 : (Value.type "list") = Value.type "tuple" := hc
      injection z2 with z3
      exact absurd z3 (by decide)
    rw [Heap.get?_push_ne _ _ _ (by rw [size_push', Heap.size_update]; exact Nat.ne_of_lt (Nat.lt_succ_of_lt hlt)), Heap.get?_push_ne _ _ _ (by rw [Heap.size_update]; exact Nat.ne_of_lt hlt), Heap.get?_update_ne _ _ _ _ hne]
    exact q
  show wpAny (model prog w) A _ P E { s with heap := ((s.heap.update a (Obj.mapSeq fun _ => (#[] : Array Value))).push (seqObj "tuple" us.toArray 0)).push (seqObj "list" #[] 0) }
  dsimp only
  have hsz : us.toArray.size = us.length := by simp
  have hp6 : Paired (PairV (((s.heap.update a (Obj.mapSeq fun _ => (#[] : Array Value))).push (seqObj "tuple" us.toArray 0)).push (seqObj "list" #[] 0))) us ts := Paired.mapP hp fun u t x => x.keep kept
  by_cases h2 : us.toArray.size < 2
  · rw [if_pos h2, if_pos h2]
    refine wpAny_bind (wpAny_pure ?_)
    rw [StateT.run_pure]
    refine wpAny_bind (wpAny_pure ?_)
    dsimp only
    have eout : (arrOf (SortSt.mk' general' (us.toArray.zip us.toArray) #[] 7 none)).map (·.2) = ((List.range us.length).map fun i => us.getD i Value.none).toArray := by
      rw [map_range_self]
      show (us.toArray.zip us.toArray).map (·.2) = us.toArray
      apply Array.toList_inj.mp
      simp
      exact snds us
    rw [eout]
    refine wpAny_bind (seqEpoch_at ho6 rfl ?_)
    refine wpAny_bind (listUpdate_at ho6 rfl ?_ (Nat.zero_le _) (by rw [List.size_toArray, List.length_map, List.length_range, sizeLine_eq]; omega))
    simp only [bne_self_eq_false, Bool.false_eq_true, if_false]
    refine wpAny_pure (h _ (List.Perm.refl _) fun i j hij hj => ?_)
    have : i = j := by omega
    subst this
    exact Int.le_refl _
  · rw [if_neg h2, if_neg h2]
    have h2' : 2 ≤ us.length := by omega
    obtain ⟨fs, hk, hfl, hfi⟩ := kat_of (s := { s with heap := ((s.heap.update a (Obj.mapSeq fun _ => (#[] : Array Value))).push (seqObj "tuple" us.toArray 0)).push (seqObj "list" #[] 0) }) hp6
    refine wpAny_bind (PySem.W.kat_kind (T := .type "int") hk (by omega) (fun v hv => by obtain ⟨i, t, rfl⟩ := hfi v hv; exact PySem.W.Looks.of_pure rfl) rfl ?_)
    have hcmp : ∀ i j C, i < us.length → j < us.length → C (decide (tcode (ts.getD i (0, 0)) < tcode (ts.getD j (0, 0)))) { s with heap := ((s.heap.update a (Obj.mapSeq fun _ => (#[] : Array Value))).push (seqObj "tuple" us.toArray 0)).push (seqObj "list" #[] 0) } →
        PySem.W.kas_cmp prog w A (tuples' true) (us.toArray.zip us.toArray) i j C { s with heap := ((s.heap.update a (Obj.mapSeq fun _ => (#[] : Array Value))).push (seqObj "tuple" us.toArray 0)).push (seqObj "list" #[] 0) } := fun i j C hi hj hC => by
      unfold PySem.W.kas_cmp
      rw [PySem.W.kat_item rfl, PySem.W.kat_item rfl]
      have key : ∀ k, k < us.length → PairV (((s.heap.update a (Obj.mapSeq fun _ => (#[] : Array Value))).push (seqObj "tuple" us.toArray 0)).push (seqObj "list" #[] 0)) (us.getD k Value.none) (ts.getD k (0, 0)) ∧ Nice (ts.getD k (0, 0)) := fun k hk => by
        have hk' : k < ts.length := by omega
        have ek : ts.getD k (0, 0) = ts[k] := by simp [hk']
        obtain ⟨u, eu, pu⟩ := pget hp6 (i := k) (b := ts[k]) (by simp [hk'])
        have eu' : us.getD k Value.none = u := by rw [List.getD_eq_getElem?_getD, eu]; rfl
        rw [ek, eu']
        exact ⟨pu, hn _ (List.getElem_mem hk')⟩
      exact lt_pairs (key i hi).1 (key j hj).1 (key i hi).2 (key j hj).2 hC
    have G := PySem.W.kas_runs (prog := prog) (w := w) (A := A) (E := E) (κ := tuples' true) (it := us.toArray.zip us.toArray) (n := us.length) (s := { s with heap := ((s.heap.update a (Obj.mapSeq fun _ => (#[] : Array Value))).push (seqObj "tuple" us.toArray 0)).push (seqObj "list" #[] 0) })
      (Q := fun _ st' s' => ∃ p : Array Nat, s' = { s with heap := ((s.heap.update a (Obj.mapSeq fun _ => (#[] : Array Value))).push (seqObj "tuple" us.toArray 0)).push (seqObj "list" #[] 0) } ∧ arrOf st' = p.map (PySem.W.kas_item (us.toArray.zip us.toArray)) ∧ failedOf st' = none ∧ NfSort.Pm us.length p ∧ NfSort.Up (fun i => tcode (ts.getD i (0, 0))) p us.length)
      (G := fun p s' => s' = { s with heap := ((s.heap.update a (Obj.mapSeq fun _ => (#[] : Array Value))).push (seqObj "tuple" us.toArray 0)).push (seqObj "list" #[] 0) } ∧ NfSort.Pm us.length p ∧ NfSort.Up (fun i => tcode (ts.getD i (0, 0))) p us.length) h2' h64 (fun p' st' s' a1 a2 a3 a4 => ⟨p', a4.1, a2, a3, a4.2⟩)
      (NfSort.kwp_run hcmp (NfSort.kwp_mono (fun p hp => ⟨rfl, hp⟩) (NfSort.sort_ok (by omega))))
    have est : SortSt.mk' (tuples' true) (us.toArray.zip us.toArray) #[] 7 none = PySem.W.kas_st (tuples' true) (us.toArray.zip us.toArray) (List.toArray (List.range us.length)) := by
      have e := PySem.W.kas_range (us.toArray.zip us.toArray)
      rw [show (us.toArray.zip us.toArray).size = us.length by simp] at e
      show SortSt.mk' (tuples' true) (us.toArray.zip us.toArray) #[] 7 none = SortSt.mk' (tuples' true) ((List.toArray (List.range us.length)).map (PySem.W.kas_item (us.toArray.zip us.toArray))) #[] 7 none
      rw [e]
    have eT : tuples' (Value.type "int" != Value.type "tuple") = tuples' true := rfl
    rw [eT, est]
    refine wpAny_bind (wpAny_mono G ?_ fun _ _ e => e)
    rintro ⟨⟨⟩, st'⟩ s' ⟨p, rfl, har, hf, hpm, hup⟩
    dsimp only
    have hout := PySem.W.kat_snds (ks := us) (vs := us) rfl har
    rw [hout]
    have hsz2 : p.size = us.length := hpm.size
    refine wpAny_bind (seqEpoch_at ho6 rfl ?_)
    refine wpAny_bind (listUpdate_at ho6 rfl ?_ (Nat.zero_le _) (by rw [List.size_toArray, List.length_map, Array.length_toList, hsz2, sizeLine_eq]; omega))
    rw [hf]
    simp only [bne_self_eq_false, Bool.false_eq_true, if_false]
    refine wpAny_pure (h p.toList ?_ fun i j hij hj => ?_)
    · have := Array.perm_iff_toList_perm.mp hpm
      simpa using this
    · have q := hup i j hij hj
      unfold NfSort.kk at q
      have eg : ∀ k, p.toList.getD k 0 = p.getD k 0 := fun k => by
        rw [NfSort.getD_eq, List.getD_eq_getElem?_getD]
        simp
      rw [eg, eg]
      exact q
theorem collect_tupleN {l : Addr} {vs : List Value} {Q : List Value → Shared → Prop} (hl : IsTup s.heap l vs.toArray)
    (h : Q vs { s with heap := (s.heap.push (seqObj "list" #[] 0)).update s.heap.objs.size (Obj.mapSeq (· ++ vs.toArray)) }) (hsz : vs.length ≤ sizeLine) :
    wpAny (model prog w) A (collect (.ref l)) Q E s := by
  obtain ⟨o, ho, hc, n, hd⟩ := id hl
  unfold collect
  refine wpAny_bind (wpAny_runValue (codeAny_builtin entry_proto_collect' ?_))
  show wpAny _ _ (do again (.builtin "list.__iadd__" ⟨[← newList [], .ref l], []⟩)) _ _ s
  refine wpAny_bind (wpAny_newList (wpAny_pure ⟨Code.quiet_builtin _ (by decide +kernel), codeAny_builtin entry_list_iadd' ?_⟩))
  show wpAny _ _ (Builtin.List.listExtendWith (.ref s.heap.objs.size) (.ref l) (.ref s.heap.objs.size)) _ _ { s with heap := s.heap.push (seqObj "list" #[] 0) }
  unfold Builtin.List.listExtendWith
  have ho' : (s.heap.push (seqObj "list" #[] 0)).get? l = some o := Heap.get?_push_of_some _ ho
  refine wpAny_bind (wpAny_typeOf (T := "tuple") ⟨o, ho', hc⟩ ?_)
  have ht : (Value.type "tuple" == Value.type "tuple") = true := by rfl
  rw [if_pos (by rw [ht]; simp)]
  refine wpAny_bind (listItems_at ho' hd ?_)
  refine wpAny_bind (listItems_at (xs := #[]) (n := 0) (Heap.get?_push_size _ rfl) rfl ?_)
  rw [if_neg (by simp)]
  refine wpAny_bind (listUpdate_at (xs := #[]) (n := 0) (Heap.get?_push_size _ rfl) rfl ?_ (Nat.zero_le _) (by show (#[] ++ vs.toArray).size ≤ sizeLine + 1; simp only [Array.size_append, List.size_toArray, List.length_nil]; omega))
  refine wpAny_pure ?_
  show wpAny (model prog w) A (do
      let o ← load s.heap.objs.size
      match o.data with
      | .seq xs _ => pure xs.toList
      | _ => unsupported "internal:collect") Q E { s with heap := (s.heap.push (seqObj "list" #[] 0)).update s.heap.objs.size (Obj.mapSeq (· ++ vs.toArray)) }
  refine wpAny_bind (wpAny_load (get?_update_seq (Heap.get?_push_size _ rfl) _) ?_)
  show wpAny _ _ (pure ((#[] : Array Value) ++ vs.toArray).toList) Q E _
  rw [show ((#[] : Array Value) ++ vs.toArray).toList = vs by simp]
  exact wpAny_pure h
theorem sorted_pairs {l : Addr} {us : List Value} {ts : List Tie} {Q : Value → Shared → Prop} (hl : s.heap.IsList l us.toArray ∨ IsTup s.heap l us.toArray) (hp : Paired (PairV s.heap) us ts) (hn : ∀ t ∈ ts, Nice t) (h64 : us.length < 64)
    (h : ∀ p : List Nat, p.Perm (List.range us.length) → (∀ i j, i ≤ j → j < us.length → tcode (ts.getD (p.getD i 0) (0, 0)) ≤ tcode (ts.getD (p.getD j 0) (0, 0))) →
      Q (.ref (s.heap.objs.size + 1)) { s with heap := sortedAll s.heap us (p.map fun i => us.getD i Value.none).toArray }) :
    wpAny (model prog w) A (call (.builtin "sorted") [.ref l]) Q E s := by
  have h24 := sizeLine_eq
  refine Calls.call_function_entry kind_sorted plain_sorted entry_sorted (args_sorted1 _) ?_
  unfold Builtin.«sorted»
  refine wpAny_bind (m := checkCount "sorted" 1 1 _) (wpAny_pure ?_)
  have hsz : ((s.heap.push (seqObj "list" #[] 0)).update s.heap.objs.size (Obj.mapSeq (· ++ us.toArray))).objs.size = s.heap.objs.size + 1 := by
    rw [Heap.size_update, size_push']
  have hoL : (((s.heap.push (seqObj "list" #[] 0)).update s.heap.objs.size (Obj.mapSeq (· ++ us.toArray))).push (seqObj "list" us.toArray 0)).get? (s.heap.objs.size + 1) = some (seqObj "list" us.toArray 0) := by
    rw [← hsz]; exact Heap.get?_push_size _ rfl
  have keep : ∀ b o, s.heap.get? b = some o → (((s.heap.push (seqObj "list" #[] 0)).update s.heap.objs.size (Obj.mapSeq (· ++ us.toArray))).push (seqObj "list" us.toArray 0)).get? b = some o := fun b o q => by
    have hlt : b < s.heap.objs.size := Heap.lt_size q
    rw [Heap.get?_push_ne _ _ _ (by rw [hsz]; exact Nat.ne_of_lt (Nat.lt_succ_of_lt hlt)), Heap.get?_update_ne _ _ _ _ (Nat.ne_of_lt hlt), Heap.get?_push_ne _ _ _ (Nat.ne_of_lt hlt)]
    exact q
  have go : ∀ {Q' : List Value → Shared → Prop}, Q' us { s with heap := (s.heap.push (seqObj "list" #[] 0)).update s.heap.objs.size (Obj.mapSeq (· ++ us.toArray)) } → wpAny (model prog w) A.in1 (collect (.ref l)) Q' (fun e s' => E e s') s := fun {Q'} hq => by
    rcases hl with hl | hl
    · exact collect_list hl hq (by omega)
    · exact collect_tupleN hl hq (by omega)
  refine wpAny_bind (go ?_)
  refine wpAny_bind (wpAny_newList ?_ (by omega))
  show wpAny _ _ _ _ _ { s with heap := ((s.heap.push (seqObj "list" #[] 0)).update s.heap.objs.size (Obj.mapSeq (· ++ us.toArray))).push (seqObj "list" us.toArray 0) }
  rw [hsz]
  refine wpAny_bind (wpAny_holding (wpAny_call_entry slot_list_sort ⟨_, hoL, rfl⟩ entry_list_sort (sort_tree hoL (Paired.mapP hp fun u t x => x.keep fun a o e _ => keep a o e) hn h64 fun p a1 a2 => ⟨_, rfl, ?_⟩) (args_list_sort _)))
  exact wpAny_pure ⟨_, rfl, h p a1 a2⟩
end

section
variable {X : Cx}
theorem sorted_pick {ts : List Tie} {p : List Nat} (hp : p.Perm (List.range ts.length)) (h : ∀ i j, i ≤ j → j < ts.length → tcode (ts.getD (p.getD i 0) (0, 0)) ≤ tcode (ts.getD (p.getD j 0) (0, 0))) :
    (p.map fun i => ts.getD i (0, 0)).Perm ts ∧ (p.map fun i => ts.getD i (0, 0)).Pairwise (fun a b => tcode a ≤ tcode b) := by
  refine ⟨?_, ?_⟩
  · have q := hp.map fun i => ts.getD i (0, 0)
    rw [map_range_self] at q
    exact q
  · have hl : p.length = ts.length := by simpa using hp.length_eq
    rw [List.pairwise_iff_getElem]
    intro i j hi hj hij
    rw [List.length_map] at hi hj
    have q := h i j (by omega) (by omega)
    have ei : p.getD i 0 = p[i] := by simp [hi]
    have ej : p.getD j 0 = p[j] := by simp [hj]
    rw [ei, ej] at q
    simpa using q
theorem call_sortedP : CallR X (.builtin "sorted") (fun xs H Q => ∃ (p : Addr) (vs : List V) (ts : List Tie), xs = [.ref p] ∧ (SqL X.K H p vs ∨ SqT X.K H p vs) ∧ Prs H vs ts ∧ (∀ t ∈ ts, Nice t) ∧ ts.length < 64 ∧
    ∀ l ws us, H l = none → Prs H ws us → us.Perm ts → us.Pairwise (fun a b => tcode a ≤ tcode b) → Q (.ref l) (upd H l (.lst ws))) := by
  intro pins s σ H xs us Q I r h
  obtain ⟨p, vs, ts, rfl, hp, hpr, hn, h64, q⟩ := h
  obtain ⟨u, rfl, rx⟩ := vals1 r
  cases rx
  have h24 := sizeLine_eq
  have fin : ∀ its : List Value, Vals vs its → (s.heap.IsList p its.toArray ∨ IsTup s.heap p its.toArray) → wpAny (model X.prog X.w) X.A (call (.builtin "sorted") [.ref p]) (EP X pins σ Q) X.xe s := fun its rv hl => by
    have hpv := I.pairs hpr rv
    have hlen := hpr.length
    have hlen2 := rv.length
    refine sorted_pairs hl hpv hn (by omega) fun pp hpp hord => ?_
    have eits : its.length = ts.length := by omega
    rw [eits] at hpp hord
    obtain ⟨hperm, hpw⟩ := sorted_pick hpp hord
    have hlt : ∀ i ∈ pp, i < ts.length := fun i hi => List.mem_range.mp (hpp.mem_iff.mp hi)
    have hw := ppick hpr V.non (0, 0) pp hlt
    have hvv : Vals (pp.map fun i => vs.getD i V.non) (pp.map fun i => its.getD i Value.none) := ppick rv V.non Value.none pp fun i hi => by have := hlt i hi; omega
    obtain ⟨e, he⟩ := sortedAll_at s.heap its (pp.map fun i => its.getD i Value.none).toArray
    refine ⟨.ref (s.heap.objs.size + 1), upd H (s.heap.objs.size + 1) (.lst (pp.map fun i => vs.getD i V.non)), I.laid (t' := s.toks) (fun b o eb => sortedAll_old eb) (Nat.le_succ _) ?_, rfl, q _ _ _ (I.hok.fresh (Nat.le_succ _)) hw hperm hpw⟩
    refine ⟨?_, _, e, hvv, he⟩
    have hl3 : pp.length = ts.length := by simpa using hpp.length_eq
    rw [List.length_map]
    omega
  rcases hp with hp | hp
  · obtain ⟨its, rv, pl, hz⟩ := I.list hp
    exact fin its rv (.inl pl.isList)
  · obtain ⟨its, rv, pl, hz⟩ := I.tuple hp
    exact fin its rv (.inr pl)

noncomputable def pD (t : Tie) : PyData := .tuple [.int t.1, .int t.2]
theorem lay_pD : ∀ ts : List Tie, PyData.canLayAll0 (ts.map pD) = true
  | [] => rfl
  | t :: ts => by
    show (PyData.canLay0 (pD t) && PyData.canLayAll0 (ts.map pD)) = true
    rw [lay_pD ts]
    rfl
theorem depth_pD : ∀ ts : List Tie, PyData.depthAll (ts.map pD) ≤ 1
  | [] => Nat.zero_le _
  | t :: ts => by
    show max (PyData.depth (pD t)) (PyData.depthAll (ts.map pD)) ≤ 1
    have h1 := depth_pD ts
    have h2 : PyData.depth (pD t) = 1 := rfl
    omega
theorem eqv_pD : ∀ ts us : List Tie, PyData.eqvAll (ts.map pD) (us.map pD) = decide (ts = us)
  | [], [] => rfl
  | [], _ :: _ => rfl
  | _ :: _, [] => rfl
  | t :: ts, u :: us => by
    show (PyData.eqv (pD t) (pD u) && PyData.eqvAll (ts.map pD) (us.map pD)) = _
    rw [eqv_pD ts us]
    have e : PyData.eqv (pD t) (pD u) = decide (t = u) := by
      show ((t.1 == u.1) && ((t.2 == u.2) && true)) = _
      rw [Bool.and_true, Bool.eq_iff_iff]
      simp [Prod.ext_iff]
    rw [e, Bool.eq_iff_iff]
    simp
theorem Inv.readsP {pins : List (Addr × Obj)} {σ : St} {H : Hp} {s : Shared} (I : Inv X pins σ H s) : ∀ {us : List Value} {ts : List Tie}, Paired (PairV s.heap) us ts → ∃ as, ReadsAll s.heap us (ts.map pD) as
  | _, _, .nil => ⟨[], .nil⟩
  | _, _, .cons p q => by
    obtain ⟨a, o, t1, t2, n, rfl, ho, hc, hd⟩ := p
    obtain ⟨as, r⟩ := I.readsP q
    exact ⟨_, .cons (.tuple ho hc hd (.cons (.int _ _) (.cons (.int _ _) .nil))) r⟩
inductive DatV (K : PySem.W.Frag) (H : Hp) : V → PyData → Prop
  | lst {a : Addr} {vs : List V} {ts : List Tie} : SqL K H a vs → Prs H vs ts → DatV K H (.ref a) (.list (ts.map pD))
  | tup {a : Addr} {vs : List V} {ts : List Tie} : SqT K H a vs → Prs H vs ts → DatV K H (.ref a) (.tuple (ts.map pD))
  | web {a b : Addr} {n : Int} {vs : List V} {ts : List Tie} : SqT K H a [.int n, .ref b] → SqT K H b vs → Prs H vs ts → DatV K H (.ref a) (.tuple [.int n, .tuple (ts.map pD)])
theorem DatV.reads {pins : List (Addr × Obj)} {σ : St} {H : Hp} {s : Shared} {x : V} {u : Value} {d : PyData} (I : Inv X pins σ H s) (h : DatV X.K H x d) (r : RelV x u) : (∃ as, Reads s.heap u d as) ∧ d.canLay0 = true ∧ d.depth ≤ 3 := by
  cases h with
  | lst hs hp =>
    cases r
    obtain ⟨its, rv, pl, hz⟩ := I.list hs
    obtain ⟨as, ra⟩ := I.readsP (I.pairs hp rv)
    obtain ⟨o, ho, hc, n, hd⟩ := pl.isList
    refine ⟨⟨_, .list ho hc hd (by simpa using ra)⟩, lay_pD _, ?_⟩
    show PyData.depthAll _ + 1 ≤ 3
    have := depth_pD ‹_›
    omega
  | tup hs hp =>
    cases r
    obtain ⟨its, rv, pl, hz⟩ := I.tuple hs
    obtain ⟨as, ra⟩ := I.readsP (I.pairs hp rv)
    obtain ⟨o, ho, hc, n, hd⟩ := pl
    refine ⟨⟨_, .tuple ho hc hd (by simpa using ra)⟩, lay_pD _, ?_⟩
    show PyData.depthAll _ + 1 ≤ 3
    have := depth_pD ‹_›
    omega
  | @web a b n vs ts ha hs hp =>
    cases r
    obtain ⟨its, rv, pl, hz⟩ := I.tuple hs
    obtain ⟨as, ra⟩ := I.readsP (I.pairs hp rv)
    obtain ⟨o, ho, hc, k, hd⟩ := pl
    obtain ⟨its2, rv2, ⟨o2, ho2, hc2, k2, hd2⟩, _⟩ := I.tuple ha
    obtain ⟨v1, v2, rfl, ⟨t1, rfl⟩, r2⟩ := vals2 rv2
    cases r2
    refine ⟨⟨_, .tuple ho2 hc2 hd2 (.cons (.int _ _) (.cons (.tuple ho hc hd (by simpa using ra)) .nil))⟩, ?_, ?_⟩
    · show (true && (PyData.canLayAll0 (ts.map pD) && true)) = true
      rw [lay_pD]
      rfl
    · show max 0 (max (PyData.depthAll (ts.map pD) + 1) 0) + 1 ≤ 3
      have := depth_pD ts
      omega
noncomputable def rEqD (K : PySem.W.Frag) (neg : Bool) : R2 := fun x y H Q => ∃ d e b, DatV K H x d ∧ DatV K H y e ∧ PyData.eqv d e = b ∧ Q (.bl (if neg then !b else b)) H
theorem op_eqD (hu : X.A.units + 64 < cLine) : OpR X (compareOp .Eq) (rEqD X.K false) := by
  intro pins s σ H x y v u Q I rx ry h
  obtain ⟨d, e, b, hd, he, hb, q⟩ := h
  obtain ⟨⟨as, ra⟩, la, da⟩ := hd.reads I rx
  obtain ⟨⟨bs, rb⟩, lb, db⟩ := he.reads I ry
  exact SeqAt.compareEq_reads ra rb la lb (by omega) (hb ▸ ⟨.bl b, H, I, rfl, q⟩)
theorem op_neD (hu : X.A.units + 64 < cLine) : OpR X (compareOp .NotEq) (rEqD X.K true) := by
  intro pins s σ H x y v u Q I rx ry h
  obtain ⟨d, e, b, hd, he, hb, q⟩ := h
  obtain ⟨⟨as, ra⟩, la, da⟩ := hd.reads I rx
  obtain ⟨⟨bs, rb⟩, lb, db⟩ := he.reads I ry
  exact SeqAt.compareNe_reads ra rb la lb (by omega) (hb ▸ ⟨.bl (!b), H, I, rfl, q⟩)
theorem eqv_lst (ts us : List Tie) : PyData.eqv (.list (ts.map pD)) (.list (us.map pD)) = decide (ts = us) := eqv_pD ts us
end
end L2

set_option Elab.async false
set_option linter.all false
set_option maxRecDepth 100000
namespace L2
open PySem PySem.Spec PyProof.Rows HT
section
variable {prog : Program} {w : World} {A : Around} {E : Value → Shared → Prop} {s : Shared}
end
section
variable {X : Cx} {e : Expr} {te : TE} {p1 p2 p3 pos : Pos}
end
end L2

set_option Elab.async false
set_option linter.all false
set_option maxRecDepth 100000
namespace PySem
open Sem (wp)
open AutoSeq1 (wpAny_loadPart')
theorem meets_enumerate_newT (l : Addr) (items : Array Value) (n : Nat) (dct : Option Addr) (sl : Array (Option Value)) :
    Meets (Builtin.«enumerate.__new__» ⟨[.type "enumerate", .ref l], []⟩) (fun _ R s => s.heap.get? l = some { cls := .type "tuple", dict := dct, data := .seq items n, slots := sl } ∧
      R (.ok (.ret (.ref (s.heap.push { cls := .type "tuple_iterator", data := .fields #[.ref l, .int 0 0] }).objs.size)))
        { s with heap := (s.heap.push { cls := .type "tuple_iterator", data := .fields #[.ref l, .int 0 0] }).push { cls := .type "enumerate", data := .fields #[.none, .bool false, .ref s.heap.objs.size, rawInt 0, .none, .none] } }) :=
  .of_wp fun prog w A R s h => by
    obtain ⟨hp, g, d, tk, os⟩ := s; obtain ⟨hl, h⟩ := h
    have hsub := sub_enumerate
    have hL : Heap.IsTuple (Shared.heap ⟨hp, g, d, tk, os⟩) l items := ⟨_, hl, rfl, n, rfl⟩
    wp_walk using wpAny_loadPart' hl
    refine wpAny_stack_any fun st => wpAny_pure ?_
    split
    · rename_i c _ _ _ _ _
      cases (c == Value.type "enumerate")
      · wp_walk using wpAny_loadPart' hl, wpAny_pyIter_tuple hL
        exact ⟨_, rfl, h⟩
      · wp_walk using wpAny_loadPart' hl, wpAny_pyIter_tuple hL
        exact ⟨_, rfl, h⟩
    · wp_walk using wpAny_loadPart' hl, wpAny_pyIter_tuple hL
      exact ⟨_, rfl, h⟩
section
variable {prog : Program} {w : World} {A : Around} {E : Value → Shared → Prop} {s : Shared}
theorem call_enumerate_tuple {l : Addr} {items : Array Value} {Q : Value → Shared → Prop} (hL : s.heap.IsTuple l items)
    (h : ∀ h', IsEnum h' (s.heap.objs.size + 1) s.heap.objs.size 0 .none → h'.IsTupleIter s.heap.objs.size l 0 → h'.objs.size = s.heap.objs.size + 2 →
      (∀ b o, s.heap.get? b = some o → h'.get? b = some o) → Q (.ref (s.heap.objs.size + 1)) { s with heap := h' }) :
    wpAny (model prog w) A (call (.type "enumerate") [.ref l]) Q E s := by
  obtain ⟨⟨c, dct, dt, sl⟩, hl, hc, n, hd⟩ := hL
  replace hc : c = .type "tuple" := hc
  replace hd : dt = .seq items n := hd
  subst hc hd
  refine callType_new F.called_enumerate (by decide) (F.typeCall_enumerate_1 _) (F.newCall_enumerate_1 _) (fun obj => F.args_object_init_2 obj _) F.entry_enumerate_new
    (meets_enumerate_newT l items n dct sl) ⟨hl, ?_⟩
  have hz : (s.heap.push { cls := .type "tuple_iterator", data := .fields #[.ref l, .int 0 0] }).objs.size = s.heap.objs.size + 1 := Heap.size_push ..
  show _ ∧ _
  rw [hz]
  have he : IsEnum ((s.heap.push { cls := .type "tuple_iterator", data := .fields #[.ref l, .int 0 0] }).push
      { cls := .type "enumerate", data := .fields #[.none, .bool false, .ref s.heap.objs.size, rawInt 0, .none, .none] }) (s.heap.objs.size + 1) s.heap.objs.size 0 .none := by
    have := Heap.get?_push_size (s.heap.push { cls := .type "tuple_iterator", data := .fields #[.ref l, .int 0 0] })
      (o := { cls := .type "enumerate", data := .fields #[.none, .bool false, .ref s.heap.objs.size, rawInt 0, .none, .none] }) rfl
    rw [hz] at this; exact this
  refine ⟨⟨_, he, rfl⟩, h _ he ⟨_, Heap.get?_push_of_some _ (Heap.get?_push_size _ rfl), rfl, rfl⟩ (by rw [Heap.size_push, hz]) fun b o x => Heap.get?_push_of_some _ (Heap.get?_push_of_some _ x)⟩
theorem nextOf_tuple_item {it l : Addr} {i : Nat} {items} {x : Value} {Q : Value → Shared → Prop} (hit : s.heap.IsTupleIter it l i)
    (hl : s.heap.IsTuple l items) (hx : items[i]? = some x)
    (hQ : ∀ h', h'.IsTupleIter it l (i + 1) → Heap.SameBut it s.heap h' → Q x { s with heap := h' }) :
    wpAny (model prog w) A (Builtin.SmallTypes.nextOf (.ref it)) Q E s := by
  obtain ⟨o, ho, hc, hd⟩ := id hit
  obtain ⟨ol, hol, _, nl, hdl⟩ := hl
  unfold Builtin.SmallTypes.nextOf
  refine wpAny_bind (wpAny_callSpecial?_slot (name := Str.ofString "__next__") hit.typeIs PyProof.Rows.slot_tupleiter_next
    (wpAny_call_entry PyProof.Rows.slot_tupleiter_next hit.typeIs PyProof.Rows.entry_tupleiter_next ?_ (PyProof.Rows.args_tupleiter_next _)))
  show wpAny _ _ (field (.ref it) 0 >>= _) _ _ s
  refine wpAny_bind (wpAny_field ho hd (x := .ref l) rfl ?_)
  show wpAny _ _ (if (Value.ref l == Value.none) = true then _ else _) _ _ s
  rw [if_neg (show ¬ ((Value.ref l == Value.none) = true) from Bool.false_ne_true)]
  show wpAny _ _ (field (.ref it) 1 >>= _) _ _ s
  refine wpAny_bind (wpAny_field ho hd (x := .int i 0) rfl ?_)
  show wpAny _ _ (seqItems? (.ref l) >>= _) _ _ s
  refine wpAny_bind (wpAny_seqItems hol hdl ?_)
  simp only [Int.toNat_natCast, hx]
  refine wpAny_bind (wpAny_setField ho hd (by simp) (wpAny_pure ⟨x, rfl, wpAny_pure (hQ _ ?_ (Heap.SameBut.update ..))⟩))
  exact ⟨_, Heap.get?_update_self _ ho (Obj.isFreed_of_fields (Obj.data_mapFields hd _)), (Obj.cls_mapFields ..).trans hc, by
    rw [Obj.data_mapFields hd]; simp [rawInt]⟩
theorem nextOf_tuple_end {it l : Addr} {i : Nat} {items} {Q : Value → Shared → Prop} (hh : A.handled = none)
    (hit : s.heap.IsTupleIter it l i) (hl : s.heap.IsTuple l items) (hx : items[i]? = none)
    (hE : ∀ h' e, Heap.ExtBut it s.heap h' → (∃ o, h'.get? e = some o ∧ o.cls = .type "StopIteration") → E (.ref e) { s with heap := h' }) :
    wpAny (model prog w) A (Builtin.SmallTypes.nextOf (.ref it)) Q E s := by
  obtain ⟨o, ho, hc, hd⟩ := id hit
  obtain ⟨ol, hol, _, nl, hdl⟩ := hl
  unfold Builtin.SmallTypes.nextOf
  refine wpAny_bind (wpAny_callSpecial?_slot (name := Str.ofString "__next__") hit.typeIs PyProof.Rows.slot_tupleiter_next
    (wpAny_call_entry PyProof.Rows.slot_tupleiter_next hit.typeIs PyProof.Rows.entry_tupleiter_next ?_ (PyProof.Rows.args_tupleiter_next _)))
  show wpAny _ _ (field (.ref it) 0 >>= _) _ _ s
  refine wpAny_bind (wpAny_field ho hd (x := .ref l) rfl ?_)
  show wpAny _ _ (if (Value.ref l == Value.none) = true then _ else _) _ _ s
  rw [if_neg (show ¬ ((Value.ref l == Value.none) = true) from Bool.false_ne_true)]
  show wpAny _ _ (field (.ref it) 1 >>= _) _ _ s
  refine wpAny_bind (wpAny_field ho hd (x := .int i 0) rfl ?_)
  show wpAny _ _ (seqItems? (.ref l) >>= _) _ _ s
  refine wpAny_bind (wpAny_seqItems hol hdl ?_)
  simp only [Int.toNat_natCast, hx]
  refine wpAny_bind (wpAny_rule (wpAny_bind (wpAny_setField ho hd (by simp) ?_)))
  show wpAny _ _ (newExc (.type "StopIteration") [] >>= _) _ _ _
  refine wpAny_bind ?_
  simp only [newExc, newTuple]
  refine wpAny_bind (wpAny_newObj_type ?_ (by size_fits))
  refine wpAny_bind (m := firstArgMember _ _) (wpAny_of_eq (a := Value.none) (by first | rfl | (simp only [firstArgMember]; rfl)) ?_)
  refine wpAny_newObj_type ?_ (by size_fits)
  simp only [raiseNew]
  refine wpAny_bind (wpAny_handled ?_)
  first | rw [show A.in1.handled = none from hh] | rw [hh]
  refine wpAny_bind (wpAny_pure (wpAny_throw ?_))
  exact hE _ _ (((Heap.SameBut.update ..).extBut.push _).push _) ⟨_, Heap.get?_push_size _ rfl, rfl⟩
end
theorem Draws.tuple {prog : Program} {w : World} {A : Around} (hh : A.handled = none) (it l : Addr) (hne : l ≠ it) (items : Array Value) :
    Draws prog w A it [it, l] items.size (fun i v => items[i]? = some v) (fun i h => h.IsTupleIter it l i ∧ h.IsTuple l items) where
  live := fun _ _ st => let ⟨o, ho, _⟩ := st.1; ⟨o, ho⟩
  frame := fun _ _ _ st hk => ⟨let ⟨o, ho, r⟩ := st.1; ⟨o, hk it (by simp) o ho, r⟩, let ⟨o, ho, r⟩ := st.2; ⟨o, hk l (by simp) o ho, r⟩⟩
  item := fun i s Q E hi st hQ => by
    refine nextOf_tuple_item st.1 st.2 (x := items[i]) (by simp [hi]) fun h' hit' hs' => ?_
    exact hQ _ h' s.toks (by simp [hi]) ⟨hit', st.2.extBut hs'.extBut hne⟩ hs'
  done := fun s Q E st hE => nextOf_tuple_end hh st.1 st.2 (by simp) hE
end PySem
namespace L2
open PySem PySem.Spec PyProof.Rows
noncomputable def Ite (K : PySem.W.Frag) (a : Addr) : It :=
  ⟨fun i H => ∃ xs x, SqT K H a xs ∧ xs[i]? = some x, fun i H x H' => ∃ t v, x = .ref t ∧ H t = none ∧ H' = upd H t (.tup [.int i, v]) ∧ ∀ xs, SqT K H a xs → xs[i]? = some v, fun i H => ∃ xs, SqT K H a xs ∧ xs.length ≤ i⟩
theorem turn_enum {P : Program} {w : World} {K : PySem.W.Frag} {elts : List Expr} {kk : Nat} {pos : Pos} (a e it : Addr) (hei : e ≠ it) :
    Turn P w K (.Tuple elts kk pos) (Ite K a) [e, it] e (fun i h => (∃ old, IsEnum h e it i old) ∧ h.IsTupleIter it a i) where
  mem := by simp
  obj := fun i h st b hb => by
    obtain ⟨⟨old, he⟩, o, ho, hc, hd⟩ := st
    rcases List.mem_cons.mp hb with rfl | hb
    · exact ⟨_, he, fun v z => nomatch z⟩
    · have e1 : b = it := by simpa using hb
      subst e1
      exact ⟨o, ho, fun v z => by rw [hd] at z; cases z⟩
  keep := fun i h h' st k => by
    obtain ⟨⟨old, he⟩, o, ho, r⟩ := st
    exact ⟨⟨old, k e (by simp) _ he⟩, o, k it (by simp) _ ho, r⟩
  item := by
    intro X hP hw hK hc i pins s σ H E I hf st hg
    subst hP hw hK
    obtain ⟨xs, x, hq, hx⟩ := hg
    obtain ⟨its, rv, p, hz⟩ := I.tuple hq
    obtain ⟨u, hu, ru⟩ := rv.get hx
    obtain ⟨⟨old, he⟩, hit⟩ := st
    have hai : a ≠ it := fun z => by
      obtain ⟨o, ho, hc1, _⟩ := p
      obtain ⟨o', ho', hc2, _⟩ := hit
      rw [z, ho'] at ho
      cases ho
      rw [hc2] at hc1
      injection hc1 with z2
      exact absurd z2 (by decide)
    have hae : e ≠ a := fun z => by
      obtain ⟨o, ho, hc1, _⟩ := p
      have he' : s.heap.get? e = some _ := he
      rw [z, ho] at he'
      cases he'
      have z1 : Value.type "enumerate" = Value.type "tuple" := hc1
      injection z1 with z2
      exact absurd z2 (by decide)
    have hlt : i < its.toArray.size := by have := (List.getElem?_eq_some_iff.mp hu).1; simpa using this
    obtain ⟨e0, e1, e2, e3, e4, e5⟩ := hf e (by simp)
    obtain ⟨f0, f1, f2, f3, f4, f5⟩ := hf it (by simp)
    have D := Draws.tuple (prog := X.prog) (w := X.w) (A := X.A.in1) (I.ok.hd hc) it a hai its.toArray
    refine wpAny_pyNext_enum_itemD D he ⟨hit, show s.heap.IsTuple a its.toArray from p⟩ hlt hei (by simp [hei, hae]) fun x' h' tk hP ho hs' hT hsz hk => ⟨_, rfl, ?_⟩
    have ex : x' = u := by
      have hP' : its[i]? = some x' := by simpa using hP
      rw [hu] at hP'
      exact (Option.some.inj hP').symm
    subst ex
    refine wpAny_letOwnedTupleGo_enum ho fun h2 he2 hs2 => ?_
    have hTn : H s.heap.objs.size = none := I.hok.fresh (Nat.le_refl _)
    have keep2 : ∀ b o, b ≠ e → b ≠ it → s.heap.get? b = some o → h2.get? b = some o := fun b o hb1 hb2 q => (hs2.2 b hb1).trans (hk b o hb1 hb2 q)
    have hTe : s.heap.objs.size ≠ e := Nat.ne_of_gt (Heap.lt_size he)
    have hTup : h2.get? s.heap.objs.size = some { cls := .type "tuple", data := .seq #[.int i tk, x'] } := (hs2.2 _ hTe).trans hT
    have J : Inv X pins σ (upd H s.heap.objs.size (.tup [.int i, x])) { s with heap := h2, toks := tk + 1 } := by
      refine I.step (g' := s.gens) (d' := s.drawn) (t' := tk + 1) (ch := [e, it]) (fun b hb => ?_) (fun b o _ _ hcb q _ => keep2 b o (fun z => hcb (by simp [z])) (fun z => hcb (by simp [z])) q)
        (fun b o _ _ hcb q _ => ⟨o.slots, keep2 b o (fun z => hcb (by simp [z])) (fun z => hcb (by simp [z])) q⟩) (fun b o _ q n => by rw [upd_ne (Nat.ne_of_lt (Heap.lt_size q))]; exact n)
        (fun b o hcb q => ⟨o, keep2 b o (fun z => hcb (by simp [z])) (fun z => hcb (by simp [z])) q⟩) (fun b ys q => by rw [upd_ne (ne_of_none q hTn)]; exact q) (fun b o y q => by rw [upd_ne (ne_of_none q hTn)]; exact q)
        (fun b ps q => ⟨#[], by rw [upd_ne (ne_of_none q hTn), q]; simp⟩) (fun m hm => ?_) ?_ I.bare
      · rcases List.mem_cons.mp hb with rfl | hb
        · exact ⟨e3, e1, e4, e5⟩
        · have z : b = it := by simpa using hb
          subst z
          exact ⟨f3, f1, f4, f5⟩
      · obtain ⟨o, es, ep, ho', r⟩ := hm
        exact ⟨o, es, ep, keep2 _ o (Ne.symm e1) (Ne.symm f1) ho', r⟩
      · intro b u' q
        have nT : ∀ {c y}, H c = some y → c ≠ e ∧ c ≠ it := fun {c y} z => ⟨fun v => (by rw [v, e0] at z; exact nomatch z), fun v => (by rw [v, f0] at z; exact nomatch z)⟩
        by_cases hb : b = s.heap.objs.size
        · subst hb
          rw [upd_same] at q
          cases q
          exact ⟨(by show 2 ≤ sizeLine; decide), [.int i tk, x'], .cons ⟨_, rfl⟩ (.cons ru .nil), _, hTup, rfl, _, rfl⟩
        · rw [upd_ne hb] at q
          refine (I.hok b u' q).stay (fun c v hcv y => keep2 c v ?_ ?_ y) (fun c y => by rw [upd_ne (ne_of_none y hTn)]; exact y) fun c ys y => by rw [upd_ne (ne_of_none y hTn)]; exact y
          · rcases hcv with rfl | z
            · exact (nT q).1
            · exact (nT z).1
          · rcases hcv with rfl | z
            · exact (nT q).2
            · exact (nT z).2
    refine ⟨.ref s.heap.objs.size, _, J, rfl, ⟨_, x, rfl, hTn, rfl, fun ys hy => by rw [I.tuple_inj hy hq]; exact hx⟩, ⟨⟨x', ?_⟩, ?_⟩, fun b hb => ?_⟩
    · have he3 : IsEnum h2 e it ((i : Int) + 1) x' := by simpa using he2
      have ec : ((i + 1 : Nat) : Int) = (i : Int) + 1 := by omega
      rw [ec]
      exact he3
    · obtain ⟨o, ho2, r⟩ := hs'.1
      exact ⟨o, (hs2.2 it (Ne.symm hei)).trans ho2, r⟩
    · rw [upd_ne]
      · exact (hf b hb).1
      · rcases List.mem_cons.mp hb with rfl | hb
        · exact Ne.symm hTe
        · have z : b = it := by simpa using hb
          subst z
          obtain ⟨o, ho2, _⟩ := hit
          exact Nat.ne_of_lt (Heap.lt_size ho2)
  done := by
    intro X hP hw hK hc i pins s σ H E I hf st hg
    subst hP hw hK
    obtain ⟨xs, hq, hx⟩ := hg
    obtain ⟨its, rv, p, hz⟩ := I.tuple hq
    obtain ⟨⟨old, he⟩, hit⟩ := st
    obtain ⟨f0, f1, f2, f3, f4, f5⟩ := hf it (by simp)
    have hl := rv.length
    have hT : s.TypeIs (.ref e) "enumerate" := ⟨_, he, rfl⟩
    unfold pyNext
    refine wpAny_bind (wpAny_attempt (wpAny_callSpecial?_slot (name := Str.ofString "__next__") hT PySem.F.slot_enumerate_next
      (wpAny_call_entry PySem.F.slot_enumerate_next hT PySem.F.entry_enumerate_next ?_ (PySem.F.args_enumerate_next_1 _))))
    show wpAny _ _ (field (.ref e) 2 >>= _) _ _ _
    refine wpAny_bind (wpAny_field he rfl (x := .ref it) rfl ?_)
    refine wpAny_bind (nextOf_tuple_end (I.ok.hd hc) hit (show s.heap.IsTuple a its.toArray from p) (by simp; omega) fun h' x he' hx' => ?_)
    obtain ⟨o, ho, hc'⟩ := hx'
    refine wpAny_bind (wpAny_isInstance (T := "StopIteration") (b := true) ⟨o, ho, hc'⟩ isSubtype_stop ?_)
    exact wpAny_pure ⟨rfl, I.turned (t' := s.toks) (fun b o hb e => he' b o hb e) f0 f1 f3 f4 f5⟩
  self := fun A i s Q E st h => by
    obtain ⟨⟨old, he⟩, _⟩ := st
    have hT : s.TypeIs (.ref e) "enumerate" := ⟨_, he, rfl⟩
    refine wpAny_pyIter_slot hT PySem.F.slot_enumerate_iter (wpAny_call_entry PySem.F.slot_enumerate_iter hT PySem.F.entry_enumerate_iter ?_ (PySem.F.args_enumerate_iter_1 _))
    show wpAny _ _ (ret (.ref e)) _ _ s
    exact wpAny_pure ⟨_, rfl, "enumerate", _, hT, PySem.F.slot_enumerate_next.lookup, h⟩
theorem boot_enumerate : bootBuiltins "enumerate" = some (.type "enumerate") := by decide +kernel
noncomputable def iEnum (K : PySem.W.Frag) (ta : TA) : TI := fun σ H R => ta σ H fun vs H1 => ∃ a, vs = [.ref a] ∧ (∃ xs, SqT K H1 a xs) ∧ R (Ite K a) H1
theorem pi_enum {X : Cx} {elts : List Expr} {kk : Nat} {tpos : Pos} {a : Expr} {ta : TA} {p pos : Pos} (hg : Gl X "enumerate") (hm : X.mg "enumerate" = none) (ha : PA X [a] ta) (hs : starEach [a] X.env = [(false, eval a X.env)] := by rfl) : PI X (.Tuple elts kk tpos) (.Call (.Name "enumerate" p) [a] [] pos) (iEnum X.K ta) := by
  intro pins s σ H R I h
  refine Call_ (ld_blt I hg hm boot_enumerate (PyProof.Rows.callWith_type1 (thn (ha pos pins s σ H _ I h) fun us s1 ⟨vs, H1, I1, r1, q1⟩ => ?_) hs rfl))
  obtain ⟨b, e, ⟨xs, hq⟩, q⟩ := q1
  subst e
  obtain ⟨u, rfl, rx⟩ := vals1 r1
  cases rx
  obtain ⟨its, rv, pt, hz⟩ := I1.tuple hq
  refine call_enumerate_tuple (show s1.heap.IsTuple b its.toArray from pt) fun h' he hit hsz hk => ?_
  have I2 : Inv X pins σ H1 { s1 with heap := h' } := I1.kept (t' := s1.toks) hk
  have T : Turn X.prog X.w X.K (.Tuple elts kk tpos) (Ite X.K b) [s1.heap.objs.size + 1, s1.heap.objs.size] (s1.heap.objs.size + 1) (fun i h => (∃ old, IsEnum h (s1.heap.objs.size + 1) s1.heap.objs.size i old) ∧ h.IsTupleIter s1.heap.objs.size b i) := turn_enum b _ _ (Nat.ne_of_gt (Nat.lt_succ_self _))
  refine T.self _ 0 _ _ _ ⟨⟨_, he⟩, hit⟩ ⟨_, _, _, _, H1, rfl, I2, T, ⟨⟨_, he⟩, hit⟩, fun c hc => ?_, q⟩
  rcases List.mem_cons.mp hc with rfl | hc
  · exact I1.fpOk (Nat.le_succ _) (I1.hok.fresh (Nat.le_succ _))
  · have z : c = s1.heap.objs.size := by simpa using hc
    subst z
    exact I1.fpOk (Nat.le_refl _) (I1.hok.fresh (Nat.le_refl _))
end L2

set_option Elab.async false
set_option linter.all false
set_option maxRecDepth 100000
namespace L2
open PySem PySem.Spec PyProof.Rows

section
variable {κ : Type} [DecidableEq κ]
noncomputable def valV (kvs : List (κ × V)) (k : κ) : Option V := (kvs.find? fun kv => decide (kv.1 = k)).map (·.2)
noncomputable def putK (kvs : List (κ × V)) (k : κ) (v : V) : List (κ × V) :=
  if (kvs.any fun kv => decide (kv.1 = k)) = true then kvs.map (fun kv => if kv.1 = k then (kv.1, v) else kv) else kvs ++ [(k, v)]
theorem valV_pos {p : κ × V} {r : List (κ × V)} {k : κ} (e : p.1 = k) : valV (p :: r) k = some p.2 := by simp [valV, List.find?_cons, e]
theorem valV_neg {p : κ × V} {r : List (κ × V)} {k : κ} (e : ¬ p.1 = k) : valV (p :: r) k = valV r k := by simp [valV, List.find?_cons, e]
theorem valV_any (k : κ) : ∀ kvs : List (κ × V), (kvs.any fun kv => decide (kv.1 = k)) = (valV kvs k).isSome
  | [] => rfl
  | p :: r => by
    rw [List.any_cons]
    by_cases e : p.1 = k
    · simp only [valV_pos e, decide_eq_true e, Bool.true_or, Option.isSome_some]
    · rw [valV_neg e, decide_eq_false e, Bool.false_or]; exact valV_any k r
theorem length_putK (kvs : List (κ × V)) (k : κ) (v : V) : (putK kvs k v).length ≤ kvs.length + 1 := by
  unfold putK
  split
  · rw [List.length_map]; omega
  · rw [List.length_append, List.length_cons, List.length_nil]; omega
theorem putK_new {kvs : List (κ × V)} {k : κ} (v : V) (h : valV kvs k = none) : putK kvs k v = kvs ++ [(k, v)] := by
  unfold putK
  rw [valV_any, h]
  exact if_neg (by decide)

theorem RelO.isSome_eq {o : Option V} {u : Option Value} (r : RelO o u) : o.isSome = u.isSome := by
  cases o with
  | none => cases u with
    | none => rfl
    | some _ => exact (show False from r).elim
  | some _ => cases u with
    | none => exact (show False from r).elim
    | some _ => rfl
theorem KV.val {kvs : List (κ × V)} {vs : List (κ × Value)} (r : KV kvs vs) (k : κ) : RelO (valV kvs k) (valueAt vs k) := by
  unfold KV at r
  induction r with
  | nil => exact True.intro
  | @cons p q ps qs h t ih =>
    obtain ⟨h1, h2⟩ := h
    by_cases e : p.1 = k
    · have e' : q.1 = k := h1.symm.trans e
      have b : valueAt (q :: qs) k = some q.2 := by simp [valueAt, List.find?_cons, e']
      rw [valV_pos e, b]; exact h2
    · have e' : ¬ q.1 = k := fun z => e (h1.trans z)
      have b : valueAt (q :: qs) k = valueAt qs k := by simp [valueAt, List.find?_cons, e']
      rw [valV_neg e, b]; exact ih
theorem KV.any {kvs : List (κ × V)} {vs : List (κ × Value)} (r : KV kvs vs) (k : κ) : (kvs.any fun kv => decide (kv.1 = k)) = vs.any fun kv => decide (kv.1 = k) := by
  unfold KV at r
  induction r with
  | nil => rfl
  | cons h t ih => rw [List.any_cons, List.any_cons, ih, h.1]
theorem KV.repl {kvs : List (κ × V)} {vs : List (κ × Value)} (r : KV kvs vs) (k : κ) {y : V} {u : Value} (ry : RelV y u) :
    KV (kvs.map fun kv => if kv.1 = k then (kv.1, y) else kv) (vs.map fun kv => if kv.1 = k then (kv.1, u) else kv) := by
  unfold KV at r ⊢
  induction r with
  | nil => exact .nil
  | @cons p q ps qs h t ih =>
    rw [List.map_cons, List.map_cons]
    refine .cons ?_ ih
    obtain ⟨h1, h2⟩ := h
    by_cases e : p.1 = k
    · rw [if_pos e, if_pos (h1.symm.trans e)]; exact ⟨h1, ry⟩
    · rw [if_neg e, if_neg (fun z => e (h1.trans z))]; exact ⟨h1, h2⟩
theorem KV.put {kvs : List (κ × V)} {vs : List (κ × Value)} (r : KV kvs vs) (k : κ) {y : V} {u : Value} (ry : RelV y u) : KV (putK kvs k y) (stored vs k u) := by
  unfold putK stored
  rw [r.any k]
  by_cases e : (vs.any fun kv => decide (kv.1 = k)) = true
  · rw [if_pos e, if_pos e]; exact r.repl k ry
  · rw [if_neg e, if_neg e]; exact Paired.snoc r ⟨rfl, ry⟩
theorem KV.keys {kvs : List (κ × V)} {vs : List (κ × Value)} (r : KV kvs vs) : kvs.map (·.1) = vs.map (·.1) := by
  unfold KV at r
  induction r with
  | nil => rfl
  | cons h t ih => rw [List.map_cons, List.map_cons, ih, h.1]
theorem KV.length {kvs : List (κ × V)} {vs : List (κ × Value)} (r : KV kvs vs) : kvs.length = vs.length := Paired.length r
end


theorem kV_is {P : Program} {w : World} {k : Key} {u : Value} (r : RelV (kV k) u) : (mixKind P w).is k u = true := by
  cases k with
  | inl i => obtain ⟨t, e⟩ := (show ∃ t, u = Value.int i t from r); subst e; exact mixKind_int P w i t
  | inr x => obtain ⟨t, e⟩ := (show ∃ t, u = Value.str x t from r); subst e; exact mixKind_str P w x t
theorem items_are {P : Program} {w : World} : ∀ {ks : List Key} {us : List Value}, Vals (ks.map kV) us → ItemsAre (mixKind P w) ks us
  | [], _, r => by rw [List.map_nil] at r; cases r; exact .nil
  | k :: ks, _, r => by
    rw [List.map_cons] at r
    cases r with
    | cons h t => exact .cons (kV_is h) (items_are t)

noncomputable abbrev KT (H : Hp) : List (List Key × V) → List (List Key × Addr × Value) → Prop := Paired fun p q => p.1 = q.1 ∧ H q.2.1 = some (.tup (p.1.map kV)) ∧ RelV p.2 q.2.2
theorem KT.val {H : Hp} {kvs : List (List Key × V)} {xs : List (List Key × Addr × Value)} (r : KT H kvs xs) (k : List Key) : RelO (valV kvs k) ((atKey xs k).map (·.2)) := by
  induction r with
  | nil => exact True.intro
  | @cons p q ps qs h t ih =>
    obtain ⟨h1, _, h2⟩ := h
    by_cases e : p.1 = k
    · have e' : q.1 = k := h1.symm.trans e
      have b : atKey (q :: qs) k = some q.2 := by simp [atKey, List.find?_cons, e']
      rw [valV_pos e, b]; exact h2
    · have e' : ¬ q.1 = k := fun z => e (h1.trans z)
      have b : atKey (q :: qs) k = atKey qs k := by simp [atKey, List.find?_cons, e']
      rw [valV_neg e, b]; exact ih
theorem KT.repl {H : Hp} {kvs : List (List Key × V)} {xs : List (List Key × Addr × Value)} (r : KT H kvs xs) (k : List Key) {y : V} {u : Value} (ry : RelV y u) :
    KT H (kvs.map fun kv => if kv.1 = k then (kv.1, y) else kv) (xs.map (putAt k u)) := by
  induction r with
  | nil => exact .nil
  | @cons p q ps qs h t ih =>
    rw [List.map_cons, List.map_cons]
    refine .cons ?_ ih
    obtain ⟨h1, h2, h3⟩ := h
    unfold putAt
    by_cases e : p.1 = k
    · rw [if_pos e, if_pos (h1.symm.trans e)]; exact ⟨h1, h2, ry⟩
    · rw [if_neg e, if_neg (fun z => e (h1.trans z))]; exact ⟨h1, h2, h3⟩
theorem KT.put {H : Hp} {kvs : List (List Key × V)} {xs : List (List Key × Addr × Value)} (r : KT H kvs xs) (k : List Key) {b : Addr} {y : V} {u : Value} (hb : H b = some (.tup (k.map kV))) (ry : RelV y u) :
    KT H (putK kvs k y) (storedH xs k b u) := by
  have e : (kvs.any fun kv => decide (kv.1 = k)) = (atKey xs k).isSome := by
    rw [valV_any, (r.val k).isSome_eq, Option.isSome_map]
  unfold putK storedH
  rw [e]
  by_cases q : (atKey xs k).isSome = true
  · rw [if_pos q, if_pos q]; exact r.repl k ry
  · rw [if_neg q, if_neg q]; exact Paired.snoc r ⟨rfl, hb, ry⟩
theorem KT.keeps {H H' : Hp} {kvs : List (List Key × V)} {xs : List (List Key × Addr × Value)} (r : KT H kvs xs) (ht : ∀ b ys, H b = some (.tup ys) → H' b = some (.tup ys)) : KT H' kvs xs :=
  Paired.mapP r fun _ _ z => ⟨z.1, ht _ _ z.2.1, z.2.2⟩

section
variable {P : Program} {w : World} {H : Hp} {h : Heap} {a : Addr}
theorem rd_of {u : HO} (ok : HOk P w H h) (e : Rd H a u) : ObjOk P w H h a u := e.ok ok
theorem dk_rd {kvs : List (Key × V)} (ok : HOk P w H h) (e : Rd H a (.dK kvs)) : kvs.length ≤ sizeLine ∧ (a == sysModules) = false ∧ ∃ vs, KV kvs vs ∧ h.DictOf (mixKind P w) a vs :=
  show ObjOk P w H h a (.dK kvs) from rd_of ok e
theorem dk_of {kvs : List (Key × V)} (ok : HOk P w H h) (e : H a = some (.dK kvs)) : kvs.length ≤ sizeLine ∧ (a == sysModules) = false ∧ ∃ vs, KV kvs vs ∧ h.DictOf (mixKind P w) a vs := dk_rd ok (.inl e)
theorem key_of {ks : List Key} (ok : HOk P w H h) (e : H a = some (.tup (ks.map kV))) : (tupleKind (mixKind P w)).is h ks a := by
  obtain ⟨_, its, r, o, h1, h2, n, h3⟩ := (show ObjOk P w H h a (.tup (ks.map kV)) from ok a _ e)
  exact ⟨o, its.toArray, n, h1, h2, h3, by simpa using items_are r⟩
theorem dt_rd {kvs : List (List Key × V)} (ok : HOk P w H h) (e : Rd H a (.dT kvs)) : kvs.length ≤ sizeLine ∧ (a == sysModules) = false ∧
    ∃ xs, KT H kvs xs ∧ h.DictOfH (tupleKind (mixKind P w)) a xs := by
  obtain ⟨z, y, xs, r, o, es, ep, h1, h2, h3, h4, h5⟩ := (show ObjOk P w H h a (.dT kvs) from rd_of ok e)
  refine ⟨z, y, xs, r, o, es, ep, h1, h2, h3, h4, fun x hx => ?_, h5⟩
  have all : ∀ {l : List (List Key × V)} {m : List (List Key × Addr × Value)}, KT H l m → ∀ x ∈ m, (tupleKind (mixKind P w)).is h x.1 x.2.1 := by
    intro l m q
    induction q with
    | nil => intro x hx; exact nomatch hx
    | @cons p q ps qs hq t ih =>
      intro x hx
      rcases List.mem_cons.mp hx with e | hx
      · subst e
        exact key_of ok (by rw [← hq.1]; exact hq.2.1)
      · exact ih x hx
  exact all r x hx
theorem dt_of {kvs : List (List Key × V)} (ok : HOk P w H h) (e : H a = some (.dT kvs)) : kvs.length ≤ sizeLine ∧ (a == sysModules) = false ∧
    ∃ xs, KT H kvs xs ∧ h.DictOfH (tupleKind (mixKind P w)) a xs := dt_rd ok (.inl e)
end

noncomputable def DGet (H : Hp) (a : Addr) (y : V) (r : Option V) : Prop :=
  (∃ kvs k, Rd H a (.dK kvs) ∧ y = kV k ∧ r = valV kvs k) ∨ ∃ kvs k b, Rd H a (.dT kvs) ∧ y = .ref b ∧ H b = some (.tup (k.map kV)) ∧ r = valV kvs k
noncomputable def DPut (H : Hp) (a : Addr) (y v : V) (H' : Hp) : Prop :=
  (∃ kvs k, H a = some (.dK kvs) ∧ y = kV k ∧ kvs.length < sizeLine ∧ H' = upd H a (.dK (putK kvs k v))) ∨
  ∃ kvs k b, H a = some (.dT kvs) ∧ y = .ref b ∧ H b = some (.tup (k.map kV)) ∧ kvs.length < sizeLine ∧ H' = upd H a (.dT (putK kvs k v))
theorem DGet.k {H : Hp} {a : Addr} {kvs : List (Key × V)} {k : Key} (e : H a = some (.dK kvs)) : DGet H a (kV k) (valV kvs k) := .inl ⟨kvs, k, .inl e, rfl, rfl⟩
theorem DPut.k {H : Hp} {a : Addr} {kvs : List (Key × V)} {k : Key} {v : V} (e : H a = some (.dK kvs)) (hl : kvs.length < sizeLine) : DPut H a (kV k) v (upd H a (.dK (putK kvs k v))) := .inl ⟨kvs, k, e, rfl, hl, rfl⟩
section
variable {X : Cx} {pins : List (Addr × Obj)} {σ : St} {H : Hp} {s : Shared} {a : Addr} {y v : V} {u r : Value} {o : Option V} {A : Around} {E : Value → Shared → Prop}

theorem Inv.big (I : Inv X pins σ H s) : sysModules < s.heap.objs.size := by
  have h : mainGlobals < s.heap.objs.size := (I.mod.glob.keeps I.bk).lt
  exact Nat.lt_trans (by decide) h

theorem d_notIn {Q : Value → Shared → Prop} (hu : A.units + 1 < cLine) (I : Inv X pins σ H s) (g : DGet H a y o) (ry : RelV y u) (h : ∀ s', Inv X pins σ H s' → Q (.bool (!o.isSome)) s') :
    wpAny (model X.prog X.w) A (compareOp .NotIn u (.ref a)) Q E s := by
  rcases g with ⟨kvs, k, e, ey, l⟩ | ⟨kvs, k, b, e, ey, eb, l⟩
  · subst ey
    obtain ⟨z, hd, vs, rel, dd⟩ := dk_rd I.hok e
    refine wpAny_notIn_of (kV_is ry) hd dd.mapOf ?_
    rw [← (rel.val k).isSome_eq, ← l]
    exact h _ (I.tok _)
  · subst ey
    cases (show u = Value.ref b from ry)
    obtain ⟨z, hd, xs, rel, dd⟩ := dt_rd I.hok e
    refine wpAny_notIn_heap (tupleKind_room_in1 hu) (key_of I.hok eb) hd dd ?_
    have q := (rel.val k).isSome_eq
    rw [Option.isSome_map] at q
    rw [← q, ← l]
    exact h _ (I.tok _)
theorem d_write {h' : Heap} {t' : Nat} {ob : HO} (I : Inv X pins σ H s) (mu : Mut (H a)) (hs : Heap.SameBut a s.heap h') (he : ∃ q, h'.get? a = some q) (new : ObjOk X.prog X.w (upd H a ob) h' a ob) :
    Inv X pins σ (upd H a ob) { s with heap := h', toks := t' } :=
  I.write (x := a) (e := a) mu (.inl rfl) (fun b q hb z => (hs.2 b hb).trans z) he new
theorem dk_new {P : Program} {w : World} {H' : Hp} {h' : Heap} {kvs : List (Key × V)} {vs : List (Key × Value)} (z : kvs.length ≤ sizeLine) (hd : (a == sysModules) = false) (rel : KV kvs vs) (dd : h'.DictOf (mixKind P w) a vs) :
    ObjOk P w H' h' a (.dK kvs) := ⟨z, hd, vs, rel, dd⟩
theorem d_setItem {H' : Hp} {Q : Unit → Shared → Prop} (hu : A.units + 1 < cLine) (I : Inv X pins σ H s) (g : DPut H a y v H') (ry : RelV y u) (rv : RelV v r) (h : ∀ s', Inv X pins σ H' s' → Q () s') :
    wpAny (model X.prog X.w) A (setItem (.ref a) u r) Q E s := by
  rcases g with ⟨kvs, k, e, ey, l, eH⟩ | ⟨kvs, k, b, e, ey, eb, l, eH⟩
  · subst ey eH
    obtain ⟨z, hd, vs, rel, dd⟩ := dk_of I.hok e
    have hz : vs.length ≤ sizeLine := by rw [← rel.length]; exact z
    have hl : (putK kvs k v).length ≤ sizeLine := by have := length_putK kvs k v; omega
    refine wpAny_setItem_pairs (hsz := hz) (kV_is ry) dd fun h' dd' hs => h _ ?_
    have he : ∃ q, h'.get? a = some q := let ⟨q, _, _, hq, _⟩ := dd'; ⟨q, hq⟩
    exact d_write I (by rw [e]; exact True.intro) hs he (dk_new hl hd (rel.put k rv) dd')
  · subst ey eH
    cases (show u = Value.ref b from ry)
    obtain ⟨z, hd, xs, rel, dd⟩ := dt_of I.hok e
    have hz : xs.length ≤ sizeLine := by rw [← Paired.length rel]; exact z
    have hl : (putK kvs k v).length ≤ sizeLine := by have := length_putK kvs k v; omega
    refine wpAny_setItem_heap (hsz := hz) (tupleKind_room_in1 hu) (key_of I.hok eb) dd fun h' dd' hs => h _ ?_
    obtain ⟨q, es, ep, hq, h2, h3, h4, _, h5⟩ := dd'
    refine d_write I (by rw [e]; exact True.intro) hs ⟨q, hq⟩ ⟨hl, hd, _, (rel.put k eb rv).keeps fun c ys ec => ?_, q, es, ep, hq, h2, h3, h4, h5⟩
    rw [upd_ne (ne_of ec e (fun z => nomatch z))]
    exact ec
end

section
variable {X : Cx} {pins : List (Addr × Obj)} {σ : St} {H : Hp} {s : Shared} {a : Addr} {kvs : List (Key × V)} {k : Key} {u : Value} {A : Around} {E : Value → Shared → Prop}
end


noncomputable def tDNotIn (ty td : TE) : TE := fun σ H Q => ty σ H fun y H1 => td σ H1 fun x H2 => ∃ a o, x = .ref a ∧ DGet H2 a y o ∧ Q (.bl (!o.isSome)) H2
noncomputable def sDPut (td ty tv : TE) : TS := fun D σ H => tv σ H fun v H1 => td σ H1 fun x H2 => ty σ H2 fun y H3 => ∃ a H4, x = .ref a ∧ DPut H3 a y v H4 ∧ D.nx σ H4
section
variable {X : Cx} {o i e value : Expr} {pos pos' tpos : Pos} {td ty tv : TE}
theorem pc_dnotin (hu : X.A.units + 1 < cLine) (hi : PE X i ty) (ho : PE X o td) : PC X .NotIn i o (tDNotIn ty td) := by
  intro pins s σ H Q I h
  refine thn (hi pins s σ H _ I h) fun iv s1 ⟨y, H1, I1, ry, q1⟩ => thn (ho pins s1 σ H1 _ I1 q1) fun u s2 ⟨x, H2, I2, rx, a, ov, ex, g, q2⟩ => ?_
  subst ex
  obtain rfl : u = Value.ref a := rx
  exact d_notIn hu I2 g ry fun s3 I3 => ⟨.bl (!ov.isSome), H2, I3, rfl, q2⟩
theorem ps_dput (hu : X.A.units + 1 < cLine) (ho : PE X o td) (hi : PE X i ty) (hv : PE X value tv) (hs : swapsWith value (some (.Subscript o i pos')) pos.line X.env = pure false) :
    PS X (.Assign [.Subscript o i pos'] value pos) (sDPut td ty tv) := by
  intro pins s σ H D I h
  refine wpAny_Assign_Subscript (thn (hv pins s σ H _ I h) fun r s1 ⟨v, H1, I1, rv, q1⟩ => thn (ho pins s1 σ H1 _ I1 q1) fun u s2 ⟨x, H2, I2, rx, q2⟩ => thn (hi pins s2 σ H2 _ I2 q2) fun iv s3 ⟨y, H3, I3, ry, a, H4, ex, g, q3⟩ => ?_) hs
  subst ex
  obtain rfl : u = Value.ref a := rx
  exact d_setItem hu I3 g ry rv fun s4 I4 => ⟨σ, H4, I4, q3⟩
end


theorem dk_empty {P : Program} {w : World} {H : Hp} (h : Heap) (hb : sysModules < h.objs.size) : ObjOk P w H (h.push { cls := .type "dict", data := .dict #[] }) h.objs.size (.dK []) :=
  ⟨Nat.zero_le _, beq_eq_false_iff_ne.mpr (Ne.symm (Nat.ne_of_lt hb)), [], .nil, Heap.DictOf.new h⟩
noncomputable def tDNewK : TE := fun _ H Q => ∀ p, H p = none → Q (.ref p) (upd H p (.dK []))
section
variable {X : Cx} {pos : Pos}
theorem pe_dnewK : PE X (.Dict [] [] pos) tDNewK := fun pins s σ H Q I h =>
  wpAny_Dict_empty ⟨.ref s.heap.objs.size, _, I.laid (a := s.heap.objs.size) (o := .dK []) (t' := s.toks) (fun _ _ q => Heap.get?_push_of_some _ q) (Nat.le_refl _) (dk_empty s.heap I.big), rfl, h _ (I.hok.fresh (Nat.le_refl _))⟩
end

noncomputable def tPairs : List (TE × TE) → St → Hp → (List (V × V) → Hp → Prop) → Prop
  | [], _, H, Q => Q [] H
  | (tk, tv) :: r, σ, H, Q => tk σ H fun x H1 => tv σ H1 fun y H2 => tPairs r σ H2 fun ps H3 => Q ((x, y) :: ps) H3
noncomputable abbrev VV : List (V × V) → List (Value × Value) → Prop := Paired fun p q => RelV p.1 q.1 ∧ RelV p.2 q.2
noncomputable def PPs (X : Cx) (pos : Pos) (keys : List (Option Expr)) (values : List Expr) (trs : List (TE × TE)) : Prop :=
  ∀ (pins : List (Addr × Obj)) (s : Shared) (σ : St) (H : Hp) (Q : List (V × V) → Hp → Prop), Inv X pins σ H s → tPairs trs σ H Q →
    wpAny (model X.prog X.w) X.A (evalPairs (pairTrees keys values X.env pos)) (fun vs s' => ∃ ps H', Inv X pins σ H' s' ∧ VV ps vs ∧ Q ps H') X.xe s
theorem pps_nil {X : Cx} {pos : Pos} : PPs X pos [] [] [] := fun pins s σ H Q I h => pairTrees_nil_walk ⟨[], H, I, .nil, h⟩
theorem pps_cons {X : Cx} {pos : Pos} {k v : Expr} {ks : List (Option Expr)} {vs : List Expr} {tk tv : TE} {trs : List (TE × TE)} (hk : PE X k tk) (hv : PE X v tv) (hr : PPs X pos ks vs trs) :
    PPs X pos (some k :: ks) (v :: vs) ((tk, tv) :: trs) := fun pins s σ H Q I h =>
  pairTrees_cons_walk (thn (hk pins s σ H _ I h) fun u s1 ⟨x, H1, I1, rx, q1⟩ => thn (hv pins s1 σ H1 _ I1 q1) fun w2 s2 ⟨y, H2, I2, ry, q2⟩ =>
    thn (hr pins s2 σ H2 _ I2 q2) fun ws s3 ⟨ps, H3, I3, rel, q3⟩ => ⟨(x, y) :: ps, H3, I3, .cons ⟨rx, ry⟩ rel, q3⟩)

noncomputable def mergeK (kvs more : List (Key × V)) : List (Key × V) := more.foldl (fun acc kv => putK acc kv.1 kv.2) kvs
theorem KV.merge : ∀ {more : List (Key × V)} {rs : List (Key × Value)} {kvs : List (Key × V)} {vs : List (Key × Value)}, KV more rs → KV kvs vs → KV (mergeK kvs more) (merged vs rs) := by
  intro more rs kvs vs r
  unfold KV at r
  induction r generalizing kvs vs with
  | nil => intro q; exact q
  | @cons p q ps qs h t ih =>
    intro r0
    have e : KV (putK kvs p.1 p.2) (stored vs q.1 q.2) := by
      have := r0.put p.1 h.2
      rw [← h.1]; exact this
    exact ih e
theorem length_mergeK : ∀ (more kvs : List (Key × V)), (mergeK kvs more).length ≤ kvs.length + more.length
  | [], kvs => by show kvs.length ≤ kvs.length + 0; omega
  | p :: r, kvs => by
    have h1 := length_mergeK r (putK kvs p.1 p.2)
    have h2 := length_putK kvs p.1 p.2
    show (mergeK (putK kvs p.1 p.2) r).length ≤ _
    rw [List.length_cons]; omega
theorem carries_of {P : Program} {w : World} : ∀ {kvs : List (Key × V)} {ws : List (Value × Value)}, VV (kvs.map fun kv => (kV kv.1, kv.2)) ws → ∃ rs, Carries (mixKind P w) ws rs ∧ KV kvs rs
  | [], _, r => by rw [List.map_nil] at r; cases r; exact ⟨[], True.intro, .nil⟩
  | p :: kvs, _, r => by
    rw [List.map_cons] at r
    cases r with
    | @cons a b as bs h t =>
      obtain ⟨rs, c, q⟩ := carries_of (P := P) (w := w) t
      obtain ⟨b1, b2⟩ := b
      exact ⟨(p.1, b2) :: rs, ⟨kV_is h.1, rfl, c⟩, .cons ⟨rfl, h.2⟩ q⟩
noncomputable def tDisp (trs : List (TE × TE)) : TE := fun σ H Q => ∀ p, H p = none → tPairs trs σ (upd H p (.dK [])) fun ps H2 => H2 p = some (.dK []) ∧ ∃ kvs : List (Key × V), ps = kvs.map (fun kv => (kV kv.1, kv.2)) ∧ kvs.length ≤ 15 ∧ Q (.ref p) (upd H2 p (.dK (mergeK [] kvs)))
theorem pe_disp {X : Cx} {pos : Pos} {keys : List (Option Expr)} {values : List Expr} {trs : List (TE × TE)} (h : PPs X pos keys values trs) (hall : keys.all (·.isSome) = true) (hl : keys.length = values.length) (h0 : keys ≠ [])
    (h15 : keys.length ≤ 15) : PE X (.Dict keys values pos) (tDisp trs) := by
  intro pins s σ H Q I q
  have hn := I.hok.fresh (Nat.le_refl s.heap.objs.size)
  have I1 := I.laid (a := s.heap.objs.size) (o := .dK []) (h' := s.heap.push { cls := .type "dict", data := .dict #[] }) (t' := s.toks) (fun _ _ q => Heap.get?_push_of_some _ q) (Nat.le_refl _) (dk_empty s.heap I.big)
  refine wpAny_Dict_walk (knd := mixKind X.prog X.w) hall hl h0 h15 (thn (h pins _ σ _ _ I1 (q _ hn)) fun ws s2 ⟨ps, H2, I2, rel, e, kvs, ep, lk, q2⟩ => ?_)
  subst ep
  obtain ⟨rs, c, rk⟩ := carries_of (P := X.prog) (w := X.w) rel
  obtain ⟨z, hd, vs0, r0, dd⟩ := dk_of I2.hok e
  cases r0
  refine ⟨rs, c, dd, fun h' dd' hs => ⟨.ref s.heap.objs.size, _, ?_, rfl, q2⟩⟩
  have hz : (mergeK [] kvs).length ≤ sizeLine := by
    have h1 := length_mergeK kvs []
    rw [List.length_nil] at h1
    rw [sizeLine_eq]; omega
  have he : ∃ q, h'.get? s.heap.objs.size = some q := let ⟨q, _, _, hq, _⟩ := dd'; ⟨q, hq⟩
  exact d_write I2 (by rw [e]; exact True.intro) hs he (dk_new hz hd (rk.merge .nil) dd')


structure M1 (X : Cx) (o : Expr) (m : Str) (apos : Pos) (e : Expr) (cpos : Pos) : Prop where
  base : attributeBase o m X.env (eval o X.env) = eval o X.env
  few : ((backTo cpos (starEach [e] X.env)).all (fun x => !x.1) && (backToKw cpos (keywordEach [] X.env)).all (fun x => x.1.isSome)
    && decide (([e] : List Expr).length + ([] : List Keyword).length + (if ([] : List Keyword).isEmpty then 0 else 1) < 30)) = true
  line : (apos.endLine == cpos.line) = true
  trees : backTo cpos (starEach [e] X.env) = [(false, eval e X.env)]
structure M2 (X : Cx) (o : Expr) (m : Str) (apos : Pos) (e f : Expr) (cpos : Pos) : Prop where
  base : attributeBase o m X.env (eval o X.env) = eval o X.env
  few : ((backTo cpos (starEach [e, f] X.env)).all (fun x => !x.1) && (backToKw cpos (keywordEach [] X.env)).all (fun x => x.1.isSome)
    && decide (([e, f] : List Expr).length + ([] : List Keyword).length + (if ([] : List Keyword).isEmpty then 0 else 1) < 30)) = true
  line : (apos.endLine == cpos.line) = true
  trees : backTo cpos (starEach [e, f] X.env) = [(false, eval e X.env), (false, eval f X.env)]

section
variable {X : Cx} {pins : List (Addr × Obj)} {σ : St} {H : Hp} {s : Shared} {a : Addr} {y d : V} {u r : Value} {o : Option V} {A : Around} {E : Value → Shared → Prop}
end

section
variable {X : Cx} {o e f : Expr} {apos cpos : Pos} {td ty tx : TE}
end

section
variable {X : Cx} {pins : List (Addr × Obj)} {σ : St} {H : Hp} {s : Shared} {a : Addr} {kvs : List (Key × V)} {A : Around} {E : Value → Shared → Prop}
end


section
variable {X : Cx} {pins : List (Addr × Obj)} {σ : St} {H : Hp} {s : Shared} {a : Addr} {y : V} {u : Value} {A : Around} {E : Value → Shared → Prop}
end
end L2

set_option Elab.async false
set_option linter.all false
set_option maxRecDepth 100000
namespace L2
open PySem PySem.Spec PyProof.Rows
section
variable {prog : Program} {w : World} {A : Around} {E : Value → Shared → Prop} {s : Shared}
theorem collect_src {T : String} {r d : Addr} {n : Nat} {P : Nat → Value → Prop} {OK : Heap → Prop} {R : List Value → Shared → Prop} (K : PySem.W.KdlSrc prog w T r d n P OK) (hh : A.handled = none) (hok : OK s.heap) (hn : n ≤ sizeLine)
    (h : ∀ (h' : Heap) (tk : Nat) (acc : Array Value), s.heap.objs.size < h'.objs.size → (∀ b o, s.heap.get? b = some o → h'.get? b = some o) → ItemsOf P acc n → R acc.toList { s with heap := h', toks := tk }) :
    wpAny (model prog w) A (collect (.ref r)) R E s := by
  have hlt := K.there _ hok
  unfold collect
  refine wpAny_bind (wpAny_runValue (codeAny_builtin entry_proto_collect' ?_))
  rw [Around.under_plainId PySem.F.plain_proto_collect _]
  show wpAny _ A.in1 (newList [] >>= fun l => again (.builtin "list.__iadd__" ⟨[l, .ref r], []⟩)) _ _ s
  refine wpAny_bind (wpAny_newObj_type ?_)
  refine wpAny_pure ⟨plainId_quiet PySem.F.plain_list_iadd _, codeAny_builtin entry_list_iadd' ?_⟩
  rw [Around.under_plainId PySem.F.plain_list_iadd _]
  have hS₁ : (s.heap.push { cls := .type "list", data := .seq ([] : List Value).toArray }).get? s.heap.objs.size = some { cls := .type "list", data := .seq #[] } := Heap.get?_push_size _ rfl
  show wpAny _ A.in1 (Builtin.List.listExtendWith (.ref s.heap.objs.size) (.ref r) (.ref s.heap.objs.size)) _ _ _
  have key := PySem.W.kdl_extend (A := A) (s := { s with heap := s.heap.push { cls := .type "list", data := .seq ([] : List Value).toArray } }) K
    (R := fun (q : Result) (s' : Shared) => ∃ (h' : Heap) (tk : Nat) (acc' : Array Value) (c' : Nat), q = .ok (.ret (.ref s.heap.objs.size)) ∧ s' = { s with heap := h', toks := tk } ∧
      (∀ b o, s.heap.get? b = some o → h'.get? b = some o) ∧ h'.get? s.heap.objs.size = some { cls := .type "list", dict := none, data := .seq acc' c', slots := #[] } ∧ ItemsOf P acc' n)
    hh (K.keep _ _ hok fun b _ o e => Heap.get?_push_of_some _ e) s.heap.objs.size (Nat.ne_of_gt hlt.1) (Nat.ne_of_gt hlt.2) (.ref s.heap.objs.size) 0 hS₁
    (fun h' tk acc' c' hk hS' hacc => ⟨h', tk, acc', c', rfl, rfl, fun b o e => hk b o (Nat.ne_of_lt (Heap.lt_size e)) (Heap.get?_push_of_some _ e), hS', hacc⟩) hn
  refine wpAny_mono key (fun fin s' x => ?_) fun e s' x => ?_
  · cases fin with
    | done f =>
      obtain ⟨h', tk, acc', c', e, rfl, hk, hS', hacc⟩ := x
      cases e
      show wpAny _ A (load s.heap.objs.size >>= _) _ _ _
      refine wpAny_bind (wpAny_load hS' ?_)
      exact wpAny_pure (h h' tk acc' (Heap.lt_size hS') hk hacc)
    | again c₁ =>
      refine ⟨x.1, codeAny_mono x.2 fun q s₂ y => ?_⟩
      obtain ⟨h', tk, acc', c', rfl, rfl, hk, hS', hacc⟩ := y
      show wpAny _ A (load s.heap.objs.size >>= _) _ _ _
      refine wpAny_bind (wpAny_load hS' ?_)
      exact wpAny_pure (h h' tk acc' (Heap.lt_size hS') hk hacc)
  · obtain ⟨_, _, _, _, e', _⟩ := x
    cases e'
theorem sorted_src {T : String} {r d : Addr} {n : Nat} {P : Nat → Value → Prop} {OK : Heap → Prop} {Q : Value → Shared → Prop} {ns : List Int} (K : PySem.W.KdlSrc prog w T r d n P OK) (hh : A.handled = none) (hok : OK s.heap) (hn : n < 64)
    (hP : ∀ us : List Value, us.length = n → (∀ j v, us[j]? = some v → P j v) → IntsAre us ns)
    (h : ∀ (h' : Heap) (tk : Nat) (D : Addr) (e : Nat) (out : Array Value) (ns' : List Int), s.heap.objs.size ≤ D → (∀ b o, s.heap.get? b = some o → h'.get? b = some o) → h'.get? D = some { cls := .type "list", data := .seq out e } → IntsAre out.toList ns' → ns'.Perm ns → ns'.Pairwise (· ≤ ·) → Q (.ref D) { s with heap := h', toks := tk }) :
    wpAny (model prog w) A (call (.builtin "sorted") [.ref r]) Q E s := by
  have h24 := sizeLine_eq
  refine Calls.call_function_entry kind_sorted plain_sorted entry_sorted (args_sorted1 _) ?_
  unfold Builtin.«sorted»
  refine wpAny_bind (m := checkCount "sorted" 1 1 _) (wpAny_pure ?_)
  refine wpAny_bind (collect_src (A := A.in1) K hh hok (by omega) fun h1 tk acc hsz hk hacc => ?_)
  have hlen : acc.toList.length = n := by rw [Array.length_toList]; exact hacc.1
  have hI : IntsAre acc.toList ns := hP acc.toList hlen fun j v e => hacc.2 j v (by rw [← Array.getElem?_toList]; exact e)
  have hz : s.heap.objs.size ≤ h1.objs.size := Nat.le_of_lt hsz
  refine wpAny_bind (wpAny_newList ?_ (by omega))
  have hoL : (h1.push (seqObj "list" acc.toList.toArray 0)).get? h1.objs.size = some (seqObj "list" acc.toList.toArray 0) := Heap.get?_push_size _ rfl
  refine wpAny_bind (wpAny_holding (wpAny_call_entry slot_list_sort ⟨_, hoL, rfl⟩ entry_list_sort (list_sort_tree hoL hI (by omega) fun out ns' a1 a2 a3 => ⟨_, rfl, ?_⟩) (args_list_sort _)))
  obtain ⟨e, he⟩ := sortedHeap_at (out := out) hoL
  refine wpAny_pure ⟨_, rfl, h _ tk h1.objs.size e out ns' hz (fun b o q => ?_) he a1 a2 a3⟩
  have q1 := hk b o q
  have hlt : b < h1.objs.size := Heap.lt_size q1
  rw [sortedHeap_old (Nat.ne_of_lt hlt) (by rw [size_push']; exact Nat.lt_succ_of_lt hlt)]
  exact Heap.get?_push_of_some _ q1
end
section
variable {X : Cx}
theorem call_sortedI : CallR X (.builtin "sorted") (fun xs H Q => ∃ (p : Addr) (ns : List Int), xs = [.ref p] ∧ SqL X.K H p (ns.map V.int) ∧ ns.length < 64 ∧
    ∀ (l : Addr) (out : List Int), H l = none → out.Perm ns → out.Pairwise (· ≤ ·) → Q (.ref l) (upd H l (.lst (out.map V.int)))) := by
  intro pins s σ H xs us Q I r h
  obtain ⟨p, ns, rfl, hp, h64, q⟩ := h
  obtain ⟨u, rfl, rx⟩ := vals1 r
  cases rx
  obtain ⟨its, rv, pl, hz⟩ := I.list hp
  have hI : IntsAre its ns := intsAre_of rv
  have hl := rv.length
  rw [List.length_map] at hl
  refine sorted_ints (vs := its) (ns := ns) pl.isList hI (by omega) fun out ns' a1 a2 a3 => ?_
  obtain ⟨e, he⟩ := sortedAll_at s.heap its out
  have hv := vals_ints a1
  have hlo := hv.length
  rw [List.length_map] at hlo
  have hpl := a2.length_eq
  have h24 := sizeLine_eq
  refine ⟨.ref (s.heap.objs.size + 1), upd H (s.heap.objs.size + 1) (.lst (ns'.map V.int)), I.laid (t' := s.toks) (fun b o eb => sortedAll_old eb) (Nat.le_succ _) ⟨?_, out.toList, e, hv, by simpa using he⟩, rfl, q _ _ (I.hok.fresh (Nat.le_succ _)) a2 a3⟩
  rw [List.length_map]
  omega
theorem keys_ints {P : Program} {w : World} {vs : List (Key × Value)} {ks : List Int} (hk : vs.map (·.1) = ks.map Sum.inl) : ∀ us : List Value, us.length = vs.length → (∀ (j : Nat) (v : Value), us[j]? = some v → ∃ k x, vs[j]? = some (k, x) ∧ (mixKind P w).is k v = true) → IntsAre us ks := by
  intro us
  induction us generalizing vs ks with
  | nil =>
    intro hl _
    have e : vs = [] := List.eq_nil_of_length_eq_zero (by simpa using hl.symm)
    subst e
    cases ks with
    | nil => exact .nil
    | cons k ks => simp at hk
  | cons u us ih =>
    intro hl h
    cases vs with
    | nil => simp at hl
    | cons v vs =>
      cases ks with
      | nil => simp at hk
      | cons k ks =>
        rw [List.map_cons, List.map_cons] at hk
        injection hk with hk1 hk2
        obtain ⟨k', x, e, is⟩ := h 0 u (by simp)
        simp at e
        subst e
        simp only at hk1
        subst hk1
        have is' : keyIs (Sum.inl k) u = true := is
        rcases keyIs_shape is' with ⟨i, t, e1, e2⟩ | ⟨y, t, e1, e2⟩
        · injection e1 with e1
          subst e1 e2
          exact .cons _ t (ih hk2 (by simpa using hl) fun j v hj => by simpa using h (j + 1) v (by simpa using hj))
        · cases e1
theorem call_sortedD (hc : X.calm = true) : CallR X (.builtin "sorted") (fun xs H Q => ∃ (d : Addr) (kvs : List (Key × V)) (ks : List Int), xs = [.ref d] ∧ H d = some (.dK kvs) ∧ kvs.map (·.1) = ks.map Sum.inl ∧ ks.length < 64 ∧
    ∀ (l : Addr) (out : List Int), H l = none → out.Perm ks → out.Pairwise (· ≤ ·) → Q (.ref l) (upd H l (.lst (out.map V.int)))) := by
  intro pins s σ H xs us Q I r h
  obtain ⟨d, kvs, ks, rfl, hd, hks, h64, q⟩ := h
  obtain ⟨u, rfl, rx⟩ := vals1 r
  cases rx
  obtain ⟨hz, lo, vs, kv, o, es, ep, ho, hx, hda, hk1, hk2, hk3⟩ := dk_of I.hok hd
  have hm : s.heap.DictAt (mixKind X.prog X.w) d vs ep := ⟨o, es, ho, hx, hda, hk1, hk2, hk3⟩
  have hkeys : vs.map (·.1) = ks.map Sum.inl := by rw [← KV.keys kv]; exact hks
  have hlv : vs.length = ks.length := by have := congrArg List.length hkeys; simpa using this
  refine sorted_src (ns := ks) (PySem.W.kdl_dict (ep := ep) lo) (I.ok.hd hc) hm (by omega) (fun us hl h => keys_ints hkeys us hl h) fun h' tk D e out ns' hD hk he a1 a2 a3 => ?_
  have hv := vals_ints a1
  have hpl := a2.length_eq
  have h24 := sizeLine_eq
  refine ⟨.ref D, upd H D (.lst (ns'.map V.int)), I.laid (fun b o eb => hk b o eb) hD ⟨?_, out.toList, e, hv, by simpa using he⟩, rfl, q _ _ (I.hok.fresh hD) a2 a3⟩
  rw [List.length_map]
  omega
end
end L2

set_option Elab.async false
set_option linter.all false
set_option maxRecDepth 100000
namespace L2
open PySem PySem.Spec PyProof.Rows
section
variable {X : Cx}
noncomputable def iD (l : List Int) : PyData := .list (l.map PyData.int)
theorem lay_iD : ∀ l : List Int, PyData.canLayAll0 (l.map PyData.int) = true
  | [] => rfl
  | t :: ts => by
    show (PyData.canLay0 (PyData.int t) && PyData.canLayAll0 (ts.map PyData.int)) = true
    rw [lay_iD ts]
    rfl
theorem depth_iD : ∀ l : List Int, PyData.depthAll (l.map PyData.int) = 0
  | [] => rfl
  | t :: ts => by
    show max (PyData.depth (PyData.int t)) (PyData.depthAll (ts.map PyData.int)) = 0
    rw [depth_iD ts]
    rfl
theorem eqv_iD : ∀ ts us : List Int, PyData.eqvAll (ts.map PyData.int) (us.map PyData.int) = decide (ts = us)
  | [], [] => rfl
  | [], _ :: _ => rfl
  | _ :: _, [] => rfl
  | t :: ts, u :: us => by
    show ((t == u) && PyData.eqvAll (ts.map PyData.int) (us.map PyData.int)) = _
    rw [eqv_iD ts us, Bool.eq_iff_iff]
    simp
theorem lay_lD : ∀ ls : List (List Int), PyData.canLayAll0 (ls.map iD) = true
  | [] => rfl
  | t :: ts => by
    show (PyData.canLayAll0 (t.map PyData.int) && PyData.canLayAll0 (ts.map iD)) = true
    rw [lay_lD ts, lay_iD]
    rfl
theorem depth_lD : ∀ ls : List (List Int), PyData.depthAll (ls.map iD) ≤ 1
  | [] => Nat.zero_le _
  | t :: ts => by
    show max (PyData.depthAll (t.map PyData.int) + 1) (PyData.depthAll (ts.map iD)) ≤ 1
    have h1 := depth_lD ts
    rw [depth_iD]
    omega
theorem reads_ints {h : Heap} : ∀ {l : List Int} {us : List Value}, Vals (l.map V.int) us → ∃ as, ReadsAll h us (l.map PyData.int) as
  | [], _, r => by cases r; exact ⟨[], .nil⟩
  | x :: l, _, r => by
    cases r with
    | cons a b =>
      obtain ⟨t, rfl⟩ := a
      obtain ⟨as, q⟩ := reads_ints b
      exact ⟨_, .cons (.int _ _) q⟩
inductive DatL (K : PySem.W.Frag) (H : Hp) : V → PyData → Prop
  | flt {a : Addr} {l : List Int} : SqL K H a (l.map V.int) → DatL K H (.ref a) (iD l)
  | lists {a : Addr} {as : List Addr} {ls : List (List Int)} : SqL K H a (as.map V.ref) → Paired (fun (a : Addr) (l : List Int) => SqL K H a (l.map V.int)) as ls → DatL K H (.ref a) (.list (ls.map iD))
theorem Inv.readsL {pins : List (Addr × Obj)} {σ : St} {H : Hp} {s : Shared} (I : Inv X pins σ H s) : ∀ {as : List Addr} {ls : List (List Int)} {us : List Value}, Paired (fun (a : Addr) (l : List Int) => SqL X.K H a (l.map V.int)) as ls → Vals (as.map V.ref) us → ∃ bs, ReadsAll s.heap us (ls.map iD) bs
  | _, _, _, .nil, r => by cases r; exact ⟨[], .nil⟩
  | _, _, _, .cons p q, r => by
    cases r with
    | cons a b =>
      cases a
      obtain ⟨its, rv, pl, hz⟩ := I.list p
      obtain ⟨as1, r1⟩ := reads_ints (h := s.heap) rv
      obtain ⟨o, ho, hc, n, hd⟩ := pl.isList
      obtain ⟨as2, r2⟩ := I.readsL q b
      exact ⟨_, .cons (.list ho hc hd (by simpa using r1)) r2⟩
theorem DatL.reads {pins : List (Addr × Obj)} {σ : St} {H : Hp} {s : Shared} {x : V} {u : Value} {d : PyData} (I : Inv X pins σ H s) (h : DatL X.K H x d) (r : RelV x u) : (∃ as, Reads s.heap u d as) ∧ d.canLay0 = true ∧ d.depth ≤ 3 := by
  cases h with
  | @flt a l hs =>
    cases r
    obtain ⟨its, rv, pl, hz⟩ := I.list hs
    obtain ⟨as, ra⟩ := reads_ints (h := s.heap) rv
    obtain ⟨o, ho, hc, n, hd⟩ := pl.isList
    refine ⟨⟨_, .list ho hc hd (by simpa using ra)⟩, lay_iD _, ?_⟩
    show PyData.depthAll _ + 1 ≤ 3
    rw [depth_iD]
    omega
  | @lists a as ls hs hp =>
    cases r
    obtain ⟨its, rv, pl, hz⟩ := I.list hs
    obtain ⟨bs, ra⟩ := I.readsL hp rv
    obtain ⟨o, ho, hc, n, hd⟩ := pl.isList
    refine ⟨⟨_, .list ho hc hd (by simpa using ra)⟩, lay_lD _, ?_⟩
    show PyData.depthAll _ + 1 ≤ 3
    have := depth_lD ls
    omega
noncomputable def rEqL (K : PySem.W.Frag) (neg : Bool) : R2 := fun x y H Q => ∃ d e b, DatL K H x d ∧ DatL K H y e ∧ PyData.eqv d e = b ∧ Q (.bl (if neg then !b else b)) H
theorem op_eqL (hu : X.A.units + 64 < cLine) : OpR X (compareOp .Eq) (rEqL X.K false) := by
  intro pins s σ H x y v u Q I rx ry h
  obtain ⟨d, e, b, hd, he, hb, q⟩ := h
  obtain ⟨⟨as, ra⟩, la, da⟩ := hd.reads I rx
  obtain ⟨⟨bs, rb⟩, lb, db⟩ := he.reads I ry
  exact SeqAt.compareEq_reads ra rb la lb (by omega) (hb ▸ ⟨.bl b, H, I, rfl, q⟩)
theorem op_neL (hu : X.A.units + 64 < cLine) : OpR X (compareOp .NotEq) (rEqL X.K true) := by
  intro pins s σ H x y v u Q I rx ry h
  obtain ⟨d, e, b, hd, he, hb, q⟩ := h
  obtain ⟨⟨as, ra⟩, la, da⟩ := hd.reads I rx
  obtain ⟨⟨bs, rb⟩, lb, db⟩ := he.reads I ry
  exact SeqAt.compareNe_reads ra rb la lb (by omega) (hb ▸ ⟨.bl (!b), H, I, rfl, q⟩)
theorem eqv_ints (ts us : List Int) : PyData.eqv (iD ts) (iD us) = decide (ts = us) := eqv_iD ts us
end
end L2

set_option Elab.async false
set_option linter.all false
set_option maxRecDepth 100000
namespace L2
open PySem PySem.Spec PyProof.Rows

noncomputable def CX1 (P : Program) (w : World) : CXT := fun outer H s E e s' => ∃ (a : Addr) (cls a0 : Value) (H1 : Hp) (hb : Heap), e = .ref a ∧ s'.os = s.os ∧ AllBare s'.gens ∧ Un (frs outer) [] H H1 s.heap s'.heap ∧ HOk P w H1 hb ∧ hb.FlyingW outer a cls a0 s'.heap ∧
  (∀ b o, s.heap.get? b = some o → H b = none → b ∉ frs outer → hb.get? b = some o) ∧ (∀ b o, s.heap.get? b = some o → b ∉ frs outer → ∃ o', hb.get? b = some o') ∧ E cls none H1
structure Lets (X : Cx) (E : XK) : Prop where
  xe : ∀ e s', wpAny (model X.prog X.w) X.A (leaving X.env e) (fun _ s'' => CX1 X.prog X.w X.outer X.H₀ X.s₀ E e s'') (fun e' s'' => CX1 X.prog X.w X.outer X.H₀ X.s₀ E e' s'') s' → X.xe e s'
  stk : X.stack = X.env :: X.outer
  fr : X.env.frame = some X.env.locals
  ex : X.ex = []

theorem un_left {fs : List Addr} {H H1 : Hp} {h h1 h2 hb : Heap} (u : Un fs [] H H1 h h1) (k1 : ∀ b o, h.get? b = some o → H b = none → b ∉ fs → hb.get? b = some o) (k4 : ∀ b o, h.get? b = some o → b ∉ fs → ∃ o', hb.get? b = some o') (st : hb.StaysIn h2)
    (fr : ∀ b ∈ fs, ∃ o, h1.get? b = some o ∧ ∀ vs, o.data ≠ .fields vs) (up : ∀ b o, h1.get? b = some o → (∀ vs, o.data ≠ .fields vs) → ∃ sl, h2.get? b = some { o with slots := sl }) : Un fs [] H H1 h h2 where
  keep := fun b o e n hb' _ => st b o (k1 b o e n hb')
  slot := fun b o e n hb' hx => by
    obtain ⟨sl, e1⟩ := u.slot b o e n hb' hx
    obtain ⟨o1, e2, nf⟩ := fr b hb'
    rw [e1] at e2
    cases e2
    obtain ⟨sl2, e3⟩ := up b _ e1 nf
    exact ⟨sl2, e3⟩
  free := u.free
  there := fun b o e hx => by
    by_cases hb' : b ∈ fs
    · obtain ⟨o1, e2, nf⟩ := fr b hb'
      obtain ⟨sl2, e3⟩ := up b _ e2 nf
      exact ⟨_, e3⟩
    · obtain ⟨o', e'⟩ := k4 b o e hb'
      exact ⟨o', st b o' e'⟩
  tups := u.tups
  frzs := u.frzs
  tbls := u.tbls

theorem funs_hid {h h' base hb : Heap} (k : ∀ b o, h.get? b = some o → h'.get? b = some o) : ∀ {l : List Env}, h.FunFrames base l → (∀ b ∈ frs l, hb.get? b = none) → h'.FunFrames hb l
  | [], _, _ => trivial
  | env :: r, hl, hn => by
    obtain ⟨hk, ⟨L, o, hf, hn', ho, hd⟩, hr⟩ := hl
    have hL : L ∈ frs (env :: r) := by unfold frs; rw [List.filterMap_cons, hf]; exact List.mem_cons_self
    exact ⟨hk, ⟨L, o, hf, hn L hL, k _ _ ho, hd⟩, funs_hid k hr fun b hb' => hn b (by
      unfold frs; rw [List.filterMap_cons, hf]; exact List.mem_cons_of_mem _ hb')⟩
theorem funs_tail {h hb : Heap} {env : Env} {l : List Env} (x : h.FunFrames hb (env :: l)) : h.FunFrames hb l := x.2.2

section
variable {X : Cx} {pins : List (Addr × Obj)} {σ : St} {H H1 : Hp} {s : Shared} {E : XK}
theorem Inv.offStack (L : Lets X E) (I : Inv X pins σ H s) {b : Addr} {o : Obj} (e : X.s₀.heap.get? b = some o) (h : b ∉ frs X.outer) : b ∉ frs X.stack := fun z => by
  rcases List.mem_cons.mp (I.stkSub b z) with z | z
  · have h1 := Heap.lt_size e
    have h2 := I.ok.above
    rw [z] at h1
    exact absurd (Nat.lt_of_lt_of_le h1 h2) (Nat.lt_irrefl _)
  · exact h z
theorem left_un {h1 h2 hb : Heap} (L : Lets X E) (I : Inv X pins σ H s) (un : Un (frs X.stack) [] H H1 s.heap h1) (k1 : ∀ b o, s.heap.get? b = some o → H b = none → b ∉ frs X.stack → hb.get? b = some o) (k4 : ∀ b o, s.heap.get? b = some o → b ∉ frs X.stack → ∃ o', hb.get? b = some o')
    (f1 : h1.FunFrames hb X.stack) (st : hb.StaysIn h2) (up : ∀ b o, h1.get? b = some o → (∀ vs, o.data ≠ .fields vs) → ∃ sl, h2.get? b = some { o with slots := sl }) :
    Un (frs X.outer) [] X.H₀ H1 X.s₀.heap h2 ∧ (∀ b o, X.s₀.heap.get? b = some o → X.H₀ b = none → b ∉ frs X.outer → hb.get? b = some o) ∧ (∀ b o, X.s₀.heap.get? b = some o → b ∉ frs X.outer → ∃ o', hb.get? b = some o') := by
  have nx : ∀ b : Addr, b ∉ X.ex := fun b => by rw [L.ex]; simp
  have sub : ∀ b ∈ frs X.outer, b ∈ frs X.stack := fun b hb' => by
    rw [L.stk]
    unfold frs
    rw [List.filterMap_cons, L.fr]
    exact List.mem_cons_of_mem _ hb'
  have K1 : ∀ b o, X.s₀.heap.get? b = some o → X.H₀ b = none → b ∉ frs X.outer → hb.get? b = some o := fun b o e n hb' =>
    k1 b o (I.base.keep b o e n hb' (nx b)) (I.base.free b o e n (nx b)) (I.offStack L e hb')
  have K4 : ∀ b o, X.s₀.heap.get? b = some o → b ∉ frs X.outer → ∃ o', hb.get? b = some o' := fun b o e hb' => by
    obtain ⟨o', e'⟩ := I.base.there b o e (nx b)
    exact k4 b o' e' (I.offStack L e hb')
  refine ⟨⟨fun b o e n hb' _ => st b o (K1 b o e n hb'), fun b o e n hb' _ => ?_, fun b o e n _ => ?_, fun b o e _ => ?_, fun b xs q => un.tups b xs (I.base.tups b xs q), fun b o u q => un.frzs b o u (I.base.frzs b o u q), fun b ps q => ?_⟩, K1, K4⟩
  · obtain ⟨sl, e1⟩ := I.base.slot b o e n hb' (nx b)
    obtain ⟨sl1, e2⟩ := un.slot b _ e1 (I.base.free b o e n (nx b)) (sub b hb') (by simp)
    obtain ⟨_, o1, e3, nf⟩ := f1.mem (sub b hb')
    rw [e2] at e3
    cases e3
    obtain ⟨sl2, e4⟩ := up b _ e2 nf
    exact ⟨sl2, e4⟩
  · obtain ⟨o', e'⟩ := I.base.there b o e (nx b)
    exact un.free b o' e' (I.base.free b o e n (nx b)) (by simp)
  · by_cases hb' : b ∈ frs X.stack
    · obtain ⟨_, o1, e3, nf⟩ := f1.mem hb'
      obtain ⟨sl2, e4⟩ := up b _ e3 nf
      exact ⟨_, e4⟩
    · obtain ⟨o', e'⟩ := K4 b o e (fun z => hb' (sub b z))
      exact ⟨o', st b o' e'⟩
  · obtain ⟨m1, e1⟩ := I.base.tbls b ps q
    obtain ⟨m2, e2⟩ := un.tbls b _ e1
    exact ⟨m1 ++ m2, by rw [e2, Array.append_assoc]⟩
theorem pass1 (L : Lets X E) : Passes (CX1 X.prog X.w) X E := fun pins σ H s e s' I h => by
  obtain ⟨a, cls, a0, H1, hb, rfl, os, bare, un, hok, ⟨st, hn, fs, tr⟩, k1, k4, q⟩ := h
  refine L.xe _ _ (wpAny_leaving_nextW (base := hb) (by rw [I.ok.frames, L.stk]) (L.stk ▸ fs) L.fr tr st hn fun h2 ⟨l1, l2, l3, l4⟩ => ?_)
  obtain ⟨u, K1, K4⟩ := left_un L I un k1 k4 fs l1 l4
  exact ⟨a, cls, a0, H1, hb, rfl, os.trans I.os, bare, u, hok, ⟨l1, hn, funs_tail l2, l3⟩, K1, K4, q⟩
theorem hidF_hok (I : Inv X pins σ H s) : HOk X.prog X.w H (PySem.W.hideAll s.heap (frs X.stack)) := fun b u e => by
  have nf : ∀ {c v}, H c = some v → c ∉ frs X.stack := fun {c v} q z => by rw [I.stkFree c z] at q; cases q
  refine (I.hok b u e).stay (fun c v hcv y => PySem.W.hideAll_get _ y ?_) (fun _ q => q) fun _ _ q => q
  rcases hcv with rfl | z
  · exact nf e
  · exact nf z
theorem raise_out (L : Lets X E) (I : Inv X pins σ H s) {h' : Heap} {e : Addr} {cls : Value} {args : List Value} (m : s.heap.MadeExcOf h' e cls args) (q : E cls none H) : X.xe (.ref e) { s with heap := h' } := by
  obtain ⟨k, new, t, he, ht, _⟩ := m
  have hbn : (PySem.W.hideAll s.heap (frs X.stack)).get? e = none := by
    cases z : (PySem.W.hideAll s.heap (frs X.stack)).get? e with
    | none => rfl
    | some o => rw [PySem.W.of_hideAll _ z] at new; cases new
  have st0 : (PySem.W.hideAll s.heap (frs X.stack)).StaysIn h' := fun b o z => k b o (PySem.W.of_hideAll _ z)
  have f1 : h'.FunFrames (PySem.W.hideAll s.heap (frs X.stack)) X.stack := funs_hid k I.stack fun b hb => PySem.W.hideAll_none _ hb
  have k1 : ∀ b o, s.heap.get? b = some o → H b = none → b ∉ frs X.stack → (PySem.W.hideAll s.heap (frs X.stack)).get? b = some o := fun b o z _ nb => PySem.W.hideAll_get _ z nb
  have k4 : ∀ b o, s.heap.get? b = some o → b ∉ frs X.stack → ∃ o', (PySem.W.hideAll s.heap (frs X.stack)).get? b = some o' := fun b o z nb => ⟨o, PySem.W.hideAll_get _ z nb⟩
  have hok := hidF_hok I
  generalize PySem.W.hideAll s.heap (frs X.stack) = hb at hbn st0 f1 k1 k4 hok
  have f2 : h'.FunFrames hb (X.env :: X.outer) := by rw [← L.stk]; exact f1
  refine L.xe _ _ (wpAny_leaving_firstW (base := hb) (a0 := .ref t) (by rw [I.ok.frames, L.stk]) f2 L.fr he st0 hbn rfl rfl rfl fun h2 ⟨l1, l2, l3, l4⟩ => ?_)
  obtain ⟨u, K1, K4⟩ := left_un (H1 := H) (h1 := h') L I (Un.kept k) k1 k4 f1 l1 l4
  exact ⟨e, cls, .ref t, H, hb, rfl, I.os, I.bare, u, hok, ⟨l1, hbn, funs_tail l2, l3⟩, K1, K4, q⟩
end
theorem lets_cx {P : Program} {w : World} {K : PySem.W.Frag} {mg : Str → Option Value} {base : Heap} {N : List Str} {qual : Str} {scope : Scope} {f : Addr} {cd : Value} {A : Around} {outer : List Env} {s : Shared} {H : Hp} {E : XK} : Lets (cxOf (CX1 P w) P w K mg base N qual scope f cd A outer s H E) E := ⟨fun _ _ h => h, rfl, rfl, rfl⟩
theorem Fun.ok1 {P : Program} {w : World} {K : PySem.W.Frag} {mg : Str → Option Value} {base : Heap} {x qual : Str} {st : Stmt} {f : Addr} {fd : FuncData} {N ps : List Str} {k : Nat} {sp : Sp} (F : Fun K x qual st f fd) (S : FnScope N ps (defScope st)) (len : ∀ vs H Q E, sp vs H Q E → vs.length = ps.length)
    (hbody : ∀ (cdv : Value) (A : Around) (outer : List Env) (s : Shared) (H : Hp) (vs : List V) (Q : VK) (E : XK), Room k (A.deeper (envOfC qual (defScope st) s.heap.objs.size f cdv)) → sp vs H Q E →
      ∃ t, PSs (cxOf (CX1 P w) P w K mg base N qual (defScope st) f cdv A outer s H E) (defBody st) t ∧ t { nx := fun _ H' => Q .non H', rt := Q } (start N vs) H) : FnOk P w K mg base (CX1 P w) (k + 1) f fd ps sp := by
  obtain ⟨oc, od, kV, doc, pm, an, cdv, ct, osl, rfl, lk, hcd⟩ := F.ex
  refine fn_of lk hcd S len fun A outer s H vs Q E hr hsp => ?_
  obtain ⟨t, h, q⟩ := hbody cdv A outer s H vs Q E hr hsp
  exact ⟨t, h, q⟩
end L2

set_option Elab.async false
set_option linter.all false
set_option maxRecDepth 100000
namespace L2
open PySem PySem.Spec PyProof.Rows
structure ExcCls (K : PySem.W.Frag) (C : Addr) (newId : String) (bmB : List Value) : Prop where
  ex : ∃ (nm q : Str) (N : Addr) (bs bm : List Value) (hdct : Bool) (sn : List Str) (sub : List Value) (ab : Bool) (col : Option Bool) (dd : Option Addr) (k0 k1 k2 k3 k5 : Option Value),
    K.lookup C = some (excClassObj nm q C N bs bm hdct sn sub ab col dd k0 k1 k2 k3 k5 newId) ∧ PySem.W.tailIn K bmB bm = true ∧ PySem.W.nsOkIn K N = true ∧ PySem.W.nsIn K N "__init__" = some none ∧ bm.contains (.type "BaseException") = true
section
variable {X : Cx} {E : XK} {x : Str} {C : Addr} {newId Bn initId : String} {bmB : List Value} {e : Expr} {es : List Expr} {t : TA} {np cpos pos : Pos}
noncomputable def tRaise (E : XK) (C : Addr) (t : TA) : TS := fun _ σ H => t σ H fun vs H1 => vs.length ≤ sizeLine ∧ E (.ref C) none H1
theorem ps_raise (L : Lets X E) (hc : X.calm = true) (hg : Gl X x) (hm : X.mg x = some (.ref C)) (hx : ExcCls X.K C newId bmB) (B : ExcBaseFacts Bn newId initId bmB) (ha : PA X (e :: es) t) (hdb : (x == ("__debug__" : Str)) = false := by decide)
    (he : starEach (e :: es) X.env = (false, eval e X.env) :: starEach es X.env := by rfl) (hpl : (backTo cpos (starEach (e :: es) X.env)).any (·.1) = false := by rfl) (hcons : backTo cpos (starEach (e :: es) X.env) = (false, eval e X.env) :: backTo cpos (starEach es X.env) := by rfl) :
    PS X (.Raise (some (.Call (.Name x np) (e :: es) [] cpos)) none pos) (tRaise E C t) := by
  intro pins s σ H D I h
  obtain ⟨nm, q, N, bs, bm, hdct, sn, sub, ab, col, dd, k0, k1, k2, k3, k5, lk, tl, nso, nin, bmc⟩ := hx.ex
  have nsb : X.base.Ns N (X.base.nsMap N) := Heap.Ns.of_isNs (PySem.W.isNs_of_in I.ok.mod.kin nso)
  refine wpAny_Raise_call_subT (nm := nm) (q := q) (N := N) (bs := bs) (bm := bm) (hdct := hdct) (sn := sn) (sub := sub) (ab := ab) (col := col) (dd := dd) (k0 := k0) (k1 := k1) (k2 := k2) (k3 := k3) (k5 := k5) (mN := X.base.nsMap N) B bmc (I.ok.hd hc) hpl (PySem.W.nsMap_none_of_in I.ok.mod.kin nso nin) (ld_glob I hg hm ⟨rfl, ?_⟩ hdb)
  rw [hcons]
  refine PySem.Calls.evalArgs_plain ?_
  rw [← hcons]
  refine thn (ha cpos pins s σ H _ I h) fun us s1 ⟨vs, H1, I1, r, hl, q⟩ => ⟨rfl, by rw [← r.length]; exact hl, I1.kIn _ _ lk, nsb.keeps I1.bk, PySem.W.tail_of_in I1.kIn tl, fun h' a m => raise_out L I1 m q⟩
end

noncomputable abbrev Cx.handling (X : Cx) (e : Value) : Cx := { X with A := X.A.mark (some e), calm := false, xe := fun _ _ => False }
section
variable {X : Cx} {pins : List (Addr × Obj)} {σ : St} {H : Hp} {s : Shared} {ev : Value}
theorem Inv.handling (I : Inv X pins σ H s) (ev : Value) : Inv (X.handling ev) pins σ H s :=
  ⟨⟨I.ok.mod, I.ok.kind, I.ok.glob, I.ok.blt, I.ok.above, I.ok.inj, I.ok.has, I.ok.cab, (fun h => nomatch h), I.ok.frames, I.ok.stk, I.ok.exf, I.ok.bs, I.ok.bsz, I.ok.noex, I.ok.exfs, I.ok.funs, I.ok.frf⟩, I.os, I.bare, I.base, I.loc, I.cell, I.free, I.freeC, I.pin, I.hok, I.len⟩
theorem Inv.handled (ok : X.Ok) (I : Inv (X.handling ev) pins σ H s) : Inv X pins σ H s := ⟨ok, I.os, I.bare, I.base, I.loc, I.cell, I.free, I.freeC, I.pin, I.hok, I.len⟩
noncomputable def IsExc (a : Addr) (cls : Value) : Heap → Prop := fun h => ∃ oe vs, h.get? a = some oe ∧ oe.cls = cls ∧ oe.data = .fields vs
noncomputable def excO (a : Addr) (cls : Value) : HO := .ext (IsExc a cls)
theorem IsExc.ok {P : Program} {w : World} {H : Hp} {h : Heap} {a : Addr} {cls : Value} (x : IsExc a cls h) : ObjOk P w H h a (excO a cls) :=
  ⟨x, let ⟨oe, _, e, _⟩ := x; ⟨oe, e⟩, fun h1 h2 ⟨oe, vs, e, c, d⟩ k => ⟨oe, vs, k _ e, c, d⟩⟩
theorem Inv.track {a : Addr} {o : HO} (I : Inv X pins σ H s) (hn : H a = none) (h0 : ∀ ob, X.s₀.heap.get? a ≠ some ob) (hL : a ≠ X.env.locals) (hC : ∀ x c, X.env.cells.lookup x = some c → c ≠ a) (hp : ∀ p ∈ X.pn ++ pins, p.1 ≠ a)
    (new : ObjOk X.prog X.w (upd H a o) s.heap a o) : Inv X pins σ (upd H a o) s := by
  refine ⟨I.ok, I.os, I.bare, ⟨I.base.keep, I.base.slot, fun b ob e n hx => ?_, I.base.there, fun b xs e => ?_, fun b ob u e => ?_, fun b ps e => ?_⟩, I.loc, I.cell, ?_, fun x c e => ?_, fun p q => ?_, I.hok.track hn new, I.len⟩
  · rw [upd_ne (show b ≠ a from fun z => h0 ob (by rw [← z]; exact e))]
    exact I.base.free b ob e n hx
  · have q := I.base.tups b xs e
    rw [upd_ne (ne_of_none q hn)]
    exact q
  · have q := I.base.frzs b ob u e
    rw [upd_ne (ne_of_none q hn)]
    exact q
  · obtain ⟨m, q⟩ := I.base.tbls b ps e
    exact ⟨m, by rw [upd_ne (ne_of_none q hn)]; exact q⟩
  · rw [upd_ne (Ne.symm hL)]
    exact I.free
  · rw [upd_ne (hC x c e)]
    exact I.freeC x c e
  · obtain ⟨q1, q2, q3⟩ := I.pin p q
    exact ⟨q1, by rw [upd_ne (hp p q)]; exact q2, q3⟩
end
end L2

set_option Elab.async false
set_option linter.all false
set_option maxRecDepth 100000
namespace L2
open PySem PySem.Spec PyProof.Rows
theorem ObjOk.there {P : Program} {w : World} {H : Hp} {h : Heap} {a : Addr} {o : HO} (x : ObjOk P w H h a o) : ∃ ob, h.get? a = some ob := by
  cases o with
  | lst xs => obtain ⟨_, _, _, _, e⟩ := x; exact ⟨_, e⟩
  | tup xs => obtain ⟨_, _, _, o, e, _⟩ := x; exact ⟨_, e⟩
  | dK kvs => obtain ⟨_, _, _, _, o, _, _, e, _⟩ := x; exact ⟨_, e⟩
  | dT kvs => obtain ⟨_, _, _, _, o, _, _, e, _⟩ := x; exact ⟨_, e⟩
  | set S n => obtain ⟨o, _, _, _, e, _⟩ := x; exact ⟨_, e⟩
  | ins C dx fs => obtain ⟨_, _, _, e, _⟩ := x; exact ⟨_, e⟩
  | own y => exact x
  | xd fs => obtain ⟨_, ⟨_, _, _, e, _⟩, _⟩ := x; exact ⟨_, e⟩
  | rng lo hi => obtain ⟨_, _, _, e⟩ := x; exact ⟨_, e⟩
  | frz ob u => exact ⟨_, x.1⟩
  | tbl ps => exact ⟨_, (show h.get? a = some _ from x)⟩
  | met f y => exact ⟨_, (show h.get? a = some _ from x)⟩
  | ext φ => exact x.2.1
theorem Inv.unbound {X : Cx} {pins : List (Addr × Obj)} {σ : St} {H : Hp} {s : Shared} {j : Nat} {n : Str} {m : Str → Option Value} {v : Option Value} {h' : Heap} {tk : Nat} (I : Inv X pins σ H s) (hN : X.N.Nodup) (hj : X.N[j]? = some n) (hm : s.heap.Ns X.env.locals m)
    (hn : h'.Ns X.env.locals fun x => if x = n then v else m x) (hs : Heap.SameBut X.env.locals s.heap h') : Inv X pins (σ.set j none) H { s with heap := h', toks := tk } := by
  obtain ⟨m0, hm0, hl⟩ := id I.loc
  have em : m0 = m := by
    obtain ⟨o1, es1, ep1, e1, d1, _, f1⟩ := id hm0
    obtain ⟨o2, es2, ep2, e2, d2, _, f2⟩ := id hm
    rw [e1] at e2
    cases e2
    rw [d1] at d2
    cases d2
    funext y
    rw [← f1, ← f2]
  subst em
  have neL : ∀ b o, X.s₀.heap.get? b = some o → b ≠ X.env.locals := fun b o e => Nat.ne_of_lt (Nat.lt_of_lt_of_le (Heap.lt_size e) I.ok.above)
  have cne := I.cne
  refine ⟨I.ok, I.os, I.bare, ⟨fun b o e n' hb hx => (hs.2 b (neL b o e)).trans (I.base.keep b o e n' hb hx), fun b o e n' hb hx => ?_, I.base.free, fun b o e hx => ?_, I.base.tups, I.base.frzs, I.base.tbls⟩, ⟨_, hn, fun i y v' e1 e2 e3 => ?_⟩, fun y c e => ?_, I.free, I.freeC, fun p hp => ?_, fun b u e => ?_, by rw [List.length_set]; exact I.len⟩
  · obtain ⟨sl, e1⟩ := I.base.slot b o e n' hb hx
    exact ⟨sl, (hs.2 b (neL b o e)).trans e1⟩
  · obtain ⟨o', e1⟩ := I.base.there b o e hx
    exact ⟨o', (hs.2 b (neL b o e)).trans e1⟩
  · by_cases hij : i = j
    · subst hij
      rw [List.getElem?_set] at e2
      simp at e2
    · rw [List.getElem?_set_ne (Ne.symm hij)] at e2
      obtain ⟨u', r', q⟩ := hl i y v' e1 e2 e3
      refine ⟨u', r', ?_⟩
      rcases q with ⟨k, e⟩ | ⟨k, c, e, z⟩
      · refine .inl ⟨k, ?_⟩
        have : y ≠ n := fun e => hij (nodup_ix hN e1 (e ▸ hj))
        simp [this, e]
      · exact .inr ⟨k, c, e, z.sameBut hs (cne y c e)⟩
  · obtain ⟨u, z⟩ := I.cell y c e
    exact ⟨u, z.sameBut hs (cne y c e)⟩
  · obtain ⟨q1, q2, q3, q4⟩ := I.pin p hp
    exact ⟨(hs.2 p.1 q3).trans q1, q2, q3, q4⟩
  · refine (I.hok b u e).stay (fun c w' hc q => (hs.2 c ?_).trans q) (fun _ q => q) fun _ _ q => q
    intro z
    rcases hc with hc | hc
    · rw [← hc, z, I.free] at e; cases e
    · rw [z, I.free] at hc; cases hc
section
variable {X : Cx} {k : Nat} {f CF : Addr} {fd : FuncData} {ps : List Str} {sp : Sp} {E : XK} {x hx n : Str} {p np cpos epos hpos pos : Pos} {e : Expr} {es : List Expr} {t : TA} {b₀ : Stmt} {suite : List Stmt} {ts : TS} {j : Nat}
noncomputable def tTry (sp : Sp) (E : XK) (t : TA) (ts : TS) (j : Nat) : TS := fun D σ H => t σ H fun vs H1 => sp vs H1 (fun _ H2 => D.nx σ H2) E ∧ ∀ cls H2 a, E cls none H2 → H2 a = none →
  ts { nx := fun σ3 H3 => D.nx (σ3.set j none) H3, rt := D.rt } (σ.set j (some (.ref a))) (upd H2 a (excO a cls))
theorem ps_try (hstk : X.stack = X.env :: X.outer) (hfr : X.env.frame = some X.env.locals) (F : FnOk X.prog X.w X.K X.mg X.base (CX1 X.prog X.w) k f fd ps sp) (hr : Room k X.A) (hg : Gl X x) (hm : X.mg x = some (.ref f)) (hk : PySem.W.keepIn X.K (.ref f) = true) (hb : Binds X.K fd ps [])
    (ha : PA X.nox (e :: es) t) (hgF : Gl X hx) (hmF : X.mg hx = some (.ref CF)) (hE : ∀ cls H', E cls none H' → PySem.W.exmOne X.K cls (.ref CF) = some true) (hN : X.N.Nodup) (hj : X.N[j]? = some n) (hloc : X.env.kindOf n = some .local) (hsu : ∀ ev, PSs (X.handling ev) (b₀ :: suite) ts)
    (hdb : (x == ("__debug__" : Str)) = false := by decide) (hdF : (hx == ("__debug__" : Str)) = false := by decide) (he : starEach (e :: es) X.env = (false, eval e X.env) :: starEach es X.env := by rfl) (hpl : (backTo cpos (starEach es X.env)).any (·.1) = false := by rfl)
    (hs : swapsWith (.Call (.Name x p) (e :: es) [] cpos) none epos.line X.env = pure false := by rfl)
    (hex : X.ex = [] := by rfl) : PS X (.Try [.Expr (.Call (.Name x p) (e :: es) [] cpos) epos] [.ExceptHandler (some (.Name hx np)) (some n) (b₀ :: suite) hpos] [] [] pos) (tTry sp E t ts j) := by
  intro pins s σ H D I h
  refine wpAny_Try_except (wpAny_execs_cons (wpAny_Expr_any (wpAny_Call_Name_kw (ld_glob I hg hm ?_ hdb)) I.quiet hs))
  refine PySem.W.callWith_K (h₀ := X.base) I.ok.mod.kin hk (wpAny_mono (ha cpos pins s σ H _ (I.wish _) h) (fun us s1 ⟨vs, H1, I1, r, q, qE⟩ => ⟨I1.kIn, ?_⟩) fun _ _ z => False.elim z) he hpl
  have I1 := I1.unwish
  have hl : us.length = ps.length := by rw [← r.length]; exact F.len _ _ _ _ q
  have hb1 := hb s1 us I1.kIn (by rw [List.append_nil]; exact hl)
  rw [List.append_nil] at hb1
  refine wpAny_call (codeAny_mono (F.run X.A X.stack s1 H1 ⟨us, []⟩ us vs _ E hr I1.env0 hb1 r q) fun rr s' hq => ?_)
  cases rr with
  | ok fl =>
    cases fl with
    | ret u =>
      obtain ⟨v, H', I', r', q'⟩ := I1.after hq
      exact wpAny_execs_nil (wpAny_execs_nil ⟨σ, H', I', q'⟩)
    | next => exact False.elim hq
    | brk => exact False.elim hq
    | cont => exact False.elim hq
  | error er =>
    obtain ⟨a, cls, a0, H2, hb', rfl, os, bare, un, hok, ⟨st, hn, fs, tr⟩, k1, k4, hq⟩ := hq
    have hmem : ∀ b ∈ frs X.stack, ∃ o, s'.heap.get? b = some o ∧ ∀ vs, o.data ≠ .fields vs := fun b z => (fs.mem z).2
    have fs' : s'.heap.FunFrames hb' (X.env :: X.outer) := hstk ▸ fs
    refine wpAny_noteFrame_onW (base := hb') (by rw [I.ok.frames, hstk]) fs' hfr tr st hn fun h2 ⟨n1, n2, n3, n4⟩ => ?_
    refine wpAny_setFlight_noneW (base := hb') (l := X.env :: X.outer) n1 n2 n3 fun h3 m1 m2 m3 m4 => ?_
    -- the state where the handler is asked
    have up3 : ∀ b o, s'.heap.get? b = some o → (∀ vs, o.data ≠ .fields vs) → ∃ sl, h3.get? b = some { o with slots := sl } := fun b o e nf => by
      obtain ⟨sl, e2⟩ := n4 b o e nf
      exact ⟨sl, m4 b _ e2 nf⟩
    have un3 : Un (frs X.stack) [] H1 H2 s1.heap h3 := un_left un k1 k4 m1 hmem up3
    have I3 : Inv X pins σ H2 { s' with heap := h3 } := I1.call' (s' := { s' with heap := h3 }) os un3 (hok.kept m1) bare (fun b z => absurd z (by simp))
    have hH2 : H2 a = none := by
      cases z : H2 a with
      | none => rfl
      | some u => obtain ⟨ob, e⟩ := (hok a u z).there; rw [hn] at e; cases e
    obtain ⟨oe', vs', T', oT', ts', tr1, _, tr3, _⟩ := id tr
    have newA : ∀ ob, s1.heap.get? a ≠ some ob := fun ob e => by
      by_cases hf : a ∈ frs X.stack
      · obtain ⟨o, e2, nf⟩ := hmem a hf
        rw [tr1] at e2
        cases e2
        exact nf _ tr3
      · obtain ⟨o', e'⟩ := k4 a ob e hf
        rw [hn] at e'
        cases e'
    have lookT : PySem.W.Looks (model X.prog X.w) h3 (typeOf (.ref a)) cls := fun A Q E' s k q => by
      obtain ⟨oe, vs, _, _, _, e1, ⟨e2, _⟩, _⟩ := m3
      refine wpAny_typeOf_ref (k _ _ e1) ?_
      rw [e2]
      exact q
    refine wpAny_handleBy_cons (codeAny_handlers_test (ld_glob (X := X.handling (.ref a)) (I3.handling _) hgF hmF ?_ hdF)) (by intro z; cases z)
    refine PySem.W.exm_one (K := X.K) I3.kIn lookT (hE cls H2 hq) _ _ _ _ (fun _ _ z => z) ?_
    refine codeAny_handlers_suite_as ?_
    refine wpAny_setFlight_noneW (base := hb') (l := X.env :: X.outer) m1 m2 m3 fun h4 p1 p2 p3 p4 => ?_
    have up4 : ∀ b o, s'.heap.get? b = some o → (∀ vs, o.data ≠ .fields vs) → ∃ sl, h4.get? b = some { o with slots := sl } := fun b o e nf => by
      obtain ⟨sl, e2⟩ := up3 b o e nf
      exact ⟨sl, p4 b _ e2 nf⟩
    have un4 : Un (frs X.stack) [] H1 H2 s1.heap h4 := un_left un k1 k4 p1 hmem up4
    have I4 : Inv X pins σ H2 { s' with heap := h4 } := I1.call' (s' := { s' with heap := h4 }) os un4 (hok.kept p1) bare (fun b z => absurd z (by simp))
    have isE : IsExc a cls h4 := by
      obtain ⟨oe, vs, _, _, _, e1, ⟨e2, _⟩, e3, _⟩ := p3
      exact ⟨oe, vs, e1, e2, e3⟩
    have J4 : Inv X pins σ (upd H2 a (excO a cls)) { s' with heap := h4 } := I4.track hH2 (fun ob e => by
        obtain ⟨o', e'⟩ := I1.base.there a ob e (by rw [hex]; simp)
        exact newA o' e') (fun z => by
        obtain ⟨m, ⟨o, _, _, e, _⟩, _⟩ := I1.loc
        exact newA o (by rw [z]; exact e)) (fun y c e z => by
        obtain ⟨v, o, eo, _⟩ := I1.cell y c e
        exact newA o (by rw [← z]; exact eo)) (fun p hp z => newA p.2 (by rw [← z]; exact (I1.pin p hp).1)) isE.ok
    refine store_ok (X := X.handling (.ref a)) (v := .ref a) (J4.handling _) hN hj (Or.inl hloc) rfl (fun s5 J5 => ?_) (.inr hloc)
    refine wpAny_mono (hsu (.ref a) pins s5 _ _ _ J5 (qE cls H2 a hq hH2)) (fun fl s6 sp6 => ?_) fun _ _ z => False.elim z
    have hknd : (X.env.scope.kind == .class || (X.env.scope.kind == .module && X.env.locals != X.env.globals)) = false := by rw [I.ok.kind]; rfl
    cases fl with
    | next =>
      obtain ⟨σ6, H6, I6, q6⟩ := sp6
      have I6 := I6.handled I.ok
      obtain ⟨m, hm6, _⟩ := id I6.loc
      exact wpAny_nameGoes_keeps hloc hm6 hknd fun h7 v hns hsb => ⟨_, H6, I6.unbound hN hj hm6 hns hsb, q6⟩
    | ret u =>
      obtain ⟨v6, σ6, H6, I6, r6, q6⟩ := sp6
      have I6 := I6.handled I.ok
      obtain ⟨m, hm6, _⟩ := id I6.loc
      exact wpAny_nameGoes_keeps hloc hm6 hknd fun h7 v hns hsb => ⟨v6, _, H6, I6.unbound hN hj hm6 hns hsb, r6, q6⟩
    | brk =>
      obtain ⟨_, _, _, q6⟩ := sp6
      exact False.elim q6
    | cont =>
      obtain ⟨_, _, _, q6⟩ := sp6
      exact False.elim q6
end
end L2

set_option Elab.async false
set_option linter.all false
set_option maxRecDepth 100000
namespace L2
open PySem PySem.W PySem.Spec PyProof.Rows
structure ExcK (K : PySem.W.Frag) (C : Addr) : Prop where
  ex : ∃ (nm q : Str) (N AF : Addr) (bs bmB : List Value) (hdct : Bool) (sn : List Str) (sub : List Value) (ab : Bool) (col : Option Bool) (dd ddF : Option Addr) (k0 k1 k2 k3 k5 : Option Value) (newId B : String) (c0 : Value) (cd : ClassData) (slF : Array (Option Value)),
    K.lookup C = some (excClassObj nm q C N bs (.ref AF :: bmB) hdct sn sub ab col dd k0 k1 k2 k3 k5 newId) ∧ K.lookup AF = some ⟨c0, ddF, .cls cd, slF⟩ ∧ nsOkIn K cd.ns = true ∧ (∀ n ∈ quietNames, nsIn K cd.ns n = some none) ∧ ExcAttrBase B bmB
  ga : findIn K (.ref C) "__getattribute__" = some (some (.builtin "BaseException.__getattribute__"))
  hook : findIn K (.ref C) "__getattr__" = some none
  cls : findIn K (.ref C) "__class__" = some (some (.builtin "object.__class__"))
  mro : mroIn K C (.type "object") = some true
section
variable {prog : Program} {w : World} {K : PySem.W.Frag} {a C : Addr} {A : Around} {E : Value → Shared → Prop} {s : Shared}
theorem exc_ty {M : Model} {h : Heap} (x : IsExc a (.ref C) h) : Looks M h (typeOf (.ref a)) (.ref C) := fun A Q E s k q => by
  obtain ⟨oe, vs, e1, e2, _⟩ := x
  refine wpAny_typeOf_ref (k _ _ e1) ?_
  rw [e2]
  exact q
theorem exc_get {tp : Value} {R : Result → Shared → Prop} (X : K.In s.heap) (x : IsExc a (.ref C) s.heap) (hm : mroIn K C (.type "object") = some true) (h : R (.ok (.ret (.ref C))) s) :
    codeAny (model prog w) A (.call (.builtin "getset_descriptor.__get__") ⟨[.builtin "object.__class__", .ref a, tp], []⟩) R s := by
  obtain ⟨hh, g, dr, t, os⟩ := s
  have L0 := exc_ty (M := model prog w) x
  have L1 := looks_mroIn (M := model prog w) X hm
  refine codeAny_call_builtin KF.slot_gs.plain KF.entry_gs (KF.slot_gs.check _ _ _ _ _ _ _ _ KF.type_class (KF.args_gs _ _ _) ?_)
  show wpAny _ _ (Builtin.Getset_descriptor.descrGet _) _ _ _
  unfold Builtin.Getset_descriptor.descrGet
  rw [dga_obj]
  refine wpAny_bind (wpAny_pure ?_)
  show wpAny _ _ (Builtin.Getset_descriptor.descrCheckInstance (.builtin "object.__class__") (.ref a) >>= _) _ _ _
  have e1 : Builtin.Getset_descriptor.descrNameAndClass (.builtin "object.__class__") = pure (Str.ofString "__class__", .type "object") := by
    show pure (Str.ofString (Builtin.Getset_descriptor.descrOwnerAndName "object.__class__").2, Value.type (Builtin.Getset_descriptor.descrOwnerAndName "object.__class__").1) = _
    rw [KF.owner_class]
  unfold Builtin.Getset_descriptor.descrCheckInstance
  rw [e1]
  refine wpAny_bind (wpAny_bind (wpAny_pure ?_))
  show wpAny _ _ ((do let t ← typeOf (.ref a); isSubtype t (.type "object")) >>= _) _ _ _
  refine wpAny_bind (wpAny_bind (Looks.at L0 (Looks.at L1 ?_)))
  refine wpAny_ite_false rfl (wpAny_pure ?_)
  refine wpAny_pure ⟨Code.quiet_builtin _ (by decide +kernel), codeAny_builtin KF.entry_class ?_⟩
  show wpAny _ _ ((typeOf (.ref a) >>= _) >>= _) _ _ _
  refine wpAny_bind (wpAny_bind (Looks.at L0 ?_))
  exact wpAny_pure (wpAny_pure h)
theorem exc_tailQ {h : Heap} {AF : Addr} {bmB : List Value} {c0 : Value} {ddF : Option Addr} {cd : ClassData} {slF : Array (Option Value)} (X : K.In h) (lkF : K.lookup AF = some ⟨c0, ddF, .cls cd, slF⟩) (nsF : nsOkIn K cd.ns = true) (qF : ∀ n ∈ quietNames, nsIn K cd.ns n = some none) : OwnTailQ h bmB (.ref AF :: bmB) :=
  .own (X _ _ lkF) (Heap.Ns.of_isNs (isNs_of_in X nsF)) (fun n hn => nsMap_none_of_in X nsF (qF n hn)) .base
theorem exc_entry {tk : Tok} {Q : PySem.Fin → Shared → Prop} (X : K.In s.heap) (k : ExcK K C) (x : IsExc a (.ref C) s.heap) (h : Q (.done (.ret (.ref C))) s) :
    wpAny (model prog w) A (Builtin.«object.__getattribute__» ⟨[.ref a, .str "__class__" tk], []⟩) Q E s := by
  obtain ⟨hh, g, dr, t, os⟩ := s
  have L0 := exc_ty (M := model prog w) x
  have L2 := looks_findIn (M := model prog w) X k.cls
  have es : slotArgs "__getattribute__" 1 ⟨[.ref a, .str "__class__" tk], []⟩ = pure (.ref a, [.str "__class__" tk]) := rfl
  have en : Builtin.ObjectAttr.attrName (.str "__class__" tk) = pure (Str.ofString "__class__") := rfl
  unfold Builtin.«object.__getattribute__»
  rw [es]
  refine wpAny_bind (wpAny_pure ?_)
  show wpAny _ _ (Builtin.ObjectAttr.attrName (.str "__class__" tk) >>= _) _ _ _
  rw [en]
  refine wpAny_bind (wpAny_pure ?_)
  refine wpAny_bind (Looks.at L0 ?_)
  refine wpAny_bind ?_
  unfold Builtin.ObjectAttr.find
  refine wpAny_bind (Looks.at L2 ?_)
  refine wpAny_bind (wpAny_specialOf_val F.typeOf_object_class F.slot_gs_get.lookup ?_)
  refine wpAny_bind (wpAny_bind (wpAny_bind (wpAny_specialOf_val F.typeOf_object_class F.slot_gs_set.lookup ?_)))
  refine wpAny_ite_true rfl (wpAny_pure (wpAny_ite_true rfl (wpAny_pure (wpAny_bind (wpAny_rule (wpAny_pure ?_))))))
  show wpAny _ _ (holding _ (call _ _) >>= _) _ _ _
  exact wpAny_bind (wpAny_holding (wpAny_call (exc_get X x k.mro (wpAny_pure h))))
theorem exc_by {tk : Tok} {Q : Value → Shared → Prop} (X : K.In s.heap) (k : ExcK K C) (x : IsExc a (.ref C) s.heap) (h : Q (.ref C) s) : wpAny (model prog w) A (getAttrBy (.ref a) (.str "__class__" tk) false) Q E s := by
  obtain ⟨nm, q, N, AF, bs, bmB, hdct, sn, sub, ab, col, dd, ddF, k0, k1, k2, k3, k5, newId, B, c0, cd, slF, lk, lkF, nsF, qF, FB⟩ := k.ex
  obtain ⟨hh, g, dr, t, os⟩ := s
  obtain ⟨oe, vs, e1, e2, e3⟩ := id x
  have L0 := exc_ty (M := model prog w) x
  have L3 := looks_findIn (M := model prog w) X k.ga
  have L4 := looks_findIn (M := model prog w) X k.hook
  refine wpAny_holding (wpAny_bind (Looks.at L0 (wpAny_bind (Looks.at L3 ?_))))
  refine wpAny_ite_false rfl ?_
  refine wpAny_bind (wpAny_ite_true rfl (Looks.at L4 (wpAny_bind (wpAny_attempt (wpAny_holding ?_)))))
  refine wpAny_ite_false rfl ?_
  refine wpAny_bind (wpAny_of_eq (FB.ga.bind (.ref a)) (wpAny_call ?_))
  refine codeAny_call_builtin FB.ga.plain F.entry_bexc_ga (wpAny_check_ga_own FB (X _ _ lk) (exc_tailQ X lkF nsF qF) e1 e2 ?_)
  exact exc_entry X k x (wpAny_pure h)
theorem exc_ca {Q : Option Value → Shared → Prop} (X : K.In s.heap) (k : ExcK K C) (x : IsExc a (.ref C) s.heap) (h : Q (some (.ref C)) { s with toks := s.toks + 1 }) : wpAny (model prog w) A (getAttr? (.ref a) "__class__") Q E s := by
  obtain ⟨hh, g, dr, t, os⟩ := s
  exact wpAny_bind (wpAny_bind (wpAny_fresh' (wpAny_pure (wpAny_bind (wpAny_attempt (exc_by (s := ⟨hh, g, dr, t + 1, os⟩) X k x (wpAny_pure h)))))))
theorem exc_kitx (k : ExcK K C) : KitX K (.ref a) (.ref C) (IsExc a (.ref C)) where
  ty := fun M h _ x => exc_ty x
  it := fun M h X x A Q E s kk q => by
    obtain ⟨nm, q', N, AF, bs, bmB, hdct, sn, sub, ab, col, dd, ddF, k0, k1, k2, k3, k5, newId, B, c0, cd, slF, lk, _⟩ := k.ex
    exact wpAny_bind (wpAny_loadPart (kk _ _ (X _ _ lk)) (wpAny_pure q))
  ne := fun h tp dd its n sl X htp => by
    obtain ⟨nm, q', N, AF, bs, bmB, hdct, sn, sub, ab, col, dd, ddF, k0, k1, k2, k3, k5, newId, B, c0, cd, slF, lk, _⟩ := k.ex
    rw [Bool.eq_false_iff]
    intro z
    have e : C = tp := Value.ref.inj (beq_iff_eq.mp z)
    rw [← e, X _ _ lk] at htp
    have z := congrArg Obj.data (Option.some.inj htp)
    cases z
  ca := fun X x h => exc_ca X k x h
end
end L2

set_option Elab.async false
set_option linter.all false
set_option maxRecDepth 100000
namespace L2
open PySem PySem.W PySem.Spec PyProof.Rows
section
variable {X : Cx}
noncomputable def rCatS : R2 := fun x y H Q => ∃ a b xs ys, x = .ref a ∧ y = .ref b ∧ H a = some (.tup xs) ∧ H b = some (.tup ys) ∧ xs.length + ys.length ≤ sizeLine ∧ ∀ c H', (∀ d u, H d = some u → H' d = some u) → H' c = some (.tup (xs ++ ys)) → Q (.ref c) H'
theorem op_catS : OpR X (binaryOp .Add) rCatS := by
  intro pins s σ H x y v u Q I rx ry h
  obtain ⟨a, b, xs, ys, rfl, rfl, ha, hb, hz, q⟩ := h
  cases rx
  cases ry
  obtain ⟨its, r1, p1, _⟩ := I.tuple (SqT.of ha)
  obtain ⟨its2, r2, p2, _⟩ := I.tuple (SqT.of hb)
  by_cases hx : xs = []
  · subst hx
    cases r1
    obtain ⟨m, F⟩ := I.fr
    refine add_tuples (vs := []) F news_all p1 p2 (fun _ => ⟨.ref b, H, I, rfl, q b H (fun _ _ z => z) (by simpa using hb)⟩) (fun z => absurd rfl z) (fun z => absurd rfl z) (by rw [← r2.length]; simpa using hz)
  · refine op_catT pins s σ H (.ref a) (.ref b) (.ref a) (.ref b) Q I rfl rfl ⟨a, b, xs, ys, rfl, rfl, SqT.of ha, SqT.of hb, hx, hz, fun e => ?_, fun _ p hp => ?_⟩
    · subst e
      exact q a H (fun _ _ z => z) (by rw [List.append_nil]; exact ha)
    · exact q p _ (fun d u z => by rw [upd_ne (ne_of_none z hp)]; exact z) upd_same
theorem lc_enum {K : PySem.W.Frag} {n : Nat} {g : CB → TG} {tt : CB → TT} {te : CB → TE} {σ : St} {Q : VK} {H : Hp} {a : Addr} {xs : List V} (hk : xs.length ≤ 1000) (Pv : Nat → List V → Hp → Prop) (h0 : Pv 0 [] H) (hq : ∀ i ys H, Pv i ys H → SqT K H a xs) (hl : ∀ i ys H, Pv i ys H → ys.length ≤ i)
    (hs : ∀ c i x t ys H, xs[i]? = some x → H t = none → Pv i ys H → g c (.ref t) (List.replicate n none ++ σ) (upd H t (.tup [.int i, x])) fun σ2 H2 => tt c σ2 H2 fun b H3 => if b = true then te c σ2 H3 fun v H4 => Pv (i + 1) (ys ++ [v]) H4 else Pv (i + 1) ys H3)
    (hd : ∀ ys H, Pv xs.length ys H → ∀ p, H p = none → Q (.ref p) (upd H p (.lst ys))) : LcEnd (Ite K a) n g tt te σ Q H :=
  lc_any xs.length hk Pv h0 (fun i ys H hi p => ⟨xs, xs[i], hq i ys H p, by simp [hi]⟩) (fun ys H p => ⟨xs, hq _ ys H p, Nat.le_refl _⟩) hl (fun c i x ys H H' hi y p => by
    obtain ⟨t, v, e, ht, e2, y⟩ := y
    subst e e2
    exact hs c i v t ys _ (y xs (hq i ys _ p)) ht p) hd
theorem call_isE1 : CallR X (.builtin "isinstance") (fun xs H Q => ∃ (a C : Addr) (c : V) (cv : Value) (b : Bool), xs = [.ref a, c] ∧ H a = some (excO a (.ref C)) ∧ ExcK X.K C ∧ kitOne X.K (.ref C) cv = some b ∧ (∀ u, RelV c u → u = cv) ∧ Q (.bl b) H) := by
  intro pins s σ H xs us Q I r h
  obtain ⟨a, C, c, cv, b, rfl, ha, k, e, hu, q⟩ := h
  obtain ⟨u, u2, rfl, rx, rc⟩ := vals2 r
  cases rx
  obtain rfl := hu u2 rc
  have x : IsExc a (.ref C) s.heap := (I.hok a _ ha).1
  exact kia_one (exc_kitx k) I.kIn x e (fun z => nomatch z) fun tk => ⟨.bl b, H, I.tok _, rfl, q⟩
theorem vals_refs : ∀ {cs : List Addr} {us : List Value}, Vals (cs.map V.ref) us → us = cs.map Value.ref
  | [], _, h => by cases h; rfl
  | b :: bs, _, h => by
    cases h with
    | cons r t =>
      cases r
      rw [vals_refs t]
      rfl
theorem call_isE : CallR X (.builtin "isinstance") (fun xs H Q => ∃ (a C tp : Addr) (cs : List Addr) (b : Bool), xs = [.ref a, .ref tp] ∧ H a = some (excO a (.ref C)) ∧ ExcK X.K C ∧ SqT X.K H tp (cs.map V.ref) ∧ kitAny X.K (.ref C) (cs.map Value.ref) = some b ∧ Q (.bl b) H) := by
  intro pins s σ H xs us Q I r h
  obtain ⟨a, C, tp, cs, b, rfl, ha, k, hp, e, q⟩ := h
  obtain ⟨u, u2, rfl, rx, rc⟩ := vals2 r
  cases rx
  cases rc
  have x : IsExc a (.ref C) s.heap := (I.hok a _ ha).1
  obtain ⟨its, rv, ⟨o, ho, hcl, n, hd⟩, hz⟩ := I.tuple hp
  have ei := vals_refs rv
  subst ei
  obtain ⟨oc, od, odt, osl⟩ := o
  cases hcl
  cases hd
  exact kia_tup (exc_kitx k) I.kIn x ho e (fun z => nomatch z) fun tk => ⟨.bl b, H, I.tok _, rfl, q⟩
end
theorem pass10 {P : Program} {w : World} {X : Cx} : Passes (CX1 P w) X E0 := fun _ _ _ _ _ _ _ h => by
  obtain ⟨_, _, _, _, _, _, _, _, _, _, _, _, _, q⟩ := h
  exact q.elim
end L2

set_option Elab.async false
set_option linter.all false
set_option maxRecDepth 100000
namespace L2
open PySem PySem.W PySem.Spec PyProof.Rows
section
variable {K : PySem.W.Frag} {C c : Addr} {dd : Option Addr} {cd : ClassData} {sl : Array (Option Value)}
theorem kitCls_of (lk : K.lookup c = some ⟨.type "type", dd, .cls cd, sl⟩) : kitCls K (.ref C) (.ref c) = mroIn K C (.ref c) := by
  have e1 : clsIn K c = some cd := by unfold clsIn; rw [lk]
  have e2 : typeIn K (.ref c) = some (.type "type") := by
    show Option.map _ (List.lookup c K) = _
    rw [lk]
    rfl
  show (if ((clsIn K c).isSome && typeIn K (.ref c) == some (.type "type")) = true then subIn K (.ref C) (.ref c) else none) = _
  rw [e1, e2, if_pos (by simp)]
  rfl
theorem kitOne_no (lk : K.lookup c = some ⟨.type "type", dd, .cls cd, sl⟩) (m : mroIn K C (.ref c) = some false) (mm : mroIn K C (.ref C) = some true) : kitOne K (.ref C) (.ref c) = some false := by
  have hne : C ≠ c := fun z => by rw [← z, mm] at m; cases m
  unfold kitOne
  rw [if_neg (fun z => hne (Value.ref.inj (beq_iff_eq.mp z))), kitCls_of lk]
  exact m
theorem kitOne_self : kitOne K (.ref C) (.ref C) = some true := by
  unfold kitOne
  rw [if_pos (by simp)]
theorem kitOne_type {T : String} (hm : kitMeta T = true) (m : mroIn K C (.type T) = some true) : kitOne K (.ref C) (.type T) = some true := by
  unfold kitOne
  rw [if_neg (fun z => by have := beq_iff_eq.mp z; cases this)]
  show (if kitMeta T = true then subIn K (.ref C) (.type T) else none) = _
  rw [if_pos hm]
  exact m
theorem kitAny_no {t : Value} : ∀ {cs : List Value}, (∀ c ∈ cs, kitOne K t c = some false) → kitAny K t cs = some false
  | [], _ => by rw [kitAny.eq_def]
  | c :: cs, h => by
    rw [kitAny.eq_def]
    simp only [h c List.mem_cons_self]
    exact kitAny_no fun d hd => h d (List.mem_cons_of_mem _ hd)
theorem exmOne_of (lk : K.lookup c = some ⟨.type "type", dd, .cls cd, sl⟩) (b : mroIn K c (.type "BaseException") = some true) (m : mroIn K C (.ref c) = some true) : exmOne K (.ref C) (.ref c) = some true := by
  unfold exmOne
  have e : subIn K (.ref c) (.type "BaseException") = some true := b
  rw [e, if_pos (by decide +kernel), kitCls_of lk]
  exact m
theorem nsOk_of {N : Addr} {cl : Value} {d : Option Addr} {es : Array DictEntry} {ep : Nat} {s : Array (Option Value)} (lk : K.lookup N = some ⟨cl, d, .dict es ep, s⟩) (h : (es.toList.all fun e => match e.key with | .str _ _ => true | _ => false) = true) : nsOkIn K N = true := by
  rw [Array.all_toList] at h
  unfold nsOkIn
  rw [lk]
  exact h
theorem tail_self {v : Value} {r : List Value} : tailIn K (v :: r) (v :: r) = true := by
  rw [tailIn.eq_def]
  simp
theorem tail_one {bmB : List Value} {cl : Value} (lk : K.lookup c = some ⟨cl, dd, .cls cd, sl⟩) (ns : nsOkIn K cd.ns = true) (ni : nsIn K cd.ns "__init__" = some none) (hb : tailIn K bmB bmB = true) : tailIn K bmB (.ref c :: bmB) = true := by
  rw [tailIn.eq_def]
  simp only [lk, ns, ni, hb]
  simp
end
end L2

set_option Elab.async false
set_option linter.all false
set_option maxRecDepth 100000
namespace Nf
open PySem L2 PyProof.Rows
noncomputable def top (i : Nat) : Stmt := PySem.Challenge.pw_nofall_k06_ties_whose_fall_parts.main.body.getD i (.Pass ⟨0, 0, 0, 0⟩)

structure Cal (P : Program) (w : World) (K : PySem.W.Frag) (mg : Str → Option Value) (base : Heap) (k : Nat) (x : Str) (ps : List Str) (sp : Sp) : Prop where
  ex : ∃ f fd, FnOk P w K mg base CX0 k f fd ps sp ∧ Binds K fd ps [] ∧ PySem.W.keepIn K (.ref f) = true ∧ mg x = some (.ref f)
theorem pc {X : Cx} {k j : Nat} {x : Str} {ps : List Str} {sp : Sp} {e : Expr} {es : List Expr} {t : TA} {p pos : Pos} (C : Cal X.prog X.w X.K X.mg X.base k x ps sp) (hr : Room j X.A) (ha : PA X (e :: es) t) (hk : k ≤ j := by decide) (hg : Gl X x := by rfl)
    (hdb : (x == ("__debug__" : Str)) = false := by decide) (he : starEach (e :: es) X.env = (false, eval e X.env) :: starEach es X.env := by rfl) (hpl : (backTo pos (starEach es X.env)).any (·.1) = false := by rfl) :
    PE X (.Call (.Name x p) (e :: es) [] pos) (tCall sp [] E0 t) := by
  obtain ⟨f, fd, F, b, kp, m⟩ := C.ex
  exact pe_call F (hr.mono hk) hg m kp b .nil pass0 ha hdb he hpl
structure Bn (mg : Str → Option Value) : Prop where
  isinstance : mg "isinstance" = none
  int : mg "int" = none
  bool : mg "bool" = none
  tuple : mg "tuple" = none
  list : mg "list" = none
  len : mg "len" = none
  all : mg "all" = none
  min : mg "min" = none
  max : mg "max" = none
  sorted : mg "sorted" = none
  range : mg "range" = none
  abs : mg "abs" = none
theorem same_new {H : Hp} {p : Addr} (h : H p = none) (o : HO) : Same H (upd H p o) := fun b u q => by rw [upd_ne (ne_of_none q h)]; exact q
theorem Pr.same {H H' : Hp} (s : Same H H') {v : V} {t : Tie} (h : Pr H v t) : Pr H' v t := let ⟨p, e, q⟩ := h; ⟨p, e, s _ _ q⟩
theorem Prs.app {H : Hp} : ∀ {vs ws : List V} {ts us : List Tie}, Prs H vs ts → Prs H ws us → Prs H (vs ++ ws) (ts ++ us)
  | _, _, _, _, .nil, s => s
  | _, _, _, _, .cons r t, s => .cons r (Prs.app t s)
theorem Prs.same {H H' : Hp} (s : Same H H') {vs : List V} {ts : List Tie} (h : Prs H vs ts) : Prs H' vs ts := Paired.mapP h fun _ _ q => Pr.same s q

theorem qdec {Q : VK} {H : Hp} {c : Prop} [Decidable c] (hc : c) (q : Q (.bl true) H) : Q (.bl (decide c)) H := by rw [decide_eq_true hc]; exact q
theorem qndec {Q : VK} {H : Hp} {c : Prop} [Decidable c] (hc : ¬ c) (q : Q (.bl true) H) : Q (.bl (!decide c)) H := by rw [decide_eq_false hc]; exact q
theorem iteDF {c A B : Prop} [Decidable c] (hc : ¬ c) (h : B) : if (decide c) = true then A else B := by rw [decide_eq_false hc]; exact iteF h
theorem pgetL {α β : Type} {F : α → β → Prop} {l₁ : List α} {l₂ : List β} (h : Paired F l₁ l₂) : ∀ {i : Nat} {a : α}, l₁[i]? = some a → ∃ b, l₂[i]? = some b ∧ F a b := by
  induction h with
  | nil => intro i x e; simp at e
  | cons r t ih =>
    intro i x e
    cases i with
    | zero => simp at e; subst e; exact ⟨_, rfl, r⟩
    | succ i =>
      obtain ⟨c, e1, f⟩ := ih (by simpa using e)
      exact ⟨c, by simpa using e1, f⟩
noncomputable def OkT (n : Int) (t : Tie) : Prop := 0 ≤ t.1 ∧ t.1 < n ∧ 0 ≤ t.2 ∧ t.2 < n ∧ t.1 ≠ t.2
noncomputable def Seq (H : Hp) (a : Addr) (xs : List V) : Prop := H a = some (.lst xs) ∨ H a = some (.tup xs)
structure Given (H : Hp) (n : Int) (a : Addr) (xs : List V) (ts : List Tie) : Prop where
  n1 : 1 ≤ n
  n16 : n ≤ 16
  seq : Seq H a xs
  prs : Prs H xs ts
  len : ts.length ≤ 40
  ok : ∀ t ∈ ts, OkT n t
theorem Given.same {H H' : Hp} {n : Int} {a : Addr} {xs : List V} {ts : List Tie} (g : Given H n a xs ts) (s : Same H H') : Given H' n a xs ts :=
  ⟨g.n1, g.n16, g.seq.elim (fun h => .inl (s _ _ h)) fun h => .inr (s _ _ h), Prs.same s g.prs, g.len, g.ok⟩
noncomputable def spWhole : Sp := fun vs H Q _ => ∃ i, vs = [.int i] ∧ Q (.bl true) H
noncomputable def spBelow : Sp := fun vs H Q _ => ∃ m i : Int, vs = [.int m, .int i] ∧ 0 ≤ i ∧ i < m ∧ Q (.bl true) H
noncomputable def spTie : Sp := fun vs H Q _ => ∃ n v t, vs = [.int n, v] ∧ Pr H v t ∧ OkT n t ∧ Q (.bl true) H
noncomputable def spMakes : Sp := fun vs H Q _ => ∃ n a xs ts, vs = [.int n, .ref a] ∧ Given H n a xs ts ∧ ∀ H', Same H H' → Q (.bl true) H'
noncomputable def spCheck : Sp := fun vs H Q _ => ∃ n a xs ts, vs = [.int n, .ref a] ∧ Given H n a xs ts ∧ ∀ H', Same H H' → Q .non H'

section
variable {P : Program} {w : World} {K : PySem.W.Frag} {mg : Str → Option Value} {base : Heap} {f : Addr} {fd : FuncData}
theorem sc6 : FnScope ["thing"] ["thing"] (defScope (top 15)) := ⟨rfl, rfl, rfl, by decide +kernel, rfl, by decide +kernel, by decide +kernel⟩
theorem ok_whole (F : Fun K "is_whole" "is_whole" (top 15) f fd) (B : Bn mg) : FnOk P w K mg base CX0 1 f fd ["thing"] spWhole := by
  refine F.ok sc6 (fun vs H Q E h => ?_) (fun cdv A outer s H vs Q E hr h => ?_)
  · obtain ⟨i, rfl, _⟩ := h
    rfl
  obtain ⟨i, rfl, q⟩ := h
  refine ⟨_, pss_one (ps_ret (pe_and (pe_callB call_isinst1 rfl B.isinstance boot_isinstance (pa_cons (pv 0) (pa_cons (pe_bltn (v := .ty "int") rfl B.int boot_int rfl) pa_nil)))
    (pe_one (pe_not (pe_callB call_isinst1 rfl B.isinstance boot_isinstance (pa_cons (pv 0) (pa_cons (pe_bltn (v := .ty "bool") rfl B.bool boot_bool rfl) pa_nil))))))), ?_⟩
  refine ⟨_, rfl, _, _, _, true, rfl, .int i, rfl, true, rfl, iteT ?_⟩
  exact ⟨_, rfl, _, _, _, false, rfl, .int i, rfl, false, rfl, q⟩
theorem sc7 : FnScope ["limit", "thing"] ["limit", "thing"] (defScope (top 16)) := ⟨rfl, rfl, rfl, by decide +kernel, rfl, by decide +kernel, by decide +kernel⟩
theorem ok_below (F : Fun K "is_below" "is_below" (top 16) f fd) (W : Cal P w K mg base 1 "is_whole" ["thing"] spWhole) : FnOk P w K mg base CX0 2 f fd ["limit", "thing"] spBelow := by
  refine F.ok sc7 (fun vs H Q E h => ?_) (fun cdv A outer s H vs Q E hr h => ?_)
  · obtain ⟨m, i, rfl, _⟩ := h
    rfl
  obtain ⟨m, i, rfl, h0, h1, q⟩ := h
  refine ⟨_, pss_one (ps_ret (pe_and (pc W hr (pa_cons (pv 1) pa_nil)) (pe_one (pe_chain op_le op_lt pe_int (pv 1) (pv 0))))), ?_⟩
  refine ⟨_, rfl, i, rfl, true, rfl, iteT ?_⟩
  refine ⟨_, rfl, _, _, rfl, rfl, _, rfl, ?_⟩
  rw [decide_eq_true h0]
  exact iteT ⟨_, rfl, _, _, rfl, rfl, qdec h1 q⟩
theorem sc8 : FnScope ["n", "thing"] ["n", "thing"] (defScope (top 19)) := ⟨rfl, rfl, rfl, by decide +kernel, rfl, by decide +kernel, by decide +kernel⟩
theorem ok_tie (F : Fun K "is_tie" "is_tie" (top 19) f fd) (B : Bn mg) (W : Cal P w K mg base 2 "is_below" ["limit", "thing"] spBelow) : FnOk P w K mg base CX0 3 f fd ["n", "thing"] spTie := by
  refine F.ok sc8 (fun vs H Q E h => ?_) (fun cdv A outer s H vs Q E hr h => ?_)
  · obtain ⟨n, v, t, rfl, _⟩ := h
    rfl
  obtain ⟨n, v, t, rfl, ⟨p, rfl, hp⟩, ⟨o1, o2, o3, o4, o5⟩, q⟩ := h
  refine ⟨_, pss_cons (ps_if (PW.pt (pw_or (pt_not (pt_val (pe_callB call_isinst1 rfl B.isinstance boot_isinstance (pa_cons (pv 1) (pa_cons (pe_bltn (v := .ty "tuple") rfl B.tuple boot_tuple rfl) pa_nil)))))
      (pw_or1 (pt_cmpR op_ne (pe_callB call_len_seq rfl B.len PySem.boot_len (pa_cons (pv 1) pa_nil)) pe_int (nomark _))))) (pss_one (ps_ret pe_bl)) pss_nil)
    (pss_one (ps_ret (pe_and (pc W hr (pa_cons (pv 0) (pa_cons (pe_ix ix_tup (pv 1) pe_int (fun _ _ => rfl)) pa_nil)))
      (pe_and (pc W hr (pa_cons (pv 0) (pa_cons (pe_ix ix_tup (pv 1) pe_int (fun _ _ => rfl)) pa_nil)))
        (pe_one (pe_cmpR op_ne (pe_ix ix_tup (pv 1) pe_int (fun _ _ => rfl)) (pe_ix ix_tup (pv 1) pe_int (fun _ _ => rfl)) (nomark _))))))), ?_⟩
  have i0 : atI [V.int t.1, V.int t.2] (0 : Int) = some (.int t.1) := atI_nat (j := 0) rfl
  have i1 : atI [V.int t.1, V.int t.2] (1 : Int) = some (.int t.2) := atI_nat (j := 1) rfl
  refine ⟨_, rfl, _, _, _, true, rfl, .tup hp, rfl, true, rfl, iteF ?_⟩
  refine ⟨_, rfl, p, _, rfl, .inr (SqT.of hp), rfl, _, rfl, iteF ?_⟩
  refine ⟨_, rfl, _, rfl, p, _, _, _, rfl, rfl, SqT.of hp, i0, _, _, rfl, o1, o2, true, rfl, iteT ?_⟩
  refine ⟨_, rfl, _, rfl, p, _, _, _, rfl, rfl, SqT.of hp, i1, _, _, rfl, o3, o4, true, rfl, iteT ?_⟩
  refine ⟨_, rfl, p, _, _, _, rfl, rfl, SqT.of hp, i0, _, rfl, p, _, _, _, rfl, rfl, SqT.of hp, i1, rfl, ?_⟩
  exact qndec (fun z => o5 (V.int.inj z)) q
theorem sc9 : FnScope ["n", "ties"] ["n", "ties"] (defScope (top 20)) := ⟨rfl, rfl, rfl, by decide +kernel, rfl, by decide +kernel, by decide +kernel⟩

theorem Given.lst {H : Hp} {n : Int} {a : Addr} {xs : List V} {ts : List Tie} (g : Given H n a xs ts) : SqL K H a xs ∨ SqT K H a xs := g.seq.elim (fun h => .inl (SqL.of h)) fun h => .inr (SqT.of h)
theorem nd_tie9 : (["tie", "n", "ties"] : List Str).Nodup := by decide +kernel
theorem boot_all : bootBuiltins "all" = some (.builtin "all") := by decide +kernel
theorem boot_abs : bootBuiltins "abs" = some (.builtin "abs") := by decide +kernel
theorem ok_makes (F : Fun K "makes_web" "makes_web" (top 20) f fd) (B : Bn mg) (W : Cal P w K mg base 1 "is_whole" ["thing"] spWhole) (T : Cal P w K mg base 3 "is_tie" ["n", "thing"] spTie) {t1 t2 : Tok}
    (mp : mg "MOST_PLACES" = some (.int 16 t1)) (mt : mg "MOST_TIES" = some (.int 40 t2)) : FnOk P w K mg base CX0 4 f fd ["n", "ties"] spMakes := by
  refine F.ok sc9 (fun vs H Q E h => ?_) (fun cdv A outer s H vs Q E hr h => ?_)
  · obtain ⟨n, a, xs, ts, rfl, _⟩ := h
    rfl
  obtain ⟨n, a, xs, ts, rfl, g, q⟩ := h
  refine ⟨_, pss_cons (ps_if (PW.pt (pw_or (pt_not (pt_val (pc W hr (pa_cons (pv 0) pa_nil)))) (pw_or1 (pt_not (pt_chain op_le op_le pe_int (pv 0) (pe_glob (v := .int 16) rfl mp ⟨_, rfl⟩)))))) (pss_one (ps_ret pe_bl)) pss_nil)
    (pss_cons (ps_if (PW.pt (pw_or (pt_not (pt_val (pe_callB call_isinst2 rfl B.isinstance boot_isinstance (pa_cons (pv 1) (pa_cons (pe_tup (pa_cons (pe_bltn (v := .ty "list") rfl B.list boot_list rfl) (pa_cons (pe_bltn (v := .ty "tuple") rfl B.tuple boot_tuple rfl) pa_nil))) pa_nil)))))
      (pw_or1 (pt_cmpR op_gt (pe_callB call_len_seq rfl B.len PySem.boot_len (pa_cons (pv 1) pa_nil)) (pe_glob (v := .int 40) rfl mt ⟨_, rfl⟩) (nomark _))))) (pss_one (ps_ret pe_bl)) pss_nil)
    (pss_one (ps_ret (pe_callB (call_allB rfl) rfl B.all boot_all (pa_cons (pe_lc ["tie"] rfl (pi_seq (pv 1)) (fun c => pg_name (i := 0) nd_tie9 rfl (Or.inl rfl)) (fun c => pts_nil) (fun c => pc T hr (pa_cons (pv 1) (pa_cons (pv 0) pa_nil)))) pa_nil))))), ?_⟩
  have hlen := g.prs.length
  have hL := g.len
  refine ⟨_, rfl, n, rfl, true, rfl, iteF ?_⟩
  refine ⟨_, rfl, _, _, rfl, rfl, _, rfl, ?_⟩
  rw [decide_eq_true g.n1]
  refine iteT ⟨_, _, rfl, rfl, _, rfl, iteNS g.n16 ?_⟩
  refine ⟨_, rfl, (by show 2 ≤ sizeLine; decide), fun tp htp => ?_⟩
  have s1 := same_new htp (.tup [V.ty "list", V.ty "tuple"])
  have g1 := g.same s1
  have ty : ∃ t, TyOf K (upd H tp (.tup [V.ty "list", V.ty "tuple"])) (.ref a) t ∧ PySem.W.kitAny K t [.type "list", .type "tuple"] = some true := g1.seq.elim (fun h => ⟨_, .lst h, rfl⟩) fun h => ⟨_, .tup h, rfl⟩
  obtain ⟨t, ty, kt⟩ := ty
  refine ⟨_, tp, "list", "tuple", t, true, rfl, ty, SqT.of upd_same, kt, true, rfl, iteF ?_⟩
  refine ⟨_, rfl, a, xs, rfl, g1.lst, _, _, rfl, rfl, _, rfl, iteDF (by omega) ?_⟩
  refine ⟨_, rfl, a, rfl, lc_seq (xs := xs) (by omega) (fun i ys H' => ys = List.replicate i (.bl true) ∧ H' = upd H tp (.tup [V.ty "list", V.ty "tuple"])) ⟨rfl, rfl⟩ ?_ ?_ ?_ ?_⟩
  · exact g1.seq.elim (fun h => .inl fun i ys H' z => by rw [z.2]; exact SqL.of h) fun h => .inr fun i ys H' z => by rw [z.2]; exact SqT.of h
  · intro i ys H' z
    rw [z.1, List.length_replicate]
    exact Nat.le_refl _
  · intro c i x ys H' hx z
    obtain ⟨z1, z2⟩ := z
    subst z1 z2
    obtain ⟨t, ht, pr⟩ := pgetL g1.prs hx
    refine iteT (B := True) ⟨_, rfl, _, rfl, n, x, t, rfl, pr, g.ok t (List.mem_of_getElem? ht), ?_, rfl⟩
    rw [List.replicate_succ']
  · intro ys H' z p hp
    obtain ⟨z1, z2⟩ := z
    subst z1 z2
    refine ⟨p, List.replicate xs.length true, rfl, SqL.of (by rw [upd_same, List.map_replicate]), ?_⟩
    have e : (List.replicate xs.length true).all id = true := by simp
    show Q (.bl ((List.replicate xs.length true).all id)) _
    rw [e]
    exact q _ (s1.trans (same_new hp _))
theorem sc10 : FnScope ["n", "ties"] ["n", "ties"] (defScope (top 21)) := ⟨rfl, rfl, rfl, by decide +kernel, rfl, by decide +kernel, by decide +kernel⟩
theorem ok_check (F : Fun K "check_makes_web" "check_makes_web" (top 21) f fd) (M : Cal P w K mg base 4 "makes_web" ["n", "ties"] spMakes) : FnOk P w K mg base CX0 5 f fd ["n", "ties"] spCheck := by
  refine F.ok sc10 (fun vs H Q E h => ?_) (fun cdv A outer s H vs Q E hr h => ?_)
  · obtain ⟨n, a, xs, ts, rfl, _⟩ := h
    rfl
  obtain ⟨n, a, xs, ts, rfl, g, q⟩ := h
  refine ⟨_, pss_one (ps_if (pt_not (pt_val (pc M hr (pa_cons (pv 0) (pa_cons (pv 1) pa_nil))))) (pss_one ps_never) pss_nil), ?_⟩
  exact ⟨_, rfl, _, rfl, n, a, xs, ts, rfl, g, fun H' s' => ⟨true, rfl, iteF (q H' s')⟩⟩

noncomputable def flat (t : Tie) : Tie := (if t.2 < t.1 then t.2 else t.1, if t.2 > t.1 then t.2 else t.1)
theorem flat_ok {n : Int} {t : Tie} (h : OkT n t) : OkT n (flat t) ∧ (flat t).1 < (flat t).2 := by
  obtain ⟨a, b⟩ := t
  obtain ⟨h1, h2, h3, h4, h5⟩ := h
  simp only at h1 h2 h3 h4 h5
  unfold OkT flat
  simp only
  refine ⟨⟨?_, ?_, ?_, ?_, ?_⟩, ?_⟩ <;> (repeat' split) <;> omega
theorem ok_nice {n : Int} {t : Tie} (h : OkT n t) (h16 : n ≤ 16) : Nice t := by
  obtain ⟨h1, h2, h3, h4, h5⟩ := h
  exact ⟨h3, by omega⟩
noncomputable abbrev Rise (ts : List Tie) : Prop := ts.Pairwise fun a b => tcode a ≤ tcode b
structure Told (H : Hp) (r : Addr) (n : Int) (us : List Tie) : Prop where
  ex : ∃ t ws, H r = some (.tup [.int n, .ref t]) ∧ H t = some (.tup ws) ∧ Prs H ws us
theorem Told.same {H H' : Hp} {r : Addr} {n : Int} {us : List Tie} (T : Told H r n us) (s : Same H H') : Told H' r n us :=
  let ⟨t, ws, a, b, c⟩ := T.ex; ⟨t, ws, s _ _ a, s _ _ b, Prs.same s c⟩
noncomputable def spWeb (fl : Tie → Tie) : Sp := fun vs H Q _ => ∃ n a xs ts, vs = [.int n, .ref a] ∧ Given H n a xs ts ∧ ∀ r us H', Same H H' → Told H' r n us → us.Perm (ts.map fl) → Rise us → Q (.ref r) H'
theorem sc11 : FnScope ["n", "ties"] ["n", "ties"] (defScope (top 22)) := ⟨rfl, rfl, rfl, by decide +kernel, rfl, by decide +kernel, by decide +kernel⟩
theorem web_end {H H2 : Hp} {n : Int} {ts : List Tie} {fl : Tie → Tie} {Q : VK} {p : Addr} {ys : List V} (s2 : Same H H2) (hp : H2 p = some (.lst ys)) (pr : Prs H2 ys (ts.map fl)) (hn : ∀ t ∈ ts.map fl, Nice t) (hl : ts.length ≤ 40)
    (q : ∀ r us H', Same H H' → Told H' r n us → us.Perm (ts.map fl) → Rise us → Q (.ref r) H') :
    ∃ (p' : Addr) (vs : List V) (ts' : List Tie), [V.ref p] = [.ref p'] ∧ (SqL K H2 p' vs ∨ SqT K H2 p' vs) ∧ Prs H2 vs ts' ∧ (∀ t ∈ ts', Nice t) ∧ ts'.length < 64 ∧
      ∀ l ws us, H2 l = none → Prs H2 ws us → us.Perm ts' → us.Pairwise (fun a b => tcode a ≤ tcode b) →
        ∃ p'' ys', [V.ref l] = [.ref p''] ∧ ((SqL K (upd H2 l (.lst ws)) p'' ys' ∧ ∀ l', upd H2 l (.lst ws) l' = none → [V.int n, V.ref l'].length ≤ sizeLine ∧ ∀ r, upd (upd H2 l (.lst ws)) l' (.tup ys') r = none → Q (.ref r) (upd (upd (upd H2 l (.lst ws)) l' (.tup ys')) r (.tup [V.int n, V.ref l']))) ∨
          (SqT K (upd H2 l (.lst ws)) p'' ys' ∧ [V.int n, V.ref p''].length ≤ sizeLine ∧ ∀ r, upd H2 l (.lst ws) r = none → Q (.ref r) (upd (upd H2 l (.lst ws)) r (.tup [V.int n, V.ref p''])))) := by
  refine ⟨p, ys, _, rfl, .inl (SqL.of hp), pr, hn, (by rw [List.length_map]; omega), fun l ws us hl' pr' hperm hr => ?_⟩
  refine ⟨l, ws, rfl, .inl ⟨SqL.of upd_same, fun t ht => ⟨(by show 2 ≤ sizeLine; decide), fun r hr' => ?_⟩⟩⟩
  have a1 := same_new hl' (.lst ws)
  have a2 := same_new ht (.tup ws)
  have a3 := same_new hr' (.tup [V.int n, V.ref t])
  exact q r us _ (s2.trans (a1.trans (a2.trans a3))) ⟨t, ws, upd_same, a3 _ _ upd_same, Prs.same (a1.trans (a2.trans a3)) pr'⟩ hperm hr
theorem ok_web (F : Fun K "web_of" "web_of" (top 22) f fd) (B : Bn mg) (C : Cal P w K mg base 5 "check_makes_web" ["n", "ties"] spCheck) : FnOk P w K mg base CX0 6 f fd ["n", "ties"] (spWeb flat) := by
  refine F.ok sc11 (fun vs H Q E h => ?_) (fun cdv A outer s H vs Q E hr h => ?_)
  · obtain ⟨n, a, xs, ts, rfl, _⟩ := h
    rfl
  obtain ⟨n, a, xs, ts, rfl, g, q⟩ := h
  refine ⟨_, pss_cons (ps_expr (pc C hr (pa_cons (pv 0) (pa_cons (pv 1) pa_nil)))) (pss_one (ps_ret (pe_tup (pa_cons (pv 0) (pa_cons (pe_callTy call_tuple_of rfl B.tuple boot_tuple (pa_cons (pe_callB call_sortedP rfl B.sorted boot_sorted (pa_cons
    (pe_lc ["tie"] rfl (pi_seq (pv 1)) (fun c => pg_name (i := 0) nd_tie9 rfl (Or.inl rfl)) (fun c => pts_nil)
      (fun c => pe_tup (pa_cons (pe_callB (call_minT rfl) rfl B.min boot_min (pa_cons (pv 0) pa_nil)) (pa_cons (pe_callB (call_maxT rfl) rfl B.max boot_max (pa_cons (pv 0) pa_nil)) pa_nil)))) pa_nil)) pa_nil)) pa_nil))))), ?_⟩
  refine ⟨_, rfl, _, rfl, n, a, xs, ts, rfl, g, fun H1 s1 => ?_⟩
  have g1 := g.same s1
  have hlen := g.prs.length
  have hL := g.len
  refine ⟨_, rfl, _, rfl, a, rfl, lc_seq (xs := xs) (by omega) (fun i ys H' => Same H1 H' ∧ Prs H' ys ((ts.take i).map flat) ∧ i ≤ xs.length) ⟨Same.refl _, .nil, Nat.zero_le _⟩ ?_ ?_ ?_ ?_⟩
  · exact g1.seq.elim (fun h => .inl fun i ys H' z => SqL.of (z.1 _ _ h)) fun h => .inr fun i ys H' z => SqT.of (z.1 _ _ h)
  · intro i ys H' z
    have e := z.2.1.length
    rw [List.length_map, List.length_take] at e
    omega
  · intro c i x ys H' hx z
    obtain ⟨z1, z2, z3⟩ := z
    obtain ⟨t, ht, p, rfl, hp⟩ := pgetL g1.prs hx
    have hp' := z1 _ _ hp
    refine iteT (B := True) ⟨_, rfl, p, _, _, rfl, SqT.of hp', _, rfl, p, _, _, rfl, SqT.of hp', (by show 2 ≤ sizeLine; decide), fun r hr' => ?_⟩
    have a1 := same_new hr' (.tup [V.int (if t.2 < t.1 then t.2 else t.1), V.int (if t.2 > t.1 then t.2 else t.1)])
    refine ⟨z1.trans a1, ?_, ?_⟩
    · rw [List.take_add_one, ht, List.map_append]
      exact (Prs.same a1 z2).snoc ⟨r, rfl, upd_same⟩
    · have := (List.getElem?_eq_some_iff.mp hx).1
      omega
  · intro ys H' z p hp
    obtain ⟨z1, z2, z3⟩ := z
    have e : ts.take xs.length = ts := List.take_of_length_le (by omega)
    rw [e] at z2
    have a1 := same_new hp (.lst ys)
    refine web_end (fl := flat) (ts := ts) (s1.trans (z1.trans a1)) upd_same (Prs.same a1 z2) (fun t ht => ?_) g.len q
    obtain ⟨t', ht', rfl⟩ := List.mem_map.mp ht
    exact ok_nice (flat_ok (g.ok t' ht')).1 g.n16
end
end Nf

set_option Elab.async false
set_option linter.all false
set_option maxRecDepth 100000
namespace Nf
open PySem L2 PyProof.Rows
structure WebOk (H : Hp) (r : Addr) (n : Int) (us : List Tie) : Prop where
  told : Told H r n us
  n1 : 1 ≤ n
  n16 : n ≤ 16
  len : us.length ≤ 40
  ok : ∀ t ∈ us, OkT n t
  rise : Rise us
section
variable {P : Program} {w : World} {K : PySem.W.Frag} {mg : Str → Option Value} {base : Heap} {f : Addr} {fd : FuncData}
theorem at0 (x y : V) : atI [x, y] (0 : Int) = some x := atI_nat (j := 0) rfl
theorem at1 (x y : V) : atI [x, y] (1 : Int) = some y := atI_nat (j := 1) rfl
end
end Nf

set_option Elab.async false
set_option linter.all false
set_option maxRecDepth 100000
namespace Nf
open PySem L2 PyProof.Rows
noncomputable def SqF (K : PySem.W.Frag) (H : Hp) (a : Addr) (ns : List Int) : Prop := (∃ o, H a = some (.frz o (.lst (ns.map V.int)))) ∨
  ∃ (o : Obj) (its : Array Value) (n : Nat), K.lookup a = some o ∧ o.cls = .type "list" ∧ o.dict = none ∧ o.data = .seq its n ∧ its.size ≤ sizeLine ∧ Vals (ns.map V.int) its.toList
theorem SqF.sq {K : PySem.W.Frag} {H : Hp} {a : Addr} {ns : List Int} (h : SqF K H a ns) : SqL K H a (ns.map V.int) := h.elim (fun h => .inl (.inr h)) fun h => .inr h
theorem SqF.keep {K : PySem.W.Frag} {H H' : Hp} {a p : Addr} {ns : List Int} {xs : List V} (h : SqF K H a ns) (hp : H p = some (.lst xs)) (k : ∀ b o, H b = some o → b ≠ p → H' b = some o) : SqF K H' a ns := by
  rcases h with ⟨o, h⟩ | h
  · exact .inl ⟨o, k _ _ h (ne_of h hp (by intro z; cases z))⟩
  · exact .inr h
noncomputable def PenAt (K : PySem.W.Frag) (H : Hp) (p : Addr) : Prop := ∃ (sc : Addr) (i l : Int) (ns : List Int), H p = some (.lst [.ref sc, .int i, .int l]) ∧ SqF K H sc ns
theorem PenAt.isl {K : PySem.W.Frag} {H : Hp} {p : Addr} (h : PenAt K H p) : ∃ xs, H p = some (.lst xs) := let ⟨_, _, _, _, a, _⟩ := h; ⟨_, a⟩
theorem PenAt.same {K : PySem.W.Frag} {H H' : Hp} {p : Addr} (h : PenAt K H p) (s : Same H H') : PenAt K H' p := by
  obtain ⟨sc, i, l, ns, a, c⟩ := h
  exact ⟨sc, i, l, ns, s _ _ a, c.keep a fun b o e _ => s b o e⟩
theorem PenAt.wr {K : PySem.W.Frag} {H : Hp} {p q : Addr} {xs : List V} {o : HO} (h : PenAt K H p) (hq : H q = some (.lst xs)) (hne : q ≠ p) : PenAt K (upd H q o) p := by
  obtain ⟨sc, i, l, ns, a, c⟩ := h
  exact ⟨sc, i, l, ns, by rw [upd_ne (Ne.symm hne)]; exact a, c.keep hq fun b o e n => by rw [upd_ne n]; exact e⟩
structure Kp (K : PySem.W.Frag) (p : Addr) (H H' : Hp) : Prop where
  keep : ∀ b o, H b = some o → b ≠ p → H' b = some o
  pen : PenAt K H' p
theorem Kp.trans {K : PySem.W.Frag} {p : Addr} {H H1 H2 : Hp} (a : Kp K p H H1) (b : Kp K p H1 H2) : Kp K p H H2 := ⟨fun c o e n => b.keep c o (a.keep c o e n) n, b.pen⟩
theorem Kp.of {K : PySem.W.Frag} {H H' : Hp} {p : Addr} (h : PenAt K H p) (s : Same H H') : Kp K p H H' := ⟨fun b o e _ => s b o e, h.same s⟩
theorem Kp.refl {K : PySem.W.Frag} {H : Hp} {p : Addr} (h : PenAt K H p) : Kp K p H H := Kp.of h (Same.refl _)
theorem Kp.more {K : PySem.W.Frag} {H H1 H2 : Hp} {p : Addr} (a : Kp K p H H1) (s : Same H1 H2) : Kp K p H H2 := a.trans (Kp.of a.pen s)
theorem Kp.wr {K : PySem.W.Frag} {H H1 : Hp} {p q : Addr} {xs : List V} {o : HO} (a : Kp K p H H1) (hn : H q = none) (hq : H1 q = some (.lst xs)) (hne : q ≠ p) : Kp K p H (upd H1 q o) :=
  ⟨fun b u e n => by rw [upd_ne (ne_of_none e hn)]; exact a.keep b u e n, a.pen.wr hq hne⟩
theorem Kp.tup {K : PySem.W.Frag} {H H' : Hp} {p a : Addr} {xs : List V} (k : Kp K p H H') (hp : PenAt K H p) (h : H a = some (.tup xs)) : H' a = some (.tup xs) :=
  k.keep _ _ h fun z => by
    obtain ⟨ys, e⟩ := hp.isl
    rw [z, e] at h
    cases h
theorem Kp.prs {K : PySem.W.Frag} {H H' : Hp} {p : Addr} (k : Kp K p H H') (hp : PenAt K H p) {vs : List V} {ts : List Tie} (h : Prs H vs ts) : Prs H' vs ts :=
  Paired.mapP h fun _ _ ⟨q, e, z⟩ => ⟨q, e, k.tup hp z⟩
theorem prs_wr {H : Hp} {q : Addr} {xs : List V} {o : HO} (hq : H q = some (.lst xs)) {vs : List V} {ts : List Tie} (h : Prs H vs ts) : Prs (upd H q o) vs ts :=
  Paired.mapP h fun _ _ ⟨r, e, z⟩ => ⟨r, e, by rw [upd_ne (ne_of z hq (by intro y; cases y))]; exact z⟩
noncomputable def spPen (K : PySem.W.Frag) : Sp := fun vs H Q _ => ∃ (sc : Addr) (ns : List Int), vs = [.ref sc] ∧ SqF K H sc ns ∧ ∀ p H', Same H H' → PenAt K H' p → H p = none → Q (.ref p) H'
noncomputable def spTake (K : PySem.W.Frag) : Sp := fun vs H Q _ => ∃ (p : Addr) (m : Int), vs = [.ref p, .int m] ∧ 0 < m ∧ m < 1073741824 ∧ PenAt K H p ∧ ∀ r H', 0 ≤ r → r < m → Kp K p H H' → Q (.int r) H'
section
variable {P : Program} {w : World} {K : PySem.W.Frag} {mg : Str → Option Value} {base : Heap} {f : Addr} {fd : FuncData}
theorem sc16 : FnScope ["_law_script"] ["_law_script"] (defScope (top 32)) := ⟨rfl, rfl, rfl, by decide +kernel, rfl, by decide +kernel, by decide +kernel⟩
theorem ok_pen (F : Fun K "_law_pen" "_law_pen" (top 32) f fd) : FnOk P w K mg base CX0 1 f fd ["_law_script"] (spPen K) := by
  refine F.ok sc16 (fun vs H Q E h => ?_) (fun cdv A outer s H vs Q E hr h => ?_)
  · obtain ⟨sc, ns, rfl, _⟩ := h
    rfl
  obtain ⟨sc, ns, rfl, hS, q⟩ := h
  refine ⟨_, pss_one (ps_ret (pe_lst (pa_cons (pv 0) (pa_cons pe_int (pa_cons pe_int pa_nil))))), ?_⟩
  refine ⟨_, rfl, (by show 3 ≤ sizeLine; decide), fun p hp => ?_⟩
  have a1 := same_new hp (.lst [V.ref sc, V.int 0, V.int 0])
  refine q p _ a1 ⟨sc, 0, 0, ns, upd_same, ?_⟩ hp
  rcases hS with ⟨o, h⟩ | h
  · exact .inl ⟨o, a1 _ _ h⟩
  · exact .inr h
theorem sc17 : FnScope ["_law_pen_here", "_law_many", "_law_script", "_law_at", "_law_left", "_law_cell", "_law_mixed"] ["_law_pen_here", "_law_many"] (defScope (top 33)) := ⟨rfl, rfl, rfl, by decide +kernel, rfl, by decide +kernel, by decide +kernel⟩
theorem emod_ix {i : Int} {ns : List Int} (h : (0 : Int) < ((ns.map V.int).length : Nat)) : ∃ v : Int, atI (ns.map V.int) (i % (((ns.map V.int).length : Nat) : Int)) = some (.int v) := by
  rw [List.length_map] at h ⊢
  have h1 := Int.emod_nonneg i (b := (ns.length : Int)) (by omega)
  have h2 := Int.emod_lt_of_pos i h
  have hk : (i % (ns.length : Int)).toNat < ns.length := by omega
  have ek : i % (ns.length : Int) = (((i % (ns.length : Int)).toNat : Nat) : Int) := by omega
  have q : atI (ns.map V.int) (((i % (ns.length : Int)).toNat : Nat) : Int) = some (.int ns[(i % (ns.length : Int)).toNat]) := atI_nat (by rw [List.getElem?_map, List.getElem?_eq_getElem hk]; rfl)
  rw [← ek] at q
  exact ⟨_, q⟩
theorem PSs.wk {X : Cx} {ss : List Stmt} {t t' : TS} (h : PSs X ss t) (w : ∀ D σ H, t' D σ H → t D σ H) : PSs X ss t' := fun pins s σ H D I q => h pins s σ H D I (w D σ H q)
noncomputable def tMix : TS := fun D σ H => ∃ (a0 a2 a4 a6 : Option V) (m i cell : Int), σ = [a0, some (.int m), a2, some (.int i), a4, some (.int cell), a6] ∧ 0 < m ∧ ∀ r, 0 ≤ r → r < m → D.rt (.int r) H
noncomputable def tLast (p : Addr) : TS := fun D σ H => ∃ (a2 a3 a5 a6 : Option V) (m l : Int) (sc : Addr) (i' l0 : Int), σ = [some (.ref p), some (.int m), a2, a3, some (.int l), a5, a6] ∧ 0 < m ∧ m < 1073741824 ∧ H p = some (.lst [.ref sc, .int i', .int l0]) ∧
  D.rt (.int (l % m)) (upd H p (.lst [.ref sc, .int i', .int (l / m)]))
theorem mod_small {x m : Int} (hm : 0 < m) (hb : m ≤ 2 ^ 32) : -(2 ^ 64) < x % m ∧ x % m < 2 ^ 64 := by
  have h1 := Int.emod_nonneg x (b := m) (by omega)
  have h2 := Int.emod_lt_of_pos x hm
  omega
theorem ok_take (F : Fun K "_law_take" "_law_take" (top 33) f fd) (B : Bn mg) : FnOk P w K mg base CX0 1 f fd ["_law_pen_here", "_law_many"] (spTake K) := by
  refine F.ok sc17 (fun vs H Q E h => ?_) (fun cdv A outer s H vs Q E hr h => ?_)
  · obtain ⟨p, m, rfl, _⟩ := h
    rfl
  obtain ⟨p, m, rfl, h0, h30, ⟨sc, i, l, ns, hp, hS⟩, q⟩ := h
  have nd := sc17.nd
  refine ⟨_, pss_cons (ps_asg (pv 0) (pg_lst rfl (pgs_cons (pg_name (i := 2) nd rfl (Or.inl rfl)) (pgs_cons (pg_name (i := 3) nd rfl (Or.inl rfl)) (pgs_cons (pg_name (i := 4) nd rfl (Or.inl rfl)) pgs_nil)))))
    (pss_cons (ps_if (pt_cmpR op_eq (pv 4) pe_int (nomark _))
      (pss_cons (ps_asg (pe_op op_add (pv 3) pe_int) (pg_sub (pv 0) pe_int set_list))
      (pss_cons (ps_set (i := 5) nd rfl (Or.inl rfl) pe_int)
      (pss_cons (ps_if (pt_cmpR op_gt (pe_callB call_len_seq rfl B.len PySem.boot_len (pa_cons (pv 2) pa_nil)) pe_int (nomark _))
        (pss_one (ps_set (i := 5) nd rfl (Or.inl rfl) (pe_callB call_abs rfl B.abs boot_abs (pa_cons (pe_ix ix_list (pv 2) (pe_op op_mod (pv 3) (pe_callB call_len_seq rfl B.len PySem.boot_len (pa_cons (pv 2) pa_nil))) (fun _ _ => rfl)) pa_nil)))) pss_nil)
      (pss_cons (ps_if (PW.pt (pw_or (pt_cmpR op_ge (pv 3) (pe_callB call_len_seq rfl B.len PySem.boot_len (pa_cons (pv 2) pa_nil)) (nomark _)) (pw_or1 (pt_cmpR op_lt (pv 5) (pe_op op_pow pe_int pe_int) (nomark _)))))
        (PSs.wk (t' := tMix) (pss_cons (ps_set (i := 6) nd rfl (Or.inl rfl) (pe_op op_mod (pe_op op_mul (pe_op op_add (pe_op op_add (pe_op op_mod (pv 5) pe_int) (pe_op op_mul pe_int (pv 3))) pe_int) pe_int) pe_int))
        (pss_cons (ps_set (i := 6) nd rfl (Or.inl rfl) (pe_op op_mod (pe_op op_add (pe_op op_add (pe_op op_mul (pv 6) (pv 6)) (pe_op op_mul pe_int (pv 6))) (pv 3)) pe_int))
        (pss_one (ps_ret (pe_op op_mod (pe_op op_fdiv (pe_op op_mod (pe_op op_add (pe_op op_mul (pv 6) (pe_op op_add (pe_op op_mod (pv 6) pe_int) pe_int)) (pv 3)) pe_int) pe_int) (pv 1)))))) ?mix) pss_nil)
      (pss_one (ps_set (i := 4) nd rfl (Or.inl rfl) (pv 5))))))) pss_nil)
    (PSs.wk (t' := tLast p) (pss_cons (ps_asg (pe_op op_fdiv (pv 4) (pv 1)) (pg_sub (pv 0) pe_int set_list))
    (pss_one (ps_ret (pe_op op_mod (pv 4) (pv 1))))) ?last)), ?_⟩
  case mix =>
    rintro D σ H' ⟨a0, a2, a4, a6, m, i, cell, rfl, hm, hq⟩
    refine ⟨_, rfl, _, _, rfl, rfl, (by show (0 : Int) < 2147483563; decide), _, rfl, _, _, rfl, rfl, .inl ⟨by decide, by decide⟩, _, _, rfl, rfl, _, _, rfl, rfl, _, _, rfl, rfl, .inr ⟨by decide, by decide⟩, _, _, rfl, rfl, (by show (0 : Int) < 2147483647; decide), ?_⟩
    refine ⟨_, rfl, _, rfl, _, _, rfl, rfl, .inl (mod_small (by decide) (by decide)), _, rfl, _, _, rfl, rfl, .inl ⟨by decide, by decide⟩, _, _, rfl, rfl, _, rfl, _, _, rfl, rfl, _, _, rfl, rfl, (by show (0 : Int) < 2147483587; decide), ?_⟩
    refine ⟨_, rfl, _, rfl, _, _, rfl, rfl, (by show (0 : Int) < 65521; decide), _, _, rfl, rfl, _, _, rfl, rfl, .inl (mod_small (by decide) (by decide)), _, rfl, _, _, rfl, rfl, _, _, rfl, rfl, (by show (0 : Int) < 2147483629; decide), _, _, rfl, rfl, ⟨by decide, by decide⟩, _, rfl, _, _, rfl, rfl, hm, ?_⟩
    exact hq _ (Int.emod_nonneg _ (by omega)) (Int.emod_lt_of_pos _ hm)
  case last =>
    rintro D σ H' ⟨a2, a3, a5, a6, m, l, sc, i', l0, rfl, hm, hm2, hp', hq⟩
    exact ⟨_, rfl, _, rfl, _, _, rfl, rfl, ⟨hm, hm2⟩, _, rfl, p, _, _, _, rfl, rfl, hp', rfl, _, rfl, _, rfl, _, _, rfl, rfl, hm, hq⟩
  have ok3 : ∀ (H1 : Hp) (a b : Int), H1 p = some (.lst [V.ref sc, V.int a, V.int b]) → (∀ b o, H b = some o → b ≠ p → H1 b = some o) → Kp K p H H1 := fun H1 a b e k => ⟨k, sc, a, b, ns, e, hS.keep hp k⟩
  have kU : ∀ (H1 : Hp) (o : HO), (∀ b o, H b = some o → b ≠ p → H1 b = some o) → ∀ b u, H b = some u → b ≠ p → upd H1 p o b = some u := fun H1 o k b u e n => by rw [upd_ne n]; exact k b u e n
  refine ⟨_, rfl, p, _, rfl, SqL.of hp, rfl, _, _, rfl, _, _, rfl, _, _, rfl, rfl, ?_⟩
  refine ⟨_, rfl, rfl, _, rfl, ite2 (fun c => ?_) (fun c => ?_)⟩
  · -- a new cell
    refine ⟨_, rfl, _, _, rfl, rfl, _, rfl, p, _, _, _, rfl, rfl, hp, rfl, ?_⟩
    have hp1 : upd H p (.lst ([V.ref sc, V.int i, V.int l].set 1 (V.int (i + 1)))) p = some (.lst [V.ref sc, V.int (i + 1), V.int l]) := upd_same
    have k1 := kU H (.lst ([V.ref sc, V.int i, V.int l].set 1 (V.int (i + 1)))) fun b o e _ => e
    have hS1 : SqL K (upd H p (.lst ([V.ref sc, V.int i, V.int l].set 1 (V.int (i + 1))))) sc (ns.map V.int) := (hS.keep hp k1).sq
    have K1 := ok3 _ _ _ hp1 k1
    refine ⟨_, rfl, sc, _, rfl, .inl hS1, _, _, rfl, rfl, _, rfl, ite2 (fun c1 => (emod_ix (i := i) (ns := ns) (of_decide_eq_true c1)).elim fun v hv => ⟨_, rfl, _, rfl, _, rfl, sc, _, rfl, .inl hS1, _, _, rfl, rfl, of_decide_eq_true c1, sc, _, _, _, rfl, rfl, hS1, hv, v, rfl, ?_⟩) (fun c1 => ?_)⟩
    all_goals
      refine ⟨_, rfl, _, rfl, sc, _, rfl, .inl hS1, _, _, rfl, rfl, _, rfl, ite2 (fun c2 => iteT ?_) (fun c2 => ?_)⟩
      · exact ⟨_, _, _, _, m, i, _, rfl, h0, fun r a b => q r _ a b K1⟩
      · refine ⟨_, rfl, _, _, rfl, rfl, ⟨by decide, by decide, by decide⟩, _, _, rfl, rfl, _, rfl, ite2 (fun c3 => ?_) (fun c3 => ?_)⟩
        · exact ⟨_, _, _, _, m, i, _, rfl, h0, fun r a b => q r _ a b K1⟩
        · refine ⟨_, rfl, ?_⟩
          exact ⟨_, _, _, _, m, _, sc, i + 1, l, rfl, h0, h30, hp1, q _ _ (Int.emod_nonneg _ (by omega)) (Int.emod_lt_of_pos _ h0) (ok3 _ _ _ upd_same (kU _ _ k1))⟩
  · exact ⟨_, _, _, _, m, l, sc, i, l, rfl, h0, h30, hp, q _ _ (Int.emod_nonneg _ (by omega)) (Int.emod_lt_of_pos _ h0) (ok3 _ _ _ upd_same (kU _ _ fun b o e _ => e))⟩
end
end Nf

set_option Elab.async false
set_option linter.all false
set_option maxRecDepth 100000
namespace Nf
open PySem L2 PyProof.Rows
structure LstT (H : Hp) (a : Addr) (n : Int) (ts : List Tie) : Prop where
  ex : ∃ xs, H a = some (.lst xs) ∧ Prs H xs ts
  ok : ∀ t ∈ ts, OkT n t
noncomputable def spOrder (K : PySem.W.Frag) : Sp := fun vs H Q _ => ∃ (p : Addr) (n : Int), vs = [.ref p, .int n] ∧ 1 ≤ n ∧ n ≤ 16 ∧ PenAt K H p ∧
  ∀ (a : Addr) (os : List Int) H', os.length = n.toNat → os.Nodup → (∀ x ∈ os, 0 ≤ x ∧ x < n) → H' a = some (.lst (os.map V.int)) → H a = none → Kp K p H H' → Q (.ref a) H'
noncomputable def Tells (K : PySem.W.Frag) (p : Addr) (n : Int) (b : Nat) (H : Hp) (Q : VK) : Prop := ∀ a ts H', LstT H' a n ts → ts.length ≤ b → H a = none → Kp K p H H' → Q (.ref a) H'
noncomputable def spAny (K : PySem.W.Frag) : Sp := fun vs H Q _ => ∃ (p : Addr) (n m : Int), vs = [.ref p, .int n, .int m] ∧ 1 ≤ n ∧ n ≤ 16 ∧ 0 ≤ m ∧ m ≤ 40 ∧ PenAt K H p ∧ Tells K p n m.toNat H Q
noncomputable def spRings (K : PySem.W.Frag) : Sp := fun vs H Q _ => ∃ (p : Addr) (n : Int), vs = [.ref p, .int n] ∧ 1 ≤ n ∧ n ≤ 16 ∧ PenAt K H p ∧ Tells K p n 30 H Q
section
variable {P : Program} {w : World} {K : PySem.W.Frag} {mg : Str → Option Value} {base : Heap} {f : Addr} {fd : FuncData}
theorem sc18 : FnScope ["_law_pen_here", "_law_n", "_law_left"] ["_law_pen_here", "_law_n"] (defScope (top 34)) := ⟨rfl, rfl, rfl, by decide +kernel, rfl, by decide +kernel, by decide +kernel⟩
theorem nd18 : (["_law_k", "_law_pen_here", "_law_n", "_law_left"] : List Str).Nodup := by decide +kernel
theorem rngL_map (n : Int) : rngL 0 n = ((List.range n.toNat).map fun i => ((i : Nat) : Int)).map V.int := by
  unfold rngL
  rw [List.map_map, Int.sub_zero]
  exact List.map_congr_left fun i _ => by simp
theorem seqIx {r : Int} {k : Nat} (h0 : 0 ≤ r) (h1 : r < k) : seqIndex? r k = some r.toNat := (ixN_seq (n := k) (i := r) (j := r.toNat) (by unfold ixN; rw [if_pos h0, if_pos h1])).1
theorem map_eraseIdx {α β : Type} (g : α → β) : ∀ (l : List α) (i : Nat), (l.map g).eraseIdx i = (l.eraseIdx i).map g
  | [], _ => by simp
  | _ :: _, 0 => by simp
  | x :: l, i + 1 => by simp [map_eraseIdx g l i]
theorem perm_pop {α : Type} : ∀ (l : List α) (i : Nat) (x : α), l[i]? = some x → (x :: l.eraseIdx i).Perm l
  | [], i, x, h => by simp at h
  | y :: l, 0, x, h => by simp at h; subst h; exact List.Perm.refl _
  | y :: l, i + 1, x, h => by
    have ih := perm_pop l i x (by simpa using h)
    exact (List.Perm.swap y x _).trans (ih.cons y)
theorem ok_order (F : Fun K "_law_order" "_law_order" (top 34) f fd) (B : Bn mg) (T : Cal P w K mg base 1 "_law_take" ["_law_pen_here", "_law_many"] (spTake K)) : FnOk P w K mg base CX0 2 f fd ["_law_pen_here", "_law_n"] (spOrder K) := by
  refine F.ok sc18 (fun vs H Q E h => ?_) (fun cdv A outer s H vs Q E hr h => ?_)
  · obtain ⟨p, n, rfl, _⟩ := h
    rfl
  obtain ⟨p, n, rfl, n1, n16, hp, q⟩ := h
  have nd := sc18.nd
  refine ⟨_, pss_cons (ps_set (i := 2) nd rfl (Or.inr rfl) (pe_callTy (call_list_rng rfl) rfl B.list boot_list (pa_cons (pe_callTy call_rng1 rfl B.range boot_range (pa_cons (pv 1) pa_nil)) pa_nil)))
    (pss_one (ps_ret (pe_lc ["_law_k"] rfl (pi_range1 rfl B.range (pa_cons (pv 1) pa_nil)) (fun c => pg_name (i := 0) nd18 rfl (Or.inl rfl)) (fun c => pts_nil)
      (fun c => pe_bm PySem.F.plainAttrs_list PySem.F.slot_list_pop PySem.F.type_list_pop mt_popAt (pv 3) (pa_cons (pc T hr (pa_cons (pv 1) (pa_cons (pe_callB call_len_seq rfl B.len PySem.boot_len (pa_cons (pv 3) pa_nil)) pa_nil))) pa_nil))))), ?_⟩
  refine ⟨_, rfl, n, rfl, fun r hr1 => ?_⟩
  refine ⟨r, 0, n, rfl, upd_same, ⟨by omega, by omega, by omega, by omega⟩, fun L hL => ?_⟩
  have a1 := same_new hr1 (.rng 0 n)
  have a2 := same_new hL (.lst (rngL 0 n))
  have hHL : H L = none := a1.free hL
  have hLp : L ≠ p := fun z => by
    obtain ⟨xs, e⟩ := hp.isl
    rw [z, e] at hHL
    cases hHL
  have k0 : Kp K p H (upd (upd H r (.rng 0 n)) L (.lst (rngL 0 n))) := Kp.of hp (a1.trans a2)
  refine ⟨_, rfl, n, rfl, by omega, by omega, lc_rng (lo := 0) (k := n.toNat) (by omega) (fun i ys H' => ∃ out rem : List Int, ys = out.map V.int ∧ H' L = some (.lst (rem.map V.int)) ∧ (out ++ rem).Perm ((List.range n.toNat).map fun i => ((i : Nat) : Int)) ∧ out.length = i ∧ Kp K p H H')
    ⟨[], _, rfl, by rw [upd_same, rngL_map], List.Perm.refl _, rfl, k0⟩ ?_ ?_ ?_⟩
  · rintro i ys H' ⟨out, rem, rfl, _, _, e, _⟩
    rw [List.length_map, e]
    exact Nat.le_refl _
  · rintro c i ys H' hi ⟨out, rem, rfl, hL', hperm, ho, k⟩
    have hlen : out.length + rem.length = n.toNat := by have := hperm.length_eq; simpa using this
    have hm : ((rem.map V.int).length : Int) = rem.length := by rw [List.length_map]
    refine iteT (B := True) ⟨_, rfl, .inl ⟨rfl, _, SqL.of hL'⟩, _, rfl, _, rfl, L, _, rfl, .inl (SqL.of hL'), p, _, rfl, by rw [hm]; omega, by rw [hm]; omega, k.pen, fun x H2 x0 x1 k2 => ?_⟩
    rw [hm] at x1
    have hL2 : H2 L = some (.lst (rem.map V.int)) := k2.keep _ _ hL' hLp
    have hx : x.toNat < rem.length := by omega
    refine ⟨L, _, x, x.toNat, .int rem[x.toNat], rfl, rfl, hL2, by omega, by omega, by rw [List.length_map]; exact seqIx x0 x1, by rw [List.getElem?_map, List.getElem?_eq_getElem hx]; rfl, ?_⟩
    refine ⟨out ++ [rem[x.toNat]], rem.eraseIdx x.toNat, by rw [List.map_append]; rfl, by rw [upd_same, map_eraseIdx], ?_, by rw [List.length_append, ho]; rfl, (k.trans k2).wr hHL hL2 hLp⟩
    rw [List.append_assoc]
    exact ((perm_pop rem x.toNat _ (List.getElem?_eq_getElem hx)).append_left out).trans hperm
  · rintro ys H' ⟨out, rem, rfl, hL', hperm, ho, k⟩ a ha
    have hlen : out.length + rem.length = n.toNat := by have := hperm.length_eq; simpa using this
    have hrem : rem = [] := List.eq_nil_of_length_eq_zero (by omega)
    subst hrem
    rw [List.append_nil] at hperm
    have hHa : H a = none := by
      cases e : H a with
      | none => rfl
      | some o =>
        by_cases z : a = p
        · obtain ⟨xs, e2⟩ := k.pen.isl
          rw [z, e2] at ha
          cases ha
        · rw [k.keep a o e z] at ha
          cases ha
    refine q a out _ ho ?_ (fun x hx => ?_) upd_same hHa (k.more (same_new ha _))
    · refine hperm.nodup_iff.mpr ?_
      exact (List.nodup_range (n := n.toNat)).map (fun i => ((i : Nat) : Int)) fun i j hij h => hij (by omega)
    · have := hperm.mem_iff.mp hx
      obtain ⟨i, hi, rfl⟩ := List.mem_map.mp this
      have := List.mem_range.mp hi
      omega

theorem Kp.none {H H' : Hp} {p a : Addr} (k : Kp K p H H') (ha : H' a = none) : H a = none := by
  cases e : H a with
  | none => rfl
  | some o =>
    by_cases z : a = p
    · obtain ⟨xs, e2⟩ := k.pen.isl
      rw [z, e2] at ha
      cases ha
    · rw [k.keep a o e z] at ha
      cases ha
theorem PenAt.ne {H : Hp} {p a : Addr} (hp : PenAt K H p) (ha : H a = none) : a ≠ p := fun z => by
  obtain ⟨xs, e⟩ := hp.isl
  rw [z, e] at ha
  cases ha
theorem sc19 : FnScope ["_law_pen_here", "_law_n", "_law_many", "_law_found", "_law_k", "_law_a"] ["_law_pen_here", "_law_n", "_law_many"] (defScope (top 35)) := ⟨rfl, rfl, rfl, by decide +kernel, rfl, by decide +kernel, by decide +kernel⟩
theorem any_ok {n a r : Int} (h0 : 0 ≤ a) (h1 : a < n) (r0 : 0 ≤ r) (r1 : r < n - 1) : OkT n (a, (a + 1 + r) % n) := by
  have hn : 0 < n := by omega
  have e0 := Int.emod_nonneg (a + 1 + r) (b := n) (by omega)
  have e1 := Int.emod_lt_of_pos (a + 1 + r) hn
  refine ⟨h0, h1, e0, e1, ?_⟩
  show a ≠ (a + 1 + r) % n
  by_cases h : a + 1 + r < n
  · rw [Int.emod_eq_of_lt (by omega) h]
    omega
  · have e : (a + 1 + r) % n = a + 1 + r - n := by
      rw [← Int.sub_emod_right]
      exact Int.emod_eq_of_lt (by omega) (by omega)
    rw [e]
    omega
theorem ok_any (F : Fun K "_law_any" "_law_any" (top 35) f fd) (B : Bn mg) (T : Cal P w K mg base 1 "_law_take" ["_law_pen_here", "_law_many"] (spTake K)) : FnOk P w K mg base CX0 2 f fd ["_law_pen_here", "_law_n", "_law_many"] (spAny K) := by
  refine F.ok sc19 (fun vs H Q E h => ?_) (fun cdv A outer s H vs Q E hr h => ?_)
  · obtain ⟨p, n, m, rfl, _⟩ := h
    rfl
  obtain ⟨p, n, m, rfl, n1, n16, m0, m40, hp, q⟩ := h
  have nd := sc19.nd
  refine ⟨_, pss_cons (ps_set (i := 3) nd rfl (Or.inl rfl) (pe_lst pa_nil))
    (pss_cons (ps_for PassesOwn.never rfl (pi_range1 rfl B.range (pa_cons (pe_op op_mul (pv 2) (pe_callTy call_int1 rfl B.int boot_int (pa_cons (pe_cmpR op_gt (pv 1) pe_int (nomark _)) pa_nil))) pa_nil)) (pg_name (i := 4) nd rfl (Or.inl rfl))
      (pss_cons (ps_set (i := 5) nd rfl (Or.inl rfl) (pc T hr (pa_cons (pv 0) (pa_cons (pv 1) pa_nil))))
      (pss_one (ps_expr (pe_bm PySem.F.plainAttrs_list PySem.F.slot_list_append PySem.F.type_list_append mt_append (pv 3) (pa_cons (pe_tup (pa_cons (pv 5) (pa_cons (pe_op op_mod (pe_op op_add (pe_op op_add (pv 5) pe_int) (pc T hr (pa_cons (pv 0) (pa_cons (pe_op op_sub (pv 1) pe_int) pa_nil)))) (pv 1)) pa_nil))) pa_nil))))))
    (pss_one (ps_ret (pv 3)))), ?_⟩
  refine ⟨(by show 0 ≤ sizeLine; decide), fun L hL => ?_⟩
  have a1 := same_new hL (.lst [])
  have hLp := hp.ne hL
  have h24 := sizeLine_eq
  -- how often
  obtain ⟨k, hk, hk1, hkm⟩ : ∃ k : Int, m * (if decide (n > 1) = true then (1 : Int) else 0) = k ∧ (0 < k → 1 < n) ∧ 0 ≤ k ∧ k ≤ m := by
    by_cases h : n > 1
    · rw [decide_eq_true h, if_pos rfl, Int.mul_one]
      exact ⟨m, rfl, fun _ => h, m0, Int.le_refl _⟩
    · rw [decide_eq_false h, if_neg Bool.false_ne_true, Int.mul_zero]
      exact ⟨0, rfl, fun z => absurd z (by omega), by omega, m0⟩
  refine ⟨_, rfl, _, rfl, _, _, rfl, rfl, .inr ⟨_, rfl, _, _, rfl, rfl, .inl ⟨by omega, by omega⟩, k, ?_, by omega, by omega, ?_⟩⟩
  · show [V.int (m * (if decide (n > 1) = true then (1 : Int) else 0))] = [V.int k]
    rw [hk]
  refine for_range (lo := 0) (n := k.toNat) (fun i σ H' => ∃ a4 a5 ts, σ = [some (.ref p), some (.int n), some (.int m), some (.ref L), a4, a5] ∧ LstT H' L n ts ∧ ts.length = i ∧ Kp K p H H')
    ⟨_, _, [], rfl, ⟨⟨[], upd_same, .nil⟩, fun t ht => nomatch ht⟩, rfl, Kp.of hp a1⟩ ?_ ?_
  · rintro i σ H' hi ⟨a4, a5, ts, rfl, ⟨⟨xs, hx, pr⟩, ok⟩, hl, kp⟩
    have hn := hk1 (by omega)
    refine ⟨_, rfl, _, rfl, p, n, rfl, by omega, by omega, kp.pen, fun a H1 c0 c1 k1 => ?_⟩
    have hx1 := k1.keep _ _ hx hLp
    have pr1 := k1.prs kp.pen pr
    refine ⟨_, rfl, .inl ⟨rfl, _, SqL.of hx1⟩, _, rfl, _, rfl, _, _, rfl, rfl, _, rfl, _, rfl, _, _, rfl, rfl, p, n - 1, rfl, by omega, by omega, k1.pen, fun r H2 r0 r1 k2 => ?_⟩
    have hx2 := k2.keep _ _ hx1 hLp
    have pr2 := k2.prs k1.pen pr1
    refine ⟨_, _, rfl, rfl, _, rfl, _, _, rfl, rfl, (by show 0 < n; omega), (by show 2 ≤ sizeLine; decide), fun t ht => ?_⟩
    have a3 := same_new ht (.tup [V.int a, V.int ((a + 1 + r) % n)])
    have hx3 := a3 _ _ hx2
    have kk := ((kp.trans k1).trans k2).more a3
    have hlen := pr.length
    refine ⟨L, xs, _, rfl, rfl, hx3, by omega, ?_⟩
    refine ⟨_, _, ts ++ [(a, (a + 1 + r) % n)], rfl, ⟨⟨_, upd_same, prs_wr hx3 ((Prs.same a3 pr2).snoc ⟨t, rfl, upd_same⟩)⟩, fun t' ht' => ?_⟩, by rw [List.length_append, hl]; rfl, kk.wr hL hx3 hLp⟩
    rcases List.mem_append.mp ht' with z | z
    · exact ok t' z
    · have e : t' = (a, (a + 1 + r) % n) := by simpa using z
      rw [e]
      exact any_ok c0 c1 r0 r1
  · rintro σ H' ⟨a4, a5, ts, rfl, lt, hl, kp⟩
    exact ⟨_, rfl, q L ts H' lt (by omega) hL kp⟩
end
end Nf

set_option Elab.async false
set_option linter.all false
set_option maxRecDepth 100000
namespace Nf
open PySem L2 PyProof.Rows
theorem LstT.same {H H' : Hp} {a : Addr} {n : Int} {ts : List Tie} (h : LstT H a n ts) (s : Same H H') : LstT H' a n ts := let ⟨⟨xs, e, pr⟩, ok⟩ := h; ⟨⟨xs, s _ _ e, Prs.same s pr⟩, ok⟩
theorem LstT.kp {K : PySem.W.Frag} {H H' : Hp} {p a : Addr} {n : Int} {ts : List Tie} (h : LstT H a n ts) (hp : PenAt K H p) (k : Kp K p H H') (hne : a ≠ p) : LstT H' a n ts := let ⟨⟨xs, e, pr⟩, ok⟩ := h; ⟨⟨xs, k.keep _ _ e hne, k.prs hp pr⟩, ok⟩
noncomputable def rowI (at' : Int) (d : Nat) : List Int := 0 :: ((List.range d).map (fun i => at' + ((i : Nat) : Int)) ++ [0])
theorem rowI_len (at' : Int) (d : Nat) : (rowI at' d).length = d + 2 := by unfold rowI; simp
theorem rowI_get (at' : Int) (d k : Nat) : (rowI at' d)[k + 1]? = if k < d then some (at' + k) else if k = d then some 0 else none := by
  unfold rowI
  rw [List.getElem?_cons_succ]
  by_cases h : k < d
  · rw [if_pos h, List.getElem?_append_left (by simpa using h), List.getElem?_map, List.getElem?_range h]
    rfl
  · rw [if_neg h, List.getElem?_append_right (by simpa using h)]
    by_cases h2 : k = d
    · rw [if_pos h2]; subst h2; simp
    · rw [if_neg h2]
      have : 1 ≤ k - d := by omega
      simp [List.getElem?_eq_none_iff]
      omega
theorem ring_ok {n at' : Int} {d k : Nat} (h1 : 1 ≤ at') (hd : 1 ≤ d) (hn : at' + d ≤ n) (hk : k < d + 1) : ∃ x y, (rowI at' d)[k]? = some x ∧ (rowI at' d)[k + 1]? = some y ∧ OkT n (x, y) := by
  rw [rowI_get]
  cases k with
  | zero =>
    refine ⟨0, at' + (0 : Nat), rfl, by rw [if_pos (by omega)], ?_⟩
    refine ⟨?_, ?_, ?_, ?_, ?_⟩ <;> simp only <;> omega
  | succ k =>
    rw [rowI_get, if_pos (by omega)]
    by_cases h : k + 1 < d
    · rw [if_pos h]
      refine ⟨_, _, rfl, rfl, ?_⟩
      refine ⟨?_, ?_, ?_, ?_, ?_⟩ <;> simp only <;> omega
    · rw [if_neg h, if_pos (by omega)]
      refine ⟨_, _, rfl, rfl, ?_⟩
      refine ⟨?_, ?_, ?_, ?_, ?_⟩ <;> simp only <;> omega
section
variable {P : Program} {w : World} {K : PySem.W.Frag} {mg : Str → Option Value} {base : Heap} {f : Addr} {fd : FuncData}
theorem sc20 : FnScope ["_law_pen_here", "_law_n", "_law_found", "_law_at", "_law_row"] ["_law_pen_here", "_law_n"] (defScope (top 36)) := ⟨rfl, rfl, rfl, by decide +kernel, rfl, by decide +kernel, by decide +kernel⟩
theorem nd20 : (["_law_k", "_law_pen_here", "_law_n", "_law_found", "_law_at", "_law_row"] : List Str).Nodup := by decide +kernel
theorem rng_row (at' : Int) (d : Nat) (hi : Int) (h : hi - at' = d) : ([V.int 0] ++ rngL at' hi) ++ [V.int 0] = (rowI at' d).map V.int := by
  unfold rngL rowI
  have e : (hi - at').toNat = d := by omega
  rw [e]
  simp
noncomputable def muR (n : Int) (σ : L2.St) : Nat := match (σ[3]? : Option (Option V)) with
  | some (some (V.int a)) => (n - a).toNat
  | _ => 0
theorem ok_rings (F : Fun K "_law_rings" "_law_rings" (top 36) f fd) (B : Bn mg) (T : Cal P w K mg base 1 "_law_take" ["_law_pen_here", "_law_many"] (spTake K)) : FnOk P w K mg base CX0 2 f fd ["_law_pen_here", "_law_n"] (spRings K) := by
  refine F.ok sc20 (fun vs H Q E h => ?_) (fun cdv A outer s H vs Q E hr h => ?_)
  · obtain ⟨p, n, rfl, _⟩ := h
    rfl
  obtain ⟨p, n, rfl, n1, n16, hp, q⟩ := h
  have nd := sc20.nd
  refine ⟨_, pss_cons (ps_set (i := 2) nd rfl (Or.inl rfl) (pe_lst pa_nil))
    (pss_cons (ps_set (i := 3) nd rfl (Or.inl rfl) pe_int)
    (pss_cons (ps_while PassesOwn.never (pt_cmpR op_lt (pv 3) (pv 1) (nomark _))
      (pss_cons (ps_set (i := 4) nd rfl (Or.inr rfl) (pe_op op_cat (pe_op op_cat (pe_lst (pa_cons pe_int pa_nil)) (pe_callTy (call_list_rng rfl) rfl B.list boot_list (pa_cons (pe_callTy call_rng2 rfl B.range boot_range (pa_cons (pv 3) (pa_cons
          (pe_callB (call_min2 rfl) rfl B.min boot_min (pa_cons (pv 1) (pa_cons (pe_op op_add (pe_op op_add (pv 3) pe_int) (pc T hr (pa_cons (pv 0) (pa_cons pe_int pa_nil)))) pa_nil))) pa_nil))) pa_nil))) (pe_lst (pa_cons pe_int pa_nil))))
      (pss_cons (ps_set (i := 2) nd rfl (Or.inl rfl) (pe_op op_cat (pv 2) (pe_lc ["_law_k"] rfl (pi_range1 rfl B.range (pa_cons (pe_op op_sub (pe_callB call_len_seq rfl B.len PySem.boot_len (pa_cons (pv 4) pa_nil)) pe_int) pa_nil)) (fun c => pg_name (i := 0) nd20 rfl (Or.inl rfl)) (fun c => pts_nil)
          (fun c => pe_tup (pa_cons (pe_ix ix_list (pv 5) (pv 0) (fun _ _ => rfl)) (pa_cons (pe_ix ix_list (pv 5) (pe_op op_add (pv 0) pe_int) (fun _ _ => rfl)) pa_nil))))))
      (pss_one (ps_set (i := 3) nd rfl (Or.inl rfl) (pe_op op_sub (pe_op op_add (pv 3) (pe_callB call_len_seq rfl B.len PySem.boot_len (pa_cons (pv 4) pa_nil))) pe_int))))))
    (pss_one (ps_ret (pv 2))))), ?_⟩
  have h24 := sizeLine_eq
  refine ⟨(by show 0 ≤ sizeLine; decide), fun L0 hL0 => ?_⟩
  refine while_by (fun σ H' => ∃ L at' ts a4, σ = [some (.ref p), some (.int n), some (.ref L), some (.int at'), a4] ∧ 1 ≤ at' ∧ at' ≤ n ∧ LstT H' L n ts ∧ (ts.length : Int) ≤ 2 * (at' - 1) ∧ H L = none ∧ Kp K p H H') (fun σ _ => muR n σ)
    ⟨L0, 1, [], _, rfl, Int.le_refl _, n1, ⟨⟨[], upd_same, .nil⟩, fun t ht => nomatch ht⟩, by simp, hL0, Kp.of hp (same_new hL0 _)⟩ ?_ ?_
  · rintro σ H' ⟨L, at', ts, a4, rfl, g1, g2, lt, hl, hHL, kp⟩
    refine ⟨_, rfl, _, rfl, _, _, rfl, rfl, _, rfl, ite2 (fun c => ?_) (fun c => ?_)⟩
    · have c' : at' < n := of_decide_eq_true c
      have hLp := hp.ne hHL
      refine ⟨(by show 1 ≤ sizeLine; decide), fun l0 hl0 => ?_⟩
      have b0 := same_new hl0 (.lst [V.int 0])
      have kp0 := kp.more b0
      have hl0p := kp.pen.ne hl0
      refine ⟨_, rfl, _, rfl, _, rfl, _, _, rfl, rfl, _, rfl, p, 4, rfl, by decide, by decide, kp0.pen, fun r H1 r0 r1 k1 => ?_⟩
      refine ⟨_, _, rfl, rfl, _, _, rfl, ?_⟩
      -- how far the ring goes
      obtain ⟨d, hd, hd1, hd2⟩ : ∃ d : Nat, (if at' + 1 + r < n then at' + 1 + r else n) - at' = d ∧ 1 ≤ d ∧ at' + d ≤ n := by
        refine ⟨((if at' + 1 + r < n then at' + 1 + r else n) - at').toNat, ?_, ?_, ?_⟩ <;> split <;> omega
      generalize hhi : (if at' + 1 + r < n then at' + 1 + r else n) = hi at hd
      refine ⟨_, _, rfl, fun rr hrr => ?_⟩
      have b1 := same_new hrr (.rng at' hi)
      refine ⟨rr, at', hi, rfl, upd_same, ⟨by omega, by omega, by omega, by omega⟩, fun l1 hl1 => ?_⟩
      have b2 := same_new hl1 (.lst (rngL at' hi))
      have e0 : H1 l0 = some (.lst [V.int 0]) := k1.keep _ _ upd_same hl0p
      have hlr : (rngL at' hi).length = d := by unfold rngL; rw [List.length_map, List.length_range]; omega
      refine ⟨l0, l1, _, _, rfl, rfl, (b1.trans b2) _ _ e0, upd_same, by rw [hlr, List.length_singleton]; omega, fun l2 hl2 => ?_⟩
      have b3 := same_new hl2 (.lst ([V.int 0] ++ rngL at' hi))
      refine ⟨(by show 1 ≤ sizeLine; decide), fun l3 hl3 => ?_⟩
      have b4 := same_new hl3 (.lst [V.int 0])
      refine ⟨l2, l3, _, _, rfl, rfl, b4 _ _ upd_same, upd_same, by rw [List.length_append, hlr, List.length_singleton]; omega, fun R hR => ?_⟩
      have b5 := same_new hR (.lst (([V.int 0] ++ rngL at' hi) ++ [V.int 0]))
      have sm := b1.trans (b2.trans (b3.trans (b4.trans b5)))
      generalize hH2 : upd (upd (upd (upd (upd H1 rr (.rng at' hi)) l1 (.lst (rngL at' hi))) l2 (.lst ([V.int 0] ++ rngL at' hi))) l3 (.lst [V.int 0])) R (.lst (([V.int 0] ++ rngL at' hi) ++ [V.int 0])) = H2 at sm b5
      have eR : H2 R = some (.lst ((rowI at' d).map V.int)) := by rw [← hH2, upd_same, rng_row at' d hi hd]
      have kp2 : Kp K p H H2 := (kp0.trans k1).more sm
      have lt2 : LstT H2 L n ts := (((lt.same b0).kp kp0.pen k1 hLp)).same sm
      have hrl : ((rowI at' d).map V.int).length = d + 2 := by rw [List.length_map, rowI_len]
      refine ⟨_, rfl, _, rfl, R, _, rfl, .inl (SqL.of eR), _, _, rfl, rfl, _, rfl, by rw [hrl]; omega, by rw [hrl]; omega, ?_⟩
      have ek : ((((rowI at' d).map V.int).length : Int) - 1).toNat = d + 1 := by rw [hrl]; omega
      rw [ek]
      refine lc_rng (lo := 0) (k := d + 1) (by omega) (fun i ys H' => ∃ us, Same H2 H' ∧ Prs H' ys us ∧ (∀ t ∈ us, OkT n t) ∧ us.length = i) ⟨[], Same.refl _, .nil, (fun t ht => nomatch ht), rfl⟩ ?_ ?_ ?_
      · rintro i ys H' ⟨us, _, pr, _, e⟩
        have := pr.length
        omega
      · rintro c i ys H3 hi3 ⟨us, s3, pr, ok, e⟩
        obtain ⟨x, y, ex, ey, oxy⟩ := ring_ok (n := n) g1 hd1 hd2 hi3
        have i0 : atI ((rowI at' d).map V.int) (0 + (i : Nat)) = some (.int x) := by
          rw [Int.zero_add]
          exact atI_nat (by rw [List.getElem?_map, ex]; rfl)
        have i1 : atI ((rowI at' d).map V.int) (0 + (i : Nat) + 1) = some (.int y) := by
          have e1 : (0 + (i : Int) + 1) = ((i + 1 : Nat) : Int) := by omega
          rw [e1]
          exact atI_nat (by rw [List.getElem?_map, ey]; rfl)
        have eR3 := s3 _ _ eR
        refine iteT (B := True) ⟨_, rfl, _, rfl, R, _, _, _, rfl, rfl, SqL.of eR3, i0, _, rfl, _, rfl, _, _, rfl, rfl, R, _, _, _, rfl, rfl, SqL.of eR3, i1, (by show 2 ≤ sizeLine; decide), fun t ht => ?_⟩
        have a3 := same_new ht (.tup [V.int x, V.int y])
        refine ⟨us ++ [(x, y)], s3.trans a3, (Prs.same a3 pr).snoc ⟨t, rfl, upd_same⟩, fun t' ht' => ?_, by rw [List.length_append, e]; rfl⟩
        rcases List.mem_append.mp ht' with z | z
        · exact ok t' z
        · have e : t' = (x, y) := by simpa using z
          rw [e]
          exact oxy
      · rintro ys H3 ⟨us, s3, pr, ok, e⟩ l4 hl4
        have b6 := same_new hl4 (.lst ys)
        obtain ⟨⟨xs, hx, prx⟩, okx⟩ := (lt2.same s3).same b6
        have lx := prx.length
        have ly := pr.length
        refine ⟨L, l4, xs, ys, rfl, rfl, hx, upd_same, by omega, fun l5 hl5 => ?_⟩
        have b7 := same_new hl5 (.lst (xs ++ ys))
        have sm4 := s3.trans (b6.trans b7)
        refine ⟨_, rfl, _, rfl, R, _, rfl, .inl (SqL.of (sm4 _ _ eR)), _, _, rfl, rfl, _, _, rfl, rfl, ?_⟩
        have ea : at' + (((rowI at' d).map V.int).length : Int) - 2 = at' + d := by rw [hrl]; omega
        refine ⟨⟨l5, at' + d, ts ++ us, some (.ref R), ?_, by omega, hd2, ⟨⟨xs ++ ys, upd_same, Prs.app (Prs.same b7 prx) (Prs.same (b6.trans b7) pr)⟩, fun t ht => ?_⟩, ?_, ?_, kp2.more sm4⟩, ?_⟩
        · show [some (V.ref p), some (V.int n), some (V.ref l5), some (V.int (at' + (((rowI at' d).map V.int).length : Int) - 2)), some (V.ref R)] = _
          rw [ea]
        · rcases List.mem_append.mp ht with z | z
          · exact okx t z
          · exact ok t z
        · rw [List.length_append]
          omega
        · exact ((kp2.more s3).more b6).none hl5
        · show muR n [some (.ref p), some (.int n), some (.ref l5), some (.int (at' + (((rowI at' d).map V.int).length : Int) - 2)), some (.ref R)] < (n - at').toNat
          rw [ea]
          show (n - (at' + d)).toNat < (n - at').toNat
          omega
    · have c' : ¬ at' < n := of_decide_eq_false (Bool.eq_false_iff.mpr c)
      exact ⟨_, rfl, q L ts H' lt (by omega) hHL kp⟩
  · intro σ H' Q1 Q2 hm h
    obtain ⟨v1, e1, v2, e2, i1, i2, e3, e4, k, e5, h⟩ := h
    exact ⟨v1, e1, v2, e2, i1, i2, e3, e4, k, e5, hm _ _ h⟩
end
end Nf

set_option Elab.async false
set_option linter.all false
set_option maxRecDepth 100000
namespace Nf
open PySem L2 PyProof.Rows
noncomputable def spShape (K : PySem.W.Frag) : Sp := fun vs H Q _ => ∃ (p : Addr) (n : Int), vs = [.ref p, .int n] ∧ 1 ≤ n ∧ n ≤ 16 ∧ PenAt K H p ∧ Tells K p n 32 H Q
noncomputable def PvT (K : PySem.W.Frag) (p : Addr) (n : Int) (Hs : Hp) : Nat → List V → Hp → Prop := fun i ys H' => ∃ us, Prs H' ys us ∧ (∀ t ∈ us, OkT n t) ∧ us.length ≤ i ∧ Kp K p Hs H'
section
variable {P : Program} {w : World} {K : PySem.W.Frag} {mg : Str → Option Value} {base : Heap} {f : Addr} {fd : FuncData}
theorem Tells.up {p : Addr} {n : Int} {b : Nat} {H H1 : Hp} {Q : VK} (q : Tells K p n b H Q) (k : Kp K p H H1) : Tells K p n b H1 Q := fun a ts H' lt hl hn k2 => q a ts H' lt hl (k.none hn) (k.trans k2)
theorem PvT.nil {p : Addr} {n : Int} {Hs : Hp} (h : PenAt K Hs p) : PvT K p n Hs 0 [] Hs := ⟨[], .nil, (fun t ht => nomatch ht), Nat.le_refl _, Kp.refl h⟩
theorem PvT.len {p : Addr} {n : Int} {Hs : Hp} (i : Nat) (ys : List V) (H' : Hp) (h : PvT K p n Hs i ys H') : ys.length ≤ i := by
  obtain ⟨us, pr, _, e, _⟩ := h
  have := pr.length
  omega
theorem PvT.skip {p : Addr} {n : Int} {Hs H1 H2 : Hp} {i : Nat} {ys : List V} (h : PvT K p n Hs i ys H1) (k : Kp K p H1 H2) : PvT K p n Hs (i + 1) ys H2 := by
  obtain ⟨us, pr, ok, e, kp⟩ := h
  exact ⟨us, k.prs kp.pen pr, ok, by omega, kp.trans k⟩
theorem PvT.push {p t : Addr} {n x y : Int} {Hs H1 H2 : Hp} {i : Nat} {ys : List V} (h : PvT K p n Hs i ys H1) (k : Kp K p H1 H2) (ht : H2 t = none) (o : OkT n (x, y)) : PvT K p n Hs (i + 1) (ys ++ [.ref t]) (upd H2 t (.tup [V.int x, V.int y])) := by
  obtain ⟨us, pr, ok, e, kp⟩ := h
  have a := same_new ht (.tup [V.int x, V.int y])
  refine ⟨us ++ [(x, y)], (Prs.same a (k.prs kp.pen pr)).snoc ⟨t, rfl, upd_same⟩, fun t' ht' => ?_, by rw [List.length_append]; simp; omega, (kp.trans k).more a⟩
  rcases List.mem_append.mp ht' with z | z
  · exact ok t' z
  · have e : t' = (x, y) := by simpa using z
    rw [e]; exact o
theorem PvT.put {p : Addr} {n : Int} {Hs H1 H2 : Hp} {i : Nat} {ys : List V} {v : V} {t : Tie} (h : PvT K p n Hs i ys H1) (k : Kp K p H1 H2) (hv : Pr H2 v t) (o : OkT n t) : PvT K p n Hs (i + 1) (ys ++ [v]) H2 := by
  obtain ⟨us, pr, ok, e, kp⟩ := h
  refine ⟨us ++ [t], (k.prs kp.pen pr).snoc hv, fun t' ht' => ?_, by rw [List.length_append]; simp; omega, kp.trans k⟩
  rcases List.mem_append.mp ht' with z | z
  · exact ok t' z
  · have e : t' = t := by simpa using z
    rw [e]; exact o
theorem sc21 : FnScope ["_law_pen_here", "_law_n", "_law_kind", "_law_found", "_law_cut"] ["_law_pen_here", "_law_n"] (defScope (top 37)) := ⟨rfl, rfl, rfl, by decide +kernel, rfl, by decide +kernel, by decide +kernel⟩
theorem nd21k : (["_law_k", "_law_pen_here", "_law_n", "_law_kind", "_law_found", "_law_cut"] : List Str).Nodup := by decide +kernel
theorem nd21t : (["_law_tie", "_law_pen_here", "_law_n", "_law_kind", "_law_found", "_law_cut"] : List Str).Nodup := by decide +kernel
noncomputable def tBr (K : PySem.W.Frag) (p : Addr) (n : Int) : TS := fun D σ H => ∃ (kd : Int) (a3 a4 : Option V), σ = [some (.ref p), some (.int n), some (.int kd), a3, a4] ∧ PenAt K H p ∧ Tells K p n 32 H D.rt
noncomputable def tBr5 (K : PySem.W.Frag) (p : Addr) (n : Int) : TS := fun D σ H => ∃ (kd : Int) (a3 a4 : Option V), σ = [some (.ref p), some (.int n), some (.int kd), a3, a4] ∧ (kd = 5 ∨ kd = 6) ∧ PenAt K H p ∧ Tells K p n 32 H D.rt
theorem ok_shape (F : Fun K "_law_shape" "_law_shape" (top 37) f fd) (B : Bn mg) (T : Cal P w K mg base 1 "_law_take" ["_law_pen_here", "_law_many"] (spTake K)) (Y : Cal P w K mg base 2 "_law_any" ["_law_pen_here", "_law_n", "_law_many"] (spAny K))
    (R : Cal P w K mg base 2 "_law_rings" ["_law_pen_here", "_law_n"] (spRings K)) : FnOk P w K mg base CX0 3 f fd ["_law_pen_here", "_law_n"] (spShape K) := by
  refine F.ok sc21 (fun vs H Q E h => ?_) (fun cdv A outer s H vs Q E hr h => ?_)
  · obtain ⟨p, n, rfl, _⟩ := h
    rfl
  obtain ⟨p, n, rfl, n1, n16, hp, q⟩ := h
  have nd := sc21.nd
  have h24 := sizeLine_eq
  refine ⟨_, pss_cons (ps_set (i := 2) nd rfl (Or.inr rfl) (pc T hr (pa_cons (pv 0) (pa_cons pe_int pa_nil))))
    (pss_cons (ps_if (PW.pt (pw_or (pt_cmpR op_eq (pv 2) pe_int (nomark _)) (pw_or1 (pt_cmpR op_eq (pv 2) pe_int (nomark _)))))
      (PSs.wk (t' := tBr K p n) (pss_cons (ps_lc ["_law_k"] (i := 3) rfl nd rfl (Or.inl rfl) (pi_range2 rfl B.range (pa_cons pe_int (pa_cons (pv 1) pa_nil))) (fun c => pg_name (i := 0) nd21k rfl (Or.inl rfl)) (fun c => pts_nil)
          (fun c => pe_tup (pa_cons (pc T hr (pa_cons (pv 1) (pa_cons (pv 0) pa_nil))) (pa_cons (pv 0) pa_nil))))
        (pss_one (ps_ret (pe_op op_cat (pv 3) (pe_lc ["_law_tie"] rfl (pi_list (pv 3)) (fun c => pg_name (i := 0) nd21t rfl (Or.inl rfl)) (fun c => pts_one (PW.pt (pw_and (pt_cmpR op_eq (pv 3) pe_int (nomark _)) (pw_and1 (pt_cmpR op_eq (pc T hr (pa_cons (pv 1) (pa_cons pe_int pa_nil))) pe_int (nomark _))))))
          (fun c => pv 0)))))) ?b0) pss_nil)
    (pss_cons (ps_if (pt_cmpR op_eq (pv 2) pe_int (nomark _))
      (PSs.wk (t' := tBr K p n) (pss_one (ps_ret (pe_lc ["_law_k"] rfl (pi_range2 rfl B.range (pa_cons pe_int (pa_cons (pv 1) pa_nil))) (fun c => pg_name (i := 0) nd21k rfl (Or.inl rfl)) (fun c => pts_nil)
          (fun c => pe_tup (pa_cons (pe_op op_sub (pv 0) pe_int) (pa_cons (pv 0) pa_nil)))))) ?b1) pss_nil)
    (pss_cons (ps_if (pt_cmpR op_eq (pv 2) pe_int (nomark _))
      (PSs.wk (t' := tBr K p n) (pss_cons (ps_set (i := 4) nd rfl (Or.inr rfl) (pe_op op_add pe_int (pc T hr (pa_cons (pv 0) (pa_cons (pv 1) pa_nil)))))
        (pss_cons (ps_set (i := 3) nd rfl (Or.inl rfl) (pe_op op_cat (pe_lc ["_law_k"] rfl (pi_range2 rfl B.range (pa_cons pe_int (pa_cons (pv 4) pa_nil))) (fun c => pg_name (i := 0) nd21k rfl (Or.inl rfl)) (fun c => pts_nil) (fun c => pe_tup (pa_cons (pe_op op_sub (pv 0) pe_int) (pa_cons (pv 0) pa_nil))))
          (pe_lc ["_law_k"] rfl (pi_range2 rfl B.range (pa_cons (pv 4) (pa_cons (pv 1) pa_nil))) (fun c => pg_name (i := 0) nd21k rfl (Or.inl rfl)) (fun c => pts_nil) (fun c => pe_tup (pa_cons (pc T hr (pa_cons (pv 1) (pa_cons (pv 0) pa_nil))) (pa_cons (pv 0) pa_nil))))))
        (pss_one (ps_ret (pe_op op_cat (pv 3) (pe_op op_rep (pe_lst (pa_cons (pe_tup (pa_cons (pe_op op_sub (pv 4) pe_int) (pa_cons pe_int pa_nil))) pa_nil)) (pe_callTy call_int1 rfl B.int boot_int (pa_cons (pe_cmpR op_gt (pv 4) pe_int (nomark _)) pa_nil)))))))) ?b2) pss_nil)
    (pss_cons (ps_if (pt_cmpR op_eq (pv 2) pe_int (nomark _)) (PSs.wk (t' := tBr K p n) (pss_one (ps_ret (pc R hr (pa_cons (pv 0) (pa_cons (pv 1) pa_nil))))) ?b3) pss_nil)
    (pss_cons (ps_if (pt_cmpR op_eq (pv 2) pe_int (nomark _))
      (PSs.wk (t' := tBr K p n) (pss_cons (ps_set (i := 4) nd rfl (Or.inr rfl) (pc T hr (pa_cons (pv 0) (pa_cons (pv 1) pa_nil))))
        (pss_one (ps_ret (pe_lc ["_law_k"] rfl (pi_range2 rfl B.range (pa_cons pe_int (pa_cons (pv 1) pa_nil))) (fun c => pg_name (i := 0) nd21k rfl (Or.inl rfl)) (fun c => pts_one (pt_cmpR op_ne (pv 0) (pv 5) (nomark _))) (fun c => pe_tup (pa_cons (pc T hr (pa_cons (pv 1) (pa_cons (pv 0) pa_nil))) (pa_cons (pv 0) pa_nil))))))) ?b4) pss_nil)
    (PSs.wk (t' := tBr5 K p n) (pss_one (ps_ret (pc Y hr (pa_cons (pv 0) (pa_cons (pv 1) (pa_cons (pe_ix ix_list (pe_lst (pa_cons (pc T hr (pa_cons (pv 0) (pa_cons pe_int pa_nil))) (pa_cons (pe_op op_mul pe_int (pv 1)) pa_nil))) (pe_op op_sub (pv 2) pe_int) (fun _ _ => rfl)) pa_nil)))))) ?b5)))))), ?_⟩
  case b0 =>
    rintro D σ H1 ⟨kd, a3, a4, rfl, hp1, q1⟩
    refine ⟨_, rfl, 1, n, rfl, ⟨by omega, by omega, by omega, by omega⟩, lc_rng (lo := 1) (k := (n - 1).toNat) (by omega) (PvT K p n H1) (PvT.nil hp1) PvT.len ?_ ?_⟩
    · intro c i ys H2 hi pv2
      obtain ⟨us, pr, ok, e, kp⟩ := id pv2
      refine iteT (B := True) ⟨_, rfl, _, rfl, p, _, rfl, by omega, by omega, kp.pen, fun r H3 r0 r1 k3 => ⟨_, rfl, (by show 2 ≤ sizeLine; decide), fun t ht => ?_⟩⟩
      exact pv2.push k3 ht ⟨by simp only; omega, by simp only; omega, by simp only; omega, by simp only; omega, by simp only; omega⟩
    · intro ys H2 pv2 L hL
      obtain ⟨us, pr, ok, e, kp⟩ := id pv2
      have b1 := same_new hL (.lst ys)
      have hLp := kp.pen.ne hL
      have kp2 := kp.more b1
      have hly := pr.length
      refine ⟨_, rfl, _, rfl, L, rfl, ⟨ys, SqL.of upd_same⟩, lc_list (xs := ys) (by omega) (fun i zs H3 => PvT K p n (upd H2 L (.lst ys)) i zs H3) (PvT.nil kp2.pen) ?_ PvT.len ?_ ?_⟩
      · intro i zs H3 pv3
        obtain ⟨_, _, _, _, k3⟩ := pv3
        exact SqL.of (k3.keep _ _ upd_same hLp)
      · intro c i x zs H3 hx pv3
        obtain ⟨us3, pr3, ok3, e3, k3⟩ := id pv3
        obtain ⟨t, ht, prt⟩ := pgetL (k3.prs kp2.pen (Prs.same b1 pr)) hx
        have okt := ok t (List.mem_of_getElem? ht)
        refine ⟨_, rfl, rfl, _, rfl, ite2 (fun c1 => ?_) (fun c1 => ?_)⟩
        · refine ⟨_, rfl, p, 2, rfl, by decide, by decide, k3.pen, fun r H4 r0 r1 k4 => ⟨rfl, _, rfl, ite2 (fun c2 => ?_) (fun c2 => ?_)⟩⟩
          · obtain ⟨pp, rfl, hpp⟩ := prt
            exact ⟨_, rfl, pv3.put k4 ⟨pp, rfl, k4.tup k3.pen hpp⟩ okt⟩
          · exact pv3.skip k4
        · exact iteF (A := True) (pv3.skip (Kp.refl k3.pen))
      · intro zs H3 pv3 L2 hL2
        obtain ⟨us3, pr3, ok3, e3, k3⟩ := id pv3
        have b2 := same_new hL2 (.lst zs)
        have hlz := pr3.length
        have hL3 : upd H3 L2 (.lst zs) L = some (.lst ys) := b2 _ _ (k3.keep _ _ upd_same hLp)
        have prL : Prs (upd H3 L2 (.lst zs)) ys us := Prs.same b2 (k3.prs kp2.pen (Prs.same b1 pr))
        refine ⟨L, L2, ys, zs, rfl, rfl, hL3, upd_same, by omega, fun L3 hL3' => ?_⟩
        have b3 := same_new hL3' (.lst (ys ++ zs))
        have kk : Kp K p H1 (upd H3 L2 (.lst zs)) := (kp2.trans k3).more b2
        refine q1 L3 (us ++ us3) _ ⟨⟨_, upd_same, Prs.app (Prs.same b3 prL) (Prs.same (b2.trans b3) pr3)⟩, fun t ht => ?_⟩ (by rw [List.length_append]; omega) (kk.none hL3') (kk.more b3)
        rcases List.mem_append.mp ht with z | z
        · exact ok t z
        · exact ok3 t z
  case b1 =>
    rintro D σ H1 ⟨kd, a3, a4, rfl, hp1, q1⟩
    refine ⟨_, rfl, 1, n, rfl, ⟨by omega, by omega, by omega, by omega⟩, lc_rng (lo := 1) (k := (n - 1).toNat) (by omega) (PvT K p n H1) (PvT.nil hp1) PvT.len ?_ ?_⟩
    · intro c i ys H2 hi pv2
      obtain ⟨us, pr, ok, e, kp⟩ := id pv2
      refine iteT (B := True) ⟨_, rfl, _, _, rfl, rfl, _, rfl, (by show 2 ≤ sizeLine; decide), fun t ht => ?_⟩
      exact pv2.push (Kp.refl kp.pen) ht ⟨by simp only; omega, by simp only; omega, by simp only; omega, by simp only; omega, by simp only; omega⟩
    · intro ys H2 pv2 L hL
      obtain ⟨us, pr, ok, e, kp⟩ := id pv2
      have b1 := same_new hL (.lst ys)
      exact q1 L us _ ⟨⟨_, upd_same, Prs.same b1 pr⟩, ok⟩ (by omega) (kp.none hL) (kp.more b1)
  case b2 =>
    rintro D σ H1 ⟨kd, a3, a4, rfl, hp1, q1⟩
    refine ⟨_, rfl, _, rfl, p, n, rfl, by omega, by omega, hp1, fun r H2 r0 r1 k2 => ⟨_, _, rfl, rfl, ?_⟩⟩
    refine ⟨_, rfl, 1, 1 + r, rfl, ⟨by omega, by omega, by omega, by omega⟩, lc_rng (lo := 1) (k := (1 + r - 1).toNat) (by omega) (PvT K p n H2) (PvT.nil k2.pen) PvT.len ?_ ?_⟩
    · intro c i ys H3 hi pv3
      obtain ⟨us, pr, ok, e, kp⟩ := id pv3
      refine iteT (B := True) ⟨_, rfl, _, _, rfl, rfl, _, rfl, (by show 2 ≤ sizeLine; decide), fun t ht => ?_⟩
      exact pv3.push (Kp.refl kp.pen) ht ⟨by simp only; omega, by simp only; omega, by simp only; omega, by simp only; omega, by simp only; omega⟩
    · intro ys H3 pv3 L hL
      obtain ⟨us, pr, ok, e, kp⟩ := id pv3
      have b1 := same_new hL (.lst ys)
      have hLp := kp.pen.ne hL
      have kp3 := kp.more b1
      have hly := pr.length
      refine ⟨_, rfl, _, rfl, 1 + r, n, rfl, ⟨by omega, by omega, by omega, by omega⟩, lc_rng (lo := 1 + r) (k := (n - (1 + r)).toNat) (by omega) (PvT K p n (upd H3 L (.lst ys))) (PvT.nil kp3.pen) PvT.len ?_ ?_⟩
      · intro c i zs H4 hi pv4
        obtain ⟨us4, pr4, ok4, e4, k4⟩ := id pv4
        refine iteT (B := True) ⟨_, rfl, _, rfl, p, _, rfl, by omega, by omega, k4.pen, fun r' H5 r0' r1' k5 => ⟨_, rfl, (by show 2 ≤ sizeLine; decide), fun t ht => ?_⟩⟩
        exact pv4.push k5 ht ⟨by simp only; omega, by simp only; omega, by simp only; omega, by simp only; omega, by simp only; omega⟩
      · intro zs H4 pv4 L2 hL2
        obtain ⟨us4, pr4, ok4, e4, k4⟩ := id pv4
        have b2 := same_new hL2 (.lst zs)
        have hlz := pr4.length
        have hL4 : upd H4 L2 (.lst zs) L = some (.lst ys) := b2 _ _ (k4.keep _ _ upd_same hLp)
        have prL : Prs (upd H4 L2 (.lst zs)) ys us := Prs.same b2 (k4.prs kp3.pen (Prs.same b1 pr))
        refine ⟨L, L2, ys, zs, rfl, rfl, hL4, upd_same, by omega, fun L3 hL3 => ?_⟩
        have b3 := same_new hL3 (.lst (ys ++ zs))
        have kk : Kp K p H1 (upd (upd H4 L2 (.lst zs)) L3 (.lst (ys ++ zs))) := (((k2.trans kp3).trans k4).more b2).more b3
        have pr3 : Prs (upd (upd H4 L2 (.lst zs)) L3 (.lst (ys ++ zs))) (ys ++ zs) (us ++ us4) := Prs.app (Prs.same b3 prL) (Prs.same (b2.trans b3) pr4)
        have ok3 : ∀ t ∈ us ++ us4, OkT n t := fun t ht => (List.mem_append.mp ht).elim (ok t) (ok4 t)
        refine ⟨_, rfl, _, rfl, _, _, rfl, rfl, (by show 2 ≤ sizeLine; decide), fun t ht => ?_⟩
        have b4 := same_new ht (.tup [V.int (1 + r - 1), V.int 0])
        refine ⟨(by show 1 ≤ sizeLine; decide), fun L4 hL4' => ?_⟩
        have b5 := same_new hL4' (.lst [V.ref t])
        refine ⟨_, rfl, _, _, rfl, rfl, .inr ⟨_, rfl, ?_⟩⟩
        -- once where the ring is one
        obtain ⟨j, hj, hj1⟩ : ∃ j : Nat, (if decide (1 + r > 1) = true then (1 : Int) else 0) = (j : Int) ∧ (j = 0 ∨ (j = 1 ∧ 1 ≤ r)) := by
          by_cases h : 1 + r > 1
          · rw [decide_eq_true h, if_pos rfl]
            exact ⟨1, rfl, .inr ⟨rfl, by omega⟩⟩
          · rw [decide_eq_false h, if_neg Bool.false_ne_true]
            exact ⟨0, rfl, .inl rfl⟩
        refine ⟨L4, (j : Int), [V.ref t], rfl, ?_, upd_same, by omega, by omega, by rw [List.length_singleton, Int.toNat_natCast]; omega, fun L5 hL5 => ?_⟩
        · show V.int (if decide (1 + r > 1) = true then (1 : Int) else 0) = V.int (j : Int)
          rw [hj]
        rw [Int.toNat_natCast]
        have b6 := same_new hL5 (.lst (List.replicate j [V.ref t]).flatten)
        have sm := b4.trans (b5.trans b6)
        have prt : Prs (upd (upd (upd (upd (upd H4 L2 (.lst zs)) L3 (.lst (ys ++ zs))) t (.tup [V.int (1 + r - 1), V.int 0])) L4 (.lst [V.ref t])) L5 (.lst (List.replicate j [V.ref t]).flatten)) (List.replicate j [V.ref t]).flatten (List.replicate j [((1 + r - 1 : Int), (0 : Int))]).flatten ∧ (∀ t' ∈ (List.replicate j [((1 + r - 1 : Int), (0 : Int))]).flatten, OkT n t') ∧ (List.replicate j [((1 + r - 1 : Int), (0 : Int))]).flatten.length ≤ 1 := by
          rcases hj1 with rfl | ⟨rfl, hr1⟩
          · exact ⟨.nil, (fun t' ht' => nomatch ht'), by simp⟩
          · refine ⟨.cons ⟨t, rfl, (b5.trans b6) _ _ upd_same⟩ .nil, fun t' ht' => ?_, by simp⟩
            have e : t' = ((1 + r - 1 : Int), (0 : Int)) := by simpa using ht'
            rw [e]
            exact ⟨by simp only; omega, by simp only; omega, by simp only; omega, by simp only; omega, by simp only; omega⟩
        obtain ⟨prt, okt, hlt⟩ := prt
        have hlt2 := prt.length
        refine ⟨L3, L5, _, _, rfl, rfl, sm _ _ upd_same, upd_same, by rw [List.length_append]; omega, fun L6 hL6 => ?_⟩
        have b7 := same_new hL6 (.lst ((ys ++ zs) ++ (List.replicate j [V.ref t]).flatten))
        refine q1 L6 _ _ ⟨⟨_, upd_same, Prs.app (Prs.same (sm.trans b7) pr3) (Prs.same b7 prt)⟩, fun t' ht' => (List.mem_append.mp ht').elim (ok3 t') (okt t')⟩ (by rw [List.length_append, List.length_append]; omega) ((kk.more sm).none hL6) ((kk.more sm).more b7)
  case b3 =>
    rintro D σ H1 ⟨kd, a3, a4, rfl, hp1, q1⟩
    exact ⟨_, rfl, _, rfl, p, n, rfl, n1, n16, hp1, fun a ts H' lt hl hn k => q1 a ts H' lt (by omega) hn k⟩
  case b4 =>
    rintro D σ H1 ⟨kd, a3, a4, rfl, hp1, q1⟩
    refine ⟨_, rfl, _, rfl, p, n, rfl, by omega, by omega, hp1, fun r H2 r0 r1 k2 => ?_⟩
    refine ⟨_, rfl, 1, n, rfl, ⟨by omega, by omega, by omega, by omega⟩, lc_rng (lo := 1) (k := (n - 1).toNat) (by omega) (PvT K p n H2) (PvT.nil k2.pen) PvT.len ?_ ?_⟩
    · intro c i ys H3 hi pv3
      obtain ⟨us, pr, ok, e, kp⟩ := id pv3
      refine ⟨_, rfl, _, rfl, rfl, _, rfl, ite2 (fun c1 => ?_) (fun c1 => ?_)⟩
      · refine ⟨_, rfl, _, rfl, p, _, rfl, by omega, by omega, kp.pen, fun r' H4 r0' r1' k4 => ⟨_, rfl, (by show 2 ≤ sizeLine; decide), fun t ht => ?_⟩⟩
        exact pv3.push k4 ht ⟨by simp only; omega, by simp only; omega, by simp only; omega, by simp only; omega, by simp only; omega⟩
      · exact pv3.skip (Kp.refl kp.pen)
    · intro ys H3 pv3 L hL
      obtain ⟨us, pr, ok, e, kp⟩ := id pv3
      have b1 := same_new hL (.lst ys)
      exact q1 L us _ ⟨⟨_, upd_same, Prs.same b1 pr⟩, ok⟩ (by omega) ((k2.trans kp).none hL) ((k2.trans kp).more b1)
  case b5 =>
    rintro D σ H1 ⟨kd, a3, a4, rfl, hkd, hp1, q1⟩
    refine ⟨_, rfl, _, rfl, _, rfl, p, 4, rfl, by decide, by decide, hp1, fun r H2 r0 r1 k2 => ⟨_, rfl, _, _, rfl, rfl, .inl ⟨by decide, by decide⟩, (by show 2 ≤ sizeLine; decide), fun l hl => ?_⟩⟩
    have b1 := same_new hl (.lst [V.int r, V.int (2 * n)])
    have k3 := k2.more b1
    refine ⟨_, rfl, _, _, rfl, rfl, ?_⟩
    rcases hkd with rfl | rfl
    · refine ⟨l, _, _, _, rfl, rfl, SqL.of upd_same, at0 _ _, p, n, r, rfl, n1, n16, r0, by omega, k3.pen, fun a ts H' lt hl' hn k => q1 a ts H' lt (by omega) (k3.none hn) (k3.trans k)⟩
    · refine ⟨l, _, _, _, rfl, rfl, SqL.of upd_same, at1 _ _, p, n, 2 * n, rfl, n1, n16, by omega, by omega, k3.pen, fun a ts H' lt hl' hn k => q1 a ts H' lt (by omega) (k3.none hn) (k3.trans k)⟩
  refine ⟨_, rfl, p, 8, rfl, by decide, by decide, hp, fun kd H1 k0 k8 k1 => ?_⟩
  have q1 := q.up k1
  have hne : ∀ {x : Int}, ¬ (decide (V.int kd = V.int x)) = true → kd ≠ x := fun {x} h z => h (by rw [z]; exact decide_eq_true rfl)
  refine ⟨_, rfl, rfl, _, rfl, ite2 (fun c => iteT ⟨kd, _, _, rfl, k1.pen, q1⟩) (fun c0 => ?_)⟩
  refine ⟨_, rfl, rfl, _, rfl, ite2 (fun c => ⟨kd, _, _, rfl, k1.pen, q1⟩) (fun c7 => ?_)⟩
  refine ⟨_, rfl, rfl, _, rfl, ite2 (fun c => ⟨kd, _, _, rfl, k1.pen, q1⟩) (fun c1 => ?_)⟩
  refine ⟨_, rfl, rfl, _, rfl, ite2 (fun c => ⟨kd, _, _, rfl, k1.pen, q1⟩) (fun c2 => ?_)⟩
  refine ⟨_, rfl, rfl, _, rfl, ite2 (fun c => ⟨kd, _, _, rfl, k1.pen, q1⟩) (fun c3 => ?_)⟩
  refine ⟨_, rfl, rfl, _, rfl, ite2 (fun c => ⟨kd, _, _, rfl, k1.pen, q1⟩) (fun c4 => ?_)⟩
  have e0 := hne c0
  have e7 := hne c7
  have e1 := hne c1
  have e2 := hne c2
  have e3 := hne c3
  have e4 := hne c4
  exact ⟨kd, _, _, rfl, by omega, k1.pen, q1⟩
end
end Nf

set_option Elab.async false
set_option linter.all false
set_option maxRecDepth 100000
namespace Nf
open PySem L2 PyProof.Rows
noncomputable def spTies (K : PySem.W.Frag) : Sp := fun vs H Q _ => ∃ (p : Addr) (n : Int), vs = [.ref p, .int n] ∧ 1 ≤ n ∧ n ≤ 16 ∧ PenAt K H p ∧ Tells K p n 40 H Q
theorem ptake {α β : Type} {F : α → β → Prop} : ∀ {l₁ : List α} {l₂ : List β} (k : Nat), Paired F l₁ l₂ → Paired F (l₁.take k) (l₂.take k)
  | _, _, 0, _ => by simp; exact .nil
  | _, _, _ + 1, .nil => by simp; exact .nil
  | _, _, k + 1, .cons r t => .cons r (ptake k t)
section
variable {P : Program} {w : World} {K : PySem.W.Frag} {mg : Str → Option Value} {base : Heap} {f : Addr} {fd : FuncData}
theorem sc22 : FnScope ["_law_pen_here", "_law_n", "_law_order_here", "_law_found"] ["_law_pen_here", "_law_n"] (defScope (top 38)) := ⟨rfl, rfl, rfl, by decide +kernel, rfl, by decide +kernel, by decide +kernel⟩
theorem nd22 : (["_law_a", "_law_b", "_law_pen_here", "_law_n", "_law_order_here", "_law_found"] : List Str).Nodup := by decide +kernel
noncomputable def tRest (K : PySem.W.Frag) (p : Addr) (n : Int) : TS := fun D σ H => ∃ (L oa : Addr) (ts : List Tie) (os : List Int), σ = [some (.ref p), some (.int n), some (.ref oa), some (.ref L)] ∧ LstT H L n ts ∧ ts.length ≤ 40 ∧ L ≠ p ∧ oa ≠ p ∧
  H oa = some (.lst (os.map V.int)) ∧ os.length = n.toNat ∧ os.Nodup ∧ (∀ x ∈ os, 0 ≤ x ∧ x < n) ∧ PenAt K H p ∧ Tells K p n 40 H D.rt
theorem os_at {os : List Int} {n a : Int} (hl : os.length = n.toNat) (h0 : 0 ≤ a) (h1 : a < n) : ∃ h : a.toNat < os.length, atI (os.map V.int) a = some (.int os[a.toNat]) := by
  have hk : a.toNat < os.length := by omega
  refine ⟨hk, ?_⟩
  have ek : a = ((a.toNat : Nat) : Int) := by omega
  have q : atI (os.map V.int) ((a.toNat : Nat) : Int) = some (.int os[a.toNat]) := atI_nat (by rw [List.getElem?_map, List.getElem?_eq_getElem hk]; rfl)
  rw [← ek] at q
  exact q
theorem cut40 (xs : List V) : cutV xs none (some 40) = xs.take 40 := by
  unfold cutV
  have e1 : HT.sIx xs.length 0 none = 0 := rfl
  have e2 : HT.sIx xs.length xs.length (some (40 : Int)) = min 40 xs.length := HT.sIx_nat xs.length xs.length 40
  rw [e1, e2, List.drop_zero, Nat.sub_zero]
  by_cases h : xs.length ≤ 40
  · rw [List.take_of_length_le (by omega), List.take_of_length_le h]
  · rw [Nat.min_eq_left (by omega)]
theorem ok_ties (F : Fun K "_law_ties" "_law_ties" (top 38) f fd) (B : Bn mg) (T : Cal P w K mg base 1 "_law_take" ["_law_pen_here", "_law_many"] (spTake K)) (O : Cal P w K mg base 2 "_law_order" ["_law_pen_here", "_law_n"] (spOrder K))
    (Y : Cal P w K mg base 2 "_law_any" ["_law_pen_here", "_law_n", "_law_many"] (spAny K)) (S : Cal P w K mg base 3 "_law_shape" ["_law_pen_here", "_law_n"] (spShape K)) : FnOk P w K mg base CX0 4 f fd ["_law_pen_here", "_law_n"] (spTies K) := by
  refine F.ok sc22 (fun vs H Q E h => ?_) (fun cdv A outer s H vs Q E hr h => ?_)
  · obtain ⟨p, n, rfl, _⟩ := h
    rfl
  obtain ⟨p, n, rfl, n1, n16, hp, q⟩ := h
  have nd := sc22.nd
  have h24 := sizeLine_eq
  refine ⟨_, pss_cons (ps_set (i := 2) nd rfl (Or.inr rfl) (pc O hr (pa_cons (pv 0) (pa_cons (pv 1) pa_nil))))
    (pss_cons (ps_set (i := 3) nd rfl (Or.inl rfl) (pe_op op_cat (pc S hr (pa_cons (pv 0) (pa_cons (pv 1) pa_nil))) (pc Y hr (pa_cons (pv 0) (pa_cons (pv 1) (pa_cons (pc T hr (pa_cons (pv 0) (pa_cons pe_int pa_nil))) pa_nil))))))
    (pss_cons (ps_if (PW.pt (pw_and (pt_cmpR (op_neD hr.units) (pv 3) (pe_lst pa_nil) (nomark _)) (pw_and1 (pt_cmpR op_eq (pc T hr (pa_cons (pv 0) (pa_cons pe_int pa_nil))) pe_int (nomark _)))))
      (pss_one (ps_expr (pe_bm PySem.F.plainAttrs_list PySem.F.slot_list_append PySem.F.type_list_append mt_append (pv 3) (pa_cons (pe_ix ix_list (pv 3) (pc T hr (pa_cons (pv 0) (pa_cons (pe_callB call_len_seq rfl B.len PySem.boot_len (pa_cons (pv 3) pa_nil)) pa_nil))) (fun _ _ => rfl)) pa_nil)))) pss_nil)
    (PSs.wk (t' := tRest K p n) (pss_cons (ps_lc ["_law_a", "_law_b"] (i := 3) rfl nd rfl (Or.inl rfl) (pi_list (pv 3)) (fun c => pg_tup rfl (pgs_cons (pg_name (i := 0) nd22 rfl (Or.inl rfl)) (pgs_cons (pg_name (i := 1) nd22 rfl (Or.inl rfl)) pgs_nil))) (fun c => pts_nil)
        (fun c => pe_tup (pa_cons (pe_ix ix_list (pv 4) (pv 0) (fun _ _ => rfl)) (pa_cons (pe_ix ix_list (pv 4) (pv 1) (fun _ _ => rfl)) pa_nil))))
      (pss_one (ps_ret (pe_slice sl_list (pe_lc ["_law_a", "_law_b"] rfl (pi_list (pv 3)) (fun c => pg_tup rfl (pgs_cons (pg_name (i := 0) nd22 rfl (Or.inl rfl)) (pgs_cons (pg_name (i := 1) nd22 rfl (Or.inl rfl)) pgs_nil))) (fun c => pts_nil)
        (fun c => pe_ix ix_list (pe_lst (pa_cons (pe_tup (pa_cons (pv 0) (pa_cons (pv 1) pa_nil))) (pa_cons (pe_tup (pa_cons (pv 1) (pa_cons (pv 0) pa_nil))) pa_nil))) (pc T hr (pa_cons (pv 2) (pa_cons pe_int pa_nil))) (fun _ _ => rfl))) po_none (po_some pe_int))))) ?rest))), ?_⟩
  case rest =>
    rintro D σ H1 ⟨L, oa, ts, os, rfl, ⟨⟨xs, hx, pr⟩, ok⟩, hl, hLp, hop, ho, osl, osn, osr, hp1, q1⟩
    have hlx := pr.length
    refine ⟨_, rfl, L, rfl, ⟨xs, SqL.of hx⟩, lc_list (xs := xs) (by omega) (PvT K p n H1) (PvT.nil hp1) ?_ PvT.len ?_ ?_⟩
    · intro i ys H2 pv2
      obtain ⟨_, _, _, _, k2⟩ := pv2
      exact SqL.of (k2.keep _ _ hx hLp)
    · intro c i x ys H2 hxi pv2
      obtain ⟨us, pru, oku, e, k2⟩ := id pv2
      obtain ⟨t, ht, pp, rfl, hpp⟩ := pgetL (k2.prs hp1 pr) hxi
      obtain ⟨o1, o2, o3, o4, o5⟩ := ok t (List.mem_of_getElem? ht)
      obtain ⟨ha, ea⟩ := os_at osl o1 o2
      obtain ⟨hb, eb⟩ := os_at osl o3 o4
      have ho2 := k2.keep _ _ ho hop
      refine ⟨pp, _, rfl, SqT.of hpp, rfl, _, _, rfl, _, _, rfl, rfl, iteT (B := True) ⟨_, rfl, _, rfl, oa, _, _, _, rfl, rfl, SqL.of ho2, ea, _, rfl, _, rfl, oa, _, _, _, rfl, rfl, SqL.of ho2, eb, (by show 2 ≤ sizeLine; decide), fun t' ht' => ?_⟩⟩
      refine pv2.push (Kp.refl k2.pen) ht' ⟨(osr _ (List.getElem_mem ha)).1, (osr _ (List.getElem_mem ha)).2, (osr _ (List.getElem_mem hb)).1, (osr _ (List.getElem_mem hb)).2, fun z => ?_⟩
      have := (List.getElem_inj osn).mp z
      omega
    · intro ys H2 pv2 L2 hL2
      obtain ⟨us, pru, oku, e, k2⟩ := id pv2
      have b1 := same_new hL2 (.lst ys)
      have hL2p := k2.pen.ne hL2
      have kp2 := k2.more b1
      have hly := pru.length
      refine ⟨_, rfl, L2, rfl, ⟨ys, SqL.of upd_same⟩, lc_list (xs := ys) (by omega) (PvT K p n (upd H2 L2 (.lst ys))) (PvT.nil kp2.pen) ?_ PvT.len ?_ ?_⟩
      · intro i zs H3 pv3
        obtain ⟨_, _, _, _, k3⟩ := pv3
        exact SqL.of (k3.keep _ _ upd_same hL2p)
      · intro c i x zs H3 hxi pv3
        obtain ⟨us3, pr3, ok3, e3, k3⟩ := id pv3
        obtain ⟨t, ht, pp, rfl, hpp⟩ := pgetL (k3.prs kp2.pen (Prs.same b1 pru)) hxi
        have okt := oku t (List.mem_of_getElem? ht)
        obtain ⟨o1, o2, o3, o4, o5⟩ := id okt
        refine ⟨pp, _, rfl, SqT.of hpp, rfl, _, _, rfl, _, _, rfl, rfl, iteT (B := True) ⟨_, rfl, _, rfl, (by show 2 ≤ sizeLine; decide), fun t1 ht1 => ?_⟩⟩
        have c1 := same_new ht1 (.tup [V.int t.1, V.int t.2])
        refine ⟨_, rfl, _, rfl, (by show 2 ≤ sizeLine; decide), fun t2 ht2 => ?_⟩
        have c2 := same_new ht2 (.tup [V.int t.2, V.int t.1])
        refine ⟨(by show 2 ≤ sizeLine; decide), fun l hl' => ?_⟩
        have c3 := same_new hl' (.lst [V.ref t1, V.ref t2])
        have sm := c1.trans (c2.trans c3)
        have kp3 := k3.more sm
        have hlp : l ≠ p := ((k3.more c1).more c2).pen.ne hl'
        refine ⟨_, rfl, p, 2, rfl, by decide, by decide, kp3.pen, fun r H4 r0 r1 k4 => ?_⟩
        have e4 : H4 l = some (.lst [V.ref t1, V.ref t2]) := k4.keep _ _ upd_same hlp
        have kk : Kp K p H3 H4 := (Kp.of k3.pen sm).trans k4
        rcases (show r = 0 ∨ r = 1 by omega) with rfl | rfl
        · exact ⟨l, _, _, _, rfl, rfl, SqL.of e4, at0 _ _, pv3.put kk ⟨t1, rfl, k4.tup kp3.pen ((c2.trans c3) _ _ upd_same)⟩ okt⟩
        · exact ⟨l, _, _, _, rfl, rfl, SqL.of e4, at1 _ _, pv3.put kk (t := (t.2, t.1)) ⟨t2, rfl, k4.tup kp3.pen (c3 _ _ upd_same)⟩ ⟨o3, o4, o1, o2, fun z => o5 z.symm⟩⟩
      · intro zs H3 pv3 L3 hL3
        obtain ⟨us3, pr3, ok3, e3, k3⟩ := id pv3
        have b2 := same_new hL3 (.lst zs)
        refine ⟨_, rfl, L3, zs, rfl, SqL.of upd_same, fun L4 hL4 => ?_⟩
        have b3 := same_new hL4 (.lst (cutV zs none (some 40)))
        have kk : Kp K p H1 (upd H3 L3 (.lst zs)) := (kp2.trans k3).more b2
        refine q1 L4 (us3.take 40) _ ⟨⟨_, upd_same, ?_⟩, fun t ht => ok3 t (List.mem_of_mem_take ht)⟩ (by rw [List.length_take]; omega) (kk.none hL4) (kk.more b3)
        have prz := ptake 40 (Prs.same (b2.trans b3) pr3)
        rw [← cut40 zs] at prz
        exact prz
  refine ⟨_, rfl, _, rfl, p, n, rfl, n1, n16, hp, fun oa os H1 osl osn osr ho hoN k1 => ?_⟩
  have hop := hp.ne hoN
  refine ⟨_, rfl, _, rfl, p, n, rfl, n1, n16, k1.pen, fun L1 ts1 H2 lt1 hl1 hN1 k2 => ?_⟩
  have hL1p := k1.pen.ne hN1
  refine ⟨_, rfl, _, rfl, _, rfl, p, 3, rfl, by decide, by decide, k2.pen, fun r H3 r0 r1 k3 => ?_⟩
  refine ⟨p, n, r, rfl, n1, n16, r0, by omega, k3.pen, fun L2 ts2 H4 lt2 hl2 hN2 k4 => ?_⟩
  have lt1' : LstT H4 L1 n ts1 := (lt1.kp k2.pen k3 hL1p).kp k3.pen k4 hL1p
  obtain ⟨⟨xs1, hx1, pr1⟩, ok1⟩ := lt1'
  obtain ⟨⟨xs2, hx2, pr2⟩, ok2⟩ := lt2
  have hl1' := pr1.length
  have hl2' := pr2.length
  refine ⟨L1, L2, xs1, xs2, rfl, rfl, hx1, hx2, by omega, fun L hL => ?_⟩
  have b1 := same_new hL (.lst (xs1 ++ xs2))
  have kk4 : Kp K p H H4 := ((k1.trans k2).trans k3).trans k4
  have kk : Kp K p H (upd H4 L (.lst (xs1 ++ xs2))) := kk4.more b1
  have hHL := kk4.none hL
  have hLp := hp.ne hHL
  have ho4 : upd H4 L (.lst (xs1 ++ xs2)) oa = some (.lst (os.map V.int)) := b1 _ _ (k4.keep _ _ (k3.keep _ _ (k2.keep _ _ ho hop) hop) hop)
  have prL : Prs (upd H4 L (.lst (xs1 ++ xs2))) (xs1 ++ xs2) (ts1 ++ ts2) := Prs.app (Prs.same b1 pr1) (Prs.same b1 pr2)
  have okL : ∀ t ∈ ts1 ++ ts2, OkT n t := fun t ht => (List.mem_append.mp ht).elim (ok1 t) (ok2 t)
  have hlL : (ts1 ++ ts2).length ≤ 34 := by rw [List.length_append]; omega
  generalize hH5 : upd H4 L (.lst (xs1 ++ xs2)) = H5 at kk ho4 prL
  have hL5 : H5 L = some (.lst (xs1 ++ xs2)) := by rw [← hH5, upd_same]
  refine ⟨_, rfl, (by show 0 ≤ sizeLine; decide), fun l0 hl0 => ?_⟩
  have b2 := same_new hl0 (.lst [])
  have kk6 := kk.more b2
  have hL6 := b2 _ _ hL5
  refine ⟨_, _, decide (ts1 ++ ts2 = []), .lst (SqL.of hL6) (Prs.same b2 prL), .lst (ts := []) (SqL.of upd_same) .nil, eqv_lst _ [], _, rfl, ite2 (fun c => ?_) (fun c => ?_)⟩
  · have hne : ts1 ++ ts2 ≠ [] := fun z => by rw [decide_eq_true z] at c; exact absurd c (by simp)
    refine ⟨_, rfl, p, 4, rfl, by decide, by decide, kk6.pen, fun r' H7 _ _ k7 => ⟨rfl, _, rfl, ite2 (fun c2 => ?_) (fun c2 => ?_)⟩⟩
    · have hL7 := k7.keep _ _ hL6 hLp
      have prL7 := k7.prs kk6.pen (Prs.same b2 prL)
      have hlen := prL7.length
      have hpos : 0 < (ts1 ++ ts2).length := List.length_pos_iff.mpr hne
      refine ⟨_, rfl, .inl ⟨rfl, _, SqL.of hL7⟩, _, rfl, _, rfl, _, rfl, L, _, rfl, .inl (SqL.of hL7), p, _, rfl, by omega, by omega, k7.pen, fun r8 H8 a0 a1 k8 => ?_⟩
      have hL8 := k8.keep _ _ hL7 hLp
      have prL8 := k8.prs k7.pen prL7
      have hk : r8.toNat < (xs1 ++ xs2).length := by omega
      have ek : r8 = ((r8.toNat : Nat) : Int) := by omega
      have hat : atI (xs1 ++ xs2) r8 = some (xs1 ++ xs2)[r8.toNat] := by
        have q0 : atI (xs1 ++ xs2) ((r8.toNat : Nat) : Int) = some (xs1 ++ xs2)[r8.toNat] := atI_nat (List.getElem?_eq_getElem hk)
        rw [← ek] at q0
        exact q0
      obtain ⟨t, ht, prt⟩ := pgetL prL8 (List.getElem?_eq_getElem hk)
      refine ⟨L, _, _, _, rfl, rfl, SqL.of hL8, hat, L, _, _, rfl, rfl, hL8, by omega, ?_⟩
      have kk8 : Kp K p H H8 := (kk6.trans k7).trans k8
      have ho8 := k8.keep _ _ (k7.keep _ _ (b2 _ _ ho4) hop) hop
      have hLoa : oa ≠ L := fun z => by rw [z] at ho; exact absurd (k4.keep _ _ (k3.keep _ _ (k2.keep _ _ ho hLp) hLp) hLp) (by rw [hL]; intro z; cases z)
      refine ⟨L, oa, (ts1 ++ ts2) ++ [t], os, rfl, ⟨⟨_, upd_same, prs_wr hL8 (prL8.snoc prt)⟩, fun t' ht' => ?_⟩, by rw [List.length_append, List.length_singleton]; omega, hLp, hop, by rw [upd_ne hLoa]; exact ho8, osl, osn, osr, ?_, ?_⟩
      · rcases List.mem_append.mp ht' with z | z
        · exact okL t' z
        · have e : t' = t := by simpa using z
          rw [e]
          exact okL t (List.mem_of_getElem? ht)
      · exact (kk8.wr hHL hL8 hLp).pen
      · exact q.up (kk8.wr hHL hL8 hLp)
    · exact ⟨L, oa, ts1 ++ ts2, os, rfl, ⟨⟨_, k7.keep _ _ hL6 hLp, k7.prs kk6.pen (Prs.same b2 prL)⟩, okL⟩, by omega, hLp, hop, k7.keep _ _ (b2 _ _ ho4) hop, osl, osn, osr, k7.pen, q.up (kk6.trans k7)⟩
  · exact iteF (A := True) ⟨L, oa, ts1 ++ ts2, os, rfl, ⟨⟨_, hL6, Prs.same b2 prL⟩, okL⟩, by omega, hLp, hop, b2 _ _ ho4, osl, osn, osr, kk6.pen, q.up kk6⟩
end
end Nf

set_option Elab.async false
set_option linter.all false
set_option maxRecDepth 100000
namespace Nf
open PySem L2 PyProof.Rows
inductive Rch (E : Int → Int → Prop) (a : Int) : Int → Prop
  | refl : Rch E a a
  | step {b c : Int} : Rch E a b → E b c → Rch E a c
theorem Rch.closed {E : Int → Int → Prop} {a : Int} {S : Int → Prop} (h0 : S a) (hc : ∀ x y, S x → E x y → S y) : ∀ {q : Int}, Rch E a q → S q
  | _, .refl => h0
  | _, .step r e => hc _ _ (Rch.closed h0 hc r) e
noncomputable def Edge (us : List Tie) (i q : Int) : Prop := (i, q) ∈ us ∨ (q, i) ∈ us
theorem Rch.range {n : Int} {us : List Tie} (ok : ∀ t ∈ us, OkT n t) {a : Int} (h0 : 0 ≤ a) (h1 : a < n) : ∀ {q : Int}, Rch (Edge us) a q → 0 ≤ q ∧ q < n
  | _, .refl => ⟨h0, h1⟩
  | _, .step _ e => by
    rcases e with e | e
    · have := ok _ e
      exact ⟨this.2.2.1, this.2.2.2.1⟩
    · have := ok _ e
      exact ⟨this.1, this.2.1⟩
noncomputable def prt (n : Nat) (E : Int → Int → Prop) (a : Int) : List Int := by
  classical
  exact ((List.range n).map fun i => ((i : Nat) : Int)).filter fun q => decide (Rch E a q)
theorem mem_prt {n : Nat} {E : Int → Int → Prop} {a q : Int} : q ∈ prt n E a ↔ (0 ≤ q ∧ q < n) ∧ Rch E a q := by
  classical
  unfold prt
  rw [List.mem_filter]
  have e : q ∈ ((List.range n).map fun i => ((i : Nat) : Int)) ↔ 0 ≤ q ∧ q < n := by
    rw [List.mem_map]
    constructor
    · rintro ⟨i, hi, rfl⟩
      have := List.mem_range.mp hi
      omega
    · intro h
      exact ⟨q.toNat, List.mem_range.mpr (by omega), by omega⟩
  rw [e]
  simp
theorem rise_ints (n : Nat) : ((List.range n).map fun i => ((i : Nat) : Int)).Pairwise (· < ·) := by
  rw [List.pairwise_map]
  exact (List.pairwise_lt_range (n := n)).imp fun h => by omega
theorem prt_rise {n : Nat} {E : Int → Int → Prop} {a : Int} : (prt n E a).Pairwise (· < ·) := by
  classical
  unfold prt
  exact (rise_ints n).filter _
theorem prt_eq {n : Nat} {E : Int → Int → Prop} {a : Int} {out ks : List Int} (hp : out.Perm ks) (hs : out.Pairwise (· ≤ ·)) (hn : ks.Nodup) (hk : ∀ q, q ∈ ks ↔ Rch E a q) (hr : ∀ q, Rch E a q → 0 ≤ q ∧ q < n) : out = prt n E a := by
  have nd : (prt n E a).Nodup := prt_rise.imp fun h => by omega
  have hperm : out.Perm (prt n E a) := hp.trans ((List.perm_ext_iff_of_nodup hn nd).mpr fun q => by
    rw [mem_prt, hk]
    exact ⟨fun h => ⟨hr q h, h⟩, fun h => h.2⟩)
  exact PySem.W.ksm_same hperm hs (prt_rise.imp fun h => by omega)
noncomputable def adjL (us : List Tie) : Nat → Int → List Tie
  | 0, _ => []
  | i + 1, j => adjL us i j ++ (match us[i]? with
    | some t => if t.1 = j then [(t.2, (i : Int))] else if t.2 = j then [(t.1, (i : Int))] else []
    | none => [])
theorem adj_edge {us : List Tie} {j q : Int} (hne : ∀ t ∈ us, t.1 ≠ t.2) : ∀ {i : Nat}, i ≤ us.length → ((∃ k, (q, k) ∈ adjL us i j) ↔ ∃ m, m < i ∧ (us[m]? = some (j, q) ∨ us[m]? = some (q, j)))
  | 0, _ => by simp [adjL]
  | i + 1, hi => by
    have ih := adj_edge (us := us) (j := j) (q := q) hne (i := i) (by omega)
    have hlt : i < us.length := by omega
    have hg : us[i]? = some us[i] := List.getElem?_eq_getElem hlt
    have hn := hne us[i] (List.getElem_mem hlt)
    unfold adjL
    rw [hg]
    simp only [List.mem_append]
    have last : (∃ k, (q, k) ∈ (if us[i].1 = j then [(us[i].2, (i : Int))] else if us[i].2 = j then [(us[i].1, (i : Int))] else [])) ↔ (us[i] = (j, q) ∨ us[i] = (q, j)) := by
      rcases e : us[i] with ⟨a, b⟩
      rw [e] at hn
      simp only at hn ⊢
      by_cases c : a = j
      · rw [if_pos c]
        simp only [List.mem_singleton, Prod.mk.injEq]
        constructor
        · rintro ⟨k, h1, h2⟩; exact .inl ⟨c, h1.symm⟩
        · rintro (⟨h1, h2⟩ | ⟨h1, h2⟩)
          · exact ⟨_, h2.symm, rfl⟩
          · omega
      · rw [if_neg c]
        by_cases c2 : b = j
        · rw [if_pos c2]
          simp only [List.mem_singleton, Prod.mk.injEq]
          constructor
          · rintro ⟨k, h1, h2⟩; exact .inr ⟨h1.symm, c2⟩
          · rintro (⟨h1, h2⟩ | ⟨h1, h2⟩)
            · exact absurd h1 c
            · exact ⟨_, h1.symm, rfl⟩
        · rw [if_neg c2]
          simp only [List.not_mem_nil, exists_false, Prod.mk.injEq, false_iff]
          rintro (⟨h1, h2⟩ | ⟨h1, h2⟩)
          · exact c h1
          · exact c2 h2
    constructor
    · rintro ⟨k, h | h⟩
      · obtain ⟨m, hm, e⟩ := ih.mp ⟨k, h⟩
        exact ⟨m, by omega, e⟩
      · have := last.mp ⟨k, h⟩
        exact ⟨i, by omega, by rw [hg]; simpa using this⟩
    · rintro ⟨m, hm, e⟩
      by_cases c : m < i
      · obtain ⟨k, h⟩ := ih.mpr ⟨m, c, e⟩
        exact ⟨k, .inl h⟩
      · obtain rfl : m = i := by omega
        obtain ⟨k, h⟩ := last.mpr (by rw [hg] at e; simpa using e)
        exact ⟨k, .inr h⟩
theorem adj_all {us : List Tie} {j q : Int} (hne : ∀ t ∈ us, t.1 ≠ t.2) : (∃ k, (q, k) ∈ adjL us us.length j) ↔ Edge us j q := by
  rw [adj_edge hne (Nat.le_refl _)]
  unfold Edge
  constructor
  · rintro ⟨m, hm, e | e⟩
    · exact .inl (List.mem_of_getElem? e)
    · exact .inr (List.mem_of_getElem? e)
  · rintro (h | h)
    · obtain ⟨m, hm, e⟩ := List.mem_iff_getElem.mp h
      exact ⟨m, hm, .inl (by rw [List.getElem?_eq_getElem hm, e])⟩
    · obtain ⟨m, hm, e⟩ := List.mem_iff_getElem.mp h
      exact ⟨m, hm, .inr (by rw [List.getElem?_eq_getElem hm, e])⟩
theorem adj_len (us : List Tie) : ∀ (i : Nat) (j : Int), (adjL us i j).length ≤ i
  | 0, _ => Nat.le_refl _
  | i + 1, j => by
    have := adj_len us i j
    unfold adjL
    rw [List.length_append]
    split
    · split
      · simp; omega
      · split
        · simp; omega
        · simp; omega
    · simp; omega
end Nf

set_option Elab.async false
set_option linter.all false
set_option maxRecDepth 100000
namespace Nf
open PySem L2 PyProof.Rows
theorem for_enum {K : PySem.W.Frag} {a : Addr} {xs : List V} {g : TG} {tb : TS} {D : Ends} {σ : L2.St} {H : Hp} (Pv : Nat → L2.St → Hp → Prop) (h0 : Pv 0 σ H) (hl : ∀ i σ H, i ≤ xs.length → Pv i σ H → SqT K H a xs)
    (hs : ∀ i x t σ H, xs[i]? = some x → H t = none → Pv i σ H → g (.ref t) σ (upd H t (.tup [.int i, x])) fun σ2 H2 => tb { D with nx := Pv (i + 1), ct := Pv (i + 1), bk := D.nx } σ2 H2) (hd : ∀ σ H, Pv xs.length σ H → D.nx σ H) :
    ∃ W : Nat → Nat → L2.St → Hp → Prop, (∃ m, W 0 m σ H) ∧ ∀ i m σ H, W i m σ H →
      ((Ite K a).stop i H ∧ D.nx σ H) ∨ ((Ite K a).go i H ∧ ∃ N : L2.St → Hp → Prop, (∀ σ' H', N σ' H' → ∃ m', m' < m ∧ W (i + 1) m' σ' H') ∧ ∀ x H', (Ite K a).yld i H x H' → g x σ H' fun σ2 H2 => tb { D with nx := N, ct := N, bk := D.nx } σ2 H2) := by
  refine ⟨fun i m σ H => m = xs.length - i ∧ i ≤ xs.length ∧ Pv i σ H, ⟨xs.length, by simp, Nat.zero_le _, h0⟩, ?_⟩
  rintro i m σ H ⟨rfl, hi, p⟩
  have q := hl i σ H hi p
  by_cases hlt : i < xs.length
  · refine .inr ⟨⟨xs, xs[i], q, by simp [hlt]⟩, Pv (i + 1), fun σ' H' p' => ⟨xs.length - (i + 1), by omega, rfl, hlt, p'⟩, fun x H' y => ?_⟩
    obtain ⟨t, v, e, ht, e2, y⟩ := y
    subst e e2
    exact hs i v t σ _ (y xs q) ht p
  · have e : i = xs.length := by omega
    subst e
    exact .inl ⟨⟨xs, q, Nat.le_refl _⟩, hd σ H p⟩
structure StepsAt (H : Hp) (st : Addr) (n : Nat) (us : List Tie) (i : Nat) : Prop where
  ex : ∃ as : List Addr, as.length = n ∧ H st = some (.lst (as.map V.ref)) ∧ ∀ (j : Nat) (a : Addr), as[j]? = some a → ∃ xs, H a = some (.lst xs) ∧ Prs H xs (adjL us i j)
theorem StepsAt.same {H H' : Hp} {st : Addr} {n i : Nat} {us : List Tie} (h : StepsAt H st n us i) (s : Same H H') : StepsAt H' st n us i := by
  obtain ⟨as, h1, h2, h3⟩ := h.ex
  refine ⟨as, h1, s _ _ h2, fun j a e => ?_⟩
  obtain ⟨xs, x1, x2⟩ := h3 j a e
  exact ⟨xs, s _ _ x1, Prs.same s x2⟩
noncomputable def spSteps : Sp := fun vs H Q _ => ∃ (r : Addr) (n : Int) (us : List Tie), vs = [.ref r] ∧ Told H r n us ∧ 1 ≤ n ∧ n ≤ 16 ∧ us.length ≤ 40 ∧ (∀ t ∈ us, OkT n t) ∧ ∀ st H', Same H H' → StepsAt H' st n.toNat us us.length → Q (.ref st) H'
noncomputable def spSearch : Sp := fun vs H Q _ => ∃ (st : Addr) (n : Nat) (us : List Tie) (a : Int), vs = [.ref st, .int a] ∧ StepsAt H st n us us.length ∧ n ≤ 16 ∧ us.length ≤ 40 ∧ (∀ t ∈ us, OkT n t) ∧ 0 ≤ a ∧ a < n ∧
  ∀ (d : Addr) (kvs : List (Key × V)) (ks : List Int) H', Same H H' → H' d = some (.dK kvs) → kvs.map (·.1) = ks.map Sum.inl → ks.Nodup → (∀ q, q ∈ ks ↔ Rch (Edge us) a q) → H d = none → Q (.ref d) H'
section
variable {P : Program} {w : World} {K : PySem.W.Frag} {mg : Str → Option Value} {base : Heap} {f : Addr} {fd : FuncData}
theorem sc13 : FnScope ["web", "steps", "number", "tie"] ["web"] (defScope (top 24)) := ⟨rfl, rfl, rfl, by decide +kernel, rfl, by decide +kernel, by decide +kernel⟩
theorem nd13 : (["place", "web", "steps", "number", "tie"] : List Str).Nodup := by decide +kernel
theorem adj_succ {us : List Tie} {i : Nat} {t : Tie} (ht : us[i]? = some t) (j : Int) : adjL us (i + 1) j = adjL us i j ++ (if t.1 = j then [(t.2, (i : Int))] else if t.2 = j then [(t.1, (i : Int))] else []) := by
  show adjL us i j ++ (match us[i]? with | some t => _ | none => _) = _
  rw [ht]
theorem ok_steps (F : Fun K "steps_of_web" "steps_of_web" (top 24) f fd) (B : Bn mg) (he : mg "enumerate" = none) : FnOk P w K mg base CX0 1 f fd ["web"] spSteps := by
  refine F.ok sc13 (fun vs H Q E h => ?_) (fun cdv A outer s H vs Q E hr h => ?_)
  · obtain ⟨r, n, us, rfl, _⟩ := h
    rfl
  obtain ⟨r, n, us, rfl, ⟨t, ws, hr1, ht1, pr1⟩, n1, n16, hl, ok, q⟩ := h
  have nd := sc13.nd
  have h24 := sizeLine_eq
  refine ⟨_, pss_cons (ps_lc ["place"] (i := 1) rfl nd rfl (Or.inl rfl) (pi_range1 rfl B.range (pa_cons (pe_ix ix_tup (pv 0) pe_int (fun _ _ => rfl)) pa_nil)) (fun c => pg_name (i := 0) nd13 rfl (Or.inl rfl)) (fun c => pts_nil) (fun c => pe_lst pa_nil))
    (pss_cons (ps_for PassesOwn.never rfl (pi_enum rfl he (pa_cons (pe_ix ix_tup (pv 0) pe_int (fun _ _ => rfl)) pa_nil)) (pg_tup rfl (pgs_cons (pg_name (i := 2) nd rfl (Or.inl rfl)) (pgs_cons (pg_name (i := 3) nd rfl (Or.inl rfl)) pgs_nil)))
      (pss_cons (ps_expr (pe_bm PySem.F.plainAttrs_list PySem.F.slot_list_append PySem.F.type_list_append mt_append (pe_ix ix_list (pv 1) (pe_ix ix_tup (pv 3) pe_int (fun _ _ => rfl)) (fun _ _ => rfl)) (pa_cons (pe_tup (pa_cons (pe_ix ix_tup (pv 3) pe_int (fun _ _ => rfl)) (pa_cons (pv 2) pa_nil))) pa_nil)))
      (pss_one (ps_expr (pe_bm PySem.F.plainAttrs_list PySem.F.slot_list_append PySem.F.type_list_append mt_append (pe_ix ix_list (pv 1) (pe_ix ix_tup (pv 3) pe_int (fun _ _ => rfl)) (fun _ _ => rfl)) (pa_cons (pe_tup (pa_cons (pe_ix ix_tup (pv 3) pe_int (fun _ _ => rfl)) (pa_cons (pv 2) pa_nil))) pa_nil))))))
    (pss_one (ps_ret (pv 1)))), ?_⟩
  refine ⟨_, rfl, r, _, _, _, rfl, rfl, SqT.of hr1, at0 _ _, n, rfl, by omega, by omega, lc_rng (lo := 0) (k := n.toNat) (by omega) (fun i ys H' => ∃ as : List Addr, ys = as.map V.ref ∧ as.length = i ∧ as.Nodup ∧ (∀ a ∈ as, H' a = some (.lst []) ∧ H a = none) ∧ Same H H')
    ⟨[], rfl, rfl, List.Pairwise.nil, (fun a h => nomatch h), Same.refl _⟩ ?_ ?_ ?_⟩
  · rintro i ys H' ⟨as, rfl, e, _⟩
    rw [List.length_map, e]
    exact Nat.le_refl _
  · rintro c i ys H' hi ⟨as, rfl, e, nda, ha, sm⟩
    refine iteT (B := True) ⟨(by show 0 ≤ sizeLine; decide), fun l hl' => ?_⟩
    have b1 := same_new hl' (.lst [])
    refine ⟨as ++ [l], by rw [List.map_append]; rfl, by rw [List.length_append, e]; rfl, ?_, fun a h => ?_, sm.trans b1⟩
    · rw [List.nodup_append]
      refine ⟨nda, (by simp), fun x hx y hy z => ?_⟩
      have e1 : y = l := by simpa using hy
      rw [z, e1] at hx
      rw [(ha l hx).1] at hl'
      cases hl'
    · rcases List.mem_append.mp h with z | z
      · exact ⟨b1 _ _ (ha a z).1, (ha a z).2⟩
      · have e1 : a = l := by simpa using z
        subst e1
        exact ⟨upd_same, sm.free hl'⟩
  · rintro ys H' ⟨as, rfl, e, nda, ha, sm⟩ st hst
    have b1 := same_new hst (.lst (as.map V.ref))
    have hHst : H st = none := sm.free hst
    have sm1 := sm.trans b1
    have hast : ∀ a ∈ as, a ≠ st := fun a h z => by rw [← z, (ha a h).1] at hst; cases hst
    have hlw := pr1.length
    refine ⟨_, rfl, r, _, _, _, rfl, rfl, SqT.of (sm1 _ _ hr1), at1 _ _, t, rfl, ⟨ws, SqT.of (sm1 _ _ ht1)⟩, for_enum (xs := ws) (fun i σ H2 => ∃ a2 a3, σ = [some (.ref r), some (.ref st), a2, a3] ∧ H2 st = some (.lst (as.map V.ref)) ∧ (∀ (j : Nat) (a : Addr), as[j]? = some a → ∃ xs, H2 a = some (.lst xs) ∧ xs.length ≤ 100 ∧ Prs H2 xs (adjL us i j)) ∧ i ≤ ws.length ∧ Same H H2)
      ⟨_, _, rfl, upd_same, fun j a h => ⟨[], b1 _ _ (ha a (List.mem_of_getElem? h)).1, by simp, .nil⟩, Nat.zero_le _, sm1⟩ ?_ ?_ ?_⟩
    · rintro i σ H2 _ ⟨_, _, _, _, _, _, s2⟩
      exact SqT.of (s2 _ _ ht1)
    · rintro i x tt σ H2 hx htt ⟨a2, a3, rfl, hst2, hall, hi, s2⟩
      obtain ⟨tie, htie, pp, rfl, hpp⟩ := pgetL pr1 hx
      obtain ⟨o1, o2, o3, o4, o5⟩ := ok tie (List.mem_of_getElem? htie)
      have hi1 := (List.getElem?_eq_some_iff.mp hx).1
      have c0 := same_new htt (.tup [V.int i, V.ref pp])
      have hpp2 := c0 _ _ (s2 _ _ hpp)
      have hst3 := c0 _ _ hst2
      -- the two lists
      have hla : tie.1.toNat < as.length := by omega
      have hlb : tie.2.toNat < as.length := by omega
      obtain ⟨xa, hxa, lxa, pxa⟩ := hall _ _ (List.getElem?_eq_getElem hla)
      obtain ⟨xb, hxb, lxb, pxb⟩ := hall _ _ (List.getElem?_eq_getElem hlb)
      have hab : as[tie.1.toNat] ≠ as[tie.2.toNat] := fun z => by
        have := (List.getElem_inj nda).mp z
        omega
      have ga : atI (as.map V.ref) tie.1 = some (.ref as[tie.1.toNat]) := by
        have ek : tie.1 = ((tie.1.toNat : Nat) : Int) := by omega
        have q0 : atI (as.map V.ref) ((tie.1.toNat : Nat) : Int) = some (.ref as[tie.1.toNat]) := atI_nat (by rw [List.getElem?_map, List.getElem?_eq_getElem hla]; rfl)
        rw [← ek] at q0
        exact q0
      have gb : atI (as.map V.ref) tie.2 = some (.ref as[tie.2.toNat]) := by
        have ek : tie.2 = ((tie.2.toNat : Nat) : Int) := by omega
        have q0 : atI (as.map V.ref) ((tie.2.toNat : Nat) : Int) = some (.ref as[tie.2.toNat]) := atI_nat (by rw [List.getElem?_map, List.getElem?_eq_getElem hlb]; rfl)
        rw [← ek] at q0
        exact q0
      have oldN : ∀ a ∈ as, H a = none := fun a h => (ha a h).2
      refine ⟨tt, _, rfl, SqT.of upd_same, rfl, _, _, rfl, _, _, rfl, rfl, ?_⟩
      refine ⟨_, rfl, _, rfl, pp, _, _, _, rfl, rfl, SqT.of hpp2, at0 _ _, st, _, _, _, rfl, rfl, SqL.of hst3, ga, .inl ⟨rfl, _, SqL.of (c0 _ _ hxa)⟩, _, rfl, pp, _, _, _, rfl, rfl, SqT.of hpp2, at1 _ _, _, rfl, (by show 2 ≤ sizeLine; decide), fun t1 ht1' => ?_⟩
      have c1 := same_new ht1' (.tup [V.int tie.2, V.int i])
      have hxa1 := (c0.trans c1) _ _ hxa
      refine ⟨as[tie.1.toNat], xa, _, rfl, rfl, hxa1, by omega, ?_⟩
      have hne1 : ∀ {b u}, H b = some u → b ≠ as[tie.1.toNat] := fun {b u} z => ne_of_none z (oldN _ (List.getElem_mem hla))
      have hpp3 : upd (upd (upd H2 tt (.tup [V.int i, V.ref pp])) t1 (.tup [V.int tie.2, V.int i])) as[tie.1.toNat] (.lst (xa ++ [V.ref t1])) pp = some (.tup [V.int tie.1, V.int tie.2]) := by rw [upd_ne (hne1 hpp)]; exact c1 _ _ hpp2
      have hst4 : upd (upd (upd H2 tt (.tup [V.int i, V.ref pp])) t1 (.tup [V.int tie.2, V.int i])) as[tie.1.toNat] (.lst (xa ++ [V.ref t1])) st = some (.lst (as.map V.ref)) := by rw [upd_ne (Ne.symm (hast _ (List.getElem_mem hla)))]; exact c1 _ _ hst3
      have hxb1 : upd (upd (upd H2 tt (.tup [V.int i, V.ref pp])) t1 (.tup [V.int tie.2, V.int i])) as[tie.1.toNat] (.lst (xa ++ [V.ref t1])) as[tie.2.toNat] = some (.lst xb) := by rw [upd_ne (Ne.symm hab)]; exact (c0.trans c1) _ _ hxb
      refine ⟨_, rfl, _, rfl, pp, _, _, _, rfl, rfl, SqT.of hpp3, at1 _ _, st, _, _, _, rfl, rfl, SqL.of hst4, gb, .inl ⟨rfl, _, SqL.of hxb1⟩, _, rfl, pp, _, _, _, rfl, rfl, SqT.of hpp3, at0 _ _, _, rfl, (by show 2 ≤ sizeLine; decide), fun t2 ht2 => ?_⟩
      have c2 := same_new ht2 (.tup [V.int tie.1, V.int i])
      have hxb2 := c2 _ _ hxb1
      refine ⟨as[tie.2.toNat], xb, _, rfl, rfl, hxb2, by omega, ?_⟩
      have hne2 : ∀ {b u}, H b = some u → b ≠ as[tie.2.toNat] := fun {b u} z => ne_of_none z (oldN _ (List.getElem_mem hlb))
      refine ⟨_, _, rfl, ?_, fun j a hj => ?_, hi1, fun b u z => ?_⟩
      · rw [upd_ne (Ne.symm (hast _ (List.getElem_mem hlb)))]
        exact c2 _ _ hst4
      · obtain ⟨xj, hxj, lxj, pxj⟩ := hall j a hj
        have hjl := (List.getElem?_eq_some_iff.mp hj).1
        have ejs : adjL us (i + 1) j = adjL us i j ++ (if tie.1 = (j : Int) then [(tie.2, (i : Int))] else if tie.2 = (j : Int) then [(tie.1, (i : Int))] else []) := adj_succ htie j
        -- all pairs stay
        have keepP : ∀ {vs : List V} {ts : List Tie}, Prs H2 vs ts → Prs (upd (upd (upd (upd (upd H2 tt (.tup [V.int i, V.ref pp])) t1 (.tup [V.int tie.2, V.int i])) as[tie.1.toNat] (.lst (xa ++ [V.ref t1]))) t2 (.tup [V.int tie.1, V.int i])) as[tie.2.toNat] (.lst (xb ++ [V.ref t2]))) vs ts := fun z =>
          prs_wr hxb2 (Prs.same c2 (prs_wr hxa1 (Prs.same (c0.trans c1) z)))
        have ht1f : upd (upd (upd (upd (upd H2 tt (.tup [V.int i, V.ref pp])) t1 (.tup [V.int tie.2, V.int i])) as[tie.1.toNat] (.lst (xa ++ [V.ref t1]))) t2 (.tup [V.int tie.1, V.int i])) as[tie.2.toNat] (.lst (xb ++ [V.ref t2])) t1 = some (.tup [V.int tie.2, V.int i]) := by
          have z1 : upd (upd (upd H2 tt (.tup [V.int i, V.ref pp])) t1 (.tup [V.int tie.2, V.int i])) as[tie.1.toNat] (.lst (xa ++ [V.ref t1])) t1 = some (.tup [V.int tie.2, V.int i]) := by rw [upd_ne (ne_of upd_same hxa1 (by intro z; cases z))]; exact upd_same
          have z2 := c2 _ _ z1
          rw [upd_ne (ne_of z2 hxb2 (by intro z; cases z))]
          exact z2
        have ht2f : upd (upd (upd (upd (upd H2 tt (.tup [V.int i, V.ref pp])) t1 (.tup [V.int tie.2, V.int i])) as[tie.1.toNat] (.lst (xa ++ [V.ref t1]))) t2 (.tup [V.int tie.1, V.int i])) as[tie.2.toNat] (.lst (xb ++ [V.ref t2])) t2 = some (.tup [V.int tie.1, V.int i]) := by
          rw [upd_ne (ne_of upd_same hxb2 (by intro z; cases z))]
          exact upd_same
        rw [ejs]
        by_cases ja : j = tie.1.toNat
        · have ea : a = as[tie.1.toNat] := by
            have z : as[tie.1.toNat]? = some a := ja ▸ hj
            rw [List.getElem?_eq_getElem hla] at z
            exact (Option.some.inj z).symm
          rw [ea] at hxj ⊢
          rw [hxa] at hxj
          cases hxj
          have hlj := pxj.length
          refine ⟨xa ++ [V.ref t1], ?_, ?_, ?_⟩
          · rw [upd_ne hab]
            exact c2 _ _ upd_same
          · rw [List.length_append, List.length_singleton]
            have := adj_len us i j
            omega
          · rw [if_pos (by omega)]
            exact (keepP pxj).snoc ⟨t1, rfl, ht1f⟩
        · rw [if_neg (by omega)]
          by_cases jb : j = tie.2.toNat
          · have ea : a = as[tie.2.toNat] := by
              have z : as[tie.2.toNat]? = some a := jb ▸ hj
              rw [List.getElem?_eq_getElem hlb] at z
              exact (Option.some.inj z).symm
            rw [ea] at hxj ⊢
            rw [hxb] at hxj
            cases hxj
            refine ⟨xb ++ [V.ref t2], upd_same, ?_, ?_⟩
            · have hlj := pxj.length
              rw [List.length_append, List.length_singleton]
              have := adj_len us i j
              omega
            · rw [if_pos (by omega)]
              exact (keepP pxj).snoc ⟨t2, rfl, ht2f⟩
          · rw [if_neg (by omega), List.append_nil]
            have na : a ≠ as[tie.1.toNat] := fun z => by
              have z2 : as[j] = as[tie.1.toNat] := by rw [List.getElem?_eq_getElem hjl] at hj; rw [Option.some.inj hj]; exact z
              exact ja ((List.getElem_inj nda).mp z2)
            have nb : a ≠ as[tie.2.toNat] := fun z => by
              have z2 : as[j] = as[tie.2.toNat] := by rw [List.getElem?_eq_getElem hjl] at hj; rw [Option.some.inj hj]; exact z
              exact jb ((List.getElem_inj nda).mp z2)
            refine ⟨xj, ?_, lxj, keepP pxj⟩
            rw [upd_ne nb]
            refine c2 _ _ ?_
            rw [upd_ne na]
            exact (c0.trans c1) _ _ hxj
      · rw [upd_ne (hne2 z)]
        refine c2 _ _ ?_
        rw [upd_ne (hne1 z)]
        exact (c0.trans c1) _ _ (s2 _ _ z)
    · rintro σ H2 ⟨a2, a3, rfl, hst2, hall, hi, s2⟩
      have elen : ws.length = us.length := hlw
      refine ⟨_, rfl, q st H2 s2 ⟨as, e, hst2, fun j a hj => ?_⟩⟩
      obtain ⟨xj, hxj, _, pxj⟩ := hall j a hj
      rw [elen] at pxj
      exact ⟨xj, hxj, pxj⟩
end
end Nf

set_option Elab.async false
set_option linter.all false
set_option maxRecDepth 100000
namespace Nf
open PySem L2 PyProof.Rows
theorem nd_len {l : List Int} {n : Nat} (hn : l.Nodup) (hr : ∀ x ∈ l, 0 ≤ x ∧ x < n) : l.length ≤ n := by
  have nd : ((List.range n).map fun i => ((i : Nat) : Int)).Nodup := (rise_ints n).imp fun h => by omega
  have hp : l.Perm (((List.range n).map fun i => ((i : Nat) : Int)).filter fun x => decide (x ∈ l)) := (List.perm_ext_iff_of_nodup hn (nd.filter _)).mpr fun q => by
    rw [List.mem_filter, List.mem_map]
    constructor
    · intro h
      have := hr q h
      exact ⟨⟨q.toNat, List.mem_range.mpr (by omega), by omega⟩, decide_eq_true h⟩
    · intro h
      exact of_decide_eq_true h.2
  have := List.length_filter_le (fun x => decide (x ∈ l)) ((List.range n).map fun i => ((i : Nat) : Int))
  rw [hp.length_eq]
  simpa using this
theorem val_mem {kvs : List (Key × V)} {l : List Int} (h : kvs.map (·.1) = l.map Sum.inl) (y : Int) : (valV kvs (Sum.inl y)).isSome = decide (y ∈ l) := by
  rw [← valV_any]
  induction kvs generalizing l with
  | nil =>
    cases l with
    | nil => rfl
    | cons _ _ => simp at h
  | cons kv kvs ih =>
    cases l with
    | nil => simp at h
    | cons x l =>
      rw [List.map_cons, List.map_cons] at h
      injection h with h1 h2
      rw [List.any_cons, ih h2, h1, Bool.eq_iff_iff]
      simp
      constructor
      · rintro (h | h)
        · exact .inl h.symm
        · exact .inr h
      · rintro (h | h)
        · exact .inl h.symm
        · exact .inr h
structure Came (H : Hp) (us : List Tie) (a : Int) (d : Addr) (l : List Int) : Prop where
  ex : ∃ kvs : List (Key × V), H d = some (.dK kvs) ∧ kvs.map (·.1) = l.map Sum.inl
  nd : l.Nodup
  rch : ∀ q ∈ l, Rch (Edge us) a q
section
variable {P : Program} {w : World} {K : PySem.W.Frag} {mg : Str → Option Value} {base : Heap} {f : Addr} {fd : FuncData}
theorem sc14 : FnScope ["steps", "start", "came", "row", "later", "place", "step"] ["steps", "start"] (defScope (top 25)) := ⟨rfl, rfl, rfl, by decide +kernel, rfl, by decide +kernel, by decide +kernel⟩
theorem ok_search (F : Fun K "search" "search" (top 25) f fd) : FnOk P w K mg base CX0 1 f fd ["steps", "start"] spSearch := by
  refine F.ok sc14 (fun vs H Q E h => ?_) (fun cdv A outer s H vs Q E hr h => ?_)
  · obtain ⟨st, n, us, a, rfl, _⟩ := h
    rfl
  obtain ⟨st, n, us, a, rfl, hst, n16, hl, ok, a0, a1, q⟩ := h
  have nd := sc14.nd
  have h24 := sizeLine_eq
  have hu := hu_of hr
  refine ⟨_, pss_cons (ps_set (i := 2) nd rfl (Or.inl rfl) (pe_disp (pps_cons (pv 1) pe_non pps_nil) rfl rfl (by intro z; cases z) (by show 1 ≤ 15; decide)))
    (pss_cons (ps_set (i := 3) nd rfl (Or.inl rfl) (pe_lst (pa_cons (pv 1) pa_nil)))
    (pss_cons (ps_while PassesOwn.never (pt_truth (pv 3) (fun _ => rfl))
      (pss_cons (ps_set (i := 4) nd rfl (Or.inl rfl) (pe_lst pa_nil))
      (pss_cons (ps_for PassesOwn.never rfl (pi_list (pv 3)) (pg_name (i := 5) nd rfl (Or.inl rfl))
        (pss_one (ps_for PassesOwn.never rfl (pi_list (pe_ix ix_list (pv 0) (pv 5) (fun _ _ => rfl))) (pg_name (i := 6) nd rfl (Or.inl rfl))
          (pss_one (ps_if (pt_cmp (pc_dnotin hu (pe_ix ix_tup (pv 6) pe_int (fun _ _ => rfl)) (pv 2)))
            (pss_cons (ps_dput hu (pv 2) (pe_ix ix_tup (pv 6) pe_int (fun _ _ => rfl)) (pe_tup (pa_cons (pv 5) (pa_cons (pe_ix ix_tup (pv 6) pe_int (fun _ _ => rfl)) pa_nil))) rfl)
            (pss_one (ps_expr (pe_bm PySem.F.plainAttrs_list PySem.F.slot_list_append PySem.F.type_list_append mt_append (pv 4) (pa_cons (pe_ix ix_tup (pv 6) pe_int (fun _ _ => rfl)) pa_nil))))) pss_nil)))))
      (pss_one (ps_set (i := 3) nd rfl (Or.inl rfl) (pv 4))))))
    (pss_one (ps_ret (pv 2))))), ?_⟩
  have rng : ∀ q, Rch (Edge us) a q → 0 ≤ q ∧ q < n := fun q h => Rch.range ok a0 a1 h
  refine fun d hd => ⟨_, rfl, upd_same, [(Sum.inl a, .non)], rfl, (by show 1 ≤ 15; decide), ?_⟩
  refine ⟨_, rfl, (by show 1 ≤ sizeLine; decide), fun Lr0 hLr0 => ?_⟩
  have b0 : Same H (upd (upd H d (.dK [])) d (.dK (mergeK [] [(Sum.inl a, .non)]))) := fun b o e => by rw [upd_upd, upd_ne (ne_of_none e hd)]; exact e
  have b1 := same_new hLr0 (.lst [V.int a])
  refine ⟨fun m σ H' => ∃ (Lr : Addr) (rw ks : List Int) (a4 a5 a6 : Option V), σ = [some (.ref st), some (.int a), some (.ref d), some (.ref Lr), a4, a5, a6] ∧ m = 2 * (n - ks.length) + (if rw = [] then 0 else 1) ∧ Came H' us a d ks ∧ a ∈ ks ∧ H' Lr = some (.lst (rw.map V.int)) ∧
      (∀ x ∈ rw, x ∈ ks) ∧ (∀ x ∈ ks, x ∉ rw → ∀ y, Edge us x y → y ∈ ks) ∧ Same H H', ⟨_, Lr0, [a], [a], _, _, _, rfl, rfl, ⟨⟨[(Sum.inl a, .non)], b1 _ _ (by rw [upd_same]; rfl), rfl⟩, by simp, fun q hq => ?_⟩, by simp, upd_same, fun x h => h, fun x h1 h2 => absurd h1 h2, b0.trans b1⟩, ?_⟩
  · have e : q = a := by simpa using hq
    rw [e]
    exact .refl
  rintro m σ H1 ⟨Lr, rw', ks, a4, a5, a6, rfl, rfl, ⟨⟨kvs, hd1, hk1⟩, nd1, rc1⟩, hak, hLr, hrk, hcl, s1⟩
  refine ⟨_, rfl, !(rw'.map V.int).isEmpty, .inl ⟨_, SqL.of hLr, rfl⟩, ?_⟩
  have hks : ks.length ≤ n := nd_len nd1 fun x h => rng x (rc1 x h)
  cases hrw : rw' with
  | nil =>
    subst hrw
    refine iteF (A := True) ⟨_, rfl, q d kvs ks H1 s1 hd1 hk1 nd1 (fun y => ⟨rc1 y, fun h => Rch.closed hak (fun x y hx e => hcl x hx (fun z => nomatch z) y e) h⟩) hd⟩
  | cons r0 rr =>
    rw [← hrw]
    have hne : rw' ≠ [] := by rw [hrw]; intro z; cases z
    have ee : (!(rw'.map V.int).isEmpty) = true := by rw [hrw]; rfl
    rw [ee]
    refine iteT (B := True) ⟨fun σ' H' => ∃ m', m' < 2 * (n - ks.length) + (if rw' = [] then 0 else 1) ∧ ∃ (Lr : Addr) (rw ks : List Int) (a4 a5 a6 : Option V), σ' = [some (.ref st), some (.int a), some (.ref d), some (.ref Lr), a4, a5, a6] ∧ m' = 2 * (n - ks.length) + (if rw = [] then 0 else 1) ∧ Came H' us a d ks ∧ a ∈ ks ∧ H' Lr = some (.lst (rw.map V.int)) ∧
      (∀ x ∈ rw, x ∈ ks) ∧ (∀ x ∈ ks, x ∉ rw → ∀ y, Edge us x y → y ∈ ks) ∧ Same H H', fun σ' H' h => h, ?_⟩
    refine ⟨(by show 0 ≤ sizeLine; decide), fun Ll hLl => ?_⟩
    have b2 := same_new hLl (.lst [])
    have hLrl : Lr ≠ Ll := ne_of_none hLr hLl
    have hHLl : H Ll = none := s1.free hLl
    have hHLr : H Lr = none ∨ True := .inr trivial
    rw [if_neg hne]
    -- over the row
    refine ⟨_, rfl, Lr, rfl, ⟨_, SqL.of (b2 _ _ hLr)⟩, for_list (xs := rw'.map V.int) (fun i σ H2 => ∃ (nw : List Int) (a5 a6 : Option V), σ = [some (.ref st), some (.int a), some (.ref d), some (.ref Lr), some (.ref Ll), a5, a6] ∧ Came H2 us a d (ks ++ nw) ∧ H2 Ll = some (.lst (nw.map V.int)) ∧ H2 Lr = some (.lst (rw'.map V.int)) ∧
        (∀ x ∈ rw'.take i, ∀ y, Edge us x y → y ∈ ks ++ nw) ∧ Same H H2) ⟨[], _, _, rfl, ⟨⟨kvs, b2 _ _ hd1, by rw [List.append_nil]; exact hk1⟩, by rw [List.append_nil]; exact nd1, by rw [List.append_nil]; exact rc1⟩, upd_same, b2 _ _ hLr, by simp, s1.trans b2⟩ ?_ ?_ ?_⟩
    · rintro i σ H2 _ ⟨_, _, _, _, _, _, h, _⟩
      exact SqL.of h
    · rintro i x σ H2 hx ⟨nw, a5, a6, rfl, C2, hLl2, hLr2, hdone, s2⟩
      rw [List.getElem?_map] at hx
      obtain ⟨xi, hxi, rfl⟩ : ∃ xi, rw'[i]? = some xi ∧ V.int xi = x := by
        cases z : rw'[i]? with
        | none => rw [z] at hx; cases hx
        | some xi => rw [z] at hx; exact ⟨xi, rfl, Option.some.inj hx⟩
      have hxr : xi ∈ rw' := List.mem_of_getElem? hxi
      have hxk := rc1 xi (hrk xi hxr)
      have hxn := rng xi hxk
      obtain ⟨as, has, hst2, hall⟩ := (hst.same s2).ex
      have hlx : xi.toNat < as.length := by omega
      obtain ⟨xs, hxs, pxs⟩ := hall _ _ (List.getElem?_eq_getElem hlx)
      have ek : (((xi.toNat : Nat) : Int)) = xi := by omega
      rw [ek] at pxs
      have gx : atI (as.map V.ref) xi = some (.ref as[xi.toNat]) := by
        have q0 : atI (as.map V.ref) ((xi.toNat : Nat) : Int) = some (.ref as[xi.toNat]) := atI_nat (by rw [List.getElem?_map, List.getElem?_eq_getElem hlx]; rfl)
        rw [ek] at q0
        exact q0
      -- the list of steps was there at the start
      obtain ⟨as0, has0, hst0, hall0⟩ := hst.ex
      have eas : as = as0 := by
        have z := s2 _ _ hst0
        rw [hst2] at z
        injection z with z
        injection z with z
        exact (List.map_inj_right fun _ _ h => V.ref.inj h).mp z
      subst eas
      obtain ⟨xs0, hxs0, pxs0⟩ := hall0 _ _ (List.getElem?_eq_getElem hlx)
      rw [ek] at pxs0
      have exs : xs = xs0 := by
        have z := s2 _ _ hxs0
        rw [hxs] at z
        injection z with z
        injection z
      subst exs
      refine ⟨_, rfl, _, rfl, st, _, _, _, rfl, rfl, SqL.of hst2, gx, as[xi.toNat], rfl, ⟨xs, SqL.of hxs⟩, for_list (xs := xs) (fun j σ H3 => ∃ (nw : List Int) (a6 : Option V), σ = [some (.ref st), some (.int a), some (.ref d), some (.ref Lr), some (.ref Ll), some (.int xi), a6] ∧ Came H3 us a d (ks ++ nw) ∧ H3 Ll = some (.lst (nw.map V.int)) ∧ H3 Lr = some (.lst (rw'.map V.int)) ∧
        (∀ x ∈ rw'.take i, ∀ y, Edge us x y → y ∈ ks ++ nw) ∧ (∀ t ∈ (adjL us us.length xi).take j, t.1 ∈ ks ++ nw) ∧ Same H H3) ⟨nw, _, rfl, C2, hLl2, hLr2, hdone, by simp, s2⟩ ?_ ?_ ?_⟩
      · rintro j σ H3 _ ⟨_, _, _, _, _, _, _, _, s3⟩
        exact SqL.of (s3 _ _ hxs0)
      · rintro j sv σ H3 hsv ⟨nw, a6, rfl, C3, hLl3, hLr3, hdone3, hadj, s3⟩
        obtain ⟨⟨kvs3, hd3, hk3⟩, nd3, rc3⟩ := C3
        obtain ⟨t, ht, pp, rfl, hpp⟩ := pgetL (Prs.same s3 pxs0) hsv
        have hpp0 : H pp = some (.tup [V.int t.1, V.int t.2]) := by
          obtain ⟨t', ht', pp', e', hpp'⟩ := pgetL pxs0 hsv
          cases e'
          rw [ht] at ht'
          cases ht'
          exact hpp'
        have htm : t ∈ adjL us us.length xi := List.mem_of_getElem? ht
        have het : Edge us xi t.1 := (adj_all (fun t ht => (ok t ht).2.2.2.2)).mp ⟨t.2, htm⟩
        have hl3 : (ks ++ nw).length ≤ n := nd_len nd3 fun x h => rng x (rc3 x h)
        have hkl : kvs3.length = (ks ++ nw).length := by have := congrArg List.length hk3; simpa using this
        have etake : (adjL us us.length xi).take (j + 1) = (adjL us us.length xi).take j ++ [t] := by rw [List.take_add_one, ht]; rfl
        refine ⟨_, rfl, pp, _, _, _, rfl, rfl, SqT.of hpp, at0 _ _, _, rfl, d, _, rfl, DGet.k (k := Sum.inl t.1) hd3, _, rfl, ?_⟩
        rw [val_mem hk3]
        by_cases hin : t.1 ∈ ks ++ nw
        · rw [decide_eq_true hin]
          refine iteF (A := True) ⟨nw, _, rfl, ⟨⟨kvs3, hd3, hk3⟩, nd3, rc3⟩, hLl3, hLr3, hdone3, fun t' ht' => ?_, s3⟩
          rw [etake] at ht'
          rcases List.mem_append.mp ht' with z | z
          · exact hadj t' z
          · have e : t' = t := by simpa using z
            rw [e]; exact hin
        · rw [decide_eq_false hin]
          refine iteT (B := True) ⟨_, rfl, _, rfl, pp, _, _, _, rfl, rfl, SqT.of hpp, at1 _ _, (by show 2 ≤ sizeLine; decide), fun tt htt => ?_⟩
          have c1 := same_new htt (.tup [V.int xi, V.int t.2])
          have hd4 := c1 _ _ hd3
          refine ⟨_, rfl, _, rfl, pp, _, _, _, rfl, rfl, SqT.of (c1 _ _ hpp), at0 _ _, d, _, rfl, DPut.k (k := Sum.inl t.1) hd4 (by omega), ?_⟩
          have hvn : valV kvs3 (Sum.inl t.1) = none := by
            have z := val_mem hk3 t.1
            rw [decide_eq_false hin] at z
            cases w : valV kvs3 (Sum.inl t.1) with
            | none => rfl
            | some v => rw [w] at z; cases z
          rw [putK_new _ hvn]
          have neD : ∀ {b u}, upd H3 tt (.tup [V.int xi, V.int t.2]) b = some u → u ≠ .dK kvs3 → b ≠ d := fun {b u} z1 z2 => ne_of z1 hd4 z2
          have hLl4 : upd (upd H3 tt (.tup [V.int xi, V.int t.2])) d (.dK (kvs3 ++ [(Sum.inl t.1, .ref tt)])) Ll = some (.lst (nw.map V.int)) := by rw [upd_ne (neD (c1 _ _ hLl3) (by intro z; cases z))]; exact c1 _ _ hLl3
          have hLr4 : upd (upd H3 tt (.tup [V.int xi, V.int t.2])) d (.dK (kvs3 ++ [(Sum.inl t.1, .ref tt)])) Lr = some (.lst (rw'.map V.int)) := by rw [upd_ne (neD (c1 _ _ hLr3) (by intro z; cases z))]; exact c1 _ _ hLr3
          have hpp4 : upd (upd H3 tt (.tup [V.int xi, V.int t.2])) d (.dK (kvs3 ++ [(Sum.inl t.1, .ref tt)])) pp = some (.tup [V.int t.1, V.int t.2]) := by rw [upd_ne (neD (c1 _ _ hpp) (by intro z; cases z))]; exact c1 _ _ hpp
          refine ⟨_, rfl, .inl ⟨rfl, _, SqL.of hLl4⟩, _, rfl, pp, _, _, _, rfl, rfl, SqT.of hpp4, at0 _ _, Ll, _, _, rfl, rfl, hLl4, ?_, ?_⟩
          · rw [List.length_map]
            rw [List.length_append] at hl3
            omega
          have hdl : d ≠ Ll := ne_of (show upd (upd H3 tt (.tup [V.int xi, V.int t.2])) d (.dK (kvs3 ++ [(Sum.inl t.1, .ref tt)])) d = some (.dK (kvs3 ++ [(Sum.inl t.1, .ref tt)])) from upd_same) hLl4 (by intro z; cases z)
          refine ⟨nw ++ [t.1], _, rfl, ⟨⟨kvs3 ++ [(Sum.inl t.1, .ref tt)], by rw [upd_ne hdl]; exact upd_same, ?_⟩, ?_, fun y hy => ?_⟩, ?_, ?_, fun x hx y e => ?_, fun t' ht' => ?_, fun b u z => ?_⟩
          · rw [List.map_append, hk3, ← List.append_assoc, List.map_append]
            simp
          · rw [← List.append_assoc, List.nodup_append]
            refine ⟨nd3, by simp, fun x hx y hy z => ?_⟩
            have e : y = t.1 := by simpa using hy
            rw [z, e] at hx
            exact hin hx
          · rw [← List.append_assoc] at hy
            rcases List.mem_append.mp hy with z | z
            · exact rc3 y z
            · have e : y = t.1 := by simpa using z
              rw [e]
              exact hxk.step het
          · rw [upd_same, List.map_append]
            rfl
          · rw [upd_ne hLrl]
            exact hLr4
          · rw [← List.append_assoc]
            exact List.mem_append_left _ (hdone3 x hx y e)
          · rw [← List.append_assoc]
            rw [etake] at ht'
            rcases List.mem_append.mp ht' with z | z
            · exact List.mem_append_left _ (hadj t' z)
            · have e : t' = t := by simpa using z
              rw [e]
              exact List.mem_append_right _ (by simp)
          · rw [upd_ne (ne_of_none z hHLl), upd_ne (ne_of_none z hd)]
            exact c1 _ _ (s3 _ _ z)
      · rintro σ H3 ⟨nw, a6, rfl, C3, hLl3, hLr3, hdone3, hadj, s3⟩
        refine ⟨nw, _, _, rfl, C3, hLl3, hLr3, fun x hx y e => ?_, s3⟩
        have et : rw'.take (i + 1) = rw'.take i ++ [xi] := by rw [List.take_add_one, hxi]; rfl
        rw [et] at hx
        rcases List.mem_append.mp hx with z | z
        · exact hdone3 x z y e
        · have e2 : x = xi := by simpa using z
          subst e2
          obtain ⟨k, hk⟩ := (adj_all (fun t ht => (ok t ht).2.2.2.2)).mpr e
          have hlp := pxs0.length
          have efull : (adjL us us.length x).take xs.length = adjL us us.length x := List.take_of_length_le (by omega)
          rw [efull] at hadj
          exact hadj (y, k) hk
    · rintro σ H2 ⟨nw, a5, a6, rfl, C2, hLl2, hLr2, hdone, s2⟩
      have efull : rw'.take (rw'.map V.int).length = rw' := List.take_of_length_le (by rw [List.length_map]; exact Nat.le_refl _)
      rw [efull] at hdone
      have hl2 : (ks ++ nw).length ≤ n := nd_len C2.nd fun x h => rng x (C2.rch x h)
      refine ⟨_, rfl, 2 * (n - (ks ++ nw).length) + (if nw = [] then 0 else 1), ?_, Ll, nw, ks ++ nw, _, _, _, rfl, rfl, C2, List.mem_append_left _ hak, hLl2, fun x h => List.mem_append_right _ h, fun x hx hxn y e => ?_, s2⟩
      · rw [List.length_append] at hl2 ⊢
        by_cases z : nw = []
        · rw [if_pos z]; subst z; simp
        · rw [if_neg z]
          have := List.length_pos_iff.mpr z
          omega
      · rcases List.mem_append.mp hx with z | z
        · by_cases zr : x ∈ rw'
          · exact hdone x zr y e
          · exact List.mem_append_left _ (hcl x z zr y e)
        · exact absurd z hxn
end
end Nf

set_option Elab.async false
set_option linter.all false
set_option maxRecDepth 100000
namespace Nf
open PySem L2 PyProof.Rows
structure Web (H : Hp) (r : Addr) (n : Int) (us : List Tie) : Prop where
  told : Told H r n us
  n1 : 1 ≤ n
  n16 : n ≤ 16
  len : us.length ≤ 40
  ok : ∀ t ∈ us, OkT n t
theorem Web.same {H H' : Hp} {r : Addr} {n : Int} {us : List Tie} (T : Web H r n us) (s : Same H H') : Web H' r n us := ⟨T.told.same s, T.n1, T.n16, T.len, T.ok⟩
structure LL (H : Hp) (l : Addr) (as : List Addr) (ls : List (List Int)) : Prop where
  lst : H l = some (.lst (as.map V.ref))
  inn : Paired (fun (a : Addr) (s : List Int) => H a = some (.lst (s.map V.int))) as ls
noncomputable def spPart : Sp := fun vs H Q _ => ∃ (r : Addr) (n : Int) (us : List Tie) (a : Int), vs = [.ref r, .int a] ∧ Web H r n us ∧ 0 ≤ a ∧ a < n ∧ ∀ l H', Same H H' → H' l = some (.lst ((prt n.toNat (Edge us) a).map V.int)) → H l = none → Q (.ref l) H'
section
variable {P : Program} {w : World} {K : PySem.W.Frag} {mg : Str → Option Value} {base : Heap} {f : Addr} {fd : FuncData}
theorem sc15 : FnScope ["web", "place"] ["web", "place"] (defScope (top 26)) := ⟨rfl, rfl, rfl, by decide +kernel, rfl, by decide +kernel, by decide +kernel⟩
theorem ok_part (F : Fun K "part_of" "part_of" (top 26) f fd) (B : Bn mg) (ST : Cal P w K mg base 1 "steps_of_web" ["web"] spSteps) (SE : Cal P w K mg base 1 "search" ["steps", "start"] spSearch) : FnOk P w K mg base CX0 2 f fd ["web", "place"] spPart := by
  refine F.ok sc15 (fun vs H Q E h => ?_) (fun cdv A outer s H vs Q E hr h => ?_)
  · obtain ⟨r, n, us, a, rfl, _⟩ := h
    rfl
  obtain ⟨r, n, us, a, rfl, W, a0, a1, q⟩ := h
  refine ⟨_, pss_one (ps_ret (pe_callB (call_sortedD rfl) rfl B.sorted boot_sorted (pa_cons (pc SE hr (pa_cons (pc ST hr (pa_cons (pv 0) pa_nil)) (pa_cons (pv 1) pa_nil))) pa_nil))), ?_⟩
  have en : ((n.toNat : Nat) : Int) = n := by have := W.n1; omega
  have n16 := W.n16
  have okN : ∀ t ∈ us, OkT ((n.toNat : Nat) : Int) t := by rw [en]; exact W.ok
  refine ⟨_, rfl, r, n, us, rfl, W.told, W.n1, W.n16, W.len, W.ok, fun st H1 s1 hst => ?_⟩
  refine ⟨_, rfl, st, n.toNat, us, a, rfl, hst, by omega, W.len, okN, a0, by omega, fun d kvs ks H2 s2 hd hk nd hm hdn => ?_⟩
  have hr : ∀ y, Rch (Edge us) a y → 0 ≤ y ∧ y < (n.toNat : Nat) := fun y hy => Rch.range okN a0 (by omega) hy
  refine ⟨d, kvs, ks, rfl, hd, hk, ?_, fun l out hl hp hs => ?_⟩
  · have := nd_len nd fun x h => hr x ((hm x).mp h)
    omega
  · have e := prt_eq (n := n.toNat) hp hs nd hm hr
    subst e
    exact q l _ (s1.trans (s2.trans (same_new hl _))) upd_same ((s1.trans s2).free hl)
end
end Nf

set_option Elab.async false
set_option linter.all false
set_option maxRecDepth 100000
namespace Nf
open PySem L2 PyProof.Rows
theorem PS.wk {X : Cx} {st : Stmt} {t t' : TS} (h : PS X st t) (w : ∀ D σ H, t' D σ H → t D σ H) : PS X st t' := fun pins s σ H D I q => h pins s σ H D I (w D σ H q)
noncomputable def grow (l : List Int) (z x y : Int) : List Int := if x = z ∧ y ∉ l then l ++ [y] else l
theorem upd_id {H : Hp} {a : Addr} {o : HO} (h : H a = some o) : upd H a o = H := by
  funext b
  by_cases e : b = a
  · rw [e, upd_same, h]
  · rw [upd_ne e]
theorem all_flat (l : List Int) : (l.map V.int).all flatV = true := by
  rw [List.all_eq_true]
  intro x hx
  obtain ⟨y, _, rfl⟩ := List.mem_map.mp hx
  rfl
theorem inV_ints (y : Int) (l : List Int) : inV (.int y) (l.map V.int) = decide (y ∈ l) := by
  unfold inV
  rw [Bool.eq_iff_iff, List.any_eq_true]
  constructor
  · rintro ⟨v, hv, e⟩
    obtain ⟨z, hz, rfl⟩ := List.mem_map.mp hv
    have e2 : z = y := by
      have q : (z == y) = true := e
      simpa using q
    exact decide_eq_true (e2 ▸ hz)
  · intro h
    refine ⟨.int y, List.mem_map.mpr ⟨y, of_decide_eq_true h, rfl⟩, ?_⟩
    show (y == y) = true
    simp
noncomputable def tGrow (i j : Nat) : TS := fun D σ H => ∃ (L : Addr) (k : Nat) (x y z : Int) (l : List Int), σ[3]? = some (some (.ref L)) ∧ σ[4]? = some (some (.int (k : Int))) ∧ σ[i]? = some (some (.int x)) ∧ σ[j]? = some (some (.int y)) ∧ H L = some (.lst (l.map V.int)) ∧ l.length < 1000 ∧ l[k]? = some z ∧ D.nx σ (upd H L (.lst ((grow l z x y).map V.int)))
noncomputable def spFlood : Sp := fun vs H Q _ => ∃ (L : Addr) (n : Int) (ts : List Tie) (a : Int), vs = [.int n, .ref L, .int a] ∧ LstT H L n ts ∧ 0 ≤ a ∧ a < n ∧ n ≤ 16 ∧ ∀ l H', Same H H' → H' l = some (.lst ((prt n.toNat (Edge ts) a).map V.int)) → H l = none → Q (.ref l) H'
theorem mem_grow {l : List Int} {z x y q : Int} : q ∈ grow l z x y ↔ q ∈ l ∨ (q = y ∧ x = z) := by
  unfold grow
  split
  · rename_i h
    simp [h.1]
  · rename_i h
    constructor
    · exact .inl
    · rintro (w | ⟨rfl, e⟩)
      · exact w
      · by_cases c : q ∈ l
        · exact c
        · exact absurd ⟨e, c⟩ h
theorem nd_grow {l : List Int} {z x y : Int} (h : l.Nodup) : (grow l z x y).Nodup := by
  unfold grow
  split
  · rename_i c
    rw [List.nodup_append]
    refine ⟨h, by simp, fun a ha b hb e => ?_⟩
    have e1 : b = y := by simpa using hb
    rw [e, e1] at ha
    exact c.2 ha
  · exact h
theorem grow_pre {l : List Int} {z x y : Int} : l <+: grow l z x y := by
  unfold grow
  split
  · exact List.prefix_append _ _
  · exact List.prefix_refl _
theorem pre_get {l m : List Int} (h : l <+: m) {k : Nat} {z : Int} (e : l[k]? = some z) : m[k]? = some z := by
  obtain ⟨t, rfl⟩ := h
  rw [List.getElem?_append_left (List.getElem?_eq_some_iff.mp e).1]
  exact e
section
variable {P : Program} {w : World} {K : PySem.W.Frag} {mg : Str → Option Value} {base : Heap} {f : Addr} {fd : FuncData}
theorem sc25 : FnScope ["_law_n", "_law_pairs", "_law_start", "_law_found", "_law_at", "_law_a", "_law_b"] ["_law_n", "_law_pairs", "_law_start"] (defScope (top 39)) := ⟨rfl, rfl, rfl, by decide +kernel, rfl, by decide +kernel, by decide +kernel⟩
theorem ok_flood (F : Fun K "_law_flood" "_law_flood" (top 39) f fd) (B : Bn mg) : FnOk P w K mg base CX0 1 f fd ["_law_n", "_law_pairs", "_law_start"] spFlood := by
  refine F.ok sc25 (fun vs H Q E h => ?_) (fun cdv A outer s H vs Q E hr h => ?_)
  · obtain ⟨L, n, ts, a, rfl, _⟩ := h
    rfl
  obtain ⟨L, n, ts, a, rfl, ⟨⟨xs, hL, pr⟩, ok⟩, a0, a1, n16, q⟩ := h
  have nd := sc25.nd
  have h24 := sizeLine_eq
  refine ⟨_, pss_cons (ps_set (i := 3) nd rfl (Or.inl rfl) (pe_lst (pa_cons (pv 2) pa_nil)))
    (pss_cons (ps_set (i := 4) nd rfl (Or.inl rfl) pe_int)
    (pss_cons (ps_while PassesOwn.never (pt_cmpR op_lt (pv 4) (pe_callB call_len_seq rfl B.len PySem.boot_len (pa_cons (pv 3) pa_nil)) (nomark _))
      (pss_cons (ps_for PassesOwn.never rfl (pi_list (pv 1)) (pg_tup rfl (pgs_cons (pg_name (i := 5) nd rfl (Or.inl rfl)) (pgs_cons (pg_name (i := 6) nd rfl (Or.inl rfl)) pgs_nil)))
        (pss_cons (PS.wk (t' := tGrow 5 6) (ps_if (PW.pt (pw_and (pt_cmpR op_eq (pv 5) (pe_ix ix_list (pv 3) (pv 4) (fun _ _ => rfl)) (nomark _)) (pw_and1 (pt_cmpR op_notIn_seq (pv 6) (pv 3) rfl))))
            (pss_one (ps_expr (pe_bm PySem.F.plainAttrs_list PySem.F.slot_list_append PySem.F.type_list_append mt_append (pv 3) (pa_cons (pv 6) pa_nil)))) pss_nil) ?g1)
        (pss_one (PS.wk (t' := tGrow 6 5) (ps_if (PW.pt (pw_and (pt_cmpR op_eq (pv 6) (pe_ix ix_list (pv 3) (pv 4) (fun _ _ => rfl)) (nomark _)) (pw_and1 (pt_cmpR op_notIn_seq (pv 5) (pv 3) rfl))))
            (pss_one (ps_expr (pe_bm PySem.F.plainAttrs_list PySem.F.slot_list_append PySem.F.type_list_append mt_append (pv 3) (pa_cons (pv 5) pa_nil)))) pss_nil) ?g2))))
      (pss_one (ps_set (i := 4) nd rfl (Or.inl rfl) (pe_op op_add (pv 4) pe_int)))))
    (pss_one (ps_ret (pe_callB call_sortedI rfl B.sorted boot_sorted (pa_cons (pv 3) pa_nil)))))), ?_⟩
  case g1 =>
    rintro D σ H1 ⟨L, k, x, y, z, l, e3, e4, ei, ej, hl, hz, hk, q⟩
    have gat : atI (l.map V.int) (k : Int) = some (.int z) := atI_nat (by rw [List.getElem?_map, hk]; rfl)
    refine ⟨_, ei, _, e3, _, e4, L, _, _, _, rfl, rfl, SqL.of hl, gat, rfl, _, rfl, ite2 (fun c => ?_) (fun c => ?_)⟩
    · have c' : x = z := V.int.inj (of_decide_eq_true c)
      refine ⟨_, ej, _, e3, L, _, rfl, .inl (SqL.of hl), rfl, all_flat l, _, rfl, ?_⟩
      rw [if_pos rfl, inV_ints]
      by_cases hin : y ∈ l
      · rw [decide_eq_true hin]
        refine iteF (A := True) ?_
        have e : grow l z x y = l := if_neg fun h => h.2 hin
        rw [e, upd_id hl] at q
        exact q
      · rw [decide_eq_false hin]
        refine iteT (B := True) ⟨_, e3, .inl ⟨rfl, _, SqL.of hl⟩, _, ej, L, _, _, rfl, rfl, hl, by rw [List.length_map]; omega, ?_⟩
        have e : grow l z x y = l ++ [y] := if_pos ⟨c', hin⟩
        rw [e, List.map_append] at q
        exact q
    · have c' : ¬ x = z := fun e => c (by rw [e]; exact decide_eq_true rfl)
      refine iteF (A := True) ?_
      have e : grow l z x y = l := if_neg fun h => c' h.1
      rw [e, upd_id hl] at q
      exact q
  case g2 =>
    rintro D σ H1 ⟨L, k, x, y, z, l, e3, e4, ei, ej, hl, hz, hk, q⟩
    have gat : atI (l.map V.int) (k : Int) = some (.int z) := atI_nat (by rw [List.getElem?_map, hk]; rfl)
    refine ⟨_, ei, _, e3, _, e4, L, _, _, _, rfl, rfl, SqL.of hl, gat, rfl, _, rfl, ite2 (fun c => ?_) (fun c => ?_)⟩
    · have c' : x = z := V.int.inj (of_decide_eq_true c)
      refine ⟨_, ej, _, e3, L, _, rfl, .inl (SqL.of hl), rfl, all_flat l, _, rfl, ?_⟩
      rw [if_pos rfl, inV_ints]
      by_cases hin : y ∈ l
      · rw [decide_eq_true hin]
        refine iteF (A := True) ?_
        have e : grow l z x y = l := if_neg fun h => h.2 hin
        rw [e, upd_id hl] at q
        exact q
      · rw [decide_eq_false hin]
        refine iteT (B := True) ⟨_, e3, .inl ⟨rfl, _, SqL.of hl⟩, _, ej, L, _, _, rfl, rfl, hl, by rw [List.length_map]; omega, ?_⟩
        have e : grow l z x y = l ++ [y] := if_pos ⟨c', hin⟩
        rw [e, List.map_append] at q
        exact q
    · have c' : ¬ x = z := fun e => c (by rw [e]; exact decide_eq_true rfl)
      refine iteF (A := True) ?_
      have e : grow l z x y = l := if_neg fun h => c' h.1
      rw [e, upd_id hl] at q
      exact q
  have rng : ∀ q, Rch (Edge ts) a q → 0 ≤ q ∧ q < n := fun q h => Rch.range ok a0 a1 h
  have en : ((n.toNat : Nat) : Int) = n := by omega
  refine ⟨_, rfl, (by show 1 ≤ sizeLine; decide), fun Lf hLf => ?_⟩
  have b1 := same_new hLf (.lst [V.int a])
  have hLLf : L ≠ Lf := ne_of_none hL hLf
  refine ⟨fun m σ H' => ∃ (k : Nat) (l : List Int) (a5 a6 : Option V), σ = [some (.int n), some (.ref L), some (.int a), some (.ref Lf), some (.int (k : Int)), a5, a6] ∧ m = n.toNat - k ∧ k ≤ l.length ∧ l.Nodup ∧ (∀ q ∈ l, Rch (Edge ts) a q) ∧ a ∈ l ∧
      (∀ j, j < k → ∀ z, l[j]? = some z → ∀ y, Edge ts z y → y ∈ l) ∧ H' Lf = some (.lst (l.map V.int)) ∧ Same H H', ⟨_, 0, [a], _, _, rfl, rfl, by simp, by simp, fun q hq => ?_, by simp, fun j hj => absurd hj (by omega), upd_same, b1⟩, ?_⟩
  · have e : q = a := by simpa using hq
    rw [e]
    exact .refl
  rintro m σ H1 ⟨k, l, a5, a6, rfl, rfl, hkl, ndl, rcl, hal, hcl, hf1, s1⟩
  have hln : l.length ≤ n.toNat := nd_len ndl fun x h => by have := rng x (rcl x h); omega
  refine ⟨_, rfl, _, rfl, Lf, _, rfl, .inl (SqL.of hf1), _, _, rfl, rfl, _, rfl, ?_⟩
  rw [List.length_map]
  by_cases hk : k < l.length
  · have hk' : ((k : Nat) : Int) < (l.length : Int) := by omega
    rw [decide_eq_true hk']
    obtain ⟨z, hz⟩ : ∃ z, l[k]? = some z := ⟨_, List.getElem?_eq_getElem hk⟩
    have hzr := rcl z (List.mem_of_getElem? hz)
    refine iteT (B := True) ⟨fun σ' H' => ∃ m', m' < n.toNat - k ∧ ∃ (k : Nat) (l : List Int) (a5 a6 : Option V), σ' = [some (.int n), some (.ref L), some (.int a), some (.ref Lf), some (.int (k : Int)), a5, a6] ∧ m' = n.toNat - k ∧ k ≤ l.length ∧ l.Nodup ∧ (∀ q ∈ l, Rch (Edge ts) a q) ∧ a ∈ l ∧
      (∀ j, j < k → ∀ z, l[j]? = some z → ∀ y, Edge ts z y → y ∈ l) ∧ H' Lf = some (.lst (l.map V.int)) ∧ Same H H', fun σ' H' h => h, ?_⟩
    refine ⟨_, rfl, L, rfl, ⟨xs, SqL.of (s1 _ _ hL)⟩, for_list (xs := xs) (fun i σ H2 => ∃ (l2 : List Int) (a5 a6 : Option V), σ = [some (.int n), some (.ref L), some (.int a), some (.ref Lf), some (.int (k : Int)), a5, a6] ∧ l <+: l2 ∧ l2.Nodup ∧ (∀ q ∈ l2, Rch (Edge ts) a q) ∧
        (∀ t ∈ ts.take i, (t.1 = z → t.2 ∈ l2) ∧ (t.2 = z → t.1 ∈ l2)) ∧ H2 Lf = some (.lst (l2.map V.int)) ∧ Same H H2) ⟨l, _, _, rfl, List.prefix_refl _, ndl, rcl, by simp, hf1, s1⟩ ?_ ?_ ?_⟩
    · rintro i σ H2 _ ⟨_, _, _, _, _, _, _, _, _, s2⟩
      exact SqL.of (s2 _ _ hL)
    · rintro i x σ H2 hx ⟨l2, a5, a6, rfl, pre, nd2, rc2, hd2, hf2, s2⟩
      obtain ⟨t, ht, pp, rfl, hpp⟩ := pgetL pr hx
      have hpp2 := s2 _ _ hpp
      have hl2 : l2.length ≤ n.toNat := nd_len nd2 fun x h => by have := rng x (rc2 x h); omega
      have htm := List.mem_of_getElem? ht
      have rc3 : ∀ q ∈ grow l2 z t.1 t.2, Rch (Edge ts) a q := fun q hq => by
        rcases mem_grow.mp hq with w | ⟨rfl, e⟩
        · exact rc2 q w
        · exact hzr.step (.inl (by rw [← e]; exact htm))
      have nd3 : (grow l2 z t.1 t.2).Nodup := nd_grow nd2
      have hl3 : (grow l2 z t.1 t.2).length ≤ n.toNat := nd_len nd3 fun x h => by have := rng x (rc3 x h); omega
      refine ⟨pp, _, rfl, SqT.of hpp2, rfl, _, _, rfl, _, _, rfl, rfl, ?_⟩
      refine ⟨Lf, k, t.1, t.2, z, l2, rfl, rfl, rfl, rfl, hf2, by omega, pre_get pre hz, ?_⟩
      refine ⟨Lf, k, t.2, t.1, z, grow l2 z t.1 t.2, rfl, rfl, rfl, rfl, upd_same, by omega, pre_get (pre.trans grow_pre) hz, ?_⟩
      rw [upd_upd]
      refine ⟨_, _, _, rfl, pre.trans (grow_pre.trans grow_pre), nd_grow nd3, fun q hq => ?_, fun t' ht' => ?_, upd_same, fun b u w => ?_⟩
      · rcases mem_grow.mp hq with w | ⟨rfl, e⟩
        · exact rc3 q w
        · exact hzr.step (.inr (by rw [← e]; exact htm))
      · have et : ts.take (i + 1) = ts.take i ++ [t] := by rw [List.take_add_one, ht]; rfl
        rw [et] at ht'
        rcases List.mem_append.mp ht' with w | w
        · exact ⟨fun h => mem_grow.mpr (.inl (mem_grow.mpr (.inl ((hd2 t' w).1 h)))), fun h => mem_grow.mpr (.inl (mem_grow.mpr (.inl ((hd2 t' w).2 h))))⟩
        · have e : t' = t := by simpa using w
          rw [e]
          exact ⟨fun h => mem_grow.mpr (.inl (mem_grow.mpr (.inr ⟨rfl, h⟩))), fun h => mem_grow.mpr (.inr ⟨rfl, h⟩)⟩
      · rw [upd_ne (ne_of_none w hLf)]
        exact s2 _ _ w
    · rintro σ H2 ⟨l2, a5, a6, rfl, pre, nd2, rc2, hd2, hf2, s2⟩
      have hlx := pr.length
      have ef : ts.take xs.length = ts := List.take_of_length_le (by omega)
      rw [ef] at hd2
      have hl2 : l2.length ≤ n.toNat := nd_len nd2 fun x h => by have := rng x (rc2 x h); omega
      have hpl : l.length ≤ l2.length := pre.length_le
      refine ⟨_, rfl, _, _, rfl, rfl, n.toNat - (k + 1), by omega, k + 1, l2, _, _, rfl, rfl, by omega, nd2, rc2, pre.subset hal, fun j hj z' hz' y e => ?_, hf2, s2⟩
      by_cases hjk : j < k
      · have hj2 : j < l.length := by omega
        have e1 : l[j]? = some l[j] := List.getElem?_eq_getElem hj2
        have e2 := pre_get pre e1
        rw [hz'] at e2
        cases e2
        exact pre.subset (hcl j hjk _ e1 y e)
      · have ejk : j = k := by omega
        subst ejk
        have e2 := pre_get pre hz
        rw [hz'] at e2
        cases e2
        rcases e with e | e
        · exact (hd2 _ e).1 rfl
        · exact (hd2 _ e).2 rfl
  · have hk' : ¬ ((k : Nat) : Int) < (l.length : Int) := by omega
    rw [decide_eq_false hk']
    have hm : ∀ y, y ∈ l ↔ Rch (Edge ts) a y := fun y => ⟨rcl y, fun h => Rch.closed hal (fun x y hx e => by
      obtain ⟨j, hj, ej⟩ := List.mem_iff_getElem.mp hx
      exact hcl j (by omega) x (by rw [List.getElem?_eq_getElem hj, ej]) y e) h⟩
    refine iteF (A := True) ⟨_, rfl, Lf, l, rfl, SqL.of hf1, by omega, fun lo out hlo hp hs => ?_⟩
    have e := prt_eq (n := n.toNat) hp hs ndl hm (fun y hy => by have := rng y hy; omega)
    subst e
    exact q lo _ (s1.trans (same_new hlo _)) upd_same (s1.free hlo)
end
end Nf

set_option Elab.async false
set_option linter.all false
set_option maxRecDepth 100000
namespace Nf
open PySem L2 PyProof.Rows
structure Cal1 (P : Program) (w : World) (K : PySem.W.Frag) (mg : Str → Option Value) (base : Heap) (k : Nat) (x : Str) (ps : List Str) (sp : Sp) : Prop where
  ex : ∃ f fd, FnOk P w K mg base (CX1 P w) k f fd ps sp ∧ Binds K fd ps [] ∧ PySem.W.keepIn K (.ref f) = true ∧ mg x = some (.ref f)
theorem pc1 {X : Cx} {E : XK} {k j : Nat} {x : Str} {ps : List Str} {sp : Sp} {e : Expr} {es : List Expr} {t : TA} {p pos : Pos} (C : Cal1 X.prog X.w X.K X.mg X.base k x ps sp) (hr : Room j X.A) (hx : Passes (CX1 X.prog X.w) X E) (ha : PA X (e :: es) t) (hk : k ≤ j := by decide) (hg : Gl X x := by rfl)
    (hdb : (x == ("__debug__" : Str)) = false := by decide) (he : starEach (e :: es) X.env = (false, eval e X.env) :: starEach es X.env := by rfl) (hpl : (backTo pos (starEach es X.env)).any (·.1) = false := by rfl) :
    PE X (.Call (.Name x p) (e :: es) [] pos) (tCall sp [] E t) := by
  obtain ⟨f, fd, F, b, kp, m⟩ := C.ex
  exact pe_call F (hr.mono hk) hg m kp b .nil hx ha hdb he hpl
inductive Thing (H : Hp) : V → Prop
  | non : Thing H .non
  | bl (b : Bool) : Thing H (.bl b)
  | int (i : Int) : Thing H (.int i)
  | str (x : Str) : Thing H (.str x)
  | lst {a : Addr} {xs : List V} (e : H a = some (.lst xs)) : Thing H (.ref a)
  | tup {a : Addr} {xs : List V} (e : H a = some (.tup xs)) : Thing H (.ref a)
  | dK {a : Addr} {kvs : List (Key × V)} (e : H a = some (.dK kvs)) : Thing H (.ref a)
noncomputable def isI : V → Bool
  | .int _ => true
  | _ => false
noncomputable def num (m : Int) : V → Bool
  | .int i => decide (0 ≤ i ∧ i < m)
  | _ => false
noncomputable def spWholeG : Sp := fun vs H Q _ => ∃ x, vs = [x] ∧ Thing H x ∧ Q (.bl (isI x)) H
noncomputable def spBelowG : Sp := fun vs H Q _ => ∃ (m : Int) (x : V), vs = [.int m, x] ∧ Thing H x ∧ Q (.bl (num m x)) H
noncomputable def spTieNum : Sp := fun vs H Q _ => ∃ (r : Addr) (n : Int) (us : List Tie) (x : V), vs = [.ref r, x] ∧ Web H r n us ∧ Thing H x ∧ Q (.bl (num us.length x)) H
noncomputable def spCheckT (CN : Addr) : Sp := fun vs H Q E => ∃ (r : Addr) (n : Int) (us : List Tie) (x : V), vs = [.ref r, x] ∧ Web H r n us ∧ Thing H x ∧ (num us.length x = true → Q .non H) ∧ (num us.length x = false → E (.ref CN) none H)
section
variable {P : Program} {w : World} {K : PySem.W.Frag} {mg : Str → Option Value} {base : Heap} {f : Addr} {fd : FuncData}
theorem ok_wholeG (F : Fun K "is_whole" "is_whole" (top 15) f fd) (B : Bn mg) : FnOk P w K mg base CX0 1 f fd ["thing"] spWholeG := by
  refine F.ok sc6 (fun vs H Q E h => ?_) (fun cdv A outer s H vs Q E hr h => ?_)
  · obtain ⟨i, rfl, _⟩ := h
    rfl
  obtain ⟨x, rfl, t, q⟩ := h
  refine ⟨_, pss_one (ps_ret (pe_and (pe_callB call_isinst1 rfl B.isinstance boot_isinstance (pa_cons (pv 0) (pa_cons (pe_bltn (v := .ty "int") rfl B.int boot_int rfl) pa_nil)))
    (pe_one (pe_not (pe_callB call_isinst1 rfl B.isinstance boot_isinstance (pa_cons (pv 0) (pa_cons (pe_bltn (v := .ty "bool") rfl B.bool boot_bool rfl) pa_nil))))))), ?_⟩
  cases t with
  | int i => exact ⟨_, rfl, _, _, _, true, rfl, .int i, rfl, true, rfl, iteT ⟨_, rfl, _, _, _, false, rfl, .int i, rfl, false, rfl, q⟩⟩
  | bl b => exact ⟨_, rfl, _, _, _, true, rfl, .bl b, rfl, true, rfl, iteT ⟨_, rfl, _, _, _, true, rfl, .bl b, rfl, true, rfl, q⟩⟩
  | non => exact ⟨_, rfl, _, _, _, false, rfl, .non, rfl, false, rfl, iteF q⟩
  | str x => exact ⟨_, rfl, _, _, _, false, rfl, .str x, rfl, false, rfl, iteF q⟩
  | lst e => exact ⟨_, rfl, _, _, _, false, rfl, .lst e, rfl, false, rfl, iteF q⟩
  | tup e => exact ⟨_, rfl, _, _, _, false, rfl, .tup e, rfl, false, rfl, iteF q⟩
  | dK e => exact ⟨_, rfl, _, _, _, false, rfl, .dK e, rfl, false, rfl, iteF q⟩
theorem ok_belowG (F : Fun K "is_below" "is_below" (top 16) f fd) (W : Cal P w K mg base 1 "is_whole" ["thing"] spWholeG) : FnOk P w K mg base CX0 2 f fd ["limit", "thing"] spBelowG := by
  refine F.ok sc7 (fun vs H Q E h => ?_) (fun cdv A outer s H vs Q E hr h => ?_)
  · obtain ⟨m, i, rfl, _⟩ := h
    rfl
  obtain ⟨m, x, rfl, t, q⟩ := h
  refine ⟨_, pss_one (ps_ret (pe_and (pc W hr (pa_cons (pv 1) pa_nil)) (pe_one (pe_chain op_le op_lt pe_int (pv 1) (pv 0))))), ?_⟩
  refine ⟨_, rfl, x, rfl, t, isI x, rfl, ?_⟩
  cases t with
  | int i =>
    refine iteT (B := True) ⟨_, rfl, _, _, rfl, rfl, _, rfl, ?_⟩
    by_cases h0 : (0 : Int) ≤ i
    · rw [decide_eq_true h0]
      refine iteT (B := True) ⟨_, rfl, _, _, rfl, rfl, ?_⟩
      have e : num m (.int i) = decide (i < m) := by
        show decide (0 ≤ i ∧ i < m) = _
        rw [Bool.eq_iff_iff]
        simp [h0]
      rw [e] at q
      exact q
    · rw [decide_eq_false h0]
      have e : num m (.int i) = false := decide_eq_false fun z => h0 z.1
      rw [e] at q
      exact iteF (A := True) q
  | bl b => exact iteF (A := True) q
  | non => exact iteF (A := True) q
  | str x => exact iteF (A := True) q
  | lst e => exact iteF (A := True) q
  | tup e => exact iteF (A := True) q
  | dK e => exact iteF (A := True) q
theorem sc17n : FnScope ["web", "thing"] ["web", "thing"] (defScope (top 17)) := ⟨rfl, rfl, rfl, by decide +kernel, rfl, by decide +kernel, by decide +kernel⟩
theorem ok_tienum (F : Fun K "is_tie_number" "is_tie_number" (top 17) f fd) (B : Bn mg) (W : Cal P w K mg base 2 "is_below" ["limit", "thing"] spBelowG) : FnOk P w K mg base CX0 3 f fd ["web", "thing"] spTieNum := by
  refine F.ok sc17n (fun vs H Q E h => ?_) (fun cdv A outer s H vs Q E hr h => ?_)
  · obtain ⟨r, n, us, x, rfl, _⟩ := h
    rfl
  obtain ⟨r, n, us, x, rfl, W', t, q⟩ := h
  refine ⟨_, pss_one (ps_ret (pc W hr (pa_cons (pe_callB call_len_seq rfl B.len PySem.boot_len (pa_cons (pe_ix ix_tup (pv 0) pe_int (fun _ _ => rfl)) pa_nil)) (pa_cons (pv 1) pa_nil)))), ?_⟩
  obtain ⟨tt, ws, hr1, ht1, pr1⟩ := W'.told.ex
  have hl := pr1.length
  refine ⟨_, rfl, r, _, _, _, rfl, rfl, SqT.of hr1, at1 _ _, tt, ws, rfl, .inr (SqT.of ht1), _, rfl, _, x, rfl, t, ?_⟩
  rw [hl]
  exact q
theorem sc18n : FnScope ["web", "thing"] ["web", "thing"] (defScope (top 18)) := ⟨rfl, rfl, rfl, by decide +kernel, rfl, by decide +kernel, by decide +kernel⟩
theorem ok_checkt {CN : Addr} {bmB : List Value} {newId initId Bn' : String} (F : Fun K "check_tie_number" "check_tie_number" (top 18) f fd) (mN : mg "NoTie" = some (.ref CN)) (XC : ExcCls K CN newId bmB) (XB : ExcBaseFacts Bn' newId initId bmB) (W : Cal P w K mg base 3 "is_tie_number" ["web", "thing"] spTieNum) : FnOk P w K mg base (CX1 P w) 4 f fd ["web", "thing"] (spCheckT CN) := by
  refine F.ok1 sc18n (fun vs H Q E h => ?_) (fun cdv A outer s H vs Q E hr h => ?_)
  · obtain ⟨r, n, us, x, rfl, _⟩ := h
    rfl
  obtain ⟨r, n, us, x, rfl, W', t, q, e⟩ := h
  refine ⟨_, pss_one (ps_if (pt_not (pt_val (pc W hr (pa_cons (pv 0) (pa_cons (pv 1) pa_nil))))) (pss_one (ps_raise lets_cx rfl rfl mN XC XB (pa_cons pe_str pa_nil))) pss_nil), ?_⟩
  refine ⟨_, rfl, _, rfl, r, n, us, x, rfl, W', t, num us.length x, rfl, ?_⟩
  cases hn : num us.length x with
  | true => exact iteF (A := True) (q hn)
  | false => exact iteT (B := True) ⟨(by show 1 ≤ sizeLine; decide), e hn⟩
end
end Nf

set_option Elab.async false
set_option linter.all false
set_option maxRecDepth 100000
namespace Nf
open PySem L2 PyProof.Rows
noncomputable def lessN (us : List Tie) (ks : List Int) : List Tie := (us.zipIdx.filter fun p => decide (((p.2 : Nat) : Int) ∉ ks)).map (·.1)
theorem lessN_snoc (us : List Tie) (t : Tie) (ks : List Int) : lessN (us ++ [t]) ks = lessN us ks ++ (if ((us.length : Nat) : Int) ∈ ks then [] else [t]) := by
  unfold lessN
  rw [List.zipIdx_append, List.filter_append, List.map_append]
  congr 1
  by_cases h : ((us.length : Nat) : Int) ∈ ks
  · simp [h]
  · simp [h]
theorem mem_lessN {us : List Tie} {ks : List Int} {t : Tie} : t ∈ lessN us ks ↔ ∃ i : Nat, us[i]? = some t ∧ ((i : Nat) : Int) ∉ ks := by
  unfold lessN
  rw [List.mem_map]
  constructor
  · rintro ⟨⟨t', i⟩, h, rfl⟩
    obtain ⟨h1, h2⟩ := List.mem_filter.mp h
    exact ⟨i, (List.mem_zipIdx_iff_getElem?.mp h1), of_decide_eq_true h2⟩
  · rintro ⟨i, h, h2⟩
    exact ⟨(t, i), List.mem_filter.mpr ⟨List.mem_zipIdx_iff_getElem?.mpr h, decide_eq_true h2⟩, rfl⟩
theorem lessN_sub {us : List Tie} {ks : List Int} {t : Tie} (h : t ∈ lessN us ks) : t ∈ us := by
  obtain ⟨i, h, _⟩ := mem_lessN.mp h
  exact List.mem_of_getElem? h
theorem lessN_len (us : List Tie) (ks : List Int) : (lessN us ks).length ≤ us.length := by
  unfold lessN
  rw [List.length_map]
  have := List.length_filter_le (fun p : Tie × Nat => decide (((p.2 : Nat) : Int) ∉ ks)) us.zipIdx
  rw [List.length_zipIdx] at this
  exact this
noncomputable def setO (n : Nat) (us : List Tie) (k : Nat) (t : Tie) : List Int := prt n (Edge (lessN us [((k : Nat) : Int)])) t.1
noncomputable def sideO (n : Nat) (us : List Tie) (k : Nat) : Option (List Int) := match us[k]? with
  | none => none
  | some t => if t.2 ∈ setO n us k t then none else some (setO n us k t)
noncomputable def cutsL (n : Nat) (us : List Tie) : List Int := ((List.range us.length).filter fun k => (sideO n us k).isSome).map fun k => ((k : Nat) : Int)
noncomputable def SideV (H : Hp) (v : V) (o : Option (List Int)) : Prop := match o with
  | none => v = .non
  | some S => ∃ a, v = .ref a ∧ H a = some (.lst (S.map V.int))
noncomputable def spWithout : Sp := fun vs H Q _ => ∃ (r l : Addr) (n : Int) (us : List Tie) (ks : List Int), vs = [.ref r, .ref l] ∧ Web H r n us ∧ H l = some (.lst (ks.map V.int)) ∧ ∀ r' H', Same H H' → Web H' r' n (lessN us ks) → Q (.ref r') H'
noncomputable def spSide (CN : Addr) : Sp := fun vs H Q E => ∃ (r : Addr) (n : Int) (us : List Tie) (x : V), vs = [.ref r, x] ∧ Web H r n us ∧ Thing H x ∧
  (num us.length x = false → E (.ref CN) none H) ∧ (∀ k : Nat, x = .int k → k < us.length → ∀ v H', Same H H' → SideV H' v (sideO n.toNat us k) → (∀ a, v = .ref a → H a = none) → Q v H')
noncomputable def spCut : Sp := fun vs H Q _ => ∃ (r : Addr) (n : Int) (us : List Tie), vs = [.ref r] ∧ Web H r n us ∧ ∀ l H', Same H H' → H' l = some (.lst ((cutsL n.toNat us).map V.int)) → H l = none → Q (.ref l) H'
section
variable {P : Program} {w : World} {K : PySem.W.Frag} {mg : Str → Option Value} {base : Heap} {f : Addr} {fd : FuncData}
theorem sc28w : FnScope ["web", "numbers"] ["web", "numbers"] (defScope (top 28)) := ⟨rfl, rfl, rfl, by decide +kernel, rfl, by decide +kernel, by decide +kernel⟩
theorem nd28w : (["number", "tie", "web", "numbers"] : List Str).Nodup := by decide +kernel
theorem ok_without (F : Fun K "without_ties" "without_ties" (top 28) f fd) (B : Bn mg) (he : mg "enumerate" = none) : FnOk P w K mg base CX0 1 f fd ["web", "numbers"] spWithout := by
  refine F.ok sc28w (fun vs H Q E h => ?_) (fun cdv A outer s H vs Q E hr h => ?_)
  · obtain ⟨r, l, n, us, ks, rfl, _⟩ := h
    rfl
  obtain ⟨r, l, n, us, ks, rfl, W, hl, q⟩ := h
  have h24 := sizeLine_eq
  refine ⟨_, pss_one (ps_ret (pe_tup (pa_cons (pe_ix ix_tup (pv 0) pe_int (fun _ _ => rfl)) (pa_cons (pe_callTy call_tuple_of rfl B.tuple boot_tuple (pa_cons
    (pe_lc ["number", "tie"] rfl (pi_enum rfl he (pa_cons (pe_ix ix_tup (pv 0) pe_int (fun _ _ => rfl)) pa_nil)) (fun c => pg_tup rfl (pgs_cons (pg_name (i := 0) nd28w rfl (Or.inl rfl)) (pgs_cons (pg_name (i := 1) nd28w rfl (Or.inl rfl)) pgs_nil))) (fun c => pts_one (pt_cmpR op_notIn_seq (pv 0) (pv 3) rfl)) (fun c => pv 1)) pa_nil)) pa_nil)))), ?_⟩
  obtain ⟨tt, ws, hr1, ht1, pr1⟩ := W.told.ex
  have hlw := pr1.length
  have h40 := W.len
  refine ⟨_, rfl, r, _, _, _, rfl, rfl, SqT.of hr1, at0 _ _, _, rfl, r, _, _, _, rfl, rfl, SqT.of hr1, at1 _ _, tt, rfl, ⟨ws, SqT.of ht1⟩, lc_enum (xs := ws) (by omega) (fun i ys H' => Same H H' ∧ Prs H' ys (lessN (us.take i) ks) ∧ ys.length ≤ i ∧ i ≤ ws.length) ⟨Same.refl _, .nil, Nat.le_refl _, Nat.zero_le _⟩ (fun i ys H' z => SqT.of (z.1 _ _ ht1)) (fun i ys H' z => z.2.2.1) ?_ ?_⟩
  · rintro c i x t ys H' hx ht ⟨s1, pr, hl1, hi⟩
    obtain ⟨tie, htie, pp, rfl, hpp⟩ := pgetL pr1 hx
    have hi1 := (List.getElem?_eq_some_iff.mp hx).1
    have a1 := same_new ht (.tup [V.int i, V.ref pp])
    have et : us.take (i + 1) = us.take i ++ [tie] := by rw [List.take_add_one, htie]; rfl
    have eln : (us.take i).length = i := by rw [List.length_take]; omega
    refine ⟨t, _, rfl, SqT.of upd_same, rfl, _, _, rfl, _, _, rfl, rfl, ?_⟩
    refine ⟨_, rfl, _, rfl, l, _, rfl, .inl (SqL.of (a1 _ _ (s1 _ _ hl))), rfl, all_flat ks, _, rfl, ?_⟩
    rw [if_pos rfl, inV_ints]
    by_cases hk : ((i : Nat) : Int) ∈ ks
    · rw [decide_eq_true hk]
      refine iteF (A := True) ⟨s1.trans a1, ?_, by omega, hi1⟩
      rw [et, lessN_snoc, eln, if_pos hk, List.append_nil]
      exact Prs.same a1 pr
    · rw [decide_eq_false hk]
      refine iteT (B := True) ⟨_, rfl, s1.trans a1, ?_, by rw [List.length_append]; simp; omega, hi1⟩
      rw [et, lessN_snoc, eln, if_neg hk]
      exact (Prs.same a1 pr).snoc ⟨pp, rfl, a1 _ _ (s1 _ _ hpp)⟩
  · rintro ys H' ⟨s1, pr, hl1, hi⟩ p hp
    have a1 := same_new hp (.lst ys)
    have ef : us.take ws.length = us := List.take_of_length_le (by omega)
    rw [ef] at pr
    refine ⟨p, ys, rfl, .inl ⟨SqL.of upd_same, fun t2 ht2 => ?_⟩⟩
    have a2 := same_new ht2 (.tup ys)
    refine ⟨(by show 2 ≤ sizeLine; decide), fun t3 ht3 => ?_⟩
    have a3 := same_new ht3 (.tup [V.int n, V.ref t2])
    have hll := lessN_len us ks
    exact q t3 _ (s1.trans (a1.trans (a2.trans a3))) ⟨⟨t2, ys, upd_same, a3 _ _ upd_same, Prs.same (a1.trans (a2.trans a3)) pr⟩, W.n1, W.n16, by omega, fun t ht => W.ok t (lessN_sub ht)⟩
theorem sc29s : FnScope ["web", "number", "tie", "side"] ["web", "number"] (defScope (top 29)) := ⟨rfl, rfl, rfl, by decide +kernel, rfl, by decide +kernel, by decide +kernel⟩
theorem ok_side {CN : Addr} (F : Fun K "side_of" "side_of" (top 29) f fd) (B : Bn mg) (CH : Cal1 P w K mg base 4 "check_tie_number" ["web", "thing"] (spCheckT CN)) (WI : Cal P w K mg base 1 "without_ties" ["web", "numbers"] spWithout) (PO : Cal P w K mg base 2 "part_of" ["web", "place"] spPart) : FnOk P w K mg base (CX1 P w) 5 f fd ["web", "number"] (spSide CN) := by
  refine F.ok1 sc29s (fun vs H Q E h => ?_) (fun cdv A outer s H vs Q E hr h => ?_)
  · obtain ⟨r, n, us, x, rfl, _⟩ := h
    rfl
  obtain ⟨r, n, us, x, rfl, W, t, qE, q⟩ := h
  have nd := sc29s.nd
  have h24 := sizeLine_eq
  refine ⟨_, pss_cons (ps_expr (pc1 CH hr (pass1 lets_cx) (pa_cons (pv 0) (pa_cons (pv 1) pa_nil))))
    (pss_cons (ps_set (i := 2) nd rfl (Or.inl rfl) (pe_ix ix_tup (pe_ix ix_tup (pv 0) pe_int (fun _ _ => rfl)) (pv 1) (fun _ _ => rfl)))
    (pss_cons (ps_set (i := 3) nd rfl (Or.inl rfl) (pc PO hr (pa_cons (pc WI hr (pa_cons (pv 0) (pa_cons (pe_lst (pa_cons (pv 1) pa_nil)) pa_nil))) (pa_cons (pe_ix ix_tup (pv 2) pe_int (fun _ _ => rfl)) pa_nil))))
    (pss_one (ps_ret (pe_ifExp (pt_cmpR op_in_seq (pe_ix ix_tup (pv 2) pe_int (fun _ _ => rfl)) (pv 3) rfl) pe_non (pv 3)))))), ?_⟩
  refine ⟨_, rfl, _, rfl, r, n, us, x, rfl, W, t, fun hn => ?_, qE⟩
  obtain ⟨k, rfl, hk⟩ : ∃ k : Nat, x = .int k ∧ k < us.length := by
    cases x with
    | int i =>
      have z : 0 ≤ i ∧ i < us.length := of_decide_eq_true hn
      exact ⟨i.toNat, by congr 1; omega, by omega⟩
    | _ => cases hn
  obtain ⟨tt, ws, hr1, ht1, pr1⟩ := W.told.ex
  have hlw := pr1.length
  obtain ⟨wv, hwv⟩ : ∃ v, ws[k]? = some v := ⟨_, List.getElem?_eq_getElem (by omega)⟩
  obtain ⟨tie, htie, pp, rfl, hpp⟩ := pgetL pr1 hwv
  have okt := W.ok tie (List.mem_of_getElem? htie)
  refine ⟨_, rfl, r, _, _, _, rfl, rfl, SqT.of hr1, at1 _ _, _, rfl, tt, _, _, _, rfl, rfl, SqT.of ht1, atI_nat hwv, ?_⟩
  refine ⟨_, rfl, _, rfl, (by show 1 ≤ sizeLine; decide), fun nl hnl => ?_⟩
  have a1 := same_new hnl (.lst [V.int k])
  refine ⟨r, nl, n, us, [((k : Nat) : Int)], rfl, W.same a1, upd_same, fun r' H2 s2 W2 => ?_⟩
  have s12 := a1.trans s2
  refine ⟨_, rfl, pp, _, _, _, rfl, rfl, SqT.of (s12 _ _ hpp), at0 _ _, r', n, lessN us [((k : Nat) : Int)], tie.1, rfl, W2, okt.1, okt.2.1, fun sl H3 s3 hsl hsn => ?_⟩
  have s13 := s12.trans s3
  have hs : sideO n.toNat us k = if tie.2 ∈ setO n.toNat us k tie then none else some (setO n.toNat us k tie) := by
    unfold sideO
    rw [htie]
  refine ⟨_, rfl, pp, _, _, _, rfl, rfl, SqT.of (s13 _ _ hpp), at1 _ _, _, rfl, sl, _, rfl, .inl (SqL.of hsl), rfl, all_flat _, _, rfl, ?_⟩
  rw [if_neg Bool.false_ne_true, inV_ints]
  by_cases hin : tie.2 ∈ setO n.toNat us k tie
  · have hin' : tie.2 ∈ prt n.toNat (Edge (lessN us [((k : Nat) : Int)])) tie.1 := hin
    rw [decide_eq_true hin']
    refine iteT (B := True) (q k rfl hk .non H3 s13 ?_ (fun a z => nomatch z))
    rw [hs, if_pos hin]
    rfl
  · have hin' : ¬ tie.2 ∈ prt n.toNat (Edge (lessN us [((k : Nat) : Int)])) tie.1 := hin
    rw [decide_eq_false hin']
    refine iteF (A := True) ⟨_, rfl, q k rfl hk (.ref sl) H3 s13 ?_ (fun a z => by cases z; exact s12.free hsn)⟩
    rw [hs, if_neg hin]
    exact ⟨sl, rfl, hsl⟩
theorem sc30c : FnScope ["web"] ["web"] (defScope (top 30)) := ⟨rfl, rfl, rfl, by decide +kernel, rfl, by decide +kernel, by decide +kernel⟩
theorem nd30c : (["number", "web"] : List Str).Nodup := by decide +kernel
theorem cutsL_take (n : Nat) (us : List Tie) (i : Nat) (hi : i < us.length) : (((List.range us.length).take (i + 1)).filter fun k => (sideO n us k).isSome) = (((List.range us.length).take i).filter fun k => (sideO n us k).isSome) ++ (if (sideO n us i).isSome = true then [i] else []) := by
  have e : (List.range us.length).take (i + 1) = (List.range us.length).take i ++ [i] := by
    rw [List.take_add_one, List.getElem?_range hi]
    rfl
  rw [e, List.filter_append]
  congr 1
  by_cases h : (sideO n us i).isSome = true
  · simp [h]
  · simp [h]
theorem ok_cut {CN : Addr} (F : Fun K "cut_ties" "cut_ties" (top 30) f fd) (B : Bn mg) (SI : Cal1 P w K mg base 5 "side_of" ["web", "number"] (spSide CN)) : FnOk P w K mg base CX0 6 f fd ["web"] spCut := by
  refine F.ok sc30c (fun vs H Q E h => ?_) (fun cdv A outer s H vs Q E hr h => ?_)
  · obtain ⟨r, n, us, rfl, _⟩ := h
    rfl
  obtain ⟨r, n, us, rfl, W, q⟩ := h
  refine ⟨_, pss_one (ps_ret (pe_lc ["number"] rfl (pi_range1 rfl B.range (pa_cons (pe_callB call_len_seq rfl B.len PySem.boot_len (pa_cons (pe_ix ix_tup (pv 0) pe_int (fun _ _ => rfl)) pa_nil)) pa_nil)) (fun c => pg_name (i := 0) nd30c rfl (Or.inl rfl)) (fun c => pts_one (pt_cmpR op_notN (pc1 SI hr pass10 (pa_cons (pv 1) (pa_cons (pv 0) pa_nil))) pe_non (nomark _))) (fun c => pv 0))), ?_⟩
  obtain ⟨tt, ws, hr1, ht1, pr1⟩ := W.told.ex
  have hlw := pr1.length
  have h40 := W.len
  refine ⟨_, rfl, r, _, _, _, rfl, rfl, SqT.of hr1, at1 _ _, tt, ws, rfl, .inr (SqT.of ht1), (us.length : Int), by rw [hlw], by omega, by omega, ?_⟩
  refine lc_rng (lo := 0) (k := us.length) (by omega) (fun i ys H' => Same H H' ∧ ys = ((((List.range us.length).take i).filter fun k => (sideO n.toNat us k).isSome).map fun k => ((k : Nat) : Int)).map V.int ∧ i ≤ us.length) ⟨Same.refl _, rfl, Nat.zero_le _⟩ ?_ ?_ ?_
  · rintro i ys H' ⟨_, rfl, hi⟩
    rw [List.length_map, List.length_map]
    have := List.length_filter_le (fun k => (sideO n.toNat us k).isSome) ((List.range us.length).take i)
    rw [List.length_take] at this
    omega
  · rintro c i ys H' hi ⟨s1, rfl, _⟩
    have e0 : (0 : Int) + ((i : Nat) : Int) = ((i : Nat) : Int) := by omega
    rw [e0]
    refine ⟨_, rfl, _, rfl, r, n, us, _, rfl, W.same s1, .int _, fun hn => ?_, fun k ek hk v H2 s2 sv _ => ?_⟩
    · have : num us.length (.int ((i : Nat) : Int)) = true := decide_eq_true (by omega)
      rw [this] at hn
      cases hn
    · have ek' : k = i := by
        have := V.int.inj ek
        omega
      subst ek'
      refine ⟨rfl, _, rfl, ?_⟩
      cases ho : sideO n.toNat us k with
      | none =>
        rw [ho] at sv
        have ev : v = .non := sv
        subst ev
        refine iteF (A := True) ⟨s1.trans s2, ?_, hi⟩
        rw [cutsL_take n.toNat us k hi, ho]
        simp
      | some S =>
        rw [ho] at sv
        obtain ⟨a, rfl, _⟩ := sv
        refine iteT (B := True) ⟨_, rfl, s1.trans s2, ?_, hi⟩
        rw [cutsL_take n.toNat us k hi, ho]
        simp
  · rintro ys H' ⟨s1, rfl, _⟩ p hp
    have ef : (List.range us.length).take us.length = List.range us.length := List.take_of_length_le (by simp)
    rw [ef] at *
    exact q p _ (s1.trans (same_new hp _)) upd_same (s1.free hp)
end
end Nf

set_option Elab.async false
set_option linter.all false
set_option maxRecDepth 100000
namespace Nf
open PySem L2 PyProof.Rows
structure Ref6 (K : PySem.W.Frag) (mg : Str → Option Value) (CN CF c1 c2 c3 c4 c5 c6 c7 c8 c9 : Addr) : Prop where
  mF : mg "FallError" = some (.ref CF)
  mN : mg "NoTie" = some (.ref CN)
  m1 : mg "NoBack" = some (.ref c1)
  m2 : mg "NoOffers" = some (.ref c2)
  m3 : mg "NoOrder" = some (.ref c3)
  m4 : mg "NoPlace" = some (.ref c4)
  m5 : mg "NoRow" = some (.ref c5)
  m6 : mg "NoSet" = some (.ref c6)
  m7 : mg "NoText" = some (.ref c7)
  m8 : mg "NoWeb" = some (.ref c8)
  m9 : mg "TooMany" = some (.ref c9)
  mV : mg "ValueError" = none
  exm : PySem.W.exmOne K (.ref CN) (.ref CF) = some true
  kx : ExcK K CN
  any : PySem.W.kitAny K (.ref CN) [.ref c1, .ref c2, .ref c3, .ref c4, .ref c5, .ref c6, .ref c7, .ref c8, .ref c9] = some false
  one : PySem.W.kitOne K (.ref CN) (.ref CN) = some true
  val : PySem.W.kitOne K (.ref CN) (.type "ValueError") = some true
theorem boot_valueError : bootBuiltins "ValueError" = some (.type "ValueError") := by decide +kernel
noncomputable def spRef : Sp := fun vs H Q _ => ∃ (r : Addr) (n : Int) (us : List Tie) (x : V), vs = [.ref r, x] ∧ Web H r n us ∧ Thing H x ∧ num us.length x = false ∧ ∀ H', Same H H' → Q (.bl true) H'
noncomputable def spIsL : Sp := fun vs H Q _ => ∃ (l m : Addr) (S : List Int), vs = [.ref l, .ref m] ∧ H l = some (.lst (S.map V.int)) ∧ H m = some (.lst (S.map V.int)) ∧ S.length ≤ 100 ∧ ∀ H', Same H H' → Q (.bl true) H'
section
variable {P : Program} {w : World} {K : PySem.W.Frag} {mg : Str → Option Value} {base : Heap} {f : Addr} {fd : FuncData}
theorem sc40 : FnScope ["_law_web", "_law_thing", "_law_caught", "e"] ["_law_web", "_law_thing"] (defScope (top 40)) := ⟨rfl, rfl, rfl, by decide +kernel, rfl, by decide +kernel, by decide +kernel⟩
theorem ok_refused {CN CF c1 c2 c3 c4 c5 c6 c7 c8 c9 : Addr} (F : Fun K "_law_refused" "_law_refused" (top 40) f fd) (B : Bn mg) (R : Ref6 K mg CN CF c1 c2 c3 c4 c5 c6 c7 c8 c9) (SI : Cal1 P w K mg base 5 "side_of" ["web", "number"] (spSide CN)) : FnOk P w K mg base CX0 6 f fd ["_law_web", "_law_thing"] spRef := by
  refine F.ok sc40 (fun vs H Q E h => ?_) (fun cdv A outer s H vs Q E hr h => ?_)
  · obtain ⟨r, n, us, x, rfl, _⟩ := h
    rfl
  obtain ⟨r, n, us, x, rfl, W, t, hn, q⟩ := h
  have nd := sc40.nd
  obtain ⟨f2, fd2, F2, b2, kp2, m2⟩ := SI.ex
  refine ⟨_, pss_cons (ps_set (i := 2) nd rfl (Or.inl rfl) pe_non)
    (pss_cons (ps_try (E := fun cls _ H' => cls = .ref CN ∧ Same H H') (j := 3) rfl rfl F2 (hr.mono (by decide)) rfl m2 kp2 b2 (pa_cons (pv 0) (pa_cons (pv 1) pa_nil)) rfl R.mF (fun cls H' z => by rw [z.1]; exact R.exm) nd rfl rfl (fun ev => pss_one (ps_set (i := 2) nd rfl (Or.inl rfl) (pv 3))))
    (pss_cons (ps_if (pt_val (pe_callB call_isE rfl B.isinstance boot_isinstance (pa_cons (pv 2) (pa_cons (pe_tup (pa_cons (pe_glob (v := .ref c1) rfl R.m1 rfl) (pa_cons (pe_glob (v := .ref c2) rfl R.m2 rfl) (pa_cons (pe_glob (v := .ref c3) rfl R.m3 rfl) (pa_cons (pe_glob (v := .ref c4) rfl R.m4 rfl) (pa_cons (pe_glob (v := .ref c5) rfl R.m5 rfl)
        (pa_cons (pe_glob (v := .ref c6) rfl R.m6 rfl) (pa_cons (pe_glob (v := .ref c7) rfl R.m7 rfl) (pa_cons (pe_glob (v := .ref c8) rfl R.m8 rfl) (pa_cons (pe_glob (v := .ref c9) rfl R.m9 rfl) pa_nil)))))))))) pa_nil)))) (pss_one (ps_ret pe_bl)) pss_nil)
    (pss_one (ps_ret (pe_and (pe_callB call_isE1 rfl B.isinstance boot_isinstance (pa_cons (pv 2) (pa_cons (pe_glob (v := .ref CN) rfl R.mN rfl) pa_nil))) (pe_one (pe_callB call_isE1 rfl B.isinstance boot_isinstance (pa_cons (pv 2) (pa_cons (pe_bltn (v := .ty "ValueError") rfl R.mV boot_valueError rfl) pa_nil)))))))))
    , ?_⟩
  refine ⟨_, rfl, _, rfl, ⟨r, n, us, x, rfl, W, t, fun _ => ⟨rfl, Same.refl _⟩, fun k ek hk => ?_⟩, ?_⟩
  · subst ek
    have z : num us.length (.int ((k : Nat) : Int)) = true := decide_eq_true (by omega)
    rw [z] at hn
    cases hn
  · rintro cls H2 a ⟨rfl, s2⟩ ha
    have b1 := same_new ha (excO a (.ref CN))
    refine ⟨_, rfl, ?_⟩
    refine ⟨_, rfl, (by show 9 ≤ sizeLine; decide), fun tp htp => ?_⟩
    have b2' := same_new htp (.tup [V.ref c1, V.ref c2, V.ref c3, V.ref c4, V.ref c5, V.ref c6, V.ref c7, V.ref c8, V.ref c9])
    have hea := b2' _ _ (upd_same (H := H2) (a := a) (o := excO a (.ref CN)))
    refine ⟨a, CN, tp, [c1, c2, c3, c4, c5, c6, c7, c8, c9], false, rfl, hea, R.kx, SqT.of upd_same, R.any, false, rfl, iteF ?_⟩
    refine ⟨_, rfl, a, CN, .ref CN, .ref CN, true, rfl, hea, R.kx, R.one, fun u z => z, true, rfl, iteT ?_⟩
    exact ⟨_, rfl, a, CN, .ty "ValueError", .type "ValueError", true, rfl, hea, R.kx, R.val, fun u z => z, q _ (s2.trans (b1.trans b2'))⟩
theorem sc41 : FnScope ["_law_found", "_law_meant_here"] ["_law_found", "_law_meant_here"] (defScope (top 41)) := ⟨rfl, rfl, rfl, by decide +kernel, rfl, by decide +kernel, by decide +kernel⟩
theorem nd41 : (["_law_one", "_law_found", "_law_meant_here"] : List Str).Nodup := by decide +kernel
theorem ok_islist (F : Fun K "_law_is_list" "_law_is_list" (top 41) f fd) (B : Bn mg) : FnOk P w K mg base CX0 1 f fd ["_law_found", "_law_meant_here"] spIsL := by
  refine F.ok sc41 (fun vs H Q E h => ?_) (fun cdv A outer s H vs Q E hr h => ?_)
  · obtain ⟨l, m, S, rfl, _⟩ := h
    rfl
  obtain ⟨l, m, S, rfl, hl, hm, len, q⟩ := h
  have h24 := sizeLine_eq
  refine ⟨_, pss_cons (ps_if (PW.pt (pw_or (pt_not (pt_val (pe_callB call_isinst1 rfl B.isinstance boot_isinstance (pa_cons (pv 0) (pa_cons (pe_bltn (v := .ty "list") rfl B.list boot_list rfl) pa_nil)))))
      (pw_or1 (pt_cmpR (op_neL hr.units) (pv 0) (pv 1) (nomark _))))) (pss_one (ps_ret pe_bl)) pss_nil)
    (pss_one (ps_ret (pe_cmpR (op_eqL hr.units) (pe_lc ["_law_one"] rfl (pi_list (pv 0)) (fun c => pg_name (i := 0) nd41 rfl (Or.inl rfl)) (fun c => pts_one (pt_val (pe_callB call_isinst1 rfl B.isinstance boot_isinstance (pa_cons (pv 0) (pa_cons (pe_bltn (v := .ty "bool") rfl B.bool boot_bool rfl) pa_nil))))) (fun c => pv 0)) (pe_lst pa_nil) (nomark _)))), ?_⟩
  refine ⟨_, rfl, _, _, _, true, rfl, .lst hl, rfl, true, rfl, iteF ?_⟩
  refine ⟨_, rfl, _, rfl, _, _, true, .flt (SqL.of hl), .flt (SqL.of hm), by rw [eqv_ints]; exact decide_eq_true rfl, _, rfl, iteF ?_⟩
  refine ⟨_, rfl, l, rfl, ⟨_, SqL.of hl⟩, lc_list (xs := S.map V.int) (by rw [List.length_map]; omega) (fun i zs H3 => H3 = H ∧ zs = []) ⟨rfl, rfl⟩ ?_ ?_ ?_ ?_⟩
  · rintro i zs H3 ⟨rfl, _⟩
    exact SqL.of hl
  · rintro i zs H3 ⟨_, rfl⟩
    exact Nat.zero_le _
  · rintro c j y zs H3 hy ⟨rfl, rfl⟩
    rw [List.getElem?_map] at hy
    obtain ⟨yi, hyi, rfl⟩ : ∃ yi, S[j]? = some yi ∧ V.int yi = y := by
      cases z : S[j]? with
      | none => rw [z] at hy; cases hy
      | some yi => rw [z] at hy; exact ⟨yi, rfl, Option.some.inj hy⟩
    exact ⟨_, rfl, _, _, _, false, rfl, .int yi, rfl, false, rfl, iteF (A := True) ⟨rfl, rfl⟩⟩
  rintro zs H3 ⟨rfl, rfl⟩ l4 hl4
  have c1 := same_new hl4 (.lst [])
  refine ⟨(by show 0 ≤ sizeLine; decide), fun l5 hl5 => ?_⟩
  have c2 := same_new hl5 (.lst [])
  exact ⟨_, _, true, .flt (l := []) (SqL.of (c2 _ _ upd_same)), .flt (l := []) (SqL.of upd_same), rfl, q _ (c1.trans c2)⟩
end
theorem ptk {α β : Type} {F : α → β → Prop} : ∀ {l₁ : List α} {l₂ : List β} (k : Nat), Paired F l₁ l₂ → Paired F (l₁.take k) (l₂.take k)
  | _, _, 0, _ => by simp; exact .nil
  | _, _, k + 1, .nil => by simp; exact .nil
  | _, _, k + 1, .cons r t => by simp; exact .cons r (ptk k t)
theorem pdp {α β : Type} {F : α → β → Prop} : ∀ {l₁ : List α} {l₂ : List β} (k : Nat), Paired F l₁ l₂ → Paired F (l₁.drop k) (l₂.drop k)
  | _, _, 0, h => by simpa using h
  | _, _, k + 1, .nil => by simp; exact .nil
  | _, _, k + 1, .cons r t => by simp; exact pdp k t
theorem cut_lo (ws : List V) (k : Nat) (hk : k ≤ ws.length) : cutV ws none (some ((k : Nat) : Int)) = ws.take k := by
  unfold cutV
  rw [HT.sIx_none, HT.sIx_nat]
  have : min k ws.length = k := by omega
  rw [this]
  simp
theorem cut_hi (ws : List V) (k : Nat) : cutV ws (some ((k : Nat) : Int)) none = ws.drop k := by
  unfold cutV
  rw [HT.sIx_none, HT.sIx_nat]
  by_cases h : k ≤ ws.length
  · have : min k ws.length = k := by omega
    rw [this, List.take_of_length_le (by rw [List.length_drop]; exact Nat.le_refl _)]
  · have : min k ws.length = ws.length := by omega
    rw [this, List.drop_length, List.drop_of_length_le (by omega)]
    simp
theorem mem_less {us : List Tie} {k : Nat} {t : Tie} : t ∈ us.take k ++ us.drop (k + 1) ↔ t ∈ lessN us [((k : Nat) : Int)] := by
  rw [mem_lessN, List.mem_append, List.mem_iff_getElem?, List.mem_iff_getElem?]
  constructor
  · rintro (⟨i, h⟩ | ⟨i, h⟩)
    · rw [List.getElem?_take] at h
      split at h
      · rename_i hi
        exact ⟨i, h, by simp; omega⟩
      · cases h
    · rw [List.getElem?_drop] at h
      exact ⟨k + 1 + i, h, by simp; omega⟩
  · rintro ⟨i, h, hi⟩
    have hi' : i ≠ k := fun z => hi (by simp [z])
    by_cases c : i < k
    · exact .inl ⟨i, by rw [List.getElem?_take, if_pos c]; exact h⟩
    · exact .inr ⟨i - (k + 1), by rw [List.getElem?_drop]; rw [show k + 1 + (i - (k + 1)) = i by omega]; exact h⟩
theorem edge_less (us : List Tie) (k : Nat) : Edge (us.take k ++ us.drop (k + 1)) = Edge (lessN us [((k : Nat) : Int)]) := by
  funext i q
  unfold Edge
  rw [mem_less, mem_less]
theorem SideV.same {H H' : Hp} {v : V} {o : Option (List Int)} (h : SideV H v o) (s : Same H H') : SideV H' v o := by
  cases o with
  | none => exact h
  | some S => obtain ⟨a, e, z⟩ := h; exact ⟨a, e, s _ _ z⟩
noncomputable def spMeant6 : Sp := fun vs H Q _ => ∃ (r : Addr) (n : Int) (us : List Tie), vs = [.ref r] ∧ Web H r n us ∧ ∀ l xs H', Same H H' → H' l = some (.lst xs) → Paired (SideV H') xs ((List.range us.length).map (sideO n.toNat us)) → H l = none → Q (.ref l) H'
section
variable {P : Program} {w : World} {K : PySem.W.Frag} {mg : Str → Option Value} {base : Heap} {f : Addr} {fd : FuncData}
theorem sc42 : FnScope ["_law_web", "_law_found", "_law_number", "_law_rest", "_law_side"] ["_law_web"] (defScope (top 42)) := ⟨rfl, rfl, rfl, by decide +kernel, rfl, by decide +kernel, by decide +kernel⟩
theorem ok_meant6 (F : Fun K "_law_meant" "_law_meant" (top 42) f fd) (B : Bn mg) (FL : Cal P w K mg base 1 "_law_flood" ["_law_n", "_law_pairs", "_law_start"] spFlood) : FnOk P w K mg base CX0 2 f fd ["_law_web"] spMeant6 := by
  refine F.ok sc42 (fun vs H Q E h => ?_) (fun cdv A outer s H vs Q E hr h => ?_)
  · obtain ⟨r, n, us, rfl, _⟩ := h
    rfl
  obtain ⟨r, n, us, rfl, W, q⟩ := h
  have nd := sc42.nd
  have h24 := sizeLine_eq
  refine ⟨_, pss_cons (ps_set (i := 1) nd rfl (Or.inl rfl) (pe_lst pa_nil))
    (pss_cons (ps_for PassesOwn.never rfl (pi_range1 rfl B.range (pa_cons (pe_callB call_len_seq rfl B.len PySem.boot_len (pa_cons (pe_ix ix_tup (pv 0) pe_int (fun _ _ => rfl)) pa_nil)) pa_nil)) (pg_name (i := 2) nd rfl (Or.inl rfl))
      (pss_cons (ps_set (i := 3) nd rfl (Or.inl rfl) (pe_callTy call_list_of rfl B.list boot_list (pa_cons (pe_op op_catS (pe_slice sl_tup (pe_ix ix_tup (pv 0) pe_int (fun _ _ => rfl)) po_none (po_some (pv 2))) (pe_slice sl_tup (pe_ix ix_tup (pv 0) pe_int (fun _ _ => rfl)) (po_some (pe_op op_add (pv 2) pe_int)) po_none)) pa_nil)))
      (pss_cons (ps_set (i := 4) nd rfl (Or.inl rfl) (pc FL hr (pa_cons (pe_ix ix_tup (pv 0) pe_int (fun _ _ => rfl)) (pa_cons (pv 3) (pa_cons (pe_ix ix_tup (pe_ix ix_tup (pe_ix ix_tup (pv 0) pe_int (fun _ _ => rfl)) (pv 2) (fun _ _ => rfl)) pe_int (fun _ _ => rfl)) pa_nil)))))
      (pss_one (ps_expr (pe_bm PySem.F.plainAttrs_list PySem.F.slot_list_append PySem.F.type_list_append mt_append (pv 1) (pa_cons (pe_ix ix_list (pe_lst (pa_cons (pv 4) (pa_cons pe_non pa_nil))) (pe_callTy call_int1 rfl B.int boot_int (pa_cons (pe_cmpR op_in_seq (pe_ix ix_tup (pe_ix ix_tup (pe_ix ix_tup (pv 0) pe_int (fun _ _ => rfl)) (pv 2) (fun _ _ => rfl)) pe_int (fun _ _ => rfl)) (pv 4) rfl) pa_nil)) (fun _ _ => rfl)) pa_nil)))))))
    (pss_one (ps_ret (pv 1)))), ?_⟩
  obtain ⟨tt, ws, hr1, ht1, pr1⟩ := W.told.ex
  have hlw := pr1.length
  have h40 := W.len
  have n1 := W.n1
  refine ⟨(by show 0 ≤ sizeLine; decide), fun tl htl => ?_⟩
  have b1 := same_new htl (.lst [])
  refine ⟨_, rfl, r, _, _, _, rfl, rfl, SqT.of (b1 _ _ hr1), at1 _ _, tt, ws, rfl, .inr (SqT.of (b1 _ _ ht1)), (us.length : Int), by rw [hlw], by omega, by omega, ?_⟩
  refine for_range (lo := 0) (n := us.length) (fun k σ H2 => ∃ (a2 a3 a4 : Option V) (xs : List V), σ = [some (.ref r), some (.ref tl), a2, a3, a4] ∧ H2 tl = some (.lst xs) ∧ Paired (fun v o => SideV H2 v o ∧ v ≠ .ref tl) xs ((List.range k).map (sideO n.toNat us)) ∧ Same H H2) ⟨_, _, _, [], rfl, upd_same, .nil, b1⟩ ?_ ?_
  · rintro k σ H2 hk ⟨a2, a3, a4, xs, rfl, hL, pxs, s2⟩
    have ekk : (0 : Int) + ((k : Nat) : Int) = ((k : Nat) : Int) := by omega
    rw [ekk]
    have hlx := pxs.length
    rw [List.length_map, List.length_range] at hlx
    have hr2 := s2 _ _ hr1
    have ht2 := s2 _ _ ht1
    refine ⟨_, rfl, r, _, _, _, rfl, rfl, SqT.of hr2, at1 _ _, _, rfl, _, rfl, tt, ws, rfl, SqT.of ht2, ?_, fun t1 ht1' => ?_⟩
    · rw [HT.sIx_none, HT.sIx_nat]
      omega
    rw [cut_lo ws k (by omega)] at *
    have c1 := same_new ht1' (.tup (ws.take k))
    have hr3 := c1 _ _ hr2
    have ht3 := c1 _ _ ht2
    have e1 : ((k : Nat) : Int) + 1 = ((k + 1 : Nat) : Int) := by omega
    refine ⟨_, rfl, r, _, _, _, rfl, rfl, SqT.of hr3, at1 _ _, _, rfl, _, _, rfl, rfl, _, rfl, tt, ws, rfl, SqT.of ht3, ?_, fun t2 ht2' => ?_⟩
    · rw [e1, HT.sIx_none, HT.sIx_nat]
      omega
    rw [e1, cut_hi] at *
    have c2 := same_new ht2' (.tup (ws.drop (k + 1)))
    refine ⟨t1, t2, _, _, rfl, rfl, c2 _ _ upd_same, upd_same, by rw [List.length_take, List.length_drop]; omega, fun ct H3 s3 hct => ?_⟩
    have s03 : Same H2 H3 := c1.trans (c2.trans s3)
    refine ⟨ct, _, rfl, .inr (SqT.of hct), fun rl hrl => ?_⟩
    have c3 := same_new hrl (.lst (ws.take k ++ ws.drop (k + 1)))
    have s04 := s03.trans c3
    have sH4 := s2.trans s04
    obtain ⟨wv, hwv⟩ : ∃ v, ws[k]? = some v := ⟨_, List.getElem?_eq_getElem (by omega)⟩
    obtain ⟨tie, htie, pp, rfl, hpp⟩ := pgetL pr1 hwv
    have okt := W.ok tie (List.mem_of_getElem? htie)
    have lt4 : LstT (upd H3 rl (.lst (ws.take k ++ ws.drop (k + 1)))) rl n (us.take k ++ us.drop (k + 1)) := ⟨⟨_, upd_same, Prs.app (ptk k (Prs.same sH4 pr1)) (pdp (k + 1) (Prs.same sH4 pr1))⟩, fun t ht => W.ok t (lessN_sub (mem_less.mp ht))⟩
    generalize upd H3 rl (.lst (ws.take k ++ ws.drop (k + 1))) = H4 at s04 sH4 lt4
    refine ⟨_, rfl, r, _, _, _, rfl, rfl, SqT.of (sH4 _ _ hr1), at0 _ _, _, rfl, _, rfl, r, _, _, _, rfl, rfl, SqT.of (sH4 _ _ hr1), at1 _ _, _, rfl, tt, _, _, _, rfl, rfl, SqT.of (sH4 _ _ ht1), atI_nat hwv, pp, _, _, _, rfl, rfl, SqT.of (sH4 _ _ hpp), at0 _ _, rl, n, us.take k ++ us.drop (k + 1), tie.1, rfl, lt4, okt.1, okt.2.1, W.n16, fun sl H5 s5 hsl hsn => ?_⟩
    rw [edge_less] at hsl
    have sH5 := sH4.trans s5
    have hL5 := s5 _ _ (s04 _ _ hL)
    refine ⟨_, rfl, .inl ⟨rfl, _, SqL.of hL5⟩, _, rfl, (by show 2 ≤ sizeLine; decide), fun l2 hl2 => ?_⟩
    have c4 := same_new hl2 (.lst [V.ref sl, V.non])
    have sH6 := sH5.trans c4
    refine ⟨_, rfl, r, _, _, _, rfl, rfl, SqT.of (sH6 _ _ hr1), at1 _ _, _, rfl, tt, _, _, _, rfl, rfl, SqT.of (sH6 _ _ ht1), atI_nat hwv, pp, _, _, _, rfl, rfl, SqT.of (sH6 _ _ hpp), at1 _ _, _, rfl, sl, _, rfl, .inl (SqL.of (c4 _ _ hsl)), rfl, all_flat _, .inr ⟨_, rfl, ?_⟩⟩
    rw [if_neg Bool.false_ne_true, inV_ints]
    have hL6 := c4 _ _ hL5
    have hs : sideO n.toNat us k = if tie.2 ∈ setO n.toNat us k tie then none else some (setO n.toNat us k tie) := by
      unfold sideO
      rw [htie]
    have hslT : sl ≠ tl := fun z => by
      rw [z, s04 _ _ hL] at hsn
      cases hsn
    have er : (List.range (k + 1)).map (sideO n.toNat us) = (List.range k).map (sideO n.toNat us) ++ [sideO n.toNat us k] := by rw [List.range_succ, List.map_append]; rfl
    have fin : ∀ v : V, SideV H5 v (sideO n.toNat us k) → v ≠ .ref tl → Paired (fun v2 o => SideV (upd (upd H5 l2 (.lst [V.ref sl, V.non])) tl (.lst (xs ++ [v]))) v2 o ∧ v2 ≠ .ref tl) (xs ++ [v]) ((List.range (k + 1)).map (sideO n.toNat us)) := fun v sv nv => by
      have up : ∀ (v' : V) (o : Option (List Int)), SideV H5 v' o → v' ≠ .ref tl → SideV (upd (upd H5 l2 (.lst [V.ref sl, V.non])) tl (.lst (xs ++ [v]))) v' o := fun v' o h hne => by
        cases o with
        | none => exact h
        | some S =>
          obtain ⟨a, rfl, ha⟩ := h
          exact ⟨a, rfl, by rw [upd_ne (fun z => hne (by rw [z]))]; exact c4 _ _ ha⟩
      rw [er]
      exact Paired.snoc (Paired.mapP pxs fun v' o z => ⟨up v' o (z.1.same (s04.trans s5)) z.2, z.2⟩) ⟨up v _ sv nv, nv⟩
    have sN : ∀ v : V, Same H (upd (upd H5 l2 (.lst [V.ref sl, V.non])) tl (.lst (xs ++ [v]))) := fun v b u z => by rw [upd_ne (ne_of_none z htl)]; exact sH6 _ _ z
    by_cases hin : tie.2 ∈ setO n.toNat us k tie
    · have hin' : tie.2 ∈ prt n.toNat (Edge (lessN us [((k : Nat) : Int)])) tie.1 := hin
      rw [decide_eq_true hin']
      refine ⟨l2, _, _, _, rfl, rfl, SqL.of upd_same, at1 _ _, tl, _, _, rfl, rfl, hL6, by omega, ?_⟩
      exact ⟨_, _, _, _, rfl, upd_same, fin .non (by rw [hs, if_pos hin]; rfl) (by intro z; cases z), sN _⟩
    · have hin' : ¬ tie.2 ∈ prt n.toNat (Edge (lessN us [((k : Nat) : Int)])) tie.1 := hin
      rw [decide_eq_false hin']
      refine ⟨l2, _, _, _, rfl, rfl, SqL.of upd_same, at0 _ _, tl, _, _, rfl, rfl, hL6, by omega, ?_⟩
      exact ⟨_, _, _, _, rfl, upd_same, fin (.ref sl) (by rw [hs, if_neg hin]; exact ⟨sl, rfl, hsl⟩) (by intro z; exact hslT (V.ref.inj z)), sN _⟩
  · rintro σ H2 ⟨a2, a3, a4, xs, rfl, hL, pxs, s2⟩
    exact ⟨_, rfl, q tl xs H2 s2 hL (Paired.mapP pxs fun _ _ z => z.1) htl⟩
end
end Nf

set_option Elab.async false
set_option linter.all false
set_option maxRecDepth 100000
namespace Nf
open PySem L2 PyProof.Rows
noncomputable def spLaw (K : PySem.W.Frag) : Sp := fun vs H Q _ => ∃ (a : Addr) (ns : List Int), vs = [.ref a] ∧ SqF K H a ns ∧ ∀ H', Q (.bl true) H'
theorem Told.wr {H : Hp} {q r : Addr} {xs : List V} {o : HO} {n : Int} {us : List Tie} (T : Told H r n us) (hq : H q = some (.lst xs)) : Told (upd H q o) r n us := by
  obtain ⟨t, ws, a, b, c⟩ := T.ex
  exact ⟨t, ws, by rw [upd_ne (ne_of a hq (by intro z; cases z))]; exact a, by rw [upd_ne (ne_of b hq (by intro z; cases z))]; exact b, prs_wr hq c⟩
theorem Told.kp {K : PySem.W.Frag} {H H' : Hp} {p r : Addr} {n : Int} {us : List Tie} (T : Told H r n us) (hp : PenAt K H p) (k : Kp K p H H') : Told H' r n us := by
  obtain ⟨t, ws, a, b, c⟩ := T.ex
  exact ⟨t, ws, k.tup hp a, k.tup hp b, k.prs hp c⟩
theorem Web.wr {H : Hp} {q r : Addr} {xs : List V} {o : HO} {n : Int} {us : List Tie} (T : Web H r n us) (hq : H q = some (.lst xs)) : Web (upd H q o) r n us := ⟨T.told.wr hq, T.n1, T.n16, T.len, T.ok⟩
structure Good (K : PySem.W.Frag) (p rw sl : Addr) (n : Int) (us : List Tie) (xs : List V) (H : Hp) : Prop where
  pen : PenAt K H p
  web : Web H rw n us
  lst : H sl = some (.lst xs)
  sid : Paired (SideV H) xs ((List.range us.length).map (sideO n.toNat us))
theorem Good.same {K : PySem.W.Frag} {p rw sl : Addr} {n : Int} {us : List Tie} {xs : List V} {H H' : Hp} (g : Good K p rw sl n us xs H) (s : Same H H') : Good K p rw sl n us xs H' := ⟨g.pen.same s, g.web.same s, s _ _ g.lst, Paired.mapP g.sid fun _ _ z => z.same s⟩
theorem Good.wr {K : PySem.W.Frag} {p rw sl a : Addr} {n : Int} {us : List Tie} {xs ys : List V} {o : HO} {H H' : Hp} (g : Good K p rw sl n us xs H) (s : Same H H') (hn : H a = none) (ha : H' a = some (.lst ys)) : Good K p rw sl n us xs (upd H' a o) := by
  have g' := g.same s
  refine ⟨g'.pen.wr ha (g.pen.ne hn), g'.web.wr ha, by rw [upd_ne (ne_of_none g.lst hn)]; exact g'.lst, Paired.mapP g.sid fun v q z => ?_⟩
  cases q with
  | none => exact z
  | some S =>
    obtain ⟨b, rfl, hb⟩ := z
    exact ⟨b, rfl, by rw [upd_ne (ne_of_none hb hn)]; exact s _ _ hb⟩
theorem num_bad {m i : Int} (h : ¬ (0 ≤ i ∧ i < m)) : num m (.int i) = false := decide_eq_false h
theorem side_len {n : Nat} {us : List Tie} {k : Nat} {S : List Int} (h : sideO n us k = some S) : S.length ≤ n := by
  unfold sideO at h
  split at h
  · cases h
  · split at h
    · cases h
    · cases h
      exact nd_len (prt_rise.imp fun h => by omega) fun x h => (mem_prt.mp h).1
theorem cuts_len (n : Nat) (us : List Tie) : (cutsL n us).length ≤ us.length := by
  unfold cutsL
  rw [List.length_map]
  have := List.length_filter_le (fun k => (sideO n us k).isSome) (List.range us.length)
  rw [List.length_range] at this
  exact this
theorem Good.at {K : PySem.W.Frag} {p rw sl : Addr} {n : Int} {us : List Tie} {xs : List V} {H : Hp} (g : Good K p rw sl n us xs H) {k : Nat} (hk : k < us.length) : ∃ v, xs[k]? = some v ∧ SideV H v (sideO n.toNat us k) := by
  have hl := g.sid.length
  rw [List.length_map, List.length_range] at hl
  obtain ⟨o, ho, hv⟩ := pgetL g.sid (List.getElem?_eq_getElem (show k < xs.length by omega))
  rw [List.getElem?_map, List.getElem?_range hk] at ho
  cases ho
  exact ⟨_, List.getElem?_eq_getElem (by omega), hv⟩
section
variable {P : Program} {w : World} {K : PySem.W.Frag} {mg : Str → Option Value} {base : Heap} {f : Addr} {fd : FuncData}
theorem sc43 : FnScope ["_law_script", "_law_pen_here", "_law_turn", "_law_n", "_law_web", "_law_sides", "_law_number", "_law_again", "_law_found", "_law_many", "_law_thing"] ["_law_script"] (defScope (top 43)) := ⟨rfl, rfl, rfl, by decide +kernel, rfl, by decide +kernel, by decide +kernel⟩
theorem nd43 : (["_law_k", "_law_script", "_law_pen_here", "_law_turn", "_law_n", "_law_web", "_law_sides", "_law_number", "_law_again", "_law_found", "_law_many", "_law_thing"] : List Str).Nodup := by decide +kernel
noncomputable def thgs (m r : Int) (la ta da : Addr) : List V := [V.int (m + r), V.int (-1), V.non, V.str "0", V.bl true, V.bl false, V.ref la, V.ref ta, V.int (10 ^ 25), V.ref da, V.int (-1 - m)]
noncomputable def tThg (K : PySem.W.Frag) : TS := fun D σ H => ∃ (sc p rw sl : Addr) (n : Int) (us : List Tie) (a2 a6 a7 a8 a10 : Option V), σ = [some (.ref sc), some (.ref p), a2, some (.int n), some (.ref rw), some (.ref sl), a6, a7, a8, some (.int us.length), a10] ∧ PenAt K H p ∧ Web H rw n us ∧
  ∀ b H', PenAt K H' p → D.nx [some (.ref sc), some (.ref p), a2, some (.int n), some (.ref rw), some (.ref sl), a6, a7, a8, some (.int us.length), b] H'
noncomputable def tCt (K : PySem.W.Frag) : TS := fun D σ H => ∃ (sc p rw sl : Addr) (n : Int) (us : List Tie) (xs : List V) (a2 a6 a7 a8 a9 a10 : Option V), σ = [some (.ref sc), some (.ref p), a2, some (.int n), some (.ref rw), some (.ref sl), a6, a7, a8, a9, a10] ∧ Good K p rw sl n us xs H ∧
  ∀ b2 b6 b7 b8 b9 b10 H', PenAt K H' p → D.nx [some (.ref sc), some (.ref p), b2, some (.int n), some (.ref rw), some (.ref sl), b6, b7, b8, b9, b10] H'
set_option maxHeartbeats 4000000 in
theorem ok_law {CN : Addr} (F : Fun K "law" "law" (top 43) f fd) (B : Bn mg) (Pn : Cal P w K mg base 1 "_law_pen" ["_law_script"] (spPen K)) (T : Cal P w K mg base 1 "_law_take" ["_law_pen_here", "_law_many"] (spTake K))
    (TI : Cal P w K mg base 4 "_law_ties" ["_law_pen_here", "_law_n"] (spTies K)) (ME : Cal P w K mg base 2 "_law_meant" ["_law_web"] spMeant6) (IL : Cal P w K mg base 1 "_law_is_list" ["_law_found", "_law_meant_here"] spIsL) (RF : Cal P w K mg base 6 "_law_refused" ["_law_web", "_law_thing"] spRef)
    (W : Cal P w K mg base 6 "web_of" ["n", "ties"] (spWeb flat)) (SI : Cal1 P w K mg base 5 "side_of" ["web", "number"] (spSide CN)) (CU : Cal P w K mg base 6 "cut_ties" ["web"] spCut) : FnOk P w K mg base CX0 7 f fd ["_law_script"] (spLaw K) := by
  refine F.ok sc43 (fun vs H Q E h => ?_) (fun cdv A outer s H vs Q E hr h => ?_)
  · obtain ⟨a, ns, rfl, _⟩ := h
    rfl
  obtain ⟨sc, ns, rfl, hS, q⟩ := h
  have nd := sc43.nd
  have h24 := sizeLine_eq
  refine ⟨_, pss_cons (ps_set (i := 1) nd rfl (Or.inl rfl) (pc Pn hr (pa_cons (pv 0) pa_nil)))
    (pss_cons (ps_for PassesOwn.never rfl (pi_range1 rfl B.range (pa_cons pe_int pa_nil)) (pg_name (i := 2) nd rfl (Or.inl rfl))
      (pss_cons (ps_set (i := 3) nd rfl (Or.inl rfl) (pe_ix ix_list (pe_lst (pa_cons (pe_op op_add pe_int (pc T hr (pa_cons (pv 1) (pa_cons pe_int pa_nil)))) (pa_cons (pe_op op_add pe_int (pc T hr (pa_cons (pv 1) (pa_cons pe_int pa_nil)))) pa_nil))) (pc T hr (pa_cons (pv 1) (pa_cons pe_int pa_nil))) (fun _ _ => rfl)))
      (pss_cons (ps_set (i := 4) nd rfl (Or.inl rfl) (pc W hr (pa_cons (pv 3) (pa_cons (pc TI hr (pa_cons (pv 1) (pa_cons (pv 3) pa_nil))) pa_nil))))
      (pss_cons (ps_set (i := 5) nd rfl (Or.inr rfl) (pc ME hr (pa_cons (pv 4) pa_nil)))
      (pss_cons (ps_for PassesOwn.never rfl (pi_range1 rfl B.range (pa_cons (pe_callB call_len_seq rfl B.len PySem.boot_len (pa_cons (pe_ix ix_tup (pv 4) pe_int (fun _ _ => rfl)) pa_nil)) pa_nil)) (pg_name (i := 6) nd rfl (Or.inl rfl))
        (pss_one (ps_for PassesOwn.never rfl (pi_range1 rfl B.range (pa_cons pe_int pa_nil)) (pg_name (i := 7) nd rfl (Or.inl rfl))
          (pss_cons (ps_set (i := 8) nd rfl (Or.inl rfl) (pc1 SI hr pass10 (pa_cons (pv 4) (pa_cons (pv 6) pa_nil))))
          (pss_cons (ps_if (PW.pt (pw_and (pt_cmpR op_isN (pe_ix ix_list (pv 5) (pv 6) (fun _ _ => rfl)) pe_non (nomark _)) (pw_and1 (pt_cmpR op_notN (pv 8) pe_non (nomark _))))) (pss_one (ps_ret pe_bl)) pss_nil)
          (pss_one (ps_if (pt_cmpR op_notN (pe_ix ix_list (pv 5) (pv 6) (fun _ _ => rfl)) pe_non (nomark _))
            (pss_cons (ps_if (pt_not (pt_val (pc IL hr (pa_cons (pv 8) (pa_cons (pe_ix ix_list (pv 5) (pv 6) (fun _ _ => rfl)) pa_nil))))) (pss_one (ps_ret pe_bl)) pss_nil)
            (pss_one (ps_expr (pe_bm PySem.F.plainAttrs_list PySem.F.slot_list_append PySem.F.type_list_append mt_append (pv 8) (pa_cons (pv 3) pa_nil))))) pss_nil)))))))
      (PSs.wk (t' := tCt K) (pss_cons (ps_for PassesOwn.never rfl (pi_range1 rfl B.range (pa_cons pe_int pa_nil)) (pg_name (i := 7) nd rfl (Or.inl rfl))
        (pss_cons (ps_set (i := 8) nd rfl (Or.inl rfl) (pc CU hr (pa_cons (pv 4) pa_nil)))
        (pss_cons (ps_if (pt_not (pt_val (pc IL hr (pa_cons (pv 8) (pa_cons (pe_lc ["_law_k"] rfl (pi_range1 rfl B.range (pa_cons (pe_callB call_len_seq rfl B.len PySem.boot_len (pa_cons (pe_ix ix_tup (pv 4) pe_int (fun _ _ => rfl)) pa_nil)) pa_nil)) (fun c => pg_name (i := 0) nd43 rfl (Or.inl rfl)) (fun c => pts_one (pt_cmpR op_notN (pe_ix ix_list (pv 6) (pv 0) (fun _ _ => rfl)) pe_non (nomark _))) (fun c => pv 0)) pa_nil))))) (pss_one (ps_ret pe_bl)) pss_nil)
        (pss_one (ps_expr (pe_bm PySem.F.plainAttrs_list PySem.F.slot_list_append PySem.F.type_list_append mt_append (pv 8) (pa_cons pe_int pa_nil)))))))
      (pss_cons (ps_set (i := 9) nd rfl (Or.inl rfl) (pe_callB call_len_seq rfl B.len PySem.boot_len (pa_cons (pe_ix ix_tup (pv 4) pe_int (fun _ _ => rfl)) pa_nil)))
      (PSs.wk (t' := tThg K) (pss_one (ps_for PassesOwn.never rfl (pi_list (pe_lst (pa_cons (pe_op op_add (pv 9) (pc T hr (pa_cons (pv 1) (pa_cons pe_int pa_nil)))) (pa_cons (pe_un un_neg pe_int) (pa_cons pe_non (pa_cons pe_str (pa_cons pe_bl (pa_cons pe_bl (pa_cons (pe_lst (pa_cons pe_int pa_nil)) (pa_cons (pe_tup (pa_cons pe_int pa_nil)) (pa_cons (pe_op op_pow pe_int pe_int) (pa_cons pe_dnewK (pa_cons (pe_op op_sub (pe_un un_neg pe_int) (pv 9)) pa_nil))))))))))))) (pg_name (i := 10) nd rfl (Or.inl rfl))
        (pss_one (ps_if (pt_not (pt_val (pc RF hr (pa_cons (pv 4) (pa_cons (pv 10) pa_nil))))) (pss_one (ps_ret pe_bl)) pss_nil)))) ?thg))) ?ct))))))
    (pss_one (ps_ret pe_bl))), ?_⟩
  case ct =>
    rintro D σ H9 ⟨sc, p, rw, sl, n, us, xs, a2, a6, a7, a8, a9, a10, rfl, g9, dn⟩
    have h40 := g9.web.len
    refine ⟨2, rfl, by decide, by decide, for_range (lo := 0) (n := 2) (fun j σ H' => ∃ a2 a6 a7 a8 a9 a10, σ = [some (.ref sc), some (.ref p), a2, some (.int n), some (.ref rw), some (.ref sl), a6, a7, a8, a9, a10] ∧ Good K p rw sl n us xs H') ⟨_, _, _, _, _, _, rfl, g9⟩ ?_ ?_⟩
    · rintro j σ H' _ ⟨a2, a6, a7, a8, a9, a10, rfl, g⟩
      refine ⟨_, rfl, rw, n, us, rfl, g.web, fun cl H3 s3 hcl hcn => ?_⟩
      have g3 := g.same s3
      obtain ⟨tt, ws, hr1, ht1, pr1⟩ := g3.web.told.ex
      have hlw := pr1.length
      refine ⟨_, rfl, _, rfl, rw, _, _, _, rfl, rfl, SqT.of hr1, at1 _ _, tt, ws, rfl, .inr (SqT.of ht1), (us.length : Int), by rw [hlw], by omega, by omega, ?_⟩
      refine lc_rng (lo := 0) (k := us.length) (by omega) (fun i ys H' => H' = H3 ∧ ys = ((((List.range us.length).take i).filter fun k => (sideO n.toNat us k).isSome).map fun k => ((k : Nat) : Int)).map V.int ∧ i ≤ us.length) ⟨rfl, rfl, Nat.zero_le _⟩ ?_ ?_ ?_
      · rintro i ys H' ⟨_, rfl, hi⟩
        rw [List.length_map, List.length_map]
        have := List.length_filter_le (fun k => (sideO n.toNat us k).isSome) ((List.range us.length).take i)
        rw [List.length_take] at this
        omega
      · rintro c i ys H' hi ⟨rfl, rfl, _⟩
        have e0 : (0 : Int) + ((i : Nat) : Int) = ((i : Nat) : Int) := by omega
        rw [e0]
        obtain ⟨xv, hxv, sxv⟩ := g3.at hi
        refine ⟨_, rfl, _, rfl, sl, _, _, _, rfl, rfl, SqL.of g3.lst, atI_nat hxv, rfl, _, rfl, ?_⟩
        cases ho : sideO n.toNat us i with
        | none =>
          rw [ho] at sxv
          have e2 : xv = .non := sxv
          subst e2
          refine iteF (A := True) ⟨rfl, ?_, hi⟩
          rw [cutsL_take n.toNat us i hi, ho]
          simp
        | some S =>
          rw [ho] at sxv
          obtain ⟨b, rfl, hb⟩ := sxv
          refine iteT (B := True) ⟨_, rfl, rfl, ?_, hi⟩
          rw [cutsL_take n.toNat us i hi, ho]
          simp
      rintro ys H' ⟨rfl, rfl, _⟩ l4 hl4
      have ef : (List.range us.length).take us.length = List.range us.length := List.take_of_length_le (by simp)
      have c4 := same_new hl4 (.lst (((((List.range us.length).take us.length).filter fun k => (sideO n.toNat us k).isSome).map fun k => ((k : Nat) : Int)).map V.int))
      have hcl4 := c4 _ _ hcl
      have hcu := cuts_len n.toNat us
      refine ⟨cl, l4, cutsL n.toNat us, rfl, hcl4, by rw [upd_same, ef]; rfl, by omega, fun H4 s4 => ⟨true, rfl, iteF (A := True) ?_⟩⟩
      have hc5 := s4 _ _ hcl4
      refine ⟨_, rfl, .inl ⟨rfl, _, SqL.of hc5⟩, cl, _, _, rfl, rfl, hc5, by rw [List.length_map]; omega, ?_⟩
      exact ⟨_, _, _, _, _, _, rfl, g.wr (s3.trans (c4.trans s4)) hcn hc5⟩
    rintro σ H10 ⟨a2, a6, a7, a8, a9, a10, rfl, g10⟩
    obtain ⟨tt, ws, hr1, ht1, pr1⟩ := g10.web.told.ex
    have hlw := pr1.length
    refine ⟨_, rfl, rw, _, _, _, rfl, rfl, SqT.of hr1, at1 _ _, tt, ws, rfl, .inr (SqT.of ht1), ?_⟩
    rw [hlw]
    exact ⟨sc, p, rw, sl, n, us, a2, a6, a7, a8, a10, rfl, g10.pen, g10.web, fun b H' hp' => dn _ _ _ _ _ _ H' hp'⟩
  case thg =>
    rintro D σ H10 ⟨sc, p, rw, sl, n, us, a2, a6, a7, a8, a10, rfl, pen0, W0, dn⟩
    have h40 := W0.len
    refine ⟨_, rfl, _, rfl, p, 5, rfl, by decide, by decide, pen0, fun r5 H11 r50 r51 k11 => ?_⟩
    have W11 : Web H11 rw n us := ⟨W0.told.kp pen0 k11, W0.n1, W0.n16, W0.len, W0.ok⟩
    refine ⟨_, _, rfl, rfl, _, rfl, (by show 1 ≤ sizeLine; decide), fun la hla => ?_⟩
    have d1 := same_new hla (.lst [V.int 0])
    refine ⟨(by show 1 ≤ sizeLine; decide), fun ta hta => ?_⟩
    have d2 := same_new hta (.tup [V.int 0])
    refine ⟨_, _, rfl, rfl, ⟨by decide, by decide, by decide⟩, fun da hda => ?_⟩
    have d3 := same_new hda (.dK [])
    refine ⟨_, rfl, _, rfl, _, _, rfl, rfl, (by show 11 ≤ sizeLine; decide), fun LT hLT => ?_⟩
    have d4 := same_new hLT (.lst (thgs us.length r5 la ta da))
    have sm := d1.trans (d2.trans (d3.trans d4))
    refine ⟨LT, rfl, ⟨_, SqL.of upd_same⟩, for_list (xs := (thgs us.length r5 la ta da)) (fun j σ H' => ∃ a10, σ = [some (.ref sc), some (.ref p), a2, some (.int n), some (.ref rw), some (.ref sl), a6, a7, a8, some (.int us.length), a10] ∧ PenAt K H' p ∧ Web H' rw n us ∧
        H' LT = some (.lst (thgs us.length r5 la ta da)) ∧ (H' la = some (.lst [V.int 0]) ∧ H' ta = some (.tup [V.int 0]) ∧ H' da = some (.dK []))) ⟨_, rfl, k11.pen.same sm, W11.same sm, upd_same, (d2.trans (d3.trans d4)) _ _ upd_same, (d3.trans d4) _ _ upd_same, d4 _ _ upd_same⟩ ?_ ?_ ?_⟩
    · rintro j σ H' _ ⟨_, _, _, _, h, _⟩
      exact SqL.of h
    · rintro j x σ H' hx ⟨a10, rfl, hp', W', hLT', h1, h2, h3⟩
      have key : Thing H' x ∧ num us.length x = false := by
        have hm := List.mem_of_getElem? hx
        simp only [thgs, List.mem_cons, List.not_mem_nil, or_false] at hm
        rcases hm with rfl | rfl | rfl | rfl | rfl | rfl | rfl | rfl | rfl | rfl | rfl
        · exact ⟨.int _, num_bad (by omega)⟩
        · exact ⟨.int _, num_bad (by omega)⟩
        · exact ⟨.non, rfl⟩
        · exact ⟨.str _, rfl⟩
        · exact ⟨.bl _, rfl⟩
        · exact ⟨.bl _, rfl⟩
        · exact ⟨.lst h1, rfl⟩
        · exact ⟨.tup h2, rfl⟩
        · exact ⟨.int _, num_bad (by omega)⟩
        · exact ⟨.dK h3, rfl⟩
        · exact ⟨.int _, num_bad (by omega)⟩
      refine ⟨_, rfl, _, rfl, rw, n, us, x, rfl, W', key.1, key.2, fun H3 s3 => ⟨true, rfl, iteF (A := True) ?_⟩⟩
      exact ⟨_, rfl, hp'.same s3, W'.same s3, s3 _ _ hLT', s3 _ _ h1, s3 _ _ h2, s3 _ _ h3⟩
    · rintro σ H' ⟨a10, rfl, hp', _⟩
      exact dn _ H' hp'
  refine ⟨_, rfl, sc, ns, rfl, hS, fun p H1 s1 hp1 hpN => ?_⟩
  refine ⟨3, rfl, by decide, by decide, for_range (lo := 0) (n := 3) (fun i σ H' => ∃ b2 b3 b4 b5 b6 b7 b8 b9 b10, σ = [some (.ref sc), some (.ref p), b2, b3, b4, b5, b6, b7, b8, b9, b10] ∧ PenAt K H' p) ⟨_, _, _, _, _, _, _, _, _, rfl, hp1⟩ ?_ ?_⟩
  · rintro i σ H2 _ ⟨b2, b3, b4, b5, b6, b7, b8, b9, b10, rfl, hp2⟩
    refine ⟨_, rfl, p, 16, rfl, by decide, by decide, hp2, fun r1 H3 r10 r11 k3 => ⟨_, _, rfl, rfl, _, rfl, p, 6, rfl, by decide, by decide, k3.pen, fun r2 H4 r20 r21 k4 => ⟨_, _, rfl, rfl, (by show 2 ≤ sizeLine; decide), fun l hl => ?_⟩⟩⟩
    have c1 := same_new hl (.lst [V.int (1 + r1), V.int (1 + r2)])
    have k5 := k4.more c1
    have hlp := k4.pen.ne hl
    refine ⟨_, rfl, p, 2, rfl, by decide, by decide, k5.pen, fun r3 H5 r30 r31 k6 => ?_⟩
    have el : H5 l = some (.lst [V.int (1 + r1), V.int (1 + r2)]) := k6.keep _ _ upd_same hlp
    obtain ⟨n, hn, n1, n16⟩ : ∃ n : Int, atI [V.int (1 + r1), V.int (1 + r2)] r3 = some (.int n) ∧ 1 ≤ n ∧ n ≤ 16 := by
      rcases (show r3 = 0 ∨ r3 = 1 by omega) with rfl | rfl
      · exact ⟨_, at0 _ _, by omega, by omega⟩
      · exact ⟨_, at1 _ _, by omega, by omega⟩
    refine ⟨l, _, _, _, rfl, rfl, SqL.of el, hn, ?_⟩
    refine ⟨_, rfl, _, rfl, _, rfl, p, n, rfl, n1, n16, k6.pen, fun L ts H6 lt hl6 hN k7 => ?_⟩
    obtain ⟨⟨zs, hx, pr⟩, ok⟩ := id lt
    refine ⟨n, L, zs, ts, rfl, ⟨n1, n16, .inl hx, pr, hl6, ok⟩, fun rw us H7 s7 Tw permw risew => ?_⟩
    have W7 : Web H7 rw n us := ⟨Tw, n1, n16, by rw [permw.length_eq, List.length_map]; exact hl6, fun t ht => by
      obtain ⟨t', ht', rfl⟩ := List.mem_map.mp (permw.mem_iff.mp ht)
      exact (flat_ok (ok t' ht')).1⟩
    refine ⟨_, rfl, rw, n, us, rfl, W7, fun sl xs H8 s8 hsl psl _ => ?_⟩
    have g8 : Good K p rw sl n us xs H8 := ⟨(k7.pen.same s7).same s8, W7.same s8, hsl, psl⟩
    have h40 := W7.len
    obtain ⟨tt, ws, hr1, ht1, pr1⟩ := g8.web.told.ex
    have hlw := pr1.length
    refine ⟨_, rfl, rw, _, _, _, rfl, rfl, SqT.of hr1, at1 _ _, tt, ws, rfl, .inr (SqT.of ht1), (us.length : Int), by rw [hlw], by omega, by omega, ?_⟩
    refine for_range (lo := 0) (n := us.length) (fun j σ H' => ∃ a2 a6 a7 a8 a9 a10, σ = [some (.ref sc), some (.ref p), a2, some (.int n), some (.ref rw), some (.ref sl), a6, a7, a8, a9, a10] ∧ Good K p rw sl n us xs H') ⟨_, _, _, _, _, _, rfl, g8⟩ ?_ ?_
    · rintro k σ H' hk ⟨a2, a6, a7, a8, a9, a10, rfl, g⟩
      have ekk : (0 : Int) + ((k : Nat) : Int) = ((k : Nat) : Int) := by omega
      rw [ekk]
      refine ⟨2, rfl, by decide, by decide, for_range (lo := 0) (n := 2) (fun j σ H' => ∃ a2 a7 a8 a9 a10, σ = [some (.ref sc), some (.ref p), a2, some (.int n), some (.ref rw), some (.ref sl), some (.int ((k : Nat) : Int)), a7, a8, a9, a10] ∧ Good K p rw sl n us xs H') ⟨_, _, _, _, _, rfl, g⟩ ?_ ?_⟩
      · rintro j σ H' _ ⟨a2, a7, a8, a9, a10, rfl, g⟩
        refine ⟨_, rfl, _, rfl, rw, n, us, _, rfl, g.web, .int _, fun hn => ?_, fun k' ek hk' v H3 s3 sv hfr => ?_⟩
        · have z : num us.length (.int ((k : Nat) : Int)) = true := decide_eq_true (by omega)
          rw [z] at hn
          cases hn
        · have ek' : k' = k := by
            have := V.int.inj ek
            omega
          subst ek'
          have g3 := g.same s3
          obtain ⟨xv, hxv, sxv⟩ := g3.at hk
          have gat : atI xs ((k' : Nat) : Int) = some xv := atI_nat hxv
          refine ⟨_, rfl, _, rfl, sl, _, _, _, rfl, rfl, SqL.of g3.lst, gat, rfl, _, rfl, ?_⟩
          cases ho : sideO n.toNat us k' with
          | none =>
            rw [ho] at sv sxv
            have e1 : v = .non := sv
            have e2 : xv = .non := sxv
            subst e1 e2
            refine iteT (B := True) ⟨_, rfl, rfl, _, rfl, iteF (A := True) ?_⟩
            refine ⟨_, rfl, _, rfl, sl, _, _, _, rfl, rfl, SqL.of g3.lst, gat, rfl, _, rfl, iteF (A := True) ?_⟩
            exact ⟨_, _, _, _, _, rfl, g3⟩
          | some S =>
            rw [ho] at sv sxv
            obtain ⟨a, rfl, ha⟩ := sv
            obtain ⟨b, rfl, hb⟩ := sxv
            have hSl := side_len ho
            have han := hfr a rfl
            refine iteF (A := True) (iteF (A := True) ?_)
            refine ⟨_, rfl, _, rfl, sl, _, _, _, rfl, rfl, SqL.of g3.lst, gat, rfl, _, rfl, iteT (B := True) ?_⟩
            refine ⟨_, rfl, _, rfl, _, rfl, sl, _, _, _, rfl, rfl, SqL.of g3.lst, gat, a, b, S, rfl, ha, hb, by omega, fun H4 s4 => ⟨true, rfl, iteF (A := True) ?_⟩⟩
            have ha4 := s4 _ _ ha
            refine ⟨_, rfl, .inl ⟨rfl, _, SqL.of ha4⟩, _, rfl, a, _, _, rfl, rfl, ha4, by rw [List.length_map]; omega, ?_⟩
            exact ⟨_, _, _, _, _, rfl, g.wr (s3.trans s4) han ha4⟩
      · rintro σ H' ⟨a2, a7, a8, a9, a10, rfl, g⟩
        exact ⟨_, _, _, _, _, _, rfl, g⟩
    rintro σ H9 ⟨a2, a6, a7, a8, a9, a10, rfl, g9⟩
    exact ⟨sc, p, rw, sl, n, us, xs, a2, a6, a7, a8, a9, a10, rfl, g9, fun b2 b6 b7 b8 b9 b10 H' hp' => ⟨_, _, _, _, _, _, _, _, _, rfl, hp'⟩⟩
  · rintro σ H2 ⟨b2, b3, b4, b5, b6, b7, b8, b9, b10, rfl, hp2⟩
    exact q H2
end
end Nf

set_option Elab.async false
set_option linter.all false
set_option maxRecDepth 100000
namespace Nf
open PySem L2 PyProof.Rows
theorem len1 {α : Type} : ∀ us : List α, us.length = 1 → ∃ a, us = [a]
  | [a], _ => ⟨a, rfl⟩
theorem len2 {α : Type} : ∀ us : List α, us.length = 2 → ∃ a b, us = [a, b]
  | [a, b], _ => ⟨a, b, rfl⟩
theorem len3 {α : Type} : ∀ us : List α, us.length = 3 → ∃ a b c, us = [a, b, c]
  | [a, b, c], _ => ⟨a, b, c, rfl⟩
theorem keep_of {K : PySem.W.Frag} {f : Addr} {oc : Value} {od : Option Addr} {fd : FuncData} {sl : Array (Option Value)} (l : K.lookup f = some ⟨oc, od, .func fd, sl⟩) : PySem.W.keepIn K (.ref f) = true := by
  unfold PySem.W.keepIn
  simp only [l]
theorem cal_of {P : Program} {w : World} {K : PySem.W.Frag} {mg : Str → Option Value} {base : Heap} {k : Nat} {x : Str} {st : Stmt} {f : Addr} {fd : FuncData} {ps : List Str} {sp : Sp} (F : Fun K x x st f fd) (b : Binds K fd ps []) (m : mg x = some (.ref f)) (h : FnOk P w K mg base CX0 k f fd ps sp) :
    Cal P w K mg base k x ps sp := ⟨f, fd, h, b, F.kp, m⟩
theorem cal1_of {P : Program} {w : World} {K : PySem.W.Frag} {mg : Str → Option Value} {base : Heap} {k : Nat} {x : Str} {st : Stmt} {f : Addr} {fd : FuncData} {ps : List Str} {sp : Sp} (F : Fun K x x st f fd) (b : Binds K fd ps []) (m : mg x = some (.ref f)) (h : FnOk P w K mg base (CX1 P w) k f fd ps sp) :
    Cal1 P w K mg base k x ps sp := ⟨f, fd, h, b, F.kp, m⟩
theorem all_mk {l : PySem.W.OpenLaw} {w : World} {K : PySem.W.Frag} {h : Heap} {mg : Str → Option Value} {fa f0 f1 f2 f3 f4 f5 f6 f7 f8 f9 f10 f11 f12 f13 f14 f15 f16 f17 f18 f19 f20 f21 f22 f23 f24 f25 : Addr} (X : K.In h) (G : h.Ns mainGlobals mg) (hfa : mg "law" = some (.ref fa))
    {od0 an0 od1 an1 od2 an2 od3 an3 od4 an4 od5 an5 od6 an6 od7 an7 od8 an8 od9 an9 od10 an10 od11 an11 od12 an12 od13 an13 od14 an14 od15 an15 od16 an16 od17 an17 od18 an18 od19 an19 od20 an20 od21 an21 od22 an22 od23 an23 od24 an24 od25 an25 : Option Addr} {sl0 sl1 sl2 sl3 sl4 sl5 sl6 sl7 sl8 sl9 sl10 sl11 sl12 sl13 sl14 sl15 sl16 sl17 sl18 sl19 sl20 sl21 sl22 sl23 sl24 sl25 : Array (Option Value)} {oc0 kV0 dc0 pm0 cd0 ct0 oc1 kV1 dc1 pm1 cd1 ct1 oc2 kV2 dc2 pm2 cd2 ct2 oc3 kV3 dc3 pm3 cd3 ct3 oc4 kV4 dc4 pm4 cd4 ct4 oc5 kV5 dc5 pm5 cd5 ct5 oc6 kV6 dc6 pm6 cd6 ct6 oc7 kV7 dc7 pm7 cd7 ct7 oc8 kV8 dc8 pm8 cd8 ct8 oc9 kV9 dc9 pm9 cd9 ct9 oc10 kV10 dc10 pm10 cd10 ct10 oc11 kV11 dc11 pm11 cd11 ct11 oc12 kV12 dc12 pm12 cd12 ct12 oc13 kV13 dc13 pm13 cd13 ct13 oc14 kV14 dc14 pm14 cd14 ct14 oc15 kV15 dc15 pm15 cd15 ct15 oc16 kV16 dc16 pm16 cd16 ct16 oc17 kV17 dc17 pm17 cd17 ct17 oc18 kV18 dc18 pm18 cd18 ct18 oc19 kV19 dc19 pm19 cd19 ct19 oc20 kV20 dc20 pm20 cd20 ct20 oc21 kV21 dc21 pm21 cd21 ct21 oc22 kV22 dc22 pm22 cd22 ct22 oc23 kV23 dc23 pm23 cd23 ct23 oc24 kV24 dc24 pm24 cd24 ct24 oc25 kV25 dc25 pm25 cd25 ct25 : Value} {tp tt : Tok} {CF CN ec1 ec2 ec3 ec4 ec5 ec6 ec7 ec8 ec9 NN : Addr} {nmN qN : Str} {bsN subN : List Value} {hdN abN : Bool} {snN : List Str} {colN : Option Bool} {ddN ddF : Option Addr} {q0 q1 q2 q3 q5 : Option Value} {cdF : ClassData} {slF : Array (Option Value)} {cNN cNF : Value} {dNN dNF : Option Addr} {esN esF : Array DictEntry} {epN epF : Nat} {sNN sNF : Array (Option Value)} {ed1 ed2 ed3 ed4 ed5 ed6 ed7 ed8 ed9 : Option Addr} {ek1 ek2 ek3 ek4 ek5 ek6 ek7 ek8 ek9 : ClassData} {es1 es2 es3 es4 es5 es6 es7 es8 es9 : Array (Option Value)}
    (a0 : PySem.W.nsIn K mainGlobals "is_whole" = some (some (.ref f0))) (l0 : K.lookup f0 = some ⟨oc0, od0, .func (PySem.W.fnOf "is_whole" "is_whole" (defArgs (top 15)) (defBody (top 15)) (defScope (top 15)) .none kV0 dc0 pm0 an0 cd0 ct0), sl0⟩) (c0 : PySem.W.codeIn K cd0 "is_whole" = true)
    (a1 : PySem.W.nsIn K mainGlobals "is_below" = some (some (.ref f1))) (l1 : K.lookup f1 = some ⟨oc1, od1, .func (PySem.W.fnOf "is_below" "is_below" (defArgs (top 16)) (defBody (top 16)) (defScope (top 16)) .none kV1 dc1 pm1 an1 cd1 ct1), sl1⟩) (c1 : PySem.W.codeIn K cd1 "is_below" = true)
    (a2 : PySem.W.nsIn K mainGlobals "is_tie_number" = some (some (.ref f2))) (l2 : K.lookup f2 = some ⟨oc2, od2, .func (PySem.W.fnOf "is_tie_number" "is_tie_number" (defArgs (top 17)) (defBody (top 17)) (defScope (top 17)) .none kV2 dc2 pm2 an2 cd2 ct2), sl2⟩) (c2 : PySem.W.codeIn K cd2 "is_tie_number" = true)
    (a3 : PySem.W.nsIn K mainGlobals "check_tie_number" = some (some (.ref f3))) (l3 : K.lookup f3 = some ⟨oc3, od3, .func (PySem.W.fnOf "check_tie_number" "check_tie_number" (defArgs (top 18)) (defBody (top 18)) (defScope (top 18)) .none kV3 dc3 pm3 an3 cd3 ct3), sl3⟩) (c3 : PySem.W.codeIn K cd3 "check_tie_number" = true)
    (a4 : PySem.W.nsIn K mainGlobals "is_tie" = some (some (.ref f4))) (l4 : K.lookup f4 = some ⟨oc4, od4, .func (PySem.W.fnOf "is_tie" "is_tie" (defArgs (top 19)) (defBody (top 19)) (defScope (top 19)) .none kV4 dc4 pm4 an4 cd4 ct4), sl4⟩) (c4 : PySem.W.codeIn K cd4 "is_tie" = true)
    (a5 : PySem.W.nsIn K mainGlobals "makes_web" = some (some (.ref f5))) (l5 : K.lookup f5 = some ⟨oc5, od5, .func (PySem.W.fnOf "makes_web" "makes_web" (defArgs (top 20)) (defBody (top 20)) (defScope (top 20)) .none kV5 dc5 pm5 an5 cd5 ct5), sl5⟩) (c5 : PySem.W.codeIn K cd5 "makes_web" = true)
    (a6 : PySem.W.nsIn K mainGlobals "check_makes_web" = some (some (.ref f6))) (l6 : K.lookup f6 = some ⟨oc6, od6, .func (PySem.W.fnOf "check_makes_web" "check_makes_web" (defArgs (top 21)) (defBody (top 21)) (defScope (top 21)) .none kV6 dc6 pm6 an6 cd6 ct6), sl6⟩) (c6 : PySem.W.codeIn K cd6 "check_makes_web" = true)
    (a7 : PySem.W.nsIn K mainGlobals "web_of" = some (some (.ref f7))) (l7 : K.lookup f7 = some ⟨oc7, od7, .func (PySem.W.fnOf "web_of" "web_of" (defArgs (top 22)) (defBody (top 22)) (defScope (top 22)) .none kV7 dc7 pm7 an7 cd7 ct7), sl7⟩) (c7 : PySem.W.codeIn K cd7 "web_of" = true)
    (a8 : PySem.W.nsIn K mainGlobals "steps_of_web" = some (some (.ref f8))) (l8 : K.lookup f8 = some ⟨oc8, od8, .func (PySem.W.fnOf "steps_of_web" "steps_of_web" (defArgs (top 24)) (defBody (top 24)) (defScope (top 24)) .none kV8 dc8 pm8 an8 cd8 ct8), sl8⟩) (c8 : PySem.W.codeIn K cd8 "steps_of_web" = true)
    (a9 : PySem.W.nsIn K mainGlobals "search" = some (some (.ref f9))) (l9 : K.lookup f9 = some ⟨oc9, od9, .func (PySem.W.fnOf "search" "search" (defArgs (top 25)) (defBody (top 25)) (defScope (top 25)) .none kV9 dc9 pm9 an9 cd9 ct9), sl9⟩) (c9 : PySem.W.codeIn K cd9 "search" = true)
    (a10 : PySem.W.nsIn K mainGlobals "part_of" = some (some (.ref f10))) (l10 : K.lookup f10 = some ⟨oc10, od10, .func (PySem.W.fnOf "part_of" "part_of" (defArgs (top 26)) (defBody (top 26)) (defScope (top 26)) .none kV10 dc10 pm10 an10 cd10 ct10), sl10⟩) (c10 : PySem.W.codeIn K cd10 "part_of" = true)
    (a11 : PySem.W.nsIn K mainGlobals "without_ties" = some (some (.ref f11))) (l11 : K.lookup f11 = some ⟨oc11, od11, .func (PySem.W.fnOf "without_ties" "without_ties" (defArgs (top 28)) (defBody (top 28)) (defScope (top 28)) .none kV11 dc11 pm11 an11 cd11 ct11), sl11⟩) (c11 : PySem.W.codeIn K cd11 "without_ties" = true)
    (a12 : PySem.W.nsIn K mainGlobals "side_of" = some (some (.ref f12))) (l12 : K.lookup f12 = some ⟨oc12, od12, .func (PySem.W.fnOf "side_of" "side_of" (defArgs (top 29)) (defBody (top 29)) (defScope (top 29)) .none kV12 dc12 pm12 an12 cd12 ct12), sl12⟩) (c12 : PySem.W.codeIn K cd12 "side_of" = true)
    (a13 : PySem.W.nsIn K mainGlobals "cut_ties" = some (some (.ref f13))) (l13 : K.lookup f13 = some ⟨oc13, od13, .func (PySem.W.fnOf "cut_ties" "cut_ties" (defArgs (top 30)) (defBody (top 30)) (defScope (top 30)) .none kV13 dc13 pm13 an13 cd13 ct13), sl13⟩) (c13 : PySem.W.codeIn K cd13 "cut_ties" = true)
    (a14 : PySem.W.nsIn K mainGlobals "_law_pen" = some (some (.ref f14))) (l14 : K.lookup f14 = some ⟨oc14, od14, .func (PySem.W.fnOf "_law_pen" "_law_pen" (defArgs (top 32)) (defBody (top 32)) (defScope (top 32)) .none kV14 dc14 pm14 an14 cd14 ct14), sl14⟩) (c14 : PySem.W.codeIn K cd14 "_law_pen" = true)
    (a15 : PySem.W.nsIn K mainGlobals "_law_take" = some (some (.ref f15))) (l15 : K.lookup f15 = some ⟨oc15, od15, .func (PySem.W.fnOf "_law_take" "_law_take" (defArgs (top 33)) (defBody (top 33)) (defScope (top 33)) .none kV15 dc15 pm15 an15 cd15 ct15), sl15⟩) (c15 : PySem.W.codeIn K cd15 "_law_take" = true)
    (a16 : PySem.W.nsIn K mainGlobals "_law_order" = some (some (.ref f16))) (l16 : K.lookup f16 = some ⟨oc16, od16, .func (PySem.W.fnOf "_law_order" "_law_order" (defArgs (top 34)) (defBody (top 34)) (defScope (top 34)) .none kV16 dc16 pm16 an16 cd16 ct16), sl16⟩) (c16 : PySem.W.codeIn K cd16 "_law_order" = true)
    (a17 : PySem.W.nsIn K mainGlobals "_law_any" = some (some (.ref f17))) (l17 : K.lookup f17 = some ⟨oc17, od17, .func (PySem.W.fnOf "_law_any" "_law_any" (defArgs (top 35)) (defBody (top 35)) (defScope (top 35)) .none kV17 dc17 pm17 an17 cd17 ct17), sl17⟩) (c17 : PySem.W.codeIn K cd17 "_law_any" = true)
    (a18 : PySem.W.nsIn K mainGlobals "_law_rings" = some (some (.ref f18))) (l18 : K.lookup f18 = some ⟨oc18, od18, .func (PySem.W.fnOf "_law_rings" "_law_rings" (defArgs (top 36)) (defBody (top 36)) (defScope (top 36)) .none kV18 dc18 pm18 an18 cd18 ct18), sl18⟩) (c18 : PySem.W.codeIn K cd18 "_law_rings" = true)
    (a19 : PySem.W.nsIn K mainGlobals "_law_shape" = some (some (.ref f19))) (l19 : K.lookup f19 = some ⟨oc19, od19, .func (PySem.W.fnOf "_law_shape" "_law_shape" (defArgs (top 37)) (defBody (top 37)) (defScope (top 37)) .none kV19 dc19 pm19 an19 cd19 ct19), sl19⟩) (c19 : PySem.W.codeIn K cd19 "_law_shape" = true)
    (a20 : PySem.W.nsIn K mainGlobals "_law_ties" = some (some (.ref f20))) (l20 : K.lookup f20 = some ⟨oc20, od20, .func (PySem.W.fnOf "_law_ties" "_law_ties" (defArgs (top 38)) (defBody (top 38)) (defScope (top 38)) .none kV20 dc20 pm20 an20 cd20 ct20), sl20⟩) (c20 : PySem.W.codeIn K cd20 "_law_ties" = true)
    (a21 : PySem.W.nsIn K mainGlobals "_law_flood" = some (some (.ref f21))) (l21 : K.lookup f21 = some ⟨oc21, od21, .func (PySem.W.fnOf "_law_flood" "_law_flood" (defArgs (top 39)) (defBody (top 39)) (defScope (top 39)) .none kV21 dc21 pm21 an21 cd21 ct21), sl21⟩) (c21 : PySem.W.codeIn K cd21 "_law_flood" = true)
    (a22 : PySem.W.nsIn K mainGlobals "_law_refused" = some (some (.ref f22))) (l22 : K.lookup f22 = some ⟨oc22, od22, .func (PySem.W.fnOf "_law_refused" "_law_refused" (defArgs (top 40)) (defBody (top 40)) (defScope (top 40)) .none kV22 dc22 pm22 an22 cd22 ct22), sl22⟩) (c22 : PySem.W.codeIn K cd22 "_law_refused" = true)
    (a23 : PySem.W.nsIn K mainGlobals "_law_is_list" = some (some (.ref f23))) (l23 : K.lookup f23 = some ⟨oc23, od23, .func (PySem.W.fnOf "_law_is_list" "_law_is_list" (defArgs (top 41)) (defBody (top 41)) (defScope (top 41)) .none kV23 dc23 pm23 an23 cd23 ct23), sl23⟩) (c23 : PySem.W.codeIn K cd23 "_law_is_list" = true)
    (a24 : PySem.W.nsIn K mainGlobals "_law_meant" = some (some (.ref f24))) (l24 : K.lookup f24 = some ⟨oc24, od24, .func (PySem.W.fnOf "_law_meant" "_law_meant" (defArgs (top 42)) (defBody (top 42)) (defScope (top 42)) .none kV24 dc24 pm24 an24 cd24 ct24), sl24⟩) (c24 : PySem.W.codeIn K cd24 "_law_meant" = true)
    (a25 : PySem.W.nsIn K mainGlobals "law" = some (some (.ref f25))) (l25 : K.lookup f25 = some ⟨oc25, od25, .func (PySem.W.fnOf "law" "law" (defArgs (top 43)) (defBody (top 43)) (defScope (top 43)) .none kV25 dc25 pm25 an25 cd25 ct25), sl25⟩) (c25 : PySem.W.codeIn K cd25 "law" = true)
    (amp : PySem.W.nsIn K mainGlobals "MOST_PLACES" = some (some (.int 16 tp)))
    (amt : PySem.W.nsIn K mainGlobals "MOST_TIES" = some (some (.int 40 tt)))
    (xF : PySem.W.nsIn K mainGlobals "FallError" = some (some (.ref CF)))
    (xN : PySem.W.nsIn K mainGlobals "NoTie" = some (some (.ref CN)))
    (x1 : PySem.W.nsIn K mainGlobals "NoBack" = some (some (.ref ec1)))
    (x2 : PySem.W.nsIn K mainGlobals "NoOffers" = some (some (.ref ec2)))
    (x3 : PySem.W.nsIn K mainGlobals "NoOrder" = some (some (.ref ec3)))
    (x4 : PySem.W.nsIn K mainGlobals "NoPlace" = some (some (.ref ec4)))
    (x5 : PySem.W.nsIn K mainGlobals "NoRow" = some (some (.ref ec5)))
    (x6 : PySem.W.nsIn K mainGlobals "NoSet" = some (some (.ref ec6)))
    (x7 : PySem.W.nsIn K mainGlobals "NoText" = some (some (.ref ec7)))
    (x8 : PySem.W.nsIn K mainGlobals "NoWeb" = some (some (.ref ec8)))
    (x9 : PySem.W.nsIn K mainGlobals "TooMany" = some (some (.ref ec9)))
    (lkN : K.lookup CN = some (excClassObj nmN qN CN NN bsN (.ref CF :: [.type "ValueError", .type "Exception", .type "BaseException", .type "object"]) hdN snN subN abN colN ddN q0 q1 q2 q3 q5 "ValueError.__new__"))
    (lkF : K.lookup CF = some ⟨.type "type", ddF, .cls cdF, slF⟩)
    (lkNN : K.lookup NN = some ⟨cNN, dNN, .dict esN epN, sNN⟩)
    (niN : PySem.W.nsIn K NN "__init__" = some none)
    (lkNF : K.lookup cdF.ns = some ⟨cNF, dNF, .dict esF epF, sNF⟩)
    (ff1 : PySem.W.nsIn K cdF.ns "__init__" = some none)
    (ff2 : PySem.W.nsIn K cdF.ns "__getattribute__" = some none)
    (ff3 : PySem.W.nsIn K cdF.ns "__getattr__" = some none)
    (ff4 : PySem.W.nsIn K cdF.ns "args" = some none)
    (ga : PySem.W.findIn K (.ref CN) "__getattribute__" = some (some (.builtin "BaseException.__getattribute__")))
    (hook : PySem.W.findIn K (.ref CN) "__getattr__" = some none)
    (clsN : PySem.W.findIn K (.ref CN) "__class__" = some (some (.builtin "object.__class__")))
    (mroN : PySem.W.mroIn K CN (.type "object") = some true)
    (mNN : PySem.W.mroIn K CN (.ref CN) = some true)
    (mNF : PySem.W.mroIn K CN (.ref CF) = some true)
    (mFB : PySem.W.mroIn K CF (.type "BaseException") = some true)
    (mNV : PySem.W.mroIn K CN (.type "ValueError") = some true)
    (lkc1 : K.lookup ec1 = some ⟨.type "type", ed1, .cls ek1, es1⟩)
    (mc1 : PySem.W.mroIn K CN (.ref ec1) = some false)
    (lkc2 : K.lookup ec2 = some ⟨.type "type", ed2, .cls ek2, es2⟩)
    (mc2 : PySem.W.mroIn K CN (.ref ec2) = some false)
    (lkc3 : K.lookup ec3 = some ⟨.type "type", ed3, .cls ek3, es3⟩)
    (mc3 : PySem.W.mroIn K CN (.ref ec3) = some false)
    (lkc4 : K.lookup ec4 = some ⟨.type "type", ed4, .cls ek4, es4⟩)
    (mc4 : PySem.W.mroIn K CN (.ref ec4) = some false)
    (lkc5 : K.lookup ec5 = some ⟨.type "type", ed5, .cls ek5, es5⟩)
    (mc5 : PySem.W.mroIn K CN (.ref ec5) = some false)
    (lkc6 : K.lookup ec6 = some ⟨.type "type", ed6, .cls ek6, es6⟩)
    (mc6 : PySem.W.mroIn K CN (.ref ec6) = some false)
    (lkc7 : K.lookup ec7 = some ⟨.type "type", ed7, .cls ek7, es7⟩)
    (mc7 : PySem.W.mroIn K CN (.ref ec7) = some false)
    (lkc8 : K.lookup ec8 = some ⟨.type "type", ed8, .cls ek8, es8⟩)
    (mc8 : PySem.W.mroIn K CN (.ref ec8) = some false)
    (lkc9 : K.lookup ec9 = some ⟨.type "type", ed9, .cls ek9, es9⟩)
    (mc9 : PySem.W.mroIn K CN (.ref ec9) = some false)
    (okN : (esN.toList.all (fun e => match e.key with | .str _ _ => true | _ => false)) = true)
    (okF : (esF.toList.all (fun e => match e.key with | .str _ _ => true | _ => false)) = true)
    (z0 : PySem.W.nsIn K mainGlobals "isinstance" = some none)
    (z1 : PySem.W.nsIn K mainGlobals "int" = some none)
    (z2 : PySem.W.nsIn K mainGlobals "bool" = some none)
    (z3 : PySem.W.nsIn K mainGlobals "tuple" = some none)
    (z4 : PySem.W.nsIn K mainGlobals "list" = some none)
    (z5 : PySem.W.nsIn K mainGlobals "len" = some none)
    (z6 : PySem.W.nsIn K mainGlobals "all" = some none)
    (z7 : PySem.W.nsIn K mainGlobals "min" = some none)
    (z8 : PySem.W.nsIn K mainGlobals "max" = some none)
    (z9 : PySem.W.nsIn K mainGlobals "sorted" = some none)
    (z10 : PySem.W.nsIn K mainGlobals "range" = some none)
    (z11 : PySem.W.nsIn K mainGlobals "abs" = some none)
    (z12 : PySem.W.nsIn K mainGlobals "enumerate" = some none)
    (z13 : PySem.W.nsIn K mainGlobals "ValueError" = some none)
    :
    ∃ fd : FuncData, (∀ (s : Shared) (v : Value), BindsTo s fd ⟨[v], []⟩ [("_law_script", v)]) ∧ ∀ base : Heap, K.In base → base.Ns mainGlobals mg → FnOk l.prog w K mg base CX0 7 fa fd ["_law_script"] (spLaw K) := by
  have e := hfa.symm.trans (PySem.W.mg_of X G a25)
  cases e
  have F0 := fun_mk (st := top 15) l0 c0 (keep_of l0)
  have b0 := F0.binds (ps := ["thing"]) fun _ _ _ _ _ _ us hl => by obtain ⟨_, rfl⟩ := len1 us hl; rfl
  have m0 := PySem.W.mg_of X G a0
  have F1 := fun_mk (st := top 16) l1 c1 (keep_of l1)
  have b1 := F1.binds (ps := ["limit", "thing"]) fun _ _ _ _ _ _ us hl => by obtain ⟨_, _, rfl⟩ := len2 us hl; rfl
  have m1 := PySem.W.mg_of X G a1
  have F2 := fun_mk (st := top 17) l2 c2 (keep_of l2)
  have b2 := F2.binds (ps := ["web", "thing"]) fun _ _ _ _ _ _ us hl => by obtain ⟨_, _, rfl⟩ := len2 us hl; rfl
  have m2 := PySem.W.mg_of X G a2
  have F3 := fun_mk (st := top 18) l3 c3 (keep_of l3)
  have b3 := F3.binds (ps := ["web", "thing"]) fun _ _ _ _ _ _ us hl => by obtain ⟨_, _, rfl⟩ := len2 us hl; rfl
  have m3 := PySem.W.mg_of X G a3
  have F4 := fun_mk (st := top 19) l4 c4 (keep_of l4)
  have b4 := F4.binds (ps := ["n", "thing"]) fun _ _ _ _ _ _ us hl => by obtain ⟨_, _, rfl⟩ := len2 us hl; rfl
  have m4 := PySem.W.mg_of X G a4
  have F5 := fun_mk (st := top 20) l5 c5 (keep_of l5)
  have b5 := F5.binds (ps := ["n", "ties"]) fun _ _ _ _ _ _ us hl => by obtain ⟨_, _, rfl⟩ := len2 us hl; rfl
  have m5 := PySem.W.mg_of X G a5
  have F6 := fun_mk (st := top 21) l6 c6 (keep_of l6)
  have b6 := F6.binds (ps := ["n", "ties"]) fun _ _ _ _ _ _ us hl => by obtain ⟨_, _, rfl⟩ := len2 us hl; rfl
  have m6 := PySem.W.mg_of X G a6
  have F7 := fun_mk (st := top 22) l7 c7 (keep_of l7)
  have b7 := F7.binds (ps := ["n", "ties"]) fun _ _ _ _ _ _ us hl => by obtain ⟨_, _, rfl⟩ := len2 us hl; rfl
  have m7 := PySem.W.mg_of X G a7
  have F8 := fun_mk (st := top 24) l8 c8 (keep_of l8)
  have b8 := F8.binds (ps := ["web"]) fun _ _ _ _ _ _ us hl => by obtain ⟨_, rfl⟩ := len1 us hl; rfl
  have m8 := PySem.W.mg_of X G a8
  have F9 := fun_mk (st := top 25) l9 c9 (keep_of l9)
  have b9 := F9.binds (ps := ["steps", "start"]) fun _ _ _ _ _ _ us hl => by obtain ⟨_, _, rfl⟩ := len2 us hl; rfl
  have m9 := PySem.W.mg_of X G a9
  have F10 := fun_mk (st := top 26) l10 c10 (keep_of l10)
  have b10 := F10.binds (ps := ["web", "place"]) fun _ _ _ _ _ _ us hl => by obtain ⟨_, _, rfl⟩ := len2 us hl; rfl
  have m10 := PySem.W.mg_of X G a10
  have F11 := fun_mk (st := top 28) l11 c11 (keep_of l11)
  have b11 := F11.binds (ps := ["web", "numbers"]) fun _ _ _ _ _ _ us hl => by obtain ⟨_, _, rfl⟩ := len2 us hl; rfl
  have m11 := PySem.W.mg_of X G a11
  have F12 := fun_mk (st := top 29) l12 c12 (keep_of l12)
  have b12 := F12.binds (ps := ["web", "number"]) fun _ _ _ _ _ _ us hl => by obtain ⟨_, _, rfl⟩ := len2 us hl; rfl
  have m12 := PySem.W.mg_of X G a12
  have F13 := fun_mk (st := top 30) l13 c13 (keep_of l13)
  have b13 := F13.binds (ps := ["web"]) fun _ _ _ _ _ _ us hl => by obtain ⟨_, rfl⟩ := len1 us hl; rfl
  have m13 := PySem.W.mg_of X G a13
  have F14 := fun_mk (st := top 32) l14 c14 (keep_of l14)
  have b14 := F14.binds (ps := ["_law_script"]) fun _ _ _ _ _ _ us hl => by obtain ⟨_, rfl⟩ := len1 us hl; rfl
  have m14 := PySem.W.mg_of X G a14
  have F15 := fun_mk (st := top 33) l15 c15 (keep_of l15)
  have b15 := F15.binds (ps := ["_law_pen_here", "_law_many"]) fun _ _ _ _ _ _ us hl => by obtain ⟨_, _, rfl⟩ := len2 us hl; rfl
  have m15 := PySem.W.mg_of X G a15
  have F16 := fun_mk (st := top 34) l16 c16 (keep_of l16)
  have b16 := F16.binds (ps := ["_law_pen_here", "_law_n"]) fun _ _ _ _ _ _ us hl => by obtain ⟨_, _, rfl⟩ := len2 us hl; rfl
  have m16 := PySem.W.mg_of X G a16
  have F17 := fun_mk (st := top 35) l17 c17 (keep_of l17)
  have b17 := F17.binds (ps := ["_law_pen_here", "_law_n", "_law_many"]) fun _ _ _ _ _ _ us hl => by obtain ⟨_, _, _, rfl⟩ := len3 us hl; rfl
  have m17 := PySem.W.mg_of X G a17
  have F18 := fun_mk (st := top 36) l18 c18 (keep_of l18)
  have b18 := F18.binds (ps := ["_law_pen_here", "_law_n"]) fun _ _ _ _ _ _ us hl => by obtain ⟨_, _, rfl⟩ := len2 us hl; rfl
  have m18 := PySem.W.mg_of X G a18
  have F19 := fun_mk (st := top 37) l19 c19 (keep_of l19)
  have b19 := F19.binds (ps := ["_law_pen_here", "_law_n"]) fun _ _ _ _ _ _ us hl => by obtain ⟨_, _, rfl⟩ := len2 us hl; rfl
  have m19 := PySem.W.mg_of X G a19
  have F20 := fun_mk (st := top 38) l20 c20 (keep_of l20)
  have b20 := F20.binds (ps := ["_law_pen_here", "_law_n"]) fun _ _ _ _ _ _ us hl => by obtain ⟨_, _, rfl⟩ := len2 us hl; rfl
  have m20 := PySem.W.mg_of X G a20
  have F21 := fun_mk (st := top 39) l21 c21 (keep_of l21)
  have b21 := F21.binds (ps := ["_law_n", "_law_pairs", "_law_start"]) fun _ _ _ _ _ _ us hl => by obtain ⟨_, _, _, rfl⟩ := len3 us hl; rfl
  have m21 := PySem.W.mg_of X G a21
  have F22 := fun_mk (st := top 40) l22 c22 (keep_of l22)
  have b22 := F22.binds (ps := ["_law_web", "_law_thing"]) fun _ _ _ _ _ _ us hl => by obtain ⟨_, _, rfl⟩ := len2 us hl; rfl
  have m22 := PySem.W.mg_of X G a22
  have F23 := fun_mk (st := top 41) l23 c23 (keep_of l23)
  have b23 := F23.binds (ps := ["_law_found", "_law_meant_here"]) fun _ _ _ _ _ _ us hl => by obtain ⟨_, _, rfl⟩ := len2 us hl; rfl
  have m23 := PySem.W.mg_of X G a23
  have F24 := fun_mk (st := top 42) l24 c24 (keep_of l24)
  have b24 := F24.binds (ps := ["_law_web"]) fun _ _ _ _ _ _ us hl => by obtain ⟨_, rfl⟩ := len1 us hl; rfl
  have m24 := PySem.W.mg_of X G a24
  have F25 := fun_mk (st := top 43) l25 c25 (keep_of l25)
  have B : Bn mg := ⟨PySem.W.mg_none_of X G z0, PySem.W.mg_none_of X G z1, PySem.W.mg_none_of X G z2, PySem.W.mg_none_of X G z3, PySem.W.mg_none_of X G z4, PySem.W.mg_none_of X G z5, PySem.W.mg_none_of X G z6, PySem.W.mg_none_of X G z7, PySem.W.mg_none_of X G z8, PySem.W.mg_none_of X G z9, PySem.W.mg_none_of X G z10, PySem.W.mg_none_of X G z11⟩
  have N12 := PySem.W.mg_none_of X G z12
  have N13 := PySem.W.mg_none_of X G z13
  refine ⟨PySem.W.fnOf "law" "law" (defArgs (top 43)) (defBody (top 43)) (defScope (top 43)) .none kV25 dc25 pm25 an25 cd25 ct25, fun s v => .of_eq rfl, fun base _ _ => ?_⟩
  have nsN := nsOk_of lkNN okN
  have nsF := nsOk_of lkNF okF
  have tlN : PySem.W.tailIn K [.type "ValueError", .type "Exception", .type "BaseException", .type "object"] (.ref CF :: [.type "ValueError", .type "Exception", .type "BaseException", .type "object"]) = true := tail_one lkF nsF ff1 tail_self
  have XC : ExcCls K CN "ValueError.__new__" [.type "ValueError", .type "Exception", .type "BaseException", .type "object"] := ⟨⟨nmN, qN, NN, bsN, _, hdN, snN, subN, abN, colN, ddN, q0, q1, q2, q3, q5, lkN, tlN, nsN, niN, rfl⟩⟩
  have XKN : ExcK K CN := ⟨⟨nmN, qN, NN, CF, bsN, [.type "ValueError", .type "Exception", .type "BaseException", .type "object"], hdN, snN, subN, abN, colN, ddN, ddF, q0, q1, q2, q3, q5, "ValueError.__new__", "ValueError", .type "type", cdF, slF, lkN, lkF, nsF, fun n hn => by
    simp only [quietNames, List.mem_cons, List.not_mem_nil, or_false] at hn
    rcases hn with rfl | rfl | rfl | rfl
    · exact ff1
    · exact ff2
    · exact ff3
    · exact ff4, PySem.F.attrBase_ValueError⟩, ga, hook, clsN, mroN⟩
  have R : Ref6 K mg CN CF ec1 ec2 ec3 ec4 ec5 ec6 ec7 ec8 ec9 := ⟨PySem.W.mg_of X G xF, PySem.W.mg_of X G xN, PySem.W.mg_of X G x1, PySem.W.mg_of X G x2, PySem.W.mg_of X G x3, PySem.W.mg_of X G x4, PySem.W.mg_of X G x5, PySem.W.mg_of X G x6, PySem.W.mg_of X G x7, PySem.W.mg_of X G x8, PySem.W.mg_of X G x9, N13, exmOne_of lkF mFB mNF, XKN, kitAny_no (fun c hc => by
    simp only [List.mem_cons, List.not_mem_nil, or_false] at hc
    rcases hc with rfl | rfl | rfl | rfl | rfl | rfl | rfl | rfl | rfl
    · exact kitOne_no lkc1 mc1 mNN
    · exact kitOne_no lkc2 mc2 mNN
    · exact kitOne_no lkc3 mc3 mNN
    · exact kitOne_no lkc4 mc4 mNN
    · exact kitOne_no lkc5 mc5 mNN
    · exact kitOne_no lkc6 mc6 mNN
    · exact kitOne_no lkc7 mc7 mNN
    · exact kitOne_no lkc8 mc8 mNN
    · exact kitOne_no lkc9 mc9 mNN
    ), kitOne_self, kitOne_type (by decide +kernel) mNV⟩
  have G0 := cal_of F0 b0 m0 (ok_wholeG (P := l.prog) (w := w) (base := base) F0 B)
  have G1 := cal_of F1 b1 m1 (ok_belowG (P := l.prog) (w := w) (base := base) F1 G0)
  have C0 := cal_of F0 b0 m0 (ok_whole (P := l.prog) (w := w) (base := base) F0 B)
  have C1 := cal_of F1 b1 m1 (ok_below (P := l.prog) (w := w) (base := base) F1 C0)
  have C2 := cal_of F2 b2 m2 (ok_tienum (P := l.prog) (w := w) (base := base) F2 B G1)
  have C3 := cal1_of F3 b3 m3 (ok_checkt (P := l.prog) (w := w) (base := base) F3 R.mN XC PySem.F.excBase_ValueError C2)
  have C4 := cal_of F4 b4 m4 (ok_tie (P := l.prog) (w := w) (base := base) F4 B C1)
  have C5 := cal_of F5 b5 m5 (ok_makes (P := l.prog) (w := w) (base := base) F5 B C0 C4 (PySem.W.mg_of X G amp) (PySem.W.mg_of X G amt))
  have C6 := cal_of F6 b6 m6 (ok_check (P := l.prog) (w := w) (base := base) F6 C5)
  have C7 := cal_of F7 b7 m7 (ok_web (P := l.prog) (w := w) (base := base) F7 B C6)
  have C8 := cal_of F8 b8 m8 (ok_steps (P := l.prog) (w := w) (base := base) F8 B N12)
  have C9 := cal_of F9 b9 m9 (ok_search (P := l.prog) (w := w) (base := base) F9 )
  have C10 := cal_of F10 b10 m10 (ok_part (P := l.prog) (w := w) (base := base) F10 B C8 C9)
  have C11 := cal_of F11 b11 m11 (ok_without (P := l.prog) (w := w) (base := base) F11 B N12)
  have C12 := cal1_of F12 b12 m12 (ok_side (P := l.prog) (w := w) (base := base) F12 B C3 C11 C10)
  have C13 := cal_of F13 b13 m13 (ok_cut (P := l.prog) (w := w) (base := base) F13 B C12)
  have C14 := cal_of F14 b14 m14 (ok_pen (P := l.prog) (w := w) (base := base) F14 )
  have C15 := cal_of F15 b15 m15 (ok_take (P := l.prog) (w := w) (base := base) F15 B)
  have C16 := cal_of F16 b16 m16 (ok_order (P := l.prog) (w := w) (base := base) F16 B C15)
  have C17 := cal_of F17 b17 m17 (ok_any (P := l.prog) (w := w) (base := base) F17 B C15)
  have C18 := cal_of F18 b18 m18 (ok_rings (P := l.prog) (w := w) (base := base) F18 B C15)
  have C19 := cal_of F19 b19 m19 (ok_shape (P := l.prog) (w := w) (base := base) F19 B C15 C17 C18)
  have C20 := cal_of F20 b20 m20 (ok_ties (P := l.prog) (w := w) (base := base) F20 B C15 C16 C17 C19)
  have C21 := cal_of F21 b21 m21 (ok_flood (P := l.prog) (w := w) (base := base) F21 B)
  have C22 := cal_of F22 b22 m22 (ok_refused (P := l.prog) (w := w) (base := base) F22 B R C12)
  have C23 := cal_of F23 b23 m23 (ok_islist (P := l.prog) (w := w) (base := base) F23 B)
  have C24 := cal_of F24 b24 m24 (ok_meant6 (P := l.prog) (w := w) (base := base) F24 B C21)
  exact ok_law F25 B C14 C15 C20 C24 C23 C22 C7 C12 C13
theorem script_sq {K : PySem.W.Frag} {H : Hp} {a : Addr} {ns : List Int} (hO : Only H) (hS : SqL K H a (ns.map V.int)) : SqF K H a ns := by
  rcases hS with (h | ⟨o, h⟩) | h
  · rcases hO a with z | ⟨o, xs, z⟩
    · rw [z] at h; cases h
    · rw [z] at h; cases h
  · exact .inl ⟨o, h⟩
  · exact .inr h
theorem walk {l : PySem.W.OpenLaw} {q : Program} {loose : List Str} {XP : (Str → Option Value) → Heap → Prop} {YP : World → Heap → Prop} {d : DefRec} {K : Params → PySem.W.Frag} (hn : l.most = some 63) (hdf : d.params.defaults = [])
    (hY : ∀ (w : World) (h : Heap), YP w h → (K w.params).In h)
    (F : ∀ (w : World) (mg : Str → Option Value) (fa : Addr) (h : Heap), (K w.params).In h → h.Ns mainGlobals mg → mg d.name = some (.ref fa) →
      ∃ fd : FuncData, (∀ (s : Shared) (u : Value), BindsTo s fd ⟨[u], []⟩ [("_law_script", u)]) ∧ ∀ base : Heap, (K w.params).In base → base.Ns mainGlobals mg → FnOk l.prog w (K w.params) mg base CX0 7 fa fd ["_law_script"] (spLaw (K w.params))) :
    PySem.W.WalkO q loose XP YP l.row.toRowW d [] (fun f vs => PySem.call f vs) :=
  L2.walk_of (n := 63) (k := 7) (x := "_law_script") (CX := fun _ => CX0) (sp := fun w => spLaw (K w.params)) hn (by decide) hdf ⟨rfl, by decide, by decide⟩ hY F (fun _ _ a ns hl hO hS => ⟨a, ns, rfl, script_sq hO hS, fun _ => rfl⟩) fun _ _ _ _ _ z => z
end Nf
open PySem PySem.W PyProof.Rows
set_option maxRecDepth 100000 in
set_option maxHeartbeats 0 in
theorem PySem.Challenge.cw_nofall_k06_ties_whose_fall_parts_holds : PySem.Challenge.rw_nofall_k06_ties_whose_fall_parts.Holds := by
  w_on; o_law; k_head; (case hw => w_witness2)
  k_fill
  refine Nf.walk (l := PySem.Challenge.rw_nofall_k06_ties_whose_fall_parts) rfl rfl (fun w h Y => PySem.W.kIn_of Y) ?F
  case F =>
    intro w mg fa h KX G hmg
    refine' Nf.all_mk KX G hmg ?a0 ?l0 ?c0 ?a1 ?l1 ?c1 ?a2 ?l2 ?c2 ?a3 ?l3 ?c3 ?a4 ?l4 ?c4 ?a5 ?l5 ?c5 ?a6 ?l6 ?c6 ?a7 ?l7 ?c7 ?a8 ?l8 ?c8 ?a9 ?l9 ?c9 ?a10 ?l10 ?c10 ?a11 ?l11 ?c11 ?a12 ?l12 ?c12 ?a13 ?l13 ?c13 ?a14 ?l14 ?c14 ?a15 ?l15 ?c15 ?a16 ?l16 ?c16 ?a17 ?l17 ?c17 ?a18 ?l18 ?c18 ?a19 ?l19 ?c19 ?a20 ?l20 ?c20 ?a21 ?l21 ?c21 ?a22 ?l22 ?c22 ?a23 ?l23 ?c23 ?a24 ?l24 ?c24 ?a25 ?l25 ?c25 ?amp ?amt ?xF ?xN ?x1 ?x2 ?x3 ?x4 ?x5 ?x6 ?x7 ?x8 ?x9 ?lkN ?lkF ?lkNN ?niN ?lkNF ?ff1 ?ff2 ?ff3 ?ff4 ?ga ?hook ?clsN ?mroN ?mNN ?mNF ?mFB ?mNV ?lkc1 ?mc1 ?lkc2 ?mc2 ?lkc3 ?mc3 ?lkc4 ?mc4 ?lkc5 ?mc5 ?lkc6 ?mc6 ?lkc7 ?mc7 ?lkc8 ?mc8 ?lkc9 ?mc9 ?okN ?okF ?z0 ?z1 ?z2 ?z3 ?z4 ?z5 ?z6 ?z7 ?z8 ?z9 ?z10 ?z11 ?z12 ?z13
    (case a0 => k_is); (case l0 => k_is); (case c0 => k_is)
    (case a1 => k_is); (case l1 => k_is); (case c1 => k_is)
    (case a2 => k_is); (case l2 => k_is); (case c2 => k_is)
    (case a3 => k_is); (case l3 => k_is); (case c3 => k_is)
    (case a4 => k_is); (case l4 => k_is); (case c4 => k_is)
    (case a5 => k_is); (case l5 => k_is); (case c5 => k_is)
    (case a6 => k_is); (case l6 => k_is); (case c6 => k_is)
    (case a7 => k_is); (case l7 => k_is); (case c7 => k_is)
    (case a8 => k_is); (case l8 => k_is); (case c8 => k_is)
    (case a9 => k_is); (case l9 => k_is); (case c9 => k_is)
    (case a10 => k_is); (case l10 => k_is); (case c10 => k_is)
    (case a11 => k_is); (case l11 => k_is); (case c11 => k_is)
    (case a12 => k_is); (case l12 => k_is); (case c12 => k_is)
    (case a13 => k_is); (case l13 => k_is); (case c13 => k_is)
    (case a14 => k_is); (case l14 => k_is); (case c14 => k_is)
    (case a15 => k_is); (case l15 => k_is); (case c15 => k_is)
    (case a16 => k_is); (case l16 => k_is); (case c16 => k_is)
    (case a17 => k_is); (case l17 => k_is); (case c17 => k_is)
    (case a18 => k_is); (case l18 => k_is); (case c18 => k_is)
    (case a19 => k_is); (case l19 => k_is); (case c19 => k_is)
    (case a20 => k_is); (case l20 => k_is); (case c20 => k_is)
    (case a21 => k_is); (case l21 => k_is); (case c21 => k_is)
    (case a22 => k_is); (case l22 => k_is); (case c22 => k_is)
    (case a23 => k_is); (case l23 => k_is); (case c23 => k_is)
    (case a24 => k_is); (case l24 => k_is); (case c24 => k_is)
    (case a25 => k_is); (case l25 => k_is); (case c25 => k_is)
    (case amp => k_is); (case amt => k_is); (case xF => k_is); (case xN => k_is); (case x1 => k_is); (case x2 => k_is); (case x3 => k_is); (case x4 => k_is); (case x5 => k_is); (case x6 => k_is); (case x7 => k_is); (case x8 => k_is); (case x9 => k_is); (case lkN => k_is); (case lkF => k_is); (case lkNN => k_is); (case niN => k_is); (case lkNF => k_is); (case ff1 => k_is); (case ff2 => k_is); (case ff3 => k_is); (case ff4 => k_is); (case ga => k_is); (case hook => k_is); (case clsN => k_is); (case mroN => k_is); (case mNN => k_is); (case mNF => k_is); (case mFB => k_is); (case mNV => k_is); (case lkc1 => k_is); (case mc1 => k_is); (case lkc2 => k_is); (case mc2 => k_is); (case lkc3 => k_is); (case mc3 => k_is); (case lkc4 => k_is); (case mc4 => k_is); (case lkc5 => k_is); (case mc5 => k_is); (case lkc6 => k_is); (case mc6 => k_is); (case lkc7 => k_is); (case mc7 => k_is); (case lkc8 => k_is); (case mc8 => k_is); (case lkc9 => k_is); (case mc9 => k_is); (case okN => rfl); (case okF => rfl); (case z0 => k_is); (case z1 => k_is); (case z2 => k_is); (case z3 => k_is); (case z4 => k_is); (case z5 => k_is); (case z6 => k_is); (case z7 => k_is); (case z8 => k_is); (case z9 => k_is); (case z10 => k_is); (case z11 => k_is); (case z12 => k_is); (case z13 => k_is)

