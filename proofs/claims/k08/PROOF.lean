import PyProof.Rows.All
import Wide.All
import OpenK.AllK
import Wide.FinOn
import Lean
import PyProof.EqAt
import PyProof.EqKinds
import PyProof.TupleCall
import PySem.Challenge.RW_nofall_k08_whole_falls_one_by_one
set_option genSizeOf false
set_option genSizeOfSpec false
set_option Elab.async false
set_option linter.all false
set_option maxRecDepth 100000
namespace L2
open PySem PySem.Spec PyProof.Rows
noncomputable abbrev Key:=Sum Int Str
noncomputable def keyIs : Key->Value->Bool
 | .inl k, v=>Value.isInt k v
 | .inr x, v=>Value.isStrOf x v
noncomputable def keyH (w : World) : Key->Int
 | .inl k=>hashInt k
 | .inr x=>hashStr w x
theorem keyIs_shape : ∀ {k : Key} {v : Value}, keyIs k v = true->(∃ i t, k = Sum.inl i/\v = Value.int i t)\/(∃ x t, k = Sum.inr x/\v = Value.str x t)
 | .inl i, v, h=>by
  obtain ⟨t, e⟩:=Value.isInt_shape (k:=i) (v:=v) h
  exact .inl ⟨i, t, rfl, e⟩
 | .inr x, v, h=>by
  obtain ⟨t, e⟩:=Value.isStrOf_shape (x:=x) (v:=v) h
  exact .inr ⟨x, t, rfl, e⟩
theorem keyIs_int (i : Int) (t : Tok) : keyIs (.inl i) (.int i t) = true:=by simp [keyIs, Value.isInt]
theorem keyIs_str (x : Str) (t : Tok) : keyIs (.inr x) (.str x t) = true:=by simp [keyIs, Value.isStrOf]
theorem key_ll (a b : Int) : decide ((Sum.inl a : Key) = Sum.inl b) = (a == b):=by
 by_cases e : a = b
 ·subst e; simp
 ·have h : ¬ (Sum.inl a : Key) = Sum.inl b:=fun q=>e (Sum.inl.inj q)
  rw [decide_eq_false h]
  exact (beq_eq_false_iff_ne.mpr e).symm
theorem key_rr (a b : Str) : decide ((Sum.inr a : Key) = Sum.inr b) = decide (a = b):=by
 by_cases e : a = b
 ·subst e; simp
 ·have h : ¬ (Sum.inr a : Key) = Sum.inr b:=fun q=>e (Sum.inr.inj q)
  rw [decide_eq_false h, decide_eq_false e]
theorem key_lr (a : Int) (b : Str) : decide ((Sum.inl a : Key) = Sum.inr b) = false:=decide_eq_false (fun q=>nomatch q)
theorem key_rl (a : Str) (b : Int) : decide ((Sum.inr a : Key) = Sum.inl b) = false:=decide_eq_false (fun q=>nomatch q)
noncomputable def mixKind (prog : Program) (w : World) : PySem.KeyKind prog w Key where
 is:=keyIs
 hash:=keyH w
 inj:=fun v a b ha hb=>by
  rcases keyIs_shape ha with ⟨i, t, rfl, rfl⟩ | ⟨x, t, rfl, rfl⟩
  ·rcases keyIs_shape hb with ⟨j, u, rfl, e⟩ | ⟨y, u, rfl, e⟩
   ·injection e with e1 _; rw [e1]
   ·exact nomatch e
  ·rcases keyIs_shape hb with ⟨j, u, rfl, e⟩ | ⟨y, u, rfl, e⟩
   ·exact nomatch e
   ·injection e with e1 _; rw [e1]
 byValue:=fun k v h=>by
  rcases keyIs_shape h with ⟨i, t, rfl, rfl⟩ | ⟨x, t, rfl, rfl⟩ <;> rfl
 pyHash:=fun hv h=>by
  rcases keyIs_shape hv with ⟨i, t, rfl, rfl⟩ | ⟨x, t, rfl, rfl⟩
  ·exact wpAny_pyHash_int h
  ·exact wpAny_pyHash_str h
 eqBool:=fun hu hv h=>by
  rcases keyIs_shape hu with ⟨i, t, rfl, rfl⟩ | ⟨x, t, rfl, rfl⟩
  ·rcases keyIs_shape hv with ⟨j, u, rfl, rfl⟩ | ⟨y, u, rfl, rfl⟩
   ·rw [key_ll] at h; exact wpAny_eqBool_int h
   ·rw [key_lr] at h; exact SeqAt.EqAt.int_str i t y u _ _ _ _ h
  ·rcases keyIs_shape hv with ⟨j, u, rfl, rfl⟩ | ⟨y, u, rfl, rfl⟩
   ·rw [key_rl] at h; exact SeqAt.EqAt.str_int x t j u _ _ _ _ h
   ·rw [key_rr] at h; exact wpAny_eqBool_str h
 «strs»:=fun k x t v h=>by
  rcases keyIs_shape h with ⟨i, u, rfl, e⟩ | ⟨y, u, rfl, e⟩
  ·exact nomatch e
  ·injection e with e1 _
   subst e1
   cases v <;> rfl
theorem mixKind_int (prog : Program) (w : World) (i : Int) (t : Tok) : (mixKind prog w).is (.inl i) (.int i t) = true:=keyIs_int i t
theorem mixKind_str (prog : Program) (w : World) (x : Str) (t : Tok) : (mixKind prog w).is (.inr x) (.str x t) = true:=keyIs_str x t
inductive V where
 | non | bl (b : Bool) | int (i : Int) | str (x : Str) | byt (b : Array UInt8) | flt (b : UInt64) | ref (a : Addr) | ty (n : String)
 deriving DecidableEq
noncomputable def RelV : V->Value->Prop
 | .non, u=>u = Value.none
 | .bl b, u=>u = Value.bool b
 | .int i, u=>∃ t, u = Value.int i t
 | .str x, u=>∃ t, u = Value.str x t
 | .byt b, u=>∃ t, u = Value.bytes b t
 | .flt b, u=>∃ t, u = Value.float b t
 | .ref a, u=>u = Value.ref a
 | .ty n, u=>u = Value.type n
noncomputable abbrev Vals : List V->List Value->Prop:=Paired RelV
theorem Vals.length {xs : List V} {us : List Value} (r : Vals xs us) : xs.length = us.length:=Paired.length r
theorem Vals.get : ∀ {xs : List V} {us : List Value} {i : Nat} {x : V}, Vals xs us->xs[i]? = some x->∃ u, us[i]? = some u/\RelV x u
 | _, _, _, _, .nil, e=>by simp at e
 | _, _, 0, _, .cons r _, e=>by simp at e; subst e; exact ⟨_, rfl, r⟩
 | _, _, i + 1, x, .cons _ t, e=>by
  obtain ⟨u, h1, h2⟩:=Vals.get (i:=i) (x:=x) t (by simpa using e)
  exact ⟨u, by simpa using h1, h2⟩
theorem Vals.set {x : V} {u : Value} (r : RelV x u) : ∀ {xs : List V} {us : List Value} (i : Nat), Vals xs us->Vals (xs.set i x) (us.set i u)
 | _, _, _, .nil=>.nil
 | _, _, 0, .cons _ t=>.cons r t
 | _, _, i + 1, .cons q t=>.cons q (Vals.set r i t)
theorem Vals.append : ∀ {xs ys : List V} {us ws : List Value}, Vals xs us->Vals ys ws->Vals (xs ++ ys) (us ++ ws)
 | _, _, _, _, .nil, s=>s
 | _, _, _, _, .cons r t, s=>.cons r (Vals.append t s)
theorem Vals.take : ∀ {xs : List V} {us : List Value} (n : Nat), Vals xs us->Vals (xs.take n) (us.take n)
 | _, _, 0, _=>.nil
 | _, _, _ + 1, .nil=>.nil
 | _, _, n + 1, .cons r t=>.cons r (Vals.take n t)
theorem Vals.drop : ∀ {xs : List V} {us : List Value} (n : Nat), Vals xs us->Vals (xs.drop n) (us.drop n)
 | _, _, 0, r=>r
 | _, _, _ + 1, .nil=>.nil
 | _, _, n + 1, .cons _ t=>Vals.drop n t
noncomputable def RelO : Option V->Option Value->Prop
 | some v, some u=>RelV v u
 | none, none=>True
 | _, _=>False
noncomputable def KV {κ : Type} : List (κ × V)->List (κ × Value)->Prop:=Paired fun (p : κ × V) (q : κ × Value)=>p.1 = q.1/\RelV p.2 q.2
noncomputable def kV : Key->V
 | .inl i=>.int i
 | .inr x=>.str x
inductive HO where
 | lst (xs : List V)
 | tup (xs : List V)
 | dK (kvs : List (Key × V)) | dT (kvs : List (List Key × V))
 | set (S : Int->Bool) (n : Nat)
 | ins (C dx : Addr) (fs : List (Str × V))
 | own (x : Addr)
 | xd (fs : List (Str × V))
 | met (f x : Addr)
 | rng (lo hi : Int)
 | frz (o : Obj) (u : HO)
 | tbl (ps : Array Value)
 | ext (φ : Heap->Prop)
noncomputable abbrev Hp:=Addr->Option HO
noncomputable def upd (H : Hp) (a : Addr) (o : HO) : Hp:=fun b=>if b = a then some o else H b
theorem upd_same {H : Hp} {a : Addr} {o : HO} : upd H a o a = some o:=by unfold upd; rw [if_pos rfl]
theorem upd_ne {H : Hp} {a b : Addr} {o : HO} (h : b≠a) : upd H a o b = H b:=by unfold upd; rw [if_neg h]
theorem ne_of {H : Hp} {a b : Addr} {o u : HO} (h : H a = some o) (h' : H b = some u) (d : o≠u) : a≠b:=by
 intro e; subst e; rw [h] at h'; exact d (Option.some.inj h')
theorem ne_of_none {H : Hp} {a b : Addr} {o : HO} (h : H a = some o) (h' : H b = none) : a≠b:=by
 intro e; subst e; rw [h] at h'; cases h'
section
variable (P : Program) (w : World)
noncomputable def ObjOk (H : Hp) (h : Heap) (a : Addr) : HO->Prop
 | .lst xs=>xs.length<=sizeLine/\∃ (its : List Value) (n : Nat), Vals xs its/\h.get? a = some { cls:=.type "list", data:=.seq its.toArray n }
 | .tup xs=>xs.length<=sizeLine/\∃ its : List Value, Vals xs its/\IsTup h a its.toArray
 | .dK kvs=>kvs.length<=sizeLine/\(a == sysModules) = false/\∃ vs, KV kvs vs/\h.DictOf (mixKind P w) a vs
 | .dT kvs=>kvs.length<=sizeLine/\(a == sysModules) = false/\∃ xs : List (List Key × Addr × Value),
   Paired (fun (p : List Key × V) (q : List Key × Addr × Value)=>p.1 = q.1/\H q.2.1 = some (.tup (p.1.map kV))/\RelV p.2 q.2.2) kvs xs /\
   ∃ o es ep, h.get? a = some o/\o.ExactDict/\o.data = .dict es ep/\es.toList = xs.map (entryOfKey (tupleKind (mixKind P w)))/\(xs.map (·.1)).Nodup
 | .set S n=>h.SetOf (intKind P w) a S n
 | .ins C dx fs=>H dx = some (.own a)/\fs.length<=1000/\dx≠a/\h.get? a = some (PySem.W.instObj C dx) /\
   ∃ mA, h.Ns1 dx mA/\(∀ f, RelO (fs.lookup f) (mA f))/\PySem.Within mA (fs.map (·.1))
 | .own _=>∃ o, h.get? a = some o
 | .xd fs=>∃ mA, h.Ns1 a mA/\∀ f, RelO (fs.lookup f) (mA f)
 | .rng lo hi=>∃ t u v, h.get? a = some { cls:=.type "range", data:=.fields #[.int lo t, .int hi u, .int 1 v] }
 | .frz o u=>h.get? a = some o/\ObjOk H h a u
 | .tbl ps=>h.get? a = some { cls:=.none, data:=.fields ps }
 | .met f x=>h.get? a = some (PySem.W.methodObj (.ref f) (.ref x))
 | .ext φ=>φ h/\(∃ o, h.get? a = some o)/\∀ h1 h2 : Heap, φ h1->(∀ o, h1.get? a = some o->h2.get? a = some o)->φ h2
noncomputable def HOk (H : Hp) (h : Heap) : Prop:=∀ a o, H a = some o->ObjOk P w H h a o
end
section
variable {P : Program} {w : World} {H H' : Hp} {h h' : Heap} {a : Addr} {o : HO}
theorem ObjOk.lt (x : ObjOk P w H h a o) : a < h.objs.size:=by
 cases o with
 | lst xs=>obtain ⟨_, _, _, _, e⟩:=x; exact Heap.lt_size e
 | tup xs=>obtain ⟨_, _, _, p⟩:=x; exact p.lt
 | dK kvs=>obtain ⟨_, _, _, _, o, _, _, e, _⟩:=x; exact Heap.lt_size e
 | dT kvs=>obtain ⟨_, _, _, _, o, _, _, e, _⟩:=x; exact Heap.lt_size e
 | set S n=>obtain ⟨o, _, _, _, e, _⟩:=x; exact Heap.lt_size e
 | ins C dx fs=>obtain ⟨_, _, _, e, _⟩:=x; exact Heap.lt_size e
 | own y=>obtain ⟨_, e⟩:=x; exact Heap.lt_size e
 | xd fs=>obtain ⟨_, ⟨_, _, _, e, _⟩, _⟩:=x; exact Heap.lt_size e
 | rng lo hi=>obtain ⟨_, _, _, e⟩:=x; exact Heap.lt_size e
 | frz ob u=>obtain ⟨e, _⟩:=x; exact Heap.lt_size e
 | tbl ps=>exact Heap.lt_size (show h.get? a = some _ from x)
 | met f y=>exact Heap.lt_size (show h.get? a = some _ from x)
 | ext φ=>obtain ⟨_, ⟨_, e⟩, _⟩:=x; exact Heap.lt_size e
theorem Paired.mapP {α β : Type} {F G : α->β->Prop} : ∀ {l₁ : List α} {l₂ : List β}, Paired F l₁ l₂->(∀ a b, F a b->G a b)->Paired G l₁ l₂
 | _, _, .nil, _=>.nil
 | _, _, .cons r t, f=>.cons (f _ _ r) (Paired.mapP t f)
theorem ObjOk.stay (x : ObjOk P w H h a o) (k : ∀ b u, (b = a\/H b = some (.own a))->h.get? b = some u->h'.get? b = some u)
  (ho : ∀ b, H b = some (.own a)->H' b = some (.own a)) (ht : ∀ b xs, H b = some (.tup xs)->H' b = some (.tup xs)) : ObjOk P w H' h' a o:=by
 induction o with
 | lst xs=>obtain ⟨z, its, n, r, e⟩:=x; exact ⟨z, its, n, r, k _ _ (.inl rfl) e⟩
 | tup xs=>obtain ⟨z, its, r, ob, e, c⟩:=x; exact ⟨z, its, r, ob, k _ _ (.inl rfl) e, c⟩
 | dK kvs=>obtain ⟨z, y, vs, r, ob, es, ep, e, c⟩:=x; exact ⟨z, y, vs, r, ob, es, ep, k _ _ (.inl rfl) e, c⟩
 | dT kvs =>
  obtain ⟨z, y, xs, r, ob, es, ep, e, c⟩:=x
  exact ⟨z, y, xs, Paired.mapP r fun p q z=>⟨z.1, ht _ _ z.2.1, z.2.2⟩, ob, es, ep, k _ _ (.inl rfl) e, c⟩
 | set S n=>obtain ⟨ob, es, ep, t, e, c⟩:=x; exact ⟨ob, es, ep, t, k _ _ (.inl rfl) e, c⟩
 | ins C dx fs =>
  obtain ⟨d, z, ne, e, mA, ⟨od, es, ep, e2, c⟩, r⟩:=x
  exact ⟨ho _ d, z, ne, k _ _ (.inl rfl) e, mA, ⟨od, es, ep, k _ _ (.inr d) e2, c⟩, r⟩
 | own y=>obtain ⟨ob, e⟩:=x; exact ⟨ob, k _ _ (.inl rfl) e⟩
 | xd fs=>obtain ⟨mA, ⟨od, es, ep, e, c⟩, r⟩:=x; exact ⟨mA, ⟨od, es, ep, k _ _ (.inl rfl) e, c⟩, r⟩
 | rng lo hi=>obtain ⟨t, u, v, e⟩:=x; exact ⟨t, u, v, k _ _ (.inl rfl) e⟩
 | frz ob u ih=>obtain ⟨e, q⟩:=x; exact ⟨k _ _ (.inl rfl) e, ih q⟩
 | tbl ps =>
  have e : h.get? a = some { cls:=.none, data:=.fields ps }:=x
  show h'.get? a = some { cls:=.none, data:=.fields ps }
  exact k a _ (.inl rfl) e
 | met f y =>
  have e : h.get? a = some (PySem.W.methodObj (.ref f) (.ref y)):=x
  show h'.get? a = some (PySem.W.methodObj (.ref f) (.ref y))
  exact k a _ (.inl rfl) e
 | ext φ=>obtain ⟨p, ⟨o, e⟩, st⟩:=x; exact ⟨st _ _ p fun o q=>k _ _ (.inl rfl) q, ⟨o, k _ _ (.inl rfl) e⟩, st⟩
theorem HOk.lt (x : HOk P w H h) (e : H a = some o) : a < h.objs.size:=(x a o e).lt
theorem HOk.fresh (x : HOk P w H h) (e : h.objs.size<=a) : H a = none:=by
 cases q : H a with
 | none=>rfl
 | some u=>exact absurd (Nat.lt_of_lt_of_le (x.lt q) e) (Nat.lt_irrefl _)
theorem HOk.kept (x : HOk P w H h) (k : ∀ b u, h.get? b = some u->h'.get? b = some u) : HOk P w H h':=fun a o e =>
 (x a o e).stay (fun b u _ q=>k b u q) (fun _ q=>q) fun _ _ q=>q
theorem HOk.laid (x : HOk P w H h) (k : ∀ b u, h.get? b = some u->h'.get? b = some u) (hp : h.objs.size<=a) (new : ObjOk P w (upd H a o) h' a o) : HOk P w (upd H a o) h':=fun b u e=>by
 have hn:=x.fresh hp
 by_cases hb : b = a
 ·subst hb; rw [upd_same] at e; cases e; exact new
 ·rw [upd_ne hb] at e
  exact (x b u e).stay (fun c v _ q=>k c v q) (fun c q=>by rw [upd_ne (ne_of_none q hn)]; exact q) fun c xs q=>by rw [upd_ne (ne_of_none q hn)]; exact q
end
noncomputable def Rd (H : Hp) (a : Addr) (u : HO) : Prop:=H a = some u\/∃ o, H a = some (.frz o u)
theorem Rd.ok {P : Program} {w : World} {H : Hp} {h : Heap} {a : Addr} {u : HO} (r : Rd H a u) (x : HOk P w H h) : ObjOk P w H h a u:=by
 rcases r with r | ⟨o, r⟩
 ·exact x a u r
 ·obtain ⟨_, q⟩:=x a _ r
  exact q
noncomputable def Mut : Option HO->Prop
 | some (.lst _)=>True
 | some (.dK _)=>True
 | some (.dT _)=>True
 | some (.set _ _)=>True
 | some (.ins _ _ _)=>True
 | some (.ext _)=>True
 | _=>False
section
variable {P : Program} {w : World} {H : Hp} {h h' : Heap} {x e : Addr} {o' : HO}
theorem HOk.write (ok : HOk P w H h) (mu : Mut (H x)) (he : e = x\/H e = some (.own x)) (k : ∀ b u, b≠e->h.get? b = some u->h'.get? b = some u) (heo : ∃ u, h'.get? e = some u)
  (new : ObjOk P w (upd H x o') h' x o') : HOk P w (upd H x o') h':=fun b u q=>by
 have nown : ∀ c y, H c = some (.own y)->c≠x:=fun c y r z=>by subst z; rw [r] at mu; exact mu
 have ntup : ∀ c xs, H c = some (.tup xs)->c≠x:=fun c xs r z=>by subst z; rw [r] at mu; exact mu
 by_cases hb : b = x
 ·subst hb; rw [upd_same] at q; cases q; exact new
 ·rw [upd_ne hb] at q
  by_cases hbe : b = e
  ·have q' : H b = some (.own x):=by
    rcases he with z | z
    ·exact absurd (hbe.trans z) hb
    ·rw [hbe]; exact z
   rw [q] at q'; cases q'
   obtain ⟨v, hv⟩:=heo
   exact ⟨v, by rw [hbe]; exact hv⟩
  ·refine (ok b u q).stay (fun c v hc r=>k c v ?_ r) (fun c r=>by rw [upd_ne (nown c b r)]; exact r) fun c xs r=>by rw [upd_ne (ntup c xs r)]; exact r
   rcases hc with rfl | hc
   ·exact hbe
   ·rintro rfl
    rcases he with z | z
    ·exact nown c b hc z
    ·rw [hc] at z; cases z; exact hb rfl
end
structure Un (fs ex : List Addr) (H H' : Hp) (h h' : Heap) : Prop where
 keep : ∀ b o, h.get? b = some o->H b = none->b∉fs->b∉ex->h'.get? b = some o
 slot : ∀ b o, h.get? b = some o->H b = none->b∈fs->b∉ex->∃ sl, h'.get? b = some { o with slots:=sl }
 free : ∀ b o, h.get? b = some o->H b = none->b∉ex->H' b = none
 there : ∀ b o, h.get? b = some o->b∉ex->∃ o', h'.get? b = some o'
 tups : ∀ b xs, H b = some (.tup xs)->H' b = some (.tup xs)
 frzs : ∀ b o u, H b = some (.frz o u)->H' b = some (.frz o u)
 tbls : ∀ b ps, H b = some (.tbl ps)->∃ more, H' b = some (.tbl (ps ++ more))
section
variable {fs fs' ex ex' : List Addr} {H H1 H2 : Hp} {h h1 h2 h' : Heap} {a x e : Addr} {o : HO}
theorem Un.any (u : Un fs ex H H1 h h1) {b : Addr} {ob : Obj} (q : h.get? b = some ob) (n : H b = none) (hx : b∉ex) : ∃ sl, h1.get? b = some { ob with slots:=sl }:=by
 by_cases hb : b∈fs
 ·exact u.slot b ob q n hb hx
 ·exact ⟨ob.slots, u.keep b ob q n hb hx⟩
theorem Un.kept (k : ∀ b u, h.get? b = some u->h'.get? b = some u) : Un fs ex H H h h' :=
 ⟨fun b ob q _ _ _=>k b ob q, fun b ob q _ _ _=>⟨ob.slots, k b ob q⟩, fun _ _ _ n _=>n, fun b ob q _=>⟨ob, k b ob q⟩, fun _ _ q=>q, fun _ _ _ q=>q, fun _ ps q=>⟨#[], by rw [q]; simp⟩⟩
theorem Un.refl : Un fs ex H H h h:=Un.kept fun _ _ q=>q
theorem Un.laid (k : ∀ b u, h.get? b = some u->h'.get? b = some u) (hp : h.objs.size<=a) (hn : H a = none) : Un fs ex H (upd H a o) h h' where
 keep:=fun b u q _ _ _=>k b u q
 slot:=fun b u q _ _ _=>⟨u.slots, k b u q⟩
 free:=fun b u q n _=>by rw [upd_ne (Nat.ne_of_lt (Nat.lt_of_lt_of_le (Heap.lt_size q) hp))]; exact n
 there:=fun b u q _=>⟨u, k b u q⟩
 tups:=fun b xs q=>by rw [upd_ne (ne_of_none q hn)]; exact q
 frzs:=fun b u xs q=>by rw [upd_ne (ne_of_none q hn)]; exact q
 tbls:=fun b ps q=>⟨#[], by rw [upd_ne (ne_of_none q hn), q]; simp⟩
theorem Un.write (mu : Mut (H x)) (he : e = x\/H e = some (.own x)) (k : ∀ b u, b≠e->h.get? b = some u->h'.get? b = some u) (heo : ∃ u, h'.get? e = some u) : Un fs ex H (upd H x o) h h':=by
 have hx : ∀ b, H b = none->b≠x:=fun b n z=>by subst z; rw [n] at mu; exact mu
 have hb : ∀ b, H b = none->b≠e:=fun b n z=>by
  subst z
  rcases he with r | r
  ·exact hx b n r
  ·rw [n] at r; cases r
 have hm : ∀ b u, H b = some u->¬ Mut (some u)->b≠x:=fun b u q nm z=>by subst z; rw [q] at mu; exact nm mu
 refine ⟨fun b u q n _ _=>k b u (hb b n) q, fun b u q n _ _=>⟨u.slots, k b u (hb b n) q⟩, fun b u q n _=>by rw [upd_ne (hx b n)]; exact n, fun b u q _=>?_,
  fun b xs q=>by rw [upd_ne (hm b _ q fun z=>z)]; exact q, fun b u xs q=>by rw [upd_ne (hm b _ q fun z=>z)]; exact q, fun b ps q=>⟨#[], by rw [upd_ne (hm b _ q fun z=>z), q]; simp⟩⟩
 by_cases hbe : b = e
 ·subst hbe; exact heo
 ·exact ⟨u, k b u hbe q⟩
end
noncomputable def trk (h : Heap) (H : Hp) : List Addr:=(List.range h.objs.size).filter fun a=>(H a).isSome
noncomputable def hidT (h : Heap) (H : Hp) : Heap:=PySem.W.hideAll h (trk h H)
theorem hidT_size (h : Heap) (H : Hp) : (hidT h H).objs.size = h.objs.size:=PySem.W.hideAll_size _ _
theorem hidT_get {h : Heap} {H : Hp} {b : Addr} {o : Obj} (e : h.get? b = some o) (n : H b = none) : (hidT h H).get? b = some o :=
 PySem.W.hideAll_get _ e fun hm=>by
  have q : (H b).isSome = true:=(List.mem_filter.mp hm).2
  rw [n] at q; simp at q
theorem of_hidT {h : Heap} {H : Hp} {b : Addr} {o : Obj} (e : (hidT h H).get? b = some o) : h.get? b = some o/\H b = none:=by
 have e' : h.get? b = some o:=PySem.W.of_hideAll (trk h H) e
 refine ⟨e', ?_⟩
 cases q : H b with
 | none=>rfl
 | some x =>
  have hm : b∈trk h H:=List.mem_filter.mpr ⟨List.mem_range.mpr (Heap.lt_size e'), by simp [q]⟩
  have z : (hidT h H).get? b = none:=PySem.W.hideAll_none (trk h H) hm
  rw [z] at e; cases e
noncomputable def allNews (g h : Heap) (L : Addr) : List (Addr × Obj):=(List.range h.objs.size).filterMap fun a=>if a = L\/(g.get? a).isSome = true then none else (h.get? a).map fun o=>(a, o)
theorem of_mem_allNews {g h : Heap} {L : Addr} {p : Addr × Obj} (hp : p∈allNews g h L) : p.1≠L/\g.get? p.1 = none/\h.get? p.1 = some p.2:=by
 obtain ⟨b, _, e⟩:=List.mem_filterMap.mp hp
 split at e
 ·cases e
 ·rename_i hn
  cases q : h.get? b with
  | none=>rw [q] at e; simp at e
  | some u =>
   rw [q] at e
   simp only [Option.map_some, Option.some.injEq] at e
   subst e
   refine ⟨fun z=>hn (.inl z), ?_, q⟩
   show g.get? b = none
   cases r : g.get? b with
   | none=>rfl
   | some v=>exact (hn (.inr (by simp [r]))).elim
noncomputable def rest (g h : Heap) (L d : Addr) : List (Addr × Obj):=(allNews g h L).filter fun p=>decide (p.1≠d)
theorem news_all {g h : Heap} {L : Addr} : News g L h (allNews g h L):=fun p hp=>let ⟨a, b, c⟩:=of_mem_allNews hp; ⟨c, a, b⟩
structure Mod (K : PySem.W.Frag) (mg : Str->Option Value) (base : Heap) : Prop where
 kin : K.In base
 glob : base.Ns mainGlobals mg
 blt : ∃ mb, base.Ns builtinsNs mb/\∀ x : Str, x≠"__name__"->mb x = bootBuiltins x
 nolimit : base.NoLimit
structure Cx where
 prog : Program
 w : World
 K : PySem.W.Frag
 mg : Str->Option Value
 base : Heap
 A : Around
 N : List Str
 s₀ : Shared
 H₀ : Hp
 env : Env
 outer : List Env
 stack : List Env
 ex : List Addr
 fn : Str->Bool
 calm : Bool
 pn : List (Addr × Obj)
 xe : Value->Shared->Prop
noncomputable def frs (l : List Env) : List Addr:=l.filterMap (·.frame)
noncomputable abbrev Cx.fs (X : Cx) : List Addr:=frs X.outer
noncomputable def Vis (sc : Scope) (x : Str) : Prop:=sc.names.lookup x = some .local\/sc.names.lookup x = some .cell\/sc.names.lookup x = some .free
noncomputable def Loc (sc : Scope) (x : Str) : Prop:=sc.names.lookup x = some .local\/sc.names.lookup x = some .cell
noncomputable def Look (env : Env) (h : Heap) (m : Str->Option Value) (x : Str) (u : Value) : Prop :=
 (env.kindOf x = some .local/\m x = some u)\/((env.kindOf x = some .cell\/env.kindOf x = some .free)/\∃ c, env.cells.lookup x = some c/\h.IsCell c (some u))
structure Cx.Ok (X : Cx) : Prop where
 mod : Mod X.K X.mg X.base
 kind : X.env.scope.kind = .function
 glob : X.env.globals = mainGlobals
 blt : X.env.builtins = builtinsNs
 above : X.s₀.heap.objs.size<=X.env.locals
 inj : ∀ x y c, X.env.cells.lookup x = some c->X.env.cells.lookup y = some c->x = y
 has : ∀ x, (X.env.kindOf x = some .cell\/X.env.kindOf x = some .free)->∃ c, X.env.cells.lookup x = some c
 cab : ∀ x c, X.fn x = true->X.env.cells.lookup x = some c->X.s₀.heap.objs.size<=c
 hd : X.calm = true->X.A.handled = none
 frames : X.A.frames = some X.stack
 stk : X.stack = X.outer\/(X.stack = X.env :: X.outer/\X.env.frame = some X.env.locals)
 exf : ∀ b∈X.ex, b≠X.env.locals/\∀ x c, X.env.cells.lookup x = some c->c≠b
 bs : ∀ b o, X.base.get? b = some o->X.s₀.heap.get? b = some o/\X.H₀ b = none
 bsz : X.base.objs.size<=X.s₀.heap.objs.size
 noex : ∀ b o, X.base.get? b = some o->b∉X.ex
 exfs : ∀ b∈X.ex, b∉X.fs
 funs : X.s₀.heap.FunFrames X.base X.outer
 frf : ∀ b∈X.fs, X.H₀ b = none
structure Inv (X : Cx) (pins : List (Addr × Obj)) (σ : List (Option V)) (H : Hp) (s : Shared) : Prop where
 ok : X.Ok
 os : s.os = X.s₀.os
 bare : AllBare s.gens
 base : Un X.fs X.ex X.H₀ H X.s₀.heap s.heap
 loc : ∃ m, s.heap.Ns X.env.locals m/\∀ (i : Nat) (x : Str) (v : V), X.N[i]? = some x->σ[i]? = some (some v)->Vis X.env.scope x->∃ u, RelV v u/\Look X.env s.heap m x u
 cell : ∀ x c, X.env.cells.lookup x = some c->∃ v, s.heap.IsCell c v
 free : H X.env.locals = none
 freeC : ∀ x c, X.env.cells.lookup x = some c->H c = none
 pin : ∀ p∈X.pn ++ pins, s.heap.get? p.1 = some p.2/\H p.1 = none/\p.1≠X.env.locals/\p.1∉X.fs/\∀ v, p.2.data≠.cell v
 hok : HOk X.prog X.w H s.heap
 len : σ.length = X.N.length
section
variable {X : Cx} {pins : List (Addr × Obj)} {σ : List (Option V)} {H H' : Hp} {s : Shared} {h' : Heap}
theorem Cx.Ok.nofr (ok : X.Ok) {b : Addr} {o : Obj} (e : X.base.get? b = some o) : b∉X.fs:=fun hb=>by
 have:=(ok.funs.mem hb).1
 rw [e] at this; cases this
theorem Inv.bs (I : Inv X pins σ H s) : ∀ b o, X.base.get? b = some o->s.heap.get? b = some o/\H b = none:=fun b o e =>
 ⟨I.base.keep b o (I.ok.bs b o e).1 (I.ok.bs b o e).2 (I.ok.nofr e) (I.ok.noex b o e), I.base.free b o (I.ok.bs b o e).1 (I.ok.bs b o e).2 (I.ok.noex b o e)⟩
theorem Inv.bk (I : Inv X pins σ H s) : ∀ b o, X.base.get? b = some o->s.heap.get? b = some o:=fun b o e=>(I.bs b o e).1
theorem Inv.mod (I : Inv X pins σ H s) : Mod X.K X.mg X.base:=I.ok.mod
theorem Inv.kIn (I : Inv X pins σ H s) : X.K.In s.heap:=I.ok.mod.kin.keeps I.bk
theorem Inv.fr (I : Inv X pins σ H s) : ∃ m, Fr X.base X.env.locals s.heap m :=
 let ⟨m, hn, _⟩:=I.loc
 ⟨m, hn, I.bk, Nat.le_trans I.ok.bsz I.ok.above⟩
theorem Inv.lt (I : Inv X pins σ H s) : X.env.locals < s.heap.objs.size:=let ⟨_, hn, _⟩:=I.loc; hn.lt
theorem Inv.sz (I : Inv X pins σ H s) : X.s₀.heap.objs.size<=s.heap.objs.size:=Nat.le_trans I.ok.above (Nat.le_of_lt I.lt)
theorem Inv.nofs (I : Inv X pins σ H s) {a : Addr} (h : s.heap.objs.size<=a) : a∉X.fs:=fun hb=>by
 obtain ⟨_, o, ho, _⟩:=I.ok.funs.mem hb
 exact absurd (Nat.lt_of_lt_of_le (Heap.lt_size ho) (Nat.le_trans I.sz h)) (Nat.lt_irrefl _)
theorem Inv.cne (I : Inv X pins σ H s) : ∀ x c, X.env.cells.lookup x = some c->c≠X.env.locals:=fun x c e z=>by
 obtain ⟨v, o, ho, hd⟩:=I.cell x c e
 obtain ⟨m, ⟨o', es, ep, ho', hd', _⟩, _⟩:=I.loc
 rw [z, ho'] at ho; cases ho; rw [hd'] at hd; cases hd
theorem Inv.funs (I : Inv X pins σ H s) : s.heap.FunFrames X.base X.outer:=by
 have all : ∀ (l : List Env), (∀ b∈frs l, b∈X.fs)->X.s₀.heap.FunFrames X.base l->s.heap.FunFrames X.base l:=by
  intro l
  induction l with
  | nil=>intro _ _; trivial
  | cons env r ih =>
   intro hs hl
   obtain ⟨hk, ⟨L, o, hf, hn, ho, hd⟩, hr⟩:=hl
   have hL : L∈X.fs:=hs L (by unfold frs; rw [List.filterMap_cons, hf]; exact List.mem_cons_self)
   obtain ⟨sl, e⟩:=I.base.slot L o ho (I.ok.frf L hL) hL fun z=>I.ok.exfs L z hL
   exact ⟨hk, ⟨L, _, hf, hn, e, hd⟩, ih (fun b hb=>hs b (by unfold frs; rw [List.filterMap_cons, hf]; exact List.mem_cons_of_mem _ hb)) hr⟩
 exact all X.outer (fun _ hb=>hb) I.ok.funs
theorem Inv.stack (I : Inv X pins σ H s) : s.heap.FunFrames X.base X.stack:=by
 rcases I.ok.stk with e | ⟨e, hf⟩
 ·rw [e]; exact I.funs
 ·rw [e]
  obtain ⟨m, hn, _⟩:=I.loc
  refine .cons (by rw [I.ok.kind]; decide) hf hn ?_ I.funs
  exact Heap.get?_none_of_le (Nat.le_trans I.ok.bsz I.ok.above)
theorem Inv.stkSub (I : Inv X pins σ H s) : ∀ b∈frs X.stack, b∈X.env.locals :: X.fs:=fun b hb=>by
 rcases I.ok.stk with e | ⟨e, hf⟩
 ·rw [e] at hb; exact List.mem_cons_of_mem _ hb
 ·rw [e] at hb
  unfold frs at hb
  rw [List.filterMap_cons, hf] at hb
  exact hb
theorem Inv.stkFree (I : Inv X pins σ H s) : ∀ b∈frs X.stack, H b = none:=fun b hb=>by
 rcases List.mem_cons.mp (I.stkSub b hb) with e | hb
 ·rw [e]; exact I.free
 ·obtain ⟨_, o, ho, _⟩:=I.ok.funs.mem hb
  exact I.base.free b o ho (I.ok.frf b hb) fun z=>I.ok.exfs b z hb
theorem Inv.step {g' : Array GenState} {t' : Nat} {d' : Drawn} {ch : List Addr} (I : Inv X pins σ H s)
  (hch : ∀ b∈ch, (b∈X.ex\/X.s₀.heap.objs.size<=b)/\b≠X.env.locals/\(∀ x c, X.env.cells.lookup x = some c->c≠b)/\∀ p∈X.pn ++ pins, p.1≠b)
  (keep : ∀ b o, b≠X.env.locals->b∉X.fs->b∉ch->s.heap.get? b = some o->H b = none->h'.get? b = some o)
  (slot : ∀ b o, b≠X.env.locals->b∈X.fs->b∉ch->s.heap.get? b = some o->H b = none->∃ sl, h'.get? b = some { o with slots:=sl }) (free : ∀ b o, b∉ch->s.heap.get? b = some o->H b = none->H' b = none)
  (there : ∀ b o, b∉ch->s.heap.get? b = some o->∃ o', h'.get? b = some o')
  (tups : ∀ b xs, H b = some (.tup xs)->H' b = some (.tup xs)) (frzs : ∀ b o u, H b = some (.frz o u)->H' b = some (.frz o u)) (tbls : ∀ b ps, H b = some (.tbl ps)->∃ more, H' b = some (.tbl (ps ++ more)))
  (ns : ∀ m, s.heap.Ns X.env.locals m->h'.Ns X.env.locals m) (hok : HOk X.prog X.w H' h') (hg : AllBare g') :
  Inv X pins σ H' { s with heap:=h', gens:=g', drawn:=d', toks:=t' }:=by
 have neL : ∀ b o, X.s₀.heap.get? b = some o->b≠X.env.locals:=fun b o e=>Nat.ne_of_lt (Nat.lt_of_lt_of_le (Heap.lt_size e) I.ok.above)
 have neC : ∀ b o, X.s₀.heap.get? b = some o->b∉X.ex->b∉ch:=fun b o e hx hb=>by
  rcases (hch b hb).1 with z | z
  ·exact hx z
  ·exact absurd (Nat.lt_of_lt_of_le (Heap.lt_size e) z) (Nat.lt_irrefl _)
 have cellK : ∀ x c, X.env.cells.lookup x = some c->∀ v, s.heap.IsCell c v->h'.IsCell c v:=fun x c e v ⟨o, ho, hd⟩=>by
  have nch : c∉ch:=fun z=>(hch c z).2.2.1 x c e rfl
  by_cases hc : c∈X.fs
  ·obtain ⟨sl, q⟩:=slot c o (I.cne x c e) hc nch ho (I.freeC x c e)
   exact ⟨_, q, hd⟩
  ·exact ⟨o, keep c o (I.cne x c e) hc nch ho (I.freeC x c e), hd⟩
 refine ⟨I.ok, I.os, hg, ⟨fun b o e n hb hx=>?_, fun b o e n hb hx=>?_, fun b o e n hx=>?_, fun b o e hx=>?_, fun b xs e=>tups b xs (I.base.tups b xs e), fun b o xs e=>frzs b o xs (I.base.frzs b o xs e), fun b ps e=>?_⟩, ?_, fun x c e=>?_, ?_, fun x c e=>?_, fun p hp=>?_, hok, I.len⟩
 ·exact keep b o (neL b o e) hb (neC b o e hx) (I.base.keep b o e n hb hx) (I.base.free b o e n hx)
 ·obtain ⟨sl, e1⟩:=I.base.slot b o e n hb hx
  obtain ⟨sl', e2⟩:=slot b _ (neL b o e) hb (neC b o e hx) e1 (I.base.free b o e n hx)
  exact ⟨sl', e2⟩
 ·obtain ⟨o', e1⟩:=I.base.there b o e hx
  exact free b o' (neC b o e hx) e1 (I.base.free b o e n hx)
 ·obtain ⟨o', e1⟩:=I.base.there b o e hx
  exact there b o' (neC b o e hx) e1
 ·obtain ⟨m1, e1⟩:=I.base.tbls b ps e
  obtain ⟨m2, e2⟩:=tbls b _ e1
  exact ⟨m1 ++ m2, by rw [e2, Array.append_assoc]⟩
 ·obtain ⟨m, hn, hl⟩:=I.loc
  refine ⟨m, ns m hn, fun i x v e1 e2 e3=>?_⟩
  obtain ⟨u, r, l⟩:=hl i x v e1 e2 e3
  refine ⟨u, r, ?_⟩
  rcases l with l | ⟨k, c, e, z⟩
  ·exact .inl l
  ·exact .inr ⟨k, c, e, cellK x c e _ z⟩
 ·obtain ⟨v, z⟩:=I.cell x c e
  exact ⟨v, cellK x c e v z⟩
 ·obtain ⟨m, ⟨o, _, _, ho, _⟩, _⟩:=I.loc
  exact free _ o (fun z=>(hch _ z).2.1 rfl) ho I.free
 ·obtain ⟨v, o, ho, hd⟩:=I.cell x c e
  exact free c o (fun z=>(hch c z).2.2.1 x c e rfl) ho (I.freeC x c e)
 ·obtain ⟨e, n, ne, nf, d⟩:=I.pin p hp
  have nch : p.1∉ch:=fun z=>(hch p.1 z).2.2.2 p hp rfl
  exact ⟨keep p.1 p.2 ne nf nch e n, free p.1 p.2 nch e n, ne, nf, d⟩
theorem Inv.un {t' : Nat} (I : Inv X pins σ H s) (u : Un X.fs [] H H' s.heap h') (hok : HOk X.prog X.w H' h') : Inv X pins σ H' { s with heap:=h', toks:=t' }:=by
 obtain ⟨m, ⟨o, es, ep, ho, r⟩, _⟩:=id I.loc
 obtain ⟨sl, hL⟩:=u.any ho I.free (by simp)
 exact I.step (g':=s.gens) (d':=s.drawn) (ch:=[]) (fun _ z=>nomatch z) (fun b o _ hb _ e n=>u.keep b o e n hb (by simp)) (fun b o _ hb _ e n=>u.slot b o e n hb (by simp)) (fun b o _ e n=>u.free b o e n (by simp)) (fun b o _ e=>u.there b o e (by simp)) u.tups u.frzs u.tbls (fun m' hm=>by
  obtain ⟨o', es', ep', ho', r'⟩:=hm
  rw [ho] at ho'; cases ho'
  exact ⟨_, es', ep', hL, r'⟩) hok I.bare
theorem Inv.call {g' : Array GenState} {t' : Nat} {d' : Drawn} {ch : List Addr} (I : Inv X pins σ H s) (u : Un (frs X.stack) ch H H' s.heap h') (hok : HOk X.prog X.w H' h') (hg : AllBare g')
  (hch : ∀ b∈ch, (b∈X.ex\/X.s₀.heap.objs.size<=b)/\b≠X.env.locals/\(∀ x c, X.env.cells.lookup x = some c->c≠b)/\∀ p∈X.pn ++ pins, p.1≠b) :
  Inv X pins σ H' { s with heap:=h', gens:=g', drawn:=d', toks:=t' }:=by
 obtain ⟨m, ⟨o, es, ep, ho, r⟩, _⟩:=id I.loc
 obtain ⟨sl, hL⟩:=u.any ho I.free fun z=>(hch _ z).2.1 rfl
 exact I.step (ch:=ch) hch (fun b o hL hb hc e n=>u.keep b o e n (fun z=>(List.mem_cons.mp (I.stkSub b z)).elim hL hb) hc) (fun b o _ _ hc e n=>u.any e n hc) (fun b o hc e n=>u.free b o e n hc) (fun b o hc e=>u.there b o e hc) u.tups u.frzs u.tbls (fun m' hm=>by
  obtain ⟨o', es', ep', ho', r'⟩:=hm
  rw [ho] at ho'; cases ho'
  exact ⟨_, es', ep', hL, r'⟩) hok hg
theorem Inv.turned {t' : Nat} {it : Addr} (I : Inv X pins σ H s) (k : ∀ b o, b≠it->s.heap.get? b = some o->h'.get? b = some o) (hn : H it = none) (hL : it≠X.env.locals)
  (h1 : it∈X.ex\/X.s₀.heap.objs.size<=it) (h2 : ∀ x c, X.env.cells.lookup x = some c->c≠it) (h3 : ∀ p∈X.pn ++ pins, p.1≠it) : Inv X pins σ H { s with heap:=h', toks:=t' }:=by
 have nit : ∀ b u, H b = some u->b≠it:=fun b u e z=>by rw [z, hn] at e; cases e
 refine I.step (g':=s.gens) (d':=s.drawn) (ch:=[it]) (fun b hb=>?_) (fun b o _ _ hc e _=>k b o (fun z=>hc (by simp [z])) e) (fun b o _ _ hc e _=>⟨o.slots, k b o (fun z=>hc (by simp [z])) e⟩) (fun _ _ _ _ n=>n)
  (fun b o hc e=>⟨o, k b o (fun z=>hc (by simp [z])) e⟩) (fun _ _ e=>e) (fun _ _ _ e=>e) (fun b ps e=>⟨#[], by rw [e]; simp⟩) (fun m hm=>?_) (fun b u e=>?_) I.bare
 ·have e : b = it:=by simpa using hb
  subst e
  exact ⟨h1, hL, h2, h3⟩
 ·obtain ⟨o, es, ep, ho, r⟩:=hm
  exact ⟨o, es, ep, k _ o (Ne.symm hL) ho, r⟩
 ·refine (I.hok b u e).stay (fun c v hc q=>k c v ?_ q) (fun _ q=>q) fun _ _ q=>q
  rcases hc with z | z
  ·rw [z]; exact nit b u e
  ·exact nit c _ z
theorem Inv.tok (I : Inv X pins σ H s) (t : Nat) : Inv X pins σ H { s with toks:=t }:=I.un (h':=s.heap) (t':=t) Un.refl I.hok
theorem Inv.kept {t' : Nat} (I : Inv X pins σ H s) (k : ∀ b u, s.heap.get? b = some u->h'.get? b = some u) : Inv X pins σ H { s with heap:=h', toks:=t' }:=I.un (Un.kept k) (I.hok.kept k)
theorem Inv.laid {a : Addr} {o : HO} {t' : Nat} (I : Inv X pins σ H s) (k : ∀ b u, s.heap.get? b = some u->h'.get? b = some u) (hp : s.heap.objs.size<=a) (new : ObjOk X.prog X.w (upd H a o) h' a o) :
  Inv X pins σ (upd H a o) { s with heap:=h', toks:=t' }:=I.un (Un.laid k hp (I.hok.fresh hp)) (I.hok.laid k hp new)
theorem Inv.write {x e : Addr} {o : HO} {t' : Nat} (I : Inv X pins σ H s) (mu : Mut (H x)) (he : e = x\/H e = some (.own x)) (k : ∀ b u, b≠e->s.heap.get? b = some u->h'.get? b = some u) (heo : ∃ u, h'.get? e = some u)
  (new : ObjOk X.prog X.w (upd H x o) h' x o) : Inv X pins σ (upd H x o) { s with heap:=h', toks:=t' }:=I.un (Un.write mu he k heo) (I.hok.write mu he k heo new)
theorem Inv.pins_of {pins' : List (Addr × Obj)} (I : Inv X pins σ H s) (h : ∀ p∈pins', s.heap.get? p.1 = some p.2/\H p.1 = none/\p.1≠X.env.locals/\p.1∉X.fs/\∀ v, p.2.data≠.cell v) : Inv X pins' σ H s :=
 ⟨I.ok, I.os, I.bare, I.base, I.loc, I.cell, I.free, I.freeC, fun p hp=>(List.mem_append.mp hp).elim (fun z=>I.pin p (List.mem_append_left _ z)) (h p), I.hok, I.len⟩
theorem nodup_ix {N : List Str} (hN : N.Nodup) {i j : Nat} {x : Str} (a : N[i]? = some x) (b : N[j]? = some x) : i = j:=by
 obtain ⟨h1, e1⟩:=List.getElem?_eq_some_iff.mp a
 obtain ⟨h2, e2⟩:=List.getElem?_eq_some_iff.mp b
 exact (List.getElem_inj hN).mp (e1.trans e2.symm)
theorem store_ok2 {M : Model} {A : Around} {E : Value->Shared->Prop} {i : Nat} {x : Str} {v : V} {u : Value} {Q : Unit->Shared->Prop} (I : Inv X pins σ H s) (hU : ∀ j, X.N[j]? = some x->j = i) (hi : X.N[i]? = some x) (hx : Loc X.env.scope x) (r : RelV v u)
  (h : ∀ s', Inv X pins (σ.set i (some v)) H s'->(∃ a, Heap.SameBut a s.heap s'.heap/\(a = X.env.locals\/X.env.cells.lookup x = some a))->Q () s') (hf : X.fn x = true\/X.env.scope.names.lookup x = some .local:=by first | exact .inl rfl | exact .inr rfl | assumption) : wpAny M A (storeName X.env x u) Q E s:=by
 obtain ⟨m, hn, hl⟩:=id I.loc
 have hcls : (X.env.scope.kind == .class || (X.env.scope.kind == .module && X.env.locals != X.env.globals)) = false:=by rw [I.ok.kind]; rfl
 have hiσ : i < σ.length:=by rw [I.len]; exact (List.getElem?_eq_some_iff.mp hi).1
 have cne:=I.cne
 have tracked : ∀ {a : Addr} {h' : Heap}, (∃ o, s.heap.get? a = some o/\H a = none)->Heap.SameBut a s.heap h'->HOk X.prog X.w H h':=fun {a h'} ha hs b ob e=>by
  obtain ⟨_, _, hfree⟩:=ha
  refine (I.hok b ob e).stay (fun c w' hc q=>(hs.2 c ?_).trans q) (fun _ q=>q) fun _ _ q=>q
  rintro rfl
  rcases hc with rfl | hc
  ·rw [hfree] at e; cases e
  ·rw [hfree] at hc; cases hc
 rcases hx with hk | hk
 ·refine wpAny_storeName_local hk hn (fun h' hn' hs=>?_) hcls
  obtain ⟨oL, _, _, hoL, _⟩:=id hn
  refine h _ ⟨I.ok, I.os, I.bare, ⟨fun b o e n hb hx=>?_, fun b o e n hb hx=>?_, I.base.free, fun b o e hx=>?_, I.base.tups, I.base.frzs, I.base.tbls⟩, ⟨_, hn', fun j y v' e1 e2 e3=>?_⟩, fun y c e=>?_, I.free, I.freeC, fun p hp=>?_, tracked ⟨oL, hoL, I.free⟩ hs, by simpa using I.len⟩ ⟨_, hs, .inl rfl⟩
  ·exact (hs.2 b (Nat.ne_of_lt (Nat.lt_of_lt_of_le (Heap.lt_size e) I.ok.above))).trans (I.base.keep b o e n hb hx)
  ·obtain ⟨sl, e1⟩:=I.base.slot b o e n hb hx
   exact ⟨sl, (hs.2 b (Nat.ne_of_lt (Nat.lt_of_lt_of_le (Heap.lt_size e) I.ok.above))).trans e1⟩
  ·obtain ⟨o', e1⟩:=I.base.there b o e hx
   exact ⟨o', (hs.2 b (Nat.ne_of_lt (Nat.lt_of_lt_of_le (Heap.lt_size e) I.ok.above))).trans e1⟩
  ·by_cases hj : j = i
   ·subst hj
    rw [hi] at e1; cases e1
    rw [List.getElem?_set_self hiσ] at e2
    cases e2
    exact ⟨u, r, .inl ⟨hk, by simp⟩⟩
   ·rw [List.getElem?_set_ne (Ne.symm hj)] at e2
    obtain ⟨u', r', q⟩:=hl j y v' e1 e2 e3
    refine ⟨u', r', ?_⟩
    rcases q with ⟨k, e⟩ | ⟨k, c, e, z⟩
    ·refine .inl ⟨k, ?_⟩
     have : y≠x:=fun e=>hj (hU _ (e ▸ e1))
     simp [this, e]
    ·exact .inr ⟨k, c, e, z.sameBut hs (cne y c e)⟩
  ·obtain ⟨w', z⟩:=I.cell y c e
   exact ⟨w', z.sameBut hs (cne y c e)⟩
  ·obtain ⟨e, n, ne, nf, d⟩:=I.pin p hp
   exact ⟨(hs.2 p.1 ne).trans e, n, ne, nf, d⟩
 ·have hfn : X.fn x = true:=by
   rcases hf with z | z
   ·exact z
   ·rw [z] at hk; cases hk
  obtain ⟨c, hc⟩:=I.ok.has x (.inl hk)
  obtain ⟨w', z⟩:=I.cell x c hc
  refine wpAny_storeName_cell I.ok.kind hk hc z (fun h' hc' hs=>?_)
  obtain ⟨oc, hoc, hocd⟩:=id z
  refine h { s with heap:=h' } ⟨I.ok, I.os, I.bare, ⟨fun b o e n hb hx=>?_, fun b o e n hb hx=>?_, I.base.free, fun b o e hx=>?_, I.base.tups, I.base.frzs, I.base.tbls⟩, ⟨m, hn.sameBut hs (Ne.symm (cne x c hc)), fun j y v' e1 e2 e3=>?_⟩, fun y c' e=>?_, I.free, I.freeC, fun p hp=>?_, tracked ⟨oc, hoc, I.freeC x c hc⟩ hs, by simpa using I.len⟩ ⟨c, hs, .inr hc⟩
  ·exact (hs.2 b (Nat.ne_of_lt (Nat.lt_of_lt_of_le (Heap.lt_size e) (I.ok.cab x c hfn hc)))).trans (I.base.keep b o e n hb hx)
  ·obtain ⟨sl, e1⟩:=I.base.slot b o e n hb hx
   exact ⟨sl, (hs.2 b (Nat.ne_of_lt (Nat.lt_of_lt_of_le (Heap.lt_size e) (I.ok.cab x c hfn hc)))).trans e1⟩
  ·obtain ⟨o', e1⟩:=I.base.there b o e hx
   exact ⟨o', (hs.2 b (Nat.ne_of_lt (Nat.lt_of_lt_of_le (Heap.lt_size e) (I.ok.cab x c hfn hc)))).trans e1⟩
  ·by_cases hj : j = i
   ·subst hj
    rw [hi] at e1; cases e1
    rw [List.getElem?_set_self hiσ] at e2
    cases e2
    exact ⟨u, r, .inr ⟨.inl hk, c, hc, hc'⟩⟩
   ·rw [List.getElem?_set_ne (Ne.symm hj)] at e2
    obtain ⟨u', r', q⟩:=hl j y v' e1 e2 e3
    refine ⟨u', r', ?_⟩
    rcases q with q | ⟨k, c', e, z'⟩
    ·exact .inl q
    ·refine .inr ⟨k, c', e, z'.sameBut hs ?_⟩
     rintro rfl
     exact hj (hU _ (I.ok.inj _ _ _ e hc ▸ e1))
  ·by_cases hcc : c' = c
   ·subst hcc; exact ⟨_, hc'⟩
   ·obtain ⟨w2, z2⟩:=I.cell y c' e
    exact ⟨w2, z2.sameBut hs hcc⟩
  ·obtain ⟨e, n, ne, nf, d⟩:=I.pin p hp
   refine ⟨(hs.2 p.1 ?_).trans e, n, ne, nf, d⟩
   intro q
   rw [q, hoc] at e
   have q' : oc = p.2:=Option.some.inj e
   exact d w' (by rw [← q']; exact hocd)
theorem store_ok {M : Model} {A : Around} {E : Value->Shared->Prop} {i : Nat} {x : Str} {v : V} {u : Value} {Q : Unit->Shared->Prop} (I : Inv X pins σ H s) (hN : X.N.Nodup) (hi : X.N[i]? = some x) (hx : Loc X.env.scope x) (r : RelV v u)
  (h : ∀ s', Inv X pins (σ.set i (some v)) H s'->Q () s') (hf : X.fn x = true\/X.env.scope.names.lookup x = some .local:=by first | exact .inl rfl | exact .inr rfl | assumption) : wpAny M A (storeName X.env x u) Q E s :=
 store_ok2 I (fun j h=>nodup_ix hN h hi) hi hx r (fun s' I' _=>h s' I') hf
theorem Inv.call' {s' : Shared} {ch : List Addr} (I : Inv X pins σ H s) (ho : s'.os = s.os) (u : Un (frs X.stack) ch H H' s.heap s'.heap) (hok : HOk X.prog X.w H' s'.heap) (hg : AllBare s'.gens)
  (hch : ∀ b∈ch, (b∈X.ex\/X.s₀.heap.objs.size<=b)/\b≠X.env.locals/\(∀ x c, X.env.cells.lookup x = some c->c≠b)/\∀ p∈X.pn ++ pins, p.1≠b) : Inv X pins σ H' s':=by
 obtain ⟨h', g', d', t', o'⟩:=s'
 have e : o' = s.os:=ho
 subst e
 exact I.call (g':=g') (t':=t') (d':=d') u hok hg hch
end
noncomputable abbrev XK:=Value->Option Addr->Hp->Prop
noncomputable abbrev St:=List (Option V)
noncomputable abbrev VK:=V->Hp->Prop
noncomputable abbrev TE:=St->Hp->VK->Prop
noncomputable abbrev TT:=St->Hp->(Bool->Hp->Prop)->Prop
noncomputable abbrev TA:=St->Hp->(List V->Hp->Prop)->Prop
structure Ends where
 nx : St->Hp->Prop
 rt : VK
 bk : St->Hp->Prop:=fun _ _=>False
 ct : St->Hp->Prop:=fun _ _=>False
noncomputable abbrev TS:=Ends->St->Hp->Prop
noncomputable def EP (X : Cx) (pins : List (Addr × Obj)) (σ : St) (Q : VK) (u : Value) (s' : Shared) : Prop:=∃ v H', Inv X pins σ H' s'/\RelV v u/\Q v H'
noncomputable def TP (X : Cx) (pins : List (Addr × Obj)) (σ : St) (Q : Bool->Hp->Prop) (b : Bool) (s' : Shared) : Prop:=∃ H', Inv X pins σ H' s'/\Q b H'
noncomputable def AP (X : Cx) (pins : List (Addr × Obj)) (σ : St) (Q : List V->Hp->Prop) (us : List Value) (s' : Shared) : Prop:=∃ vs H', Inv X pins σ H' s'/\Vals vs us/\Q vs H'
noncomputable def SP (X : Cx) (pins : List (Addr × Obj)) (D : Ends) (f : Flow) (s' : Shared) : Prop :=
 match f with
 | .next=>∃ σ' H', Inv X pins σ' H' s'/\D.nx σ' H'
 | .brk=>∃ σ' H', Inv X pins σ' H' s'/\D.bk σ' H'
 | .cont=>∃ σ' H', Inv X pins σ' H' s'/\D.ct σ' H'
 | .ret u=>∃ v σ' H', Inv X pins σ' H' s'/\RelV v u/\D.rt v H'
noncomputable def PE (X : Cx) (e : Expr) (t : TE) : Prop :=
 ∀ (pins : List (Addr × Obj)) (s : Shared) (σ : St) (H : Hp) (Q : VK), Inv X pins σ H s->t σ H Q->wpAny (model X.prog X.w) X.A (eval e X.env) (EP X pins σ Q) X.xe s
noncomputable def PT (X : Cx) (e : Expr) (t : TT) : Prop :=
 ∀ (pins : List (Addr × Obj)) (s : Shared) (σ : St) (H : Hp) (Q : Bool->Hp->Prop), Inv X pins σ H s->t σ H Q->wpAny (model X.prog X.w) X.A (isTrue e X.env (eval e X.env)) (TP X pins σ Q) X.xe s
noncomputable def PW (X : Cx) (e : Expr) (t : TT) : Prop :=
 ∀ (whole : Sem Value) (pins : List (Addr × Obj)) (s : Shared) (σ : St) (H : Hp) (Q : Bool->Hp->Prop), Inv X pins σ H s->t σ H Q->wpAny (model X.prog X.w) X.A (isTrue e X.env whole) (TP X pins σ Q) X.xe s
theorem PW.pt {X : Cx} {e : Expr} {t : TT} (h : PW X e t) : PT X e t:=h _
noncomputable def PA (X : Cx) (es : List Expr) (t : TA) : Prop :=
 ∀ (pos : Pos) (pins : List (Addr × Obj)) (s : Shared) (σ : St) (H : Hp) (Q : List V->Hp->Prop), Inv X pins σ H s->t σ H Q->wpAny (model X.prog X.w) X.A (spliced (backTo pos (starEach es X.env))) (AP X pins σ Q) X.xe s
noncomputable def PS (X : Cx) (st : Stmt) (t : TS) : Prop :=
 ∀ (pins : List (Addr × Obj)) (s : Shared) (σ : St) (H : Hp) (D : Ends), Inv X pins σ H s->t D σ H->wpAny (model X.prog X.w) X.A (exec st X.env) (SP X pins D) X.xe s
noncomputable def PSs (X : Cx) (st : List Stmt) (t : TS) : Prop :=
 ∀ (pins : List (Addr × Obj)) (s : Shared) (σ : St) (H : Hp) (D : Ends), Inv X pins σ H s->t D σ H->wpAny (model X.prog X.w) X.A (execs st X.env) (SP X pins D) X.xe s
theorem thn {α : Type} {t : Sem α} {Q Q' : α->Shared->Prop} {M : Model} {A : Around} {E : Value->Shared->Prop} {s : Shared} (h : wpAny M A t Q E s) (hQ : ∀ a s, Q a s->Q' a s) : wpAny M A t Q' E s:=wpAny_mono h hQ fun _ _ x=>x
section
variable {X : Cx}
theorem bin {a b : Expr} {ta tb : TE} (ha : PE X a ta) (hb : PE X b tb) {pins : List (Addr × Obj)} {s : Shared} {σ : St} {H : Hp} {R : V->V->Hp->Prop} (I : Inv X pins σ H s) (h : ta σ H fun x H1=>tb σ H1 fun y H2=>R x y H2)
  {α : Type} {Q : α->Shared->Prop} {f : Value->Value->Sem α}
  (hf : ∀ v u s2 x y H2, Inv X pins σ H2 s2->RelV x v->RelV y u->R x y H2->wpAny (model X.prog X.w) X.A (f v u) Q X.xe s2) :
  wpAny (model X.prog X.w) X.A (eval a X.env) (fun v s₁=>wpAny (model X.prog X.w) X.A (eval b X.env) (fun u s₂=>wpAny (model X.prog X.w) X.A (f v u) Q X.xe s₂) X.xe s₁) X.xe s:=by
 refine thn (ha pins s σ H _ I h) fun v s1 ⟨x, H1, I1, r1, q1⟩=>?_
 refine thn (hb pins s1 σ H1 _ I1 q1) fun u s2 ⟨y, H2, I2, r2, q2⟩=>?_
 exact hf v u s2 x y H2 I2 r1 r2 q2
noncomputable def tVar (i : Nat) : TE:=fun σ H Q=>∃ v, σ[i]? = some (some v)/\Q v H
noncomputable def tC (v : V) : TE:=fun _ H Q=>Q v H
theorem pe_var {i : Nat} {x : Str} {pos : Pos} (hN : X.N[i]? = some x) (hv : Vis X.env.scope x) (hd : (x == ("__debug__" : Str)) = false:=by decide) (hcd : (x == ("__classdict__" : Str)) = false:=by decide) : PE X (.Name x pos) (tVar i):=by
 intro pins s σ H Q I h
 obtain ⟨v, e, h⟩:=h
 obtain ⟨m, hn, hl⟩:=I.loc
 obtain ⟨u, r, l⟩:=hl i x v hN e hv
 have fin : EP X pins σ Q u s:=⟨v, H, I, r, h⟩
 rcases l with ⟨hk, hm⟩ | ⟨hk, c, hc, hcell⟩
 ·exact wpAny_Name (wpAny_loadName_local I.ok.kind hk hn hm fin) hd
 ·rcases hk with hk | hk
  ·exact wpAny_Name (wpAny_loadName_cell I.ok.kind hk hc hcell fin) hd
  ·exact wpAny_Name (wpAny_loadName_free I.ok.kind hk hc hcell fin hcd) hd
theorem pe_int {i j pos} : PE X (.Constant (.int i) j pos) (tC (.int i)):=fun _ _ _ H _ I h=>wpAny_Constant_int ⟨.int i, H, I.tok _, ⟨_, rfl⟩, h⟩
theorem pe_bl {b j pos} : PE X (.Constant (.bool b) j pos) (tC (.bl b)):=fun _ _ _ H _ I h=>Constant_bool ⟨.bl b, H, I, rfl, h⟩
theorem pe_non {j pos} : PE X (.Constant .none j pos) (tC .non):=fun _ _ _ H _ I h=>Constant_none ⟨.non, H, I, rfl, h⟩
noncomputable def Gl (X : Cx) (x : Str) : Prop:=X.env.kindOf x = some .globalImplicit
theorem ld_glob {E : Value->Shared->Prop} {pins : List (Addr × Obj)} {s : Shared} {σ : St} {H : Hp} {x : Str} {u : Value} {pos : Pos} {Q : Value->Shared->Prop} (I : Inv X pins σ H s) (hg : Gl X x) (hm : X.mg x = some u) (h : Q u s)
  (hd : (x == ("__debug__" : Str)) = false:=by decide) : wpAny (model X.prog X.w) X.A (eval (.Name x pos) X.env) Q E s :=
 Calls.Name_function_global I.ok.kind hg (Calls.loadGlobal_global (by rw [I.ok.glob]; exact I.mod.glob.keeps I.bk) hm h) hd
theorem ld_blt {E : Value->Shared->Prop} {pins : List (Addr × Obj)} {s : Shared} {σ : St} {H : Hp} {x : Str} {u : Value} {pos : Pos} {Q : Value->Shared->Prop} (I : Inv X pins σ H s) (hg : Gl X x) (hm : X.mg x = none) (hv : bootBuiltins x = some u) (h : Q u s)
  (hn : x≠"__name__":=by decide) (hd : (x == ("__debug__" : Str)) = false:=by decide) : wpAny (model X.prog X.w) X.A (eval (.Name x pos) X.env) Q E s:=by
 obtain ⟨mb, h1, h2⟩:=I.mod.blt
 exact Calls.Name_function_global I.ok.kind hg (Calls.loadGlobal_builtin (by rw [I.ok.glob]; exact I.mod.glob.keeps I.bk) hm (by rw [I.ok.blt]; exact h1.keeps I.bk) ((h2 x hn).trans hv) h) hd
theorem pe_glob {x : Str} {v : V} {u : Value} {pos : Pos} (hg : Gl X x) (hm : X.mg x = some u) (r : RelV v u) (hd : (x == ("__debug__" : Str)) = false:=by decide) : PE X (.Name x pos) (tC v) :=
 fun _ _ _ H _ I h=>ld_glob I hg hm ⟨v, H, I, r, h⟩ hd
theorem pe_bltn {x : Str} {v : V} {u : Value} {pos : Pos} (hg : Gl X x) (hm : X.mg x = none) (hv : bootBuiltins x = some u) (r : RelV v u) (hn : x≠"__name__":=by decide) (hd : (x == ("__debug__" : Str)) = false:=by decide) : PE X (.Name x pos) (tC v) :=
 fun _ _ _ H _ I h=>ld_blt I hg hm hv ⟨v, H, I, r, h⟩ hn hd
variable {a b : Expr} {ta tb : TE} {pos : Pos}
noncomputable def PC (X : Cx) (op : CmpOp) (a b : Expr) (t : TE) : Prop :=
 ∀ (pins : List (Addr × Obj)) (s : Shared) (σ : St) (H : Hp) (Q : VK), Inv X pins σ H s->t σ H Q ->
  wpAny (model X.prog X.w) X.A (eval a X.env) (fun v s₁=>wpAny (model X.prog X.w) X.A (eval b X.env) (fun u s₂=>wpAny (model X.prog X.w) X.A (compareOp op v u) (EP X pins σ Q) X.xe s₂) X.xe s₁) X.xe s
noncomputable def tB (t : TE) : TT:=fun σ H Q=>t σ H fun x H1=>∃ c, x = .bl c/\Q c H1
theorem pt_cmp {op : CmpOp} {t : TE} (h : PC X op a b t) (h1 : behindInMarks op b = false:=by first | exact nobehind _ (by decide) (by decide) | rfl) : PT X (.Compare a [op] [b] pos) (tB t):=by
 intro pins s σ H Q I hw
 refine wpAny_isTrue_Compare1 (thn (h pins s σ H _ I hw) fun v s1 h1=>thn h1 fun u s2 h2=>thn h2 fun c s3 ⟨x, H1, I1, r1, q1⟩=>?_) h1
 obtain ⟨d, rfl, q⟩:=q1
 cases r1
 exact wpAny_truthy_bool ⟨H1, I1, q⟩
theorem pt_val {e : Expr} {t : TE} (h : PE X e t) (he : ∀ whole, isTrue e X.env whole = (do let v ← whole; standAt e.pos; holding [v] (truthy v)):=by intro _; rfl) : PT X e (tB t):=by
 intro pins s σ H Q I hw
 refine isTrue_plain (thn (h pins s σ H _ I hw) fun v s1 ⟨x, H1, I1, r1, q1⟩=>?_) (he _)
 obtain ⟨d, rfl, q⟩:=q1
 cases r1
 exact wpAny_truthy_bool ⟨H1, I1, q⟩
variable {tA tB' : TT} {rest : List Expr}
noncomputable def tAnd (t u : TT) : TT:=fun σ H Q=>t σ H fun c H1=>if c = true then u σ H1 Q else Q false H1
noncomputable def tOr (t u : TT) : TT:=fun σ H Q=>t σ H fun c H1=>if c = true then Q true H1 else u σ H1 Q
noncomputable def tNot (t : TT) : TT:=fun σ H Q=>t σ H fun c H1=>Q (!c) H1
theorem pw_and1 (ha : PT X a tA) : PW X (.BoolOp .And [a] pos) tA:=by
 intro wh pins s σ H Q I h
 refine isTrue_and (thn (ha pins s σ H Q I h) fun c s1 e=>?_)
 cases c with
 | true=>exact isTrue_and_nil e
 | false=>exact e
theorem pw_or1 (ha : PT X a tA) : PW X (.BoolOp .Or [a] pos) tA:=by
 intro wh pins s σ H Q I h
 refine isTrue_or (thn (ha pins s σ H Q I h) fun c s1 e=>?_)
 cases c with
 | false=>exact isTrue_or_nil e
 | true=>exact e
theorem pw_and (ha : PT X a tA) (hb : PW X (.BoolOp .And (b :: rest) pos) tB') : PW X (.BoolOp .And (a :: b :: rest) pos) (tAnd tA tB'):=by
 intro wh pins s σ H Q I h
 refine isTrue_and (thn (ha pins s σ H _ I h) fun c s1 ⟨H1, I1, q1⟩=>?_)
 cases c with
 | true=>exact hb wh pins s1 σ H1 Q I1 q1
 | false=>exact ⟨H1, I1, q1⟩
theorem pw_or (ha : PT X a tA) (hb : PW X (.BoolOp .Or (b :: rest) pos) tB') : PW X (.BoolOp .Or (a :: b :: rest) pos) (tOr tA tB'):=by
 intro wh pins s σ H Q I h
 refine isTrue_or (thn (ha pins s σ H _ I h) fun c s1 ⟨H1, I1, q1⟩=>?_)
 cases c with
 | true=>exact ⟨H1, I1, q1⟩
 | false=>exact hb wh pins s1 σ H1 Q I1 q1
theorem pt_not (ha : PT X a tA) : PT X (.UnaryOp .Not a pos) (tNot tA):=by
 intro pins s σ H Q I h
 exact isTrue_not (ha pins s σ H (fun c H1=>Q (!c) H1) I h)
noncomputable def tAndV (ta tb : TE) : TE:=fun σ H Q=>ta σ H fun x H1=>∃ c, x = .bl c/\if c = true then tb σ H1 Q else Q (.bl false) H1
noncomputable def tNotV (ta : TE) : TE:=fun σ H Q=>ta σ H fun x H1=>∃ c, x = .bl c/\Q (.bl (!c)) H1
theorem pe_one {op} {t : TE} (h : PE X a t) : PE X (.BoolOp op [a] pos) t:=fun pins s σ H Q I hw=>BoolOp_one (h pins s σ H Q I hw)
theorem pe_and (ha : PE X a ta) (hb : PE X (.BoolOp .And (b :: rest) pos) tb) : PE X (.BoolOp .And (a :: b :: rest) pos) (tAndV ta tb):=by
 intro pins s σ H Q I h
 refine BoolOp_and (thn (ha pins s σ H _ I h) fun v s1 ⟨x, H1, I1, r1, q1⟩=>?_)
 obtain ⟨c, rfl, q1⟩:=q1
 cases r1
 refine wpAny_truthy_bool ?_
 cases c with
 | true=>exact hb pins s1 σ H1 Q I1 q1
 | false=>exact ⟨.bl false, H1, I1, rfl, q1⟩
theorem pe_not (ha : PE X a ta) : PE X (.UnaryOp .Not a pos) (tNotV ta):=by
 intro pins s σ H Q I h
 refine UnaryOp_ (thn (ha pins s σ H _ I h) fun v s1 ⟨x, H1, I1, r1, q1⟩=>?_)
 obtain ⟨c, rfl, q1⟩:=q1
 cases r1
 exact not_of (wpAny_truthy_bool ⟨.bl (!c), H1, I1, rfl, q1⟩)
noncomputable def tIf (t : TT) (ta tb : TE) : TE:=fun σ H Q=>t σ H fun c H1=>if c = true then ta σ H1 Q else tb σ H1 Q
theorem pe_ifExp {c : Expr} (hc : PT X c tA) (ha : PE X a ta) (hb : PE X b tb) : PE X (.IfExp c a b pos) (tIf tA ta tb):=by
 intro pins s σ H Q I h
 refine wpAny_IfExp (thn (hc pins s σ H _ I h) fun d s1 ⟨H1, I1, q1⟩=>?_)
 cases d with
 | true=>exact ha pins s1 σ H1 Q I1 q1
 | false=>exact hb pins s1 σ H1 Q I1 q1
end
noncomputable def SqL (K : PySem.W.Frag) (H : Hp) (a : Addr) (xs : List V) : Prop :=
 Rd H a (.lst xs) ∨
  ∃ (o : Obj) (its : Array Value) (n : Nat), K.lookup a = some o/\o.cls = .type "list"/\o.dict = none/\o.data = .seq its n/\its.size<=sizeLine/\Vals xs its.toList
noncomputable def SqT (K : PySem.W.Frag) (H : Hp) (a : Addr) (xs : List V) : Prop :=
 Rd H a (.tup xs) ∨
  ∃ (o : Obj) (its : Array Value) (n : Nat), K.lookup a = some o/\o.cls = .type "tuple"/\o.data = .seq its n/\its.size<=sizeLine/\Vals xs its.toList
noncomputable def absV : Value->Option V
 | .none=>some .non
 | .bool b=>some (.bl b)
 | .int i _=>some (.int i)
 | .str x _=>some (.str x)
 | .bytes b _=>some (.byt b)
 | .float b _=>some (.flt b)
 | .ref a=>some (.ref a)
 | .type n=>some (.ty n)
 | _=>none
theorem RelV.abs {x : V} {u : Value} (r : RelV x u) : absV u = some x:=by
 cases x with
 | non=>cases r; rfl
 | bl _=>cases r; rfl
 | int _=>obtain ⟨t, rfl⟩:=r; rfl
 | str _=>obtain ⟨t, rfl⟩:=r; rfl
 | byt _=>obtain ⟨t, rfl⟩:=r; rfl
 | flt _=>obtain ⟨t, rfl⟩:=r; rfl
 | ref _=>cases r; rfl
 | ty _=>cases r; rfl
theorem RelV.inj {x y : V} {u : Value} (r : RelV x u) (q : RelV y u) : x = y:=Option.some.inj (r.abs.symm.trans q.abs)
theorem Vals.inj : ∀ {xs ys : List V} {us : List Value}, Vals xs us->Vals ys us->xs = ys
 | _, _, _, .nil, .nil=>rfl
 | _, _, _, .cons r t, .cons r' t'=>by rw [r.inj r', Vals.inj t t']
section
variable {X : Cx} {pins : List (Addr × Obj)} {σ : St} {H : Hp} {s : Shared} {a : Addr} {xs ys : List V}
theorem SqL.of {K : PySem.W.Frag} (h : H a = some (.lst xs)) : SqL K H a xs:=.inl (.inl h)
theorem SqT.of {K : PySem.W.Frag} (h : H a = some (.tup xs)) : SqT K H a xs:=.inl (.inl h)
theorem Inv.list (I : Inv X pins σ H s) (h : SqL X.K H a xs) : ∃ its : List Value, Vals xs its/\PlainL s.heap a its.toArray/\xs.length<=sizeLine:=by
 rcases h with h | ⟨o, its, n, hk, hc, hd, hs, hz, r⟩
 ·obtain ⟨z, its, n, r, e⟩:=h.ok I.hok
  exact ⟨its, r, ⟨_, n, e, rfl, rfl, rfl⟩, z⟩
 ·refine ⟨its.toList, r, ⟨o, n, I.kIn a o hk, hc, hd, by simpa using hs⟩, ?_⟩
  have e:=r.length
  simp only [Array.length_toList] at e
  omega
theorem Inv.tuple (I : Inv X pins σ H s) (h : SqT X.K H a xs) : ∃ its : List Value, Vals xs its/\IsTup s.heap a its.toArray/\xs.length<=sizeLine:=by
 rcases h with h | ⟨o, its, n, hk, hc, hs, hz, r⟩
 ·obtain ⟨z, its, r, p⟩:=h.ok I.hok
  exact ⟨its, r, p, z⟩
 ·refine ⟨its.toList, r, ⟨o, I.kIn a o hk, hc, n, by simpa using hs⟩, ?_⟩
  have e:=r.length
  simp only [Array.length_toList] at e
  omega
theorem Inv.list_inj (I : Inv X pins σ H s) (h : SqL X.K H a xs) (h' : SqL X.K H a ys) : xs = ys:=by
 obtain ⟨its, r, ⟨o, n, e, _, _, d⟩, _⟩:=I.list h
 obtain ⟨its', r', ⟨o', n', e', _, _, d'⟩, _⟩:=I.list h'
 rw [e] at e'; cases e'
 rw [d] at d'
 injection d' with d1 _
 have : its = its':=by simpa using congrArg Array.toList d1
 subst this
 exact r.inj r'
theorem Inv.tuple_inj (I : Inv X pins σ H s) (h : SqT X.K H a xs) (h' : SqT X.K H a ys) : xs = ys:=by
 obtain ⟨its, r, ⟨o, e, _, n, d⟩, _⟩:=I.tuple h
 obtain ⟨its', r', ⟨o', e', _, n', d'⟩, _⟩:=I.tuple h'
 rw [e] at e'; cases e'
 rw [d] at d'
 injection d' with d1 _
 have : its = its':=by simpa using congrArg Array.toList d1
 subst this
 exact r.inj r'
end
noncomputable abbrev Cx.wish (X : Cx) (E : Value->Shared->Prop) : Cx:={ X with xe:=E }
noncomputable abbrev Cx.nox (X : Cx) : Cx:=X.wish fun _ _=>False
theorem Cx.Ok.wish {X : Cx} (ok : X.Ok) (E : Value->Shared->Prop) : (X.wish E).Ok :=
 ⟨ok.mod, ok.kind, ok.glob, ok.blt, ok.above, ok.inj, ok.has, ok.cab, ok.hd, ok.frames, ok.stk, ok.exf, ok.bs, ok.bsz, ok.noex, ok.exfs, ok.funs, ok.frf⟩
theorem Cx.Ok.unwish {X : Cx} {E : Value->Shared->Prop} (ok : (X.wish E).Ok) : X.Ok :=
 ⟨ok.mod, ok.kind, ok.glob, ok.blt, ok.above, ok.inj, ok.has, ok.cab, ok.hd, ok.frames, ok.stk, ok.exf, ok.bs, ok.bsz, ok.noex, ok.exfs, ok.funs, ok.frf⟩
section
variable {X : Cx} {pins : List (Addr × Obj)} {σ : St} {H : Hp} {s : Shared} {E : Value->Shared->Prop}
theorem Inv.wish (I : Inv X pins σ H s) (E : Value->Shared->Prop) : Inv (X.wish E) pins σ H s:=⟨I.ok.wish E, I.os, I.bare, I.base, I.loc, I.cell, I.free, I.freeC, I.pin, I.hok, I.len⟩
theorem Inv.unwish (I : Inv (X.wish E) pins σ H s) : Inv X pins σ H s:=⟨I.ok.unwish, I.os, I.bare, I.base, I.loc, I.cell, I.free, I.freeC, I.pin, I.hok, I.len⟩
theorem SP.unwish {D : Ends} {f : Flow} {s' : Shared} (h : SP (X.wish E) pins D f s') : SP X pins D f s':=by
 cases f with
 | next=>obtain ⟨σ', H', I, q⟩:=h; exact ⟨σ', H', I.unwish, q⟩
 | brk=>obtain ⟨σ', H', I, q⟩:=h; exact ⟨σ', H', I.unwish, q⟩
 | cont=>obtain ⟨σ', H', I, q⟩:=h; exact ⟨σ', H', I.unwish, q⟩
 | ret u=>obtain ⟨v, σ', H', I, r, q⟩:=h; exact ⟨v, σ', H', I.unwish, r, q⟩
theorem PSs.nox {st : List Stmt} {t : TS} (h : PSs X.nox st t) : PSs X st t:=fun pins s σ H D I hw =>
 wpAny_mono (h pins s σ H D (I.wish _) hw) (fun _ _ q=>q.unwish) fun _ _ z=>False.elim z
end
section
variable {X : Cx} {st : Stmt} {rest : List Stmt} {t u : TS} {e : Expr} {te : TE} {pos : Pos}
noncomputable def tNext : TS:=fun D σ H=>D.nx σ H
noncomputable def tSeq (t u : TS) : TS:=fun D σ H=>t { D with nx:=u D } σ H
theorem pss_nil : PSs X [] tNext:=fun _ _ σ H _ I h=>wpAny_execs_nil ⟨σ, H, I, h⟩
theorem pss_cons (h1 : PS X st t) (h2 : PSs X rest u) : PSs X (st :: rest) (tSeq t u):=by
 intro pins s σ H D I h
 refine wpAny_execs_cons (thn (h1 pins s σ H { D with nx:=u D } I h) fun f s1 q=>?_)
 cases f with
 | next =>
  obtain ⟨σ', H', I', q⟩:=q
  exact h2 pins s1 σ' H' D I' q
 | ret v=>exact q
 | brk=>exact q
 | cont=>exact q
theorem pss_one (h1 : PS X st t) : PSs X [st] t:=by
 intro pins s σ H D I h
 refine wpAny_execs_cons (thn (h1 pins s σ H D I h) fun f s1 q=>?_)
 cases f with
 | next=>exact wpAny_execs_nil q
 | ret v=>exact q
 | brk=>exact q
 | cont=>exact q
theorem Inv.quiet {pins : List (Addr × Obj)} {σ : St} {H : Hp} {s : Shared} (I : Inv X pins σ H s) : interactive X.env = false:=by simp [interactive, I.ok.kind]
noncomputable def tDrop (te : TE) : TS:=fun D σ H=>te σ H fun _ H1=>D.nx σ H1
theorem ps_expr (he : PE X e te) (hs : swapsWith e none pos.line X.env = pure false:=by rfl) : PS X (.Expr e pos) (tDrop te):=by
 intro pins s σ H D I h
 exact wpAny_Expr_any (thn (he pins s σ H _ I h) fun v s1 ⟨x, H1, I1, r1, q1⟩=>⟨σ, H1, I1, q1⟩) I.quiet hs
noncomputable def tRet (te : TE) : TS:=fun D σ H=>te σ H D.rt
theorem ps_ret (he : PE X e te) : PS X (.Return (some e) pos) (tRet te):=by
 intro pins s σ H D I h
 exact wpAny_Return_some (thn (he pins s σ H _ I h) fun v s1 ⟨x, H1, I1, r1, q1⟩=>⟨x, σ, H1, I1, r1, q1⟩)
noncomputable def tIfS (c : TT) (t u : TS) : TS:=fun D σ H=>c σ H fun b H1=>if b = true then t D σ H1 else u D σ H1
theorem ps_if {c : Expr} {a b : List Stmt} {tc : TT} (hc : PT X c tc) (ha : PSs X a t) (hb : PSs X b u) : PS X (.If c a b pos) (tIfS tc t u):=by
 intro pins s σ H D I h
 refine wpAny_If (thn (hc pins s σ H _ I h) fun d s1 ⟨H1, I1, q1⟩=>?_)
 cases d with
 | true=>exact ha pins s1 σ H1 D I1 q1
 | false=>exact hb pins s1 σ H1 D I1 q1
noncomputable def tNever : TS:=fun _ _ _=>False
theorem ps_never : PS X st tNever:=fun _ _ _ _ _ _ h=>h.elim
end
noncomputable abbrev TG:=V->St->Hp->(St->Hp->Prop)->Prop
noncomputable abbrev TGs:=List V->St->Hp->(St->Hp->Prop)->Prop
noncomputable def PG (X : Cx) (target : Expr) (t : TG) : Prop :=
 ∀ (pins : List (Addr × Obj)) (s : Shared) (σ : St) (H : Hp) (v : V) (u : Value) (Q : St->Hp->Prop), Inv X pins σ H s->RelV v u->t v σ H Q ->
  wpAny (model X.prog X.w) X.A (assign target X.env u) (fun _ s'=>∃ σ' H', Inv X pins σ' H' s'/\Q σ' H') X.xe s
noncomputable def PGs (X : Cx) (ts : List Expr) (t : TGs) : Prop :=
 ∀ (pins : List (Addr × Obj)) (s : Shared) (σ : St) (H : Hp) (vs : List V) (us : List Value) (Q : St->Hp->Prop), Inv X pins σ H s->Vals vs us->t vs σ H Q ->
  wpAny (model X.prog X.w) X.A (assignInOrder ((assignEach ts X.env).map (·.2)) us) (fun _ s'=>∃ σ' H', Inv X pins σ' H' s'/\Q σ' H') X.xe s
noncomputable abbrev TSet:=V->V->V->Hp->(Hp->Prop)->Prop
noncomputable def PSet (X : Cx) (t : TSet) : Prop :=
 ∀ (pins : List (Addr × Obj)) (s : Shared) (σ : St) (H : Hp) (o i v : V) (ov iv u : Value) (Q : Hp->Prop), Inv X pins σ H s->RelV o ov->RelV i iv->RelV v u->t o i v H Q ->
  wpAny (model X.prog X.w) X.A (setItem ov iv u) (fun _ s'=>∃ H', Inv X pins σ H' s'/\Q H') X.xe s
section
variable {X : Cx} {pos : Pos}
noncomputable def gName (i : Nat) : TG:=fun v σ H Q=>Q (σ.set i (some v)) H
theorem pg_name {i : Nat} {x : Str} (hN : X.N.Nodup) (hi : X.N[i]? = some x) (hx : Loc X.env.scope x) (hf : X.fn x = true\/X.env.scope.names.lookup x = some .local:=by first | exact .inl rfl | exact .inr rfl | assumption) : PG X (.Name x pos) (gName i):=by
 intro pins s σ H v u Q I r h
 exact wpAny_assign_Name (store_ok I hN hi hx r (fun s' I'=>⟨_, H, I', h⟩) hf)
noncomputable def gNil : TGs:=fun vs σ H Q=>vs = []/\Q σ H
noncomputable def gCons (t : TG) (u : TGs) : TGs:=fun vs σ H Q=>∃ v r, vs = v :: r/\t v σ H fun σ' H'=>u r σ' H' Q
theorem pgs_nil : PGs X [] gNil:=by
 intro pins s σ H vs us Q I r h
 obtain ⟨e, h⟩:=h
 subst e
 cases r
 exact assignInOrder_nil ⟨σ, H, I, h⟩
theorem pgs_cons {e : Expr} {es : List Expr} {t : TG} {u : TGs} (h1 : PG X e t) (h2 : PGs X es u)
  (hs : (assignEach (e :: es) X.env).map (·.2) = assign e X.env :: (assignEach es X.env).map (·.2):=by rfl) : PGs X (e :: es) (gCons t u):=by
 intro pins s σ H vs us Q I r h
 obtain ⟨v, vr, e1, h⟩:=h
 subst e1
 cases r with
 | cons r rr =>
  rw [hs]
  refine assignInOrder_cons (thn (h1 pins s σ H _ _ _ I r h) fun _ s1 ⟨σ1, H1, I1, q1⟩=>?_)
  exact h2 pins s1 σ1 H1 _ _ Q I1 rr q1
noncomputable def gTup (K : PySem.W.Frag) (n : Nat) (t : TGs) : TG:=fun v σ H Q=>∃ a xs, v = .ref a/\SqT K H a xs/\xs.length = n/\t xs σ H Q
theorem pg_tup {es : List Expr} {k : Nat} {t : TGs} {n : Nat} (hc : X.calm = true) (h : PGs X es t)
  (hn : (assignEach es X.env).length = n:=by rfl) (hst : (assignEach es X.env).findIdx? (·.1) = none:=by rfl) : PG X (.Tuple es k pos) (gTup X.K n t):=by
 intro pins s σ H v u Q I r hw
 obtain ⟨a, xs, e1, hq, hl, hw⟩:=hw
 subst e1
 cases r
 obtain ⟨its, rv, ht, hz⟩:=I.tuple hq
 refine assign_Tuple_tuple (I.ok.hd hc) ht (by simp [hn, ← hl, rv.length]) hst fun h' hx=>?_
 have I1 : Inv X pins σ H { s with heap:=h' }:=I.kept (t':=s.toks) fun b o e=>hx b o (Nat.ne_of_lt (Heap.lt_size e)) e
 exact h pins _ σ H xs _ Q I1 (by simpa using rv) hw
noncomputable def gSub (to ti : TE) (t : TSet) : TG:=fun v σ H Q=>to σ H fun o H1=>ti σ H1 fun i H2=>t o i v H2 fun H3=>Q σ H3
theorem pg_sub {o i : Expr} {to ti : TE} {t : TSet} (ho : PE X o to) (hi : PE X i ti) (hs : PSet X t)
  (ha : ∀ v, assign (.Subscript o i pos) X.env v = (do
   let ov ← holding [v] (eval o X.env)
   let iv ← holding [v, ov] (eval i X.env)
   standAt pos
   holding [v, ov, iv] (setItem ov iv v)
   release [v, ov, iv] []):=by intro _; rfl) : PG X (.Subscript o i pos) (gSub to ti t):=by
 intro pins s σ H v u Q I r h
 rw [ha]
 refine wpAny_bind (wpAny_holding (thn (ho pins s σ H _ I h) fun ov s1 ⟨x, H1, I1, r1, q1⟩=>?_))
 refine wpAny_bind (wpAny_holding (thn (hi pins s1 σ H1 _ I1 q1) fun iv s2 ⟨y, H2, I2, r2, q2⟩=>?_))
 refine wpAny_bind (wpAny_standAt (wpAny_bind (wpAny_holding (thn (hs pins s2 σ H2 x y v ov iv u _ I2 r1 r2 r q2) fun _ s3 ⟨H3, I3, q3⟩=>?_))))
 exact wpAny_release ⟨σ, H3, I3, q3⟩
noncomputable def tAsg (te : TE) (g : TG) : TS:=fun D σ H=>te σ H fun x H1=>g x σ H1 D.nx
theorem ps_asg {tg e : Expr} {te : TE} {g : TG} (he : PE X e te) (hg : PG X tg g) (hs : swapsWithSole [tg] e pos.line X.env = pure false:=by rfl) (hw : swappedStores [tg] e X.env = pure none:=by rfl)
  (h1 : (assignEach [tg] X.env).map (·.2) = [assign tg X.env]:=by rfl) : PS X (.Assign [tg] e pos) (tAsg te g):=by
 intro pins s σ H D I h
 refine wpAny_Assign_stores (thn (he pins s σ H _ I h) fun v s1 ⟨x, H1, I1, r1, q1⟩=>?_) hs hw
 rw [h1]
 exact thn (hg pins s1 σ H1 x v _ I1 r1 q1) fun _ s2 q=>q
theorem ps_set {i : Nat} {x : Str} {e : Expr} {te : TE} {pos' : Pos} (hN : X.N.Nodup) (hi : X.N[i]? = some x) (hx : Loc X.env.scope x) (he : PE X e te) (hs : swapsWith e (some (.Name x pos')) pos.line X.env = pure false:=by rfl) (hf : X.fn x = true\/X.env.scope.names.lookup x = some .local:=by first | exact .inl rfl | exact .inr rfl | assumption) :
  PS X (.Assign [.Name x pos'] e pos) (tAsg te (gName i)):=by
 intro pins s σ H D I h
 refine wpAny_Assign_Name (thn (he pins s σ H _ I h) fun v s1 ⟨y, H1, I1, r1, q1⟩=>?_) hs
 exact store_ok I1 hN hi hx r1 (fun s2 I2=>⟨_, H1, I2, q1⟩) hf
end
section
variable {X : Cx} {pos : Pos}
noncomputable def tWhile (c : TT) (tb : TS) : TS:=fun D σ H=>∃ W : Nat->St->Hp->Prop, (∃ m, W m σ H)/\∀ m σ H, W m σ H ->
 c σ H fun b H1=>if b = true then ∃ N : St->Hp->Prop, (∀ σ' H', N σ' H'->∃ m', m' < m/\W m' σ' H')/\tb { D with nx:=N, ct:=N, bk:=D.nx } σ H1 else D.nx σ H1
theorem ps_while {c : Expr} {body : List Stmt} {tc : TT} {tb : TS} (hp : PassesOwn (model X.prog X.w) X.A X.env X.xe) (hc : PT X c tc) (hb : PSs X body tb) : PS X (.While c body [] pos) (tWhile tc tb):=by
 intro pins s σ H D I h
 obtain ⟨W, ⟨m0, w0⟩, turn⟩:=h
 refine wpAny_While (codeAny_whileLoop (fun n s'=>∃ σ' H', Inv X pins σ' H' s'/\W n σ' H') ?_ m0 ⟨σ, H, I, w0⟩)
 rintro n s1 ⟨σ1, H1, I1, w1⟩
 refine wpAny_passesOwn hp (thn (hc pins s1 σ1 H1 _ I1 (turn n σ1 H1 w1)) fun b s2 ⟨H2, I2, q2⟩=>?_)
 cases b with
 | true =>
  obtain ⟨N, hN, q2⟩:=q2
  rw [if_pos rfl]
  refine wpAny_passesOwn hp (thn (hb pins s2 σ1 H2 _ I2 q2) fun f s3 q3=>?_)
  cases f with
  | next =>
   obtain ⟨σ3, H3, I3, n3⟩:=q3
   obtain ⟨m', hm, w3⟩:=hN σ3 H3 n3
   exact ⟨m', hm, σ3, H3, I3, w3⟩
  | cont =>
   obtain ⟨σ3, H3, I3, n3⟩:=q3
   obtain ⟨m', hm, w3⟩:=hN σ3 H3 n3
   exact ⟨m', hm, σ3, H3, I3, w3⟩
  | brk=>exact q3
  | ret v=>exact q3
 | false =>
  rw [if_neg Bool.false_ne_true]
  exact wpAny_execs_nil ⟨σ1, H2, I2, q2⟩
end
structure It where
 go : Nat->Hp->Prop
 yld : Nat->Hp->V->Hp->Prop
 stop : Nat->Hp->Prop
noncomputable def FpOk (X : Cx) (pins : List (Addr × Obj)) (H : Hp) (b : Addr) : Prop :=
 H b = none/\b≠X.env.locals/\b∉X.fs/\(b∈X.ex\/X.s₀.heap.objs.size<=b)/\(∀ x c, X.env.cells.lookup x = some c->c≠b)/\∀ p∈X.pn ++ pins, p.1≠b
theorem Inv.fpOk {X : Cx} {pins : List (Addr × Obj)} {σ : St} {H H' : Hp} {s : Shared} {b : Addr} (I : Inv X pins σ H s) (hb : s.heap.objs.size<=b) (hn : H' b = none) : FpOk X pins H' b:=by
 refine ⟨hn, Nat.ne_of_gt (Nat.lt_of_lt_of_le I.lt hb), I.nofs hb, .inr (Nat.le_trans I.sz hb), fun x c e z=>?_, fun p hp z=>?_⟩
 ·obtain ⟨v, q⟩:=I.cell x c e
  exact absurd (Nat.lt_of_lt_of_le q.lt (by rw [z]; exact hb)) (Nat.lt_irrefl _)
 ·exact absurd (Nat.lt_of_lt_of_le (Heap.lt_size (I.pin p hp).1) (by rw [z]; exact hb)) (Nat.lt_irrefl _)
structure Turn (P : Program) (w : World) (K : PySem.W.Frag) (tg : Expr) (J : It) (fp : List Addr) (it : Addr) (tn : Nat->Heap->Prop) : Prop where
 mem : it∈fp
 obj : ∀ i h, tn i h->∀ b∈fp, ∃ o, h.get? b = some o/\∀ v, o.data≠.cell v
 keep : ∀ i h h', tn i h->(∀ b∈fp, ∀ o, h.get? b = some o->h'.get? b = some o)->tn i h'
 item : ∀ (X : Cx), X.prog = P->X.w = w->X.K = K->X.calm = true->∀ (i : Nat) (pins : List (Addr × Obj)) (s : Shared) (σ : St) (H : Hp) (E : Value->Shared->Prop), Inv X pins σ H s->(∀ b∈fp, FpOk X pins H b)->tn i s.heap->J.go i H ->
  wpAny (model P w) X.A (pyNext (.ref it)) (fun r s1=>∃ u, r = some u /\
   wpAny (model P w) X.A (letOwnedTupleGo tg (.ref it) u) (fun _ s2=>∃ x H', Inv X pins σ H' s2/\RelV x u/\J.yld i H x H'/\tn (i + 1) s2.heap/\∀ b∈fp, H' b = none) E s1) E s
 done : ∀ (X : Cx), X.prog = P->X.w = w->X.K = K->X.calm = true->∀ (i : Nat) (pins : List (Addr × Obj)) (s : Shared) (σ : St) (H : Hp) (E : Value->Shared->Prop), Inv X pins σ H s->(∀ b∈fp, FpOk X pins H b)->tn i s.heap->J.stop i H ->
  wpAny (model P w) X.A (pyNext (.ref it)) (fun r s1=>r = none/\Inv X pins σ H s1) E s
 self : ∀ (A : Around) (i : Nat) (s : Shared) (Q : Value->Shared->Prop) (E : Value->Shared->Prop), tn i s.heap->Q (.ref it) s->wpAny (model P w) A (pyIter (.ref it)) Q E s
noncomputable abbrev TI:=St->Hp->(It->Hp->Prop)->Prop
noncomputable def PIE (X : Cx) (pins : List (Addr × Obj)) (σ : St) (tg : Expr) (R : It->Hp->Prop) (itv : Value) (s2 : Shared) : Prop :=
 ∃ (it : Addr) (fp : List Addr) (tn : Nat->Heap->Prop) (J : It) (H' : Hp), itv = .ref it/\Inv X pins σ H' s2/\Turn X.prog X.w X.K tg J fp it tn/\tn 0 s2.heap/\(∀ b∈fp, FpOk X pins H' b)/\R J H'
noncomputable def PI (X : Cx) (tg iter : Expr) (wi : TI) : Prop :=
 ∀ (pins : List (Addr × Obj)) (s : Shared) (σ : St) (H : Hp) (R : It->Hp->Prop), Inv X pins σ H s->wi σ H R ->
  wpAny (model X.prog X.w) X.A (eval iter X.env) (fun v s1=>wpAny (model X.prog X.w) X.A (pyIter v) (PIE X pins σ tg R) X.xe s1) X.xe s
theorem go_of {M : Model} {A : Around} {E : Value->Shared->Prop} {s : Shared} {tg : Expr} {it : Addr} {u : Value} {o : Obj} {n : String} {vs : Array Value} {Q : Unit->Shared->Prop} (ho : s.heap.get? it = some o) (hc : o.cls = .type n) (hd : o.data = .fields vs)
  (hn : ["enumerate", "zip", "dict_itemiterator", "dict_reverseitemiterator", "odict_iterator", "itertools.zip_longest", "itertools.pairwise"].contains n = false) (hQ : Q () s) : wpAny M A (letOwnedTupleGo tg (.ref it) u) Q E s:=by
 unfold letOwnedTupleGo
 cases tg <;> first
  | exact wpAny_pure hQ
  | (cases u <;> first
    | exact wpAny_pure hQ
    | (refine wpAny_bind (wpAny_load ho ?_)
       rw [hc, hd]
       show wpAny M A (if (["enumerate", "zip", "dict_itemiterator", "dict_reverseitemiterator", "odict_iterator", "itertools.zip_longest", "itertools.pairwise"].contains n && vs[0]? == some (rawInt _)) = true then _ else _) Q E s
       rw [if_neg (by intro h; rw [hn, Bool.false_and] at h; cases h)]
       exact wpAny_pure hQ))
noncomputable def Itl (K : PySem.W.Frag) (a : Addr) : It :=
 ⟨fun i H=>∃ xs x, SqL K H a xs/\xs[i]? = some x, fun i H x H'=>H' = H/\∀ xs, SqL K H a xs->xs[i]? = some x, fun i H=>∃ xs, SqL K H a xs/\xs.length<=i⟩
noncomputable def Itt (K : PySem.W.Frag) (a : Addr) : It :=
 ⟨fun i H=>∃ xs x, SqT K H a xs/\xs[i]? = some x, fun i H x H'=>H' = H/\∀ xs, SqT K H a xs->xs[i]? = some x, fun i H=>∃ xs, SqT K H a xs/\xs.length<=i⟩
noncomputable def Itr (lo : Int) (n : Nat) : It:=⟨fun i _=>i < n, fun i H x H'=>H' = H/\x = .int (lo + i), fun i _=>n<=i⟩
theorem turn_list {P : Program} {w : World} {K : PySem.W.Frag} {tg : Expr} (a it : Addr) : Turn P w K tg (Itl K a) [it] it (fun i h=>h.IsListIter it a i) where
 mem:=by simp
 obj:=fun i h st b hb=>by
  have e : b = it:=by simpa using hb
  subst e
  obtain ⟨o, e, c, d⟩:=st
  exact ⟨o, e, fun v z=>by rw [d] at z; cases z⟩
 keep:=fun i h h' st k=>st.at fun o e=>k it (by simp) o e
 item:=by
  intro X hP hw hK hc i pins s σ H E I hf st hg
  subst hP hw hK
  obtain ⟨xs, x, hq, hx⟩:=hg
  obtain ⟨its, rv, p, hz⟩:=I.list hq
  obtain ⟨u, hu, ru⟩:=rv.get hx
  obtain ⟨f0, f1, f2, f3, f4, f5⟩:=hf it (by simp)
  refine wpAny_pyNext_list_item st p.isList (x:=u) (by simpa using hu) fun h' st' sb=>?_
  have I1 : Inv X pins σ H { s with heap:=h' }:=I.turned (t':=s.toks) (fun b o hb e=>(sb.2 b hb).trans e) f0 f1 f3 f4 f5
  obtain ⟨o, e, c, d⟩:=id st'
  exact ⟨u, rfl, go_of (s:={ s with heap:=h' }) e c d (by decide) ⟨x, H, I1, ru, ⟨rfl, fun ys hy=>by rw [I.list_inj hy hq]; exact hx⟩, st', fun b hb=>(hf b hb).1⟩⟩
 done:=by
  intro X hP hw hK hc i pins s σ H E I hf st hg
  subst hP hw hK
  obtain ⟨xs, hq, hx⟩:=hg
  obtain ⟨its, rv, p, hz⟩:=I.list hq
  obtain ⟨f0, f1, f2, f3, f4, f5⟩:=hf it (by simp)
  have hl:=rv.length
  exact wpAny_pyNext_list_end (I.ok.hd hc) st p.isList (by simp; omega) fun h' eb=>⟨rfl, I.turned (t':=s.toks) (fun b o hb e=>eb b o hb e) f0 f1 f3 f4 f5⟩
 self:=fun _ _ _ _ _ st h=>wpAny_pyIter_listiter st h
theorem turn_tuple {P : Program} {w : World} {K : PySem.W.Frag} {tg : Expr} (a it : Addr) : Turn P w K tg (Itt K a) [it] it (fun i h=>h.IsTupleIter it a i) where
 mem:=by simp
 obj:=fun i h st b hb=>by
  have e : b = it:=by simpa using hb
  subst e
  obtain ⟨o, e, c, d⟩:=st
  exact ⟨o, e, fun v z=>by rw [d] at z; cases z⟩
 keep:=fun i h h' st k=>st.at fun o e=>k it (by simp) o e
 item:=by
  intro X hP hw hK hc i pins s σ H E I hf st hg
  subst hP hw hK
  obtain ⟨xs, x, hq, hx⟩:=hg
  obtain ⟨its, rv, p, hz⟩:=I.tuple hq
  obtain ⟨u, hu, ru⟩:=rv.get hx
  obtain ⟨f0, f1, f2, f3, f4, f5⟩:=hf it (by simp)
  refine wpAny_pyNext_tuple_item st (show s.heap.IsTuple a its.toArray from p) (x:=u) (by simpa using hu) fun h' st' sb=>?_
  have I1 : Inv X pins σ H { s with heap:=h' }:=I.turned (t':=s.toks) (fun b o hb e=>(sb.2 b hb).trans e) f0 f1 f3 f4 f5
  obtain ⟨o, e, c, d⟩:=id st'
  exact ⟨u, rfl, go_of (s:={ s with heap:=h' }) e c d (by decide) ⟨x, H, I1, ru, ⟨rfl, fun ys hy=>by rw [I.tuple_inj hy hq]; exact hx⟩, st', fun b hb=>(hf b hb).1⟩⟩
 done:=by
  intro X hP hw hK hc i pins s σ H E I hf st hg
  subst hP hw hK
  obtain ⟨xs, hq, hx⟩:=hg
  obtain ⟨its, rv, p, hz⟩:=I.tuple hq
  obtain ⟨f0, f1, f2, f3, f4, f5⟩:=hf it (by simp)
  have hl:=rv.length
  exact wpAny_pyNext_tuple_end (I.ok.hd hc) st (show s.heap.IsTuple a its.toArray from p) (by simp; omega) fun h' eb=>⟨rfl, I.turned (t':=s.toks) (fun b o hb e=>eb b o hb e) f0 f1 f3 f4 f5⟩
 self:=fun _ _ _ _ _ st h=>wpAny_pyIter_tupleiter st h
theorem turn_range {P : Program} {w : World} {K : PySem.W.Frag} {tg : Expr} (it : Addr) (lo : Int) (n : Nat) : Turn P w K tg (Itr lo n) [it] it (fun i h=>IsRangeIter h it (lo + (i : Nat) * 1) ((n : Int) - (i : Nat)) 1) where
 mem:=by simp
 obj:=fun i h st b hb=>by
  have e : b = it:=by simpa using hb
  subst e
  exact ⟨_, st, fun v z=>by
   have z' : Data.fields _ = Data.cell v:=z
   cases z'⟩
 keep:=fun i h h' st k=>k it (by simp) _ st
 item:=by
  intro X hP hw hK hc i pins s σ H E I hf st hg
  subst hP hw hK
  obtain ⟨f0, f1, f2, f3, f4, f5⟩:=hf it (by simp)
  have W:=Walks.range (prog:=X.prog) (w:=X.w) (I.ok.hd hc) it lo 1 n
  refine W.item i s _ _ hg st fun v h' tk hv st' kk=>?_
  obtain ⟨t, rfl⟩:=hv
  have I1 : Inv X pins σ H { s with heap:=h', toks:=tk }:=I.turned (fun b o hb e=>kk b o (by simpa using hb) e) f0 f1 f3 f4 f5
  refine ⟨_, rfl, go_of (s:={ s with heap:=h', toks:=tk }) (n:="range_iterator") st' rfl rfl (by decide) ⟨.int (lo + i), H, I1, ⟨t, ?_⟩, ⟨rfl, rfl⟩, st', fun b hb=>(hf b hb).1⟩⟩
  rw [Int.mul_one]
 done:=by
  intro X hP hw hK hc i pins s σ H E I hf st hg
  subst hP hw hK
  obtain ⟨f0, f1, f2, f3, f4, f5⟩:=hf it (by simp)
  exact wpAny_pyNext_range_end (I.ok.hd hc) st (by have : n<=i:=hg; omega) fun h' eb=>⟨rfl, I.turned (t':=s.toks) (fun b o hb e=>eb b o hb e) f0 f1 f3 f4 f5⟩
 self:=fun _ _ _ _ _ st h=>wpAny_pyIter_rangeiter st h
section
variable {X : Cx} {tg : Expr}
theorem range_it {pins : List (Addr × Obj)} {σ : St} {H : Hp} {s : Shared} {R : It->Hp->Prop} {E : Value->Shared->Prop} {lo hi : Int} {t u v : Tok} {tk : Nat} (I : Inv X pins σ H s) (h1 : -(2 ^ 62)<=lo) (h2 : lo < 2 ^ 62) (h3 : -(2 ^ 62)<=hi) (h4 : hi < 2 ^ 62)
  (q : R (Itr lo (hi - lo).toNat) H) : wpAny (model X.prog X.w) X.A (pyIter (.ref s.heap.objs.size)) (PIE X pins σ tg R) E { s with heap:=s.heap.push { cls:=.type "range", data:=.fields #[.int lo t, .int hi u, .int 1 v] }, toks:=tk }:=by
 refine wpAny_pyIter_range (IsRange.new ..) (small_one h1 h2 h3 h4) ?_
 have I1 : Inv X pins σ H { s with heap:=s.heap.push { cls:=.type "range", data:=.fields #[.int lo t, .int hi u, .int 1 v] }, toks:=tk }:=I.kept fun b o e=>Heap.get?_push_of_some _ e
 refine ⟨(s.heap.push { cls:=.type "range", data:=.fields #[.int lo t, .int hi u, .int 1 v] }).objs.size, [(s.heap.push { cls:=.type "range", data:=.fields #[.int lo t, .int hi u, .int 1 v] }).objs.size], _, _, H, rfl,
  I1.kept (t':=tk) fun b o e=>Heap.get?_push_of_some _ e, turn_range _ lo (hi - lo).toNat, ?_, fun b hb=>?_, q⟩
 ·have e1 : lo + ((0 : Nat) : Int) * 1 = lo:=by simp
  have e2 : (((hi - lo).toNat : Nat) : Int) - ((0 : Nat) : Int) = Builtin.Range.rangeSize lo hi 1:=by rw [rangeSize_one]; split <;> omega
  show IsRangeIter _ _ (lo + ((0 : Nat) : Int) * 1) ((((hi - lo).toNat : Nat) : Int) - ((0 : Nat) : Int)) 1
  rw [e1, e2]
  exact Heap.get?_push_size _ rfl
 ·have e : b = (s.heap.push { cls:=.type "range", data:=.fields #[.int lo t, .int hi u, .int 1 v] }).objs.size:=by simpa using hb
  subst e
  exact I1.fpOk (Nat.le_refl _) (I1.hok.fresh (Nat.le_refl _))
noncomputable def iRng1 (ta : TA) : TI:=fun σ H R=>ta σ H fun vs H1=>∃ j : Int, vs = [.int j]/\-(2 ^ 62)<=j/\j < 2 ^ 62/\R (Itr 0 j.toNat) H1
noncomputable def iRng2 (ta : TA) : TI:=fun σ H R=>ta σ H fun vs H1=>∃ i j : Int, vs = [.int i, .int j]/\(-(2 ^ 62)<=i/\i < 2 ^ 62/\-(2 ^ 62)<=j/\j < 2 ^ 62)/\R (Itr i (j - i).toNat) H1
theorem pi_range1 {a : Expr} {ta : TA} {p pos : Pos} (hg : Gl X "range") (hm : X.mg "range" = none) (ha : PA X [a] ta) (hs : starEach [a] X.env = [(false, eval a X.env)]:=by rfl) : PI X tg (.Call (.Name "range" p) [a] [] pos) (iRng1 ta):=by
 intro pins s σ H R I h
 refine Call_ (ld_blt I hg hm boot_range (PyProof.Rows.callWith_type1 (thn (ha pos pins s σ H _ I h) fun us s1 ⟨vs, H1, I1, r1, q1⟩=>?_) hs rfl))
 obtain ⟨j, e, q1, q2, q⟩:=q1
 subst e
 cases r1 with
 | cons r rr =>
  cases rr
  obtain ⟨t, rfl⟩:=r
  exact call_range_1 (range_it I1 (by omega) (by omega) q1 q2 (by simpa using q))
theorem pi_range2 {a b : Expr} {ta : TA} {p pos : Pos} (hg : Gl X "range") (hm : X.mg "range" = none) (ha : PA X [a, b] ta) (hs : starEach [a, b] X.env = [(false, eval a X.env), (false, eval b X.env)]:=by rfl) (hs2 : starEach [b] X.env = [(false, eval b X.env)]:=by rfl) :
  PI X tg (.Call (.Name "range" p) [a, b] [] pos) (iRng2 ta):=by
 intro pins s σ H R I h
 refine Call_ (ld_blt I hg hm boot_range (PyProof.Rows.callWith_type1 (thn (ha pos pins s σ H _ I h) fun us s1 ⟨vs, H1, I1, r1, q1⟩=>?_) (by rw [hs, hs2]) (by rw [hs2]; rfl)))
 obtain ⟨i, j, e, ⟨q1, q2, q3, q4⟩, q⟩:=q1
 subst e
 cases r1 with
 | cons r rr =>
  cases rr with
  | cons r' rr =>
   cases rr
   obtain ⟨t, rfl⟩:=r
   obtain ⟨t', rfl⟩:=r'
   exact call_range_2 (range_it I1 q1 q2 q3 q4 q)
noncomputable def tFor (wi : TI) (g : TG) (tb : TS) : TS:=fun D σ H=>wi σ H fun J H1=>∃ W : Nat->Nat->St->Hp->Prop, (∃ m, W 0 m σ H1)/\∀ i m σ H, W i m σ H ->
 (J.stop i H/\D.nx σ H)\/(J.go i H/\∃ N : St->Hp->Prop, (∀ σ' H', N σ' H'->∃ m', m' < m/\W (i + 1) m' σ' H')/\∀ x H', J.yld i H x H'->g x σ H' fun σ2 H2=>tb { D with nx:=N, ct:=N, bk:=D.nx } σ2 H2)
noncomputable def pinsAt (fp : List Addr) (h : Heap) : List (Addr × Obj):=fp.filterMap fun b=>(h.get? b).map fun o=>(b, o)
theorem mem_pinsAt {fp : List Addr} {h : Heap} {b : Addr} {o : Obj} (hb : b∈fp) (e : h.get? b = some o) : (b, o)∈pinsAt fp h:=List.mem_filterMap.mpr ⟨b, hb, by rw [e]; rfl⟩
theorem of_pinsAt {fp : List Addr} {h : Heap} {p : Addr × Obj} (hp : p∈pinsAt fp h) : p.1∈fp/\h.get? p.1 = some p.2:=by
 obtain ⟨b, hb, e⟩:=List.mem_filterMap.mp hp
 cases q : h.get? b with
 | none=>rw [q] at e; cases e
 | some o =>
  rw [q] at e
  have e' : (b, o) = p:=Option.some.inj e
  subst e'
  exact ⟨hb, q⟩
theorem Inv.pinned {pins : List (Addr × Obj)} {σ : St} {H : Hp} {s : Shared} {fp : List Addr} (I : Inv X pins σ H s) (hf : ∀ b∈fp, FpOk X pins H b) (ho : ∀ b∈fp, ∃ o, s.heap.get? b = some o/\∀ v, o.data≠.cell v) : Inv X (pins ++ pinsAt fp s.heap) σ H s :=
 I.pins_of fun p hp=>(List.mem_append.mp hp).elim (fun z=>I.pin p (List.mem_append_right _ z)) fun z=>by
  obtain ⟨hb, e⟩:=of_pinsAt z
  obtain ⟨f0, f1, f2, _⟩:=hf p.1 hb
  obtain ⟨o, e', d⟩:=ho p.1 hb
  rw [e] at e'; cases e'
  exact ⟨e, f0, f1, f2, d⟩
theorem Inv.unpinned {pins pl : List (Addr × Obj)} {σ : St} {H : Hp} {s : Shared} (I : Inv X (pins ++ pl) σ H s) : Inv X pins σ H s:=I.pins_of fun p hp=>I.pin p (List.mem_append_right _ (List.mem_append_left _ hp))
theorem ps_for {iter : Expr} {body : List Stmt} {wi : TI} {g : TG} {tb : TS} {pos : Pos} (hp : PassesOwn (model X.prog X.w) X.A X.env X.xe) (hc : X.calm = true) (hi : PI X tg iter wi) (hg : PG X tg g) (hb : PSs X body tb)
  (hs : ∀ x, foldedSetIterable iter X.env x = pure x:=by intro _; rfl) : PS X (.For tg iter body [] pos) (tFor wi g tb):=by
 intro pins s σ H D I h
 refine wpAny_For (thn (hi pins s σ H _ I h) fun v s1 h1=>thn h1 fun itv s2 h2=>?_) hs
 obtain ⟨it, fp, tn, J, H2, e, I2, T, st2, f2, W, ⟨m0, w0⟩, turn⟩:=h2
 subst e
 -- what stays true of the iterator's objects through the loop
 have stat : ∀ {H' : Hp}, (∀ b∈fp, H' b = none)->∀ b∈fp, FpOk X pins H' b:=fun hn b hb=>⟨hn b hb, (f2 b hb).2⟩
 refine codeAny_forLoop_any (fun n s'=>∃ i σ' H', Inv X pins σ' H' s'/\tn i s'.heap/\(∀ b∈fp, H' b = none)/\W i n σ' H') ?_ m0 ⟨0, σ, H2, I2, st2, fun b hb=>(f2 b hb).1, w0⟩
 rintro n s3 ⟨i, σ3, H3, I3, st3, fr3, w3⟩
 rcases turn i n σ3 H3 w3 with ⟨stop, qn⟩ | ⟨go, N, hN, step⟩
 ·refine wpAny_passesOwn hp (thn (T.done X rfl rfl rfl hc i pins s3 σ3 H3 X.xe I3 (stat fr3) st3 stop) fun r s4 ⟨hr, I4⟩=>?_)
  subst hr
  exact wpAny_execs_nil ⟨σ3, H3, I4, qn⟩
 ·refine wpAny_passesOwn hp (thn (T.item X rfl rfl rfl hc i pins s3 σ3 H3 X.xe I3 (stat fr3) st3 go) fun r s4 ⟨u, hr, h4⟩=>?_)
  subst hr
  refine wpAny_passesOwn hp (thn h4 fun _ s5 ⟨x, H5, I5, r5, y5, st5, fr5⟩=>?_)
  have I5':=I5.pinned (stat fr5) (T.obj _ _ st5)
  refine wpAny_passesOwn hp (thn (hg _ s5 σ3 H5 x u _ I5' r5 (step x H5 y5)) fun _ s6 ⟨σ6, H6, I6, q6⟩=>?_)
  refine wpAny_passesOwn hp (thn (hb _ s6 σ6 H6 _ I6 q6) fun f s7 q7=>?_)
  have again : ∀ {σ7 : St} {H7 : Hp}, Inv X (pins ++ pinsAt fp s5.heap) σ7 H7 s7->N σ7 H7->∃ m, m < n/\∃ i σ' H', Inv X pins σ' H' s7/\tn i s7.heap/\(∀ b∈fp, H' b = none)/\W i m σ' H':=fun {σ7 H7} I7 n7=>by
   obtain ⟨m', hm, w7⟩:=hN σ7 H7 n7
   refine ⟨m', hm, i + 1, σ7, H7, I7.unpinned, T.keep _ _ _ st5 fun b hb o e=>(I7.pin (b, o) (List.mem_append_right _ (List.mem_append_right _ (mem_pinsAt hb e)))).1, fun b hb=>?_, w7⟩
   obtain ⟨o, e, d⟩:=T.obj _ _ st5 b hb
   exact (I7.pin (b, o) (List.mem_append_right _ (List.mem_append_right _ (mem_pinsAt hb e)))).2.1
  cases f with
  | next=>obtain ⟨σ7, H7, I7, n7⟩:=q7; exact again I7 n7
  | cont=>obtain ⟨σ7, H7, I7, n7⟩:=q7; exact again I7 n7
  | brk=>obtain ⟨σ7, H7, I7, q7⟩:=q7; exact ⟨σ7, H7, I7.unpinned, q7⟩
  | ret v=>obtain ⟨x7, σ7, H7, I7, r7, q7⟩:=q7; exact ⟨x7, σ7, H7, I7.unpinned, r7, q7⟩
end
noncomputable abbrev R2:=V->V->Hp->VK->Prop
noncomputable def OpR (X : Cx) (f : Value->Value->Sem Value) (r : R2) : Prop :=
 ∀ (pins : List (Addr × Obj)) (s : Shared) (σ : St) (H : Hp) (x y : V) (v u : Value) (Q : VK), Inv X pins σ H s->RelV x v->RelV y u->r x y H Q ->
  wpAny (model X.prog X.w) X.A (f v u) (EP X pins σ Q) X.xe s
noncomputable def CallR (X : Cx) (f : Value) (r : List V->Hp->VK->Prop) : Prop :=
 ∀ (pins : List (Addr × Obj)) (s : Shared) (σ : St) (H : Hp) (xs : List V) (us : List Value) (Q : VK), Inv X pins σ H s->Vals xs us->r xs H Q ->
  wpAny (model X.prog X.w) X.A (call f us) (EP X pins σ Q) X.xe s
noncomputable def TruR (X : Cx) (r : V->Hp->(Bool->Hp->Prop)->Prop) : Prop :=
 ∀ (pins : List (Addr × Obj)) (s : Shared) (σ : St) (H : Hp) (x : V) (v : Value) (Q : Bool->Hp->Prop), Inv X pins σ H s->RelV x v->r x H Q ->
  wpAny (model X.prog X.w) X.A (truthy v) (TP X pins σ Q) X.xe s
noncomputable def tOp (r : R2) (ta tb : TE) : TE:=fun σ H Q=>ta σ H fun x H1=>tb σ H1 fun y H2=>r x y H2 Q
noncomputable def rI (C : Int->Int->Prop) (g : Int->Int->V) : R2:=fun x y H Q=>∃ i j, x = .int i/\y = .int j/\C i j/\Q (g i j) H
noncomputable def rI0 (g : Int->Int->V) : R2:=fun x y H Q=>∃ i j, x = .int i/\y = .int j/\Q (g i j) H
section
variable {X : Cx} {a b c : Expr} {ta tb tc : TE} {pos : Pos}
theorem binT (ha : PE X a ta) (hb : PE X b tb) {pins : List (Addr × Obj)} {s : Shared} {σ : St} {H : Hp} {R : V->V->Hp->Prop} (I : Inv X pins σ H s)
  (h : ta σ H fun x H1=>tb σ H1 fun y H2=>R x y H2) {Q : Value->Shared->Prop} {f : Value->Value->Sem Value}
  (hf : ∀ v u s2 x y H2, Inv X pins σ H2 s2->RelV x v->RelV y u->R x y H2->wpAny (model X.prog X.w) X.A (f v u) Q X.xe s2) :
  wpAny (model X.prog X.w) X.A (eval a X.env) (fun v s₁=>wpAny (model X.prog X.w) X.A (eval b X.env) (fun u s₂=>wpAny (model X.prog X.w) X.A (f v u) Q X.xe s₂) X.xe s₁) X.xe s:=by
 refine thn (ha pins s σ H _ I h) fun v s1 ⟨x, H1, I1, r1, q1⟩=>?_
 refine thn (hb pins s1 σ H1 _ I1 q1) fun u s2 ⟨y, H2, I2, r2, q2⟩=>?_
 exact hf v u s2 x y H2 I2 r1 r2 q2
theorem pe_op {op : Operator} {r : R2} (ho : OpR X (binaryOp op) r) (ha : PE X a ta) (hb : PE X b tb) : PE X (.BinOp a op b pos) (tOp r ta tb):=by
 intro pins s σ H Q I h
 exact wpAny_BinOp (binT ha hb I h fun v u s2 x y H2 I2 rx ry q=>ho pins s2 σ H2 x y v u Q I2 rx ry q)
theorem opI {f : Value->Value->Sem Value} {C : Int->Int->Prop} {g : Int->Int->Int}
  (rule : ∀ (i j : Int) (t u : Tok) (s : Shared) (Q : Value->Shared->Prop) (E : Value->Shared->Prop), C i j->Q (.int (g i j) s.toks) { s with toks:=s.toks + 1 }->wpAny (model X.prog X.w) X.A (f (.int i t) (.int j u)) Q E s) :
  OpR X f (rI C fun i j=>.int (g i j)):=by
 intro pins s σ H x y v u Q I rx ry h
 obtain ⟨i, j, rfl, rfl, hc, q⟩:=h
 obtain ⟨t, rfl⟩:=rx
 obtain ⟨t', rfl⟩:=ry
 exact rule i j t t' s _ _ hc ⟨.int (g i j), H, I.tok _, ⟨_, rfl⟩, q⟩
theorem opI0 {f : Value->Value->Sem Value} {g : Int->Int->Int}
  (rule : ∀ (i j : Int) (t u : Tok) (s : Shared) (Q : Value->Shared->Prop) (E : Value->Shared->Prop), Q (.int (g i j) s.toks) { s with toks:=s.toks + 1 }->wpAny (model X.prog X.w) X.A (f (.int i t) (.int j u)) Q E s) :
  OpR X f (rI0 fun i j=>.int (g i j)):=by
 intro pins s σ H x y v u Q I rx ry h
 obtain ⟨i, j, rfl, rfl, q⟩:=h
 obtain ⟨t, rfl⟩:=rx
 obtain ⟨t', rfl⟩:=ry
 exact rule i j t t' s _ _ ⟨.int (g i j), H, I.tok _, ⟨_, rfl⟩, q⟩
theorem opB0 {f : Value->Value->Sem Value} {g : Int->Int->Bool}
  (rule : ∀ (i j : Int) (t u : Tok) (s : Shared) (Q : Value->Shared->Prop) (E : Value->Shared->Prop), Q (.bool (g i j)) s->wpAny (model X.prog X.w) X.A (f (.int i t) (.int j u)) Q E s) :
  OpR X f (rI0 fun i j=>.bl (g i j)):=by
 intro pins s σ H x y v u Q I rx ry h
 obtain ⟨i, j, rfl, rfl, q⟩:=h
 obtain ⟨t, rfl⟩:=rx
 obtain ⟨t', rfl⟩:=ry
 exact rule i j t t' s _ _ ⟨.bl (g i j), H, I, rfl, q⟩
noncomputable def CDiv (i j : Int) : Prop:=0 < j/\j < 1073741824
noncomputable def CPow (i j : Int) : Prop:=0<=j/\j<=1000000/\i.natAbs < 2 ^ 64
noncomputable def CMul (i j : Int) : Prop:=(-(2 ^ 64) < i/\i < 2 ^ 64)\/(-(2 ^ 64) < j/\j < 2 ^ 64)
theorem CMul.ok {i j : Int} (h : CMul i j) : IntMulOk i j:=by
 rcases h with ⟨h1, h2⟩ | ⟨h1, h2⟩
 ·exact .of_left (intBits_le_64 h1 h2)
 ·exact .of_right (intBits_le_64 h1 h2)
theorem op_add : OpR X (binaryOp .Add) (rI0 fun i j=>.int (i + j)):=opI0 fun _ _ _ _ _ _ _ q=>add_int q
theorem op_sub : OpR X (binaryOp .Sub) (rI0 fun i j=>.int (i - j)):=opI0 fun _ _ _ _ _ _ _ q=>sub_int q
theorem op_mul : OpR X (binaryOp .Mult) (rI CMul fun i j=>.int (i * j)):=opI fun _ _ _ _ _ _ _ hc q=>mul_int q hc.ok
theorem op_fdiv : OpR X (binaryOp .FloorDiv) (rI CDiv fun i j=>.int (i / j)):=opI fun i j _ _ _ _ _ hc q=>by
 have h1 : (0 : Int) < j:=hc.1
 have h2 : j < 1073741824:=hc.2
 exact floordiv_int (by omega) (by rw [Int.fdiv_eq_ediv_of_nonneg i (by omega)]; exact q) (.inl (PyProof.noPylong_small (by omega)))
theorem op_mod : OpR X (binaryOp .Mod) (rI (fun _ j=>0 < j) fun i j=>.int (i % j)):=opI fun i j _ _ _ _ _ hc q=>by
 have h1 : (0 : Int) < j:=hc
 exact mod_int' (by omega) (by rw [Int.fmod_eq_emod_of_nonneg i (by omega)]; exact q)
theorem op_pow : OpR X (binaryOp .Pow) (rI CPow fun i j=>.int (i ^ j.toNat)):=opI fun _ _ _ _ _ _ _ hc q=>pow_int_small hc.1 hc.2.1 hc.2.2 q
end
noncomputable def scal : V->V->Bool
 | .non, .non=>true | .non, .int _=>true | .int _, .non=>true | .non, .bl _=>true | .bl _, .non=>true | .non, .str _=>true | .str _, .non=>true
 | .int _, .int _=>true | .bl _, .bl _=>true | .str _, .str _=>true | .byt _, .byt _=>true
 | .int _, .str _=>true | .str _, .int _=>true | .bl _, .str _=>true | .str _, .bl _=>true
 | _, _=>false
noncomputable def rEq : R2:=fun x y H Q=>scal x y = true/\Q (.bl (decide (x = y))) H
noncomputable def rNe : R2:=fun x y H Q=>scal x y = true/\Q (.bl (!decide (x = y))) H
theorem dec_int {i j : Int} : decide (V.int i = V.int j) = (i == j):=by
 rw [Bool.eq_iff_iff]
 simp
theorem dec_bl {i j : Bool} : decide (V.bl i = V.bl j) = (i == j):=by
 rw [Bool.eq_iff_iff]
 simp
theorem dec_str {i j : Str} : decide (V.str i = V.str j) = (i == j):=by
 rw [Bool.eq_iff_iff]
 simp
theorem dec_byt {i j : Array UInt8} : decide (V.byt i = V.byt j) = (i.toList == j.toList):=by
 rw [Bool.eq_iff_iff]
 cases i
 cases j
 simp
section
variable {X : Cx} {a b c : Expr} {ta tb tc : TE} {pos : Pos}
theorem fin_bl {pins : List (Addr × Obj)} {σ : St} {H : Hp} {s : Shared} {Q : VK} {k k' : Bool} (I : Inv X pins σ H s) (q : Q (.bl k) H) (e : k = k') : EP X pins σ Q (.bool k') s:=by
 subst e
 exact ⟨.bl k, H, I, rfl, q⟩
theorem op_eq : OpR X (compareOp .Eq) rEq:=by
 intro pins s σ H x y v u Q I rx ry h
 obtain ⟨hs, q⟩:=h
 cases x with
 | non =>
  cases rx
  cases y with
  | non=>cases ry; exact PySem.EqNone.eq_none_none (fin_bl I q (by simp))
  | bl j=>cases ry; exact PySem.EqNone.eq_none_bool (fin_bl I q (by simp))
  | int j=>obtain ⟨t', rfl⟩:=ry; exact PySem.EqNone.eq_none_int (fin_bl I q (by simp))
  | str j=>obtain ⟨t', rfl⟩:=ry; exact PySem.EqNone.eq_none_str (fin_bl I q (by simp))
  | _=>exact absurd (show false = true from hs) Bool.false_ne_true
 | bl i =>
  cases rx
  cases y with
  | non=>cases ry; exact PySem.EqNone.eq_bool_none (fin_bl I q (by simp))
  | bl j=>cases ry; exact eq_bool (fin_bl I q dec_bl)
  | str j=>obtain ⟨t', rfl⟩:=ry; exact PySem.EqMixed.eq_bool_str (fin_bl I q (by simp))
  | _=>exact absurd (show false = true from hs) Bool.false_ne_true
 | int i =>
  obtain ⟨t, rfl⟩:=rx
  cases y with
  | non=>cases ry; exact PySem.EqNone.eq_int_none (fin_bl I q (by simp))
  | int j=>obtain ⟨t', rfl⟩:=ry; exact eq_int (fin_bl I q dec_int)
  | str j=>obtain ⟨t', rfl⟩:=ry; exact PySem.EqMixed.eq_int_str (fin_bl I q (by simp))
  | _=>exact absurd (show false = true from hs) Bool.false_ne_true
 | str i =>
  obtain ⟨t, rfl⟩:=rx
  cases y with
  | non=>cases ry; exact PySem.EqNone.eq_str_none (fin_bl I q (by simp))
  | bl j=>cases ry; exact PySem.EqMixed.eq_str_bool (fin_bl I q (by simp))
  | int j=>obtain ⟨t', rfl⟩:=ry; exact PySem.EqMixed.eq_str_int (fin_bl I q (by simp))
  | str j=>obtain ⟨t', rfl⟩:=ry; exact eq_str (fin_bl I q dec_str)
  | _=>exact absurd (show false = true from hs) Bool.false_ne_true
 | byt i =>
  obtain ⟨t, rfl⟩:=rx
  cases y with
  | byt j=>obtain ⟨t', rfl⟩:=ry; exact PySem.W.eq_bytes (fin_bl I q dec_byt)
  | _=>exact absurd (show false = true from hs) Bool.false_ne_true
 | _=>cases y <;> exact absurd (show false = true from hs) Bool.false_ne_true
theorem op_ne : OpR X (compareOp .NotEq) rNe:=by
 intro pins s σ H x y v u Q I rx ry h
 obtain ⟨hs, q⟩:=h
 cases x with
 | non =>
  cases rx
  cases y with
  | non=>cases ry; exact PySem.EqNone.ne_none_none (fin_bl I q (by simp))
  | bl j=>cases ry; exact PySem.EqNone.ne_none_bool (fin_bl I q (by simp))
  | int j=>obtain ⟨t', rfl⟩:=ry; exact PySem.EqNone.ne_none_int (fin_bl I q (by simp))
  | str j=>obtain ⟨t', rfl⟩:=ry; exact PySem.EqNone.ne_none_str (fin_bl I q (by simp))
  | _=>exact absurd (show false = true from hs) Bool.false_ne_true
 | bl i =>
  cases rx
  cases y with
  | non=>cases ry; exact PySem.EqNone.ne_bool_none (fin_bl I q (by simp))
  | bl j=>cases ry; exact ne_bool (fin_bl I q (congrArg not dec_bl))
  | str j=>obtain ⟨t', rfl⟩:=ry; exact PySem.EqMixed.ne_bool_str (fin_bl I q (by simp))
  | _=>exact absurd (show false = true from hs) Bool.false_ne_true
 | int i =>
  obtain ⟨t, rfl⟩:=rx
  cases y with
  | non=>cases ry; exact PySem.EqNone.ne_int_none (fin_bl I q (by simp))
  | int j=>obtain ⟨t', rfl⟩:=ry; exact ne_int (fin_bl I q (congrArg not dec_int))
  | str j=>obtain ⟨t', rfl⟩:=ry; exact PySem.EqMixed.ne_int_str (fin_bl I q (by simp))
  | _=>exact absurd (show false = true from hs) Bool.false_ne_true
 | str i =>
  obtain ⟨t, rfl⟩:=rx
  cases y with
  | non=>cases ry; exact PySem.EqNone.ne_str_none (fin_bl I q (by simp))
  | bl j=>cases ry; exact PySem.EqMixed.ne_str_bool (fin_bl I q (by simp))
  | int j=>obtain ⟨t', rfl⟩:=ry; exact PySem.EqMixed.ne_str_int (fin_bl I q (by simp))
  | str j=>obtain ⟨t', rfl⟩:=ry; exact ne_str (fin_bl I q (congrArg not dec_str))
  | _=>exact absurd (show false = true from hs) Bool.false_ne_true
 | byt i =>
  obtain ⟨t, rfl⟩:=rx
  cases y with
  | byt j=>obtain ⟨t', rfl⟩:=ry; exact PySem.W.ne_bytes (fin_bl I q (congrArg not dec_byt))
  | _=>exact absurd (show false = true from hs) Bool.false_ne_true
 | _=>cases y <;> exact absurd (show false = true from hs) Bool.false_ne_true
theorem op_lt : OpR X (compareOp .Lt) (rI0 fun i j=>.bl (decide (i < j))):=opB0 fun _ _ _ _ _ _ _ q=>lt_int q
theorem op_le : OpR X (compareOp .LtE) (rI0 fun i j=>.bl (decide (i<=j))):=opB0 fun _ _ _ _ _ _ _ q=>le_int q
theorem op_gt : OpR X (compareOp .Gt) (rI0 fun i j=>.bl (decide (j < i))):=opB0 fun _ _ _ _ _ _ _ q=>gt_int q
theorem op_ge : OpR X (compareOp .GtE) (rI0 fun i j=>.bl (decide (j<=i))):=opB0 fun _ _ _ _ _ _ _ q=>ge_int q
theorem op_isN : OpR X (compareOp .Is) (fun x y H Q=>y = .non/\Q (.bl (decide (x = .non))) H):=by
 intro pins s σ H x y v u Q I rx ry h
 obtain ⟨rfl, q⟩:=h
 cases ry
 refine is_none_gen (fin_bl I q ?_)
 cases x <;> first
  | (cases rx; rfl)
  | (obtain ⟨t, rfl⟩:=rx; rfl)
theorem op_notN : OpR X (compareOp .IsNot) (fun x y H Q=>y = .non/\Q (.bl (!decide (x = .non))) H):=by
 intro pins s σ H x y v u Q I rx ry h
 obtain ⟨rfl, q⟩:=h
 cases ry
 refine isnot_none_gen (fin_bl I q ?_)
 cases x <;> first
  | (cases rx; rfl)
  | (obtain ⟨t, rfl⟩:=rx; rfl)
theorem nomark (b : Expr) {op : CmpOp} (h : op≠.In:=by decide) (h2 : op≠.NotIn:=by decide) : behindInMarks op b = false:=by
 have e1 : (op == CmpOp.In) = false:=by cases op <;> first | rfl | exact absurd rfl h
 have e2 : (op == CmpOp.NotIn) = false:=by cases op <;> first | rfl | exact absurd rfl h2
 cases b <;> simp [behindInMarks, e1, e2]
theorem pe_cmpR {op : CmpOp} {r : R2} (ho : OpR X (compareOp op) r) (ha : PE X a ta) (hb : PE X b tb) (hm : behindInMarks op b = false) : PE X (.Compare a [op] [b] pos) (tOp r ta tb):=by
 intro pins s σ H Q I h
 exact wpAny_Compare1 (binT ha hb I h fun v u s2 x y H2 I2 rx ry q=>ho pins s2 σ H2 x y v u Q I2 rx ry q) hm
noncomputable def tTest (t : TE) : TT:=fun σ H Q=>t σ H fun x H'=>∃ k, x = .bl k/\Q k H'
theorem pt_cmpR {op : CmpOp} {r : R2} (ho : OpR X (compareOp op) r) (ha : PE X a ta) (hb : PE X b tb) (hm : behindInMarks op b = false) : PT X (.Compare a [op] [b] pos) (tTest (tOp r ta tb)):=by
 intro pins s σ H Q I h
 refine wpAny_isTrue_Compare1 (thn (ha pins s σ H _ I h) fun v s1 ⟨x, H1, I1, r1, q1⟩=>thn (hb pins s1 σ H1 _ I1 q1) fun u s2 ⟨y, H2, I2, r2, q2⟩ =>
  thn (ho pins s2 σ H2 x y v u _ I2 r1 r2 q2) fun c s3 ⟨z, H3, I3, r3, k, e, q3⟩=>?_) hm
 subst e
 cases r3
 exact wpAny_truthy_bool ⟨H3, I3, q3⟩
noncomputable def tChain (r r' : R2) (ta tb tc : TE) : TE:=fun σ H Q=>ta σ H fun x H1=>tb σ H1 fun y H2=>r x y H2 fun z H3=>∃ k, z = .bl k /\
 (if k = true then tc σ H3 fun w' H4=>r' y w' H4 Q else Q (.bl false) H3)
theorem pe_chain {op op' : CmpOp} {r r' : R2} (ho : OpR X (compareOp op) r) (ho' : OpR X (compareOp op') r') (ha : PE X a ta) (hb : PE X b tb) (hc : PE X c tc)
  (hm : lastMarks [op, op'] [b, c] = false:=by with_unfolding_all rfl) : PE X (.Compare a [op, op'] [b, c] pos) (tChain r r' ta tb tc):=by
 intro pins s σ H Q I h
 refine Compare_chain (thn (ha pins s σ H _ I h) fun v s1 ⟨x, H1, I1, r1, q1⟩=>chain_link (thn (hb pins s1 σ H1 _ I1 q1) fun u s2 ⟨y, H2, I2, r2, q2⟩ =>
  thn (ho pins s2 σ H2 x y v u _ I2 r1 r2 q2) fun d s3 ⟨z, H3, I3, r3, k, e, q3⟩=>?_)) hm
 subst e
 cases r3
 refine wpAny_truthy_bool ?_
 cases k with
 | false=>exact ite_ff ⟨.bl false, H3, I3, rfl, q3⟩
 | true=>exact ite_tt (chain_last (thn (hc pins s3 σ H3 _ I3 q3) fun w' s4 ⟨z', H4, I4, r4, q4⟩=>ho' pins s4 σ H4 y z' u w' Q I4 r2 r4 q4))
theorem pt_chain {op op' : CmpOp} {r r' : R2} (ho : OpR X (compareOp op) r) (ho' : OpR X (compareOp op') r') (ha : PE X a ta) (hb : PE X b tb) (hc : PE X c tc)
  (hm : lastMarks [op, op'] [b, c] = false:=by with_unfolding_all rfl) : PT X (.Compare a [op, op'] [b, c] pos) (tTest (tChain r r' ta tb tc)):=by
 intro pins s σ H Q I h
 refine isTrue_chain (thn (ha pins s σ H _ I h) fun v s1 ⟨x, H1, I1, r1, q1⟩=>test_link (thn (hb pins s1 σ H1 _ I1 q1) fun u s2 ⟨y, H2, I2, r2, q2⟩ =>
  thn (ho pins s2 σ H2 x y v u _ I2 r1 r2 q2) fun d s3 ⟨z, H3, I3, r3, k, e, q3⟩=>?_)) hm
 subst e
 cases r3
 refine wpAny_truthy_bool ?_
 cases k with
 | false =>
  obtain ⟨k', e', q'⟩:=q3
  cases e'
  exact ite_ff ⟨H3, I3, q'⟩
 | true =>
  refine ite_tt (test_last (thn (hc pins s3 σ H3 _ I3 q3) fun w' s4 ⟨z', H4, I4, r4, q4⟩=>thn (ho' pins s4 σ H4 y z' u w' _ I4 r2 r4 q4) fun d' s5 ⟨z2, H5, I5, r5, k2, e2, q5⟩=>?_))
  subst e2
  cases r5
  exact wpAny_truthy_bool ⟨H5, I5, q5⟩
noncomputable def TruV (K : PySem.W.Frag) (x : V) (H : Hp) (k : Bool) : Prop :=
 match x with
 | .non=>k = false
 | .bl b=>k = b
 | .int i=>k = (i != 0)
 | .str y=>y.length<=sizeLine/\k = ((y.length : Int) != 0)
 | .byt y=>y.size<=sizeLine/\k = ((y.size : Int) != 0)
 | .ref p=>(∃ xs, SqL K H p xs/\k = !xs.isEmpty)\/(∃ xs, SqT K H p xs/\k = !xs.isEmpty)\/∃ kvs, H p = some (.dK kvs)/\k = !kvs.isEmpty
 | _=>False
theorem isEmpty_kv {κ : Type} {kvs : List (κ × V)} {vs : List (κ × Value)} (r : KV kvs vs) : (!vs.isEmpty) = !kvs.isEmpty:=by
 cases r <;> rfl
theorem isEmpty_of {xs : List V} {its : List Value} (r : Vals xs its) : (!its.toArray.isEmpty) = !xs.isEmpty:=by
 cases r <;> simp
theorem line63 : (sizeLine : Nat) < 2 ^ 63:=by rw [sizeLine_eq]; decide
theorem tru_ok : TruR X (fun x H Q=>∃ k, TruV X.K x H k/\Q k H):=by
 intro pins s σ H x v Q I rx h
 obtain ⟨k, e, q⟩:=h
 have hl:=line63
 have hs : sizeLine = 16777216:=sizeLine_eq
 cases x with
 | non =>
  cases rx
  have e' : k = false:=e
  subst e'
  exact truthy_none ⟨H, I, q⟩
 | bl b =>
  cases rx
  have e' : k = b:=e
  subst e'
  exact wpAny_truthy_bool ⟨H, I, q⟩
 | int i =>
  obtain ⟨t, rfl⟩:=rx
  have e' : k = (i != 0):=e
  subst e'
  exact PySem.P.truthy_int ⟨H, I, q⟩
 | str y =>
  obtain ⟨t, rfl⟩:=rx
  obtain ⟨hy, e'⟩ : y.length<=sizeLine/\k = ((y.length : Int) != 0):=e
  subst e'
  exact PySem.P.truthy_str (by omega) ⟨H, I.tok _, q⟩
 | byt y =>
  obtain ⟨t, rfl⟩:=rx
  obtain ⟨hy, e'⟩ : y.size<=sizeLine/\k = ((y.size : Int) != 0):=e
  subst e'
  exact PySem.W.truthy_bytes (by omega) ⟨H, I.tok _, q⟩
 | ref p =>
  cases rx
  have e' : (∃ xs, SqL X.K H p xs/\k = !xs.isEmpty)\/(∃ xs, SqT X.K H p xs/\k = !xs.isEmpty)\/∃ kvs, H p = some (.dK kvs)/\k = !kvs.isEmpty:=e
  rcases e' with ⟨xs, hx, e'⟩ | ⟨xs, hx, e'⟩ | ⟨kvs, hx, e'⟩
  ·subst e'
   obtain ⟨its, r, pl, hz⟩:=I.list hx
   have hlen:=r.length
   exact wpAny_truthy_list pl.isList (by simp only [List.size_toArray]; omega) ⟨H, I.tok _, by rw [isEmpty_of r]; exact q⟩
  ·subst e'
   obtain ⟨its, r, pl, hz⟩:=I.tuple hx
   have hlen:=r.length
   exact truthy_tuple pl (by simp only [List.size_toArray]; omega) ⟨H, I.tok _, by rw [isEmpty_of r]; exact q⟩
  ·subst e'
   obtain ⟨hz, hS, vs, r, m⟩ : kvs.length<=sizeLine/\(p == sysModules) = false/\∃ vs, KV kvs vs/\s.heap.DictOf (mixKind X.prog X.w) p vs:=I.hok p _ hx
   have hlen : kvs.length = vs.length:=Paired.length r
   exact wpAny_truthy_dict hS m (by omega) ⟨H, I.tok _, by rw [isEmpty_kv r]; exact q⟩
 | _=>exact (show False from e).elim
theorem pt_truth (ha : PE X a ta) (he : ∀ whole, isTrue a X.env whole = (do let v ← whole; standAt a.pos; holding [v] (truthy v))) :
  PT X a (fun σ H Q=>ta σ H fun x H'=>∃ k, TruV X.K x H' k/\Q k H'):=by
 intro pins s σ H Q I h
 exact isTrue_plain (thn (ha pins s σ H _ I h) fun v s1 ⟨x, H1, I1, r1, q1⟩=>tru_ok pins s1 σ H1 x v Q I1 r1 q1) (he _)
theorem vals1 {x : V} {us : List Value} (r : Vals [x] us) : ∃ u, us = [u]/\RelV x u:=by
 cases r with
 | cons r1 r2=>cases r2; exact ⟨_, rfl, r1⟩
theorem vals2 {x y : V} {us : List Value} (r : Vals [x, y] us) : ∃ u w', us = [u, w']/\RelV x u/\RelV y w':=by
 cases r with
 | cons r1 r2 =>
  cases r2 with
  | cons r3 r4=>cases r4; exact ⟨_, _, rfl, r1, r3⟩
theorem call_abs : CallR X (.builtin "abs") (fun xs H Q=>∃ i, xs = [.int i]/\Q (.int (if i < 0 then -i else i)) H):=by
 intro pins s σ H xs us Q I r h
 obtain ⟨i, rfl, q⟩:=h
 obtain ⟨u, rfl, t, rfl⟩:=vals1 r
 exact call_abs_int fun u tk=>⟨.int (if i < 0 then -i else i), H, I.tok _, ⟨_, rfl⟩, q⟩
theorem call_max2 (hc : X.calm = true) : CallR X (.builtin "max") (fun xs H Q=>∃ i j, xs = [.int i, .int j]/\Q (.int (if j > i then j else i)) H):=by
 intro pins s σ H xs us Q I r h
 obtain ⟨i, j, rfl, q⟩:=h
 obtain ⟨u, w', rfl, ⟨t, rfl⟩, ⟨t', rfl⟩⟩:=vals2 r
 refine max_two_ints (I.ok.hd hc) fun h' tk k=>⟨_, H, I.kept k, ?_, q⟩
 by_cases hj : j > i
 ·rw [if_pos hj, if_pos hj]; exact ⟨_, rfl⟩
 ·rw [if_neg hj, if_neg hj]; exact ⟨_, rfl⟩
theorem call_min2 (hc : X.calm = true) : CallR X (.builtin "min") (fun xs H Q=>∃ i j, xs = [.int i, .int j]/\Q (.int (if j < i then j else i)) H):=by
 intro pins s σ H xs us Q I r h
 obtain ⟨i, j, rfl, q⟩:=h
 obtain ⟨u, w', rfl, ⟨t, rfl⟩, ⟨t', rfl⟩⟩:=vals2 r
 refine min_two_ints (I.ok.hd hc) fun h' tk k=>⟨_, H, I.kept k, ?_, q⟩
 by_cases hj : j < i
 ·rw [if_pos hj, if_pos hj]; exact ⟨_, rfl⟩
 ·rw [if_neg hj, if_neg hj]; exact ⟨_, rfl⟩
theorem call_int1 : CallR X (.type "int") (fun xs H Q=>(∃ i, xs = [.int i]/\Q (.int i) H)\/∃ k, xs = [.bl k]/\Q (.int (if k then 1 else 0)) H):=by
 intro pins s σ H xs us Q I r h
 rcases h with ⟨i, rfl, q⟩ | ⟨k, rfl, q⟩
 ·obtain ⟨u, rfl, t, rfl⟩:=vals1 r
  exact call_int_int ⟨.int i, H, I, ⟨_, rfl⟩, q⟩
 ·obtain ⟨u, rfl, r1⟩:=vals1 r
  cases r1
  exact call_int_bool ⟨.int (if k then 1 else 0), H, I.tok _, ⟨_, rfl⟩, q⟩
end
structure ObjM (h : Heap) (x dx C : Addr) (mA : Str->Option Value) : Prop where
 obj : h.get? x = some (PySem.W.instObj C dx)
 ns : h.Ns1 dx mA
 ne : dx≠x
theorem lookIn_ns {h : Heap} {dx : Addr} {mA : Str->Option Value} (n : h.Ns1 dx mA) : ∃ od, h.get? dx = some od/\∀ name, PySem.W.lookIn name od = some (mA name):=by
 obtain ⟨o, es, ep, ho, hd, hk, _, hm⟩:=n
 refine ⟨o, ho, fun name=>?_⟩
 have e:=hm name
 unfold nsFind findBy at e
 rw [← Array.find?_toList] at e
 unfold PySem.W.lookIn
 rw [hd]
 dsimp only
 split
 ·rename_i y q
  rw [q] at e
  exact congrArg some e
 ·rename_i q
  rw [q] at e
  have a : es.toList.any (·.refKey) = false:=by
   rw [List.any_eq_false]
   intro y hy
   obtain ⟨z, t, hkey⟩:=hk y (Array.mem_toList_iff.mp hy)
   simp [DictEntry.refKey, hkey]
  have a' : ¬ es.toList.any (·.refKey) = true:=by rw [a]; exact Bool.false_ne_true
  rw [if_neg a']
  exact congrArg some e
theorem ObjM.look {h : Heap} {x dx C : Addr} {mA : Str->Option Value} (I : ObjM h x dx C mA) : ∃ od, PySem.W.InstAt h x (PySem.W.instObj C dx) C (some od)/\∀ name, PySem.W.lookIn name od = some (mA name) :=
 let ⟨od, ho, hl⟩:=lookIn_ns I.ns
 ⟨od, ⟨I.obj, rfl, rfl, ho⟩, hl⟩
section
variable {prog : Program} {w : World} {A : Around} {E : Value->Shared->Prop} {s : Shared} {K : PySem.W.Frag} {x dx C f : Addr} {mA : Str->Option Value} {name : Str} {v : Value}
end
theorem RelO.some_of {v : V} {o : Option Value} (r : RelO (some v) o) : ∃ u, o = some u/\RelV v u:=by
 cases o with
 | none=>exact (show False from r).elim
 | some u=>exact ⟨u, rfl, r⟩
section
variable {P : Program} {w : World} {H H' : Hp} {h h' : Heap} {a C dx : Addr} {fs fs' : List (Str × V)}
theorem ins_get (hok : HOk P w H h) (e : H a = some (.ins C dx fs)) : ∃ mA, ObjM h a dx C mA/\(∀ f, RelO (fs.lookup f) (mA f))/\PySem.Within mA (fs.map (·.1))/\fs.length<=1000/\H dx = some (.own a):=by
 obtain ⟨d, z, ne, ob, mA, n, r, q⟩:=(show ObjOk P w H h a (.ins C dx fs) from hok a _ e)
 exact ⟨mA, ⟨ob, n, ne⟩, r, q, z, d⟩
end
structure Cls (K : PySem.W.Frag) (C : Addr) : Prop where
 pg : PySem.W.plainGet K C Str.empty = true
 hd : PySem.W.hasDictIn K C = true
 po : PySem.W.plainOver K C = true
 sa : PySem.W.findIn K (.ref C) "__setattr__" = some (some (.builtin "object.__setattr__"))
theorem Cls.get {K : PySem.W.Frag} {C : Addr} (c : Cls K C) (f : Str) : PySem.W.plainGet K C f = true:=c.pg
structure Con (K : PySem.W.Frag) (C : Addr) (f : Str) (v : V) (u : Value) : Prop where
 at_ : PySem.W.findIn K (.ref C) f = some (some u)
 rel : RelV v u
 get : PySem.W.specialIn K u "__get__" = some none
 cp : PySem.W.copiedNames.contains f = false
structure Meth (K : PySem.W.Frag) (C : Addr) (m : Str) (f : Addr) : Prop where
 at_ : PySem.W.findIn K (.ref C) m = some (some (.ref f))
 fn : PySem.W.isFn K (.ref f) = true
 kp : PySem.W.keepIn K (.ref f) = true
section
variable {X : Cx} {pins : List (Addr × Obj)} {σ : St} {H : Hp} {s : Shared} {a C dx : Addr} {fs : List (Str × V)} {f : Str} {v : V} {A : Around} {E : Value->Shared->Prop}
end
section
variable {X : Cx} {o e value : Expr} {f : Str} {pos pos' tpos : Pos} {ta tv : TE}
end
section
variable {X : Cx} {pins : List (Addr × Obj)} {σ : St} {H : Hp} {s : Shared} {A : Around} {E : Value->Shared->Prop} {Q : Value->Shared->Prop} {c : Value} {b : Bool}
inductive TyOf (K : PySem.W.Frag) (H : Hp) : V->Value->Prop where
 | non : TyOf K H .non (.type "NoneType")
 | bl (x : Bool) : TyOf K H (.bl x) (.type "bool")
 | int (i : Int) : TyOf K H (.int i) (.type "int")
 | str (x : Str) : TyOf K H (.str x) (.type "str")
 | flt (x : UInt64) : TyOf K H (.flt x) (.type "float")
 | lst {a : Addr} {xs : List V} (e : H a = some (.lst xs)) : TyOf K H (.ref a) (.type "list")
 | frz {a : Addr} {o : Obj} {xs : List V} (e : H a = some (.frz o (.lst xs))) : TyOf K H (.ref a) (.type "list")
 | tup {a : Addr} {xs : List V} (e : H a = some (.tup xs)) : TyOf K H (.ref a) (.type "tuple")
 | dK {a : Addr} {kvs : List (Key × V)} (e : H a = some (.dK kvs)) : TyOf K H (.ref a) (.type "dict")
 | dT {a : Addr} {kvs : List (List Key × V)} (e : H a = some (.dT kvs)) : TyOf K H (.ref a) (.type "dict")
 | ins {a C dx : Addr} {fs : List (Str × V)} (e : H a = some (.ins C dx fs)) (cl : Cls K C) (ha : PySem.W.findIn K (.ref C) "__class__" = some (some (.builtin "object.__class__")))
   (hn : PySem.W.specialIn K (.builtin "object.__class__") "__get__" = some (some (.builtin "getset_descriptor.__get__"))) (htk : PySem.W.takesIn K (.builtin "object.__class__") = some true)
   (hm : PySem.W.mroIn K C (.type "object") = some true) : TyOf K H (.ref a) (.ref C)
theorem isinst_ok {x : V} {u t : Value} (I : Inv X pins σ H s) (rx : RelV x u) (ty : TyOf X.K H x t) (e : PySem.W.kitOne X.K t c = some b) (h : ∀ tk, Q (.bool b) { s with toks:=tk }) :
  wpAny (model X.prog X.w) A (call (.builtin "isinstance") [u, c]) Q E s:=by
 cases ty with
 | non=>cases (show u = Value.none from rx); exact PySem.W.kia_one PySem.W.kitx_none I.kIn True.intro e (fun z=>nomatch z) h
 | bl y=>cases (show u = Value.bool y from rx); exact PySem.W.kia_one PySem.W.kitx_bool I.kIn True.intro e (fun z=>nomatch z) h
 | int i=>obtain ⟨t, q⟩:=(show ∃ t, u = Value.int i t from rx); cases q; exact PySem.W.kia_one PySem.W.kitx_int I.kIn True.intro e (fun z=>nomatch z) h
 | str y=>obtain ⟨t, q⟩:=(show ∃ t, u = Value.str y t from rx); cases q; exact PySem.W.kia_one PySem.W.kitx_str I.kIn True.intro e (fun z=>nomatch z) h
 | flt y=>obtain ⟨t, q⟩:=(show ∃ t, u = Value.float y t from rx); cases q; exact PySem.W.kia_one PySem.W.kitx_float I.kIn True.intro e (fun z=>nomatch z) h
 | @lst a xs ea =>
  cases (show u = Value.ref a from rx)
  obtain ⟨_, _, n, _, h1⟩:=(show ObjOk X.prog X.w H s.heap a (.lst xs) from I.hok a _ ea)
  exact PySem.W.kia_one PySem.W.kitx_list I.kIn ⟨_, h1, rfl⟩ e (fun z=>nomatch z) h
 | @frz a ob xs ea =>
  cases (show u = Value.ref a from rx)
  obtain ⟨_, _, _, n, _, h1⟩:=(show ObjOk X.prog X.w H s.heap a (.frz ob (.lst xs)) from I.hok a _ ea)
  exact PySem.W.kia_one PySem.W.kitx_list I.kIn ⟨_, h1, rfl⟩ e (fun z=>nomatch z) h
 | @tup a xs ea =>
  cases (show u = Value.ref a from rx)
  obtain ⟨_, _, _, p⟩:=(show ObjOk X.prog X.w H s.heap a (.tup xs) from I.hok a _ ea)
  obtain ⟨o, h1, h2, _⟩:=p
  exact PySem.W.kia_one PySem.W.kitx_tuple I.kIn ⟨o, h1, h2⟩ e (fun z=>nomatch z) h
 | @dK a kvs ea =>
  cases (show u = Value.ref a from rx)
  obtain ⟨_, _, vs, _, p⟩:=(show ObjOk X.prog X.w H s.heap a (.dK kvs) from I.hok a _ ea)
  obtain ⟨o, es, ep, h1, h2, _⟩:=p
  exact PySem.W.kia_one PySem.W.kitx_dict I.kIn ⟨o, h1, h2.1⟩ e (fun z=>nomatch z) h
 | @dT a kvs ea =>
  cases (show u = Value.ref a from rx)
  obtain ⟨_, _, xs, _, o, es, ep, h1, h2, _⟩:=(show ObjOk X.prog X.w H s.heap a (.dT kvs) from I.hok a _ ea)
  exact PySem.W.kia_one PySem.W.kitx_dict I.kIn ⟨o, h1, h2.1⟩ e (fun z=>nomatch z) h
 | @ins a C dx fs ea cl ha hn htk hm =>
  cases (show u = Value.ref a from rx)
  obtain ⟨mA, O, _⟩:=ins_get I.hok ea
  obtain ⟨od, J, _⟩:=O.look
  exact PySem.W.kia_one (PySem.W.kitx_own (cl.get _) cl.hd ha hn htk hm) I.kIn J e (fun z=>nomatch z) h
end
structure Room (k : Nat) (A : Around) : Prop where
 hd : A.handled = none
 dp : A.depth + 3 * k + 5 < recursionLimit
 un : A.units + 16 * k + 200 < cLine
 gd : A.guards = some []
theorem Room.mono {j k : Nat} {A : Around} (r : Room k A) (h : j<=k) : Room j A:=⟨r.hd, by have:=r.dp; omega, by have:=r.un; omega, r.gd⟩
theorem Room.deeper {k : Nat} {A : Around} (r : Room (k + 1) A) (env : Env) : Room k (A.deeper env) :=
 ⟨r.hd, by have:=r.dp; show A.depth + 1 + 3 * k + 5 < _; omega, by have:=r.un; show A.units + 3 + 16 * k + 200 < _; omega, r.gd⟩
theorem Room.depth {k : Nat} {A : Around} (r : Room k A) : A.depth < recursionLimit:=by have:=r.dp; omega
theorem Room.units {k : Nat} {A : Around} (r : Room k A) : A.units + 64 < cLine:=by have:=r.un; omega
noncomputable def tNil : TA:=fun _ H Q=>Q [] H
noncomputable def tCons (ta : TE) (tr : TA) : TA:=fun σ H Q=>ta σ H fun x H1=>tr σ H1 fun xs H2=>Q (x :: xs) H2
section
variable {X : Cx} {e : Expr} {es : List Expr} {te : TE} {t : TA} {pos : Pos}
theorem pa_nil : PA X [] tNil:=fun _ _ _ _ H Q I h=>Calls.spliced_nil ⟨[], H, I, .nil, h⟩
theorem pa_cons (ha : PE X e te) (hr : PA X es t) (hs : starEach (e :: es) X.env = (false, eval e X.env) :: starEach es X.env:=by rfl) : PA X (e :: es) (tCons te t):=by
 intro pos pins s σ H Q I h
 rw [hs]
 show wpAny _ _ (spliced ((false, eval e X.env) :: backTo pos (starEach es X.env))) _ _ s
 refine Calls.spliced_cons (thn (ha pins s σ H _ I h) fun u s1 ⟨x, H1, I1, r1, q1⟩=>?_)
 exact thn (hr pos pins s1 σ H1 _ I1 q1) fun us s2 ⟨xs, H2, I2, r2, q2⟩=>⟨x :: xs, H2, I2, .cons r1 r2, q2⟩
noncomputable def tTup (t : TA) : TE:=fun σ H Q=>t σ H fun xs H1=>xs.length<=sizeLine/\∀ p, H1 p = none->Q (.ref p) (upd H1 p (.tup xs))
noncomputable def tLst (t : TA) : TE:=fun σ H Q=>t σ H fun xs H1=>xs.length<=sizeLine/\∀ p, H1 p = none->Q (.ref p) (upd H1 p (.lst xs))
theorem pe_tup {x1} (h : PA X es t) : PE X (.Tuple es x1 pos) (tTup t):=by
 intro pins s σ H Q I hq
 refine wpAny_Tuple_spliced (thn (h pos pins s σ H _ I hq) fun us s1 ⟨xs, H1, I1, r, z, q⟩=>⟨by rw [← r.length]; exact z, ?_⟩)
 have hf : H1 s1.heap.objs.size = none:=I1.hok.fresh (Nat.le_refl _)
 refine ⟨.ref s1.heap.objs.size, upd H1 s1.heap.objs.size (.tup xs), I1.laid (t':=s1.toks) (fun b u e=>Heap.get?_push_of_some _ e) (Nat.le_refl _) ?_, rfl, q _ hf⟩
 exact ⟨z, us, r, ⟨_, Heap.get?_push_size _ rfl, rfl, _, rfl⟩⟩
theorem pe_lst (h : PA X es t) : PE X (.List es pos) (tLst t):=by
 intro pins s σ H Q I hq
 refine wpAny_List_spliced (thn (h pos pins s σ H _ I hq) fun us s1 ⟨xs, H1, I1, r, z, q⟩=>⟨by rw [← r.length]; exact z, ?_⟩)
 have hf : H1 s1.heap.objs.size = none:=I1.hok.fresh (Nat.le_refl _)
 refine ⟨.ref s1.heap.objs.size, upd H1 s1.heap.objs.size (.lst xs), I1.laid (t':=s1.toks) (fun b u e=>Heap.get?_push_of_some _ e) (Nat.le_refl _) ?_, rfl, q _ hf⟩
 exact ⟨z, us, 0, r, Heap.get?_push_size _ rfl⟩
end
noncomputable abbrev Sp:=List V->Hp->VK->XK->Prop
noncomputable abbrev CXT:=List Env->Hp->Shared->XK->Value->Shared->Prop
structure Env0 (P : Program) (w : World) (K : PySem.W.Frag) (mg : Str->Option Value) (base : Heap) (A : Around) (outer : List Env) (s : Shared) (H : Hp) : Prop where
 frames : A.frames = some outer
 mod : Mod K mg base
 bs : ∀ b o, base.get? b = some o->s.heap.get? b = some o/\H b = none
 bsz : base.objs.size<=s.heap.objs.size
 funs : s.heap.FunFrames base outer
 frf : ∀ b∈frs outer, H b = none
 hok : HOk P w H s.heap
 bare : AllBare s.gens
noncomputable def CE (outer : List Env) (P : Program) (w : World) (H : Hp) (s : Shared) (Q : VK) (u : Value) (s' : Shared) : Prop :=
 ∃ v H', s'.os = s.os/\AllBare s'.gens/\Un (frs outer) [] H H' s.heap s'.heap/\HOk P w H' s'.heap/\RelV v u/\Q v H'
noncomputable def CR (CX : CXT) (outer : List Env) (P : Program) (w : World) (H : Hp) (s : Shared) (Q : VK) (E : XK) (r : Result) (s' : Shared) : Prop :=
 match r with
 | .ok (.ret u)=>CE outer P w H s Q u s'
 | .ok _=>False
 | .error e=>CX outer H s E e s'
structure FnOk (P : Program) (w : World) (K : PySem.W.Frag) (mg : Str->Option Value) (base : Heap) (CX : CXT) (k : Nat) (f : Addr) (fd : FuncData) (ps : List Str) (sp : Sp) : Prop where
 len : ∀ vs H Q E, sp vs H Q E->vs.length = ps.length
 run : ∀ (A : Around) (outer : List Env) (s : Shared) (H : Hp) (args : Args) (us : List Value) (vs : List V) (Q : VK) (E : XK), Room k A->Env0 P w K mg base A outer s H->BindsTo s fd args (ps.zip us)->Vals vs us->sp vs H Q E ->
  codeAny (model P w) A (.call (.ref f) args) (CR CX outer P w H s Q E) s
section
variable {X : Cx} {pins : List (Addr × Obj)} {σ : St} {H : Hp} {s s' : Shared}
theorem Inv.env0 (I : Inv X pins σ H s) : Env0 X.prog X.w X.K X.mg X.base X.A X.stack s H :=
 ⟨I.ok.frames, I.ok.mod, I.bs, Nat.le_trans I.ok.bsz I.sz, I.stack, I.stkFree, I.hok, I.bare⟩
theorem Inv.after {Q : VK} {u : Value} (I : Inv X pins σ H s) (h : CE X.stack X.prog X.w H s Q u s') : EP X pins σ Q u s':=by
 obtain ⟨v, H', os, bare, un, hok, r, q⟩:=h
 obtain ⟨hh, g, d, t, os'⟩:=s'
 obtain rfl : os' = s.os:=os
 exact ⟨v, H', I.call (h':=hh) (g':=g) (d':=d) (t':=t) (ch:=[]) un hok bare (fun b z=>absurd z (by simp)), r, q⟩
end
noncomputable def tCall (sp : Sp) (dvs : List V) (E : XK) (t : TA) : TE:=fun σ H Q=>t σ H fun vs H1=>sp (vs ++ dvs) H1 Q E
noncomputable def Binds (K : PySem.W.Frag) (fd : FuncData) (ps : List Str) (ds : List Value) : Prop :=
 ∀ (s : Shared) (us : List Value), K.In s.heap->(us ++ ds).length = ps.length->BindsTo s fd ⟨us, []⟩ (ps.zip (us ++ ds))
theorem Binds.all {K : PySem.W.Frag} {fd : FuncData} {ps : List Str} (h : ∀ us : List Value, us.length = ps.length->bindArgs fd ⟨us, []⟩ = pure (ps.zip us)) : Binds K fd ps []:=fun s us _ hl=>by
 rw [List.append_nil] at hl ⊢
 exact .of_eq (h us hl)
noncomputable def Passes (CX : CXT) (X : Cx) (E : XK) : Prop:=∀ (pins : List (Addr × Obj)) (σ : St) (H : Hp) (s : Shared) (e : Value) (s' : Shared), Inv X pins σ H s->CX X.stack H s E e s'->X.xe e s'
section
variable {X : Cx} {CX : CXT} {k : Nat} {f C : Addr} {fd : FuncData} {ps : List Str} {sp : Sp} {dvs : List V} {ds : List Value} {E : XK} {x m : Str} {p pos apos : Pos} {e o : Expr} {es : List Expr} {ta : TE} {t : TA}
theorem run_fn {pins : List (Addr × Obj)} {σ : St} {H : Hp} {s : Shared} {Q : VK} {us : List Value} {vs : List V} (F : FnOk X.prog X.w X.K X.mg X.base CX k f fd ps sp) (hr : Room k X.A) (hb : Binds X.K fd ps ds) (hd : Vals dvs ds) (hx : Passes CX X E)
  (I : Inv X pins σ H s) (r : Vals vs us) (h : sp (vs ++ dvs) H Q E) : wpAny (model X.prog X.w) X.A (call (.ref f) us) (EP X pins σ Q) X.xe s:=by
 have r2 : Vals (vs ++ dvs) (us ++ ds):=r.append hd
 have hl : (us ++ ds).length = ps.length:=by rw [← r2.length]; exact F.len _ _ _ _ h
 refine wpAny_call (codeAny_mono (F.run X.A X.stack s H ⟨us, []⟩ (us ++ ds) (vs ++ dvs) Q E hr I.env0 (hb s us I.kIn hl) r2 h) fun r s' hq=>?_)
 cases r with
 | error e=>exact hx pins σ H s e s' I hq
 | ok fl =>
  cases fl with
  | ret u=>exact I.after hq
  | next=>exact False.elim hq
  | brk=>exact False.elim hq
  | cont=>exact False.elim hq
theorem pe_call (F : FnOk X.prog X.w X.K X.mg X.base CX k f fd ps sp) (hr : Room k X.A) (hg : Gl X x) (hm : X.mg x = some (.ref f)) (hk : PySem.W.keepIn X.K (.ref f) = true) (hb : Binds X.K fd ps ds) (hd : Vals dvs ds) (hx : Passes CX X E)
  (ha : PA X (e :: es) t) (hdb : (x == ("__debug__" : Str)) = false:=by decide) (he : starEach (e :: es) X.env = (false, eval e X.env) :: starEach es X.env:=by rfl) (hpl : (backTo pos (starEach es X.env)).any (·.1) = false:=by rfl) :
  PE X (.Call (.Name x p) (e :: es) [] pos) (tCall sp dvs E t):=by
 intro pins s σ H Q I h
 refine wpAny_Call_Name_kw (ld_glob I hg hm ?_ hdb)
 refine PySem.W.callWith_K (h₀:=X.base) I.ok.mod.kin hk (thn (ha pos pins s σ H _ I h) fun us s1 ⟨vs, H1, I1, r, q⟩=>⟨I1.kIn, ?_⟩) he hpl
 exact run_fn F hr hb hd hx I1 r q
structure Mk (K : PySem.W.Frag) (C f : Addr) : Prop where
 makes : PySem.W.makesIn K C = true
 init : PySem.W.findIn K (.ref C) "__init__" = some (some (.ref f))
 fn : PySem.W.isFn K (.ref f) = true
 kp : PySem.W.keepIn K (.ref C) = true
end
section
variable {X : Cx} {CX : CXT} {k : Nat} {f C : Addr} {fd : FuncData} {ps ks : List Str} {sp : Sp} {E : XK} {x m : Str} {p pos apos kpos : Pos} {e o : Expr} {es : List Expr} {kws : List Keyword} {te ta : TE} {t tk : TA} {nm : Option Str}
structure KBinds (K : PySem.W.Frag) (fd : FuncData) (ps ks : List Str) (g : List Value->List Value->List Value) (gV : List V->List V->List V) : Prop where
 to : ∀ (s : Shared) (us ws : List Value), K.In s.heap->(g us ws).length = ps.length->BindsTo s fd ⟨us, ks.zip ws⟩ (ps.zip (g us ws))
 rel : ∀ {vs : List V} {us : List Value} {zs : List V} {ws : List Value}, Vals vs us->Vals zs ws->Vals (gV vs zs) (g us ws)
variable {g : List Value->List Value->List Value} {gV : List V->List V->List V}
end
structure FnScope (N P : List Str) (sc : Scope) : Prop where
 kind : sc.kind = .function
 co : sc.isCoroutine = false
 gen : sc.isGenerator = false
 nd : N.Nodup
 pre : N.take P.length = P
 par : ∀ x∈P, sc.names.lookup x = some .local\/sc.names.lookup x = some .cell
 nofree : ∀ y∈sc.names, y.2≠.free
theorem bindL_out {kindOf : Str->Option NameKind} {x : Str} : ∀ {binds : List (Str × Value)} {m : Str->Option Value}, (∀ v, (x, v)∉binds)->bindL kindOf binds m x = m x
 | [], _, _=>rfl
 | (n, v) :: r, m, h=>by
  unfold bindL
  rw [bindL_out fun w hw=>h w (List.mem_cons_of_mem _ hw)]
  split
  ·have : x≠n:=by rintro rfl; exact h v List.mem_cons_self
   simp [this]
  ·rfl
theorem bindC_out {kindOf : Str->Option NameKind} {x : Str} : ∀ {binds : List (Str × Value)} {m : Str->Option Value}, (∀ v, (x, v)∉binds)->bindC kindOf binds m x = m x
 | [], _, _=>rfl
 | (n, v) :: r, m, h=>by
  unfold bindC
  rw [bindC_out fun w hw=>h w (List.mem_cons_of_mem _ hw)]
  split
  ·rfl
  ·have : x≠n:=by rintro rfl; exact h v List.mem_cons_self
   simp [this]
theorem bindL_get {kindOf : Str->Option NameKind} {x : Str} {v : Value} : ∀ {P : List Str} {vs : List Value} {i : Nat} {m : Str->Option Value}, P.Nodup->P[i]? = some x->vs[i]? = some v->kindOf x = some .local ->
  bindL kindOf (P.zip vs) m x = some v
 | [], _, _, _, _, h, _, _=>by simp at h
 | _ :: _, [], _, _, _, _, h, _=>by simp at h
 | p :: P, w :: vs, 0, m, nd, h1, h2, hk=>by
  simp at h1 h2; subst h1; subst h2
  show bindL kindOf ((p, w) :: P.zip vs) m p = _
  unfold bindL
  rw [bindL_out fun v hv=>(List.nodup_cons.mp nd).1 (List.of_mem_zip hv).1, if_pos hk]
  simp
 | p :: P, w :: vs, i + 1, m, nd, h1, h2, hk=>by
  show bindL kindOf ((p, w) :: P.zip vs) m x = _
  unfold bindL
  exact bindL_get (i:=i) (List.nodup_cons.mp nd).2 (by simpa using h1) (by simpa using h2) hk
theorem bindC_get {kindOf : Str->Option NameKind} {x : Str} {v : Value} : ∀ {P : List Str} {vs : List Value} {i : Nat} {m : Str->Option Value}, P.Nodup->P[i]? = some x->vs[i]? = some v->kindOf x≠some .local ->
  bindC kindOf (P.zip vs) m x = some v
 | [], _, _, _, _, h, _, _=>by simp at h
 | _ :: _, [], _, _, _, _, h, _=>by simp at h
 | p :: P, w :: vs, 0, m, nd, h1, h2, hk=>by
  simp at h1 h2; subst h1; subst h2
  show bindC kindOf ((p, w) :: P.zip vs) m p = _
  unfold bindC
  rw [bindC_out fun v hv=>(List.nodup_cons.mp nd).1 (List.of_mem_zip hv).1, if_neg hk]
  simp
 | p :: P, w :: vs, i + 1, m, nd, h1, h2, hk=>by
  show bindC kindOf ((p, w) :: P.zip vs) m x = _
  unfold bindC
  exact bindC_get (i:=i) (List.nodup_cons.mp nd).2 (by simpa using h1) (by simpa using h2) hk
noncomputable def start (N : List Str) (vs : List V) : St:=vs.map some ++ List.replicate (N.length - vs.length) none
noncomputable def cxOf (CX : CXT) (P : Program) (w : World) (K : PySem.W.Frag) (mg : Str->Option Value) (base : Heap) (N : List Str) (qual : Str) (scope : Scope) (f : Addr) (cd : Value) (A : Around) (outer : List Env) (s : Shared) (H : Hp) (E : XK) : Cx where
 prog:=P
 w:=w
 K:=K
 mg:=mg
 base:=base
 A:=A.deeper (envOfC qual scope s.heap.objs.size f cd)
 N:=N
 s₀:=s
 H₀:=H
 env:=envOfC qual scope s.heap.objs.size f cd
 outer:=outer
 stack:=envOfC qual scope s.heap.objs.size f cd :: outer
 ex:=[]
 calm:=true
 fn:=fun _=>true
 pn:=[]
 xe:=fun e s'=>wpAny (model P w) (A.deeper (envOfC qual scope s.heap.objs.size f cd)) (leaving (envOfC qual scope s.heap.objs.size f cd) e) (fun _ s''=>CX outer H s E e s'') (fun e' s''=>CX outer H s E e' s'') s'
theorem cell_has {sc : Scope} {n : Nat} {x : Str} (h : sc.names.lookup x = some .cell) : ∃ c, (cellsFrom n sc.names []).lookup x = some c:=by
 have q:=PySem.W.cellsFrom_some sc.names n [] (.inl h)
 exact Option.isSome_iff_exists.mp q
theorem inv_start {CX : CXT} {P : Program} {w : World} {K : PySem.W.Frag} {mg : Str->Option Value} {base : Heap} {N ps : List Str} {qual : Str} {scope : Scope} {f : Addr} {cd : Value} {A : Around} {outer : List Env} {s s1 : Shared} {H : Hp} {E : XK} {us : List Value} {vs : List V}
  (S : FnScope N ps scope) (hd : A.handled = none) (e0 : Env0 P w K mg base A outer s H) (hl : vs.length = ps.length) (r : Vals vs us)
  (x : InCallC s s.heap.objs.size (bindL (envOfC qual scope s.heap.objs.size f cd).kindOf (ps.zip us) fun _=>none) (cellsFrom (s.heap.objs.size + 1) scope.names []) (bindC (envOfC qual scope s.heap.objs.size f cd).kindOf (ps.zip us) fun _=>none) s1) :
  Inv (cxOf CX P w K mg base N qual scope f cd A outer s H E) [] (start N vs) H s1:=by
 have hpl : ps.length<=N.length:=by have:=congrArg List.length S.pre; rw [List.length_take] at this; omega
 obtain ⟨h1, tk, rfl, hk⟩:=x.done
 have noA : ∀ b : Addr, b∉(cxOf CX P w K mg base N qual scope f cd A outer s H E).ex:=fun b z=>absurd (show b∈([] : List Addr) from z) (by simp)
 refine ⟨⟨e0.mod, S.kind, rfl, rfl, Nat.le_refl _, fun y z c h1 h2=>?_, fun y hy=>?_, fun y c _ h=>?_, fun _=>hd, Around.frames_deeper e0.frames, .inr ⟨rfl, rfl⟩, fun b z=>absurd z (noA b), e0.bs, e0.bsz, fun b _ _=>noA b, fun b z=>absurd z (noA b), e0.funs, e0.frf⟩,
  rfl, e0.bare, Un.kept hk, ⟨_, x.toInCall.ns, fun i y v h1 h2 h3=>?_⟩, fun y c h=>⟨_, x.cell y c h⟩, e0.hok.fresh (Nat.le_refl _), fun y c h=>?_, fun p hp=>absurd (show p∈([] : List (Addr × Obj)) from hp) (by simp), e0.hok.kept hk, ?_⟩
 ·exact name_of_addr x.apart (PySem.mem_of_lookup h1) (PySem.mem_of_lookup h2)
 ·have hy : scope.names.lookup y = some .cell\/scope.names.lookup y = some .free:=hy
  rcases hy with hy | hy
  ·exact cell_has hy
  ·exact absurd rfl (S.nofree _ (PySem.mem_of_lookup hy))
 ·exact Nat.le_of_lt (x.above y c (PySem.mem_of_lookup h))
 ·have hi : i < vs.length:=by
   unfold start at h2
   by_cases hi : i < vs.length
   ·exact hi
   ·rw [List.getElem?_append_right (by simpa using hi)] at h2
    rw [List.getElem?_replicate] at h2
    split at h2 <;> cases h2
  have ha : vs[i]? = some v:=by
   unfold start at h2
   rw [List.getElem?_append_left (by simpa using hi), List.getElem?_map] at h2
   cases e : vs[i]? with
   | none=>rw [e] at h2; cases h2
   | some a=>rw [e] at h2; cases h2; rfl
  obtain ⟨u, hu, rv⟩:=r.get ha
  have hp : ps[i]? = some y:=by
   rw [← S.pre, List.getElem?_take_of_lt (by omega)]; exact h1
  have ndP : ps.Nodup:=by rw [← S.pre]; exact S.nd.sublist (List.take_sublist _ _)
  refine ⟨u, rv, ?_⟩
  rcases S.par y (List.mem_of_getElem? hp) with k | k
  ·exact .inl ⟨k, bindL_get ndP hp hu k⟩
  ·obtain ⟨c, e⟩:=cell_has (n:=s.heap.objs.size + 1) k
   refine .inr ⟨.inl k, c, e, ?_⟩
   have q:=x.cell y c e
   rw [bindC_get ndP hp hu (by show scope.names.lookup y≠_; rw [k]; decide)] at q
   exact q
 ·exact e0.hok.fresh (Nat.le_of_lt (x.above y c (PySem.mem_of_lookup h)))
 ·unfold start
  show _ = N.length
  rw [List.length_append, List.length_map, List.length_replicate]
  omega
theorem fn_of {CX : CXT} {P : Program} {w : World} {K : PySem.W.Frag} {mg : Str->Option Value} {base : Heap} {k : Nat} {f : Addr} {name qual : Str} {params : Arguments} {body : List Stmt} {scope : Scope} {dV kV doc pm cdv ct oc : Value} {an od : Option Addr}
  {osl : Array (Option Value)} {N ps : List Str} {sp : Sp} (lk : K.lookup f = some ⟨oc, od, .func (PySem.W.fnOf name qual params body scope dV kV doc pm an cdv ct), osl⟩) (hcd : PySem.W.codeIn K cdv qual = true) (S : FnScope N ps scope)
  (len : ∀ vs H Q E, sp vs H Q E->vs.length = ps.length)
  (hbody : ∀ (A : Around) (outer : List Env) (s : Shared) (H : Hp) (vs : List V) (Q : VK) (E : XK), Room k (A.deeper (envOfC qual scope s.heap.objs.size f cdv))->sp vs H Q E ->
   ∃ t, PSs (cxOf CX P w K mg base N qual scope f cdv A outer s H E) body t/\t { nx:=fun _ H'=>Q .non H', rt:=Q } (start N vs) H) :
  FnOk P w K mg base CX (k + 1) f (PySem.W.fnOf name qual params body scope dV kV doc pm an cdv ct) ps sp:=by
 refine ⟨len, fun A outer s H args us vs Q E hr e0 hb r hsp=>?_⟩
 have hl:=len _ _ _ _ hsp
 have KX : K.In s.heap:=e0.mod.kin.keeps fun b o e=>(e0.bs b o e).1
 have lim : s.heap.NoLimit:=e0.mod.nolimit.keeps fun b o e=>(e0.bs b o e).1
 have hkind : ∀ y∈ps.zip us, scope.names.lookup y.1 = some .local\/(scope.names.lookup y.1 = some .cell/\((cellsFrom (s.heap.objs.size + 1) scope.names []).lookup y.1).isSome = true):=fun ⟨n, v⟩ hy=>by
  rcases S.par n (List.of_mem_zip hy).1 with q | q
  ·exact .inl q
  ·exact .inr ⟨q, PySem.W.cellsFrom_some _ _ _ (.inl q)⟩
 refine codeAny_call_function hr.depth (KX _ _ lk) rfl S.co S.gen rfl (PySem.W.codeRec_of KX hcd) (hb _ _ _ _ ?_)
 refine wpAny_newFunctionEnv_cells S.kind hkind fun env he s1 x=>?_
 subst he
 refine ⟨lim.keeps x.toInCall.keep, codeAny_func ?_⟩
 obtain ⟨t, ht, hq⟩:=hbody A outer s H vs Q E (hr.deeper _) hsp
 have I : Inv (cxOf CX P w K mg base N qual scope f cdv A outer s H E) [] (start N vs) H s1:=inv_start S hr.hd e0 hl r x
 refine wpAny_mono (ht [] s1 (start N vs) H _ I hq) (fun fl s' hs=>?_) fun e s' hs=>hs
 have fin : ∀ {σ' : St} {H' : Hp} {v : V} {u : Value}, Inv (cxOf CX P w K mg base N qual scope f cdv A outer s H E) [] σ' H' s'->RelV v u->Q v H'->CE outer P w H s Q u s' :=
  fun {σ' H' v u} J rv q=>⟨v, H', J.os, J.bare, J.base, J.hok, rv, q⟩
 cases fl with
 | ret u =>
  obtain ⟨v, σ', H', J, rv, q⟩:=hs
  exact fin J rv q
 | next =>
  obtain ⟨σ', H', J, q⟩:=hs
  exact fin (v:=V.non) (u:=Value.none) J rfl q
 | brk =>
  obtain ⟨_, _, _, q⟩:=hs
  exact False.elim q
 | cont =>
  obtain ⟨_, _, _, q⟩:=hs
  exact False.elim q
section
variable {X : Cx} {x : Str} {p pos : Pos} {e : Expr} {es : List Expr} {t : TA} {id T : String} {r : List V->Hp->VK->Prop}
noncomputable def tCB (r : List V->Hp->VK->Prop) (t : TA) : TE:=fun σ H Q=>t σ H fun vs H1=>r vs H1 Q
theorem pe_callB (hc : CallR X (.builtin id) r) (hg : Gl X x) (hm : X.mg x = none) (hv : bootBuiltins x = some (.builtin id)) (ha : PA X (e :: es) t) (hn : x≠"__name__":=by decide) (hdb : (x == ("__debug__" : Str)) = false:=by decide)
  (he : starEach (e :: es) X.env = (false, eval e X.env) :: starEach es X.env:=by rfl) (hpl : (backTo pos (starEach es X.env)).any (·.1) = false:=by rfl) : PE X (.Call (.Name x p) (e :: es) [] pos) (tCB r t):=by
 intro pins s σ H Q I h
 refine wpAny_Call_Name_kw (ld_blt I hg hm hv ?_ hn hdb)
 exact PyProof.Rows.callWith_builtin1 (thn (ha pos pins s σ H _ I h) fun us s1 ⟨vs, H1, I1, r1, q1⟩=>hc pins s1 σ H1 vs us Q I1 r1 q1) he hpl
theorem pe_callTy (hc : CallR X (.type T) r) (hg : Gl X x) (hm : X.mg x = none) (hv : bootBuiltins x = some (.type T)) (ha : PA X (e :: es) t) (hn : x≠"__name__":=by decide) (hdb : (x == ("__debug__" : Str)) = false:=by decide)
  (he : starEach (e :: es) X.env = (false, eval e X.env) :: starEach es X.env:=by rfl) (hpl : (backTo pos (starEach es X.env)).any (·.1) = false:=by rfl) : PE X (.Call (.Name x p) (e :: es) [] pos) (tCB r t):=by
 intro pins s σ H Q I h
 refine wpAny_Call_Name_kw (ld_blt I hg hm hv ?_ hn hdb)
 exact PyProof.Rows.callWith_type1 (thn (ha pos pins s σ H _ I h) fun us s1 ⟨vs, H1, I1, r1, q1⟩=>hc pins s1 σ H1 vs us Q I1 r1 q1) he hpl
end
end L2
namespace HT
open PySem PyProof.Rows
section
open PySem.SeqAt
open PySem.AutoSeq1 (wpAny_loadPart')
open PySem.MeetsSeq PySem.MeetsSeq2 PySem.MeetsSeq3
end
section
variable {prog : Program} {w : World} {A : Around} {E : Value->Shared->Prop} {s : Shared}
theorem cat_tup {t b : Addr} {vs ws : List Value} {Q : Value->Shared->Prop} (ht : IsTup s.heap t vs.toArray) (hb : IsTup s.heap b ws.toArray) (hv : vs≠[])
  (h1 : ws = []->Q (.ref t) s) (h2 : ws≠[]->Q (.ref s.heap.objs.size) { s with heap:=s.heap.push { cls:=.type "tuple", data:=.seq (vs ++ ws).toArray } })
  (hsz : vs.length + ws.length<=sizeLine) : wpAny (model prog w) A (binaryOp .Add (.ref t) (.ref b)) Q E s:=by
 obtain ⟨⟨cls, dd, data, sl⟩, ho, hc, n, hd⟩:=id ht
 obtain ⟨⟨cls2, dd2, data2, sl2⟩, ho2, hc2, n2, hd2⟩:=id hb
 simp only at hc hd hc2 hd2
 subst hc hd hc2 hd2
 have e : vs.toArray ++ ws.toArray = (vs ++ ws).toArray:=by simp
 by_cases hw : ws = []
 ·exact concat_meets ⟨_, ho, rfl⟩ ⟨_, ho2, rfl⟩ noFill_tuple_add seq_tuple_add PySem.F.slot_tuple_add PySem.F.entry_tuple_add (PySem.F.args_tuple_add_2 _ _)
   (tuple_addW1 t b vs.toArray ws.toArray n n2 dd dd2 sl sl2 (by simpa using hv) (by simp [hw])) ⟨ho, ho2, h1 hw⟩
 ·refine concat_meets ⟨_, ho, rfl⟩ ⟨_, ho2, rfl⟩ noFill_tuple_add seq_tuple_add PySem.F.slot_tuple_add PySem.F.entry_tuple_add (PySem.F.args_tuple_add_2 _ _)
   (tuple_addW2 t b vs.toArray ws.toArray n n2 dd dd2 sl sl2 (by simpa using hv) (by simpa using hw) (by rw [List.size_toArray, List.size_toArray]; exact hsz)) ⟨ho, ho2, ?_⟩
  rw [e]
  exact h2 hw
noncomputable def sIx (n d : Nat) : Option Int->Nat
 | none=>d
 | some v=>if v < 0 then (v + (n : Int)).toNat else min v.toNat n
theorem sIx_nat (n d k : Nat) : sIx n d (some (k : Int)) = min k n:=by
 show (if (k : Int) < 0 then ((k : Int) + (n : Int)).toNat else min (k : Int).toNat n) = min k n
 rw [if_neg (by omega), Int.toNat_natCast]
theorem sIx_le (n d : Nat) (hd : d<=n) (o : Option Int) : sIx n d o<=n:=by
 cases o with
 | none=>exact hd
 | some v =>
  show (if v < 0 then (v + (n : Int)).toNat else min v.toNat n)<=n
  by_cases hv : v < 0
  ·rw [if_pos hv]; omega
  ·rw [if_neg hv]; exact Nat.min_le_right _ _
theorem clip_eq (v : Int) (n d : Nat) : (if v < 0 then max (v + (n : Int)) 0 else min v (n : Int)) = ((sIx n d (some v) : Nat) : Int):=by
 show (if v < 0 then max (v + (n : Int)) 0 else min v (n : Int)) = (((if v < 0 then (v + (n : Int)).toNat else min v.toNat n) : Nat) : Int)
 by_cases hv : v < 0
 ·simp only [if_pos hv]; omega
 ·simp only [if_neg hv]; omega
theorem adjust_gen (lo hi : Option Int) (n : Nat) : Builtin.Slice.sliceAdjust lo hi 1 (n : Int) = (((sIx n 0 lo : Nat) : Int), ((sIx n n hi : Nat) : Int)):=by
 have h1 : ¬ ((1 : Int) < 0):=by omega
 unfold Builtin.Slice.sliceAdjust
 simp only [h1, if_false]
 refine Prod.ext ?_ ?_
 ·cases lo with
  | none=>rfl
  | some v=>exact clip_eq v n 0
 ·cases hi with
  | none=>rfl
  | some v=>exact clip_eq v n n
theorem places_gen (i j : Nat) : Builtin.Slice.slicePlaces (i : Int) (j : Int) 1 = j - i:=by
 unfold Builtin.Slice.slicePlaces
 have h1 : (1 : Int) > 0:=by omega
 simp only [h1, if_true, Int.ediv_one]
 split <;> omega
theorem slicePart_ {v : Value} {o : Option Int} {Q : Option Int->Shared->Prop} (p : IsPart v o) (h : Q o s) : wpAny (model prog w) A (Builtin.Slice.slicePartIndex v) Q E s:=by
 cases p with
 | none=>exact slicePart_none h
 | int i t=>exact slicePart_int h
theorem sliceApplied_gen {sl : Addr} {vl vu : Value} {lo hi : Option Int} {n : Nat} {Q : Int × Int × Nat->Shared->Prop} (hs : s.heap.IsSliceOf sl vl vu .none) (pl : IsPart vl lo) (pu : IsPart vu hi)
  (h : Q (((sIx n 0 lo : Nat) : Int), 1, sIx n n hi - sIx n 0 lo) s) : wpAny (model prog w) A (Builtin.Slice.sliceApplied (.ref sl) (pure (n : Int))) Q E s:=by
 obtain ⟨os, hos, hcs, hds⟩:=id hs
 unfold Builtin.Slice.sliceApplied Builtin.Slice.sliceFields
 refine wpAny_bind (wpAny_bind (wpAny_field hos hds (x:=vl) rfl (wpAny_bind (wpAny_field hos hds (x:=vu) rfl (wpAny_bind (wpAny_field hos hds (x:=.none) rfl (wpAny_pure ?_)))))))
 refine wpAny_bind (slicePart_none ?_)
 show wpAny _ _ (if ((1 : Int) == 0) = true then _ else _) _ _ s
 rw [if_neg (by decide)]
 refine wpAny_bind (slicePart_ pl (wpAny_bind (slicePart_ pu (wpAny_bind (wpAny_pure ?_)))))
 show wpAny _ _ (match Builtin.Slice.sliceAdjust lo hi 1 (n : Int) with | (lo, hi)=>pure (lo, (1 : Int), Builtin.Slice.slicePlaces lo hi 1)) _ _ s
 rw [adjust_gen lo hi n]
 show wpAny _ _ (pure (((sIx n 0 lo : Nat) : Int), (1 : Int), Builtin.Slice.slicePlaces ((sIx n 0 lo : Nat) : Int) ((sIx n n hi : Nat) : Int) 1)) _ _ s
 rw [places_gen]
 exact wpAny_pure h
theorem pick_gen (xs : Array Value) (i k : Nat) : ((List.range k).filterMap fun (m : Nat)=>xs[((i : Int) + (m : Int) * 1).toNat]?).toArray = ((xs.toList.drop i).take k).toArray:=by
 have e : (fun (m : Nat)=>xs[((i : Int) + (m : Int) * 1).toNat]?) = fun m=>xs[i + m]?:=by
  funext m
  have : ((i : Int) + (m : Int) * 1).toNat = i + m:=by omega
  rw [this]
 rw [e]
 have:=pick_run xs i k
 rw [List.filterMap_map] at this
 have e2 : ((fun x=>xs[x]?) ∘ fun x=>i + x) = fun m=>xs[i + m]?:=rfl
 rw [e2] at this
 rw [this]
theorem getItem_tuple_cut {t sl : Addr} {items : Array Value} {vl vu : Value} {lo hi : Option Int} {Q : Value->Shared->Prop} (ht : IsTup s.heap t items) (hs : s.heap.IsSliceOf sl vl vu .none) (pl : IsPart vl lo) (pu : IsPart vu hi)
  (hw : ¬ (sIx items.size 0 lo = 0/\sIx items.size items.size hi = items.size))
  (h : Q (.ref s.heap.objs.size) { s with heap:=s.heap.push { cls:=.type "tuple", data:=.seq ((items.toList.drop (sIx items.size 0 lo)).take (sIx items.size items.size hi - sIx items.size 0 lo)).toArray } })
  (hsz : items.size<=sizeLine) : wpAny (model prog w) A (getItem (.ref t) (.ref sl)) Q E s:=by
 have htake : sizeOk (.seq ((items.toList.drop (sIx items.size 0 lo)).take (sIx items.size items.size hi - sIx items.size 0 lo)).toArray):=by
  show ((items.toList.drop (sIx items.size 0 lo)).take (sIx items.size items.size hi - sIx items.size 0 lo)).toArray.size<=sizeLine
  rw [List.size_toArray, List.length_take, List.length_drop, Array.length_toList]
  omega
 have hj : sIx items.size items.size hi<=items.size:=sIx_le _ _ (Nat.le_refl _) hi
 obtain ⟨os, hos, hcs, hds⟩:=id hs
 have hTs : s.TypeIs (.ref sl) "slice":=⟨os, hos, hcs⟩
 unfold getItem
 try with_reducible refine wpAny_holding ?_
 first | refine wpAny_bind (wpAny_pure ?_) | skip
 refine wpAny_bind (wpAny_sequenceKey ht.typeIs (by decide) ?_)
 refine wpAny_bind (wpAny_callSpecial?_slot (name:=Str.ofString "__getitem__") ht.typeIs PyProof.Rows.slot_tuple_getitem
  (wpAny_call_entry PyProof.Rows.slot_tuple_getitem ht.typeIs entry_tuple_getitem ?_ (args_tuple_getitem _ _)))
 show wpAny _ _ (Builtin.Tuple.tupleItemsOf (.ref t) >>= _) _ _ s
 refine wpAny_bind (tupleItemsOf_ ht ?_)
 refine wpAny_bind (wpAny_typeOf hTs ?_)
 rw [if_pos (by decide)]
 refine wpAny_bind (sliceApplied_gen hs pl pu ?_)
 have hno : ¬ ((((sIx items.size 0 lo : Nat) : Int) == 0 && (1 : Int) == 1 && (sIx items.size items.size hi - sIx items.size 0 lo) == items.size) = true):=by
  intro q
  rw [Bool.and_eq_true, Bool.and_eq_true] at q
  have q1 : ((sIx items.size 0 lo : Nat) : Int) = 0:=eq_of_beq q.1.1
  have q2 : sIx items.size items.size hi - sIx items.size 0 lo = items.size:=eq_of_beq q.2
  exact hw ⟨by omega, by omega⟩
 show wpAny _ _ (if (((sIx items.size 0 lo : Nat) : Int) == 0 && (1 : Int) == 1 && (sIx items.size items.size hi - sIx items.size 0 lo) == items.size) = true then _ else _) _ _ s
 rw [if_neg hno, pick_gen]
 first
  | exact wpAny_bind (m:=Builtin.Tuple.tupleExact _) (wpAny_newObj_type (wpAny_pure ⟨_, rfl, wpAny_pure h⟩) htake)
  | exact wpAny_bind (m:=Builtin.Tuple.tupleExact _) (wpAny_newObj_type (wpAny_bind (wpAny_pure (wpAny_pure ⟨_, rfl, wpAny_pure h⟩))) htake)
  | exact wpAny_bind (wpAny_bind (m:=Builtin.Tuple.tupleExact _) (wpAny_newObj_type (wpAny_pure (wpAny_pure ⟨_, rfl, wpAny_pure h⟩)) htake))
  | exact wpAny_bind (wpAny_bind (m:=Builtin.Tuple.tupleExact _) (wpAny_newObj_type (wpAny_pure ⟨_, rfl, wpAny_pure h⟩) htake))
end
end HT
namespace L2
open PySem PySem.Spec PyProof.Rows
noncomputable abbrev TO:=St->Hp->(Option Int->Hp->Prop)->Prop
noncomputable def PO (X : Cx) (e : Option Expr) (t : TO) : Prop :=
 ∀ (pins : List (Addr × Obj)) (s : Shared) (σ : St) (H : Hp) (Q : Option Int->Hp->Prop), Inv X pins σ H s->t σ H Q ->
  wpAny (model X.prog X.w) X.A (evalPart e X.env) (fun u s'=>∃ o H', Inv X pins σ H' s'/\IsPart u o/\Q o H') X.xe s
noncomputable def tNoPart : TO:=fun _ H Q=>Q none H
noncomputable def tPart (t : TE) : TO:=fun σ H Q=>t σ H fun x H1=>∃ i, x = .int i/\Q (some i) H1
theorem intsAre_of {ns : List Int} : ∀ {us : List Value}, Vals (ns.map V.int) us->IntsAre us ns:=by
 induction ns with
 | nil=>intro us r; rw [List.map_nil] at r; cases r; exact .nil
 | cons n ns ih =>
  intro us r
  rw [List.map_cons] at r
  cases r with
  | cons r1 r2 =>
   obtain ⟨t, e⟩:=r1
   subst e
   exact .cons n t (ih r2)
section
variable {X : Cx} {e : Expr} {te : TE} {lo hi : Option Expr} {tl th : TO} {pos p2 : Pos}
theorem po_none : PO X none tNoPart:=by
 intro pins s σ H Q I h
 rw [evalPart_none]
 exact wpAny_pure ⟨none, H, I, .none, h⟩
theorem po_some (h : PE X e te) : PO X (some e) (tPart te):=by
 intro pins s σ H Q I hw
 rw [evalPart_some]
 refine thn (h pins s σ H _ I hw) fun u s1 ⟨x, H1, I1, r1, q1⟩=>?_
 obtain ⟨i, rfl, q⟩:=q1
 obtain ⟨t, rfl⟩:=r1
 exact ⟨some i, H1, I1, .int i t, q⟩
noncomputable def SlR (X : Cx) (r : V->Option Int->Option Int->Hp->VK->Prop) : Prop :=
 ∀ (pins : List (Addr × Obj)) (s : Shared) (σ : St) (H : Hp) (x : V) (v vl vu : Value) (lo hi : Option Int) (sl : Addr) (Q : VK), Inv X pins σ H s->RelV x v->s.heap.IsSliceOf sl vl vu .none->IsPart vl lo->IsPart vu hi->r x lo hi H Q ->
  ∃ T id, typeLookup (.type T) "__getitem__" = pure (some (.builtin id))/\s.TypeIs v T/\wpAny (model X.prog X.w) X.A (getItem v (.ref sl)) (EP X pins σ Q) X.xe s
theorem SlR.or {r r' : V->Option Int->Option Int->Hp->VK->Prop} (h : SlR X r) (h' : SlR X r') : SlR X (fun x lo hi H Q=>r x lo hi H Q\/r' x lo hi H Q):=by
 intro pins s σ H x v vl vu lo hi sl Q I rx hs pl pu q
 rcases q with q | q
 ·exact h pins s σ H x v vl vu lo hi sl Q I rx hs pl pu q
 ·exact h' pins s σ H x v vl vu lo hi sl Q I rx hs pl pu q
noncomputable def tSl (r : V->Option Int->Option Int->Hp->VK->Prop) (te : TE) (tl th : TO) : TE:=fun σ H Q=>te σ H fun x H1=>tl σ H1 fun l H2=>th σ H2 fun u H3=>r x l u H3 Q
theorem pe_slice {r : V->Option Int->Option Int->Hp->VK->Prop} (hr : SlR X r) (he : PE X e te) (hl : PO X lo tl) (hu : PO X hi th) : PE X (.Subscript e (.Slice lo hi none p2) pos) (tSl r te tl th):=by
 intro pins s σ H Q I h
 refine Subscript_ (thn (he pins s σ H _ I h) fun v s1 ⟨x, H1, I1, r1, q1⟩=>?_)
 refine wpAny_Slice (thn (hl pins s1 σ H1 _ I1 q1) fun vl s2 ⟨l, H2, I2, pl, q2⟩=>thn (hu pins s2 σ H2 _ I2 q2) fun vu s3 ⟨u, H3, I3, pu, q3⟩=>?_)
 rw [evalPart_none]
 refine wpAny_pure ?_
 have I4 : Inv X pins σ H3 { s3 with heap:=s3.heap.push { cls:=.type "slice", data:=.fields #[vl, vu, .none] } }:=I3.kept (t':=s3.toks) fun b ob q=>Heap.get?_push_of_some _ q
 obtain ⟨T, id, hT, ht, hg⟩:=hr pins { s3 with heap:=s3.heap.push { cls:=.type "slice", data:=.fields #[vl, vu, .none] } } σ H3 x v vl vu l u s3.heap.objs.size Q I4 r1 (Heap.IsSliceOf.new ..) pl pu q3
 show wpAny (model X.prog X.w) X.A (subscriptTail e (.Slice lo hi none p2) v (.ref s3.heap.objs.size)) (EP X pins σ Q) X.xe { s3 with heap:=s3.heap.push { cls:=.type "slice", data:=.fields #[vl, vu, .none] } }
 exact tail_any (ops:=[.ref s3.heap.objs.size, v]) ht hT hg (by with_unfolding_all rfl)
noncomputable def cutV (xs : List V) (lo hi : Option Int) : List V:=(xs.drop (HT.sIx xs.length 0 lo)).take (HT.sIx xs.length xs.length hi - HT.sIx xs.length 0 lo)
theorem cutV_length (xs : List V) (lo hi : Option Int) : (cutV xs lo hi).length<=xs.length:=by
 unfold cutV
 rw [List.length_take, List.length_drop]
 omega
noncomputable def rSlT (K : PySem.W.Frag) : V->Option Int->Option Int->Hp->VK->Prop:=fun x lo hi H Q=>∃ a xs, x = .ref a/\SqT K H a xs /\
 ¬ (HT.sIx xs.length 0 lo = 0/\HT.sIx xs.length xs.length hi = xs.length)/\∀ p, H p = none->Q (.ref p) (upd H p (.tup (cutV xs lo hi)))
theorem sl_tup : SlR X (rSlT X.K):=by
 intro pins s σ H x v vl vu lo hi sl Q I rx hs pl pu h
 obtain ⟨a, xs, rfl, hx, hw, q⟩:=h
 cases rx
 obtain ⟨its, r, ht, hz⟩:=I.tuple hx
 have hlen : its.toArray.size = xs.length:=by rw [List.size_toArray]; exact r.length.symm
 refine ⟨"tuple", _, PyProof.Rows.slot_tuple_getitem.lookup, ht.typeIs, ?_⟩
 refine HT.getItem_tuple_cut ht hs pl pu (by rw [hlen]; exact hw) ?_ (by rw [hlen]; exact hz)
 rw [hlen]
 refine ⟨.ref s.heap.objs.size, _, I.laid (t':=s.toks) (o:=.tup (cutV xs lo hi)) (fun b ob q=>Heap.get?_push_of_some _ q) (Nat.le_refl _) ?_, rfl, q _ (I.hok.fresh (Nat.le_refl _))⟩
 exact ⟨Nat.le_trans (cutV_length xs lo hi) hz, _, (r.drop (HT.sIx xs.length 0 lo)).take (HT.sIx xs.length xs.length hi - HT.sIx xs.length 0 lo), IsTup.new _ _⟩
noncomputable def rCatT (K : PySem.W.Frag) : R2:=fun x y H Q=>∃ a b xs ys, x = .ref a/\y = .ref b/\SqT K H a xs/\SqT K H b ys/\xs≠[]/\xs.length + ys.length<=sizeLine /\
 (ys = []->Q (.ref a) H)/\(ys≠[]->∀ p, H p = none->Q (.ref p) (upd H p (.tup (xs ++ ys))))
theorem Vals.nil_iff {xs : List V} {us : List Value} (r : Vals xs us) : us = []↔xs = []:=by
 cases r with
 | nil=>simp
 | cons _ _=>simp
theorem op_catT : OpR X (binaryOp .Add) (rCatT X.K):=by
 intro pins s σ H x y v u Q I rx ry h
 obtain ⟨a, b, xs, ys, rfl, rfl, ha, hb, hx, hz, q1, q2⟩:=h
 cases rx
 cases ry
 obtain ⟨its, r1, p1, _⟩:=I.tuple ha
 obtain ⟨its2, r2, p2, _⟩:=I.tuple hb
 refine HT.cat_tup p1 p2 (fun z=>hx (r1.nil_iff.mp z)) (fun z=>⟨.ref a, H, I, rfl, q1 (r2.nil_iff.mp z)⟩) (fun z=>?_) (by rw [← r1.length, ← r2.length]; exact hz)
 refine ⟨.ref s.heap.objs.size, _, I.laid (t':=s.toks) (o:=.tup (xs ++ ys)) (fun b ob q=>Heap.get?_push_of_some _ q) (Nat.le_refl _) ?_, rfl, q2 (fun w=>z (r2.nil_iff.mpr w)) _ (I.hok.fresh (Nat.le_refl _))⟩
 exact ⟨by rw [List.length_append]; exact hz, _, r1.append r2, IsTup.new _ _⟩
end
noncomputable def ixN (n : Nat) (i : Int) : Option Nat:=if 0<=i then (if i < n then some i.toNat else none) else if -(n : Int)<=i then some (i + n).toNat else none
noncomputable def atI {α : Type} (xs : List α) (i : Int) : Option α:=(ixN xs.length i).bind fun j=>xs[j]?
theorem ixN_seq {n : Nat} {i : Int} {j : Nat} (h : ixN n i = some j) : seqIndex? i n = some j/\j < n/\-(n : Int)<=i/\i < n:=by
 unfold ixN at h
 by_cases h0 : 0<=i
 ·rw [if_pos h0] at h
  by_cases h1 : i < n
  ·rw [if_pos h1] at h
   have e : i.toNat = j:=Option.some.inj h
   exact ⟨by rw [seqIndex_of h0 h1, e], by omega, by omega, h1⟩
  ·rw [if_neg h1] at h; cases h
 ·rw [if_neg h0] at h
  by_cases h1 : -(n : Int)<=i
  ·rw [if_pos h1] at h
   have e : (i + n).toNat = j:=Option.some.inj h
   exact ⟨by rw [seqIndex_neg (by omega) h1, e], by omega, h1, by omega⟩
  ·rw [if_neg h1] at h; cases h
theorem atI_get {α : Type} {xs : List α} {i : Int} {v : α} (h : atI xs i = some v) : ∃ j, seqIndex? i xs.length = some j/\xs[j]? = some v/\j < xs.length/\-(xs.length : Int)<=i/\i < xs.length:=by
 unfold atI at h
 cases e : ixN xs.length i with
 | none=>rw [e] at h; cases h
 | some j =>
  rw [e] at h
  obtain ⟨h1, h2, h3, h4⟩:=ixN_seq e
  exact ⟨j, h1, h, h2, h3, h4⟩
theorem atI_nat {α : Type} {xs : List α} {j : Nat} {v : α} (h : xs[j]? = some v) : atI xs (j : Int) = some v:=by
 have hj : j < xs.length:=(List.getElem?_eq_some_iff.mp h).1
 have e : ixN xs.length (j : Int) = some j:=by
  unfold ixN
  rw [if_pos (by omega), if_pos (by omega)]; simp
 unfold atI; rw [e]; exact h
noncomputable def PlainIx (b : Expr) : Prop:=∀ o i, subscripted b false o i = operate [o, i] (getItem o i)
noncomputable def IxR (X : Cx) (r : R2) : Prop :=
 ∀ (value slice : Expr) (pins : List (Addr × Obj)) (s : Shared) (σ : St) (H : Hp) (x y : V) (v u : Value) (Q : VK), Inv X pins σ H s->RelV x v->RelV y u->r x y H Q ->
  subscripted slice false v u = operate [v, u] (getItem v u)->wpAny (model X.prog X.w) X.A (subscriptTail value slice v u) (EP X pins σ Q) X.xe s
noncomputable def MtR (X : Cx) (id : String) (r : V->List V->Hp->VK->Prop) : Prop :=
 ∀ (pins : List (Addr × Obj)) (s : Shared) (σ : St) (H : Hp) (x : V) (xs : List V) (v : Value) (us : List Value) (Q : VK), Inv X pins σ H s->RelV x v->Vals xs us->r x xs H Q ->
  wpAny (model X.prog X.w) X.A (call (.builtin id) (v :: us)) (EP X pins σ Q) X.xe s
section
variable {X : Cx} {a b : Expr} {ta tb : TE} {pos : Pos}
theorem IxR.or {r r' : R2} (h : IxR X r) (h' : IxR X r') : IxR X (fun x y H Q=>r x y H Q\/r' x y H Q):=by
 intro value slice pins s σ H x y v u Q I rx ry q hs
 rcases q with q | q
 ·exact h value slice pins s σ H x y v u Q I rx ry q hs
 ·exact h' value slice pins s σ H x y v u Q I rx ry q hs
theorem pe_ix {r : R2} (hr : IxR X r) (ha : PE X a ta) (hb : PE X b tb) (hs : PlainIx b) : PE X (.Subscript a b pos) (tOp r ta tb):=by
 intro pins s σ H Q I h
 exact Subscript_ (binT ha hb I h fun v u s2 x y H2 I2 rx ry q=>hr a b pins s2 σ H2 x y v u Q I2 rx ry q (hs _ _))
noncomputable def rIxL (K : PySem.W.Frag) : R2:=fun x y H Q=>∃ p xs i v, x = .ref p/\y = .int i/\SqL K H p xs/\atI xs i = some v/\Q v H
noncomputable def rIxT (K : PySem.W.Frag) : R2:=fun x y H Q=>∃ p xs i v, x = .ref p/\y = .int i/\SqT K H p xs/\atI xs i = some v/\Q v H
theorem ix_list : IxR X (rIxL X.K):=by
 intro value slice pins s σ H x y v u Q I rx ry h hs
 obtain ⟨p, xs, i, z, rfl, rfl, hq, he, q⟩:=h
 cases rx
 obtain ⟨t, rfl⟩:=ry
 obtain ⟨its, r, pl, hz⟩:=I.list hq
 obtain ⟨j, h1, h2, h3, h4, h5⟩:=atI_get he
 obtain ⟨w, ew, rw'⟩:=r.get h2
 have hl:=r.length
 have hn:=line63
 have fin : EP X pins σ Q w s:=⟨z, H, I, rw', q⟩
 by_cases h0 : 0<=i
 ·have hj : i.toNat = j:=by
   rw [seqIndex_of h0 h5] at h1
   exact Option.some.inj h1
  exact item_listR pl.isList h0 (by omega) (by rw [hj]; simpa using ew) fin hs
 ·have hj : (i + (its.toArray.size : Int)).toNat = j:=by
   rw [seqIndex_neg (by omega) h4] at h1
   rw [List.size_toArray, ← hl]
   exact Option.some.inj h1
  exact subscriptTail_builtinR (x:=w) pl.isList.typeIs slot_list_getitem.lookup
   (wpAny_getItem_list_neg (Q:=fun r s'=>r = w/\EP X pins σ Q r s') pl.isList (by omega) (by rw [List.size_toArray] <;> omega) (by omega) (by rw [hj]; simpa using ew) ⟨rfl, fin⟩) hs
theorem ix_tup : IxR X (rIxT X.K):=by
 intro value slice pins s σ H x y v u Q I rx ry h hs
 obtain ⟨p, xs, i, z, rfl, rfl, hq, he, q⟩:=h
 cases rx
 obtain ⟨t, rfl⟩:=ry
 obtain ⟨its, r, pl, hz⟩:=I.tuple hq
 obtain ⟨j, h1, h2, h3, h4, h5⟩:=atI_get he
 obtain ⟨w, ew, rw'⟩:=r.get h2
 have hl:=r.length
 have hn:=line63
 have fin : EP X pins σ Q w s:=⟨z, H, I, rw', q⟩
 exact subscriptTail_builtinR (x:=w) pl.typeIs slot_tuple_getitem.lookup
  (getItem_tuple (j:=j) (Q:=fun r s'=>r = w/\EP X pins σ Q r s') pl (by omega) (by omega) (by rw [List.size_toArray, ← hl]; exact h1) (by simpa using ew) ⟨rfl, fin⟩) hs
theorem mapSeq_set (its : List Value) (n j : Nat) (u : Value) : Obj.mapSeq (·.setIfInBounds j u) { cls:=.type "list", data:=.seq its.toArray n } = { cls:=.type "list", data:=.seq (its.set j u).toArray n }:=by
 simp [Obj.mapSeq]
theorem Inv.lst {pins : List (Addr × Obj)} {σ : St} {H : Hp} {s : Shared} {p : Addr} {xs : List V} (I : Inv X pins σ H s) (h : H p = some (.lst xs)) :
  ∃ (its : List Value) (n : Nat), Vals xs its/\s.heap.get? p = some { cls:=.type "list", data:=.seq its.toArray n }/\xs.length<=sizeLine:=by
 obtain ⟨z, its, n, r, e⟩:=I.hok p _ h
 exact ⟨its, n, r, e, z⟩
theorem Inv.lstUpd {pins : List (Addr × Obj)} {σ : St} {H : Hp} {s : Shared} {p : Addr} {xs ys : List V} {its its' : List Value} {n n' : Nat} {f : Obj->Obj} (I : Inv X pins σ H s) (h : H p = some (.lst xs))
  (ho : s.heap.get? p = some { cls:=.type "list", data:=.seq its.toArray n }) (hf : f { cls:=.type "list", data:=.seq its.toArray n } = { cls:=.type "list", data:=.seq its'.toArray n' }) (r : Vals ys its') (hz : ys.length<=sizeLine) (t : Nat) :
  Inv X pins σ (upd H p (.lst ys)) { s with heap:=s.heap.update p f, toks:=t }:=by
 have e : (s.heap.update p f).get? p = some { cls:=.type "list", data:=.seq its'.toArray n' }:=by
  rw [Heap.get?_update_self f ho (by rw [hf] <;> rfl), hf]
 refine I.write (x:=p) (e:=p) (by rw [h]; trivial) (.inl rfl) (fun b u hb q=>(Heap.get?_update_other _ _ (Ne.symm hb)).trans q) ⟨_, e⟩ ?_
 exact ⟨hz, its', n', r, e⟩
noncomputable def rSetL : V->V->V->Hp->(Hp->Prop)->Prop:=fun o i v H Q=>∃ p xs k j, o = .ref p/\i = .int k/\H p = some (.lst xs)/\ixN xs.length k = some j/\Q (upd H p (.lst (xs.set j v)))
theorem set_list : PSet X rSetL:=by
 intro pins s σ H o i v ov iv u Q I ro ri rv h
 obtain ⟨p, xs, k, j, rfl, rfl, hp, hj, q⟩:=h
 cases ro
 obtain ⟨t, rfl⟩:=ri
 obtain ⟨its, n, r, ho, hz⟩:=I.lst hp
 obtain ⟨h1, h2, h3, h4⟩:=ixN_seq hj
 have hl:=r.length
 have hn:=line63
 have I' : Inv X pins σ (upd H p (.lst (xs.set j v))) { s with heap:=s.heap.update p (Obj.mapSeq (·.setIfInBounds j u)) } :=
  I.lstUpd hp ho (mapSeq_set its n j u) (r.set rv j) (by rw [List.length_set]; exact hz) s.toks
 by_cases h0 : 0<=k
 ·have hk : k.toNat = j:=by
   rw [seqIndex_of h0 h4] at h1
   exact Option.some.inj h1
  exact PySem.W.ki_setAt ho h0 (by omega) (by rw [List.size_toArray, ← hl]; exact h4) (by rw [hk]; exact ⟨_, I', q⟩)
 ·have hk : (k + (its.toArray.size : Int)).toNat = j:=by
   rw [seqIndex_neg (by omega) h3] at h1
   rw [List.size_toArray, ← hl]
   exact Option.some.inj h1
  exact PySem.W.ki_setBack ho (by omega) (by rw [List.size_toArray, ← hl]; exact h3) (by omega) (by rw [hk]; exact ⟨_, I', q⟩)
theorem slice_bounds (lo hi : Option Int) (n : Nat) : (sliceBounds lo hi none n).1 = ((HT.sIx n 0 lo : Nat) : Int)/\(sliceBounds lo hi none n).2.1 = ((HT.sIx n n hi : Nat) : Int)/\(sliceBounds lo hi none n).2.2 = 1:=by
 refine ⟨?_, ?_, rfl⟩
 ·cases lo with
  | none=>simp [sliceBounds, HT.sIx]
  | some i =>
   simp only [sliceBounds, HT.sIx, Option.getD_none, show (1 : Int) > 0 by decide, if_true]
   by_cases h : i < 0
   ·simp only [h, if_true] <;> omega
   ·simp only [h, if_false] <;> omega
 ·cases hi with
  | none=>simp [sliceBounds, HT.sIx]
  | some i =>
   simp only [sliceBounds, HT.sIx, Option.getD_none, show (1 : Int) > 0 by decide, if_true]
   by_cases h : i < 0
   ·simp only [h, if_true] <;> omega
   ·simp only [h, if_false] <;> omega
theorem slicePick_cut (its : List Value) (lo hi : Option Int) : slicePick its.toArray lo hi none = ((its.drop (HT.sIx its.length 0 lo)).take (HT.sIx its.length its.length hi - HT.sIx its.length 0 lo)).toArray:=by
 obtain ⟨h1, h2, h3⟩:=slice_bounds lo hi its.toArray.size
 unfold slicePick
 rw [h1, h2, h3]
 simp only [sliceRange_one, pick_run, List.size_toArray] <;> rfl
noncomputable def rSlL (K : PySem.W.Frag) : V->Option Int->Option Int->Hp->VK->Prop:=fun x lo hi H Q=>∃ a xs, x = .ref a/\SqL K H a xs/\∀ p, H p = none->Q (.ref p) (upd H p (.lst (cutV xs lo hi)))
theorem sl_list : SlR X (rSlL X.K):=by
 intro pins s σ H x v vl vu lo hi sl Q I rx hs pl pu h
 obtain ⟨a, xs, rfl, hx, q⟩:=h
 cases rx
 obtain ⟨its, r, ht, hz⟩:=I.list hx
 have hlen:=r.length
 refine ⟨"list", _, slot_list_getitem.lookup, ht.isList.typeIs, ?_⟩
 refine wpAny_getItem_list_slice ht.isList hs pl pu .none (by simp) ?_ (by rw [List.size_toArray] <;> omega)
 rw [slicePick_cut, ← hlen]
 refine ⟨.ref s.heap.objs.size, _, I.laid (t':=s.toks) (o:=.lst (cutV xs lo hi)) (fun b ob q=>Heap.get?_push_of_some _ q) (Nat.le_refl _) ?_, rfl, q _ (I.hok.fresh (Nat.le_refl _))⟩
 exact ⟨Nat.le_trans (cutV_length xs lo hi) hz, _, 0, (r.drop (HT.sIx xs.length 0 lo)).take (HT.sIx xs.length xs.length hi - HT.sIx xs.length 0 lo), Heap.get?_push_size _ rfl⟩
theorem call_len_seq : CallR X (.builtin "len") (fun xs H Q=>∃ p ys, xs = [.ref p]/\(SqL X.K H p ys\/SqT X.K H p ys)/\Q (.int ys.length) H):=by
 intro pins s σ H xs us Q I r h
 obtain ⟨p, ys, rfl, hq, q⟩:=h
 obtain ⟨u, rfl, rx⟩:=vals1 r
 cases rx
 have hn:=line63
 rcases hq with hq | hq
 ·obtain ⟨its, r', pl, hz⟩:=I.list hq
  have hlen:=r'.length
  exact Calls.call_len_list pl.isList (by simp only [List.size_toArray] <;> omega) ⟨.int ys.length, H, I.tok _, ⟨s.toks + 1, by rw [List.size_toArray, hlen]⟩, q⟩
 ·obtain ⟨its, r', pl, hz⟩:=I.tuple hq
  have hlen:=r'.length
  exact len_tuple pl (by simp only [List.size_toArray] <;> omega) ⟨.int ys.length, H, I.tok _, ⟨s.toks + 1, by rw [List.size_toArray, hlen]⟩, q⟩
theorem call_list_of : CallR X (.type "list") (fun xs H Q=>∃ p ys, xs = [.ref p]/\(SqL X.K H p ys\/SqT X.K H p ys)/\∀ l, H l = none->Q (.ref l) (upd H l (.lst ys))):=by
 intro pins s σ H xs us Q I r h
 obtain ⟨p, ys, rfl, hq, q⟩:=h
 obtain ⟨u, rfl, rx⟩:=vals1 r
 cases rx
 have fin : ∀ (its : List Value), Vals ys its->ys.length<=sizeLine->∀ (h' : Heap) (c' : Nat), (∀ b o', s.heap.get? b = some o'->h'.get? b = some o') ->
   h'.get? s.heap.objs.size = some { cls:=.type "list", dict:=none, data:=.seq its.toArray c', slots:=#[] }->EP X pins σ Q (.ref s.heap.objs.size) { s with heap:=h' }:=fun its r' hz h' c' kp e =>
  ⟨.ref s.heap.objs.size, _, I.laid (t':=s.toks) kp (Nat.le_refl _) (show ObjOk X.prog X.w _ h' _ (.lst ys) from ⟨hz, its, c', r', e⟩), rfl, q _ (I.hok.fresh (Nat.le_refl _))⟩
 rcases hq with hq | hq
 ·obtain ⟨its, r', pl, hz⟩:=I.list hq
  have hlen:=r'.length
  obtain ⟨o, ho, hc, n, hd⟩:=pl.isList
  exact call_list_seq p (.inl rfl) ho hc hd (fun h' c' kp e=>fin its r' hz h' c' kp e) (by simp only [List.size_toArray] <;> omega)
 ·obtain ⟨its, r', pl, hz⟩:=I.tuple hq
  have hlen:=r'.length
  obtain ⟨o, ho, hc, n, hd⟩:=pl
  exact call_list_seq p (.inr rfl) ho hc hd (fun h' c' kp e=>fin its r' hz h' c' kp e) (by simp only [List.size_toArray] <;> omega)
theorem call_tuple_of : CallR X (.type "tuple") (fun xs H Q=>∃ p ys, xs = [.ref p]/\((SqL X.K H p ys/\∀ l, H l = none->Q (.ref l) (upd H l (.tup ys)))\/(SqT X.K H p ys/\Q (.ref p) H))):=by
 intro pins s σ H xs us Q I r h
 obtain ⟨p, ys, rfl, h⟩:=h
 obtain ⟨u, rfl, rx⟩:=vals1 r
 cases rx
 rcases h with ⟨hq, q⟩ | ⟨hq, q⟩
 ·obtain ⟨its, r', pl, hz⟩:=I.list hq
  have hlen:=r'.length
  refine call_tuple_list pl.isList (fun h' kp=>?_) (by simp only [List.size_toArray] <;> omega)
  have I1 : Inv X pins σ H { s with heap:=h' }:=I.kept (t':=s.toks) kp
  have I2 : Inv X pins σ (upd H h'.objs.size (.tup ys)) { s with heap:=h'.push { cls:=.type "tuple", data:=.seq its.toArray } } :=
   I1.laid (t':=s.toks) (fun b o e=>Heap.get?_push_of_some _ e) (Nat.le_refl _) (show ObjOk X.prog X.w _ _ _ (.tup ys) from ⟨hz, its, r', IsTup.new _ _⟩)
  exact ⟨.ref h'.objs.size, _, I2, rfl, q _ (I1.hok.fresh (Nat.le_refl _))⟩
 ·obtain ⟨its, r', pl, hz⟩:=I.tuple hq
  exact call_tuple_same pl ⟨.ref p, H, I, rfl, q⟩
noncomputable def tyV (K : PySem.W.Frag) (T : String) (x : V) (H : Hp) : Prop:=match x with
 | .str _=>T = "str"
 | .int _=>T = "int"
 | .ref p=>(T = "list"/\∃ xs, SqL K H p xs)\/(T = "tuple"/\∃ o, K.lookup p = some o/\o.cls = .type "tuple"/\o.dict = none) ∨
   (T = "dict"/\((∃ kvs, H p = some (.dK kvs))\/∃ kvs, H p = some (.dT kvs)))\/(T = "set"/\∃ S n, H p = some (.set S n))
 | _=>False
theorem tyV_is {pins : List (Addr × Obj)} {σ : St} {H : Hp} {s : Shared} {T : String} {x : V} {v : Value} (I : Inv X pins σ H s) (r : RelV x v) (ty : tyV X.K T x H) :
  s.TypeIs v T/\∀ a, v = .ref a->∃ ob, s.heap.get? a = some ob/\ob.dict = none:=by
 cases x with
 | str z =>
  obtain ⟨t, rfl⟩:=r
  cases (show T = "str" from ty)
  exact ⟨typeIs_str s z t, fun _ e=>nomatch e⟩
 | int i =>
  obtain ⟨t, rfl⟩:=r
  cases (show T = "int" from ty)
  exact ⟨typeIs_int s i t, fun _ e=>nomatch e⟩
 | ref p =>
  cases r
  rcases ty with ⟨rfl, xs, hq⟩ | ⟨rfl, o, hk, hc, hd⟩ | ⟨rfl, hk⟩ | ⟨rfl, S, n, hk⟩
  ·obtain ⟨its, _, pl, _⟩:=I.list hq
   refine ⟨pl.isList.typeIs, fun a e=>?_⟩
   cases e
   obtain ⟨o, n, e, c, hd, _⟩:=pl
   exact ⟨o, e, hd⟩
  ·refine ⟨⟨o, I.kIn p o hk, hc⟩, fun a e=>?_⟩
   cases e
   exact ⟨o, I.kIn _ o hk, hd⟩
  ·have z : ∃ o, s.heap.get? p = some o/\o.ExactDict:=by
    rcases hk with ⟨kvs, hk⟩ | ⟨kvs, hk⟩
    ·obtain ⟨_, _, _, _, o, _, _, e, ex, _⟩:=I.hok p _ hk
     exact ⟨o, e, ex⟩
    ·obtain ⟨_, _, _, _, o, _, _, e, ex, _⟩:=I.hok p _ hk
     exact ⟨o, e, ex⟩
   obtain ⟨o, e, ex⟩:=z
   refine ⟨⟨o, e, ex.1⟩, fun a e2=>?_⟩
   cases e2
   exact ⟨o, e, ex.2.1⟩
  ·obtain ⟨o, _, _, _, e, ex, _⟩:=I.hok p _ hk
   refine ⟨⟨o, e, ex.1⟩, fun a e2=>?_⟩
   cases e2
   exact ⟨o, e, ex.2.1⟩
 | _=>exact False.elim ty
noncomputable def tBM (K : PySem.W.Frag) (T : String) (r : V->List V->Hp->VK->Prop) (to : TE) (t : TA) : TE:=fun σ H Q=>to σ H fun x H1=>tyV K T x H1/\t σ H1 fun xs H2=>r x xs H2 Q
variable {o e : Expr} {es : List Expr} {to : TE} {t : TA} {name : Str} {apos cpos : Pos} {T id : String} {r : V->List V->Hp->VK->Prop}
theorem pe_bm (pa : PlainAttrs T) (slot : Slot T name id) (hty : typeOf (.builtin id) = pure (.type "method_descriptor")) (hm : MtR X id r) (ho : PE X o to) (ha : PA X (e :: es) t)
  (hbase : attributeBase o name X.env (eval o X.env) = eval o X.env:=by rfl)
  (hfew : ((backTo cpos (starEach (e :: es) X.env)).all (fun x=>!x.1) && (backToKw cpos (keywordEach [] X.env)).all (fun x=>x.1.isSome)
   && decide ((e :: es).length + ([] : List Keyword).length + (if ([] : List Keyword).isEmpty then 0 else 1) < 30)) = true:=by rfl)
  (hline : (apos.endLine == cpos.line) = true:=by rfl) (hs : starEach (e :: es) X.env = (false, eval e X.env) :: starEach es X.env:=by rfl) (hplain : (backTo cpos (starEach es X.env)).any (·.1) = false:=by rfl) :
  PE X (.Call (.Attribute o name apos) (e :: es) [] cpos) (tBM X.K T r to t):=by
 intro pins s σ H Q I h
 refine wpAny_Call_method_late hbase hfew hline rfl (thn (ho pins s σ H _ I h) fun v s1 ⟨x, H1, I1, r1, ty, q1⟩=>?_)
 obtain ⟨h1, h2⟩:=tyV_is I1 r1 ty
 refine ⟨T, id, pa, slot, hty, h1, h2, ?_⟩
 have hA:=ha cpos pins s1 σ H1 _ I1 q1
 rw [hs] at hA ⊢
 refine Calls.callWith_builtin (by show (false || (backTo cpos (starEach es X.env)).any (·.1)) = false; rw [hplain] <;> rfl) (Calls.evalArgs_plain ?_)
 exact thn hA fun us s2 ⟨vs, H2, I2, r2, q2⟩=>hm pins s2 σ H2 x vs v us Q I2 r1 r2 q2
/- xs.append(e), list.index on a module's tuple .. are MtR facts of 06m -/
end
noncomputable def MtM (X : Cx) (id : String) (r : V->List V->Hp->VK->Prop) : Prop :=
 ∀ (pins : List (Addr × Obj)) (s : Shared) (σ : St) (H : Hp) (x : V) (xs : List V) (v : Value) (us : List Value) (Q : VK), Inv X pins σ H s->RelV x v->Vals xs us->r x xs H Q ->
  wpAny (model X.prog X.w) X.A (call (.builtin id) (v :: us)) (EP X pins σ Q) X.xe s
theorem Vals.one : ∀ {x : V} {us : List Value}, Vals [x] us->∃ u, us = [u]/\RelV x u
 | _, _, .cons r .nil=>⟨_, rfl, r⟩
theorem Vals.eraseIdx : ∀ {xs : List V} {us : List Value} (i : Nat), Vals xs us->Vals (xs.eraseIdx i) (us.eraseIdx i)
 | _, _, _, .nil=>.nil
 | _, _, 0, .cons _ t=>t
 | _, _, i + 1, .cons r t=>.cons r (Vals.eraseIdx i t)
theorem Vals.reverse {xs : List V} {us : List Value} (h : Vals xs us) : Vals xs.reverse us.reverse:=by
 induction h with
 | nil=>exact .nil
 | cons r t ih=>rw [List.reverse_cons, List.reverse_cons]; exact Vals.append ih (.cons r .nil)
theorem Vals.rep {xs : List V} {us : List Value} (h : Vals xs us) : ∀ k : Nat, Vals (List.replicate k xs).flatten (List.replicate k us).flatten
 | 0=>.nil
 | k + 1=>by
  rw [List.replicate_succ, List.replicate_succ, List.flatten_cons, List.flatten_cons]
  exact Vals.append h (Vals.rep h k)
theorem len_erase {α : Type} : ∀ (l : List α) (i : Nat), (l.eraseIdx i).length<=l.length
 | [], _=>Nat.le_refl _
 | _ :: _, 0=>Nat.le_succ _
 | _ :: r, i + 1=>Nat.succ_le_succ (len_erase r i)
theorem foldl_rep (its : List Value) : ∀ (k : Nat) (acc : List Value),
  List.foldl (fun x1 x2=>x1 ++ x2) acc.toArray (List.replicate k its.toArray) = (acc ++ (List.replicate k its).flatten).toArray
 | 0, acc=>by simp
 | k + 1, acc=>by
  have e : acc.toArray ++ its.toArray = (acc ++ its).toArray:=by simp
  have e2 : (acc ++ its) ++ (List.replicate k its).flatten = acc ++ (List.replicate (k + 1) its).flatten:=by
   rw [List.replicate_succ, List.flatten_cons, List.append_assoc]
  rw [← e2, ← foldl_rep its k (acc ++ its), ← e, List.replicate_succ, List.foldl_cons]
section
variable {X : Cx} {pins : List (Addr × Obj)} {σ : St} {H : Hp} {s : Shared} {l b : Addr} {xs ys zs : List V}
theorem Inv.lset {its its' : List Value} {n : Nat} {f : Array Value->Array Value} {t' : Nat} (I : Inv X pins σ H s) (hH : H l = some (.lst xs))
  (e : s.heap.get? l = some { cls:=.type "list", data:=.seq its.toArray n }) (hf : f its.toArray = its'.toArray) (hv : Vals ys its') (hz : ys.length<=sizeLine) :
  Inv X pins σ (upd H l (.lst ys)) { s with heap:=s.heap.update l (Obj.mapSeq f), toks:=t' }:=by
 have q:=PySem.IsL.update e f
 rw [hf] at q
 refine I.write (x:=l) (e:=l) (by rw [hH]; exact trivial) (.inl rfl) (fun b' u hb hu=>(Heap.get?_update_other s.heap (Obj.mapSeq f) (Ne.symm hb)).trans hu) ⟨_, q⟩ ?_
 exact ⟨hz, its', _, hv, q⟩
theorem Inv.lnew {its : List Value} {t' : Nat} (I : Inv X pins σ H s) (hv : Vals ys its) (hz : ys.length<=sizeLine) :
  Inv X pins σ (upd H s.heap.objs.size (.lst ys)) { s with heap:=s.heap.push { cls:=.type "list", data:=.seq its.toArray }, toks:=t' } :=
 I.laid (fun _ _ q=>Heap.get?_push_of_some _ q) (Nat.le_refl _) ⟨hz, its, 0, hv, Heap.get?_push_size _ rfl⟩
theorem Inv.fresh (I : Inv X pins σ H s) : H s.heap.objs.size = none:=I.hok.fresh (Nat.le_refl _)
theorem Inv.lstM (I : Inv X pins σ H s) (hH : H l = some (.lst xs)) : xs.length<=sizeLine/\∃ (its : List Value) (n : Nat), Vals xs its/\xs.length = its.length/\s.heap.get? l = some { cls:=.type "list", data:=.seq its.toArray n }:=by
 obtain ⟨z, its, n, r, e⟩:=I.hok l _ hH
 exact ⟨z, its, n, r, r.length, e⟩
theorem notLongL {n : Nat} (h : n<=sizeLine) : Builtin.List.listTooLong n = false:=by
 unfold Builtin.List.listTooLong
 exact decide_eq_false (by omega)
end
section
variable {X : Cx}
noncomputable def rAppend : V->List V->Hp->VK->Prop:=fun x vs H Q=>∃ l xs y, x = .ref l/\vs = [y]/\H l = some (.lst xs)/\xs.length < sizeLine/\Q .non (upd H l (.lst (xs ++ [y])))
theorem mt_append : MtM X "list.append" rAppend:=by
 intro pins s σ H x vs v us Q I rx rv h
 obtain ⟨l, xs, y, rfl, rfl, hH, hz, q⟩:=h
 cases rx
 obtain ⟨u, rfl, ru⟩:=rv.one
 obtain ⟨z, its, n, r, hl, e⟩:=I.lstM hH
 refine call_meets F.slot_list_append ⟨_, e, rfl⟩ F.entry_list_append (F.args_list_append_2 _ _) (PySem.list_append l its.toArray n u (by rw [List.size_toArray]; omega)) ⟨e, ?_⟩
 refine ⟨.non, _, I.lset (its':=its ++ [u]) hH e (by simp) (r.append (.cons ru .nil)) ?_, rfl, q⟩
 rw [List.length_append, List.length_singleton]
 omega
noncomputable def rExtend : V->List V->Hp->VK->Prop:=fun x vs H Q=>∃ l b xs zs, x = .ref l/\vs = [.ref b]/\H l = some (.lst xs)/\H b = some (.lst zs)/\xs.length + zs.length<=sizeLine/\Q .non (upd H l (.lst (xs ++ zs)))
theorem mt_extend : MtM X "list.extend" rExtend:=by
 intro pins s σ H x vs v us Q I rx rv h
 obtain ⟨l, b, xs, zs, rfl, rfl, hH, hB, hz, q⟩:=h
 cases rx
 obtain ⟨u, rfl, ru⟩:=rv.one
 cases ru
 obtain ⟨z, its, n, r, hl, e⟩:=I.lstM hH
 obtain ⟨z2, its2, n2, r2, hl2, e2⟩:=I.lstM hB
 have hsz : its.toArray.size + its2.toArray.size<=sizeLine:=by rw [List.size_toArray, List.size_toArray]; omega
 have hlong : ¬ (!its.toArray.isEmpty && Builtin.List.listTooLong (its.toArray.size + its2.toArray.size)) = true:=by
  rw [notLongL hsz, Bool.and_false]
  exact Bool.false_ne_true
 refine call_meets F.slot_list_extend ⟨_, e, rfl⟩ F.entry_list_extend (F.args_list_extend_2 _ _)
  (AutoSeq1.list_extend_list_list_0 l its.toArray n b its2.toArray n2 hlong (by rw [List.size_toArray]; omega) (by omega)) ⟨e, e2, ?_⟩
 refine ⟨.non, _, I.lset (its':=its ++ its2) hH e (by simp) (r.append r2) ?_, rfl, q⟩
 rw [List.length_append]
 omega
noncomputable def rPopAt : V->List V->Hp->VK->Prop:=fun x vs H Q=>∃ l xs i k y, x = .ref l/\vs = [.int i]/\H l = some (.lst xs)/\-(2 ^ 63)<=i/\i < 2 ^ 63/\seqIndex? i xs.length = some k/\xs[k]? = some y/\Q y (upd H l (.lst (xs.eraseIdx k)))
theorem mt_popAt : MtM X "list.pop" rPopAt:=by
 intro pins s σ H x vs v us Q I rx rv h
 obtain ⟨l, xs, i, k, y, rfl, rfl, hH, h1, h2, hk, hy, q⟩:=h
 cases rx
 obtain ⟨u, rfl, ru⟩:=rv.one
 obtain ⟨t, rfl⟩:=ru
 obtain ⟨z, its, n, r, hl, e⟩:=I.lstM hH
 obtain ⟨w, hw, rw'⟩:=r.get hy
 refine call_meets F.slot_list_pop ⟨_, e, rfl⟩ F.entry_list_pop (F.args_list_pop_2 _ _)
  (MeetsSeq.list_pop_at l its.toArray n i t k w (fitsIndex_both h1 h2) (by rw [List.size_toArray, ← hl]; exact hk) (by rw [← Array.getElem?_toList]; exact hw) (by rw [List.size_toArray]; omega)) ⟨e, ?_⟩
 refine ⟨y, _, I.lset (its':=its.eraseIdx k) hH e ?_ (r.eraseIdx k) ?_, rw', q⟩
 ·show its.toArray.eraseIdxIfInBounds k = (its.eraseIdx k).toArray
  rw [List.eraseIdxIfInBounds_toArray]
 ·have:=len_erase xs k
  omega
noncomputable def rCat : R2:=fun x y H Q=>∃ l b xs zs, x = .ref l/\y = .ref b/\H l = some (.lst xs)/\H b = some (.lst zs)/\xs.length + zs.length<=sizeLine/\∀ p, H p = none->Q (.ref p) (upd H p (.lst (xs ++ zs)))
theorem op_cat : OpR X (binaryOp .Add) rCat:=by
 intro pins s σ H x y v u Q I rx ry h
 obtain ⟨l, b, xs, zs, rfl, rfl, hH, hB, hz, q⟩:=h
 cases rx
 cases ry
 obtain ⟨z, its, n, r, hl, e⟩:=I.lstM hH
 obtain ⟨z2, its2, n2, r2, hl2, e2⟩:=I.lstM hB
 refine PySem.P.add_list e e2 ?_ (by rw [List.size_toArray, List.size_toArray]; omega)
 have ea : its.toArray ++ its2.toArray = (its ++ its2).toArray:=by simp
 rw [ea]
 exact ⟨.ref _, _, I.lnew (t':=s.toks) (r.append r2) (by rw [List.length_append]; omega), rfl, q _ I.fresh⟩
noncomputable def rRep : R2:=fun x y H Q=>∃ l k xs, x = .ref l/\y = .int k/\H l = some (.lst xs)/\-(2 ^ 63)<=k/\k < 2 ^ 63/\xs.length * k.toNat<=sizeLine /\
 ∀ p, H p = none->Q (.ref p) (upd H p (.lst (List.replicate k.toNat xs).flatten))
theorem len_rep {α : Type} (xs : List α) (k : Nat) : (List.replicate k xs).flatten.length = k * xs.length:=by
 induction k with
 | zero=>simp
 | succ k ih=>rw [List.replicate_succ, List.flatten_cons, List.length_append, ih, Nat.succ_mul, Nat.add_comm]
theorem op_rep : OpR X (binaryOp .Mult) rRep:=by
 intro pins s σ H x y v u Q I rx ry h
 obtain ⟨l, k, xs, rfl, rfl, hH, h1, h2, hz, q⟩:=h
 cases rx
 obtain ⟨t, rfl⟩:=ry
 obtain ⟨z, its, n, r, hl, e⟩:=I.lstM hH
 have hlen : its.toArray.size * k.toNat<=sizeLine:=by rw [List.size_toArray, ← hl]; exact hz
 have hcap : ¬ its.toArray.size * k.toNat > (2 ^ 63 - 1) / 8:=by
  have : (sizeLine : Nat)<=(2 ^ 63 - 1) / 8:=by decide
  omega
 have hfit : ¬ (!Builtin.List.listFitsIndex k) = true:=by
  rw [fitsIndex_both h1 h2]
  exact Bool.false_ne_true
 have hlong : ¬ Builtin.List.listTooLong (its.toArray.size * k.toNat) = true:=by
  rw [notLongL hlen]
  exact Bool.false_ne_true
 have hnew : List.foldl (fun x1 x2=>x1 ++ x2) #[] (List.replicate (if its.toArray.isEmpty = true then 0 else k.toNat) its.toArray) = (List.replicate k.toNat its).flatten.toArray:=by
  have f0 : ∀ m : Nat, List.foldl (fun x1 x2=>x1 ++ x2) #[] (List.replicate m its.toArray) = (List.replicate m its).flatten.toArray:=fun m=>by
   have:=foldl_rep its m []
   rw [List.nil_append] at this
   exact this
  rw [f0]
  cases its with
  | nil=>simp
  | cons a r'=>rw [if_neg (by simp)]
 refine wpAny_binaryOp_repeat_ref (T:="list") (U:="int") (by decide) ⟨_, e, rfl⟩ (fun s'=>typeIs_int s' k t) noFill_list_mul F.fills_int_mul F.slot_int_rmul repeat_list F.slot_int_index.lookup
  (call_meets F.slot_int_rmul (typeIs_int s k t) F.entry_int_rmul (F.args_int_rmul_2 _ _) (int___rmul___int_list k t l its.toArray n)
   ⟨e, rfl, ⟨_, e, rfl⟩, call_meets F.slot_list_mul ⟨_, e, rfl⟩ F.entry_list_mul (F.args_list_mul_2 _ _) (AutoListH.list___mul___list_int_3 l its.toArray n k t hfit hcap hlong) ⟨e, ?_⟩⟩)
 rw [hnew]
 exact ⟨.ref _, _, I.lnew (t':=s.toks) (r.rep k.toNat) (by rw [len_rep, Nat.mul_comm]; exact hz), rfl, q _ I.fresh⟩
end
section
variable {prog : Program} {w : World} {A : Around} {E : Value->Shared->Prop} {s : Shared}
end
section
variable {X : Cx}
end
end L2
namespace Att
open PySem PySem.W PySem.Calls PyProof.Rows
theorem ints_of_wellAll {P : Params} {h : Heap} : ∀ (ns : List Int) (vs : List Value), WellAll P h vs (ns.map WData.int)->IntsAre vs ns:=by
 intro ns
 induction ns with
 | nil =>
  intro vs w
  rw [List.map_nil] at w
  cases w
  exact .nil
 | cons n ns ih =>
  intro vs w
  rw [List.map_cons] at w
  cases w with
  | cons a b =>
   cases a
   exact .cons _ _ (ih _ b)
theorem script_of {l : OpenLaw} {n : Nat} (hn : l.most = some n) {P : Params} {h : Heap} {args : List WData} {vals : List Value}
  (hpre : l.row.toRowW.claim.pre args = true) (hwl : WellAll P h vals args) :
  ∃ a vs ns, vals = [Value.ref a]/\args = [WData.list (ns.map WData.int)]/\h.get? a = some { cls:=.type "list", data:=.seq vs.toArray }/\IntsAre vs ns/\ns.length<=n:=by
 have hsh : WShape.hasAll [] args [.list .int] = true:=(pre_splitW hpre).1
 have hc : l.pre.holds [] { args:=args } = true:=(pre_splitW hpre).2
 obtain ⟨d, r, rfl, h1, h2⟩:=hasAllW_cons hsh
 obtain rfl:=hasAllW_nil h2
 obtain ⟨xs, rfl, h3⟩:=hasW_list h1
 obtain ⟨ns, rfl⟩:=items_int h3
 have hlen : ns.length<=n:=by
  unfold OpenLaw.pre at hc
  have h4 : (WTm.not (.lt (.lit (.int (n : Int))) (.len (.arg 0)))).holds [] { args:=[.list (ns.map .int)] } = true:=by
   have h4:=(holds_andW hc).1
   rw [hn] at h4
   exact h4
  have h5:=condW_of h4 (w_not (w_lt w_lit (w_len_list (w_arg rfl))))
  rw [List.length_map] at h5
  refine Nat.le_of_not_lt fun q=>?_
  have q' : (n : Int) < ((ns.length : Nat) : Int):=by omega
  first
   | (rw [decide_eq_true q'] at h5; exact absurd h5 (by decide))
   | (simp at h5; omega)
 cases hwl with
 | cons w1 w2 =>
  cases w2
  cases w1 with
  | list ho hall=>exact ⟨_, _, ns, rfl, rfl, ho, ints_of_wellAll ns _ hall, hlen⟩
theorem post_true (l : OpenLaw) (args : List WData) : l.row.toRowW.claim.post args (.bool true) args = true :=
 postW_of (r:=l.row.toRowW) (X:=(true == true))
  (show WShape.has [] (.bool true) .bool = true by first | rfl | decide | simp [WShape.has, WShape.arms, WShape.armsAll])
  (show (WTm.eq .res (.lit (.bool true))).value [] { args:=args, res:=some (.bool true), after:=args } = some (.bool (true == true)) from w_eq_bool (w_res rfl) w_lit) rfl
theorem attach_call {l : OpenLaw} {n : Nat} {q : Program} {loose : List Str} {XP : (Str->Option Value)->Heap->Prop} {YP : World->Heap->Prop} {d : DefRec}
  (hn : l.most = some n) (hdf : d.params.defaults = [])
  (call : ∀ (w : World) (s₀ s₁ : Shared) (mg mb : Str->Option Value) (fa : Addr) (o : Obj) (pm cd doc : Value) (a : Addr) (vs : List Value) (ns : List Int),
   Ground q loose [] XP w s₀ mg mb s₁.heap->YP w s₁.heap ->
   s₁.heap.get? fa = some o->o.data = .func (docDef d.name d.params d.body d.scope pm cd doc)->s₁.heap.CodeRec cd d.name->mg d.name = some (.ref fa) ->
   s₁.heap.get? a = some { cls:=.type "list", data:=.seq vs.toArray }->IntsAre vs ns->ns.length<=n->s₁.gens = #[] ->
   codeAny (model l.prog w) callerA (.call (.ref fa) ⟨[.ref a], []⟩) (fun r s'=>r = .ok (.ret (.bool true))/\OldK s₁.heap s'.heap/\s'.os = s₁.os/\AllBare s'.gens) s₁) :
  WalkO q loose XP YP l.row.toRowW d [] (fun f vs=>PySem.call f vs):=by
 intro w s₀ s₁ mg mb G Y fa o pm cd doc dV kV ho hd hcd hD hmg hg args vals as hpre hlay hrd hwl hlo
 obtain rfl : dV = .none:=Dflts.none hD hdf
 obtain rfl : kV = .none:=Dflts.noKw hD
 obtain ⟨a, vs, ns, rfl, rfl, hobj, hints, hlen⟩:=script_of hn hpre hwl
 refine enter_call (codeAny_mono (call w s₀ s₁ mg mb fa o pm cd doc a vs ns G Y ho (fd_plain hd) hcd hmg hobj hints hlen hg) fun r s' hq=>?_)
 obtain ⟨rfl, h2, h3, h4⟩:=hq
 exact ⟨.inl ⟨.bool true, .bool true, [], rfl, fun _=>rfl, .bool true, post_true l _, fun _=>⟨List.Pairwise.nil, fun _ hm=>(nomatch hm)⟩⟩, h2, h3, h4⟩
section
variable {prog : Program} {w : World} {A : Around} {E : Value->Shared->Prop} {s : Shared} {K : Frag}
noncomputable def ledger (h : Heap) (L d : Addr) : List (Addr × Obj):=(List.range h.objs.size).filterMap fun a=>if a = L\/a = d then none else (h.get? a).map fun o=>(a, o)
end
end Att
namespace L2
open PySem PySem.Spec PyProof.Rows
theorem vals_ints : ∀ {vs : List Value} {ns : List Int}, IntsAre vs ns->Vals (ns.map V.int) vs
 | _, _, .nil=>.nil
 | _, _, .cons n t h=>.cons ⟨t, rfl⟩ (vals_ints h)
noncomputable def Only (H : Hp) : Prop:=∀ b, H b = none\/∃ o xs, H b = some (.frz o (.lst xs))
theorem law_call {P : Program} {w : World} {K : PySem.W.Frag} {mg mb : Str->Option Value} {CX : CXT} {k : Nat} {fa a : Addr} {fd : FuncData} {x : Str} {sp : Sp} {s₁ : Shared} {vs : List Value} {ns : List Int}
  (KX : K.In s₁.heap) (hns : s₁.heap.Ns mainGlobals mg) (hb : s₁.heap.Ns builtinsNs mb) (hbb : ∀ x : Str, x≠"__name__"->mb x = bootBuiltins x) (hlim : s₁.heap.NoLimit) (hg : s₁.gens = #[])
  (ha : s₁.heap.get? a = some { cls:=.type "list", data:=.seq vs.toArray }) (hi : IntsAre vs ns) (hl : ns.length<=sizeLine) (hr : Room k callerA)
  (F : ∀ base : Heap, K.In base->base.Ns mainGlobals mg->FnOk P w K mg base CX k fa fd [x] sp) (hbind : ∀ (s : Shared) (u : Value), BindsTo s fd ⟨[u], []⟩ [(x, u)])
  (hsp : ∀ H : Hp, Only H->SqL K H a (ns.map V.int)->sp [.ref a] H (fun v _=>v = .bl true) fun _ _ _=>False)
  (hCX : ∀ H e s', CX [] H s₁ (fun _ _ _=>False) e s'->False) :
  codeAny (model P w) callerA (.call (.ref fa) ⟨[.ref a], []⟩) (fun r s'=>r = .ok (.ret (.bool true))/\OldK s₁.heap s'.heap/\s'.os = s₁.os/\AllBare s'.gens) s₁:=by
 have rv:=vals_ints hi
 have lenV:=hi.length
 -- from an abstract heap in which nothing but the script may be tracked
 have core : ∀ H : Hp, Only H->SqL K H a (ns.map V.int)->HOk P w H s₁.heap->(∀ b, H b≠none->b = a)->(H a≠none->K.lookup a = none) ->
   codeAny (model P w) callerA (.call (.ref fa) ⟨[.ref a], []⟩) (fun r s'=>r = .ok (.ret (.bool true))/\OldK s₁.heap s'.heap/\s'.os = s₁.os/\AllBare s'.gens) s₁:=by
  intro H hO hS hok hA hK
  have base_of : ∀ {b : Addr} {o : Obj}, s₁.heap.get? b = some o->H b = none->(hidT s₁.heap H).get? b = some o:=fun e n=>hidT_get e n
  have noA : ∀ {b : Addr} {o : Obj} {es : Array DictEntry} {ep : Nat}, s₁.heap.get? b = some o->o.data = .dict es ep->H b = none:=fun {b o es ep} e d=>by
   cases q : H b with
   | none=>rfl
   | some u =>
    have e' : b = a:=hA b (by rw [q]; simp)
    subst e'
    rw [ha] at e; cases e
    have d' : Data.seq vs.toArray _ = Data.dict es ep:=d
    cases d'
  have nsK : ∀ {b : Addr} {m : Str->Option Value}, s₁.heap.Ns b m->(hidT s₁.heap H).Ns b m:=fun {b m} ⟨o, es, ep, e, d, r⟩=>⟨o, es, ep, base_of e (noA e d), d, r⟩
  have hKb : K.In (hidT s₁.heap H):=fun b o e=>base_of (KX b o e) (by
   cases q : H b with
   | none=>rfl
   | some u =>
    have e' : b = a:=hA b (by rw [q]; simp)
    subst e'
    rw [hK (by rw [q]; simp)] at e; cases e)
  have hM : Mod K mg (hidT s₁.heap H):=⟨hKb, nsK hns, ⟨mb, nsK hb, hbb⟩, let ⟨mc, h1, h2⟩:=hlim; ⟨mc, nsK h1, h2⟩⟩
  have e0 : Env0 P w K mg (hidT s₁.heap H) callerA [] s₁ H:=⟨rfl, hM, fun b o e=>of_hidT e, Nat.le_of_eq (hidT_size _ _), trivial, fun b hb=>absurd (show b∈([] : List Addr) from hb) (by simp), hok, .of_eq hg⟩
  refine codeAny_mono ((F _ hKb (nsK hns)).run callerA [] s₁ H ⟨[.ref a], []⟩ [.ref a] [.ref a] _ _ hr e0 (hbind s₁ (.ref a)) (.cons rfl .nil) (hsp H hO hS)) fun r s' h=>?_
  cases r with
  | error e=>exact (hCX H e s' h).elim
  | ok fl =>
   cases fl with
   | next=>exact False.elim h
   | brk=>exact False.elim h
   | cont=>exact False.elim h
   | ret u =>
    obtain ⟨v, H', os, bare, un, hok', r', q⟩:=h
    have q' : v = .bl true:=q
    subst q'
    obtain rfl : u = Value.bool true:=r'
    refine ⟨rfl, OldK.of_keep fun b o e=>?_, os, bare⟩
    cases q : H b with
    | none=>exact un.keep b o e q (by intro z; exact absurd (show b∈([] : List Addr) from z) (by simp)) (by simp)
    | some u =>
     rcases hO b with z | ⟨ob, xs, z⟩
     ·rw [q] at z; cases z
     ·have z2:=un.frzs b ob _ z
      obtain ⟨e1, _⟩:=hok b _ z
      obtain ⟨e2, _⟩:=hok' b _ z2
      rw [e] at e1; cases e1
      exact e2
 cases hk : K.lookup a with
 | some o =>
  -- the script is one of the module's own objects
  have e:=KX a o hk
  rw [ha] at e
  cases e
  refine core (fun _=>none) (fun _=>.inl rfl) (.inr ⟨_, vs.toArray, _, hk, rfl, rfl, rfl, by rw [List.size_toArray, lenV]; exact hl, by simpa using rv⟩) (fun b u z=>by have z' : (none : Option HO) = some u:=z; cases z') (fun b z=>absurd rfl z) fun z=>absurd rfl z
 | none =>
  refine core (fun b=>if b = a then some (.frz { cls:=.type "list", data:=.seq vs.toArray } (.lst (ns.map V.int))) else none) (fun b=>?_) (.inl (.inr ⟨{ cls:=.type "list", data:=.seq vs.toArray }, if_pos rfl⟩)) (fun b u z=>?_) (fun b z=>?_) fun _=>hk
  ·by_cases hb : b = a
   ·exact .inr ⟨_, _, if_pos hb⟩
   ·exact .inl (if_neg hb)
  ·by_cases hb : b = a
   ·have z':=(if_pos hb).symm.trans z
    cases z'
    subst hb
    exact ⟨ha, by rw [List.length_map]; exact hl, vs, _, rv, ha⟩
   ·have z':=(if_neg hb).symm.trans z
    cases z'
  ·by_cases hb : b = a
   ·exact hb
   ·exact absurd (if_neg hb) z
theorem walk_of {l : PySem.W.OpenLaw} {n k : Nat} {q : Program} {loose : List Str} {XP : (Str->Option Value)->Heap->Prop} {YP : World->Heap->Prop} {d : DefRec} {K : Params->PySem.W.Frag} {CX : World->CXT} {sp : World->Sp} {x : Str}
  (hn : l.most = some n) (hn2 : n<=sizeLine) (hdf : d.params.defaults = []) (hr : Room k callerA)
  (hY : ∀ (w : World) (h : Heap), YP w h->(K w.params).In h)
  (F : ∀ (w : World) (mg : Str->Option Value) (fa : Addr) (h : Heap), (K w.params).In h->h.Ns mainGlobals mg->mg d.name = some (.ref fa) ->
   ∃ fd : FuncData, (∀ (s : Shared) (u : Value), BindsTo s fd ⟨[u], []⟩ [(x, u)]) /\
    ∀ base : Heap, (K w.params).In base->base.Ns mainGlobals mg->FnOk l.prog w (K w.params) mg base (CX w) k fa fd [x] (sp w))
  (hsp : ∀ (w : World) (H : Hp) (a : Addr) (ns : List Int), ns.length<=n->Only H->SqL (K w.params) H a (ns.map V.int)->sp w [.ref a] H (fun v _=>v = .bl true) fun _ _ _=>False)
  (hCX : ∀ (w : World) (H : Hp) (s : Shared) (e : Value) (s' : Shared), CX w [] H s (fun _ _ _=>False) e s'->False) :
  PySem.W.WalkO q loose XP YP l.row.toRowW d [] (fun f vs=>PySem.call f vs):=by
 refine Att.attach_call hn hdf fun w s₀ s₁ mg mb fa o pm cd doc a vs ns G Y ho hd hcd hmg hobj hints hlen hg=>?_
 have KX:=hY w _ Y
 obtain ⟨fd, hb, hF⟩:=F w mg fa _ KX G.T.g hmg
 exact law_call KX G.T.g G.T.b G.T.builtins G.T.nolimit hg hobj hints (Nat.le_trans hlen hn2) hr hF hb (fun H hO hS=>hsp w H a ns hlen hO hS) fun H e s'=>hCX w H s₁ e s'
noncomputable def defArgs (s : Stmt) : Arguments:=match s with
 | .FunctionDef _ a _ _ _ _ _ _ _ _=>a
 | _=>{ posonlyargs:=[], args:=[], vararg:=none, kwonlyargs:=[], kw_defaults:=[], kwarg:=none, defaults:=[] }
noncomputable def defBody (s : Stmt) : List Stmt:=match s with
 | .FunctionDef _ _ b _ _ _ _ _ _ _=>b
 | _=>[]
noncomputable def defScope (s : Stmt) : Scope:=match s with
 | .FunctionDef _ _ _ _ _ _ sc _ _ _=>sc
 | _=>{ kind:=.function, names:=[], isGenerator:=false, isCoroutine:=false }
noncomputable abbrev CX0 : CXT:=fun _ _ _ _ _ _=>False
noncomputable abbrev E0 : XK:=fun _ _ _=>False
theorem pass0 {X : Cx} : Passes CX0 X E0:=fun _ _ _ _ _ _ _ h=>h.elim
structure Fun (K : PySem.W.Frag) (x qual : Str) (st : Stmt) (f : Addr) (fd : FuncData) : Prop where
 ex : ∃ (oc : Value) (od : Option Addr) (kV doc pm : Value) (an : Option Addr) (cdv ct : Value) (osl : Array (Option Value)),
  fd = PySem.W.fnOf x qual (defArgs st) (defBody st) (defScope st) .none kV doc pm an cdv ct/\K.lookup f = some ⟨oc, od, .func fd, osl⟩/\PySem.W.codeIn K cdv qual = true
 kp : PySem.W.keepIn K (.ref f) = true
section
variable {P : Program} {w : World} {K : PySem.W.Frag} {mg : Str->Option Value} {base : Heap}
theorem Fun.ok {x qual : Str} {st : Stmt} {f : Addr} {fd : FuncData} {N ps : List Str} {k : Nat} {sp : Sp} (F : Fun K x qual st f fd) (S : FnScope N ps (defScope st)) (len : ∀ vs H Q E, sp vs H Q E->vs.length = ps.length)
  (hbody : ∀ (cdv : Value) (A : Around) (outer : List Env) (s : Shared) (H : Hp) (vs : List V) (Q : VK) (E : XK), Room k (A.deeper (envOfC qual (defScope st) s.heap.objs.size f cdv))->sp vs H Q E ->
   ∃ t, PSs (cxOf CX0 P w K mg base N qual (defScope st) f cdv A outer s H E).nox (defBody st) t/\t { nx:=fun _ H'=>Q .non H', rt:=Q } (start N vs) H) : FnOk P w K mg base CX0 (k + 1) f fd ps sp:=by
 obtain ⟨oc, od, kV, doc, pm, an, cdv, ct, osl, rfl, lk, hcd⟩:=F.ex
 refine fn_of lk hcd S len fun A outer s H vs Q E hr hsp=>?_
 obtain ⟨t, h, q⟩:=hbody cdv A outer s H vs Q E hr hsp
 exact ⟨t, h.nox, q⟩
theorem Fun.binds {x qual : Str} {st : Stmt} {f : Addr} {fd : FuncData} {ps : List Str} (F : Fun K x qual st f fd)
  (h : ∀ (kV doc pm : Value) (an : Option Addr) (cdv ct : Value) (us : List Value), us.length = ps.length->bindArgs (PySem.W.fnOf x qual (defArgs st) (defBody st) (defScope st) .none kV doc pm an cdv ct) ⟨us, []⟩ = pure (ps.zip us)) : Binds K fd ps []:=by
 obtain ⟨oc, od, kV, doc, pm, an, cdv, ct, osl, rfl, lk, hcd⟩:=F.ex
 exact .all (h kV doc pm an cdv ct)
theorem fun_mk {x qual : Str} {st : Stmt} {f : Addr} {oc : Value} {od an : Option Addr} {osl : Array (Option Value)} {kV doc pm cdv ct : Value} (l : K.lookup f = some ⟨oc, od, .func (PySem.W.fnOf x qual (defArgs st) (defBody st) (defScope st) .none kV doc pm an cdv ct), osl⟩)
  (c : PySem.W.codeIn K cdv qual = true) (k : PySem.W.keepIn K (.ref f) = true) : Fun K x qual st f (PySem.W.fnOf x qual (defArgs st) (defBody st) (defScope st) .none kV doc pm an cdv ct):=⟨⟨oc, od, kV, doc, pm, an, cdv, ct, osl, rfl, l, c⟩, k⟩
end
section
variable {X : Cx}
theorem pv (i : Nat) {x : Str} {pos : Pos} (hN : X.N[i]? = some x:=by rfl) (hv : Vis X.env.scope x:=by first | exact Or.inl rfl | exact Or.inr (Or.inl rfl) | exact Or.inr (Or.inr rfl)) (hd : (x == ("__debug__" : Str)) = false:=by decide)
  (hcd : (x == ("__classdict__" : Str)) = false:=by decide) : PE X (.Name x pos) (tVar i):=pe_var hN hv hd hcd
end
theorem iteF {A B : Prop} (h : B) : if false = true then A else B:=by
 rw [if_neg Bool.false_ne_true]
 exact h
theorem iteT {A B : Prop} (h : A) : if true = true then A else B:=by
 rw [if_pos rfl]
 exact h
theorem ite2 {c A B : Prop} [Decidable c] (h1 : c->A) (h2 : ¬ c->B) : if c then A else B:=by
 by_cases h : c
 ·rw [if_pos h]
  exact h1 h
 ·rw [if_neg h]
  exact h2 h
noncomputable def Same (H H' : Hp) : Prop:=∀ b o, H b = some o->H' b = some o
theorem Same.refl (H : Hp) : Same H H:=fun _ _ h=>h
structure CB where
 cl : List (Str × Addr)
 C : Addr
 s : Shared
 H : Hp
 ex : List Addr
noncomputable abbrev Cx.compM (X : Cx) (own M : List Str) (scope : Scope) (c : CB) : Cx where
 prog:=X.prog
 w:=X.w
 K:=X.K
 mg:=X.mg
 base:=X.base
 A:=X.A
 N:=own ++ M
 s₀:=c.s
 H₀:=c.H
 env:=compEnvC scope c.cl c.C X.env
 outer:=X.stack
 stack:=X.stack
 ex:=c.ex
 fn:=fun x=>scope.names.lookup x == some .cell
 calm:=X.calm
 pn:=[]
 xe:=fun _ _=>False
noncomputable abbrev Cx.comp (X : Cx) (own : List Str) (scope : Scope) (c : CB) : Cx:=X.compM own X.N scope c
noncomputable def cloF (cells : List (Str × Addr)) : List (Str × NameKind)->List (Str × Addr)->List (Str × Addr)
 | [], acc=>acc
 | (n, k) :: r, acc=>if k == .free then cloF cells r ((n, (cells.lookup n).getD 0) :: acc) else cloF cells r acc
theorem closure_loop {env : Env} : ∀ (names : List (Str × NameKind)) (acc : List (Str × Addr)), (∀ x∈names, x.2 = .free->∃ c, env.cells.lookup x.1 = some c) ->
  (forIn names acc fun (p : Str × NameKind) (r : List (Str × Addr))=>match p with
   | (name, kind)=>if (kind == NameKind.free) = true then do let a ← cellOf env name; pure (ForInStep.yield ((name, a) :: r)) else pure (ForInStep.yield r) : Sem (List (Str × Addr))) = pure (cloF env.cells names acc)
 | [], acc, _=>by simp [cloF]
 | (n, k) :: r, acc, h=>by
  rw [List.forIn_cons]
  by_cases hk : (k == NameKind.free) = true
  ·obtain ⟨c, hc⟩:=h (n, k) List.mem_cons_self (by simpa using hk)
   have e : cellOf env n = pure c:=by unfold cellOf; rw [hc]
   have ih:=closure_loop (env:=env) r ((n, c) :: acc) fun x hx=>h x (List.mem_cons_of_mem _ hx)
   show ((if (k == NameKind.free) = true then do let a ← cellOf env n; pure (ForInStep.yield ((n, a) :: acc)) else pure (ForInStep.yield acc)) >>= _ : Sem _) = _
   rw [if_pos hk, e]
   unfold cloF
   rw [if_pos hk, hc]
   exact ih
  ·have ih:=closure_loop (env:=env) r acc fun x hx=>h x (List.mem_cons_of_mem _ hx)
   show ((if (k == NameKind.free) = true then do let a ← cellOf env n; pure (ForInStep.yield ((n, a) :: acc)) else pure (ForInStep.yield acc)) >>= _ : Sem _) = _
   rw [if_neg hk]
   unfold cloF
   rw [if_neg hk]
   exact ih
theorem closure_eq {scope : Scope} {env : Env} (h : ∀ x∈scope.names, x.2 = .free->∃ c, env.cells.lookup x.1 = some c) : closureFor scope env = pure (cloF env.cells scope.names []):=by
 have e:=closure_loop (env:=env) scope.names [] h
 unfold closureFor
 show (forIn scope.names [] _ >>= fun cs=>pure cs : Sem _) = _
 have e2 : (forIn scope.names ([] : List (Str × Addr)) fun (p : Str × NameKind) (r : List (Str × Addr))=>match p with
   | (name, kind)=>if (kind == NameKind.free) = true then do let a ← cellOf env name; pure (ForInStep.yield ((name, a) :: r)) else pure (ForInStep.yield r) : Sem (List (Str × Addr))) = pure (cloF env.cells scope.names []):=e
 rw [e2]
 rfl
theorem cloF_get {cells : List (Str × Addr)} {x : Str} {c : Addr} : ∀ {names : List (Str × NameKind)} {acc : List (Str × Addr)}, (cloF cells names acc).lookup x = some c->acc.lookup x = some c\/((x, NameKind.free)∈names/\c = (cells.lookup x).getD 0)
 | [], acc, h=>.inl h
 | (n, k) :: r, acc, h=>by
  unfold cloF at h
  by_cases hk : (k == NameKind.free) = true
  ·rw [if_pos hk] at h
   have hk' : k = .free:=by simpa using hk
   rcases cloF_get h with q | ⟨q1, q2⟩
   ·rw [List.lookup_cons] at q
    cases hx : x == n with
    | true =>
     rw [hx] at q
     have e : x = n:=by simpa using hx
     subst e hk'
     exact .inr ⟨List.mem_cons_self, (Option.some.inj q).symm⟩
    | false=>rw [hx] at q; exact .inl q
   ·exact .inr ⟨List.mem_cons_of_mem _ q1, q2⟩
  ·rw [if_neg hk] at h
   rcases cloF_get h with q | ⟨q1, q2⟩
   ·exact .inl q
   ·exact .inr ⟨List.mem_cons_of_mem _ q1, q2⟩
theorem cloF_acc {cells : List (Str × Addr)} {x : Str} : ∀ {names : List (Str × NameKind)} {acc : List (Str × Addr)}, (acc.lookup x).isSome = true->((cloF cells names acc).lookup x).isSome = true
 | [], _, h=>h
 | (n, k) :: r, acc, h=>by
  unfold cloF
  split
  ·refine cloF_acc ?_
   rw [List.lookup_cons]
   cases hx : x == n <;> simp [h]
  ·exact cloF_acc h
theorem cloF_has {cells : List (Str × Addr)} {x : Str} : ∀ {names : List (Str × NameKind)} {acc : List (Str × Addr)}, (x, NameKind.free)∈names->((cloF cells names acc).lookup x).isSome = true
 | (n, k) :: r, acc, h=>by
  unfold cloF
  rcases List.mem_cons.mp h with e | h
  ·cases e
   rw [if_pos (by rfl)]
   exact cloF_acc (by simp [List.lookup_cons])
  ·split
   ·exact cloF_has h
   ·exact cloF_has h
noncomputable def compOk (env : Env) (scope : Scope) (N : List Str) : Bool :=
 (scope.kind == .function) && scope.names.all fun y=>match y.2 with
  | .local=>!(N.contains y.1) && (scope.names.lookup y.1 == some .local)
  | .cell=>!(N.contains y.1) && (scope.names.lookup y.1 == some .cell)
  | .free=>(scope.names.lookup y.1 == some .free) && (env.kindOf y.1 == some .cell || env.kindOf y.1 == some .free)
  | _=>true
theorem relabel_vis {env : Env} : ∀ {names : List (Str × NameKind)} {x : Str} {q : NameKind}, (names.map fun (n, k)=>if (k == NameKind.free && env.scope.kind == .function && env.kindOf n == some .cell) then (n, NameKind.cell) else (n, k)).lookup x = some q ->
  ∃ k, (x, k)∈names/\names.lookup x = some k/\(q = k\/(q = .cell/\k = .free))
 | [], _, _, h=>by simp at h
 | (n, k) :: r, x, q, h=>by
  have ih:=@relabel_vis env r x q
  have h' : List.lookup x ((if (k == NameKind.free && env.scope.kind == .function && env.kindOf n == some .cell) = true then (n, NameKind.cell) else (n, k)) :: (r.map fun (n, k)=>if (k == NameKind.free && env.scope.kind == .function && env.kindOf n == some .cell) then (n, NameKind.cell) else (n, k))) = some q:=h
  by_cases hc : (k == NameKind.free && env.scope.kind == .function && env.kindOf n == some .cell) = true
  ·rw [if_pos hc, List.lookup_cons] at h'
   cases hx : x == n with
   | true =>
    rw [hx] at h'
    have e : x = n:=by simpa using hx
    subst e
    have hk : k = .free:=by simp at hc; exact hc.1.1
    exact ⟨k, List.mem_cons_self, by simp [List.lookup_cons], .inr ⟨(Option.some.inj h').symm, hk⟩⟩
   | false =>
    rw [hx] at h'
    obtain ⟨k', h1, h2, h3⟩:=ih h'
    exact ⟨k', List.mem_cons_of_mem _ h1, by rw [List.lookup_cons, hx]; exact h2, h3⟩
  ·rw [if_neg hc, List.lookup_cons] at h'
   cases hx : x == n with
   | true =>
    rw [hx] at h'
    have e : x = n:=by simpa using hx
    subst e
    exact ⟨k, List.mem_cons_self, by simp [List.lookup_cons], .inl (Option.some.inj h').symm⟩
   | false =>
    rw [hx] at h'
    obtain ⟨k', h1, h2, h3⟩:=ih h'
    exact ⟨k', List.mem_cons_of_mem _ h1, by rw [List.lookup_cons, hx]; exact h2, h3⟩
theorem HOk.track {P : Program} {w : World} {H : Hp} {h : Heap} {a : Addr} {o : HO} (x : HOk P w H h) (hn : H a = none) (new : ObjOk P w (upd H a o) h a o) : HOk P w (upd H a o) h:=fun b u e=>by
 by_cases hb : b = a
 ·subst hb; rw [upd_same] at e; cases e; exact new
 ·rw [upd_ne hb] at e
  exact (x b u e).stay (fun c v _ q=>q) (fun c q=>by rw [upd_ne (ne_of_none q hn)]; exact q) fun c xs q=>by rw [upd_ne (ne_of_none q hn)]; exact q
theorem comp_loop {prog : Program} {w : World} {A : Around} {s : Shared} {elt target iter : Expr} {ifs : List Expr} {scope : Scope} {pos : Pos} {it acc : Value} {env : Env} {R : Result->Shared->Prop} (I : Nat->Shared->Prop)
  (turn : ∀ n s, I n s->wpAny (model prog w) A (pyNext it) (fun r s₁=>match r with
   | none=>R (.ok .next) s₁
   | some v=>wpAny (model prog w) A (letOwnedTupleGo target it v) (fun _ s₀=>wpAny (model prog w) A (assign target env v) (fun _ s₂ =>
     wpAny (model prog w) A (forIn ifs true fun c r=>if r = true then do let ok ← isTrue c env (eval c env); pure (ForInStep.yield ok) else pure (ForInStep.yield r)) (fun ok s₃ =>
      if ok = true then wpAny (model prog w) A (eval elt env) (fun x s₄ =>
       wpAny (model prog w) A (call (.builtin "list.append") [acc, x]) (fun _ s₅=>∃ m, m < n/\I m s₅) (fun _ _=>False) s₄) (fun _ _=>False) s₃
      else ∃ m, m < n/\I m s₃) (fun _ _=>False) s₂) (fun _ _=>False) s₀) (fun _ _=>False) s₁) (fun _ _=>False) s)
  (n : Nat) (h : I n s) : codeAny (model prog w) A (.compLoop (.ListComp elt [⟨target, iter, ifs, 0⟩] scope pos) 0 it acc env) R s:=by
 refine codeAny_loop rfl I (fun n s hI=>?_) n h
 show wpAny _ A ((compTurn (.ListComp elt [⟨target, iter, ifs, 0⟩] scope pos) 0 it acc env).onRaise (fun x=>do noteFrame x env; theTreesLotGoes x)) _ _ s
 refine wpAny_noted ?_
 rw [compTurn_list]
 refine wpAny_bind (wpAny_standAt (wpAny_bind (wpAny_mono (turn n s hI) (fun r s₁ h₁=>?_) fun _ _ h'=>h'.elim)))
 cases r with
 | none=>exact wpAny_pure h₁
 | some v =>
  refine wpAny_bind (wpAny_mono h₁ (fun _ s₀ h₀'=>?_) fun _ _ h'=>h'.elim)
  refine wpAny_bind (wpAny_mono h₀' (fun _ s₂ h₂=>wpAny_bind (wpAny_mono h₂ (fun ok s₃ h₃=>?_) fun _ _ h'=>h'.elim)) fun _ _ h'=>h'.elim)
  cases ok with
  | false=>exact wpAny_pure ⟨rfl, h₃⟩
  | true =>
   exact wpAny_bind (wpAny_bind (wpAny_mono h₃ (fun x s₄ h₄=>wpAny_bind (wpAny_mono h₄ (fun _ s₅ h₅=>wpAny_pure (wpAny_pure ⟨rfl, h₅⟩)) fun _ _ h'=>h'.elim)) fun _ _ h'=>h'.elim))
noncomputable def PTs (X : Cx) (ifs : List Expr) (t : TT) : Prop :=
 ∀ (pins : List (Addr × Obj)) (s : Shared) (σ : St) (H : Hp) (Q : Bool->Hp->Prop), Inv X pins σ H s->t σ H Q ->
  wpAny (model X.prog X.w) X.A (forIn ifs true fun c r=>if r = true then do let ok ← isTrue c X.env (eval c X.env); pure (ForInStep.yield ok) else pure (ForInStep.yield r)) (TP X pins σ Q) X.xe s
theorem pts_nil {X : Cx} : PTs X [] (fun _ H Q=>Q true H):=fun _ _ _ H _ I h=>wpAny_tests_nil ⟨H, I, h⟩
theorem pts_one {X : Cx} {c : Expr} {t : TT} (hc : PT X c t) : PTs X [c] t:=fun pins s σ H Q I h=>wpAny_tests_one (hc pins s σ H Q I h)
noncomputable def LcEnd (J : It) (n : Nat) (g : CB->TG) (tt : CB->TT) (te : CB->TE) (σ : St) (Q : VK) (H : Hp) : Prop:=∃ W : Nat->Nat->List V->Hp->Prop, (∃ m, W 0 m [] H)/\∀ (c : CB) i m ys H, W i m ys H ->
 (J.stop i H/\∀ p, H p = none->Q (.ref p) (upd H p (.lst ys))) ∨
 (J.go i H/\ys.length < sizeLine/\∃ N : List V->Hp->Prop, (∀ ys' H', N ys' H'->∃ m', m' < m/\W (i + 1) m' ys' H')/\∀ x H', J.yld i H x H'->g c x (List.replicate n none ++ σ) H' fun σ2 H2=>tt c σ2 H2 fun b H3 =>
  if b = true then te c σ2 H3 fun v H4=>N (ys ++ [v]) H4 else N ys H3)
noncomputable def tLC (n : Nat) (wi : TI) (g : CB->TG) (tt : CB->TT) (te : CB->TE) : TE:=fun σ H Q=>wi σ H fun J H1=>LcEnd J n g tt te σ Q H1
section
variable {X : Cx} {own : List Str} {scope : Scope} {tg iter elt : Expr} {ifs : List Expr} {pos : Pos} {wi : TI} {g : CB->TG} {tt : CB->TT} {te : CB->TE}
noncomputable def compOkM (env : Env) (scope : Scope) (N M : List Str) : Bool :=
 compOk env scope M && ((N.length == M.length) && (N.zip M).all fun y=>y.1 == y.2 || ((y.2 == ("" : Str)) && scope.names.all fun z=>!(z.1 == ("" : Str))))
theorem compOk_M {env : Env} {N : List Str} (h : compOk env scope N = true) : compOkM env scope N N = true:=by
 unfold compOkM
 rw [h, Bool.true_and, beq_self_eq_true, Bool.true_and, List.all_eq_true]
 rintro ⟨a, b⟩ hy
 obtain ⟨i, hi, e⟩:=List.mem_iff_getElem.mp hy
 rw [List.getElem_zip] at e
 cases e
 simp
variable {M : List Str}
theorem compOkM_kind (h : compOkM X.env scope X.N M = true) : scope.kind = .function:=by
 unfold compOkM compOk at h
 simp only [Bool.and_eq_true, beq_iff_eq] at h
 exact h.1.1
theorem compOkM_all (h : compOkM X.env scope X.N M = true) : ∀ y∈scope.names, (y.2 = .local->y.1∉M/\scope.names.lookup y.1 = some .local)/\(y.2 = .cell->y.1∉M/\scope.names.lookup y.1 = some .cell)/\(y.2 = .free->scope.names.lookup y.1 = some .free/\(X.env.kindOf y.1 = some .cell\/X.env.kindOf y.1 = some .free)):=by
 unfold compOkM at h
 rw [Bool.and_eq_true] at h
 have h:=h.1
 unfold compOk at h
 rw [Bool.and_eq_true, List.all_eq_true] at h
 intro y hy
 have q:=h.2 y hy
 obtain ⟨n, k⟩:=y
 cases k with
 | «local»=>simp at q ⊢; exact q
 | cell=>simp at q ⊢; exact q
 | free=>simp at q ⊢; exact q
 | globalExplicit=>simp
 | globalImplicit=>simp
theorem cellsFrom_app : ∀ (names : List (Str × NameKind)) (n : Nat) (acc : List (Str × Addr)), cellsFrom n names acc = cellsFrom n names [] ++ acc
 | [], _, _=>rfl
 | (nm, k) :: r, n, acc=>by
  show (if (k == NameKind.cell) = true then cellsFrom (n + 1) r ((nm, n) :: acc) else cellsFrom n r acc) = (if (k == NameKind.cell) = true then cellsFrom (n + 1) r [(nm, n)] else cellsFrom n r []) ++ acc
  split
  ·rw [cellsFrom_app r (n + 1) ((nm, n) :: acc), cellsFrom_app r (n + 1) [(nm, n)], List.append_assoc]
   rfl
  ·exact cellsFrom_app r n acc
theorem cells_new : ∀ (names : List (Str × NameKind)) (n : Nat) (x : Str) (c : Addr), (x, c)∈cellsFrom n names []->(x, NameKind.cell)∈names/\n<=c
 | [], _, _, _, h=>nomatch h
 | (nm, k) :: r, n, x, c, h=>by
  have h : (x, c)∈(if (k == NameKind.cell) = true then cellsFrom (n + 1) r [(nm, n)] else cellsFrom n r []):=h
  split at h
  ·rename_i hk
   rw [cellsFrom_app] at h
   rcases List.mem_append.mp h with z | z
   ·obtain ⟨h1, h2⟩:=cells_new r (n + 1) x c z
    exact ⟨List.mem_cons_of_mem _ h1, by omega⟩
   ·have z : (x, c) = (nm, n):=by simpa using z
    cases z
    have hk : k = .cell:=by simpa using hk
    subst hk
    exact ⟨List.mem_cons_self, Nat.le_refl _⟩
  ·obtain ⟨h1, h2⟩:=cells_new r n x c h
   exact ⟨List.mem_cons_of_mem _ h1, h2⟩
theorem cells_inj : ∀ (names : List (Str × NameKind)) (n : Nat) (x y : Str) (c : Addr), (x, c)∈cellsFrom n names []->(y, c)∈cellsFrom n names []->x = y
 | [], _, _, _, _, h, _=>nomatch h
 | (nm, k) :: r, n, x, y, c, h, h'=>by
  have h : (x, c)∈(if (k == NameKind.cell) = true then cellsFrom (n + 1) r [(nm, n)] else cellsFrom n r []):=h
  have h' : (y, c)∈(if (k == NameKind.cell) = true then cellsFrom (n + 1) r [(nm, n)] else cellsFrom n r []):=h'
  by_cases hk : (k == NameKind.cell) = true
  ·rw [if_pos hk, cellsFrom_app] at h h'
   rcases List.mem_append.mp h with z | z <;> rcases List.mem_append.mp h' with z' | z'
   ·exact cells_inj r (n + 1) x y c z z'
   ·have:=(cells_new r (n + 1) x c z).2
    have z' : (y, c) = (nm, n):=by simpa using z'
    cases z'
    exact absurd this (Nat.not_succ_le_self _)
   ·have:=(cells_new r (n + 1) y c z').2
    have z : (x, c) = (nm, n):=by simpa using z
    cases z
    exact absurd this (Nat.not_succ_le_self _)
   ·have z : (x, c) = (nm, n):=by simpa using z
    have z' : (y, c) = (nm, n):=by simpa using z'
    cases z
    cases z'
    rfl
  ·rw [if_neg hk] at h h'
   exact cells_inj r n x y c h h'
theorem push_keep : ∀ (names : List (Str × NameKind)) (h : Heap) (b : Addr) (o : Obj), h.get? b = some o->(pushCells h names).get? b = some o
 | [], _, _, _, e=>e
 | (nm, k) :: r, h, b, o, e=>by
  show (if (k == NameKind.cell) = true then pushCells (h.push { cls:=Value.type "cell", data:=Data.cell none }) r else pushCells h r).get? b = some o
  split
  ·exact push_keep r _ b o (Heap.get?_push_of_some _ e)
  ·exact push_keep r h b o e
theorem push_cell : ∀ (names : List (Str × NameKind)) (h : Heap) (x : Str) (c : Addr), (x, c)∈cellsFrom h.objs.size names []->(pushCells h names).IsCell c none
 | [], _, _, _, e=>nomatch e
 | (nm, k) :: r, h, x, c, e=>by
  have e : (x, c)∈(if (k == NameKind.cell) = true then cellsFrom (h.objs.size + 1) r [(nm, h.objs.size)] else cellsFrom h.objs.size r []):=e
  show (if (k == NameKind.cell) = true then pushCells (h.push { cls:=Value.type "cell", data:=Data.cell none }) r else pushCells h r).IsCell c none
  by_cases hk : (k == NameKind.cell) = true
  ·rw [if_pos hk, cellsFrom_app] at e
   rw [if_pos hk]
   rcases List.mem_append.mp e with z | z
   ·exact push_cell r _ x c (by rw [Heap.size_push]; exact z)
   ·have z : (x, c) = (nm, h.objs.size):=by simpa using z
    cases z
    exact ⟨_, push_keep r _ _ _ (Heap.get?_push_size _ rfl), rfl⟩
  ·rw [if_neg hk] at e ⊢
   exact push_cell r h x c e
theorem newFnEnv_c {M : Model} {A : Around} {E : Value->Shared->Prop} {s : Shared} {scope : Scope} {globals : Addr} {closure : List (Str × Addr)} {qual : Str} {func : Option Addr} {code : Value} {around : Option Env} {builtins : Addr} {Q : Env->Shared->Prop}
  (h : Q (newEnv scope s.heap.objs.size globals (cellsFrom (s.heap.objs.size + 1) scope.names closure) qual func code around builtins) { s with heap:=pushCells (s.heap.push { cls:=Value.type (if around.isSome = true then "dict" else "frame"), data:=Data.dict #[] }) scope.names }) :
  wpAny M A (newFunctionEnv scope globals closure [] qual func code around builtins) Q E s:=by
 unfold newFunctionEnv
 refine wpAny_bind (wpAny_alloc ?_)
 refine wpAny_bind (wpAny_layCells _ (fun _ _ _=>rfl) _ _ _ _ ?_)
 rw [Heap.size_push]
 exact wpAny_bind (wpAny_pure (wpAny_pure h))
theorem cl_get {n : Nat} {names : List (Str × NameKind)} {cl : List (Str × Addr)} {x : Str} {c : Addr} (h : (cellsFrom n names cl).lookup x = some c) : (x, c)∈cellsFrom n names []\/cl.lookup x = some c:=by
 rw [cellsFrom_app, List.lookup_append] at h
 cases e : (cellsFrom n names []).lookup x with
 | none=>rw [e] at h; exact .inr h
 | some d =>
  rw [e] at h
  cases h
  exact .inl (PySem.mem_of_lookup e)
theorem cl_old {n : Nat} {names : List (Str × NameKind)} {cl : List (Str × Addr)} {x : Str} (h : ∀ c, (x, c)∈cellsFrom n names []->False) : (cellsFrom n names cl).lookup x = cl.lookup x:=by
 rw [cellsFrom_app, List.lookup_append]
 cases e : (cellsFrom n names []).lookup x with
 | none=>rfl
 | some d=>exact (h d (PySem.mem_of_lookup e)).elim
theorem free_old (h : compOkM X.env scope X.N M = true) {n : Nat} {x : Str} (hx : (x, NameKind.free)∈scope.names) : ∀ c, (x, c)∈cellsFrom n scope.names []->False:=fun c z=>by
 have h1:=((compOkM_all h _ hx).2.2 rfl).1
 have h2:=((compOkM_all h _ (cells_new _ _ _ _ z).1).2.1 rfl).2
 rw [h1] at h2
 cases h2
theorem compOkM_len (h : compOkM X.env scope X.N M = true) : X.N.length = M.length:=by
 unfold compOkM at h
 rw [Bool.and_eq_true, Bool.and_eq_true] at h
 exact eq_of_beq h.2.1
theorem compOkM_N {i : Nat} {x : Str} {k : NameKind} (h : compOkM X.env scope X.N M = true) (hx : M[i]? = some x) (_ : x∈M) (hn : (x, k)∈scope.names) : X.N[i]? = some x:=by
 have hl:=compOkM_len h
 unfold compOkM at h
 rw [Bool.and_eq_true, Bool.and_eq_true, List.all_eq_true] at h
 have hi : i < M.length:=(List.getElem?_eq_some_iff.mp hx).1
 have hx' : M[i] = x:=(List.getElem?_eq_some_iff.mp hx).2
 have hi' : i < X.N.length:=by omega
 have q:=h.2.2 (X.N[i], M[i]) (by
  refine List.mem_iff_getElem.mpr ⟨i, by rw [List.length_zip]; omega, ?_⟩
  rw [List.getElem_zip])
 rw [Bool.or_eq_true] at q
 rcases q with q | q
 ·have q : X.N[i] = M[i]:=eq_of_beq q
  rw [List.getElem?_eq_getElem hi', q, hx']
 ·rw [Bool.and_eq_true, List.all_eq_true] at q
  have e : M[i] = ("" : Str):=eq_of_beq q.1
  have z:=q.2 (x, k) hn
  rw [← hx', e] at z
  simp at z
theorem comp_enter {pins : List (Addr × Obj)} {σ : St} {H : Hp} {s : Shared} {fp : List Addr} {h₁ : Heap} {tk : Nat} (hk : compOkM X.env scope X.N M = true) (I : Inv X pins σ H s) (hf : ∀ b∈fp, FpOk X pins H b) (hfo : ∀ b∈fp, ∃ o, s.heap.get? b = some o)
  (hns : h₁.Ns (s.heap.objs.size + 1) fun _=>none) (old : ∀ b o, s.heap.get? b = some o->h₁.get? b = some o) (hD : h₁.get? s.heap.objs.size = some { cls:=.type "list", data:=.seq #[] 0 }) (hnc : ∀ x c, (x, c)∈cellsFrom (s.heap.objs.size + 2) scope.names []->h₁.IsCell c none) :
  Inv (X.compM own M scope ⟨cellsFrom (s.heap.objs.size + 2) scope.names (cloF X.env.cells scope.names []), s.heap.objs.size + 1, s, H, fp⟩) [(s.heap.objs.size, { cls:=.type "list", data:=.seq #[] 0 })] (List.replicate own.length none ++ σ) H { s with heap:=h₁, toks:=tk }:=by
 have hkk:=compOkM_kind hk
 have hka:=compOkM_all hk
 have hhas : ∀ x, (x, NameKind.free)∈scope.names->∃ c, X.env.cells.lookup x = some c:=fun x hx=>I.ok.has x ((hka _ hx).2.2 rfl).2
 have hcl : ∀ x c, (cloF X.env.cells scope.names []).lookup x = some c->X.env.cells.lookup x = some c/\(x, NameKind.free)∈scope.names:=fun x c e=>by
  rcases cloF_get e with q | ⟨q1, q2⟩
  ·simp at q
  ·obtain ⟨c', e'⟩:=hhas x q1
   rw [e'] at q2
   exact ⟨by rw [e', q2]; rfl, q1⟩
 have hcc : ∀ x c, (cellsFrom (s.heap.objs.size + 2) scope.names (cloF X.env.cells scope.names [])).lookup x = some c->(X.env.cells.lookup x = some c/\(x, NameKind.free)∈scope.names/\c < s.heap.objs.size)\/((x, c)∈cellsFrom (s.heap.objs.size + 2) scope.names []/\(x, NameKind.cell)∈scope.names/\s.heap.objs.size + 2<=c):=fun x c e=>by
  rcases cl_get e with z | z
  ·exact .inr ⟨z, cells_new _ _ _ _ z⟩
  ·obtain ⟨h1, h2⟩:=hcl x c z
   obtain ⟨v, o, ho, _⟩:=I.cell x c h1
   exact .inl ⟨h1, h2, Heap.lt_size ho⟩
 have hvis : ∀ x, (relabel scope X.env).names.lookup x = some .cell\/(relabel scope X.env).names.lookup x = some .free->(x, NameKind.free)∈scope.names\/(x, NameKind.cell)∈scope.names:=fun x hx=>by
  have key : ∀ q, (relabel scope X.env).names.lookup x = some q->q = .cell\/q = .free->(x, NameKind.free)∈scope.names\/(x, NameKind.cell)∈scope.names:=fun q hq hq'=>by
   obtain ⟨k, h1, h2, h3⟩:=relabel_vis (env:=X.env) (names:=scope.names) hq
   rcases h3 with h3 | ⟨_, h3⟩
   ·subst h3
    rcases hq' with z | z
    ·rw [z] at h1; exact .inr h1
    ·rw [z] at h1; exact .inl h1
   ·rw [h3] at h1; exact .inl h1
  rcases hx with hx | hx
  ·exact key _ hx (.inl rfl)
  ·exact key _ hx (.inr rfl)
 have hlt : ∀ b o, s.heap.get? b = some o->b < s.heap.objs.size:=fun b o e=>Heap.lt_size e
 refine ⟨⟨I.ok.mod, hkk, I.ok.glob, I.ok.blt, Nat.le_succ _, fun x y c h1 h2=>?inj, fun x hx=>?_, fun x c z e=>?cab, I.ok.hd, I.ok.frames, .inl rfl, fun b hb=>⟨?_, fun x c e=>?exf⟩, I.bs,
   Nat.le_trans I.ok.bsz I.sz, fun b o e hb=>?_, fun b hb hs=>?_, I.stack, I.stkFree⟩, rfl, I.bare, Un.kept old, ⟨_, hns, fun i x v h1 h2 h3=>?_⟩, fun x c e=>?_, ?_, fun x c e=>?frc, fun p hp=>?_, I.hok.kept old, ?_⟩
 case inj =>
  rcases hcc x c h1 with ⟨a1, _, a3⟩ | ⟨a1, _, a3⟩ <;> rcases hcc y c h2 with ⟨b1, _, b3⟩ | ⟨b1, _, b3⟩
  ·exact I.ok.inj x y c a1 b1
  ·exact absurd (Nat.lt_of_lt_of_le a3 (Nat.le_trans (Nat.le_add_right _ 2) b3)) (Nat.lt_irrefl _)
  ·exact absurd (Nat.lt_of_lt_of_le b3 (Nat.le_trans (Nat.le_add_right _ 2) a3)) (Nat.lt_irrefl _)
  ·exact cells_inj _ _ _ _ _ a1 b1
 case cab =>
  show s.heap.objs.size<=c
  rcases hcc x c e with ⟨_, a2, _⟩ | ⟨_, _, a3⟩
  ·have h1:=((hka _ a2).2.2 rfl).1
   have z : (scope.names.lookup x == some NameKind.cell) = true:=z
   rw [h1] at z
   exact absurd z (by decide)
  ·omega
 case exf =>
  rcases hcc x c e with ⟨a1, _, _⟩ | ⟨_, _, a3⟩
  ·exact (hf b hb).2.2.2.2.1 x c a1
  ·obtain ⟨o, e⟩:=hfo b hb
   have:=hlt b o e
   intro z
   subst z
   exact absurd (Nat.lt_of_lt_of_le this (Nat.le_trans (Nat.le_add_right _ 2) a3)) (Nat.lt_irrefl _)
 case frc =>
  rcases hcc x c e with ⟨a1, _, _⟩ | ⟨_, _, a3⟩
  ·exact I.freeC x c a1
  ·exact I.hok.fresh (by omega)
 ·have hx' : (relabel scope X.env).names.lookup x = some .cell\/(relabel scope X.env).names.lookup x = some .free:=hx
  refine Option.isSome_iff_exists.mp (PySem.W.cellsFrom_some _ _ _ ?_)
  rcases hvis x hx' with z | z
  ·exact .inr (cloF_has z)
  ·exact .inl ((hka _ z).2.1 rfl).2
 ·obtain ⟨o, e⟩:=hfo b hb
  exact Nat.ne_of_lt (Nat.lt_succ_of_lt (hlt b o e))
 ·have hb' : b∈fp:=hb
  rcases (hf b hb').2.2.2.1 with z | z
  ·exact I.ok.noex b o e z
  ·exact absurd (Nat.lt_of_lt_of_le (Heap.lt_size (I.ok.bs b o e).1) z) (Nat.lt_irrefl _)
 ·have hb' : b∈fp:=hb
  rcases List.mem_cons.mp (I.stkSub b hs) with z | z
  ·exact (hf b hb').2.1 z
  ·exact (hf b hb').2.2.1 z
 ·have hi : own.length<=i:=by
   by_cases hi : i < own.length
   ·rw [List.getElem?_append_left (by simpa using hi), List.getElem?_replicate] at h2
    split at h2 <;> cases h2
   ·omega
  have h1' : M[i - own.length]? = some x:=by
   have q : (own ++ M)[i]? = some x:=h1
   rwa [List.getElem?_append_right hi] at q
  have h2' : σ[i - own.length]? = some (some v):=by
   rw [List.getElem?_append_right (by simpa using hi)] at h2
   simpa using h2
  have h3' : Vis (relabel scope X.env) x:=h3
  have hfr : (x, NameKind.free)∈scope.names:=by
   rcases h3' with z | z
   ·obtain ⟨k, q1, q2, q3⟩:=relabel_vis (env:=X.env) (names:=scope.names) z
    rcases q3 with q3 | ⟨q3, _⟩
    ·subst q3
     exact absurd (List.mem_of_getElem? h1') ((hka _ q1).1 rfl).1
    ·cases q3
   ·rcases hvis x z with y | y
    ·exact y
    ·exact absurd (List.mem_of_getElem? h1') ((hka _ y).2.1 rfl).1
  have hkx:=((hka _ hfr).2.2 rfl).2
  obtain ⟨m, hm, hl⟩:=I.loc
  obtain ⟨u, ru, lu⟩:=hl _ x v (compOkM_N hk h1' (List.mem_of_getElem? h1') hfr) h2' (by rcases hkx with z | z; exact .inr (.inl z); exact .inr (.inr z))
  refine ⟨u, ru, .inr ⟨?_, ?_⟩⟩
  ·rcases h3' with z | z | z
   ·obtain ⟨k, q1, q2, q3⟩:=relabel_vis (env:=X.env) (names:=scope.names) z
    rcases q3 with q3 | ⟨q3, _⟩
    ·subst q3
     exact absurd (List.mem_of_getElem? h1') ((hka _ q1).1 rfl).1
    ·cases q3
   ·exact .inl z
   ·exact .inr z
  ·rcases lu with ⟨z, _⟩ | ⟨_, c, e, ic⟩
   ·rcases hkx with q | q
    ·rw [q] at z; cases z
    ·rw [q] at z; cases z
   ·obtain ⟨c', e'⟩:=Option.isSome_iff_exists.mp (cloF_has (cells:=X.env.cells) (acc:=[]) hfr)
    have e2:=(hcl x c' e').1
    rw [e] at e2
    cases e2
    obtain ⟨o, ho, hd⟩:=ic
    exact ⟨c, (cl_old (free_old hk hfr)).trans e', o, old _ _ ho, hd⟩
 ·rcases hcc x c e with ⟨z, _, _⟩ | ⟨z, _, _⟩
  ·obtain ⟨v, o, ho, hd⟩:=I.cell x c z
   exact ⟨v, o, old _ _ ho, hd⟩
  ·exact ⟨none, hnc x c z⟩
 ·exact I.hok.fresh (Nat.le_succ _)
 ·have hp' : p = (s.heap.objs.size, { cls:=.type "list", data:=.seq #[] 0 }):=by simpa using hp
  subst hp'
  refine ⟨hD, I.hok.fresh (Nat.le_refl _), Nat.ne_of_lt (Nat.lt_succ_self _), fun z=>?_, fun v z=>nomatch z⟩
  obtain ⟨_, o, ho, _⟩:=I.stack.mem z
  exact absurd (Heap.lt_size ho) (Nat.lt_irrefl _)
 ·show (List.replicate own.length none ++ σ).length = (own ++ M).length
  rw [List.length_append, List.length_append, List.length_replicate, I.len, compOkM_len hk]
theorem comp_leave {pins pn : List (Addr × Obj)} {σ σ' : St} {H H' : Hp} {s s' : Shared} {fp : List Addr} {cl : List (Str × Addr)} {ys : List V} {us : List Value} {n : Nat} (I : Inv X pins σ H s) (hf : ∀ b∈fp, FpOk X pins H b)
  (J : Inv (X.compM own M scope ⟨cl, s.heap.objs.size + 1, s, H, fp⟩) pn σ' H' s') (hp : (s.heap.objs.size, ({ cls:=.type "list", data:=.seq us.toArray n } : Obj))∈pn) (hv : Vals ys us) (hz : ys.length<=sizeLine) :
  Inv X pins σ (upd H' s.heap.objs.size (.lst ys)) s'/\H' s.heap.objs.size = none:=by
 obtain ⟨hD, hDn, _⟩:=J.pin _ (List.mem_append_right _ hp)
 refine ⟨I.call' J.os ⟨fun b o e n hb hx=>J.base.keep b o e n hb hx, fun b o e n hb hx=>J.base.slot b o e n hb hx, fun b o e n hx=>?_, fun b o e hx=>J.base.there b o e hx, fun b xs e=>?_, fun b o u e=>?_, fun b ps e=>?_⟩ ?_ J.bare ?_, hDn⟩
 ·rw [upd_ne (Nat.ne_of_lt (Heap.lt_size e))]
  exact J.base.free b o e n hx
 ·have q:=J.base.tups b xs e
  rw [upd_ne (ne_of_none q hDn)]
  exact q
 ·have q:=J.base.frzs b o u e
  rw [upd_ne (ne_of_none q hDn)]
  exact q
 ·obtain ⟨more, q⟩:=J.base.tbls b ps e
  exact ⟨more, by rw [upd_ne (ne_of_none q hDn)]; exact q⟩
 ·exact J.hok.track hDn ⟨hz, us, n, hv, hD⟩
 ·intro b hb
  exact ⟨(hf b hb).2.2.2.1, (hf b hb).2.1, (hf b hb).2.2.2.2.1, (hf b hb).2.2.2.2.2⟩
theorem comp_reset {pins pn : List (Addr × Obj)} {σ σ' : St} {H H' : Hp} {s s' : Shared} {fp : List Addr} {cl : List (Str × Addr)} (hk : compOkM X.env scope X.N M = true) (I : Inv X pins σ H s) (hf : ∀ b∈fp, FpOk X pins H b)
  (hcl : ∀ x, (x, NameKind.free)∈scope.names->∃ c, cl.lookup x = some c/\X.env.cells.lookup x = some c)
  (J : Inv (X.compM own M scope ⟨cl, s.heap.objs.size + 1, s, H, fp⟩) pn σ' H' s') : Inv (X.compM own M scope ⟨cl, s.heap.objs.size + 1, s, H, fp⟩) pn (List.replicate own.length none ++ σ) H' s':=by
 have hka:=compOkM_all hk
 refine ⟨J.ok, J.os, J.bare, J.base, ?_, J.cell, J.free, J.freeC, J.pin, J.hok, ?_⟩
 ·obtain ⟨mC, hmC, _⟩:=J.loc
  refine ⟨mC, hmC, fun i x v h1 h2 h3=>?_⟩
  have hi : own.length<=i:=by
   by_cases hi : i < own.length
   ·rw [List.getElem?_append_left (by simpa using hi), List.getElem?_replicate] at h2
    split at h2 <;> cases h2
   ·omega
  have h1' : M[i - own.length]? = some x:=by
   have q : (own ++ M)[i]? = some x:=h1
   rwa [List.getElem?_append_right hi] at q
  have h2' : σ[i - own.length]? = some (some v):=by
   rw [List.getElem?_append_right (by simpa using hi)] at h2
   simpa using h2
  have h3' : Vis (relabel scope X.env) x:=h3
  have nloc : ¬ (relabel scope X.env).names.lookup x = some .local:=fun z=>by
   obtain ⟨k, q1, q2, q3⟩:=relabel_vis (env:=X.env) (names:=scope.names) z
   rcases q3 with q3 | ⟨q3, _⟩
   ·subst q3
    exact absurd (List.mem_of_getElem? h1') ((hka _ q1).1 rfl).1
   ·cases q3
  have hkk : (relabel scope X.env).names.lookup x = some .cell\/(relabel scope X.env).names.lookup x = some .free:=by
   rcases h3' with z | z
   ·exact absurd z nloc
   ·exact z
  have hfr : (x, NameKind.free)∈scope.names:=by
   have key : ∀ q, (relabel scope X.env).names.lookup x = some q->q = .cell\/q = .free->(x, NameKind.free)∈scope.names:=fun q hq hq'=>by
    obtain ⟨k, h1, h2, h3⟩:=relabel_vis (env:=X.env) (names:=scope.names) hq
    rcases h3 with h3 | ⟨_, h3⟩
    ·subst h3
     rcases hq' with z | z
     ·rw [z] at h1; exact absurd (List.mem_of_getElem? h1') ((hka _ h1).2.1 rfl).1
     ·rw [z] at h1; exact h1
    ·rw [h3] at h1; exact h1
   rcases hkk with hx | hx
   ·exact key _ hx (.inl rfl)
   ·exact key _ hx (.inr rfl)
  have hkx:=((hka _ hfr).2.2 rfl).2
  obtain ⟨m, hm, hl⟩:=I.loc
  obtain ⟨u, ru, lu⟩:=hl _ x v (compOkM_N hk h1' (List.mem_of_getElem? h1') hfr) h2' (by rcases hkx with z | z; exact .inr (.inl z); exact .inr (.inr z))
  refine ⟨u, ru, .inr ⟨hkk, ?_⟩⟩
  rcases lu with ⟨z, _⟩ | ⟨_, c, e, ic⟩
  ·rcases hkx with q | q
   ·rw [q] at z; cases z
   ·rw [q] at z; cases z
  ·obtain ⟨c', e', e2⟩:=hcl x hfr
   rw [e] at e2
   cases e2
   obtain ⟨o, ho, hd⟩:=ic
   obtain ⟨sl, q⟩:=J.base.any ho (I.freeC x c e) fun z=>(hf c z).2.2.2.2.1 x c e rfl
   exact ⟨c, e', _, q, hd⟩
 ·show (List.replicate own.length none ++ σ).length = (own ++ M).length
  rw [List.length_append, List.length_append, List.length_replicate, I.len, compOkM_len hk]
theorem comp_walk {pins : List (Addr × Obj)} {σ : St} {H : Hp} {s : Shared} {it : Addr} {fp : List Addr} {tn : Nat->Heap->Prop} {J : It} {W : Nat->Nat->List V->Hp->Prop} {E : Value->Shared->Prop} {RR : Value->Addr->Result->Shared->Prop} (hc : X.calm = true)
  (hk : compOkM X.env scope X.N M = true) (hg : ∀ c, PG (X.compM own M scope c) tg (g c)) (ht : ∀ c, PTs (X.compM own M scope c) ifs (tt c)) (he : ∀ c, PE (X.compM own M scope c) elt (te c))
  (I : Inv X pins σ H s) (T : Turn X.prog X.w X.K tg J fp it tn) (st : tn 0 s.heap) (hf : ∀ b∈fp, FpOk X pins H b) {m0 : Nat} (w0 : W 0 m0 [] H) {D : List V->Hp->Prop}
  (turn : ∀ (c : CB) i m ys H, W i m ys H->(J.stop i H/\D ys H) ∨
   (J.go i H/\ys.length < sizeLine/\∃ N : List V->Hp->Prop, (∀ ys' H', N ys' H'->∃ m', m' < m/\W (i + 1) m' ys' H')/\∀ x H', J.yld i H x H'->g c x (List.replicate own.length none ++ σ) H' fun σ2 H2=>tt c σ2 H2 fun b H3 =>
    if b = true then te c σ2 H3 fun v H4=>N (ys ++ [v]) H4 else N ys H3))
  (fin : ∀ s' m' ys H', (s'.heap.Ns (s.heap.objs.size + 1) m')->H' (s.heap.objs.size + 1) = none->H' s.heap.objs.size = none->Inv X pins σ (upd H' s.heap.objs.size (.lst ys)) s'->D ys H'->RR (.ref s.heap.objs.size) (s.heap.objs.size + 1) (.ok .next) s') :
  wpAny (model X.prog X.w) X.A (newList []) (fun acc s₃=>wpAny (model X.prog X.w) X.A (newFunctionEnv scope X.env.globals (cloF X.env.cells scope.names []) [] X.env.qual none .none (some X.env)) (fun cenv s₄ =>
   codeAny (model X.prog X.w) X.A (.compStart (.ListComp elt [⟨tg, iter, ifs, 0⟩] scope pos) 0 (.ref it) acc { cenv with scope:=relabel scope X.env }) (RR acc cenv.locals) s₄) E s₃) E s:=by
 have hkk:=compOkM_kind hk
 have hka:=compOkM_all hk
 refine wpAny_newObj_type (newFnEnv_c ?_)
 dsimp only
 have hC : (s.heap.push { cls:=.type "list", dict:=none, data:=.seq ([] : List Value).toArray }).objs.size = s.heap.objs.size + 1:=Heap.size_push ..
 rw [hC]
 generalize hH2 : s.heap.push { cls:=.type "list", dict:=none, data:=.seq ([] : List Value).toArray } = H2 at hC ⊢
 generalize hH3 : H2.push { cls:=Value.type (if (some X.env : Option Env).isSome = true then "dict" else "frame"), data:=Data.dict #[] } = H3
 generalize hh1 : pushCells H3 scope.names = h₁
 have hC3 : H3.objs.size = s.heap.objs.size + 2:=by rw [← hH3, Heap.size_push, hC]
 have old3 : ∀ b o, H3.get? b = some o->h₁.get? b = some o:=fun b o e=>hh1 ▸ push_keep _ _ _ _ e
 have old2 : ∀ b o, H2.get? b = some o->h₁.get? b = some o:=fun b o e=>old3 b o (hH3 ▸ Heap.get?_push_of_some _ e)
 have old : ∀ b o, s.heap.get? b = some o->h₁.get? b = some o:=fun b o e=>old2 b o (hH2 ▸ Heap.get?_push_of_some _ e)
 have hacc : h₁.get? s.heap.objs.size = some { cls:=.type "list", data:=.seq #[] 0 }:=old2 _ _ (hH2 ▸ Heap.get?_push_size _ rfl)
 have hns : h₁.Ns (s.heap.objs.size + 1) fun _=>none:=by
  have z:=Heap.Ns.new H2 (Value.type (if (some X.env : Option Env).isSome = true then "dict" else "frame"))
  rw [hC, hH3] at z
  exact z.keeps old3
 have hnc : ∀ x c, (x, c)∈cellsFrom (s.heap.objs.size + 2) scope.names []->h₁.IsCell c none:=fun x c e=>by
  rw [← hC3] at e
  exact hh1 ▸ push_cell _ _ _ _ e
 have hfo : ∀ b∈fp, ∃ o, s.heap.get? b = some o:=fun b hb=>let ⟨o, e, _⟩:=T.obj 0 _ st b hb; ⟨o, e⟩
 have st₁ : tn 0 h₁:=T.keep 0 _ _ st fun b _ o e=>old b o e
 have I₁:=comp_enter (own:=own) (tk:=s.toks) hk I hf hfo hns old hacc hnc
 have loop : ∀ s₃ : Shared, s₃ = { s with heap:=h₁, toks:=s.toks } ->
   codeAny (model X.prog X.w) X.A (.compLoop (.ListComp elt [⟨tg, iter, ifs, 0⟩] scope pos) 0 (.ref it) (.ref s.heap.objs.size) (compEnvC scope (cellsFrom (s.heap.objs.size + 2) scope.names (cloF X.env.cells scope.names [])) (s.heap.objs.size + 1) X.env))
    (RR (.ref s.heap.objs.size) (s.heap.objs.size + 1)) s₃:=by
  rintro s₃ rfl
  have neD : ∀ b∈fp, b≠s.heap.objs.size:=fun b hb=>by
   obtain ⟨o, e⟩:=hfo b hb
   exact Nat.ne_of_lt (Heap.lt_size e)
  have stat : ∀ {H' : Hp} {o : Obj}, (∀ b∈fp, H' b = none)->∀ b∈fp, FpOk (X.compM own M scope ⟨cellsFrom (s.heap.objs.size + 2) scope.names (cloF X.env.cells scope.names []), s.heap.objs.size + 1, s, H, fp⟩) [(s.heap.objs.size, o)] H' b:=fun {H' o} hn b hb =>
   ⟨hn b hb, (I₁.ok.exf b hb).1, I₁.ok.exfs b hb, .inl hb, (I₁.ok.exf b hb).2, fun p hp=>by
    have hp' : p = (s.heap.objs.size, o):=by simpa using hp
    subst hp'
    exact Ne.symm (neD b hb)⟩
  refine comp_loop (fun k s'=>∃ i ys us n H', Inv (X.compM own M scope ⟨cellsFrom (s.heap.objs.size + 2) scope.names (cloF X.env.cells scope.names []), s.heap.objs.size + 1, s, H, fp⟩) [(s.heap.objs.size, { cls:=.type "list", data:=.seq (us : List Value).toArray n })] (List.replicate own.length none ++ σ) H' s' /\
    Vals ys us/\ys.length<=sizeLine/\tn i s'.heap/\(∀ b∈fp, H' b = none)/\W i k ys H') ?_ m0 ⟨0, [], [], 0, H, I₁, .nil, Nat.zero_le _, st₁, fun b hb=>(hf b hb).1, w0⟩
  rintro k s3 ⟨i, ys, us, n, H3, I3, hv, hz, st3, fr3, w3⟩
  rcases turn ⟨cellsFrom (s.heap.objs.size + 2) scope.names (cloF X.env.cells scope.names []), s.heap.objs.size + 1, s, H, fp⟩ i k ys H3 w3 with ⟨stop, d⟩ | ⟨go, hlt, N, hN, step⟩
  ·refine thn (T.done (X.compM own M scope ⟨cellsFrom (s.heap.objs.size + 2) scope.names (cloF X.env.cells scope.names []), s.heap.objs.size + 1, s, H, fp⟩) rfl rfl rfl hc i _ s3 _ H3 _ I3 (stat fr3) st3 stop) fun r s4 ⟨hr, I4⟩=>?_
   subst hr
   obtain ⟨m', hm', _⟩:=I4.loc
   obtain ⟨J4, hDn⟩:=comp_leave I hf I4 (List.mem_singleton.mpr rfl) hv hz
   exact fin s4 m' ys H3 hm' I4.free hDn J4 d
  ·refine thn (T.item (X.compM own M scope ⟨cellsFrom (s.heap.objs.size + 2) scope.names (cloF X.env.cells scope.names []), s.heap.objs.size + 1, s, H, fp⟩) rfl rfl rfl hc i _ s3 _ H3 _ I3 (stat fr3) st3 go) fun r s4 ⟨u, hr, h4⟩=>?_
   subst hr
   refine thn h4 fun _ s5 ⟨x, H5, I5, r5, y5, st5, fr5⟩=>?_
   have I5':=I5.pinned (stat fr5) (T.obj _ _ st5)
   refine thn (hg _ _ s5 _ H5 x u _ I5' r5 (step x H5 y5)) fun _ s6 ⟨σ6, H6, I6, q6⟩=>?_
   refine thn (ht _ _ s6 σ6 H6 _ I6 q6) fun b s7 ⟨H7, I7, q7⟩=>?_
   -- the turn's end: the iterator's records stand, the names are forgotten
   have clH : ∀ x, (x, NameKind.free)∈scope.names->∃ c, (cellsFrom (s.heap.objs.size + 2) scope.names (cloF X.env.cells scope.names [])).lookup x = some c/\X.env.cells.lookup x = some c:=fun x hx=>by
    obtain ⟨c, e⟩:=I.ok.has x ((hka _ hx).2.2 rfl).2
    obtain ⟨c', e'⟩:=Option.isSome_iff_exists.mp (cloF_has (cells:=X.env.cells) (acc:=[]) hx)
    rcases cloF_get e' with q | ⟨_, q⟩
    ·simp at q
    ·rw [e] at q
     exact ⟨c', (cl_old (free_old hk hx)).trans e', by rw [e, q]; rfl⟩
   have keepT : ∀ {H' : Hp} {σ' : St} {s' : Shared} {pn : List (Addr × Obj)}, (∀ p∈pinsAt fp s5.heap, p∈pn)->Inv (X.compM own M scope ⟨cellsFrom (s.heap.objs.size + 2) scope.names (cloF X.env.cells scope.names []), s.heap.objs.size + 1, s, H, fp⟩) pn σ' H' s'->tn (i + 1) s'.heap/\∀ b∈fp, H' b = none:=fun {H' σ' s' pn} hs I' =>
    ⟨T.keep _ _ _ st5 fun b hb o e=>(I'.pin (b, o) (List.mem_append_right _ (hs _ (mem_pinsAt hb e)))).1, fun b hb=>by
     obtain ⟨o, e, _⟩:=T.obj _ _ st5 b hb
     exact (I'.pin (b, o) (List.mem_append_right _ (hs _ (mem_pinsAt hb e)))).2.1⟩
   cases b with
   | false =>
    rw [if_neg Bool.false_ne_true]
    rw [if_neg Bool.false_ne_true] at q7
    obtain ⟨m', hm', w7⟩:=hN _ _ q7
    obtain ⟨t7, f7⟩:=keepT (fun p hp=>List.mem_append_right _ hp) I7
    exact ⟨m', hm', i + 1, ys, us, n, H7, comp_reset hk I hf clH I7.unpinned, hv, hz, t7, f7, w7⟩
   | true =>
    rw [if_pos rfl]
    rw [if_pos rfl] at q7
    refine thn (he _ _ s7 σ6 H7 _ I7 q7) fun u8 s8 ⟨v8, H8, I8, r8, q8⟩=>?_
    obtain ⟨m', hm', w8⟩:=hN _ _ q8
    obtain ⟨t8, f8⟩:=keepT (fun p hp=>List.mem_append_right _ hp) I8
    obtain ⟨hD8, nD8, lD8, fD8, _⟩:=I8.pin (s.heap.objs.size, { cls:=.type "list", data:=.seq us.toArray n }) (List.mem_append_right _ (List.mem_append_left _ (List.mem_singleton.mpr rfl)))
    refine append_at (hsz:=by rw [List.size_toArray, ← hv.length]; exact Nat.le_of_lt hlt) hD8 fun h9 hs9 hD9=>?_
    have J8 : Inv (X.compM own M scope ⟨cellsFrom (s.heap.objs.size + 2) scope.names (cloF X.env.cells scope.names []), s.heap.objs.size + 1, s, H, fp⟩) (pinsAt fp s5.heap) σ6 H8 s8:=I8.pins_of fun p hp=>I8.pin p (List.mem_append_right _ (List.mem_append_right _ hp))
    have J9 : Inv (X.compM own M scope ⟨cellsFrom (s.heap.objs.size + 2) scope.names (cloF X.env.cells scope.names []), s.heap.objs.size + 1, s, H, fp⟩) (pinsAt fp s5.heap) σ6 H8 { s8 with heap:=h9 }:=J8.turned (t':=s8.toks) (it:=s.heap.objs.size) (fun b o hb e=>(hs9.2 b hb).trans e) nD8 lD8 (.inr (Nat.le_refl _))
     (fun x c e z=>by
      obtain ⟨v, o, ho, hd⟩:=J8.cell x c e
      rw [z, hD8] at ho
      cases ho
      cases hd)
     (fun p hp=>by
      have hp' : p∈pinsAt fp s5.heap:=by simpa using hp
      exact neD _ (of_pinsAt hp').1)
    obtain ⟨t9, f9⟩:=keepT (fun p hp=>hp) J9
    have e9 : h9.get? s.heap.objs.size = some { cls:=.type "list", data:=.seq (us ++ [u8]).toArray (n + 1) }:=by
     rw [hD9, List.push_toArray]
    have J9' : Inv (X.compM own M scope ⟨cellsFrom (s.heap.objs.size + 2) scope.names (cloF X.env.cells scope.names []), s.heap.objs.size + 1, s, H, fp⟩) [(s.heap.objs.size, { cls:=.type "list", data:=.seq (us ++ [u8]).toArray (n + 1) })] σ6 H8 { s8 with heap:=h9 }:=J9.pins_of fun p hp=>by
     have hp' : p = (s.heap.objs.size, { cls:=.type "list", data:=.seq (us ++ [u8]).toArray (n + 1) }):=by simpa using hp
     subst hp'
     exact ⟨e9, nD8, lD8, fD8, fun v z=>nomatch z⟩
    exact ⟨m', hm', i + 1, ys ++ [v8], us ++ [u8], n + 1, H8, comp_reset hk I hf clH J9', hv.append (.cons r8 .nil), by rw [List.length_append, List.length_singleton]; exact hlt, t9, f9, w8⟩
 exact codeAny_compStart_list (loop _ rfl) (T.self _ 0 _ _ _ st₁ (loop _ rfl))
theorem comp_clos {pins : List (Addr × Obj)} {σ : St} {H : Hp} {s : Shared} (hk : compOkM X.env scope X.N M = true) (I : Inv X pins σ H s) : closureFor scope X.env = pure (cloF X.env.cells scope.names []) :=
 closure_eq fun x hx hf=>I.ok.has x.1 ((compOkM_all hk x hx).2.2 hf).2
theorem comp_gone {pins : List (Addr × Obj)} {σ : St} {H : Hp} {s s' : Shared} {C : Addr} {h' : Heap} {m : Str->Option Value} (I : Inv X pins σ H s') (hs : X.s₀.heap.objs.size<=C) (hC : C≠X.env.locals) (hcl : ∀ x c, X.env.cells.lookup x = some c->c≠C) (hp : ∀ p∈X.pn ++ pins, p.1≠C) (hn : H C = none)
  (hb : Heap.SameBut C s'.heap h') : Inv X pins σ H { s' with heap:=h' }:=I.turned (t':=s'.toks) (fun b o hb' e=>(hb.2 b hb').trans e) hn hC (.inr hs) hcl hp
theorem pe_lcM (own M : List Str) (hc : X.calm = true) (hi : PI X tg iter wi) (hg : ∀ c, PG (X.compM own M scope c) tg (g c)) (ht : ∀ c, PTs (X.compM own M scope c) ifs (tt c)) (he : ∀ c, PE (X.compM own M scope c) elt (te c))
  (hk : compOkM X.env scope X.N M = true:=by rfl) (hs : ∀ x, foldedSetIterable iter X.env x = pure x:=by intro _; rfl) :
  PE X (.ListComp elt [⟨tg, iter, ifs, 0⟩] scope pos) (tLC own.length wi g tt te):=by
 intro pins s σ H Q I h
 rw [eval_ListComp]
 have hka:=compOkM_all hk
 refine wpAny_comprehension_free (use:=none) rfl hs (comp_clos hk I) (compOkM_kind hk) (fun x hx hl=>((hka x hx).1 hl).2) (thn (hi pins s σ H _ I h) fun v s1 h1=>thn h1 fun itv s2 h2=>?_)
 obtain ⟨it, fp, tn, J, H2, e, I2, T, st2, f2, W, ⟨m0, w0⟩, turn⟩:=h2
 subst e
 refine comp_walk (RR:=fun acc C=>compPost (model X.prog X.w) X.A X.xe none (EP X pins σ Q) acc C) (D:=fun ys H=>∀ p, H p = none->Q (.ref p) (upd H p (.lst ys))) hc hk hg ht he I2 T st2 f2 w0 turn ?_
 intro s' m' ys H' hns hCn hDn J' d
 have lt2 : ∀ {b : Addr} {o : Obj}, s2.heap.get? b = some o->b≠s2.heap.objs.size + 1:=fun e=>Nat.ne_of_lt (Nat.lt_succ_of_lt (Heap.lt_size e))
 refine ⟨m', hns, fun h' hb=>⟨.ref s2.heap.objs.size, _, comp_gone (m:=m') (s:=s2) J' (Nat.le_trans I2.sz (Nat.le_succ _)) (Ne.symm (Nat.ne_of_lt (Nat.lt_succ_of_lt I2.lt))) (fun x c e=>?_) (fun p hp=>?_) ?_ hb, rfl, d _ hDn⟩⟩
 ·obtain ⟨v, o, ho, _⟩:=I2.cell x c e
  exact lt2 ho
 ·exact lt2 (I2.pin p hp).1
 ·rw [upd_ne (Nat.ne_of_gt (Nat.lt_succ_self _))]
  exact hCn
theorem ps_lcM (own M : List Str) {i : Nat} {y : Str} {py spos : Pos} (hc : X.calm = true) (hN : X.N.Nodup) (hiN : X.N[i]? = some y) (hx : Loc X.env.scope y) (hi : PI X tg iter wi) (hg : ∀ c, PG (X.compM own M scope c) tg (g c)) (ht : ∀ c, PTs (X.compM own M scope c) ifs (tt c)) (he : ∀ c, PE (X.compM own M scope c) elt (te c))
  (hsw : swapsWith (.ListComp elt [⟨tg, iter, ifs, 0⟩] scope pos) (some (.Name y py)) spos.line X.env = pure true:=by rfl)
  (hk : compOkM X.env scope X.N M = true:=by rfl) (hs : ∀ x, foldedSetIterable iter X.env x = pure x:=by intro _; rfl) (hf : X.fn y = true\/X.env.scope.names.lookup y = some .local:=by first | exact .inl rfl | exact .inr rfl | assumption) :
  PS X (.Assign [.Name y py] (.ListComp elt [⟨tg, iter, ifs, 0⟩] scope pos) spos) (tAsg (tLC own.length wi g tt te) (gName i)):=by
 intro pins s σ H D I h
 rw [exec_Assign_Name_used _ _ _ _ hsw]
 have hka:=compOkM_all hk
 refine wpAny_bind (wpAny_standAt (wpAny_bind ?_))
 show wpAny _ X.A (do let _ ← comprehension (.ListComp elt [⟨tg, iter, ifs, 0⟩] scope pos) scope X.env _ (newList []) false (eval iter X.env) (some (assign (.Name y py) X.env))) _ _ s
 refine wpAny_bind (wpAny_mono (wpAny_comprehension_free (use:=some (assign (.Name y py) X.env)) (Q:=fun _ s'=>SP X pins D .next s') rfl hs (comp_clos hk I) (compOkM_kind hk) (fun x hx hl=>((hka x hx).1 hl).2)
  (thn (hi pins s σ H _ I h) fun v s1 h1=>thn h1 fun itv s2 h2=>?_)) (fun _ s' hq=>wpAny_pure (wpAny_pure hq)) fun _ _ e=>e)
 obtain ⟨it, fp, tn, J, H2, e, I2, T, st2, f2, W, ⟨m0, w0⟩, turn⟩:=h2
 subst e
 refine comp_walk (RR:=fun acc C=>compPost (model X.prog X.w) X.A X.xe (some (assign (.Name y py) X.env)) (fun _ s'=>SP X pins D .next s') acc C) (D:=fun ys H=>∀ p, H p = none->gName i (.ref p) σ (upd H p (.lst ys)) D.nx) hc hk hg ht he I2 T st2 f2 w0 turn ?_
 intro s' m' ys H' hns hCn hDn J' d
 have lt2 : ∀ {b : Addr} {o : Obj}, s2.heap.get? b = some o->b≠s2.heap.objs.size + 1:=fun e=>Nat.ne_of_lt (Nat.lt_succ_of_lt (Heap.lt_size e))
 show wpAny _ X.A (assign (.Name y py) X.env (.ref s2.heap.objs.size)) _ _ _
 refine wpAny_assign_Name (store_ok2 (v:=.ref s2.heap.objs.size) J' (fun j h=>nodup_ix hN h hiN) hiN hx rfl (fun s'' J'' ⟨a, hsb, ha⟩=>?_) hf)
 have hLne : X.env.locals≠s2.heap.objs.size + 1:=Nat.ne_of_lt (Nat.lt_succ_of_lt I2.lt)
 have hCa : s2.heap.objs.size + 1≠a:=by
  rcases ha with ha | ha
  ·rw [ha]; exact Ne.symm hLne
  ·obtain ⟨v, o, ho, _⟩:=I2.cell _ _ ha
   exact Ne.symm (lt2 ho)
 refine ⟨m', hns.sameBut hsb hCa, fun h' hb=>⟨_, _, comp_gone (m:=m') (s:=s2) J'' (Nat.le_trans I2.sz (Nat.le_succ _)) (Ne.symm hLne) (fun x c e=>?_) (fun p hp=>?_) ?_ hb, d _ hDn⟩⟩
 ·obtain ⟨v, o, ho, _⟩:=I2.cell x c e
  exact lt2 ho
 ·exact lt2 (I2.pin p hp).1
 ·rw [upd_ne (Nat.ne_of_gt (Nat.lt_succ_self _))]
  exact hCn
theorem pe_lc (own : List Str) (hc : X.calm = true) (hi : PI X tg iter wi) (hg : ∀ c, PG (X.comp own scope c) tg (g c)) (ht : ∀ c, PTs (X.comp own scope c) ifs (tt c)) (he : ∀ c, PE (X.comp own scope c) elt (te c))
  (hk : compOk X.env scope X.N = true:=by rfl) (hs : ∀ x, foldedSetIterable iter X.env x = pure x:=by intro _; rfl) :
  PE X (.ListComp elt [⟨tg, iter, ifs, 0⟩] scope pos) (tLC own.length wi g tt te):=pe_lcM own X.N hc hi hg ht he (compOk_M hk) hs
theorem ps_lc (own : List Str) {i : Nat} {y : Str} {py spos : Pos} (hc : X.calm = true) (hN : X.N.Nodup) (hiN : X.N[i]? = some y) (hx : Loc X.env.scope y) (hi : PI X tg iter wi) (hg : ∀ c, PG (X.comp own scope c) tg (g c)) (ht : ∀ c, PTs (X.comp own scope c) ifs (tt c)) (he : ∀ c, PE (X.comp own scope c) elt (te c))
  (hsw : swapsWith (.ListComp elt [⟨tg, iter, ifs, 0⟩] scope pos) (some (.Name y py)) spos.line X.env = pure true:=by rfl)
  (hk : compOk X.env scope X.N = true:=by rfl) (hs : ∀ x, foldedSetIterable iter X.env x = pure x:=by intro _; rfl) (hf : X.fn y = true\/X.env.scope.names.lookup y = some .local:=by first | exact .inl rfl | exact .inr rfl | assumption) :
  PS X (.Assign [.Name y py] (.ListComp elt [⟨tg, iter, ifs, 0⟩] scope pos) spos) (tAsg (tLC own.length wi g tt te) (gName i)):=ps_lcM own X.N hc hN hiN hx hi hg ht he hsw (compOk_M hk) hs hf
end
section
variable {X : Cx} {tg : Expr} {K : PySem.W.Frag} {g : CB->TG} {tt : CB->TT} {te : CB->TE} {σ : St} {H : Hp} {Q : VK} {n : Nat}
noncomputable def iSeq (K : PySem.W.Frag) (tl : TE) : TI:=fun σ H R=>tl σ H fun x H1=>∃ a, x = .ref a/\(((∃ xs, SqL K H1 a xs)/\R (Itl K a) H1)\/((∃ xs, SqT K H1 a xs)/\R (Itt K a) H1))
theorem pi_seq {l : Expr} {tl : TE} (hl : PE X l tl) : PI X tg l (iSeq X.K tl):=by
 intro pins s σ H R I h
 refine thn (hl pins s σ H _ I h) fun v s1 ⟨x, H1, I1, r1, q1⟩=>?_
 obtain ⟨a, e, q1⟩:=q1
 subst e
 cases r1
 rcases q1 with ⟨⟨xs, hq⟩, q⟩ | ⟨⟨xs, hq⟩, q⟩
 ·obtain ⟨its, rv, p, hz⟩:=I1.list hq
  refine wpAny_pyIter_list p.isList ?_
  refine ⟨s1.heap.objs.size, [s1.heap.objs.size], _, _, H1, rfl, I1.kept (t':=s1.toks) fun b o e=>Heap.get?_push_of_some _ e, turn_list a _, ⟨_, Heap.get?_push_size _ rfl, rfl, rfl⟩, fun b hb=>?_, q⟩
  have e : b = s1.heap.objs.size:=by simpa using hb
  subst e
  exact I1.fpOk (Nat.le_refl _) (I1.hok.fresh (Nat.le_refl _))
 ·obtain ⟨its, rv, p, hz⟩:=I1.tuple hq
  refine wpAny_pyIter_tuple (show s1.heap.IsTuple a its.toArray from p) ?_
  refine ⟨s1.heap.objs.size, [s1.heap.objs.size], _, _, H1, rfl, I1.kept (t':=s1.toks) fun b o e=>Heap.get?_push_of_some _ e, turn_tuple a _, ⟨_, Heap.get?_push_size _ rfl, rfl, rfl⟩, fun b hb=>?_, q⟩
  have e : b = s1.heap.objs.size:=by simpa using hb
  subst e
  exact I1.fpOk (Nat.le_refl _) (I1.hok.fresh (Nat.le_refl _))
theorem lc_any {J : It} (k : Nat) (hk : k<=1000) (Pv : Nat->List V->Hp->Prop) (h0 : Pv 0 [] H) (hgo : ∀ i ys H, i < k->Pv i ys H->J.go i H) (hst : ∀ ys H, Pv k ys H->J.stop k H) (hl : ∀ i ys H, Pv i ys H->ys.length<=i)
  (hs : ∀ c i x ys H H', i < k->J.yld i H x H'->Pv i ys H->g c x (List.replicate n none ++ σ) H' fun σ2 H2=>tt c σ2 H2 fun b H3=>if b = true then te c σ2 H3 fun v H4=>Pv (i + 1) (ys ++ [v]) H4 else Pv (i + 1) ys H3)
  (hd : ∀ ys H, Pv k ys H->∀ p, H p = none->Q (.ref p) (upd H p (.lst ys))) : LcEnd J n g tt te σ Q H:=by
 refine ⟨fun i m ys H=>m = k - i/\i<=k/\Pv i ys H, ⟨k, by simp, Nat.zero_le _, h0⟩, ?_⟩
 rintro c i m ys H ⟨rfl, hi, p⟩
 by_cases hlt : i < k
 ·refine .inr ⟨hgo i ys H hlt p, ?_, Pv (i + 1), fun ys' H' p'=>⟨k - (i + 1), by omega, rfl, hlt, p'⟩, fun x H' y=>hs c i x ys H H' hlt y p⟩
  have:=hl i ys H p
  have h24:=sizeLine_eq
  omega
 ·have e : i = k:=by omega
  subst e
  exact .inl ⟨hst ys H p, hd ys H p⟩
theorem lc_rng {lo : Int} {k : Nat} (hk : k<=1000) (Pv : Nat->List V->Hp->Prop) (h0 : Pv 0 [] H) (hl : ∀ i ys H, Pv i ys H->ys.length<=i)
  (hs : ∀ c i ys H, i < k->Pv i ys H->g c (.int (lo + i)) (List.replicate n none ++ σ) H fun σ2 H2=>tt c σ2 H2 fun b H3=>if b = true then te c σ2 H3 fun v H4=>Pv (i + 1) (ys ++ [v]) H4 else Pv (i + 1) ys H3)
  (hd : ∀ ys H, Pv k ys H->∀ p, H p = none->Q (.ref p) (upd H p (.lst ys))) : LcEnd (Itr lo k) n g tt te σ Q H :=
 lc_any k hk Pv h0 (fun i ys H hi p=>hi) (fun ys H p=>Nat.le_refl k) hl (fun c i x ys H H' hi y p=>by
  obtain ⟨e, y⟩:=y
  subst e y
  exact hs c i ys _ hi p) hd
end
end L2
namespace NfSort
open PySem PySem.W PyProof.Rows
noncomputable def kwp {α : Type} (n : Nat) (key : Nat->Int) : KasT α->(α->Prop)->Prop
 | .ret a, Q=>Q a
 | .ask i j k, Q=>i < n/\j < n/\kwp n key (k (decide (key i < key j))) Q
theorem kwp_mono {α : Type} {n : Nat} {key : Nat->Int} {Q Q' : α->Prop} (h : ∀ a, Q a->Q' a) : ∀ {t : KasT α}, kwp n key t Q->kwp n key t Q'
 | .ret a, q=>h a q
 | .ask _ _ k, q=>⟨q.1, q.2.1, kwp_mono h q.2.2⟩
theorem kwp_bind {α β : Type} {n : Nat} {key : Nat->Int} {f : α->KasT β} {Q : β->Prop} : ∀ {t : KasT α}, kwp n key t (fun a=>kwp n key (f a) Q)->kwp n key (t.bind f) Q
 | .ret a, q=>q
 | .ask _ _ k, q=>⟨q.1, q.2.1, kwp_bind q.2.2⟩
theorem kwp_run {α : Type} {n : Nat} {key : Nat->Int} {cmp : Nat->Nat->(Bool->Shared->Prop)->Shared->Prop} {s : Shared} {G : α->Shared->Prop} (hc : ∀ i j C, i < n->j < n->C (decide (key i < key j)) s->cmp i j C s) :
  ∀ {t : KasT α}, kwp n key t (fun a=>G a s)->t.kasWp cmp G s
 | .ret _, q=>q
 | .ask i j k, q=>hc i j _ q.1 q.2.1 (kwp_run hc q.2.2)
section
variable {n : Nat} {key : Nat->Int} {p : Array Nat}
noncomputable def Pm (n : Nat) (p : Array Nat) : Prop:=p.Perm (List.range n).toArray
noncomputable def kk (key : Nat->Int) (p : Array Nat) (i : Nat) : Int:=key (p.getD i 0)
theorem Pm.size (h : Pm n p) : p.size = n:=by
 have:=Array.Perm.size_eq h
 simpa using this
theorem getD_eq (p : Array Nat) (i : Nat) : p.getD i 0 = (p[i]?).getD 0:=by
 by_cases h : i < p.size <;> simp [Array.getD, h]
theorem Pm.lt (h : Pm n p) {i : Nat} (hi : i < n) : p.getD i 0 < n:=by
 have hs:=h.size
 have hi' : i < p.size:=by omega
 have hm : p[i]∈p.toList:=by
  have:=Array.getElem_mem hi'
  simpa using this
 have hp : p.toList.Perm (List.range n):=by
  have:=Array.perm_iff_toList_perm.mp h
  simpa using this
 have e : p.getD i 0 = p[i]:=by simp [Array.getD, hi']
 rw [e]
 exact List.mem_range.mp (hp.mem_iff.mp hm)
theorem Pm.rev (h : Pm n p) (i j : Nat) : Pm n (kas_rev p i j):=Array.Perm.trans (mirror_perm _ _ _ _) h
theorem Pm.bub (h : Pm n p) (i j : Nat) : Pm n (bubble p i j):=Array.Perm.trans (bubble_perm _ _ _) h
theorem kk_rev (h : Pm n p) {i j : Nat} (hj : j<=n) (t : Nat) : kk key (kas_rev p i j) t = if i<=t/\t < j then kk key p (i + j - 1 - t) else kk key p t:=by
 unfold kk kas_rev
 rw [getD_eq, getElem?_mirror_all (by rw [h.size]; exact hj)]
 split
 ·rw [getD_eq]
 ·rw [getD_eq]
theorem kk_bub (h : Pm n p) {k l : Nat} (hk : k < n) (hl : l<=k) (t : Nat) : kk key (bubble p k (k - l)) t = if t = l then kk key p k else if l < t/\t<=k then kk key p (t - 1) else kk key p t:=by
 unfold kk
 rw [getD_eq, getElem?_bubble (by rw [h.size]; exact hk) _ (by omega)]
 have e : k - (k - l) = l:=by omega
 rw [e]
 split
 ·rw [getD_eq]
 ·split
  ·rw [getD_eq]
  ·rw [getD_eq]
noncomputable def Up (key : Nat->Int) (p : Array Nat) (m : Nat) : Prop:=∀ i j, i<=j->j < m->kk key p i<=kk key p j
noncomputable def Dn (key : Nat->Int) (p : Array Nat) (m : Nat) : Prop:=∀ i j, i<=j->j < m->kk key p j<=kk key p i
noncomputable def Rn (key : Nat->Int) (p : Array Nat) (m q : Nat) : Prop:=q + 1<=m/\∀ t, m<=t + q + 1->t < m->kk key p t = kk key p (m - 1)
theorem Up.more {a : Nat} (h : Up key p a) (h1 : 1<=a) (hx : kk key p (a - 1)<=kk key p a) : Up key p (a + 1):=fun i j hij hj=>by
 by_cases hja : j < a
 ·exact h i j hij hja
 ·obtain rfl : j = a:=by omega
  by_cases hi : i = j
  ·subst hi; exact Int.le_refl _
  ·exact Int.le_trans (h i (j - 1) (by omega) (by omega)) hx
theorem Dn.more {a : Nat} (h : Dn key p a) (h1 : 1<=a) (hx : kk key p a<=kk key p (a - 1)) : Dn key p (a + 1):=fun i j hij hj=>by
 by_cases hja : j < a
 ·exact h i j hij hja
 ·obtain rfl : j = a:=by omega
  by_cases hi : i = j
  ·subst hi; exact Int.le_refl _
  ·exact Int.le_trans hx (h i (j - 1) (by omega) (by omega))
theorem asc_ok (hp : Pm n p) : ∀ (f a : Nat), 1<=a->a + f<=n->Up key p a->kwp n key (kas_asc p f a) (fun m=>a<=m/\m<=a + f/\Up key p m/\(m < a + f->kk key p m < kk key p (m - 1)))
 | 0, a, h1, hf, hu=>⟨Nat.le_refl _, Nat.le_refl _, hu, fun h=>absurd h (by omega)⟩
 | f + 1, a, h1, hf, hu=>by
  refine ⟨hp.lt (by omega), hp.lt (by omega), ?_⟩
  by_cases hc : key (p.getD a 0) < key (p.getD (a - 1) 0)
  ·(rw [decide_eq_true hc]; dsimp only; rw [if_pos rfl])
   exact ⟨Nat.le_refl _, by omega, hu, fun _=>hc⟩
  ·(rw [decide_eq_false hc]; dsimp only; rw [if_neg Bool.false_ne_true])
   refine kwp_mono (fun m ⟨a1, a2, a3, a4⟩=>⟨by omega, by omega, a3, fun h=>a4 (by omega)⟩) (asc_ok hp f (a + 1) (by omega) (by omega) (hu.more h1 (Int.not_lt.mp hc)))
theorem rev_run (hp : Pm n p) {a q : Nat} (ha : a<=n) (hr : Rn key p a q) (t : Nat) : kk key (kas_rev p (a - (q + 1)) a) t = kk key p t:=by
 rw [kk_rev hp ha]
 split
 ·rename_i h
  rw [hr.2 t (by omega) h.2]
  exact hr.2 _ (by have:=hr.1; omega) (by omega)
 ·rfl
theorem Dn.eq {p' : Array Nat} {m : Nat} (h : Dn key p m) (e : ∀ t, kk key p' t = kk key p t) : Dn key p' m:=fun i j a b=>by rw [e, e]; exact h i j a b
theorem desc_ok : ∀ (f : Nat) (p : Array Nat) (a q : Nat), Pm n p->1<=a->a + f<=n->Dn key p a->Rn key p a q ->
  kwp n key (kas_desc f p a q) (fun r=>Pm n r.1/\a<=r.2.1/\r.2.1<=a + f/\Dn key r.1 r.2.1/\Rn key r.1 r.2.1 r.2.2)
 | 0, p, a, q, hp, h1, hf, hd, hr=>⟨hp, Nat.le_refl _, Nat.le_refl _, hd, hr⟩
 | f + 1, p, a, q, hp, h1, hf, hd, hr=>by
  refine ⟨hp.lt (by omega), hp.lt (by omega), ?_⟩
  have fin : ∀ {p' : Array Nat} {q' : Nat}, Pm n p'->Dn key p' (a + 1)->Rn key p' (a + 1) q'->kwp n key (kas_desc f p' (a + 1) q') (fun r=>Pm n r.1/\a<=r.2.1/\r.2.1<=a + (f + 1)/\Dn key r.1 r.2.1/\Rn key r.1 r.2.1 r.2.2):=fun x y z =>
   kwp_mono (fun r ⟨a1, a2, a3, a4, a5⟩=>⟨a1, by omega, by omega, a4, a5⟩) (desc_ok f _ (a + 1) _ x (by omega) (by omega) y z)
  have rn0 : ∀ p' : Array Nat, Rn key p' (a + 1) 0:=fun p'=>⟨by omega, fun t h1 h2=>by
   have e : t = a + 1 - 1:=by omega
   rw [e]⟩
  by_cases hc : key (p.getD a 0) < key (p.getD (a - 1) 0)
  ·(rw [decide_eq_true hc]; dsimp only; rw [if_pos rfl])
   have hc' : kk key p a < kk key p (a - 1):=hc
   by_cases hq : q > 0
   ·rw [if_pos hq]
    have e:=rev_run (key:=key) hp (by omega) hr
    exact fin (hp.rev _ _) ((hd.more h1 (Int.le_of_lt hc')).eq e) (rn0 _)
   ·rw [if_neg hq]
    exact fin hp (hd.more h1 (Int.le_of_lt hc')) (rn0 _)
  ·(rw [decide_eq_false hc]; dsimp only; rw [if_neg Bool.false_ne_true])
   refine ⟨hp.lt (by omega), hp.lt (by omega), ?_⟩
   by_cases hc2 : key (p.getD (a - 1) 0) < key (p.getD a 0)
   ·(rw [decide_eq_true hc2]; dsimp only; rw [if_pos rfl])
    exact ⟨hp, Nat.le_refl _, (by show a<=a + (f + 1); omega), hd, hr⟩
   ·(rw [decide_eq_false hc2]; dsimp only; rw [if_neg Bool.false_ne_true])
    have e : kk key p a = kk key p (a - 1):=Int.le_antisymm (Int.not_lt.mp hc2) (Int.not_lt.mp hc)
    refine fin hp (hd.more h1 (Int.le_of_eq e)) ⟨by have:=hr.1; omega, fun t t1 t2=>?_⟩
    show _ = kk key p a
    by_cases ht : t = a
    ·rw [ht]
    ·rw [e]
     exact hr.2 t (by omega) (by omega)
theorem tail3_ok {a : Nat} (hp : Pm n p) (h1 : 1<=a) (ha : a<=n) (hd : Dn key p a) : kwp n key (kas_tail3 a n p) (fun r=>Pm n r.2/\1<=r.1/\r.1<=n/\Up key r.2 r.1):=by
 unfold kas_tail3
 have hu : Up key (kas_rev p 0 a) a:=fun i j hij hj=>by
  rw [kk_rev hp ha, kk_rev hp ha, if_pos ⟨by omega, by omega⟩, if_pos ⟨by omega, hj⟩]
  exact hd _ _ (by omega) (by omega)
 refine kwp_bind (kwp_mono (fun m ⟨a1, a2, a3, _⟩=>?_) (asc_ok (hp.rev 0 a) (n - a) a h1 (by omega) hu))
 exact ⟨hp.rev 0 a, by omega, by omega, a3⟩
theorem descPart_ok {a : Nat} (hp : Pm n p) (ha : a + 1<=n) (hd : Dn key p (a + 1)) : kwp n key (kas_descPart a n p) (fun r=>Pm n r.2/\1<=r.1/\r.1<=n/\Up key r.2 r.1):=by
 unfold kas_descPart
 refine kwp_bind (kwp_mono (fun r ⟨a1, a2, a3, a4, a5⟩=>?_) (desc_ok (n - (a + 1)) p (a + 1) 0 hp (by omega) (by omega) hd ⟨by omega, fun t h1 h2=>by
  have e : t = a + 1 - 1:=by omega
  rw [e]⟩))
 split
 ·exact tail3_ok (a1.rev _ _) (by omega) (by omega) (a4.eq (rev_run a1 (by omega) a5))
 ·exact tail3_ok a1 (by omega) (by omega) a4
theorem count_ok (hp : Pm n p) (h1 : 1<=n) : kwp n key (kas_count n p) (fun r=>Pm n r.2/\1<=r.1/\r.1<=n/\Up key r.2 r.1):=by
 unfold kas_count
 have u1 : Up key p 1:=fun i j hij hj=>by
  have e : i = j:=by omega
  rw [e]; exact Int.le_refl _
 refine kwp_bind (kwp_mono (fun m ⟨a1, a2, a3, a4⟩=>?_) (asc_ok hp (n - 1) 1 (Nat.le_refl _) (by omega) u1))
 by_cases hm : m = n
 ·rw [if_pos (by simpa using hm)]
  exact ⟨hp, by omega, by omega, a3⟩
 ·rw [if_neg (by simpa using hm)]
  have hlt:=a4 (by omega)
  by_cases hm1 : m > 1
  ·rw [if_pos hm1]
   refine ⟨hp.lt (by omega), hp.lt (by omega), ?_⟩
   by_cases hc : key (p.getD 0 0) < key (p.getD (m - 1) 0)
   ·(rw [decide_eq_true hc]; dsimp only; rw [if_pos rfl])
    exact ⟨hp, by omega, by omega, a3⟩
   ·(rw [decide_eq_false hc]; dsimp only; rw [if_neg Bool.false_ne_true])
    have hall : ∀ t, t < m->kk key p t = kk key p 0:=fun t ht=>by
     have e1:=a3 0 t (by omega) ht
     have e2:=a3 t (m - 1) (by omega) (by omega)
     have e3 : kk key p (m - 1)<=kk key p 0:=Int.not_lt.mp hc
     omega
    have e : ∀ t, kk key (kas_rev p 0 m) t = kk key p t:=fun t=>by
     rw [kk_rev hp (by omega)]
     split
     ·rename_i h
      rw [hall t h.2, hall _ (by omega)]
     ·rfl
    refine descPart_ok (hp.rev 0 m) (by omega) (Dn.eq (p:=p) (Dn.more (fun i j hij hj=>?_) (by omega) (Int.le_of_lt hlt)) e)
    rw [hall i (by omega), hall j hj]
    exact Int.le_refl _
  ·rw [if_neg hm1]
   obtain rfl : m = 1:=by omega
   refine descPart_ok hp (by omega) (Dn.more (fun i j hij hj=>?_) (by omega) (Int.le_of_lt hlt))
   have e : i = j:=by omega
   rw [e]; exact Int.le_refl _
theorem place_ok {k : Nat} (hp : Pm n p) (hk : k < n) (hu : Up key p k) : ∀ (f l r : Nat), l<=r->r<=k->r<=l + f->(∀ t, t < l->kk key p t<=kk key p k)->(∀ t, r<=t->t < k->kk key p k < kk key p t) ->
  kwp n key (kas_place p k f l r) (fun l'=>l'<=k/\(∀ t, t < l'->kk key p t<=kk key p k)/\(∀ t, l'<=t->t < k->kk key p k < kk key p t))
 | 0, l, r, h1, h2, h3, h4, h5=>⟨by omega, h4, fun t a b=>h5 t (by omega) b⟩
 | f + 1, l, r, h1, h2, h3, h4, h5=>by
  unfold kas_place
  by_cases hlr : l ≥ r
  ·rw [if_pos hlr]
   exact ⟨by omega, h4, fun t a b=>h5 t (by omega) b⟩
  ·rw [if_neg hlr]
   have hm : (l + r) / 2 < r:=by omega
   refine ⟨hp.lt hk, hp.lt (by omega), ?_⟩
   by_cases hc : key (p.getD k 0) < key (p.getD ((l + r) / 2) 0)
   ·(rw [decide_eq_true hc]; dsimp only; rw [if_pos rfl])
    have hc' : kk key p k < kk key p ((l + r) / 2):=hc
    exact place_ok hp hk hu f l _ (by omega) (by omega) (by omega) h4 fun t a b=>Int.lt_of_lt_of_le hc' (hu _ t a b)
   ·(rw [decide_eq_false hc]; dsimp only; rw [if_neg Bool.false_ne_true])
    have hc' : kk key p ((l + r) / 2)<=kk key p k:=Int.not_lt.mp hc
    exact place_ok hp hk hu f _ r (by omega) (by omega) (by omega) (fun t a=>Int.le_trans (hu t _ (by omega) (by omega)) hc') h5
theorem bin_ok : ∀ (f : Nat) (p : Array Nat) (k : Nat), Pm n p->k + f<=n->Up key p k->kwp n key (kas_bin f p k) (fun p'=>Pm n p'/\Up key p' (k + f))
 | 0, p, k, hp, hk, hu=>⟨hp, hu⟩
 | f + 1, p, k, hp, hk, hu=>by
  unfold kas_bin
  refine kwp_bind (kwp_mono (fun l ⟨a1, a2, a3⟩=>?_) (place_ok hp (by omega) hu k 0 k (Nat.zero_le _) (Nat.le_refl _) (by omega) (fun t h=>absurd h (by omega)) (fun t h1 h2=>absurd h1 (by omega))))
  have e:=kk_bub (key:=key) hp (k:=k) (by omega) a1
  have hu' : Up key (bubble p k (k - l)) (k + 1):=fun i j hij hj=>by
   rw [e, e]
   by_cases hi : i = l
   ·rw [if_pos hi]
    by_cases hj' : j = l
    ·rw [if_pos hj']; exact Int.le_refl _
    ·rw [if_neg hj', if_pos ⟨by omega, by omega⟩]
     exact Int.le_of_lt (a3 _ (by omega) (by omega))
   ·rw [if_neg hi]
    by_cases hi2 : l < i/\i<=k
    ·rw [if_pos hi2, if_neg (by omega), if_pos ⟨by omega, by omega⟩]
     exact hu _ _ (by omega) (by omega)
    ·rw [if_neg hi2]
     by_cases hj' : j = l
     ·rw [if_pos hj']
      exact a2 i (by omega)
     ·rw [if_neg hj']
      by_cases hj2 : l < j/\j<=k
      ·rw [if_pos hj2]
       exact hu _ _ (by omega) (by omega)
      ·rw [if_neg hj2]
       exact hu _ _ hij (by omega)
  refine kwp_mono (fun p' ⟨b1, b2⟩=>⟨b1, ?_⟩) (bin_ok f _ (k + 1) (hp.bub _ _) (by omega) hu')
  have e2 : k + (f + 1) = k + 1 + f:=by omega
  rw [e2]; exact b2
theorem sort_ok (h1 : 1<=n) : kwp n key (kas_sort n) (fun p=>Pm n p/\Up key p n):=by
 unfold kas_sort
 refine kwp_bind (kwp_mono (fun r ⟨a1, a2, a3, a4⟩=>?_) (count_ok (p:=(List.range n).toArray) (Array.Perm.refl _) h1))
 have e : max r.1 1 = r.1:=by omega
 rw [e]
 split
 ·refine kwp_mono (fun p' ⟨b1, b2⟩=>⟨b1, ?_⟩) (bin_ok (n - r.1) r.2 r.1 a1 (by omega) a4)
  have e2 : r.1 + (n - r.1) = n:=by omega
  rw [e2] at b2; exact b2
 ·have e2 : r.1 = n:=by omega
  rw [e2] at a4
  exact ⟨a1, a4⟩
end
end NfSort
namespace L2
open PySem PySem.Spec PyProof.Rows
section
variable {prog : Program} {w : World} {A : Around} {E : Value->Shared->Prop} {s : Shared}
theorem draw_listN {it t : Addr} {items : Array Value} (hne : t≠it) : ∀ (n i : Nat) (s : Shared) (Q : List Value->Shared->Prop), s.heap.IsListIter it t i->s.heap.IsList t items->i + n<=items.size ->
  (∀ h', h'.IsListIter it t (i + n)->Heap.SameBut it s.heap h'->Q ((items.toList.drop i).take n) { s with heap:=h' })->wpAny (model prog w) A (draw (.ref it) n) Q E s
 | 0, i, s, Q, hit, _, _, hQ=>by
  show wpAny _ _ (pure []) Q E s
  exact wpAny_pure (by simpa using hQ s.heap hit (Heap.SameBut.refl ..))
 | n + 1, i, s, Q, hit, ht, hle, hQ=>by
  have hlt : i < items.size:=by omega
  show wpAny _ _ (pyNext (.ref it) >>= _) Q E s
  refine wpAny_bind (wpAny_pyNext_list_item hit ht (x:=items[i]) (by simp [hlt]) fun h₁ hit₁ hs₁=>?_)
  refine wpAny_bind (wpAny_holding (draw_listN hne n (i + 1) _ _ hit₁ (ht.extBut hs₁.extBut hne) (by omega) fun h₂ hit₂ hs₂=>wpAny_pure ?_))
  have hd : items.toList.drop i = items[i] :: items.toList.drop (i + 1):=by simp [List.drop_eq_getElem_cons, hlt]
  have:=hQ h₂ (by rw [show i + (n + 1) = i + 1 + n by omega]; exact hit₂) (hs₁.trans hs₂)
  rw [hd, List.take_succ_cons] at this
  exact this
theorem unpackItems_listN {t : Addr} {items : Array Value} {Q : List Value->Shared->Prop} (hh : A.handled = none) (ht : s.heap.IsList t items)
  (hQ : ∀ h', Heap.ExtBut s.heap.objs.size s.heap h'->Q items.toList { s with heap:=h' }) : wpAny (model prog w) A (unpackItems (.ref t) items.size none) Q E s:=by
 have hlt : t≠s.heap.objs.size:=by obtain ⟨o, ho, _⟩:=ht; exact Nat.ne_of_lt (Heap.lt_size ho)
 have hT : s.TypeIs (.ref t) "list":=by obtain ⟨o, ho, hc, _⟩:=ht; exact ⟨o, ho, hc⟩
 unfold unpackItems
 refine wpAny_bind ?_
 ·unfold notIterableAtAll
  refine wpAny_bind (wpAny_specialOf hT slot_list_iter.lookup ?_)
  refine wpAny_pure ?_
  simp only [Bool.false_eq_true, if_false]
  refine wpAny_bind (wpAny_holding (wpAny_pyIter_list ht ?_))
  refine wpAny_bind (wpAny_holding (draw_listN hlt items.size 0 _ _ ⟨_, Heap.get?_push_size _ rfl, rfl, rfl⟩ (ht.push _) (by omega) fun h₁ hit₁ hs₁=>?_))
  have hall : List.take items.size (List.drop 0 items.toList) = items.toList:=by
   rw [List.drop_zero]; exact List.take_of_length_le (by simp)
  rw [hall]
  rw [if_neg (by simp)]
  have ht₁ : h₁.IsList t items:=(ht.push _).extBut hs₁.extBut hlt
  refine wpAny_bind (wpAny_holding (wpAny_pyNext_list_end hh hit₁ ht₁ (by simp) fun h₂ he₂=>?_))
  simp only [Option.isSome_none, Bool.false_eq_true, if_false]
  refine wpAny_pure (hQ h₂ fun b o hb e=>he₂ b o hb (hs₁.extBut b o hb (Heap.get?_push_of_some _ e)))
theorem unpack_listN {t : Addr} {items : Array Value} {targets : List (Bool × (Value->Sem Unit))} {Q : Unit->Shared->Prop} (hh : A.handled = none) (ht : s.heap.IsList t items)
  (hn : targets.length = items.size) (hstar : targets.findIdx? (·.1) = none)
  (h : ∀ h', Heap.ExtBut s.heap.objs.size s.heap h'->wpAny (model prog w) A (assignInOrder (targets.map (·.2)) items.toList) Q E { s with heap:=h' }) :
  wpAny (model prog w) A (unpack (.ref t) targets) Q E s:=by
 unfold unpack
 rw [hn, hstar]
 exact wpAny_bind (wpAny_holding (unpackItems_listN hh ht h))
end
section
variable {X : Cx} {pos : Pos}
noncomputable def gLst (K : PySem.W.Frag) (n : Nat) (t : TGs) : TG:=fun v σ H Q=>∃ a xs, v = .ref a/\SqL K H a xs/\xs.length = n/\t xs σ H Q
theorem pg_lst {es : List Expr} {k : Nat} {t : TGs} {n : Nat} (hc : X.calm = true) (h : PGs X es t)
  (hn : (assignEach es X.env).length = n:=by rfl) (hst : (assignEach es X.env).findIdx? (·.1) = none:=by rfl) : PG X (.Tuple es k pos) (gLst X.K n t):=by
 intro pins s σ H v u Q I r hw
 obtain ⟨a, xs, e1, hq, hl, hw⟩:=hw
 subst e1
 cases r
 obtain ⟨its, rv, ht, hz⟩:=I.list hq
 rw [PyProof.Rows.assign_Tuple]
 refine wpAny_bind (wpAny_standAt (unpack_listN (I.ok.hd hc) ht.isList (by simp [hn, ← hl, rv.length]) hst fun h' hx=>?_))
 have I1 : Inv X pins σ H { s with heap:=h' }:=I.kept (t':=s.toks) fun b o e=>hx b o (Nat.ne_of_lt (Heap.lt_size e)) e
 exact h pins _ σ H xs _ Q I1 (by simpa using rv) hw
end
section
variable {X : Cx}
theorem call_isinst1 : CallR X (.builtin "isinstance") (fun xs H Q=>∃ x c t b, xs = [x, .ty c]/\TyOf X.K H x t/\PySem.W.kitOne X.K t (.type c) = some b/\Q (.bl b) H):=by
 intro pins s σ H xs us Q I r h
 obtain ⟨x, c, t, b, rfl, ty, e, q⟩:=h
 obtain ⟨u, u2, rfl, rx, rc⟩:=vals2 r
 cases rc
 exact isinst_ok I rx ty e fun tk=>⟨.bl b, H, I.tok _, rfl, q⟩
theorem call_isinst2 : CallR X (.builtin "isinstance") (fun xs H Q=>∃ x p c1 c2 t b, xs = [x, .ref p]/\TyOf X.K H x t/\SqT X.K H p [.ty c1, .ty c2]/\PySem.W.kitAny X.K t [.type c1, .type c2] = some b/\Q (.bl b) H):=by
 intro pins s σ H xs us Q I r h
 obtain ⟨x, p, c1, c2, t, b, rfl, ty, hp, e, q⟩:=h
 obtain ⟨u, u2, rfl, rx, rc⟩:=vals2 r
 cases rc
 obtain ⟨its, rv, ⟨o, ho, hcl, n, hd⟩, hz⟩:=I.tuple hp
 obtain ⟨v1, v2, rfl, r1, r2⟩:=vals2 rv
 cases r1
 cases r2
 obtain ⟨oc, od, odt, osl⟩:=o
 cases hcl
 cases hd
 have fin : ∀ tk, EP X pins σ Q (.bool b) { s with toks:=tk }:=fun tk=>⟨.bl b, H, I.tok _, rfl, q⟩
 cases ty with
 | non=>cases (show u = Value.none from rx); exact PySem.W.kia_tup PySem.W.kitx_none I.kIn True.intro ho e (fun z=>nomatch z) fin
 | bl y=>cases (show u = Value.bool y from rx); exact PySem.W.kia_tup PySem.W.kitx_bool I.kIn True.intro ho e (fun z=>nomatch z) fin
 | int i=>obtain ⟨t, q⟩:=(show ∃ t, u = Value.int i t from rx); cases q; exact PySem.W.kia_tup PySem.W.kitx_int I.kIn True.intro ho e (fun z=>nomatch z) fin
 | str y=>obtain ⟨t, q⟩:=(show ∃ t, u = Value.str y t from rx); cases q; exact PySem.W.kia_tup PySem.W.kitx_str I.kIn True.intro ho e (fun z=>nomatch z) fin
 | flt y=>obtain ⟨t, q⟩:=(show ∃ t, u = Value.float y t from rx); cases q; exact PySem.W.kia_tup PySem.W.kitx_float I.kIn True.intro ho e (fun z=>nomatch z) fin
 | @lst a xs ea =>
  cases (show u = Value.ref a from rx)
  obtain ⟨_, _, n, _, h1⟩:=(show ObjOk X.prog X.w H s.heap a (.lst xs) from I.hok a _ ea)
  exact PySem.W.kia_tup PySem.W.kitx_list I.kIn ⟨_, h1, rfl⟩ ho e (fun z=>nomatch z) fin
 | @frz a ob xs ea =>
  cases (show u = Value.ref a from rx)
  obtain ⟨_, _, _, n, _, h1⟩:=(show ObjOk X.prog X.w H s.heap a (.frz ob (.lst xs)) from I.hok a _ ea)
  exact PySem.W.kia_tup PySem.W.kitx_list I.kIn ⟨_, h1, rfl⟩ ho e (fun z=>nomatch z) fin
 | @tup a xs ea =>
  cases (show u = Value.ref a from rx)
  obtain ⟨_, _, _, p⟩:=(show ObjOk X.prog X.w H s.heap a (.tup xs) from I.hok a _ ea)
  obtain ⟨o, h1, h2, _⟩:=p
  exact PySem.W.kia_tup PySem.W.kitx_tuple I.kIn ⟨o, h1, h2⟩ ho e (fun z=>nomatch z) fin
 | @dK a kvs ea =>
  cases (show u = Value.ref a from rx)
  obtain ⟨_, _, vs, _, p⟩:=(show ObjOk X.prog X.w H s.heap a (.dK kvs) from I.hok a _ ea)
  obtain ⟨o, es, ep, h1, h2, _⟩:=p
  exact PySem.W.kia_tup PySem.W.kitx_dict I.kIn ⟨o, h1, h2.1⟩ ho e (fun z=>nomatch z) fin
 | @dT a kvs ea =>
  cases (show u = Value.ref a from rx)
  obtain ⟨_, _, xs, _, o, es, ep, h1, h2, _⟩:=(show ObjOk X.prog X.w H s.heap a (.dT kvs) from I.hok a _ ea)
  exact PySem.W.kia_tup PySem.W.kitx_dict I.kIn ⟨o, h1, h2.1⟩ ho e (fun z=>nomatch z) fin
 | @ins a C dx fs ea cl ha hn htk hm =>
  cases (show u = Value.ref a from rx)
  obtain ⟨mA, O, _⟩:=ins_get I.hok ea
  obtain ⟨od, J, _⟩:=O.look
  exact PySem.W.kia_tup (PySem.W.kitx_own (cl.get _) cl.hd ha hn htk hm) I.kIn J ho e (fun z=>nomatch z) fin
theorem vals_bl : ∀ {bs : List Bool} {us : List Value}, Vals (bs.map V.bl) us->us = bs.map Value.bool
 | [], _, h=>by cases h; rfl
 | b :: bs, _, h=>by
  cases h with
  | cons r t =>
   cases r
   rw [vals_bl t]
   rfl
theorem all_range (bs : List Bool) : (List.range bs.length).all (fun i=>bs.getD i true) = bs.all id:=by
 rw [Bool.eq_iff_iff]
 simp only [List.all_eq_true, List.mem_range]
 constructor
 ·intro h x hx
  obtain ⟨i, hi, e⟩:=List.mem_iff_getElem.mp hx
  have q:=h i hi
  simp [hi] at q
  rw [← e]; exact q
 ·intro h i hi
  have q:=h bs[i] (List.getElem_mem hi)
  simpa [hi] using q
theorem call_allB (hc : X.calm = true) : CallR X (.builtin "all") (fun xs H Q=>∃ (p : Addr) (bs : List Bool), xs = [.ref p]/\SqL X.K H p (bs.map V.bl)/\Q (.bl (bs.all id)) H):=by
 intro pins s σ H xs us Q I r h
 obtain ⟨p, bs, rfl, hp, q⟩:=h
 obtain ⟨u, rfl, rx⟩:=vals1 r
 cases rx
 obtain ⟨its, rv, pl, hz⟩:=I.list hp
 have e:=vals_bl rv
 subst e
 have hlt : p≠s.heap.objs.size:=by obtain ⟨o, ho, _⟩:=pl.isList; exact Nat.ne_of_lt (Heap.lt_size ho)
 refine call_all_walk (wpAny_pyIter_list pl.isList ?_)
 refine ⟨_, _, _, _, _, _, fun i=>bs.getD i true, rfl, Walks.list (A:=X.A.in1) (I.ok.hd hc) _ p hlt _, ⟨⟨_, Heap.get?_push_size _ rfl, rfl, rfl⟩, pl.isList.push _⟩, ?_, fun h' tk hk=>?_⟩
 ·intro i v s Q E hP hQ
  have hP' : (bs.map Value.bool)[i]? = some v:=by simpa using hP
  rw [List.getElem?_map] at hP'
  cases hb : bs[i]? with
  | none=>rw [hb] at hP'; cases hP'
  | some b =>
   rw [hb] at hP'
   cases hP'
   refine wpAny_truthy_bool ?_
   have e : bs.getD i true = b:=by rw [List.getD_eq_getElem?_getD, hb]; rfl
   have hQ' : Q (bs.getD i true) s:=hQ
   rw [e] at hQ'
   exact hQ'
 ·have e : (List.range (bs.map Value.bool).toArray.size).all (fun i=>bs.getD i true) = bs.all id:=by
   rw [List.size_toArray, List.length_map]
   exact all_range bs
  rw [e]
  refine ⟨.bl (bs.all id), H, I.kept fun b o eb=>hk b o ?_ (Heap.get?_push_of_some _ eb), rfl, q⟩
  intro hm
  have : b = s.heap.objs.size:=by simpa using hm
  exact absurd (Heap.lt_size eb) (by rw [this]; exact Nat.lt_irrefl _)
theorem call_minT (hc : X.calm = true) : CallR X (.builtin "min") (fun xs H Q=>∃ p a b, xs = [.ref p]/\SqT X.K H p [.int a, .int b]/\Q (.int (if b < a then b else a)) H):=by
 intro pins s σ H xs us Q I r h
 obtain ⟨p, a, b, rfl, hp, q⟩:=h
 obtain ⟨u, rfl, rx⟩:=vals1 r
 cases rx
 obtain ⟨its, rv, pl, hz⟩:=I.tuple hp
 obtain ⟨v1, v2, rfl, ⟨t1, rfl⟩, ⟨t2, rfl⟩⟩:=vals2 rv
 have pl' : s.heap.IsTuple p (intItems #[(a, t1), (b, t2)]):=by
  have z : s.heap.IsTuple p #[Value.int a t1, Value.int b t2]:=pl
  simpa [intItems] using z
 have hlt : p < s.heap.objs.size:=by obtain ⟨o, ho, _⟩:=pl; exact Heap.lt_size ho
 refine call_min_walk (wpAny_pyIter_tuple pl' ?_)
 refine ⟨_, [s.heap.objs.size, p], [s.heap.objs.size], _, _, _, _, rfl, Walks.tuple (A:=X.A.in1) (I.ok.hd hc) _ p (Nat.ne_of_lt hlt) (intItems #[(a, t1), (b, t2)]), ⟨⟨_, Heap.get?_push_size _ rfl, rfl, rfl⟩, pl'.push _⟩, fun c hc=>?_, by simp [intItems],
  CmpOf.ints_lt (numAt #[(a, t1), (b, t2)]) (fun _ _=>intItems_at), fun v h' tk hP hk=>?_⟩
 ·show c < (s.heap.push _).objs.size
  rw [Heap.size_push]
  rcases List.mem_cons.mp hc with rfl | hc
  ·exact Nat.lt_succ_self _
  ·have : c = p:=by simpa using hc
   rw [this]; exact Nat.lt_succ_of_lt hlt
 ·have hv : v = if b < a then Value.int b t2 else Value.int a t1:=by
   have hP' : (intItems #[(a, t1), (b, t2)])[argBest (fun i j=>decide (numAt #[(a, t1), (b, t2)] i < numAt #[(a, t1), (b, t2)] j)) 1]? = some v:=by
    have hsz2 : (intItems #[(a, t1), (b, t2)]).size - 1 = 1:=by simp [intItems]
    rw [← hsz2]; exact hP
   by_cases hba : b < a
   ·have e : argBest (fun i j=>decide (numAt #[(a, t1), (b, t2)] i < numAt #[(a, t1), (b, t2)] j)) 1 = 1:=by simp [argBest, numAt, hba]
    rw [e] at hP'
    simpa [intItems, hba] using hP'.symm
   ·have e : argBest (fun i j=>decide (numAt #[(a, t1), (b, t2)] i < numAt #[(a, t1), (b, t2)] j)) 1 = 0:=by simp [argBest, numAt, hba]
    rw [e] at hP'
    simpa [intItems, hba] using hP'.symm
  subst hv
  refine ⟨.int (if b < a then b else a), H, I.kept fun b o eb=>hk b o ?_ (Heap.get?_push_of_some _ eb), ?_, q⟩
  ·intro hm
   have : b = s.heap.objs.size:=by simpa using hm
   exact absurd (Heap.lt_size eb) (by rw [this]; exact Nat.lt_irrefl _)
  ·by_cases hba : b < a
   ·rw [if_pos hba, if_pos hba]; exact ⟨_, rfl⟩
   ·rw [if_neg hba, if_neg hba]; exact ⟨_, rfl⟩
theorem call_maxT (hc : X.calm = true) : CallR X (.builtin "max") (fun xs H Q=>∃ p a b, xs = [.ref p]/\SqT X.K H p [.int a, .int b]/\Q (.int (if b > a then b else a)) H):=by
 intro pins s σ H xs us Q I r h
 obtain ⟨p, a, b, rfl, hp, q⟩:=h
 obtain ⟨u, rfl, rx⟩:=vals1 r
 cases rx
 obtain ⟨its, rv, pl, hz⟩:=I.tuple hp
 obtain ⟨v1, v2, rfl, ⟨t1, rfl⟩, ⟨t2, rfl⟩⟩:=vals2 rv
 have pl' : s.heap.IsTuple p (intItems #[(a, t1), (b, t2)]):=by
  have z : s.heap.IsTuple p #[Value.int a t1, Value.int b t2]:=pl
  simpa [intItems] using z
 have hlt : p < s.heap.objs.size:=by obtain ⟨o, ho, _⟩:=pl; exact Heap.lt_size ho
 refine call_max_walk (wpAny_pyIter_tuple pl' ?_)
 refine ⟨_, [s.heap.objs.size, p], [s.heap.objs.size], _, _, _, _, rfl, Walks.tuple (A:=X.A.in1) (I.ok.hd hc) _ p (Nat.ne_of_lt hlt) (intItems #[(a, t1), (b, t2)]), ⟨⟨_, Heap.get?_push_size _ rfl, rfl, rfl⟩, pl'.push _⟩, fun c hc=>?_, by simp [intItems],
  CmpOf.ints_gt (numAt #[(a, t1), (b, t2)]) (fun _ _=>intItems_at), fun v h' tk hP hk=>?_⟩
 ·show c < (s.heap.push _).objs.size
  rw [Heap.size_push]
  rcases List.mem_cons.mp hc with rfl | hc
  ·exact Nat.lt_succ_self _
  ·have : c = p:=by simpa using hc
   rw [this]; exact Nat.lt_succ_of_lt hlt
 ·have hv : v = if b > a then Value.int b t2 else Value.int a t1:=by
   have hP' : (intItems #[(a, t1), (b, t2)])[argBest (fun i j=>decide (numAt #[(a, t1), (b, t2)] i > numAt #[(a, t1), (b, t2)] j)) 1]? = some v:=by
    have hsz2 : (intItems #[(a, t1), (b, t2)]).size - 1 = 1:=by simp [intItems]
    rw [← hsz2]; exact hP
   by_cases hba : b > a
   ·have e : argBest (fun i j=>decide (numAt #[(a, t1), (b, t2)] i > numAt #[(a, t1), (b, t2)] j)) 1 = 1:=by simp [argBest, numAt, hba]
    rw [e] at hP'
    simpa [intItems, hba] using hP'.symm
   ·have e : argBest (fun i j=>decide (numAt #[(a, t1), (b, t2)] i > numAt #[(a, t1), (b, t2)] j)) 1 = 0:=by simp [argBest, numAt, hba]
    rw [e] at hP'
    simpa [intItems, hba] using hP'.symm
  subst hv
  refine ⟨.int (if b > a then b else a), H, I.kept fun b o eb=>hk b o ?_ (Heap.get?_push_of_some _ eb), ?_, q⟩
  ·intro hm
   have : b = s.heap.objs.size:=by simpa using hm
   exact absurd (Heap.lt_size eb) (by rw [this]; exact Nat.lt_irrefl _)
  ·by_cases hba : b > a
   ·rw [if_pos hba, if_pos hba]; exact ⟨_, rfl⟩
   ·rw [if_neg hba, if_neg hba]; exact ⟨_, rfl⟩
theorem call_rng1 : CallR X (.type "range") (fun xs H Q=>∃ j, xs = [.int j]/\∀ p, H p = none->Q (.ref p) (upd H p (.rng 0 j))):=by
 intro pins s σ H xs us Q I r h
 obtain ⟨j, rfl, q⟩:=h
 obtain ⟨u, rfl, t, rfl⟩:=vals1 r
 refine call_range_1 ?_
 exact ⟨.ref s.heap.objs.size, _, I.laid (o:=.rng 0 j) (fun b o e=>Heap.get?_push_of_some _ e) (Nat.le_refl _) ⟨_, _, _, Heap.get?_push_size _ rfl⟩, rfl, q _ I.fresh⟩
theorem call_rng2 : CallR X (.type "range") (fun xs H Q=>∃ i j, xs = [.int i, .int j]/\∀ p, H p = none->Q (.ref p) (upd H p (.rng i j))):=by
 intro pins s σ H xs us Q I r h
 obtain ⟨i, j, rfl, q⟩:=h
 obtain ⟨u, u2, rfl, ⟨t, rfl⟩, ⟨t2, rfl⟩⟩:=vals2 r
 refine call_range_2 ?_
 exact ⟨.ref s.heap.objs.size, _, I.laid (o:=.rng i j) (fun b o e=>Heap.get?_push_of_some _ e) (Nat.le_refl _) ⟨_, _, _, Heap.get?_push_size _ rfl⟩, rfl, q _ I.fresh⟩
noncomputable def rngL (lo hi : Int) : List V:=(List.range (hi - lo).toNat).map fun i=>V.int (lo + (i : Nat))
theorem vals_items {lo : Int} : ∀ {n : Nat} {us : List Value}, us.length = n->(∀ j v, us[j]? = some v->∃ t, v = Value.int (lo + (j : Nat) * 1) t)->Vals ((List.range n).map fun i=>V.int (lo + (i : Nat))) us:=by
 intro n us hl h
 have key : ∀ (us : List Value) (k : Nat), (∀ j v, us[j]? = some v->∃ t, v = Value.int (lo + ((k + j : Nat) : Int)) t)->Vals ((List.range' k us.length).map fun i=>V.int (lo + (i : Nat))) us:=by
  intro us
  induction us with
  | nil=>intro k _; exact .nil
  | cons u us ih =>
   intro k hk
   obtain ⟨t, e⟩:=hk 0 u (by simp)
   rw [List.length_cons, List.range'_succ, List.map_cons]
   refine .cons ⟨t, by simpa using e⟩ (ih (k + 1) fun j v hv=>?_)
   obtain ⟨t, e⟩:=hk (j + 1) v (by simpa using hv)
   exact ⟨t, by rw [e]; congr 2; omega⟩
 have q:=key us 0 fun j v hv=>by
  obtain ⟨t, e⟩:=h j v hv
  exact ⟨t, by rw [e]; simp⟩
 rw [hl, ← List.range_eq_range'] at q
 exact q
theorem call_list_rng (hc : X.calm = true) : CallR X (.type "list") (fun xs H Q=>∃ p lo hi, xs = [.ref p]/\H p = some (.rng lo hi)/\(-1000<=lo/\lo<=1000/\-1000<=hi/\hi<=1000)/\∀ l, H l = none->Q (.ref l) (upd H l (.lst (rngL lo hi)))):=by
 intro pins s σ H xs us Q I r h
 obtain ⟨p, lo, hi, rfl, hp, ⟨b1, b2, b3, b4⟩, q⟩:=h
 obtain ⟨u, rfl, rx⟩:=vals1 r
 cases rx
 obtain ⟨t, u, v, e⟩:=I.hok p _ hp
 have hsz : Builtin.Range.rangeSize lo hi 1 = (((hi - lo).toNat : Nat) : Int):=by rw [rangeSize_one]; split <;> omega
 refine call_list_range (I.ok.hd hc) (show IsRange s.heap p lo hi 1 t u v from e) (small_one (by omega) (by omega) (by omega) (by omega)) hsz (by omega) fun h' tk acc' c' hk ho ⟨hn, hit⟩=>?_
 have hv : Vals (rngL lo hi) acc'.toList:=vals_items (by simpa using hn) fun j w hw=>hit j w (by simpa using hw)
 refine ⟨.ref s.heap.objs.size, _, I.laid (o:=.lst (rngL lo hi)) hk (Nat.le_refl _) ⟨?_, acc'.toList, c', hv, by simpa using ho⟩, rfl, q _ I.fresh⟩
 unfold rngL
 rw [List.length_map, List.length_range, sizeLine_eq]
 omega
end
noncomputable abbrev Tie:=Int × Int
noncomputable def Pr (H : Hp) (v : V) (t : Tie) : Prop:=∃ p, v = .ref p/\H p = some (.tup [.int t.1, .int t.2])
noncomputable abbrev Prs (H : Hp) : List V->List Tie->Prop:=Paired (Pr H)
noncomputable def tcode (t : Tie) : Int:=64 * t.1 + t.2
noncomputable def Nice (t : Tie) : Prop:=0<=t.2/\t.2 < 64
theorem code_inj {a b : Tie} (ha : Nice a) (hb : Nice b) (h : tcode a = tcode b) : a = b:=by
 obtain ⟨a1, a2⟩:=a
 obtain ⟨b1, b2⟩:=b
 unfold Nice tcode at *
 simp only at *
 have e : a1 = b1:=by omega
 have e2 : a2 = b2:=by omega
 rw [e, e2]
noncomputable def PairV (h : Heap) (u : Value) (t : Tie) : Prop:=∃ a o t1 t2 n, u = .ref a/\h.get? a = some o/\o.cls = .type "tuple"/\o.data = .seq #[.int t.1 t1, .int t.2 t2] n
theorem PairV.keep {h h' : Heap} {u : Value} {t : Tie} (x : PairV h u t) (k : ∀ a o, h.get? a = some o->o.cls = .type "tuple"->h'.get? a = some o) : PairV h' u t:=by
 obtain ⟨a, o, t1, t2, n, e, ho, hc, hd⟩:=x
 exact ⟨a, o, t1, t2, n, e, k a o ho hc, hc, hd⟩
theorem pget {α β : Type} {F : α->β->Prop} {l₁ : List α} {l₂ : List β} (h : Paired F l₁ l₂) : ∀ {i : Nat} {b : β}, l₂[i]? = some b->∃ a, l₁[i]? = some a/\F a b:=by
 induction h with
 | nil=>intro i x e; simp at e
 | cons r t ih =>
  intro i x e
  cases i with
  | zero=>simp at e; subst e; exact ⟨_, rfl, r⟩
  | succ i =>
   obtain ⟨c, e1, f⟩:=ih (by simpa using e)
   exact ⟨c, by simpa using e1, f⟩
theorem ppick {α β : Type} {F : α->β->Prop} {l₁ : List α} {l₂ : List β} (h : Paired F l₁ l₂) (da : α) (db : β) : ∀ (p : List Nat), (∀ i∈p, i < l₂.length)->Paired F (p.map fun i=>l₁.getD i da) (p.map fun i=>l₂.getD i db)
 | [], _=>.nil
 | i :: p, hp=>by
  have hi : i < l₂.length:=hp i List.mem_cons_self
  obtain ⟨a, e, f⟩:=pget h (i:=i) (b:=l₂[i]) (by simp [hi])
  refine .cons ?_ (ppick h da db p fun j hj=>hp j (List.mem_cons_of_mem _ hj))
  have e1 : l₁.getD i da = a:=by rw [List.getD_eq_getElem?_getD, e]; rfl
  have e2 : l₂.getD i db = l₂[i]:=by simp [hi]
  show F (l₁.getD i da) (l₂.getD i db)
  rw [e1, e2]
  exact f
theorem snds {α : Type} : ∀ us : List α, List.map (fun x=>x.snd) (us.zip us) = us
 | []=>rfl
 | u :: us=>by rw [List.zip_cons_cons, List.map_cons, snds us]
theorem map_range_self {α : Type} (l : List α) (d : α) : (List.range l.length).map (fun i=>l.getD i d) = l:=by
 apply List.ext_getElem
 ·simp
 ·intro i h1 h2
  simp at h1 ⊢
  simp [h1]
section
variable {X : Cx} {pins : List (Addr × Obj)} {σ : St} {H : Hp} {s : Shared}
theorem Inv.pairs (I : Inv X pins σ H s) : ∀ {vs : List V} {ts : List Tie} {us : List Value}, Prs H vs ts->Vals vs us->Paired (PairV s.heap) us ts
 | _, _, _, .nil, r=>by cases r; exact .nil
 | _, _, _, .cons p q, r=>by
  cases r with
  | cons r rr =>
   refine .cons ?_ (I.pairs q rr)
   obtain ⟨a, rfl, e⟩:=p
   cases r
   obtain ⟨_, its, rv, ⟨o, ho, hc, n, hd⟩⟩:=I.hok a _ e
   obtain ⟨v1, v2, rfl, ⟨t1, rfl⟩, ⟨t2, rfl⟩⟩:=vals2 rv
   exact ⟨a, o, t1, t2, n, rfl, ho, hc, hd⟩
end
section
variable {prog : Program} {w : World} {A : Around} {E : Value->Shared->Prop} {s : Shared}
theorem lt_pairs {x y : Value} {a b : Tie} {Q : Bool->Shared->Prop} (hx : PairV s.heap x a) (hy : PairV s.heap y b) (na : Nice a) (nb : Nice b) (h : Q (decide (tcode a < tcode b)) s) : wpAny (model prog w) A (keyLt' (tuples' true) x y) Q E s:=by
 obtain ⟨p, o, t1, t2, n, rfl, ho, hc, hd⟩:=hx
 obtain ⟨p', o', t1', t2', n', rfl, ho', hc', hd'⟩:=hy
 obtain ⟨a1, a2⟩:=a
 obtain ⟨b1, b2⟩:=b
 unfold Nice at na nb
 simp only at na nb
 refine PySem.W.kat_lt ho hd ho' hd' ?_
 refine PySem.W.kat_cons (wpAny_eqBool_int ?_)
 by_cases e1 : a1 = b1
 ·subst e1
  rw [beq_self_eq_true]
  refine PySem.W.kat_yes (PySem.W.kat_cons (wpAny_eqBool_int ?_))
  by_cases e2 : a2 = b2
  ·subst e2
   rw [beq_self_eq_true]
   refine PySem.W.kat_yes (PySem.W.kat_nil ?_)
   have e : decide (tcode (a1, a2) < tcode (a1, a2)) = false:=decide_eq_false (Int.lt_irrefl _)
   rw [e] at h
   exact h
  ·rw [beq_eq_false_iff_ne.mpr e2]
   refine PySem.W.kat_no (PySem.W.kat_one _ _ (lt_int ?_))
   have e : decide (tcode (a1, a2) < tcode (a1, b2)) = decide (a2 < b2):=by
    apply decide_eq_decide.mpr
    unfold tcode
    omega
   rw [e] at h
   exact h
 ·rw [beq_eq_false_iff_ne.mpr e1]
  refine PySem.W.kat_no (oneLt_int ?_)
  have e : decide (tcode (a1, a2) < tcode (b1, b2)) = decide (a1 < b1):=by
   apply decide_eq_decide.mpr
   unfold tcode
   simp only
   constructor
   ·intro h; omega
   ·intro h; omega
  rw [e] at h
  exact h
theorem kat_of : ∀ {us : List Value} {ts : List Tie}, Paired (PairV s.heap) us ts->∃ fs, PySem.W.KatTups s.heap us fs/\fs.length = us.length/\∀ v∈fs, ∃ i t, v = Value.int i t
 | _, _, .nil=>⟨[], .nil, rfl, fun _ h=>nomatch h⟩
 | _, _, .cons p q=>by
  obtain ⟨a, o, t1, t2, n, rfl, ho, hc, hd⟩:=p
  obtain ⟨fs, k, hl, hv⟩:=kat_of q
  refine ⟨_ :: fs, .cons ho hc hd (f:=Value.int _ t1) rfl k, by simp [hl], fun v hv'=>?_⟩
  rcases List.mem_cons.mp hv' with rfl | h
  ·exact ⟨_, _, rfl⟩
  ·exact hv v h
theorem sort_tree {a : Addr} {us : List Value} {ts : List Tie} {n : Nat} {P : PySem.Fin->Shared->Prop} (ho : s.heap.get? a = some (seqObj "list" us.toArray n))
  (hp : Paired (PairV s.heap) us ts) (hn : ∀ t∈ts, Nice t) (h64 : us.length < 64)
  (h : ∀ p : List Nat, p.Perm (List.range us.length)->(∀ i j, i<=j->j < us.length->tcode (ts.getD (p.getD i 0) (0, 0))<=tcode (ts.getD (p.getD j 0) (0, 0))) ->
   P (.done (.ret .none)) { s with heap:=sortedHeap s.heap a us (p.map fun i=>us.getD i Value.none).toArray }) :
  wpAny (model prog w) A (Builtin.«list.sort» ⟨[.ref a], []⟩) P E s:=by
 have hlen:=hp.length
 have h24:=sizeLine_eq
 rw [list_sort_plain]
 have ha : a < s.heap.objs.size:=Heap.lt_size ho
 refine wpAny_bind (listItems_at ho rfl ?_)
 refine wpAny_bind (listUpdate_at ho rfl ?_ (by rw [List.size_toArray, sizeLine_eq]; omega) (Nat.zero_le _))
 obtain ⟨e1, ho1⟩ : ∃ e1, (s.heap.update a (Obj.mapSeq fun _=>(#[] : Array Value))).get? a = some (seqObj "list" #[] e1):=⟨_, get?_update_seq ho (fun _=>#[])⟩
 refine wpAny_bind (seqEpoch_at ho1 rfl ?_)
 refine wpAny_bind (wpAny_newTuple ?_ (by show us.length<=_; rw [sizeLine_eq]; omega))
 refine wpAny_bind (wpAny_newList ?_ (Nat.zero_le _))
 refine wpAny_holding ?_
 have ho6 : (((s.heap.update a (Obj.mapSeq fun _=>(#[] : Array Value))).push (seqObj "tuple" us.toArray 0)).push (seqObj "list" #[] 0)).get? a = some (seqObj "list" #[] e1):=by
  rw [Heap.get?_push_ne _ _ _ (by rw [size_push', Heap.size_update]; exact Nat.ne_of_lt (Nat.lt_succ_of_lt ha)), Heap.get?_push_ne _ _ _ (by rw [Heap.size_update]; exact Nat.ne_of_lt ha)]
  exact ho1
 have kept : ∀ b o, s.heap.get? b = some o->o.cls = .type "tuple"->(((s.heap.update a (Obj.mapSeq fun _=>(#[] : Array Value))).push (seqObj "tuple" us.toArray 0)).push (seqObj "list" #[] 0)).get? b = some o:=fun b o q hc=>by
  have hlt : b < s.heap.objs.size:=Heap.lt_size q
  have hne : b≠a:=fun z=>by
   rw [z, ho] at q
   cases q
   have z2 : (Value.type "list") = Value.type "tuple":=hc
   injection z2 with z3
   exact absurd z3 (by decide)
  rw [Heap.get?_push_ne _ _ _ (by rw [size_push', Heap.size_update]; exact Nat.ne_of_lt (Nat.lt_succ_of_lt hlt)), Heap.get?_push_ne _ _ _ (by rw [Heap.size_update]; exact Nat.ne_of_lt hlt), Heap.get?_update_ne _ _ _ _ hne]
  exact q
 show wpAny (model prog w) A _ P E { s with heap:=((s.heap.update a (Obj.mapSeq fun _=>(#[] : Array Value))).push (seqObj "tuple" us.toArray 0)).push (seqObj "list" #[] 0) }
 dsimp only
 have hsz : us.toArray.size = us.length:=by simp
 have hp6 : Paired (PairV (((s.heap.update a (Obj.mapSeq fun _=>(#[] : Array Value))).push (seqObj "tuple" us.toArray 0)).push (seqObj "list" #[] 0))) us ts:=Paired.mapP hp fun u t x=>x.keep kept
 by_cases h2 : us.toArray.size < 2
 ·rw [if_pos h2, if_pos h2]
  refine wpAny_bind (wpAny_pure ?_)
  rw [StateT.run_pure]
  refine wpAny_bind (wpAny_pure ?_)
  dsimp only
  have eout : (arrOf (SortSt.mk' general' (us.toArray.zip us.toArray) #[] 7 none)).map (·.2) = ((List.range us.length).map fun i=>us.getD i Value.none).toArray:=by
   rw [map_range_self]
   show (us.toArray.zip us.toArray).map (·.2) = us.toArray
   apply Array.toList_inj.mp
   simp
   exact snds us
  rw [eout]
  refine wpAny_bind (seqEpoch_at ho6 rfl ?_)
  refine wpAny_bind (listUpdate_at ho6 rfl ?_ (Nat.zero_le _) (by rw [List.size_toArray, List.length_map, List.length_range, sizeLine_eq]; omega))
  simp only [bne_self_eq_false, Bool.false_eq_true, if_false]
  refine wpAny_pure (h _ (List.Perm.refl _) fun i j hij hj=>?_)
  have : i = j:=by omega
  subst this
  exact Int.le_refl _
 ·rw [if_neg h2, if_neg h2]
  have h2' : 2<=us.length:=by omega
  obtain ⟨fs, hk, hfl, hfi⟩:=kat_of (s:={ s with heap:=((s.heap.update a (Obj.mapSeq fun _=>(#[] : Array Value))).push (seqObj "tuple" us.toArray 0)).push (seqObj "list" #[] 0) }) hp6
  refine wpAny_bind (PySem.W.kat_kind (T:=.type "int") hk (by omega) (fun v hv=>by obtain ⟨i, t, rfl⟩:=hfi v hv; exact PySem.W.Looks.of_pure rfl) rfl ?_)
  have hcmp : ∀ i j C, i < us.length->j < us.length->C (decide (tcode (ts.getD i (0, 0)) < tcode (ts.getD j (0, 0)))) { s with heap:=((s.heap.update a (Obj.mapSeq fun _=>(#[] : Array Value))).push (seqObj "tuple" us.toArray 0)).push (seqObj "list" #[] 0) } ->
    PySem.W.kas_cmp prog w A (tuples' true) (us.toArray.zip us.toArray) i j C { s with heap:=((s.heap.update a (Obj.mapSeq fun _=>(#[] : Array Value))).push (seqObj "tuple" us.toArray 0)).push (seqObj "list" #[] 0) }:=fun i j C hi hj hC=>by
   unfold PySem.W.kas_cmp
   rw [PySem.W.kat_item rfl, PySem.W.kat_item rfl]
   have key : ∀ k, k < us.length->PairV (((s.heap.update a (Obj.mapSeq fun _=>(#[] : Array Value))).push (seqObj "tuple" us.toArray 0)).push (seqObj "list" #[] 0)) (us.getD k Value.none) (ts.getD k (0, 0))/\Nice (ts.getD k (0, 0)):=fun k hk=>by
    have hk' : k < ts.length:=by omega
    have ek : ts.getD k (0, 0) = ts[k]:=by simp [hk']
    obtain ⟨u, eu, pu⟩:=pget hp6 (i:=k) (b:=ts[k]) (by simp [hk'])
    have eu' : us.getD k Value.none = u:=by rw [List.getD_eq_getElem?_getD, eu]; rfl
    rw [ek, eu']
    exact ⟨pu, hn _ (List.getElem_mem hk')⟩
   exact lt_pairs (key i hi).1 (key j hj).1 (key i hi).2 (key j hj).2 hC
  have G:=PySem.W.kas_runs (prog:=prog) (w:=w) (A:=A) (E:=E) (κ:=tuples' true) (it:=us.toArray.zip us.toArray) (n:=us.length) (s:={ s with heap:=((s.heap.update a (Obj.mapSeq fun _=>(#[] : Array Value))).push (seqObj "tuple" us.toArray 0)).push (seqObj "list" #[] 0) })
   (Q:=fun _ st' s'=>∃ p : Array Nat, s' = { s with heap:=((s.heap.update a (Obj.mapSeq fun _=>(#[] : Array Value))).push (seqObj "tuple" us.toArray 0)).push (seqObj "list" #[] 0) }/\arrOf st' = p.map (PySem.W.kas_item (us.toArray.zip us.toArray))/\failedOf st' = none/\NfSort.Pm us.length p/\NfSort.Up (fun i=>tcode (ts.getD i (0, 0))) p us.length)
   (G:=fun p s'=>s' = { s with heap:=((s.heap.update a (Obj.mapSeq fun _=>(#[] : Array Value))).push (seqObj "tuple" us.toArray 0)).push (seqObj "list" #[] 0) }/\NfSort.Pm us.length p/\NfSort.Up (fun i=>tcode (ts.getD i (0, 0))) p us.length) h2' h64 (fun p' st' s' a1 a2 a3 a4=>⟨p', a4.1, a2, a3, a4.2⟩)
   (NfSort.kwp_run hcmp (NfSort.kwp_mono (fun p hp=>⟨rfl, hp⟩) (NfSort.sort_ok (by omega))))
  have est : SortSt.mk' (tuples' true) (us.toArray.zip us.toArray) #[] 7 none = PySem.W.kas_st (tuples' true) (us.toArray.zip us.toArray) (List.toArray (List.range us.length)):=by
   have e:=PySem.W.kas_range (us.toArray.zip us.toArray)
   rw [show (us.toArray.zip us.toArray).size = us.length by simp] at e
   show SortSt.mk' (tuples' true) (us.toArray.zip us.toArray) #[] 7 none = SortSt.mk' (tuples' true) ((List.toArray (List.range us.length)).map (PySem.W.kas_item (us.toArray.zip us.toArray))) #[] 7 none
   rw [e]
  have eT : tuples' (Value.type "int" != Value.type "tuple") = tuples' true:=rfl
  rw [eT, est]
  refine wpAny_bind (wpAny_mono G ?_ fun _ _ e=>e)
  rintro ⟨⟨⟩, st'⟩ s' ⟨p, rfl, har, hf, hpm, hup⟩
  dsimp only
  have hout:=PySem.W.kat_snds (ks:=us) (vs:=us) rfl har
  rw [hout]
  have hsz2 : p.size = us.length:=hpm.size
  refine wpAny_bind (seqEpoch_at ho6 rfl ?_)
  refine wpAny_bind (listUpdate_at ho6 rfl ?_ (Nat.zero_le _) (by rw [List.size_toArray, List.length_map, Array.length_toList, hsz2, sizeLine_eq]; omega))
  rw [hf]
  simp only [bne_self_eq_false, Bool.false_eq_true, if_false]
  refine wpAny_pure (h p.toList ?_ fun i j hij hj=>?_)
  ·have:=Array.perm_iff_toList_perm.mp hpm
   simpa using this
  ·have q:=hup i j hij hj
   unfold NfSort.kk at q
   have eg : ∀ k, p.toList.getD k 0 = p.getD k 0:=fun k=>by
    rw [NfSort.getD_eq, List.getD_eq_getElem?_getD]
    simp
   rw [eg, eg]
   exact q
theorem collect_tupleN {l : Addr} {vs : List Value} {Q : List Value->Shared->Prop} (hl : IsTup s.heap l vs.toArray)
  (h : Q vs { s with heap:=(s.heap.push (seqObj "list" #[] 0)).update s.heap.objs.size (Obj.mapSeq (· ++ vs.toArray)) }) (hsz : vs.length<=sizeLine) :
  wpAny (model prog w) A (collect (.ref l)) Q E s:=by
 obtain ⟨o, ho, hc, n, hd⟩:=id hl
 unfold collect
 refine wpAny_bind (wpAny_runValue (codeAny_builtin entry_proto_collect' ?_))
 show wpAny _ _ (do again (.builtin "list.__iadd__" ⟨[← newList [], .ref l], []⟩)) _ _ s
 refine wpAny_bind (wpAny_newList (wpAny_pure ⟨Code.quiet_builtin _ (by decide +kernel), codeAny_builtin entry_list_iadd' ?_⟩))
 show wpAny _ _ (Builtin.List.listExtendWith (.ref s.heap.objs.size) (.ref l) (.ref s.heap.objs.size)) _ _ { s with heap:=s.heap.push (seqObj "list" #[] 0) }
 unfold Builtin.List.listExtendWith
 have ho' : (s.heap.push (seqObj "list" #[] 0)).get? l = some o:=Heap.get?_push_of_some _ ho
 refine wpAny_bind (wpAny_typeOf (T:="tuple") ⟨o, ho', hc⟩ ?_)
 have ht : (Value.type "tuple" == Value.type "tuple") = true:=by rfl
 rw [if_pos (by rw [ht]; simp)]
 refine wpAny_bind (listItems_at ho' hd ?_)
 refine wpAny_bind (listItems_at (xs:=#[]) (n:=0) (Heap.get?_push_size _ rfl) rfl ?_)
 rw [if_neg (by simp)]
 refine wpAny_bind (listUpdate_at (xs:=#[]) (n:=0) (Heap.get?_push_size _ rfl) rfl ?_ (Nat.zero_le _) (by show (#[] ++ vs.toArray).size<=sizeLine + 1; simp only [Array.size_append, List.size_toArray, List.length_nil]; omega))
 refine wpAny_pure ?_
 show wpAny (model prog w) A (do
   let o ← load s.heap.objs.size
   match o.data with
   | .seq xs _=>pure xs.toList
   | _=>unsupported "internal:collect") Q E { s with heap:=(s.heap.push (seqObj "list" #[] 0)).update s.heap.objs.size (Obj.mapSeq (· ++ vs.toArray)) }
 refine wpAny_bind (wpAny_load (get?_update_seq (Heap.get?_push_size _ rfl) _) ?_)
 show wpAny _ _ (pure ((#[] : Array Value) ++ vs.toArray).toList) Q E _
 rw [show ((#[] : Array Value) ++ vs.toArray).toList = vs by simp]
 exact wpAny_pure h
theorem sorted_pairs {l : Addr} {us : List Value} {ts : List Tie} {Q : Value->Shared->Prop} (hl : s.heap.IsList l us.toArray\/IsTup s.heap l us.toArray) (hp : Paired (PairV s.heap) us ts) (hn : ∀ t∈ts, Nice t) (h64 : us.length < 64)
  (h : ∀ p : List Nat, p.Perm (List.range us.length)->(∀ i j, i<=j->j < us.length->tcode (ts.getD (p.getD i 0) (0, 0))<=tcode (ts.getD (p.getD j 0) (0, 0))) ->
   Q (.ref (s.heap.objs.size + 1)) { s with heap:=sortedAll s.heap us (p.map fun i=>us.getD i Value.none).toArray }) :
  wpAny (model prog w) A (call (.builtin "sorted") [.ref l]) Q E s:=by
 have h24:=sizeLine_eq
 refine Calls.call_function_entry kind_sorted plain_sorted entry_sorted (args_sorted1 _) ?_
 unfold Builtin.«sorted»
 refine wpAny_bind (m:=checkCount "sorted" 1 1 _) (wpAny_pure ?_)
 have hsz : ((s.heap.push (seqObj "list" #[] 0)).update s.heap.objs.size (Obj.mapSeq (· ++ us.toArray))).objs.size = s.heap.objs.size + 1:=by
  rw [Heap.size_update, size_push']
 have hoL : (((s.heap.push (seqObj "list" #[] 0)).update s.heap.objs.size (Obj.mapSeq (· ++ us.toArray))).push (seqObj "list" us.toArray 0)).get? (s.heap.objs.size + 1) = some (seqObj "list" us.toArray 0):=by
  rw [← hsz]; exact Heap.get?_push_size _ rfl
 have keep : ∀ b o, s.heap.get? b = some o->(((s.heap.push (seqObj "list" #[] 0)).update s.heap.objs.size (Obj.mapSeq (· ++ us.toArray))).push (seqObj "list" us.toArray 0)).get? b = some o:=fun b o q=>by
  have hlt : b < s.heap.objs.size:=Heap.lt_size q
  rw [Heap.get?_push_ne _ _ _ (by rw [hsz]; exact Nat.ne_of_lt (Nat.lt_succ_of_lt hlt)), Heap.get?_update_ne _ _ _ _ (Nat.ne_of_lt hlt), Heap.get?_push_ne _ _ _ (Nat.ne_of_lt hlt)]
  exact q
 have go : ∀ {Q' : List Value->Shared->Prop}, Q' us { s with heap:=(s.heap.push (seqObj "list" #[] 0)).update s.heap.objs.size (Obj.mapSeq (· ++ us.toArray)) }->wpAny (model prog w) A.in1 (collect (.ref l)) Q' (fun e s'=>E e s') s:=fun {Q'} hq=>by
  rcases hl with hl | hl
  ·exact collect_list hl hq (by omega)
  ·exact collect_tupleN hl hq (by omega)
 refine wpAny_bind (go ?_)
 refine wpAny_bind (wpAny_newList ?_ (by omega))
 show wpAny _ _ _ _ _ { s with heap:=((s.heap.push (seqObj "list" #[] 0)).update s.heap.objs.size (Obj.mapSeq (· ++ us.toArray))).push (seqObj "list" us.toArray 0) }
 rw [hsz]
 refine wpAny_bind (wpAny_holding (wpAny_call_entry slot_list_sort ⟨_, hoL, rfl⟩ entry_list_sort (sort_tree hoL (Paired.mapP hp fun u t x=>x.keep fun a o e _=>keep a o e) hn h64 fun p a1 a2=>⟨_, rfl, ?_⟩) (args_list_sort _)))
 exact wpAny_pure ⟨_, rfl, h p a1 a2⟩
end
section
variable {X : Cx}
theorem sorted_pick {ts : List Tie} {p : List Nat} (hp : p.Perm (List.range ts.length)) (h : ∀ i j, i<=j->j < ts.length->tcode (ts.getD (p.getD i 0) (0, 0))<=tcode (ts.getD (p.getD j 0) (0, 0))) :
  (p.map fun i=>ts.getD i (0, 0)).Perm ts/\(p.map fun i=>ts.getD i (0, 0)).Pairwise (fun a b=>tcode a<=tcode b):=by
 refine ⟨?_, ?_⟩
 ·have q:=hp.map fun i=>ts.getD i (0, 0)
  rw [map_range_self] at q
  exact q
 ·have hl : p.length = ts.length:=by simpa using hp.length_eq
  rw [List.pairwise_iff_getElem]
  intro i j hi hj hij
  rw [List.length_map] at hi hj
  have q:=h i j (by omega) (by omega)
  have ei : p.getD i 0 = p[i]:=by simp [hi]
  have ej : p.getD j 0 = p[j]:=by simp [hj]
  rw [ei, ej] at q
  simpa using q
theorem call_sortedP : CallR X (.builtin "sorted") (fun xs H Q=>∃ (p : Addr) (vs : List V) (ts : List Tie), xs = [.ref p]/\(SqL X.K H p vs\/SqT X.K H p vs)/\Prs H vs ts/\(∀ t∈ts, Nice t)/\ts.length < 64 /\
  ∀ l ws us, H l = none->Prs H ws us->us.Perm ts->us.Pairwise (fun a b=>tcode a<=tcode b)->Q (.ref l) (upd H l (.lst ws))):=by
 intro pins s σ H xs us Q I r h
 obtain ⟨p, vs, ts, rfl, hp, hpr, hn, h64, q⟩:=h
 obtain ⟨u, rfl, rx⟩:=vals1 r
 cases rx
 have h24:=sizeLine_eq
 have fin : ∀ its : List Value, Vals vs its->(s.heap.IsList p its.toArray\/IsTup s.heap p its.toArray)->wpAny (model X.prog X.w) X.A (call (.builtin "sorted") [.ref p]) (EP X pins σ Q) X.xe s:=fun its rv hl=>by
  have hpv:=I.pairs hpr rv
  have hlen:=hpr.length
  have hlen2:=rv.length
  refine sorted_pairs hl hpv hn (by omega) fun pp hpp hord=>?_
  have eits : its.length = ts.length:=by omega
  rw [eits] at hpp hord
  obtain ⟨hperm, hpw⟩:=sorted_pick hpp hord
  have hlt : ∀ i∈pp, i < ts.length:=fun i hi=>List.mem_range.mp (hpp.mem_iff.mp hi)
  have hw:=ppick hpr V.non (0, 0) pp hlt
  have hvv : Vals (pp.map fun i=>vs.getD i V.non) (pp.map fun i=>its.getD i Value.none):=ppick rv V.non Value.none pp fun i hi=>by have:=hlt i hi; omega
  obtain ⟨e, he⟩:=sortedAll_at s.heap its (pp.map fun i=>its.getD i Value.none).toArray
  refine ⟨.ref (s.heap.objs.size + 1), upd H (s.heap.objs.size + 1) (.lst (pp.map fun i=>vs.getD i V.non)), I.laid (t':=s.toks) (fun b o eb=>sortedAll_old eb) (Nat.le_succ _) ?_, rfl, q _ _ _ (I.hok.fresh (Nat.le_succ _)) hw hperm hpw⟩
  refine ⟨?_, _, e, hvv, he⟩
  have hl3 : pp.length = ts.length:=by simpa using hpp.length_eq
  rw [List.length_map]
  omega
 rcases hp with hp | hp
 ·obtain ⟨its, rv, pl, hz⟩:=I.list hp
  exact fin its rv (.inl pl.isList)
 ·obtain ⟨its, rv, pl, hz⟩:=I.tuple hp
  exact fin its rv (.inr pl)
noncomputable def pD (t : Tie) : PyData:=.tuple [.int t.1, .int t.2]
theorem eqv_pD : ∀ ts us : List Tie, PyData.eqvAll (ts.map pD) (us.map pD) = decide (ts = us)
 | [], []=>rfl
 | [], _ :: _=>rfl
 | _ :: _, []=>rfl
 | t :: ts, u :: us=>by
  show (PyData.eqv (pD t) (pD u) && PyData.eqvAll (ts.map pD) (us.map pD)) = _
  rw [eqv_pD ts us]
  have e : PyData.eqv (pD t) (pD u) = decide (t = u):=by
   show ((t.1 == u.1) && ((t.2 == u.2) && true)) = _
   rw [Bool.and_true, Bool.eq_iff_iff]
   simp [Prod.ext_iff]
  rw [e, Bool.eq_iff_iff]
  simp
inductive DatV (K : PySem.W.Frag) (H : Hp) : V->PyData->Prop
 | lst {a : Addr} {vs : List V} {ts : List Tie} : SqL K H a vs->Prs H vs ts->DatV K H (.ref a) (.list (ts.map pD))
 | tup {a : Addr} {vs : List V} {ts : List Tie} : SqT K H a vs->Prs H vs ts->DatV K H (.ref a) (.tuple (ts.map pD))
 | web {a b : Addr} {n : Int} {vs : List V} {ts : List Tie} : SqT K H a [.int n, .ref b]->SqT K H b vs->Prs H vs ts->DatV K H (.ref a) (.tuple [.int n, .tuple (ts.map pD)])
theorem eqv_lst (ts us : List Tie) : PyData.eqv (.list (ts.map pD)) (.list (us.map pD)) = decide (ts = us):=eqv_pD ts us
end
end L2
namespace L2
open PySem PySem.Spec PyProof.Rows HT
section
variable {prog : Program} {w : World} {A : Around} {E : Value->Shared->Prop} {s : Shared}
end
section
variable {X : Cx} {e : Expr} {te : TE} {p1 p2 p3 pos : Pos}
end
end L2
namespace PySem
open Sem (wp)
open AutoSeq1 (wpAny_loadPart')
theorem meets_enumerate_newT (l : Addr) (items : Array Value) (n : Nat) (dct : Option Addr) (sl : Array (Option Value)) :
  Meets (Builtin.«enumerate.__new__» ⟨[.type "enumerate", .ref l], []⟩) (fun _ R s=>s.heap.get? l = some { cls:=.type "tuple", dict:=dct, data:=.seq items n, slots:=sl } /\
   R (.ok (.ret (.ref (s.heap.push { cls:=.type "tuple_iterator", data:=.fields #[.ref l, .int 0 0] }).objs.size)))
    { s with heap:=(s.heap.push { cls:=.type "tuple_iterator", data:=.fields #[.ref l, .int 0 0] }).push { cls:=.type "enumerate", data:=.fields #[.none, .bool false, .ref s.heap.objs.size, rawInt 0, .none, .none] } }) :=
 .of_wp fun prog w A R s h=>by
  obtain ⟨hp, g, d, tk, os⟩:=s; obtain ⟨hl, h⟩:=h
  have hsub:=sub_enumerate
  have hL : Heap.IsTuple (Shared.heap ⟨hp, g, d, tk, os⟩) l items:=⟨_, hl, rfl, n, rfl⟩
  wp_walk using wpAny_loadPart' hl
  refine wpAny_stack_any fun st=>wpAny_pure ?_
  split
  ·rename_i c _ _ _ _ _
   cases (c == Value.type "enumerate")
   ·wp_walk using wpAny_loadPart' hl, wpAny_pyIter_tuple hL
    exact ⟨_, rfl, h⟩
   ·wp_walk using wpAny_loadPart' hl, wpAny_pyIter_tuple hL
    exact ⟨_, rfl, h⟩
  ·wp_walk using wpAny_loadPart' hl, wpAny_pyIter_tuple hL
   exact ⟨_, rfl, h⟩
section
variable {prog : Program} {w : World} {A : Around} {E : Value->Shared->Prop} {s : Shared}
theorem call_enumerate_tuple {l : Addr} {items : Array Value} {Q : Value->Shared->Prop} (hL : s.heap.IsTuple l items)
  (h : ∀ h', IsEnum h' (s.heap.objs.size + 1) s.heap.objs.size 0 .none->h'.IsTupleIter s.heap.objs.size l 0->h'.objs.size = s.heap.objs.size + 2 ->
   (∀ b o, s.heap.get? b = some o->h'.get? b = some o)->Q (.ref (s.heap.objs.size + 1)) { s with heap:=h' }) :
  wpAny (model prog w) A (call (.type "enumerate") [.ref l]) Q E s:=by
 obtain ⟨⟨c, dct, dt, sl⟩, hl, hc, n, hd⟩:=hL
 replace hc : c = .type "tuple":=hc
 replace hd : dt = .seq items n:=hd
 subst hc hd
 refine callType_new F.called_enumerate (by decide) (F.typeCall_enumerate_1 _) (F.newCall_enumerate_1 _) (fun obj=>F.args_object_init_2 obj _) F.entry_enumerate_new
  (meets_enumerate_newT l items n dct sl) ⟨hl, ?_⟩
 have hz : (s.heap.push { cls:=.type "tuple_iterator", data:=.fields #[.ref l, .int 0 0] }).objs.size = s.heap.objs.size + 1:=Heap.size_push ..
 show _/\_
 rw [hz]
 have he : IsEnum ((s.heap.push { cls:=.type "tuple_iterator", data:=.fields #[.ref l, .int 0 0] }).push
   { cls:=.type "enumerate", data:=.fields #[.none, .bool false, .ref s.heap.objs.size, rawInt 0, .none, .none] }) (s.heap.objs.size + 1) s.heap.objs.size 0 .none:=by
  have:=Heap.get?_push_size (s.heap.push { cls:=.type "tuple_iterator", data:=.fields #[.ref l, .int 0 0] })
   (o:={ cls:=.type "enumerate", data:=.fields #[.none, .bool false, .ref s.heap.objs.size, rawInt 0, .none, .none] }) rfl
  rw [hz] at this; exact this
 refine ⟨⟨_, he, rfl⟩, h _ he ⟨_, Heap.get?_push_of_some _ (Heap.get?_push_size _ rfl), rfl, rfl⟩ (by rw [Heap.size_push, hz]) fun b o x=>Heap.get?_push_of_some _ (Heap.get?_push_of_some _ x)⟩
theorem nextOf_tuple_item {it l : Addr} {i : Nat} {items} {x : Value} {Q : Value->Shared->Prop} (hit : s.heap.IsTupleIter it l i)
  (hl : s.heap.IsTuple l items) (hx : items[i]? = some x)
  (hQ : ∀ h', h'.IsTupleIter it l (i + 1)->Heap.SameBut it s.heap h'->Q x { s with heap:=h' }) :
  wpAny (model prog w) A (Builtin.SmallTypes.nextOf (.ref it)) Q E s:=by
 obtain ⟨o, ho, hc, hd⟩:=id hit
 obtain ⟨ol, hol, _, nl, hdl⟩:=hl
 unfold Builtin.SmallTypes.nextOf
 refine wpAny_bind (wpAny_callSpecial?_slot (name:=Str.ofString "__next__") hit.typeIs PyProof.Rows.slot_tupleiter_next
  (wpAny_call_entry PyProof.Rows.slot_tupleiter_next hit.typeIs PyProof.Rows.entry_tupleiter_next ?_ (PyProof.Rows.args_tupleiter_next _)))
 show wpAny _ _ (field (.ref it) 0 >>= _) _ _ s
 refine wpAny_bind (wpAny_field ho hd (x:=.ref l) rfl ?_)
 show wpAny _ _ (if (Value.ref l == Value.none) = true then _ else _) _ _ s
 rw [if_neg (show ¬ ((Value.ref l == Value.none) = true) from Bool.false_ne_true)]
 show wpAny _ _ (field (.ref it) 1 >>= _) _ _ s
 refine wpAny_bind (wpAny_field ho hd (x:=.int i 0) rfl ?_)
 show wpAny _ _ (seqItems? (.ref l) >>= _) _ _ s
 refine wpAny_bind (wpAny_seqItems hol hdl ?_)
 simp only [Int.toNat_natCast, hx]
 refine wpAny_bind (wpAny_setField ho hd (by simp) (wpAny_pure ⟨x, rfl, wpAny_pure (hQ _ ?_ (Heap.SameBut.update ..))⟩))
 exact ⟨_, Heap.get?_update_self _ ho (Obj.isFreed_of_fields (Obj.data_mapFields hd _)), (Obj.cls_mapFields ..).trans hc, by
  rw [Obj.data_mapFields hd]; simp [rawInt]⟩
theorem nextOf_tuple_end {it l : Addr} {i : Nat} {items} {Q : Value->Shared->Prop} (hh : A.handled = none)
  (hit : s.heap.IsTupleIter it l i) (hl : s.heap.IsTuple l items) (hx : items[i]? = none)
  (hE : ∀ h' e, Heap.ExtBut it s.heap h'->(∃ o, h'.get? e = some o/\o.cls = .type "StopIteration")->E (.ref e) { s with heap:=h' }) :
  wpAny (model prog w) A (Builtin.SmallTypes.nextOf (.ref it)) Q E s:=by
 obtain ⟨o, ho, hc, hd⟩:=id hit
 obtain ⟨ol, hol, _, nl, hdl⟩:=hl
 unfold Builtin.SmallTypes.nextOf
 refine wpAny_bind (wpAny_callSpecial?_slot (name:=Str.ofString "__next__") hit.typeIs PyProof.Rows.slot_tupleiter_next
  (wpAny_call_entry PyProof.Rows.slot_tupleiter_next hit.typeIs PyProof.Rows.entry_tupleiter_next ?_ (PyProof.Rows.args_tupleiter_next _)))
 show wpAny _ _ (field (.ref it) 0 >>= _) _ _ s
 refine wpAny_bind (wpAny_field ho hd (x:=.ref l) rfl ?_)
 show wpAny _ _ (if (Value.ref l == Value.none) = true then _ else _) _ _ s
 rw [if_neg (show ¬ ((Value.ref l == Value.none) = true) from Bool.false_ne_true)]
 show wpAny _ _ (field (.ref it) 1 >>= _) _ _ s
 refine wpAny_bind (wpAny_field ho hd (x:=.int i 0) rfl ?_)
 show wpAny _ _ (seqItems? (.ref l) >>= _) _ _ s
 refine wpAny_bind (wpAny_seqItems hol hdl ?_)
 simp only [Int.toNat_natCast, hx]
 refine wpAny_bind (wpAny_rule (wpAny_bind (wpAny_setField ho hd (by simp) ?_)))
 show wpAny _ _ (newExc (.type "StopIteration") [] >>= _) _ _ _
 refine wpAny_bind ?_
 simp only [newExc, newTuple]
 refine wpAny_bind (wpAny_newObj_type ?_ (by size_fits))
 refine wpAny_bind (m:=firstArgMember _ _) (wpAny_of_eq (a:=Value.none) (by first | rfl | (simp only [firstArgMember]; rfl)) ?_)
 refine wpAny_newObj_type ?_ (by size_fits)
 simp only [raiseNew]
 refine wpAny_bind (wpAny_handled ?_)
 first | rw [show A.in1.handled = none from hh] | rw [hh]
 refine wpAny_bind (wpAny_pure (wpAny_throw ?_))
 exact hE _ _ (((Heap.SameBut.update ..).extBut.push _).push _) ⟨_, Heap.get?_push_size _ rfl, rfl⟩
end
theorem Draws.tuple {prog : Program} {w : World} {A : Around} (hh : A.handled = none) (it l : Addr) (hne : l≠it) (items : Array Value) :
  Draws prog w A it [it, l] items.size (fun i v=>items[i]? = some v) (fun i h=>h.IsTupleIter it l i/\h.IsTuple l items) where
 live:=fun _ _ st=>let ⟨o, ho, _⟩:=st.1; ⟨o, ho⟩
 frame:=fun _ _ _ st hk=>⟨let ⟨o, ho, r⟩:=st.1; ⟨o, hk it (by simp) o ho, r⟩, let ⟨o, ho, r⟩:=st.2; ⟨o, hk l (by simp) o ho, r⟩⟩
 item:=fun i s Q E hi st hQ=>by
  refine nextOf_tuple_item st.1 st.2 (x:=items[i]) (by simp [hi]) fun h' hit' hs'=>?_
  exact hQ _ h' s.toks (by simp [hi]) ⟨hit', st.2.extBut hs'.extBut hne⟩ hs'
 done:=fun s Q E st hE=>nextOf_tuple_end hh st.1 st.2 (by simp) hE
end PySem
namespace L2
open PySem PySem.Spec PyProof.Rows
noncomputable def Ite (K : PySem.W.Frag) (a : Addr) : It :=
 ⟨fun i H=>∃ xs x, SqT K H a xs/\xs[i]? = some x, fun i H x H'=>∃ t v, x = .ref t/\H t = none/\H' = upd H t (.tup [.int i, v])/\∀ xs, SqT K H a xs->xs[i]? = some v, fun i H=>∃ xs, SqT K H a xs/\xs.length<=i⟩
theorem turn_enum {P : Program} {w : World} {K : PySem.W.Frag} {elts : List Expr} {kk : Nat} {pos : Pos} (a e it : Addr) (hei : e≠it) :
  Turn P w K (.Tuple elts kk pos) (Ite K a) [e, it] e (fun i h=>(∃ old, IsEnum h e it i old)/\h.IsTupleIter it a i) where
 mem:=by simp
 obj:=fun i h st b hb=>by
  obtain ⟨⟨old, he⟩, o, ho, hc, hd⟩:=st
  rcases List.mem_cons.mp hb with rfl | hb
  ·exact ⟨_, he, fun v z=>nomatch z⟩
  ·have e1 : b = it:=by simpa using hb
   subst e1
   exact ⟨o, ho, fun v z=>by rw [hd] at z; cases z⟩
 keep:=fun i h h' st k=>by
  obtain ⟨⟨old, he⟩, o, ho, r⟩:=st
  exact ⟨⟨old, k e (by simp) _ he⟩, o, k it (by simp) _ ho, r⟩
 item:=by
  intro X hP hw hK hc i pins s σ H E I hf st hg
  subst hP hw hK
  obtain ⟨xs, x, hq, hx⟩:=hg
  obtain ⟨its, rv, p, hz⟩:=I.tuple hq
  obtain ⟨u, hu, ru⟩:=rv.get hx
  obtain ⟨⟨old, he⟩, hit⟩:=st
  have hai : a≠it:=fun z=>by
   obtain ⟨o, ho, hc1, _⟩:=p
   obtain ⟨o', ho', hc2, _⟩:=hit
   rw [z, ho'] at ho
   cases ho
   rw [hc2] at hc1
   injection hc1 with z2
   exact absurd z2 (by decide)
  have hae : e≠a:=fun z=>by
   obtain ⟨o, ho, hc1, _⟩:=p
   have he' : s.heap.get? e = some _:=he
   rw [z, ho] at he'
   cases he'
   have z1 : Value.type "enumerate" = Value.type "tuple":=hc1
   injection z1 with z2
   exact absurd z2 (by decide)
  have hlt : i < its.toArray.size:=by have:=(List.getElem?_eq_some_iff.mp hu).1; simpa using this
  obtain ⟨e0, e1, e2, e3, e4, e5⟩:=hf e (by simp)
  obtain ⟨f0, f1, f2, f3, f4, f5⟩:=hf it (by simp)
  have D:=Draws.tuple (prog:=X.prog) (w:=X.w) (A:=X.A.in1) (I.ok.hd hc) it a hai its.toArray
  refine wpAny_pyNext_enum_itemD D he ⟨hit, show s.heap.IsTuple a its.toArray from p⟩ hlt hei (by simp [hei, hae]) fun x' h' tk hP ho hs' hT hsz hk=>⟨_, rfl, ?_⟩
  have ex : x' = u:=by
   have hP' : its[i]? = some x':=by simpa using hP
   rw [hu] at hP'
   exact (Option.some.inj hP').symm
  subst ex
  refine wpAny_letOwnedTupleGo_enum ho fun h2 he2 hs2=>?_
  have hTn : H s.heap.objs.size = none:=I.hok.fresh (Nat.le_refl _)
  have keep2 : ∀ b o, b≠e->b≠it->s.heap.get? b = some o->h2.get? b = some o:=fun b o hb1 hb2 q=>(hs2.2 b hb1).trans (hk b o hb1 hb2 q)
  have hTe : s.heap.objs.size≠e:=Nat.ne_of_gt (Heap.lt_size he)
  have hTup : h2.get? s.heap.objs.size = some { cls:=.type "tuple", data:=.seq #[.int i tk, x'] }:=(hs2.2 _ hTe).trans hT
  have J : Inv X pins σ (upd H s.heap.objs.size (.tup [.int i, x])) { s with heap:=h2, toks:=tk + 1 }:=by
   refine I.step (g':=s.gens) (d':=s.drawn) (t':=tk + 1) (ch:=[e, it]) (fun b hb=>?_) (fun b o _ _ hcb q _=>keep2 b o (fun z=>hcb (by simp [z])) (fun z=>hcb (by simp [z])) q)
    (fun b o _ _ hcb q _=>⟨o.slots, keep2 b o (fun z=>hcb (by simp [z])) (fun z=>hcb (by simp [z])) q⟩) (fun b o _ q n=>by rw [upd_ne (Nat.ne_of_lt (Heap.lt_size q))]; exact n)
    (fun b o hcb q=>⟨o, keep2 b o (fun z=>hcb (by simp [z])) (fun z=>hcb (by simp [z])) q⟩) (fun b ys q=>by rw [upd_ne (ne_of_none q hTn)]; exact q) (fun b o y q=>by rw [upd_ne (ne_of_none q hTn)]; exact q)
    (fun b ps q=>⟨#[], by rw [upd_ne (ne_of_none q hTn), q]; simp⟩) (fun m hm=>?_) ?_ I.bare
   ·rcases List.mem_cons.mp hb with rfl | hb
    ·exact ⟨e3, e1, e4, e5⟩
    ·have z : b = it:=by simpa using hb
     subst z
     exact ⟨f3, f1, f4, f5⟩
   ·obtain ⟨o, es, ep, ho', r⟩:=hm
    exact ⟨o, es, ep, keep2 _ o (Ne.symm e1) (Ne.symm f1) ho', r⟩
   ·intro b u' q
    have nT : ∀ {c y}, H c = some y->c≠e/\c≠it:=fun {c y} z=>⟨fun v=>(by rw [v, e0] at z; exact nomatch z), fun v=>(by rw [v, f0] at z; exact nomatch z)⟩
    by_cases hb : b = s.heap.objs.size
    ·subst hb
     rw [upd_same] at q
     cases q
     exact ⟨(by show 2<=sizeLine; decide), [.int i tk, x'], .cons ⟨_, rfl⟩ (.cons ru .nil), _, hTup, rfl, _, rfl⟩
    ·rw [upd_ne hb] at q
     refine (I.hok b u' q).stay (fun c v hcv y=>keep2 c v ?_ ?_ y) (fun c y=>by rw [upd_ne (ne_of_none y hTn)]; exact y) fun c ys y=>by rw [upd_ne (ne_of_none y hTn)]; exact y
     ·rcases hcv with rfl | z
      ·exact (nT q).1
      ·exact (nT z).1
     ·rcases hcv with rfl | z
      ·exact (nT q).2
      ·exact (nT z).2
  refine ⟨.ref s.heap.objs.size, _, J, rfl, ⟨_, x, rfl, hTn, rfl, fun ys hy=>by rw [I.tuple_inj hy hq]; exact hx⟩, ⟨⟨x', ?_⟩, ?_⟩, fun b hb=>?_⟩
  ·have he3 : IsEnum h2 e it ((i : Int) + 1) x':=by simpa using he2
   have ec : ((i + 1 : Nat) : Int) = (i : Int) + 1:=by omega
   rw [ec]
   exact he3
  ·obtain ⟨o, ho2, r⟩:=hs'.1
   exact ⟨o, (hs2.2 it (Ne.symm hei)).trans ho2, r⟩
  ·rw [upd_ne]
   ·exact (hf b hb).1
   ·rcases List.mem_cons.mp hb with rfl | hb
    ·exact Ne.symm hTe
    ·have z : b = it:=by simpa using hb
     subst z
     obtain ⟨o, ho2, _⟩:=hit
     exact Nat.ne_of_lt (Heap.lt_size ho2)
 done:=by
  intro X hP hw hK hc i pins s σ H E I hf st hg
  subst hP hw hK
  obtain ⟨xs, hq, hx⟩:=hg
  obtain ⟨its, rv, p, hz⟩:=I.tuple hq
  obtain ⟨⟨old, he⟩, hit⟩:=st
  obtain ⟨f0, f1, f2, f3, f4, f5⟩:=hf it (by simp)
  have hl:=rv.length
  have hT : s.TypeIs (.ref e) "enumerate":=⟨_, he, rfl⟩
  unfold pyNext
  refine wpAny_bind (wpAny_attempt (wpAny_callSpecial?_slot (name:=Str.ofString "__next__") hT PySem.F.slot_enumerate_next
   (wpAny_call_entry PySem.F.slot_enumerate_next hT PySem.F.entry_enumerate_next ?_ (PySem.F.args_enumerate_next_1 _))))
  show wpAny _ _ (field (.ref e) 2 >>= _) _ _ _
  refine wpAny_bind (wpAny_field he rfl (x:=.ref it) rfl ?_)
  refine wpAny_bind (nextOf_tuple_end (I.ok.hd hc) hit (show s.heap.IsTuple a its.toArray from p) (by simp; omega) fun h' x he' hx'=>?_)
  obtain ⟨o, ho, hc'⟩:=hx'
  refine wpAny_bind (wpAny_isInstance (T:="StopIteration") (b:=true) ⟨o, ho, hc'⟩ isSubtype_stop ?_)
  exact wpAny_pure ⟨rfl, I.turned (t':=s.toks) (fun b o hb e=>he' b o hb e) f0 f1 f3 f4 f5⟩
 self:=fun A i s Q E st h=>by
  obtain ⟨⟨old, he⟩, _⟩:=st
  have hT : s.TypeIs (.ref e) "enumerate":=⟨_, he, rfl⟩
  refine wpAny_pyIter_slot hT PySem.F.slot_enumerate_iter (wpAny_call_entry PySem.F.slot_enumerate_iter hT PySem.F.entry_enumerate_iter ?_ (PySem.F.args_enumerate_iter_1 _))
  show wpAny _ _ (ret (.ref e)) _ _ s
  exact wpAny_pure ⟨_, rfl, "enumerate", _, hT, PySem.F.slot_enumerate_next.lookup, h⟩
theorem boot_enumerate : bootBuiltins "enumerate" = some (.type "enumerate"):=by decide +kernel
noncomputable def iEnum (K : PySem.W.Frag) (ta : TA) : TI:=fun σ H R=>ta σ H fun vs H1=>∃ a, vs = [.ref a]/\(∃ xs, SqT K H1 a xs)/\R (Ite K a) H1
theorem pi_enum {X : Cx} {elts : List Expr} {kk : Nat} {tpos : Pos} {a : Expr} {ta : TA} {p pos : Pos} (hg : Gl X "enumerate") (hm : X.mg "enumerate" = none) (ha : PA X [a] ta) (hs : starEach [a] X.env = [(false, eval a X.env)]:=by rfl) : PI X (.Tuple elts kk tpos) (.Call (.Name "enumerate" p) [a] [] pos) (iEnum X.K ta):=by
 intro pins s σ H R I h
 refine Call_ (ld_blt I hg hm boot_enumerate (PyProof.Rows.callWith_type1 (thn (ha pos pins s σ H _ I h) fun us s1 ⟨vs, H1, I1, r1, q1⟩=>?_) hs rfl))
 obtain ⟨b, e, ⟨xs, hq⟩, q⟩:=q1
 subst e
 obtain ⟨u, rfl, rx⟩:=vals1 r1
 cases rx
 obtain ⟨its, rv, pt, hz⟩:=I1.tuple hq
 refine call_enumerate_tuple (show s1.heap.IsTuple b its.toArray from pt) fun h' he hit hsz hk=>?_
 have I2 : Inv X pins σ H1 { s1 with heap:=h' }:=I1.kept (t':=s1.toks) hk
 have T : Turn X.prog X.w X.K (.Tuple elts kk tpos) (Ite X.K b) [s1.heap.objs.size + 1, s1.heap.objs.size] (s1.heap.objs.size + 1) (fun i h=>(∃ old, IsEnum h (s1.heap.objs.size + 1) s1.heap.objs.size i old)/\h.IsTupleIter s1.heap.objs.size b i):=turn_enum b _ _ (Nat.ne_of_gt (Nat.lt_succ_self _))
 refine T.self _ 0 _ _ _ ⟨⟨_, he⟩, hit⟩ ⟨_, _, _, _, H1, rfl, I2, T, ⟨⟨_, he⟩, hit⟩, fun c hc=>?_, q⟩
 rcases List.mem_cons.mp hc with rfl | hc
 ·exact I1.fpOk (Nat.le_succ _) (I1.hok.fresh (Nat.le_succ _))
 ·have z : c = s1.heap.objs.size:=by simpa using hc
  subst z
  exact I1.fpOk (Nat.le_refl _) (I1.hok.fresh (Nat.le_refl _))
section
variable {κ : Type} [DecidableEq κ]
noncomputable def valV (kvs : List (κ × V)) (k : κ) : Option V:=(kvs.find? fun kv=>decide (kv.1 = k)).map (·.2)
noncomputable def putK (kvs : List (κ × V)) (k : κ) (v : V) : List (κ × V) :=
 if (kvs.any fun kv=>decide (kv.1 = k)) = true then kvs.map (fun kv=>if kv.1 = k then (kv.1, v) else kv) else kvs ++ [(k, v)]
theorem valV_pos {p : κ × V} {r : List (κ × V)} {k : κ} (e : p.1 = k) : valV (p :: r) k = some p.2:=by simp [valV, List.find?_cons, e]
theorem valV_neg {p : κ × V} {r : List (κ × V)} {k : κ} (e : ¬ p.1 = k) : valV (p :: r) k = valV r k:=by simp [valV, List.find?_cons, e]
theorem valV_any (k : κ) : ∀ kvs : List (κ × V), (kvs.any fun kv=>decide (kv.1 = k)) = (valV kvs k).isSome
 | []=>rfl
 | p :: r=>by
  rw [List.any_cons]
  by_cases e : p.1 = k
  ·simp only [valV_pos e, decide_eq_true e, Bool.true_or, Option.isSome_some]
  ·rw [valV_neg e, decide_eq_false e, Bool.false_or]; exact valV_any k r
theorem length_putK (kvs : List (κ × V)) (k : κ) (v : V) : (putK kvs k v).length<=kvs.length + 1:=by
 unfold putK
 split
 ·rw [List.length_map]; omega
 ·rw [List.length_append, List.length_cons, List.length_nil]; omega
theorem RelO.isSome_eq {o : Option V} {u : Option Value} (r : RelO o u) : o.isSome = u.isSome:=by
 cases o with
 | none=>cases u with
  | none=>rfl
  | some _=>exact (show False from r).elim
 | some _=>cases u with
  | none=>exact (show False from r).elim
  | some _=>rfl
theorem KV.val {kvs : List (κ × V)} {vs : List (κ × Value)} (r : KV kvs vs) (k : κ) : RelO (valV kvs k) (valueAt vs k):=by
 unfold KV at r
 induction r with
 | nil=>exact True.intro
 | @cons p q ps qs h t ih =>
  obtain ⟨h1, h2⟩:=h
  by_cases e : p.1 = k
  ·have e' : q.1 = k:=h1.symm.trans e
   have b : valueAt (q :: qs) k = some q.2:=by simp [valueAt, List.find?_cons, e']
   rw [valV_pos e, b]; exact h2
  ·have e' : ¬ q.1 = k:=fun z=>e (h1.trans z)
   have b : valueAt (q :: qs) k = valueAt qs k:=by simp [valueAt, List.find?_cons, e']
   rw [valV_neg e, b]; exact ih
theorem KV.any {kvs : List (κ × V)} {vs : List (κ × Value)} (r : KV kvs vs) (k : κ) : (kvs.any fun kv=>decide (kv.1 = k)) = vs.any fun kv=>decide (kv.1 = k):=by
 unfold KV at r
 induction r with
 | nil=>rfl
 | cons h t ih=>rw [List.any_cons, List.any_cons, ih, h.1]
theorem KV.repl {kvs : List (κ × V)} {vs : List (κ × Value)} (r : KV kvs vs) (k : κ) {y : V} {u : Value} (ry : RelV y u) :
  KV (kvs.map fun kv=>if kv.1 = k then (kv.1, y) else kv) (vs.map fun kv=>if kv.1 = k then (kv.1, u) else kv):=by
 unfold KV at r ⊢
 induction r with
 | nil=>exact .nil
 | @cons p q ps qs h t ih =>
  rw [List.map_cons, List.map_cons]
  refine .cons ?_ ih
  obtain ⟨h1, h2⟩:=h
  by_cases e : p.1 = k
  ·rw [if_pos e, if_pos (h1.symm.trans e)]; exact ⟨h1, ry⟩
  ·rw [if_neg e, if_neg (fun z=>e (h1.trans z))]; exact ⟨h1, h2⟩
theorem KV.put {kvs : List (κ × V)} {vs : List (κ × Value)} (r : KV kvs vs) (k : κ) {y : V} {u : Value} (ry : RelV y u) : KV (putK kvs k y) (stored vs k u):=by
 unfold putK stored
 rw [r.any k]
 by_cases e : (vs.any fun kv=>decide (kv.1 = k)) = true
 ·rw [if_pos e, if_pos e]; exact r.repl k ry
 ·rw [if_neg e, if_neg e]; exact Paired.snoc r ⟨rfl, ry⟩
theorem KV.keys {kvs : List (κ × V)} {vs : List (κ × Value)} (r : KV kvs vs) : kvs.map (·.1) = vs.map (·.1):=by
 unfold KV at r
 induction r with
 | nil=>rfl
 | cons h t ih=>rw [List.map_cons, List.map_cons, ih, h.1]
theorem KV.length {kvs : List (κ × V)} {vs : List (κ × Value)} (r : KV kvs vs) : kvs.length = vs.length:=Paired.length r
end
theorem kV_is {P : Program} {w : World} {k : Key} {u : Value} (r : RelV (kV k) u) : (mixKind P w).is k u = true:=by
 cases k with
 | inl i=>obtain ⟨t, e⟩:=(show ∃ t, u = Value.int i t from r); subst e; exact mixKind_int P w i t
 | inr x=>obtain ⟨t, e⟩:=(show ∃ t, u = Value.str x t from r); subst e; exact mixKind_str P w x t
theorem items_are {P : Program} {w : World} : ∀ {ks : List Key} {us : List Value}, Vals (ks.map kV) us->ItemsAre (mixKind P w) ks us
 | [], _, r=>by rw [List.map_nil] at r; cases r; exact .nil
 | k :: ks, _, r=>by
  rw [List.map_cons] at r
  cases r with
  | cons h t=>exact .cons (kV_is h) (items_are t)
noncomputable abbrev KT (H : Hp) : List (List Key × V)->List (List Key × Addr × Value)->Prop:=Paired fun p q=>p.1 = q.1/\H q.2.1 = some (.tup (p.1.map kV))/\RelV p.2 q.2.2
theorem KT.val {H : Hp} {kvs : List (List Key × V)} {xs : List (List Key × Addr × Value)} (r : KT H kvs xs) (k : List Key) : RelO (valV kvs k) ((atKey xs k).map (·.2)):=by
 induction r with
 | nil=>exact True.intro
 | @cons p q ps qs h t ih =>
  obtain ⟨h1, _, h2⟩:=h
  by_cases e : p.1 = k
  ·have e' : q.1 = k:=h1.symm.trans e
   have b : atKey (q :: qs) k = some q.2:=by simp [atKey, List.find?_cons, e']
   rw [valV_pos e, b]; exact h2
  ·have e' : ¬ q.1 = k:=fun z=>e (h1.trans z)
   have b : atKey (q :: qs) k = atKey qs k:=by simp [atKey, List.find?_cons, e']
   rw [valV_neg e, b]; exact ih
theorem KT.repl {H : Hp} {kvs : List (List Key × V)} {xs : List (List Key × Addr × Value)} (r : KT H kvs xs) (k : List Key) {y : V} {u : Value} (ry : RelV y u) :
  KT H (kvs.map fun kv=>if kv.1 = k then (kv.1, y) else kv) (xs.map (putAt k u)):=by
 induction r with
 | nil=>exact .nil
 | @cons p q ps qs h t ih =>
  rw [List.map_cons, List.map_cons]
  refine .cons ?_ ih
  obtain ⟨h1, h2, h3⟩:=h
  unfold putAt
  by_cases e : p.1 = k
  ·rw [if_pos e, if_pos (h1.symm.trans e)]; exact ⟨h1, h2, ry⟩
  ·rw [if_neg e, if_neg (fun z=>e (h1.trans z))]; exact ⟨h1, h2, h3⟩
theorem KT.put {H : Hp} {kvs : List (List Key × V)} {xs : List (List Key × Addr × Value)} (r : KT H kvs xs) (k : List Key) {b : Addr} {y : V} {u : Value} (hb : H b = some (.tup (k.map kV))) (ry : RelV y u) :
  KT H (putK kvs k y) (storedH xs k b u):=by
 have e : (kvs.any fun kv=>decide (kv.1 = k)) = (atKey xs k).isSome:=by
  rw [valV_any, (r.val k).isSome_eq, Option.isSome_map]
 unfold putK storedH
 rw [e]
 by_cases q : (atKey xs k).isSome = true
 ·rw [if_pos q, if_pos q]; exact r.repl k ry
 ·rw [if_neg q, if_neg q]; exact Paired.snoc r ⟨rfl, hb, ry⟩
theorem KT.keeps {H H' : Hp} {kvs : List (List Key × V)} {xs : List (List Key × Addr × Value)} (r : KT H kvs xs) (ht : ∀ b ys, H b = some (.tup ys)->H' b = some (.tup ys)) : KT H' kvs xs :=
 Paired.mapP r fun _ _ z=>⟨z.1, ht _ _ z.2.1, z.2.2⟩
section
variable {P : Program} {w : World} {H : Hp} {h : Heap} {a : Addr}
theorem rd_of {u : HO} (ok : HOk P w H h) (e : Rd H a u) : ObjOk P w H h a u:=e.ok ok
theorem dk_rd {kvs : List (Key × V)} (ok : HOk P w H h) (e : Rd H a (.dK kvs)) : kvs.length<=sizeLine/\(a == sysModules) = false/\∃ vs, KV kvs vs/\h.DictOf (mixKind P w) a vs :=
 show ObjOk P w H h a (.dK kvs) from rd_of ok e
theorem dk_of {kvs : List (Key × V)} (ok : HOk P w H h) (e : H a = some (.dK kvs)) : kvs.length<=sizeLine/\(a == sysModules) = false/\∃ vs, KV kvs vs/\h.DictOf (mixKind P w) a vs:=dk_rd ok (.inl e)
theorem key_of {ks : List Key} (ok : HOk P w H h) (e : H a = some (.tup (ks.map kV))) : (tupleKind (mixKind P w)).is h ks a:=by
 obtain ⟨_, its, r, o, h1, h2, n, h3⟩:=(show ObjOk P w H h a (.tup (ks.map kV)) from ok a _ e)
 exact ⟨o, its.toArray, n, h1, h2, h3, by simpa using items_are r⟩
theorem dt_rd {kvs : List (List Key × V)} (ok : HOk P w H h) (e : Rd H a (.dT kvs)) : kvs.length<=sizeLine/\(a == sysModules) = false /\
  ∃ xs, KT H kvs xs/\h.DictOfH (tupleKind (mixKind P w)) a xs:=by
 obtain ⟨z, y, xs, r, o, es, ep, h1, h2, h3, h4, h5⟩:=(show ObjOk P w H h a (.dT kvs) from rd_of ok e)
 refine ⟨z, y, xs, r, o, es, ep, h1, h2, h3, h4, fun x hx=>?_, h5⟩
 have all : ∀ {l : List (List Key × V)} {m : List (List Key × Addr × Value)}, KT H l m->∀ x∈m, (tupleKind (mixKind P w)).is h x.1 x.2.1:=by
  intro l m q
  induction q with
  | nil=>intro x hx; exact nomatch hx
  | @cons p q ps qs hq t ih =>
   intro x hx
   rcases List.mem_cons.mp hx with e | hx
   ·subst e
    exact key_of ok (by rw [← hq.1]; exact hq.2.1)
   ·exact ih x hx
 exact all r x hx
theorem dt_of {kvs : List (List Key × V)} (ok : HOk P w H h) (e : H a = some (.dT kvs)) : kvs.length<=sizeLine/\(a == sysModules) = false /\
  ∃ xs, KT H kvs xs/\h.DictOfH (tupleKind (mixKind P w)) a xs:=dt_rd ok (.inl e)
end
noncomputable def DGet (H : Hp) (a : Addr) (y : V) (r : Option V) : Prop :=
 (∃ kvs k, Rd H a (.dK kvs)/\y = kV k/\r = valV kvs k)\/∃ kvs k b, Rd H a (.dT kvs)/\y = .ref b/\H b = some (.tup (k.map kV))/\r = valV kvs k
noncomputable def DPut (H : Hp) (a : Addr) (y v : V) (H' : Hp) : Prop :=
 (∃ kvs k, H a = some (.dK kvs)/\y = kV k/\kvs.length < sizeLine/\H' = upd H a (.dK (putK kvs k v))) ∨
 ∃ kvs k b, H a = some (.dT kvs)/\y = .ref b/\H b = some (.tup (k.map kV))/\kvs.length < sizeLine/\H' = upd H a (.dT (putK kvs k v))
theorem DGet.k {H : Hp} {a : Addr} {kvs : List (Key × V)} {k : Key} (e : H a = some (.dK kvs)) : DGet H a (kV k) (valV kvs k):=.inl ⟨kvs, k, .inl e, rfl, rfl⟩
theorem DPut.k {H : Hp} {a : Addr} {kvs : List (Key × V)} {k : Key} {v : V} (e : H a = some (.dK kvs)) (hl : kvs.length < sizeLine) : DPut H a (kV k) v (upd H a (.dK (putK kvs k v))):=.inl ⟨kvs, k, e, rfl, hl, rfl⟩
section
variable {X : Cx} {pins : List (Addr × Obj)} {σ : St} {H : Hp} {s : Shared} {a : Addr} {y v : V} {u r : Value} {o : Option V} {A : Around} {E : Value->Shared->Prop}
theorem Inv.big (I : Inv X pins σ H s) : sysModules < s.heap.objs.size:=by
 have h : mainGlobals < s.heap.objs.size:=(I.mod.glob.keeps I.bk).lt
 exact Nat.lt_trans (by decide) h
theorem d_getItem {Q : Value->Shared->Prop} (hu : A.units + 1 < cLine) (I : Inv X pins σ H s) (g : DGet H a y (some v)) (ry : RelV y u) (h : ∀ w' s', Inv X pins σ H s'->RelV v w'->Q w' s') :
  wpAny (model X.prog X.w) A (getItem (.ref a) u) Q E s:=by
 rcases g with ⟨kvs, k, e, ey, l⟩ | ⟨kvs, k, b, e, ey, eb, l⟩
 ·subst ey
  obtain ⟨z, hd, vs, rel, dd⟩:=dk_rd I.hok e
  obtain ⟨w', hw, rw'⟩:=RelO.some_of (v:=v) (o:=valueAt vs k) (by rw [l]; exact rel.val k)
  exact wpAny_getItem_of (kV_is ry) dd.mapOf hw (h w' _ (I.tok _) rw')
 ·subst ey
  cases (show u = Value.ref b from ry)
  obtain ⟨z, hd, xs, rel, dd⟩:=dt_rd I.hok e
  obtain ⟨w', hw, rw'⟩:=RelO.some_of (v:=v) (o:=(atKey xs k).map (·.2)) (by rw [l]; exact rel.val k)
  obtain ⟨p, hp, hp2⟩:=Option.map_eq_some_iff.mp hw
  refine wpAny_getItem_heap (tupleKind_room_in1 hu) (key_of I.hok eb) dd hp ?_
  rw [hp2]
  exact h w' _ (I.tok _) rw'
theorem d_notIn {Q : Value->Shared->Prop} (hu : A.units + 1 < cLine) (I : Inv X pins σ H s) (g : DGet H a y o) (ry : RelV y u) (h : ∀ s', Inv X pins σ H s'->Q (.bool (!o.isSome)) s') :
  wpAny (model X.prog X.w) A (compareOp .NotIn u (.ref a)) Q E s:=by
 rcases g with ⟨kvs, k, e, ey, l⟩ | ⟨kvs, k, b, e, ey, eb, l⟩
 ·subst ey
  obtain ⟨z, hd, vs, rel, dd⟩:=dk_rd I.hok e
  refine wpAny_notIn_of (kV_is ry) hd dd.mapOf ?_
  rw [← (rel.val k).isSome_eq, ← l]
  exact h _ (I.tok _)
 ·subst ey
  cases (show u = Value.ref b from ry)
  obtain ⟨z, hd, xs, rel, dd⟩:=dt_rd I.hok e
  refine wpAny_notIn_heap (tupleKind_room_in1 hu) (key_of I.hok eb) hd dd ?_
  have q:=(rel.val k).isSome_eq
  rw [Option.isSome_map] at q
  rw [← q, ← l]
  exact h _ (I.tok _)
theorem d_write {h' : Heap} {t' : Nat} {ob : HO} (I : Inv X pins σ H s) (mu : Mut (H a)) (hs : Heap.SameBut a s.heap h') (he : ∃ q, h'.get? a = some q) (new : ObjOk X.prog X.w (upd H a ob) h' a ob) :
  Inv X pins σ (upd H a ob) { s with heap:=h', toks:=t' } :=
 I.write (x:=a) (e:=a) mu (.inl rfl) (fun b q hb z=>(hs.2 b hb).trans z) he new
theorem dk_new {P : Program} {w : World} {H' : Hp} {h' : Heap} {kvs : List (Key × V)} {vs : List (Key × Value)} (z : kvs.length<=sizeLine) (hd : (a == sysModules) = false) (rel : KV kvs vs) (dd : h'.DictOf (mixKind P w) a vs) :
  ObjOk P w H' h' a (.dK kvs):=⟨z, hd, vs, rel, dd⟩
theorem d_setItem {H' : Hp} {Q : Unit->Shared->Prop} (hu : A.units + 1 < cLine) (I : Inv X pins σ H s) (g : DPut H a y v H') (ry : RelV y u) (rv : RelV v r) (h : ∀ s', Inv X pins σ H' s'->Q () s') :
  wpAny (model X.prog X.w) A (setItem (.ref a) u r) Q E s:=by
 rcases g with ⟨kvs, k, e, ey, l, eH⟩ | ⟨kvs, k, b, e, ey, eb, l, eH⟩
 ·subst ey eH
  obtain ⟨z, hd, vs, rel, dd⟩:=dk_of I.hok e
  have hz : vs.length<=sizeLine:=by rw [← rel.length]; exact z
  have hl : (putK kvs k v).length<=sizeLine:=by have:=length_putK kvs k v; omega
  refine wpAny_setItem_pairs (hsz:=hz) (kV_is ry) dd fun h' dd' hs=>h _ ?_
  have he : ∃ q, h'.get? a = some q:=let ⟨q, _, _, hq, _⟩:=dd'; ⟨q, hq⟩
  exact d_write I (by rw [e]; exact True.intro) hs he (dk_new hl hd (rel.put k rv) dd')
 ·subst ey eH
  cases (show u = Value.ref b from ry)
  obtain ⟨z, hd, xs, rel, dd⟩:=dt_of I.hok e
  have hz : xs.length<=sizeLine:=by rw [← Paired.length rel]; exact z
  have hl : (putK kvs k v).length<=sizeLine:=by have:=length_putK kvs k v; omega
  refine wpAny_setItem_heap (hsz:=hz) (tupleKind_room_in1 hu) (key_of I.hok eb) dd fun h' dd' hs=>h _ ?_
  obtain ⟨q, es, ep, hq, h2, h3, h4, _, h5⟩:=dd'
  refine d_write I (by rw [e]; exact True.intro) hs ⟨q, hq⟩ ⟨hl, hd, _, (rel.put k eb rv).keeps fun c ys ec=>?_, q, es, ep, hq, h2, h3, h4, h5⟩
  rw [upd_ne (ne_of ec e (fun z=>nomatch z))]
  exact ec
end
section
variable {X : Cx} {pins : List (Addr × Obj)} {σ : St} {H : Hp} {s : Shared} {a : Addr} {kvs : List (Key × V)} {k : Key} {u : Value} {A : Around} {E : Value->Shared->Prop}
end
noncomputable def NoSl (i : Expr) : Prop:=∀ ov iv, subscripted i false ov iv = operate [ov, iv] (getItem ov iv)
theorem subD_of {prog : Program} {w : World} {A : Around} {E : Value->Shared->Prop} {s : Shared} {env : Env} {value slice : Expr} {pos : Pos} {T id : String} {Q : Value->Shared->Prop}
  (hl : typeLookup (.type T) "__getitem__" = pure (some (.builtin id))) (hs : NoSl slice)
  (h : wpAny (model prog w) A (eval value env) (fun o s₁=>wpAny (model prog w) A (eval slice env) (fun i s₂=>s₂.TypeIs o T/\wpAny (model prog w) A (getItem o i) Q E s₂) E s₁) E s) :
  wpAny (model prog w) A (eval (.Subscript value slice pos) env) Q E s:=by
 refine Subscript_ (wpAny_mono h (fun o s₁ h₁=>wpAny_mono h₁ (fun i s₂ h₂=>?_) fun _ _ x=>x) fun _ _ x=>x)
 obtain ⟨hT, h₂⟩:=h₂
 unfold subscriptTail
 refine wpAny_bind ?_
 rw [getitemInPython_of_ne hT.not_modules]
 refine wpAny_bind (wpAny_specialOf hT hl ?_)
 have fin : wpAny (model prog w) A (subscripted slice false o i) (fun r s₃=>wpAny (model prog w) A (letTemporaryGo value o r >>= fun _=>pure r) Q E s₃) E s₂:=by
  rw [hs o i]
  exact wpAny_operating (wpAny_mono h₂ (fun r s₃ h₃=>wpAny_bind (wpAny_letTemporaryGo (wpAny_pure h₃))) fun _ _ x=>x)
 first
  | exact wpAny_pure (wpAny_bind fin)
  | exact wpAny_bind (wpAny_pure (wpAny_bind fin))
  | exact wpAny_bind fin
theorem dict_typeIs {X : Cx} {pins : List (Addr × Obj)} {σ : St} {H : Hp} {s : Shared} {a : Addr} {y : V} {o : Option V} (I : Inv X pins σ H s) (g : DGet H a y o) : s.TypeIs (.ref a) "dict":=by
 rcases g with ⟨kvs, k, e, _, _⟩ | ⟨kvs, k, b, e, _, _, _⟩
 ·obtain ⟨_, _, vs, _, dd⟩:=dk_rd I.hok e
  exact dd.typeIs
 ·obtain ⟨_, _, xs, _, dd⟩:=dt_rd I.hok e
  exact dd.typeIs
noncomputable def tDGet (td ty : TE) : TE:=fun σ H Q=>td σ H fun x H1=>ty σ H1 fun y H2=>∃ a v, x = .ref a/\DGet H2 a y (some v)/\Q v H2
noncomputable def tDNotIn (ty td : TE) : TE:=fun σ H Q=>ty σ H fun y H1=>td σ H1 fun x H2=>∃ a o, x = .ref a/\DGet H2 a y o/\Q (.bl (!o.isSome)) H2
noncomputable def sDPut (td ty tv : TE) : TS:=fun D σ H=>tv σ H fun v H1=>td σ H1 fun x H2=>ty σ H2 fun y H3=>∃ a H4, x = .ref a/\DPut H3 a y v H4/\D.nx σ H4
section
variable {X : Cx} {o i e value : Expr} {pos pos' tpos : Pos} {td ty tv : TE}
theorem pe_dget (hu : X.A.units + 1 < cLine) (ho : PE X o td) (hi : PE X i ty) (hs : NoSl i) : PE X (.Subscript o i pos) (tDGet td ty):=by
 intro pins s σ H Q I h
 refine subD_of PySem.F.slot_dict_getitem.lookup hs (thn (ho pins s σ H _ I h) fun u s1 ⟨x, H1, I1, rx, q1⟩=>thn (hi pins s1 σ H1 _ I1 q1) fun iv s2 ⟨y, H2, I2, ry, a, v, ex, g, q2⟩=>?_)
 subst ex
 obtain rfl : u = Value.ref a:=rx
 exact ⟨dict_typeIs I2 g, d_getItem hu I2 g ry fun w' s3 I3 rw'=>⟨v, H2, I3, rw', q2⟩⟩
theorem pc_dnotin (hu : X.A.units + 1 < cLine) (hi : PE X i ty) (ho : PE X o td) : PC X .NotIn i o (tDNotIn ty td):=by
 intro pins s σ H Q I h
 refine thn (hi pins s σ H _ I h) fun iv s1 ⟨y, H1, I1, ry, q1⟩=>thn (ho pins s1 σ H1 _ I1 q1) fun u s2 ⟨x, H2, I2, rx, a, ov, ex, g, q2⟩=>?_
 subst ex
 obtain rfl : u = Value.ref a:=rx
 exact d_notIn hu I2 g ry fun s3 I3=>⟨.bl (!ov.isSome), H2, I3, rfl, q2⟩
theorem ps_dput (hu : X.A.units + 1 < cLine) (ho : PE X o td) (hi : PE X i ty) (hv : PE X value tv) (hs : swapsWith value (some (.Subscript o i pos')) pos.line X.env = pure false) :
  PS X (.Assign [.Subscript o i pos'] value pos) (sDPut td ty tv):=by
 intro pins s σ H D I h
 refine wpAny_Assign_Subscript (thn (hv pins s σ H _ I h) fun r s1 ⟨v, H1, I1, rv, q1⟩=>thn (ho pins s1 σ H1 _ I1 q1) fun u s2 ⟨x, H2, I2, rx, q2⟩=>thn (hi pins s2 σ H2 _ I2 q2) fun iv s3 ⟨y, H3, I3, ry, a, H4, ex, g, q3⟩=>?_) hs
 subst ex
 obtain rfl : u = Value.ref a:=rx
 exact d_setItem hu I3 g ry rv fun s4 I4=>⟨σ, H4, I4, q3⟩
end
theorem dk_empty {P : Program} {w : World} {H : Hp} (h : Heap) (hb : sysModules < h.objs.size) : ObjOk P w H (h.push { cls:=.type "dict", data:=.dict #[] }) h.objs.size (.dK []) :=
 ⟨Nat.zero_le _, beq_eq_false_iff_ne.mpr (Ne.symm (Nat.ne_of_lt hb)), [], .nil, Heap.DictOf.new h⟩
noncomputable def tDNewK : TE:=fun _ H Q=>∀ p, H p = none->Q (.ref p) (upd H p (.dK []))
section
variable {X : Cx} {pos : Pos}
theorem pe_dnewK : PE X (.Dict [] [] pos) tDNewK:=fun pins s σ H Q I h =>
 wpAny_Dict_empty ⟨.ref s.heap.objs.size, _, I.laid (a:=s.heap.objs.size) (o:=.dK []) (t':=s.toks) (fun _ _ q=>Heap.get?_push_of_some _ q) (Nat.le_refl _) (dk_empty s.heap I.big), rfl, h _ (I.hok.fresh (Nat.le_refl _))⟩
end
noncomputable def tPairs : List (TE × TE)->St->Hp->(List (V × V)->Hp->Prop)->Prop
 | [], _, H, Q=>Q [] H
 | (tk, tv) :: r, σ, H, Q=>tk σ H fun x H1=>tv σ H1 fun y H2=>tPairs r σ H2 fun ps H3=>Q ((x, y) :: ps) H3
noncomputable abbrev VV : List (V × V)->List (Value × Value)->Prop:=Paired fun p q=>RelV p.1 q.1/\RelV p.2 q.2
noncomputable def PPs (X : Cx) (pos : Pos) (keys : List (Option Expr)) (values : List Expr) (trs : List (TE × TE)) : Prop :=
 ∀ (pins : List (Addr × Obj)) (s : Shared) (σ : St) (H : Hp) (Q : List (V × V)->Hp->Prop), Inv X pins σ H s->tPairs trs σ H Q ->
  wpAny (model X.prog X.w) X.A (evalPairs (pairTrees keys values X.env pos)) (fun vs s'=>∃ ps H', Inv X pins σ H' s'/\VV ps vs/\Q ps H') X.xe s
theorem pps_nil {X : Cx} {pos : Pos} : PPs X pos [] [] []:=fun pins s σ H Q I h=>pairTrees_nil_walk ⟨[], H, I, .nil, h⟩
theorem pps_cons {X : Cx} {pos : Pos} {k v : Expr} {ks : List (Option Expr)} {vs : List Expr} {tk tv : TE} {trs : List (TE × TE)} (hk : PE X k tk) (hv : PE X v tv) (hr : PPs X pos ks vs trs) :
  PPs X pos (some k :: ks) (v :: vs) ((tk, tv) :: trs):=fun pins s σ H Q I h =>
 pairTrees_cons_walk (thn (hk pins s σ H _ I h) fun u s1 ⟨x, H1, I1, rx, q1⟩=>thn (hv pins s1 σ H1 _ I1 q1) fun w2 s2 ⟨y, H2, I2, ry, q2⟩ =>
  thn (hr pins s2 σ H2 _ I2 q2) fun ws s3 ⟨ps, H3, I3, rel, q3⟩=>⟨(x, y) :: ps, H3, I3, .cons ⟨rx, ry⟩ rel, q3⟩)
noncomputable def mergeK (kvs more : List (Key × V)) : List (Key × V):=more.foldl (fun acc kv=>putK acc kv.1 kv.2) kvs
theorem KV.merge : ∀ {more : List (Key × V)} {rs : List (Key × Value)} {kvs : List (Key × V)} {vs : List (Key × Value)}, KV more rs->KV kvs vs->KV (mergeK kvs more) (merged vs rs):=by
 intro more rs kvs vs r
 unfold KV at r
 induction r generalizing kvs vs with
 | nil=>intro q; exact q
 | @cons p q ps qs h t ih =>
  intro r0
  have e : KV (putK kvs p.1 p.2) (stored vs q.1 q.2):=by
   have:=r0.put p.1 h.2
   rw [← h.1]; exact this
  exact ih e
theorem length_mergeK : ∀ (more kvs : List (Key × V)), (mergeK kvs more).length<=kvs.length + more.length
 | [], kvs=>by show kvs.length<=kvs.length + 0; omega
 | p :: r, kvs=>by
  have h1:=length_mergeK r (putK kvs p.1 p.2)
  have h2:=length_putK kvs p.1 p.2
  show (mergeK (putK kvs p.1 p.2) r).length<=_
  rw [List.length_cons]; omega
theorem carries_of {P : Program} {w : World} : ∀ {kvs : List (Key × V)} {ws : List (Value × Value)}, VV (kvs.map fun kv=>(kV kv.1, kv.2)) ws->∃ rs, Carries (mixKind P w) ws rs/\KV kvs rs
 | [], _, r=>by rw [List.map_nil] at r; cases r; exact ⟨[], True.intro, .nil⟩
 | p :: kvs, _, r=>by
  rw [List.map_cons] at r
  cases r with
  | @cons a b as bs h t =>
   obtain ⟨rs, c, q⟩:=carries_of (P:=P) (w:=w) t
   obtain ⟨b1, b2⟩:=b
   exact ⟨(p.1, b2) :: rs, ⟨kV_is h.1, rfl, c⟩, .cons ⟨rfl, h.2⟩ q⟩
noncomputable def tDisp (trs : List (TE × TE)) : TE:=fun σ H Q=>∀ p, H p = none->tPairs trs σ (upd H p (.dK [])) fun ps H2=>H2 p = some (.dK [])/\∃ kvs : List (Key × V), ps = kvs.map (fun kv=>(kV kv.1, kv.2))/\kvs.length<=15/\Q (.ref p) (upd H2 p (.dK (mergeK [] kvs)))
theorem pe_disp {X : Cx} {pos : Pos} {keys : List (Option Expr)} {values : List Expr} {trs : List (TE × TE)} (h : PPs X pos keys values trs) (hall : keys.all (·.isSome) = true) (hl : keys.length = values.length) (h0 : keys≠[])
  (h15 : keys.length<=15) : PE X (.Dict keys values pos) (tDisp trs):=by
 intro pins s σ H Q I q
 have hn:=I.hok.fresh (Nat.le_refl s.heap.objs.size)
 have I1:=I.laid (a:=s.heap.objs.size) (o:=.dK []) (h':=s.heap.push { cls:=.type "dict", data:=.dict #[] }) (t':=s.toks) (fun _ _ q=>Heap.get?_push_of_some _ q) (Nat.le_refl _) (dk_empty s.heap I.big)
 refine wpAny_Dict_walk (knd:=mixKind X.prog X.w) hall hl h0 h15 (thn (h pins _ σ _ _ I1 (q _ hn)) fun ws s2 ⟨ps, H2, I2, rel, e, kvs, ep, lk, q2⟩=>?_)
 subst ep
 obtain ⟨rs, c, rk⟩:=carries_of (P:=X.prog) (w:=X.w) rel
 obtain ⟨z, hd, vs0, r0, dd⟩:=dk_of I2.hok e
 cases r0
 refine ⟨rs, c, dd, fun h' dd' hs=>⟨.ref s.heap.objs.size, _, ?_, rfl, q2⟩⟩
 have hz : (mergeK [] kvs).length<=sizeLine:=by
  have h1:=length_mergeK kvs []
  rw [List.length_nil] at h1
  rw [sizeLine_eq]; omega
 have he : ∃ q, h'.get? s.heap.objs.size = some q:=let ⟨q, _, _, hq, _⟩:=dd'; ⟨q, hq⟩
 exact d_write I2 (by rw [e]; exact True.intro) hs he (dk_new hz hd (rk.merge .nil) dd')
structure M1 (X : Cx) (o : Expr) (m : Str) (apos : Pos) (e : Expr) (cpos : Pos) : Prop where
 base : attributeBase o m X.env (eval o X.env) = eval o X.env
 few : ((backTo cpos (starEach [e] X.env)).all (fun x=>!x.1) && (backToKw cpos (keywordEach [] X.env)).all (fun x=>x.1.isSome)
  && decide (([e] : List Expr).length + ([] : List Keyword).length + (if ([] : List Keyword).isEmpty then 0 else 1) < 30)) = true
 line : (apos.endLine == cpos.line) = true
 trees : backTo cpos (starEach [e] X.env) = [(false, eval e X.env)]
structure M2 (X : Cx) (o : Expr) (m : Str) (apos : Pos) (e f : Expr) (cpos : Pos) : Prop where
 base : attributeBase o m X.env (eval o X.env) = eval o X.env
 few : ((backTo cpos (starEach [e, f] X.env)).all (fun x=>!x.1) && (backToKw cpos (keywordEach [] X.env)).all (fun x=>x.1.isSome)
  && decide (([e, f] : List Expr).length + ([] : List Keyword).length + (if ([] : List Keyword).isEmpty then 0 else 1) < 30)) = true
 line : (apos.endLine == cpos.line) = true
 trees : backTo cpos (starEach [e, f] X.env) = [(false, eval e X.env), (false, eval f X.env)]
section
variable {X : Cx} {pins : List (Addr × Obj)} {σ : St} {H : Hp} {s : Shared} {a : Addr} {y d : V} {u r : Value} {o : Option V} {A : Around} {E : Value->Shared->Prop}
end
section
variable {X : Cx} {o e f : Expr} {apos cpos : Pos} {td ty tx : TE}
end
section
variable {X : Cx} {pins : List (Addr × Obj)} {σ : St} {H : Hp} {s : Shared} {a : Addr} {kvs : List (Key × V)} {A : Around} {E : Value->Shared->Prop}
end
section
variable {X : Cx} {pins : List (Addr × Obj)} {σ : St} {H : Hp} {s : Shared} {a : Addr} {y : V} {u : Value} {A : Around} {E : Value->Shared->Prop}
end
section
variable {prog : Program} {w : World} {A : Around} {E : Value->Shared->Prop} {s : Shared}
theorem collect_src {T : String} {r d : Addr} {n : Nat} {P : Nat->Value->Prop} {OK : Heap->Prop} {R : List Value->Shared->Prop} (K : PySem.W.KdlSrc prog w T r d n P OK) (hh : A.handled = none) (hok : OK s.heap) (hn : n<=sizeLine)
  (h : ∀ (h' : Heap) (tk : Nat) (acc : Array Value), s.heap.objs.size < h'.objs.size->(∀ b o, s.heap.get? b = some o->h'.get? b = some o)->ItemsOf P acc n->R acc.toList { s with heap:=h', toks:=tk }) :
  wpAny (model prog w) A (collect (.ref r)) R E s:=by
 have hlt:=K.there _ hok
 unfold collect
 refine wpAny_bind (wpAny_runValue (codeAny_builtin entry_proto_collect' ?_))
 rw [Around.under_plainId PySem.F.plain_proto_collect _]
 show wpAny _ A.in1 (newList [] >>= fun l=>again (.builtin "list.__iadd__" ⟨[l, .ref r], []⟩)) _ _ s
 refine wpAny_bind (wpAny_newObj_type ?_)
 refine wpAny_pure ⟨plainId_quiet PySem.F.plain_list_iadd _, codeAny_builtin entry_list_iadd' ?_⟩
 rw [Around.under_plainId PySem.F.plain_list_iadd _]
 have hS₁ : (s.heap.push { cls:=.type "list", data:=.seq ([] : List Value).toArray }).get? s.heap.objs.size = some { cls:=.type "list", data:=.seq #[] }:=Heap.get?_push_size _ rfl
 show wpAny _ A.in1 (Builtin.List.listExtendWith (.ref s.heap.objs.size) (.ref r) (.ref s.heap.objs.size)) _ _ _
 have key:=PySem.W.kdl_extend (A:=A) (s:={ s with heap:=s.heap.push { cls:=.type "list", data:=.seq ([] : List Value).toArray } }) K
  (R:=fun (q : Result) (s' : Shared)=>∃ (h' : Heap) (tk : Nat) (acc' : Array Value) (c' : Nat), q = .ok (.ret (.ref s.heap.objs.size))/\s' = { s with heap:=h', toks:=tk } /\
   (∀ b o, s.heap.get? b = some o->h'.get? b = some o)/\h'.get? s.heap.objs.size = some { cls:=.type "list", dict:=none, data:=.seq acc' c', slots:=#[] }/\ItemsOf P acc' n)
  hh (K.keep _ _ hok fun b _ o e=>Heap.get?_push_of_some _ e) s.heap.objs.size (Nat.ne_of_gt hlt.1) (Nat.ne_of_gt hlt.2) (.ref s.heap.objs.size) 0 hS₁
  (fun h' tk acc' c' hk hS' hacc=>⟨h', tk, acc', c', rfl, rfl, fun b o e=>hk b o (Nat.ne_of_lt (Heap.lt_size e)) (Heap.get?_push_of_some _ e), hS', hacc⟩) hn
 refine wpAny_mono key (fun fin s' x=>?_) fun e s' x=>?_
 ·cases fin with
  | done f =>
   obtain ⟨h', tk, acc', c', e, rfl, hk, hS', hacc⟩:=x
   cases e
   show wpAny _ A (load s.heap.objs.size >>= _) _ _ _
   refine wpAny_bind (wpAny_load hS' ?_)
   exact wpAny_pure (h h' tk acc' (Heap.lt_size hS') hk hacc)
  | again c₁ =>
   refine ⟨x.1, codeAny_mono x.2 fun q s₂ y=>?_⟩
   obtain ⟨h', tk, acc', c', rfl, rfl, hk, hS', hacc⟩:=y
   show wpAny _ A (load s.heap.objs.size >>= _) _ _ _
   refine wpAny_bind (wpAny_load hS' ?_)
   exact wpAny_pure (h h' tk acc' (Heap.lt_size hS') hk hacc)
 ·obtain ⟨_, _, _, _, e', _⟩:=x
  cases e'
theorem sorted_src {T : String} {r d : Addr} {n : Nat} {P : Nat->Value->Prop} {OK : Heap->Prop} {Q : Value->Shared->Prop} {ns : List Int} (K : PySem.W.KdlSrc prog w T r d n P OK) (hh : A.handled = none) (hok : OK s.heap) (hn : n < 64)
  (hP : ∀ us : List Value, us.length = n->(∀ j v, us[j]? = some v->P j v)->IntsAre us ns)
  (h : ∀ (h' : Heap) (tk : Nat) (D : Addr) (e : Nat) (out : Array Value) (ns' : List Int), s.heap.objs.size<=D->(∀ b o, s.heap.get? b = some o->h'.get? b = some o)->h'.get? D = some { cls:=.type "list", data:=.seq out e }->IntsAre out.toList ns'->ns'.Perm ns->ns'.Pairwise (·<=·)->Q (.ref D) { s with heap:=h', toks:=tk }) :
  wpAny (model prog w) A (call (.builtin "sorted") [.ref r]) Q E s:=by
 have h24:=sizeLine_eq
 refine Calls.call_function_entry kind_sorted plain_sorted entry_sorted (args_sorted1 _) ?_
 unfold Builtin.«sorted»
 refine wpAny_bind (m:=checkCount "sorted" 1 1 _) (wpAny_pure ?_)
 refine wpAny_bind (collect_src (A:=A.in1) K hh hok (by omega) fun h1 tk acc hsz hk hacc=>?_)
 have hlen : acc.toList.length = n:=by rw [Array.length_toList]; exact hacc.1
 have hI : IntsAre acc.toList ns:=hP acc.toList hlen fun j v e=>hacc.2 j v (by rw [← Array.getElem?_toList]; exact e)
 have hz : s.heap.objs.size<=h1.objs.size:=Nat.le_of_lt hsz
 refine wpAny_bind (wpAny_newList ?_ (by omega))
 have hoL : (h1.push (seqObj "list" acc.toList.toArray 0)).get? h1.objs.size = some (seqObj "list" acc.toList.toArray 0):=Heap.get?_push_size _ rfl
 refine wpAny_bind (wpAny_holding (wpAny_call_entry slot_list_sort ⟨_, hoL, rfl⟩ entry_list_sort (list_sort_tree hoL hI (by omega) fun out ns' a1 a2 a3=>⟨_, rfl, ?_⟩) (args_list_sort _)))
 obtain ⟨e, he⟩:=sortedHeap_at (out:=out) hoL
 refine wpAny_pure ⟨_, rfl, h _ tk h1.objs.size e out ns' hz (fun b o q=>?_) he a1 a2 a3⟩
 have q1:=hk b o q
 have hlt : b < h1.objs.size:=Heap.lt_size q1
 rw [sortedHeap_old (Nat.ne_of_lt hlt) (by rw [size_push']; exact Nat.lt_succ_of_lt hlt)]
 exact Heap.get?_push_of_some _ q1
end
section
variable {X : Cx}
theorem keys_ints {P : Program} {w : World} {vs : List (Key × Value)} {ks : List Int} (hk : vs.map (·.1) = ks.map Sum.inl) : ∀ us : List Value, us.length = vs.length->(∀ (j : Nat) (v : Value), us[j]? = some v->∃ k x, vs[j]? = some (k, x)/\(mixKind P w).is k v = true)->IntsAre us ks:=by
 intro us
 induction us generalizing vs ks with
 | nil =>
  intro hl _
  have e : vs = []:=List.eq_nil_of_length_eq_zero (by simpa using hl.symm)
  subst e
  cases ks with
  | nil=>exact .nil
  | cons k ks=>simp at hk
 | cons u us ih =>
  intro hl h
  cases vs with
  | nil=>simp at hl
  | cons v vs =>
   cases ks with
   | nil=>simp at hk
   | cons k ks =>
    rw [List.map_cons, List.map_cons] at hk
    injection hk with hk1 hk2
    obtain ⟨k', x, e, is⟩:=h 0 u (by simp)
    simp at e
    subst e
    simp only at hk1
    subst hk1
    have is' : keyIs (Sum.inl k) u = true:=is
    rcases keyIs_shape is' with ⟨i, t, e1, e2⟩ | ⟨y, t, e1, e2⟩
    ·injection e1 with e1
     subst e1 e2
     exact .cons _ t (ih hk2 (by simpa using hl) fun j v hj=>by simpa using h (j + 1) v (by simpa using hj))
    ·cases e1
theorem call_sortedD (hc : X.calm = true) : CallR X (.builtin "sorted") (fun xs H Q=>∃ (d : Addr) (kvs : List (Key × V)) (ks : List Int), xs = [.ref d]/\H d = some (.dK kvs)/\kvs.map (·.1) = ks.map Sum.inl/\ks.length < 64 /\
  ∀ (l : Addr) (out : List Int), H l = none->out.Perm ks->out.Pairwise (·<=·)->Q (.ref l) (upd H l (.lst (out.map V.int)))):=by
 intro pins s σ H xs us Q I r h
 obtain ⟨d, kvs, ks, rfl, hd, hks, h64, q⟩:=h
 obtain ⟨u, rfl, rx⟩:=vals1 r
 cases rx
 obtain ⟨hz, lo, vs, kv, o, es, ep, ho, hx, hda, hk1, hk2, hk3⟩:=dk_of I.hok hd
 have hm : s.heap.DictAt (mixKind X.prog X.w) d vs ep:=⟨o, es, ho, hx, hda, hk1, hk2, hk3⟩
 have hkeys : vs.map (·.1) = ks.map Sum.inl:=by rw [← KV.keys kv]; exact hks
 have hlv : vs.length = ks.length:=by have:=congrArg List.length hkeys; simpa using this
 refine sorted_src (ns:=ks) (PySem.W.kdl_dict (ep:=ep) lo) (I.ok.hd hc) hm (by omega) (fun us hl h=>keys_ints hkeys us hl h) fun h' tk D e out ns' hD hk he a1 a2 a3=>?_
 have hv:=vals_ints a1
 have hpl:=a2.length_eq
 have h24:=sizeLine_eq
 refine ⟨.ref D, upd H D (.lst (ns'.map V.int)), I.laid (fun b o eb=>hk b o eb) hD ⟨?_, out.toList, e, hv, by simpa using he⟩, rfl, q _ _ (I.hok.fresh hD) a2 a3⟩
 rw [List.length_map]
 omega
end
section
variable {X : Cx}
noncomputable def iD (l : List Int) : PyData:=.list (l.map PyData.int)
theorem lay_iD : ∀ l : List Int, PyData.canLayAll0 (l.map PyData.int) = true
 | []=>rfl
 | t :: ts=>by
  show (PyData.canLay0 (PyData.int t) && PyData.canLayAll0 (ts.map PyData.int)) = true
  rw [lay_iD ts]
  rfl
theorem depth_iD : ∀ l : List Int, PyData.depthAll (l.map PyData.int) = 0
 | []=>rfl
 | t :: ts=>by
  show max (PyData.depth (PyData.int t)) (PyData.depthAll (ts.map PyData.int)) = 0
  rw [depth_iD ts]
  rfl
theorem eqv_iD : ∀ ts us : List Int, PyData.eqvAll (ts.map PyData.int) (us.map PyData.int) = decide (ts = us)
 | [], []=>rfl
 | [], _ :: _=>rfl
 | _ :: _, []=>rfl
 | t :: ts, u :: us=>by
  show ((t == u) && PyData.eqvAll (ts.map PyData.int) (us.map PyData.int)) = _
  rw [eqv_iD ts us, Bool.eq_iff_iff]
  simp
theorem lay_lD : ∀ ls : List (List Int), PyData.canLayAll0 (ls.map iD) = true
 | []=>rfl
 | t :: ts=>by
  show (PyData.canLayAll0 (t.map PyData.int) && PyData.canLayAll0 (ts.map iD)) = true
  rw [lay_lD ts, lay_iD]
  rfl
theorem depth_lD : ∀ ls : List (List Int), PyData.depthAll (ls.map iD)<=1
 | []=>Nat.zero_le _
 | t :: ts=>by
  show max (PyData.depthAll (t.map PyData.int) + 1) (PyData.depthAll (ts.map iD))<=1
  have h1:=depth_lD ts
  rw [depth_iD]
  omega
theorem eqv_lD : ∀ ts us : List (List Int), PyData.eqvAll (ts.map iD) (us.map iD) = decide (ts = us)
 | [], []=>rfl
 | [], _ :: _=>rfl
 | _ :: _, []=>rfl
 | t :: ts, u :: us=>by
  show (PyData.eqvAll (t.map PyData.int) (u.map PyData.int) && PyData.eqvAll (ts.map iD) (us.map iD)) = _
  rw [eqv_lD ts us, eqv_iD, Bool.eq_iff_iff]
  simp
inductive DatL (K : PySem.W.Frag) (H : Hp) : V->PyData->Prop
 | flt {a : Addr} {l : List Int} : SqL K H a (l.map V.int)->DatL K H (.ref a) (iD l)
 | lists {a : Addr} {as : List Addr} {ls : List (List Int)} : SqL K H a (as.map V.ref)->Paired (fun (a : Addr) (l : List Int)=>SqL K H a (l.map V.int)) as ls->DatL K H (.ref a) (.list (ls.map iD))
theorem eqv_ints (ts us : List Int) : PyData.eqv (iD ts) (iD us) = decide (ts = us):=eqv_iD ts us
theorem eqv_lists (ts us : List (List Int)) : PyData.eqv (.list (ts.map iD)) (.list (us.map iD)) = decide (ts = us):=eqv_lD ts us
end
noncomputable def CX1 (P : Program) (w : World) : CXT:=fun outer H s E e s'=>∃ (a : Addr) (cls a0 : Value) (H1 : Hp) (hb : Heap), e = .ref a/\s'.os = s.os/\AllBare s'.gens/\Un (frs outer) [] H H1 s.heap s'.heap/\HOk P w H1 hb/\hb.FlyingW outer a cls a0 s'.heap /\
 (∀ b o, s.heap.get? b = some o->H b = none->b∉frs outer->hb.get? b = some o)/\(∀ b o, s.heap.get? b = some o->b∉frs outer->∃ o', hb.get? b = some o')/\E cls none H1
structure Lets (X : Cx) (E : XK) : Prop where
 xe : ∀ e s', wpAny (model X.prog X.w) X.A (leaving X.env e) (fun _ s''=>CX1 X.prog X.w X.outer X.H₀ X.s₀ E e s'') (fun e' s''=>CX1 X.prog X.w X.outer X.H₀ X.s₀ E e' s'') s'->X.xe e s'
 stk : X.stack = X.env :: X.outer
 fr : X.env.frame = some X.env.locals
 ex : X.ex = []
section
variable {X : Cx} {pins : List (Addr × Obj)} {σ : St} {H H1 : Hp} {s : Shared} {E : XK}
end
structure ExcCls (K : PySem.W.Frag) (C : Addr) (newId : String) (bmB : List Value) : Prop where
 ex : ∃ (nm q : Str) (N : Addr) (bs bm : List Value) (hdct : Bool) (sn : List Str) (sub : List Value) (ab : Bool) (col : Option Bool) (dd : Option Addr) (k0 k1 k2 k3 k5 : Option Value),
  K.lookup C = some (excClassObj nm q C N bs bm hdct sn sub ab col dd k0 k1 k2 k3 k5 newId)/\PySem.W.tailIn K bmB bm = true/\PySem.W.nsOkIn K N = true/\PySem.W.nsIn K N "__init__" = some none/\bm.contains (.type "BaseException") = true
section
variable {X : Cx} {E : XK} {x : Str} {C : Addr} {newId Bn initId : String} {bmB : List Value} {e : Expr} {es : List Expr} {t : TA} {np cpos pos : Pos}
end
section
variable {X : Cx} {pins : List (Addr × Obj)} {σ : St} {H : Hp} {s : Shared} {ev : Value}
end
section
variable {X : Cx} {k : Nat} {f CF : Addr} {fd : FuncData} {ps : List Str} {sp : Sp} {E : XK} {x hx n : Str} {p np cpos epos hpos pos : Pos} {e : Expr} {es : List Expr} {t : TA} {b₀ : Stmt} {suite : List Stmt} {ts : TS} {j : Nat}
end
end L2
namespace L2
open PySem PySem.W PySem.Spec PyProof.Rows
structure ExcK (K : PySem.W.Frag) (C : Addr) : Prop where
 ex : ∃ (nm q : Str) (N AF : Addr) (bs bmB : List Value) (hdct : Bool) (sn : List Str) (sub : List Value) (ab : Bool) (col : Option Bool) (dd ddF : Option Addr) (k0 k1 k2 k3 k5 : Option Value) (newId B : String) (c0 : Value) (cd : ClassData) (slF : Array (Option Value)),
  K.lookup C = some (excClassObj nm q C N bs (.ref AF :: bmB) hdct sn sub ab col dd k0 k1 k2 k3 k5 newId)/\K.lookup AF = some ⟨c0, ddF, .cls cd, slF⟩/\nsOkIn K cd.ns = true/\(∀ n∈quietNames, nsIn K cd.ns n = some none)/\ExcAttrBase B bmB
 ga : findIn K (.ref C) "__getattribute__" = some (some (.builtin "BaseException.__getattribute__"))
 hook : findIn K (.ref C) "__getattr__" = some none
 cls : findIn K (.ref C) "__class__" = some (some (.builtin "object.__class__"))
 mro : mroIn K C (.type "object") = some true
section
variable {prog : Program} {w : World} {K : PySem.W.Frag} {a C : Addr} {A : Around} {E : Value->Shared->Prop} {s : Shared}
end
section
variable {X : Cx}
noncomputable def rCatS : R2:=fun x y H Q=>∃ a b xs ys, x = .ref a/\y = .ref b/\H a = some (.tup xs)/\H b = some (.tup ys)/\xs.length + ys.length<=sizeLine/\∀ c H', (∀ d u, H d = some u->H' d = some u)->H' c = some (.tup (xs ++ ys))->Q (.ref c) H'
theorem op_catS : OpR X (binaryOp .Add) rCatS:=by
 intro pins s σ H x y v u Q I rx ry h
 obtain ⟨a, b, xs, ys, rfl, rfl, ha, hb, hz, q⟩:=h
 cases rx
 cases ry
 obtain ⟨its, r1, p1, _⟩:=I.tuple (SqT.of ha)
 obtain ⟨its2, r2, p2, _⟩:=I.tuple (SqT.of hb)
 by_cases hx : xs = []
 ·subst hx
  cases r1
  obtain ⟨m, F⟩:=I.fr
  refine add_tuples (vs:=[]) F news_all p1 p2 (fun _=>⟨.ref b, H, I, rfl, q b H (fun _ _ z=>z) (by simpa using hb)⟩) (fun z=>absurd rfl z) (fun z=>absurd rfl z) (by rw [← r2.length]; simpa using hz)
 ·refine op_catT pins s σ H (.ref a) (.ref b) (.ref a) (.ref b) Q I rfl rfl ⟨a, b, xs, ys, rfl, rfl, SqT.of ha, SqT.of hb, hx, hz, fun e=>?_, fun _ p hp=>?_⟩
  ·subst e
   exact q a H (fun _ _ z=>z) (by rw [List.append_nil]; exact ha)
  ·exact q p _ (fun d u z=>by rw [upd_ne (ne_of_none z hp)]; exact z) upd_same
end
section
variable {K : PySem.W.Frag} {C c : Addr} {dd : Option Addr} {cd : ClassData} {sl : Array (Option Value)}
end
end L2
namespace Dl
open PySem L2 PyProof.Rows
noncomputable abbrev D:=PyData
noncomputable def kD : Key->D
 | .inl i=>.int i
 | .inr x=>.str x
mutual
inductive Rp (ok : Addr->Prop) (H : Hp) : V->D->Prop
 | non : Rp ok H .non .none
 | bl (b : Bool) : Rp ok H (.bl b) (.bool b)
 | int (i : Int) : Rp ok H (.int i) (.int i)
 | str (x : Str) : Rp ok H (.str x) (.str x)
 | lst {a : Addr} {vs : List V} {ds : List D} (o : ok a) (h : H a = some (.lst vs)) (r : Rps ok H vs ds) : Rp ok H (.ref a) (.list ds)
 | tup {a : Addr} {vs : List V} {ds : List D} (h : H a = some (.tup vs)) (r : Rps ok H vs ds) : Rp ok H (.ref a) (.tuple ds)
 | dct {a : Addr} {kvs : List (Key × V)} {ds : List (D × D)} (o : ok a) (h : H a = some (.dK kvs)) (r : Rkv ok H kvs ds) : Rp ok H (.ref a) (.dict ds)
inductive Rps (ok : Addr->Prop) (H : Hp) : List V->List D->Prop
 | nil : Rps ok H [] []
 | cons {v : V} {d : D} {vs : List V} {ds : List D} (h : Rp ok H v d) (t : Rps ok H vs ds) : Rps ok H (v :: vs) (d :: ds)
inductive Rkv (ok : Addr->Prop) (H : Hp) : List (Key × V)->List (D × D)->Prop
 | nil : Rkv ok H [] []
 | cons {k : Key} {v : V} {d : D} {vs : List (Key × V)} {ds : List (D × D)} (h : Rp ok H v d) (t : Rkv ok H vs ds) : Rkv ok H ((k, v) :: vs) ((kD k, d) :: ds)
end
section
variable {ok ok' : Addr->Prop} {H H' : Hp}
mutual
theorem Rp.mono (f : ∀ a, ok a->ok' a) (g : ∀ a o, ok a->H a = some o->H' a = some o) (t : ∀ a xs, H a = some (.tup xs)->H' a = some (.tup xs)) : ∀ {v : V} {d : D}, Rp ok H v d->Rp ok' H' v d
 | _, _, .non=>.non
 | _, _, .bl b=>.bl b
 | _, _, .int i=>.int i
 | _, _, .str x=>.str x
 | _, _, .lst o h r=>.lst (f _ o) (g _ _ o h) (Rps.mono f g t r)
 | _, _, .tup h r=>.tup (t _ _ h) (Rps.mono f g t r)
 | _, _, .dct o h r=>.dct (f _ o) (g _ _ o h) (Rkv.mono f g t r)
theorem Rps.mono (f : ∀ a, ok a->ok' a) (g : ∀ a o, ok a->H a = some o->H' a = some o) (t : ∀ a xs, H a = some (.tup xs)->H' a = some (.tup xs)) : ∀ {v : List V} {d : List D}, Rps ok H v d->Rps ok' H' v d
 | _, _, .nil=>.nil
 | _, _, .cons h r=>.cons (Rp.mono f g t h) (Rps.mono f g t r)
theorem Rkv.mono (f : ∀ a, ok a->ok' a) (g : ∀ a o, ok a->H a = some o->H' a = some o) (t : ∀ a xs, H a = some (.tup xs)->H' a = some (.tup xs)) : ∀ {v : List (Key × V)} {d : List (D × D)}, Rkv ok H v d->Rkv ok' H' v d
 | _, _, .nil=>.nil
 | _, _, .cons h r=>.cons (Rp.mono f g t h) (Rkv.mono f g t r)
end
theorem Rps.length : ∀ {vs : List V} {ds : List D}, Rps ok H vs ds->vs.length = ds.length
 | _, _, .nil=>rfl
 | _, _, .cons _ t=>by rw [List.length_cons, List.length_cons, Rps.length t]
theorem Rps.getD : ∀ {vs : List V} {ds : List D} {i : Nat} {d : D}, Rps ok H vs ds->ds[i]? = some d->∃ v, vs[i]? = some v/\Rp ok H v d
 | _, _, i, v, .nil, e=>by simp at e
 | _, _, 0, v, .cons h t, e=>by simp at e; subst e; exact ⟨_, rfl, h⟩
 | _, _, i + 1, v, .cons h t, e=>by
  obtain ⟨d, a, b⟩:=Rps.getD (i:=i) (d:=v) t (by simpa using e)
  exact ⟨d, by simpa using a, b⟩
theorem Rps.app : ∀ {vs ws : List V} {ds es : List D}, Rps ok H vs ds->Rps ok H ws es->Rps ok H (vs ++ ws) (ds ++ es)
 | _, _, _, _, .nil, s=>s
 | _, _, _, _, .cons h t, s=>.cons h (Rps.app t s)
theorem Rps.snoc {vs : List V} {ds : List D} {v : V} {d : D} (h : Rps ok H vs ds) (r : Rp ok H v d) : Rps ok H (vs ++ [v]) (ds ++ [d]):=h.app (.cons r .nil)
theorem Rps.take : ∀ {vs : List V} {ds : List D} (n : Nat), Rps ok H vs ds->Rps ok H (vs.take n) (ds.take n)
 | _, _, 0, _=>by simp; exact .nil
 | _, _, _ + 1, .nil=>by simp; exact .nil
 | _, _, n + 1, .cons r t=>.cons r (Rps.take n t)
theorem Rps.drop : ∀ {vs : List V} {ds : List D} (n : Nat), Rps ok H vs ds->Rps ok H (vs.drop n) (ds.drop n)
 | _, _, 0, r=>r
 | _, _, _ + 1, .nil=>by simp; exact .nil
 | _, _, n + 1, .cons _ t=>Rps.drop n t
theorem Rps.ofMap {α : Type} {f : α->V} {g : α->D} (h : ∀ x, Rp ok H (f x) (g x)) : ∀ l : List α, Rps ok H (l.map f) (l.map g)
 | []=>.nil
 | x :: l=>.cons (h x) (Rps.ofMap h l)
theorem Rp.int' {v : V} {i : Int} (r : Rp ok H v (.int i)) : v = .int i:=by cases r; rfl
theorem Rp.bl' {v : V} {i : Bool} (r : Rp ok H v (.bool i)) : v = .bl i:=by cases r; rfl
theorem Rp.str' {v : V} {i : Str} (r : Rp ok H v (.str i)) : v = .str i:=by cases r; rfl
theorem Rp.lst' {v : V} {ds : List D} (r : Rp ok H v (.list ds)) : ∃ a vs, v = .ref a/\ok a/\H a = some (.lst vs)/\Rps ok H vs ds:=by
 cases r with
 | lst o h r=>exact ⟨_, _, rfl, o, h, r⟩
theorem Rp.tup' {v : V} {ds : List D} (r : Rp ok H v (.tuple ds)) : ∃ a vs, v = .ref a/\H a = some (.tup vs)/\Rps ok H vs ds:=by
 cases r with
 | tup h r=>exact ⟨_, _, rfl, h, r⟩
theorem Rps.ints : ∀ {vs : List V} {ns : List Int}, Rps ok H vs (ns.map PyData.int)->vs = ns.map V.int
 | [], [], _=>rfl
 | _, n :: ns, .cons h t=>by
  have e:=h.int'
  subst e
  rw [Rps.ints t]
  rfl
theorem Rps.two {vs : List V} {d e : D} (r : Rps ok H vs [d, e]) : ∃ v w, vs = [v, w]/\Rp ok H v d/\Rp ok H w e:=by
 cases r with
 | cons h t =>
  cases t with
  | cons h2 t2 =>
   cases t2
   exact ⟨_, _, rfl, h, h2⟩
end
mutual
noncomputable def immD : D->Bool
 | .none=>true
 | .bool _=>true
 | .int _=>true
 | .str _=>true
 | .list _=>false
 | .tuple ds=>immDs ds
 | .dict _=>false
noncomputable def immDs : List D->Bool
 | []=>true
 | d :: ds=>immD d && immDs ds
end
section
variable {ok : Addr->Prop} {H : Hp}
mutual
theorem Rp.imm : ∀ {v : V} {d : D}, Rp ok H v d->immD d = true->Rp (fun _=>False) H v d
 | _, _, .non, _=>.non
 | _, _, .bl b, _=>.bl b
 | _, _, .int i, _=>.int i
 | _, _, .str x, _=>.str x
 | _, _, .tup h r, e=>.tup h (Rps.imm r e)
theorem Rps.imm : ∀ {v : List V} {d : List D}, Rps ok H v d->immDs d = true->Rps (fun _=>False) H v d
 | _, _, .nil, _=>.nil
 | _, _, .cons h r, e=>.cons (Rp.imm h (by simp only [immDs, Bool.and_eq_true] at e; exact e.1)) (Rps.imm r (by simp only [immDs, Bool.and_eq_true] at e; exact e.2))
end
end
structure Pn where
 fp : Addr->Prop
 PI : Hp->Prop
 pv : V
 mono : ∀ H H', PI H->(∀ b o, fp b->H b = some o->H' b = some o)->PI H'
 is : ∀ H b, PI H->fp b->∃ o, H b = some o/\∀ xs, o≠.tup xs
class Gr where
 G : Pn->Hp->Prop
instance (priority:=low) grT : Gr:=⟨fun _ _=>True⟩
noncomputable def noPen : Pn:=⟨fun _=>False, fun _=>True, .non, fun _ _ _ _=>trivial, fun _ _ _ h=>h.elim⟩
noncomputable def Kp (p : Pn) (H H' : Hp) : Prop:=∀ b o, H b = some o->¬ p.fp b->H' b = some o
theorem Kp.refl {p : Pn} {H : Hp} : Kp p H H:=fun _ _ h _=>h
theorem Kp.trans {p : Pn} {H H1 H2 : Hp} (a : Kp p H H1) (b : Kp p H1 H2) : Kp p H H2:=fun c o h n=>b c o (a c o h n) n
theorem Kp.of {p : Pn} {H H' : Hp} (s : Same H H') : Kp p H H':=fun b o h _=>s b o h
inductive Sl where
 | any
 | im (d : D)
 | sh (d : D)
 | sn (d : D)
 | dw (r : Nat) (d : D)
 | pen (C : Pn->Prop)
 | rw (r : Nat) (L : List (List D))
 | tw (r : Nat) (L : List (List D))
 | scr (v : V) (b : Bool)
 | sp (r : Nat) (b : Bool) (ds : List D)
inductive Kd where
 | imm | new | reg (r : Nat) | n0 | snw | shr | wk
 deriving DecidableEq
noncomputable def Kd.le : Kd->Kd->Bool
 | .imm, _=>true
 | .new, .new=>true
 | .new, .n0=>true
 | .new, .snw=>true
 | .new, .shr=>true
 | .new, .wk=>true
 | .reg r, .reg q=>r == q
 | .reg _, .n0=>true
 | .reg _, .wk=>true
 | .snw, .snw=>true
 | .snw, .n0=>true
 | .snw, .shr=>true
 | .snw, .wk=>true
 | .n0, .n0=>true
 | .n0, .wk=>true
 | .shr, .shr=>true
 | .shr, .wk=>true
 | .wk, .wk=>true
 | _, _=>false
noncomputable def Kd.join (a b : Kd) : Kd:=if a.le b then b else if b.le a then a else if a.le .n0 && b.le .n0 then .n0 else if a.le .shr && b.le .shr then .shr else .wk
noncomputable def norm (k : Kd) (d : D) : Kd:=match k with
 | .imm=>.imm
 | k=>if immD d then .imm else k
theorem norm_pos {k : Kd} {d : D} (h : immD d = true) : norm k d = .imm:=by
 cases k <;> first
  | rfl
  | exact if_pos h
theorem norm_neg {k : Kd} {d : D} (h : ¬ immD d = true) : norm k d = k:=by
 cases k <;> first
  | rfl
  | exact if_neg h
noncomputable def okK (p : Pn) (H0 : Hp) (own : Addr->Option Nat) (Hb : Hp) : Kd->Addr->Prop
 | .imm=>fun _=>False
 | .new=>fun a=>Hb a = none
 | .reg r=>fun a=>own a = some r
 | .n0=>fun a=>H0 a = none/\¬ p.fp a
 | .snw=>fun a=>H0 a = none/\¬ p.fp a/\own a = none
 | .shr=>fun a=>¬ p.fp a/\own a = none
 | .wk=>fun a=>¬ p.fp a
structure At (p : Pn) (H0 : Hp) (own : Addr->Option Nat) (Hb H : Hp) : Prop where
 k0 : ∀ b o, H0 b = some o->¬ p.fp b->Hb b = some o
 kp : Kp p Hb H
 penb : p.PI Hb
 pen : p.PI H
 ow : ∀ a r, own a = some r->H0 a = none/\¬ p.fp a/\Hb a≠none
section
variable {p : Pn} {H0 Hb H H' : Hp} {own : Addr->Option Nat}
theorem At.nfp (A : At p H0 own Hb H) {a : Addr} (h : H a = none) : ¬ p.fp a:=fun z=>by
 obtain ⟨o, e, _⟩:=p.is H a A.pen z
 rw [h] at e
 cases e
theorem At.free (A : At p H0 own Hb H) {a : Addr} (h : H a = none) : Hb a = none:=by
 have hn:=A.nfp h
 cases e : Hb a with
 | none=>rfl
 | some o=>rw [A.kp a o e hn] at h; cases h
theorem At.nfb (A : At p H0 own Hb H) {a : Addr} (h : Hb a = none) : ¬ p.fp a:=fun z=>by
 obtain ⟨o, e, _⟩:=p.is Hb a A.penb z
 rw [h] at e
 cases e
theorem At.own0 (A : At p H0 own Hb H) {a : Addr} (h : Hb a = none) : own a = none:=by
 cases e : own a with
 | none=>rfl
 | some r=>exact absurd h (A.ow a r e).2.2
theorem At.h0 (A : At p H0 own Hb H) {a : Addr} (h : Hb a = none) : H0 a = none:=by
 cases e : H0 a with
 | none=>rfl
 | some o=>rw [A.k0 a o e (A.nfb h)] at h; cases h
theorem okK_le (A : At p H0 own Hb H) {j k : Kd} (h : j.le k = true) {a : Addr} (o : okK p H0 own Hb j a) : okK p H0 own Hb k a:=by
 cases j with
 | imm=>exact False.elim o
 | new =>
  cases k with
  | imm=>cases h
  | new=>exact o
  | reg r=>cases h
  | n0=>exact ⟨A.h0 o, A.nfb o⟩
  | snw=>exact ⟨A.h0 o, A.nfb o, A.own0 o⟩
  | shr=>exact ⟨A.nfb o, A.own0 o⟩
  | wk=>exact A.nfb o
 | reg r =>
  cases k with
  | reg q =>
   have e : r = q:=by simpa [Kd.le] using h
   subst e
   exact o
  | n0=>exact ⟨(A.ow a r o).1, (A.ow a r o).2.1⟩
  | wk=>exact (A.ow a r o).2.1
  | _=>cases h
 | n0 =>
  cases k with
  | n0=>exact o
  | wk=>exact o.2
  | _=>cases h
 | snw =>
  cases k with
  | snw=>exact o
  | n0=>exact ⟨o.1, o.2.1⟩
  | shr=>exact o.2
  | wk=>exact o.2.1
  | _=>cases h
 | shr =>
  cases k with
  | shr=>exact o
  | wk=>exact o.1
  | _=>cases h
 | wk =>
  cases k with
  | wk=>exact o
  | _=>cases h
theorem okK_nfp (A : At p H0 own Hb H) {k : Kd} {a : Addr} (o : okK p H0 own Hb k a) : ¬ p.fp a:=by
 have : k.le .wk = true:=by cases k <;> rfl
 exact okK_le A this o
theorem rp_le (A : At p H0 own Hb H) {j k : Kd} (h : j.le k = true) {v : V} {d : D} {H2 : Hp} (r : Rp (okK p H0 own Hb j) H2 v d) : Rp (okK p H0 own Hb k) H2 v d :=
 r.mono (fun a o=>okK_le A h o) (fun _ _ _ e=>e) fun _ _ e=>e
theorem le_join (a b : Kd) : a.le (a.join b) = true/\b.le (a.join b) = true:=by
 unfold Kd.join
 by_cases h : a.le b = true
 ·rw [if_pos h]; exact ⟨h, by cases b <;> simp [Kd.le]⟩
 ·rw [if_neg h]
  by_cases h2 : b.le a = true
  ·rw [if_pos h2]; exact ⟨by cases a <;> simp [Kd.le], h2⟩
  ·rw [if_neg h2]
   by_cases h3 : (a.le .n0 && b.le .n0) = true
   ·rw [if_pos h3]; exact Bool.and_eq_true _ _ ▸ h3
   ·rw [if_neg h3]
    by_cases h4 : (a.le .shr && b.le .shr) = true
    ·rw [if_pos h4]; exact Bool.and_eq_true _ _ ▸ h4
    ·rw [if_neg h4]; exact ⟨by cases a <;> rfl, by cases b <;> rfl⟩
theorem rp_norm {k : Kd} {v : V} {d : D} {H2 : Hp} (r : Rp (okK p H0 own Hb k) H2 v d) : Rp (okK p H0 own Hb (norm k d)) H2 v d:=by
 by_cases h : immD d = true
 ·rw [norm_pos h]; exact r.imm h
 ·rw [norm_neg h]; exact r
theorem kp_tup (A : At p H0 own Hb H) (k : Kp p H H') : ∀ a xs, H a = some (.tup xs)->H' a = some (.tup xs):=fun a xs h=>k a _ h fun z=>by
 obtain ⟨o, e, n⟩:=p.is H a A.pen z
 rw [h] at e
 exact n xs (Option.some.inj e).symm
theorem rp_go (A : At p H0 own Hb H) (k : Kp p H H') {j : Kd} {v : V} {d : D} (r : Rp (okK p H0 own Hb j) H v d) : Rp (okK p H0 own Hb j) H' v d :=
 r.mono (fun _ o=>o) (fun a o h e=>k a o e (okK_nfp A h)) (kp_tup A k)
theorem rps_go (A : At p H0 own Hb H) (k : Kp p H H') {j : Kd} {v : List V} {d : List D} (r : Rps (okK p H0 own Hb j) H v d) : Rps (okK p H0 own Hb j) H' v d :=
 r.mono (fun _ o=>o) (fun a o h e=>k a o e (okK_nfp A h)) (kp_tup A k)
theorem At.go (A : At p H0 own Hb H) (k : Kp p H H') (i : p.PI H') : At p H0 own Hb H':=⟨A.k0, A.kp.trans k, A.penb, i, A.ow⟩
theorem At.base {H1 : Hp} (A : At p H0 own Hb H) (B : At p H0 own H H1) : At p H0 own Hb H1:=⟨A.k0, A.kp.trans B.kp, A.penb, B.pen, A.ow⟩
theorem okK_base (A : At p H0 own Hb H) {k : Kd} {a : Addr} (o : okK p H0 own H k a) : okK p H0 own Hb k a:=by
 cases k <;> first
  | exact o
  | exact A.free o
theorem rp_base (A : At p H0 own Hb H) {k : Kd} {v : V} {d : D} {H2 : Hp} (r : Rp (okK p H0 own H k) H2 v d) : Rp (okK p H0 own Hb k) H2 v d :=
 r.mono (fun a o=>okK_base A o) (fun _ _ _ e=>e) fun _ _ e=>e
theorem At.new (A : At p H0 own Hb H) {a : Addr} (h : H a = none) (o : HO) : Kp p H (upd H a o)/\p.PI (upd H a o)/\okK p H0 own Hb .new a :=
 have s : Same H (upd H a o):=fun b u q=>by rw [upd_ne (ne_of_none q h)]; exact q
 ⟨Kp.of s, p.mono H _ A.pen fun b u _ q=>s b u q, A.free h⟩
end
structure RowsH (own : Addr->Option Nat) (r : Nat) (H : Hp) (st : Addr) (as : List Addr) (L : List (List D)) : Prop where
 top : H st = some (.lst (as.map V.ref))
 nd : (st :: as).Nodup
 ow : ∀ a∈st :: as, own a = some r
 len : as.length = L.length
 row : ∀ (j : Nat) (a : Addr) (ds : List D), as[j]? = some a->L[j]? = some ds->∃ vs, H a = some (.lst vs)/\Rps (fun _=>False) H vs ds
theorem RowsH.mono {own own' : Addr->Option Nat} {r : Nat} {H H' : Hp} {st : Addr} {as : List Addr} {L : List (List D)} (h : RowsH own r H st as L) (g : ∀ a o, own a = some r->H a = some o->own' a = some r/\H' a = some o) (t : ∀ a xs, H a = some (.tup xs)->H' a = some (.tup xs)) : RowsH own' r H' st as L:=by
 have live : ∀ a∈st :: as, ∃ o, H a = some o:=fun a ha=>by
  rcases List.mem_cons.mp ha with rfl | ha
  ·exact ⟨_, h.top⟩
  ·obtain ⟨j, hj⟩:=List.getElem?_of_mem ha
   have hl:=(List.getElem?_eq_some_iff.mp hj).1
   obtain ⟨vs, e, _⟩:=h.row j a _ hj (List.getElem?_eq_getElem (by rw [← h.len]; exact hl))
   exact ⟨_, e⟩
 refine ⟨(g st _ (h.ow st List.mem_cons_self) h.top).2, h.nd, fun a ha=>?_, h.len, fun j a ds e1 e2=>?_⟩
 ·obtain ⟨o, e⟩:=live a ha
  exact (g a o (h.ow a ha) e).1
 ·obtain ⟨vs, e, r'⟩:=h.row j a ds e1 e2
  exact ⟨vs, (g a _ (h.ow a (List.mem_cons_of_mem _ (List.mem_of_getElem? e1))) e).2, r'.mono (fun _ o=>o) (fun _ _ o=>o.elim) t⟩
theorem rps_rowsH {ok : Addr->Prop} {H : Hp} : ∀ (as : List Addr) (L : List (List D)), as.length = L.length->(∀ a∈as, ok a)->(∀ (j : Nat) (a : Addr) (ds : List D), as[j]? = some a->L[j]? = some ds->∃ vs, H a = some (.lst vs)/\Rps (fun _=>False) H vs ds)->Rps ok H (as.map V.ref) (L.map PyData.list)
 | [], [], _, _, _=>.nil
 | a :: as, d :: L, hl, h, r=>by
  obtain ⟨vs, e, rs⟩:=r 0 a d rfl rfl
  exact .cons (.lst (h a List.mem_cons_self) e (rs.mono (fun _ o=>o.elim) (fun _ _ o=>o.elim) fun _ _ e=>e)) (rps_rowsH as L (by simpa using hl) (fun b hb=>h b (List.mem_cons_of_mem _ hb)) fun j b ds e1 e2=>r (j + 1) b ds e1 e2)
 | [], _ :: _, hl, _, _=>by cases hl
 | _ :: _, [], hl, _, _=>by cases hl
theorem RowsH.rp {own : Addr->Option Nat} {r : Nat} {H : Hp} {st : Addr} {as : List Addr} {L : List (List D)} (h : RowsH own r H st as L) : Rp (fun a=>own a = some r) H (.ref st) (.list (L.map PyData.list)) :=
 .lst (h.ow st List.mem_cons_self) h.top (rps_rowsH as L h.len (fun a ha=>h.ow a (List.mem_cons_of_mem _ ha)) h.row)
structure RowsT (own : Addr->Option Nat) (r : Nat) (H : Hp) (st : Addr) (as : List Addr) (L : List (List D)) : Prop where
 top : H st = some (.tup (as.map V.ref))
 nd : as.Nodup
 ow : ∀ a∈as, own a = some r
 len : as.length = L.length
 row : ∀ (j : Nat) (a : Addr) (ds : List D), as[j]? = some a->L[j]? = some ds->∃ vs, H a = some (.lst vs)/\Rps (fun _=>False) H vs ds
theorem RowsT.mono {own own' : Addr->Option Nat} {r : Nat} {H H' : Hp} {st : Addr} {as : List Addr} {L : List (List D)} (h : RowsT own r H st as L) (g : ∀ a o, own a = some r->H a = some o->own' a = some r/\H' a = some o) (t : ∀ a xs, H a = some (.tup xs)->H' a = some (.tup xs)) : RowsT own' r H' st as L:=by
 refine ⟨t st _ h.top, h.nd, fun a ha=>?_, h.len, fun j a ds e1 e2=>?_⟩
 ·obtain ⟨j, hj⟩:=List.getElem?_of_mem ha
  have hl:=(List.getElem?_eq_some_iff.mp hj).1
  obtain ⟨vs, e, _⟩:=h.row j a _ hj (List.getElem?_eq_getElem (by rw [← h.len]; exact hl))
  exact (g a _ (h.ow a ha) e).1
 ·obtain ⟨vs, e, r'⟩:=h.row j a ds e1 e2
  exact ⟨vs, (g a _ (h.ow a (List.mem_of_getElem? e1)) e).2, r'.mono (fun _ o=>o) (fun _ _ o=>o.elim) t⟩
theorem RowsT.rp {own : Addr->Option Nat} {r : Nat} {H : Hp} {st : Addr} {as : List Addr} {L : List (List D)} (h : RowsT own r H st as L) : Rp (fun a=>own a = some r) H (.ref st) (.tuple (L.map PyData.list)) :=
 .tup h.top (rps_rowsH as L h.len h.ow h.row)
noncomputable def okS (p : Pn) (H0 : Hp) (own : Addr->Option Nat) (b : Bool) (a : Addr) : Prop:=(b = true->H0 a = none)/\¬ p.fp a/\own a = none
noncomputable def SlotOk (p : Pn) (H0 : Hp) (own : Addr->Option Nat) (σ : L2.St) (H : Hp) (i : Nat) : Sl->Prop
 | .any=>True
 | .im d=>∃ v, σ[i]? = some (some v)/\Rp (fun _=>False) H v d
 | .sh d=>∃ v, σ[i]? = some (some v)/\Rp (fun a=>¬ p.fp a/\own a = none) H v d
 | .sn d=>∃ v, σ[i]? = some (some v)/\Rp (fun a=>H0 a = none/\¬ p.fp a/\own a = none) H v d
 | .dw r d=>∃ v, σ[i]? = some (some v)/\Rp (fun a=>own a = some r) H v d
 | .pen C=>σ[i]? = some (some p.pv)/\C p
 | .rw r L=>∃ st as, σ[i]? = some (some (.ref st))/\RowsH own r H st as L
 | .tw r L=>∃ st as, σ[i]? = some (some (.ref st))/\RowsT own r H st as L
 | .scr v b=>σ[i]? = some (some v)/\(b = true->p = noPen)
 | .sp r b ds=>∃ l vs, σ[i]? = some (some (.ref l))/\own l = some r/\H l = some (.lst vs)/\Rps (okS p H0 own b) H vs ds
structure EnvD [Gr] (p : Pn) (H0 : Hp) (own : Addr->Option Nat) (σ : L2.St) (H : Hp) (ρ : List Sl) : Prop where
 k0 : ∀ b o, H0 b = some o->¬ p.fp b->H b = some o
 pen : p.PI H
 ow : ∀ a r, own a = some r->H0 a = none/\¬ p.fp a/\H a≠none
 slot : ∀ i s, ρ[i]? = some s->SlotOk p H0 own σ H i s
 len : ρ.length = σ.length
 gr : Gr.G p H0
variable [Gr]
section
variable {p : Pn} {H0 H H' : Hp} {own : Addr->Option Nat} {σ : L2.St} {ρ : List Sl}
theorem EnvD.at (E : EnvD p H0 own σ H ρ) : At p H0 own H H:=⟨E.k0, Kp.refl, E.pen, E.pen, E.ow⟩
theorem EnvD.go (E : EnvD p H0 own σ H ρ) (k : Kp p H H') (i : p.PI H') : EnvD p H0 own σ H' ρ:=by
 have A:=E.at
 have tp:=kp_tup A k
 refine ⟨fun b o e n=>k b o (E.k0 b o e n) n, i, fun a r e=>?_, fun j s e=>?_, E.len, E.gr⟩
 ·obtain ⟨h1, h2, h3⟩:=E.ow a r e
  refine ⟨h1, h2, fun z=>?_⟩
  cases q : H a with
  | none=>exact h3 q
  | some o=>rw [k a o q h2] at z; cases z
 ·have q:=E.slot j s e
  cases s with
  | any=>trivial
  | im d=>exact let ⟨v, a, b⟩:=q; ⟨v, a, b.mono (fun _ o=>o) (fun _ _ o=>o.elim) tp⟩
  | sh d=>exact let ⟨v, a, b⟩:=q; ⟨v, a, b.mono (fun _ o=>o) (fun c u o e=>k c u e o.1) tp⟩
  | sn d=>exact let ⟨v, a, b⟩:=q; ⟨v, a, b.mono (fun _ o=>o) (fun c u o e=>k c u e o.2.1) tp⟩
  | dw r d=>exact let ⟨v, a, b⟩:=q; ⟨v, a, b.mono (fun _ o=>o) (fun c u o e=>k c u e (E.ow c r o).2.1) tp⟩
  | pen C=>exact q
  | rw r L=>exact let ⟨st, as, a, b⟩:=q; ⟨st, as, a, b.mono (fun c u o e=>⟨o, k c u e (E.ow c r o).2.1⟩) tp⟩
  | tw r L=>exact let ⟨st, as, a, b⟩:=q; ⟨st, as, a, b.mono (fun c u o e=>⟨o, k c u e (E.ow c r o).2.1⟩) tp⟩
  | scr v b=>exact q
  | sp r b ds=>exact let ⟨l, vs, a, o, h, z⟩:=q; ⟨l, vs, a, o, k l _ h (E.ow l r o).2.1, z.mono (fun _ o=>o) (fun c u o e=>k c u e o.2.1) tp⟩
end
noncomputable abbrev DK:=Kd->D->Prop
noncomputable abbrev DE:=List Sl->DK->Prop
noncomputable def liftE (t : DE) : TE:=fun σ H Q=>∃ p H0 own ρ P, EnvD p H0 own σ H ρ/\t ρ P/\∀ k d v H', P k d->At p H0 own H H'->Rp (okK p H0 own H k) H' v d->Q v H'
noncomputable abbrev PD (X : Cx) (e : Expr) (t : DE) : Prop:=PE X e (liftE t)
noncomputable abbrev DA:=List Sl->(List (Kd × D)->Prop)->Prop
inductive RpK (p : Pn) (H0 : Hp) (own : Addr->Option Nat) (Hb H : Hp) : List V->List (Kd × D)->Prop
 | nil : RpK p H0 own Hb H [] []
 | cons {v : V} {kd : Kd × D} {vs : List V} {ks : List (Kd × D)} (h : Rp (okK p H0 own Hb kd.1) H v kd.2) (t : RpK p H0 own Hb H vs ks) : RpK p H0 own Hb H (v :: vs) (kd :: ks)
noncomputable def liftA (t : DA) : TA:=fun σ H Q=>∃ p H0 own ρ P, EnvD p H0 own σ H ρ/\t ρ P/\∀ ks vs H', P ks->At p H0 own H H'->RpK p H0 own H H' vs ks->Q vs H'
noncomputable abbrev PDA (X : Cx) (es : List Expr) (t : DA) : Prop:=PA X es (liftA t)
noncomputable abbrev DT:=List Sl->(Bool->Prop)->Prop
noncomputable def liftT (t : DT) : TT:=fun σ H Q=>∃ p H0 own ρ P, EnvD p H0 own σ H ρ/\t ρ P/\∀ b H', P b->At p H0 own H H'->Q b H'
noncomputable abbrev PDT (X : Cx) (e : Expr) (t : DT) : Prop:=PT X e (liftT t)
theorem PE.wk {X : Cx} {e : Expr} {t t' : TE} (h : PE X e t) (w : ∀ σ H Q, t' σ H Q->t σ H Q) : PE X e t':=fun pins s σ H Q I q=>h pins s σ H Q I (w σ H Q q)
theorem PT.wk {X : Cx} {e : Expr} {t t' : TT} (h : PT X e t) (w : ∀ σ H Q, t' σ H Q->t σ H Q) : PT X e t':=fun pins s σ H Q I q=>h pins s σ H Q I (w σ H Q q)
theorem PA.wk {X : Cx} {e : List Expr} {t t' : TA} (h : PA X e t) (w : ∀ σ H Q, t' σ H Q->t σ H Q) : PA X e t':=fun pos pins s σ H Q I q=>h pos pins s σ H Q I (w σ H Q q)
section
variable {X : Cx} {pos : Pos} {a b : Expr} {ta tb : DE}
theorem RpK.go {p : Pn} {H0 Hb H H' : Hp} {own : Addr->Option Nat} (A : At p H0 own Hb H) (k : Kp p H H') : ∀ {vs : List V} {ks : List (Kd × D)}, RpK p H0 own Hb H vs ks->RpK p H0 own Hb H' vs ks
 | _, _, .nil=>.nil
 | _, _, .cons h t=>.cons (rp_go A k h) (RpK.go A k t)
theorem RpK.base {p : Pn} {H0 Hb H H' : Hp} {own : Addr->Option Nat} (A : At p H0 own Hb H) : ∀ {vs : List V} {ks : List (Kd × D)}, RpK p H0 own H H' vs ks->RpK p H0 own Hb H' vs ks
 | _, _, .nil=>.nil
 | _, _, .cons h t=>.cons (rp_base A h) (RpK.base A t)
noncomputable def tV (i : Nat) : DE:=fun ρ P=>match ρ[i]? with
 | some (.im d)=>P .imm d
 | some (.sh d)=>P .shr d
 | some (.sn d)=>P .snw d
 | some (.dw r d)=>P (.reg r) d
 | some (.rw r L)=>P (.reg r) (.list (L.map PyData.list))
 | some (.tw r L)=>P (.reg r) (.tuple (L.map PyData.list))
 | some (.sp r b ds)=>P (if b = true then .n0 else .wk) (.list ds)
 | _=>False
theorem pd_var {i : Nat} {x : Str} {ps : Pos} (h : PE X (.Name x ps) (tVar i)) : PD X (.Name x ps) (tV i):=PE.wk h (by
 rintro σ H Q ⟨p, H0, own, ρ, P, E, t, q⟩
 unfold tV at t
 split at t
 ·rename_i d e; obtain ⟨v, e1, r⟩:=E.slot i _ e; exact ⟨v, e1, q _ _ _ _ t E.at r⟩
 ·rename_i d e; obtain ⟨v, e1, r⟩:=E.slot i _ e; exact ⟨v, e1, q _ _ _ _ t E.at r⟩
 ·rename_i d e; obtain ⟨v, e1, r⟩:=E.slot i _ e; exact ⟨v, e1, q _ _ _ _ t E.at r⟩
 ·rename_i d e; obtain ⟨v, e1, r⟩:=E.slot i _ e; exact ⟨v, e1, q _ _ _ _ t E.at r⟩
 ·rename_i r L e; obtain ⟨st, as, e1, h⟩:=E.slot i _ e; exact ⟨_, e1, q _ _ _ _ t E.at h.rp⟩
 ·rename_i r L e; obtain ⟨st, as, e1, h⟩:=E.slot i _ e; exact ⟨_, e1, q _ _ _ _ t E.at h.rp⟩
 ·rename_i r b ds e
  obtain ⟨l, vs, e1, o, h, z⟩:=E.slot i _ e
  refine ⟨_, e1, q _ _ _ _ t E.at ?_⟩
  cases b with
  | true=>exact .lst ⟨(E.ow l r o).1, (E.ow l r o).2.1⟩ h (z.mono (fun c n=>⟨n.1 rfl, n.2.1⟩) (fun _ _ _ e=>e) fun _ _ e=>e)
  | false=>exact .lst (E.ow l r o).2.1 h (z.mono (fun c n=>n.2.1) (fun _ _ _ e=>e) fun _ _ e=>e)
 ·exact t.elim)
noncomputable def tK (d : D) : DE:=fun _ P=>P .imm d
theorem pd_const {e : Expr} {v : V} {d : D} (h : PE X e (tC v)) (r : ∀ H, Rp (fun _=>False) H v d) : PD X e (tK d):=PE.wk h (by
 rintro σ H Q ⟨p, H0, own, ρ, P, E, t, q⟩
 exact q _ _ _ _ t E.at (r H))
theorem pd_int {i : Int} {j : Nat} : PD X (.Constant (.int i) j pos) (tK (.int i)):=pd_const pe_int fun _=>.int i
theorem pd_bl {i : Bool} {j : Nat} : PD X (.Constant (.bool i) j pos) (tK (.bool i)):=pd_const pe_bl fun _=>.bl i
theorem pd_non {j : Nat} : PD X (.Constant .none j pos) (tK .none):=pd_const pe_non fun _=>.non
noncomputable abbrev G2:=Kd->D->Kd->D->DK->Prop
noncomputable def t2 (g : G2) (ta tb : DE) : DE:=fun ρ P=>ta ρ fun k1 d1=>tb ρ fun k2 d2=>g k1 d1 k2 d2 P
noncomputable def Ok2 (g : G2) (r : R2) : Prop:=∀ p H0 own Hb H x y k1 d1 k2 d2 P Q, At p H0 own Hb H->Rp (okK p H0 own Hb k1) H x d1->Rp (okK p H0 own Hb k2) H y d2->g k1 d1 k2 d2 P ->
 (∀ k d v H', P k d->Kp p H H'->p.PI H'->Rp (okK p H0 own Hb k) H' v d->Q v H')->r x y H Q
theorem lift2 {g : G2} {r : R2} (ok : Ok2 g r) : ∀ σ H Q, liftE (t2 g ta tb) σ H Q->tOp r (liftE ta) (liftE tb) σ H Q:=by
 rintro σ H Q ⟨p, H0, own, ρ, P, E, t, q⟩
 refine ⟨p, H0, own, ρ, _, E, t, fun k1 d1 v1 H1 t1 A1 r1=>?_⟩
 have E1:=E.go A1.kp A1.pen
 refine ⟨p, H0, own, ρ, _, E1, t1, fun k2 d2 v2 H2 t2 A2 r2=>?_⟩
 have A : At p H0 own H H2:=A1.base A2
 exact ok p H0 own H H2 v1 v2 k1 d1 k2 d2 P Q A (rp_go A1 A2.kp r1) (rp_base A1 r2) t2 fun k d v H' h k3 i3 r3=>q k d v H' h (A.go k3 i3) r3
theorem pd_op {op : Operator} {r : R2} {g : G2} (ho : OpR X (binaryOp op) r) (ok : Ok2 g r) (ha : PD X a ta) (hb : PD X b tb) : PD X (.BinOp a op b pos) (t2 g ta tb):=PE.wk (pe_op ho ha hb) (lift2 ok)
theorem pd_cmp {op : CmpOp} {r : R2} {g : G2} (ho : OpR X (compareOp op) r) (ok : Ok2 g r) (ha : PD X a ta) (hb : PD X b tb) (hm : behindInMarks op b = false) : PD X (.Compare a [op] [b] pos) (t2 g ta tb):=PE.wk (pe_cmpR ho ha hb hm) (lift2 ok)
noncomputable def tTst (t : DE) : DT:=fun ρ P=>t ρ fun _ d=>match d with
 | .bool b=>P b
 | _=>False
theorem lift_tst {t : DE} : ∀ σ H Q, liftT (tTst t) σ H Q->(liftE t) σ H (fun x H'=>∃ k, x = .bl k/\Q k H'):=by
 rintro σ H Q ⟨p, H0, own, ρ, P, E, t, q⟩
 refine ⟨p, H0, own, ρ, _, E, t, fun k d v H' h A r=>?_⟩
 cases d with
 | bool b=>exact ⟨b, r.bl', q b H' h A⟩
 | _=>exact h.elim
theorem pdt_cmp {op : CmpOp} {r : R2} {g : G2} (ho : OpR X (compareOp op) r) (ok : Ok2 g r) (ha : PD X a ta) (hb : PD X b tb) (hm : behindInMarks op b = false) : PDT X (.Compare a [op] [b] pos) (tTst (t2 g ta tb)) :=
 PT.wk (pt_cmpR ho ha hb hm) fun σ H Q h=>lift2 ok σ H _ (lift_tst σ H Q h)
theorem pdt_val {e : Expr} {t : DE} (h : PD X e t) (he : ∀ whole, isTrue e X.env whole = (do let v ← whole; standAt e.pos; holding [v] (truthy v)):=by intro _; rfl) : PDT X e (tTst t) :=
 PT.wk (pt_val h he) fun σ H Q q=>lift_tst σ H Q q
noncomputable def dNot (t : DT) : DT:=fun ρ P=>t ρ fun b=>P (!b)
theorem pdt_not {t : DT} (ha : PDT X a t) : PDT X (.UnaryOp .Not a pos) (dNot t):=PT.wk (pt_not ha) (by
 rintro σ H Q ⟨p, H0, own, ρ, P, E, t, q⟩
 exact ⟨p, H0, own, ρ, _, E, t, fun b H' h A=>q _ H' h A⟩)
noncomputable abbrev PDW (X : Cx) (e : Expr) (t : DT) : Prop:=PW X e (liftT t)
theorem PW.wk {X : Cx} {e : Expr} {t t' : TT} (h : PW X e t) (w : ∀ σ H Q, t' σ H Q->t σ H Q) : PW X e t':=fun wh pins s σ H Q I q=>h wh pins s σ H Q I (w σ H Q q)
noncomputable def dAnd (t u : DT) : DT:=fun ρ P=>t ρ fun b=>if b = true then u ρ P else P false
noncomputable def dOr (t u : DT) : DT:=fun ρ P=>t ρ fun b=>if b = true then P true else u ρ P
section
variable {rest : List Expr} {t u : DT}
theorem pdw_and1 (ha : PDT X a t) : PDW X (.BoolOp .And [a] pos) t:=pw_and1 ha
theorem pdw_or1 (ha : PDT X a t) : PDW X (.BoolOp .Or [a] pos) t:=pw_or1 ha
theorem lift_and : ∀ σ H Q, liftT (dAnd t u) σ H Q->tAnd (liftT t) (liftT u) σ H Q:=by
 rintro σ H Q ⟨p, H0, own, ρ, P, E, t, q⟩
 refine ⟨p, H0, own, ρ, _, E, t, fun b H' h A=>?_⟩
 cases b with
 | true=>exact iteT ⟨p, H0, own, ρ, P, E.go A.kp A.pen, by simpa using h, fun c H2 h2 A2=>q c H2 h2 (A.base A2)⟩
 | false=>exact iteF (q false H' (by simpa using h) A)
theorem lift_or : ∀ σ H Q, liftT (dOr t u) σ H Q->tOr (liftT t) (liftT u) σ H Q:=by
 rintro σ H Q ⟨p, H0, own, ρ, P, E, t, q⟩
 refine ⟨p, H0, own, ρ, _, E, t, fun b H' h A=>?_⟩
 cases b with
 | true=>exact iteT (q true H' (by simpa using h) A)
 | false=>exact iteF ⟨p, H0, own, ρ, P, E.go A.kp A.pen, by simpa using h, fun c H2 h2 A2=>q c H2 h2 (A.base A2)⟩
theorem pdw_and (ha : PDT X a t) (hb : PDW X (.BoolOp .And (b :: rest) pos) u) : PDW X (.BoolOp .And (a :: b :: rest) pos) (dAnd t u):=PW.wk (pw_and ha hb) lift_and
theorem pdw_or (ha : PDT X a t) (hb : PDW X (.BoolOp .Or (b :: rest) pos) u) : PDW X (.BoolOp .Or (a :: b :: rest) pos) (dOr t u):=PW.wk (pw_or ha hb) lift_or
theorem PDW.pt {e : Expr} {t : DT} (h : PDW X e t) : PDT X e t:=PW.pt h
end
end
variable [Gr]
section
variable {X : Cx} {pos : Pos} {a b e : Expr} {es : List Expr} {ta tb te : DE} {t : DA}
noncomputable def aNil : DA:=fun _ P=>P []
noncomputable def aCons (te : DE) (t : DA) : DA:=fun ρ P=>te ρ fun k d=>t ρ fun ks=>P ((k, d) :: ks)
theorem pda_nil : PDA X [] aNil:=PA.wk pa_nil (by
 rintro σ H Q ⟨p, H0, own, ρ, P, E, t, q⟩
 exact q [] [] H t E.at .nil)
theorem pda_cons (ha : PD X e te) (hr : PDA X es t) (hs : starEach (e :: es) X.env = (false, eval e X.env) :: starEach es X.env:=by rfl) : PDA X (e :: es) (aCons te t):=PA.wk (pa_cons ha hr hs) (by
 rintro σ H Q ⟨p, H0, own, ρ, P, E, t, q⟩
 refine ⟨p, H0, own, ρ, _, E, t, fun k d v H1 h A r=>?_⟩
 refine ⟨p, H0, own, ρ, _, E.go A.kp A.pen, h, fun ks vs H2 h2 A2 r2=>?_⟩
 exact q _ _ H2 h2 (A.base A2) (.cons (rp_go A A2.kp r) (RpK.base A r2)))
noncomputable def joins : List (Kd × D)->Kd
 | []=>.imm
 | kd :: ks=>kd.1.join (joins ks)
theorem RpK.all {p : Pn} {H0 Hb H H2 : Hp} {own : Addr->Option Nat} (A : At p H0 own Hb H) : ∀ {vs : List V} {ks : List (Kd × D)} {k : Kd}, (joins ks).le k = true->RpK p H0 own Hb H2 vs ks->Rps (okK p H0 own Hb (joins ks)) H2 vs (ks.map (·.2))
 | _, _, _, _, .nil=>.nil
 | _, kd :: ks, k, e, .cons h t=>by
  have j:=le_join kd.1 (joins ks)
  exact .cons (rp_le A j.1 h) ((RpK.all A (k:=joins ks) (by cases joins ks <;> simp [Kd.le]) t).mono (fun a o=>okK_le A j.2 o) (fun _ _ _ e=>e) fun _ _ e=>e)
theorem Kd.le_refl (k : Kd) : k.le k = true:=by cases k <;> simp [Kd.le]
theorem RpK.length {p : Pn} {H0 Hb H2 : Hp} {own : Addr->Option Nat} : ∀ {vs : List V} {ks : List (Kd × D)}, RpK p H0 own Hb H2 vs ks->vs.length = ks.length
 | _, _, .nil=>rfl
 | _, _, .cons _ t=>by rw [List.length_cons, List.length_cons, RpK.length t]
noncomputable def tList (t : DA) : DE:=fun ρ P=>t ρ fun ks=>ks.length<=1000/\P ((joins ks).join .new) (.list (ks.map (·.2)))
noncomputable def tTuple (t : DA) : DE:=fun ρ P=>t ρ fun ks=>ks.length<=1000/\P (norm (joins ks) (.tuple (ks.map (·.2)))) (.tuple (ks.map (·.2)))
theorem pd_list (h : PDA X es t) : PD X (.List es pos) (tList t):=PE.wk (pe_lst h) (by
 rintro σ H Q ⟨p, H0, own, ρ, P, E, t, q⟩
 refine ⟨p, H0, own, ρ, _, E, t, fun ks vs H1 h A r=>?_⟩
 have h24:=sizeLine_eq
 have hl:=r.length
 refine ⟨by have:=h.1; omega, fun l hl=>?_⟩
 obtain ⟨k2, i2, nw⟩:=A.new hl (.lst vs)
 have j:=le_join (joins ks) .new
 refine q _ _ _ _ h.2 (A.go k2 i2) (.lst (okK_le A j.2 nw) upd_same ?_)
 exact (rps_go A k2 (RpK.all A (Kd.le_refl _) r)).mono (fun a o=>okK_le A j.1 o) (fun _ _ _ e=>e) fun _ _ e=>e)
theorem pd_tuple {x1} (h : PDA X es t) : PD X (.Tuple es x1 pos) (tTuple t):=PE.wk (pe_tup h) (by
 rintro σ H Q ⟨p, H0, own, ρ, P, E, t, q⟩
 refine ⟨p, H0, own, ρ, _, E, t, fun ks vs H1 h A r=>?_⟩
 have h24:=sizeLine_eq
 have hl:=r.length
 refine ⟨by have:=h.1; omega, fun l hl=>?_⟩
 obtain ⟨k2, i2, nw⟩:=A.new hl (.tup vs)
 exact q _ _ _ _ h.2 (A.go k2 i2) (rp_norm (.tup upd_same (rps_go A k2 (RpK.all A (Kd.le_refl _) r)))))
noncomputable abbrev GC:=List (Kd × D)->DK->Prop
noncomputable def tCl (g : GC) (t : DA) : DE:=fun ρ P=>t ρ fun ks=>g ks P
noncomputable def OkC (g : GC) (r : List V->Hp->VK->Prop) : Prop:=∀ p H0 own Hb H vs ks P Q, At p H0 own Hb H->RpK p H0 own Hb H vs ks->g ks P ->
 (∀ k d v H', P k d->Kp p H H'->p.PI H'->Rp (okK p H0 own Hb k) H' v d->Q v H')->r vs H Q
theorem liftC {g : GC} {r : List V->Hp->VK->Prop} (ok : OkC g r) : ∀ σ H Q, liftE (tCl g t) σ H Q->tCB r (liftA t) σ H Q:=by
 rintro σ H Q ⟨p, H0, own, ρ, P, E, t, q⟩
 refine ⟨p, H0, own, ρ, _, E, t, fun ks vs H1 h A r=>?_⟩
 exact ok p H0 own H H1 vs ks P Q A r h fun k d v H' h2 k2 i2 r2=>q k d v H' h2 (A.go k2 i2) r2
theorem pd_callB {r : List V->Hp->VK->Prop} {id : String} {x : Str} {ps : Pos} {g : GC} (hc : CallR X (.builtin id) r) (ok : OkC g r) (hg : Gl X x) (hm : X.mg x = none) (hv : bootBuiltins x = some (.builtin id)) (ha : PDA X (e :: es) t) (hn : x≠"__name__":=by decide) (hdb : (x == ("__debug__" : Str)) = false:=by decide)
  (he : starEach (e :: es) X.env = (false, eval e X.env) :: starEach es X.env:=by rfl) (hpl : (backTo pos (starEach es X.env)).any (·.1) = false:=by rfl) : PD X (.Call (.Name x ps) (e :: es) [] pos) (tCl g t):=PE.wk (pe_callB hc hg hm hv ha hn hdb he hpl) (liftC ok)
theorem pd_callT {r : List V->Hp->VK->Prop} {id : String} {x : Str} {ps : Pos} {g : GC} (hc : CallR X (.type id) r) (ok : OkC g r) (hg : Gl X x) (hm : X.mg x = none) (hv : bootBuiltins x = some (.type id)) (ha : PDA X (e :: es) t) (hn : x≠"__name__":=by decide) (hdb : (x == ("__debug__" : Str)) = false:=by decide)
  (he : starEach (e :: es) X.env = (false, eval e X.env) :: starEach es X.env:=by rfl) (hpl : (backTo pos (starEach es X.env)).any (·.1) = false:=by rfl) : PD X (.Call (.Name x ps) (e :: es) [] pos) (tCl g t):=PE.wk (pe_callTy hc hg hm hv ha hn hdb he hpl) (liftC ok)
noncomputable def spD (t : List D->(D->Prop)->Prop) : Sp:=fun vs H Q _=>∃ ds P, Rps (fun _=>True) H vs ds/\t ds P/\∀ d v H', P d->Same H H'->Rp (fun a=>H a = none) H' v d->Q v H'
noncomputable def spP (C : Pn->Prop) (t : List D->(D->Prop)->Prop) : Sp:=fun vs H Q _=>∃ p vs' ds P, C p/\vs = p.pv :: vs'/\p.PI H/\Rps (fun a=>¬ p.fp a) H vs' ds/\t ds P/\∀ d v H', P d->Kp p H H'->p.PI H'->Rp (fun a=>H a = none) H' v d->Q v H'
noncomputable def tFn (f : List D->(D->Prop)->Prop) (t : DA) : DE:=fun ρ P=>t ρ fun ks=>f (ks.map (·.2)) fun d=>P (norm .new d) d
theorem RpK.rps {p : Pn} {H0 Hb H H2 : Hp} {own : Addr->Option Nat} (A : At p H0 own Hb H) : ∀ {vs : List V} {ks : List (Kd × D)}, RpK p H0 own Hb H2 vs ks->Rps (fun a=>¬ p.fp a) H2 vs (ks.map (·.2))
 | _, _, .nil=>.nil
 | _, _, .cons h t=>.cons (h.mono (fun a o=>okK_nfp A o) (fun _ _ _ e=>e) fun _ _ e=>e) (RpK.rps A t)
theorem lift_fn {f : List D->(D->Prop)->Prop} : ∀ σ H Q, liftE (tFn f t) σ H Q->tCall (spD f) [] E0 (liftA t) σ H Q:=by
 rintro σ H Q ⟨p, H0, own, ρ, P, E, t, q⟩
 refine ⟨p, H0, own, ρ, _, E, t, fun ks vs H1 h A r=>?_⟩
 show spD f (vs ++ []) H1 Q E0
 rw [List.append_nil]
 refine ⟨ks.map (·.2), _, (RpK.rps A r).mono (fun _ _=>trivial) (fun _ _ _ e=>e) fun _ _ e=>e, h, fun d v H' h2 s r2=>?_⟩
 have k2 : Kp p H1 H':=Kp.of s
 refine q _ d v H' h2 (A.go k2 (p.mono H1 H' A.pen fun b o _ e=>s b o e)) (rp_norm ?_)
 exact r2.mono (fun a o=>A.free o) (fun _ _ _ e=>e) fun _ _ e=>e
noncomputable def tFnP (C : Pn->Prop) (f : List D->(D->Prop)->Prop) (i : Nat) (t : DA) : DE:=fun ρ P=>ρ[i]? = some (.pen C)/\tFn f t ρ P
theorem lift_fnP {C : Pn->Prop} {f : List D->(D->Prop)->Prop} {i : Nat} : ∀ σ H Q, liftE (tFnP C f i t) σ H Q->tCall (spP C f) [] E0 (tCons (tVar i) (liftA t)) σ H Q:=by
 rintro σ H Q ⟨p, H0, own, ρ, P, E, ⟨hp, t⟩, q⟩
 obtain ⟨hs, c⟩:=E.slot i _ hp
 refine ⟨p.pv, hs, p, H0, own, ρ, _, E, t, fun ks vs H1 h A r=>?_⟩
 show spP C f ((p.pv :: vs) ++ []) H1 Q E0
 rw [List.append_nil]
 refine ⟨p, vs, ks.map (·.2), _, c, rfl, A.pen, RpK.rps A r, h, fun d v H' h2 k2 i2 r2=>?_⟩
 exact q _ d v H' h2 (A.go k2 i2) (rp_norm (r2.mono (fun a o=>A.free o) (fun _ _ _ e=>e) fun _ _ e=>e))
noncomputable def gI (C : Int->Int->Prop) (f : Int->Int->D) : G2:=fun _ d1 _ d2 P=>match d1, d2 with
 | .int i, .int j=>C i j/\P .imm (f i j)
 | _, _=>False
noncomputable def gI0 (f : Int->Int->D) : G2:=fun _ d1 _ d2 P=>match d1, d2 with
 | .int i, .int j=>P .imm (f i j)
 | _, _=>False
theorem okI {C : Int->Int->Prop} {f : Int->Int->D} {g : Int->Int->V} (h : ∀ i j H, Rp (fun _=>False) H (g i j) (f i j)) : Ok2 (gI C f) (rI C g):=by
 intro p H0 own Hb H x y k1 d1 k2 d2 P Q A r1 r2 t q
 unfold gI at t
 split at t
 ·rename_i i j
  exact ⟨i, j, r1.int', r2.int', t.1, q _ _ _ _ t.2 Kp.refl A.pen (h i j H)⟩
 ·exact t.elim
theorem okI0 {f : Int->Int->D} {g : Int->Int->V} (h : ∀ i j H, Rp (fun _=>False) H (g i j) (f i j)) : Ok2 (gI0 f) (rI0 g):=by
 intro p H0 own Hb H x y k1 d1 k2 d2 P Q A r1 r2 t q
 unfold gI0 at t
 split at t
 ·rename_i i j
  exact ⟨i, j, r1.int', r2.int', q _ _ _ _ t Kp.refl A.pen (h i j H)⟩
 ·exact t.elim
theorem pd_sub (ha : PD X a ta) (hb : PD X b tb) : PD X (.BinOp a .Sub b pos) (t2 (gI0 fun i j=>.int (i - j)) ta tb):=pd_op op_sub (okI0 fun i j _=>.int _) ha hb
theorem pd_mod (ha : PD X a ta) (hb : PD X b tb) : PD X (.BinOp a .Mod b pos) (t2 (gI (fun _ j=>0 < j) fun i j=>.int (i % j)) ta tb):=pd_op op_mod (okI fun i j _=>.int _) ha hb
theorem pd_gt (ha : PD X a ta) (hb : PD X b tb) : PD X (.Compare a [.Gt] [b] pos) (t2 (gI0 fun i j=>.bool (decide (j < i))) ta tb):=pd_cmp op_gt (okI0 fun i j _=>.bl _) ha hb (nomark _)
theorem pd_ge (ha : PD X a ta) (hb : PD X b tb) : PD X (.Compare a [.GtE] [b] pos) (t2 (gI0 fun i j=>.bool (decide (j<=i))) ta tb):=pd_cmp op_ge (okI0 fun i j _=>.bl _) ha hb (nomark _)
theorem pdt_lt (ha : PD X a ta) (hb : PD X b tb) : PDT X (.Compare a [.Lt] [b] pos) (tTst (t2 (gI0 fun i j=>.bool (decide (i < j))) ta tb)):=pdt_cmp op_lt (okI0 fun i j _=>.bl _) ha hb (nomark _)
theorem pdt_gt (ha : PD X a ta) (hb : PD X b tb) : PDT X (.Compare a [.Gt] [b] pos) (tTst (t2 (gI0 fun i j=>.bool (decide (j < i))) ta tb)):=pdt_cmp op_gt (okI0 fun i j _=>.bl _) ha hb (nomark _)
noncomputable def scD : D->D->Option Bool
 | .int i, .int j=>some (decide (i = j))
 | .bool i, .bool j=>some (decide (i = j))
 | .str i, .str j=>some (decide (i = j))
 | _, _=>none
noncomputable def gEq (neg : Bool) : G2:=fun _ d1 _ d2 P=>match scD d1 d2 with
 | some b=>P .imm (.bool (if neg then !b else b))
 | none=>False
theorem okEq : Ok2 (gEq false) rEq:=by
 intro p H0 own Hb H x y k1 d1 k2 d2 P Q A r1 r2 t q
 unfold gEq scD at t
 split at t
 ·rename_i b e
  split at e <;> first | cases e | skip
  ·rw [r1.int', r2.int']
   refine ⟨rfl, ?_⟩
   have e2 : ∀ i j : Int, decide (V.int i = V.int j) = decide (i = j):=fun i j=>by simp
   rw [e2]; exact q _ _ _ _ t Kp.refl A.pen (.bl _)
  ·rw [r1.bl', r2.bl']
   refine ⟨rfl, ?_⟩
   have e2 : ∀ i j : Bool, decide (V.bl i = V.bl j) = decide (i = j):=fun i j=>by simp
   rw [e2]; exact q _ _ _ _ t Kp.refl A.pen (.bl _)
  ·rw [r1.str', r2.str']
   refine ⟨rfl, ?_⟩
   have e2 : ∀ i j : Str, decide (V.str i = V.str j) = decide (i = j):=fun i j=>by simp
   rw [e2]; exact q _ _ _ _ t Kp.refl A.pen (.bl _)
 ·exact t.elim
theorem okNe : Ok2 (gEq true) rNe:=by
 intro p H0 own Hb H x y k1 d1 k2 d2 P Q A r1 r2 t q
 unfold gEq scD at t
 split at t
 ·rename_i b e
  split at e <;> first | cases e | skip
  ·rw [r1.int', r2.int']
   refine ⟨rfl, ?_⟩
   have e2 : ∀ i j : Int, decide (V.int i = V.int j) = decide (i = j):=fun i j=>by simp
   rw [e2]; exact q _ _ _ _ t Kp.refl A.pen (.bl _)
  ·rw [r1.bl', r2.bl']
   refine ⟨rfl, ?_⟩
   have e2 : ∀ i j : Bool, decide (V.bl i = V.bl j) = decide (i = j):=fun i j=>by simp
   rw [e2]; exact q _ _ _ _ t Kp.refl A.pen (.bl _)
  ·rw [r1.str', r2.str']
   refine ⟨rfl, ?_⟩
   have e2 : ∀ i j : Str, decide (V.str i = V.str j) = decide (i = j):=fun i j=>by simp
   rw [e2]; exact q _ _ _ _ t Kp.refl A.pen (.bl _)
 ·exact t.elim
noncomputable def gIx : G2:=fun k1 d1 _ d2 P=>match d1, d2 with
 | .list ds, .int i=>∃ d, atI ds i = some d/\P (norm k1 d) d
 | .tuple ds, .int i=>∃ d, atI ds i = some d/\P (norm k1 d) d
 | _, _=>False
theorem Rps.atI {ok : Addr->Prop} {H : Hp} {vs : List V} {ds : List D} {i : Int} {d : D} (r : Rps ok H vs ds) (h : L2.atI ds i = some d) : ∃ v, L2.atI vs i = some v/\Rp ok H v d:=by
 unfold L2.atI at h ⊢
 rw [r.length]
 cases e : ixN ds.length i with
 | none=>rw [e] at h; cases h
 | some j =>
  rw [e] at h
  obtain ⟨v, h1, h2⟩:=r.getD (i:=j) (d:=d) h
  exact ⟨v, h1, h2⟩
theorem rpk1 {p : Pn} {H0 Hb H : Hp} {own : Addr->Option Nat} {vs : List V} {kd : Kd × D} (r : RpK p H0 own Hb H vs [kd]) : ∃ v, vs = [v]/\Rp (okK p H0 own Hb kd.1) H v kd.2:=by
 cases r with
 | cons h t=>cases t; exact ⟨_, rfl, h⟩
theorem rpk2 {p : Pn} {H0 Hb H : Hp} {own : Addr->Option Nat} {vs : List V} {kd ke : Kd × D} (r : RpK p H0 own Hb H vs [kd, ke]) : ∃ v w, vs = [v, w]/\Rp (okK p H0 own Hb kd.1) H v kd.2/\Rp (okK p H0 own Hb ke.1) H w ke.2:=by
 cases r with
 | cons h t =>
  cases t with
  | cons h2 t2=>cases t2; exact ⟨_, _, rfl, h, h2⟩
noncomputable def gLen : GC:=fun ks P=>match ks with
 | [(_, .list ds)]=>P .imm (.int ds.length)
 | [(_, .tuple ds)]=>P .imm (.int ds.length)
 | _=>False
theorem okLen {K : PySem.W.Frag} : OkC gLen (fun xs H Q=>∃ p ys, xs = [.ref p]/\(SqL K H p ys\/SqT K H p ys)/\Q (.int ys.length) H):=by
 intro p H0 own Hb H vs ks P Q A r t q
 unfold gLen at t
 split at t
 ·obtain ⟨v, rfl, r'⟩:=rpk1 r
  obtain ⟨c, vs, rfl, o, hc, rs⟩:=r'.lst'
  exact ⟨c, vs, rfl, .inl (SqL.of hc), by rw [rs.length]; exact q _ _ _ _ t Kp.refl A.pen (.int _)⟩
 ·obtain ⟨v, rfl, r'⟩:=rpk1 r
  obtain ⟨c, vs, rfl, hc, rs⟩:=r'.tup'
  exact ⟨c, vs, rfl, .inr (SqT.of hc), by rw [rs.length]; exact q _ _ _ _ t Kp.refl A.pen (.int _)⟩
 ·exact t.elim
theorem pd_len {ps : Pos} (hm : X.mg "len" = none) (ha : PDA X [a] t) (hg : Gl X "len":=by rfl) (he : starEach [a] X.env = (false, eval a X.env) :: starEach [] X.env:=by rfl) (hpl : (backTo pos (starEach [] X.env)).any (·.1) = false:=by rfl) : PD X (.Call (.Name "len" ps) [a] [] pos) (tCl gLen t) :=
 pd_callB call_len_seq okLen hg hm PySem.boot_len ha (by decide) (by decide) he hpl
noncomputable def gInt : GC:=fun ks P=>match ks with
 | [(_, .int i)]=>P .imm (.int i)
 | [(_, .bool b)]=>P .imm (.int (if b then 1 else 0))
 | _=>False
theorem pd_intC {ps : Pos} (hm : X.mg "int" = none) (hv : bootBuiltins "int" = some (.type "int")) (ha : PDA X [a] t) (hg : Gl X "int":=by rfl) (he : starEach [a] X.env = (false, eval a X.env) :: starEach [] X.env:=by rfl) (hpl : (backTo pos (starEach [] X.env)).any (·.1) = false:=by rfl) : PD X (.Call (.Name "int" ps) [a] [] pos) (tCl gInt t) :=
 pd_callT call_int1 (by
  intro p H0 own Hb H vs ks P Q A r t q
  unfold gInt at t
  split at t
  ·rename_i k i
   obtain ⟨v, rfl, r'⟩:=rpk1 r
   rw [r'.int']
   exact .inl ⟨i, rfl, q _ _ _ _ t Kp.refl A.pen (.int _)⟩
  ·rename_i k i
   obtain ⟨v, rfl, r'⟩:=rpk1 r
   rw [r'.bl']
   exact .inr ⟨i, rfl, q _ _ _ _ t Kp.refl A.pen (.int _)⟩
  ·exact t.elim) hg hm hv ha (by decide) (by decide) he hpl
end
variable [Gr]
section
variable {ok ok' : Addr->Prop} {H H' : Hp}
mutual
theorem Rp.mono2 (f : ∀ a o, ok a->H a = some o->ok' a/\H' a = some o) (t : ∀ a xs, H a = some (.tup xs)->H' a = some (.tup xs)) : ∀ {v : V} {d : D}, Rp ok H v d->Rp ok' H' v d
 | _, _, .non=>.non
 | _, _, .bl b=>.bl b
 | _, _, .int i=>.int i
 | _, _, .str x=>.str x
 | _, _, .lst o h r=>.lst (f _ _ o h).1 (f _ _ o h).2 (Rps.mono2 f t r)
 | _, _, .tup h r=>.tup (t _ _ h) (Rps.mono2 f t r)
 | _, _, .dct o h r=>.dct (f _ _ o h).1 (f _ _ o h).2 (Rkv.mono2 f t r)
theorem Rps.mono2 (f : ∀ a o, ok a->H a = some o->ok' a/\H' a = some o) (t : ∀ a xs, H a = some (.tup xs)->H' a = some (.tup xs)) : ∀ {v : List V} {d : List D}, Rps ok H v d->Rps ok' H' v d
 | _, _, .nil=>.nil
 | _, _, .cons h r=>.cons (Rp.mono2 f t h) (Rps.mono2 f t r)
theorem Rkv.mono2 (f : ∀ a o, ok a->H a = some o->ok' a/\H' a = some o) (t : ∀ a xs, H a = some (.tup xs)->H' a = some (.tup xs)) : ∀ {v : List (Key × V)} {d : List (D × D)}, Rkv ok H v d->Rkv ok' H' v d
 | _, _, .nil=>.nil
 | _, _, .cons h r=>.cons (Rp.mono2 f t h) (Rkv.mono2 f t r)
end
end
structure DEnds where
 nx : List Sl->Prop
 rt : D->Prop
 bk : List Sl->Prop:=fun _=>False
 ct : List Sl->Prop:=fun _=>False
noncomputable abbrev DS:=DEnds->List Sl->Prop
structure FrS (p : Pn) (own : Addr->Option Nat) (H : Hp) (own' : Addr->Option Nat) (H' : Hp) : Prop where
 keep : ∀ b o, H b = some o->¬ p.fp b->own b = none->H' b = some o/\own' b = none
 tup : ∀ a xs, H a = some (.tup xs)->H' a = some (.tup xs)
theorem FrS.trans {p : Pn} {o1 o2 o3 : Addr->Option Nat} {H1 H2 H3 : Hp} (a : FrS p o1 H1 o2 H2) (b : FrS p o2 H2 o3 H3) : FrS p o1 H1 o3 H3:=⟨fun c o h n e=>let ⟨x, y⟩:=a.keep c o h n e; b.keep c o x n y, fun c xs e=>b.tup c xs (a.tup c xs e)⟩
theorem FrS.refl {p : Pn} {o1 : Addr->Option Nat} {H1 : Hp} : FrS p o1 H1 o1 H1:=⟨fun _ _ h _ e=>⟨h, e⟩, fun _ _ e=>e⟩
theorem At.tups {p : Pn} {H0 H H' : Hp} {own : Addr->Option Nat} (A : At p H0 own H H') : ∀ a xs, H a = some (.tup xs)->H' a = some (.tup xs):=kp_tup (⟨A.k0, Kp.refl, A.penb, A.penb, A.ow⟩ : At p H0 own H H) A.kp
structure RPost (p : Pn) (H0 H' : Hp) (v : V) (d : D) : Prop where
 k0 : ∀ b o, H0 b = some o->¬ p.fp b->H' b = some o
 pen : p.PI H'
 rp : Rp (fun a=>H0 a = none/\¬ p.fp a) H' v d
structure Wish (p : Pn) (H0 : Hp) (own : Addr->Option Nat) (H : Hp) (P : DEnds) (Q : Ends) : Prop where
 nx : ∀ own' σ' H' ρ', EnvD p H0 own' σ' H' ρ'->FrS p own H own' H'->P.nx ρ'->Q.nx σ' H'
 rt : ∀ d v H', P.rt d->RPost p H0 H' v d->Q.rt v H'
 bk : ∀ own' σ' H' ρ', EnvD p H0 own' σ' H' ρ'->FrS p own H own' H'->P.bk ρ'->Q.bk σ' H'
 ct : ∀ own' σ' H' ρ', EnvD p H0 own' σ' H' ρ'->FrS p own H own' H'->P.ct ρ'->Q.ct σ' H'
theorem Wish.go {p : Pn} {H0 H H' : Hp} {own own' : Addr->Option Nat} {P : DEnds} {Q : Ends} (w : Wish p H0 own H P Q) (f : FrS p own H own' H') : Wish p H0 own' H' P Q :=
 ⟨fun o s h r e g n=>w.nx o s h r e (f.trans g) n, w.rt, fun o s h r e g n=>w.bk o s h r e (f.trans g) n, fun o s h r e g n=>w.ct o s h r e (f.trans g) n⟩
noncomputable def liftS (t : DS) : TS:=fun Q σ H=>∃ p H0 own ρ P, EnvD p H0 own σ H ρ/\t P ρ/\Wish p H0 own H P Q
noncomputable abbrev PDS (X : Cx) (st : Stmt) (t : DS) : Prop:=PS X st (liftS t)
noncomputable abbrev PDSs (X : Cx) (st : List Stmt) (t : DS) : Prop:=PSs X st (liftS t)
theorem PSs.wk' {X : Cx} {ss : List Stmt} {t t' : TS} (h : PSs X ss t) (w : ∀ D σ H, t' D σ H->t D σ H) : PSs X ss t':=fun pins s σ H D I q=>h pins s σ H D I (w D σ H q)
theorem PS.wk' {X : Cx} {ss : Stmt} {t t' : TS} (h : PS X ss t) (w : ∀ D σ H, t' D σ H->t D σ H) : PS X ss t':=fun pins s σ H D I q=>h pins s σ H D I (w D σ H q)
theorem At.frs {p : Pn} {H0 H H' : Hp} {own : Addr->Option Nat} (A : At p H0 own H H') : FrS p own H own H':=⟨fun b o h n e=>⟨A.kp b o h n, e⟩, A.tups⟩
section
variable {X : Cx} {pos : Pos} {st : Stmt} {rest : List Stmt} {e : Expr} {te : DE} {t u : DS}
noncomputable def dNext : DS:=fun P ρ=>P.nx ρ
noncomputable def dSeq (t u : DS) : DS:=fun P ρ=>t { P with nx:=u P } ρ
theorem ds_nil : PDSs X [] dNext:=PSs.wk' pss_nil (by
 rintro Q σ H ⟨p, H0, own, ρ, P, E, t, w⟩
 exact w.nx own σ H ρ E FrS.refl t)
theorem ds_cons (h1 : PDS X st t) (h2 : PDSs X rest u) : PDSs X (st :: rest) (dSeq t u):=PSs.wk' (pss_cons h1 h2) (by
 rintro Q σ H ⟨p, H0, own, ρ, P, E, t, w⟩
 exact ⟨p, H0, own, ρ, _, E, t, ⟨fun o s h r e g n=>⟨p, H0, o, r, P, e, n, w.go g⟩, w.rt, w.bk, w.ct⟩⟩)
theorem ds_one (h1 : PDS X st t) : PDSs X [st] t:=pss_one h1
theorem ds_never : PDS X st (fun _ _=>False):=PS.wk' ps_never (by
 rintro Q σ H ⟨p, H0, own, ρ, P, E, t, w⟩
 exact t)
noncomputable def dRet (te : DE) : DS:=fun P ρ=>te ρ fun k d=>k.le .n0 = true/\P.rt d
theorem ds_ret (he : PD X e te) : PDS X (.Return (some e) pos) (dRet te):=PS.wk' (ps_ret he) (by
 rintro Q σ H ⟨p, H0, own, ρ, P, E, t, w⟩
 refine ⟨p, H0, own, ρ, _, E, t, fun k d v H' h A r=>w.rt d v H' h.2 ⟨fun b o e n=>A.kp b o (A.k0 b o e n) n, A.pen, ?_⟩⟩
 exact rp_le A h.1 r)
noncomputable def dIf (c : DT) (t u : DS) : DS:=fun P ρ=>c ρ fun b=>if b = true then t P ρ else u P ρ
theorem ds_if {c : Expr} {a b : List Stmt} {tc : DT} (hc : PDT X c tc) (ha : PDSs X a t) (hb : PDSs X b u) : PDS X (.If c a b pos) (dIf tc t u):=PS.wk' (ps_if hc ha hb) (by
 rintro Q σ H ⟨p, H0, own, ρ, P, E, t, w⟩
 refine ⟨p, H0, own, ρ, _, E, t, fun b H' h A=>?_⟩
 cases b with
 | true=>exact iteT ⟨p, H0, own, ρ, P, E.go A.kp A.pen, by simpa using h, w.go A.frs⟩
 | false=>exact iteF ⟨p, H0, own, ρ, P, E.go A.kp A.pen, by simpa using h, w.go A.frs⟩)
noncomputable def dExpr (te : DE) : DS:=fun P ρ=>te ρ fun _ _=>P.nx ρ
theorem ds_expr (he : PD X e te) (hs : swapsWith e none pos.line X.env = pure false:=by rfl) : PDS X (.Expr e pos) (dExpr te):=PS.wk' (ps_expr he hs) (by
 rintro Q σ H ⟨p, H0, own, ρ, P, E, t, w⟩
 exact ⟨p, H0, own, ρ, _, E, t, fun k d v H' h A r=>w.nx own σ H' ρ (E.go A.kp A.pen) A.frs h⟩)
noncomputable def Sl.region : Sl->Option Nat
 | .dw r _=>some r
 | .rw r _=>some r
 | .tw r _=>some r
 | .sp r _ _=>some r
 | _=>none
noncomputable def freeR (r : Nat) (ρ : List Sl) (i : Nat) : Bool:=(ρ.set i .any).all fun s=>s.region != some r
noncomputable def stK (rg : Option Nat) (ρ : List Sl) (i : Nat) (k : Kd) (d : D) : Option Sl:=match k with
 | .imm=>some (.im d)
 | .new=>match rg with
  | some r=>if freeR r ρ i = true then some (.dw r d) else none
  | none=>some (.sn d)
 | .reg r=>some (.dw r d)
 | .snw=>some (.sn d)
 | .shr=>some (.sh d)
 | _=>none
noncomputable def dSet (i : Nat) (rg : Option Nat) (te : DE) : DS:=fun P ρ=>te ρ fun k d=>match stK rg ρ i (norm k d) d with
 | some s=>P.nx (ρ.set i s)
 | none=>False
section
variable {p : Pn} {H0 H H1 : Hp} {own : Addr->Option Nat} {σ : L2.St} {ρ : List Sl} {i : Nat}
theorem EnvD.set {v : V} {s : Sl} (E : EnvD p H0 own σ H ρ) (hs : i < σ.length->SlotOk p H0 own (σ.set i (some v)) H i s) : EnvD p H0 own (σ.set i (some v)) H (ρ.set i s):=by
 refine ⟨E.k0, E.pen, E.ow, fun j s' e=>?_, by simpa using E.len, E.gr⟩
 by_cases hj : j = i
 ·subst hj
  have hl : j < ρ.length:=by
   have:=(List.getElem?_eq_some_iff.mp e).1
   simpa using this
  rw [List.getElem?_set_self hl] at e
  cases e
  exact hs (by rw [← E.len]; exact hl)
 ·rw [List.getElem?_set_ne (Ne.symm hj)] at e
  have q:=E.slot j s' e
  have eq : (σ.set i (some v))[j]? = σ[j]?:=List.getElem?_set_ne (Ne.symm hj)
  cases s' <;> simp only [SlotOk, eq] at q ⊢ <;> exact q
noncomputable def adoptR (r : Nat) (H H1 : Hp) (own : Addr->Option Nat) : Addr->Option Nat:=fun a=>match H a, H1 a with
 | none, some _=>some r
 | _, _=>own a
theorem adopt_old {r : Nat} {a : Addr} {o : HO} (h : H a = some o) : adoptR r H H1 own a = own a:=by unfold adoptR; rw [h]
theorem adopt_new {r : Nat} {a : Addr} {o : HO} (h : H a = none) (h1 : H1 a = some o) : adoptR r H H1 own a = some r:=by unfold adoptR; rw [h, h1]
theorem EnvD.adopt (r : Nat) (E : EnvD p H0 own σ H ρ) (A : At p H0 own H H1) : EnvD p H0 (adoptR r H H1 own) σ H1 ρ:=by
 have tp:=kp_tup E.at A.kp
 refine ⟨fun b o e n=>A.kp b o (E.k0 b o e n) n, A.pen, fun a q e=>?_, fun j s e=>?_, E.len, E.gr⟩
 ·cases h : H a with
  | some o =>
   rw [adopt_old h] at e
   obtain ⟨x, y, z⟩:=E.ow a q e
   refine ⟨x, y, by rw [A.kp a o h y]; exact fun z=>nomatch z⟩
  | none =>
   cases h1 : H1 a with
   | none =>
    have e' : own a = some q:=by rw [← e]; unfold adoptR; rw [h, h1]
    exact absurd h (E.ow a q e').2.2
   | some o=>exact ⟨E.at.h0 h, E.at.nfb h, fun z=>nomatch z⟩
 ·have q:=E.slot j s e
  cases s with
  | any=>trivial
  | im d=>exact let ⟨v, a, b⟩:=q; ⟨v, a, b.mono (fun _ o=>o) (fun _ _ o=>o.elim) tp⟩
  | sh d=>exact let ⟨v, a, b⟩:=q; ⟨v, a, b.mono2 (fun c o n h=>⟨⟨n.1, by rw [adopt_old h]; exact n.2⟩, A.kp c o h n.1⟩) tp⟩
  | sn d=>exact let ⟨v, a, b⟩:=q; ⟨v, a, b.mono2 (fun c o n h=>⟨⟨n.1, n.2.1, by rw [adopt_old h]; exact n.2.2⟩, A.kp c o h n.2.1⟩) tp⟩
  | dw r' d=>exact let ⟨v, a, b⟩:=q; ⟨v, a, b.mono2 (fun c o n h=>⟨by rw [adopt_old h]; exact n, A.kp c o h (E.ow c r' n).2.1⟩) tp⟩
  | pen C=>exact q
  | rw r' L=>exact let ⟨st, as, a, b⟩:=q; ⟨st, as, a, b.mono (fun c o n h=>⟨by rw [adopt_old h]; exact n, A.kp c o h (E.ow c r' n).2.1⟩) tp⟩
  | tw r' L=>exact let ⟨st, as, a, b⟩:=q; ⟨st, as, a, b.mono (fun c o n h=>⟨by rw [adopt_old h]; exact n, A.kp c o h (E.ow c r' n).2.1⟩) tp⟩
  | scr v b=>exact q
  | sp r' b ds=>exact let ⟨l, vs, a, o, h, z⟩:=q; ⟨l, vs, a, by rw [adopt_old h]; exact o, A.kp l _ h (E.ow l r' o).2.1, z.mono2 (fun c u n e=>⟨⟨n.1, n.2.1, by rw [adopt_old e]; exact n.2.2⟩, A.kp c u e n.2.1⟩) tp⟩
theorem adopt_rp {r : Nat} {k : Kd} {v : V} {d : D} (h : k.le .new = true) (A : At p H0 own H H1) (x : Rp (okK p H0 own H k) H1 v d) : Rp (fun a=>adoptR r H H1 own a = some r) H1 v d :=
 (rp_le A h x).mono2 (fun a o n e=>⟨adopt_new n e, e⟩) fun _ _ e=>e
theorem adopt_frs {r : Nat} (A : At p H0 own H H1) : FrS p own H (adoptR r H H1 own) H1:=⟨fun b o h n e=>⟨A.kp b o h n, by rw [adopt_old h]; exact e⟩, A.tups⟩
theorem EnvD.drop (E : EnvD p H0 own σ H ρ) : EnvD p H0 own σ H (ρ.set i .any):=by
 refine ⟨E.k0, E.pen, E.ow, fun j s' e=>?_, by simpa using E.len, E.gr⟩
 by_cases hj : j = i
 ·subst hj
  have hl : j < ρ.length:=by
   have:=(List.getElem?_eq_some_iff.mp e).1
   simpa using this
  rw [List.getElem?_set_self hl] at e
  cases e
  trivial
 ·rw [List.getElem?_set_ne (Ne.symm hj)] at e
  exact E.slot j s' e
noncomputable def clearR (r : Nat) (own : Addr->Option Nat) : Addr->Option Nat:=fun a=>if own a = some r then none else own a
theorem EnvD.clear {r : Nat} (E : EnvD p H0 own σ H ρ) (h : ρ.all (fun s=>s.region != some r) = true) : EnvD p H0 (clearR r own) σ H ρ:=by
 refine ⟨E.k0, E.pen, fun a q e=>?_, fun j s e=>?_, E.len, E.gr⟩
 ·unfold clearR at e
  split at e
  ·cases e
  ·exact E.ow a q e
 ·have q:=E.slot j s e
  have z:=List.all_eq_true.mp h s (List.mem_of_getElem? e)
  have c0 : ∀ a, own a = none->clearR r own a = none:=fun a n=>by unfold clearR; rw [n]; simp
  cases s with
  | any=>trivial
  | im d=>exact q
  | sh d=>exact let ⟨v, a, b⟩:=q; ⟨v, a, b.mono (fun c n=>⟨n.1, c0 c n.2⟩) (fun _ _ _ e=>e) fun _ _ e=>e⟩
  | sn d=>exact let ⟨v, a, b⟩:=q; ⟨v, a, b.mono (fun c n=>⟨n.1, n.2.1, c0 c n.2.2⟩) (fun _ _ _ e=>e) fun _ _ e=>e⟩
  | dw r' d =>
   have hne : r'≠r:=by simpa [Sl.region] using z
   exact let ⟨v, a, b⟩:=q; ⟨v, a, b.mono (fun c n=>by unfold clearR; rw [n, if_neg (by simpa using hne)]) (fun _ _ _ e=>e) fun _ _ e=>e⟩
  | pen C=>exact q
  | rw r' L =>
   have hne : r'≠r:=by simpa [Sl.region] using z
   exact let ⟨st, as, a, b⟩:=q; ⟨st, as, a, b.mono (fun c o n e=>⟨by unfold clearR; rw [n, if_neg (by simpa using hne)], e⟩) fun _ _ e=>e⟩
  | tw r' L =>
   have hne : r'≠r:=by simpa [Sl.region] using z
   exact let ⟨st, as, a, b⟩:=q; ⟨st, as, a, b.mono (fun c o n e=>⟨by unfold clearR; rw [n, if_neg (by simpa using hne)], e⟩) fun _ _ e=>e⟩
  | scr v b=>exact q
  | sp r' b ds =>
   have hne : r'≠r:=by simpa [Sl.region] using z
   exact let ⟨l, vs, a, o, h, y⟩:=q; ⟨l, vs, a, by unfold clearR; rw [o, if_neg (by simpa using hne)], h, y.mono (fun c n=>⟨n.1, n.2.1, c0 c n.2.2⟩) (fun _ _ _ e=>e) fun _ _ e=>e⟩
theorem clear_frs {r : Nat} : FrS p own H (clearR r own) H:=⟨fun b o h n e=>⟨h, by unfold clearR; rw [e]; simp⟩, fun _ _ e=>e⟩
end
theorem ds_set {i : Nat} (rg : Option Nat) (h : PS X st (tAsg (liftE te) (gName i))) : PDS X st (dSet i rg te):=PS.wk' h (by
 rintro Q σ H ⟨p, H0, own, ρ, P, E, t, w⟩
 refine ⟨p, H0, own, ρ, _, E, t, fun k d v H1 h A r=>?_⟩
 have r:=rp_norm r
 generalize norm k d = k' at h r
 show Q.nx (σ.set i (some v)) H1
 have E1:=E.go A.kp A.pen
 have fin : ∀ s, SlotOk p H0 own (σ.set i (some v)) H1 i s\/¬ i < σ.length->P.nx (ρ.set i s)->Q.nx (σ.set i (some v)) H1:=fun s hs hn =>
  w.nx own _ H1 _ (E1.set fun hl=>hs.elim id fun z=>absurd hl z) A.frs hn
 have here : i < σ.length->(σ.set i (some v))[i]? = some (some v):=fun hl=>List.getElem?_set_self hl
 by_cases hl : i < σ.length
 ·cases k' with
  | imm=>exact fin (.im d) (.inl ⟨v, here hl, r⟩) h
  | new =>
   cases rg with
   | none=>exact fin (.sn d) (.inl ⟨v, here hl, rp_le A (k:=.snw) rfl r⟩) h
   | some q =>
    simp only [stK] at h
    by_cases hf : freeR q ρ i = true
    ·rw [if_pos hf] at h
     have E2 : EnvD p H0 (clearR q own) σ H (ρ.set i .any):=(E.drop (i:=i)).clear hf
     have A2 : At p H0 (clearR q own) H H1:=⟨A.k0, A.kp, A.penb, A.pen, E2.ow⟩
     have E3:=E2.adopt q A2
     have r2 : Rp (okK p H0 (clearR q own) H .new) H1 v d:=r
     have E4 : EnvD p H0 (adoptR q H H1 (clearR q own)) (σ.set i (some v)) H1 ((ρ.set i .any).set i (.dw q d)):=E3.set fun _=>⟨v, here hl, adopt_rp (k:=.new) rfl A2 r2⟩
     rw [List.set_set] at E4
     exact w.nx _ _ H1 _ E4 (clear_frs.trans (adopt_frs A2)) h
    ·rw [if_neg hf] at h
     exact h.elim
  | reg q=>exact fin (.dw q d) (.inl ⟨v, here hl, r⟩) h
  | n0=>exact h.elim
  | snw=>exact fin (.sn d) (.inl ⟨v, here hl, r⟩) h
  | shr=>exact fin (.sh d) (.inl ⟨v, here hl, r⟩) h
  | wk=>exact h.elim
 ·cases hs : stK rg ρ i k' d with
  | none=>rw [hs] at h; exact h.elim
  | some s=>rw [hs] at h; exact fin s (.inr hl) h)
end
variable [Gr]
section
variable {ok ok' : Addr->Prop} {H : Hp}
mutual
theorem Rp.inj : ∀ {v : V} {d d' : D}, Rp ok H v d->Rp ok' H v d'->d = d'
 | _, _, _, .non, .non=>rfl
 | _, _, _, .bl b, .bl _=>rfl
 | _, _, _, .int i, .int _=>rfl
 | _, _, _, .str x, .str _=>rfl
 | _, _, _, .lst o h r, .lst o' h' r'=>by
  rw [h] at h'; cases h'
  rw [Rps.inj r r']
 | _, _, _, .lst o h r, .tup h' r'=>by rw [h] at h'; cases h'
 | _, _, _, .lst o h r, .dct o' h' r'=>by rw [h] at h'; cases h'
 | _, _, _, .tup h r, .lst o' h' r'=>by rw [h] at h'; cases h'
 | _, _, _, .tup h r, .tup h' r'=>by
  rw [h] at h'; cases h'
  rw [Rps.inj r r']
 | _, _, _, .tup h r, .dct o' h' r'=>by rw [h] at h'; cases h'
 | _, _, _, .dct o h r, .lst o' h' r'=>by rw [h] at h'; cases h'
 | _, _, _, .dct o h r, .tup h' r'=>by rw [h] at h'; cases h'
 | _, _, _, .dct o h r, .dct o' h' r'=>by
  rw [h] at h'; cases h'
  rw [Rkv.inj r r']
theorem Rps.inj : ∀ {v : List V} {d d' : List D}, Rps ok H v d->Rps ok' H v d'->d = d'
 | _, _, _, .nil, .nil=>rfl
 | _, _, _, .cons h t, .cons h' t'=>by rw [Rp.inj h h', Rps.inj t t']
theorem Rkv.inj : ∀ {v : List (Key × V)} {d d' : List (D × D)}, Rkv ok H v d->Rkv ok' H v d'->d = d'
 | _, _, _, .nil, .nil=>rfl
 | _, _, _, .cons h t, .cons h' t'=>by rw [Rp.inj h h', Rkv.inj t t']
end
variable {l : Addr} {T : D}
mutual
theorem Rp.avoid (h0 : Rp ok' H (.ref l) T) : ∀ {v : V} {d : D}, Rp ok H v d->sizeOf d < sizeOf T->Rp (fun a=>ok a/\a≠l) H v d
 | _, _, .non, _=>.non
 | _, _, .bl b, _=>.bl b
 | _, _, .int i, _=>.int i
 | _, _, .str x, _=>.str x
 | _, _, .lst (ds:=ds) o h r, s=>.lst ⟨o, fun z=>by
   subst z
   have e:=Rp.inj (Rp.lst o h r) h0
   rw [e] at s
   exact absurd s (Nat.lt_irrefl _)⟩ h (Rps.avoid h0 r (by simp only [PyData.list.sizeOf_spec] at s; omega))
 | _, _, .tup (ds:=ds) h r, s=>.tup h (Rps.avoid h0 r (by simp only [PyData.tuple.sizeOf_spec] at s; omega))
 | _, _, .dct (ds:=ds) o h r, s=>.dct ⟨o, fun z=>by
   subst z
   have e:=Rp.inj (Rp.dct o h r) h0
   rw [e] at s
   exact absurd s (Nat.lt_irrefl _)⟩ h (Rkv.avoid h0 r (by simp only [PyData.dict.sizeOf_spec] at s; omega))
theorem Rps.avoid (h0 : Rp ok' H (.ref l) T) : ∀ {v : List V} {d : List D}, Rps ok H v d->sizeOf d < sizeOf T->Rps (fun a=>ok a/\a≠l) H v d
 | _, _, .nil, _=>.nil
 | _, _, .cons h t, s=>.cons (Rp.avoid h0 h (by simp only [List.cons.sizeOf_spec] at s; omega)) (Rps.avoid h0 t (by simp only [List.cons.sizeOf_spec] at s; omega))
theorem Rkv.avoid (h0 : Rp ok' H (.ref l) T) : ∀ {v : List (Key × V)} {d : List (D × D)}, Rkv ok H v d->sizeOf d < sizeOf T->Rkv (fun a=>ok a/\a≠l) H v d
 | _, _, .nil, _=>.nil
 | _, _, .cons h t, s=>.cons (Rp.avoid h0 h (by simp only [List.cons.sizeOf_spec, Prod.mk.sizeOf_spec] at s; omega)) (Rkv.avoid h0 t (by simp only [List.cons.sizeOf_spec] at s; omega))
end
end
noncomputable def forget (r : Nat) (ρ : List Sl) : List Sl:=ρ.map fun s=>if s.region = some r then .any else s
section
variable {p : Pn} {H0 H H1 : Hp} {own : Addr->Option Nat} {σ : L2.St} {ρ : List Sl} {i : Nat}
theorem EnvD.write {r : Nat} {l : Addr} {u o' : HO} (E : EnvD p H0 own σ H ρ) (hl : own l = some r) (ho : H l = some u) (hu : ∀ xs, u≠.tup xs) : EnvD p H0 own σ (upd H l o') (forget r ρ):=by
 have h0:=E.ow l r hl
 have tp : ∀ a xs, H a = some (.tup xs)->upd H l o' a = some (.tup xs):=fun a xs e=>by
  rw [upd_ne]; exact e
  intro z; subst z; rw [ho] at e; exact hu xs (Option.some.inj e)
 refine ⟨fun b o e n=>?_, p.mono H _ E.pen fun b o f e=>?_, fun a q e=>?_, fun j s e=>?_, by unfold forget; rw [List.length_map]; exact E.len, E.gr⟩
 ·rw [upd_ne]; exact E.k0 b o e n
  intro z; subst z; rw [h0.1] at e; cases e
 ·rw [upd_ne]; exact e
  intro z; subst z; exact h0.2.1 f
 ·obtain ⟨x, y, z⟩:=E.ow a q e
  refine ⟨x, y, ?_⟩
  by_cases hh : a = l
  ·subst hh; rw [upd_same]; exact fun z=>nomatch z
  ·rw [upd_ne hh]; exact z
 ·unfold forget at e
  rw [List.getElem?_map] at e
  cases hr : ρ[j]? with
  | none=>rw [hr] at e; cases e
  | some s0 =>
   rw [hr] at e
   have e:=Option.some.inj e
   have q:=E.slot j s0 hr
   have ne : ∀ c, own c≠some r->c≠l:=fun c n z=>by subst z; exact n hl
   cases s0 with
   | any=>simp only [Sl.region] at e; subst e; trivial
   | im d =>
    have e : Sl.im d = s:=e
    subst e
    exact let ⟨v, a, b⟩:=q; ⟨v, a, b.mono (fun _ o=>o) (fun _ _ o=>o.elim) tp⟩
   | sh d =>
    have e : Sl.sh d = s:=e
    subst e
    exact let ⟨v, a, b⟩:=q; ⟨v, a, b.mono (fun _ o=>o) (fun c o n e=>by rw [upd_ne (ne c (by rw [n.2]; exact fun z=>nomatch z))]; exact e) tp⟩
   | sn d =>
    have e : Sl.sn d = s:=e
    subst e
    exact let ⟨v, a, b⟩:=q; ⟨v, a, b.mono (fun _ o=>o) (fun c o n e=>by rw [upd_ne (ne c (by rw [n.2.2]; exact fun z=>nomatch z))]; exact e) tp⟩
   | dw r' d =>
    by_cases hrr : r' = r
    ·subst hrr
     have e : (if (some r' : Option Nat) = some r' then Sl.any else Sl.dw r' d) = s:=e
     rw [if_pos rfl] at e
     subst e
     trivial
    ·have e : (if (some r' : Option Nat) = some r then Sl.any else Sl.dw r' d) = s:=e
     rw [if_neg (by simpa using hrr)] at e
     subst e
     exact let ⟨v, a, b⟩:=q; ⟨v, a, b.mono (fun _ o=>o) (fun c o n e=>by rw [upd_ne (ne c (by rw [n]; simpa using hrr))]; exact e) tp⟩
   | pen C =>
    have e : Sl.pen C = s:=e
    subst e
    exact q
   | scr v b =>
    have e : Sl.scr v b = s:=e
    subst e
    exact q
   | sp r' b ds =>
    by_cases hrr : r' = r
    ·subst hrr
     have e : (if (some r' : Option Nat) = some r' then Sl.any else Sl.sp r' b ds) = s:=e
     rw [if_pos rfl] at e
     subst e
     trivial
    ·have e : (if (some r' : Option Nat) = some r then Sl.any else Sl.sp r' b ds) = s:=e
     rw [if_neg (by simpa using hrr)] at e
     subst e
     exact let ⟨l', vs, a, o, h, y⟩:=q; ⟨l', vs, a, o, by rw [upd_ne (ne l' (by rw [o]; simpa using hrr))]; exact h, y.mono (fun _ o=>o) (fun c o n e=>by rw [upd_ne (ne c (by rw [n.2.2]; exact fun z=>nomatch z))]; exact e) tp⟩
   | rw r' L =>
    by_cases hrr : r' = r
    ·subst hrr
     have e : (if (some r' : Option Nat) = some r' then Sl.any else Sl.rw r' L) = s:=e
     rw [if_pos rfl] at e
     subst e
     trivial
    ·have e : (if (some r' : Option Nat) = some r then Sl.any else Sl.rw r' L) = s:=e
     rw [if_neg (by simpa using hrr)] at e
     subst e
     exact let ⟨st, as, a, b⟩:=q; ⟨st, as, a, b.mono (fun c o n e=>⟨n, by rw [upd_ne (ne c (by rw [n]; simpa using hrr))]; exact e⟩) tp⟩
   | tw r' L =>
    by_cases hrr : r' = r
    ·subst hrr
     have e : (if (some r' : Option Nat) = some r' then Sl.any else Sl.tw r' L) = s:=e
     rw [if_pos rfl] at e
     subst e
     trivial
    ·have e : (if (some r' : Option Nat) = some r then Sl.any else Sl.tw r' L) = s:=e
     rw [if_neg (by simpa using hrr)] at e
     subst e
     exact let ⟨st, as, a, b⟩:=q; ⟨st, as, a, b.mono (fun c o n e=>⟨n, by rw [upd_ne (ne c (by rw [n]; simpa using hrr))]; exact e⟩) tp⟩
theorem write_frs {r : Nat} {l : Addr} {u o' : HO} (hl : own l = some r) (ho : H l = some u) (hu : ∀ xs, u≠.tup xs) : FrS p own H own (upd H l o'):=by
 refine ⟨fun b o h n e=>⟨?_, e⟩, fun a xs e=>?_⟩
 ·rw [upd_ne]; exact h
  intro z; subst z; rw [hl] at e; cases e
 ·rw [upd_ne]; exact e
  intro z; subst z; rw [ho] at e; exact hu xs (Option.some.inj e)
theorem EnvD.put {v : V} {s : Sl} (E : EnvD p H0 own σ H ρ) (hs : SlotOk p H0 own σ H i s) : EnvD p H0 own σ H (ρ.set i s):=by
 refine ⟨E.k0, E.pen, E.ow, fun j s' e=>?_, by simpa using E.len, E.gr⟩
 by_cases hj : j = i
 ·subst hj
  have hl : j < ρ.length:=by
   have:=(List.getElem?_eq_some_iff.mp e).1
   simpa using this
  rw [List.getElem?_set_self hl] at e
  cases e
  exact hs
 ·rw [List.getElem?_set_ne (Ne.symm hj)] at e
  exact E.slot j s' e
theorem EnvD.relist {r : Nat} {l : Addr} {vs vs' : List V} {ds ds' : List D} (E : EnvD p H0 own σ H ρ) (A : At p H0 own H H1) (hv : σ[i]? = some (some (.ref l))) (hl : own l = some r) (ho : H l = some (.lst vs)) (rs : Rps (fun a=>own a = some r) H vs ds)
  (hs : ∀ H2, (∀ {w : V} {d : D}, Rp (fun a=>own a = some r) H w d->sizeOf d < sizeOf (PyData.list ds)->Rp (fun a=>adoptR r H H1 own a = some r) H2 w d)->(∀ {w : V} {d : D}, Rp (okK p H0 own H .new) H1 w d->Rp (fun a=>adoptR r H H1 own a = some r) H2 w d)->Rps (fun a=>adoptR r H H1 own a = some r) H2 vs' ds') :
  EnvD p H0 (adoptR r H H1 own) σ (upd H1 l (.lst vs')) ((forget r ρ).set i (.dw r (.list ds')))/\FrS p own H (adoptR r H H1 own) (upd H1 l (.lst vs')):=by
 have h1 : H1 l = some (.lst vs):=A.kp l _ ho (E.ow l r hl).2.1
 have hl' : adoptR r H H1 own l = some r:=by rw [adopt_old ho]; exact hl
 have E1:=(E.adopt r A).write (o':=.lst vs') hl' h1 (fun xs z=>nomatch z)
 have tp : ∀ a xs, H1 a = some (.tup xs)->upd H1 l (.lst vs') a = some (.tup xs):=fun a xs e=>by
  rw [upd_ne]; exact e
  intro z; subst z; rw [h1] at e; cases e
 refine ⟨E1.put (v:=.ref l) ⟨.ref l, hv, .lst hl' upd_same (hs _ ?_ ?_)⟩, (adopt_frs A).trans (write_frs hl' h1 fun xs z=>nomatch z)⟩
 ·intro w d x sz
  have x1:=Rp.avoid (Rp.lst (ok:=fun a=>own a = some r) hl ho rs) x sz
  exact x1.mono2 (fun a o n e=>⟨by rw [adopt_old e]; exact n.1, by rw [upd_ne n.2]; exact A.kp a o e (E.ow a r n.1).2.1⟩) fun a xs e=>tp a xs (kp_tup E.at A.kp a xs e)
 ·intro w d x
  exact x.mono2 (fun a o n e=>⟨adopt_new n e, by rw [upd_ne (fun z=>by subst z; rw [ho] at n; cases n)]; exact e⟩) tp
end
section
variable {X : Cx} {pos : Pos} {st : Stmt} {e : Expr} {te : DE} {i : Nat} {ta : DA}
theorem sz_of_mem {d : D} {ds : List D} (h : d∈ds) : sizeOf d < sizeOf (PyData.list ds):=by
 have:=List.sizeOf_lt_of_mem h
 simp only [PyData.list.sizeOf_spec]
 omega
theorem rps_map {ok ok' : Addr->Prop} {H H2 : Hp} {T : D} (f : ∀ {w : V} {d : D}, Rp ok H w d->sizeOf d < sizeOf T->Rp ok' H2 w d) : ∀ {vs : List V} {ds : List D}, Rps ok H vs ds->(∀ d∈ds, sizeOf d < sizeOf T)->Rps ok' H2 vs ds
 | _, _, .nil, _=>.nil
 | _, _, .cons h t, s=>.cons (f h (s _ List.mem_cons_self)) (rps_map f t fun d hd=>s d (List.mem_cons_of_mem _ hd))
noncomputable def dApp (i : Nat) (te : DE) : DS:=fun P ρ=>match ρ[i]? with
 | some (.dw r (.list ds))=>te ρ fun k d=>(norm k d).le .new = true/\ds.length < 1000/\P.nx ((forget r ρ).set i (.dw r (.list (ds ++ [d]))))
 | _=>False
theorem ds_append (h : PS X st (tDrop (tBM X.K "list" rAppend (tVar i) (liftA (aCons te aNil))))) : PDS X st (dApp i te):=PS.wk' h (by
 rintro Q σ H ⟨p, H0, own, ρ, P, E, t, w⟩
 unfold dApp at t
 split at t
 ·rename_i r ds hr
  obtain ⟨v, hv, x⟩:=E.slot i _ hr
  obtain ⟨l, vs, rfl, hl, ho, rs⟩:=x.lst'
  refine ⟨.ref l, hv, .inl ⟨rfl, vs, SqL.of ho⟩, p, H0, own, ρ, fun ks=>∃ k d, ks = [(k, d)]/\(norm k d).le .new = true/\ds.length < 1000/\P.nx ((forget r ρ).set i (.dw r (.list (ds ++ [d])))), E, ?_, ?_⟩
  ·show te ρ fun k d=>∃ k' d', [(k, d)] = [(k', d')]/\_
   have e : (fun k d=>∃ k' d', [((k, d) : Kd × D)] = [(k', d')]/\(norm k' d').le .new = true/\ds.length < 1000/\P.nx ((forget r ρ).set i (.dw r (.list (ds ++ [d']))))) = fun k d=>(norm k d).le .new = true/\ds.length < 1000/\P.nx ((forget r ρ).set i (.dw r (.list (ds ++ [d])))):=by
    funext k d
    apply propext
    constructor
    ·rintro ⟨k', d', e, h⟩
     cases e
     exact h
    ·exact fun h=>⟨k, d, rfl, h⟩
   rw [e]
   exact t
  ·rintro ks ws H1 ⟨k, d, rfl, hk, hlen, hn⟩ A rk
   obtain ⟨y, rfl, ry⟩:=rpk1 rk
   have ry:=rp_le A hk (rp_norm ry)
   have h1 : H1 l = some (.lst vs):=A.kp l _ ho (E.ow l r hl).2.1
   have h24:=sizeLine_eq
   have hln:=rs.length
   refine ⟨l, vs, y, rfl, rfl, h1, by omega, ?_⟩
   obtain ⟨E2, F2⟩:=E.relist (vs':=vs ++ [y]) (ds':=ds ++ [d]) A hv hl ho rs fun H2 f g=>(rps_map f rs fun d hd=>sz_of_mem hd).snoc (g ry)
   exact w.nx _ σ _ _ E2 F2 hn
 ·exact t.elim)
end
variable [Gr]
noncomputable abbrev DG:=Kd->D->List Sl->(List Sl->Prop)->Prop
noncomputable abbrev DGs:=Kd->List D->List Sl->(List Sl->Prop)->Prop
noncomputable def slotB (k : Kd) (d : D) : Sl:=match k with
 | .imm=>.im d
 | .new=>.sn d
 | .reg r=>.dw r d
 | .snw=>.sn d
 | .shr=>.sh d
 | _=>.any
noncomputable def okB (p : Pn) (H0 : Hp) (own : Addr->Option Nat) : Kd->Addr->Prop
 | .imm=>fun _=>False
 | .new=>fun a=>H0 a = none/\¬ p.fp a/\own a = none
 | .reg r=>fun a=>own a = some r
 | .snw=>fun a=>H0 a = none/\¬ p.fp a/\own a = none
 | .shr=>fun a=>¬ p.fp a/\own a = none
 | .n0=>fun _=>True
 | .wk=>fun _=>True
noncomputable def liftG (g : DG) : TG:=fun v σ H Q=>∃ p H0 own ρ k d P, EnvD p H0 own σ H ρ/\Rp (okB p H0 own k) H v d/\g k d ρ P/\∀ σ' ρ', EnvD p H0 own σ' H ρ'->P ρ'->Q σ' H
noncomputable def liftGs (g : DGs) : TGs:=fun vs σ H Q=>∃ p H0 own ρ k ds P, EnvD p H0 own σ H ρ/\Rps (okB p H0 own k) H vs ds/\g k ds ρ P/\∀ σ' ρ', EnvD p H0 own σ' H ρ'->P ρ'->Q σ' H
noncomputable abbrev PDG (X : Cx) (e : Expr) (g : DG) : Prop:=PG X e (liftG g)
theorem PG.wk {X : Cx} {e : Expr} {t t' : TG} (h : PG X e t) (w : ∀ v σ H Q, t' v σ H Q->t v σ H Q) : PG X e t':=fun pins s σ H v u Q I r q=>h pins s σ H v u Q I r (w v σ H Q q)
theorem PGs.wk {X : Cx} {e : List Expr} {t t' : TGs} (h : PGs X e t) (w : ∀ v σ H Q, t' v σ H Q->t v σ H Q) : PGs X e t':=fun pins s σ H v u Q I r q=>h pins s σ H v u Q I r (w v σ H Q q)
theorem rpB_norm {p : Pn} {H0 H : Hp} {own : Addr->Option Nat} {k : Kd} {v : V} {d : D} (r : Rp (okB p H0 own k) H v d) : Rp (okB p H0 own (norm k d)) H v d:=by
 by_cases h : immD d = true
 ·rw [norm_pos h]; exact r.imm h
 ·rw [norm_neg h]; exact r
section
variable {X : Cx} {pos : Pos} {e : Expr} {es : List Expr}
noncomputable def gNm (i : Nat) : DG:=fun k d ρ P=>P (ρ.set i (slotB (norm k d) d))
theorem slotB_ok {p : Pn} {H0 H : Hp} {own : Addr->Option Nat} {σ : L2.St} {i : Nat} {k : Kd} {v : V} {d : D} (r : Rp (okB p H0 own k) H v d) (h : σ[i]? = some (some v)) : SlotOk p H0 own σ H i (slotB k d):=by
 cases k with
 | imm=>exact ⟨v, h, r⟩
 | new=>exact ⟨v, h, r⟩
 | reg q=>exact ⟨v, h, r⟩
 | n0=>trivial
 | snw=>exact ⟨v, h, r⟩
 | shr=>exact ⟨v, h, r⟩
 | wk=>trivial
theorem dg_name {i : Nat} {x : Str} (h : PG X (.Name x pos) (gName i)) : PDG X (.Name x pos) (gNm i):=PG.wk h (by
 rintro v σ H Q ⟨p, H0, own, ρ, k, d, P, E, r, t, q⟩
 exact q _ _ (E.set fun hl=>slotB_ok (rpB_norm r) (List.getElem?_set_self hl)) t)
noncomputable def gsNil : DGs:=fun _ ds ρ P=>match ds with
 | []=>P ρ
 | _=>False
noncomputable def gsCons (g : DG) (gs : DGs) : DGs:=fun k ds ρ P=>match ds with
 | d :: r=>g (norm k d) d ρ fun ρ'=>gs k r ρ' P
 | []=>False
theorem dgs_nil : PGs X [] (liftGs gsNil):=PGs.wk pgs_nil (by
 rintro v σ H Q ⟨p, H0, own, ρ, k, ds, P, E, r, t, q⟩
 cases ds with
 | nil=>cases r; exact ⟨rfl, q _ _ E t⟩
 | cons d ds=>exact t.elim)
theorem dgs_cons {g : DG} {gs : DGs} (h1 : PDG X e g) (h2 : PGs X es (liftGs gs)) (hs : (assignEach (e :: es) X.env).map (·.2) = assign e X.env :: (assignEach es X.env).map (·.2):=by rfl) : PGs X (e :: es) (liftGs (gsCons g gs)):=PGs.wk (pgs_cons h1 h2 hs) (by
 rintro v σ H Q ⟨p, H0, own, ρ, k, ds, P, E, r, t, q⟩
 cases r with
 | nil=>exact t.elim
 | cons r rs =>
  exact ⟨_, _, rfl, p, H0, own, ρ, _, _, _, E, rpB_norm r, t, fun σ' ρ' E' t'=>⟨p, H0, own, ρ', k, _, P, E', rs, t', q⟩⟩)
noncomputable def gTp (n : Nat) (gs : DGs) : DG:=fun k d ρ P=>match d with
 | .tuple ds=>ds.length = n/\gs k ds ρ P
 | _=>False
theorem dg_tup {gs : DGs} {k n : Nat} (hc : X.calm = true) (h : PGs X es (liftGs gs)) (hn : (assignEach es X.env).length = n:=by rfl) (hst : (assignEach es X.env).findIdx? (·.1) = none:=by rfl) : PDG X (.Tuple es k pos) (gTp n gs):=PG.wk (pg_tup hc h hn hst) (by
 rintro v σ H Q ⟨p, H0, own, ρ, k, d, P, E, r, t, q⟩
 cases d with
 | tuple ds =>
  obtain ⟨a, vs, rfl, ha, rs⟩:=r.tup'
  exact ⟨a, vs, rfl, SqT.of ha, by rw [rs.length]; exact t.1, p, H0, own, ρ, k, ds, P, E, rs, t.2, q⟩
 | _=>exact t.elim)
end
structure Wlk (Ok : Hp->Prop) (J : It) (ds : List D) (ok : Addr->Prop) : Prop where
 go : ∀ i H, Ok H->i < ds.length->J.go i H
 stop : ∀ H, Ok H->J.stop ds.length H
 yld : ∀ i H x H', Ok H->J.yld i H x H'->Same H H'/\∀ d, ds[i]? = some d->Rp ok H' x d
 stab : ∀ H H', Ok H->(∀ b o, ok b->H b = some o->H' b = some o)->(∀ a xs, H a = some (.tup xs)->H' a = some (.tup xs))->Ok H'
noncomputable abbrev DI:=List Sl->(Kd->List D->Prop)->Prop
noncomputable def okA (p : Pn) (H0 : Hp) (own : Addr->Option Nat) (Hb : Hp) (k : Kd) (H : Hp) (a : Addr) : Prop:=okK p H0 own Hb k a/\∃ o, H a = some o
noncomputable def liftI (t : DI) : TI:=fun σ H R=>∃ p H0 own ρ P, EnvD p H0 own σ H ρ/\t ρ P/\∀ k ds J H1 Ok, P k ds->At p H0 own H H1->Wlk Ok J ds (okA p H0 own H k H1)->Ok H1->R J H1
noncomputable abbrev PDI (X : Cx) (tg e : Expr) (t : DI) : Prop:=PI X tg e (liftI t)
theorem PI.wk {X : Cx} {tg e : Expr} {t t' : TI} (h : PI X tg e t) (w : ∀ σ H R, t' σ H R->t σ H R) : PI X tg e t':=fun pins s σ H R I q=>h pins s σ H R I (w σ H R q)
section
variable {X : Cx} {tg l : Expr} {tl : DE} {pos : Pos} {ta : DA}
theorem walk_lst {K : PySem.W.Frag} {ok : Addr->Prop} {a : Addr} {ds : List D} : Wlk (fun H=>Rp ok H (.ref a) (.list ds)) (Itl K a) ds ok where
 go:=fun i H r hi=>by
  obtain ⟨b, vs, e, o, h, rs⟩:=r.lst'
  cases e
  have : i < vs.length:=by rw [rs.length]; exact hi
  exact ⟨vs, vs[i], SqL.of h, by simp [this]⟩
 stop:=fun H r=>by
  obtain ⟨b, vs, e, o, h, rs⟩:=r.lst'
  cases e
  exact ⟨vs, SqL.of h, by rw [rs.length]; exact Nat.le_refl _⟩
 yld:=fun i H x H' r y=>by
  obtain ⟨rfl, y⟩:=y
  obtain ⟨b, vs, e, o, h, rs⟩:=r.lst'
  cases e
  refine ⟨Same.refl _, fun d hd=>?_⟩
  obtain ⟨v, hv, rv⟩:=rs.getD hd
  have:=y vs (SqL.of h)
  rw [hv] at this
  cases this
  exact rv
 stab:=fun H H' r f t=>r.mono2 (fun a o n e=>⟨n, f a o n e⟩) t
theorem walk_tup {K : PySem.W.Frag} {ok : Addr->Prop} {a : Addr} {ds : List D} : Wlk (fun H=>Rp ok H (.ref a) (.tuple ds)) (Itt K a) ds ok where
 go:=fun i H r hi=>by
  obtain ⟨b, vs, e, h, rs⟩:=r.tup'
  cases e
  have : i < vs.length:=by rw [rs.length]; exact hi
  exact ⟨vs, vs[i], SqT.of h, by simp [this]⟩
 stop:=fun H r=>by
  obtain ⟨b, vs, e, h, rs⟩:=r.tup'
  cases e
  exact ⟨vs, SqT.of h, by rw [rs.length]; exact Nat.le_refl _⟩
 yld:=fun i H x H' r y=>by
  obtain ⟨rfl, y⟩:=y
  obtain ⟨b, vs, e, h, rs⟩:=r.tup'
  cases e
  refine ⟨Same.refl _, fun d hd=>?_⟩
  obtain ⟨v, hv, rv⟩:=rs.getD hd
  have:=y vs (SqT.of h)
  rw [hv] at this
  cases this
  exact rv
 stab:=fun H H' r f t=>r.mono2 (fun a o n e=>⟨n, f a o n e⟩) t
theorem walk_rng {ok : Addr->Prop} {lo : Int} {n : Nat} : Wlk (fun _=>True) (Itr lo n) ((List.range n).map fun i=>PyData.int (lo + ((i : Nat) : Int))) ok where
 go:=fun i H r hi=>by
  have h : i < n:=by simpa using hi
  exact h
 stop:=fun H r=>by show n<=_; simp
 yld:=fun i H x H' r y=>by
  obtain ⟨rfl, rfl⟩:=y
  refine ⟨Same.refl _, fun d hd=>?_⟩
  rw [List.getElem?_map] at hd
  cases h : (List.range n)[i]? with
  | none=>rw [h] at hd; cases hd
  | some j =>
   rw [h] at hd
   have e:=Option.some.inj hd
   have hj : j = i:=by
    have:=List.getElem?_eq_some_iff.mp h
    obtain ⟨h1, h2⟩:=this
    simpa using h2.symm
   subst e hj
   exact .int _
 stab:=fun _ _ _ _ _=>trivial
theorem rpA {p : Pn} {H0 Hb H : Hp} {own : Addr->Option Nat} {k : Kd} {v : V} {d : D} (r : Rp (okK p H0 own Hb k) H v d) : Rp (okA p H0 own Hb k H) H v d:=r.mono2 (fun a o n e=>⟨⟨n, o, e⟩, e⟩) fun _ _ e=>e
noncomputable def iSq (tl : DE) : DI:=fun ρ P=>tl ρ fun k d=>match d with
 | .list ds=>P k ds
 | .tuple ds=>P k ds
 | _=>False
theorem di_seq (hl : PD X l tl) : PDI X tg l (iSq tl):=PI.wk (pi_seq hl) (by
 rintro σ H R ⟨p, H0, own, ρ, P, E, t, q⟩
 refine ⟨p, H0, own, ρ, _, E, t, fun k d v H1 h A r=>?_⟩
 cases d with
 | list ds =>
  obtain ⟨a, vs, rfl, o, ha, rs⟩:=r.lst'
  exact ⟨a, rfl, .inl ⟨⟨vs, SqL.of ha⟩, q k ds _ H1 _ h A walk_lst (rpA r)⟩⟩
 | tuple ds =>
  obtain ⟨a, vs, rfl, ha, rs⟩:=r.tup'
  exact ⟨a, rfl, .inr ⟨⟨vs, SqT.of ha⟩, q k ds _ H1 _ h A walk_tup (rpA r)⟩⟩
 | _=>exact h.elim)
noncomputable def intsD (lo : Int) (n : Nat) : List D:=(List.range n).map fun i=>PyData.int (lo + ((i : Nat) : Int))
noncomputable def iR1 (ta : DA) : DI:=fun ρ P=>ta ρ fun ks=>match ks with
 | [(_, .int j)]=>(-(2 ^ 62)<=j/\j < 2 ^ 62)/\P .imm (intsD 0 j.toNat)
 | _=>False
theorem di_range1 {a : Expr} {ps : Pos} (hm : X.mg "range" = none) (ha : PDA X [a] ta) (hg : Gl X "range":=by rfl) (hs : starEach [a] X.env = [(false, eval a X.env)]:=by rfl) : PDI X tg (.Call (.Name "range" ps) [a] [] pos) (iR1 ta):=PI.wk (pi_range1 hg hm ha hs) (by
 rintro σ H R ⟨p, H0, own, ρ, P, E, t, q⟩
 refine ⟨p, H0, own, ρ, _, E, t, fun ks vs H1 h A r=>?_⟩
 split at h
 ·rename_i k j
  obtain ⟨v, rfl, r'⟩:=rpk1 r
  exact ⟨j, by rw [r'.int'], h.1.1, h.1.2, q _ _ _ H1 _ h.2 A walk_rng trivial⟩
 ·exact h.elim)
noncomputable def iR2 (ta : DA) : DI:=fun ρ P=>ta ρ fun ks=>match ks with
 | [(_, .int i), (_, .int j)]=>(-(2 ^ 62)<=i/\i < 2 ^ 62/\-(2 ^ 62)<=j/\j < 2 ^ 62)/\P .imm (intsD i (j - i).toNat)
 | _=>False
theorem di_range2 {a b : Expr} {ps : Pos} (hm : X.mg "range" = none) (ha : PDA X [a, b] ta) (hg : Gl X "range":=by rfl) (hs : starEach [a, b] X.env = [(false, eval a X.env), (false, eval b X.env)]:=by rfl) (hs2 : starEach [b] X.env = [(false, eval b X.env)]:=by rfl) : PDI X tg (.Call (.Name "range" ps) [a, b] [] pos) (iR2 ta):=PI.wk (pi_range2 hg hm ha hs hs2) (by
 rintro σ H R ⟨p, H0, own, ρ, P, E, t, q⟩
 refine ⟨p, H0, own, ρ, _, E, t, fun ks vs H1 h A r=>?_⟩
 split at h
 ·rename_i k i k' j
  obtain ⟨v, w, rfl, r', r2⟩:=rpk2 r
  exact ⟨i, j, by rw [r'.int', r2.int'], h.1, q _ _ _ H1 _ h.2 A walk_rng trivial⟩
 ·exact h.elim)
noncomputable def enumD (ds : List D) : List D:=ds.zipIdx.map fun x=>PyData.tuple [.int ((x.2 : Nat) : Int), x.1]
theorem enumD_get {ds : List D} {i : Nat} : (enumD ds)[i]? = (ds[i]?).map fun d=>PyData.tuple [.int ((i : Nat) : Int), d]:=by
 unfold enumD
 rw [List.getElem?_map, List.getElem?_zipIdx]
 cases ds[i]? with
 | none=>rfl
 | some d=>simp
theorem enumD_len {ds : List D} : (enumD ds).length = ds.length:=by unfold enumD; simp
theorem walk_enum {K : PySem.W.Frag} {ok : Addr->Prop} {a : Addr} {ds : List D} : Wlk (fun H=>Rp ok H (.ref a) (.tuple ds)) (Ite K a) (enumD ds) ok where
 go:=fun i H r hi=>by
  obtain ⟨b, vs, e, h, rs⟩:=r.tup'
  cases e
  have : i < vs.length:=by rw [rs.length]; rw [enumD_len] at hi; exact hi
  exact ⟨vs, vs[i], SqT.of h, by simp [this]⟩
 stop:=fun H r=>by
  obtain ⟨b, vs, e, h, rs⟩:=r.tup'
  cases e
  exact ⟨vs, SqT.of h, by rw [rs.length, enumD_len]; exact Nat.le_refl _⟩
 yld:=fun i H x H' r y=>by
  obtain ⟨t, v, rfl, ht, rfl, y⟩:=y
  have sm : Same H (upd H t (.tup [.int i, v])):=fun b u q=>by rw [upd_ne (ne_of_none q ht)]; exact q
  refine ⟨sm, fun d hd=>?_⟩
  obtain ⟨b, vs, e, h, rs⟩:=r.tup'
  cases e
  rw [enumD_get] at hd
  cases he : ds[i]? with
  | none=>rw [he] at hd; cases hd
  | some d0 =>
   rw [he] at hd
   have e:=Option.some.inj hd
   subst e
   obtain ⟨v', hv, rv⟩:=rs.getD he
   have:=y vs (SqT.of h)
   rw [hv] at this
   cases this
   exact .tup upd_same (.cons (.int _) (.cons (rv.mono (fun _ o=>o) (fun a o _ e=>sm a o e) fun a xs e=>sm a _ e) .nil))
 stab:=fun H H' r f t=>r.mono2 (fun a o n e=>⟨n, f a o n e⟩) t
noncomputable def iEn (ta : DA) : DI:=fun ρ P=>ta ρ fun ks=>match ks with
 | [(k, .tuple ds)]=>P k (enumD ds)
 | _=>False
theorem di_enum {elts : List Expr} {kk : Nat} {tpos : Pos} {a : Expr} {ps : Pos} (hm : X.mg "enumerate" = none) (ha : PDA X [a] ta) (hg : Gl X "enumerate":=by rfl) (hs : starEach [a] X.env = [(false, eval a X.env)]:=by rfl) : PDI X (.Tuple elts kk tpos) (.Call (.Name "enumerate" ps) [a] [] pos) (iEn ta):=PI.wk (pi_enum hg hm ha hs) (by
 rintro σ H R ⟨p, H0, own, ρ, P, E, t, q⟩
 refine ⟨p, H0, own, ρ, _, E, t, fun ks vs H1 h A r=>?_⟩
 split at h
 ·rename_i k ds
  obtain ⟨v, rfl, r'⟩:=rpk1 r
  obtain ⟨a, vs, e, ha, rs⟩:=Rp.tup' r'
  subst e
  exact ⟨a, rfl, ⟨vs, SqT.of ha⟩, q k _ _ H1 _ h A walk_enum (rpA r')⟩
 ·exact h.elim)
end
variable [Gr]
noncomputable def elK : Kd->Kd
 | .new=>.snw
 | k=>k
section
variable {X : Cx} {tg iter : Expr} {pos : Pos} {body : List Stmt} {ti : DI} {g : DG} {tb : DS}
noncomputable def dFor (ti : DI) (g : DG) (tb : DS) : DS:=fun P ρ=>ti ρ fun k ds=>k.le .shr = true/\∃ Iv : Nat->List Sl->Prop, Iv 0 ρ /\
 (∀ i d ρ', ds[i]? = some d->Iv i ρ'->g (norm (elK k) d) d ρ' fun ρ2=>tb { nx:=Iv (i + 1), ct:=Iv (i + 1), bk:=P.nx, rt:=P.rt } ρ2)/\∀ ρ', Iv ds.length ρ'->P.nx ρ'
theorem okA_B {p : Pn} {H0 Hb H1 H' : Hp} {own own' : Addr->Option Nat} {k : Kd} (hk : k.le .shr = true) (A : At p H0 own Hb H1) (F : FrS p own H1 own' H') {v : V} {d : D} {H2 : Hp} (r : Rp (okA p H0 own Hb k H1) H2 v d) : Rp (okB p H0 own' (elK k)) H2 v d:=by
 refine r.mono (fun a n=>?_) (fun _ _ _ e=>e) fun _ _ e=>e
 obtain ⟨o, u, hu⟩:=n
 have o2 : ¬ p.fp a/\own a = none:=okK_le A (k:=.shr) hk o
 have f:=(F.keep a u hu o2.1 o2.2).2
 cases k with
 | imm=>exact o
 | new=>exact ⟨A.h0 o, o2.1, f⟩
 | reg q=>cases hk
 | n0=>cases hk
 | snw=>exact ⟨o.1, o2.1, f⟩
 | shr=>exact ⟨o2.1, f⟩
 | wk=>cases hk
theorem ds_for (hp : PassesOwn (model X.prog X.w) X.A X.env X.xe) (hc : X.calm = true) (hi : PDI X tg iter ti) (hg : PDG X tg g) (hb : PDSs X body tb) (hs : ∀ x, foldedSetIterable iter X.env x = pure x:=by intro _; rfl) : PDS X (.For tg iter body [] pos) (dFor ti g tb):=PS.wk' (ps_for hp hc hi hg hb hs) (by
 rintro Q σ H ⟨p, H0, own, ρ, P, E, t, w⟩
 refine ⟨p, H0, own, ρ, _, E, t, fun k ds J H1 Ok h A W o1=>?_⟩
 obtain ⟨hk, Iv, i0, step, done⟩:=h
 have w1:=w.go A.frs
 have okS : ∀ own' H', FrS p own H1 own' H'->Ok H':=fun own' H' F=>W.stab H1 H' o1 (fun b o n e=>by
  have o2 : ¬ p.fp b/\own b = none:=okK_le A (k:=.shr) hk n.1
  exact (F.keep b o e o2.1 o2.2).1) F.tup
 refine ⟨fun i m σ' H'=>m = ds.length - i/\i<=ds.length/\∃ own' ρ', EnvD p H0 own' σ' H' ρ'/\FrS p own H1 own' H'/\Iv i ρ', ⟨_, rfl, Nat.zero_le _, own, ρ, E.go A.kp A.pen, FrS.refl, i0⟩, ?_⟩
 rintro i m σ' H' ⟨rfl, hi, own', ρ', E', F', iv⟩
 have oH:=okS own' H' F'
 by_cases hlt : i < ds.length
 ·refine .inr ⟨W.go i H' oH hlt, fun σ2 H2=>∃ own' ρ', EnvD p H0 own' σ2 H2 ρ'/\FrS p own H1 own' H2/\Iv (i + 1) ρ', fun σ2 H2 h=>⟨_, by omega, rfl, hlt, h⟩, fun x H2 y=>?_⟩
  obtain ⟨sm, rx⟩:=W.yld i H' x H2 oH y
  have rx:=rx ds[i] (List.getElem?_eq_getElem hlt)
  have E2 : EnvD p H0 own' σ' H2 ρ':=E'.go (Kp.of sm) (p.mono H' H2 E'.pen fun b o _ e=>sm b o e)
  have F2 : FrS p own H1 own' H2:=⟨fun b o e n z=>let ⟨x, y⟩:=F'.keep b o e n z; ⟨sm b o x, y⟩, fun a xs e=>sm a _ (F'.tup a xs e)⟩
  refine ⟨p, H0, own', ρ', _, _, _, E2, rpB_norm (okA_B hk A F2 rx), step i ds[i] ρ' (List.getElem?_eq_getElem hlt) iv, fun σ3 ρ3 E3 t3=>?_⟩
  have nxt : ∀ own4 σ4 H4 ρ4, EnvD p H0 own4 σ4 H4 ρ4->FrS p own' H2 own4 H4->Iv (i + 1) ρ4->∃ own' ρ', EnvD p H0 own' σ4 H4 ρ'/\FrS p own H1 own' H4/\Iv (i + 1) ρ':=fun own4 σ4 H4 ρ4 E4 F4 v4=>⟨own4, ρ4, E4, F2.trans F4, v4⟩
  exact ⟨p, H0, own', ρ3, _, E3, t3, ⟨nxt, w.rt, fun o s h r e f n=>w1.nx o s h r e (F2.trans f) n, nxt⟩⟩
 ·have e : i = ds.length:=by omega
  subst e
  exact .inl ⟨W.stop H' oH, w1.nx own' σ' H' ρ' E' F' (done ρ' iv)⟩)
noncomputable def dWhile (tc : DT) (tb : DS) : DS:=fun P ρ=>∃ Iv : Nat->List Sl->Prop, (∃ m, Iv m ρ)/\∀ m ρ', Iv m ρ'->tc ρ' fun b =>
 if b = true then tb { nx:=fun ρ2=>∃ m', m' < m/\Iv m' ρ2, ct:=fun ρ2=>∃ m', m' < m/\Iv m' ρ2, bk:=P.nx, rt:=P.rt } ρ' else P.nx ρ'
theorem ds_while {c : Expr} {tc : DT} (hp : PassesOwn (model X.prog X.w) X.A X.env X.xe) (hc : PDT X c tc) (hb : PDSs X body tb) : PDS X (.While c body [] pos) (dWhile tc tb):=PS.wk' (ps_while hp hc hb) (by
 rintro Q σ H ⟨p, H0, own, ρ, P, E, ⟨Iv, ⟨m, i0⟩, step⟩, w⟩
 refine ⟨fun m σ' H'=>∃ own' ρ', EnvD p H0 own' σ' H' ρ'/\FrS p own H own' H'/\Iv m ρ', ⟨m, own, ρ, E, FrS.refl, i0⟩, ?_⟩
 rintro m σ1 H1 ⟨own1, ρ1, E1, F1, iv⟩
 refine ⟨p, H0, own1, ρ1, _, E1, step m ρ1 iv, fun b H2 h A=>?_⟩
 have F2:=F1.trans A.frs
 cases b with
 | true =>
  refine iteT ⟨fun σ' H'=>∃ m', m' < m/\∃ own' ρ', EnvD p H0 own' σ' H' ρ'/\FrS p own H own' H'/\Iv m' ρ', fun σ' H' h=>h, ?_⟩
  have nxt : ∀ own4 σ4 H4 ρ4, EnvD p H0 own4 σ4 H4 ρ4->FrS p own1 H2 own4 H4->(∃ m', m' < m/\Iv m' ρ4)->∃ m', m' < m/\∃ own' ρ', EnvD p H0 own' σ4 H4 ρ'/\FrS p own H own' H4/\Iv m' ρ':=fun own4 σ4 H4 ρ4 E4 F4 ⟨m', hm, v4⟩=>⟨m', hm, own4, ρ4, E4, F2.trans F4, v4⟩
  exact ⟨p, H0, own1, ρ1, { nx:=fun ρ2=>∃ m', m' < m/\Iv m' ρ2, ct:=fun ρ2=>∃ m', m' < m/\Iv m' ρ2, bk:=P.nx, rt:=P.rt }, E1.go A.kp A.pen, by simpa using h, ⟨nxt, w.rt, fun o s h r e f n=>w.nx o s h r e (F2.trans f) n, nxt⟩⟩
 | false=>exact iteF (w.nx own1 σ1 H2 ρ1 (E1.go A.kp A.pen) F2 (by simpa using h)))
end
theorem EnvD.comp {p : Pn} {H0 H : Hp} {own : Addr->Option Nat} {σ : L2.St} {ρ : List Sl} (n : Nat) (E : EnvD p H0 own σ H ρ) : EnvD p H0 own (List.replicate n none ++ σ) H (List.replicate n .any ++ ρ):=by
 refine ⟨E.k0, E.pen, E.ow, fun j s e=>?_, by simp [E.len], E.gr⟩
 by_cases hj : j < n
 ·rw [List.getElem?_append_left (by simpa using hj)] at e
  have : s = .any:=by
   rw [List.getElem?_replicate] at e
   rw [if_pos hj] at e
   exact (Option.some.inj e).symm
  subst this
  trivial
 ·have e1 : (List.replicate n Sl.any ++ ρ)[j]? = ρ[j - n]?:=by rw [List.getElem?_append_right (by simpa using hj)]; simp
  have e2 : (List.replicate n (none : Option V) ++ σ)[j]? = σ[j - n]?:=by rw [List.getElem?_append_right (by simpa using hj)]; simp
  rw [e1] at e
  have q:=E.slot _ s e
  cases s <;> simp only [SlotOk, e2] at q ⊢ <;> exact q
noncomputable abbrev PDTs (X : Cx) (es : List Expr) (t : DT) : Prop:=PTs X es (liftT t)
theorem dts_nil {X : Cx} : PDTs X [] (fun _ P=>P true):=fun pins s σ H Q I h=>by
 obtain ⟨p, H0, own, ρ, P, E, t, q⟩:=h
 exact pts_nil pins s σ H Q I (q true H t E.at)
theorem dts_one {X : Cx} {c : Expr} {t : DT} (hc : PDT X c t) : PDTs X [c] t:=pts_one hc
noncomputable def elC (k : Kd) : Kd:=elK k
noncomputable def dLC (n : Nat) (ti : DI) (g : DG) (tt : DT) (te : DE) : DE:=fun ρ P=>ti ρ fun k ds=>ds.length<=1000/\∃ (ke : Kd) (Iv : Nat->List D->Prop), Iv 0 [] /\
 (∀ i d ys, ds[i]? = some d->Iv i ys->g (norm (elC k) d) d (List.replicate n .any ++ ρ) fun ρ'=>tt ρ' fun b=>if b = true then te ρ' fun k' d'=>(norm k' d').le ke = true/\Iv (i + 1) (ys ++ [d']) else Iv (i + 1) ys) /\
 ∀ ys, Iv ds.length ys->P (ke.join .new) (.list ys)
theorem okA_C {p : Pn} {H0 Hb H1 : Hp} {own : Addr->Option Nat} {k : Kd} (A : At p H0 own Hb H1) {v : V} {d : D} {H2 : Hp} (r : Rp (okA p H0 own Hb k H1) H2 v d) : Rp (okB p H0 own (elC k)) H2 v d:=by
 refine r.mono (fun a n=>?_) (fun _ _ _ e=>e) fun _ _ e=>e
 obtain ⟨o, u, hu⟩:=n
 cases k with
 | imm=>exact o
 | new=>exact ⟨A.h0 o, A.nfb o, A.own0 o⟩
 | reg q=>exact o
 | n0=>trivial
 | snw=>exact o
 | shr=>exact o
 | wk=>trivial
section
variable {X : Cx} {own : List Str} {scope : Scope} {tg iter elt : Expr} {ifs : List Expr} {pos : Pos} {ti : DI} {g : DG} {tt : DT} {te : DE}
theorem lift_lc {n : Nat} : ∀ σ H Q, liftE (dLC n ti g tt te) σ H Q->tLC n (liftI ti) (fun _=>liftG g) (fun _=>liftT tt) (fun _=>liftE te) σ H Q:=by
 rintro σ H Q ⟨p, H0, own, ρ, P, E, t, q⟩
 refine ⟨p, H0, own, ρ, _, E, t, fun k ds J H1 Ok h A W o1=>?_⟩
 obtain ⟨hlen, ke, Iv, i0, step, done⟩:=h
 have okS : ∀ H', Kp p H1 H'->p.PI H'->Ok H':=fun H' K i=>W.stab H1 H' o1 (fun b o n e=>K b o e (okK_nfp A n.1)) (kp_tup A K)
 refine ⟨fun i m ys H'=>m = ds.length - i/\i<=ds.length/\Kp p H1 H'/\p.PI H'/\∃ es, Rps (okK p H0 own H ke) H' ys es/\es.length<=i/\Iv i es, ⟨_, rfl, Nat.zero_le _, Kp.refl, A.pen, [], .nil, Nat.le_refl _, i0⟩, ?_⟩
 rintro c i m ys H' ⟨rfl, hi, K', I', es, rs, hl, iv⟩
 have oH:=okS H' K' I'
 have A':=A.go K' I'
 have h24:=sizeLine_eq
 by_cases hlt : i < ds.length
 ·refine .inr ⟨W.go i H' oH hlt, by have:=rs.length; omega, fun ys' H2=>Kp p H1 H2/\p.PI H2/\∃ es, Rps (okK p H0 own H ke) H2 ys' es/\es.length<=i + 1/\Iv (i + 1) es, fun ys' H2 h=>⟨_, by omega, rfl, hlt, h⟩, fun x H2 y=>?_⟩
  obtain ⟨sm, rx⟩:=W.yld i H' x H2 oH y
  have rx:=rx ds[i] (List.getElem?_eq_getElem hlt)
  have I2 : p.PI H2:=p.mono H' H2 I' fun b o _ e=>sm b o e
  have K2 : Kp p H1 H2:=K'.trans (Kp.of sm)
  have A2:=A.go K2 I2
  have E2 : EnvD p H0 own σ H2 ρ:=E.go A2.kp A2.pen
  have rs2:=rps_go A' (Kp.of sm) rs
  refine ⟨p, H0, own, _, _, _, _, E2.comp n, rpB_norm (okA_C A rx), step i ds[i] es (List.getElem?_eq_getElem hlt) iv, fun σ3 ρ3 E3 t3=>?_⟩
  refine ⟨p, H0, own, ρ3, _, E3, t3, fun b H4 h4 A4=>?_⟩
  have A5 : At p H0 own H H4:=A2.base A4
  have rs4:=rps_go A2 A4.kp rs2
  cases b with
  | true =>
   refine iteT ⟨p, H0, own, ρ3, _, E3.go A4.kp A4.pen, by simpa using h4, fun k' d' v H6 h6 A6 r6=>?_⟩
   refine ⟨(K2.trans A4.kp).trans A6.kp, A6.pen, es ++ [d'], (rps_go A5 A6.kp rs4).snoc (rp_le (A5.base A6) h6.1 (rp_norm (rp_base A5 r6))), by simp; omega, h6.2⟩
  | false=>exact iteF ⟨K2.trans A4.kp, A4.pen, es, rs4, by omega, by simpa using h4⟩
 ·have e : i = ds.length:=by omega
  subst e
  refine .inl ⟨W.stop H' oH, fun l hl'=>?_⟩
  obtain ⟨k7, i7, nw⟩:=A'.new hl' (.lst ys)
  have j:=le_join ke .new
  refine q _ _ _ _ (done es iv) (A'.go k7 i7) (.lst (okK_le A' j.2 nw) upd_same ?_)
  exact (rps_go A' k7 rs).mono (fun a o=>okK_le A' j.1 o) (fun _ _ _ e=>e) fun _ _ e=>e
theorem pd_lc (own : List Str) (hc : X.calm = true) (hi : PDI X tg iter ti) (hg : ∀ c, PDG (X.comp own scope c) tg g) (ht : ∀ c, PDTs (X.comp own scope c) ifs tt) (he : ∀ c, PD (X.comp own scope c) elt te)
  (hk : compOk X.env scope X.N = true:=by rfl) (hs : ∀ x, foldedSetIterable iter X.env x = pure x:=by intro _; rfl) :
  PD X (.ListComp elt [⟨tg, iter, ifs, 0⟩] scope pos) (dLC own.length ti g tt te):=PE.wk (pe_lc own hc hi hg ht he hk hs) lift_lc
end
noncomputable def argS (d : D) : Sl:=if immD d then .im d else .sh d
theorem env_start {p : Pn} {H : Hp} {N : List Str} {vs : List V} {ds : List D} (g : Gr.G p H) (hp : p.PI H) (r : Rps (fun a=>¬ p.fp a) H vs ds) : EnvD p H (fun _=>none) (L2.start N vs) H (ds.map argS ++ List.replicate (N.length - vs.length) .any):=by
 refine ⟨fun _ _ e _=>e, hp, (fun _ _ e=>nomatch e), fun j s e=>?_, by unfold L2.start; simp [r.length], g⟩
 by_cases hj : j < ds.length
 ·rw [List.getElem?_append_left (by simpa using hj), List.getElem?_map] at e
  obtain ⟨v, hv, rv⟩:=r.getD (List.getElem?_eq_getElem hj)
  rw [List.getElem?_eq_getElem hj] at e
  have e:=Option.some.inj e
  have hs : (L2.start N vs)[j]? = some (some v):=by
   unfold L2.start
   rw [List.getElem?_append_left (by rw [List.length_map, r.length]; exact hj), List.getElem?_map, hv]
   rfl
  subst e
  unfold argS
  by_cases hi : immD ds[j] = true
  ·rw [if_pos hi]; exact ⟨v, hs, rv.imm hi⟩
  ·rw [if_neg hi]; exact ⟨v, hs, rv.mono (fun _ o=>⟨o, rfl⟩) (fun _ _ _ e=>e) fun _ _ e=>e⟩
 ·rw [List.getElem?_append_right (by simpa using hj), List.getElem?_replicate] at e
  split at e
  ·cases e; trivial
  ·cases e
theorem enterD {f : List D->(D->Prop)->Prop} {T : DS} {N : List Str} {vs : List V} {H : Hp} {Q : VK} {E : XK} (h : spD f vs H Q E)
  (body : ∀ ds P, f ds P->T { nx:=fun _=>P .none, rt:=P } (ds.map argS ++ List.replicate (N.length - ds.length) .any)) (g : Gr.G noPen H:=by trivial) : liftS T { nx:=fun _ H'=>Q .non H', rt:=Q } (L2.start N vs) H:=by
 obtain ⟨ds, P, r, t, q⟩:=h
 have E:=env_start (p:=noPen) (N:=N) g trivial (r.mono (ok':=fun a=>¬ noPen.fp a) (fun _ _ z=>z) (fun _ _ _ e=>e) fun _ _ e=>e)
 rw [r.length] at E
 have sm : ∀ H', (∀ b o, H b = some o->¬ noPen.fp b->H' b = some o)->Same H H':=fun H' k b o e=>k b o e fun z=>z
 refine ⟨noPen, H, fun _=>none, _, _, E, body ds P t, ⟨fun o s h' r' e' _ n=>q _ _ h' n (sm h' e'.k0) .non, fun d v h' n w=>q d v h' n (sm h' w.k0) (w.rp.mono (fun _ o=>o.1) (fun _ _ _ e=>e) fun _ _ e=>e), fun _ _ _ _ _ _ n=>n.elim, fun _ _ _ _ _ _ n=>n.elim⟩⟩
theorem enterP {C : Pn->Prop} {f : List D->(D->Prop)->Prop} {T : DS} {N : List Str} {vs : List V} {H : Hp} {Q : VK} {E : XK} (h : spP C f vs H Q E)
  (body : ∀ ds P, f ds P->T { nx:=fun _=>P .none, rt:=P } (.pen C :: (ds.map argS ++ List.replicate (N.length - (ds.length + 1)) .any))) (g : ∀ p, Gr.G p H:=by intro _; trivial) : liftS T { nx:=fun _ H'=>Q .non H', rt:=Q } (L2.start N vs) H:=by
 obtain ⟨p, vs', ds, P, c, rfl, pi, r, t, q⟩:=h
 have E0:=env_start (p:=p) (N:=N.drop 1) (g p) pi r
 have E : EnvD p H (fun _=>none) (L2.start N (p.pv :: vs')) H (.pen C :: (ds.map argS ++ List.replicate (N.length - (ds.length + 1)) .any)):=by
  refine ⟨fun _ _ e _=>e, pi, (fun _ _ e=>nomatch e), fun j s e=>?_, by unfold L2.start; simp [r.length], g p⟩
  cases j with
  | zero =>
   have e:=Option.some.inj e
   subst e
   exact ⟨rfl, c⟩
  | succ j =>
   rw [List.getElem?_cons_succ] at e
   have hl : N.length - (ds.length + 1) = (N.drop 1).length - vs'.length:=by rw [r.length, List.length_drop]; omega
   rw [hl] at e
   have q:=E0.slot j s e
   have es : (L2.start N (p.pv :: vs'))[j + 1]? = (L2.start (N.drop 1) vs')[j]?:=by
    unfold L2.start
    have : N.length - (p.pv :: vs').length = (N.drop 1).length - vs'.length:=by rw [List.length_drop, List.length_cons]; omega
    rw [this]
    simp
   cases s <;> simp only [SlotOk, es] at q ⊢ <;> exact q
 have nw : ∀ {H' v d}, RPost p H H' v d->Rp (fun a=>H a = none) H' v d:=fun w=>w.rp.mono (fun _ o=>o.1) (fun _ _ _ e=>e) fun _ _ e=>e
 exact ⟨p, H, fun _=>none, _, _, E, body ds P t, ⟨fun o s h' r' e' _ n=>q _ _ h' n e'.k0 e'.pen .non, fun d v h' n w=>q d v h' n w.k0 w.pen (nw w), fun _ _ _ _ _ _ n=>n.elim, fun _ _ _ _ _ _ n=>n.elim⟩⟩
end Dl
namespace PySem
open PyProof.Rows
noncomputable abbrev zipO (f0 : Value) (q : Bool) (TI TO : Addr) : Obj:={ cls:=.type "zip", data:=.fields #[f0, .bool q, .bool false, .ref TI, .ref TO] }
section
variable {prog : Program} {w : World} {A : Around} {E : Value->Shared->Prop} {s : Shared}
structure ZSt (z TI TO i1 i2 l1 l2 : Addr) (xs ys : Array Value) (i : Nat) (h : Heap) : Prop where
 zip : (i = 0/\h.get? z = some (zipO .none false TI TO))\/∃ (T : Addr) (q : Bool) (oT : Obj), h.get? z = some (zipO (rawInt T) q TI TO)/\h.get? T = some oT/\T≠z/\T≠i1/\T≠i2
 ti : h.get? TI = some { cls:=.type "tuple", data:=.seq #[.ref i1, .ref i2] }
 to : ∃ a b, h.get? TO = some { cls:=.type "tuple", data:=.seq #[a, b] }
 j1 : h.IsListIter i1 l1 i
 j2 : h.IsListIter i2 l2 i
 e1 : h.IsList l1 xs
 e2 : h.IsList l2 ys
variable {z TI TO i1 i2 l1 l2 : Addr} {xs ys : Array Value}
end
section
variable {prog : Program} {w : World} {A : Around} {z TI TO i1 i2 l1 l2 : Addr} {xs ys : Array Value} {R : Result->Shared->Prop}
end
end PySem
namespace L2
open PySem PySem.Spec PyProof.Rows
section
variable {X : Cx} {pins : List (Addr × Obj)} {σ : L2.St} {H : Hp} {s : Shared}
end
end L2
namespace Dl
open PySem L2 PyProof.Rows
variable [Gr]
section
variable {X : Cx} {pos : Pos} {a b c e : Expr} {es : List Expr} {ta tb tc te : DE} {t : DA}
noncomputable def newP (k : Kd) (ds : List D) (P : Kd->Prop) : Prop:=(immDs ds = true/\P .new)\/P (k.join .new)
theorem newP_ok {p : Pn} {H0 Hb H H2 : Hp} {own : Addr->Option Nat} (A : At p H0 own Hb H) {k : Kd} {vs : List V} {ds : List D} {P : Kd->Prop} {l : Addr} (r : Rps (okK p H0 own Hb k) H2 vs ds) (nw : okK p H0 own Hb .new l) (hl : H2 l = some (.lst vs)) (h : newP k ds P) : ∃ k', P k'/\Rp (okK p H0 own Hb k') H2 (.ref l) (.list ds):=by
 rcases h with ⟨i, h⟩ | h
 ·exact ⟨_, h, .lst nw hl ((Rps.imm r i).mono (fun _ o=>o.elim) (fun _ _ _ e=>e) fun _ _ e=>e)⟩
 ·exact ⟨_, h, .lst (okK_le A (le_join k .new).2 nw) hl (r.mono (fun a o=>okK_le A (le_join k .new).1 o) (fun _ _ _ e=>e) fun _ _ e=>e)⟩
theorem imm_ints : ∀ l : List Int, immDs (l.map PyData.int) = true
 | []=>rfl
 | x :: l=>by
  show (immD (.int x) && immDs (l.map PyData.int)) = true
  rw [imm_ints l]
  rfl
theorem imm_pairs : ∀ l : List Tie, immDs (l.map pD) = true
 | []=>rfl
 | x :: l=>by
  show (immD (pD x) && immDs (l.map pD)) = true
  rw [imm_pairs l]
  rfl
noncomputable def prD (p : D × D) : D:=.tuple [p.1, p.2]
noncomputable def gZip : GC:=fun ks P=>match ks with
 | [(k1, .list ds), (k2, .list es)]=>ds.length<=1000/\newP (k1.join k2) ((ds.zip es).map prD) fun k=>P k (.list ((ds.zip es).map prD))
 | _=>False
noncomputable def tCh (f g : Int->Int->Bool) (ta tb tc : DE) : DE:=fun ρ P=>ta ρ fun _ d1=>tb ρ fun _ d2=>match d1, d2 with
 | .int i, .int j=>if f i j = true then tc ρ fun _ d3=>(match d3 with
   | .int l=>P .imm (.bool (g j l))
   | _=>False) else P .imm (.bool false)
 | _, _=>False
theorem lift_ch {f g : Int->Int->Bool} : ∀ σ H Q, liftE (tCh f g ta tb tc) σ H Q->tChain (rI0 fun i j=>.bl (f i j)) (rI0 fun i j=>.bl (g i j)) (liftE ta) (liftE tb) (liftE tc) σ H Q:=by
 rintro σ H Q ⟨p, H0, own, ρ, P, E, t, q⟩
 refine ⟨p, H0, own, ρ, _, E, t, fun k1 d1 v1 H1 t1 A1 r1=>?_⟩
 refine ⟨p, H0, own, ρ, _, E.go A1.kp A1.pen, t1, fun k2 d2 v2 H2 t2 A2 r2=>?_⟩
 have A:=A1.base A2
 split at t2
 ·rename_i i j
  refine ⟨i, j, r1.int', r2.int', _, rfl, ?_⟩
  cases hf : f i j with
  | true =>
   rw [hf, if_pos rfl] at t2
   refine iteT ⟨p, H0, own, ρ, _, (E.go A1.kp A1.pen).go A2.kp A2.pen, t2, fun k3 d3 v3 H3 t3 A3 r3=>?_⟩
   cases d3 with
   | int l=>exact ⟨j, l, r2.int', r3.int', q _ _ _ _ t3 (A.base A3) (.bl _)⟩
   | _=>exact t3.elim
  | false =>
   rw [hf, if_neg Bool.false_ne_true] at t2
   exact iteF (q _ _ _ _ t2 A (.bl _))
 ·exact t2.elim
theorem pd_chLL (ha : PD X a ta) (hb : PD X b tb) (hc : PD X c tc) (hm : lastMarks [.LtE, .Lt] [b, c] = false:=by with_unfolding_all rfl) : PD X (.Compare a [.LtE, .Lt] [b, c] pos) (tCh (fun i j=>decide (i<=j)) (fun i j=>decide (i < j)) ta tb tc):=PE.wk (pe_chain op_le op_lt ha hb hc hm) lift_ch
theorem pdt_chain {op op' : CmpOp} {r r' : R2} {g : DE} (h : PT X (.Compare a [op, op'] [b, c] pos) (tTest (tChain r r' (liftE ta) (liftE tb) (liftE tc)))) (w : ∀ σ H Q, liftE g σ H Q->tChain r r' (liftE ta) (liftE tb) (liftE tc) σ H Q) : PDT X (.Compare a [op, op'] [b, c] pos) (tTst g) :=
 PT.wk h fun σ H Q q=>w σ H _ (lift_tst σ H Q q)
noncomputable def tNotD (ta : DE) : DE:=fun ρ P=>ta ρ fun _ d=>match d with
 | .bool b=>P .imm (.bool (!b))
 | _=>False
theorem pd_not (ha : PD X a ta) : PD X (.UnaryOp .Not a pos) (tNotD ta):=PE.wk (pe_not ha) (by
 rintro σ H Q ⟨p, H0, own, ρ, P, E, t, q⟩
 refine ⟨p, H0, own, ρ, _, E, t, fun k d v H' h A r=>?_⟩
 cases d with
 | bool b=>exact ⟨b, r.bl', q _ _ _ _ h A (.bl _)⟩
 | _=>exact h.elim)
noncomputable def tAndD (ta tb : DE) : DE:=fun ρ P=>ta ρ fun _ d=>match d with
 | .bool b=>if b = true then tb ρ P else P .imm (.bool false)
 | _=>False
theorem pd_one {op} (h : PD X a ta) : PD X (.BoolOp op [a] pos) ta:=pe_one h
theorem pd_and {rest : List Expr} (ha : PD X a ta) (hb : PD X (.BoolOp .And (b :: rest) pos) tb) : PD X (.BoolOp .And (a :: b :: rest) pos) (tAndD ta tb):=PE.wk (pe_and ha hb) (by
 rintro σ H Q ⟨p, H0, own, ρ, P, E, t, q⟩
 refine ⟨p, H0, own, ρ, _, E, t, fun k d v H' h A r=>?_⟩
 cases d with
 | bool b =>
  refine ⟨b, r.bl', ?_⟩
  cases b with
  | true=>exact iteT ⟨p, H0, own, ρ, P, E.go A.kp A.pen, by simpa using h, fun k d v H2 h2 A2 r2=>q k d v H2 h2 (A.base A2) (rp_base A r2)⟩
  | false=>exact iteF (q _ _ _ _ (by simpa using h) A (.bl _))
 | _=>exact h.elim)
noncomputable def tIfD (tc : DT) (ta tb : DE) : DE:=fun ρ P=>tc ρ fun b=>if b = true then ta ρ P else tb ρ P
theorem pd_ifExp {u : DT} (hc : PDT X c u) (ha : PD X a ta) (hb : PD X b tb) : PD X (.IfExp c a b pos) (tIfD u ta tb):=PE.wk (pe_ifExp hc ha hb) (by
 rintro σ H Q ⟨p, H0, own, ρ, P, E, t, q⟩
 refine ⟨p, H0, own, ρ, _, E, t, fun b H' h A=>?_⟩
 have nx : ∀ k d v H2, P k d->At p H0 own H' H2->Rp (okK p H0 own H' k) H2 v d->Q v H2:=fun k d v H2 h2 A2 r2=>q k d v H2 h2 (A.base A2) (rp_base A r2)
 cases b with
 | true=>exact iteT ⟨p, H0, own, ρ, P, E.go A.kp A.pen, by simpa using h, nx⟩
 | false=>exact iteF ⟨p, H0, own, ρ, P, E.go A.kp A.pen, by simpa using h, nx⟩)
noncomputable def tyD : D->String
 | .none=>"NoneType"
 | .bool _=>"bool"
 | .int _=>"int"
 | .str _=>"str"
 | .list _=>"list"
 | .tuple _=>"tuple"
 | .dict _=>"dict"
noncomputable def isT (c : String) (d : D) : Bool:=tyD d == c || (c == "int" && tyD d == "bool")
noncomputable def tIs (c : String) (te : DE) : DE:=fun ρ P=>te ρ fun _ d=>P .imm (.bool (isT c d))
theorem pd_isinst {T : String} {x : Str} {ps pt : Pos} (hk : ∀ t : Value, (t = .type "NoneType"\/t = .type "bool"\/t = .type "int"\/t = .type "str"\/t = .type "list"\/t = .type "tuple"\/t = .type "dict")->∃ n, t = .type n/\PySem.W.kitOne X.K t (.type T) = some (n == T || (T == "int" && n == "bool")))
  (hm : X.mg "isinstance" = none) (he : PD X e te) (hT : PE X (.Name x pt) (tC (.ty T))) (hg : Gl X "isinstance":=by rfl) (h1 : starEach [e, .Name x pt] X.env = (false, eval e X.env) :: starEach [.Name x pt] X.env:=by rfl) (h2 : starEach [.Name x pt] X.env = (false, eval (.Name x pt) X.env) :: starEach [] X.env:=by rfl) (hpl : (backTo pos (starEach [.Name x pt] X.env)).any (·.1) = false:=by rfl) :
  PD X (.Call (.Name "isinstance" ps) [e, .Name x pt] [] pos) (tIs T te):=PE.wk (pe_callB call_isinst1 hg hm boot_isinstance (pa_cons he (pa_cons hT pa_nil h2) h1) (by decide) (by decide) h1 hpl) (by
 rintro σ H Q ⟨p, H0, own, ρ, P, E, t, q⟩
 refine ⟨p, H0, own, ρ, _, E, t, fun k d v H' h A r=>?_⟩
 have fin : ∀ n, TyOf X.K H' v (.type n)->n = tyD d->∃ x' c' t' b, [v, V.ty T] = [x', .ty c']/\TyOf X.K H' x' t'/\PySem.W.kitOne X.K t' (.type c') = some b/\Q (.bl b) H':=fun n ty en=>by
  obtain ⟨n', e, hk'⟩:=hk (.type n) (by rw [en]; cases d <;> simp [tyD])
  cases e
  refine ⟨v, T, .type n, _, rfl, ty, hk', ?_⟩
  rw [en]
  exact q _ _ _ _ h A (.bl _)
 show ∃ x' c' t' b, _/\_
 cases r with
 | non=>exact fin _ .non rfl
 | bl b=>exact fin _ (.bl b) rfl
 | int i=>exact fin _ (.int i) rfl
 | str x=>exact fin _ (.str x) rfl
 | lst o hh rr=>exact fin _ (.lst hh) rfl
 | tup hh rr=>exact fin _ (.tup hh) rfl
 | dct o hh rr=>exact fin _ (.dK hh) rfl)
theorem kit_int {K : PySem.W.Frag} : ∀ t : Value, (t = .type "NoneType"\/t = .type "bool"\/t = .type "int"\/t = .type "str"\/t = .type "list"\/t = .type "tuple"\/t = .type "dict")->∃ n, t = .type n/\PySem.W.kitOne K t (.type "int") = some (n == "int" || ("int" == "int" && n == "bool")):=by
 rintro t (rfl | rfl | rfl | rfl | rfl | rfl | rfl) <;> exact ⟨_, rfl, rfl⟩
theorem kit_bool {K : PySem.W.Frag} : ∀ t : Value, (t = .type "NoneType"\/t = .type "bool"\/t = .type "int"\/t = .type "str"\/t = .type "list"\/t = .type "tuple"\/t = .type "dict")->∃ n, t = .type n/\PySem.W.kitOne K t (.type "bool") = some (n == "bool" || ("bool" == "int" && n == "bool")):=by
 rintro t (rfl | rfl | rfl | rfl | rfl | rfl | rfl) <;> exact ⟨_, rfl, rfl⟩
theorem kit_tuple {K : PySem.W.Frag} : ∀ t : Value, (t = .type "NoneType"\/t = .type "bool"\/t = .type "int"\/t = .type "str"\/t = .type "list"\/t = .type "tuple"\/t = .type "dict")->∃ n, t = .type n/\PySem.W.kitOne K t (.type "tuple") = some (n == "tuple" || ("tuple" == "int" && n == "bool")):=by
 rintro t (rfl | rfl | rfl | rfl | rfl | rfl | rfl) <;> exact ⟨_, rfl, rfl⟩
noncomputable def gAll : GC:=fun ks P=>match ks with
 | [(_, .list ds)]=>∃ bs : List Bool, ds = bs.map PyData.bool/\P .imm (.bool (bs.all id))
 | _=>False
theorem Rps.bools {ok : Addr->Prop} {H : Hp} : ∀ {vs : List V} {bs : List Bool}, Rps ok H vs (bs.map PyData.bool)->vs = bs.map V.bl
 | [], [], _=>rfl
 | _, b :: bs, .cons h t=>by
  have e:=h.bl'
  subst e
  rw [Rps.bools t]
  rfl
theorem pd_all {ps : Pos} (hc : X.calm = true) (hm : X.mg "all" = none) (hv : bootBuiltins "all" = some (.builtin "all")) (ha : PDA X [a] t) (hg : Gl X "all":=by rfl) (he : starEach [a] X.env = (false, eval a X.env) :: starEach [] X.env:=by rfl) (hpl : (backTo pos (starEach [] X.env)).any (·.1) = false:=by rfl) : PD X (.Call (.Name "all" ps) [a] [] pos) (tCl gAll t) :=
 pd_callB (call_allB hc) (by
  intro p H0 own Hb H vs ks P Q A r t q
  unfold gAll at t
  split at t
  ·obtain ⟨bs, rfl, t⟩:=t
   obtain ⟨v, rfl, r'⟩:=rpk1 r
   obtain ⟨x, xs, e1, o1, h1, rs1⟩:=Rp.lst' r'
   subst e1
   have e2:=Rps.bools rs1
   subst e2
   exact ⟨x, bs, rfl, SqL.of h1, q _ _ _ _ t Kp.refl A.pen (.bl _)⟩
  ·exact t.elim) hg hm hv ha (by decide) (by decide) he hpl
noncomputable def gMM (f : Int->Int->Int) : GC:=fun ks P=>match ks with
 | [(_, .int i), (_, .int j)]=>P .imm (.int (f i j))
 | _=>False
theorem pd_max2 {ps : Pos} (hc : X.calm = true) (hm : X.mg "max" = none) (ha : PDA X [a, b] t) (hg : Gl X "max":=by rfl) (he : starEach [a, b] X.env = (false, eval a X.env) :: starEach [b] X.env:=by rfl) (hpl : (backTo pos (starEach [b] X.env)).any (·.1) = false:=by rfl) : PD X (.Call (.Name "max" ps) [a, b] [] pos) (tCl (gMM fun i j=>if j > i then j else i) t) :=
 pd_callB (call_max2 hc) (by
  intro p H0 own Hb H vs ks P Q A r t q
  unfold gMM at t
  split at t
  ·rename_i k i k' j
   obtain ⟨v, w, rfl, r1, r2⟩:=rpk2 r
   rw [Rp.int' r1, Rp.int' r2]
   exact ⟨i, j, rfl, q _ _ _ _ t Kp.refl A.pen (.int _)⟩
  ·exact t.elim) hg hm boot_max ha (by decide) (by decide) he hpl
theorem pd_min2 {ps : Pos} (hc : X.calm = true) (hm : X.mg "min" = none) (ha : PDA X [a, b] t) (hg : Gl X "min":=by rfl) (he : starEach [a, b] X.env = (false, eval a X.env) :: starEach [b] X.env:=by rfl) (hpl : (backTo pos (starEach [b] X.env)).any (·.1) = false:=by rfl) : PD X (.Call (.Name "min" ps) [a, b] [] pos) (tCl (gMM fun i j=>if j < i then j else i) t) :=
 pd_callB (call_min2 hc) (by
  intro p H0 own Hb H vs ks P Q A r t q
  unfold gMM at t
  split at t
  ·rename_i k i k' j
   obtain ⟨v, w, rfl, r1, r2⟩:=rpk2 r
   rw [Rp.int' r1, Rp.int' r2]
   exact ⟨i, j, rfl, q _ _ _ _ t Kp.refl A.pen (.int _)⟩
  ·exact t.elim) hg hm boot_min ha (by decide) (by decide) he hpl
noncomputable def gLst : GC:=fun ks P=>match ks with
 | [(k, .list ds)]=>newP k ds fun k'=>P k' (.list ds)
 | [(k, .tuple ds)]=>newP k ds fun k'=>P k' (.list ds)
 | _=>False
theorem pd_lstC {ps : Pos} (hm : X.mg "list" = none) (ha : PDA X [a] t) (hg : Gl X "list":=by rfl) (he : starEach [a] X.env = (false, eval a X.env) :: starEach [] X.env:=by rfl) (hpl : (backTo pos (starEach [] X.env)).any (·.1) = false:=by rfl) : PD X (.Call (.Name "list" ps) [a] [] pos) (tCl gLst t) :=
 pd_callT call_list_of (by
  intro p H0 own Hb H vs ks P Q A r t q
  have fin : ∀ {k ds xs}, Rps (okK p H0 own Hb k) H xs ds->newP k ds (fun k'=>P k' (.list ds))->∀ l, H l = none->Q (.ref l) (upd H l (.lst xs)):=fun {k ds xs} rs t l hl=>by
   obtain ⟨k2, i2, nw⟩:=A.new hl (.lst xs)
   obtain ⟨k', hk', rk'⟩:=newP_ok A (rps_go A k2 rs) nw upd_same t
   exact q _ _ _ _ hk' k2 i2 rk'
  unfold gLst at t
  split at t
  ·obtain ⟨v, rfl, r'⟩:=rpk1 r
   obtain ⟨x, xs, e1, o1, h1, rs1⟩:=Rp.lst' r'
   subst e1
   exact ⟨x, xs, rfl, .inl (SqL.of h1), fin rs1 t⟩
  ·obtain ⟨v, rfl, r'⟩:=rpk1 r
   obtain ⟨x, xs, e1, h1, rs1⟩:=Rp.tup' r'
   subst e1
   exact ⟨x, xs, rfl, .inr (SqT.of h1), fin rs1 t⟩
  ·exact t.elim) hg hm boot_list ha (by decide) (by decide) he hpl
noncomputable def gTup' : GC:=fun ks P=>match ks with
 | [(k, .list ds)]=>P (norm k (.tuple ds)) (.tuple ds)
 | [(k, .tuple ds)]=>P (norm k (.tuple ds)) (.tuple ds)
 | _=>False
theorem pd_tupC {ps : Pos} (hm : X.mg "tuple" = none) (ha : PDA X [a] t) (hg : Gl X "tuple":=by rfl) (he : starEach [a] X.env = (false, eval a X.env) :: starEach [] X.env:=by rfl) (hpl : (backTo pos (starEach [] X.env)).any (·.1) = false:=by rfl) : PD X (.Call (.Name "tuple" ps) [a] [] pos) (tCl gTup' t) :=
 pd_callT call_tuple_of (by
  intro p H0 own Hb H vs ks P Q A r t q
  unfold gTup' at t
  split at t
  ·rename_i k ds
   obtain ⟨v, rfl, r'⟩:=rpk1 r
   obtain ⟨x, xs, e1, o1, h1, rs1⟩:=Rp.lst' r'
   subst e1
   refine ⟨x, xs, rfl, .inl ⟨SqL.of h1, fun l hl=>?_⟩⟩
   obtain ⟨k2, i2, nw⟩:=A.new hl (.tup xs)
   exact q _ _ _ _ t k2 i2 (rp_norm (.tup upd_same (rps_go A k2 rs1)))
  ·rename_i k ds
   obtain ⟨v, rfl, r'⟩:=rpk1 r
   obtain ⟨x, xs, e1, h1, rs1⟩:=Rp.tup' r'
   subst e1
   exact ⟨x, xs, rfl, .inr ⟨SqT.of h1, q _ _ _ _ t Kp.refl A.pen (rp_norm r')⟩⟩
  ·exact t.elim) hg hm boot_tuple ha (by decide) (by decide) he hpl
noncomputable def gSortP : GC:=fun ks P=>match ks with
 | [(_, d)]=>∃ ts : List Tie, (d = .list (ts.map pD)\/d = .tuple (ts.map pD))/\ts.length < 64/\(∀ t∈ts, Nice t)/\∀ us : List Tie, us.Perm ts->us.Pairwise (fun a b=>tcode a<=tcode b)->P .new (.list (us.map pD))
 | _=>False
theorem Rps.prs {ok : Addr->Prop} {H : Hp} : ∀ {vs : List V} {ts : List Tie}, Rps ok H vs (ts.map pD)->Prs H vs ts
 | [], [], _=>.nil
 | _, t :: ts, .cons h r=>by
  obtain ⟨x, xs, e, hx, rs⟩:=Rp.tup' h
  obtain ⟨v1, v2, e2, q1, q2⟩:=Rps.two rs
  subst e e2
  rw [q1.int', q2.int'] at hx
  exact .cons ⟨x, rfl, hx⟩ (Rps.prs r)
theorem Prs.rps {ok : Addr->Prop} {H : Hp} : ∀ {vs : List V} {ts : List Tie}, Prs H vs ts->Rps ok H vs (ts.map pD)
 | _, _, .nil=>.nil
 | _, _, .cons r t=>by
  obtain ⟨x, e, hx⟩:=r
  subst e
  exact .cons (.tup hx (.cons (.int _) (.cons (.int _) .nil))) (Prs.rps t)
theorem pd_sortP {ps : Pos} (hm : X.mg "sorted" = none) (ha : PDA X [a] t) (hg : Gl X "sorted":=by rfl) (he : starEach [a] X.env = (false, eval a X.env) :: starEach [] X.env:=by rfl) (hpl : (backTo pos (starEach [] X.env)).any (·.1) = false:=by rfl) : PD X (.Call (.Name "sorted" ps) [a] [] pos) (tCl gSortP t) :=
 pd_callB call_sortedP (by
  intro p H0 own Hb H vs ks P Q A r t q
  unfold gSortP at t
  split at t
  ·obtain ⟨ts, hd, hl, hn, t⟩:=t
   obtain ⟨v, rfl, r'⟩:=rpk1 r
   have fin : ∀ l ws us, H l = none->Prs H ws us->us.Perm ts->us.Pairwise (fun a b=>tcode a<=tcode b)->Q (.ref l) (upd H l (.lst ws)):=fun l ws us hl' pr hp hs=>by
    obtain ⟨k2, i2, nw⟩:=A.new hl' (.lst ws)
    exact q _ _ _ _ (t us hp hs) k2 i2 (.lst nw upd_same (rps_go A k2 (Prs.rps pr)))
   rcases hd with rfl | rfl
   ·obtain ⟨x, xs, e1, o1, h1, rs1⟩:=Rp.lst' r'
    subst e1
    exact ⟨x, xs, ts, rfl, .inl (SqL.of h1), Rps.prs rs1, hn, hl, fin⟩
   ·obtain ⟨x, xs, e1, h1, rs1⟩:=Rp.tup' r'
    subst e1
    exact ⟨x, xs, ts, rfl, .inr (SqT.of h1), Rps.prs rs1, hn, hl, fin⟩
  ·exact t.elim) hg hm boot_sorted ha (by decide) (by decide) he hpl
end
variable [Gr]
section
variable {X : Cx} {pins : List (Addr × Obj)} {σ : L2.St} {H : Hp} {s : Shared} {ok : Addr->Prop}
mutual
theorem Rp.reads (I : Inv X pins σ H s) : ∀ {v : V} {d : D} {u : Value}, Rp ok H v d->RelV v u->d.canLay0 = true->∃ as, Reads s.heap u d as
 | _, _, _, .non, r, _=>by cases r; exact ⟨_, .none⟩
 | _, _, _, .bl b, r, _=>by cases r; exact ⟨_, .bool b⟩
 | _, _, _, .int i, r, _=>by obtain ⟨t, rfl⟩:=r; exact ⟨_, .int i t⟩
 | _, _, _, .str x, r, _=>by obtain ⟨t, rfl⟩:=r; exact ⟨_, .str x t⟩
 | _, _, _, .lst o h rs, r, c=>by
  cases r
  obtain ⟨its, rv, pl, _⟩:=I.list (SqL.of h)
  obtain ⟨as, ra⟩:=Rps.reads I rs rv (by simpa [PyData.canLay0] using c)
  obtain ⟨ob, ho, hc, n, hd⟩:=pl.isList
  exact ⟨_, .list ho hc hd (by simpa using ra)⟩
 | _, _, _, .tup h rs, r, c=>by
  cases r
  obtain ⟨its, rv, pl, _⟩:=I.tuple (SqT.of h)
  obtain ⟨as, ra⟩:=Rps.reads I rs rv (by simpa [PyData.canLay0] using c)
  obtain ⟨ob, ho, hc, n, hd⟩:=pl
  exact ⟨_, .tuple ho hc hd (by simpa using ra)⟩
 | _, _, _, .dct o h rs, r, c=>by simp [PyData.canLay0] at c
theorem Rps.reads (I : Inv X pins σ H s) : ∀ {v : List V} {d : List D} {u : List Value}, Rps ok H v d->Vals v u->PyData.canLayAll0 d = true->∃ as, ReadsAll s.heap u d as
 | _, _, _, .nil, r, _=>by cases r; exact ⟨[], .nil⟩
 | _, _, _, .cons h t, r, c=>by
  cases r with
  | cons a b =>
   simp only [PyData.canLayAll0, Bool.and_eq_true] at c
   obtain ⟨as, ra⟩:=Rp.reads I h a c.1
   obtain ⟨bs, rb⟩:=Rps.reads I t b c.2
   exact ⟨_, .cons ra rb⟩
end
end
noncomputable def okD (d : D) : Bool:=d.canLay0 && decide (d.depth<=60)
section
variable {X : Cx} {pos : Pos} {a b e : Expr} {ta tb te : DE}
noncomputable def rEqG (K : PySem.W.Frag) (neg : Bool) : R2:=fun x y H Q=>∃ ok ok' d e, Rp ok H x d/\Rp ok' H y e/\okD d = true/\okD e = true/\Q (.bl (if neg then !(PyData.eqv d e) else PyData.eqv d e)) H
theorem op_eqG (hu : X.A.units + 64 < cLine) : OpR X (compareOp .Eq) (rEqG X.K false):=by
 intro pins s σ H x y v u Q I rx ry h
 obtain ⟨ok, ok', d, e, hd, he, cd, ce, q⟩:=h
 simp only [okD, Bool.and_eq_true, decide_eq_true_eq] at cd ce
 obtain ⟨as, ra⟩:=hd.reads I rx cd.1
 obtain ⟨bs, rb⟩:=he.reads I ry ce.1
 exact SeqAt.compareEq_reads ra rb cd.1 ce.1 (by omega) ⟨.bl _, H, I, rfl, q⟩
theorem op_neG (hu : X.A.units + 64 < cLine) : OpR X (compareOp .NotEq) (rEqG X.K true):=by
 intro pins s σ H x y v u Q I rx ry h
 obtain ⟨ok, ok', d, e, hd, he, cd, ce, q⟩:=h
 simp only [okD, Bool.and_eq_true, decide_eq_true_eq] at cd ce
 obtain ⟨as, ra⟩:=hd.reads I rx cd.1
 obtain ⟨bs, rb⟩:=he.reads I ry ce.1
 exact SeqAt.compareNe_reads ra rb cd.1 ce.1 (by omega) ⟨.bl _, H, I, rfl, q⟩
noncomputable def gEqG (neg : Bool) : G2:=fun _ d1 _ d2 P=>okD d1 = true/\okD d2 = true/\P .imm (.bool (if neg then !(PyData.eqv d1 d2) else PyData.eqv d1 d2))
theorem okEqG {K : PySem.W.Frag} (neg : Bool) : Ok2 (gEqG neg) (rEqG K neg):=by
 intro p H0 own Hb H x y k1 d1 k2 d2 P Q A r1 r2 t q
 exact ⟨_, _, d1, d2, r1, r2, t.1, t.2.1, q _ _ _ _ t.2.2 Kp.refl A.pen (.bl _)⟩
noncomputable def eqP (x : D) (h : Heap) (u : Value) : Bool:=by
 classical
 exact decide (∃ d as, Reads h u d as/\PyData.eqv d x = true)
noncomputable def rInG (neg : Bool) : R2:=fun x y H Q=>∃ ok ok' d es, Rp ok H x d/\(Rp ok' H y (.list es)\/Rp ok' H y (.tuple es))/\okD d = true/\(es.all okD) = true/\Q (.bl (if neg then !(es.any fun e=>PyData.eqv e d) else es.any fun e=>PyData.eqv e d)) H
theorem eqP_of {x : D} {h : Heap} {u : Value} {d : D} {as : List Addr} (r : Reads h u d as) : eqP x h u = PyData.eqv d x:=by
 classical
 unfold eqP
 rw [Bool.eq_iff_iff, decide_eq_true_eq]
 constructor
 ·rintro ⟨d', as', r', e⟩
  rw [(r.unique d' as' r').1]
  exact e
 ·exact fun e=>⟨d, as, r, e⟩
theorem any_eqP {x : D} {h : Heap} : ∀ {us : List Value} {ds : List D} {as : List Addr}, ReadsAll h us ds as->us.any (eqP x h) = ds.any fun e=>PyData.eqv e x
 | _, _, _, .nil=>rfl
 | _, _, _, .cons a b=>by
  rw [List.any_cons, List.any_cons, eqP_of a, any_eqP b]
theorem mem_eqP {A : Around} {s : Shared} {x : D} {v : Value} {bs : List Addr} (rx : Reads s.heap v x bs) (cx : okD x = true) (hu : A.units + 60 < cLine) : ∀ {us : List Value} {ds : List D} {as : List Addr}, ReadsAll s.heap us ds as->ds.all okD = true->∀ u∈us, SeqAt.EqAt A s u v (eqP x s.heap u)
 | _, _, _, .nil, _, u, hu'=>nomatch hu'
 | _, d :: ds, _, .cons a b, c, u, hu'=>by
  simp only [List.all_cons, Bool.and_eq_true] at c
  rcases List.mem_cons.mp hu' with rfl | hu'
  ·rw [eqP_of a]
   have c1:=c.1
   simp only [okD, Bool.and_eq_true, decide_eq_true_eq] at c1 cx
   exact SeqAt.eqAt_reads _ _ A s _ _ _ _ a rx c1.1 cx.1 (by omega)
  ·exact mem_eqP rx cx hu b c.2 u hu'
theorem in1_room {A : Around} (hu : A.units + 64 < cLine) : A.in1.units + 60 < cLine:=by
 have : A.in1.units<=A.units + 1:=by first | exact Nat.le_refl _ | exact Nat.le_succ _ | (unfold Around.in1; simp)
 omega
theorem lay_all : ∀ {es : List D}, es.all okD = true->PyData.canLayAll0 es = true
 | [], _=>rfl
 | e :: es, h=>by
  simp only [List.all_cons, Bool.and_eq_true, okD] at h
  simp only [PyData.canLayAll0, Bool.and_eq_true]
  exact ⟨h.1.1, lay_all h.2⟩
theorem op_inG (hu : X.A.units + 64 < cLine) : OpR X (compareOp .In) (rInG false):=by
 intro pins s σ H x y v u Q I rx ry h
 obtain ⟨ok, ok', d, es, hd, hs, cd, ce, q⟩:=h
 have cd':=cd
 simp only [okD, Bool.and_eq_true, decide_eq_true_eq] at cd'
 obtain ⟨bs, rb⟩:=hd.reads I rx cd'.1
 rcases hs with hs | hs
 ·obtain ⟨c, vs, rfl, o, hc, rs⟩:=hs.lst'
  cases ry
  obtain ⟨its, r, pl, hz⟩:=I.list (SqL.of hc)
  obtain ⟨as, ra⟩:=rs.reads I r (lay_all ce)
  refine SeqAt.in_listAt (eqP d s.heap) pl.isList (fun w hw=>mem_eqP rb cd (in1_room hu) ra ce w (by simpa using hw)) ⟨.bl _, H, I, rfl, ?_⟩
  rw [show its.toArray.any (eqP d s.heap) = its.any (eqP d s.heap) by simp, any_eqP ra]
  exact q
 ·obtain ⟨c, vs, rfl, hc, rs⟩:=hs.tup'
  cases ry
  obtain ⟨its, r, pl, hz⟩:=I.tuple (SqT.of hc)
  obtain ⟨as, ra⟩:=rs.reads I r (lay_all ce)
  refine SeqAt.in_tupleAt (eqP d s.heap) pl (fun w hw=>mem_eqP rb cd (in1_room hu) ra ce w (by simpa using hw)) ⟨.bl _, H, I, rfl, ?_⟩
  rw [show its.toArray.any (eqP d s.heap) = its.any (eqP d s.heap) by simp, any_eqP ra]
  exact q
theorem op_notinG (hu : X.A.units + 64 < cLine) : OpR X (compareOp .NotIn) (rInG true):=by
 intro pins s σ H x y v u Q I rx ry h
 obtain ⟨ok, ok', d, es, hd, hs, cd, ce, q⟩:=h
 have cd':=cd
 simp only [okD, Bool.and_eq_true, decide_eq_true_eq] at cd'
 obtain ⟨bs, rb⟩:=hd.reads I rx cd'.1
 rcases hs with hs | hs
 ·obtain ⟨c, vs, rfl, o, hc, rs⟩:=hs.lst'
  cases ry
  obtain ⟨its, r, pl, hz⟩:=I.list (SqL.of hc)
  obtain ⟨as, ra⟩:=rs.reads I r (lay_all ce)
  refine SeqAt.notIn_listAt (eqP d s.heap) pl.isList (fun w hw=>mem_eqP rb cd (in1_room hu) ra ce w (by simpa using hw)) ⟨.bl _, H, I, rfl, ?_⟩
  rw [show its.toArray.any (eqP d s.heap) = its.any (eqP d s.heap) by simp, any_eqP ra]
  exact q
 ·obtain ⟨c, vs, rfl, hc, rs⟩:=hs.tup'
  cases ry
  obtain ⟨its, r, pl, hz⟩:=I.tuple (SqT.of hc)
  obtain ⟨as, ra⟩:=rs.reads I r (lay_all ce)
  refine SeqAt.notIn_tupleAt (eqP d s.heap) pl (fun w hw=>mem_eqP rb cd (in1_room hu) ra ce w (by simpa using hw)) ⟨.bl _, H, I, rfl, ?_⟩
  rw [show its.toArray.any (eqP d s.heap) = its.any (eqP d s.heap) by simp, any_eqP ra]
  exact q
noncomputable def gIn (neg : Bool) : G2:=fun _ d1 _ d2 P=>match d2 with
 | .list es=>okD d1 = true/\es.all okD = true/\P .imm (.bool (if neg then !(es.any fun e=>PyData.eqv e d1) else es.any fun e=>PyData.eqv e d1))
 | .tuple es=>okD d1 = true/\es.all okD = true/\P .imm (.bool (if neg then !(es.any fun e=>PyData.eqv e d1) else es.any fun e=>PyData.eqv e d1))
 | _=>False
theorem okIn (neg : Bool) : Ok2 (gIn neg) (rInG neg):=by
 intro p H0 own Hb H x y k1 d1 k2 d2 P Q A r1 r2 t q
 cases d2 with
 | list es=>exact ⟨_, _, d1, es, r1, .inl r2, t.1, t.2.1, q _ _ _ _ t.2.2 Kp.refl A.pen (.bl _)⟩
 | tuple es=>exact ⟨_, _, d1, es, r1, .inr r2, t.1, t.2.1, q _ _ _ _ t.2.2 Kp.refl A.pen (.bl _)⟩
 | _=>exact t.elim
theorem pd_in (hu : X.A.units + 64 < cLine) (ha : PD X a ta) (hb : PD X b tb) (hm : behindInMarks .In b = false:=by rfl) : PD X (.Compare a [.In] [b] pos) (t2 (gIn false) ta tb):=pd_cmp (op_inG hu) (okIn false) ha hb hm
theorem pdt_in (hu : X.A.units + 64 < cLine) (ha : PD X a ta) (hb : PD X b tb) (hm : behindInMarks .In b = false:=by rfl) : PDT X (.Compare a [.In] [b] pos) (tTst (t2 (gIn false) ta tb)):=pdt_cmp (op_inG hu) (okIn false) ha hb hm
theorem pdt_notin (hu : X.A.units + 64 < cLine) (ha : PD X a ta) (hb : PD X b tb) (hm : behindInMarks .NotIn b = false:=by rfl) : PDT X (.Compare a [.NotIn] [b] pos) (tTst (t2 (gIn true) ta tb)):=pdt_cmp (op_notinG hu) (okIn true) ha hb hm
end
variable [Gr]
section
variable {X : Cx} {pos p2 : Pos} {a b c e : Expr} {es : List Expr} {ta tb tc te : DE} {t : DA} {st : Stmt}
noncomputable abbrev DO:=List Sl->(Option Int->Prop)->Prop
noncomputable def liftO (t : DO) : TO:=fun σ H Q=>∃ p H0 own ρ P, EnvD p H0 own σ H ρ/\t ρ P/\∀ o H', P o->At p H0 own H H'->Q o H'
theorem PO.wk {e : Option Expr} {t t' : TO} (h : PO X e t) (w : ∀ σ H Q, t' σ H Q->t σ H Q) : PO X e t':=fun pins s σ H Q I q=>h pins s σ H Q I (w σ H Q q)
noncomputable def oNone : DO:=fun _ P=>P none
noncomputable def oSome (te : DE) : DO:=fun ρ P=>te ρ fun _ d=>match d with
 | .int i=>P (some i)
 | _=>False
theorem do_none : PO X none (liftO oNone):=PO.wk po_none (by
 rintro σ H Q ⟨p, H0, own, ρ, P, E, t, q⟩
 exact q _ _ t E.at)
theorem do_some (h : PD X e te) : PO X (some e) (liftO (oSome te)):=PO.wk (po_some h) (by
 rintro σ H Q ⟨p, H0, own, ρ, P, E, t, q⟩
 refine ⟨p, H0, own, ρ, _, E, t, fun k d v H' h A r=>?_⟩
 cases d with
 | int i=>exact ⟨i, r.int', q _ _ h A⟩
 | _=>exact h.elim)
noncomputable def cutL {α : Type} (ds : List α) (lo hi : Option Int) : List α:=(ds.drop (HT.sIx ds.length 0 lo)).take (HT.sIx ds.length ds.length hi - HT.sIx ds.length 0 lo)
theorem Rps.cut {ok : Addr->Prop} {H : Hp} {vs : List V} {ds : List D} (r : Rps ok H vs ds) (lo hi : Option Int) : Rps ok H (cutV vs lo hi) (cutL ds lo hi):=by
 unfold cutV cutL
 rw [r.length]
 exact (r.drop _).take _
noncomputable def tSlL (te : DE) (tl th : DO) : DE:=fun ρ P=>te ρ fun k d=>tl ρ fun lo=>th ρ fun hi=>match d with
 | .list ds=>newP k (cutL ds lo hi) fun k'=>P k' (.list (cutL ds lo hi))
 | _=>False
noncomputable def gCat : G2:=fun k1 d1 k2 d2 P=>match d1, d2 with
 | .list ds, .list es=>ds.length + es.length<=1000/\newP (k1.join k2) (ds ++ es) fun k=>P k (.list (ds ++ es))
 | _, _=>False
theorem okCat : Ok2 gCat rCat:=by
 intro p H0 own Hb H x y k1 d1 k2 d2 P Q A r1 r2 t q
 unfold gCat at t
 split at t
 ·obtain ⟨c1, xs, e1, o1, h1, rs1⟩:=r1.lst'
  obtain ⟨c2, ys, e2, o2, h2, rs2⟩:=r2.lst'
  subst e1 e2
  have h24:=sizeLine_eq
  refine ⟨c1, c2, xs, ys, rfl, rfl, h1, h2, by rw [rs1.length, rs2.length]; omega, fun l hl=>?_⟩
  obtain ⟨k3, i3, nw⟩:=A.new hl (.lst (xs ++ ys))
  have j:=le_join k1 k2
  have m : ∀ {k vs ds}, k.le (k1.join k2) = true->Rps (okK p H0 own Hb k) H vs ds->Rps (okK p H0 own Hb (k1.join k2)) H vs ds:=fun hk z=>z.mono (fun a o=>okK_le A hk o) (fun _ _ _ e=>e) fun _ _ e=>e
  obtain ⟨k', hk', rk'⟩:=newP_ok A (rps_go A k3 ((m j.1 rs1).app (m j.2 rs2))) nw upd_same t.2
  exact q _ _ _ _ hk' k3 i3 rk'
 ·exact t.elim
noncomputable def gCatT : G2:=fun k1 d1 k2 d2 P=>match d1, d2 with
 | .tuple ds, .tuple es=>ds.length + es.length<=1000/\P (norm (k1.join k2) (.tuple (ds ++ es))) (.tuple (ds ++ es))
 | _, _=>False
theorem okCatT : Ok2 gCatT rCatS:=by
 intro p H0 own Hb H x y k1 d1 k2 d2 P Q A r1 r2 t q
 unfold gCatT at t
 split at t
 ·obtain ⟨c1, xs, e1, h1, rs1⟩:=r1.tup'
  obtain ⟨c2, ys, e2, h2, rs2⟩:=r2.tup'
  subst e1 e2
  have h24:=sizeLine_eq
  refine ⟨c1, c2, xs, ys, rfl, rfl, h1, h2, by rw [rs1.length, rs2.length]; omega, fun l H' sm hl=>?_⟩
  have K : Kp p H H':=Kp.of sm
  have j:=le_join k1 k2
  have m : ∀ {k vs ds}, k.le (k1.join k2) = true->Rps (okK p H0 own Hb k) H vs ds->Rps (okK p H0 own Hb (k1.join k2)) H vs ds:=fun hk z=>z.mono (fun a o=>okK_le A hk o) (fun _ _ _ e=>e) fun _ _ e=>e
  exact q _ _ _ _ t.2 K (p.mono H H' A.pen fun b o _ e=>sm b o e) (rp_norm (.tup hl (rps_go A K ((m j.1 rs1).app (m j.2 rs2)))))
 ·exact t.elim
theorem one_arg {te : DE} {ρ : List Sl} {R : Kd->D->Prop} (t : te ρ R) : aCons te aNil ρ (fun ks=>∃ k d, ks = [(k, d)]/\R k d):=by
 show te ρ fun k d=>∃ k' d', [((k, d) : Kd × D)] = [(k', d')]/\R k' d'
 have e : (fun k d=>∃ k' d', [((k, d) : Kd × D)] = [(k', d')]/\R k' d') = R:=by
  funext k d
  apply propext
  constructor
  ·rintro ⟨k', d', e, h⟩
   cases e
   exact h
  ·exact fun h=>⟨k, d, rfl, h⟩
 rw [e]
 exact t
end
variable [Gr]
structure Cal (P : Program) (w : World) (K : PySem.W.Frag) (mg : Str->Option Value) (base : Heap) (k : Nat) (x : Str) (ps : List Str) (sp : Sp) : Prop where
 ex : ∃ f fd, FnOk P w K mg base CX0 k f fd ps sp/\Binds K fd ps []/\PySem.W.keepIn K (.ref f) = true/\mg x = some (.ref f)
section
variable {X : Cx} {k j : Nat} {x : Str} {ps : List Str} {e : Expr} {es : List Expr} {t : DA} {p pos pq : Pos}
theorem pcS {sp : Sp} {ta : TA} (C : Cal X.prog X.w X.K X.mg X.base k x ps sp) (hr : Room j X.A) (ha : PA X (e :: es) ta) (hk : k<=j) (hg : Gl X x)
  (hdb : (x == ("__debug__" : Str)) = false) (he : starEach (e :: es) X.env = (false, eval e X.env) :: starEach es X.env) (hpl : (backTo pos (starEach es X.env)).any (·.1) = false) :
  PE X (.Call (.Name x p) (e :: es) [] pos) (tCall sp [] E0 ta):=by
 obtain ⟨f, fd, F, b, kp, m⟩:=C.ex
 exact pe_call F (hr.mono hk) hg m kp b .nil pass0 ha hdb he hpl
theorem dc {f : List D->(D->Prop)->Prop} (C : Cal X.prog X.w X.K X.mg X.base k x ps (spD f)) (hr : Room j X.A) (ha : PDA X (e :: es) t) (hk : k<=j:=by decide) (hg : Gl X x:=by rfl)
  (hdb : (x == ("__debug__" : Str)) = false:=by decide) (he : starEach (e :: es) X.env = (false, eval e X.env) :: starEach es X.env:=by rfl) (hpl : (backTo pos (starEach es X.env)).any (·.1) = false:=by rfl) :
  PD X (.Call (.Name x p) (e :: es) [] pos) (tFn f t):=PE.wk (pcS C hr ha hk hg hdb he hpl) lift_fn
theorem dcP {C : Pn->Prop} {i : Nat} {f : List D->(D->Prop)->Prop} {y : Str} {py : Pos} (CC : Cal X.prog X.w X.K X.mg X.base k x ps (spP C f)) (hr : Room j X.A) (hi : PE X (.Name y py) (tVar i)) (ha : PDA X es t) (hk : k<=j:=by decide) (hg : Gl X x:=by rfl)
  (hdb : (x == ("__debug__" : Str)) = false:=by decide) (he : starEach (.Name y py :: es) X.env = (false, eval (.Name y py) X.env) :: starEach es X.env:=by rfl) (hpl : (backTo pos (starEach es X.env)).any (·.1) = false:=by rfl) :
  PD X (.Call (.Name x p) (.Name y py :: es) [] pos) (tFnP C f i t):=PE.wk (pcS CC hr (pa_cons hi ha) hk hg hdb he hpl) lift_fnP
theorem dv (i : Nat) {x : Str} {pos : Pos} (hN : X.N[i]? = some x:=by rfl) (hv : Vis X.env.scope x:=by first | exact Or.inl rfl | exact Or.inr (Or.inl rfl) | exact Or.inr (Or.inr rfl)) (hd : (x == ("__debug__" : Str)) = false:=by decide)
  (hcd : (x == ("__classdict__" : Str)) = false:=by decide) : PD X (.Name x pos) (tV i):=pd_var (pv i hN hv hd hcd)
end
structure Bn (mg : Str->Option Value) : Prop where
 isinstance : mg "isinstance" = none
 int : mg "int" = none
 bool : mg "bool" = none
 tuple : mg "tuple" = none
 list : mg "list" = none
 len : mg "len" = none
 all : mg "all" = none
 min : mg "min" = none
 max : mg "max" = none
 sorted : mg "sorted" = none
 range : mg "range" = none
 abs : mg "abs" = none
theorem boot_all : bootBuiltins "all" = some (.builtin "all"):=by decide +kernel
theorem boot_abs : bootBuiltins "abs" = some (.builtin "abs"):=by decide +kernel
theorem tV_arg {i : Nat} {ρ : List Sl} {d : D} {P : DK} (h : ρ[i]? = some (argS d)) (q : ∀ k, P k d) : tV i ρ P:=by
 unfold tV
 rw [h]
 unfold argS
 by_cases hi : immD d = true
 ·rw [if_pos hi]; exact q _
 ·rw [if_neg hi]; exact q _
theorem len_spD {f : List D->(D->Prop)->Prop} {n : Nat} (hn : ∀ ds P, f ds P->ds.length = n) : ∀ vs H Q E, spD f vs H Q E->vs.length = n:=fun vs H Q E h=>by
 obtain ⟨ds, P, r, t, _⟩:=h
 rw [r.length]
 exact hn ds P t
theorem enterE {f : List D->(D->Prop)->Prop} {T : DS} {N : List Str} {vs : List V} {H : Hp} {Q : VK} {E : XK} (h : spD f vs H Q E)
  (body : ∀ ds P, f ds P->∃ ρ, ds.map argS ++ List.replicate (N.length - ds.length) .any = ρ/\T { nx:=fun _=>P .none, rt:=P } ρ) (g : Gr.G noPen H:=by trivial) : liftS T { nx:=fun _ H'=>Q .non H', rt:=Q } (L2.start N vs) H :=
 enterD h (fun ds P t=>by
  obtain ⟨ρ, e, q⟩:=body ds P t
  rw [e]
  exact q) g
noncomputable def webD (n : Int) (us : List Tie) : D:=.tuple [.int n, .tuple (us.map pD)]
theorem imm_web (n : Int) (us : List Tie) : immD (webD n us) = true:=by
 show (immD (.int n) && (immDs (us.map pD) && true)) = true
 rw [imm_pairs]
 rfl
theorem arg_web (n : Int) (us : List Tie) : argS (webD n us) = .im (webD n us):=if_pos (imm_web n us)
noncomputable def isW : D->Bool
 | .int _=>true
 | _=>false
noncomputable def fWhole (ds : List D) (P : D->Prop) : Prop:=∃ d, ds = [d]/\P (.bool (isW d))
noncomputable def belowD (m : Int) : D->Bool
 | .int i=>decide (0<=i/\i < m)
 | _=>false
noncomputable def fBelow (ds : List D) (P : D->Prop) : Prop:=∃ m d, ds = [.int m, d]/\P (.bool (belowD m d))
theorem enterQ {C : Pn->Prop} {f : List D->(D->Prop)->Prop} {T : DS} {N : List Str} {vs : List V} {H : Hp} {Q : VK} {E : XK} (h : spP C f vs H Q E)
  (body : ∀ ds P, f ds P->∃ ρ, ds.map argS ++ List.replicate (N.length - (ds.length + 1)) .any = ρ/\T { nx:=fun _=>P .none, rt:=P } (.pen C :: ρ)) (g : ∀ p, Gr.G p H:=by intro _; trivial) : liftS T { nx:=fun _ H'=>Q .non H', rt:=Q } (L2.start N vs) H :=
 enterP h (fun ds P t=>by
  obtain ⟨ρ, e, q⟩:=body ds P t
  rw [e]
  exact q) g
variable [Gr]
theorem map_get {α β : Type} {l : List α} {g : α->β} {i : Nat} {d : β} (h : (l.map g)[i]? = some d) : ∃ x, l[i]? = some x/\g x = d:=by
 rw [List.getElem?_map] at h
 cases e : l[i]? with
 | none=>rw [e] at h; cases h
 | some x=>rw [e] at h; exact ⟨x, rfl, Option.some.inj h⟩
theorem ok_ints : ∀ l : List Int, (l.map PyData.int).all okD = true
 | []=>rfl
 | x :: l=>by
  rw [List.map_cons, List.all_cons, ok_ints l]
  rfl
theorem any_ints (x : Int) : ∀ l : List Int, ((l.map PyData.int).any fun e=>PyData.eqv e (.int x)) = decide (x∈l)
 | []=>rfl
 | y :: l=>by
  rw [List.map_cons, List.any_cons, any_ints x l]
  have e : PyData.eqv (.int y) (.int x) = (y == x):=rfl
  rw [e, Bool.eq_iff_iff, Bool.or_eq_true, beq_iff_eq, decide_eq_true_eq, decide_eq_true_eq, List.mem_cons]
  constructor
  ·rintro (h | h)
   ·exact .inl h.symm
   ·exact .inr h
  ·rintro (h | h)
   ·exact .inl h.symm
   ·exact .inr h
theorem ok_iD (l : List Int) : okD (.list (l.map PyData.int)) = true:=by
 unfold okD
 rw [Bool.and_eq_true, decide_eq_true_eq]
 refine ⟨lay_iD l, ?_⟩
 show PyData.depthAll (l.map PyData.int) + 1<=60
 rw [depth_iD]
 omega
theorem len_intsD (lo : Int) (n : Nat) : (intsD lo n).length = n:=by unfold intsD; simp
theorem intsD_get {lo : Int} {n i : Nat} {d : D} (h : (intsD lo n)[i]? = some d) : i < n/\d = .int (lo + ((i : Nat) : Int)):=by
 unfold intsD at h
 obtain ⟨x, hx, e⟩:=map_get h
 obtain ⟨h1, h2⟩:=List.getElem?_eq_some_iff.mp hx
 have h3 : i < n:=by simpa using h1
 have h4 : x = i:=by simpa using h2.symm
 subst h4
 exact ⟨h3, e.symm⟩
variable [Gr]
section
variable {X : Cx} {pos p2 : Pos} {a b e : Expr} {ta tb te : DE}
theorem Rps.rep {ok : Addr->Prop} {H : Hp} {vs : List V} {ds : List D} (r : Rps ok H vs ds) : ∀ k : Nat, Rps ok H (List.replicate k vs).flatten (List.replicate k ds).flatten
 | 0=>.nil
 | k + 1=>by
  rw [List.replicate_succ, List.replicate_succ, List.flatten_cons, List.flatten_cons]
  exact r.app (Rps.rep r k)
noncomputable def gRep : G2:=fun k1 d1 _ d2 P=>match d1, d2 with
 | .list ds, .int k=>0<=k/\k < 1000/\ds.length * k.toNat<=1000/\newP k1 (List.replicate k.toNat ds).flatten fun k'=>P k' (.list (List.replicate k.toNat ds).flatten)
 | _, _=>False
theorem okRep : Ok2 gRep rRep:=by
 intro p H0 own Hb H x y k1 d1 k2 d2 P Q A r1 r2 t q
 unfold gRep at t
 split at t
 ·rename_i ds k
  obtain ⟨c1, xs, e1, o1, h1, rs1⟩:=r1.lst'
  subst e1
  have h24:=sizeLine_eq
  refine ⟨c1, k, xs, rfl, r2.int', h1, by omega, by omega, by rw [rs1.length]; omega, fun l hl=>?_⟩
  obtain ⟨k3, i3, nw⟩:=A.new hl (.lst (List.replicate k.toNat xs).flatten)
  obtain ⟨k', hk', rk'⟩:=newP_ok A (rps_go A k3 (rs1.rep k.toNat)) nw upd_same t.2.2.2
  exact q _ _ _ _ hk' k3 i3 rk'
 ·exact t.elim
end
section
variable {X : Cx} {pos : Pos} {a : Expr} {t : DA}
variable [Gr]
end
variable [Gr]
section
variable {X : Cx} {pos : Pos} {a b e : Expr} {ta tb te : DE}
theorem pd_globI {x : Str} {i : Int} {u : Value} {ps : Pos} (hg : Gl X x) (hm : X.mg x = some u) (r : RelV (.int i) u) (hd : (x == ("__debug__" : Str)) = false:=by decide) : PD X (.Name x ps) (tK (.int i)):=pd_const (pe_glob hg hm r hd) fun _=>.int i
noncomputable def tIs2 (te : DE) : DE:=fun ρ P=>te ρ fun _ d=>P .imm (.bool (tyD d == "list" || tyD d == "tuple"))
theorem kit_lt {K : PySem.W.Frag} (d : D) : PySem.W.kitAny K (.type (tyD d)) [.type "list", .type "tuple"] = some (tyD d == "list" || tyD d == "tuple"):=by
 cases d <;> rfl
theorem pd_isLT {x y : Str} {ps pt pt' pp : Pos} {kk : Nat} (hm : X.mg "isinstance" = none) (he : PD X e te) (hT : PE X (.Name x pt) (tC (.ty "list"))) (hT' : PE X (.Name y pt') (tC (.ty "tuple"))) (hg : Gl X "isinstance":=by rfl)
  (h1 : starEach [e, .Tuple [.Name x pt, .Name y pt'] kk pp] X.env = (false, eval e X.env) :: starEach [.Tuple [.Name x pt, .Name y pt'] kk pp] X.env:=by rfl) (h2 : starEach [.Tuple [.Name x pt, .Name y pt'] kk pp] X.env = (false, eval (.Tuple [.Name x pt, .Name y pt'] kk pp) X.env) :: starEach [] X.env:=by rfl)
  (h3 : starEach [.Name x pt, .Name y pt'] X.env = (false, eval (.Name x pt) X.env) :: starEach [.Name y pt'] X.env:=by rfl) (h4 : starEach [.Name y pt'] X.env = (false, eval (.Name y pt') X.env) :: starEach [] X.env:=by rfl) (hpl : (backTo pos (starEach [.Tuple [.Name x pt, .Name y pt'] kk pp] X.env)).any (·.1) = false:=by rfl) :
  PD X (.Call (.Name "isinstance" ps) [e, .Tuple [.Name x pt, .Name y pt'] kk pp] [] pos) (tIs2 te):=PE.wk (pe_callB call_isinst2 hg hm boot_isinstance (pa_cons he (pa_cons (pe_tup (pa_cons hT (pa_cons hT' pa_nil h4) h3)) pa_nil h2) h1) (by decide) (by decide) h1 hpl) (by
 rintro σ H Q ⟨p, H0, own, ρ, P, E, t, q⟩
 refine ⟨p, H0, own, ρ, _, E, t, fun k d v H' h A r=>?_⟩
 refine ⟨by show 2<=sizeLine; decide, fun l hl=>?_⟩
 obtain ⟨k2, i2, nw⟩:=A.new hl (.tup [.ty "list", .ty "tuple"])
 have r2:=rp_go A k2 r
 have fin : TyOf X.K (upd H' l (.tup [.ty "list", .ty "tuple"])) v (.type (tyD d))->∃ x p c1 c2 t b, [v, V.ref l] = [x, .ref p]/\TyOf X.K (upd H' l (.tup [.ty "list", .ty "tuple"])) x t/\SqT X.K (upd H' l (.tup [.ty "list", .ty "tuple"])) p [.ty c1, .ty c2]/\PySem.W.kitAny X.K t [.type c1, .type c2] = some b/\Q (.bl b) (upd H' l (.tup [.ty "list", .ty "tuple"])):=fun ty =>
  ⟨v, l, "list", "tuple", _, _, rfl, ty, SqT.of upd_same, kit_lt d, q _ _ _ _ h (A.go k2 i2) (.bl _)⟩
 show ∃ x p c1 c2 t b, _/\_
 cases r2 with
 | non=>exact fin .non
 | bl b=>exact fin (.bl b)
 | int i=>exact fin (.int i)
 | str x=>exact fin (.str x)
 | lst o hh rr=>exact fin (.lst hh)
 | tup hh rr=>exact fin (.tup hh)
 | dct o hh rr=>exact fin (.dK hh))
end
variable [Gr]
section
variable {X : Cx} {pos : Pos} {a b e : Expr} {ta tb te : DE}
noncomputable def nonB : D->Bool
 | .none=>true
 | _=>false
noncomputable def gIsN : G2:=fun _ d1 _ d2 P=>match d2 with
 | .none=>P .imm (.bool (nonB d1))
 | _=>False
theorem rp_nonB {ok : Addr->Prop} {H : Hp} {v : V} {d : D} (r : Rp ok H v d) : decide (v = .non) = nonB d:=by
 cases r <;> simp [nonB]
theorem okIsN : Ok2 gIsN (fun x y H Q=>y = .non/\Q (.bl (decide (x = .non))) H):=by
 intro p H0 own Hb H x y k1 d1 k2 d2 P Q A r1 r2 t q
 unfold gIsN at t
 split at t
 ·cases r2
  rw [rp_nonB r1]
  exact ⟨rfl, q _ _ _ _ t Kp.refl A.pen (.bl _)⟩
 ·exact t.elim
theorem pdt_isN (ha : PD X a ta) (hb : PD X b tb) : PDT X (.Compare a [.Is] [b] pos) (tTst (t2 gIsN ta tb)):=pdt_cmp op_isN okIsN ha hb (nomark _)
end
variable [Gr]
section
variable {X : Cx} {pos : Pos} {st : Stmt}
end
@[reducible] def grX (H : Hp) : Gr:=⟨fun p H0=>p = noPen/\H0 = H⟩
structure Cal1 (P : Program) (w : World) (K : PySem.W.Frag) (mg : Str->Option Value) (base : Heap) (k : Nat) (x : Str) (ps : List Str) (sp : Sp) : Prop where
 ex : ∃ f fd, FnOk P w K mg base (CX1 P w) k f fd ps sp/\Binds K fd ps []/\PySem.W.keepIn K (.ref f) = true/\mg x = some (.ref f)
section
variable {X : Cx} {E : XK} {k j : Nat} {x : Str} {ps : List Str} {e : Expr} {es : List Expr} {p pos : Pos}
end
variable [Gr]
section
variable {X : Cx} {pos : Pos} {a b e : Expr} {ta tb te : DE} {t : DA}
end
end Dl
namespace L2
open PySem PyProof.Rows
noncomputable def once (ns : List Int) : List Int:=ns.foldl step_dedup []
section
variable {X : Cx}
end
end L2
namespace Dl
open PySem L2 PyProof.Rows
variable [Gr]
section
variable {X : Cx} {pos pos' : Pos} {a : Expr} {t : DA}
end
variable [Gr]
section
variable {X : Cx} {pos p2 : Pos} {a b c e : Expr} {es : List Expr} {ta tb tc te : DE} {t : DA} {st : Stmt}
theorem OpR.or {f : Value->Value->Sem Value} {r r' : R2} (h : OpR X f r) (h' : OpR X f r') : OpR X f (fun x y H Q=>r x y H Q\/r' x y H Q):=by
 intro pins s σ H x y v u Q I rx ry q
 rcases q with q | q
 ·exact h pins s σ H x y v u Q I rx ry q
 ·exact h' pins s σ H x y v u Q I rx ry q
theorem CallR.or {f : Value} {r r' : List V->Hp->VK->Prop} (h : CallR X f r) (h' : CallR X f r') : CallR X f (fun x H Q=>r x H Q\/r' x H Q):=by
 intro pins s σ H x v Q I rx q
 rcases q with q | q
 ·exact h pins s σ H x v Q I rx q
 ·exact h' pins s σ H x v Q I rx q
theorem pd_ix (ha : PD X a ta) (hb : PD X b tb) (hs : PlainIx b:=by exact fun _ _=>rfl) : PD X (.Subscript a b pos) (t2 gIx ta tb):=PE.wk (pe_ix (IxR.or ix_list ix_tup) ha hb hs) (lift2 (by
 intro p H0 own Hb H x y k1 d1 k2 d2 P Q A r1 r2 t q
 unfold gIx at t
 split at t
 ·rename_i ds i
  obtain ⟨d, hd, t⟩:=t
  obtain ⟨c, vs, rfl, o, hc, rs⟩:=r1.lst'
  obtain ⟨v, hv, rv⟩:=rs.atI hd
  exact .inl ⟨c, vs, i, v, rfl, r2.int', SqL.of hc, hv, q _ _ _ _ t Kp.refl A.pen (rp_norm rv)⟩
 ·rename_i ds i
  obtain ⟨d, hd, t⟩:=t
  obtain ⟨c, vs, rfl, hc, rs⟩:=r1.tup'
  obtain ⟨v, hv, rv⟩:=rs.atI hd
  exact .inr ⟨c, vs, i, v, rfl, r2.int', SqT.of hc, hv, q _ _ _ _ t Kp.refl A.pen (rp_norm rv)⟩
 ·exact t.elim))
noncomputable def gPlus : G2:=fun k1 d1 k2 d2 P=>match d1 with
 | .int i=>(match d2 with
  | .int j=>P .imm (.int (i + j))
  | _=>False)
 | .list ds=>gCat k1 (.list ds) k2 d2 P
 | .tuple ds=>gCatT k1 (.tuple ds) k2 d2 P
 | _=>False
theorem pd_plus (ha : PD X a ta) (hb : PD X b tb) : PD X (.BinOp a .Add b pos) (t2 gPlus ta tb):=pd_op (OpR.or op_add (OpR.or op_cat op_catS)) (by
 intro p H0 own Hb H x y k1 d1 k2 d2 P Q A r1 r2 t q
 cases d1 with
 | int i =>
  cases d2 with
  | int j=>exact .inl ⟨i, j, r1.int', r2.int', q _ _ _ _ t Kp.refl A.pen (.int _)⟩
  | _=>exact t.elim
 | list ds=>exact .inr (.inl (okCat p H0 own Hb H x y k1 _ k2 d2 P Q A r1 r2 t q))
 | tuple ds=>exact .inr (.inr (okCatT p H0 own Hb H x y k1 _ k2 d2 P Q A r1 r2 t q))
 | _=>exact t.elim) ha hb
noncomputable def gTimes : G2:=fun k1 d1 k2 d2 P=>match d1 with
 | .int i=>(match d2 with
  | .int j=>CMul i j/\P .imm (.int (i * j))
  | _=>False)
 | .list ds=>gRep k1 (.list ds) k2 d2 P
 | _=>False
theorem pd_times (ha : PD X a ta) (hb : PD X b tb) : PD X (.BinOp a .Mult b pos) (t2 gTimes ta tb):=pd_op (OpR.or op_mul op_rep) (by
 intro p H0 own Hb H x y k1 d1 k2 d2 P Q A r1 r2 t q
 cases d1 with
 | int i =>
  cases d2 with
  | int j=>exact .inl ⟨i, j, r1.int', r2.int', t.1, q _ _ _ _ t.2 Kp.refl A.pen (.int _)⟩
  | _=>exact t.elim
 | list ds=>exact .inr (okRep p H0 own Hb H x y k1 _ k2 d2 P Q A r1 r2 t q)
 | _=>exact t.elim) ha hb
noncomputable def gEqA (neg : Bool) : G2:=fun k1 d1 k2 d2 P=>match scD d1 d2 with
 | some b=>P .imm (.bool (if neg then !b else b))
 | none=>gEqG neg k1 d1 k2 d2 P
theorem okEqA {K : PySem.W.Frag} : Ok2 (gEqA false) (fun x y H Q=>rEq x y H Q\/rEqG K false x y H Q):=by
 intro p H0 own Hb H x y k1 d1 k2 d2 P Q A r1 r2 t q
 cases e : scD d1 d2 with
 | some b =>
  have t' : gEq false k1 d1 k2 d2 P:=by
   unfold gEqA at t
   unfold gEq
   rw [e] at t ⊢
   exact t
  exact .inl (okEq p H0 own Hb H x y k1 d1 k2 d2 P Q A r1 r2 t' q)
 | none =>
  unfold gEqA at t
  rw [e] at t
  exact .inr (okEqG false p H0 own Hb H x y k1 d1 k2 d2 P Q A r1 r2 t q)
theorem okNeA {K : PySem.W.Frag} : Ok2 (gEqA true) (fun x y H Q=>rNe x y H Q\/rEqG K true x y H Q):=by
 intro p H0 own Hb H x y k1 d1 k2 d2 P Q A r1 r2 t q
 cases e : scD d1 d2 with
 | some b =>
  have t' : gEq true k1 d1 k2 d2 P:=by
   unfold gEqA at t
   unfold gEq
   rw [e] at t ⊢
   exact t
  exact .inl (okNe p H0 own Hb H x y k1 d1 k2 d2 P Q A r1 r2 t' q)
 | none =>
  unfold gEqA at t
  rw [e] at t
  exact .inr (okEqG true p H0 own Hb H x y k1 d1 k2 d2 P Q A r1 r2 t q)
theorem pd_eqA (hu : X.A.units + 64 < cLine) (ha : PD X a ta) (hb : PD X b tb) : PD X (.Compare a [.Eq] [b] pos) (t2 (gEqA false) ta tb):=pd_cmp (OpR.or op_eq (op_eqG hu)) okEqA ha hb (nomark _)
theorem pd_neA (hu : X.A.units + 64 < cLine) (ha : PD X a ta) (hb : PD X b tb) : PD X (.Compare a [.NotEq] [b] pos) (t2 (gEqA true) ta tb):=pd_cmp (OpR.or op_ne (op_neG hu)) okNeA ha hb (nomark _)
theorem pdt_eqA (hu : X.A.units + 64 < cLine) (ha : PD X a ta) (hb : PD X b tb) : PDT X (.Compare a [.Eq] [b] pos) (tTst (t2 (gEqA false) ta tb)):=pdt_cmp (OpR.or op_eq (op_eqG hu)) okEqA ha hb (nomark _)
theorem pdt_neA (hu : X.A.units + 64 < cLine) (ha : PD X a ta) (hb : PD X b tb) : PDT X (.Compare a [.NotEq] [b] pos) (tTst (t2 (gEqA true) ta tb)):=pdt_cmp (OpR.or op_ne (op_neG hu)) okNeA ha hb (nomark _)
end
section
variable {n : Nat} {g : DG} {tt : DT} {te : DE} {ρ : List Sl} {k : Kd} {ds : List D} {R : Kd->List D->Prop}
theorem m_snoc' {α β : Type} (f : α->β) {l : List α} {i : Nat} {x : α} (h : l[i]? = some x) : (l.take (i + 1)).map f = (l.take i).map f ++ [f x]:=by
 rw [List.take_add_one, h]
 simp
theorem lc_m {α : Type} (xs : List α) (e f : α->D) (ke : Kd) (hd : ds = xs.map e) (hl : xs.length<=1000)
  (step : ∀ x∈xs, ∀ (A : D->Prop) (B : Prop), A (f x)->g (norm (elC k) (e x)) (e x) (List.replicate n .any ++ ρ) fun ρ'=>if true = true then te ρ' fun k' d'=>(norm k' d').le ke = true/\A d' else B)
  (q : R ke (xs.map f)) :
  ds.length<=1000/\∃ (ke : Kd) (Iv : Nat->List D->Prop), Iv 0 [] /\
   (∀ i d ys, ds[i]? = some d->Iv i ys->g (norm (elC k) d) d (List.replicate n .any ++ ρ) fun ρ'=>if true = true then te ρ' fun k' d'=>(norm k' d').le ke = true/\Iv (i + 1) (ys ++ [d']) else Iv (i + 1) ys) /\
   ∀ ys, Iv ds.length ys->R ke ys:=by
 subst hd
 refine ⟨by rw [List.length_map]; exact hl, ke, fun i ys=>ys = (xs.take i).map f, rfl, ?_, ?_⟩
 ·rintro i d ys hd rfl
  rw [List.getElem?_map] at hd
  cases hx : xs[i]? with
  | none=>rw [hx] at hd; cases hd
  | some x =>
   rw [hx] at hd
   have hd:=Option.some.inj hd
   subst hd
   exact step x (List.mem_of_getElem? hx) (fun d'=>(xs.take i).map f ++ [d'] = (xs.take (i + 1)).map f) _ (m_snoc' f hx).symm
 ·rintro ys rfl
  rw [List.length_map, List.take_length]
  exact q
theorem lc_fm {α : Type} (xs : List α) (e : α->D) (p : α->Bool) (f : α->D) (ke : Kd) (hd : ds = xs.map e) (hl : xs.length<=1000)
  (step : ∀ x∈xs, ∀ (A : D->Prop) (B : Prop), (p x = true->A (f x))->(p x = false->B)->g (norm (elC k) (e x)) (e x) (List.replicate n .any ++ ρ) fun ρ'=>tt ρ' fun b=>if b = true then te ρ' fun k' d'=>(norm k' d').le ke = true/\A d' else B)
  (q : R ke ((xs.filter p).map f)) :
  ds.length<=1000/\∃ (ke : Kd) (Iv : Nat->List D->Prop), Iv 0 [] /\
   (∀ i d ys, ds[i]? = some d->Iv i ys->g (norm (elC k) d) d (List.replicate n .any ++ ρ) fun ρ'=>tt ρ' fun b=>if b = true then te ρ' fun k' d'=>(norm k' d').le ke = true/\Iv (i + 1) (ys ++ [d']) else Iv (i + 1) ys) /\
   ∀ ys, Iv ds.length ys->R ke ys:=by
 subst hd
 refine ⟨by rw [List.length_map]; exact hl, ke, fun i ys=>ys = ((xs.take i).filter p).map f, rfl, ?_, ?_⟩
 ·rintro i d ys hd rfl
  rw [List.getElem?_map] at hd
  cases hx : xs[i]? with
  | none=>rw [hx] at hd; cases hd
  | some x =>
   rw [hx] at hd
   have hd:=Option.some.inj hd
   subst hd
   have sn : ((xs.take (i + 1)).filter p).map f = ((xs.take i).filter p).map f ++ if p x = true then [f x] else []:=by
    rw [List.take_add_one, hx, List.filter_append, List.map_append]
    cases hp : p x <;> simp [hp]
   refine step x (List.mem_of_getElem? hx) (fun d'=>((xs.take i).filter p).map f ++ [d'] = ((xs.take (i + 1)).filter p).map f) _ (fun h=>?_) (fun h=>?_)
   ·rw [sn, if_pos h]
   ·show _ = _
    rw [sn, h, if_neg Bool.false_ne_true, List.append_nil]
 ·rintro ys rfl
  rw [List.length_map, List.take_length]
  exact q
end
section
variable {g : DG} {tb : DS} {k : Kd} {ds : List D} {ρ : List Sl} {P : DEnds}
theorem for_all {α : Type} (xs : List α) (e : α->D) (ok : List Sl->Prop) (hd : ds = xs.map e) (hk : k.le .shr = true) (h0 : ok ρ)
  (step : ∀ x∈xs, ∀ ρ', ok ρ'->g (norm (elK k) (e x)) (e x) ρ' fun ρ2=>tb { nx:=ok, ct:=ok, bk:=P.nx, rt:=P.rt } ρ2)
  (q : ∀ ρ', ok ρ'->P.nx ρ') :
  k.le .shr = true/\∃ Iv : Nat->List Sl->Prop, Iv 0 ρ /\
   (∀ i d ρ', ds[i]? = some d->Iv i ρ'->g (norm (elK k) d) d ρ' fun ρ2=>tb { nx:=Iv (i + 1), ct:=Iv (i + 1), bk:=P.nx, rt:=P.rt } ρ2)/\∀ ρ', Iv ds.length ρ'->P.nx ρ':=by
 subst hd
 refine ⟨hk, fun _ ρ'=>ok ρ', h0, ?_, q⟩
 intro i d ρ' hd h
 rw [List.getElem?_map] at hd
 cases hx : xs[i]? with
 | none=>rw [hx] at hd; cases hd
 | some x =>
  rw [hx] at hd
  have hd:=Option.some.inj hd
  subst hd
  exact step x (List.mem_of_getElem? hx) ρ' h
end
variable [Gr]
section
variable {X : Cx} {scope : Scope} {tg iter elt : Expr} {ifs : List Expr} {pos : Pos} {ti : DI} {g : DG} {tt : DT} {te : DE}
theorem ps_lcD (own : List Str) {i : Nat} {y : Str} {py spos : Pos} (hc : X.calm = true) (hN : X.N.Nodup) (hiN : X.N[i]? = some y) (hx : Loc X.env.scope y) (hi : PDI X tg iter ti) (hg : ∀ c, PDG (X.comp own scope c) tg g) (ht : ∀ c, PDTs (X.comp own scope c) ifs tt) (he : ∀ c, PD (X.comp own scope c) elt te)
  (hsw : swapsWith (.ListComp elt [⟨tg, iter, ifs, 0⟩] scope pos) (some (.Name y py)) spos.line X.env = pure true:=by rfl)
  (hk : compOk X.env scope X.N = true:=by rfl) (hs : ∀ x, foldedSetIterable iter X.env x = pure x:=by intro _; rfl) (hf : X.fn y = true\/X.env.scope.names.lookup y = some .local:=by first | exact .inl rfl | exact .inr rfl | assumption) :
  PS X (.Assign [.Name y py] (.ListComp elt [⟨tg, iter, ifs, 0⟩] scope pos) spos) (tAsg (liftE (dLC own.length ti g tt te)) (gName i)):=PS.wk' (ps_lc own hc hN hiN hx hi hg ht he hsw hk hs hf) fun D σ H q=>lift_lc σ H _ q
end
section
variable {n : Nat} {g : DG} {tt : DT} {te : DE} {ρ : List Sl} {k : Kd} {ds : List D} {R : Kd->List D->Prop}
end
variable [Gr]
section
variable {X : Cx} {pos : Pos} {st : Stmt} {rest : List Stmt} {te tj : DE} {ti : DI} {t : DS}
noncomputable def dFrz (i : Nat) (t : DS) : DS:=fun P ρ=>match ρ[i]? with
 | some (.dw r d)=>freeR r ρ i = true/\t P (ρ.set i (.sn d))
 | some (.rw r L)=>freeR r ρ i = true/\t P (ρ.set i (.sn (.list (L.map PyData.list))))
 | some (.sp r b ds)=>freeR r ρ i = true/\t P (ρ.set i (if b = true then .sn (.list ds) else .sh (.list ds)))
 | _=>False
theorem EnvD.freeze {p : Pn} {H0 H : Hp} {own : Addr->Option Nat} {σ : L2.St} {ρ : List Sl} {i r : Nat} {d : D} {v : V} (E : EnvD p H0 own σ H ρ) (hf : freeR r ρ i = true) (hv : σ[i]? = some (some v)) (x : Rp (fun a=>own a = some r) H v d) :
  EnvD p H0 (clearR r own) σ H (ρ.set i (.sn d)):=by
 have E2 : EnvD p H0 (clearR r own) σ H (ρ.set i .any):=(E.drop (i:=i)).clear hf
 have E3:=E2.put (v:=v) (i:=i) (s:=.sn d) ⟨v, hv, x.mono (fun a o=>⟨(E.ow a r o).1, (E.ow a r o).2.1, by unfold clearR; rw [if_pos o]⟩) (fun _ _ _ e=>e) fun _ _ e=>e⟩
 rw [List.set_set] at E3
 exact E3
theorem ds_frz (i : Nat) (h : PDSs X rest t) : PDSs X rest (dFrz i t):=PSs.wk' h (by
 rintro Q σ H ⟨p, H0, own, ρ, P, E, q, w⟩
 unfold dFrz at q
 split at q
 ·rename_i r d e
  obtain ⟨v, hv, x⟩:=E.slot i _ e
  exact ⟨p, H0, _, _, P, E.freeze q.1 hv x, q.2, w.go clear_frs⟩
 ·rename_i r L e
  obtain ⟨st, as, hv, x⟩:=E.slot i _ e
  exact ⟨p, H0, _, _, P, E.freeze q.1 hv x.rp, q.2, w.go clear_frs⟩
 ·rename_i r b ds e
  obtain ⟨l, vs, hv, o, h, z⟩:=E.slot i _ e
  have E2 : EnvD p H0 (clearR r own) σ H (ρ.set i .any):=(E.drop (i:=i)).clear q.1
  have c0 : ∀ a, own a = none->clearR r own a = none:=fun a n=>by unfold clearR; rw [n]; simp
  have cl : clearR r own l = none:=by unfold clearR; rw [if_pos o]
  have E3 : EnvD p H0 (clearR r own) σ H ((ρ.set i .any).set i (if b = true then .sn (.list ds) else .sh (.list ds))):=E2.put (v:=.ref l) (by
   cases b with
   | true=>exact ⟨_, hv, .lst ⟨(E.ow l r o).1, (E.ow l r o).2.1, cl⟩ h (z.mono (fun c n=>⟨n.1 rfl, n.2.1, c0 c n.2.2⟩) (fun _ _ _ e=>e) fun _ _ e=>e)⟩
   | false=>exact ⟨_, hv, .lst ⟨(E.ow l r o).2.1, cl⟩ h (z.mono (fun c n=>⟨n.2.1, c0 c n.2.2⟩) (fun _ _ _ e=>e) fun _ _ e=>e)⟩)
  rw [List.set_set] at E3
  exact ⟨p, H0, _, _, P, E3, q.2, w.go clear_frs⟩
 ·exact q.elim)
noncomputable def dSp (i : Nat) (b : Bool) (t : DS) : DS:=fun P ρ=>match ρ[i]? with
 | some (.dw r (.list ds))=>immDs ds = true/\t P (ρ.set i (.sp r b ds))
 | _=>False
theorem ds_sp (i : Nat) (b : Bool) (h : PDSs X rest t) : PDSs X rest (dSp i b t):=PSs.wk' h (by
 rintro Q σ H ⟨p, H0, own, ρ, P, E, q, w⟩
 unfold dSp at q
 split at q
 ·rename_i r ds e
  obtain ⟨v, hv, x⟩:=E.slot i _ e
  obtain ⟨l, vs, rfl, o, h, z⟩:=x.lst'
  exact ⟨p, H0, own, _, P, E.put (v:=.ref l) (i:=i) (s:=.sp r b ds) ⟨l, vs, hv, o, h, (z.imm q.1).mono (fun _ o=>o.elim) (fun _ _ o=>o.elim) fun _ _ e=>e⟩, q.2, w⟩
 ·exact q.elim)
noncomputable def spK (b : Bool) : Kd:=if b = true then .snw else .shr
theorem okS_of {p : Pn} {H0 Hb H : Hp} {own : Addr->Option Nat} {b : Bool} (A : At p H0 own Hb H) {k : Kd} (hk : k.le (spK b) = true) {v : V} {d : D} {H2 : Hp} (r : Rp (okK p H0 own Hb k) H2 v d) : Rp (okS p H0 own b) H2 v d:=by
 have r2:=rp_le A hk r
 cases b with
 | true=>exact r2.mono (fun a o=>⟨fun _=>o.1, o.2.1, o.2.2⟩) (fun _ _ _ e=>e) fun _ _ e=>e
 | false=>exact r2.mono (fun a o=>⟨fun z=>(nomatch z), o.1, o.2⟩) (fun _ _ _ e=>e) fun _ _ e=>e
theorem EnvD.respine {p : Pn} {H0 H : Hp} {own : Addr->Option Nat} {σ : L2.St} {ρ : List Sl} {i r : Nat} {b : Bool} {l : Addr} {vs vs' : List V} {ds' : List D} (E : EnvD p H0 own σ H ρ) (hv : σ[i]? = some (some (.ref l))) (o : own l = some r) (h : H l = some (.lst vs)) (z : Rps (okS p H0 own b) H vs' ds') :
  EnvD p H0 own σ (upd H l (.lst vs')) ((forget r ρ).set i (.sp r b ds'))/\FrS p own H own (upd H l (.lst vs')):=by
 refine ⟨(E.write (o':=.lst vs') o h fun xs z=>nomatch z).put (v:=.ref l) ⟨l, vs', hv, o, upd_same, z.mono (fun _ o=>o) (fun c u n e=>?_) fun a xs e=>?_⟩, write_frs o h fun xs z=>nomatch z⟩
 ·rw [upd_ne]; exact e
  intro y; subst y; rw [n.2.2] at o; cases o
 ·rw [upd_ne]; exact e
  intro y; subst y; rw [h] at e; cases e
noncomputable def dAppS (i : Nat) (te : DE) : DS:=fun P ρ=>match ρ[i]? with
 | some (.sp r b ds)=>te ρ fun k d=>(norm k d).le (spK b) = true/\ds.length < 1000/\P.nx ((forget r ρ).set i (.sp r b (ds ++ [d])))
 | _=>False
theorem ds_appS {i : Nat} (h : PS X st (tDrop (tBM X.K "list" rAppend (tVar i) (liftA (aCons te aNil))))) : PDS X st (dAppS i te):=PS.wk' h (by
 rintro Q σ H ⟨p, H0, own, ρ, P, E, t, w⟩
 unfold dAppS at t
 split at t
 ·rename_i r b ds hr
  obtain ⟨l, vs, hv, o, ho, rs⟩:=E.slot i _ hr
  refine ⟨.ref l, hv, .inl ⟨rfl, vs, SqL.of ho⟩, p, H0, own, ρ, _, E, one_arg t, ?_⟩
  rintro ks ws H1 ⟨k, d, rfl, hk, hlen, hn⟩ A rk
  obtain ⟨y, rfl, ry⟩:=rpk1 rk
  have E1:=E.go A.kp A.pen
  have h1 : H1 l = some (.lst vs):=A.kp l _ ho (E.ow l r o).2.1
  have rs1 : Rps (okS p H0 own b) H1 vs ds:=rs.mono (fun _ o=>o) (fun c u n e=>A.kp c u e n.2.1) A.tups
  have h24:=sizeLine_eq
  have hln:=rs.length
  refine ⟨l, vs, y, rfl, rfl, h1, by omega, ?_⟩
  obtain ⟨E2, F2⟩:=E1.respine (b:=b) hv o h1 (rs1.snoc (okS_of A hk (rp_norm ry)))
  exact w.nx _ σ _ _ E2 (A.frs.trans F2) hn
 ·exact t.elim)
noncomputable def dInsS (i : Nat) (tj te : DE) : DS:=fun P ρ=>match ρ[i]? with
 | some (.sp r b ds)=>tj ρ fun _ dj=>te ρ fun k d=>match dj with
  | .int j=>(norm k d).le (spK b) = true/\0<=j/\j.toNat<=ds.length/\ds.length < 1000/\P.nx ((forget r ρ).set i (.sp r b (ds.take j.toNat ++ d :: ds.drop j.toNat)))
  | _=>False
 | _=>False
theorem refs_inj : ∀ {as bs : List Addr}, as.map V.ref = bs.map V.ref->as = bs
 | [], [], _=>rfl
 | a :: as, b :: bs, e=>by
  rw [List.map_cons, List.map_cons] at e
  injection e with e1 e2
  rw [V.ref.inj e1, refs_inj e2]
 | [], _ :: _, e=>by cases e
 | _ :: _, [], e=>by cases e
noncomputable def dDrops (js : List Nat) (t : DS) : DS:=fun P ρ=>t P (js.foldl (fun ρ j=>ρ.set j .any) ρ)
theorem EnvD.drops {p : Pn} {H0 H : Hp} {own : Addr->Option Nat} {σ : L2.St} : ∀ (js : List Nat) {ρ : List Sl}, EnvD p H0 own σ H ρ->EnvD p H0 own σ H (js.foldl (fun ρ j=>ρ.set j .any) ρ)
 | [], _, E=>E
 | _ :: js, _, E=>EnvD.drops js E.drop
theorem ds_drops (js : List Nat) (h : PDSs X rest t) : PDSs X rest (dDrops js t):=PSs.wk' h (by
 rintro Q σ H ⟨p, H0, own, ρ, P, E, q, w⟩
 exact ⟨p, H0, own, _, P, E.drops js, q, w⟩)
noncomputable def dRowApp (i : Nat) (tj te : DE) : DS:=fun P ρ=>match ρ[i]? with
 | some (.rw r L)=>tj ρ fun _ dj=>match dj with
  | .int j=>∃ n l, ixN L.length j = some n/\L[n]? = some l/\te ρ fun _ d=>immD d = true/\l.length < 1000/\P.nx ((forget r ρ).set i (.rw r (L.set n (l ++ [d]))))
  | _=>False
 | _=>False
theorem ds_rowapp {i : Nat} (h : PS X st (tDrop (tBM X.K "list" rAppend (tOp (rIxL X.K) (tVar i) (liftE tj)) (liftA (aCons te aNil))))) : PDS X st (dRowApp i tj te):=PS.wk' h (by
 rintro Q σ H ⟨p, H0, own, ρ, P, E, q, w⟩
 unfold dRowApp at q
 split at q
 ·rename_i r L hr
  obtain ⟨st, as, hv, R0⟩:=E.slot i _ hr
  refine ⟨.ref st, hv, p, H0, own, ρ, _, E, q, fun kj dj vj H1 q1 A1 rj=>?_⟩
  cases dj with
  | int j =>
   have E1:=E.go A1.kp A1.pen
   obtain ⟨st', as', hv', R1⟩:=E1.slot i _ hr
   rw [hv] at hv'
   cases hv'
   have ej:=Rp.int' rj
   subst ej
   obtain ⟨n, l, hn, hl, q1⟩:=q1
   have hnl:=(List.getElem?_eq_some_iff.mp hl).1
   rw [List.getElem?_eq_getElem hnl] at hl
   cases hl
   have hna : n < as'.length:=by rw [R1.len]; exact hnl
   have eat : atI (as'.map V.ref) j = some (.ref as'[n]):=by
    unfold L2.atI
    rw [List.length_map, R1.len, hn]
    show (as'.map V.ref)[n]? = _
    rw [List.getElem?_map, List.getElem?_eq_getElem hna]
    rfl
   obtain ⟨vs, hav, rv⟩:=R1.row n as'[n] L[n] (List.getElem?_eq_getElem hna) (List.getElem?_eq_getElem hnl)
   refine ⟨st, _, j, .ref as'[n], rfl, rfl, SqL.of R1.top, eat, .inl ⟨rfl, vs, SqL.of hav⟩, p, H0, own, ρ, _, E1, one_arg q1, ?_⟩
   rintro ks ws H2 ⟨k, d, rfl, im, len, nx⟩ A2 rk
   obtain ⟨y, rfl, ry⟩:=rpk1 rk
   have ry : Rp (fun _=>False) H2 y d:=Rp.imm ry im
   have E2:=E1.go A2.kp A2.pen
   obtain ⟨st', as2, hv', R2⟩:=E2.slot i _ hr
   rw [hv] at hv'
   cases hv'
   -- the rows are those of before
   have eas : as2 = as':=by
    have e1:=A2.kp st _ R1.top (E1.ow st r (R1.ow st List.mem_cons_self)).2.1
    rw [R2.top] at e1
    have e2:=(HO.lst.inj (Option.some.inj e1))
    exact refs_inj e2
   subst eas
   obtain ⟨vs2, hav2, rv2⟩:=R2.row n as2[n] L[n] (List.getElem?_eq_getElem hna) (List.getElem?_eq_getElem hnl)
   have oa:=R2.ow as2[n] (List.mem_cons_of_mem _ (List.getElem_mem hna))
   have h24:=sizeLine_eq
   have ln:=rv2.length
   refine ⟨as2[n], vs2, y, rfl, rfl, hav2, by omega, ?_⟩
   have tp : ∀ a xs, H2 a = some (.tup xs)->upd H2 as2[n] (.lst (vs2 ++ [y])) a = some (.tup xs):=fun a xs e=>by
    rw [upd_ne]; exact e
    intro z; subst z; rw [hav2] at e; cases e
   have E3:=E2.write (o':=.lst (vs2 ++ [y])) oa hav2 (fun xs z=>nomatch z)
   have nd1:=List.nodup_cons.mp R2.nd
   have E4:=E3.put (v:=.ref st) (i:=i) (s:=.rw r (L.set n (L[n] ++ [d]))) ⟨st, as2, hv, ⟨?_, R2.nd, R2.ow, by rw [List.length_set]; exact R2.len, fun m a ds e1 e2=>?_⟩⟩
   ·exact w.nx _ σ _ _ E4 ((A1.frs.trans A2.frs).trans (write_frs oa hav2 fun xs z=>nomatch z)) nx
   ·rw [upd_ne]; exact R2.top
    intro z
    exact nd1.1 (by rw [z]; exact List.getElem_mem hna)
   ·by_cases em : m = n
    ·subst em
     rw [List.getElem?_set_self hnl] at e2
     rw [List.getElem?_eq_getElem hna] at e1
     cases e1
     cases e2
     exact ⟨_, upd_same, (rv2.mono (fun _ o=>o) (fun _ _ o=>o.elim) tp).snoc (ry.mono (fun _ o=>o) (fun _ _ o=>o.elim) tp)⟩
    ·rw [List.getElem?_set_ne (Ne.symm em)] at e2
     obtain ⟨vs3, h3, r3⟩:=R2.row m a ds e1 e2
     refine ⟨vs3, ?_, r3.mono (fun _ o=>o) (fun _ _ o=>o.elim) tp⟩
     rw [upd_ne]; exact h3
     intro z
     have hm:=(List.getElem?_eq_some_iff.mp e1).1
     have hz : as2[m] = as2[n]:=by rw [(List.getElem?_eq_some_iff.mp e1).2]; exact z
     exact em ((List.getElem_inj nd1.2).mp hz)
  | _=>exact q1.elim
 ·exact q.elim)
noncomputable def dRowsC (i r : Nat) (ti : DI) : DS:=fun P ρ=>ti ρ fun k ds=>ds.length<=1000/\freeR r ρ i = true/\P.nx (ρ.set i (.rw r (List.replicate ds.length [])))
theorem ds_rowsC {i n j : Nat} (r : Nat) (h : PS X st (tAsg (tLC n (liftI ti) (fun _=>liftG (gNm j)) (fun _=>liftT fun _ P=>P true) (fun _=>tLst tNil)) (gName i))) : PDS X st (dRowsC i r ti):=PS.wk' h (by
 rintro Q σ H ⟨p, H0, own, ρ, P, E, q, w⟩
 refine ⟨p, H0, own, ρ, _, E, q, fun k ds J H1 Ok h A W o1=>?_⟩
 obtain ⟨hlen, hf, nx⟩:=h
 have okS : ∀ H', Kp p H1 H'->p.PI H'->Ok H':=fun H' K i=>W.stab H1 H' o1 (fun b o n e=>K b o e (okK_nfp A n.1)) (kp_tup A K)
 refine ⟨fun i m ys H'=>m = ds.length - i/\i<=ds.length/\Kp p H1 H'/\p.PI H'/\∃ as : List Addr, ys = as.map V.ref/\as.Nodup/\as.length = i/\∀ a∈as, H a = none/\H' a = some (.lst []), ⟨_, rfl, Nat.zero_le _, Kp.refl, A.pen, [], rfl, .nil, rfl, fun a ha=>nomatch ha⟩, ?_⟩
 rintro c i' m ys H' ⟨rfl, hi, K', I', as, rfl, nd, la, hn⟩
 have oH:=okS H' K' I'
 have A':=A.go K' I'
 have h24:=sizeLine_eq
 by_cases hlt : i' < ds.length
 ·refine .inr ⟨W.go i' H' oH hlt, by rw [List.length_map]; omega, fun ys' H2=>Kp p H1 H2/\p.PI H2/\∃ as : List Addr, ys' = as.map V.ref/\as.Nodup/\as.length = i' + 1/\∀ a∈as, H a = none/\H2 a = some (.lst []), fun ys' H2 h=>⟨_, by omega, rfl, hlt, h⟩, fun x H2 y=>?_⟩
  obtain ⟨sm, rx⟩:=W.yld i' H' x H2 oH y
  have rx:=rx ds[i'] (List.getElem?_eq_getElem hlt)
  have I2 : p.PI H2:=p.mono H' H2 I' fun b o _ e=>sm b o e
  have K2 : Kp p H1 H2:=K'.trans (Kp.of sm)
  have A2:=A.go K2 I2
  have E2 : EnvD p H0 own σ H2 ρ:=E.go A2.kp A2.pen
  refine ⟨p, H0, own, _, _, _, fun _=>True, E2.comp n, rpB_norm (okA_C A rx), trivial, fun σ3 ρ3 E3 t3=>?_⟩
  refine ⟨p, H0, own, ρ3, fun b=>b = true, E3, rfl, fun b H4 h4 A4=>?_⟩
  subst h4
  refine iteT ⟨(by show 0<=sizeLine; omega), fun l hl=>?_⟩
  have A5 : At p H0 own H H4:=A2.base A4
  obtain ⟨k7, i7, nw⟩:=A5.new hl (.lst [])
  refine ⟨(K2.trans A4.kp).trans k7, i7, as ++ [l], by rw [List.map_append]; rfl, ?_, by rw [List.length_append, la]; rfl, fun a ha=>?_⟩
  ·refine List.nodup_append.mpr ⟨nd, by simp, fun a ha b hb=>?_⟩
   rw [List.mem_singleton.mp hb]
   intro z
   subst z
   have e:=A4.kp a _ (sm a _ (hn a ha).2) (A.nfb (hn a ha).1)
   rw [hl] at e
   cases e
  ·rcases List.mem_append.mp ha with z | z
   ·refine ⟨(hn a z).1, ?_⟩
    have e:=A4.kp a _ (sm a _ (hn a z).2) (A.nfb (hn a z).1)
    exact k7 a _ e (A.nfb (hn a z).1)
   ·rw [List.mem_singleton.mp z]
    exact ⟨nw, upd_same⟩
 ·have e : i' = ds.length:=by omega
  subst e
  refine .inl ⟨W.stop H' oH, fun l hl=>?_⟩
  obtain ⟨k7, i7, nw⟩:=A'.new hl (.lst (as.map V.ref))
  have A7:=A'.go k7 i7
  show Q.nx (σ.set i (some (.ref l))) (upd H' l (.lst (as.map V.ref)))
  have E2 : EnvD p H0 (clearR r own) σ H (ρ.set i .any):=(E.drop (i:=i)).clear hf
  have A8 : At p H0 (clearR r own) H (upd H' l (.lst (as.map V.ref))):=⟨A7.k0, A7.kp, A7.penb, A7.pen, E2.ow⟩
  have E3:=E2.adopt r A8
  have lna : l∉as:=fun z=>by rw [(hn l z).2] at hl; cases hl
  have E4:=E3.set (i:=i) (v:=.ref l) (s:=.rw r (List.replicate ds.length [])) fun hli=>⟨l, as, List.getElem?_set_self hli, ⟨upd_same, List.nodup_cons.mpr ⟨lna, nd⟩, fun a ha=>?_, by rw [la, List.length_replicate], fun m a es e1 e2=>?_⟩⟩
  ·rw [List.set_set] at E4
   exact w.nx _ _ _ _ E4 (clear_frs.trans (adopt_frs A8)) nx
  ·rcases List.mem_cons.mp ha with rfl | ha
   ·exact adopt_new nw upd_same
   ·exact adopt_new (hn a ha).1 (by rw [upd_ne (fun z : a = l=>lna (by rw [← z]; exact ha))]; exact (hn a ha).2)
  ·have ha:=List.mem_of_getElem? e1
   have ees : es = []:=by
    have:=List.mem_of_getElem? e2
    exact (List.mem_replicate.mp this).2
   subst ees
   exact ⟨[], by rw [upd_ne (fun z : a = l=>lna (by rw [← z]; exact ha))]; exact (hn a ha).2, .nil⟩)
theorem pd_dnil : PD X (.Dict [] [] pos) (fun _ P=>P .new (.dict [])):=PE.wk pe_dnewK (by
 rintro σ H Q ⟨p, H0, own, ρ, P, E, t, q⟩
 have A:=E.at
 exact fun d hd=>let ⟨k2, i2, nw⟩:=A.new hd (.dK []); q _ _ _ _ t (A.go k2 i2) (.dct nw upd_same .nil))
end
@[reducible] def grL (K : PySem.W.Frag) (sc : Addr) (ns : List Int) : Gr:=⟨fun p H0=>SqL K H0 sc (ns.map V.int)/\∀ b, p.fp b->H0 b = none⟩
noncomputable def spLaw (K : PySem.W.Frag) : Sp:=fun vs H Q _=>∃ (a : Addr) (ns : List Int), vs = [.ref a]/\SqL K H a (ns.map V.int)/\∀ H', Q (.bl true) H'
section
variable {X : Cx} {k1 k2 j : Nat} {x y z : Str} {ps1 ps2 : List Str} {e : Expr} {es1 es2 : List Expr} {p1 p2 p3 pos pos1 : Pos} {K : PySem.W.Frag} {sc : Addr} {ns : List Int} {C : Pn->Prop} {pre : List D->Prop} {g : List D->(D->Prop)->Prop} {i : Nat}
end
variable [Gr]
section
variable {X : Cx} {pos pos' : Pos} {a b : Expr} {t : DA}
theorem rps_rng {ok : Addr->Prop} {H : Hp} (lo hi : Int) : Rps ok H (rngL lo hi) (intsD lo (hi - lo).toNat):=by
 unfold rngL intsD
 exact Rps.ofMap (fun x=>.int _) _
theorem fin_rng {p : Pn} {H0 H H1 : Hp} {own : Addr->Option Nat} {P : DK} {Q : VK} {lo hi : Int} (A : At p H0 own H H1) (h : P .new (.list (intsD lo (hi - lo).toNat))) (b : -1000<=lo/\lo<=1000/\-1000<=hi/\hi<=1000)
  (q : ∀ k d v H', P k d->At p H0 own H H'->Rp (okK p H0 own H k) H' v d->Q v H') (r : Addr) (hr : H1 r = none) :
  ∃ p' lo' hi', [V.ref r] = [.ref p']/\upd H1 r (.rng lo hi) p' = some (.rng lo' hi')/\(-1000<=lo'/\lo'<=1000/\-1000<=hi'/\hi'<=1000)/\∀ l, upd H1 r (.rng lo hi) l = none->Q (.ref l) (upd (upd H1 r (.rng lo hi)) l (.lst (rngL lo' hi'))):=by
 refine ⟨r, lo, hi, rfl, upd_same, b, fun l hl=>?_⟩
 obtain ⟨k2, i2, _⟩:=A.new hr (.rng lo hi)
 have A2:=A.go k2 i2
 obtain ⟨k3, i3, nw⟩:=A2.new hl (.lst (rngL lo hi))
 exact q _ _ _ _ h (A2.go k3 i3) (.lst nw upd_same (rps_rng lo hi))
noncomputable def tLR1 (t : DA) : DE:=fun ρ P=>t ρ fun ks=>match ks with
 | [(_, .int j)]=>(-1000<=j/\j<=1000)/\P .new (.list (intsD 0 (j - 0).toNat))
 | _=>False
noncomputable def tLR2 (t : DA) : DE:=fun ρ P=>t ρ fun ks=>match ks with
 | [(_, .int i), (_, .int j)]=>(-1000<=i/\i<=1000/\-1000<=j/\j<=1000)/\P .new (.list (intsD i (j - i).toNat))
 | _=>False
theorem pd_lrange2 {ps ps' : Pos} (hc : X.calm = true) (hml : X.mg "list" = none) (hmr : X.mg "range" = none) (ha : PDA X [a, b] t) (hgl : Gl X "list":=by rfl) (hgr : Gl X "range":=by rfl)
  (he : starEach [a, b] X.env = (false, eval a X.env) :: starEach [b] X.env:=by rfl) (hpl : (backTo pos' (starEach [b] X.env)).any (·.1) = false:=by rfl)
  (he2 : starEach [.Call (.Name "range" ps') [a, b] [] pos'] X.env = (false, eval (.Call (.Name "range" ps') [a, b] [] pos') X.env) :: starEach [] X.env:=by rfl) (hpl2 : (backTo pos (starEach [] X.env)).any (·.1) = false:=by rfl) :
  PD X (.Call (.Name "list" ps) [.Call (.Name "range" ps') [a, b] [] pos'] [] pos) (tLR2 t):=PE.wk (pe_callTy (call_list_rng hc) hgl hml boot_list (pa_cons (pe_callTy call_rng2 hgr hmr boot_range ha (by decide) (by decide) he hpl) pa_nil he2) (by decide) (by decide) he2 hpl2) (by
 rintro σ H Q ⟨p, H0, own, ρ, P, E, t, q⟩
 refine ⟨p, H0, own, ρ, _, E, t, fun ks vs H1 h A rk=>?_⟩
 split at h
 ·rename_i k i k' j
  obtain ⟨v, v', rfl, r1, r2⟩:=rpk2 rk
  have e:=Rp.int' r1
  have e':=Rp.int' r2
  subst e e'
  exact ⟨i, j, rfl, fin_rng A h.2 h.1 q⟩
 ·exact h.elim)
end
variable [Gr]
mutual
inductive Tm where
 | int (i : Int)
 | neg (i : Int)
 | bl (b : Bool)
 | non
 | str (s : Str)
 | var (i : Nat)
 | lst (ts : Tms)
 | tup (ts : Tms)
 | dct
inductive Tms where
 | nil
 | cons (t : Tm) (ts : Tms)
end
noncomputable def visB (sc : Scope) (x : Str) : Bool:=sc.names.lookup x == some .local || sc.names.lookup x == some .cell || sc.names.lookup x == some .free
mutual
noncomputable def okT (N : List Str) (sc : Scope) : Tm->Expr->Bool
 | .int i, .Constant (.int j) _ _=>i == j
 | .neg i, .UnaryOp .USub (.Constant (.int j) _ _) _=>i == j
 | .bl b, .Constant (.bool c) _ _=>b == c
 | .non, .Constant .none _ _=>true
 | .str s, .Constant (.str u) _ _=>s == u
 | .var i, .Name x _=>N[i]? == some x && (visB sc x && (!(x == ("__debug__" : Str)) && !(x == ("__classdict__" : Str))))
 | .lst ts, .List es _=>okTs N sc ts es
 | .tup ts, .Tuple es _ _=>okTs N sc ts es
 | .dct, .Dict [] [] _=>true
 | _, _=>false
noncomputable def okTs (N : List Str) (sc : Scope) : Tms->List Expr->Bool
 | .nil, []=>true
 | .cons t ts, e :: es=>okT N sc t e && okTs N sc ts es
 | _, _=>false
end
mutual
noncomputable def evT (ρ : List Sl) : Tm->Option (Kd × D)
 | .int i=>some (.imm, .int i)
 | .neg i=>some (.imm, .int (-i))
 | .bl b=>some (.imm, .bool b)
 | .non=>some (.imm, .none)
 | .str s=>some (.imm, .str s)
 | .var i=>match ρ[i]? with
  | some (.im d)=>some (.imm, d)
  | some (.sh d)=>some (.shr, d)
  | some (.sn d)=>some (.snw, d)
  | some (.dw r d)=>some (.reg r, d)
  | _=>none
 | .lst ts=>match evTs ρ ts with
  | some ks=>some ((joins ks).join .new, .list (ks.map (·.2)))
  | none=>none
 | .tup ts=>match evTs ρ ts with
  | some ks=>some (norm (joins ks) (.tuple (ks.map (·.2))), .tuple (ks.map (·.2)))
  | none=>none
 | .dct=>some (.new, .dict [])
noncomputable def evTs (ρ : List Sl) : Tms->Option (List (Kd × D))
 | .nil=>some []
 | .cons t ts=>match evT ρ t, evTs ρ ts with
  | some k, some ks=>some (k :: ks)
  | _, _=>none
end
mutual
noncomputable def smT : Tm->Bool
 | .lst ts=>smTs 1000 ts
 | .tup ts=>smTs 1000 ts
 | _=>true
noncomputable def smTs : Nat->Tms->Bool
 | _, .nil=>true
 | n + 1, .cons t ts=>smT t && smTs n ts
 | 0, .cons _ _=>false
end
section
variable {X : Cx} {e : Expr} {es : List Expr}
section
variable {N : List Str} {sc : Scope}
end
end
end Dl
namespace L2
open PySem PySem.Spec PyProof.Rows HT
section
variable {X : Cx} {e : Expr} {te : TE} {p1 p2 p3 pos : Pos}
end
end L2
namespace Dl
open PySem L2 PyProof.Rows
variable [Gr]
section
variable {X : Cx} {pos p1 p2 p3 : Pos} {a b e : Expr} {es : List Expr} {ta tb te : DE} {t : DA}
theorem Rps.rev {ok : Addr->Prop} {H : Hp} : ∀ {vs : List V} {ds : List D}, Rps ok H vs ds->Rps ok H vs.reverse ds.reverse
 | _, _, .nil=>.nil
 | _, _, .cons h t=>by
  rw [List.reverse_cons, List.reverse_cons]
  exact (Rps.rev t).snoc h
noncomputable def tSl' (te : DE) (tl th : DO) : DE:=fun ρ P=>te ρ fun k d=>tl ρ fun lo=>th ρ fun hi=>match d with
 | .list ds=>newP k (cutL ds lo hi) fun k'=>P k' (.list (cutL ds lo hi))
 | .tuple ds=>¬ (HT.sIx ds.length 0 lo = 0/\HT.sIx ds.length ds.length hi = ds.length)/\P (norm k (.tuple (cutL ds lo hi))) (.tuple (cutL ds lo hi))
 | _=>False
theorem pd_sl {lo hi : Option Expr} {tl th : DO} (he : PD X e te) (hl : PO X lo (liftO tl)) (hh : PO X hi (liftO th)) : PD X (.Subscript e (.Slice lo hi none p2) pos) (tSl' te tl th):=PE.wk (pe_slice (SlR.or sl_list sl_tup) he hl hh) (by
 rintro σ H Q ⟨p, H0, own, ρ, P, E, t, q⟩
 refine ⟨p, H0, own, ρ, _, E, t, fun k d v H1 h A r=>?_⟩
 refine ⟨p, H0, own, ρ, _, E.go A.kp A.pen, h, fun o1 H2 h2 A2=>?_⟩
 refine ⟨p, H0, own, ρ, _, (E.go A.kp A.pen).go A2.kp A2.pen, h2, fun o2 H3 h3 A3=>?_⟩
 have A4:=(A.base A2).base A3
 have r3:=rp_go (A.base A2) A3.kp (rp_go A A2.kp r)
 cases d with
 | list ds =>
  obtain ⟨x, xs, e1, o, h1, rs⟩:=Rp.lst' r3
  subst e1
  refine .inl ⟨x, xs, rfl, SqL.of h1, fun l hl=>?_⟩
  obtain ⟨k2, i2, nw⟩:=A4.new hl (.lst (cutV xs o1 o2))
  obtain ⟨k', hk', rk'⟩:=newP_ok A4 (rps_go A4 k2 (rs.cut o1 o2)) nw upd_same h3
  exact q _ _ _ _ hk' (A4.go k2 i2) rk'
 | tuple ds =>
  obtain ⟨x, xs, e1, h1, rs⟩:=Rp.tup' r3
  subst e1
  refine .inr ⟨x, xs, rfl, SqT.of h1, by rw [rs.length]; exact h3.1, fun l hl=>?_⟩
  obtain ⟨k2, i2, nw⟩:=A4.new hl (.tup (cutV xs o1 o2))
  exact q _ _ _ _ h3.2 (A4.go k2 i2) (rp_norm (.tup upd_same (rps_go A4 k2 (rs.cut o1 o2))))
 | _=>exact h3.elim)
end
variable [Gr]
noncomputable abbrev IM:=List (Int × D)
noncomputable def kvD (m : IM) : List (D × D):=m.map fun p=>(PyData.int p.1, p.2)
noncomputable def hasI (m : IM) (k : Int) : Bool:=m.any fun p=>decide (p.1 = k)
noncomputable def getI (m : IM) (k : Int) : Option D:=(m.find? fun p=>decide (p.1 = k)).map (·.2)
noncomputable def putI (m : IM) (k : Int) (d : D) : IM:=if hasI m k = true then m.map (fun p=>if p.1 = k then (p.1, d) else p) else m ++ [(k, d)]
noncomputable def immI (m : IM) : Bool:=m.all fun p=>immD p.2
theorem kD_int {k : Key} {i : Int} (h : kD k = .int i) : k = .inl i:=by
 cases k with
 | inl j=>cases h; rfl
 | inr x=>cases h
theorem Rkv.kv : ∀ {ok : Addr->Prop} {H : Hp} {kvs : List (Key × V)} {m : IM}, Rkv ok H kvs (kvD m)->∃ vs : List V, kvs = (m.map (·.1)).zipWith (fun i v=>(Sum.inl i, v)) vs/\Rps ok H vs (m.map (·.2))
 | _, _, _, [], h=>by cases h; exact ⟨[], rfl, .nil⟩
 | _, _, _, p :: m, h=>by
  unfold kvD at h
  rw [List.map_cons] at h
  generalize hk : PyData.int p.1 = kk at h
  cases h with
  | cons h t =>
   rename_i k v vs0
   obtain ⟨vs, rfl, r⟩:=Rkv.kv (m:=m) t
   have e:=kD_int hk.symm
   subst e
   exact ⟨v :: vs, rfl, .cons h r⟩
theorem kvs_has : ∀ {m : IM} {vs : List V} (k : Int), vs.length = m.length->(((m.map (·.1)).zipWith (fun i v=>((Sum.inl i : Key), v)) vs).any fun kv=>decide (kv.1 = Sum.inl k)) = hasI m k
 | [], [], _, _=>rfl
 | p :: m, v :: vs, k, h=>by
  have ih:=kvs_has (m:=m) (vs:=vs) k (by simpa using h)
  have e : decide ((Sum.inl p.1 : Key) = Sum.inl k) = decide (p.1 = k):=by
   by_cases c : p.1 = k <;> simp [c]
  show (decide ((Sum.inl p.1 : Key) = Sum.inl k) || _) = (decide (p.1 = k) || _)
  rw [e]
  exact congrArg _ ih
 | [], _ :: _, _, h=>by cases h
 | _ :: _, [], _, h=>by cases h
theorem val_some {kvs : List (Key × V)} {k : Key} : (valV kvs k).isSome = kvs.any fun kv=>decide (kv.1 = k):=by
 induction kvs with
 | nil=>rfl
 | cons p r ih =>
  unfold valV at ih ⊢
  rw [List.find?_cons, List.any_cons]
  cases h : decide (p.1 = k) with
  | true=>rfl
  | false=>exact ih
theorem kvs_get : ∀ {ok : Addr->Prop} {H : Hp} {m : IM} {vs : List V} {k : Int} {d : D}, Rps ok H vs (m.map (·.2))->getI m k = some d->∃ v, valV ((m.map (·.1)).zipWith (fun i v=>((Sum.inl i : Key), v)) vs) (Sum.inl k) = some v/\Rp ok H v d
 | _, _, [], _, _, _, _, h=>by cases h
 | _, _, p :: m, _, k, d, .cons r t, h=>by
  unfold getI at h
  rw [List.find?_cons] at h
  by_cases c : p.1 = k
  ·rw [decide_eq_true c] at h
   cases h
   refine ⟨_, ?_, r⟩
   show valV ((Sum.inl p.1, _) :: _) (Sum.inl k) = _
   rw [valV_pos (by rw [c])]
  ·rw [decide_eq_false c] at h
   obtain ⟨v, e, rv⟩:=kvs_get (m:=m) (k:=k) (d:=d) t h
   refine ⟨v, ?_, rv⟩
   show valV ((Sum.inl p.1, _) :: _) (Sum.inl k) = _
   unfold valV at e ⊢
   rw [List.find?_cons, decide_eq_false (fun z=>c (Sum.inl.inj z))]
   exact e
theorem kvs_put : ∀ {m : IM} {vs : List V} {k : Int} {v : V} {ok : Addr->Prop} {H : Hp} {d : D}, Rps ok H vs (m.map (·.2))->Rp ok H v d->Rkv ok H (putK ((m.map (·.1)).zipWith (fun i v=>((Sum.inl i : Key), v)) vs) (Sum.inl k) v) (kvD (putI m k d)):=by
 intro m vs k v ok H d rs rv
 have hl : vs.length = m.length:=by rw [rs.length, List.length_map]
 have all : ∀ {m : IM} {vs : List V}, Rps ok H vs (m.map (·.2))->Rkv ok H ((m.map (·.1)).zipWith (fun i v=>((Sum.inl i : Key), v)) vs) (kvD m):=by
  intro m
  induction m with
  | nil=>intro vs r; cases r; exact .nil
  | cons p m ih =>
   intro vs r
   cases r with
   | cons h t=>exact .cons (k:=Sum.inl p.1) h (ih t)
 unfold putK putI
 rw [kvs_has k hl]
 by_cases c : hasI m k = true
 ·rw [if_pos c, if_pos c]
  clear c hl
  induction m generalizing vs with
  | nil=>cases rs; exact .nil
  | cons p m ih =>
   cases rs with
   | cons h t =>
    have:=ih t
    by_cases cp : p.1 = k
    ·have e1 : (Sum.inl p.1 : Key) = Sum.inl k:=by rw [cp]
     show Rkv ok H ((if (Sum.inl p.1 : Key) = Sum.inl k then ((Sum.inl p.1 : Key), v) else (Sum.inl p.1, _)) :: _) (kvD ((if p.1 = k then (p.1, d) else p) :: _))
     rw [if_pos e1, if_pos cp]
     exact .cons (k:=Sum.inl p.1) rv this
    ·have e1 : ¬ ((Sum.inl p.1 : Key) = Sum.inl k):=fun z=>cp (Sum.inl.inj z)
     show Rkv ok H ((if (Sum.inl p.1 : Key) = Sum.inl k then ((Sum.inl p.1 : Key), v) else (Sum.inl p.1, _)) :: _) (kvD ((if p.1 = k then (p.1, d) else p) :: _))
     rw [if_neg e1, if_neg cp]
     exact .cons (k:=Sum.inl p.1) h this
 ·rw [if_neg c, if_neg c]
  have app : ∀ {a b : List (Key × V)} {x y : List (D × D)}, Rkv ok H a x->Rkv ok H b y->Rkv ok H (a ++ b) (x ++ y):=by
   intro a b x y h1 h2
   induction a generalizing x with
   | nil=>cases h1; exact h2
   | cons p a ih=>cases h1 with | cons h t=>exact .cons h (ih t)
  unfold kvD
  rw [List.map_append]
  exact app (all rs) (.cons (k:=Sum.inl k) rv .nil)
section
variable {X : Cx} {pos pos' p2 : Pos} {a b e : Expr} {ta tb te tj tm : DE} {st st2 : Stmt} {rest : List Stmt} {ti : DI} {g : DG} {t : DS}
noncomputable def tD1 (ta tb : DE) : DE:=fun ρ P=>ta ρ fun _ d1=>tb ρ fun k2 d2=>match d1 with
 | .int i=>(norm k2 d2).le .new = true/\P .new (.dict (kvD [(i, d2)]))
 | _=>False
theorem pd_dict1 (ha : PD X a ta) (hb : PD X b tb) : PD X (.Dict [some a] [b] pos) (tD1 ta tb):=PE.wk (pe_disp (pps_cons ha hb pps_nil) rfl rfl (by intro z; cases z) (by show 1<=15; decide)) (by
 rintro σ H Q ⟨p, H0, own, ρ, P, E, t, q⟩
 intro c hc
 have A0:=E.at
 obtain ⟨k0, i0, nw⟩:=A0.new hc (.dK [])
 have nf:=A0.nfb hc
 refine ⟨p, H0, own, ρ, _, E.go k0 i0, t, fun k1 d1 v1 H1 t1 A1 r1=>?_⟩
 refine ⟨p, H0, own, ρ, _, (E.go k0 i0).go A1.kp A1.pen, t1, fun k2 d2 v2 H2 t2 A2 r2=>?_⟩
 have h1 : H1 c = some (.dK []):=A1.kp c _ upd_same nf
 have h2 : H2 c = some (.dK []):=A2.kp c _ h1 nf
 refine ⟨h2, ?_⟩
 cases d1 with
 | int i =>
  have e1:=Rp.int' r1
  subst e1
  refine ⟨[(Sum.inl i, v2)], rfl, (by show 1<=15; decide), ?_⟩
  show Q (.ref c) (upd H2 c (.dK [(Sum.inl i, v2)]))
  have K : Kp p H (upd H2 c (.dK [(Sum.inl i, v2)])):=fun x o ex nx=>by
   rw [upd_ne (ne_of_none ex hc)]
   exact A2.kp x o (A1.kp x o (by rw [upd_ne (ne_of_none ex hc)]; exact ex) nx) nx
  have PIf : p.PI (upd H2 c (.dK [(Sum.inl i, v2)])):=p.mono H2 _ A2.pen fun x o fx ex=>by
   rw [upd_ne (fun z : x = c=>nf (by rw [← z]; exact fx))]; exact ex
  refine q _ _ _ _ t2.2 ⟨A0.k0, K, A0.penb, PIf, A0.ow⟩ (.dct nw upd_same (.cons (k:=Sum.inl i) ?_ .nil))
  have rn : Rp (okK p H0 own H1 .new) H2 v2 d2:=rp_le A2 t2.1 (rp_norm r2)
  refine rn.mono2 (fun x o n ex=>⟨?_, ?_⟩) fun x xs ex=>?_
  ·have n : H1 x = none:=n
   cases hx : H x with
   | none=>exact hx
   | some u =>
    have:=A1.kp x u (by rw [upd_ne (ne_of_none hx hc)]; exact hx) (A2.nfb n)
    rw [n] at this
    cases this
  ·have n : H1 x = none:=n
   rw [upd_ne (fun z=>by rw [z, h1] at n; cases n)]
   exact ex
  ·rw [upd_ne (fun z=>by rw [z, h2] at ex; cases ex)]
   exact ex
 | _=>exact t2.elim)
noncomputable def gDin (neg : Bool) : G2:=fun _ d1 _ d2 P=>match d1, d2 with
 | .int k, .dict ds=>∃ m : IM, ds = kvD m/\P .imm (.bool (if neg then !(hasI m k) else hasI m k))
 | _, _=>False
theorem Rp.dct' {ok : Addr->Prop} {H : Hp} {v : V} {ds : List (D × D)} (r : Rp ok H v (.dict ds)) : ∃ a kvs, v = .ref a/\ok a/\H a = some (.dK kvs)/\Rkv ok H kvs ds:=by
 cases r with
 | dct o h r=>exact ⟨_, _, rfl, o, h, r⟩
theorem lift_dnotin : ∀ σ H Q, liftE (t2 (gDin true) ta tb) σ H Q->tDNotIn (liftE ta) (liftE tb) σ H Q:=by
 rintro σ H Q ⟨p, H0, own, ρ, P, E, t, q⟩
 refine ⟨p, H0, own, ρ, _, E, t, fun k1 d1 v1 H1 t1 A1 r1=>?_⟩
 refine ⟨p, H0, own, ρ, _, E.go A1.kp A1.pen, t1, fun k2 d2 v2 H2 t2 A2 r2=>?_⟩
 have A:=A1.base A2
 unfold gDin at t2
 split at t2
 ·rename_i k ds
  obtain ⟨m, rfl, t2⟩:=t2
  have e1:=Rp.int' r1
  subst e1
  obtain ⟨c, kvs, rfl, o, hc, rk⟩:=Rp.dct' r2
  obtain ⟨vs, rfl, rs⟩:=rk.kv
  refine ⟨c, _, rfl, DGet.k (k:=Sum.inl k) hc, ?_⟩
  rw [val_some, kvs_has k (by rw [rs.length, List.length_map])]
  exact q _ _ _ _ t2 A (.bl _)
 ·exact t2.elim
theorem hu1 (hu : X.A.units + 64 < cLine) : X.A.units + 1 < cLine:=by omega
theorem pdt_notinD (hu : X.A.units + 64 < cLine) (ha : PD X a ta) (hb : PD X b tb) (hm : behindInMarks .NotIn b = false:=by rfl) : PDT X (.Compare a [.NotIn] [b] pos) (tTst (t2 (gDin true) ta tb)):=PT.wk (pt_cmp (pc_dnotin (hu1 hu) ha hb) hm) fun σ H Q q=>lift_dnotin σ H _ (by
 obtain ⟨p, H0, own, ρ, P, E, t, q⟩:=q
 refine ⟨p, H0, own, ρ, _, E, t, fun k d v H' h A r=>?_⟩
 cases d with
 | bool b=>exact ⟨b, Rp.bl' r, q b H' h A⟩
 | _=>exact h.elim)
noncomputable def gDget : G2:=fun k1 d1 _ d2 P=>match d1, d2 with
 | .dict ds, .int k=>∃ (m : IM) (d : D), ds = kvD m/\getI m k = some d/\P (norm k1 d) d
 | _, _=>False
theorem pd_dget (hu : X.A.units + 64 < cLine) (ha : PD X a ta) (hb : PD X b tb) (hs : NoSl b:=by exact fun _ _=>rfl) : PD X (.Subscript a b pos) (t2 gDget ta tb):=PE.wk (pe_dget (hu1 hu) ha hb hs) (by
 rintro σ H Q ⟨p, H0, own, ρ, P, E, t, q⟩
 refine ⟨p, H0, own, ρ, _, E, t, fun k1 d1 v1 H1 t1 A1 r1=>?_⟩
 refine ⟨p, H0, own, ρ, _, E.go A1.kp A1.pen, t1, fun k2 d2 v2 H2 t2 A2 r2=>?_⟩
 have A:=A1.base A2
 unfold gDget at t2
 split at t2
 ·rename_i ds k
  obtain ⟨m, d, rfl, hg, t2⟩:=t2
  have e2:=Rp.int' r2
  subst e2
  obtain ⟨c, kvs, rfl, o, hc, rk⟩:=Rp.dct' (rp_go A1 A2.kp r1)
  obtain ⟨vs, rfl, rs⟩:=rk.kv
  obtain ⟨v, ev, rv⟩:=kvs_get rs hg
  refine ⟨c, v, rfl, ?_, q _ _ _ _ t2 A (rp_norm rv)⟩
  rw [← ev]
  exact DGet.k (k:=Sum.inl k) hc
 ·exact t2.elim)
noncomputable def dPutD (i : Nat) (tk tv : DE) : DS:=fun P ρ=>match ρ[i]? with
 | some (.dw r (.dict ds))=>tv ρ fun _ dv=>tk ρ fun _ dk=>match dk with
  | .int k=>∃ m : IM, ds = kvD m/\immD dv = true/\immI m = true/\m.length < 1000/\P.nx ((forget r ρ).set i (.dw r (.dict (kvD (putI m k dv)))))
  | _=>False
 | _=>False
theorem imm_vals {ok : Addr->Prop} {H : Hp} : ∀ {m : IM} {vs : List V}, immI m = true->Rps ok H vs (m.map (·.2))->Rps (fun _=>False) H vs (m.map (·.2))
 | [], _, _, .nil=>.nil
 | p :: m, _, h, .cons r t=>by
  unfold immI at h
  rw [List.all_cons, Bool.and_eq_true] at h
  exact .cons (r.imm h.1) (imm_vals (m:=m) h.2 t)
theorem ds_dput {i : Nat} {tk tv : DE} (h : PS X st (sDPut (tVar i) (liftE tk) (liftE tv))) : PDS X st (dPutD i tk tv):=PS.wk' h (by
 rintro Q σ H ⟨p, H0, own, ρ, P, E, t, w⟩
 unfold dPutD at t
 split at t
 ·rename_i r ds hr
  obtain ⟨v, hv, _⟩:=E.slot i _ hr
  refine ⟨p, H0, own, ρ, _, E, t, fun kv dv vv H1 t1 A1 r1=>?_⟩
  have E1:=E.go A1.kp A1.pen
  refine ⟨v, hv, p, H0, own, ρ, _, E1, t1, fun kk dk vk H2 t2 A2 r2=>?_⟩
  have E2:=E1.go A2.kp A2.pen
  cases dk with
  | int k =>
   obtain ⟨m, rfl, im, imm, hlen, nx⟩:=t2
   obtain ⟨v', hv', x⟩:=E2.slot i _ hr
   rw [hv] at hv'
   cases hv'
   obtain ⟨l, kvs, rfl, o, hl, rk⟩:=Rp.dct' x
   obtain ⟨vs, rfl, rs⟩:=rk.kv
   have ek:=Rp.int' r2
   subst ek
   have h24:=sizeLine_eq
   have rs0:=imm_vals imm rs
   have rv0 : Rp (fun _=>False) H2 vv dv:=(rp_go A1 A2.kp r1).imm im
   have ln : ((m.map (·.1)).zipWith (fun i v=>((Sum.inl i : Key), v)) vs).length = m.length:=by
    rw [List.length_zipWith, List.length_map, rs.length, List.length_map, Nat.min_self]
   refine ⟨l, _, rfl, DPut.k (k:=Sum.inl k) hl (by rw [ln]; omega), ?_⟩
   have rp:=kvs_put (k:=k) rs0 rv0
   generalize putK ((m.map (·.1)).zipWith (fun i v=>((Sum.inl i : Key), v)) vs) (Sum.inl k) vv = kvs' at rp
   have tp : ∀ a xs, H2 a = some (.tup xs)->upd H2 l (.dK kvs') a = some (.tup xs):=fun a xs e=>by
    rw [upd_ne (fun z=>by rw [z, hl] at e; cases e)]; exact e
   have E3:=(E2.write (o':=.dK kvs') o hl fun xs z=>nomatch z).put (v:=.ref l) (i:=i) (s:=.dw r (.dict (kvD (putI m k dv)))) ⟨_, hv, .dct o upd_same (rp.mono (fun _ o=>o.elim) (fun _ _ o=>o.elim) tp)⟩
   exact w.nx _ σ _ _ E3 ((A1.frs.trans A2.frs).trans (write_frs o hl fun xs z=>nomatch z)) nx
  | _=>exact t2.elim
 ·exact t.elim)
noncomputable def tTru (te : DE) : DT:=fun ρ P=>te ρ fun _ d=>match d with
 | .list ds=>P (!ds.isEmpty)
 | .tuple ds=>P (!ds.isEmpty)
 | .bool b=>P b
 | _=>False
theorem emp_eq {ok : Addr->Prop} {H : Hp} {vs : List V} {ds : List D} (r : Rps ok H vs ds) : (!vs.isEmpty) = !ds.isEmpty:=by
 cases r <;> rfl
theorem pdt_tru (h : PD X e te) (he : ∀ whole, isTrue e X.env whole = (do let v ← whole; standAt e.pos; holding [v] (truthy v)):=by intro _; rfl) : PDT X e (tTru te):=PT.wk (pt_truth h he) (by
 rintro σ H Q ⟨p, H0, own, ρ, P, E, t, q⟩
 refine ⟨p, H0, own, ρ, _, E, t, fun k d v H' h A r=>?_⟩
 cases d with
 | list ds =>
  obtain ⟨c, vs, rfl, o, hc, rs⟩:=Rp.lst' r
  exact ⟨_, .inl ⟨vs, SqL.of hc, rfl⟩, by rw [emp_eq rs]; exact q _ _ h A⟩
 | tuple ds =>
  obtain ⟨c, vs, rfl, hc, rs⟩:=Rp.tup' r
  exact ⟨_, .inr (.inl ⟨vs, SqT.of hc, rfl⟩), by rw [emp_eq rs]; exact q _ _ h A⟩
 | bool b =>
  have e:=Rp.bl' r
  subst e
  exact ⟨b, rfl, q _ _ h A⟩
 | _=>exact h.elim)
end
variable [Gr]
section
variable {X : Cx} {te te1 te2 tj tm : DE} {st st2 : Stmt} {rest : List Stmt} {t : DS}
end
variable [Gr]
section
variable {X : Cx} {te tj : DE} {st : Stmt} {t : DS}
end
end Dl
namespace L2
open PySem PySem.Spec PyProof.Rows
end L2
namespace Dl
open PySem L2 PyProof.Rows
variable [Gr]
section
variable {X : Cx} {tg : Expr} {pos : Pos} {ta : DA}
end
section
variable {X : Cx}
theorem call_minL (hc : X.calm = true) : CallR X (.builtin "min") (fun xs H Q=>∃ (p : Addr) (ns : List Int), xs = [.ref p]/\SqL X.K H p (ns.map V.int)/\ns≠[]/\∀ M, M∈ns->(∀ a∈ns, M<=a)->Q (.int M) H):=by
 intro pins s σ H xs us Q I r h
 obtain ⟨p, ns, rfl, hp, hne, q⟩:=h
 obtain ⟨u, rfl, rx⟩:=vals1 r
 cases rx
 obtain ⟨its, rv, pl, hz⟩:=I.list hp
 have hi : IntsAre its ns:=intsAre_of rv
 obtain ⟨zs, e⟩:=hi.allInts.items
 have hns : ns = zs.toList.map (·.1):=by rw [← hi.numsOf, ← nums_intItems, ← e]
 have hsz : 0 < zs.size:=by
  have h3:=List.length_pos_iff.mpr hne
  rw [hns, List.length_map, Array.length_toList] at h3; exact h3
 have hl:=pl.isList
 rw [e] at hl
 refine min_intList (I.ok.hd hc) hl hsz fun v h' tk hv hk=>?_
 obtain ⟨t, rfl⟩:=intItems_at hv
 obtain ⟨h1, h2⟩:=argBest_lt (numAt zs) (zs.size - 1)
 refine ⟨.int _, H, I.kept fun b o eb=>hk b o eb, ⟨_, rfl⟩, q _ ?_ fun a ha=>?_⟩
 ·rw [hns, numAt_eq]; refine getD_mem ?_; rw [List.length_map, Array.length_toList]; omega
 ·rw [hns] at ha
  obtain ⟨j, hj, rfl⟩:=mem_getD ha
  rw [List.length_map, Array.length_toList] at hj
  have h3:=h2 j (by omega)
  rw [← numAt_eq]; exact h3
theorem call_maxL (hc : X.calm = true) : CallR X (.builtin "max") (fun xs H Q=>∃ (p : Addr) (ns : List Int), xs = [.ref p]/\SqL X.K H p (ns.map V.int)/\ns≠[]/\∀ M, M∈ns->(∀ a∈ns, a<=M)->Q (.int M) H):=by
 intro pins s σ H xs us Q I r h
 obtain ⟨p, ns, rfl, hp, hne, q⟩:=h
 obtain ⟨u, rfl, rx⟩:=vals1 r
 cases rx
 obtain ⟨its, rv, pl, hz⟩:=I.list hp
 have hi : IntsAre its ns:=intsAre_of rv
 obtain ⟨zs, e⟩:=hi.allInts.items
 have hns : ns = zs.toList.map (·.1):=by rw [← hi.numsOf, ← nums_intItems, ← e]
 have hsz : 0 < zs.size:=by
  have h3:=List.length_pos_iff.mpr hne
  rw [hns, List.length_map, Array.length_toList] at h3; exact h3
 have hl:=pl.isList
 rw [e] at hl
 refine max_intList (I.ok.hd hc) hl hsz fun v h' tk hv hk=>?_
 obtain ⟨t, rfl⟩:=intItems_at hv
 obtain ⟨h1, h2⟩:=argBest_gt (numAt zs) (zs.size - 1)
 refine ⟨.int _, H, I.kept fun b o eb=>hk b o eb, ⟨_, rfl⟩, q _ ?_ fun a ha=>?_⟩
 ·rw [hns, numAt_eq]; refine getD_mem ?_; rw [List.length_map, Array.length_toList]; omega
 ·rw [hns] at ha
  obtain ⟨j, hj, rfl⟩:=mem_getD ha
  rw [List.length_map, Array.length_toList] at hj
  have h3:=h2 j (by omega)
  rw [← numAt_eq]; exact h3
end
section
variable {prog : Program} {w : World} {A : Around} {E : Value->Shared->Prop}
end
section
variable {X : Cx} {pos : Pos}
variable [Gr]
end
section
variable {X : Cx} {pos : Pos} {a : Expr} {t : DA} [Gr]
noncomputable def gMnA (f : Int->Int->Int) (le : Int->Int->Prop) : GC:=fun ks P=>match ks with
 | [(_, .tuple [.int i, .int j])]=>P .imm (.int (f i j))
 | [(_, .list ds)]=>∃ ns : List Int, ds = ns.map PyData.int/\ns≠[]/\∀ M, M∈ns->(∀ a∈ns, le M a)->P .imm (.int M)
 | _=>False
theorem pd_minA {ps : Pos} (hc : X.calm = true) (hm : X.mg "min" = none) (ha : PDA X [a] t) (hg : Gl X "min":=by rfl) (he : starEach [a] X.env = (false, eval a X.env) :: starEach [] X.env:=by rfl) (hpl : (backTo pos (starEach [] X.env)).any (·.1) = false:=by rfl) : PD X (.Call (.Name "min" ps) [a] [] pos) (tCl (gMnA (fun i j=>if j < i then j else i) (fun M a=>M<=a)) t) :=
 pd_callB (CallR.or (call_minT hc) (call_minL hc)) (by
  intro p H0 own Hb H vs ks P Q A r t q
  unfold gMnA at t
  split at t
  ·rename_i k i j
   obtain ⟨v, rfl, r'⟩:=rpk1 r
   obtain ⟨x, xs, e1, h1, rs1⟩:=Rp.tup' r'
   obtain ⟨v1, v2, e2, q1, q2⟩:=Rps.two rs1
   subst e1 e2
   rw [q1.int', q2.int'] at h1
   exact .inl ⟨x, i, j, rfl, SqT.of h1, q _ _ _ _ t Kp.refl A.pen (.int _)⟩
  ·obtain ⟨ns, rfl, hne, t⟩:=t
   obtain ⟨v, rfl, r'⟩:=rpk1 r
   obtain ⟨x, xs, e1, o1, h1, rs1⟩:=Rp.lst' r'
   subst e1
   have e2:=Rps.ints rs1
   subst e2
   exact .inr ⟨x, ns, rfl, SqL.of h1, hne, fun M h1 h2=>q _ _ _ _ (t M h1 h2) Kp.refl A.pen (.int _)⟩
  ·exact t.elim) hg hm boot_min ha (by decide) (by decide) he hpl
theorem pd_maxA {ps : Pos} (hc : X.calm = true) (hm : X.mg "max" = none) (ha : PDA X [a] t) (hg : Gl X "max":=by rfl) (he : starEach [a] X.env = (false, eval a X.env) :: starEach [] X.env:=by rfl) (hpl : (backTo pos (starEach [] X.env)).any (·.1) = false:=by rfl) : PD X (.Call (.Name "max" ps) [a] [] pos) (tCl (gMnA (fun i j=>if j > i then j else i) (fun M a=>a<=M)) t) :=
 pd_callB (CallR.or (call_maxT hc) (call_maxL hc)) (by
  intro p H0 own Hb H vs ks P Q A r t q
  unfold gMnA at t
  split at t
  ·rename_i k i j
   obtain ⟨v, rfl, r'⟩:=rpk1 r
   obtain ⟨x, xs, e1, h1, rs1⟩:=Rp.tup' r'
   obtain ⟨v1, v2, e2, q1, q2⟩:=Rps.two rs1
   subst e1 e2
   rw [q1.int', q2.int'] at h1
   exact .inl ⟨x, i, j, rfl, SqT.of h1, q _ _ _ _ t Kp.refl A.pen (.int _)⟩
  ·obtain ⟨ns, rfl, hne, t⟩:=t
   obtain ⟨v, rfl, r'⟩:=rpk1 r
   obtain ⟨x, xs, e1, o1, h1, rs1⟩:=Rp.lst' r'
   subst e1
   have e2:=Rps.ints rs1
   subst e2
   exact .inr ⟨x, ns, rfl, SqL.of h1, hne, fun M h1 h2=>q _ _ _ _ (t M h1 h2) Kp.refl A.pen (.int _)⟩
  ·exact t.elim) hg hm boot_max ha (by decide) (by decide) he hpl
noncomputable def gSortD : GC:=fun ks P=>match ks with
 | [(_, .dict ds)]=>∃ m : IM, ds = kvD m/\m.length < 64/\∀ out : List Int, out.Perm (m.map (·.1))->out.Pairwise (·<=·)->P .new (.list (out.map PyData.int))
 | _=>False
theorem rkv_keys {ok : Addr->Prop} {H : Hp} : ∀ {kvs : List (Key × V)} {ds : List (D × D)} {m : IM}, Rkv ok H kvs ds->ds = kvD m->kvs.map (·.1) = (m.map (·.1)).map Sum.inl
 | _, _, [], .nil, _=>rfl
 | _, _, p :: m, .cons h t, e=>by
  have e1 : kD _ = PyData.int p.1:=congrArg Prod.fst (List.cons.inj e).1
  have e2:=kD_int e1
  rw [List.map_cons, List.map_cons, List.map_cons, rkv_keys (m:=m) t (List.cons.inj e).2, ← e2]
 | _, _, [], .cons _ _, e=>nomatch e
 | _, _, _ :: _, .nil, e=>nomatch e
theorem pd_sortD {ps : Pos} (hc : X.calm = true) (hm : X.mg "sorted" = none) (ha : PDA X [a] t) (hg : Gl X "sorted":=by rfl) (he : starEach [a] X.env = (false, eval a X.env) :: starEach [] X.env:=by rfl) (hpl : (backTo pos (starEach [] X.env)).any (·.1) = false:=by rfl) : PD X (.Call (.Name "sorted" ps) [a] [] pos) (tCl gSortD t) :=
 pd_callB (call_sortedD hc) (by
  intro p H0 own Hb H vs ks P Q A r t q
  unfold gSortD at t
  split at t
  ·obtain ⟨m, rfl, hl, t⟩:=t
   obtain ⟨v, rfl, r'⟩:=rpk1 r
   obtain ⟨x, kvs, e1, o1, h1, rs1⟩:=Rp.dct' r'
   subst e1
   refine ⟨x, kvs, m.map (·.1), rfl, h1, rkv_keys rs1 rfl, by rw [List.length_map]; exact hl, fun l out hl' hp hs=>?_⟩
   obtain ⟨k2, i2, nw⟩:=A.new hl' (.lst (out.map V.int))
   exact q _ _ _ _ (t out hp hs) k2 i2 (.lst nw upd_same (Rps.ofMap (fun i=>.int i) out))
  ·exact t.elim) hg hm boot_sorted ha (by decide) (by decide) he hpl
noncomputable def gNotN : G2:=fun _ d1 _ d2 P=>match d2 with
 | .none=>P .imm (.bool (!nonB d1))
 | _=>False
theorem okNotN : Ok2 gNotN (fun x y H Q=>y = .non/\Q (.bl (!decide (x = .non))) H):=by
 intro p H0 own Hb H x y k1 d1 k2 d2 P Q A r1 r2 t q
 unfold gNotN at t
 split at t
 ·cases r2
  rw [rp_nonB r1]
  exact ⟨rfl, q _ _ _ _ t Kp.refl A.pen (.bl _)⟩
 ·exact t.elim
variable {b : Expr} {ta tb : DE}
theorem pd_isnotN (ha : PD X a ta) (hb : PD X b tb) : PD X (.Compare a [.IsNot] [b] pos) (t2 gNotN ta tb):=pd_cmp op_notN okNotN ha hb (nomark _)
theorem pdt_isnotN (ha : PD X a ta) (hb : PD X b tb) : PDT X (.Compare a [.IsNot] [b] pos) (tTst (t2 gNotN ta tb)):=pdt_cmp op_notN okNotN ha hb (nomark _)
end
section
variable {X : Cx}
end
section
variable {X : Cx} {pos : Pos} {a e : Expr} {te ta : DE} {t : DA} {st st2 : Stmt} {rest : List Stmt} [Gr]
end
section
variable {X : Cx} {tg iter c : Expr} {pos pos1 : Pos} {ret : Stmt} {ti : DI} {g : DG} {tc : DT} [Gr]
end
end Dl
namespace L2
open PySem PySem.Spec PyProof.Rows
end L2
set_option autoImplicit true
set_option relaxedAutoImplicit true
namespace Wr
open PySem L2 PyProof.Rows Dl
structure WD [Gr] (X : Cx) (e : Expr) (t : DE) : Prop where
 h : PD X e t
structure WDT [Gr] (X : Cx) (e : Expr) (t : DT) : Prop where
 h : PDT X e t
structure WDW [Gr] (X : Cx) (e : Expr) (t : DT) : Prop where
 h : PDW X e t
structure WDA [Gr] (X : Cx) (e : List Expr) (t : DA) : Prop where
 h : PDA X e t
structure WDS [Gr] (X : Cx) (e : Stmt) (t : DS) : Prop where
 h : PDS X e t
structure WDSs [Gr] (X : Cx) (e : List Stmt) (t : DS) : Prop where
 h : PDSs X e t
structure WDI [Gr] (X : Cx) (tg e : Expr) (t : DI) : Prop where
 h : PDI X tg e t
structure WDG [Gr] (X : Cx) (e : Expr) (t : DG) : Prop where
 h : PDG X e t
structure WDGs [Gr] (X : Cx) (e : List Expr) (t : DGs) : Prop where
 h : PGs X e (liftGs t)
structure WDTs [Gr] (X : Cx) (e : List Expr) (t : DT) : Prop where
 h : PDTs X e t
structure WDO [Gr] (X : Cx) (e : Option Expr) (t : DO) : Prop where
 h : PO X e (liftO t)
structure WV (X : Cx) (e : Expr) (i : Nat) : Prop where
 h : PE X e (tVar i)
structure WC (X : Cx) (e : Expr) (v : V) : Prop where
 h : PE X e (tC v)
section
variable [Gr]
theorem wv (i : Nat) {x : Str} {pos : Pos} (hN : X.N[i]? = some x:=by rfl) (hv : Vis X.env.scope x:=by first | exact Or.inl rfl | exact Or.inr (Or.inl rfl) | exact Or.inr (Or.inr rfl)) (hd : (x == ("__debug__" : Str)) = false:=by decide)
  (hcd : (x == ("__classdict__" : Str)) = false:=by decide) : WV X (.Name x pos) i:=⟨pv i hN hv hd hcd⟩
theorem wpt {t : DT} (h : WDW X e t) : WDT X e t:=⟨PDW.pt h.h⟩
theorem pdt_chain {op op' : CmpOp} {f f' : Int->Int->Bool} (ho : OpR X (compareOp op) (rI0 fun i j=>.bl (f i j))) (ho' : OpR X (compareOp op') (rI0 fun i j=>.bl (f' i j))) (ha : WD X a ta) (hb : WD X b tb) (hc : WD X c tc) (hm : lastMarks [op, op'] [b, c] = false:=by with_unfolding_all rfl) : WDT X (.Compare a [op, op'] [b, c] pos) (tTst (tCh f f' ta tb tc)):=⟨Dl.pdt_chain (pt_chain ho ho' ha.h hb.h hc.h hm) lift_ch⟩
theorem wty {x : Str} {T : String} (hg : Gl X x) (hm : X.mg x = none) (hv : bootBuiltins x = some (.type T)) (hn : x≠"__name__":=by decide) (hd : (x == ("__debug__" : Str)) = false:=by decide) : WC X (.Name x ps) (.ty T):=⟨pe_bltn hg hm hv rfl hn hd⟩
theorem ds_set {i : Nat} {x : Str} {e : Expr} {te : DE} {pos' pos : Pos} (rg : Option Nat) (hN : X.N.Nodup) (hi : X.N[i]? = some x) (hx : Loc X.env.scope x) (he : WD X e te) (hs : swapsWith e (some (.Name x pos')) pos.line X.env = pure false:=by rfl) (hf : X.fn x = true\/X.env.scope.names.lookup x = some .local:=by first | exact .inl rfl | exact .inr rfl | assumption) :
  WDS X (.Assign [.Name x pos'] e pos) (dSet i rg te):=⟨Dl.ds_set rg (ps_set hN hi hx he.h hs hf)⟩
theorem ds_setlc (rg : Option Nat) (own : List Str) {i : Nat} {y : Str} {py spos : Pos} (hc : X.calm = true) (hN : X.N.Nodup) (hiN : X.N[i]? = some y) (hx : Loc X.env.scope y) (hi : WDI X tg iter ti) (hg : ∀ c, WDG (X.comp own scope c) tg g) (ht : ∀ c, WDTs (X.comp own scope c) ifs tt) (he : ∀ c, WD (X.comp own scope c) elt te)
  (hsw : swapsWith (.ListComp elt [⟨tg, iter, ifs, 0⟩] scope pos) (some (.Name y py)) spos.line X.env = pure true:=by rfl)
  (hk : compOk X.env scope X.N = true:=by rfl) (hs : ∀ x, foldedSetIterable iter X.env x = pure x:=by intro _; rfl) (hf : X.fn y = true\/X.env.scope.names.lookup y = some .local:=by first | exact .inl rfl | exact .inr rfl | assumption) :
  WDS X (.Assign [.Name y py] (.ListComp elt [⟨tg, iter, ifs, 0⟩] scope pos) spos) (dSet i rg (dLC own.length ti g tt te)):=⟨Dl.ds_set rg (ps_lcD own hc hN hiN hx hi.h (fun c=>(hg c).h) (fun c=>(ht c).h) (fun c=>(he c).h) hsw hk hs hf)⟩
theorem ds_rowsC (r : Nat) (own : List Str) {i j : Nat} {y z : Str} {py spos zp lp : Pos} (hc : X.calm = true) (hN : X.N.Nodup) (hiN : X.N[i]? = some y) (hx : Loc X.env.scope y) (hi : WDI X (.Name z zp) iter ti) (hg : ∀ c, WDG (X.comp own scope c) (.Name z zp) (gNm j))
  (hsw : swapsWith (.ListComp (.List [] lp) [⟨.Name z zp, iter, [], 0⟩] scope pos) (some (.Name y py)) spos.line X.env = pure true:=by rfl)
  (hk : compOk X.env scope X.N = true:=by rfl) (hs : ∀ x, foldedSetIterable iter X.env x = pure x:=by intro _; rfl) (hf : X.fn y = true\/X.env.scope.names.lookup y = some .local:=by first | exact .inl rfl | exact .inr rfl | assumption) :
  WDS X (.Assign [.Name y py] (.ListComp (.List [] lp) [⟨.Name z zp, iter, [], 0⟩] scope pos) spos) (dRowsC i r ti):=⟨Dl.ds_rowsC r (ps_lc own hc hN hiN hx hi.h (fun c=>(hg c).h) (fun c=>dts_nil) (fun c=>pe_lst pa_nil) hsw hk hs hf)⟩
theorem ds_append {i : Nat} {x : Str} {e : Expr} {es : List Expr} {apos cpos np pos : Pos} (hv : WV X (.Name x np) i) (ha : WDA X (e :: es) (aCons te aNil))
  (hbase : attributeBase (.Name x np) "append" X.env (eval (.Name x np) X.env) = eval (.Name x np) X.env:=by rfl)
  (hfew : ((backTo cpos (starEach (e :: es) X.env)).all (fun x=>!x.1) && (backToKw cpos (keywordEach [] X.env)).all (fun x=>x.1.isSome)
   && decide ((e :: es).length + ([] : List Keyword).length + (if ([] : List Keyword).isEmpty then 0 else 1) < 30)) = true:=by rfl)
  (hline : (apos.endLine == cpos.line) = true:=by rfl) (hst : starEach (e :: es) X.env = (false, eval e X.env) :: starEach es X.env:=by rfl) (hplain : (backTo cpos (starEach es X.env)).any (·.1) = false:=by rfl)
  (hs : swapsWith (.Call (.Attribute (.Name x np) "append" apos) (e :: es) [] cpos) none pos.line X.env = pure false:=by rfl) :
  WDS X (.Expr (.Call (.Attribute (.Name x np) "append" apos) (e :: es) [] cpos) pos) (dApp i te):=⟨Dl.ds_append (ps_expr (pe_bm PySem.F.plainAttrs_list PySem.F.slot_list_append PySem.F.type_list_append mt_append hv.h ha.h hbase hfew hline hst hplain) hs)⟩
theorem ds_appS {i : Nat} {x : Str} {e : Expr} {es : List Expr} {apos cpos np pos : Pos} (hv : WV X (.Name x np) i) (ha : WDA X (e :: es) (aCons te aNil))
  (hbase : attributeBase (.Name x np) "append" X.env (eval (.Name x np) X.env) = eval (.Name x np) X.env:=by rfl)
  (hfew : ((backTo cpos (starEach (e :: es) X.env)).all (fun x=>!x.1) && (backToKw cpos (keywordEach [] X.env)).all (fun x=>x.1.isSome)
   && decide ((e :: es).length + ([] : List Keyword).length + (if ([] : List Keyword).isEmpty then 0 else 1) < 30)) = true:=by rfl)
  (hline : (apos.endLine == cpos.line) = true:=by rfl) (hst : starEach (e :: es) X.env = (false, eval e X.env) :: starEach es X.env:=by rfl) (hplain : (backTo cpos (starEach es X.env)).any (·.1) = false:=by rfl)
  (hs : swapsWith (.Call (.Attribute (.Name x np) "append" apos) (e :: es) [] cpos) none pos.line X.env = pure false:=by rfl) :
  WDS X (.Expr (.Call (.Attribute (.Name x np) "append" apos) (e :: es) [] cpos) pos) (dAppS i te):=⟨Dl.ds_appS (ps_expr (pe_bm PySem.F.plainAttrs_list PySem.F.slot_list_append PySem.F.type_list_append mt_append hv.h ha.h hbase hfew hline hst hplain) hs)⟩
theorem ds_rowapp {i : Nat} {x : Str} {e ej : Expr} {es : List Expr} {apos cpos np sp pos : Pos} (hv : WV X (.Name x np) i) (hj : WD X ej tj) (ha : WDA X (e :: es) (aCons te aNil)) (hpx : PlainIx ej:=by exact fun _ _=>rfl)
  (hbase : attributeBase (.Subscript (.Name x np) ej sp) "append" X.env (eval (.Subscript (.Name x np) ej sp) X.env) = eval (.Subscript (.Name x np) ej sp) X.env:=by rfl)
  (hfew : ((backTo cpos (starEach (e :: es) X.env)).all (fun x=>!x.1) && (backToKw cpos (keywordEach [] X.env)).all (fun x=>x.1.isSome)
   && decide ((e :: es).length + ([] : List Keyword).length + (if ([] : List Keyword).isEmpty then 0 else 1) < 30)) = true:=by rfl)
  (hline : (apos.endLine == cpos.line) = true:=by rfl) (hst : starEach (e :: es) X.env = (false, eval e X.env) :: starEach es X.env:=by rfl) (hplain : (backTo cpos (starEach es X.env)).any (·.1) = false:=by rfl)
  (hs : swapsWith (.Call (.Attribute (.Subscript (.Name x np) ej sp) "append" apos) (e :: es) [] cpos) none pos.line X.env = pure false:=by rfl) :
  WDS X (.Expr (.Call (.Attribute (.Subscript (.Name x np) ej sp) "append" apos) (e :: es) [] cpos) pos) (dRowApp i tj te):=⟨Dl.ds_rowapp (ps_expr (pe_bm PySem.F.plainAttrs_list PySem.F.slot_list_append PySem.F.type_list_append mt_append (pe_ix ix_list hv.h hj.h hpx) ha.h hbase hfew hline hst hplain) hs)⟩
theorem ds_dput {i : Nat} {x : Str} {ek e : Expr} {np pos' pos : Pos} (hu : X.A.units + 64 < cLine) (hv : WV X (.Name x np) i) (hk : WD X ek tk) (he : WD X e tv) (hs : swapsWith e (some (.Subscript (.Name x np) ek pos')) pos.line X.env = pure false:=by rfl) :
  WDS X (.Assign [.Subscript (.Name x np) ek pos'] e pos) (dPutD i tk tv):=⟨Dl.ds_dput (ps_dput (hu1 hu) hv.h hk.h he.h hs)⟩
theorem pd_globI {x : Str} {i : Int} {u : Value} {ps : Pos} (hg : Gl X x) (hm : X.mg x = some u) (r : RelV (.int i) u) (hd : (x == ("__debug__" : Str)) = false:=by decide) : WD X (.Name x ps) (tK (.int i)):=⟨Dl.pd_globI hg hm r hd⟩
theorem dg_name {i : Nat} {x : Str} (hN : X.N.Nodup) (hi : X.N[i]? = some x) (hx : Loc X.env.scope x) (hf : X.fn x = true\/X.env.scope.names.lookup x = some .local:=by first | exact .inl rfl | exact .inr rfl | assumption) : WDG X (.Name x pos) (gNm i):=⟨Dl.dg_name (pg_name hN hi hx hf)⟩
theorem pd_int {i : Int} {j : Nat} : WD X (.Constant (.int i) j pos) (tK (.int i)):=⟨Dl.pd_int ⟩
theorem pd_bl {i : Bool} {j : Nat} : WD X (.Constant (.bool i) j pos) (tK (.bool i)):=⟨Dl.pd_bl ⟩
theorem pd_non {j : Nat} : WD X (.Constant .none j pos) (tK .none):=⟨Dl.pd_non ⟩
theorem pdt_val {e : Expr} {t : DE} (h : WD X e t) (he : ∀ whole, isTrue e X.env whole = (do let v ← whole; standAt e.pos; holding [v] (truthy v)):=by intro _; rfl) : WDT X e (tTst t):=⟨Dl.pdt_val (h:=h.h) (he:=he)⟩
theorem pdt_not {t : DT} (ha : WDT X a t) : WDT X (.UnaryOp .Not a pos) (dNot t):=⟨Dl.pdt_not (ha:=ha.h)⟩
theorem pdw_and1 (ha : WDT X a t) : WDW X (.BoolOp .And [a] pos) t:=⟨Dl.pdw_and1 (ha:=ha.h)⟩
theorem pdw_or1 (ha : WDT X a t) : WDW X (.BoolOp .Or [a] pos) t:=⟨Dl.pdw_or1 (ha:=ha.h)⟩
theorem pdw_and {rest : List Expr} (ha : WDT X a t) (hb : WDW X (.BoolOp .And (b :: rest) pos) u) : WDW X (.BoolOp .And (a :: b :: rest) pos) (dAnd t u):=⟨Dl.pdw_and (ha:=ha.h) (hb:=hb.h)⟩
theorem pdw_or {rest : List Expr} (ha : WDT X a t) (hb : WDW X (.BoolOp .Or (b :: rest) pos) u) : WDW X (.BoolOp .Or (a :: b :: rest) pos) (dOr t u):=⟨Dl.pdw_or (ha:=ha.h) (hb:=hb.h)⟩
theorem pda_nil  : WDA X [] aNil:=⟨Dl.pda_nil ⟩
theorem pda_cons (ha : WD X e te) (hr : WDA X es t) (hs : starEach (e :: es) X.env = (false, eval e X.env) :: starEach es X.env:=by rfl) : WDA X (e :: es) (aCons te t):=⟨Dl.pda_cons (ha:=ha.h) (hr:=hr.h) (hs:=hs)⟩
theorem pd_list (h : WDA X es t) : WD X (.List es pos) (tList t):=⟨Dl.pd_list (h:=h.h)⟩
theorem pd_tuple {x1} (h : WDA X es t) : WD X (.Tuple es x1 pos) (tTuple t):=⟨Dl.pd_tuple (h:=h.h)⟩
theorem pd_sub (ha : WD X a ta) (hb : WD X b tb) : WD X (.BinOp a .Sub b pos) (t2 (gI0 fun i j=>.int (i - j)) ta tb):=⟨Dl.pd_sub (ha:=ha.h) (hb:=hb.h)⟩
theorem pd_mod (ha : WD X a ta) (hb : WD X b tb) : WD X (.BinOp a .Mod b pos) (t2 (gI (fun _ j=>0 < j) fun i j=>.int (i % j)) ta tb):=⟨Dl.pd_mod (ha:=ha.h) (hb:=hb.h)⟩
theorem pd_gt (ha : WD X a ta) (hb : WD X b tb) : WD X (.Compare a [.Gt] [b] pos) (t2 (gI0 fun i j=>.bool (decide (j < i))) ta tb):=⟨Dl.pd_gt (ha:=ha.h) (hb:=hb.h)⟩
theorem pd_ge (ha : WD X a ta) (hb : WD X b tb) : WD X (.Compare a [.GtE] [b] pos) (t2 (gI0 fun i j=>.bool (decide (j<=i))) ta tb):=⟨Dl.pd_ge (ha:=ha.h) (hb:=hb.h)⟩
theorem pdt_lt (ha : WD X a ta) (hb : WD X b tb) : WDT X (.Compare a [.Lt] [b] pos) (tTst (t2 (gI0 fun i j=>.bool (decide (i < j))) ta tb)):=⟨Dl.pdt_lt (ha:=ha.h) (hb:=hb.h)⟩
theorem pdt_gt (ha : WD X a ta) (hb : WD X b tb) : WDT X (.Compare a [.Gt] [b] pos) (tTst (t2 (gI0 fun i j=>.bool (decide (j < i))) ta tb)):=⟨Dl.pdt_gt (ha:=ha.h) (hb:=hb.h)⟩
theorem pd_len {ps : Pos} (hm : X.mg "len" = none) (ha : WDA X [a] t) (hg : Gl X "len":=by rfl) (he : starEach [a] X.env = (false, eval a X.env) :: starEach [] X.env:=by rfl) (hpl : (backTo pos (starEach [] X.env)).any (·.1) = false:=by rfl) : WD X (.Call (.Name "len" ps) [a] [] pos) (tCl gLen t):=⟨Dl.pd_len (hm:=hm) (ha:=ha.h) (hg:=hg) (he:=he) (hpl:=hpl)⟩
theorem pd_intC {ps : Pos} (hm : X.mg "int" = none) (hv : bootBuiltins "int" = some (.type "int")) (ha : WDA X [a] t) (hg : Gl X "int":=by rfl) (he : starEach [a] X.env = (false, eval a X.env) :: starEach [] X.env:=by rfl) (hpl : (backTo pos (starEach [] X.env)).any (·.1) = false:=by rfl) : WD X (.Call (.Name "int" ps) [a] [] pos) (tCl gInt t):=⟨Dl.pd_intC (hm:=hm) (hv:=hv) (ha:=ha.h) (hg:=hg) (he:=he) (hpl:=hpl)⟩
theorem ds_nil  : WDSs X [] dNext:=⟨Dl.ds_nil ⟩
theorem ds_cons {st : Stmt} {rest : List Stmt} (h1 : WDS X st t) (h2 : WDSs X rest u) : WDSs X (st :: rest) (dSeq t u):=⟨Dl.ds_cons (h1:=h1.h) (h2:=h2.h)⟩
theorem ds_one {st : Stmt} (h1 : WDS X st t) : WDSs X [st] t:=⟨Dl.ds_one (h1:=h1.h)⟩
theorem ds_never {st : Stmt} : WDS X st (fun _ _=>False):=⟨Dl.ds_never ⟩
theorem ds_ret (he : WD X e te) : WDS X (.Return (some e) pos) (dRet te):=⟨Dl.ds_ret (he:=he.h)⟩
theorem ds_if {c : Expr} {a b : List Stmt} {tc : DT} (hc : WDT X c tc) (ha : WDSs X a t) (hb : WDSs X b u) : WDS X (.If c a b pos) (dIf tc t u):=⟨Dl.ds_if (hc:=hc.h) (ha:=ha.h) (hb:=hb.h)⟩
theorem ds_expr (he : WD X e te) (hs : swapsWith e none pos.line X.env = pure false:=by rfl) : WDS X (.Expr e pos) (dExpr te):=⟨Dl.ds_expr (he:=he.h) (hs:=hs)⟩
theorem dgs_nil  : WDGs X [] gsNil:=⟨Dl.dgs_nil ⟩
theorem dgs_cons {g : DG} {gs : DGs} (h1 : WDG X e g) (h2 : WDGs X es gs) (hs : (assignEach (e :: es) X.env).map (·.2) = assign e X.env :: (assignEach es X.env).map (·.2):=by rfl) : WDGs X (e :: es) (gsCons g gs):=⟨Dl.dgs_cons (h1:=h1.h) (h2:=h2.h) (hs:=hs)⟩
theorem dg_tup {gs : DGs} {k n : Nat} (hc : X.calm = true) (h : WDGs X es gs) (hn : (assignEach es X.env).length = n:=by rfl) (hst : (assignEach es X.env).findIdx? (·.1) = none:=by rfl) : WDG X (.Tuple es k pos) (gTp n gs):=⟨Dl.dg_tup (hc:=hc) (h:=h.h) (hn:=hn) (hst:=hst)⟩
theorem di_seq (hl : WD X l tl) : WDI X tg l (iSq tl):=⟨Dl.di_seq (hl:=hl.h)⟩
theorem di_range1 {a : Expr} {ps : Pos} (hm : X.mg "range" = none) (ha : WDA X [a] ta) (hg : Gl X "range":=by rfl) (hs : starEach [a] X.env = [(false, eval a X.env)]:=by rfl) : WDI X tg (.Call (.Name "range" ps) [a] [] pos) (iR1 ta):=⟨Dl.di_range1 (hm:=hm) (ha:=ha.h) (hg:=hg) (hs:=hs)⟩
theorem di_range2 {a b : Expr} {ps : Pos} (hm : X.mg "range" = none) (ha : WDA X [a, b] ta) (hg : Gl X "range":=by rfl) (hs : starEach [a, b] X.env = [(false, eval a X.env), (false, eval b X.env)]:=by rfl) (hs2 : starEach [b] X.env = [(false, eval b X.env)]:=by rfl) : WDI X tg (.Call (.Name "range" ps) [a, b] [] pos) (iR2 ta):=⟨Dl.di_range2 (hm:=hm) (ha:=ha.h) (hg:=hg) (hs:=hs) (hs2:=hs2)⟩
theorem di_enum {elts : List Expr} {kk : Nat} {tpos : Pos} {a : Expr} {ps : Pos} (hm : X.mg "enumerate" = none) (ha : WDA X [a] ta) (hg : Gl X "enumerate":=by rfl) (hs : starEach [a] X.env = [(false, eval a X.env)]:=by rfl) : WDI X (.Tuple elts kk tpos) (.Call (.Name "enumerate" ps) [a] [] pos) (iEn ta):=⟨Dl.di_enum (hm:=hm) (ha:=ha.h) (hg:=hg) (hs:=hs)⟩
theorem ds_for {body : List Stmt} (hp : PassesOwn (model X.prog X.w) X.A X.env X.xe) (hc : X.calm = true) (hi : WDI X tg iter ti) (hg : WDG X tg g) (hb : WDSs X body tb) (hs : ∀ x, foldedSetIterable iter X.env x = pure x:=by intro _; rfl) : WDS X (.For tg iter body [] pos) (dFor ti g tb):=⟨Dl.ds_for (hp:=hp) (hc:=hc) (hi:=hi.h) (hg:=hg.h) (hb:=hb.h) (hs:=hs)⟩
theorem ds_while {body : List Stmt} {c : Expr} {tc : DT} (hp : PassesOwn (model X.prog X.w) X.A X.env X.xe) (hc : WDT X c tc) (hb : WDSs X body tb) : WDS X (.While c body [] pos) (dWhile tc tb):=⟨Dl.ds_while (hp:=hp) (hc:=hc.h) (hb:=hb.h)⟩
theorem dts_nil {X : Cx} : WDTs X [] (fun _ P=>P true):=⟨Dl.dts_nil ⟩
theorem dts_one {X : Cx} {c : Expr} {t : DT} (hc : WDT X c t) : WDTs X [c] t:=⟨Dl.dts_one (hc:=hc.h)⟩
theorem pd_lc (own : List Str) (hc : X.calm = true) (hi : WDI X tg iter ti) (hg : ∀ c, WDG (X.comp own scope c) tg g) (ht : ∀ c, WDTs (X.comp own scope c) ifs tt) (he : ∀ c, WD (X.comp own scope c) elt te) (hk : compOk X.env scope X.N = true:=by rfl) (hs : ∀ x, foldedSetIterable iter X.env x = pure x:=by intro _; rfl) : WD X (.ListComp elt [⟨tg, iter, ifs, 0⟩] scope pos) (dLC own.length ti g tt te):=⟨Dl.pd_lc (own:=own) (hc:=hc) (hi:=hi.h) (hg:=fun c=>(hg c).h) (ht:=fun c=>(ht c).h) (he:=fun c=>(he c).h) (hk:=hk) (hs:=hs)⟩
theorem pd_one {op} (h : WD X a ta) : WD X (.BoolOp op [a] pos) ta:=⟨Dl.pd_one (h:=h.h)⟩
theorem pd_and {rest : List Expr} (ha : WD X a ta) (hb : WD X (.BoolOp .And (b :: rest) pos) tb) : WD X (.BoolOp .And (a :: b :: rest) pos) (tAndD ta tb):=⟨Dl.pd_and (ha:=ha.h) (hb:=hb.h)⟩
theorem pd_ifExp {u : DT} (hc : WDT X c u) (ha : WD X a ta) (hb : WD X b tb) : WD X (.IfExp c a b pos) (tIfD u ta tb):=⟨Dl.pd_ifExp (hc:=hc.h) (ha:=ha.h) (hb:=hb.h)⟩
theorem pd_all {ps : Pos} (hc : X.calm = true) (hm : X.mg "all" = none) (hv : bootBuiltins "all" = some (.builtin "all")) (ha : WDA X [a] t) (hg : Gl X "all":=by rfl) (he : starEach [a] X.env = (false, eval a X.env) :: starEach [] X.env:=by rfl) (hpl : (backTo pos (starEach [] X.env)).any (·.1) = false:=by rfl) : WD X (.Call (.Name "all" ps) [a] [] pos) (tCl gAll t):=⟨Dl.pd_all (hc:=hc) (hm:=hm) (hv:=hv) (ha:=ha.h) (hg:=hg) (he:=he) (hpl:=hpl)⟩
theorem pd_max2 {ps : Pos} (hc : X.calm = true) (hm : X.mg "max" = none) (ha : WDA X [a, b] t) (hg : Gl X "max":=by rfl) (he : starEach [a, b] X.env = (false, eval a X.env) :: starEach [b] X.env:=by rfl) (hpl : (backTo pos (starEach [b] X.env)).any (·.1) = false:=by rfl) : WD X (.Call (.Name "max" ps) [a, b] [] pos) (tCl (gMM fun i j=>if j > i then j else i) t):=⟨Dl.pd_max2 (hc:=hc) (hm:=hm) (ha:=ha.h) (hg:=hg) (he:=he) (hpl:=hpl)⟩
theorem pd_min2 {ps : Pos} (hc : X.calm = true) (hm : X.mg "min" = none) (ha : WDA X [a, b] t) (hg : Gl X "min":=by rfl) (he : starEach [a, b] X.env = (false, eval a X.env) :: starEach [b] X.env:=by rfl) (hpl : (backTo pos (starEach [b] X.env)).any (·.1) = false:=by rfl) : WD X (.Call (.Name "min" ps) [a, b] [] pos) (tCl (gMM fun i j=>if j < i then j else i) t):=⟨Dl.pd_min2 (hc:=hc) (hm:=hm) (ha:=ha.h) (hg:=hg) (he:=he) (hpl:=hpl)⟩
theorem pd_lstC {ps : Pos} (hm : X.mg "list" = none) (ha : WDA X [a] t) (hg : Gl X "list":=by rfl) (he : starEach [a] X.env = (false, eval a X.env) :: starEach [] X.env:=by rfl) (hpl : (backTo pos (starEach [] X.env)).any (·.1) = false:=by rfl) : WD X (.Call (.Name "list" ps) [a] [] pos) (tCl gLst t):=⟨Dl.pd_lstC (hm:=hm) (ha:=ha.h) (hg:=hg) (he:=he) (hpl:=hpl)⟩
theorem pd_tupC {ps : Pos} (hm : X.mg "tuple" = none) (ha : WDA X [a] t) (hg : Gl X "tuple":=by rfl) (he : starEach [a] X.env = (false, eval a X.env) :: starEach [] X.env:=by rfl) (hpl : (backTo pos (starEach [] X.env)).any (·.1) = false:=by rfl) : WD X (.Call (.Name "tuple" ps) [a] [] pos) (tCl gTup' t):=⟨Dl.pd_tupC (hm:=hm) (ha:=ha.h) (hg:=hg) (he:=he) (hpl:=hpl)⟩
theorem pd_sortP {ps : Pos} (hm : X.mg "sorted" = none) (ha : WDA X [a] t) (hg : Gl X "sorted":=by rfl) (he : starEach [a] X.env = (false, eval a X.env) :: starEach [] X.env:=by rfl) (hpl : (backTo pos (starEach [] X.env)).any (·.1) = false:=by rfl) : WD X (.Call (.Name "sorted" ps) [a] [] pos) (tCl gSortP t):=⟨Dl.pd_sortP (hm:=hm) (ha:=ha.h) (hg:=hg) (he:=he) (hpl:=hpl)⟩
theorem pd_in (hu : X.A.units + 64 < cLine) (ha : WD X a ta) (hb : WD X b tb) (hm : behindInMarks .In b = false:=by rfl) : WD X (.Compare a [.In] [b] pos) (t2 (gIn false) ta tb):=⟨Dl.pd_in (hu:=hu) (ha:=ha.h) (hb:=hb.h) (hm:=hm)⟩
theorem pdt_in (hu : X.A.units + 64 < cLine) (ha : WD X a ta) (hb : WD X b tb) (hm : behindInMarks .In b = false:=by rfl) : WDT X (.Compare a [.In] [b] pos) (tTst (t2 (gIn false) ta tb)):=⟨Dl.pdt_in (hu:=hu) (ha:=ha.h) (hb:=hb.h) (hm:=hm)⟩
theorem pdt_notin (hu : X.A.units + 64 < cLine) (ha : WD X a ta) (hb : WD X b tb) (hm : behindInMarks .NotIn b = false:=by rfl) : WDT X (.Compare a [.NotIn] [b] pos) (tTst (t2 (gIn true) ta tb)):=⟨Dl.pdt_notin (hu:=hu) (ha:=ha.h) (hb:=hb.h) (hm:=hm)⟩
theorem do_none  : WDO X none oNone:=⟨Dl.do_none ⟩
theorem do_some (h : WD X e te) : WDO X (some e) (oSome te):=⟨Dl.do_some (h:=h.h)⟩
theorem dc {f : List D->(D->Prop)->Prop} (C : Cal X.prog X.w X.K X.mg X.base k x ps (spD f)) (hr : Room j X.A) (ha : WDA X (e :: es) t) (hk : k<=j:=by decide) (hg : Gl X x:=by rfl) (hdb : (x == ("__debug__" : Str)) = false:=by decide) (he : starEach (e :: es) X.env = (false, eval e X.env) :: starEach es X.env:=by rfl) (hpl : (backTo pos (starEach es X.env)).any (·.1) = false:=by rfl) : WD X (.Call (.Name x p) (e :: es) [] pos) (tFn f t):=⟨Dl.dc (C:=C) (hr:=hr) (ha:=ha.h) (hk:=hk) (hg:=hg) (hdb:=hdb) (he:=he) (hpl:=hpl)⟩
theorem dcP {C : Pn->Prop} {i : Nat} {f : List D->(D->Prop)->Prop} {y : Str} {py : Pos} (CC : Cal X.prog X.w X.K X.mg X.base k x ps (spP C f)) (hr : Room j X.A) (hi : WV X (.Name y py) i) (ha : WDA X es t) (hk : k<=j:=by decide) (hg : Gl X x:=by rfl) (hdb : (x == ("__debug__" : Str)) = false:=by decide) (he : starEach (.Name y py :: es) X.env = (false, eval (.Name y py) X.env) :: starEach es X.env:=by rfl) (hpl : (backTo pos (starEach es X.env)).any (·.1) = false:=by rfl) : WD X (.Call (.Name x p) (.Name y py :: es) [] pos) (tFnP C f i t):=⟨Dl.dcP (CC:=CC) (hr:=hr) (hi:=hi.h) (ha:=ha.h) (hk:=hk) (hg:=hg) (hdb:=hdb) (he:=he) (hpl:=hpl)⟩
theorem dv (i : Nat) {x : Str} {pos : Pos} (hN : X.N[i]? = some x:=by rfl) (hv : Vis X.env.scope x:=by first | exact Or.inl rfl | exact Or.inr (Or.inl rfl) | exact Or.inr (Or.inr rfl)) (hd : (x == ("__debug__" : Str)) = false:=by decide) (hcd : (x == ("__classdict__" : Str)) = false:=by decide) : WD X (.Name x pos) (tV i):=⟨Dl.dv (i:=i) (hN:=hN) (hv:=hv) (hd:=hd) (hcd:=hcd)⟩
theorem pdt_isN (ha : WD X a ta) (hb : WD X b tb) : WDT X (.Compare a [.Is] [b] pos) (tTst (t2 gIsN ta tb)):=⟨Dl.pdt_isN (ha:=ha.h) (hb:=hb.h)⟩
theorem pd_ix (ha : WD X a ta) (hb : WD X b tb) (hs : PlainIx b:=by exact fun _ _=>rfl) : WD X (.Subscript a b pos) (t2 gIx ta tb):=⟨Dl.pd_ix (ha:=ha.h) (hb:=hb.h) (hs:=hs)⟩
theorem pd_plus (ha : WD X a ta) (hb : WD X b tb) : WD X (.BinOp a .Add b pos) (t2 gPlus ta tb):=⟨Dl.pd_plus (ha:=ha.h) (hb:=hb.h)⟩
theorem pd_times (ha : WD X a ta) (hb : WD X b tb) : WD X (.BinOp a .Mult b pos) (t2 gTimes ta tb):=⟨Dl.pd_times (ha:=ha.h) (hb:=hb.h)⟩
theorem pd_eqA (hu : X.A.units + 64 < cLine) (ha : WD X a ta) (hb : WD X b tb) : WD X (.Compare a [.Eq] [b] pos) (t2 (gEqA false) ta tb):=⟨Dl.pd_eqA (hu:=hu) (ha:=ha.h) (hb:=hb.h)⟩
theorem pd_neA (hu : X.A.units + 64 < cLine) (ha : WD X a ta) (hb : WD X b tb) : WD X (.Compare a [.NotEq] [b] pos) (t2 (gEqA true) ta tb):=⟨Dl.pd_neA (hu:=hu) (ha:=ha.h) (hb:=hb.h)⟩
theorem pdt_eqA (hu : X.A.units + 64 < cLine) (ha : WD X a ta) (hb : WD X b tb) : WDT X (.Compare a [.Eq] [b] pos) (tTst (t2 (gEqA false) ta tb)):=⟨Dl.pdt_eqA (hu:=hu) (ha:=ha.h) (hb:=hb.h)⟩
theorem pdt_neA (hu : X.A.units + 64 < cLine) (ha : WD X a ta) (hb : WD X b tb) : WDT X (.Compare a [.NotEq] [b] pos) (tTst (t2 (gEqA true) ta tb)):=⟨Dl.pdt_neA (hu:=hu) (ha:=ha.h) (hb:=hb.h)⟩
theorem ds_frz {rest : List Stmt} (i : Nat) (h : WDSs X rest t) : WDSs X rest (dFrz i t):=⟨Dl.ds_frz (i:=i) (h:=h.h)⟩
theorem ds_sp {rest : List Stmt} (i : Nat) (b : Bool) (h : WDSs X rest t) : WDSs X rest (dSp i b t):=⟨Dl.ds_sp (i:=i) (b:=b) (h:=h.h)⟩
theorem ds_drops {rest : List Stmt} (js : List Nat) (h : WDSs X rest t) : WDSs X rest (dDrops js t):=⟨Dl.ds_drops (js:=js) (h:=h.h)⟩
theorem pd_dnil  : WD X (.Dict [] [] pos) (fun _ P=>P .new (.dict [])):=⟨Dl.pd_dnil ⟩
theorem pd_lrange2 {ps ps' : Pos} (hc : X.calm = true) (hml : X.mg "list" = none) (hmr : X.mg "range" = none) (ha : WDA X [a, b] t) (hgl : Gl X "list":=by rfl) (hgr : Gl X "range":=by rfl) (he : starEach [a, b] X.env = (false, eval a X.env) :: starEach [b] X.env:=by rfl) (hpl : (backTo pos' (starEach [b] X.env)).any (·.1) = false:=by rfl) (he2 : starEach [.Call (.Name "range" ps') [a, b] [] pos'] X.env = (false, eval (.Call (.Name "range" ps') [a, b] [] pos') X.env) :: starEach [] X.env:=by rfl) (hpl2 : (backTo pos (starEach [] X.env)).any (·.1) = false:=by rfl) : WD X (.Call (.Name "list" ps) [.Call (.Name "range" ps') [a, b] [] pos'] [] pos) (tLR2 t):=⟨Dl.pd_lrange2 (hc:=hc) (hml:=hml) (hmr:=hmr) (ha:=ha.h) (hgl:=hgl) (hgr:=hgr) (he:=he) (hpl:=hpl) (he2:=he2) (hpl2:=hpl2)⟩
theorem pd_sl {lo hi : Option Expr} {tl th : DO} (he : WD X e te) (hl : WDO X lo tl) (hh : WDO X hi th) : WD X (.Subscript e (.Slice lo hi none p2) pos) (tSl' te tl th):=⟨Dl.pd_sl (he:=he.h) (hl:=hl.h) (hh:=hh.h)⟩
theorem pd_dict1 (ha : WD X a ta) (hb : WD X b tb) : WD X (.Dict [some a] [b] pos) (tD1 ta tb):=⟨Dl.pd_dict1 (ha:=ha.h) (hb:=hb.h)⟩
theorem pdt_notinD (hu : X.A.units + 64 < cLine) (ha : WD X a ta) (hb : WD X b tb) (hm : behindInMarks .NotIn b = false:=by rfl) : WDT X (.Compare a [.NotIn] [b] pos) (tTst (t2 (gDin true) ta tb)):=⟨Dl.pdt_notinD (hu:=hu) (ha:=ha.h) (hb:=hb.h) (hm:=hm)⟩
theorem pd_dget (hu : X.A.units + 64 < cLine) (ha : WD X a ta) (hb : WD X b tb) (hs : NoSl b:=by exact fun _ _=>rfl) : WD X (.Subscript a b pos) (t2 gDget ta tb):=⟨Dl.pd_dget (hu:=hu) (ha:=ha.h) (hb:=hb.h) (hs:=hs)⟩
theorem pdt_tru (h : WD X e te) (he : ∀ whole, isTrue e X.env whole = (do let v ← whole; standAt e.pos; holding [v] (truthy v)):=by intro _; rfl) : WDT X e (tTru te):=⟨Dl.pdt_tru (h:=h.h) (he:=he)⟩
theorem pd_minA {ps : Pos} (hc : X.calm = true) (hm : X.mg "min" = none) (ha : WDA X [a] t) (hg : Gl X "min":=by rfl) (he : starEach [a] X.env = (false, eval a X.env) :: starEach [] X.env:=by rfl) (hpl : (backTo pos (starEach [] X.env)).any (·.1) = false:=by rfl) : WD X (.Call (.Name "min" ps) [a] [] pos) (tCl (gMnA (fun i j=>if j < i then j else i) (fun M a=>M<=a)) t):=⟨Dl.pd_minA (hc:=hc) (hm:=hm) (ha:=ha.h) (hg:=hg) (he:=he) (hpl:=hpl)⟩
theorem pd_maxA {ps : Pos} (hc : X.calm = true) (hm : X.mg "max" = none) (ha : WDA X [a] t) (hg : Gl X "max":=by rfl) (he : starEach [a] X.env = (false, eval a X.env) :: starEach [] X.env:=by rfl) (hpl : (backTo pos (starEach [] X.env)).any (·.1) = false:=by rfl) : WD X (.Call (.Name "max" ps) [a] [] pos) (tCl (gMnA (fun i j=>if j > i then j else i) (fun M a=>a<=M)) t):=⟨Dl.pd_maxA (hc:=hc) (hm:=hm) (ha:=ha.h) (hg:=hg) (he:=he) (hpl:=hpl)⟩
theorem pd_sortD {ps : Pos} (hc : X.calm = true) (hm : X.mg "sorted" = none) (ha : WDA X [a] t) (hg : Gl X "sorted":=by rfl) (he : starEach [a] X.env = (false, eval a X.env) :: starEach [] X.env:=by rfl) (hpl : (backTo pos (starEach [] X.env)).any (·.1) = false:=by rfl) : WD X (.Call (.Name "sorted" ps) [a] [] pos) (tCl gSortD t):=⟨Dl.pd_sortD (hc:=hc) (hm:=hm) (ha:=ha.h) (hg:=hg) (he:=he) (hpl:=hpl)⟩
theorem pd_isnotN (ha : WD X a ta) (hb : WD X b tb) : WD X (.Compare a [.IsNot] [b] pos) (t2 gNotN ta tb):=⟨Dl.pd_isnotN (ha:=ha.h) (hb:=hb.h)⟩
theorem pdt_isnotN (ha : WD X a ta) (hb : WD X b tb) : WDT X (.Compare a [.IsNot] [b] pos) (tTst (t2 gNotN ta tb)):=⟨Dl.pdt_isnotN (ha:=ha.h) (hb:=hb.h)⟩
end
section
theorem pd_isinst [Gr] {T : String} {x : Str} {e : Expr} {te : DE} {ps pt pos : Pos} (hk : ∀ t : Value, (t = .type "NoneType"\/t = .type "bool"\/t = .type "int"\/t = .type "str"\/t = .type "list"\/t = .type "tuple"\/t = .type "dict")->∃ n, t = .type n/\PySem.W.kitOne X.K t (.type T) = some (n == T || (T == "int" && n == "bool")))
  (hm : X.mg "isinstance" = none) (he : WD X e te) (hT : WC X (.Name x pt) (.ty T)) (hg : Gl X "isinstance":=by rfl) (h1 : starEach [e, .Name x pt] X.env = (false, eval e X.env) :: starEach [.Name x pt] X.env:=by rfl) (h2 : starEach [.Name x pt] X.env = (false, eval (.Name x pt) X.env) :: starEach [] X.env:=by rfl) (hpl : (backTo pos (starEach [.Name x pt] X.env)).any (·.1) = false:=by rfl) :
  WD X (.Call (.Name "isinstance" ps) [e, .Name x pt] [] pos) (tIs T te):=⟨Dl.pd_isinst hk hm he.h hT.h hg h1 h2 hpl⟩
theorem pd_isLT [Gr] {x y : Str} {ps pt pt' pp pos : Pos} {kk : Nat} {e : Expr} {te : DE} (hm : X.mg "isinstance" = none) (he : WD X e te) (hT : WC X (.Name x pt) (.ty "list")) (hT' : WC X (.Name y pt') (.ty "tuple")) (hg : Gl X "isinstance":=by rfl)
  (h1 : starEach [e, .Tuple [.Name x pt, .Name y pt'] kk pp] X.env = (false, eval e X.env) :: starEach [.Tuple [.Name x pt, .Name y pt'] kk pp] X.env:=by rfl) (h2 : starEach [.Tuple [.Name x pt, .Name y pt'] kk pp] X.env = (false, eval (.Tuple [.Name x pt, .Name y pt'] kk pp) X.env) :: starEach [] X.env:=by rfl)
  (h3 : starEach [.Name x pt, .Name y pt'] X.env = (false, eval (.Name x pt) X.env) :: starEach [.Name y pt'] X.env:=by rfl) (h4 : starEach [.Name y pt'] X.env = (false, eval (.Name y pt') X.env) :: starEach [] X.env:=by rfl) (hpl : (backTo pos (starEach [.Tuple [.Name x pt, .Name y pt'] kk pp] X.env)).any (·.1) = false:=by rfl) :
  WD X (.Call (.Name "isinstance" ps) [e, .Tuple [.Name x pt, .Name y pt'] kk pp] [] pos) (tIs2 te):=⟨Dl.pd_isLT hm he.h hT.h hT'.h hg h1 h2 h3 h4 hpl⟩
end
end Wr
set_option autoImplicit false
set_option autoImplicit true
namespace Wr
open PySem L2 PyProof.Rows Dl
section
variable [Gr] {X : Cx} {tj te : DE}
end
section
variable [Gr] {X : Cx} {tj te te1 te2 ta : DE} {t : DS}
end
end Wr
namespace Dl
open PySem L2 PyProof.Rows
section
variable {X : Cx} {pins : List (Addr × Obj)} {σ : L2.St} {H : Hp} {s : Shared} {ok ok' : Addr->Prop}
end
section
variable {X : Cx} {pos : Pos} {a e : Expr} {te : DE} {t : DA} [Gr]
end
section
variable [Gr]
noncomputable abbrev DR:=(D->Prop)->List Sl->Prop
structure WishR (p : Pn) (own : Addr->Option Nat) (H : Hp) (P : D->Prop) (Q : Ends) : Prop where
 rt : ∀ d v H', P d->p.PI H'->(∀ b o, H b = some o->¬ p.fp b->own b = none->H' b = some o)->Rp (fun a=>¬ p.fp a) H' v d->Q.rt v H'
noncomputable def liftR (t : DR) : TS:=fun Q σ H=>∃ p H0 own ρ P, EnvD p H0 own σ H ρ/\t P ρ/\WishR p own H P Q
structure WR (X : Cx) (ss : List Stmt) (t : DR) : Prop where
 h : PSs X ss (liftR t)
variable {X : Cx} {pos : Pos} {e : Expr} {te : DE} {st : Stmt} {rest : List Stmt} {t : DS} {u : DR}
variable {k j : Nat} {x : Str} {ps : List Str} {es : List Expr} {ta : DA} {p : Pos}
end
end Dl
namespace Wr
open PySem L2 PyProof.Rows Dl
variable [Gr] {X : Cx} {pos : Pos} {a : Expr} {t : DA}
end Wr
namespace L2
open PySem PySem.Spec PyProof.Rows
end L2
namespace Dl
open PySem L2 PyProof.Rows
variable [Gr]
section
variable {X : Cx} {tg : Expr} {pos : Pos} {ta : DA}
end
end Dl
namespace Wr
open PySem L2 PyProof.Rows Dl
variable [Gr] {X : Cx} {pos : Pos} {ta : DA}
end Wr
namespace Dl
open PySem L2 PyProof.Rows
variable [Gr]
section
variable {X : Cx} {pos : Pos} {st : Stmt} {rest : List Stmt} {t u : DS} {te tj t1 t2 : DE}
end
end Dl
namespace Wr
open PySem L2 PyProof.Rows Dl
section
variable [Gr] {X : Cx} {tj te t1 t2 : DE} {t u : DS}
end
end Wr
set_option autoImplicit false
namespace L2
open PySem PySem.Spec PyProof.Rows
section
variable {X : Cx} {k : Nat} {f CF : Addr} {fd : FuncData} {ps : List Str} {sp : Sp} {E : XK} {x hx n : Str} {p np cpos epos hpos pos : Pos} {e : Expr} {es : List Expr} {t : TA} {b₀ : Stmt} {suite : List Stmt} {ts : TS} {j : Nat}
end
section
variable {X : Cx} {k : Nat} {f CF : Addr} {fd : FuncData} {ps : List Str} {sp : Sp} {E : XK} {x hx n : Str} {p np cpos epos hpos pos : Pos} {e : Expr} {es : List Expr} {t : TA} {b₀ : Stmt} {suite : List Stmt} {ts : TS} {j : Nat}
end
end L2
namespace Dl
open PySem L2 PyProof.Rows
section
variable [Gr] {X : Cx} {pos : Pos} {a : Expr} {t : DA}
end
end Dl
namespace Wr
open PySem L2 PyProof.Rows Dl
section
variable [Gr] {X : Cx} {pos : Pos} {a : Expr} {t : DA}
end
end Wr
namespace Dl
open PySem L2 PyProof.Rows
structure Ext (p q : Pn) : Prop where
 pv : q.pv = p.pv
 fp : ∀ a, p.fp a->q.fp a
 pi : ∀ H, q.PI H->p.PI H
 go : ∀ H H', q.PI H->Kp p H H'->p.PI H'->q.PI H'
noncomputable def CE (C : Pn->Prop) (q : Pn) : Prop:=∃ p, C p/\Ext p q
section
variable [Gr]
variable {X : Cx} {pos : Pos} {c : Expr} {a rest : List Stmt} {tc : DT} {t u : DR}
variable {k j i : Nat} {x y : Str} {ps : List Str} {es : List Expr} {ta : DA} {pp py : Pos}
end
end Dl
namespace L2
open PySem PySem.Spec PyProof.Rows Builtin
section
variable {X : Cx}
end
end L2
namespace Dl
open PySem L2 PyProof.Rows
section
variable [Gr]
variable {X : Cx} {pos : Pos} {a b e : Expr} {ta tb te : DE} {p1 p2 p3 : Pos}
end
end Dl
namespace Wr
open PySem L2 PyProof.Rows Dl
section
variable [Gr] {X : Cx} {pos : Pos} {a b e : Expr} {ta tb te : DE} {p1 p2 p3 : Pos}
end
end Wr
namespace L2
open PySem PySem.Spec PyProof.Rows Builtin
section
variable {X : Cx}
end
end L2
namespace Dl
open PySem L2 PyProof.Rows
section
variable [Gr] {X : Cx} {pos p2 : Pos} {a b e : Expr} {t : DA} {ta tb te : DE}
end
end Dl
namespace Wr
open PySem L2 PyProof.Rows Dl
section
variable [Gr] {X : Cx} {pos p2 : Pos} {a b e : Expr} {t : DA} {ta tb te : DE}
end
end Wr
namespace Dl
open PySem L2 PyProof.Rows
variable [Gr]
section
variable {X : Cx} {st st2 : Stmt} {rest : List Stmt} {te1 te2 : DE} {tt : DT} {tr : TS} {t : DS}
end
section
variable {X : Cx} {own : List Str} {scope : Scope} {tg iter elt : Expr} {ifs : List Expr} {pos : Pos} {g : DG} {tt : DT} {te : DE}
end
end Dl
namespace Wr
open PySem L2 PyProof.Rows Dl
variable [Gr]
section
variable {X : Cx} {te1 te2 : DE} {tt : DT} {tr : TS} {t : DS}
end
end Wr
namespace PySem
open PySem.W PyProof.Rows PySem.Spec
theorem rvi_no_len : typeLookup (.type "list_reverseiterator") "__len__" = pure none:=by rw [typeLookup_type, builtinLookup_eq_fast]; kernel_rfl
theorem rvi_hint : typeLookup (.type "list_reverseiterator") "__length_hint__" = pure (some (.builtin "list_reverseiterator.__length_hint__")):=by rw [typeLookup_type, builtinLookup_eq_fast]; kernel_rfl
section
variable {prog : Program} {w : World} {A : Around} {E : Value->Shared->Prop} {s : Shared} {it l : Addr} {items : Array Value}
theorem rvi_hintF {Q : Bool->Shared->Prop} (hT : s.TypeIs (.ref it) "list_reverseiterator") (h : Q false s) : wpAny (model prog w) A (Builtin.List.listLengthHint (.ref it)) Q E s:=by
 unfold Builtin.List.listLengthHint
 refine wpAny_bind (wpAny_specialOf hT rvi_no_len ?_)
 show wpAny _ _ (specialOf (Value.ref it) (Str.ofString "__length_hint__") >>= _) _ _ _
 refine wpAny_bind (wpAny_specialOf hT rvi_hint ?_)
 generalize hid : ("list_reverseiterator.__length_hint__" : String) = nm
 wp_delta
 rw [show splitId nm = some ("list_reverseiterator", "__length_hint__") from by subst hid; decide +kernel]
 subst hid
 refine wpAny_bind (wpAny_isInstance (T:="list_reverseiterator") (b:=true) hT (by rw [isSubtype_type]; kernel_rfl) ?_)
 refine wpAny_ite_split (fun z=>absurd z (by decide)) (fun _=>?_)
 refine wpAny_ite_split (fun _=>?_) (fun z=>absurd (by decide +kernel) z)
 refine wpAny_ite_split (fun z=>absurd z (by decide +kernel)) (fun _=>?_)
 exact wpAny_pure h
theorem rvi_list {Q : Value->Shared->Prop} (hh : A.handled = none) (hne : l≠it) (hit : s.heap.IsRevIter it l ((items.size : Int) - 1)) (hl : s.heap.IsList l items) (hn : items.size<=sizeLine)
  (hQ : ∀ h' tk acc c, (∀ b o, b≠it->s.heap.get? b = some o->h'.get? b = some o)->h'.get? s.heap.objs.size = some { cls:=.type "list", dict:=none, data:=.seq acc c, slots:=#[] }->ItemsOf (fun i v=>items[items.size - 1 - i]? = some v) acc items.size->Q (.ref s.heap.objs.size) { s with heap:=h', toks:=tk }) :
  wpAny (model prog w) A (call (.type "list") [.ref it]) Q E s:=by
 obtain ⟨oi, ei, _⟩:=id hit
 obtain ⟨ol, el, _⟩:=id hl
 have lt : ∀ {b : Addr} {o : Obj}, s.heap.get? b = some o->s.heap.objs.size≠b:=fun e=>Nat.ne_of_gt (Heap.lt_size e)
 refine callType_codes (Q₁:=fun obj s₁=>obj = .ref s.heap.objs.size/\s₁ = { s with heap:=s.heap.push { cls:=.type "list", data:=.seq #[] } }) F.called_list (F.typeCall_list_1 _) F.entry_list_init (code_list_new _ ⟨rfl, rfl⟩) fun obj s₁ hx=>?_
 obtain ⟨rfl, rfl⟩:=hx
 have hS : (s.heap.push { cls:=.type "list", data:=.seq #[] }).get? s.heap.objs.size = some { cls:=.type "list", data:=.seq #[] }:=Heap.get?_push_size _ rfl
 refine ⟨⟨_, hS, rfl⟩, F.args_list_init_2 _ _, ?_⟩
 show wpAny _ _ (Builtin.List.listItems (.ref s.heap.objs.size) >>= fun old=>Builtin.List.listUpdate (.ref s.heap.objs.size) (fun _=>#[]) >>= fun _=>letGo old.toList.reverse >>= fun _=>Builtin.List.listExtendWith (.ref s.heap.objs.size) (.ref it) .none) _ _ _
 have old : ∀ b o, s.heap.get? b = some o->(s.heap.push { cls:=.type "list", data:=.seq #[] }).get? b = some o:=fun b o e=>Heap.get?_push_of_some _ e
 refine wpAny_bind ?_
 unfold Builtin.List.listItems
 refine wpAny_bind (wpAny_seqItems hS rfl (wpAny_pure ?_))
 refine wpAny_bind (m:=updateSeq s.heap.objs.size (fun _=>#[])) (wpAny_updateSeq hS rfl ?_)
 have hS2:=Heap.get?_update_self (Obj.mapSeq (fun _=>(#[] : Array Value))) hS rfl
 refine wpAny_bind (wpAny_letGo ?_)
 generalize hg : (s.heap.push { cls:=.type "list", data:=.seq #[] }).update s.heap.objs.size (Obj.mapSeq fun _=>(#[] : Array Value)) = g at hS2
 have kg : ∀ b o, s.heap.get? b = some o->g.get? b = some o:=fun b o e=>by rw [← hg]; exact (Heap.get?_update_other _ _ (lt e)).trans (old b o e)
 have hit2 : g.IsRevIter it l ((items.size : Int) - 1):=hit.at fun o e=>kg _ o e
 have hl2 : g.IsList l items:=hl.at fun o e=>kg _ o e
 have hT : ({ s with heap:=g } : Shared).TypeIs (.ref it) "list_reverseiterator":=⟨oi, kg _ _ ei, (id hit : _).elim fun o x=>by rw [ei] at x; cases x.1; exact x.2.1⟩
 unfold Builtin.List.listExtendWith
 refine wpAny_bind (wpAny_typeOf hT ?_)
 have q1 : Builtin.List.listSameRef (.ref s.heap.objs.size) (.ref it) = false:=by simp [Builtin.List.listSameRef, lt ei]
 have q2 : (Value.type "list_reverseiterator" == Value.type "list") = false:=by decide
 have q3 : (Value.type "list_reverseiterator" == Value.type "tuple") = false:=by decide
 simp only [q1, q2, q3, Bool.or_false, Bool.false_eq_true, if_false]
 refine wpAny_bind (wpAny_pyIter_revIter hit2 ?_)
 refine wpAny_bind (wpAny_holding (rvi_hintF hT ?_))
 refine wpAny_ite_split (fun z=>absurd z (by decide)) (fun _=>?_)
 have W:=Walks.listRev (prog:=prog) (w:=w) (A:=A.in1.in1) hh it l hne items
 have hSf : s.heap.objs.size∉[it, l]:=by simp only [List.mem_cons, List.not_mem_nil, or_false, not_or]; exact ⟨lt ei, lt el⟩
 refine wpAny_pure ⟨plainId_quiet F.plain_extend_loop _, codeAny_extend_loopS (A:=A.in1) W.toS hn s.heap.objs.size hSf .none items.size 0 _ #[] _ rfl (Nat.zero_le _) ⟨Nat.zero_le _, by simpa using hit2, hl2⟩ hS2 (ItemsOf.nil _) fun s' acc c hm hS' hacc=>?_⟩
 rw [Moved.eq_with hm]
 refine ⟨rfl, hQ s'.heap s'.toks acc c (fun b o hb e=>hm.heap b o (fun z=>?_) (kg b o e)) hS' hacc⟩
 rcases List.mem_cons.mp z with z | z
 ·exact lt e z.symm
 ·exact hb (List.mem_singleton.mp z)
end
end PySem
namespace L2
open PySem PySem.Spec PyProof.Rows
section
variable {X : Cx}
noncomputable def tLR (K : PySem.W.Frag) (ta : TA) : TE:=fun σ H Q=>ta σ H fun vs H1=>∃ p xs, vs = [.ref p]/\SqL K H1 p xs/\∀ l, H1 l = none->Q (.ref l) (upd H1 l (.lst xs.reverse))
theorem items_rev {its : List Value} {acc : Array Value} (h : ItemsOf (fun i v=>its.toArray[its.toArray.size - 1 - i]? = some v) acc its.toArray.size) : acc.toList = its.reverse:=by
 have hs : acc.size = its.length:=by have:=h.1; simpa using this
 refine List.ext_getElem? fun i=>?_
 by_cases hi : i < acc.size
 ·have e : acc.toList[i]? = some acc[i]:=by rw [Array.getElem?_toList]; exact Array.getElem?_eq_getElem hi
  have q:=h.2 i acc[i] (Array.getElem?_eq_getElem hi)
  rw [e, List.getElem?_reverse (by omega)]
  simpa using q.symm
 ·rw [List.getElem?_eq_none (by rw [Array.length_toList]; omega), List.getElem?_eq_none (by rw [List.length_reverse]; omega)]
theorem pe_listrev {a : Expr} {ta : TA} {p1 p2 pos1 pos2 : Pos} (hc : X.calm = true) (hgl : Gl X "list") (hml : X.mg "list" = none) (hgr : Gl X "reversed") (hmr : X.mg "reversed" = none) (ha : PA X [a] ta)
  (e1 : starEach [.Call (.Name "reversed" p2) [a] [] pos2] X.env = [(false, eval (.Call (.Name "reversed" p2) [a] [] pos2) X.env)]:=by rfl) (e2 : starEach [a] X.env = (false, eval a X.env) :: starEach [] X.env:=by rfl) (e3 : (backTo pos2 (starEach [] X.env)).any (·.1) = false:=by rfl) :
  PE X (.Call (.Name "list" p1) [.Call (.Name "reversed" p2) [a] [] pos2] [] pos1) (tLR X.K ta):=by
 intro pins s σ H Q I h
 refine wpAny_Call_Name_kw (ld_blt I hgl hml boot_list ?_)
 refine PyProof.Rows.callWith_type1 ?_ e1 rfl
 rw [e1]
 refine Calls.spliced_cons ?_
 refine wpAny_Call_Name_kw (ld_blt I hgr hmr PyProof.Rows.boot_reversed ?_)
 refine PyProof.Rows.callWith_type1 (thn (ha pos2 pins s σ H _ I h) fun us s1 ⟨vs, H1, I1, r1, q1⟩=>?_) e2 e3
 obtain ⟨p, xs, rfl, hp, k⟩:=q1
 obtain ⟨u, rfl, rx⟩:=vals1 r1
 cases rx
 obtain ⟨its, rv, pl, hz⟩:=I1.list hp
 refine call_reversed_list pl.isList ?_
 refine Calls.spliced_nil ?_
 have hl1:=rv.length
 have lp : p < s1.heap.objs.size:=by obtain ⟨o, e, _⟩:=pl.isList; exact Heap.lt_size e
 refine rvi_list (items:=its.toArray) (l:=p) (it:=s1.heap.objs.size) (s:={ s1 with heap:=s1.heap.push (revObj p ((its.toArray.size : Int) - 1)) }) (I1.ok.hd hc) (Nat.ne_of_lt lp) ⟨_, Heap.get?_push_size _ rfl, rfl, rfl⟩ (pl.isList.at fun o e=>Heap.get?_push_of_some _ e) (by rw [List.size_toArray]; omega) fun h' tk acc c hk hS hacc=>?_
 have kept : ∀ b o, s1.heap.get? b = some o->h'.get? b = some o:=fun b o e=>hk b o (Nat.ne_of_lt (Heap.lt_size e)) (Heap.get?_push_of_some _ e)
 have ea:=items_rev hacc
 have sz : (s1.heap.push (revObj p ((its.toArray.size : Int) - 1))).objs.size = s1.heap.objs.size + 1:=Heap.size_push ..
 have hle : s1.heap.objs.size<=(s1.heap.push (revObj p ((its.toArray.size : Int) - 1))).objs.size:=by omega
 refine ⟨.ref (s1.heap.push (revObj p ((its.toArray.size : Int) - 1))).objs.size, _, I1.laid (t':=tk) (o:=.lst xs.reverse) kept hle ⟨by rw [List.length_reverse]; omega, its.reverse, c, rv.reverse, ?_⟩, rfl, k _ (I1.hok.fresh hle)⟩
 rw [← ea, Array.toArray_toList]
 exact hS
end
end L2
namespace Dl
open PySem L2 PyProof.Rows
section
variable [Gr] {X : Cx} {a : Expr} {t : DA}
noncomputable def gRvC : GC:=fun ks P=>match ks with
 | [(k, .list ds)]=>newP k ds.reverse fun k'=>P k' (.list ds.reverse)
 | _=>False
theorem pd_listrev {p1 p2 pos1 pos2 : Pos} (hc : X.calm = true) (hml : X.mg "list" = none) (hmr : X.mg "reversed" = none) (ha : PDA X [a] t) (hgl : Gl X "list":=by rfl) (hgr : Gl X "reversed":=by rfl)
  (e1 : starEach [.Call (.Name "reversed" p2) [a] [] pos2] X.env = [(false, eval (.Call (.Name "reversed" p2) [a] [] pos2) X.env)]:=by rfl) (e2 : starEach [a] X.env = (false, eval a X.env) :: starEach [] X.env:=by rfl) (e3 : (backTo pos2 (starEach [] X.env)).any (·.1) = false:=by rfl) :
  PD X (.Call (.Name "list" p1) [.Call (.Name "reversed" p2) [a] [] pos2] [] pos1) (tCl gRvC t):=PE.wk (pe_listrev hc hgl hml hgr hmr ha e1 e2 e3) (by
 rintro σ H Q ⟨p, H0, own, ρ, P, E, t, q⟩
 refine ⟨p, H0, own, ρ, _, E, t, fun ks vs H1 h A r=>?_⟩
 unfold gRvC at h
 split at h
 ·rename_i k ds
  obtain ⟨v, rfl, r'⟩:=rpk1 r
  obtain ⟨x, xs, rfl, o, h1, rs⟩:=r'.lst'
  refine ⟨x, xs, rfl, SqL.of h1, fun l hl=>?_⟩
  obtain ⟨k2, i2, nw⟩:=A.new hl (.lst xs.reverse)
  obtain ⟨k', hk', rk'⟩:=newP_ok A (rps_go A k2 rs.rev) nw upd_same h
  exact q _ _ _ _ hk' (A.go k2 i2) rk'
 ·exact h.elim)
end
end Dl
namespace Wr
open PySem L2 PyProof.Rows Dl
section
variable [Gr] {X : Cx} {a : Expr} {t : DA}
theorem pd_listrev {p1 p2 pos1 pos2 : Pos} (hc : X.calm = true) (hml : X.mg "list" = none) (hmr : X.mg "reversed" = none) (ha : WDA X [a] t) (hgl : Gl X "list":=by rfl) (hgr : Gl X "reversed":=by rfl)
  (e1 : starEach [.Call (.Name "reversed" p2) [a] [] pos2] X.env = [(false, eval (.Call (.Name "reversed" p2) [a] [] pos2) X.env)]:=by rfl) (e2 : starEach [a] X.env = (false, eval a X.env) :: starEach [] X.env:=by rfl) (e3 : (backTo pos2 (starEach [] X.env)).any (·.1) = false:=by rfl) :
  WD X (.Call (.Name "list" p1) [.Call (.Name "reversed" p2) [a] [] pos2] [] pos1) (tCl gRvC t):=⟨Dl.pd_listrev hc hml hmr ha.h hgl hgr e1 e2 e3⟩
end
end Wr
namespace Nf
open PySem PySem.W PyProof.Rows
noncomputable def topRunT (tb : String->Option Builtin) (p : Program) (w : World) (m : Nat) (ann : Option Value) : Nat->SharedT->Thread->Option SharedT
 | 0, _, _=>none
 | n + 1, s, t=>match through t with
  | true=>some s
  | false=>match stepOk m ann t with
   | false=>none
   | true=>match stepT (denote tb) p w s t with
    | none=>none
    | some r=>topRunT tb p w m ann n r.1 r.2
theorem topRun_of {tb : String->Option Builtin} {p : Program} {w : World} {m : Nat} {ann : Option Value} : ∀ {n : Nat} {s s' : SharedT} {t : Thread}, topRunT tb p w m ann n s t = some s'->topRun tb p w m ann n s.abs t = some s'.abs
 | 0, _, _, _, h=>by cases h
 | n + 1, s, s', t, h=>by
  unfold topRunT at h
  unfold topRun
  cases he : through t with
  | true=>rw [he] at h; cases h; rfl
  | false =>
   rw [he] at h
   cases hk : stepOk m ann t with
   | false=>rw [hk] at h; cases h
   | true =>
    rw [hk] at h
    cases hs : stepT (denote tb) p w s t with
    | none=>rw [hs] at h; cases h
    | some r=>obtain ⟨s2, t2⟩:=r; rw [hs] at h; rw [stepT_spec hs]; exact topRun_of h
noncomputable def bootTree (P : Params) : BT:=((((((((((BT.nil.ins 0 (boot_o_0 P)).ins 1 (boot_o_1 P)).ins 2 (boot_o_2 P)).ins 3 (boot_o_3 P)).ins 4 (boot_o_4 P)).ins 5 (boot_o_5 P)).ins 6 (boot_o_6 P)).ins 7 (boot_o_7 P)).ins 8 (boot_o_8 P)).ins 9 (boot_o_9 P)).ins 10 (boot_o_10 P)
noncomputable def lifeW : Life:={}
theorem boot_tree (P : Params) : absHeap (bootTree P) 11 lifeW = boot_heap P:=by kernel_rfl
noncomputable def startW (w : World) (os : OsState) : SharedT:=⟨bootTree w.params, 11, lifeW, #[], boot_drawn, boot_toks, os⟩
theorem start_abs (w : World) (os : OsState) : (startW w os).abs = ⟨boot_heap w.params, #[], boot_drawn, boot_toks, os⟩:=by
 unfold startW SharedT.abs
 dsimp only
 rw [boot_tree]
noncomputable def sizeW (P : Params):=((boot_heap P).isNs mainGlobals, (boot_heap P).objs.size, (boot_heap P).nsMap mainGlobals "__annotations__")
theorem sizeW_self : sizeW = sizeW:=rfl
end Nf
name_quick sizeQ for Nf.sizeW by Nf.sizeW_self
namespace Nf
open PySem PySem.W PyProof.Rows
theorem boot_size (w : World) : ((boot_heap w.params).isNs mainGlobals, (boot_heap w.params).objs.size, (boot_heap w.params).nsMap mainGlobals "__annotations__") = (true, 11, some (.ref 6)):=by
 show sizeW w.params = _
 rw [PySem.W.Fast.sizeQ_eq]
 kernel_rfl
noncomputable def runT (p : Program) (N : Nat) (w : World) (os : OsState):=topRunT treeTable p w 11 (some (.ref 6)) N (startW w os) (topStub p)
noncomputable def seenW (p q : Program) (Xt : Shared->Bool) (w : World) (s : Shared) :=
 (staticsOk (importedModules p.main.body) (boot_heap w.params) s.heap && namesBound p s.heap && gensDone s && laidKept (boot_heap w.params) s.heap, openSeen q [] (importedModules p.main.body) Xt true s)
theorem left_of {p q : Program} {Xt : Shared->Bool} {β : Type} {Yf : Shared->List β} {Ya : World->List β} {N : Nat} (k : Nat)
  (open_ : ∀ w : World, (fencedOpening treeTable p w N).map (fun s=>(s.heap, s.gens, s.drawn, s.toks)) = some (boot_heap w.params, Array.mk [], boot_drawn, boot_toks))
  (look : ∀ (w : World) (os : OsState), (runT p N w os).map (fun s=>seenW p q Xt w s.abs) = some (true, openGood q []))
  (front : ∀ (w : World) (os : OsState), (runT p N w os).map (fun s=>(Yf s.abs).take k) = some ((Ya w).take k))
  (back : ∀ (w : World) (os : OsState), (runT p N w os).map (fun s=>(Yf s.abs).drop k) = some ((Ya w).drop k)) : LeftO p q [] Xt Yf Ya N:=fun w=>by
 obtain ⟨⟨h, gs, d, j, os⟩, e, e'⟩:=Option.map_eq_some_iff.mp (open_ w)
 obtain ⟨rfl, rfl, rfl, rfl⟩ : h = boot_heap w.params/\gs = #[]/\d = boot_drawn/\j = boot_toks:=by simpa using e'
 obtain ⟨z1, z2, z3⟩ : _/\_/\_:=by simpa only [Prod.mk.injEq] using boot_size w
 obtain ⟨s, hs, l⟩:=Option.map_eq_some_iff.mp (look w os)
 have l4 : (Yf s.abs).take k = (Ya w).take k:=by
  have:=front w os
  rw [hs] at this
  exact Option.some.inj this
 have l5 : (Yf s.abs).drop k = (Ya w).drop k:=by
  have:=back w os
  rw [hs] at this
  exact Option.some.inj this
 have l3 : Yf s.abs = Ya w:=by rw [← List.take_append_drop k (Yf s.abs), l4, l5, List.take_append_drop]
 unfold seenW at l
 obtain ⟨l1, l2⟩:=Prod.mk.inj l
 have r:=topRun_of hs
 rw [start_abs] at r
 have t : topFrom treeTable p w N ⟨boot_heap w.params, #[], boot_drawn, boot_toks, os⟩ = some s.abs:=by
  unfold topFrom
  dsimp only
  rw [z1, z2, z3, r]
  show (match staticsOk (importedModules p.main.body) (boot_heap w.params) s.abs.heap && namesBound p s.abs.heap && gensDone s.abs && laidKept (boot_heap w.params) s.abs.heap with | true=>_ | false=>_) = _
  rw [l1]
 unfold openEnds
 rw [e]
 show (topFrom treeTable p w N _).map _ = _
 rw [t]
 exact congrArg some (Prod.ext l2 l3)
end Nf
namespace Nf
open PySem L2 PyProof.Rows Dl
noncomputable def top (i : Nat) : Stmt:=PySem.Challenge.pw_nofall_k08_whole_falls_one_by_one.main.body.getD i (.Pass ⟨0, 0, 0, 0⟩)
structure Proper (n : Int) (l : List Int) : Prop where
 one : 1<=l.length
 few : (l.length : Int) < n
 rng : ∀ x∈l, 0<=x/\x < n
 rise : l.Pairwise (· < ·)
 n16 : n<=16
noncomputable def lv (l : List Int) (t : Tie) : Bool:=decide (t.1∈l) != decide (t.2∈l)
theorem arg_two (d : D) : argS d = .im d\/argS d = .sh d:=by
 unfold argS
 by_cases h : immD d = true
 ·rw [if_pos h]; exact .inl rfl
 ·rw [if_neg h]; exact .inr rfl
section
variable {P : Program} {w : World} {K : PySem.W.Frag} {mg : Str->Option Value} {base : Heap} {f : Addr} {fd : FuncData}
theorem sc4 : FnScope ["thing"] ["thing"] (defScope (top 8)):=⟨rfl, rfl, rfl, by decide +kernel, rfl, by decide +kernel, by decide +kernel⟩
theorem ok_whole (F : Fun K "is_whole" "is_whole" (top 8) f fd) (B : Dl.Bn mg) : FnOk P w K mg base CX0 1 f fd ["thing"] (spD fWhole):=by
 refine F.ok sc4 (len_spD fun ds P ⟨d, e, _⟩=>by rw [e]; rfl) (fun cdv A outer s H vs Q E hr h=>?_)
 refine ⟨_, ds_one (ds_ret (pd_and (pd_isinst kit_int B.isinstance (dv 0) (pe_bltn (v:=.ty "int") rfl B.int boot_int rfl)) (pd_one (pd_not (pd_isinst kit_bool B.isinstance (dv 0) (pe_bltn (v:=.ty "bool") rfl B.bool boot_bool rfl)))))), enterD h ?_⟩
 rintro ds P ⟨d, rfl, q⟩
 unfold dRet tAndD tIs
 refine tV_arg (d:=d) rfl fun k=>?_
 cases d <;> exact ⟨rfl, q⟩
theorem sc5 : FnScope ["limit", "thing"] ["limit", "thing"] (defScope (top 9)):=⟨rfl, rfl, rfl, by decide +kernel, rfl, by decide +kernel, by decide +kernel⟩
theorem ok_below (F : Fun K "is_below" "is_below" (top 9) f fd) (W : Dl.Cal P w K mg base 1 "is_whole" ["thing"] (spD fWhole)) : FnOk P w K mg base CX0 2 f fd ["limit", "thing"] (spD fBelow):=by
 refine F.ok sc5 (len_spD fun ds P ⟨m, d, e, _⟩=>by rw [e]; rfl) (fun cdv A outer s H vs Q E hr h=>?_)
 refine ⟨_, ds_one (ds_ret (pd_and (dc W hr (pda_cons (dv 1) pda_nil)) (pd_one (pd_chLL pd_int (dv 1) (dv 0))))), enterD h ?_⟩
 rintro ds P ⟨m, d, rfl, q⟩
 unfold dRet tAndD tFn aCons
 refine tV_arg (d:=d) rfl fun k=>⟨d, rfl, ?_⟩
 cases d with
 | int i =>
  have e : P (.bool (decide (0<=i/\i < m))):=q
  by_cases h0 : (0 : Int)<=i
  ·show if decide ((0 : Int)<=i) = true then _ else _
   rw [decide_eq_true h0]
   refine iteT (B:=True) ⟨rfl, ?_⟩
   have e2 : decide (0<=i/\i < m) = decide (i < m):=by simp [h0]
   rw [e2] at e
   exact e
  ·show if decide ((0 : Int)<=i) = true then _ else _
   rw [decide_eq_false h0]
   refine iteF (A:=True) ⟨rfl, ?_⟩
   have e2 : decide (0<=i/\i < m) = false:=by simp [h0]
   rw [e2] at e
   exact e
 | _=>exact ⟨rfl, q⟩
end
end Nf
set_option maxHeartbeats 4000000
namespace Nf
open PySem L2 PyProof.Rows Dl
noncomputable def OkT (n : Int) (t : Tie) : Prop:=(0<=t.1/\t.1 < n)/\(0<=t.2/\t.2 < n)/\t.1≠t.2
noncomputable def OkN (n : Int) (us : List Tie) : Prop:=∀ t∈us, OkT n t
noncomputable def mmT (t : Tie) : Tie:=(if t.2 < t.1 then t.2 else t.1, if t.2 > t.1 then t.2 else t.1)
noncomputable def fIsPl (ds : List D) (P : D->Prop) : Prop:=∃ n us d, ds = [webD n us, d]/\P (.bool (belowD n d))
noncomputable def fIsTN (ds : List D) (P : D->Prop) : Prop:=∃ n us d, ds = [webD n us, d]/\P (.bool (belowD (us.length : Nat) d))
noncomputable def OkW (n : Int) (us : List Tie) : Prop:=∀ t∈us, 0<=t.1/\t.1 < t.2/\t.2 < n
noncomputable def fCkP (ds : List D) (P : D->Prop) : Prop:=∃ n us i, ds = [webD n us, .int i]/\0<=i/\i < n/\P .none
noncomputable def fIsTie (ds : List D) (P : D->Prop) : Prop:=∃ n t, ds = [.int n, pD t]/\OkT n t/\P (.bool true)
noncomputable def fMakes (ds : List D) (P : D->Prop) : Prop:=∃ n us, ds = [.int n, .list (us.map pD)]/\1<=n/\n<=16/\us.length<=40/\OkN n us/\P (.bool true)
noncomputable def fCkM (ds : List D) (P : D->Prop) : Prop:=∃ n us, ds = [.int n, .list (us.map pD)]/\1<=n/\n<=16/\us.length<=40/\OkN n us/\P .none
noncomputable def fWebOf (ds : List D) (P : D->Prop) : Prop:=∃ n us, ds = [.int n, .list (us.map pD)]/\1<=n/\n<=16/\us.length<=40/\OkN n us/\∀ vs : List Tie, vs.Perm (us.map mmT)->P (webD n vs)
theorem eqv_nil (xs : List D) : PyData.eqv (.list xs) (.list []) = xs.isEmpty:=by cases xs <;> rfl
theorem okD_list {xs : List D} (h : ∀ x∈xs, x.canLay0 = true/\x.depth<=50) : okD (.list xs) = true:=by
 have a : PyData.canLayAll0 xs = true/\PyData.depthAll xs<=50:=by
  induction xs with
  | nil=>exact ⟨rfl, Nat.zero_le _⟩
  | cons x xs ih =>
   obtain ⟨i1, i2⟩:=ih fun y hy=>h y (List.mem_cons_of_mem _ hy)
   obtain ⟨j1, j2⟩:=h x List.mem_cons_self
   refine ⟨?_, ?_⟩
   ·show (x.canLay0 && PyData.canLayAll0 xs) = true
    rw [j1, i1]; rfl
   ·show max x.depth (PyData.depthAll xs)<=50
    omega
 show (PyData.canLayAll0 xs && decide (PyData.depthAll xs + 1<=60)) = true
 rw [a.1, decide_eq_true (by omega)]
 rfl
section
variable {P : Program} {w : World} {K : PySem.W.Frag} {mg : Str->Option Value} {base : Heap} {f : Addr} {fd : FuncData} {CN : Addr}
theorem sc_is_place : FnScope ["web", "thing"] ["web", "thing"] (defScope (top 10)):=⟨rfl, rfl, rfl, by decide +kernel, rfl, by decide +kernel, by decide +kernel⟩
theorem ok_is_place (F : Fun K "is_place" "is_place" (top 10) f fd) (B : Dl.Bn mg) (C_is_below : Dl.Cal P w K mg base 2 "is_below" ["limit", "thing"] (spD fBelow)) : FnOk P w K mg base CX0 3 f fd ["web", "thing"] (spD fIsPl):=by
 refine F.ok sc_is_place (len_spD fun ds P h=>?len) (fun cdv A outer s H vs Q E hr h=>?_)
 case len=>(first | (obtain ⟨_, rfl, _⟩:=h; rfl) | (obtain ⟨_, _, rfl, _⟩:=h; rfl) | (obtain ⟨_, _, _, rfl, _⟩:=h; rfl) | (obtain ⟨_, _, _, _, rfl, _⟩:=h; rfl) | (obtain ⟨_, _, _, _, _, rfl, _⟩:=h; rfl) | (obtain ⟨_, _, _, _, _, _, rfl, _⟩:=h; rfl) | (obtain ⟨rfl, _⟩:=h; rfl))
 have nd:=sc_is_place.nd
 refine ⟨_, Wr.WDSs.h (Wr.ds_one (Wr.ds_ret (Wr.dc C_is_below hr (Wr.pda_cons (Wr.pd_ix (Wr.dv 0) Wr.pd_int) (Wr.pda_cons (Wr.dv 1) Wr.pda_nil))))), enterE h ?_⟩
 rintro ds P ⟨n, us, d, rfl, q⟩
 refine ⟨[.im (webD n us), argS d], by show [argS (webD n us), argS d] = _; rw [arg_web], ?_⟩
 refine ⟨.int n, rfl, ?_⟩
 refine tV_arg rfl fun k=>⟨n, d, rfl, ?_⟩
 exact ⟨rfl, q⟩
theorem sc_is_tie_number : FnScope ["web", "thing"] ["web", "thing"] (defScope (top 11)):=⟨rfl, rfl, rfl, by decide +kernel, rfl, by decide +kernel, by decide +kernel⟩
theorem ok_is_tie_number (F : Fun K "is_tie_number" "is_tie_number" (top 11) f fd) (B : Dl.Bn mg) (C_is_below : Dl.Cal P w K mg base 2 "is_below" ["limit", "thing"] (spD fBelow)) : FnOk P w K mg base CX0 3 f fd ["web", "thing"] (spD fIsTN):=by
 refine F.ok sc_is_tie_number (len_spD fun ds P h=>?len) (fun cdv A outer s H vs Q E hr h=>?_)
 case len=>(first | (obtain ⟨_, rfl, _⟩:=h; rfl) | (obtain ⟨_, _, rfl, _⟩:=h; rfl) | (obtain ⟨_, _, _, rfl, _⟩:=h; rfl) | (obtain ⟨_, _, _, _, rfl, _⟩:=h; rfl) | (obtain ⟨_, _, _, _, _, rfl, _⟩:=h; rfl) | (obtain ⟨_, _, _, _, _, _, rfl, _⟩:=h; rfl) | (obtain ⟨rfl, _⟩:=h; rfl))
 have nd:=sc_is_tie_number.nd
 refine ⟨_, Wr.WDSs.h (Wr.ds_one (Wr.ds_ret (Wr.dc C_is_below hr (Wr.pda_cons (Wr.pd_len B.len (Wr.pda_cons (Wr.pd_ix (Wr.dv 0) Wr.pd_int) Wr.pda_nil)) (Wr.pda_cons (Wr.dv 1) Wr.pda_nil))))), enterE h ?_⟩
 rintro ds P ⟨n, us, d, rfl, q⟩
 refine ⟨[.im (webD n us), argS d], by show [argS (webD n us), argS d] = _; rw [arg_web], ?_⟩
 rcases arg_two d with e | e
 all_goals
  rw [e]
  refine ⟨.tuple (us.map pD), rfl, _, d, rfl, ?_⟩
  rw [List.length_map]
  exact ⟨rfl, q⟩
theorem sc_check_place : FnScope ["web", "thing"] ["web", "thing"] (defScope (top 12)):=⟨rfl, rfl, rfl, by decide +kernel, rfl, by decide +kernel, by decide +kernel⟩
theorem ok_check_place (F : Fun K "check_place" "check_place" (top 12) f fd) (B : Dl.Bn mg) (C_is_place : Dl.Cal P w K mg base 3 "is_place" ["web", "thing"] (spD fIsPl)) : FnOk P w K mg base CX0 4 f fd ["web", "thing"] (spD fCkP):=by
 refine F.ok sc_check_place (len_spD fun ds P h=>?len) (fun cdv A outer s H vs Q E hr h=>?_)
 case len=>(first | (obtain ⟨_, rfl, _⟩:=h; rfl) | (obtain ⟨_, _, rfl, _⟩:=h; rfl) | (obtain ⟨_, _, _, rfl, _⟩:=h; rfl) | (obtain ⟨_, _, _, _, rfl, _⟩:=h; rfl) | (obtain ⟨_, _, _, _, _, rfl, _⟩:=h; rfl) | (obtain ⟨_, _, _, _, _, _, rfl, _⟩:=h; rfl) | (obtain ⟨rfl, _⟩:=h; rfl))
 have nd:=sc_check_place.nd
 refine ⟨_, Wr.WDSs.h (Wr.ds_one (Wr.ds_if (Wr.pdt_not (Wr.pdt_val (Wr.dc C_is_place hr (Wr.pda_cons (Wr.dv 0) (Wr.pda_cons (Wr.dv 1) Wr.pda_nil))))) (Wr.ds_one Wr.ds_never) Wr.ds_nil)), enterE h ?_⟩
 rintro ds P ⟨n, us, i, rfl, h0, h1, q⟩
 refine ⟨[.im (webD n us), .im (.int i)], by show [argS (webD n us), .im (.int i)] = _; rw [arg_web], ?_⟩
 refine ⟨n, us, .int i, rfl, ?_⟩
 show if (!decide (0<=i/\i < n)) = true then _ else _
 rw [decide_eq_true ⟨h0, h1⟩]
 exact iteF (A:=True) q
theorem sc_is_tie : FnScope ["n", "thing"] ["n", "thing"] (defScope (top 14)):=⟨rfl, rfl, rfl, by decide +kernel, rfl, by decide +kernel, by decide +kernel⟩
theorem ok_is_tie (F : Fun K "is_tie" "is_tie" (top 14) f fd) (B : Dl.Bn mg) (C_is_below : Dl.Cal P w K mg base 2 "is_below" ["limit", "thing"] (spD fBelow)) : FnOk P w K mg base CX0 3 f fd ["n", "thing"] (spD fIsTie):=by
 refine F.ok sc_is_tie (len_spD fun ds P h=>?len) (fun cdv A outer s H vs Q E hr h=>?_)
 case len=>(first | (obtain ⟨_, rfl, _⟩:=h; rfl) | (obtain ⟨_, _, rfl, _⟩:=h; rfl) | (obtain ⟨_, _, _, rfl, _⟩:=h; rfl) | (obtain ⟨_, _, _, _, rfl, _⟩:=h; rfl) | (obtain ⟨_, _, _, _, _, rfl, _⟩:=h; rfl) | (obtain ⟨_, _, _, _, _, _, rfl, _⟩:=h; rfl) | (obtain ⟨rfl, _⟩:=h; rfl))
 have nd:=sc_is_tie.nd
 refine ⟨_, Wr.WDSs.h (Wr.ds_cons (Wr.ds_if (Wr.wpt (Wr.pdw_or (Wr.pdt_not (Wr.pdt_val (Wr.pd_isinst kit_tuple B.isinstance (Wr.dv 1) (Wr.wty rfl B.tuple boot_tuple)))) (Wr.pdw_or1 (Wr.pdt_neA hr.units (Wr.pd_len B.len (Wr.pda_cons (Wr.dv 1) Wr.pda_nil)) Wr.pd_int)))) (Wr.ds_one (Wr.ds_ret Wr.pd_bl)) Wr.ds_nil)
  (Wr.ds_one (Wr.ds_ret (Wr.pd_and (Wr.dc C_is_below hr (Wr.pda_cons (Wr.dv 0) (Wr.pda_cons (Wr.pd_ix (Wr.dv 1) Wr.pd_int) Wr.pda_nil))) (Wr.pd_and (Wr.dc C_is_below hr (Wr.pda_cons (Wr.dv 0) (Wr.pda_cons (Wr.pd_ix (Wr.dv 1) Wr.pd_int) Wr.pda_nil))) (Wr.pd_one (Wr.pd_neA hr.units (Wr.pd_ix (Wr.dv 1) Wr.pd_int) (Wr.pd_ix (Wr.dv 1) Wr.pd_int)))))))), enterE h ?_⟩
 rintro ds P ⟨n, t, rfl, ok, q⟩
 refine ⟨[.im (.int n), .im (pD t)], rfl, ?_⟩
 obtain ⟨⟨o1, o2⟩, ⟨o3, o4⟩, o5⟩:=ok
 refine iteF (A:=True) (iteF (A:=True) ?_)
 refine ⟨.int t.1, rfl, n, .int t.1, rfl, ?_⟩
 show if decide (0<=t.1/\t.1 < n) = true then _ else _
 rw [decide_eq_true ⟨o1, o2⟩]
 refine iteT (B:=True) ⟨.int t.2, rfl, n, .int t.2, rfl, ?_⟩
 show if decide (0<=t.2/\t.2 < n) = true then _ else _
 rw [decide_eq_true ⟨o3, o4⟩]
 refine iteT (B:=True) ⟨.int t.1, rfl, .int t.2, rfl, rfl, ?_⟩
 show P (.bool (!decide (t.1 = t.2)))
 rw [decide_eq_false o5]
 exact q
theorem sc_makes_web : FnScope ["n", "ties"] ["n", "ties"] (defScope (top 15)):=⟨rfl, rfl, rfl, by decide +kernel, rfl, by decide +kernel, by decide +kernel⟩
theorem nd_makes_web_0 : (["tie", "n", "ties"] : List Str).Nodup:=by decide +kernel
theorem ok_makes_web {tk_MOST_PLACES : Tok} {tk_MOST_TIES : Tok} (F : Fun K "makes_web" "makes_web" (top 15) f fd) (B : Dl.Bn mg) (g_MOST_PLACES : mg "MOST_PLACES" = some (.int 16 tk_MOST_PLACES)) (g_MOST_TIES : mg "MOST_TIES" = some (.int 40 tk_MOST_TIES)) (C_is_whole : Dl.Cal P w K mg base 1 "is_whole" ["thing"] (spD fWhole)) (C_is_tie : Dl.Cal P w K mg base 3 "is_tie" ["n", "thing"] (spD fIsTie)) : FnOk P w K mg base CX0 4 f fd ["n", "ties"] (spD fMakes):=by
 refine F.ok sc_makes_web (len_spD fun ds P h=>?len) (fun cdv A outer s H vs Q E hr h=>?_)
 case len=>(first | (obtain ⟨_, rfl, _⟩:=h; rfl) | (obtain ⟨_, _, rfl, _⟩:=h; rfl) | (obtain ⟨_, _, _, rfl, _⟩:=h; rfl) | (obtain ⟨_, _, _, _, rfl, _⟩:=h; rfl) | (obtain ⟨_, _, _, _, _, rfl, _⟩:=h; rfl) | (obtain ⟨_, _, _, _, _, _, rfl, _⟩:=h; rfl) | (obtain ⟨rfl, _⟩:=h; rfl))
 have nd:=sc_makes_web.nd
 refine ⟨_, Wr.WDSs.h (Wr.ds_cons (Wr.ds_if (Wr.wpt (Wr.pdw_or (Wr.pdt_not (Wr.pdt_val (Wr.dc C_is_whole hr (Wr.pda_cons (Wr.dv 0) Wr.pda_nil)))) (Wr.pdw_or1 (Wr.pdt_not (Wr.pdt_chain op_le op_le Wr.pd_int (Wr.dv 0) (Wr.pd_globI rfl g_MOST_PLACES ⟨_, rfl⟩)))))) (Wr.ds_one (Wr.ds_ret Wr.pd_bl)) Wr.ds_nil)
  (Wr.ds_cons (Wr.ds_if (Wr.wpt (Wr.pdw_or (Wr.pdt_not (Wr.pdt_val (Wr.pd_isLT B.isinstance (Wr.dv 1) (Wr.wty rfl B.list boot_list) (Wr.wty rfl B.tuple boot_tuple)))) (Wr.pdw_or1 (Wr.pdt_gt (Wr.pd_len B.len (Wr.pda_cons (Wr.dv 1) Wr.pda_nil)) (Wr.pd_globI rfl g_MOST_TIES ⟨_, rfl⟩))))) (Wr.ds_one (Wr.ds_ret Wr.pd_bl)) Wr.ds_nil)
  (Wr.ds_one (Wr.ds_ret (Wr.pd_all rfl B.all Dl.boot_all (Wr.pda_cons (Wr.pd_lc ["tie"] rfl (Wr.di_seq (Wr.dv 1)) (fun c=>(Wr.dg_name (i:=0) nd_makes_web_0 rfl (by first | exact Or.inl rfl | exact Or.inr rfl))) (fun c=>Wr.dts_nil) (fun c=>(Wr.dc C_is_tie hr (Wr.pda_cons (Wr.dv 1) (Wr.pda_cons (Wr.dv 0) Wr.pda_nil))))) Wr.pda_nil)))))), enterE h ?_⟩
 rintro ds P ⟨n, us, rfl, n1, n16, lu, ok, q⟩
 refine ⟨[.im (.int n), .sh (.list (us.map pD))], ?_, ?_⟩
 ·rfl
 refine ⟨.int n, rfl, iteF (A:=True) ?_⟩
 show if decide ((1 : Int)<=n) = true then _ else _
 rw [decide_eq_true n1]
 refine iteT (B:=True) ?_
 show if (!decide (n<=16)) = true then _ else _
 rw [decide_eq_true n16]
 refine iteF (A:=True) (iteF (A:=True) ?_)
 show if decide ((40 : Int) < (((us.map pD).length : Nat) : Int)) = true then _ else _
 rw [List.length_map, decide_eq_false (by omega)]
 refine iteF (A:=True) (lc_m us pD (fun _=>.bool true) .imm rfl (by omega) (fun t ht A B hA=>iteT (B:=True) ⟨n, t, rfl, ok t ht, rfl, hA⟩) ?_)
 refine ⟨us.map fun _=>true, by rw [List.map_map]; rfl, rfl, ?_⟩
 have e : (us.map fun _=>true).all id = true:=by rw [List.all_map]; exact List.all_eq_true.mpr fun _ _=>rfl
 rw [e]
 exact q
theorem sc_check_makes_web : FnScope ["n", "ties"] ["n", "ties"] (defScope (top 16)):=⟨rfl, rfl, rfl, by decide +kernel, rfl, by decide +kernel, by decide +kernel⟩
theorem ok_check_makes_web (F : Fun K "check_makes_web" "check_makes_web" (top 16) f fd) (B : Dl.Bn mg) (C_makes_web : Dl.Cal P w K mg base 4 "makes_web" ["n", "ties"] (spD fMakes)) : FnOk P w K mg base CX0 5 f fd ["n", "ties"] (spD fCkM):=by
 refine F.ok sc_check_makes_web (len_spD fun ds P h=>?len) (fun cdv A outer s H vs Q E hr h=>?_)
 case len=>(first | (obtain ⟨_, rfl, _⟩:=h; rfl) | (obtain ⟨_, _, rfl, _⟩:=h; rfl) | (obtain ⟨_, _, _, rfl, _⟩:=h; rfl) | (obtain ⟨_, _, _, _, rfl, _⟩:=h; rfl) | (obtain ⟨_, _, _, _, _, rfl, _⟩:=h; rfl) | (obtain ⟨_, _, _, _, _, _, rfl, _⟩:=h; rfl) | (obtain ⟨rfl, _⟩:=h; rfl))
 have nd:=sc_check_makes_web.nd
 refine ⟨_, Wr.WDSs.h (Wr.ds_one (Wr.ds_if (Wr.pdt_not (Wr.pdt_val (Wr.dc C_makes_web hr (Wr.pda_cons (Wr.dv 0) (Wr.pda_cons (Wr.dv 1) Wr.pda_nil))))) (Wr.ds_one Wr.ds_never) Wr.ds_nil)), enterE h ?_⟩
 rintro ds P ⟨n, us, rfl, n1, n16, lu, ok, q⟩
 refine ⟨[.im (.int n), .sh (.list (us.map pD))], rfl, ?_⟩
 exact ⟨n, us, rfl, n1, n16, lu, ok, iteF (A:=True) q⟩
theorem sc_web_of : FnScope ["n", "ties"] ["n", "ties"] (defScope (top 17)):=⟨rfl, rfl, rfl, by decide +kernel, rfl, by decide +kernel, by decide +kernel⟩
theorem nd_web_of_0 : (["tie", "n", "ties"] : List Str).Nodup:=by decide +kernel
theorem ok_web_of (F : Fun K "web_of" "web_of" (top 17) f fd) (B : Dl.Bn mg) (C_check_makes_web : Dl.Cal P w K mg base 5 "check_makes_web" ["n", "ties"] (spD fCkM)) : FnOk P w K mg base CX0 6 f fd ["n", "ties"] (spD fWebOf):=by
 refine F.ok sc_web_of (len_spD fun ds P h=>?len) (fun cdv A outer s H vs Q E hr h=>?_)
 case len=>(first | (obtain ⟨_, rfl, _⟩:=h; rfl) | (obtain ⟨_, _, rfl, _⟩:=h; rfl) | (obtain ⟨_, _, _, rfl, _⟩:=h; rfl) | (obtain ⟨_, _, _, _, rfl, _⟩:=h; rfl) | (obtain ⟨_, _, _, _, _, rfl, _⟩:=h; rfl) | (obtain ⟨_, _, _, _, _, _, rfl, _⟩:=h; rfl) | (obtain ⟨rfl, _⟩:=h; rfl))
 have nd:=sc_web_of.nd
 refine ⟨_, Wr.WDSs.h (Wr.ds_cons (Wr.ds_expr (Wr.dc C_check_makes_web hr (Wr.pda_cons (Wr.dv 0) (Wr.pda_cons (Wr.dv 1) Wr.pda_nil))))
  (Wr.ds_one (Wr.ds_ret (Wr.pd_tuple (Wr.pda_cons (Wr.dv 0) (Wr.pda_cons (Wr.pd_tupC B.tuple (Wr.pda_cons (Wr.pd_sortP B.sorted (Wr.pda_cons (Wr.pd_lc ["tie"] rfl (Wr.di_seq (Wr.dv 1)) (fun c=>(Wr.dg_name (i:=0) nd_web_of_0 rfl (by first | exact Or.inl rfl | exact Or.inr rfl))) (fun c=>Wr.dts_nil) (fun c=>(Wr.pd_tuple (Wr.pda_cons (Wr.pd_minA rfl B.min (Wr.pda_cons (Wr.dv 0) Wr.pda_nil)) (Wr.pda_cons (Wr.pd_maxA rfl B.max (Wr.pda_cons (Wr.dv 0) Wr.pda_nil)) Wr.pda_nil))))) Wr.pda_nil)) Wr.pda_nil)) Wr.pda_nil)))))), enterE h ?_⟩
 rintro ds P ⟨n, us, rfl, n1, n16, lu, ok, q⟩
 refine ⟨[.im (.int n), .sh (.list (us.map pD))], rfl, ?_⟩
 refine ⟨n, us, rfl, n1, n16, lu, ok, ?_⟩
 refine lc_m us pD (fun t=>pD (mmT t)) .imm rfl (by omega) (fun t ht A B hA=>iteT (B:=True) ⟨(show 2<=1000 by decide), rfl, hA⟩) ?_
 refine ⟨us.map mmT, .inl (by rw [List.map_map]; rfl), by rw [List.length_map]; omega, fun t ht=>?_, fun vs hp hs=>⟨(show 2<=1000 by decide), ?_, q vs hp⟩⟩
 ·obtain ⟨u, hu, rfl⟩:=List.mem_map.mp ht
  obtain ⟨⟨o1, o2⟩, ⟨o3, o4⟩, o5⟩:=ok u hu
  unfold mmT Nice
  dsimp only
  split <;> omega
 ·show (norm _ (webD n vs)).le .n0 = true
  rw [norm_pos (imm_web _ _)]
  rfl
end
theorem PSs.wk {X : Cx} {ss : List Stmt} {t t' : TS} (h : PSs X ss t) (w : ∀ D σ H, t' D σ H->t D σ H) : PSs X ss t':=fun pins s σ H D I q=>h pins s σ H D I (w D σ H q)
noncomputable def penS (p sc : Addr) (ns : List Int) (b : Bool) : Pn where
 fp:=fun a=>a = p\/(b = true/\a = sc)
 PI:=fun H=>(∃ x y : Int, H p = some (.lst [.ref sc, .int x, .int y]))/\(b = true->Rd H sc (.lst (ns.map V.int)))
 pv:=.ref p
 mono:=fun H H' ⟨⟨x, y, h⟩, r⟩ k=>⟨⟨x, y, k _ _ (.inl rfl) h⟩, fun e=>(r e).elim (fun z=>.inl (k _ _ (.inr ⟨e, rfl⟩) z)) fun ⟨o, z⟩=>.inr ⟨o, k _ _ (.inr ⟨e, rfl⟩) z⟩⟩
 is:=fun H a ⟨⟨x, y, h⟩, r⟩ hb=>by
  rcases hb with rfl | ⟨e, rfl⟩
  ·exact ⟨_, h, fun xs z=>nomatch z⟩
  ·rcases r e with z | ⟨o, z⟩
   ·exact ⟨_, z, fun xs z=>nomatch z⟩
   ·exact ⟨_, z, fun xs z=>nomatch z⟩
noncomputable def CP (K : PySem.W.Frag) (q : Pn) : Prop:=∃ p sc ns b, (b = true->p≠sc)/\(b = false->∀ H, SqL K H sc (ns.map V.int))/\q = penS p sc ns b
theorem pen_sq {K : PySem.W.Frag} {H : Hp} {sc : Addr} {ns : List Int} {b : Bool} (r : b = true->Rd H sc (.lst (ns.map V.int))) (hb : b = false->∀ H, SqL K H sc (ns.map V.int)) : SqL K H sc (ns.map V.int):=by
 cases b with
 | true=>exact .inl (r rfl)
 | false=>exact hb rfl H
theorem rd_upd {H : Hp} {sc p : Addr} {u o : HO} (h : Rd H sc u) (n : p≠sc) : Rd (upd H p o) sc u:=by
 rcases h with z | ⟨o', z⟩
 ·exact .inl (by rw [upd_ne (Ne.symm n)]; exact z)
 ·exact .inr ⟨o', by rw [upd_ne (Ne.symm n)]; exact z⟩
noncomputable def fDraw (ds : List D) (P : D->Prop) : Prop:=∃ m : Int, ds = [.int m]/\0 < m/\m < 1073741824/\∀ r : Int, 0<=r->r < m->P (.int r)
theorem len_spP {C : Pn->Prop} {f : List D->(D->Prop)->Prop} {n : Nat} (hn : ∀ ds P, f ds P->ds.length = n) : ∀ vs H Q E, spP C f vs H Q E->vs.length = n + 1:=fun vs H Q E h=>by
 obtain ⟨p, vs', ds, P, _, rfl, _, r, t, _⟩:=h
 rw [List.length_cons, r.length, hn ds P t]
theorem mod_sm {x m : Int} (hm : 0 < m) (hb : m<=2 ^ 32) : -(2 ^ 64) < x % m/\x % m < 2 ^ 64:=by
 have h1:=Int.emod_nonneg x (b:=m) (by omega)
 have h2:=Int.emod_lt_of_pos x hm
 omega
theorem emod_ix {i : Int} {ns : List Int} (h : (0 : Int) < ((ns.map V.int).length : Nat)) : ∃ v : Int, atI (ns.map V.int) (i % (((ns.map V.int).length : Nat) : Int)) = some (.int v):=by
 rw [List.length_map] at h ⊢
 have h1:=Int.emod_nonneg i (b:=(ns.length : Int)) (by omega)
 have h2:=Int.emod_lt_of_pos i h
 have hk : (i % (ns.length : Int)).toNat < ns.length:=by omega
 have ek : i % (ns.length : Int) = (((i % (ns.length : Int)).toNat : Nat) : Int):=by omega
 have q : atI (ns.map V.int) (((i % (ns.length : Int)).toNat : Nat) : Int) = some (.int ns[(i % (ns.length : Int)).toNat]):=atI_nat (by rw [List.getElem?_map, List.getElem?_eq_getElem hk]; rfl)
 rw [← ek] at q
 exact ⟨_, q⟩
theorem same_new {H : Hp} {a : Addr} (h : H a = none) (o : HO) : Same H (upd H a o):=fun b u q=>by rw [upd_ne (ne_of_none q h)]; exact q
noncomputable def spPen0 : Sp:=fun vs H Q _=>∃ sc, vs = [.ref sc]/\∀ p, H p = none->Q (.ref p) (upd H p (.lst [.ref sc, .int 0, .int 0]))
theorem enterN {K : PySem.W.Frag} {T : DS} {N : List Str} {H : Hp} {Q : VK} {sc : Addr} {ns : List Int} (hS : SqL K H sc (ns.map V.int)) (q : ∀ H', Q (.bl true) H') (hN : 2<=N.length)
  (body : T { nx:=fun _=>False, rt:=fun d=>d = .bool true } (.any :: .pen (CP K) :: List.replicate (N.length - 2) .any)) :
  tSeq (tAsg (tCall spPen0 [] E0 (tCons (tVar 0) tNil)) (gName 1)) (liftS T) { nx:=fun _ H'=>Q .non H', rt:=Q } (L2.start N [.ref sc]) H:=by
 refine ⟨_, rfl, sc, rfl, fun p hp=>?_⟩
 show liftS T _ ((L2.start N [.ref sc]).set 1 (some (.ref p))) _
 have main : ∀ b, (b = true->p≠sc)->(b = false->∀ H, SqL K H sc (ns.map V.int))->(b = true->Rd (upd H p (.lst [.ref sc, .int 0, .int 0])) sc (.lst (ns.map V.int)))->liftS T { nx:=fun _ H'=>Q .non H', rt:=Q } ((L2.start N [.ref sc]).set 1 (some (.ref p))) (upd H p (.lst [.ref sc, .int 0, .int 0])):=by
  intro b h1 h2 h3
  refine ⟨penS p sc ns b, upd H p (.lst [.ref sc, .int 0, .int 0]), fun _=>none, _, _, ?_, body, ⟨fun _ _ _ _ _ _ n=>n.elim, fun d v H' n w=>?_, fun _ _ _ _ _ _ n=>n.elim, fun _ _ _ _ _ _ n=>n.elim⟩⟩
  ·have hl : (L2.start N [.ref sc]).length = N.length:=by unfold L2.start; simp; omega
   refine ⟨fun b o e _=>e, ⟨⟨0, 0, upd_same⟩, h3⟩, fun a r e=>(nomatch e), fun j s e=>?_, by rw [List.length_set, hl, List.length_cons, List.length_cons, List.length_replicate]; omega, trivial⟩
   rcases j with _ | _ | j
   ·cases e; trivial
   ·cases e
    exact ⟨List.getElem?_set_self (by rw [hl]; omega), p, sc, ns, b, h1, h2, rfl⟩
   ·rw [List.getElem?_cons_succ, List.getElem?_cons_succ] at e
    have e2:=(List.mem_replicate.mp (List.mem_of_getElem? e)).2
    subst e2
    trivial
  ·have n : d = .bool true:=n
   subst n
   have r:=w.rp
   cases r
   exact q H'
 rcases hS with h | h
 ·have hn : p≠sc:=by
   rintro rfl
   rcases h with z | ⟨o, z⟩ <;> rw [hp] at z <;> cases z
  exact main true (fun _=>hn) (fun z=>nomatch z) fun _=>rd_upd h hn
 ·exact main false (fun z=>nomatch z) (fun _ H=>.inr h) fun z=>nomatch z
noncomputable def tMix : TS:=fun D σ H=>∃ (a0 a2 a4 a6 : Option V) (m i cell : Int), σ = [a0, some (.int m), a2, some (.int i), a4, some (.int cell), a6]/\0 < m/\∀ r, 0<=r->r < m->D.rt (.int r) H
noncomputable def tLast (p : Addr) : TS:=fun D σ H=>∃ (a2 a3 a5 a6 : Option V) (m l : Int) (sc : Addr) (i' l0 : Int), σ = [some (.ref p), some (.int m), a2, a3, some (.int l), a5, a6]/\0 < m/\m < 1073741824/\H p = some (.lst [.ref sc, .int i', .int l0]) /\
 D.rt (.int (l % m)) (upd H p (.lst [.ref sc, .int i', .int (l / m)]))
structure IsOrd (n : Int) (l : List Int) : Prop where
 len : (l.length : Int) = n
 rng : ∀ x∈l, 0<=x/\x < n
 nd : l.Nodup
noncomputable def fOrder (ds : List D) (P : D->Prop) : Prop:=∃ n : Int, ds = [.int n]/\1<=n/\n<=16/\∀ l, IsOrd n l->P (.list (l.map PyData.int))
theorem rngL_map (n : Int) : rngL 0 n = ((List.range n.toNat).map fun i=>((i : Nat) : Int)).map V.int:=by
 unfold rngL
 rw [List.map_map, Int.sub_zero]
 exact List.map_congr_left fun i _=>by simp
theorem seqIx {r : Int} {k : Nat} (h0 : 0<=r) (h1 : r < k) : seqIndex? r k = some r.toNat:=(ixN_seq (n:=k) (i:=r) (j:=r.toNat) (by unfold ixN; rw [if_pos h0, if_pos h1])).1
theorem map_eraseIdx {α β : Type} (g : α->β) : ∀ (l : List α) (i : Nat), (l.map g).eraseIdx i = (l.eraseIdx i).map g
 | [], _=>by simp
 | _ :: _, 0=>by simp
 | x :: l, i + 1=>by simp [map_eraseIdx g l i]
theorem perm_pop {α : Type} : ∀ (l : List α) (i : Nat) (x : α), l[i]? = some x->(x :: l.eraseIdx i).Perm l
 | [], i, x, h=>by simp at h
 | y :: l, 0, x, h=>by simp at h; subst h; exact List.Perm.refl _
 | y :: l, i + 1, x, h=>by
  have ih:=perm_pop l i x (by simpa using h)
  exact (List.Perm.swap y x _).trans (ih.cons y)
section
variable {P : Program} {w : World} {K : PySem.W.Frag} {mg : Str->Option Value} {base : Heap} {f : Addr} {fd : FuncData}
theorem sc_pen : FnScope ["_law_script"] ["_law_script"] (defScope (top 32)):=⟨rfl, rfl, rfl, by decide +kernel, rfl, by decide +kernel, by decide +kernel⟩
theorem ok_pen (F : Fun K "_law_pen" "_law_pen" (top 32) f fd) : FnOk P w K mg base CX0 1 f fd ["_law_script"] spPen0:=by
 refine F.ok sc_pen (fun vs H Q E h=>?_) (fun cdv A outer s H vs Q E hr h=>?_)
 ·obtain ⟨sc, rfl, _⟩:=h
  rfl
 obtain ⟨sc, rfl, q⟩:=h
 refine ⟨_, pss_one (ps_ret (pe_lst (pa_cons (pv 0) (pa_cons pe_int (pa_cons pe_int pa_nil))))), ?_⟩
 exact ⟨_, rfl, by show 3<=sizeLine; decide, fun p hp=>q p hp⟩
theorem sc_take : FnScope ["_law_pen_here", "_law_many", "_law_script", "_law_at", "_law_left", "_law_cell", "_law_mixed"] ["_law_pen_here", "_law_many"] (defScope (top 33)):=⟨rfl, rfl, rfl, by decide +kernel, rfl, by decide +kernel, by decide +kernel⟩
theorem ok_take (F : Fun K "_law_take" "_law_take" (top 33) f fd) (B : Dl.Bn mg) : FnOk P w K mg base CX0 1 f fd ["_law_pen_here", "_law_many"] (spP (CP K) fDraw):=by
 refine F.ok sc_take (len_spP fun ds P ⟨m, e, _⟩=>by rw [e]; rfl) (fun cdv A outer s H vs Q E hr h=>?_)
 obtain ⟨_, vs', ds, P, ⟨p, sc, ns, b, hps, hbK, rfl⟩, rfl, ⟨⟨i, l, hp⟩, hsc⟩, rp, ⟨m, rfl, h0, h30, hP⟩, q0⟩:=h
 obtain rfl : vs' = [.int m]:=by
  cases rp with
  | cons h1 t=>cases h1; cases t; rfl
 have nd:=sc_take.nd
 have q : ∀ (r : Int) (H' : Hp), 0<=r->r < m->((∀ a o, H a = some o->a≠p->H' a = some o)/\(penS p sc ns b).PI H')->Q (.int r) H':=fun r H' r0 r1 k =>
  q0 _ _ _ (hP r r0 r1) (fun a o e n=>k.1 a o e fun z=>n (.inl z)) k.2 (.int r)
 refine ⟨_, pss_cons (ps_asg (pv 0) (L2.pg_lst rfl (pgs_cons (pg_name (i:=2) nd rfl (Or.inl rfl)) (pgs_cons (pg_name (i:=3) nd rfl (Or.inl rfl)) (pgs_cons (pg_name (i:=4) nd rfl (Or.inl rfl)) pgs_nil)))))
  (pss_cons (ps_if (pt_cmpR op_eq (pv 4) pe_int (nomark _))
   (pss_cons (ps_asg (pe_op op_add (pv 3) pe_int) (pg_sub (pv 0) pe_int set_list))
   (pss_cons (ps_set (i:=5) nd rfl (Or.inl rfl) pe_int)
   (pss_cons (ps_if (pt_cmpR op_gt (pe_callB call_len_seq rfl B.len PySem.boot_len (pa_cons (pv 2) pa_nil)) pe_int (nomark _))
    (pss_one (ps_set (i:=5) nd rfl (Or.inl rfl) (pe_callB call_abs rfl B.abs Dl.boot_abs (pa_cons (pe_ix ix_list (pv 2) (pe_op op_mod (pv 3) (pe_callB call_len_seq rfl B.len PySem.boot_len (pa_cons (pv 2) pa_nil))) (fun _ _=>rfl)) pa_nil)))) pss_nil)
   (pss_cons (ps_if (PW.pt (pw_or (pt_cmpR op_ge (pv 3) (pe_callB call_len_seq rfl B.len PySem.boot_len (pa_cons (pv 2) pa_nil)) (nomark _)) (pw_or1 (pt_cmpR op_lt (pv 5) (pe_op op_pow pe_int pe_int) (nomark _)))))
    (PSs.wk (t':=tMix) (pss_cons (ps_set (i:=6) nd rfl (Or.inl rfl) (pe_op op_mod (pe_op op_mul (pe_op op_add (pe_op op_add (pe_op op_mod (pv 5) pe_int) (pe_op op_mul pe_int (pv 3))) pe_int) pe_int) pe_int))
    (pss_cons (ps_set (i:=6) nd rfl (Or.inl rfl) (pe_op op_mod (pe_op op_add (pe_op op_add (pe_op op_mul (pv 6) (pv 6)) (pe_op op_mul pe_int (pv 6))) (pv 3)) pe_int))
    (pss_one (ps_ret (pe_op op_mod (pe_op op_fdiv (pe_op op_mod (pe_op op_add (pe_op op_mul (pv 6) (pe_op op_add (pe_op op_mod (pv 6) pe_int) pe_int)) (pv 3)) pe_int) pe_int) (pv 1)))))) ?mix) pss_nil)
   (pss_one (ps_set (i:=4) nd rfl (Or.inl rfl) (pv 5))))))) pss_nil)
  (PSs.wk (t':=tLast p) (pss_cons (ps_asg (pe_op op_fdiv (pv 4) (pv 1)) (pg_sub (pv 0) pe_int set_list))
  (pss_one (ps_ret (pe_op op_mod (pv 4) (pv 1))))) ?last)), ?_⟩
 case mix =>
  rintro D σ H' ⟨a0, a2, a4, a6, m, i, cell, rfl, hm, hq⟩
  refine ⟨_, rfl, _, _, rfl, rfl, (by show (0 : Int) < 2147483563; decide), _, rfl, _, _, rfl, rfl, .inl ⟨by decide, by decide⟩, _, _, rfl, rfl, _, _, rfl, rfl, _, _, rfl, rfl, .inr ⟨by decide, by decide⟩, _, _, rfl, rfl, (by show (0 : Int) < 2147483647; decide), ?_⟩
  refine ⟨_, rfl, _, rfl, _, _, rfl, rfl, .inl (mod_sm (by decide) (by decide)), _, rfl, _, _, rfl, rfl, .inl ⟨by decide, by decide⟩, _, _, rfl, rfl, _, rfl, _, _, rfl, rfl, _, _, rfl, rfl, (by show (0 : Int) < 2147483587; decide), ?_⟩
  refine ⟨_, rfl, _, rfl, _, _, rfl, rfl, (by show (0 : Int) < 65521; decide), _, _, rfl, rfl, _, _, rfl, rfl, .inl (mod_sm (by decide) (by decide)), _, rfl, _, _, rfl, rfl, _, _, rfl, rfl, (by show (0 : Int) < 2147483629; decide), _, _, rfl, rfl, ⟨by decide, by decide⟩, _, rfl, _, _, rfl, rfl, hm, ?_⟩
  exact hq _ (Int.emod_nonneg _ (by omega)) (Int.emod_lt_of_pos _ hm)
 case last =>
  rintro D σ H' ⟨a2, a3, a5, a6, m, l, sc, i', l0, rfl, hm, hm2, hp', hq⟩
  exact ⟨_, rfl, _, rfl, _, _, rfl, rfl, ⟨hm, hm2⟩, _, rfl, p, _, _, _, rfl, rfl, hp', rfl, _, rfl, _, rfl, _, _, rfl, rfl, hm, hq⟩
 have ok3 : ∀ (H1 : Hp) (x y : Int), H1 p = some (.lst [V.ref sc, V.int x, V.int y])->(∀ b o, H b = some o->b≠p->H1 b = some o)->((∀ a o, H a = some o->a≠p->H1 a = some o)/\(penS p sc ns b).PI H1):=fun H1 x y e k=>⟨k, ⟨x, y, e⟩, fun eb=>by
  rcases hsc eb with z | ⟨o, z⟩
  ·exact .inl (k _ _ z (Ne.symm (hps eb)))
  ·exact .inr ⟨o, k _ _ z (Ne.symm (hps eb))⟩⟩
 have kU : ∀ (H1 : Hp) (o : HO), (∀ b o, H b = some o->b≠p->H1 b = some o)->∀ b u, H b = some u->b≠p->upd H1 p o b = some u:=fun H1 o k b u e n=>by rw [upd_ne n]; exact k b u e n
 refine ⟨_, rfl, p, _, rfl, SqL.of hp, rfl, _, _, rfl, _, _, rfl, _, _, rfl, rfl, ?_⟩
 refine ⟨_, rfl, rfl, _, rfl, ite2 (fun c=>?_) (fun c=>?_)⟩
 ·-- a new cell
  refine ⟨_, rfl, _, _, rfl, rfl, _, rfl, p, _, _, _, rfl, rfl, hp, rfl, ?_⟩
  have hp1 : upd H p (.lst ([V.ref sc, V.int i, V.int l].set 1 (V.int (i + 1)))) p = some (.lst [V.ref sc, V.int (i + 1), V.int l]):=upd_same
  have k1:=kU H (.lst ([V.ref sc, V.int i, V.int l].set 1 (V.int (i + 1)))) fun b o e _=>e
  have r1 : b = true->Rd (upd H p (.lst ([V.ref sc, V.int i, V.int l].set 1 (V.int (i + 1))))) sc (.lst (ns.map V.int)):=fun e=>rd_upd (hsc e) (hps e)
  have hS1 : SqL K (upd H p (.lst ([V.ref sc, V.int i, V.int l].set 1 (V.int (i + 1))))) sc (ns.map V.int):=pen_sq r1 hbK
  have K1:=ok3 _ _ _ hp1 k1
  refine ⟨_, rfl, sc, _, rfl, .inl hS1, _, _, rfl, rfl, _, rfl, ite2 (fun c1=>(emod_ix (i:=i) (ns:=ns) (of_decide_eq_true c1)).elim fun v hv=>⟨_, rfl, _, rfl, _, rfl, sc, _, rfl, .inl hS1, _, _, rfl, rfl, of_decide_eq_true c1, sc, _, _, _, rfl, rfl, hS1, hv, v, rfl, ?_⟩) (fun c1=>?_)⟩
  all_goals
   refine ⟨_, rfl, _, rfl, sc, _, rfl, .inl hS1, _, _, rfl, rfl, _, rfl, ite2 (fun c2=>iteT ?_) (fun c2=>?_)⟩
   ·exact ⟨_, _, _, _, m, i, _, rfl, h0, fun r a b=>q r _ a b K1⟩
   ·refine ⟨_, rfl, _, _, rfl, rfl, ⟨by decide, by decide, by decide⟩, _, _, rfl, rfl, _, rfl, ite2 (fun c3=>?_) (fun c3=>?_)⟩
    ·exact ⟨_, _, _, _, m, i, _, rfl, h0, fun r a b=>q r _ a b K1⟩
    ·refine ⟨_, rfl, ?_⟩
     exact ⟨_, _, _, _, m, _, sc, i + 1, l, rfl, h0, h30, hp1, q _ _ (Int.emod_nonneg _ (by omega)) (Int.emod_lt_of_pos _ h0) (ok3 _ _ _ upd_same (kU _ _ k1))⟩
 ·exact ⟨_, _, _, _, m, l, sc, i, l, rfl, h0, h30, hp, q _ _ (Int.emod_nonneg _ (by omega)) (Int.emod_lt_of_pos _ h0) (ok3 _ _ _ upd_same (kU _ _ fun b o e _=>e))⟩
theorem sc_order : FnScope ["_law_pen_here", "_law_n", "_law_left"] ["_law_pen_here", "_law_n"] (defScope (top 34)):=⟨rfl, rfl, rfl, by decide +kernel, rfl, by decide +kernel, by decide +kernel⟩
theorem nd_order : (["_law_k", "_law_pen_here", "_law_n", "_law_left"] : List Str).Nodup:=by decide +kernel
theorem ok_order (F : Fun K "_law_order" "_law_order" (top 34) f fd) (B : Dl.Bn mg) (T : Dl.Cal P w K mg base 1 "_law_take" ["_law_pen_here", "_law_many"] (spP (CP K) fDraw)) : FnOk P w K mg base CX0 2 f fd ["_law_pen_here", "_law_n"] (spP (CP K) fOrder):=by
 refine F.ok sc_order (len_spP fun ds P ⟨m, e, _⟩=>by rw [e]; rfl) (fun cdv A outer s H vs Q E hr h=>?_)
 obtain ⟨pn, vs', ds, P, cp, rfl, pi, rp, ⟨n, rfl, n1, n16, hP⟩, q0⟩:=h
 obtain rfl : vs' = [.int n]:=by
  cases rp with
  | cons h1 t=>cases h1; cases t; rfl
 have nd:=sc_order.nd
 refine ⟨_, pss_cons (ps_set (i:=2) nd rfl (Or.inr rfl) (pe_callTy (call_list_rng rfl) rfl B.list boot_list (pa_cons (pe_callTy call_rng1 rfl B.range boot_range (pa_cons (pv 1) pa_nil)) pa_nil)))
  (pss_one (ps_ret (pe_lc ["_law_k"] rfl (pi_range1 rfl B.range (pa_cons (pv 1) pa_nil)) (fun c=>pg_name (i:=0) nd_order rfl (Or.inl rfl)) (fun c=>pts_nil)
   (fun c=>pe_bm PySem.F.plainAttrs_list PySem.F.slot_list_pop PySem.F.type_list_pop mt_popAt (pv 3) (pa_cons (pcS T hr (pa_cons (pv 1) (pa_cons (pe_callB call_len_seq rfl B.len PySem.boot_len (pa_cons (pv 3) pa_nil)) pa_nil)) (by decide) rfl (by decide) rfl rfl) pa_nil))))), ?_⟩
 refine ⟨_, rfl, n, rfl, fun r hr1=>?_⟩
 refine ⟨r, 0, n, rfl, upd_same, ⟨by omega, by omega, by omega, by omega⟩, fun L hL=>?_⟩
 have a1:=same_new hr1 (.rng 0 n)
 have a2:=same_new hL (.lst (rngL 0 n))
 have a12 : Same H (upd (upd H r (.rng 0 n)) L (.lst (rngL 0 n))):=fun b o e=>a2 b o (a1 b o e)
 have hHL : H L = none:=by
  cases e : H L with
  | none=>rfl
  | some o=>rw [a1 _ _ e] at hL; cases hL
 have nfp : ∀ a, H a = none->¬ pn.fp a:=fun a ha z=>by
  obtain ⟨o, e, _⟩:=pn.is H a pi z
  rw [ha] at e; cases e
 have hLp:=nfp L hHL
 refine ⟨_, rfl, n, rfl, by omega, by omega, lc_rng (lo:=0) (k:=n.toNat) (by omega) (fun i ys H'=>∃ out rem : List Int, ys = out.map V.int/\H' L = some (.lst (rem.map V.int))/\(out ++ rem).Perm ((List.range n.toNat).map fun i=>((i : Nat) : Int))/\out.length = i/\Dl.Kp pn H H'/\pn.PI H')
  ⟨[], _, rfl, by rw [upd_same, rngL_map], List.Perm.refl _, rfl, fun b o e _=>a12 b o e, pn.mono H _ pi fun b o _ e=>a12 b o e⟩ ?_ ?_ ?_⟩
 ·rintro i ys H' ⟨out, rem, rfl, _, _, e, _⟩
  rw [List.length_map, e]
  exact Nat.le_refl _
 ·rintro c i ys H' hi ⟨out, rem, rfl, hL', hperm, ho, k, pi'⟩
  have hlen : out.length + rem.length = n.toNat:=by have:=hperm.length_eq; simpa using this
  have hm : ((rem.map V.int).length : Int) = rem.length:=by rw [List.length_map]
  refine iteT (B:=True) ⟨_, rfl, .inl ⟨rfl, _, SqL.of hL'⟩, _, rfl, _, rfl, L, _, rfl, .inl (SqL.of hL'), pn, _, [.int ((rem.map V.int).length : Nat)], (fun d=>∃ y : Int, 0<=y/\y < ((rem.map V.int).length : Nat)/\d = .int y), cp, rfl, pi', .cons (.int _) .nil, ⟨_, rfl, by rw [hm]; omega, by rw [hm]; omega, fun x x0 x1=>⟨x, x0, x1, rfl⟩⟩, ?_⟩
  rintro d v H2 ⟨x, x0, x1, rfl⟩ k2 pi2 rv
  have ev:=Rp.int' rv
  subst ev
  rw [hm] at x1
  have hL2 : H2 L = some (.lst (rem.map V.int)):=k2 _ _ hL' hLp
  have hx : x.toNat < rem.length:=by omega
  refine ⟨L, _, x, x.toNat, .int rem[x.toNat], rfl, rfl, hL2, by omega, by omega, by rw [List.length_map]; exact seqIx x0 x1, by rw [List.getElem?_map, List.getElem?_eq_getElem hx]; rfl, ?_⟩
  refine ⟨out ++ [rem[x.toNat]], rem.eraseIdx x.toNat, by rw [List.map_append]; rfl, by rw [upd_same, map_eraseIdx], ?_, by rw [List.length_append, ho]; rfl, fun b o e nb=>?_, pn.mono H2 _ pi2 fun b o z e=>?_⟩
  ·rw [List.append_assoc]
   exact ((perm_pop rem x.toNat _ (List.getElem?_eq_getElem hx)).append_left out).trans hperm
  ·rw [upd_ne (fun z=>by rw [z, hHL] at e; cases e)]
   exact k2 b o (k b o e nb) nb
  ·rw [upd_ne (show b≠L from fun y=>hLp (y ▸ z))]
   exact e
 ·rintro ys H' ⟨out, rem, rfl, hL', hperm, ho, k, pi'⟩ a ha
  have hlen : out.length + rem.length = n.toNat:=by have:=hperm.length_eq; simpa using this
  have hrem : rem = []:=List.eq_nil_of_length_eq_zero (by omega)
  subst hrem
  rw [List.append_nil] at hperm
  have nfa : ¬ pn.fp a:=fun z=>by
   obtain ⟨o, e, _⟩:=pn.is H' a pi' z
   rw [ha] at e; cases e
  have hHa : H a = none:=by
   cases e : H a with
   | none=>rfl
   | some o=>rw [k a o e nfa] at ha; cases ha
  have sm:=same_new ha (.lst (out.map V.int))
  refine q0 _ _ _ (hP out ⟨by omega, fun x hx=>?_, ?_⟩) (fun b o e nb=>sm b o (k b o e nb)) (pn.mono H' _ pi' fun b o _ e=>sm b o e) (.lst hHa upd_same (Rps.ofMap (fun i=>.int i) out))
  ·have:=hperm.mem_iff.mp hx
   obtain ⟨i, hi, rfl⟩:=List.mem_map.mp this
   have:=List.mem_range.mp hi
   omega
  ·refine hperm.nodup_iff.mpr ?_
   exact (List.nodup_range (n:=n.toNat)).map (fun i=>((i : Nat) : Int)) fun i j hij h=>hij (by omega)
end
theorem OkN.snoc {n : Int} {us : List Tie} {t : Tie} (h : OkN n us) (h' : OkT n t) : OkN n (us ++ [t]):=fun u hu=>(List.mem_append.mp hu).elim (h u) fun z=>by rw [List.mem_singleton.mp z]; exact h'
theorem app1 (ts : List Tie) (a b : Int) : ts.map pD ++ [PyData.tuple [.int a, .int b]] = (ts ++ [((a, b) : Tie)]).map pD:=by
 rw [List.map_append]
 rfl
noncomputable def fAny (ds : List D) (P : D->Prop) : Prop:=∃ n many : Int, ds = [.int n, .int many]/\1<=n/\n<=16/\0<=many/\many<=64/\∀ us : List Tie, OkN n us->us.length<=many.toNat->P (.list (us.map pD))
section
variable {P : Program} {w : World} {K : PySem.W.Frag} {mg : Str->Option Value} {base : Heap} {f : Addr} {fd : FuncData}
theorem sc_law_any : FnScope ["_law_pen_here", "_law_n", "_law_many", "_law_found", "_law_k", "_law_a"] ["_law_pen_here", "_law_n", "_law_many"] (defScope (top 35)):=⟨rfl, rfl, rfl, by decide +kernel, rfl, by decide +kernel, by decide +kernel⟩
theorem ok_law_any (F : Fun K "_law_any" "_law_any" (top 35) f fd) (B : Dl.Bn mg) (C__law_take : Dl.Cal P w K mg base 1 "_law_take" ["_law_pen_here", "_law_many"] (spP (CP K) fDraw)) : FnOk P w K mg base CX0 2 f fd ["_law_pen_here", "_law_n", "_law_many"] (spP (CP K) fAny):=by
 refine F.ok sc_law_any (len_spP fun ds P h=>?len) (fun cdv A outer s H vs Q E hr h=>?_)
 case len=>(first | (obtain ⟨_, rfl, _⟩:=h; rfl) | (obtain ⟨_, _, rfl, _⟩:=h; rfl) | (obtain ⟨_, _, _, rfl, _⟩:=h; rfl) | (obtain ⟨_, _, _, _, rfl, _⟩:=h; rfl) | (obtain ⟨_, _, _, _, _, rfl, _⟩:=h; rfl) | (obtain ⟨_, _, _, _, _, _, rfl, _⟩:=h; rfl) | (obtain ⟨rfl, _⟩:=h; rfl))
 have nd:=sc_law_any.nd
 refine ⟨_, Wr.WDSs.h (Wr.ds_cons (Wr.ds_set (some 0) (i:=3) nd rfl (by first | exact Or.inl rfl | exact Or.inr rfl) (Wr.pd_list Wr.pda_nil))
  (Wr.ds_cons (Wr.ds_for PassesOwn.never rfl (Wr.di_range1 B.range (Wr.pda_cons (Wr.pd_times (Wr.dv 2) (Wr.pd_intC B.int boot_int (Wr.pda_cons (Wr.pd_gt (Wr.dv 1) Wr.pd_int) Wr.pda_nil))) Wr.pda_nil)) (Wr.dg_name (i:=4) nd rfl (by first | exact Or.inl rfl | exact Or.inr rfl)) (Wr.ds_cons (Wr.ds_set none (i:=5) nd rfl (by first | exact Or.inl rfl | exact Or.inr rfl) (Wr.dcP C__law_take hr (Wr.wv 0) (Wr.pda_cons (Wr.dv 1) Wr.pda_nil)))
  (Wr.ds_cons (Wr.ds_append (Wr.wv 3) (Wr.pda_cons (Wr.pd_tuple (Wr.pda_cons (Wr.dv 5) (Wr.pda_cons (Wr.pd_mod (Wr.pd_plus (Wr.pd_plus (Wr.dv 5) Wr.pd_int) (Wr.dcP C__law_take hr (Wr.wv 0) (Wr.pda_cons (Wr.pd_sub (Wr.dv 1) Wr.pd_int) Wr.pda_nil))) (Wr.dv 1)) Wr.pda_nil))) Wr.pda_nil)) (Wr.ds_drops [4, 5] Wr.ds_nil))))
  (Wr.ds_drops [4, 5] (Wr.ds_one (Wr.ds_ret (Wr.dv 3)))))), enterQ h ?_⟩
 rintro ds P ⟨n, many, rfl, n1, n16, m0, m64, q⟩
 refine ⟨[.im (.int n), .im (.int many), .any, .any, .any], rfl, ?_⟩
 have bb : ∀ b : Bool, (0<=many * (if b = true then 1 else 0)/\many * (if b = true then 1 else 0)<=64)/\(many * (if b = true then 1 else 0)).toNat<=many.toNat:=fun b=>by
  cases b with
  | true=>rw [if_pos rfl]; omega
  | false=>rw [if_neg Bool.false_ne_true]; omega
 have b1:=bb (decide (1 < n))
 refine ⟨(show 0<=1000 by decide), .inl ⟨by omega, by omega⟩, ⟨by omega, by omega⟩, rfl, fun (i : Nat) ρ=>∃ us : List Tie, ρ = [.pen (CP K), .im (.int n), .im (.int many), .dw 0 (.list (us.map pD)), .any, .any]/\OkN n us/\us.length = i, ⟨[], rfl, fun _ h=>(nomatch h), rfl⟩, ?_, ?_⟩
 ·rintro i d ρ hd ⟨us, rfl, ok, lu⟩
  obtain ⟨hi, rfl⟩:=intsD_get hd
  have n2 : 1 < n:=by
   by_cases z : 1 < n
   ·exact z
   ·have e : decide (1 < n) = false:=decide_eq_false z
    rw [e, if_neg Bool.false_ne_true] at hi
    simp at hi
  have ll : (us.map pD).length = us.length:=List.length_map ..
  refine ⟨rfl, n, rfl, by omega, by omega, fun a a0 a1=>⟨rfl, n - 1, rfl, by omega, by omega, fun r r0 r1=>⟨by omega, (show 2<=1000 by decide), rfl, by omega, us ++ [(a, (a + 1 + r) % n)], ?_, ok.snoc ?_, by rw [List.length_append, List.length_singleton, lu]⟩⟩⟩
  ·rw [← app1]
   rfl
  ·have h1:=Int.emod_nonneg (a + 1 + r) (b:=n) (by omega)
   have h2:=Int.emod_lt_of_pos (a + 1 + r) (b:=n) (by omega)
   refine ⟨⟨a0, a1⟩, ⟨h1, h2⟩, fun z=>?_⟩
   have z : a = (a + 1 + r) % n:=z
   by_cases c : a + 1 + r < n
   ·rw [Int.emod_eq_of_lt (by omega) c] at z
    omega
   ·have e : (a + 1 + r) % n = a + 1 + r - n:=by
     rw [← Int.sub_emod_right, Int.emod_eq_of_lt (by omega) (by omega)]
    rw [e] at z
    omega
 ·rintro ρ ⟨us, rfl, ok, lu⟩
  rw [len_intsD] at lu
  exact ⟨rfl, q us ok (by omega)⟩
end
theorem OkN.app {n : Int} {us vs : List Tie} (h : OkN n us) (h' : OkN n vs) : OkN n (us ++ vs):=fun u hu=>(List.mem_append.mp hu).elim (h u) (h' u)
theorem or2 {a b : Bool} {A B : Prop} (hA : (a = true\/b = true)->A) (hB : a = false->b = false->B) : if a = true then (if true = true then A else B) else (if b = true then A else B):=by
 cases a with
 | true=>exact iteT (B:=True) (iteT (B:=True) (hA (.inl rfl)))
 | false =>
  refine iteF (A:=True) ?_
  cases b with
  | true=>exact iteT (B:=True) (hA (.inr rfl))
  | false=>exact iteF (A:=True) (hB rfl rfl)
theorem OkT.lt {n a b : Int} (h0 : 0<=a) (h1 : a < b) (h2 : b < n) : OkT n (a, b):=⟨⟨h0, by dsimp only; omega⟩, ⟨by dsimp only; omega, h2⟩, by dsimp only; omega⟩
theorem rep01 (b : Bool) (t : Tie) : ∃ zs : List Tie, (List.replicate (if b = true then (1 : Int) else 0).toNat [pD t]).flatten = zs.map pD/\zs.length<=1/\∀ z∈zs, z = t/\b = true:=by
 cases b with
 | true=>exact ⟨[t], rfl, Nat.le_refl _, fun z hz=>⟨List.mem_singleton.mp hz, rfl⟩⟩
 | false=>exact ⟨[], rfl, Nat.zero_le _, fun z hz=>nomatch hz⟩
theorem rep01b (b : Bool) (t : Tie) : (0 : Int)<=(if b = true then 1 else 0)/\(if b = true then (1 : Int) else 0) < 1000/\[pD t].length * (if b = true then (1 : Int) else 0).toNat<=1000:=by
 cases b <;> exact ⟨by decide, by decide, by rw [List.length_singleton]; decide⟩
noncomputable def fRings (ds : List D) (P : D->Prop) : Prop:=∃ n : Int, ds = [.int n]/\1<=n/\n<=9/\∀ us : List Tie, OkN n us->us.length<=18->P (.list (us.map pD))
noncomputable def fShape (ds : List D) (P : D->Prop) : Prop:=∃ n : Int, ds = [.int n]/\1<=n/\n<=9/\∀ us : List Tie, OkN n us->us.length<=20->P (.list (us.map pD))
noncomputable def rowI (a : Int) (k : Nat) : List Int:=(0 :: (List.range k).map fun i=>a + ((i : Nat) : Int)) ++ [0]
theorem row_eq (a : Int) (k : Nat) : [PyData.int 0] ++ intsD a k ++ [PyData.int 0] = (rowI a k).map PyData.int:=by
 unfold rowI intsD
 rw [List.map_append, List.map_cons, List.map_map]
 rfl
theorem immDs_int (l : List Int) : immDs (l.map PyData.int) = true:=by
 induction l with
 | nil=>rfl
 | cons x l ih=>exact ih
theorem imm_row0 (a : Int) (k : Nat) : immDs ([PyData.int 0] ++ intsD a k) = true:=by
 have : [PyData.int 0] ++ intsD a k = ((0 :: (List.range k).map fun i=>a + ((i : Nat) : Int)) : List Int).map PyData.int:=by
  unfold intsD
  rw [List.map_cons, List.map_map]
  rfl
 rw [this]
 exact immDs_int _
theorem imm_row (a : Int) (k : Nat) : immDs ([PyData.int 0] ++ intsD a k ++ [PyData.int 0]) = true:=by
 rw [row_eq]
 exact immDs_int _
theorem rowI_len (a : Int) (k : Nat) : (rowI a k).length = k + 2:=by
 unfold rowI
 rw [List.length_append, List.length_cons, List.length_map, List.length_range]
 rfl
theorem rowI_at (a : Int) (k i : Nat) (h : i < k + 2) : (rowI a k)[i]? = some (if i = 0\/i = k + 1 then 0 else a + ((i : Nat) : Int) - 1):=by
 unfold rowI
 cases i with
 | zero=>rfl
 | succ i =>
  by_cases hi : i < k
  ·rw [List.getElem?_append_left (by rw [List.length_cons, List.length_map, List.length_range]; omega), List.getElem?_cons_succ, List.getElem?_map, List.getElem?_range hi, if_neg (by omega)]
   show some (a + ((i : Nat) : Int)) = some (a + ((i + 1 : Nat) : Int) - 1)
   congr 1
   omega
  ·have : i = k:=by omega
   subst this
   rw [List.getElem?_append_right (by rw [List.length_cons, List.length_map, List.length_range]; omega), if_pos (.inr rfl)]
   rw [List.length_cons, List.length_map, List.length_range, Nat.sub_self]
   rfl
theorem rowI_atI (a : Int) (k : Nat) (j : Int) (h0 : 0<=j) (h : j < k + 2) : atI ((rowI a k).map PyData.int) j = some (.int (if j = 0\/j = k + 1 then 0 else a + j - 1)):=by
 obtain ⟨i, rfl⟩:=Int.eq_ofNat_of_zero_le h0
 refine atI_nat ?_
 rw [List.getElem?_map, rowI_at a k i (by omega)]
 show some (PyData.int _) = some (PyData.int _)
 congr 2
 by_cases c : i = 0\/i = k + 1
 ·rw [if_pos c, if_pos (by omega)]
 ·rw [if_neg c, if_neg (by omega)]
section
variable {P : Program} {w : World} {K : PySem.W.Frag} {mg : Str->Option Value} {base : Heap} {f : Addr} {fd : FuncData}
theorem sc_law_rings : FnScope ["_law_pen_here", "_law_n", "_law_found", "_law_at", "_law_row"] ["_law_pen_here", "_law_n"] (defScope (top 36)):=⟨rfl, rfl, rfl, by decide +kernel, rfl, by decide +kernel, by decide +kernel⟩
theorem nd_law_rings_0 : (["_law_k", "_law_pen_here", "_law_n", "_law_found", "_law_at", "_law_row"] : List Str).Nodup:=by decide +kernel
theorem ok_law_rings (F : Fun K "_law_rings" "_law_rings" (top 36) f fd) (B : Dl.Bn mg) (C__law_take : Dl.Cal P w K mg base 1 "_law_take" ["_law_pen_here", "_law_many"] (spP (CP K) fDraw)) : FnOk P w K mg base CX0 2 f fd ["_law_pen_here", "_law_n"] (spP (CP K) fRings):=by
 refine F.ok sc_law_rings (len_spP fun ds P h=>?len) (fun cdv A outer s H vs Q E hr h=>?_)
 case len=>(first | (obtain ⟨_, rfl, _⟩:=h; rfl) | (obtain ⟨_, _, rfl, _⟩:=h; rfl) | (obtain ⟨_, _, _, rfl, _⟩:=h; rfl) | (obtain ⟨_, _, _, _, rfl, _⟩:=h; rfl) | (obtain ⟨_, _, _, _, _, rfl, _⟩:=h; rfl) | (obtain ⟨_, _, _, _, _, _, rfl, _⟩:=h; rfl) | (obtain ⟨rfl, _⟩:=h; rfl))
 have nd:=sc_law_rings.nd
 refine ⟨_, Wr.WDSs.h (Wr.ds_cons (Wr.ds_set none (i:=2) nd rfl (by first | exact Or.inl rfl | exact Or.inr rfl) (Wr.pd_list Wr.pda_nil))
  (Wr.ds_cons (Wr.ds_set none (i:=3) nd rfl (by first | exact Or.inl rfl | exact Or.inr rfl) Wr.pd_int)
  (Wr.ds_cons (Wr.ds_while PassesOwn.never (Wr.pdt_lt (Wr.dv 3) (Wr.dv 1)) (Wr.ds_cons (Wr.ds_set none (i:=4) nd rfl (by first | exact Or.inl rfl | exact Or.inr rfl) (Wr.pd_plus (Wr.pd_plus (Wr.pd_list (Wr.pda_cons Wr.pd_int Wr.pda_nil)) (Wr.pd_lrange2 rfl B.list B.range (Wr.pda_cons (Wr.dv 3) (Wr.pda_cons (Wr.pd_min2 rfl B.min (Wr.pda_cons (Wr.dv 1) (Wr.pda_cons (Wr.pd_plus (Wr.pd_plus (Wr.dv 3) Wr.pd_int) (Wr.dcP C__law_take hr (Wr.wv 0) (Wr.pda_cons Wr.pd_int Wr.pda_nil))) Wr.pda_nil))) Wr.pda_nil)))) (Wr.pd_list (Wr.pda_cons Wr.pd_int Wr.pda_nil))))
  (Wr.ds_cons (Wr.ds_set none (i:=2) nd rfl (by first | exact Or.inl rfl | exact Or.inr rfl) (Wr.pd_plus (Wr.dv 2) (Wr.pd_lc ["_law_k"] rfl (Wr.di_range1 B.range (Wr.pda_cons (Wr.pd_sub (Wr.pd_len B.len (Wr.pda_cons (Wr.dv 4) Wr.pda_nil)) Wr.pd_int) Wr.pda_nil)) (fun c=>(Wr.dg_name (i:=0) nd_law_rings_0 rfl (by first | exact Or.inl rfl | exact Or.inr rfl))) (fun c=>Wr.dts_nil) (fun c=>(Wr.pd_tuple (Wr.pda_cons (Wr.pd_ix (Wr.dv 5) (Wr.dv 0)) (Wr.pda_cons (Wr.pd_ix (Wr.dv 5) (Wr.pd_plus (Wr.dv 0) Wr.pd_int)) Wr.pda_nil)))))))
  (Wr.ds_cons (Wr.ds_set none (i:=3) nd rfl (by first | exact Or.inl rfl | exact Or.inr rfl) (Wr.pd_sub (Wr.pd_plus (Wr.dv 3) (Wr.pd_len B.len (Wr.pda_cons (Wr.dv 4) Wr.pda_nil))) Wr.pd_int)) (Wr.ds_drops [4] Wr.ds_nil)))))
  (Wr.ds_drops [3, 4] (Wr.ds_one (Wr.ds_ret (Wr.dv 2))))))), enterQ h ?_⟩
 rintro ds P ⟨n, rfl, n1, n16, q⟩
 refine ⟨[.im (.int n), .any, .any, .any], rfl, ?_⟩
 refine ⟨(show 0<=1000 by decide), fun m ρ=>∃ (us : List Tie) (a : Int), ρ = [.pen (CP K), .im (.int n), .sn (.list (us.map pD)), .im (.int a), .any]/\1<=a/\a<=n/\OkN n us/\((us.length : Nat) : Int)<=2 * (a - 1)/\m = (n - a).toNat, ⟨_, [], 1, rfl, by omega, n1, fun _ h=>(nomatch h), by decide, rfl⟩, ?_⟩
 rintro m ρ ⟨us, a, rfl, a1, an, ok, lu, rfl⟩
 show if decide (a < n) = true then _ else _
 refine ite2 (fun c=>?_) (fun c=>⟨rfl, q us ok (by omega)⟩)
 have c:=of_decide_eq_true c
 refine ⟨(show 1<=1000 by decide), rfl, 4, rfl, by decide, by decide, fun r r0 r1=>?_⟩
 obtain ⟨m, em, m0, m1⟩ : ∃ m : Int, (if a + 1 + r < n then a + 1 + r else n) = m/\a < m/\m<=n:=by
  by_cases h : a + 1 + r < n
  ·exact ⟨_, if_pos h, by omega, by omega⟩
  ·exact ⟨_, if_neg h, by omega, by omega⟩
 have lk : (intsD a ((if a + 1 + r < n then a + 1 + r else n) - a).toNat).length = ((if a + 1 + r < n then a + 1 + r else n) - a).toNat:=by unfold intsD; rw [List.length_map, List.length_range]
 have hb : -1000<=(if a + 1 + r < n then a + 1 + r else n)/\(if a + 1 + r < n then a + 1 + r else n)<=1000:=by rw [em]; omega
 have l1 : [PyData.int 0].length + (intsD a ((if a + 1 + r < n then a + 1 + r else n) - a).toNat).length<=1000:=by rw [lk, em]; show 1 + _<=_; omega
 have l2 : ([PyData.int 0] ++ intsD a ((if a + 1 + r < n then a + 1 + r else n) - a).toNat).length + [PyData.int 0].length<=1000:=by rw [List.length_append, lk, em]; show 1 + _ + 1<=_; omega
 refine ⟨⟨by omega, by omega, hb.1, hb.2⟩, l1, .inl ⟨imm_row0 _ _, (show 1<=1000 by decide), l2, .inl ⟨imm_row _ _, ?_⟩⟩⟩
 show dSeq _ _ _ [.pen (CP K), .im (.int n), .sn (.list (us.map pD)), .im (.int a), .sn (.list ([PyData.int 0] ++ intsD a ((if a + 1 + r < n then a + 1 + r else n) - a).toNat ++ [PyData.int 0]))]
 rw [em, row_eq]
 have k1 : 1<=(m - a).toNat:=by omega
 have kI : ((m - a).toNat : Int) = m - a:=by omega
 generalize (m - a).toNat = k at k1 kI
 have lr : ((rowI a k).map PyData.int).length = k + 2:=by rw [List.length_map, rowI_len]
 refine ⟨⟨by rw [lr]; omega, by rw [lr]; omega⟩, by rw [len_intsD, lr]; omega, .imm, fun i ys=>∃ vs : List Tie, ys = vs.map pD/\vs.length = i/\OkN n vs, ⟨[], rfl, rfl, fun _ h=>(nomatch h)⟩, ?_, ?_⟩
 ·rintro i d ys hd ⟨vs, rfl, hv, okv⟩
  obtain ⟨hi, rfl⟩:=intsD_get hd
  rw [lr] at hi
  have hi : i<=k:=by omega
  have e1:=rowI_atI a k (0 + ((i : Nat) : Int)) (by omega) (by omega)
  have e2:=rowI_atI a k (0 + ((i : Nat) : Int) + 1) (by omega) (by omega)
  refine iteT (B:=True) ⟨_, e1, _, e2, (show 2<=1000 by decide), rfl, vs ++ [(_, _)], app1 _ _ _, by rw [List.length_append, List.length_singleton, hv], okv.snoc ?_⟩
  unfold OkT
  dsimp only
  split <;> split <;> omega
 rintro ys ⟨vs, rfl, hv, okv⟩
 rw [len_intsD, lr] at hv
 have hv : vs.length = k + 1:=by omega
 have ll : (us.map pD).length + (vs.map pD).length<=1000:=by rw [List.length_map, List.length_map]; omega
 refine ⟨ll, .inl ⟨by rw [← List.map_append]; exact imm_pairs _, ?_⟩⟩
 have la : ((us ++ vs).length : Nat)<=us.length + vs.length:=by rw [List.length_append]; omega
 refine ⟨(n - (a + ((k + 2 : Nat) : Int) - 2)).toNat, by omega, us ++ vs, a + ((k + 2 : Nat) : Int) - 2, ?_, by omega, by omega, ok.app okv, by omega, rfl⟩
 show ([_, _, Sl.sn (.list (us.map pD ++ vs.map pD)), Sl.im (.int (a + ((((rowI a k).map PyData.int).length : Nat) : Int) - 2)), _] : List Sl) = _
 rw [← List.map_append, lr]
theorem sc_law_shape : FnScope ["_law_pen_here", "_law_n", "_law_kind", "_law_found", "_law_cut"] ["_law_pen_here", "_law_n"] (defScope (top 37)):=⟨rfl, rfl, rfl, by decide +kernel, rfl, by decide +kernel, by decide +kernel⟩
theorem nd_law_shape_0 : (["_law_k", "_law_pen_here", "_law_n", "_law_kind", "_law_found", "_law_cut"] : List Str).Nodup:=by decide +kernel
theorem nd_law_shape_1 : (["_law_tie", "_law_pen_here", "_law_n", "_law_kind", "_law_found", "_law_cut"] : List Str).Nodup:=by decide +kernel
theorem ok_law_shape (F : Fun K "_law_shape" "_law_shape" (top 37) f fd) (B : Dl.Bn mg) (C__law_take : Dl.Cal P w K mg base 1 "_law_take" ["_law_pen_here", "_law_many"] (spP (CP K) fDraw)) (C__law_rings : Dl.Cal P w K mg base 2 "_law_rings" ["_law_pen_here", "_law_n"] (spP (CP K) fRings)) (C__law_any : Dl.Cal P w K mg base 2 "_law_any" ["_law_pen_here", "_law_n", "_law_many"] (spP (CP K) fAny)) : FnOk P w K mg base CX0 3 f fd ["_law_pen_here", "_law_n"] (spP (CP K) fShape):=by
 refine F.ok sc_law_shape (len_spP fun ds P h=>?len) (fun cdv A outer s H vs Q E hr h=>?_)
 case len=>(first | (obtain ⟨_, rfl, _⟩:=h; rfl) | (obtain ⟨_, _, rfl, _⟩:=h; rfl) | (obtain ⟨_, _, _, rfl, _⟩:=h; rfl) | (obtain ⟨_, _, _, _, rfl, _⟩:=h; rfl) | (obtain ⟨_, _, _, _, _, rfl, _⟩:=h; rfl) | (obtain ⟨_, _, _, _, _, _, rfl, _⟩:=h; rfl) | (obtain ⟨rfl, _⟩:=h; rfl))
 have nd:=sc_law_shape.nd
 refine ⟨_, Wr.WDSs.h (Wr.ds_cons (Wr.ds_set none (i:=2) nd rfl (by first | exact Or.inl rfl | exact Or.inr rfl) (Wr.dcP C__law_take hr (Wr.wv 0) (Wr.pda_cons Wr.pd_int Wr.pda_nil)))
  (Wr.ds_cons (Wr.ds_if (Wr.wpt (Wr.pdw_or (Wr.pdt_eqA hr.units (Wr.dv 2) Wr.pd_int) (Wr.pdw_or1 (Wr.pdt_eqA hr.units (Wr.dv 2) Wr.pd_int)))) (Wr.ds_cons (Wr.ds_setlc none ["_law_k"] (i:=3) rfl nd rfl (by first | exact Or.inl rfl | exact Or.inr rfl) (Wr.di_range2 B.range (Wr.pda_cons Wr.pd_int (Wr.pda_cons (Wr.dv 1) Wr.pda_nil))) (fun c=>(Wr.dg_name (i:=0) nd_law_shape_0 rfl (by first | exact Or.inl rfl | exact Or.inr rfl))) (fun c=>Wr.dts_nil) (fun c=>(Wr.pd_tuple (Wr.pda_cons (Wr.dcP C__law_take hr (Wr.wv 1) (Wr.pda_cons (Wr.dv 0) Wr.pda_nil)) (Wr.pda_cons (Wr.dv 0) Wr.pda_nil)))))
  (Wr.ds_one (Wr.ds_ret (Wr.pd_plus (Wr.dv 3) (Wr.pd_lc ["_law_tie"] rfl (Wr.di_seq (Wr.dv 3)) (fun c=>(Wr.dg_name (i:=0) nd_law_shape_1 rfl (by first | exact Or.inl rfl | exact Or.inr rfl))) (fun c=>(Wr.dts_one (Wr.wpt (Wr.pdw_and (Wr.pdt_eqA hr.units (Wr.dv 3) Wr.pd_int) (Wr.pdw_and1 (Wr.pdt_eqA hr.units (Wr.dcP C__law_take hr (Wr.wv 1) (Wr.pda_cons Wr.pd_int Wr.pda_nil)) Wr.pd_int)))))) (fun c=>(Wr.dv 0))))))) Wr.ds_nil)
  (Wr.ds_drops [3] (Wr.ds_cons (Wr.ds_if (Wr.pdt_eqA hr.units (Wr.dv 2) Wr.pd_int) (Wr.ds_one (Wr.ds_ret (Wr.pd_lc ["_law_k"] rfl (Wr.di_range2 B.range (Wr.pda_cons Wr.pd_int (Wr.pda_cons (Wr.dv 1) Wr.pda_nil))) (fun c=>(Wr.dg_name (i:=0) nd_law_shape_0 rfl (by first | exact Or.inl rfl | exact Or.inr rfl))) (fun c=>Wr.dts_nil) (fun c=>(Wr.pd_tuple (Wr.pda_cons (Wr.pd_sub (Wr.dv 0) Wr.pd_int) (Wr.pda_cons (Wr.dv 0) Wr.pda_nil))))))) Wr.ds_nil)
  (Wr.ds_cons (Wr.ds_if (Wr.pdt_eqA hr.units (Wr.dv 2) Wr.pd_int) (Wr.ds_cons (Wr.ds_set none (i:=4) nd rfl (by first | exact Or.inl rfl | exact Or.inr rfl) (Wr.pd_plus Wr.pd_int (Wr.dcP C__law_take hr (Wr.wv 0) (Wr.pda_cons (Wr.dv 1) Wr.pda_nil))))
  (Wr.ds_cons (Wr.ds_set none (i:=3) nd rfl (by first | exact Or.inl rfl | exact Or.inr rfl) (Wr.pd_plus (Wr.pd_lc ["_law_k"] rfl (Wr.di_range2 B.range (Wr.pda_cons Wr.pd_int (Wr.pda_cons (Wr.dv 4) Wr.pda_nil))) (fun c=>(Wr.dg_name (i:=0) nd_law_shape_0 rfl (by first | exact Or.inl rfl | exact Or.inr rfl))) (fun c=>Wr.dts_nil) (fun c=>(Wr.pd_tuple (Wr.pda_cons (Wr.pd_sub (Wr.dv 0) Wr.pd_int) (Wr.pda_cons (Wr.dv 0) Wr.pda_nil))))) (Wr.pd_lc ["_law_k"] rfl (Wr.di_range2 B.range (Wr.pda_cons (Wr.dv 4) (Wr.pda_cons (Wr.dv 1) Wr.pda_nil))) (fun c=>(Wr.dg_name (i:=0) nd_law_shape_0 rfl (by first | exact Or.inl rfl | exact Or.inr rfl))) (fun c=>Wr.dts_nil) (fun c=>(Wr.pd_tuple (Wr.pda_cons (Wr.dcP C__law_take hr (Wr.wv 1) (Wr.pda_cons (Wr.dv 0) Wr.pda_nil)) (Wr.pda_cons (Wr.dv 0) Wr.pda_nil)))))))
  (Wr.ds_one (Wr.ds_ret (Wr.pd_plus (Wr.dv 3) (Wr.pd_times (Wr.pd_list (Wr.pda_cons (Wr.pd_tuple (Wr.pda_cons (Wr.pd_sub (Wr.dv 4) Wr.pd_int) (Wr.pda_cons Wr.pd_int Wr.pda_nil))) Wr.pda_nil)) (Wr.pd_intC B.int boot_int (Wr.pda_cons (Wr.pd_gt (Wr.dv 4) Wr.pd_int) Wr.pda_nil)))))))) Wr.ds_nil)
  (Wr.ds_drops [3, 4] (Wr.ds_cons (Wr.ds_if (Wr.pdt_eqA hr.units (Wr.dv 2) Wr.pd_int) (Wr.ds_one (Wr.ds_ret (Wr.dcP C__law_rings hr (Wr.wv 0) (Wr.pda_cons (Wr.dv 1) Wr.pda_nil)))) Wr.ds_nil)
  (Wr.ds_cons (Wr.ds_if (Wr.pdt_eqA hr.units (Wr.dv 2) Wr.pd_int) (Wr.ds_cons (Wr.ds_set none (i:=4) nd rfl (by first | exact Or.inl rfl | exact Or.inr rfl) (Wr.dcP C__law_take hr (Wr.wv 0) (Wr.pda_cons (Wr.dv 1) Wr.pda_nil)))
  (Wr.ds_one (Wr.ds_ret (Wr.pd_lc ["_law_k"] rfl (Wr.di_range2 B.range (Wr.pda_cons Wr.pd_int (Wr.pda_cons (Wr.dv 1) Wr.pda_nil))) (fun c=>(Wr.dg_name (i:=0) nd_law_shape_0 rfl (by first | exact Or.inl rfl | exact Or.inr rfl))) (fun c=>(Wr.dts_one (Wr.pdt_neA hr.units (Wr.dv 0) (Wr.dv 5)))) (fun c=>(Wr.pd_tuple (Wr.pda_cons (Wr.dcP C__law_take hr (Wr.wv 1) (Wr.pda_cons (Wr.dv 0) Wr.pda_nil)) (Wr.pda_cons (Wr.dv 0) Wr.pda_nil)))))))) Wr.ds_nil)
  (Wr.ds_drops [4] (Wr.ds_one (Wr.ds_ret (Wr.dcP C__law_any hr (Wr.wv 0) (Wr.pda_cons (Wr.dv 1) (Wr.pda_cons (Wr.pd_ix (Wr.pd_list (Wr.pda_cons (Wr.dcP C__law_take hr (Wr.wv 0) (Wr.pda_cons Wr.pd_int Wr.pda_nil)) (Wr.pda_cons (Wr.pd_times Wr.pd_int (Wr.dv 1)) Wr.pda_nil))) (Wr.pd_sub (Wr.dv 2) Wr.pd_int)) Wr.pda_nil)))))))))))))), enterQ h ?_⟩
 rintro ds P ⟨n, rfl, n1, n16, q⟩
 refine ⟨[.im (.int n), .any, .any, .any], rfl, ?_⟩
 refine ⟨rfl, 8, rfl, by decide, by decide, fun kd k0 k8=>?_⟩
 refine or2 (a:=decide (kd = 0)) (b:=decide (kd = 7)) (fun c=>?_) (fun c0 c7=>?_)
 ·have l0 : (intsD 1 (n - 1).toNat).length = (n - 1).toNat:=by unfold intsD; rw [List.length_map, List.length_range]
  refine ⟨⟨by omega, by omega, by omega, by omega⟩, by rw [l0]; omega, .imm, fun i ys=>∃ vs : List Tie, ys = vs.map pD/\vs.length = i/\OkN n vs, ⟨[], rfl, rfl, fun _ h=>(nomatch h)⟩, ?_, ?_⟩
  ·rintro i d ys hd ⟨vs, rfl, hv, okv⟩
   obtain ⟨hi, rfl⟩:=intsD_get hd
   refine iteT (B:=True) ⟨rfl, _, rfl, by omega, by omega, fun r r0 r1=>⟨(show 2<=1000 by decide), rfl, vs ++ [(r, _)], app1 _ _ _, by rw [List.length_append, List.length_singleton, hv], okv.snoc (.lt r0 r1 (by omega))⟩⟩
  rintro ys ⟨vs, rfl, hv, okv⟩
  rw [l0] at hv
  have lv : (vs.map pD).length = vs.length:=List.length_map ..
  refine ⟨by rw [lv]; omega, .imm, fun i ys=>∃ ws : List Tie, ys = ws.map pD/\ws.length<=i/\OkN n ws, ⟨[], rfl, Nat.le_refl _, fun _ h=>(nomatch h)⟩, ?_, ?_⟩
  ·rintro i d ys hd ⟨ws, rfl, hw, okw⟩
   obtain ⟨t, ht, rfl⟩:=map_get hd
   show if decide (kd = 7) = true then _ else _
   refine ite2 (fun c=>⟨rfl, 2, rfl, by decide, by decide, fun r r0 r1=>?_⟩) (fun c=>iteF (A:=True) ⟨ws, rfl, by omega, okw⟩)
   show if decide (r = 0) = true then _ else _
   refine ite2 (fun c=>⟨rfl, ws ++ [t], ?_, by rw [List.length_append, List.length_singleton]; omega, okw.snoc (okv t (List.mem_of_getElem? ht))⟩) (fun c=>⟨ws, rfl, by omega, okw⟩)
   rw [List.map_append]; rfl
  rintro ys ⟨ws, rfl, hw, okw⟩
  rw [lv] at hw
  have lw : (ws.map pD).length = ws.length:=List.length_map ..
  refine ⟨by rw [lv, lw]; omega, .inl ⟨by rw [← List.map_append]; exact imm_pairs _, ?_⟩⟩
  rw [← List.map_append]
  exact ⟨rfl, q _ (okv.app okw) (by rw [List.length_append]; omega)⟩
 have c0:=of_decide_eq_false c0
 have c7:=of_decide_eq_false c7
 show if decide (kd = 1) = true then _ else _
 refine ite2 (fun c=>?_) (fun c1=>?_)
 ·have l0 : (intsD 1 (n - 1).toNat).length = (n - 1).toNat:=by unfold intsD; rw [List.length_map, List.length_range]
  refine ⟨⟨by omega, by omega, by omega, by omega⟩, by rw [l0]; omega, .imm, fun i ys=>∃ vs : List Tie, ys = vs.map pD/\vs.length = i/\OkN n vs, ⟨[], rfl, rfl, fun _ h=>(nomatch h)⟩, ?_, ?_⟩
  ·rintro i d ys hd ⟨vs, rfl, hv, okv⟩
   obtain ⟨hi, rfl⟩:=intsD_get hd
   exact iteT (B:=True) ⟨(show 2<=1000 by decide), rfl, vs ++ [(_, _)], app1 _ _ _, by rw [List.length_append, List.length_singleton, hv], okv.snoc (.lt (by omega) (by omega) (by omega))⟩
  rintro ys ⟨vs, rfl, hv, okv⟩
  rw [l0] at hv
  exact ⟨rfl, q _ okv (by omega)⟩
 have c1 : ¬ kd = 1:=fun z=>c1 (decide_eq_true z)
 show if decide (kd = 2) = true then _ else _
 refine ite2 (fun c=>?_) (fun c2=>?_)
 ·refine ⟨rfl, n, rfl, by omega, by omega, fun x x0 x1=>?_⟩
  have y0 : 1<=1 + x:=by omega
  have y1 : 1 + x<=n:=by omega
  show dSet 4 none (fun _ P=>P .imm (.int (1 + x))) _ _
  generalize 1 + x = y at y0 y1
  have l0 : (intsD 1 (y - 1).toNat).length = (y - 1).toNat:=by unfold intsD; rw [List.length_map, List.length_range]
  refine ⟨⟨by omega, by omega, by omega, by omega⟩, by rw [l0]; omega, .imm, fun i ys=>∃ vs : List Tie, ys = vs.map pD/\vs.length = i/\OkN n vs, ⟨[], rfl, rfl, fun _ h=>(nomatch h)⟩, ?_, ?_⟩
  ·rintro i d ys hd ⟨vs, rfl, hv, okv⟩
   obtain ⟨hi, rfl⟩:=intsD_get hd
   exact iteT (B:=True) ⟨(show 2<=1000 by decide), rfl, vs ++ [(_, _)], app1 _ _ _, by rw [List.length_append, List.length_singleton, hv], okv.snoc (.lt (by omega) (by omega) (by omega))⟩
  rintro ys ⟨vs, rfl, hv, okv⟩
  rw [l0] at hv
  have l1 : (intsD y (n - y).toNat).length = (n - y).toNat:=by unfold intsD; rw [List.length_map, List.length_range]
  refine ⟨⟨by omega, by omega, by omega, by omega⟩, by rw [l1]; omega, .imm, fun i ys=>∃ vs : List Tie, ys = vs.map pD/\vs.length = i/\OkN n vs, ⟨[], rfl, rfl, fun _ h=>(nomatch h)⟩, ?_, ?_⟩
  ·rintro i d ys hd ⟨vs, rfl, hv, okv⟩
   obtain ⟨hi, rfl⟩:=intsD_get hd
   refine iteT (B:=True) ⟨rfl, _, rfl, by omega, by omega, fun r r0 r1=>⟨(show 2<=1000 by decide), rfl, vs ++ [(r, _)], app1 _ _ _, by rw [List.length_append, List.length_singleton, hv], okv.snoc (.lt r0 r1 (by omega))⟩⟩
  rintro ys ⟨ws, rfl, hw, okw⟩
  rw [l1] at hw
  have lv : (vs.map pD).length = vs.length:=List.length_map ..
  have lw : (ws.map pD).length = ws.length:=List.length_map ..
  refine ⟨by rw [lv, lw]; omega, .inl ⟨by rw [← List.map_append]; exact imm_pairs _, ?_⟩⟩
  have okx:=okv.app okw
  have lx : (vs ++ ws).length<=15:=by rw [List.length_append]; omega
  rw [← List.map_append]
  generalize vs ++ ws = xs at okx lx
  have lxs : (xs.map pD).length = xs.length:=List.length_map ..
  refine ⟨(show 2<=1000 by decide), (show 1<=1000 by decide), ?_⟩
  obtain ⟨zs, hz, lz, okz⟩:=rep01 (decide (1 < y)) (y - 1, 0)
  have e01:=rep01b (decide (1 < y)) (y - 1, 0)
  have hl : (xs.map pD).length + (List.replicate (if decide (1 < y) = true then (1 : Int) else 0).toNat [pD (y - 1, 0)]).flatten.length<=1000:=by rw [hz, List.length_map, List.length_map]; omega
  have hi : immDs (xs.map pD ++ (List.replicate (if decide (1 < y) = true then (1 : Int) else 0).toNat [pD (y - 1, 0)]).flatten) = true:=by rw [hz, ← List.map_append]; exact imm_pairs _
  refine ⟨e01.1, e01.2.1, e01.2.2, .inl ⟨(congrArg immDs hz).trans (imm_pairs _), hl, .inl ⟨hi, rfl, ?_⟩⟩⟩
  show P (.list (xs.map pD ++ (List.replicate (if decide (1 < y) = true then (1 : Int) else 0).toNat [pD (y - 1, 0)]).flatten))
  rw [hz, ← List.map_append]
  refine q _ (okx.app fun z h=>?_) (by rw [List.length_append]; omega)
  obtain ⟨rfl, hb⟩:=okz z h
  have hb:=of_decide_eq_true hb
  unfold OkT
  dsimp only
  omega
 have c2 : ¬ kd = 2:=fun z=>c2 (decide_eq_true z)
 show if decide (kd = 3) = true then _ else _
 refine ite2 (fun c=>?_) (fun c3=>?_)
 ·exact ⟨rfl, n, rfl, n1, by omega, fun us ok l=>⟨rfl, q us ok (by omega)⟩⟩
 have c3 : ¬ kd = 3:=fun z=>c3 (decide_eq_true z)
 show if decide (kd = 4) = true then _ else _
 refine ite2 (fun c=>?_) (fun c4=>?_)
 ·refine ⟨rfl, n, rfl, by omega, by omega, fun x x0 x1=>?_⟩
  have l0 : (intsD 1 (n - 1).toNat).length = (n - 1).toNat:=by unfold intsD; rw [List.length_map, List.length_range]
  refine ⟨⟨by omega, by omega, by omega, by omega⟩, by rw [l0]; omega, .imm, fun i ys=>∃ vs : List Tie, ys = vs.map pD/\vs.length<=i/\OkN n vs, ⟨[], rfl, Nat.le_refl _, fun _ h=>(nomatch h)⟩, ?_, ?_⟩
  ·rintro i d ys hd ⟨vs, rfl, hv, okv⟩
   obtain ⟨hi, rfl⟩:=intsD_get hd
   show if (!decide (1 + ((i : Nat) : Int) = x)) = true then _ else _
   refine ite2 (fun c=>⟨rfl, _, rfl, by omega, by omega, fun r r0 r1=>⟨(show 2<=1000 by decide), rfl, vs ++ [(r, _)], app1 _ _ _, by rw [List.length_append, List.length_singleton]; omega, okv.snoc (.lt r0 r1 (by omega))⟩⟩) (fun c=>⟨vs, rfl, by omega, okv⟩)
  rintro ys ⟨vs, rfl, hv, okv⟩
  rw [l0] at hv
  exact ⟨rfl, q _ okv (by omega)⟩
 have c4 : ¬ kd = 4:=fun z=>c4 (decide_eq_true z)
 refine ⟨rfl, rfl, 4, rfl, by decide, by decide, fun r r0 r1=>⟨.inr ⟨by omega, by omega⟩, (show 2<=1000 by decide), ?_⟩⟩
 obtain ⟨m, hm, m0, m1⟩ : ∃ m : Int, atI [PyData.int r, .int (2 * n)] (kd - 5) = some (.int m)/\0<=m/\m<=18:=by
  rcases (by omega : kd = 5\/kd = 6) with rfl | rfl
  ·exact ⟨r, rfl, r0, by omega⟩
  ·exact ⟨2 * n, rfl, by omega, by omega⟩
 exact ⟨.int m, hm, n, m, rfl, n1, by omega, m0, by omega, fun us ok l=>⟨rfl, q us ok (by omega)⟩⟩
end
noncomputable def fTies (ds : List D) (P : D->Prop) : Prop:=∃ n : Int, ds = [.int n]/\1<=n/\n<=9/\∀ us : List Tie, OkN n us->us.length<=23->P (.list (us.map pD))
theorem ord_at {n : Int} {l : List Int} (h : IsOrd n l) {a : Int} (h0 : 0<=a) (h1 : a < n) : ∃ x : Int, atI (l.map PyData.int) a = some (.int x)/\(0<=x/\x < n)/\l[a.toNat]? = some x:=by
 have hl:=h.len
 have hk : a.toNat < l.length:=by omega
 have ek : a = ((a.toNat : Nat) : Int):=by omega
 have z : atI (l.map PyData.int) ((a.toNat : Nat) : Int) = some (.int l[a.toNat]):=atI_nat (by rw [List.getElem?_map, List.getElem?_eq_getElem hk]; rfl)
 rw [← ek] at z
 exact ⟨_, z, h.rng _ (List.getElem_mem hk), List.getElem?_eq_getElem hk⟩
theorem tie_at {us : List Tie} {a : Int} (h0 : 0<=a) (h1 : a < ((us.length : Nat) : Int)) : ∃ t, atI (us.map pD) a = some (pD t)/\us[a.toNat]? = some t:=by
 have hk : a.toNat < us.length:=by omega
 have ek : a = ((a.toNat : Nat) : Int):=by omega
 have z : atI (us.map pD) ((a.toNat : Nat) : Int) = some (pD us[a.toNat]):=atI_nat (by rw [List.getElem?_map, List.getElem?_eq_getElem hk]; rfl)
 rw [← ek] at z
 exact ⟨_, z, List.getElem?_eq_getElem hk⟩
theorem OkT.swap {n : Int} {t : Tie} (h : OkT n t) : OkT n (t.2, t.1):=⟨h.2.1, h.1, fun z=>h.2.2 z.symm⟩
theorem okD_ties (us : List Tie) : okD (.list (us.map pD)) = true:=okD_list fun x hx=>by
 obtain ⟨t, _, rfl⟩:=List.mem_map.mp hx
 exact ⟨rfl, by show max 0 (max 0 0) + 1<=50; decide⟩
theorem cut40 (us : List Tie) : cutL (us.map pD) none (some 40) = (us.take 40).map pD:=by
 unfold cutL
 have e1 : HT.sIx (us.map pD).length 0 none = 0:=rfl
 have e2 : HT.sIx (us.map pD).length (us.map pD).length (some 40) = min 40 (us.map pD).length:=HT.sIx_nat _ _ 40
 rw [e1, e2, List.drop_zero, Nat.sub_zero, List.length_map]
 by_cases h : us.length<=40
 ·rw [Nat.min_eq_right h, List.take_of_length_le (by rw [List.length_map]; exact Nat.le_refl _), List.take_of_length_le h]
 ·rw [Nat.min_eq_left (by omega), List.map_take]
section
variable {P : Program} {w : World} {K : PySem.W.Frag} {mg : Str->Option Value} {base : Heap} {f : Addr} {fd : FuncData}
theorem sc_law_ties : FnScope ["_law_pen_here", "_law_n", "_law_order_here", "_law_found"] ["_law_pen_here", "_law_n"] (defScope (top 38)):=⟨rfl, rfl, rfl, by decide +kernel, rfl, by decide +kernel, by decide +kernel⟩
theorem nd_law_ties_0 : (["_law_a", "_law_b", "_law_pen_here", "_law_n", "_law_order_here", "_law_found"] : List Str).Nodup:=by decide +kernel
theorem ok_law_ties (F : Fun K "_law_ties" "_law_ties" (top 38) f fd) (B : Dl.Bn mg) (C__law_order : Dl.Cal P w K mg base 2 "_law_order" ["_law_pen_here", "_law_n"] (spP (CP K) fOrder)) (C__law_shape : Dl.Cal P w K mg base 3 "_law_shape" ["_law_pen_here", "_law_n"] (spP (CP K) fShape)) (C__law_any : Dl.Cal P w K mg base 2 "_law_any" ["_law_pen_here", "_law_n", "_law_many"] (spP (CP K) fAny)) (C__law_take : Dl.Cal P w K mg base 1 "_law_take" ["_law_pen_here", "_law_many"] (spP (CP K) fDraw)) : FnOk P w K mg base CX0 4 f fd ["_law_pen_here", "_law_n"] (spP (CP K) fTies):=by
 refine F.ok sc_law_ties (len_spP fun ds P h=>?len) (fun cdv A outer s H vs Q E hr h=>?_)
 case len=>(first | (obtain ⟨_, rfl, _⟩:=h; rfl) | (obtain ⟨_, _, rfl, _⟩:=h; rfl) | (obtain ⟨_, _, _, rfl, _⟩:=h; rfl) | (obtain ⟨_, _, _, _, rfl, _⟩:=h; rfl) | (obtain ⟨_, _, _, _, _, rfl, _⟩:=h; rfl) | (obtain ⟨_, _, _, _, _, _, rfl, _⟩:=h; rfl) | (obtain ⟨rfl, _⟩:=h; rfl))
 have nd:=sc_law_ties.nd
 refine ⟨_, Wr.WDSs.h (Wr.ds_cons (Wr.ds_set none (i:=2) nd rfl (by first | exact Or.inl rfl | exact Or.inr rfl) (Wr.dcP C__law_order hr (Wr.wv 0) (Wr.pda_cons (Wr.dv 1) Wr.pda_nil)))
  (Wr.ds_cons (Wr.ds_set (some 0) (i:=3) nd rfl (by first | exact Or.inl rfl | exact Or.inr rfl) (Wr.pd_plus (Wr.dcP C__law_shape hr (Wr.wv 0) (Wr.pda_cons (Wr.dv 1) Wr.pda_nil)) (Wr.dcP C__law_any hr (Wr.wv 0) (Wr.pda_cons (Wr.dv 1) (Wr.pda_cons (Wr.dcP C__law_take hr (Wr.wv 0) (Wr.pda_cons Wr.pd_int Wr.pda_nil)) Wr.pda_nil)))))
  (Wr.ds_cons (Wr.ds_if (Wr.wpt (Wr.pdw_and (Wr.pdt_neA hr.units (Wr.dv 3) (Wr.pd_list Wr.pda_nil)) (Wr.pdw_and1 (Wr.pdt_eqA hr.units (Wr.dcP C__law_take hr (Wr.wv 0) (Wr.pda_cons Wr.pd_int Wr.pda_nil)) Wr.pd_int)))) (Wr.ds_one (Wr.ds_append (Wr.wv 3) (Wr.pda_cons (Wr.pd_ix (Wr.dv 3) (Wr.dcP C__law_take hr (Wr.wv 0) (Wr.pda_cons (Wr.pd_len B.len (Wr.pda_cons (Wr.dv 3) Wr.pda_nil)) Wr.pda_nil))) Wr.pda_nil))) Wr.ds_nil)
  (Wr.ds_cons (Wr.ds_setlc (some 0) ["_law_a", "_law_b"] (i:=3) rfl nd rfl (by first | exact Or.inl rfl | exact Or.inr rfl) (Wr.di_seq (Wr.dv 3)) (fun c=>(Wr.dg_tup (n:=2) rfl (Wr.dgs_cons (Wr.dg_name (i:=0) nd_law_ties_0 rfl (by first | exact Or.inl rfl | exact Or.inr rfl)) (Wr.dgs_cons (Wr.dg_name (i:=1) nd_law_ties_0 rfl (by first | exact Or.inl rfl | exact Or.inr rfl)) Wr.dgs_nil)))) (fun c=>Wr.dts_nil) (fun c=>(Wr.pd_tuple (Wr.pda_cons (Wr.pd_ix (Wr.dv 4) (Wr.dv 0)) (Wr.pda_cons (Wr.pd_ix (Wr.dv 4) (Wr.dv 1)) Wr.pda_nil)))))
  (Wr.ds_one (Wr.ds_ret (Wr.pd_sl (Wr.pd_lc ["_law_a", "_law_b"] rfl (Wr.di_seq (Wr.dv 3)) (fun c=>(Wr.dg_tup (n:=2) rfl (Wr.dgs_cons (Wr.dg_name (i:=0) nd_law_ties_0 rfl (by first | exact Or.inl rfl | exact Or.inr rfl)) (Wr.dgs_cons (Wr.dg_name (i:=1) nd_law_ties_0 rfl (by first | exact Or.inl rfl | exact Or.inr rfl)) Wr.dgs_nil)))) (fun c=>Wr.dts_nil) (fun c=>(Wr.pd_ix (Wr.pd_list (Wr.pda_cons (Wr.pd_tuple (Wr.pda_cons (Wr.dv 0) (Wr.pda_cons (Wr.dv 1) Wr.pda_nil))) (Wr.pda_cons (Wr.pd_tuple (Wr.pda_cons (Wr.dv 1) (Wr.pda_cons (Wr.dv 0) Wr.pda_nil))) Wr.pda_nil))) (Wr.dcP C__law_take hr (Wr.wv 2) (Wr.pda_cons Wr.pd_int Wr.pda_nil))))) Wr.do_none (Wr.do_some Wr.pd_int)))))))), enterQ h ?_⟩
 rintro ds P ⟨n, rfl, n1, n16, q⟩
 refine ⟨[.im (.int n), .any, .any], rfl, ?_⟩
 refine ⟨rfl, n, rfl, n1, by omega, fun l hl=>⟨rfl, n, rfl, n1, by omega, fun us oku lu=>⟨rfl, rfl, 3, rfl, by decide, by decide, fun c c0 c1=>⟨n, c, rfl, n1, by omega, c0, by omega, fun vs okv lv=>?_⟩⟩⟩⟩
 have hll : (us.map pD).length + (vs.map pD).length<=1000:=by rw [List.length_map, List.length_map]; omega
 refine ⟨hll, .inl ⟨by rw [← List.map_append]; exact imm_pairs _, ?_⟩⟩
 have okx:=oku.app okv
 have lx : (us ++ vs).length<=22:=by rw [List.length_append]; omega
 rw [← List.map_append]
 generalize us ++ vs = xs at okx lx
 have fin : ∀ xs : List Tie, OkN n xs->xs.length<=23->dSeq
            (dSet 3 (some 0)
             (dLC [Str.ofString "_law_a", Str.ofString "_law_b"].length (iSq (tV 3))
              (gTp 2 (gsCons (gNm 0) (gsCons (gNm 1) gsNil))) (fun x P=>P true)
              (tTuple (aCons (t2 gIx (tV 4) (tV 0)) (aCons (t2 gIx (tV 4) (tV 1)) aNil)))))
            (dRet
             (tSl'
              (dLC [Str.ofString "_law_a", Str.ofString "_law_b"].length (iSq (tV 3))
               (gTp 2 (gsCons (gNm 0) (gsCons (gNm 1) gsNil))) (fun x P=>P true)
               (t2 gIx
                (tList
                 (aCons (tTuple (aCons (tV 0) (aCons (tV 1) aNil)))
                  (aCons (tTuple (aCons (tV 1) (aCons (tV 0) aNil))) aNil)))
                (tFnP (CP K) fDraw 2 (aCons (tK (PyData.int 2)) aNil))))
              oNone (oSome (tK (PyData.int 40)))))
           { nx:=fun x=>P PyData.none, rt:=P } [.pen (CP K), .im (.int n), .sn (.list (l.map PyData.int)), .dw 0 (.list (xs.map pD))]:=by
  intro xs okx lx
  have lm : (xs.map pD).length = xs.length:=List.length_map ..
  refine ⟨by rw [lm]; omega, .imm, fun i ys=>∃ vs : List Tie, ys = vs.map pD/\vs.length = i/\OkN n vs, ⟨[], rfl, rfl, fun _ h=>(nomatch h)⟩, ?_, ?_⟩
  ·rintro i d ys hd ⟨vs, rfl, hv, okv⟩
   obtain ⟨t, ht, rfl⟩:=map_get hd
   obtain ⟨⟨a0, a1⟩, ⟨b0, b1⟩, nab⟩:=okx t (List.mem_of_getElem? ht)
   obtain ⟨x, ex, xr, xl⟩:=ord_at hl a0 a1
   obtain ⟨y, ey, yr, yl⟩:=ord_at hl b0 b1
   have nxy : x≠y:=fun e=>by
    subst e
    have h1:=List.getElem?_eq_some_iff.mp xl
    have h2:=List.getElem?_eq_some_iff.mp yl
    have:=(List.getElem_inj hl.nd (h₀:=h1.1) (h₁:=h2.1)).mp (h1.2.trans h2.2.symm)
    omega
   exact ⟨rfl, iteT (B:=True) ⟨.int x, ex, .int y, ey, (show 2<=1000 by decide), rfl, vs ++ [(x, y)], app1 _ _ _, by rw [List.length_append, List.length_singleton, hv], okv.snoc ⟨xr, yr, nxy⟩⟩⟩
  rintro ys ⟨vs, rfl, hv, okv⟩
  rw [lm] at hv
  have lv : (vs.map pD).length = vs.length:=List.length_map ..
  refine ⟨by rw [lv]; omega, .imm, fun i ys=>∃ ws : List Tie, ys = ws.map pD/\ws.length = i/\OkN n ws, ⟨[], rfl, rfl, fun _ h=>(nomatch h)⟩, ?_, ?_⟩
  ·rintro i d ys hd ⟨ws, rfl, hw, okw⟩
   obtain ⟨t, ht, rfl⟩:=map_get hd
   have okt:=okv t (List.mem_of_getElem? ht)
   refine ⟨rfl, iteT (B:=True) ⟨(show 2<=1000 by decide), (show 2<=1000 by decide), (show 2<=1000 by decide), rfl, 2, rfl, by decide, by decide, fun r r0 r1=>?_⟩⟩
   obtain ⟨z, hz, okz⟩ : ∃ z : Tie, atI [PyData.tuple [.int t.1, .int t.2], .tuple [.int t.2, .int t.1]] r = some (pD z)/\OkT n z:=by
    rcases (by omega : r = 0\/r = 1) with rfl | rfl
    ·exact ⟨t, rfl, okt⟩
    ·exact ⟨(t.2, t.1), rfl, okt.swap⟩
   exact ⟨pD z, hz, rfl, ws ++ [z], by rw [List.map_append]; rfl, by rw [List.length_append, List.length_singleton, hw], okw.snoc okz⟩
  rintro ys ⟨ws, rfl, hw, okw⟩
  rw [lv] at hw
  refine .inl ⟨by rw [cut40]; exact imm_pairs _, rfl, ?_⟩
  rw [cut40]
  exact q _ (fun t ht=>okw t (List.mem_of_mem_take ht)) (by rw [List.length_take]; omega)
 have lm : (xs.map pD).length = xs.length:=List.length_map ..
 show dSeq _ _ _ [.pen (CP K), .im (.int n), .sn (.list (l.map PyData.int)), .dw 0 (.list (xs.map pD))]
 refine ⟨(show 0<=1000 by decide), okD_ties xs, rfl, ?_⟩
 show if (!(PyData.eqv (.list (xs.map pD)) (.list []))) = true then _ else _
 rw [eqv_nil]
 cases xs with
 | nil=>exact iteF (A:=True) (iteF (A:=True) (fin [] okx (by decide)))
 | cons t ts =>
  refine iteT (B:=True) ⟨rfl, 4, rfl, by decide, by decide, fun r r0 r1=>?_⟩
  show if decide (r = 0) = true then _ else _
  refine ite2 (fun c=>⟨rfl, _, rfl, ?_, ?_, fun x x0 x1=>?_⟩) (fun c=>fin (t :: ts) okx (by omega))
  ·rw [lm, List.length_cons]; omega
  ·rw [lm]; omega
  ·rw [lm] at x1
   obtain ⟨z, hz, hz2⟩:=tie_at x0 x1
   refine ⟨_, hz, rfl, by rw [lm]; omega, ?_⟩
   have:=fin ((t :: ts) ++ [z]) (okx.snoc (okx z (List.mem_of_getElem? hz2))) (by rw [List.length_append, List.length_singleton]; omega)
   rw [List.map_append] at this
   exact this
end
inductive Rt (us : List Tie) : Int->Int->Prop
 | refl (a : Int) : Rt us a a
 | step {a b c : Int} (h : Rt us a b) (t : (b, c)∈us) : Rt us a c
theorem Rt.trans {us : List Tie} {a b c : Int} (h : Rt us a b) (k : Rt us b c) : Rt us a c:=by
 induction k with
 | refl=>exact h
 | step _ t ih=>exact .step ih t
theorem rt_swap {us vs : List Tie} (h : ∀ a b, (a, b)∈us->(b, a)∈vs) {a b : Int} (r : Rt us a b) : Rt vs b a:=by
 induction r with
 | refl=>exact .refl _
 | step _ t ih=>exact (Rt.step (.refl _) (h _ _ t)).trans ih
theorem Rt.mono {us vs : List Tie} (h : ∀ t∈us, t∈vs) {a b : Int} (r : Rt us a b) : Rt vs a b:=by
 induction r with
 | refl=>exact .refl _
 | step _ t ih=>exact .step ih (h _ t)
theorem Rt.sym {us : List Tie} (h : ∀ a b, (a, b)∈us->(b, a)∈us) {a b : Int} (r : Rt us a b) : Rt us b a:=rt_swap h r
theorem Rt.rng {us : List Tie} {n : Nat} (ok : ∀ t∈us, 0<=t.2/\t.2 < n) {a b : Int} (h : 0<=a/\a < n) (r : Rt us a b) : 0<=b/\b < n:=by
 cases r with
 | refl=>exact h
 | step _ t=>exact ok _ t
open Classical in
noncomputable def RZ (us : List Tie) (a b : Int) : Bool:=decide (Rt us a b)
theorem RZ_iff {us : List Tie} {a b : Int} : RZ us a b = true↔Rt us a b:=by
 classical
 unfold RZ
 exact decide_eq_true_iff
noncomputable def RB (us : List Tie) (a b : Nat) : Bool:=RZ us ((a : Nat) : Int) ((b : Nat) : Int)
theorem RB_iff {us : List Tie} {a b : Nat} : RB us a b = true↔Rt us ((a : Nat) : Int) ((b : Nat) : Int):=RZ_iff
theorem RB_self (us : List Tie) (a : Nat) : RB us a a = true:=RB_iff.mpr (.refl _)
noncomputable def mineN (R : Nat->Nat->Bool) (n a : Nat) : List Nat:=(List.range n).filter fun b=>R a b && R b a
noncomputable def isFst (R : Nat->Nat->Bool) (n a : Nat) : Bool:=decide ((mineN R n a).head? = some a)
noncomputable def zI (l : List Nat) : List Int:=l.map fun i : Nat=>0 + ((i : Nat) : Int)
noncomputable def clsI (R : Nat->Nat->Bool) (n k : Nat) : List (List Int):=(((List.range n).take k).filter (isFst R n)).map fun a=>zI (mineN R n a)
theorem cls_cong {R R' : Nat->Nat->Bool} {n : Nat} (h : ∀ a b, a < n->b < n->(R a b && R b a) = (R' a b && R' b a)) (k : Nat) : clsI R n k = clsI R' n k:=by
 have m : ∀ a, a < n->mineN R n a = mineN R' n a:=fun a ha=>List.filter_congr fun b hb=>h a b ha (List.mem_range.mp hb)
 unfold clsI
 have mem : ∀ a∈(List.range n).take k, a < n:=fun a ha=>List.mem_range.mp (List.mem_of_mem_take ha)
 have e : ((List.range n).take k).filter (isFst R n) = ((List.range n).take k).filter (isFst R' n):=List.filter_congr fun a ha=>by unfold isFst; rw [m a (mem a ha)]
 rw [e]
 exact List.map_congr_left fun a ha=>by rw [m a (mem a (List.mem_filter.mp ha).1)]
theorem mine_ne {R : Nat->Nat->Bool} {n a : Nat} (hs : R a a = true) (ha : a < n) : mineN R n a≠[]:=by
 have : a∈mineN R n a:=List.mem_filter.mpr ⟨List.mem_range.mpr ha, by rw [hs]; rfl⟩
 exact List.ne_nil_of_mem this
theorem mine_len (R : Nat->Nat->Bool) (n a : Nat) : (mineN R n a).length<=n:=by
 have:=List.length_filter_le (fun b=>R a b && R b a) (List.range n)
 rw [List.length_range] at this
 exact this
theorem cls_len (R : Nat->Nat->Bool) (n k : Nat) : (clsI R n k).length<=n:=by
 unfold clsI
 rw [List.length_map]
 have h1:=List.length_filter_le (isFst R n) ((List.range n).take k)
 rw [List.length_take, List.length_range] at h1
 omega
theorem cls_snoc (R : Nat->Nat->Bool) {n k : Nat} (h : k < n) : clsI R n (k + 1) = clsI R n k ++ if isFst R n k = true then [zI (mineN R n k)] else []:=by
 unfold clsI
 have e : (List.range n).take (k + 1) = (List.range n).take k ++ [k]:=by
  rw [List.take_add_one, List.getElem?_range h]
  rfl
 rw [e, List.filter_append, List.map_append]
 cases hf : isFst R n k <;> simp [hf]
theorem cls_each (R : Nat->Nat->Bool) (N k : Nat) : ∀ l∈clsI R N k, l.length<=N:=by
 intro l hl
 unfold clsI at hl
 obtain ⟨a, _, rfl⟩:=List.mem_map.mp hl
 unfold zI
 rw [List.length_map]
 exact mine_len R N a
theorem mem_zI {l : List Nat} {x : Int} : x∈zI l↔0<=x/\x.toNat∈l:=by
 unfold zI
 rw [List.mem_map]
 constructor
 ·rintro ⟨i, hi, rfl⟩
  rw [show ((0 + ((i : Nat) : Int)).toNat) = i by omega]
  exact ⟨by omega, hi⟩
 ·intro h
  exact ⟨x.toNat, h.2, by omega⟩
theorem mem_zr {n : Nat} {x : Int} : x∈zI (List.range n)↔0<=x/\x < n:=by
 rw [mem_zI, List.mem_range]
 omega
theorem zI_rise {l : List Nat} (h : l.Pairwise (· < ·)) : (zI l).Pairwise (· < ·):=by
 unfold zI
 rw [List.pairwise_map]
 exact h.imp fun h=>by omega
noncomputable def rsI (vs : List Tie) (n : Nat) (a : Int) : List Int:=(zI (List.range n)).filter (RZ vs a)
theorem mem_rs {vs : List Tie} {n : Nat} {a x : Int} : x∈rsI vs n a↔(0<=x/\x < n)/\Rt vs a x:=by
 unfold rsI
 rw [List.mem_filter, mem_zr, RZ_iff]
theorem rs_rise {vs : List Tie} {n : Nat} {a : Int} : (rsI vs n a).Pairwise (· < ·):=(zI_rise List.pairwise_lt_range).filter _
theorem rs_len (vs : List Tie) (n : Nat) (a : Int) : (rsI vs n a).length<=n:=by
 unfold rsI
 have:=List.length_filter_le (RZ vs a) (zI (List.range n))
 unfold zI at this
 rw [List.length_map, List.length_range] at this
 exact this
theorem rise_nd {l : List Int} (h : l.Pairwise (· < ·)) : l.Nodup:=h.imp fun h=>by omega
theorem rise_same {out ks l : List Int} (hp : out.Perm ks) (hs : out.Pairwise (·<=·)) (hn : ks.Nodup) (hl : l.Pairwise (· < ·)) (hk : ∀ q, q∈ks↔q∈l) : out = l :=
 PySem.W.ksm_same (hp.trans ((List.perm_ext_iff_of_nodup hn (rise_nd hl)).mpr hk)) hs (hl.imp fun h=>by omega)
theorem rise_ext {l k : List Int} (hl : l.Pairwise (· < ·)) (hk : k.Pairwise (· < ·)) (h : ∀ q, q∈l↔q∈k) : l = k:=rise_same (List.Perm.refl _) (hl.imp fun h=>by omega) (rise_nd hl) hk h
theorem rs_eq {vs : List Tie} {n : Nat} {a : Int} {out ks : List Int} (hp : out.Perm ks) (hs : out.Pairwise (·<=·)) (hn : ks.Nodup) (hk : ∀ q, q∈ks↔Rt vs a q) (hr : ∀ q, Rt vs a q->0<=q/\q < n) : out = rsI vs n a :=
 rise_same hp hs hn rs_rise fun q=>by
  rw [mem_rs, hk]
  exact ⟨fun h=>⟨hr q h, h⟩, fun h=>h.2⟩
theorem rs_cong {vs us : List Tie} {n : Nat} {a : Int} (h : ∀ x, Rt vs a x↔Rt us a x) : rsI vs n a = rsI us n a:=rise_ext rs_rise rs_rise fun q=>by rw [mem_rs, mem_rs, h]
noncomputable def adj (us : List Tie) (F B : List Int) : List Tie:=us.zipIdx.flatMap fun p=>if ((p.2 : Nat) : Int)∈F then [] else [p.1, (p.1.2, p.1.1)].filter fun t=>decide (t.2∉B)
theorem mem_adj {us : List Tie} {F B : List Int} {x y : Int} : (x, y)∈adj us F B↔∃ k : Nat, (us[k]? = some (x, y)\/us[k]? = some (y, x))/\((k : Nat) : Int)∉F/\y∉B:=by
 unfold adj
 rw [List.mem_flatMap]
 constructor
 ·rintro ⟨⟨t, k⟩, hk, h⟩
  have hk:=List.mem_zipIdx_iff_getElem?.mp hk
  by_cases hF : ((k : Nat) : Int)∈F
  ·rw [if_pos hF] at h; cases h
  ·rw [if_neg hF, List.mem_filter] at h
   obtain ⟨h, hB⟩:=h
   refine ⟨k, ?_, hF, of_decide_eq_true hB⟩
   rcases List.mem_cons.mp h with e | e
   ·left; rw [e]; exact hk
   ·right
    have e:=List.mem_singleton.mp e
    have e1 : x = t.2:=congrArg Prod.fst e
    have e2 : y = t.1:=congrArg Prod.snd e
    rw [e1, e2]; exact hk
 ·rintro ⟨k, h, hF, hB⟩
  rcases h with h | h
  ·refine ⟨((x, y), k), List.mem_zipIdx_iff_getElem?.mpr h, ?_⟩
   rw [if_neg hF, List.mem_filter]
   exact ⟨List.mem_cons_self, decide_eq_true hB⟩
  ·refine ⟨((y, x), k), List.mem_zipIdx_iff_getElem?.mpr h, ?_⟩
   rw [if_neg hF, List.mem_filter]
   exact ⟨List.mem_cons_of_mem _ (List.mem_singleton.mpr rfl), decide_eq_true hB⟩
theorem adj_rng {us : List Tie} {F B : List Int} {n : Int} (ok : OkN n us) (n0 : 0<=n) : ∀ t∈adj us F B, (0<=t.1/\t.1 < (n.toNat : Nat))/\0<=t.2/\t.2 < (n.toNat : Nat):=by
 rintro ⟨x, y⟩ h
 obtain ⟨k, e, _⟩:=mem_adj.mp h
 have en : ((n.toNat : Nat) : Int) = n:=by omega
 rcases e with e | e
 ·have o:=ok _ (List.mem_of_getElem? e)
  exact ⟨by rw [en]; exact o.1, by rw [en]; exact o.2.1⟩
 ·have o:=ok _ (List.mem_of_getElem? e)
  exact ⟨by rw [en]; exact o.2.1, by rw [en]; exact o.1⟩
theorem adj_sym {us : List Tie} {F : List Int} : ∀ a b, (a, b)∈adj us F []->(b, a)∈adj us F []:=fun a b h=>by
 obtain ⟨k, e, hF, _⟩:=mem_adj.mp h
 exact mem_adj.mpr ⟨k, e.symm, hF, fun z=>nomatch z⟩
theorem OkW.okN {n : Int} {us : List Tie} (h : OkW n us) : OkN n us:=fun t ht=>by
 have:=h t ht
 exact ⟨⟨by omega, by omega⟩, ⟨by omega, by omega⟩, by omega⟩
theorem any_pair (x a b : Int) : ([PyData.int a, .int b].any fun e=>PyData.eqv e (.int x)) = decide (x = a\/x = b):=by
 show (a == x || (b == x || false)) = _
 rw [Bool.eq_iff_iff]
 simp
 omega
theorem nodup_le {n : Nat} {l : List Int} (nd : l.Nodup) (h : ∀ x∈l, 0<=x/\x < n) : l.length<=n:=by
 induction n generalizing l with
 | zero=>cases l with
  | nil=>exact Nat.le_refl _
  | cons x l=>have:=h x (List.mem_cons_self ..); omega
 | succ n ih =>
  by_cases e : ((n : Nat) : Int)∈l
  ·have z:=ih (nd.erase ((n : Nat) : Int)) fun x hx=>by
    have:=h x (List.mem_of_mem_erase hx)
    have : x≠((n : Nat) : Int):=(nd.mem_erase_iff.mp hx).1
    omega
   rw [List.length_erase_of_mem e] at z
   omega
  ·have z:=ih nd fun x hx=>by
    have:=h x hx
    have : x≠((n : Nat) : Int):=fun w=>e (w ▸ hx)
    omega
   omega
structure Fd (n : Nat) (es : List Tie) (a : Int) (l : List Int) (at' : Nat) : Prop where
 nd : l.Nodup
 rng : ∀ x∈l, 0<=x/\x < n
 st : a∈l
 rt : ∀ x∈l, Rt es a x
 cl : ∀ (j : Nat) (x : Int), j < at'->l[j]? = some x->∀ y, (x, y)∈es->y∈l
section
variable {P : Program} {w : World} {K : PySem.W.Frag} {mg : Str->Option Value} {base : Heap} {f : Addr} {fd : FuncData}
end
noncomputable def Jn (ws : List Tie) (p x k : Int) : Prop:=∃ j : Nat, k = ((j : Nat) : Int)/\(ws[j]? = some (p, x)\/ws[j]? = some (x, p))
structure StepsOk (n : Nat) (es ws : List Tie) (S : List (List Tie)) : Prop where
 len : S.length = n
 rng : ∀ ts∈S, ∀ t∈ts, 0<=t.1/\t.1 < n
 few : ∀ ts∈S, ts.length<=200
 is : ∀ (a : Nat) (ts : List Tie), S[a]? = some ts->∀ b, (∃ t∈ts, t.1 = b)↔(((a : Nat) : Int), b)∈es
 nm : ∀ (a : Nat) (ts : List Tie), S[a]? = some ts->∀ t∈ts, Jn ws ((a : Nat) : Int) t.1 t.2
noncomputable def stD (S : List (List Tie)) : D:=.list (S.map fun ts=>.list (ts.map pD))
noncomputable def rP (S : List (List Tie)) : List (List D):=S.map fun ts=>ts.map pD
theorem stD_eq (S : List (List Tie)) : PyData.list ((rP S).map PyData.list) = stD S:=by
 unfold rP stD
 rw [List.map_map]
 rfl
theorem rP_set (S : List (List Tie)) (k : Nat) (l : List Tie) (u : Tie) : (rP S).set k (l.map pD ++ [pD u]) = rP (S.set k (l ++ [u])):=by
 unfold rP
 rw [List.map_set, List.map_append]
 rfl
structure StepsTo (n : Nat) (us : List Tie) (k : Nat) (S : List (List Tie)) : Prop where
 len : S.length = n
 rng : ∀ ts∈S, ∀ t∈ts, 0<=t.1/\t.1 < n
 few : ∀ ts∈S, ts.length<=2 * k
 is : ∀ (a : Nat) (ts : List Tie), S[a]? = some ts->∀ b, (∃ t∈ts, t.1 = b)↔((((a : Nat) : Int), b)∈us.take k\/(b, ((a : Nat) : Int))∈us.take k)
 nm : ∀ (a : Nat) (ts : List Tie), S[a]? = some ts->∀ t∈ts, Jn us ((a : Nat) : Int) t.1 t.2
theorem put_step {S : List (List Tie)} {p : Nat} {l : List Tie} (hl : S[p]? = some l) (q : Int) (x : Int) (a : Nat) (ts : List Tie) (h : (S.set p (l ++ [(q, x)]))[a]? = some ts) : ∃ ts0, S[a]? = some ts0/\∀ b, (∃ t∈ts, t.1 = b)↔((∃ t∈ts0, t.1 = b)\/(a = p/\b = q)):=by
 have hlt:=(List.getElem?_eq_some_iff.mp hl).1
 by_cases e : p = a
 ·subst e
  rw [List.getElem?_set_self hlt] at h
  cases h
  refine ⟨l, hl, fun b=>?_⟩
  constructor
  ·rintro ⟨u, hu, e⟩
   rcases List.mem_append.mp hu with z | z
   ·exact .inl ⟨u, z, e⟩
   ·rw [List.mem_singleton.mp z] at e
    exact .inr ⟨rfl, e.symm⟩
  ·rintro (⟨u, hu, e⟩ | ⟨_, rfl⟩)
   ·exact ⟨u, List.mem_append_left _ hu, e⟩
   ·exact ⟨(b, x), List.mem_append_right _ (List.mem_singleton.mpr rfl), rfl⟩
 ·rw [List.getElem?_set_ne e] at h
  exact ⟨ts, h, fun b=>⟨.inl, fun z=>z.elim id fun z=>absurd z.1.symm e⟩⟩
theorem put_nm {us : List Tie} {S : List (List Tie)} {p : Nat} {l : List Tie} (hl : S[p]? = some l) (q x : Int) (h : ∀ (a : Nat) (ts : List Tie), S[a]? = some ts->∀ t∈ts, Jn us ((a : Nat) : Int) t.1 t.2) (hq : Jn us ((p : Nat) : Int) q x) : ∀ (a : Nat) (ts : List Tie), (S.set p (l ++ [(q, x)]))[a]? = some ts->∀ t∈ts, Jn us ((a : Nat) : Int) t.1 t.2:=by
 intro a ts ha t ht
 have hlt:=(List.getElem?_eq_some_iff.mp hl).1
 by_cases e : p = a
 ·subst e
  rw [List.getElem?_set_self hlt] at ha
  cases ha
  rcases List.mem_append.mp ht with z | z
  ·exact h p l hl t z
  ·rw [List.mem_singleton.mp z]; exact hq
 ·rw [List.getElem?_set_ne e] at ha
  exact h a ts ha t ht
theorem StepsTo.next {n : Nat} {us : List Tie} {k : Nat} {S : List (List Tie)} (h : StepsTo n us k S) {t : Tie} (ht : us[k]? = some t) (ok : (0<=t.1/\t.1 < n)/\0<=t.2/\t.2 < n) {l l' : List Tie} (x : Int) (hx : x = ((k : Nat) : Int)) (hl : S[t.1.toNat]? = some l) (hl' : (S.set t.1.toNat (l ++ [(t.2, x)]))[t.2.toNat]? = some l') : StepsTo n us (k + 1) ((S.set t.1.toNat (l ++ [(t.2, x)])).set t.2.toNat (l' ++ [(t.1, x)])):=by
 have hm:=List.mem_of_getElem? hl
 have tk : us.take (k + 1) = us.take k ++ [t]:=by rw [List.take_add_one, ht]; rfl
 have g1 : ∀ ts∈S.set t.1.toNat (l ++ [(t.2, x)]), (∀ t∈ts, 0<=t.1/\t.1 < n)/\ts.length<=2 * k + 1:=fun ts hts=>by
  rcases List.mem_or_eq_of_mem_set hts with z | rfl
  ·exact ⟨h.rng ts z, by have:=h.few ts z; omega⟩
  ·refine ⟨fun u hu=>?_, by rw [List.length_append, List.length_singleton]; have:=h.few l hm; omega⟩
   rcases List.mem_append.mp hu with z | z
   ·exact h.rng l hm u z
   ·rw [List.mem_singleton.mp z]; exact ok.2
 have g2:=g1 l' (List.mem_of_getElem? hl')
 have j1 : Jn us ((t.1.toNat : Nat) : Int) t.2 x:=⟨k, hx, .inl (by rw [ht, Int.toNat_of_nonneg ok.1.1])⟩
 have j2 : Jn us ((t.2.toNat : Nat) : Int) t.1 x:=⟨k, hx, .inr (by rw [ht, Int.toNat_of_nonneg ok.2.1])⟩
 refine ⟨by rw [List.length_set, List.length_set]; exact h.len, fun ts hts=>?_, fun ts hts=>?_, fun a ts ha b=>?_, put_nm hl' _ _ (put_nm hl _ _ h.nm j1) j2⟩
 ·rcases List.mem_or_eq_of_mem_set hts with z | rfl
  ·exact (g1 ts z).1
  ·intro u hu
   rcases List.mem_append.mp hu with z | z
   ·exact g2.1 u z
   ·rw [List.mem_singleton.mp z]; exact ok.1
 ·rcases List.mem_or_eq_of_mem_set hts with z | rfl
  ·have:=(g1 ts z).2; omega
  ·rw [List.length_append, List.length_singleton]; omega
 ·obtain ⟨t1, h1, i1⟩:=put_step hl' _ _ a ts ha
  obtain ⟨t0, h0, i0⟩:=put_step hl _ _ a t1 h1
  rw [i1, i0, h.is a t0 h0 b, tk, List.mem_append, List.mem_append, List.mem_singleton, List.mem_singleton]
  have e1 : (a = t.1.toNat/\b = t.2)↔(((a : Nat) : Int), b) = t:=by
   constructor
   ·rintro ⟨rfl, rfl⟩; rw [Int.toNat_of_nonneg ok.1.1]
   ·intro e
    have z1 : ((a : Nat) : Int) = t.1:=congrArg Prod.fst e
    exact ⟨by omega, congrArg Prod.snd e⟩
  have e2 : (a = t.2.toNat/\b = t.1)↔(b, ((a : Nat) : Int)) = t:=by
   constructor
   ·rintro ⟨rfl, rfl⟩; rw [Int.toNat_of_nonneg ok.2.1]
   ·intro e
    have z1 : ((a : Nat) : Int) = t.2:=congrArg Prod.snd e
    exact ⟨by omega, congrArg Prod.fst e⟩
  rw [e1, e2]
  constructor
  ·rintro (((z | z) | z) | z)
   ·exact .inl (.inl z)
   ·exact .inr (.inl z)
   ·exact .inl (.inr z)
   ·exact .inr (.inr z)
  ·rintro ((z | z) | (z | z))
   ·exact .inl (.inl (.inl z))
   ·exact .inl (.inr z)
   ·exact .inl (.inl (.inr z))
   ·exact .inr z
theorem adj_mem {us : List Tie} {x y : Int} : (x, y)∈adj us [] []↔((x, y)∈us\/(y, x)∈us):=by
 rw [mem_adj]
 constructor
 ·rintro ⟨k, e | e, _⟩
  ·exact .inl (List.mem_of_getElem? e)
  ·exact .inr (List.mem_of_getElem? e)
 ·rintro (e | e)
  ·obtain ⟨k, hk⟩:=List.getElem?_of_mem e
   exact ⟨k, .inl hk, List.not_mem_nil, List.not_mem_nil⟩
  ·obtain ⟨k, hk⟩:=List.getElem?_of_mem e
   exact ⟨k, .inr hk, List.not_mem_nil, List.not_mem_nil⟩
noncomputable def keysI (m : IM) : List Int:=m.map (·.1)
theorem has_iff {m : IM} {k : Int} : hasI m k = true↔k∈keysI m:=by
 unfold hasI keysI
 rw [List.any_eq_true, List.mem_map]
 constructor
 ·rintro ⟨p, hp, e⟩; exact ⟨p, hp, of_decide_eq_true e⟩
 ·rintro ⟨p, hp, e⟩; exact ⟨p, hp, decide_eq_true e⟩
theorem has_no {m : IM} {k : Int} (h : hasI m k = false) : k∉keysI m:=fun z=>by rw [has_iff.mpr z] at h; cases h
theorem put_new {m : IM} {k : Int} {d : D} (h : hasI m k = false) : putI m k d = m ++ [(k, d)]:=by
 unfold putI
 rw [h]
 rfl
inductive Cm (ws : List Tie) (a : Int) : IM->Prop
 | base : Cm ws a [(a, .none)]
 | snoc {m : IM} {x p k : Int} (h : Cm ws a m) (hp : p∈keysI m) (hx : x∉keysI m) (j : Jn ws p x k) : Cm ws a (m ++ [(x, .tuple [.int p, .int k])])
structure Sr (n : Nat) (us ws : List Tie) (a : Int) (m : IM) (open' : Int->Prop) : Prop where
 im : immI m = true
 nd : (keysI m).Nodup
 rng : ∀ x∈keysI m, 0<=x/\x < n
 st : a∈keysI m
 rt : ∀ x∈keysI m, Rt us a x
 cl : ∀ x∈keysI m, open' x\/∀ b, (x, b)∈us->b∈keysI m
 cm : Cm ws a m
theorem Sr.few {n : Nat} {us ws : List Tie} {a : Int} {m : IM} {o : Int->Prop} (h : Sr n us ws a m o) : m.length<=n:=by
 have:=nodup_le h.nd h.rng
 unfold keysI at this
 rwa [List.length_map] at this
theorem Sr.all {n : Nat} {us ws : List Tie} {a : Int} {m : IM} (h : Sr n us ws a m fun _=>False) : ∀ x, hasI m x = true↔Rt us a x:=fun x=>by
 rw [has_iff]
 refine ⟨h.rt x, fun r=>?_⟩
 induction r with
 | refl=>exact h.st
 | step r t ih=>exact (h.cl _ ih).elim False.elim fun z=>z _ t
theorem Sr.add {n : Nat} {us ws : List Tie} {a x c k : Int} {m : IM} {o o' : Int->Prop} (h : Sr n us ws a m o) (jn : Jn ws x c k) (hx : x∈keysI m) (t : (x, c)∈us) (hc : 0<=c/\c < n) (nw : hasI m c = false) (oo : ∀ y, o y->o' y) (oc : o' c) : Sr n us ws a (putI m c (.tuple [.int x, .int k])) o':=by
 generalize hdd : PyData.tuple [.int x, .int k] = d
 have hd : immD d = true:=by rw [← hdd]; rfl
 have kk : keysI (m ++ [(c, d)]) = keysI m ++ [c]:=by unfold keysI; rw [List.map_append]; rfl
 rw [put_new nw]
 refine ⟨?_, ?_, ?_, ?_, ?_, ?_, by rw [← hdd]; exact .snoc h.cm hx (has_no nw) jn⟩
 ·have:=h.im
  unfold immI at this ⊢
  rw [List.all_append, this]
  show (true && (immD d && true)) = true
  rw [hd]; rfl
 ·rw [kk]
  exact List.nodup_append.mpr ⟨h.nd, by simp, fun y hy z hz=>by rw [List.mem_singleton.mp hz]; rintro rfl; exact has_no nw hy⟩
 ·rw [kk]
  intro y hy
  rcases List.mem_append.mp hy with z | z
  ·exact h.rng y z
  ·rw [List.mem_singleton.mp z]; exact hc
 ·rw [kk]; exact List.mem_append_left _ h.st
 ·rw [kk]
  intro y hy
  rcases List.mem_append.mp hy with z | z
  ·exact h.rt y z
  ·rw [List.mem_singleton.mp z]; exact .step (h.rt x hx) t
 ·rw [kk]
  intro y hy
  rcases List.mem_append.mp hy with z | z
  ·exact (h.cl y z).imp (oo y) fun q b hb=>List.mem_append_left _ (q b hb)
  ·rw [List.mem_singleton.mp z]; exact .inl oc
theorem Sr.wk {n : Nat} {us ws : List Tie} {a : Int} {m : IM} {o o' : Int->Prop} (h : Sr n us ws a m o) (f : ∀ x∈keysI m, o x->o' x\/∀ b, (x, b)∈us->b∈keysI m) : Sr n us ws a m o' :=
 ⟨h.im, h.nd, h.rng, h.st, h.rt, fun x hx=>(h.cl x hx).elim (f x hx) .inr, h.cm⟩
noncomputable def fSteps (ds : List D) (P : D->Prop) : Prop:=∃ n us, ds = [webD n us]/\0<=n/\n<=100/\us.length<=100/\OkN n us/\∀ S, StepsOk n.toNat (adj us [] []) us S->P (stD S)
noncomputable def fSearch (ds : List D) (P : D->Prop) : Prop:=∃ n us ws S a, ds = [stD S, .int a]/\n<=100/\StepsOk n us ws S/\0<=a/\a < n/\∀ m : IM, immI m = true->(keysI m).Nodup->m.length<=n->(∀ x, hasI m x = true↔Rt us a x)->Cm ws a m->P (.dict (kvD m))
noncomputable def fPart (ds : List D) (P : D->Prop) : Prop:=∃ n us a, ds = [webD n us, .int a]/\0<=n/\n<=60/\us.length<=100/\OkN n us/\0<=a/\a < n/\P (iD (rsI (adj us [] []) n.toNat a))
noncomputable def fParts (ds : List D) (P : D->Prop) : Prop:=∃ n us, ds = [webD n us]/\0<=n/\n<=60/\us.length<=100/\OkN n us/\P (.list ((clsI (RB (adj us [] [])) n.toNat n.toNat).map iD))
section
variable {P : Program} {w : World} {K : PySem.W.Frag} {mg : Str->Option Value} {base : Heap} {f : Addr} {fd : FuncData}
theorem sc_steps_of_web : FnScope ["web", "steps", "number", "tie"] ["web"] (defScope (top 19)):=⟨rfl, rfl, rfl, by decide +kernel, rfl, by decide +kernel, by decide +kernel⟩
theorem nd_steps_of_web_0 : (["place", "web", "steps", "number", "tie"] : List Str).Nodup:=by decide +kernel
theorem ok_steps_of_web (F : Fun K "steps_of_web" "steps_of_web" (top 19) f fd) (B : Dl.Bn mg) (m_enumerate : mg "enumerate" = none) : FnOk P w K mg base CX0 1 f fd ["web"] (spD fSteps):=by
 refine F.ok sc_steps_of_web (len_spD fun ds P h=>?len) (fun cdv A outer s H vs Q E hr h=>?_)
 case len=>(first | (obtain ⟨_, rfl, _⟩:=h; rfl) | (obtain ⟨_, _, rfl, _⟩:=h; rfl) | (obtain ⟨_, _, _, rfl, _⟩:=h; rfl) | (obtain ⟨_, _, _, _, rfl, _⟩:=h; rfl) | (obtain ⟨_, _, _, _, _, rfl, _⟩:=h; rfl) | (obtain ⟨_, _, _, _, _, _, rfl, _⟩:=h; rfl) | (obtain ⟨rfl, _⟩:=h; rfl))
 have nd:=sc_steps_of_web.nd
 refine ⟨_, Wr.WDSs.h (Wr.ds_cons (Wr.ds_rowsC 0 ["place"] (i:=1) rfl nd rfl (by first | exact Or.inl rfl | exact Or.inr rfl) (Wr.di_range1 B.range (Wr.pda_cons (Wr.pd_ix (Wr.dv 0) Wr.pd_int) Wr.pda_nil)) (fun c=>(Wr.dg_name (i:=0) nd_steps_of_web_0 rfl (by first | exact Or.inl rfl | exact Or.inr rfl))))
  (Wr.ds_cons (Wr.ds_for PassesOwn.never rfl (Wr.di_enum m_enumerate (Wr.pda_cons (Wr.pd_ix (Wr.dv 0) Wr.pd_int) Wr.pda_nil)) (Wr.dg_tup (n:=2) rfl (Wr.dgs_cons (Wr.dg_name (i:=2) nd rfl (by first | exact Or.inl rfl | exact Or.inr rfl)) (Wr.dgs_cons (Wr.dg_name (i:=3) nd rfl (by first | exact Or.inl rfl | exact Or.inr rfl)) Wr.dgs_nil))) (Wr.ds_cons (Wr.ds_rowapp (Wr.wv 1) (Wr.pd_ix (Wr.dv 3) Wr.pd_int) (Wr.pda_cons (Wr.pd_tuple (Wr.pda_cons (Wr.pd_ix (Wr.dv 3) Wr.pd_int) (Wr.pda_cons (Wr.dv 2) Wr.pda_nil))) Wr.pda_nil))
  (Wr.ds_cons (Wr.ds_rowapp (Wr.wv 1) (Wr.pd_ix (Wr.dv 3) Wr.pd_int) (Wr.pda_cons (Wr.pd_tuple (Wr.pda_cons (Wr.pd_ix (Wr.dv 3) Wr.pd_int) (Wr.pda_cons (Wr.dv 2) Wr.pda_nil))) Wr.pda_nil)) (Wr.ds_drops [2, 3] Wr.ds_nil))))
  (Wr.ds_drops [2, 3] (Wr.ds_one (Wr.ds_ret (Wr.dv 1)))))), enterE h ?_⟩
 rintro ds P ⟨n, us, rfl, n1, n16, lu, ok, q⟩
 refine ⟨[.im (webD n us), .any, .any, .any], ?_, ?_⟩
 ·show [argS (webD n us), .any, .any, .any] = _
  rw [arg_web]
 refine ⟨.int n, rfl, ⟨by omega, by omega⟩, by rw [len_intsD]; omega, rfl, ?_⟩
 rw [len_intsD]
 refine ⟨.tuple (us.map pD), rfl, rfl, fun (i : Nat) ρ=>∃ S, ρ = [.im (webD n us), .rw 0 (rP S), .any, .any]/\StepsTo n.toNat us i S, ?_, ?_, ?_⟩
 ·refine ⟨List.replicate n.toNat [], ?_, List.length_replicate .., fun ts h=>?_, fun ts h=>?_, fun a ts h b=>?_, fun a ts h t ht=>?_⟩
  ·unfold rP
   rw [List.map_replicate]
   rfl
  ·rw [(List.mem_replicate.mp h).2]; exact fun t ht=>nomatch ht
  ·rw [(List.mem_replicate.mp h).2]; exact Nat.le_refl _
  ·rw [(List.mem_replicate.mp (List.mem_of_getElem? h)).2]
   exact ⟨fun ⟨t, ht, _⟩=>(nomatch ht), fun z=>z.elim (fun z=>nomatch z) fun z=>nomatch z⟩
  ·rw [(List.mem_replicate.mp (List.mem_of_getElem? h)).2] at ht
   cases ht
 ·rintro i d ρ hd ⟨S, rfl, T⟩
  rw [enumD_get, List.getElem?_map] at hd
  obtain ⟨t, ht, rfl⟩ : ∃ t, us[i]? = some t/\PyData.tuple [.int ((i : Nat) : Int), pD t] = d:=by
   cases e : us[i]? with
   | none=>rw [e] at hd; cases hd
   | some t=>rw [e] at hd; exact ⟨t, rfl, Option.some.inj hd⟩
  obtain ⟨⟨o1, o2⟩, ⟨o3, o4⟩, o5⟩:=ok t (List.mem_of_getElem? ht)
  have hi:=(List.getElem?_eq_some_iff.mp ht).1
  have hlt : t.1.toNat < S.length:=by rw [T.len]; omega
  have hl:=List.getElem?_eq_getElem hlt
  generalize S[t.1.toNat] = l at hl
  have fl:=T.few l (List.mem_of_getElem? hl)
  have e1:=rP_set S t.1.toNat l (t.2, ((i : Nat) : Int))
  have hlt2 : t.2.toNat < (S.set t.1.toNat (l ++ [(t.2, ((i : Nat) : Int))])).length:=by rw [List.length_set, T.len]; omega
  have hl2:=List.getElem?_eq_getElem hlt2
  have ne : t.1.toNat≠t.2.toNat:=by omega
  have hl2s : S[t.2.toNat]? = some (S.set t.1.toNat (l ++ [(t.2, ((i : Nat) : Int))]))[t.2.toNat]:=by rw [← hl2, List.getElem?_set_ne ne]
  have TN:=T.next ht ⟨⟨o1, by omega⟩, o3, by omega⟩ ((i : Nat) : Int) rfl hl hl2
  generalize (S.set t.1.toNat (l ++ [(t.2, ((i : Nat) : Int))]))[t.2.toNat] = l' at hl2 hl2s TN
  have fl':=T.few l' (List.mem_of_getElem? hl2s)
  refine ⟨rfl, .int t.1, rfl, t.1.toNat, l.map pD, ?_, by unfold rP; rw [List.getElem?_map, hl]; rfl, .int t.2, rfl, (show 2<=1000 by decide), rfl, by rw [List.length_map]; omega, .int t.2, rfl, ?_⟩
  ·unfold ixN rP
   rw [if_pos o1, if_pos (by rw [List.length_map, T.len]; omega)]
  refine ⟨t.2.toNat, l'.map pD, ?_, ?_, .int t.1, rfl, (show 2<=1000 by decide), rfl, by rw [List.length_map]; omega, _, ?_, TN⟩
  ·unfold ixN rP
   rw [if_pos o3, if_pos (by rw [List.length_set, List.length_map, T.len]; omega)]
  ·rw [List.getElem?_set_ne ne]
   unfold rP
   rw [List.getElem?_map, hl2s]; rfl
  ·have e:=rP_set (S.set t.1.toNat (l ++ [(t.2, ((i : Nat) : Int))])) t.2.toNat l' (t.1, ((i : Nat) : Int))
   rw [← e, ← e1]
   rfl
 ·rintro ρ ⟨S, rfl, T⟩
  rw [enumD_len, List.length_map] at T
  refine ⟨rfl, ?_⟩
  show P (.list ((rP S).map PyData.list))
  rw [stD_eq]
  refine q S ⟨T.len, T.rng, fun ts h=>by have:=T.few ts h; omega, fun a ts h b=>?_, T.nm⟩
  have z:=T.is a ts h b
  rw [List.take_length] at z
  rw [z, adj_mem]
theorem sc_search : FnScope ["steps", "start", "came", "row", "later", "place", "step"] ["steps", "start"] (defScope (top 20)):=⟨rfl, rfl, rfl, by decide +kernel, rfl, by decide +kernel, by decide +kernel⟩
theorem ok_search (F : Fun K "search" "search" (top 20) f fd) (B : Dl.Bn mg) : FnOk P w K mg base CX0 1 f fd ["steps", "start"] (spD fSearch):=by
 refine F.ok sc_search (len_spD fun ds P h=>?len) (fun cdv A outer s H vs Q E hr h=>?_)
 case len=>(first | (obtain ⟨_, rfl, _⟩:=h; rfl) | (obtain ⟨_, _, rfl, _⟩:=h; rfl) | (obtain ⟨_, _, _, rfl, _⟩:=h; rfl) | (obtain ⟨_, _, _, _, rfl, _⟩:=h; rfl) | (obtain ⟨_, _, _, _, _, rfl, _⟩:=h; rfl) | (obtain ⟨_, _, _, _, _, _, rfl, _⟩:=h; rfl) | (obtain ⟨rfl, _⟩:=h; rfl))
 have nd:=sc_search.nd
 refine ⟨_, Wr.WDSs.h (Wr.ds_cons (Wr.ds_set (some 0) (i:=2) nd rfl (by first | exact Or.inl rfl | exact Or.inr rfl) (Wr.pd_dict1 (Wr.dv 1) Wr.pd_non))
  (Wr.ds_cons (Wr.ds_set none (i:=3) nd rfl (by first | exact Or.inl rfl | exact Or.inr rfl) (Wr.pd_list (Wr.pda_cons (Wr.dv 1) Wr.pda_nil)))
  (Wr.ds_cons (Wr.ds_while PassesOwn.never (Wr.pdt_tru (Wr.dv 3)) (Wr.ds_cons (Wr.ds_set (some 1) (i:=4) nd rfl (by first | exact Or.inl rfl | exact Or.inr rfl) (Wr.pd_list Wr.pda_nil))
  (Wr.ds_cons (Wr.ds_for PassesOwn.never rfl (Wr.di_seq (Wr.dv 3)) (Wr.dg_name (i:=5) nd rfl (by first | exact Or.inl rfl | exact Or.inr rfl)) (Wr.ds_cons (Wr.ds_for PassesOwn.never rfl (Wr.di_seq (Wr.pd_ix (Wr.dv 0) (Wr.dv 5))) (Wr.dg_name (i:=6) nd rfl (by first | exact Or.inl rfl | exact Or.inr rfl)) (Wr.ds_cons (Wr.ds_if (Wr.pdt_notinD hr.units (Wr.pd_ix (Wr.dv 6) Wr.pd_int) (Wr.dv 2)) (Wr.ds_cons (Wr.ds_dput hr.units (Wr.wv 2) (Wr.pd_ix (Wr.dv 6) Wr.pd_int) (Wr.pd_tuple (Wr.pda_cons (Wr.dv 5) (Wr.pda_cons (Wr.pd_ix (Wr.dv 6) Wr.pd_int) Wr.pda_nil))))
  (Wr.ds_one (Wr.ds_append (Wr.wv 4) (Wr.pda_cons (Wr.pd_ix (Wr.dv 6) Wr.pd_int) Wr.pda_nil)))) Wr.ds_nil) (Wr.ds_drops [6] Wr.ds_nil))) (Wr.ds_drops [5, 6] Wr.ds_nil)))
  (Wr.ds_drops [5, 6] (Wr.ds_frz 4 (Wr.ds_cons (Wr.ds_set none (i:=3) nd rfl (by first | exact Or.inl rfl | exact Or.inr rfl) (Wr.dv 4)) (Wr.ds_drops [4, 5, 6] Wr.ds_nil)))))))
  (Wr.ds_drops [3, 4, 5, 6] (Wr.ds_one (Wr.ds_ret (Wr.dv 2))))))), enterE h ?_⟩
 rintro ds P ⟨n, us, ws, S, a, rfl, n16, ok, a0, a1, q⟩
 refine ⟨[.sh (stD S), .im (.int a), .any, .any, .any, .any, .any], rfl, ?_⟩
 refine ⟨rfl, (show 1<=1000 by decide), ?_⟩
 refine ⟨fun mm ρ=>∃ (m : IM) (row : List Int), ρ = [.sh (stD S), .im (.int a), .dw 0 (.dict (kvD m)), .sn (iD row), .any, .any, .any]/\Sr n us ws a m (·∈row)/\(∀ x∈row, x∈keysI m)/\mm = 2 * (n - m.length) + (if row = [] then 0 else 1), ⟨_, [(a, .none)], [a], rfl, ?_, ?_, rfl⟩, ?_⟩
 ·refine ⟨rfl, by simp [keysI], fun x hx=>?_, by simp [keysI], fun x hx=>?_, fun x hx=>.inl ?_, .base⟩
  ·have e : x = a:=by simpa [keysI] using hx
   omega
  ·have e : x = a:=by simpa [keysI] using hx
   rw [e]; exact .refl _
  ·have e : x = a:=by simpa [keysI] using hx
   rw [e]; exact List.mem_singleton.mpr rfl
 ·intro x hx
  rw [List.mem_singleton.mp hx]
  simp [keysI]
 rintro mm ρ ⟨m, R, rfl, h, hr, rfl⟩
 show if (!(R.map PyData.int).isEmpty) = true then _ else _
 cases hR : R with
 | nil =>
  refine iteF (A:=True) ⟨rfl, q m h.im h.nd h.few (Sr.all (h.wk fun x _ hx=>?_)) h.cm⟩
  rw [hR] at hx
  cases hx
 | cons x0 R0 =>
  refine iteT (B:=True) ?_
  rw [← hR]
  refine ⟨by decide, rfl, fun (i : Nat) ρ=>∃ (m' : IM) (la : List Int), ρ = [.sh (stD S), .im (.int a), .dw 0 (.dict (kvD m')), .sn (iD R), .dw 1 (iD la), .any, .any]/\Sr n us ws a m' (fun y=>y∈la\/y∈R.drop i)/\(∀ y∈R, y∈keysI m')/\(∀ y∈la, y∈keysI m')/\m'.length = m.length + la.length, ⟨m, [], rfl, h.wk fun x _ hx=>.inl (.inr hx), hr, fun y hy=>(nomatch hy), rfl⟩, ?_, ?_⟩
  ·rintro i d ρ hd ⟨m', la, rfl, h', hr', hla, hlen⟩
   obtain ⟨y, hy, rfl⟩:=map_get hd
   have yk:=hr' y (List.mem_of_getElem? hy)
   have yr:=h'.rng y yk
   have hlt : y.toNat < S.length:=by rw [ok.len]; omega
   have hl:=List.getElem?_eq_getElem hlt
   generalize S[y.toNat] = ts at hl
   have fl:=ok.few ts (List.mem_of_getElem? hl)
   have iS:=ok.is _ ts hl
   rw [show ((y.toNat : Nat) : Int) = y by omega] at iS
   have dr : R.drop i = y :: R.drop (i + 1):=by
    have hi:=(List.getElem?_eq_some_iff.mp hy).1
    rw [List.drop_eq_getElem_cons hi, (List.getElem?_eq_some_iff.mp hy).2]
   have eat : atI (S.map fun ts=>PyData.list (ts.map pD)) y = some (.list (ts.map pD)):=by
    have:=atI_nat (xs:=S.map fun ts=>PyData.list (ts.map pD)) (j:=y.toNat) (v:=.list (ts.map pD)) (by rw [List.getElem?_map, hl]; rfl)
    rwa [show ((y.toNat : Nat) : Int) = y by omega] at this
   refine ⟨.list (ts.map pD), eat, rfl, fun (j : Nat) ρ=>∃ (m2 : IM) (la : List Int), ρ = [.sh (stD S), .im (.int a), .dw 0 (.dict (kvD m2)), .sn (iD R), .dw 1 (iD la), .im (.int y), .any]/\Sr n us ws a m2 (fun z=>(z∈la\/z∈R.drop (i + 1))\/z = y)/\(∀ y∈R, y∈keysI m2)/\(∀ y∈la, y∈keysI m2)/\m2.length = m.length + la.length/\∀ t∈ts.take j, t.1∈keysI m2, ⟨m', la, rfl, h'.wk fun z _ hz=>.inl ?_, hr', hla, hlen, fun t ht=>(nomatch ht)⟩, ?_, ?_⟩
   ·rcases hz with hz | hz
    ·exact .inl (.inl hz)
    ·rw [dr] at hz
     rcases List.mem_cons.mp hz with e | e
     ·exact .inr e
     ·exact .inl (.inr e)
   ·rintro j d ρ hd ⟨m2, la, rfl, h2, hr2, hla2, hlen2, hts⟩
    obtain ⟨t, ht, rfl⟩:=map_get hd
    have tk : ts.take (j + 1) = ts.take j ++ [t]:=by rw [List.take_add_one, ht]; rfl
    have tm:=List.mem_of_getElem? ht
    have tr:=ok.rng ts (List.mem_of_getElem? hl) t tm
    have few2:=h2.few
    have jy:=ok.nm _ ts hl t tm
    rw [show ((y.toNat : Nat) : Int) = y by omega] at jy
    refine ⟨.int t.1, rfl, m2, rfl, ?_⟩
    show if (!hasI m2 t.1) = true then _ else _
    cases hb : hasI m2 t.1 with
    | true =>
     refine iteF (A:=True) ⟨m2, la, rfl, h2, hr2, hla2, hlen2, fun u hu=>?_⟩
     rw [tk] at hu
     rcases List.mem_append.mp hu with z | z
     ·exact hts u z
     ·rw [List.mem_singleton.mp z]; exact has_iff.mp hb
    | false =>
     have kk : keysI (putI m2 t.1 (.tuple [.int y, .int t.2])) = keysI m2 ++ [t.1]:=by
      rw [put_new hb]; unfold keysI; rw [List.map_append]; rfl
     have ll : (la.map PyData.int).length = la.length:=List.length_map ..
     refine iteT (B:=True) ⟨.int t.2, rfl, (show 2<=1000 by decide), .int t.1, rfl, m2, rfl, rfl, h2.im, by omega, .int t.1, rfl, rfl, by omega, putI m2 t.1 (.tuple [.int y, .int t.2]), la ++ [t.1], ?_, h2.add (x:=y) jy (hr2 y (List.mem_of_getElem? hy)) ((iS t.1).mp ⟨t, tm, rfl⟩) tr hb (fun z hz=>?_) (.inl (.inl (List.mem_append_right _ (List.mem_singleton.mpr rfl)))), fun z hz=>?_, fun z hz=>?_, ?_, fun u hu=>?_⟩
     ·unfold iD
      rw [List.map_append]
      rfl
     ·rcases hz with (z | z) | z
      ·exact .inl (.inl (List.mem_append_left _ z))
      ·exact .inl (.inr z)
      ·exact .inr z
     ·rw [kk]; exact List.mem_append_left _ (hr2 z hz)
     ·rw [kk]
      rcases List.mem_append.mp hz with z | z
      ·exact List.mem_append_left _ (hla2 _ z)
      ·rw [List.mem_singleton.mp z]; exact List.mem_append_right _ (List.mem_singleton.mpr rfl)
     ·rw [put_new hb, List.length_append, List.length_append, hlen2]
      show m.length + la.length + 1 = m.length + (la.length + 1)
      omega
     ·rw [kk]
      rw [tk] at hu
      rcases List.mem_append.mp hu with z | z
      ·exact List.mem_append_left _ (hts u z)
      ·rw [List.mem_singleton.mp z]; exact List.mem_append_right _ (List.mem_singleton.mpr rfl)
   ·rintro ρ ⟨m2, la, rfl, h2, hr2, hla2, hlen2, hts⟩
    rw [List.length_map, List.take_length] at hts
    refine ⟨m2, la, rfl, h2.wk fun z hz hz'=>?_, hr2, hla2, hlen2⟩
    rcases hz' with z' | z'
    ·exact .inl z'
    ·right
     intro b hb
     rw [z'] at hb
     obtain ⟨t, ht, e⟩:=(iS b).mpr hb
     rw [← e]
     exact hts t ht
  ·rintro ρ ⟨m', la, rfl, h', hr', hla, hlen⟩
   rw [List.length_map] at h'
   have few':=h'.few
   refine ⟨rfl, 2 * (n - m'.length) + (if la = [] then 0 else 1), ?_, m', la, rfl, h'.wk fun x _ hx=>.inl ?_, hla, rfl⟩
   ·rw [if_neg (show ¬ R = [] by rw [hR]; exact fun z=>nomatch z)]
    by_cases e : la = []
    ·subst e
     rw [if_pos rfl]
     have hlen : m'.length = m.length + 0:=hlen
     omega
    ·rw [if_neg e]
     have:=List.length_pos_iff.mpr e
     omega
   ·rcases hx with hx | hx
    ·exact hx
    ·rw [List.drop_length] at hx
     cases hx
end
theorem fst_iff {R : Nat->Nat->Bool} {n i : Nat} (hi : i < n) (hs : R i i = true) : isFst R n i = true↔∀ b, b < i->(R i b && R b i) = false:=by
 unfold isFst mineN
 rw [decide_eq_true_iff, List.head?_filter, List.find?_range_eq_some]
 constructor
 ·intro h b hb
  have:=h.2.2 b hb
  rwa [Bool.not_eq_true'] at this
 ·intro h
  refine ⟨by rw [hs]; rfl, List.mem_range.mpr hi, fun j hj=>?_⟩
  rw [h j hj]; rfl
theorem mine_rs {es : List Tie} (sy : ∀ a b, (a, b)∈es->(b, a)∈es) (n i : Nat) : rsI es n ((i : Nat) : Int) = zI (mineN (RB es) n i):=by
 refine rise_ext rs_rise (zI_rise (List.pairwise_lt_range.filter _)) fun q=>?_
 rw [mem_rs, mem_zI]
 unfold mineN
 rw [List.mem_filter, List.mem_range, Bool.and_eq_true, RB_iff, RB_iff]
 constructor
 ·rintro ⟨⟨h0, h1⟩, r⟩
  rw [Int.toNat_of_nonneg h0]
  exact ⟨h0, by omega, r, r.sym sy⟩
 ·rintro ⟨h0, h1, r, _⟩
  rw [Int.toNat_of_nonneg h0] at r
  exact ⟨⟨h0, by omega⟩, r⟩
structure Seen (n : Nat) (es : List Tie) (i : Nat) (m : IM) : Prop where
 im : immI m = true
 nd : (keysI m).Nodup
 rng : ∀ x∈keysI m, 0<=x/\x < n
 is : ∀ x, x∈keysI m↔∃ p : Nat, p < i/\Rt es ((p : Nat) : Int) x
theorem put_keys {m : IM} (k : Int) (d : D) : ∀ x, x∈keysI (putI m k d)↔x∈keysI m\/x = k:=fun x=>by
 unfold putI
 by_cases h : hasI m k = true
 ·rw [if_pos h]
  have e : keysI (m.map fun p=>if p.1 = k then (p.1, d) else p) = keysI m:=by
   unfold keysI
   rw [List.map_map]
   refine List.map_congr_left fun p _=>?_
   show (if p.1 = k then (p.1, d) else p).1 = p.1
   split <;> rfl
  rw [e]
  exact ⟨.inl, fun z=>z.elim id fun z=>z ▸ has_iff.mp h⟩
 ·rw [if_neg h]
  unfold keysI
  rw [List.map_append, List.mem_append]
  exact Iff.rfl.trans ⟨fun z=>z.imp id List.mem_singleton.mp, fun z=>z.imp id fun z=>List.mem_singleton.mpr z⟩
theorem put_imm {m : IM} (k : Int) (d : D) (h : immI m = true) (hd : immD d = true) : immI (putI m k d) = true:=by
 unfold putI
 split
 ·unfold immI at *
  rw [List.all_map, List.all_eq_true]
  intro p hp
  show immD (if p.1 = k then (p.1, d) else p).2 = true
  split
  ·exact hd
  ·exact List.all_eq_true.mp h p hp
 ·unfold immI at *
  rw [List.all_append, h]
  show (true && (immD d && true)) = true
  rw [hd]; rfl
theorem put_nd {m : IM} (k : Int) (d : D) (h : (keysI m).Nodup) : (keysI (putI m k d)).Nodup:=by
 unfold putI
 by_cases hh : hasI m k = true
 ·rw [if_pos hh]
  have e : keysI (m.map fun p=>if p.1 = k then (p.1, d) else p) = keysI m:=by
   unfold keysI
   rw [List.map_map]
   refine List.map_congr_left fun p _=>?_
   show (if p.1 = k then (p.1, d) else p).1 = p.1
   split <;> rfl
  rw [e]; exact h
 ·rw [if_neg hh]
  unfold keysI at *
  rw [List.map_append]
  refine List.nodup_append.mpr ⟨h, by simp, fun y hy z hz=>?_⟩
  have hz:=List.mem_singleton.mp hz
  rw [hz]
  rintro rfl
  exact hh (has_iff.mpr hy)
section
variable {P : Program} {w : World} {K : PySem.W.Frag} {mg : Str->Option Value} {base : Heap} {f : Addr} {fd : FuncData}
theorem sc_part_of : FnScope ["web", "place"] ["web", "place"] (defScope (top 22)):=⟨rfl, rfl, rfl, by decide +kernel, rfl, by decide +kernel, by decide +kernel⟩
theorem ok_part_of (F : Fun K "part_of" "part_of" (top 22) f fd) (B : Dl.Bn mg) (C_search : Dl.Cal P w K mg base 1 "search" ["steps", "start"] (spD fSearch)) (C_steps_of_web : Dl.Cal P w K mg base 1 "steps_of_web" ["web"] (spD fSteps)) : FnOk P w K mg base CX0 2 f fd ["web", "place"] (spD fPart):=by
 refine F.ok sc_part_of (len_spD fun ds P h=>?len) (fun cdv A outer s H vs Q E hr h=>?_)
 case len=>(first | (obtain ⟨_, rfl, _⟩:=h; rfl) | (obtain ⟨_, _, rfl, _⟩:=h; rfl) | (obtain ⟨_, _, _, rfl, _⟩:=h; rfl) | (obtain ⟨_, _, _, _, rfl, _⟩:=h; rfl) | (obtain ⟨_, _, _, _, _, rfl, _⟩:=h; rfl) | (obtain ⟨_, _, _, _, _, _, rfl, _⟩:=h; rfl) | (obtain ⟨rfl, _⟩:=h; rfl))
 have nd:=sc_part_of.nd
 refine ⟨_, Wr.WDSs.h (Wr.ds_one (Wr.ds_ret (Wr.pd_sortD rfl B.sorted (Wr.pda_cons (Wr.dc C_search hr (Wr.pda_cons (Wr.dc C_steps_of_web hr (Wr.pda_cons (Wr.dv 0) Wr.pda_nil)) (Wr.pda_cons (Wr.dv 1) Wr.pda_nil))) Wr.pda_nil)))), enterE h ?_⟩
 rintro ds P ⟨n, us, a, rfl, n1, n16, lu, ok, a0, a1, q⟩
 refine ⟨[.im (webD n us), .im (.int a)], ?_, ?_⟩
 ·show [argS (webD n us), .im (.int a)] = _
  rw [arg_web]
 have an:=adj_rng (F:=[]) (B:=[]) ok (by omega)
 refine ⟨n, us, rfl, by omega, by omega, lu, ok, fun S hS=>⟨n.toNat, _, us, S, a, rfl, by omega, hS, a0, by omega, fun m im nd few all _=>⟨m, rfl, by omega, fun out hp hs=>⟨rfl, ?_⟩⟩⟩⟩
 have e:=rs_eq (vs:=adj us [] []) (n:=n.toNat) (a:=a) hp hs nd (fun x=>by rw [← all, has_iff]; rfl) fun x r=>r.rng (fun t ht=>(an t ht).2) ⟨a0, by omega⟩
 rw [e]
 exact q
theorem sc_parts : FnScope ["web", "told", "seen", "place", "part", "member"] ["web"] (defScope (top 23)):=⟨rfl, rfl, rfl, by decide +kernel, rfl, by decide +kernel, by decide +kernel⟩
theorem ok_parts (F : Fun K "parts" "parts" (top 23) f fd) (B : Dl.Bn mg) (C_part_of : Dl.Cal P w K mg base 2 "part_of" ["web", "place"] (spD fPart)) : FnOk P w K mg base CX0 3 f fd ["web"] (spD fParts):=by
 refine F.ok sc_parts (len_spD fun ds P h=>?len) (fun cdv A outer s H vs Q E hr h=>?_)
 case len=>(first | (obtain ⟨_, rfl, _⟩:=h; rfl) | (obtain ⟨_, _, rfl, _⟩:=h; rfl) | (obtain ⟨_, _, _, rfl, _⟩:=h; rfl) | (obtain ⟨_, _, _, _, rfl, _⟩:=h; rfl) | (obtain ⟨_, _, _, _, _, rfl, _⟩:=h; rfl) | (obtain ⟨_, _, _, _, _, _, rfl, _⟩:=h; rfl) | (obtain ⟨rfl, _⟩:=h; rfl))
 have nd:=sc_parts.nd
 refine ⟨_, Wr.WDSs.h (Wr.ds_cons (Wr.ds_set (some 0) (i:=1) nd rfl (by first | exact Or.inl rfl | exact Or.inr rfl) (Wr.pd_list Wr.pda_nil))
  (Wr.ds_sp 1 true (Wr.ds_cons (Wr.ds_set (some 1) (i:=2) nd rfl (by first | exact Or.inl rfl | exact Or.inr rfl) Wr.pd_dnil)
  (Wr.ds_cons (Wr.ds_for PassesOwn.never rfl (Wr.di_range1 B.range (Wr.pda_cons (Wr.pd_ix (Wr.dv 0) Wr.pd_int) Wr.pda_nil)) (Wr.dg_name (i:=3) nd rfl (by first | exact Or.inl rfl | exact Or.inr rfl)) (Wr.ds_cons (Wr.ds_if (Wr.pdt_notinD hr.units (Wr.dv 3) (Wr.dv 2)) (Wr.ds_cons (Wr.ds_set none (i:=4) nd rfl (by first | exact Or.inl rfl | exact Or.inr rfl) (Wr.dc C_part_of hr (Wr.pda_cons (Wr.dv 0) (Wr.pda_cons (Wr.dv 3) Wr.pda_nil))))
  (Wr.ds_cons (Wr.ds_appS (Wr.wv 1) (Wr.pda_cons (Wr.dv 4) Wr.pda_nil))
  (Wr.ds_cons (Wr.ds_for PassesOwn.never rfl (Wr.di_seq (Wr.dv 4)) (Wr.dg_name (i:=5) nd rfl (by first | exact Or.inl rfl | exact Or.inr rfl)) (Wr.ds_cons (Wr.ds_dput hr.units (Wr.wv 2) (Wr.dv 5) Wr.pd_bl) (Wr.ds_drops [5] Wr.ds_nil))) (Wr.ds_drops [5] Wr.ds_nil)))) Wr.ds_nil) (Wr.ds_drops [3, 4, 5] Wr.ds_nil)))
  (Wr.ds_drops [3, 4, 5] (Wr.ds_one (Wr.ds_ret (Wr.dv 1)))))))), enterE h ?_⟩
 rintro ds P ⟨n, us, rfl, n1, n16, lu, ok, q⟩
 refine ⟨[.im (webD n us), .any, .any, .any, .any, .any], ?_, ?_⟩
 ·show [argS (webD n us), .any, .any, .any, .any, .any] = _
  rw [arg_web]
 have an:=adj_rng (F:=[]) (B:=[]) ok (by omega)
 have sy:=adj_sym (us:=us) (F:=[])
 generalize hes : adj us [] [] = es at an sy q
 refine ⟨(show 0<=1000 by decide), rfl, .int n, rfl, ⟨by omega, by omega⟩, rfl, fun (i : Nat) ρ=>∃ m, ρ = [.im (webD n us), .sp 0 true ((clsI (RB es) n.toNat i).map iD), .dw 1 (.dict (kvD m)), .any, .any, .any]/\Seen n.toNat es i m, ⟨[], rfl, rfl, by simp [keysI], fun x hx=>(nomatch hx), fun x=>⟨fun z=>(nomatch z), fun ⟨p, hp, _⟩=>absurd hp (Nat.not_lt_zero _)⟩⟩, ?_, ?_⟩
 ·rintro i d ρ hd ⟨m, rfl, h⟩
  obtain ⟨hi, rfl⟩:=intsD_get hd
  have ec:=cls_snoc (RB es) hi
  have hl:=cls_len (RB es) n.toNat i
  refine ⟨m, rfl, ?_⟩
  show if (!hasI m (0 + ((i : Nat) : Int))) = true then _ else _
  rw [Int.zero_add]
  have hf : isFst (RB es) n.toNat i = !hasI m ((i : Nat) : Int):=by
   rw [Bool.eq_iff_iff, fst_iff hi (RB_self es i), Bool.not_eq_true', ← Bool.not_eq_true, has_iff, h.is]
   constructor
   ·rintro z ⟨p, hp, r⟩
    have:=z p hp
    rw [RB_iff.mpr r, RB_iff.mpr (r.sym sy)] at this
    cases this
   ·intro z b hb
    rw [Bool.and_eq_false_iff, ← Bool.not_eq_true, ← Bool.not_eq_true, RB_iff, RB_iff]
    exact .inr fun r=>z ⟨b, hb, r⟩
  cases hb : hasI m ((i : Nat) : Int) with
  | true =>
   rw [hf, hb, if_neg (by decide), List.append_nil] at ec
   refine iteF (A:=True) ⟨m, ?_, h.im, h.nd, h.rng, fun x=>?_⟩
   ·rw [ec]
    rfl
   ·rw [h.is]
    constructor
    ·rintro ⟨p, hp, r⟩
     exact ⟨p, by omega, r⟩
    ·rintro ⟨p, hp, r⟩
     by_cases e : p = i
     ·subst e
      obtain ⟨p', hp', r'⟩:=(h.is _).mp (has_iff.mp hb)
      exact ⟨p', hp', r'.trans r⟩
     ·exact ⟨p, by omega, r⟩
  | false =>
   rw [hf, hb, if_pos (by decide)] at ec
   refine iteT (B:=True) ⟨n, us, _, rfl, by omega, by omega, lu, ok, by omega, by omega, ?_⟩
   rw [hes]
   have pm : ∀ x, x∈rsI es n.toNat ((i : Nat) : Int)↔Rt es ((i : Nat) : Int) x:=fun x=>by
    rw [mem_rs]
    exact ⟨fun z=>z.2, fun r=>⟨r.rng (fun t ht=>(an t ht).2) ⟨by omega, by omega⟩, r⟩⟩
   rw [← mine_rs sy] at ec
   have pl:=rs_len es n.toNat ((i : Nat) : Int)
   generalize rsI es n.toNat ((i : Nat) : Int) = pt at ec pm pl
   refine ⟨rfl, by rw [List.length_map]; omega, ?_⟩
   refine ⟨rfl, fun (j : Nat) ρ=>∃ m', ρ = [.im (webD n us), .sp 0 true ((clsI (RB es) n.toNat (i + 1)).map iD), .dw 1 (.dict (kvD m')), .im (.int ((i : Nat) : Int)), .sn (iD pt), .any]/\immI m' = true/\(keysI m').Nodup/\∀ x, x∈keysI m'↔x∈keysI m\/x∈pt.take j, ⟨m, ?_, h.im, h.nd, fun x=>⟨.inl, fun z=>z.elim id fun z=>nomatch z⟩⟩, ?_, ?_⟩
   ·rw [ec, List.map_append]
    rfl
   ·rintro j d ρ hd ⟨m', rfl, im', nd', is'⟩
    obtain ⟨x, hx, rfl⟩:=map_get hd
    have xr:=(pm x).mp (List.mem_of_getElem? hx)
    have tk : pt.take (j + 1) = pt.take j ++ [x]:=by rw [List.take_add_one, hx]; rfl
    have ln:=nodup_le nd' fun y hy=>show 0<=y/\y < n.toNat from by
     rcases (is' y).mp hy with z | z
     ·exact h.rng y z
     ·exact ((pm y).mp (List.mem_of_mem_take z)).rng (fun t ht=>(an t ht).2) ⟨by omega, by omega⟩
    unfold keysI at ln
    rw [List.length_map] at ln
    refine ⟨m', rfl, rfl, im', by omega, putI m' x (.bool true), rfl, put_imm _ _ im' rfl, put_nd _ _ nd', fun y=>?_⟩
    rw [put_keys, is', tk, List.mem_append, List.mem_singleton, or_assoc]
   ·rintro ρ ⟨m', rfl, im', nd', is'⟩
    rw [List.length_map, List.take_length] at is'
    refine ⟨m', rfl, im', nd', fun y hy=>?_, fun x=>?_⟩
    ·rcases (is' y).mp hy with z | z
     ·exact h.rng y z
     ·exact ((pm y).mp z).rng (fun t ht=>(an t ht).2) ⟨by omega, by omega⟩
    ·rw [is', h.is, pm]
     constructor
     ·rintro (⟨p, hp, r⟩ | r)
      ·exact ⟨p, by omega, r⟩
      ·exact ⟨i, by omega, r⟩
     ·rintro ⟨p, hp, r⟩
      by_cases e : p = i
      ·subst e; exact .inr r
      ·exact .inl ⟨p, by omega, r⟩
 ·rintro ρ ⟨m, rfl, h⟩
  rw [len_intsD]
  exact ⟨rfl, q⟩
end
inductive Wy (ws : List Tie) (a : Int) : List Int->List Int->Int->Prop
 | one : Wy ws a [a] [] a
 | step {ps ks : List Int} {p x k : Int} (h : Wy ws a ps ks p) (hx : x∉ps) (j : Jn ws p x k) : Wy ws a (ps ++ [x]) (ks ++ [k]) x
inductive TR (m : IM) : List Int->List Int->Int->Prop
 | one {a : Int} (h : getI m a = some .none) : TR m [a] [] a
 | step {ps ks : List Int} {p x k : Int} (h : TR m ps ks p) (g : getI m x = some (.tuple [.int p, .int k])) : TR m (ps ++ [x]) (ks ++ [k]) x
theorem get_snoc {m : IM} {x : Int} {e : D} {q : Int × D} (h : getI m x = some e) : getI (m ++ [q]) x = some e:=by
 unfold getI at h ⊢
 rw [List.find?_append]
 cases hf : m.find? fun p=>decide (p.1 = x) with
 | none=>rw [hf] at h; cases h
 | some z=>rw [hf] at h; exact h
theorem get_new {m : IM} {y : Int} {d : D} (hx : y∉keysI m) : getI (m ++ [(y, d)]) y = some d:=by
 unfold getI
 have hf : (m.find? fun p=>decide (p.1 = y)) = none:=List.find?_eq_none.mpr fun p hp z=>hx (List.mem_map.mpr ⟨p, hp, of_decide_eq_true z⟩)
 rw [List.find?_append, hf]
 show ((List.find? (fun p=>decide (p.1 = y)) [(y, d)])).map (·.2) = some d
 rw [List.find?_cons_of_pos (by exact decide_eq_true rfl)]
 rfl
theorem TR.snoc {m : IM} {q : Int × D} {ps ks : List Int} {x : Int} (h : TR m ps ks x) : TR (m ++ [q]) ps ks x:=by
 induction h with
 | one h=>exact .one (get_snoc h)
 | step _ g ih=>exact .step ih (get_snoc g)
theorem Cm.tr {ws : List Tie} {a : Int} {m : IM} (h : Cm ws a m) : ∀ x∈keysI m, ∃ ps ks, Wy ws a ps ks x/\TR m ps ks x/\(∀ y∈ps, y∈keysI m)/\ps.length<=m.length/\ks.length<=m.length:=by
 induction h with
 | base =>
  intro x hx
  have e : x = a:=by simpa [keysI] using hx
  subst e
  exact ⟨[x], [], .one, .one (by unfold getI; rw [List.find?_cons_of_pos (by exact decide_eq_true rfl)]; rfl), fun y hy=>by rw [List.mem_singleton.mp hy]; simp [keysI], Nat.le_refl _, Nat.zero_le _⟩
 | @snoc m x0 p k h hp hx j ih =>
  have kk : keysI (m ++ [(x0, .tuple [.int p, .int k])]) = keysI m ++ [x0]:=by unfold keysI; rw [List.map_append]; rfl
  intro x hxm
  rw [kk] at hxm
  rcases List.mem_append.mp hxm with z | z
  ·obtain ⟨ps, ks, w, t, hs, l1, l2⟩:=ih x z
   exact ⟨ps, ks, w, t.snoc, fun y hy=>by rw [kk]; exact List.mem_append_left _ (hs y hy), by rw [List.length_append]; omega, by rw [List.length_append]; omega⟩
  ·rw [List.mem_singleton.mp z]
   obtain ⟨ps, ks, w, t, hs, l1, l2⟩:=ih p hp
   refine ⟨ps ++ [x0], ks ++ [k], .step w (fun q=>hx (hs _ q)) j, .step t.snoc (get_new hx), fun y hy=>?_, by rw [List.length_append, List.length_append]; simpa using l1, by rw [List.length_append, List.length_append]; simpa using l2⟩
   rw [kk]
   rcases List.mem_append.mp hy with q | q
   ·exact List.mem_append_left _ (hs y q)
   ·exact List.mem_append_right _ q
theorem TR.val {m : IM} {ps ks : List Int} {x : Int} (h : TR m ps ks x) : ∃ d, getI m x = some d/\((d = .none/\ps = [x]/\ks = [])\/∃ ps' ks' p k, d = .tuple [.int p, .int k]/\ps = ps' ++ [x]/\ks = ks' ++ [k]/\TR m ps' ks' p):=by
 cases h with
 | one h=>exact ⟨_, h, .inl ⟨rfl, rfl, rfl⟩⟩
 | step h g=>exact ⟨_, g, .inr ⟨_, _, _, _, rfl, rfl, rfl, h⟩⟩
theorem Jn.edge {ws : List Tie} {p x k : Int} (j : Jn ws p x k) : (p, x)∈adj ws [] []:=by
 obtain ⟨i, _, e | e⟩:=j
 ·exact adj_mem.mpr (.inl (List.mem_of_getElem? e))
 ·exact adj_mem.mpr (.inr (List.mem_of_getElem? e))
theorem Wy.rt {ws : List Tie} {a : Int} {ps ks : List Int} {x : Int} (h : Wy ws a ps ks x) : Rt (adj ws [] []) a x:=by
 induction h with
 | one=>exact .refl _
 | step _ _ j ih=>exact .step ih j.edge
noncomputable def fTrace (ds : List D) (P : D->Prop) : Prop:=∃ (ws : List Tie) (a : Int) (m : IM) (g : Int), ds = [.dict (kvD m), .int g]/\Cm ws a m/\m.length<=100/\(hasI m g = false->P .none)/\∀ ps ks, Wy ws a ps ks g->ps.length<=100->ks.length<=100->P (.tuple [iD ps, iD ks])
noncomputable def fWayK (ds : List D) (P : D->Prop) : Prop:=∃ n us a b, ds = [webD n us, .int a, .int b]/\0<=n/\n<=60/\us.length<=100/\OkN n us/\0<=a/\a < n/\0<=b/\b < n/\(¬ Rt (adj us [] []) a b->P .none)/\∀ ps ks, Rt (adj us [] []) a b->Wy us a ps ks b->ps.length<=100->ks.length<=100->P (.tuple [iD ps, iD ks])
section
variable {P : Program} {w : World} {K : PySem.W.Frag} {mg : Str->Option Value} {base : Heap} {f : Addr} {fd : FuncData}
theorem sc_trace : FnScope ["came", "goal", "places", "ties", "step"] ["came", "goal"] (defScope (top 21)):=⟨rfl, rfl, rfl, by decide +kernel, rfl, by decide +kernel, by decide +kernel⟩
theorem ok_trace (F : Fun K "trace" "trace" (top 21) f fd) (B : Dl.Bn mg) (m_reversed : mg "reversed" = none) : FnOk P w K mg base CX0 1 f fd ["came", "goal"] (spD fTrace):=by
 refine F.ok sc_trace (len_spD fun ds P h=>?len) (fun cdv A outer s H vs Q E hr h=>?_)
 case len=>(first | (obtain ⟨_, rfl, _⟩:=h; rfl) | (obtain ⟨_, _, rfl, _⟩:=h; rfl) | (obtain ⟨_, _, _, rfl, _⟩:=h; rfl) | (obtain ⟨_, _, _, _, rfl, _⟩:=h; rfl) | (obtain ⟨_, _, _, _, _, rfl, _⟩:=h; rfl) | (obtain ⟨_, _, _, _, _, _, rfl, _⟩:=h; rfl) | (obtain ⟨rfl, _⟩:=h; rfl))
 have nd:=sc_trace.nd
 refine ⟨_, Wr.WDSs.h (Wr.ds_cons (Wr.ds_if (Wr.pdt_notinD hr.units (Wr.dv 1) (Wr.dv 0)) (Wr.ds_one (Wr.ds_ret Wr.pd_non)) Wr.ds_nil)
  (Wr.ds_cons (Wr.ds_set (some 0) (i:=2) nd rfl (by first | exact Or.inl rfl | exact Or.inr rfl) (Wr.pd_list (Wr.pda_cons (Wr.dv 1) Wr.pda_nil)))
  (Wr.ds_cons (Wr.ds_set (some 1) (i:=3) nd rfl (by first | exact Or.inl rfl | exact Or.inr rfl) (Wr.pd_list Wr.pda_nil))
  (Wr.ds_cons (Wr.ds_set none (i:=4) nd rfl (by first | exact Or.inl rfl | exact Or.inr rfl) (Wr.pd_dget hr.units (Wr.dv 0) (Wr.dv 1)))
  (Wr.ds_cons (Wr.ds_while PassesOwn.never (Wr.pdt_isnotN (Wr.dv 4) Wr.pd_non) (Wr.ds_cons (Wr.ds_append (Wr.wv 2) (Wr.pda_cons (Wr.pd_ix (Wr.dv 4) Wr.pd_int) Wr.pda_nil))
  (Wr.ds_cons (Wr.ds_append (Wr.wv 3) (Wr.pda_cons (Wr.pd_ix (Wr.dv 4) Wr.pd_int) Wr.pda_nil))
  (Wr.ds_one (Wr.ds_set none (i:=4) nd rfl (by first | exact Or.inl rfl | exact Or.inr rfl) (Wr.pd_dget hr.units (Wr.dv 0) (Wr.pd_ix (Wr.dv 4) Wr.pd_int)))))))
  (Wr.ds_drops [4] (Wr.ds_one (Wr.ds_ret (Wr.pd_tuple (Wr.pda_cons (Wr.pd_listrev rfl B.list m_reversed (Wr.pda_cons (Wr.dv 2) Wr.pda_nil)) (Wr.pda_cons (Wr.pd_listrev rfl B.list m_reversed (Wr.pda_cons (Wr.dv 3) Wr.pda_nil)) Wr.pda_nil))))))))))), enterE h ?_⟩
 rintro ds P ⟨ws, a, m, g, rfl, C, lm, qn, qs⟩
 refine ⟨[.sh (.dict (kvD m)), .im (.int g), .any, .any, .any], rfl, m, rfl, ?_⟩
 show if (!hasI m g) = true then _ else _
 cases hb : hasI m g with
 | false=>exact iteT (B:=True) ⟨rfl, qn hb⟩
 | true =>
  obtain ⟨ps, ks, W, T, _, l1, l2⟩:=C.tr g (has_iff.mp hb)
  have q:=qs ps ks W (by omega) (by omega)
  obtain ⟨d0, hg0, hv0⟩:=T.val
  have im0 : ∀ k, norm k d0 = .imm:=fun k=>by
   rcases hv0 with ⟨rfl, _⟩ | ⟨_, _, p, k2, rfl, _⟩
   ·exact norm_pos rfl
   ·exact norm_pos rfl
  refine iteF (A:=True) ⟨(show 1<=1000 by decide), (show 0<=1000 by decide), m, d0, rfl, hg0, ?_⟩
  show dSet 4 none (fun _ P=>P (norm .shr d0) d0) _ _
  unfold dSet
  simp only [im0]
  show dSeq _ _ _ [.sh (.dict (kvD m)), .im (.int g), .dw 0 (iD [g]), .dw 1 (iD []), .im d0]
  refine ⟨fun mm ρ=>∃ (c : Int) (p1 k1 S T : List Int) (d : D), ρ = [.sh (.dict (kvD m)), .im (.int g), .dw 0 (iD (S.reverse ++ [c])), .dw 1 (iD T.reverse), .im d]/\TR m p1 k1 c/\getI m c = some d/\p1 ++ S = ps/\k1 ++ T = ks/\mm = p1.length, ⟨_, g, ps, ks, [], [], d0, rfl, T, hg0, List.append_nil _, List.append_nil _, rfl⟩, ?_⟩
  rintro mm ρ ⟨c, p1, k1, S, T', d, rfl, t, hg, e1, e2, rfl⟩
  have L1 : (S.reverse ++ [c]).length<=101:=by
   have h1:=congrArg List.length e1
   rw [List.length_append] at h1
   rw [List.length_append, List.length_reverse, List.length_singleton]
   omega
  have L2 : T'.reverse.length<=100:=by
   have h1:=congrArg List.length e2
   rw [List.length_append] at h1
   rw [List.length_reverse]
   omega
  obtain ⟨d2, hg2, hv⟩:=t.val
  rw [hg] at hg2
  cases hg2
  rcases hv with ⟨rfl, rfl, rfl⟩ | ⟨p', k', p, k, rfl, rfl, rfl, t'⟩
  ·have r1 : ((S.reverse ++ [c]).map PyData.int).reverse = ps.map PyData.int:=by
    rw [← List.map_reverse, List.reverse_append, List.reverse_reverse, ← e1]
    rfl
   have r2 : (T'.reverse.map PyData.int).reverse = ks.map PyData.int:=by
    rw [← List.map_reverse, List.reverse_reverse, ← e2]
    rfl
   refine iteF (A:=True) (.inl ⟨by rw [r1]; exact imm_ints _, .inl ⟨by rw [r2]; exact imm_ints _, (show 2<=1000 by decide), rfl, ?_⟩⟩)
   show P (.tuple [.list ((S.reverse ++ [c]).map PyData.int).reverse, .list (T'.reverse.map PyData.int).reverse])
   rw [r1, r2]
   exact q
  ·obtain ⟨d3, hg3, hv3⟩:=t'.val
   have im3 : ∀ k, norm k d3 = .imm:=fun k=>by
    rcases hv3 with ⟨rfl, _⟩ | ⟨_, _, _, _, rfl, _⟩
    ·exact norm_pos rfl
    ·exact norm_pos rfl
   refine iteT (B:=True) ⟨.int p, rfl, rfl, by rw [List.length_map]; omega, .int k, rfl, rfl, by rw [List.length_map]; omega, .int p, rfl, m, d3, rfl, hg3, ?_⟩
   simp only [im3]
   refine ⟨p'.length, by rw [List.length_append, List.length_singleton]; omega, p, p', k', c :: S, k :: T', d3, ?_, t', hg3, by rw [← e1, List.append_assoc]; rfl, by rw [← e2, List.append_assoc]; rfl, rfl⟩
   have r1 : (S.reverse ++ [c]).map PyData.int ++ [PyData.int p] = ((c :: S).reverse ++ [p]).map PyData.int:=by
    rw [List.reverse_cons, List.map_append (l₂:=[p])]
    rfl
   have r2 : T'.reverse.map PyData.int ++ [PyData.int k] = (k :: T').reverse.map PyData.int:=by
    rw [List.reverse_cons, List.map_append]
    rfl
   show ([_, _, Sl.dw 0 (.list ((S.reverse ++ [c]).map PyData.int ++ [PyData.int p])), Sl.dw 1 (.list (T'.reverse.map PyData.int ++ [PyData.int k])), _] : List Sl) = [_, _, Sl.dw 0 (.list (((c :: S).reverse ++ [p]).map PyData.int)), Sl.dw 1 (.list ((k :: T').reverse.map PyData.int)), _]
   rw [r1, r2]
   rfl
theorem sc_way : FnScope ["web", "a", "b"] ["web", "a", "b"] (defScope (top 24)):=⟨rfl, rfl, rfl, by decide +kernel, rfl, by decide +kernel, by decide +kernel⟩
theorem ok_way (F : Fun K "way" "way" (top 24) f fd) (B : Dl.Bn mg) (C_check_place : Dl.Cal P w K mg base 4 "check_place" ["web", "thing"] (spD fCkP)) (C_trace : Dl.Cal P w K mg base 1 "trace" ["came", "goal"] (spD fTrace)) (C_search : Dl.Cal P w K mg base 1 "search" ["steps", "start"] (spD fSearch)) (C_steps_of_web : Dl.Cal P w K mg base 1 "steps_of_web" ["web"] (spD fSteps)) : FnOk P w K mg base CX0 5 f fd ["web", "a", "b"] (spD fWayK):=by
 refine F.ok sc_way (len_spD fun ds P h=>?len) (fun cdv A outer s H vs Q E hr h=>?_)
 case len=>(first | (obtain ⟨_, rfl, _⟩:=h; rfl) | (obtain ⟨_, _, rfl, _⟩:=h; rfl) | (obtain ⟨_, _, _, rfl, _⟩:=h; rfl) | (obtain ⟨_, _, _, _, rfl, _⟩:=h; rfl) | (obtain ⟨_, _, _, _, _, rfl, _⟩:=h; rfl) | (obtain ⟨_, _, _, _, _, _, rfl, _⟩:=h; rfl) | (obtain ⟨rfl, _⟩:=h; rfl))
 have nd:=sc_way.nd
 refine ⟨_, Wr.WDSs.h (Wr.ds_cons (Wr.ds_expr (Wr.dc C_check_place hr (Wr.pda_cons (Wr.dv 0) (Wr.pda_cons (Wr.dv 1) Wr.pda_nil))))
  (Wr.ds_cons (Wr.ds_expr (Wr.dc C_check_place hr (Wr.pda_cons (Wr.dv 0) (Wr.pda_cons (Wr.dv 2) Wr.pda_nil))))
  (Wr.ds_one (Wr.ds_ret (Wr.dc C_trace hr (Wr.pda_cons (Wr.dc C_search hr (Wr.pda_cons (Wr.dc C_steps_of_web hr (Wr.pda_cons (Wr.dv 0) Wr.pda_nil)) (Wr.pda_cons (Wr.dv 1) Wr.pda_nil))) (Wr.pda_cons (Wr.dv 2) Wr.pda_nil))))))), enterE h ?_⟩
 rintro ds P ⟨n, us, a, b, rfl, n0, n60, lu, ok, a0, a1, b0, b1, qn, qs⟩
 refine ⟨[.im (webD n us), .im (.int a), .im (.int b)], by show [argS (webD n us), .im (.int a), .im (.int b)] = _; rw [arg_web], ?_⟩
 refine ⟨n, us, a, rfl, a0, a1, n, us, b, rfl, b0, b1, n, us, rfl, n0, by omega, lu, ok, fun S hS=>⟨n.toNat, _, us, S, a, rfl, by omega, hS, a0, by omega, fun m im nd few all cm=>⟨us, a, m, b, rfl, cm, by omega, fun hb=>?_, fun ps ks W l1 l2=>?_⟩⟩⟩
 ·exact ⟨rfl, qn fun r=>by rw [(all b).mpr r] at hb; cases hb⟩
 ·exact ⟨rfl, qs ps ks W.rt W l1 l2⟩
end
theorem enum_zip (us : List Tie) : enumD (us.map pD) = us.zipIdx.map fun p=>PyData.tuple [.int ((p.2 : Nat) : Int), pD p.1]:=by
 refine List.ext_getElem? fun i=>?_
 rw [enumD_get, List.getElem?_map, List.getElem?_map, List.getElem?_zipIdx]
 cases us[i]? with
 | none=>rfl
 | some t=>simp
noncomputable def wo (us : List Tie) (F : List Int) : List Tie:=(us.zipIdx.filter fun p=>decide (((p.2 : Nat) : Int)∉F)).map (·.1)
theorem mem_wo {us : List Tie} {F : List Int} {t : Tie} : t∈wo us F↔∃ k : Nat, us[k]? = some t/\((k : Nat) : Int)∉F:=by
 unfold wo
 rw [List.mem_map]
 constructor
 ·rintro ⟨⟨u, k⟩, h, rfl⟩
  rw [List.mem_filter] at h
  exact ⟨k, List.mem_zipIdx_iff_getElem?.mp h.1, of_decide_eq_true h.2⟩
 ·rintro ⟨k, h, hF⟩
  exact ⟨(t, k), List.mem_filter.mpr ⟨List.mem_zipIdx_iff_getElem?.mpr h, decide_eq_true hF⟩, rfl⟩
theorem wo_len (us : List Tie) (F : List Int) : (wo us F).length<=us.length:=by
 unfold wo
 rw [List.length_map]
 have:=List.length_filter_le (fun p : Tie × Nat=>decide (((p.2 : Nat) : Int)∉F)) us.zipIdx
 rw [List.length_zipIdx] at this
 exact this
theorem wo_ok {n : Int} {us : List Tie} {F : List Int} (h : OkN n us) : OkN n (wo us F):=fun t ht=>by
 obtain ⟨k, e, _⟩:=mem_wo.mp ht
 exact h t (List.mem_of_getElem? e)
theorem wo_adj {us : List Tie} {F : List Int} {x y : Int} : (x, y)∈adj (wo us F) [] []↔(x, y)∈adj us F []:=by
 rw [adj_mem, mem_wo, mem_wo, mem_adj]
 constructor
 ·rintro (⟨k, e, h⟩ | ⟨k, e, h⟩)
  ·exact ⟨k, .inl e, h, List.not_mem_nil⟩
  ·exact ⟨k, .inr e, h, List.not_mem_nil⟩
 ·rintro ⟨k, e | e, h, _⟩
  ·exact .inl ⟨k, e, h⟩
  ·exact .inr ⟨k, e, h⟩
theorem rt_wo {us : List Tie} {F : List Int} {a b : Int} : Rt (adj (wo us F) [] []) a b↔Rt (adj us F []) a b:=⟨Rt.mono fun ⟨_, _⟩ h=>wo_adj.mp h, Rt.mono fun ⟨_, _⟩ h=>wo_adj.mpr h⟩
noncomputable def brK (us : List Tie) (k : Nat) : Bool:=match us[k]? with
 | some t=>!RZ (adj us [((k : Nat) : Int)] []) t.1 t.2
 | none=>false
noncomputable def cutsI (us : List Tie) : List Int:=zI ((List.range us.length).filter (brK us))
theorem mem_cuts {us : List Tie} {k : Nat} : ((k : Nat) : Int)∈cutsI us↔brK us k = true:=by
 unfold cutsI
 rw [mem_zI, List.mem_filter, List.mem_range]
 have e : ((k : Nat) : Int).toNat = k:=by omega
 rw [e]
 refine ⟨fun h=>h.2.2, fun h=>⟨by omega, ?_, h⟩⟩
 unfold brK at h
 cases e : us[k]? with
 | none=>rw [e] at h; cases h
 | some t=>exact (List.getElem?_eq_some_iff.mp e).1
noncomputable def fCkT (ds : List D) (P : D->Prop) : Prop:=∃ n us i, ds = [webD n us, .int i]/\0<=i/\i < (us.length : Nat)/\P .none
noncomputable def fWo (ds : List D) (P : D->Prop) : Prop:=∃ n us F, ds = [webD n us, iD F]/\us.length<=100/\P (webD n (wo us F))
noncomputable def fSide (ds : List D) (P : D->Prop) : Prop:=∃ n us k t, ds = [webD n us, .int ((k : Nat) : Int)]/\us[k]? = some t/\1<=n/\n<=60/\us.length<=100/\OkN n us/\P (if RZ (adj us [((k : Nat) : Int)] []) t.1 t.2 = true then .none else iD (rsI (adj us [((k : Nat) : Int)] []) n.toNat t.1))
noncomputable def fCuts (ds : List D) (P : D->Prop) : Prop:=∃ n us, ds = [webD n us]/\1<=n/\n<=60/\us.length<=100/\OkN n us/\P (iD (cutsI us))
theorem dset_of {P : DEnds} {ρ : List Sl} {rg : Option Nat} {i : Nat} {k : Kd} {d : D} {s : Sl} (e : stK rg ρ i (norm k d) d = some s) (h : P.nx (ρ.set i s)) : (match stK rg ρ i (norm k d) d with
 | some s=>P.nx (ρ.set i s)
 | none=>False):=by
 rw [e]
 exact h
noncomputable def noV (us : List Tie) (v : Int) : List Tie:=us.filter fun t=>!decide (v = t.1\/v = t.2)
noncomputable def RV (us : List Tie) (v : Nat) : Nat->Nat->Bool:=RB (adj (noV us ((v : Nat) : Int)) [] [])
noncomputable def pwI (n : Nat) (us : List Tie) (v : Nat) : List (List Int):=(((List.range n).filter (isFst (RV us v) n)).filter fun a=>decide (a≠v)).map fun a=>zI (mineN (RV us v) n a)
theorem noV_ok {n : Int} {us : List Tie} (ok : OkN n us) (v : Int) : OkN n (noV us v):=fun t ht=>ok t ((List.mem_filter.mp ht).1)
theorem noV_len (us : List Tie) (v : Int) : (noV us v).length<=us.length:=List.length_filter_le _ _
theorem noV_adj {us : List Tie} {v x y : Int} : (x, y)∈adj (noV us v) [] []↔(x, y)∈adj us [] []/\x≠v/\y≠v:=by
 have key : ∀ (ws : List Tie), (x, y)∈adj ws [] []↔(x, y)∈ws\/(y, x)∈ws:=fun ws=>by
  rw [mem_adj]
  constructor
  ·rintro ⟨k, e | e, _⟩
   ·exact .inl (List.mem_of_getElem? e)
   ·exact .inr (List.mem_of_getElem? e)
  ·rintro (e | e)
   ·obtain ⟨k, hk⟩:=List.getElem?_of_mem e
    exact ⟨k, .inl hk, List.not_mem_nil, List.not_mem_nil⟩
   ·obtain ⟨k, hk⟩:=List.getElem?_of_mem e
    exact ⟨k, .inr hk, List.not_mem_nil, List.not_mem_nil⟩
 have fl : ∀ a b : Int, ((a, b) : Tie)∈noV us v↔(a, b)∈us/\a≠v/\b≠v:=fun a b=>by
  unfold noV
  rw [List.mem_filter]
  simp only [Bool.not_eq_true', decide_eq_false_iff_not, not_or]
  constructor
  ·rintro ⟨h, h1, h2⟩
   exact ⟨h, fun z=>h1 z.symm, fun z=>h2 z.symm⟩
  ·rintro ⟨h, h1, h2⟩
   exact ⟨h, fun z=>h1 z.symm, fun z=>h2 z.symm⟩
 rw [key, key, fl, fl]
 constructor
 ·rintro (⟨h, a, b⟩ | ⟨h, a, b⟩)
  ·exact ⟨.inl h, a, b⟩
  ·exact ⟨.inr h, b, a⟩
 ·rintro ⟨h | h, a, b⟩
  ·exact .inl ⟨h, a, b⟩
  ·exact .inr ⟨h, b, a⟩
theorem noV_alone {us : List Tie} {v a : Int} (r : Rt (adj (noV us v) [] []) a v) : a = v:=by
 cases r with
 | refl=>rfl
 | step r t=>exact absurd rfl (noV_adj.mp t).2.2
theorem noV_from {us : List Tie} {v a : Int} (r : Rt (adj (noV us v) [] []) v a) : a = v:=noV_alone (r.sym adj_sym)
theorem pw_eq {n : Nat} {us : List Tie} {v : Nat} (hv : v < n) : (clsI (RV us v) n n).filter (fun l=>!decide (((v : Nat) : Int)∈l)) = pwI n us v:=by
 unfold clsI pwI
 rw [List.take_of_length_le (by rw [List.length_range]; exact Nat.le_refl _), List.filter_map]
 congr 1
 refine List.filter_congr fun a ha=>?_
 show (!decide (((v : Nat) : Int)∈zI (mineN (RV us v) n a))) = decide (a≠v)
 have h : ((v : Nat) : Int)∈zI (mineN (RV us v) n a)↔a = v:=by
  rw [mem_zI]
  unfold mineN
  rw [List.mem_filter, Bool.and_eq_true]
  show 0<=((v : Nat) : Int)/\v∈List.range n/\RV us v a v = true/\RV us v v a = true↔_
  constructor
  ·rintro ⟨_, _, h, _⟩
   have:=noV_alone (RB_iff.mp h)
   omega
  ·rintro rfl
   exact ⟨by omega, List.mem_range.mpr hv, RB_self _ _, RB_self _ _⟩
 by_cases e : a = v
 ·rw [decide_eq_true (h.mpr e), decide_eq_false (fun z=>z e)]; rfl
 ·rw [decide_eq_false (fun z=>e (h.mp z)), decide_eq_true e]; rfl
theorem pw_len (n : Nat) (us : List Tie) (v : Nat) : (pwI n us v).length<=n:=by
 unfold pwI
 rw [List.length_map]
 have h1:=List.length_filter_le (fun a=>decide (a≠v)) ((List.range n).filter (isFst (RV us v) n))
 have h2:=List.length_filter_le (isFst (RV us v) n) (List.range n)
 rw [List.length_range] at h2
 omega
noncomputable def cutsP (n : Nat) (us : List Tie) : List Int:=zI ((List.range n).filter fun v=>decide ((clsI (RB (adj us [] [])) n n).length < (pwI n us v).length))
noncomputable def fPW (ds : List D) (P : D->Prop) : Prop:=∃ (n : Int) (us : List Tie) (v : Nat), ds = [webD n us, .int ((v : Nat) : Int)]/\1<=n/\n<=60/\us.length<=100/\OkN n us/\v < n.toNat/\P (.list ((pwI n.toNat us v).map iD))
noncomputable def fCutP (ds : List D) (P : D->Prop) : Prop:=∃ n us, ds = [webD n us]/\1<=n/\n<=60/\us.length<=100/\OkN n us/\P (iD (cutsP n.toNat us))
section
variable {P : Program} {w : World} {K : PySem.W.Frag} {mg : Str->Option Value} {base : Heap} {f : Addr} {fd : FuncData}
theorem sc_check_tie_number : FnScope ["web", "thing"] ["web", "thing"] (defScope (top 13)):=⟨rfl, rfl, rfl, by decide +kernel, rfl, by decide +kernel, by decide +kernel⟩
theorem ok_check_tie_number (F : Fun K "check_tie_number" "check_tie_number" (top 13) f fd) (B : Dl.Bn mg) (C_is_tie_number : Dl.Cal P w K mg base 3 "is_tie_number" ["web", "thing"] (spD fIsTN)) : FnOk P w K mg base CX0 4 f fd ["web", "thing"] (spD fCkT):=by
 refine F.ok sc_check_tie_number (len_spD fun ds P h=>?len) (fun cdv A outer s H vs Q E hr h=>?_)
 case len=>(first | (obtain ⟨_, rfl, _⟩:=h; rfl) | (obtain ⟨_, _, rfl, _⟩:=h; rfl) | (obtain ⟨_, _, _, rfl, _⟩:=h; rfl) | (obtain ⟨_, _, _, _, rfl, _⟩:=h; rfl) | (obtain ⟨_, _, _, _, _, rfl, _⟩:=h; rfl) | (obtain ⟨_, _, _, _, _, _, rfl, _⟩:=h; rfl) | (obtain ⟨rfl, _⟩:=h; rfl))
 have nd:=sc_check_tie_number.nd
 refine ⟨_, Wr.WDSs.h (Wr.ds_one (Wr.ds_if (Wr.pdt_not (Wr.pdt_val (Wr.dc C_is_tie_number hr (Wr.pda_cons (Wr.dv 0) (Wr.pda_cons (Wr.dv 1) Wr.pda_nil))))) (Wr.ds_one Wr.ds_never) Wr.ds_nil)), enterE h ?_⟩
 rintro ds P ⟨n, us, i, rfl, h0, h1, q⟩
 refine ⟨[.im (webD n us), .im (.int i)], by show [argS (webD n us), .im (.int i)] = _; rw [arg_web], ?_⟩
 refine ⟨n, us, .int i, rfl, ?_⟩
 show if (!decide (0<=i/\i < ((us.length : Nat) : Int))) = true then _ else _
 rw [decide_eq_true ⟨h0, h1⟩]
 exact iteF (A:=True) q
theorem sc_without_ties : FnScope ["web", "numbers"] ["web", "numbers"] (defScope (top 26)):=⟨rfl, rfl, rfl, by decide +kernel, rfl, by decide +kernel, by decide +kernel⟩
theorem nd_without_ties_0 : (["number", "tie", "web", "numbers"] : List Str).Nodup:=by decide +kernel
theorem ok_without_ties (F : Fun K "without_ties" "without_ties" (top 26) f fd) (B : Dl.Bn mg) (m_enumerate : mg "enumerate" = none) : FnOk P w K mg base CX0 1 f fd ["web", "numbers"] (spD fWo):=by
 refine F.ok sc_without_ties (len_spD fun ds P h=>?len) (fun cdv A outer s H vs Q E hr h=>?_)
 case len=>(first | (obtain ⟨_, rfl, _⟩:=h; rfl) | (obtain ⟨_, _, rfl, _⟩:=h; rfl) | (obtain ⟨_, _, _, rfl, _⟩:=h; rfl) | (obtain ⟨_, _, _, _, rfl, _⟩:=h; rfl) | (obtain ⟨_, _, _, _, _, rfl, _⟩:=h; rfl) | (obtain ⟨_, _, _, _, _, _, rfl, _⟩:=h; rfl) | (obtain ⟨rfl, _⟩:=h; rfl))
 have nd:=sc_without_ties.nd
 refine ⟨_, Wr.WDSs.h (Wr.ds_one (Wr.ds_ret (Wr.pd_tuple (Wr.pda_cons (Wr.pd_ix (Wr.dv 0) Wr.pd_int) (Wr.pda_cons (Wr.pd_tupC B.tuple (Wr.pda_cons (Wr.pd_lc ["number", "tie"] rfl (Wr.di_enum m_enumerate (Wr.pda_cons (Wr.pd_ix (Wr.dv 0) Wr.pd_int) Wr.pda_nil)) (fun c=>(Wr.dg_tup (n:=2) rfl (Wr.dgs_cons (Wr.dg_name (i:=0) nd_without_ties_0 rfl (by first | exact Or.inl rfl | exact Or.inr rfl)) (Wr.dgs_cons (Wr.dg_name (i:=1) nd_without_ties_0 rfl (by first | exact Or.inl rfl | exact Or.inr rfl)) Wr.dgs_nil)))) (fun c=>(Wr.dts_one (Wr.pdt_notin hr.units (Wr.dv 0) (Wr.dv 3)))) (fun c=>(Wr.dv 1))) Wr.pda_nil)) Wr.pda_nil))))), enterE h ?_⟩
 rintro ds P ⟨n, us, F, rfl, lu, q⟩
 refine ⟨[.im (webD n us), .sh (iD F)], by show [argS (webD n us), .sh (iD F)] = _; rw [arg_web], ?_⟩
 refine ⟨.int n, rfl, .tuple (us.map pD), rfl, ?_⟩
 refine lc_fm us.zipIdx (fun p=>PyData.tuple [.int ((p.2 : Nat) : Int), pD p.1]) (fun p=>decide (((p.2 : Nat) : Int)∉F)) (fun p=>pD p.1) .imm (enum_zip us) (by rw [List.length_zipIdx]; omega) ?_ ?_
 ·rintro ⟨t, k⟩ hk A B h1 h2
  refine ⟨rfl, rfl, ok_ints F, ?_⟩
  show if (!((F.map PyData.int).any fun e=>PyData.eqv e (.int ((k : Nat) : Int)))) = true then _ else _
  rw [Dl.any_ints]
  by_cases hF : ((k : Nat) : Int)∈F
  ·rw [decide_eq_true hF]
   exact iteF (A:=True) (h2 (decide_eq_false fun z=>z hF))
  ·rw [decide_eq_false hF]
   exact iteT (B:=True) ⟨rfl, h1 (decide_eq_true hF)⟩
 ·have e : ((us.zipIdx.filter fun p=>decide (((p.2 : Nat) : Int)∉F)).map fun p=>pD p.1) = (wo us F).map pD:=by
   unfold wo
   rw [List.map_map]
   rfl
  show _/\_/\P (.tuple [.int n, .tuple ((us.zipIdx.filter fun p=>decide (((p.2 : Nat) : Int)∉F)).map fun p=>pD p.1)])
  rw [e]
  refine ⟨(show 2<=1000 by decide), ?_, q⟩
  show (norm _ (webD n (wo us F))).le .n0 = true
  rw [norm_pos (imm_web _ _)]
  rfl
theorem sc_side_of : FnScope ["web", "number", "tie", "side"] ["web", "number"] (defScope (top 27)):=⟨rfl, rfl, rfl, by decide +kernel, rfl, by decide +kernel, by decide +kernel⟩
theorem ok_side_of (F : Fun K "side_of" "side_of" (top 27) f fd) (B : Dl.Bn mg) (C_check_tie_number : Dl.Cal P w K mg base 4 "check_tie_number" ["web", "thing"] (spD fCkT)) (C_part_of : Dl.Cal P w K mg base 2 "part_of" ["web", "place"] (spD fPart)) (C_without_ties : Dl.Cal P w K mg base 1 "without_ties" ["web", "numbers"] (spD fWo)) : FnOk P w K mg base CX0 5 f fd ["web", "number"] (spD fSide):=by
 refine F.ok sc_side_of (len_spD fun ds P h=>?len) (fun cdv A outer s H vs Q E hr h=>?_)
 case len=>(first | (obtain ⟨_, rfl, _⟩:=h; rfl) | (obtain ⟨_, _, rfl, _⟩:=h; rfl) | (obtain ⟨_, _, _, rfl, _⟩:=h; rfl) | (obtain ⟨_, _, _, _, rfl, _⟩:=h; rfl) | (obtain ⟨_, _, _, _, _, rfl, _⟩:=h; rfl) | (obtain ⟨_, _, _, _, _, _, rfl, _⟩:=h; rfl) | (obtain ⟨rfl, _⟩:=h; rfl))
 have nd:=sc_side_of.nd
 refine ⟨_, Wr.WDSs.h (Wr.ds_cons (Wr.ds_expr (Wr.dc C_check_tie_number hr (Wr.pda_cons (Wr.dv 0) (Wr.pda_cons (Wr.dv 1) Wr.pda_nil))))
  (Wr.ds_cons (Wr.ds_set none (i:=2) nd rfl (by first | exact Or.inl rfl | exact Or.inr rfl) (Wr.pd_ix (Wr.pd_ix (Wr.dv 0) Wr.pd_int) (Wr.dv 1)))
  (Wr.ds_cons (Wr.ds_set none (i:=3) nd rfl (by first | exact Or.inl rfl | exact Or.inr rfl) (Wr.dc C_part_of hr (Wr.pda_cons (Wr.dc C_without_ties hr (Wr.pda_cons (Wr.dv 0) (Wr.pda_cons (Wr.pd_list (Wr.pda_cons (Wr.dv 1) Wr.pda_nil)) Wr.pda_nil))) (Wr.pda_cons (Wr.pd_ix (Wr.dv 2) Wr.pd_int) Wr.pda_nil))))
  (Wr.ds_one (Wr.ds_ret (Wr.pd_ifExp (Wr.pdt_in hr.units (Wr.pd_ix (Wr.dv 2) Wr.pd_int) (Wr.dv 3)) Wr.pd_non (Wr.dv 3))))))), enterE h ?_⟩
 rintro ds P ⟨n, us, k, t, rfl, ht, n1, n60, lu, ok, q⟩
 refine ⟨[.im (webD n us), .im (.int ((k : Nat) : Int)), .any, .any], by show [argS (webD n us), .im _, .any, .any] = _; rw [arg_web], ?_⟩
 have hk:=(List.getElem?_eq_some_iff.mp ht).1
 obtain ⟨⟨o1, o2⟩, ⟨o3, o4⟩, o5⟩:=ok t (List.mem_of_getElem? ht)
 have att : atI (us.map pD) ((k : Nat) : Int) = some (pD t):=atI_nat (by rw [List.getElem?_map, ht]; rfl)
 have lw:=wo_len us [((k : Nat) : Int)]
 refine ⟨n, us, ((k : Nat) : Int), rfl, by omega, by omega, .tuple (us.map pD), rfl, pD t, att, ?_⟩
 refine ⟨(show 1<=1000 by decide), n, us, [((k : Nat) : Int)], rfl, lu, .int t.1, rfl, n, wo us [((k : Nat) : Int)], t.1, rfl, by omega, by omega, by omega, wo_ok ok, o1, o2, ?_⟩
 rw [rs_cong fun x=>rt_wo]
 refine ⟨.int t.2, rfl, rfl, ok_ints _, ?_⟩
 show if (((rsI (adj us [((k : Nat) : Int)] []) n.toNat t.1).map PyData.int).any fun e=>PyData.eqv e (.int t.2)) = true then _ else _
 rw [Dl.any_ints]
 have e : decide (t.2∈rsI (adj us [((k : Nat) : Int)] []) n.toNat t.1) = RZ (adj us [((k : Nat) : Int)] []) t.1 t.2:=by
  rw [Bool.eq_iff_iff, decide_eq_true_iff, mem_rs, RZ_iff]
  exact ⟨fun z=>z.2, fun z=>⟨⟨o3, by omega⟩, z⟩⟩
 rw [e]
 cases hr : RZ (adj us [((k : Nat) : Int)] []) t.1 t.2 with
 | true =>
  rw [hr, if_pos rfl] at q
  exact iteT (B:=True) ⟨rfl, q⟩
 | false =>
  rw [hr, if_neg Bool.false_ne_true] at q
  exact iteF (A:=True) ⟨rfl, q⟩
theorem sc_cut_ties : FnScope ["web"] ["web"] (defScope (top 28)):=⟨rfl, rfl, rfl, by decide +kernel, rfl, by decide +kernel, by decide +kernel⟩
theorem nd_cut_ties_0 : (["number", "web"] : List Str).Nodup:=by decide +kernel
theorem ok_cut_ties (F : Fun K "cut_ties" "cut_ties" (top 28) f fd) (B : Dl.Bn mg) (C_side_of : Dl.Cal P w K mg base 5 "side_of" ["web", "number"] (spD fSide)) : FnOk P w K mg base CX0 6 f fd ["web"] (spD fCuts):=by
 refine F.ok sc_cut_ties (len_spD fun ds P h=>?len) (fun cdv A outer s H vs Q E hr h=>?_)
 case len=>(first | (obtain ⟨_, rfl, _⟩:=h; rfl) | (obtain ⟨_, _, rfl, _⟩:=h; rfl) | (obtain ⟨_, _, _, rfl, _⟩:=h; rfl) | (obtain ⟨_, _, _, _, rfl, _⟩:=h; rfl) | (obtain ⟨_, _, _, _, _, rfl, _⟩:=h; rfl) | (obtain ⟨_, _, _, _, _, _, rfl, _⟩:=h; rfl) | (obtain ⟨rfl, _⟩:=h; rfl))
 have nd:=sc_cut_ties.nd
 refine ⟨_, Wr.WDSs.h (Wr.ds_one (Wr.ds_ret (Wr.pd_lc ["number"] rfl (Wr.di_range1 B.range (Wr.pda_cons (Wr.pd_len B.len (Wr.pda_cons (Wr.pd_ix (Wr.dv 0) Wr.pd_int) Wr.pda_nil)) Wr.pda_nil)) (fun c=>(Wr.dg_name (i:=0) nd_cut_ties_0 rfl (by first | exact Or.inl rfl | exact Or.inr rfl))) (fun c=>(Wr.dts_one (Wr.pdt_isnotN (Wr.dc C_side_of hr (Wr.pda_cons (Wr.dv 1) (Wr.pda_cons (Wr.dv 0) Wr.pda_nil))) Wr.pd_non))) (fun c=>(Wr.dv 0))))), enterE h ?_⟩
 rintro ds P ⟨n, us, rfl, n1, n60, lu, ok, q⟩
 refine ⟨[.im (webD n us)], by show [argS (webD n us)] = _; rw [arg_web], ?_⟩
 refine ⟨.tuple (us.map pD), rfl, ?_⟩
 show (-(2 ^ 62)<=(((us.map pD).length : Nat) : Int)/\(((us.map pD).length : Nat) : Int) < 2 ^ 62)/\_
 rw [List.length_map]
 refine ⟨⟨by omega, by omega⟩, lc_fm (List.range us.length) (fun b : Nat=>.int (0 + ((b : Nat) : Int))) (brK us) (fun b : Nat=>.int (0 + ((b : Nat) : Int))) .imm rfl (by rw [List.length_range]; omega) ?_ ?_⟩
 ·intro b hb A B h1 h2
  have hb:=List.mem_range.mp hb
  have ht:=List.getElem?_eq_getElem hb
  generalize us[b] = t at ht
  have hc : brK us b = !RZ (adj us [((b : Nat) : Int)] []) t.1 t.2:=by unfold brK; rw [ht]
  refine ⟨n, us, b, t, by show [webD n us, PyData.int (0 + ((b : Nat) : Int))] = _; rw [Int.zero_add], ht, n1, n60, lu, ok, ?_⟩
  cases hr : RZ (adj us [((b : Nat) : Int)] []) t.1 t.2 with
  | true =>
   rw [if_pos rfl]
   rw [hr] at hc
   exact iteF (A:=True) (h2 hc)
  | false =>
   rw [if_neg Bool.false_ne_true]
   rw [hr] at hc
   exact iteT (B:=True) ⟨rfl, h1 hc⟩
 ·have e : PyData.list (((List.range us.length).filter (brK us)).map fun b : Nat=>PyData.int (0 + ((b : Nat) : Int))) = iD (cutsI us):=by
   unfold iD cutsI zI
   rw [List.map_map]
   rfl
  rw [e]
  exact ⟨rfl, q⟩
theorem sc_parts_without : FnScope ["web", "v", "left"] ["web", "v"] (defScope (top 29)):=⟨rfl, rfl, rfl, by decide +kernel, rfl, by decide +kernel, by decide +kernel⟩
theorem nd_parts_without_0 : (["tie", "web", "v", "left"] : List Str).Nodup:=by decide +kernel
theorem nd_parts_without_1 : (["part", "web", "v", "left"] : List Str).Nodup:=by decide +kernel
theorem ok_parts_without (F : Fun K "parts_without" "parts_without" (top 29) f fd) (B : Dl.Bn mg) (C_check_place : Dl.Cal P w K mg base 4 "check_place" ["web", "thing"] (spD fCkP)) (C_parts : Dl.Cal P w K mg base 3 "parts" ["web"] (spD fParts)) : FnOk P w K mg base CX0 5 f fd ["web", "v"] (spD fPW):=by
 refine F.ok sc_parts_without (len_spD fun ds P h=>?len) (fun cdv A outer s H vs Q E hr h=>?_)
 case len=>(first | (obtain ⟨_, rfl, _⟩:=h; rfl) | (obtain ⟨_, _, rfl, _⟩:=h; rfl) | (obtain ⟨_, _, _, rfl, _⟩:=h; rfl) | (obtain ⟨_, _, _, _, rfl, _⟩:=h; rfl) | (obtain ⟨_, _, _, _, _, rfl, _⟩:=h; rfl) | (obtain ⟨_, _, _, _, _, _, rfl, _⟩:=h; rfl) | (obtain ⟨rfl, _⟩:=h; rfl))
 have nd:=sc_parts_without.nd
 refine ⟨_, Wr.WDSs.h (Wr.ds_cons (Wr.ds_expr (Wr.dc C_check_place hr (Wr.pda_cons (Wr.dv 0) (Wr.pda_cons (Wr.dv 1) Wr.pda_nil))))
  (Wr.ds_cons (Wr.ds_set none (i:=2) nd rfl (by first | exact Or.inl rfl | exact Or.inr rfl) (Wr.pd_tuple (Wr.pda_cons (Wr.pd_ix (Wr.dv 0) Wr.pd_int) (Wr.pda_cons (Wr.pd_tupC B.tuple (Wr.pda_cons (Wr.pd_lc ["tie"] rfl (Wr.di_seq (Wr.pd_ix (Wr.dv 0) Wr.pd_int)) (fun c=>(Wr.dg_name (i:=0) nd_parts_without_0 rfl (by first | exact Or.inl rfl | exact Or.inr rfl))) (fun c=>(Wr.dts_one (Wr.pdt_notin hr.units (Wr.dv 2) (Wr.dv 0)))) (fun c=>(Wr.dv 0))) Wr.pda_nil)) Wr.pda_nil))))
  (Wr.ds_one (Wr.ds_ret (Wr.pd_lc ["part"] rfl (Wr.di_seq (Wr.dc C_parts hr (Wr.pda_cons (Wr.dv 2) Wr.pda_nil))) (fun c=>(Wr.dg_name (i:=0) nd_parts_without_1 rfl (by first | exact Or.inl rfl | exact Or.inr rfl))) (fun c=>(Wr.dts_one (Wr.pdt_notin hr.units (Wr.dv 2) (Wr.dv 0)))) (fun c=>(Wr.dv 0))))))), enterE h ?_⟩
 rintro ds P ⟨n, us, v, rfl, n1, n60, lu, ok, hv, q⟩
 refine ⟨[.im (webD n us), .im (.int ((v : Nat) : Int)), .any], ?_, ?_⟩
 ·show [argS (webD n us), .im (.int ((v : Nat) : Int)), .any] = _
  rw [arg_web]
 refine ⟨n, us, _, rfl, by omega, by omega, ?_⟩
 refine ⟨.int n, rfl, .tuple (us.map pD), rfl, lc_fm us pD (fun t=>!decide (((v : Nat) : Int) = t.1\/((v : Nat) : Int) = t.2)) pD .imm rfl (by omega) (fun t ht A B hA hB=>?_) ?_⟩
 ·refine ⟨rfl, rfl, ?_⟩
  show if (!([PyData.int t.1, .int t.2].any fun e=>PyData.eqv e (.int ((v : Nat) : Int)))) = true then _ else _
  rw [any_pair]
  cases h1 : decide (((v : Nat) : Int) = t.1\/((v : Nat) : Int) = t.2) with
  | true=>exact iteF (A:=True) (hB (by rw [h1]; rfl))
  | false=>exact iteT (B:=True) ⟨rfl, hA (by rw [h1]; rfl)⟩
 refine ⟨(show 2<=1000 by decide), dset_of (s:=.im (webD n (noV us ((v : Nat) : Int)))) (by
  show stK none _ 2 (norm _ (webD n (noV us ((v : Nat) : Int)))) (webD n (noV us ((v : Nat) : Int))) = some (.im (webD n (noV us ((v : Nat) : Int))))
  rw [norm_pos (imm_web n _)]; rfl) ?_⟩
 have cl:=cls_len (RV us v) n.toNat n.toNat
 refine ⟨n, noV us ((v : Nat) : Int), rfl, by omega, n60, by have:=noV_len us ((v : Nat) : Int); omega, noV_ok ok _, lc_fm (clsI (RV us v) n.toNat n.toNat) iD (fun l=>!decide (((v : Nat) : Int)∈l)) iD .snw rfl (by omega) (fun l hl A B hA hB=>?_) ?_⟩
 ·refine ⟨rfl, ok_ints l, ?_⟩
  show if (!((l.map PyData.int).any fun e=>PyData.eqv e (.int ((v : Nat) : Int)))) = true then _ else _
  rw [Dl.any_ints]
  cases h1 : decide (((v : Nat) : Int)∈l) with
  | true=>exact iteF (A:=True) (hB (by rw [h1]; rfl))
  | false=>exact iteT (B:=True) ⟨rfl, hA (by rw [h1]; rfl)⟩
 ·rw [pw_eq hv]
  exact ⟨rfl, q⟩
theorem sc_cut_places : FnScope ["web", "before"] ["web"] (defScope (top 30)):=⟨rfl, rfl, rfl, by decide +kernel, rfl, by decide +kernel, by decide +kernel⟩
theorem nd_cut_places_0 : (["v", "web", "before"] : List Str).Nodup:=by decide +kernel
theorem ok_cut_places (F : Fun K "cut_places" "cut_places" (top 30) f fd) (B : Dl.Bn mg) (C_parts : Dl.Cal P w K mg base 3 "parts" ["web"] (spD fParts)) (C_parts_without : Dl.Cal P w K mg base 5 "parts_without" ["web", "v"] (spD fPW)) : FnOk P w K mg base CX0 6 f fd ["web"] (spD fCutP):=by
 refine F.ok sc_cut_places (len_spD fun ds P h=>?len) (fun cdv A outer s H vs Q E hr h=>?_)
 case len=>(first | (obtain ⟨_, rfl, _⟩:=h; rfl) | (obtain ⟨_, _, rfl, _⟩:=h; rfl) | (obtain ⟨_, _, _, rfl, _⟩:=h; rfl) | (obtain ⟨_, _, _, _, rfl, _⟩:=h; rfl) | (obtain ⟨_, _, _, _, _, rfl, _⟩:=h; rfl) | (obtain ⟨_, _, _, _, _, _, rfl, _⟩:=h; rfl) | (obtain ⟨rfl, _⟩:=h; rfl))
 have nd:=sc_cut_places.nd
 refine ⟨_, Wr.WDSs.h (Wr.ds_cons (Wr.ds_set none (i:=1) nd rfl (by first | exact Or.inl rfl | exact Or.inr rfl) (Wr.pd_len B.len (Wr.pda_cons (Wr.dc C_parts hr (Wr.pda_cons (Wr.dv 0) Wr.pda_nil)) Wr.pda_nil)))
  (Wr.ds_one (Wr.ds_ret (Wr.pd_lc ["v"] rfl (Wr.di_range1 B.range (Wr.pda_cons (Wr.pd_ix (Wr.dv 0) Wr.pd_int) Wr.pda_nil)) (fun c=>(Wr.dg_name (i:=0) nd_cut_places_0 rfl (by first | exact Or.inl rfl | exact Or.inr rfl))) (fun c=>(Wr.dts_one (Wr.pdt_gt (Wr.pd_len B.len (Wr.pda_cons (Wr.dc C_parts_without hr (Wr.pda_cons (Wr.dv 1) (Wr.pda_cons (Wr.dv 0) Wr.pda_nil))) Wr.pda_nil)) (Wr.dv 2)))) (fun c=>(Wr.dv 0)))))), enterE h ?_⟩
 rintro ds P ⟨n, us, rfl, n1, n60, lu, ok, q⟩
 refine ⟨[.im (webD n us), .any], ?_, ?_⟩
 ·show [argS (webD n us), .any] = _
  rw [arg_web]
 have cl:=cls_len (RB (adj us [] [])) n.toNat n.toNat
 refine ⟨n, us, rfl, by omega, n60, lu, ok, ?_⟩
 refine ⟨.int n, rfl, ⟨by omega, by omega⟩, lc_fm (List.range n.toNat) (fun i : Nat=>.int (0 + ((i : Nat) : Int))) (fun v : Nat=>decide ((clsI (RB (adj us [] [])) n.toNat n.toNat).length < (pwI n.toNat us v).length)) (fun i : Nat=>.int (0 + ((i : Nat) : Int))) .imm rfl (by rw [List.length_range]; omega) (fun i hi A B hA hB=>?_) ?_⟩
 ·have hi:=List.mem_range.mp hi
  have pl:=pw_len n.toNat us i
  refine ⟨n, us, i, congrArg (fun z=>[webD n us, PyData.int z]) (Int.zero_add _), n1, n60, lu, ok, hi, ?_⟩
  have e1 : ((clsI (RB (adj us [] [])) n.toNat n.toNat).map iD).length = (clsI (RB (adj us [] [])) n.toNat n.toNat).length:=List.length_map ..
  have e2 : ((pwI n.toNat us i).map iD).length = (pwI n.toNat us i).length:=List.length_map ..
  have e3 : decide ((((clsI (RB (adj us [] [])) n.toNat n.toNat).map iD).length : Int) < (((pwI n.toNat us i).map iD).length : Int)) = decide ((clsI (RB (adj us [] [])) n.toNat n.toNat).length < (pwI n.toNat us i).length):=by
   rw [e1, e2]
   exact decide_eq_decide.mpr (by omega)
  show if decide ((((clsI (RB (adj us [] [])) n.toNat n.toNat).map iD).length : Int) < (((pwI n.toNat us i).map iD).length : Int)) = true then _ else _
  rw [e3]
  refine ite2 (fun c=>⟨rfl, hA c⟩) (fun c=>hB (Bool.not_eq_true _ ▸ c))
 ·refine ⟨rfl, ?_⟩
  have e4 : (((List.range n.toNat).filter fun v=>decide ((clsI (RB (adj us [] [])) n.toNat n.toNat).length < (pwI n.toNat us v).length)).map fun i : Nat=>PyData.int (0 + ((i : Nat) : Int))) = (cutsP n.toNat us).map PyData.int:=by
   unfold cutsP zI
   rw [List.map_map]
   rfl
  rw [e4]
  exact q
end
theorem okD_lists (L : List (List Int)) : okD (.list (L.map iD)) = true:=by
 have h1:=lay_lD L
 have h2 : PyData.depthAll (L.map iD) + 1<=60:=by have:=depth_lD L; omega
 show (PyData.canLayAll0 (L.map iD) && decide (PyData.depthAll (L.map iD) + 1<=60)) = true
 rw [h1, decide_eq_true h2]
 rfl
theorem least {Q : Nat->Prop} : ∀ k, Q k->∃ m, m<=k/\Q m/\∀ b, b < m->¬ Q b:=by
 intro k
 induction k using Nat.strongRecOn with
 | _ k ih =>
  intro h
  by_cases e : ∃ b, b < k/\Q b
  ·obtain ⟨b, hb, hq⟩:=e
   obtain ⟨m, h1, h2, h3⟩:=ih b hb hq
   exact ⟨m, by omega, h2, h3⟩
  ·exact ⟨k, Nat.le_refl _, h, fun b hb hq=>e ⟨b, hb, hq⟩⟩
theorem mine_mem {es : List Tie} {n a b : Nat} : b∈mineN (RB es) n a↔b < n/\Rt es ((a : Nat) : Int) ((b : Nat) : Int)/\Rt es ((b : Nat) : Int) ((a : Nat) : Int):=by
 unfold mineN
 rw [List.mem_filter, List.mem_range, Bool.and_eq_true, RB_iff, RB_iff]
theorem zI_nat {l : List Nat} {p : Nat} : ((p : Nat) : Int)∈zI l↔p∈l:=by
 rw [mem_zI]
 exact ⟨fun h=>h.2, fun h=>⟨by omega, h⟩⟩
noncomputable def cutB (n : Nat) (us : List Tie) (v : Nat) : Bool:=decide (1 < ((pwI n us v).filter fun l=>decide (l.headD 0∈rsI (adj us [] []) n ((v : Nat) : Int))).length)
theorem cnt_two (p q : Nat->Bool) : ∀ l : List Nat, l.countP p = l.countP (fun a=>p a && q a) + l.countP (fun a=>p a && !q a)
 | []=>rfl
 | a :: l=>by
  have ih:=cnt_two p q l
  simp only [List.countP_cons]
  cases hp : p a <;> cases hq : q a <;> simp <;> omega
theorem noV_same {us : List Tie} {v a b : Int} (h : ¬ Rt (adj us [] []) a v) : Rt (adj (noV us v) [] []) a b↔Rt (adj us [] []) a b:=by
 constructor
 ·exact fun r=>r.mono fun t ht=>(noV_adj (x:=t.1) (y:=t.2).mp ht).1
 ·intro r
  induction r with
  | refl=>exact .refl _
  | step r t ih=>exact .step ih (noV_adj.mpr ⟨t, fun e=>h (e ▸ r), fun e=>h (e ▸ Rt.step r t)⟩)
theorem cut_eq {n : Nat} {us : List Tie} {v : Nat} (hv : v < n) : decide ((clsI (RB (adj us [] [])) n n).length < (pwI n us v).length) = cutB n us v:=by
 have sy : ∀ a b, (a, b)∈adj us [] []->(b, a)∈adj us [] []:=adj_sym
 have sv : ∀ a b, (a, b)∈adj (noV us ((v : Nat) : Int)) [] []->(b, a)∈adj (noV us ((v : Nat) : Int)) [] []:=adj_sym
 have e1 : (clsI (RB (adj us [] [])) n n).length = (List.range n).countP (isFst (RB (adj us [] [])) n):=by
  unfold clsI
  rw [List.length_map, List.take_of_length_le (by rw [List.length_range]; exact Nat.le_refl _), List.countP_eq_length_filter]
 have e2 : (pwI n us v).length = (List.range n).countP (fun a=>isFst (RV us v) n a && decide (a≠v)):=by
  unfold pwI
  rw [List.length_map, List.filter_filter, List.countP_eq_length_filter]
  congr 2
  funext a
  exact Bool.and_comm _ _
 have e3 : ((pwI n us v).filter fun l=>decide (l.headD 0∈rsI (adj us [] []) n ((v : Nat) : Int))).length = (List.range n).countP (fun a=>(isFst (RV us v) n a && decide (a≠v)) && RB (adj us [] []) v a):=by
  unfold pwI
  rw [List.filter_map, List.length_map, List.filter_filter, List.filter_filter, List.countP_eq_length_filter]
  congr 1
  refine List.filter_congr fun a ha=>?_
  have ha:=List.mem_range.mp ha
  show ((decide ((zI (mineN (RV us v) n a)).headD 0∈rsI (adj us [] []) n ((v : Nat) : Int)) && decide (a≠v)) && isFst (RV us v) n a) = _
  cases hf : isFst (RV us v) n a with
  | false=>rw [Bool.and_false, Bool.false_and, Bool.false_and]
  | true =>
   have hd : (mineN (RV us v) n a).head? = some a:=of_decide_eq_true hf
   have hz : (zI (mineN (RV us v) n a)).headD 0 = ((a : Nat) : Int):=by
    cases hm : mineN (RV us v) n a with
    | nil=>rw [hm] at hd; cases hd
    | cons x l =>
     rw [hm] at hd
     cases hd
     show 0 + ((a : Nat) : Int) = _
     omega
   rw [hz]
   have hr : decide (((a : Nat) : Int)∈rsI (adj us [] []) n ((v : Nat) : Int)) = RB (adj us [] []) v a:=by
    rw [Bool.eq_iff_iff, decide_eq_true_iff, mem_rs, RB_iff]
    exact ⟨fun z=>z.2, fun z=>⟨⟨by omega, by omega⟩, z⟩⟩
   rw [hr, Bool.true_and, Bool.and_true, Bool.and_comm]
 have s1:=cnt_two (isFst (RB (adj us [] [])) n) (RB (adj us [] []) v) (List.range n)
 have s2:=cnt_two (fun a=>isFst (RV us v) n a && decide (a≠v)) (RB (adj us [] []) v) (List.range n)
 have s3 : (List.range n).countP (fun a=>isFst (RB (adj us [] [])) n a && !RB (adj us [] []) v a) = (List.range n).countP (fun a=>(isFst (RV us v) n a && decide (a≠v)) && !RB (adj us [] []) v a):=by
  refine List.countP_congr fun a ha=>?_
  have ha:=List.mem_range.mp ha
  cases hc : RB (adj us [] []) v a with
  | true=>simp
  | false =>
   have nv : ¬ Rt (adj us [] []) ((a : Nat) : Int) ((v : Nat) : Int):=fun r=>by
    rw [RB_iff.mpr (r.sym sy)] at hc
    cases hc
   have av : a≠v:=fun e=>nv (e ▸ .refl _)
   have hs : ∀ b : Nat, RV us v a b = RB (adj us [] []) a b/\RV us v b a = RB (adj us [] []) b a:=fun b=>by
    constructor
    ·rw [Bool.eq_iff_iff]
     show RB _ a b = true↔_
     rw [RB_iff, RB_iff, noV_same nv]
    ·rw [Bool.eq_iff_iff]
     show RB _ b a = true↔_
     rw [RB_iff, RB_iff]
     constructor
     ·intro r
      exact ((noV_same nv).mp (r.sym sv)).sym sy
     ·intro r
      exact ((noV_same nv).mpr (r.sym sy)).sym sv
   have hf : isFst (RB (adj us [] [])) n a = isFst (RV us v) n a:=by
    rw [Bool.eq_iff_iff, fst_iff ha (RB_self _ a), fst_iff (R:=RV us v) ha (show RV us v a a = true from RB_self _ a)]
    constructor
    ·intro z b hb
     rw [(hs b).1, (hs b).2]
     exact z b hb
    ·intro z b hb
     have:=z b hb
     rwa [(hs b).1, (hs b).2] at this
   rw [hf, decide_eq_true av, Bool.and_true]
 have s4 : (List.range n).countP (fun a=>isFst (RB (adj us [] [])) n a && RB (adj us [] []) v a) = 1:=by
  obtain ⟨m, h1, h2, h3⟩:=least (Q:=fun b=>Rt (adj us [] []) ((b : Nat) : Int) ((v : Nat) : Int)) v (.refl _)
  rw [List.countP_eq_length_filter]
  have pm : ((List.range n).filter fun a=>isFst (RB (adj us [] [])) n a && RB (adj us [] []) v a).Perm [m]:=by
   refine (List.perm_ext_iff_of_nodup (List.nodup_range.filter _) (by simp)).mpr fun a=>?_
   rw [List.mem_filter, List.mem_range, Bool.and_eq_true, List.mem_singleton, RB_iff]
   constructor
   ·rintro ⟨ha, hf, r⟩
    have hf:=(fst_iff ha (RB_self _ a)).mp hf
    rcases Nat.lt_trichotomy a m with z | z | z
    ·exact absurd (r.sym sy) (h3 a z)
    ·exact z
    ·have:=hf m z
     rw [RB_iff.mpr ((h2.trans r).sym sy), RB_iff.mpr (h2.trans r)] at this
     cases this
   ·rintro rfl
    refine ⟨by omega, (fst_iff (by omega) (RB_self _ a)).mpr fun b hb=>?_, h2.sym sy⟩
    rw [Bool.and_eq_false_iff, ← Bool.not_eq_true, ← Bool.not_eq_true]
    exact .inr fun r=>h3 b hb ((RB_iff.mp r).trans h2)
  rw [pm.length_eq]
  rfl
 unfold cutB
 rw [e3]
 refine decide_eq_decide.mpr ?_
 rw [e1, e2]
 omega
theorem rt_sub {ws vs : List Tie} (h : ∀ t∈ws, t∈vs) {x y : Int} (r : Rt (adj ws [] []) x y) : Rt (adj vs [] []) x y:=r.mono fun ⟨_, _⟩ ht=>adj_mem.mpr ((adj_mem.mp ht).imp (h _) (h _))
theorem rt_mem {ws vs : List Tie} (h : ∀ t, t∈ws↔t∈vs) {x y : Int} : Rt (adj ws [] []) x y↔Rt (adj vs [] []) x y:=⟨rt_sub fun t=>(h t).mp, rt_sub fun t=>(h t).mpr⟩
theorem rz_mem {ws vs : List Tie} (h : ∀ t, t∈ws↔t∈vs) {x y : Int} : RZ (adj ws [] []) x y = RZ (adj vs [] []) x y:=by
 rw [Bool.eq_iff_iff, RZ_iff, RZ_iff, rt_mem h]
theorem add_edge {ws vs : List Tie} {e : Tie} (h : ∀ t, t∈vs↔t∈ws\/t = e) {x y : Int} (r : Rt (adj vs [] []) x y) :
  Rt (adj ws [] []) x y\/(Rt (adj ws [] []) x e.1/\Rt (adj ws [] []) e.2 y)\/(Rt (adj ws [] []) x e.2/\Rt (adj ws [] []) e.1 y):=by
 induction r with
 | refl=>exact .inl (.refl _)
 | @step b c r t ih =>
  have ht : (b, c)∈adj ws [] []\/((b, c) : Tie) = e\/((c, b) : Tie) = e:=by
   rcases adj_mem.mp t with z | z
   ·rcases (h _).mp z with z | z
    ·exact .inl (adj_mem.mpr (.inl z))
    ·exact .inr (.inl z)
   ·rcases (h _).mp z with z | z
    ·exact .inl (adj_mem.mpr (.inr z))
    ·exact .inr (.inr z)
  rcases ht with z | z | z
  ·rcases ih with i | ⟨i, j⟩ | ⟨i, j⟩
   ·exact .inl (.step i z)
   ·exact .inr (.inl ⟨i, .step j z⟩)
   ·exact .inr (.inr ⟨i, .step j z⟩)
  ·subst z
   rcases ih with i | ⟨i, j⟩ | ⟨i, j⟩
   ·exact .inr (.inl ⟨i, .refl _⟩)
   ·exact .inr (.inl ⟨i, .refl _⟩)
   ·exact .inl i
  ·subst z
   rcases ih with i | ⟨i, j⟩ | ⟨i, j⟩
   ·exact .inr (.inr ⟨i, .refl _⟩)
   ·exact .inl i
   ·exact .inr (.inr ⟨i, .refl _⟩)
theorem edge_rt {ws : List Tie} {t : Tie} (h : t∈ws) : Rt (adj ws [] []) t.1 t.2:=.step (.refl _) (adj_mem.mpr (.inl h))
noncomputable def brB (us : List Tie) (t : Tie) : Bool:=!RZ (adj (us.erase t) [] []) t.1 t.2
theorem br_iff {us : List Tie} {t : Tie} : brB us t = true↔¬ Rt (adj (us.erase t) [] []) t.1 t.2:=by
 unfold brB
 rw [Bool.not_eq_true', ← Bool.not_eq_true, RZ_iff]
theorem cons_erIdx : ∀ {l : List Tie} {k : Nat} {t : Tie}, l[k]? = some t->(t :: l.eraseIdx k).Perm l
 | [], _, _, h=>by cases h
 | a :: l, 0, t, h=>by cases h; exact List.Perm.refl _
 | a :: l, k + 1, t, h=>by
  have h : l[k]? = some t:=by simpa using h
  rw [List.eraseIdx_cons_succ]
  exact (List.Perm.swap a t _).trans ((cons_erIdx h).cons a)
theorem er_mem {us : List Tie} {k : Nat} {t : Tie} (h : us[k]? = some t) {u : Tie} : u∈us.erase t↔∃ j : Nat, j≠k/\us[j]? = some u:=by
 have p1:=cons_erIdx h
 have p2 : us.Perm (t :: us.erase t):=List.perm_cons_erase (List.mem_of_getElem? h)
 have p3 : (us.eraseIdx k).Perm (us.erase t):=(List.perm_cons t).mp (p1.trans p2)
 rw [← p3.mem_iff, List.mem_eraseIdx_iff_getElem?]
theorem adj_er {us : List Tie} {k : Nat} {t : Tie} (h : us[k]? = some t) {x y : Int} : Rt (adj us [((k : Nat) : Int)] []) x y↔Rt (adj (us.erase t) [] []) x y:=by
 have key : ∀ a b : Int, (a, b)∈adj us [((k : Nat) : Int)] []↔(a, b)∈adj (us.erase t) [] []:=fun a b=>by
  rw [mem_adj, adj_mem, er_mem h, er_mem h]
  constructor
  ·rintro ⟨j, e, hj, _⟩
   have hj : j≠k:=fun z=>hj (by rw [z]; exact List.mem_singleton.mpr rfl)
   exact e.imp (fun e=>⟨j, hj, e⟩) fun e=>⟨j, hj, e⟩
  ·rintro (⟨j, hj, e⟩ | ⟨j, hj, e⟩)
   ·exact ⟨j, .inl e, fun z=>hj (by have:=List.mem_singleton.mp z; omega), List.not_mem_nil⟩
   ·exact ⟨j, .inr e, fun z=>hj (by have:=List.mem_singleton.mp z; omega), List.not_mem_nil⟩
 exact ⟨Rt.mono fun ⟨_, _⟩ z=>(key _ _).mp z, Rt.mono fun ⟨_, _⟩ z=>(key _ _).mpr z⟩
theorem brK_eq {us : List Tie} {k : Nat} {t : Tie} (h : us[k]? = some t) : brK us k = brB us t:=by
 unfold brK brB
 rw [h]
 show (!RZ _ _ _) = !RZ _ _ _
 congr 1
 rw [Bool.eq_iff_iff, RZ_iff, RZ_iff, adj_er h]
theorem gd {us : List Tie} {k : Nat} (h : k < us.length) : us[k]? = some (us.getD k (0, 0)):=by
 rw [List.getD_eq_getElem?_getD, List.getElem?_eq_getElem h]
 rfl
theorem pick_eq (us : List Tie) (r : Nat->Bool) (q : Tie->Bool) (h : ∀ k, k < us.length->r k = q (us.getD k (0, 0))) : ((List.range us.length).filter r).map (fun k=>us.getD k (0, 0)) = us.filter q:=by
 have e : (List.range us.length).filter r = (List.range us.length).filter (q ∘ fun k=>us.getD k (0, 0)):=List.filter_congr fun k hk=>h k (List.mem_range.mp hk)
 rw [e, ← List.filter_map, map_range_self]
theorem vs_er {us vs : List Tie} {e t : Tie} (hv : vs.Perm (us ++ [e])) (ht : t∈us) (u : Tie) : u∈vs.erase t↔u∈us.erase t\/u = e:=by
 rw [(hv.erase t).mem_iff, List.erase_append_left _ ht, List.mem_append, List.mem_singleton]
theorem vs_er' {us vs : List Tie} {e : Tie} (hv : vs.Perm (us ++ [e])) (u : Tie) : u∈vs.erase e↔u∈us:=by
 have p : vs.Perm (e :: us):=hv.trans (List.perm_append_singleton e us)
 rw [(p.erase e).mem_iff, List.erase_cons_head]
theorem dbl_eq {us vs : List Tie} {e : Tie} {k : Nat} (hk : us[k]? = some e) (hv : vs.Perm (us ++ [e])) : (vs.filter (brB vs)).Perm (us.filter fun t=>brB us t && decide (t≠e)):=by
 have he:=List.mem_of_getElem? hk
 have be : brB vs e = false:=by
  rw [← Bool.not_eq_true, br_iff]
  exact fun z=>z (edge_rt ((vs_er' hv e).mpr he))
 refine (hv.filter _).trans ?_
 rw [List.filter_append, List.filter_cons_of_neg (by rw [be]; decide), List.filter_nil, List.append_nil]
 rw [List.filter_congr fun t ht=>?_]
 by_cases te : t = e
 ·subst te
  rw [be, decide_eq_false (fun z=>z rfl), Bool.and_false]
 ·rw [decide_eq_true te, Bool.and_true]
  unfold brB
  rw [rz_mem fun u=>?_]
  rw [vs_er hv ht]
  exact ⟨fun z=>z.elim id fun z=>z ▸ (List.mem_erase_of_ne (Ne.symm te)).mpr he, .inl⟩
theorem dbl_pick {us : List Tie} {e : Tie} {k : Nat} (hk : us[k]? = some e) : ((List.range us.length).filter fun j=>brK us j && decide (j≠k)).map (fun k=>us.getD k (0, 0)) = us.filter fun t=>brB us t && decide (t≠e):=by
 refine pick_eq us _ _ fun j hj=>?_
 have hj':=gd hj
 generalize us.getD j (0, 0) = t at hj'
 rw [brK_eq hj']
 cases hb : brB us t with
 | false=>rfl
 | true =>
  rw [Bool.true_and, Bool.true_and]
  refine decide_eq_decide.mpr ⟨fun z te=>?_, fun z e=>?_⟩
  ·subst te
   exact br_iff.mp hb (edge_rt ((er_mem hj').mpr ⟨k, Ne.symm z, hk⟩))
  ·subst e
   rw [hk] at hj'
   exact z (Option.some.inj hj').symm
theorem rsym {ws : List Tie} {x y : Int} (r : Rt (adj ws [] []) x y) : Rt (adj ws [] []) y x:=r.sym adj_sym
theorem er_back {us : List Tie} {t : Tie} (ht : t∈us) (u : Tie) : u∈us↔u∈us.erase t\/u = t:=by
 rw [(List.perm_cons_erase ht).mem_iff, List.mem_cons, or_comm]
theorem new_none {us vs : List Tie} {e : Tie} (hv : vs.Perm (us ++ [e])) (hn : ¬ Rt (adj us [] []) e.1 e.2) : (vs.filter (brB vs)).Perm (us.filter (brB us) ++ [e]):=by
 have be : brB vs e = true:=br_iff.mpr fun r=>hn ((rt_mem (vs_er' hv)).mp r)
 refine (hv.filter _).trans ?_
 rw [List.filter_append, List.filter_cons_of_pos be, List.filter_nil]
 rw [List.filter_congr fun t ht=>?_]
 rw [Bool.eq_iff_iff, br_iff, br_iff]
 have sub : ∀ u∈us.erase t, u∈us:=fun u hu=>List.mem_of_mem_erase hu
 refine ⟨fun z r=>z (rt_sub (fun u hu=>(vs_er hv ht u).mpr (.inl hu)) r), fun z r=>?_⟩
 rcases add_edge (vs_er hv ht) r with w | ⟨w1, w2⟩ | ⟨w1, w2⟩
 ·exact z w
 ·exact hn (((rsym (rt_sub sub w1)).trans (edge_rt ht)).trans (rsym (rt_sub sub w2)))
 ·exact hn (((rt_sub sub w2).trans (rsym (edge_rt ht))).trans (rt_sub sub w1))
noncomputable def sepB (us : List Tie) (a b : Int) (t : Tie) : Bool:=RZ (adj (us.erase t) [] []) t.1 a != RZ (adj (us.erase t) [] []) t.1 b
theorem sep_comm (us : List Tie) (a b : Int) (t : Tie) : sepB us a b t = sepB us b a t:=by
 unfold sepB
 cases RZ (adj (us.erase t) [] []) t.1 a <;> cases RZ (adj (us.erase t) [] []) t.1 b <;> rfl
theorem new_some {us vs : List Tie} {e : Tie} (hv : vs.Perm (us ++ [e])) (hr : Rt (adj us [] []) e.1 e.2) : (vs.filter (brB vs)).Perm (us.filter fun t=>brB us t && !sepB us e.1 e.2 t):=by
 have be : brB vs e = false:=by
  rw [← Bool.not_eq_true, br_iff]
  exact fun z=>z ((rt_mem (vs_er' hv)).mpr hr)
 refine (hv.filter _).trans ?_
 rw [List.filter_append, List.filter_cons_of_neg (by rw [be]; decide), List.filter_nil, List.append_nil]
 rw [List.filter_congr fun t ht=>?_]
 have up : ∀ {x y : Int}, Rt (adj (us.erase t) [] []) x y->Rt (adj (vs.erase t) [] []) x y:=fun r=>rt_sub (fun u hu=>(vs_er hv ht u).mpr (.inl hu)) r
 have ee : Rt (adj (vs.erase t) [] []) e.1 e.2:=edge_rt ((vs_er hv ht e).mpr (.inr rfl))
 cases hb : brB us t with
 | false =>
  rw [Bool.false_and, ← Bool.not_eq_true, br_iff]
  have hb : Rt (adj (us.erase t) [] []) t.1 t.2:=Classical.byContradiction fun z=>by rw [br_iff.mpr z] at hb; cases hb
  exact fun z=>z (up hb)
 | true =>
  rw [Bool.true_and]
  have hb:=br_iff.mp hb
  have key : Rt (adj (vs.erase t) [] []) t.1 t.2↔sepB us e.1 e.2 t = true:=by
   unfold sepB
   constructor
   ·intro r
    rcases add_edge (vs_er hv ht) r with w | ⟨w1, w2⟩ | ⟨w1, w2⟩
    ·exact absurd w hb
    ·rw [RZ_iff.mpr w1, show RZ (adj (us.erase t) [] []) t.1 e.2 = false by rw [← Bool.not_eq_true, RZ_iff]; exact fun z=>hb (z.trans w2)]
     rfl
    ·rw [RZ_iff.mpr w1, show RZ (adj (us.erase t) [] []) t.1 e.1 = false by rw [← Bool.not_eq_true, RZ_iff]; exact fun z=>hb (z.trans w2)]
     rfl
   ·intro s
    have go:=add_edge (ws:=us.erase t) (vs:=us) (e:=t) (er_back ht) hr
    cases h1 : RZ (adj (us.erase t) [] []) t.1 e.1 with
    | true =>
     cases h2 : RZ (adj (us.erase t) [] []) t.1 e.2 with
     | true=>rw [h1, h2] at s; cases s
     | false =>
      have h1:=RZ_iff.mp h1
      have h2 : ¬ Rt (adj (us.erase t) [] []) t.1 e.2:=fun z=>by rw [RZ_iff.mpr z] at h2; cases h2
      rcases go with w | ⟨w1, w2⟩ | ⟨w1, w2⟩
      ·exact absurd (h1.trans w) h2
      ·exact ((up h1).trans ee).trans (rsym (up w2))
      ·exact absurd w2 h2
    | false =>
     cases h2 : RZ (adj (us.erase t) [] []) t.1 e.2 with
     | false=>rw [h1, h2] at s; cases s
     | true =>
      have h2:=RZ_iff.mp h2
      have h1 : ¬ Rt (adj (us.erase t) [] []) t.1 e.1:=fun z=>by rw [RZ_iff.mpr z] at h1; cases h1
      rcases go with w | ⟨w1, w2⟩ | ⟨w1, w2⟩
      ·exact absurd (h2.trans (rsym w)) h1
      ·exact absurd (rsym w1) h1
      ·exact ((up h2).trans (rsym ee)).trans (up w1)
  rw [Bool.eq_iff_iff, br_iff, Bool.not_eq_true', ← Bool.not_eq_true, key]
theorem Wy.mem {ws : List Tie} {a : Int} {ps ks : List Int} {x : Int} (h : Wy ws a ps ks x) : x∈ps:=by
 cases h with
 | one=>exact List.mem_singleton.mpr rfl
 | step=>exact List.mem_append_right _ (List.mem_singleton.mpr rfl)
theorem jn_er {ws : List Tie} {k : Nat} {t : Tie} {p x k' : Int} (hk : ws[k]? = some t) (j : Jn ws p x k') (ne : k'≠((k : Nat) : Int)) : (p, x)∈adj (ws.erase t) [] []:=by
 obtain ⟨i, rfl, e⟩:=j
 have hi : i≠k:=fun z=>ne (by rw [z])
 exact adj_mem.mpr (e.imp (fun e=>(er_mem hk).mpr ⟨i, hi, e⟩) fun e=>(er_mem hk).mpr ⟨i, hi, e⟩)
theorem Wy.no {ws : List Tie} {a : Int} {ps ks : List Int} {x : Int} (h : Wy ws a ps ks x) {k : Nat} {t : Tie} (hk : ws[k]? = some t) (hn : ((k : Nat) : Int)∉ks) : Rt (adj (ws.erase t) [] []) a x:=by
 induction h with
 | one=>exact .refl _
 | step _ _ j ih=>exact .step (ih fun z=>hn (List.mem_append_left _ z)) (jn_er hk j fun z=>hn (by rw [← z]; exact List.mem_append_right _ (List.mem_singleton.mpr rfl)))
theorem Wy.on {ws : List Tie} {a : Int} {ps ks : List Int} {b : Int} (h : Wy ws a ps ks b) {k : Nat} {t : Tie} (hk : ws[k]? = some t) (hy : ((k : Nat) : Int)∈ks) :
  ∃ x y : Int, (t = (x, y)\/t = (y, x))/\x∈ps/\y∈ps/\Rt (adj (ws.erase t) [] []) a x/\Rt (adj (ws.erase t) [] []) y b:=by
 induction h with
 | one=>cases hy
 | @step ps ks p x k' h hx j ih =>
  by_cases hm : ((k : Nat) : Int)∈ks
  ·obtain ⟨u, v, e, hu, hv, r1, r2⟩:=ih hm
   refine ⟨u, v, e, List.mem_append_left _ hu, List.mem_append_left _ hv, r1, .step r2 (jn_er hk j fun z=>?_)⟩
   obtain ⟨i, rfl, e2⟩:=j
   have hi : i = k:=by omega
   subst hi
   rw [hk] at e2
   apply hx
   rcases e2 with e2 | e2 <;> (have e2:=Option.some.inj e2; rcases e with e | e <;> (rw [e] at e2; first | (have:=congrArg Prod.fst e2; have h3:=congrArg Prod.snd e2; dsimp only at this h3; first | (rw [← h3]; exact hv) | (rw [← h3]; exact hu) | (rw [← this]; exact hu) | (rw [← this]; exact hv))))
  ·have hk' : k' = ((k : Nat) : Int):=by
    rcases List.mem_append.mp hy with z | z
    ·exact absurd z hm
    ·exact (List.mem_singleton.mp z).symm
   obtain ⟨i, hi, e⟩:=j
   have hi : i = k:=by omega
   subst hi
   rw [hk] at e
   exact ⟨p, x, e.imp Option.some.inj Option.some.inj, List.mem_append_left _ h.mem, List.mem_append_right _ (List.mem_singleton.mpr rfl), h.no hk hm, .refl _⟩
theorem lane_sep {us : List Tie} {a b : Int} {ps ks : List Int} (h : Wy us a ps ks b) {k : Nat} {t : Tie} (hk : us[k]? = some t) (hb : brB us t = true) : decide (((k : Nat) : Int)∈ks) = sepB us a b t:=by
 have hb:=br_iff.mp hb
 unfold sepB
 by_cases hm : ((k : Nat) : Int)∈ks
 ·rw [decide_eq_true hm]
  obtain ⟨x, y, e, _, _, r1, r2⟩:=h.on hk hm
  rcases e with e | e
  ·subst e
   have n2 : RZ (adj (us.erase (x, y)) [] []) x b = false:=by
    rw [← Bool.not_eq_true, RZ_iff]
    exact fun z=>hb (z.trans (rsym r2))
   show true = (RZ _ x a != RZ _ x b)
   rw [n2, RZ_iff.mpr (rsym r1)]
   rfl
  ·subst e
   have n2 : RZ (adj (us.erase (y, x)) [] []) y a = false:=by
    rw [← Bool.not_eq_true, RZ_iff]
    exact fun z=>hb (z.trans r1)
   show true = (RZ _ y a != RZ _ y b)
   rw [n2, RZ_iff.mpr r2]
   rfl
 ·rw [decide_eq_false hm]
  have r:=h.no hk hm
  have e : RZ (adj (us.erase t) [] []) t.1 a = RZ (adj (us.erase t) [] []) t.1 b:=by
   rw [Bool.eq_iff_iff, RZ_iff, RZ_iff]
   exact ⟨fun z=>z.trans r, fun z=>z.trans (rsym r)⟩
  rw [e]
  cases RZ (adj (us.erase t) [] []) t.1 b <;> rfl
theorem cls_cnt (R : Nat->Nat->Bool) (n : Nat) : (clsI R n n).length = ((List.range n).filter (isFst R n)).length:=by
 unfold clsI
 rw [List.length_map, List.take_of_length_le (by rw [List.length_range]; exact Nat.le_refl _)]
theorem fst_rt {ws : List Tie} {n a : Nat} (ha : a < n) : isFst (RB (adj ws [] [])) n a = true↔∀ b : Nat, b < a->¬ Rt (adj ws [] []) ((b : Nat) : Int) ((a : Nat) : Int):=by
 rw [fst_iff ha (RB_self _ a)]
 constructor
 ·intro z b hb r
  have:=z b hb
  rw [RB_iff.mpr r, RB_iff.mpr (rsym r)] at this
  cases this
 ·intro z b hb
  rw [Bool.and_eq_false_iff, ← Bool.not_eq_true, ← Bool.not_eq_true]
  exact .inr fun r=>z b hb (RB_iff.mp r)
theorem cls_more {ws vs : List Tie} {n : Nat} {t : Tie} (h1 : 0<=t.1/\t.1 < n) (h2 : 0<=t.2/\t.2 < n) (h : ∀ u, u∈vs↔u∈ws\/u = t) (hn : ¬ Rt (adj ws [] []) t.1 t.2) : (clsI (RB (adj ws [] [])) n n).length = (clsI (RB (adj vs [] [])) n n).length + 1:=by
 have e1 : ((t.1.toNat : Nat) : Int) = t.1:=by omega
 have e2 : ((t.2.toNat : Nat) : Int) = t.2:=by omega
 obtain ⟨m1, l1, r1, z1⟩:=least (Q:=fun b : Nat=>Rt (adj ws [] []) ((b : Nat) : Int) t.1) t.1.toNat (by rw [e1]; exact .refl _)
 obtain ⟨m2, l2, r2, z2⟩:=least (Q:=fun b : Nat=>Rt (adj ws [] []) ((b : Nat) : Int) t.2) t.2.toNat (by rw [e2]; exact .refl _)
 have up : ∀ {x y : Int}, Rt (adj ws [] []) x y->Rt (adj vs [] []) x y:=fun r=>rt_sub (fun u hu=>(h u).mpr (.inl hu)) r
 have et : Rt (adj vs [] []) t.1 t.2:=edge_rt ((h t).mpr (.inr rfl))
 have mne : m1≠m2:=fun e=>hn (by subst e; exact (rsym r1).trans r2)
 obtain ⟨M, hM1, hM2, hM3, hM4⟩ : ∃ M : Nat, M < n/\(M = m1\/M = m2)/\(∃ m : Nat, m < M/\Rt (adj vs [] []) ((m : Nat) : Int) ((M : Nat) : Int))/\(m1 < m2->M = m2)/\(m2 < m1->M = m1):=by
  rcases Nat.lt_or_gt_of_ne mne with q | q
  ·exact ⟨m2, by omega, .inr rfl, ⟨m1, q, ((up r1).trans et).trans (rsym (up r2))⟩, fun _=>rfl, fun z=>absurd z (by omega)⟩
  ·exact ⟨m1, by omega, .inl rfl, ⟨m2, q, ((up r2).trans (rsym et)).trans (rsym (up r1))⟩, fun z=>absurd z (by omega), fun _=>rfl⟩
 have pm : ((List.range n).filter (isFst (RB (adj ws [] [])) n)).Perm (M :: (List.range n).filter (isFst (RB (adj vs [] [])) n)):=by
  have nM : M∉(List.range n).filter (isFst (RB (adj vs [] [])) n):=fun z=>by
   obtain ⟨m, hm, r⟩:=hM3
   exact (fst_rt hM1).mp (List.mem_filter.mp z).2 m hm r
  refine (List.perm_ext_iff_of_nodup (List.nodup_range.filter _) (List.nodup_cons.mpr ⟨nM, List.nodup_range.filter _⟩)).mpr fun a=>?_
  rw [List.mem_filter, List.mem_cons, List.mem_filter, List.mem_range]
  constructor
  ·rintro ⟨ha, hf⟩
   by_cases e : a = M
   ·exact .inl e
   ·have hf:=(fst_rt ha).mp hf
    refine .inr ⟨ha, (fst_rt ha).mpr fun b hb r=>?_⟩
    rcases add_edge h r with w | ⟨w1, w2⟩ | ⟨w1, w2⟩
    ·exact hf b hb w
    ·have q1 : ¬ b < m1:=fun q=>z1 b q w1
     have q2 : a = m2:=by
      rcases Nat.lt_trichotomy a m2 with q | q | q
      ·exact absurd (rsym w2) (z2 a q)
      ·exact q
      ·exact absurd (r2.trans w2) (hf m2 q)
     exact e (by rw [q2]; exact (hM4.1 (by omega)).symm)
    ·have q1 : ¬ b < m2:=fun q=>z2 b q w1
     have q2 : a = m1:=by
      rcases Nat.lt_trichotomy a m1 with q | q | q
      ·exact absurd (rsym w2) (z1 a q)
      ·exact q
      ·exact absurd (r1.trans w2) (hf m1 q)
     exact e (by rw [q2]; exact (hM4.2 (by omega)).symm)
  ·rintro (rfl | ⟨ha, hf⟩)
   ·refine ⟨hM1, (fst_rt hM1).mpr fun b hb r=>?_⟩
    rcases hM2 with q | q
    ·subst q
     exact z1 b hb (r.trans r1)
    ·subst q
     exact z2 b hb (r.trans r2)
   ·exact ⟨ha, (fst_rt ha).mpr fun b hb r=>(fst_rt ha).mp hf b hb (up r)⟩
 rw [cls_cnt, cls_cnt, pm.length_eq, List.length_cons]
theorem cls_mem {ws vs : List Tie} (n : Nat) (h : ∀ x y : Int, Rt (adj ws [] []) x y↔Rt (adj vs [] []) x y) : clsI (RB (adj ws [] [])) n n = clsI (RB (adj vs [] [])) n n:=cls_cong (fun a b _ _=>by
 have e : ∀ x y : Nat, RB (adj ws [] []) x y = RB (adj vs [] []) x y:=fun x y=>by rw [Bool.eq_iff_iff, RB_iff, RB_iff, h]
 rw [e, e]) n
theorem rs_same {es : List Tie} {n : Nat} {a b : Int} (h : ∀ x, Rt es a x↔Rt es b x) : rsI es n a = rsI es n b:=rise_ext rs_rise rs_rise fun q=>by rw [mem_rs, mem_rs, h]
theorem cls_is {ws : List Tie} {n : Nat} {l : List Int} (hl : l∈clsI (RB (adj ws [] [])) n n) {v : Int} (hv : v∈l) : l = rsI (adj ws [] []) n v:=by
 unfold clsI at hl
 obtain ⟨a, ha, rfl⟩:=List.mem_map.mp hl
 rw [← mine_rs adj_sym] at hv ⊢
 exact rs_same fun x=>⟨fun r=>(rsym (mem_rs.mp hv).2).trans r, fun r=>(mem_rs.mp hv).2.trans r⟩
theorem rs_in {ws : List Tie} {n : Nat} {x : Int} (h0 : 0<=x) (h1 : x < n) : rsI (adj ws [] []) n x∈clsI (RB (adj ws [] [])) n n:=by
 obtain ⟨m, l1, r1, z1⟩:=least (Q:=fun b : Nat=>Rt (adj ws [] []) ((b : Nat) : Int) x) x.toNat (by rw [show ((x.toNat : Nat) : Int) = x by omega]; exact .refl _)
 unfold clsI
 rw [List.take_of_length_le (by rw [List.length_range]; exact Nat.le_refl _)]
 have hm : m < n:=by omega
 refine List.mem_map.mpr ⟨m, List.mem_filter.mpr ⟨List.mem_range.mpr hm, (fst_rt hm).mpr fun b hb r=>z1 b hb (r.trans r1)⟩, ?_⟩
 rw [← mine_rs adj_sym]
 exact rs_same fun q=>⟨fun r=>(rsym r1).trans r, fun r=>r1.trans r⟩
theorem sort_uniq : ∀ {l1 l2 : List Tie}, (∀ t∈l1, Nice t)->l1.Perm l2->l1.Pairwise (fun a b=>tcode a<=tcode b)->l2.Pairwise (fun a b=>tcode a<=tcode b)->l1 = l2
 | [], l2, _, p, _, _=>p.nil_eq
 | a :: l1, [], _, p, _, _=>absurd p.length_eq (by simp)
 | a :: l1, b :: l2, hn, p, s1, s2=>by
  have s1:=List.pairwise_cons.mp s1
  have s2:=List.pairwise_cons.mp s2
  have hb : b∈a :: l1:=p.mem_iff.mpr List.mem_cons_self
  have ha : a∈b :: l2:=p.mem_iff.mp List.mem_cons_self
  have e1 : tcode a<=tcode b:=by
   rcases List.mem_cons.mp hb with z | z
   ·rw [z]; exact Int.le_refl _
   ·exact s1.1 b z
  have e2 : tcode b<=tcode a:=by
   rcases List.mem_cons.mp ha with z | z
   ·rw [z]; exact Int.le_refl _
   ·exact s2.1 a z
  have e : a = b:=code_inj (hn a List.mem_cons_self) (hn b hb) (by omega)
  subst e
  rw [sort_uniq (fun t ht=>hn t (List.mem_cons_of_mem _ ht)) ((List.perm_cons a).mp p) s1.2 s2.2]
noncomputable def upI (v x : Int) : Int:=if v<=x then x + 1 else x
noncomputable def dnI (v x : Int) : Int:=x - (if v < x then 1 else 0)
noncomputable def shT (v : Int) (t : Tie) : Tie:=(dnI v t.1, dnI v t.2)
theorem up_dn {v x : Int} (h : x≠v) : upI v (dnI v x) = x:=by unfold upI dnI; split <;> split <;> omega
theorem dn_up (v x : Int) : dnI v (upI v x) = x:=by unfold upI dnI; split <;> split <;> omega
theorem up_ne (v x : Int) : upI v x≠v:=by unfold upI; split <;> omega
theorem sh_adj {us vs : List Tie} {v : Int} (hv : ∀ t, t∈vs↔t∈(noV us v).map (shT v)) {x y : Int} : (x, y)∈adj vs [] []↔(upI v x, upI v y)∈adj (noV us v) [] []:=by
 have nm : ∀ t∈noV us v, t.1≠v/\t.2≠v:=fun t ht=>by
  have:=(List.mem_filter.mp ht).2
  simp only [Bool.not_eq_true', decide_eq_false_iff_not, not_or] at this
  exact ⟨fun z=>this.1 z.symm, fun z=>this.2 z.symm⟩
 have key : ∀ a b : Int, ((a, b) : Tie)∈vs↔((upI v a, upI v b) : Tie)∈noV us v:=fun a b=>by
  rw [hv, List.mem_map]
  constructor
  ·rintro ⟨t, ht, e⟩
   have h1:=congrArg Prod.fst e
   have h2:=congrArg Prod.snd e
   dsimp only [shT] at h1 h2
   rw [← h1, ← h2, up_dn (nm t ht).1, up_dn (nm t ht).2]
   exact ht
  ·intro h
   refine ⟨_, h, ?_⟩
   show ((dnI v (upI v a), dnI v (upI v b)) : Tie) = (a, b)
   rw [dn_up, dn_up]
 rw [adj_mem, adj_mem, key, key]
theorem sh_rt {us vs : List Tie} {v : Int} (hv : ∀ t, t∈vs↔t∈(noV us v).map (shT v)) {x y : Int} : Rt (adj vs [] []) x y↔Rt (adj (noV us v) [] []) (upI v x) (upI v y):=by
 constructor
 ·intro r
  induction r with
  | refl=>exact .refl _
  | step _ t ih=>exact .step ih ((sh_adj hv).mp t)
 ·have back : ∀ {p q : Int}, Rt (adj (noV us v) [] []) p q->p≠v->q≠v/\Rt (adj vs [] []) (dnI v p) (dnI v q):=fun r hp=>by
   induction r with
   | refl=>exact ⟨hp, .refl _⟩
   | step _ t ih =>
    have hq:=(noV_adj.mp t).2
    refine ⟨hq.2, .step ih.2 ((sh_adj hv).mpr ?_)⟩
    rw [up_dn hq.1, up_dn hq.2]
    exact t
  intro r
  have:=(back r (up_ne v x)).2
  rwa [dn_up, dn_up] at this
noncomputable def upN (v p : Nat) : Nat:=if v<=p then p + 1 else p
theorem up_nat (v p : Nat) : ((upN v p : Nat) : Int) = upI ((v : Nat) : Int) ((p : Nat) : Int):=by unfold upN upI; split <;> split <;> omega
theorem rise_nat {l k : List Nat} (hl : l.Pairwise (· < ·)) (hk : k.Pairwise (· < ·)) (h : ∀ q, q∈l↔q∈k) : l = k:=by
 have e:=rise_ext (zI_rise hl) (zI_rise hk) fun q=>by rw [mem_zI, mem_zI, h]
 have inj : Function.Injective fun i : Nat=>(0 : Int) + ((i : Nat) : Int):=fun a b z=>by
  have z : (0 : Int) + ((a : Nat) : Int) = 0 + ((b : Nat) : Int):=z
  omega
 exact (List.map_inj_right fun a b z=>inj z).mp e
theorem oth_up {n v : Nat} (hv : v < n) : (List.range n).filter (fun a=>decide (a≠v)) = (List.range (n - 1)).map (upN v):=by
 refine rise_nat (List.pairwise_lt_range.filter _) (List.pairwise_map.mpr (List.pairwise_lt_range.imp fun h=>by unfold upN; split <;> split <;> omega)) fun q=>?_
 rw [List.mem_filter, List.mem_range, decide_eq_true_iff, List.mem_map]
 constructor
 ·rintro ⟨h1, h2⟩
  by_cases z : q < v
  ·exact ⟨q, List.mem_range.mpr (by omega), by unfold upN; rw [if_neg (by omega)]⟩
  ·exact ⟨q - 1, List.mem_range.mpr (by omega), by unfold upN; rw [if_pos (by omega)]; omega⟩
 ·rintro ⟨p, hp, rfl⟩
  have hp:=List.mem_range.mp hp
  unfold upN
  split <;> omega
theorem sh_cls {n v : Nat} {us vs : List Tie} (hv : v < n) (h : ∀ t, t∈vs↔t∈(noV us ((v : Nat) : Int)).map (shT ((v : Nat) : Int))) : (clsI (RB (adj vs [] [])) (n - 1) (n - 1)).map (fun l=>l.map (upI ((v : Nat) : Int))) = pwI n us v:=by
 have hR : ∀ p q : Nat, Rt (adj vs [] []) ((p : Nat) : Int) ((q : Nat) : Int)↔Rt (adj (noV us ((v : Nat) : Int)) [] []) ((upN v p : Nat) : Int) ((upN v q : Nat) : Int):=fun p q=>by
  rw [sh_rt h, up_nat, up_nat]
 have hf : ∀ p, p < n - 1->isFst (RB (adj vs [] [])) (n - 1) p = isFst (RV us v) n (upN v p):=fun p hp=>by
  have hu : upN v p < n:=by unfold upN; split <;> omega
  rw [Bool.eq_iff_iff, fst_rt hp, show isFst (RV us v) n (upN v p) = true↔_ from fst_rt hu]
  constructor
  ·intro z b hb r
   by_cases e : b = v
   ·subst e
    have:=noV_from r
    have h3:=up_ne ((b : Nat) : Int) ((p : Nat) : Int)
    rw [← up_nat] at h3
    exact h3 this
   ·obtain ⟨b', hb', rfl⟩ : ∃ b', b' < p/\upN v b' = b:=by
     by_cases q : b < v
     ·exact ⟨b, by unfold upN at hb; split at hb <;> omega, by unfold upN; rw [if_neg (by omega)]⟩
     ·exact ⟨b - 1, by unfold upN at hb; split at hb <;> omega, by unfold upN; rw [if_pos (by omega)]; omega⟩
    exact z b' hb' ((hR b' p).mpr r)
  ·intro z b hb r
   exact z (upN v b) (by unfold upN; split <;> split <;> omega) ((hR b p).mp r)
 have hm : ∀ p, p < n - 1->(zI (mineN (RB (adj vs [] [])) (n - 1) p)).map (upI ((v : Nat) : Int)) = zI (mineN (RV us v) n (upN v p)):=fun p hp=>by
  have r1 : ((zI (mineN (RB (adj vs [] [])) (n - 1) p)).map (upI ((v : Nat) : Int))).Pairwise (· < ·):=List.pairwise_map.mpr ((zI_rise (List.pairwise_lt_range.filter _)).imp fun h=>by unfold upI; split <;> split <;> omega)
  refine rise_ext r1 (zI_rise (List.pairwise_lt_range.filter _)) fun q=>?_
  rw [List.mem_map, mem_zI]
  show _↔0<=q/\q.toNat∈mineN (RB (adj (noV us ((v : Nat) : Int)) [] [])) n (upN v p)
  rw [mine_mem]
  constructor
  ·rintro ⟨x, hx, rfl⟩
   obtain ⟨x0, hx⟩:=mem_zI.mp hx
   obtain ⟨h1, h2, h3⟩:=mine_mem.mp hx
   have e : upI ((v : Nat) : Int) x = ((upN v x.toNat : Nat) : Int):=by rw [up_nat, show ((x.toNat : Nat) : Int) = x by omega]
   rw [e]
   have hu : upN v x.toNat < n:=by unfold upN; split <;> omega
   refine ⟨by omega, ?_⟩
   rw [Int.toNat_natCast]
   exact ⟨hu, (hR _ _).mp h2, (hR _ _).mp h3⟩
  ·rintro ⟨q0, h1, h2, h3⟩
   have qv : q.toNat≠v:=fun e=>by
    rw [e] at h3
    have:=noV_from h3
    have h4:=up_ne ((v : Nat) : Int) ((p : Nat) : Int)
    rw [← up_nat] at h4
    exact h4 this
   obtain ⟨b', hb', e⟩ : ∃ b', b' < n - 1/\upN v b' = q.toNat:=by
    by_cases z : q.toNat < v
    ·exact ⟨q.toNat, by omega, by unfold upN; rw [if_neg (by omega)]⟩
    ·exact ⟨q.toNat - 1, by omega, by unfold upN; rw [if_pos (by omega)]; omega⟩
   rw [← e] at h2 h3
   refine ⟨((b' : Nat) : Int), zI_nat.mpr (mine_mem.mpr ⟨hb', (hR _ _).mpr h2, (hR _ _).mpr h3⟩), ?_⟩
   rw [← up_nat, e]
   omega
 unfold clsI pwI
 rw [List.take_of_length_le (by rw [List.length_range]; exact Nat.le_refl _), List.filter_filter]
 have e1 : (List.range n).filter (fun a=>decide (a≠v) && isFst (RV us v) n a) = ((List.range (n - 1)).filter (isFst (RV us v) n ∘ upN v)).map (upN v):=by
  rw [← List.filter_map, ← oth_up hv, List.filter_filter]
  congr 1
  funext a
  exact Bool.and_comm _ _
 rw [e1, List.map_map, List.map_map]
 rw [List.filter_congr (q:=isFst (RV us v) n ∘ upN v) fun p hp=>hf p (List.mem_range.mp hp)]
 refine List.map_congr_left fun p hp=>?_
 exact hm p (List.mem_range.mp (List.mem_filter.mp hp).1)
structure WebL (n : Int) (us : List Tie) : Prop where
 n1 : 1<=n
 n9 : n<=9
 few : us.length<=23
 ok : OkW n us
theorem mmT_id {t : Tie} (h : t.1 < t.2) : mmT t = t:=by
 obtain ⟨a, b⟩:=t
 have h : a < b:=h
 unfold mmT
 dsimp only
 rw [if_neg (by omega), if_pos h]
theorem cut_take {α : Type} (l : List α) (m : Nat) : cutL l none (some (m : Int)) = l.take m:=by
 unfold cutL
 have e1 : HT.sIx l.length 0 none = 0:=rfl
 have e2 : HT.sIx l.length l.length (some (m : Int)) = min m l.length:=HT.sIx_nat _ _ _
 rw [e1, e2, List.drop_zero, Nat.sub_zero]
 by_cases h : m<=l.length
 ·rw [Nat.min_eq_left h]
 ·rw [Nat.min_eq_right (by omega), List.take_length, List.take_of_length_le (by omega)]
theorem cut_drop {α : Type} (l : List α) (m : Nat) : cutL l (some (m : Int)) none = l.drop m:=by
 unfold cutL
 have e1 : HT.sIx l.length 0 (some (m : Int)) = min m l.length:=HT.sIx_nat _ _ m
 have e2 : HT.sIx l.length l.length none = l.length:=rfl
 rw [e1, e2]
 by_cases h : m<=l.length
 ·rw [Nat.min_eq_left h, List.take_of_length_le (by rw [List.length_drop]; exact Nat.le_refl _)]
 ·rw [Nat.min_eq_right (by omega), List.drop_eq_nil_of_le (Nat.le_refl _), List.drop_eq_nil_of_le (by omega), List.take_nil]
theorem WebL.okN {n : Int} {us : List Tie} (W : WebL n us) : OkN n us:=W.ok.okN
theorem map_mm {us : List Tie} (h : ∀ t∈us, t.1 < t.2) : us.map mmT = us:=by
 rw [List.map_congr_left fun t ht=>mmT_id (h t ht)]
 exact List.map_id us
theorem WebL.up {n : Int} {us : List Tie} (W : WebL n us) : ∀ t∈us, t.1 < t.2:=fun t ht=>(W.ok t ht).2.1
noncomputable def fLess (ds : List D) (P : D->Prop) : Prop:=∃ (n : Int) (us : List Tie) (k : Nat) (t : Tie), ds = [webD n us, .int ((k : Nat) : Int)]/\WebL n us/\us[k]? = some t/\∀ vs : List Tie, (∀ u, u∈vs↔u∈us.erase t)->vs.length<=40->OkN n vs->P (webD n vs)
noncomputable def fByT (ds : List D) (P : D->Prop) : Prop:=∃ (n : Int) (us : List Tie) (k : Nat) (t : Tie), ds = [webD n us, .int ((k : Nat) : Int)]/\WebL n us/\us[k]? = some t/\P (.bool true)
noncomputable def fByM (ds : List D) (P : D->Prop) : Prop:=∃ (n : Int) (us : List Tie) (a b : Int), ds = [webD n us, .int a, .int b]/\WebL n us/\0<=a/\a < n/\0<=b/\b < n/\a≠b/\P (.bool true)
noncomputable def fWith (ds : List D) (P : D->Prop) : Prop:=∃ (n : Int) (us : List Tie) (v : Nat), ds = [webD n us, .int ((v : Nat) : Int)]/\WebL n us/\2<=n/\v < n.toNat/\∀ vs : List Tie, (∀ t, t∈vs↔t∈(noV us ((v : Nat) : Int)).map (shT ((v : Nat) : Int)))->vs.length<=40->OkN (n - 1) vs->P (webD (n - 1) vs)
noncomputable def fByP (ds : List D) (P : D->Prop) : Prop:=∃ (n : Int) (us : List Tie), ds = [webD n us]/\WebL n us/\2<=n/\P (.bool true)
theorem WebL.nice {n : Int} {us : List Tie} (W : WebL n us) : ∀ t∈us, Nice t:=fun t ht=>by
 have h:=W.ok t ht
 have:=W.n9
 exact ⟨by omega, by omega⟩
theorem cuts_map (us : List Tie) : (cutsI us).map PyData.int = ((List.range us.length).filter (brK us)).map fun i : Nat=>PyData.int (0 + ((i : Nat) : Int)):=by
 unfold cutsI zI
 rw [List.map_map]
 rfl
theorem at_gd {us : List Tie} {i : Nat} (h : i < us.length) : atI (us.map pD) (0 + ((i : Nat) : Int)) = some (pD (us.getD i (0, 0))):=by
 rw [Int.zero_add]
 exact atI_nat (by rw [List.getElem?_map, gd h]; rfl)
theorem bt_all (us : List Tie) : ((List.range us.length).filter (brK us)).map (fun k=>us.getD k (0, 0)) = us.filter (brB us):=pick_eq us _ _ fun k hk=>brK_eq (gd hk)
theorem dbl_tail {n : Int} {us : List Tie} {k : Nat} {t : Tie} {s2 s3 : Sl} {E : DEnds} (W : WebL n us) (ht : us[k]? = some t) (q : E.rt (.bool true)) :
  dSeq
   (dSet 5 none
    (tFn fWebOf
     (aCons (t2 gIx (tV 0) (tK (PyData.int 0)))
      (aCons
       (t2 gPlus (tCl Dl.gLst (aCons (t2 gIx (tV 0) (tK (PyData.int 1))) aNil))
        (tList (aCons (t2 gIx (t2 gIx (tV 0) (tK (PyData.int 1))) (tV 1)) aNil)))
       aNil))))
   (dSeq
    (dSet 6 none
     (tCl gSortP
      (aCons
       (dLC [Str.ofString "_law_k"].length (iSq (tV 4)) (gNm 0) (tTst (t2 (gEqA true) (tV 0) (tV 2)))
        (t2 gIx (t2 gIx (tV 1) (tK (PyData.int 1))) (tV 0)))
       aNil)))
    (dRet
     (t2 (gEqA false)
      (tCl gSortP
       (aCons
        (dLC [Str.ofString "_law_k"].length (iSq (tFn fCuts (aCons (tV 5) aNil))) (gNm 0)
         (fun x P=>P true) (t2 gIx (t2 gIx (tV 6) (tK (PyData.int 1))) (tV 0)))
        aNil))
      (tV 6)))) E [.im (webD n us), .im (.int ((k : Nat) : Int)), s2, s3, .sn (iD (cutsI us)), .any, .any]:=by
 have n1:=W.n1
 have n9:=W.n9
 have few:=W.few
 have okN:=W.okN
 have ht0:=List.mem_of_getElem? ht
 have att : atI (us.map pD) ((k : Nat) : Int) = some (pD t):=atI_nat (by rw [List.getElem?_map, ht]; rfl)
 have lm : (us.map pD).length = us.length:=List.length_map ..
 have oku : OkN n (us ++ [t]):=fun u hu=>(List.mem_append.mp hu).elim (okN u) fun z=>by rw [List.mem_singleton.mp z]; exact okN t ht0
 have upu : ∀ u∈us ++ [t], u.1 < u.2:=fun u hu=>(List.mem_append.mp hu).elim (W.up u) fun z=>by rw [List.mem_singleton.mp z]; exact W.up t ht0
 refine ⟨.int n, rfl, .tuple (us.map pD), rfl, .inr ⟨.tuple (us.map pD), rfl, pD t, att, (show 1<=1000 by decide), by rw [lm]; show us.length + 1<=1000; omega, .inr ⟨n, us ++ [t], by rw [List.map_append]; rfl, n1, by omega, by rw [List.length_append, List.length_singleton]; omega, oku, fun vs hv=>?_⟩⟩⟩
 rw [map_mm upu] at hv
 refine dset_of (s:=.im (webD n vs)) (by rw [norm_pos (imm_web n vs)]; rfl) ?_
 have okv : OkN n vs:=fun u hu=>oku u (hv.mem_iff.mp hu)
 have lv : vs.length<=24:=by rw [hv.length_eq, List.length_append, List.length_singleton]; omega
 have nicv : ∀ u∈vs, Nice u:=fun u hu=>by
  have h:=okv u hu
  exact ⟨h.2.1.1, by have:=h.2.1.2; omega⟩
 refine lc_fm ((List.range us.length).filter (brK us)) (fun i : Nat=>.int (0 + ((i : Nat) : Int))) (fun j=>decide (j≠k)) (fun i=>pD (us.getD i (0, 0))) .imm (cuts_map us) ?_ (fun i hi A B hA hB=>?_) ?_
 ·have:=List.length_filter_le (brK us) (List.range us.length)
  rw [List.length_range] at this
  omega
 ·have hi:=List.mem_range.mp (List.mem_filter.mp hi).1
  show if (!decide (0 + ((i : Nat) : Int) = ((k : Nat) : Int))) = true then _ else _
  by_cases e : i = k
  ·rw [decide_eq_true (show 0 + ((i : Nat) : Int) = ((k : Nat) : Int) by omega)]
   exact iteF (A:=True) (hB (decide_eq_false fun z=>z e))
  ·rw [decide_eq_false (show ¬ (0 + ((i : Nat) : Int) = ((k : Nat) : Int)) by omega)]
   exact iteT (B:=True) ⟨.tuple (us.map pD), rfl, _, at_gd hi, rfl, hA (decide_eq_true e)⟩
 have eL : (((List.range us.length).filter (brK us)).filter fun j=>decide (j≠k)).map (fun i=>pD (us.getD i (0, 0))) = (us.filter fun u=>brB us u && decide (u≠t)).map pD:=by
  rw [← dbl_pick ht, List.map_map, List.filter_filter]
  congr 2
  funext j
  exact Bool.and_comm _ _
 have lf : (us.filter fun u=>brB us u && decide (u≠t)).length<=us.length:=List.length_filter_le _ _
 refine ⟨us.filter fun u=>brB us u && decide (u≠t), .inl (congrArg PyData.list eL), by omega, fun u hu=>W.nice u (List.mem_filter.mp hu).1, fun w1 p1 s1=>?_⟩
 refine ⟨n, vs, rfl, n1, by omega, by omega, okv, ?_⟩
 refine lc_m ((List.range vs.length).filter (brK vs)) (fun i : Nat=>.int (0 + ((i : Nat) : Int))) (fun i=>pD (vs.getD i (0, 0))) .imm (cuts_map vs) ?_ (fun i hi A B hA=>?_) ?_
 ·have:=List.length_filter_le (brK vs) (List.range vs.length)
  rw [List.length_range] at this
  omega
 ·have hi:=List.mem_range.mp (List.mem_filter.mp hi).1
  exact iteT (B:=B) ⟨.tuple (vs.map pD), rfl, _, at_gd hi, rfl, hA⟩
 have eM : ((List.range vs.length).filter (brK vs)).map (fun i=>pD (vs.getD i (0, 0))) = (vs.filter (brB vs)).map pD:=by
  rw [← bt_all, List.map_map]
  rfl
 have lf2 : (vs.filter (brB vs)).length<=vs.length:=List.length_filter_le _ _
 refine ⟨vs.filter (brB vs), .inl (congrArg PyData.list eM), by omega, fun u hu=>nicv u (List.mem_filter.mp hu).1, fun w2 p2 s2'=>?_⟩
 have e : w2 = w1:=sort_uniq (fun u hu=>nicv u (List.mem_filter.mp (p2.mem_iff.mp hu)).1) (p2.trans ((dbl_eq ht hv).trans p1.symm)) s2' s1
 refine ⟨okD_ties w2, okD_ties w1, ?_⟩
 show _/\E.rt (.bool (PyData.eqv (.list (w2.map pD)) (.list (w1.map pD))))
 rw [eqv_lst, decide_eq_true e]
 exact ⟨rfl, q⟩
theorem mm_ok {n a b : Int} (a0 : 0<=a) (a1 : a < n) (b0 : 0<=b) (b1 : b < n) (ne : a≠b) : (mmT (a, b) = (a, b)\/mmT (a, b) = (b, a))/\OkT n (mmT (a, b))/\(mmT (a, b)).1 < (mmT (a, b)).2:=by
 unfold mmT OkT
 dsimp only
 refine ⟨?_, ?_, ?_⟩
 ·by_cases h : b < a
  ·rw [if_pos h, if_neg (by omega)]; exact .inr rfl
  ·rw [if_neg h, if_pos (by omega)]; exact .inl rfl
 ·split <;> split <;> omega
 ·split <;> split <;> omega
theorem more_mid {n a b : Int} {us : List Tie} {s4 : Sl} {T : DS} {E : DEnds} (W : WebL n us) (a0 : 0<=a) (a1 : a < n) (b0 : 0<=b) (b1 : b < n) (ne : a≠b)
  (h : ∀ vs w : List Tie, vs.Perm (us ++ [mmT (a, b)])->(∀ u∈vs, Nice u)->w.Perm (vs.filter (brB vs))->w.Pairwise (fun a b=>tcode a<=tcode b)->T E [.im (webD n us), .im (.int a), .im (.int b), .sn (iD (cutsI us)), s4, .im (webD n vs), .sn (.list (w.map pD)), .any, .any]) :
  dSeq
    (dSet 5 none
     (tFn fWebOf
      (aCons (t2 gIx (tV 0) (tK (PyData.int 0)))
       (aCons
        (t2 gPlus (tCl Dl.gLst (aCons (t2 gIx (tV 0) (tK (PyData.int 1))) aNil))
         (tList (aCons (tTuple (aCons (tV 1) (aCons (tV 2) aNil))) aNil)))
        aNil))))
    (dSeq
     (dSet 6 none
      (tCl gSortP
       (aCons
        (dLC [Str.ofString "_law_k"].length (iSq (tFn fCuts (aCons (tV 5) aNil))) (gNm 0) (fun x P=>P true)
         (t2 gIx (t2 gIx (tV 6) (tK (PyData.int 1))) (tV 0)))
        aNil))) T) E [.im (webD n us), .im (.int a), .im (.int b), .sn (iD (cutsI us)), s4, .any, .any, .any, .any]:=by
 have n1:=W.n1
 have n9:=W.n9
 have few:=W.few
 have okN:=W.okN
 have lm : (us.map pD).length = us.length:=List.length_map ..
 obtain ⟨m1, m2, m3⟩:=mm_ok a0 a1 b0 b1 ne
 have oku : OkN n (us ++ [(a, b)]):=fun u hu=>(List.mem_append.mp hu).elim (okN u) fun z=>by rw [List.mem_singleton.mp z]; exact ⟨⟨a0, a1⟩, ⟨b0, b1⟩, ne⟩
 refine ⟨.int n, rfl, .tuple (us.map pD), rfl, .inr ⟨(show 2<=1000 by decide), (show 1<=1000 by decide), by rw [lm]; show us.length + 1<=1000; omega, .inr ⟨n, us ++ [(a, b)], by rw [List.map_append]; rfl, n1, by omega, by rw [List.length_append, List.length_singleton]; omega, oku, fun vs hv=>?_⟩⟩⟩
 have em : (us ++ [(a, b)]).map mmT = us ++ [mmT (a, b)]:=by
  rw [List.map_append, map_mm W.up]
  rfl
 rw [em] at hv
 refine dset_of (s:=.im (webD n vs)) (by rw [norm_pos (imm_web n vs)]; rfl) ?_
 have okv : OkN n vs:=fun u hu=>by
  rcases List.mem_append.mp (hv.mem_iff.mp hu) with z | z
  ·exact okN u z
  ·rw [List.mem_singleton.mp z]; exact m2
 have lv : vs.length<=24:=by rw [hv.length_eq, List.length_append, List.length_singleton]; omega
 have nicv : ∀ u∈vs, Nice u:=fun u hu=>by
  have h:=okv u hu
  exact ⟨h.2.1.1, by have:=h.2.1.2; omega⟩
 refine ⟨n, vs, rfl, n1, by omega, by omega, okv, ?_⟩
 refine lc_m ((List.range vs.length).filter (brK vs)) (fun i : Nat=>.int (0 + ((i : Nat) : Int))) (fun i=>pD (vs.getD i (0, 0))) .imm (cuts_map vs) ?_ (fun i hi A B hA=>?_) ?_
 ·have:=List.length_filter_le (brK vs) (List.range vs.length)
  rw [List.length_range] at this
  omega
 ·have hi:=List.mem_range.mp (List.mem_filter.mp hi).1
  exact iteT (B:=B) ⟨.tuple (vs.map pD), rfl, _, at_gd hi, rfl, hA⟩
 have eM : ((List.range vs.length).filter (brK vs)).map (fun i=>pD (vs.getD i (0, 0))) = (vs.filter (brB vs)).map pD:=by
  rw [← bt_all, List.map_map]
  rfl
 have lf2 : (vs.filter (brB vs)).length<=vs.length:=List.length_filter_le _ _
 exact ⟨vs.filter (brB vs), .inl (congrArg PyData.list eM), by omega, fun u hu=>nicv u (List.mem_filter.mp hu).1, fun w2 p2 s2=>h vs w2 hv nicv p2 s2⟩
theorem bne_dec (x y : Bool) : (!decide (x = y)) = (x != y):=by cases x <;> cases y <;> rfl
noncomputable abbrev R0 (K : PySem.W.Frag) : List Sl:=[.any, .pen (CP K), .any, .any, .any, .any, .any, .any]
section
variable {P : Program} {w : World} {K : PySem.W.Frag} {mg : Str->Option Value} {base : Heap} {f : Addr} {fd : FuncData}
theorem sc_law_less : FnScope ["_law_web", "_law_number"] ["_law_web", "_law_number"] (defScope (top 39)):=⟨rfl, rfl, rfl, by decide +kernel, rfl, by decide +kernel, by decide +kernel⟩
theorem ok_law_less (F : Fun K "_law_less" "_law_less" (top 39) f fd) (B : Dl.Bn mg) (C_web_of : Dl.Cal P w K mg base 6 "web_of" ["n", "ties"] (spD fWebOf)) : FnOk P w K mg base CX0 7 f fd ["_law_web", "_law_number"] (spD fLess):=by
 refine F.ok sc_law_less (len_spD fun ds P h=>?len) (fun cdv A outer s H vs Q E hr h=>?_)
 case len=>(first | (obtain ⟨_, rfl, _⟩:=h; rfl) | (obtain ⟨_, _, rfl, _⟩:=h; rfl) | (obtain ⟨_, _, _, rfl, _⟩:=h; rfl) | (obtain ⟨_, _, _, _, rfl, _⟩:=h; rfl) | (obtain ⟨_, _, _, _, _, rfl, _⟩:=h; rfl) | (obtain ⟨_, _, _, _, _, _, rfl, _⟩:=h; rfl) | (obtain ⟨rfl, _⟩:=h; rfl))
 have nd:=sc_law_less.nd
 refine ⟨_, Wr.WDSs.h (Wr.ds_one (Wr.ds_ret (Wr.dc C_web_of hr (Wr.pda_cons (Wr.pd_ix (Wr.dv 0) Wr.pd_int) (Wr.pda_cons (Wr.pd_lstC B.list (Wr.pda_cons (Wr.pd_plus (Wr.pd_sl (Wr.pd_ix (Wr.dv 0) Wr.pd_int) Wr.do_none (Wr.do_some (Wr.dv 1))) (Wr.pd_sl (Wr.pd_ix (Wr.dv 0) Wr.pd_int) (Wr.do_some (Wr.pd_plus (Wr.dv 1) Wr.pd_int)) Wr.do_none)) Wr.pda_nil)) Wr.pda_nil))))), enterE h ?_⟩
 rintro ds P ⟨n, us, k, t, rfl, W, ht, q⟩
 refine ⟨[.im (webD n us), .im (.int ((k : Nat) : Int))], by show [argS (webD n us), .im (.int ((k : Nat) : Int))] = _; rw [arg_web], ?_⟩
 have hk:=(List.getElem?_eq_some_iff.mp ht).1
 have lm : (us.map pD).length = us.length:=List.length_map ..
 have few:=W.few
 have w1 : ¬ (HT.sIx (us.map pD).length 0 none = 0/\HT.sIx (us.map pD).length (us.map pD).length (some ((k : Nat) : Int)) = (us.map pD).length):=fun z=>by
  have:=z.2
  rw [HT.sIx_nat] at this
  omega
 have w2 : ¬ (HT.sIx (us.map pD).length 0 (some (((k : Nat) : Int) + 1)) = 0/\HT.sIx (us.map pD).length (us.map pD).length none = (us.map pD).length):=fun z=>by
  have:=z.1
  rw [show ((k : Nat) : Int) + 1 = ((k + 1 : Nat) : Int) by omega, HT.sIx_nat] at this
  omega
 refine ⟨.int n, rfl, .tuple (us.map pD), rfl, w1, .tuple (us.map pD), rfl, w2, ?_⟩
 rw [cut_take, show ((k : Nat) : Int) + 1 = ((k + 1 : Nat) : Int) by omega, cut_drop]
 have eE : List.take k (us.map pD) ++ List.drop (k + 1) (us.map pD) = (us.eraseIdx k).map pD:=by
  rw [List.eraseIdx_eq_take_drop_succ, List.map_append, List.map_take, List.map_drop]
 have sub : ∀ u, u∈us.eraseIdx k->u∈us:=fun u hu=>List.mem_of_mem_eraseIdx hu
 have le : (us.eraseIdx k).length<=us.length:=List.length_eraseIdx_le ..
 refine ⟨by rw [List.length_take, List.length_drop]; omega, .inr ⟨n, us.eraseIdx k, congrArg (fun z=>[PyData.int n, .list z]) eE, W.n1, by have:=W.n9; omega, by omega, fun u hu=>W.okN u (sub u hu), fun vs hv=>?_⟩⟩
 rw [map_mm fun u hu=>W.up u (sub u hu)] at hv
 have p3 : (us.eraseIdx k).Perm (us.erase t):=(List.perm_cons t).mp ((cons_erIdx ht).trans (List.perm_cons_erase (List.mem_of_getElem? ht)))
 refine ⟨by rw [norm_pos (imm_web n vs)]; rfl, q vs (fun u=>by rw [hv.mem_iff, p3.mem_iff]) (by rw [hv.length_eq]; omega) fun u hu=>W.okN u (sub u (hv.mem_iff.mp hu))⟩
theorem sc_law_by_ties : FnScope ["_law_web", "_law_number", "_law_side", "_law_rest", "_law_told", "_law_double", "_law_ties_here"] ["_law_web", "_law_number"] (defScope (top 40)):=⟨rfl, rfl, rfl, by decide +kernel, rfl, by decide +kernel, by decide +kernel⟩
theorem nd_law_by_ties_0 : (["_law_k", "_law_web", "_law_number", "_law_side", "_law_rest", "_law_told", "_law_double", "_law_ties_here"] : List Str).Nodup:=by decide +kernel
theorem ok_law_by_ties (F : Fun K "_law_by_ties" "_law_by_ties" (top 40) f fd) (B : Dl.Bn mg) (C_side_of : Dl.Cal P w K mg base 5 "side_of" ["web", "number"] (spD fSide)) (C_parts : Dl.Cal P w K mg base 3 "parts" ["web"] (spD fParts)) (C__law_less : Dl.Cal P w K mg base 7 "_law_less" ["_law_web", "_law_number"] (spD fLess)) (C_cut_ties : Dl.Cal P w K mg base 6 "cut_ties" ["web"] (spD fCuts)) (C_web_of : Dl.Cal P w K mg base 6 "web_of" ["n", "ties"] (spD fWebOf)) : FnOk P w K mg base CX0 8 f fd ["_law_web", "_law_number"] (spD fByT):=by
 refine F.ok sc_law_by_ties (len_spD fun ds P h=>?len) (fun cdv A outer s H vs Q E hr h=>?_)
 case len=>(first | (obtain ⟨_, rfl, _⟩:=h; rfl) | (obtain ⟨_, _, rfl, _⟩:=h; rfl) | (obtain ⟨_, _, _, rfl, _⟩:=h; rfl) | (obtain ⟨_, _, _, _, rfl, _⟩:=h; rfl) | (obtain ⟨_, _, _, _, _, rfl, _⟩:=h; rfl) | (obtain ⟨_, _, _, _, _, _, rfl, _⟩:=h; rfl) | (obtain ⟨rfl, _⟩:=h; rfl))
 have nd:=sc_law_by_ties.nd
 refine ⟨_, Wr.WDSs.h (Wr.ds_cons (Wr.ds_set none (i:=2) nd rfl (by first | exact Or.inl rfl | exact Or.inr rfl) (Wr.dc C_side_of hr (Wr.pda_cons (Wr.dv 0) (Wr.pda_cons (Wr.dv 1) Wr.pda_nil))))
  (Wr.ds_cons (Wr.ds_set none (i:=3) nd rfl (by first | exact Or.inl rfl | exact Or.inr rfl) (Wr.dc C_parts hr (Wr.pda_cons (Wr.dc C__law_less hr (Wr.pda_cons (Wr.dv 0) (Wr.pda_cons (Wr.dv 1) Wr.pda_nil))) Wr.pda_nil)))
  (Wr.ds_cons (Wr.ds_if (Wr.wpt (Wr.pdw_or (Wr.pdt_neA hr.units (Wr.pd_isnotN (Wr.dv 2) Wr.pd_non) (Wr.pd_eqA hr.units (Wr.pd_len B.len (Wr.pda_cons (Wr.dv 3) Wr.pda_nil)) (Wr.pd_plus (Wr.pd_len B.len (Wr.pda_cons (Wr.dc C_parts hr (Wr.pda_cons (Wr.dv 0) Wr.pda_nil)) Wr.pda_nil)) Wr.pd_int))) (Wr.pdw_or1 (Wr.wpt (Wr.pdw_and (Wr.pdt_isnotN (Wr.dv 2) Wr.pd_non) (Wr.pdw_and1 (Wr.pdt_notin hr.units (Wr.dv 2) (Wr.dv 3)))))))) (Wr.ds_one (Wr.ds_ret Wr.pd_bl)) Wr.ds_nil)
  (Wr.ds_cons (Wr.ds_set none (i:=4) nd rfl (by first | exact Or.inl rfl | exact Or.inr rfl) (Wr.dc C_cut_ties hr (Wr.pda_cons (Wr.dv 0) Wr.pda_nil)))
  (Wr.ds_cons (Wr.ds_if (Wr.pdt_neA hr.units (Wr.pd_in hr.units (Wr.dv 1) (Wr.dv 4)) (Wr.pd_isnotN (Wr.dv 2) Wr.pd_non)) (Wr.ds_one (Wr.ds_ret Wr.pd_bl)) Wr.ds_nil)
  (Wr.ds_cons (Wr.ds_set none (i:=5) nd rfl (by first | exact Or.inl rfl | exact Or.inr rfl) (Wr.dc C_web_of hr (Wr.pda_cons (Wr.pd_ix (Wr.dv 0) Wr.pd_int) (Wr.pda_cons (Wr.pd_plus (Wr.pd_lstC B.list (Wr.pda_cons (Wr.pd_ix (Wr.dv 0) Wr.pd_int) Wr.pda_nil)) (Wr.pd_list (Wr.pda_cons (Wr.pd_ix (Wr.pd_ix (Wr.dv 0) Wr.pd_int) (Wr.dv 1)) Wr.pda_nil))) Wr.pda_nil))))
  (Wr.ds_cons (Wr.ds_set none (i:=6) nd rfl (by first | exact Or.inl rfl | exact Or.inr rfl) (Wr.pd_sortP B.sorted (Wr.pda_cons (Wr.pd_lc ["_law_k"] rfl (Wr.di_seq (Wr.dv 4)) (fun c=>(Wr.dg_name (i:=0) nd_law_by_ties_0 rfl (by first | exact Or.inl rfl | exact Or.inr rfl))) (fun c=>(Wr.dts_one (Wr.pdt_neA hr.units (Wr.dv 0) (Wr.dv 2)))) (fun c=>(Wr.pd_ix (Wr.pd_ix (Wr.dv 1) Wr.pd_int) (Wr.dv 0)))) Wr.pda_nil)))
  (Wr.ds_one (Wr.ds_ret (Wr.pd_eqA hr.units (Wr.pd_sortP B.sorted (Wr.pda_cons (Wr.pd_lc ["_law_k"] rfl (Wr.di_seq (Wr.dc C_cut_ties hr (Wr.pda_cons (Wr.dv 5) Wr.pda_nil))) (fun c=>(Wr.dg_name (i:=0) nd_law_by_ties_0 rfl (by first | exact Or.inl rfl | exact Or.inr rfl))) (fun c=>Wr.dts_nil) (fun c=>(Wr.pd_ix (Wr.pd_ix (Wr.dv 6) Wr.pd_int) (Wr.dv 0)))) Wr.pda_nil)) (Wr.dv 6))))))))))), enterE h ?_⟩
 rintro ds P ⟨n, us, k, t, rfl, W, ht, q⟩
 refine ⟨[.im (webD n us), .im (.int ((k : Nat) : Int)), .any, .any, .any, .any, .any], by show [argS (webD n us), .im (.int ((k : Nat) : Int)), .any, .any, .any, .any, .any] = _; rw [arg_web], ?_⟩
 have n1:=W.n1
 have n9:=W.n9
 have few:=W.few
 have okN:=W.okN
 have ht0:=List.mem_of_getElem? ht
 have ok1:=okN t ht0
 have er:=er_back ht0
 refine ⟨n, us, k, t, rfl, ht, n1, by omega, by omega, okN, ?_⟩
 have hz : RZ (adj us [((k : Nat) : Int)] []) t.1 t.2 = !brB us t:=by
  rw [← brK_eq ht]
  unfold brK
  rw [ht]
  exact (Bool.not_not _).symm
 have hmem : decide (((k : Nat) : Int)∈cutsI us) = brB us t:=by rw [← brK_eq ht, Bool.eq_iff_iff, decide_eq_true_iff, mem_cuts]
 cases hb : brB us t with
 | false =>
  rw [hb] at hz
  rw [hz, if_pos (by rfl)]
  refine ⟨n, us, k, t, rfl, W, ht, fun vs hv lv ov=>⟨n, vs, rfl, by omega, by omega, by omega, ov, ?_⟩⟩
  refine ⟨n, us, rfl, by omega, by omega, by omega, okN, ?_⟩
  have nb : Rt (adj (us.erase t) [] []) t.1 t.2:=Classical.byContradiction fun z=>by rw [br_iff.mpr z] at hb; cases hb
  have same : ∀ x y : Int, Rt (adj vs [] []) x y↔Rt (adj us [] []) x y:=fun x y=>by
   rw [rt_mem hv]
   refine ⟨rt_sub fun u hu=>List.mem_of_mem_erase hu, fun r=>?_⟩
   rcases add_edge er r with w | ⟨w1, w2⟩ | ⟨w1, w2⟩
   ·exact w
   ·exact (w1.trans nb).trans w2
   ·exact (w1.trans (rsym nb)).trans w2
  rw [cls_mem n.toNat same]
  generalize clsI (RB (adj us [] [])) n.toNat n.toNat = C
  show if (!decide (false = decide ((((C.map iD).length : Nat) : Int) = (((C.map iD).length : Nat) : Int) + 1))) = true then _ else _
  rw [decide_eq_false (show ¬ ((((C.map iD).length : Nat) : Int) = (((C.map iD).length : Nat) : Int) + 1) by omega)]
  refine iteF (A:=True) (iteF (A:=True) (iteF (A:=True) ⟨n, us, rfl, n1, by omega, by omega, okN, rfl, ok_ints _, ?_⟩))
  show if (!decide ((((cutsI us).map PyData.int).any fun e=>PyData.eqv e (.int ((k : Nat) : Int))) = false)) = true then _ else _
  rw [Dl.any_ints, hmem, hb]
  exact iteF (A:=True) (dbl_tail W ht q)
 | true =>
  rw [hb] at hz
  rw [hz, if_neg (by decide)]
  refine ⟨n, us, k, t, rfl, W, ht, fun vs hv lv ov=>⟨n, vs, rfl, by omega, by omega, by omega, ov, ?_⟩⟩
  refine ⟨n, us, rfl, by omega, by omega, by omega, okN, ?_⟩
  have cm:=cls_more (ws:=vs) (vs:=us) (n:=n.toNat) (t:=t) ⟨ok1.1.1, by have:=ok1.1.2; omega⟩ ⟨ok1.2.1.1, by have:=ok1.2.1.2; omega⟩ (fun u=>by rw [er u, hv u]) fun r=>br_iff.mp hb ((rt_mem hv).mp r)
  have hS : rsI (adj us [((k : Nat) : Int)] []) n.toNat t.1∈clsI (RB (adj vs [] [])) n.toNat n.toNat:=by
   rw [rs_cong fun x=>(adj_er ht).trans (rt_mem hv).symm]
   exact rs_in ok1.1.1 (by have:=ok1.1.2; omega)
  generalize clsI (RB (adj us [] [])) n.toNat n.toNat = C at cm
  generalize clsI (RB (adj vs [] [])) n.toNat n.toNat = C' at cm hS
  generalize rsI (adj us [((k : Nat) : Int)] []) n.toNat t.1 = S at hS
  have lC : (C.map iD).length = C.length:=List.length_map ..
  have lC' : (C'.map iD).length = C'.length:=List.length_map ..
  show if (!decide (true = decide ((((C'.map iD).length : Nat) : Int) = (((C.map iD).length : Nat) : Int) + 1))) = true then _ else _
  rw [decide_eq_true (show (((C'.map iD).length : Nat) : Int) = (((C.map iD).length : Nat) : Int) + 1 by omega)]
  have oC : (C'.map iD).all okD = true:=List.all_eq_true.mpr fun d hd=>by
   obtain ⟨l, _, rfl⟩:=List.mem_map.mp hd
   exact ok_iD l
  refine iteF (A:=True) (iteT (B:=True) ⟨ok_iD S, oC, ?_⟩)
  have aC : ((C'.map iD).any fun e=>PyData.eqv e (iD S)) = true:=List.any_eq_true.mpr ⟨iD S, List.mem_map.mpr ⟨S, hS, rfl⟩, by rw [eqv_ints]; exact decide_eq_true rfl⟩
  show if (!((C'.map iD).any fun e=>PyData.eqv e (iD S))) = true then _ else _
  rw [aC]
  refine iteF (A:=True) ⟨n, us, rfl, n1, by omega, by omega, okN, rfl, ok_ints _, ?_⟩
  show if (!decide ((((cutsI us).map PyData.int).any fun e=>PyData.eqv e (.int ((k : Nat) : Int))) = true)) = true then _ else _
  rw [Dl.any_ints, hmem, hb]
  exact iteF (A:=True) (dbl_tail W ht q)
theorem sc_law_by_a_tie_more : FnScope ["_law_web", "_law_a", "_law_b", "_law_told", "_law_lane", "_law_more", "_law_found", "_law_number", "_law_side"] ["_law_web", "_law_a", "_law_b"] (defScope (top 41)):=⟨rfl, rfl, rfl, by decide +kernel, rfl, by decide +kernel, by decide +kernel⟩
theorem nd_law_by_a_tie_more_0 : (["_law_k", "_law_web", "_law_a", "_law_b", "_law_told", "_law_lane", "_law_more", "_law_found", "_law_number", "_law_side"] : List Str).Nodup:=by decide +kernel
theorem ok_law_by_a_tie_more (F : Fun K "_law_by_a_tie_more" "_law_by_a_tie_more" (top 41) f fd) (B : Dl.Bn mg) (C_cut_ties : Dl.Cal P w K mg base 6 "cut_ties" ["web"] (spD fCuts)) (C_way : Dl.Cal P w K mg base 5 "way" ["web", "a", "b"] (spD fWayK)) (C_web_of : Dl.Cal P w K mg base 6 "web_of" ["n", "ties"] (spD fWebOf)) (C_side_of : Dl.Cal P w K mg base 5 "side_of" ["web", "number"] (spD fSide)) : FnOk P w K mg base CX0 7 f fd ["_law_web", "_law_a", "_law_b"] (spD fByM):=by
 refine F.ok sc_law_by_a_tie_more (len_spD fun ds P h=>?len) (fun cdv A outer s H vs Q E hr h=>?_)
 case len=>(first | (obtain ⟨_, rfl, _⟩:=h; rfl) | (obtain ⟨_, _, rfl, _⟩:=h; rfl) | (obtain ⟨_, _, _, rfl, _⟩:=h; rfl) | (obtain ⟨_, _, _, _, rfl, _⟩:=h; rfl) | (obtain ⟨_, _, _, _, _, rfl, _⟩:=h; rfl) | (obtain ⟨_, _, _, _, _, _, rfl, _⟩:=h; rfl) | (obtain ⟨rfl, _⟩:=h; rfl))
 have nd:=sc_law_by_a_tie_more.nd
 refine ⟨_, Wr.WDSs.h (Wr.ds_cons (Wr.ds_set none (i:=3) nd rfl (by first | exact Or.inl rfl | exact Or.inr rfl) (Wr.dc C_cut_ties hr (Wr.pda_cons (Wr.dv 0) Wr.pda_nil)))
  (Wr.ds_cons (Wr.ds_set none (i:=4) nd rfl (by first | exact Or.inl rfl | exact Or.inr rfl) (Wr.dc C_way hr (Wr.pda_cons (Wr.dv 0) (Wr.pda_cons (Wr.dv 1) (Wr.pda_cons (Wr.dv 2) Wr.pda_nil)))))
  (Wr.ds_cons (Wr.ds_set none (i:=5) nd rfl (by first | exact Or.inl rfl | exact Or.inr rfl) (Wr.dc C_web_of hr (Wr.pda_cons (Wr.pd_ix (Wr.dv 0) Wr.pd_int) (Wr.pda_cons (Wr.pd_plus (Wr.pd_lstC B.list (Wr.pda_cons (Wr.pd_ix (Wr.dv 0) Wr.pd_int) Wr.pda_nil)) (Wr.pd_list (Wr.pda_cons (Wr.pd_tuple (Wr.pda_cons (Wr.dv 1) (Wr.pda_cons (Wr.dv 2) Wr.pda_nil))) Wr.pda_nil))) Wr.pda_nil))))
  (Wr.ds_cons (Wr.ds_set none (i:=6) nd rfl (by first | exact Or.inl rfl | exact Or.inr rfl) (Wr.pd_sortP B.sorted (Wr.pda_cons (Wr.pd_lc ["_law_k"] rfl (Wr.di_seq (Wr.dc C_cut_ties hr (Wr.pda_cons (Wr.dv 5) Wr.pda_nil))) (fun c=>(Wr.dg_name (i:=0) nd_law_by_a_tie_more_0 rfl (by first | exact Or.inl rfl | exact Or.inr rfl))) (fun c=>Wr.dts_nil) (fun c=>(Wr.pd_ix (Wr.pd_ix (Wr.dv 6) Wr.pd_int) (Wr.dv 0)))) Wr.pda_nil)))
  (Wr.ds_cons (Wr.ds_if (Wr.pdt_isN (Wr.dv 4) Wr.pd_non) (Wr.ds_one (Wr.ds_ret (Wr.pd_eqA hr.units (Wr.dv 6) (Wr.pd_sortP B.sorted (Wr.pda_cons (Wr.pd_plus (Wr.pd_lc ["_law_k"] rfl (Wr.di_seq (Wr.dv 3)) (fun c=>(Wr.dg_name (i:=0) nd_law_by_a_tie_more_0 rfl (by first | exact Or.inl rfl | exact Or.inr rfl))) (fun c=>Wr.dts_nil) (fun c=>(Wr.pd_ix (Wr.pd_ix (Wr.dv 1) Wr.pd_int) (Wr.dv 0)))) (Wr.pd_list (Wr.pda_cons (Wr.pd_tuple (Wr.pda_cons (Wr.pd_min2 rfl B.min (Wr.pda_cons (Wr.dv 1) (Wr.pda_cons (Wr.dv 2) Wr.pda_nil))) (Wr.pda_cons (Wr.pd_max2 rfl B.max (Wr.pda_cons (Wr.dv 1) (Wr.pda_cons (Wr.dv 2) Wr.pda_nil))) Wr.pda_nil))) Wr.pda_nil))) Wr.pda_nil))))) Wr.ds_nil)
  (Wr.ds_cons (Wr.ds_for PassesOwn.never rfl (Wr.di_seq (Wr.dv 3)) (Wr.dg_name (i:=7) nd rfl (by first | exact Or.inl rfl | exact Or.inr rfl)) (Wr.ds_cons (Wr.ds_set none (i:=8) nd rfl (by first | exact Or.inl rfl | exact Or.inr rfl) (Wr.dc C_side_of hr (Wr.pda_cons (Wr.dv 0) (Wr.pda_cons (Wr.dv 7) Wr.pda_nil))))
  (Wr.ds_cons (Wr.ds_if (Wr.pdt_neA hr.units (Wr.pd_in hr.units (Wr.dv 7) (Wr.pd_ix (Wr.dv 4) Wr.pd_int)) (Wr.pd_neA hr.units (Wr.pd_in hr.units (Wr.dv 1) (Wr.dv 8)) (Wr.pd_in hr.units (Wr.dv 2) (Wr.dv 8)))) (Wr.ds_one (Wr.ds_ret Wr.pd_bl)) Wr.ds_nil) (Wr.ds_drops [7, 8] Wr.ds_nil))))
  (Wr.ds_drops [7, 8] (Wr.ds_one (Wr.ds_ret (Wr.pd_eqA hr.units (Wr.dv 6) (Wr.pd_sortP B.sorted (Wr.pda_cons (Wr.pd_lc ["_law_k"] rfl (Wr.di_seq (Wr.dv 3)) (fun c=>(Wr.dg_name (i:=0) nd_law_by_a_tie_more_0 rfl (by first | exact Or.inl rfl | exact Or.inr rfl))) (fun c=>(Wr.dts_one (Wr.pdt_notin hr.units (Wr.dv 0) (Wr.pd_ix (Wr.dv 5) Wr.pd_int)))) (fun c=>(Wr.pd_ix (Wr.pd_ix (Wr.dv 1) Wr.pd_int) (Wr.dv 0)))) Wr.pda_nil)))))))))))), enterE h ?_⟩
 rintro ds P ⟨n, us, a, b, rfl, W, a0, a1, b0, b1, ne, q⟩
 refine ⟨[.im (webD n us), .im (.int a), .im (.int b), .any, .any, .any, .any, .any, .any], by show [argS (webD n us), .im (.int a), .im (.int b), .any, .any, .any, .any, .any, .any] = _; rw [arg_web], ?_⟩
 have n1:=W.n1
 have n9:=W.n9
 have few:=W.few
 have okN:=W.okN
 obtain ⟨m1, m2, m3⟩:=mm_ok a0 a1 b0 b1 ne
 have lt : ((List.range us.length).filter (brK us)).length<=us.length:=by
  have:=List.length_filter_le (brK us) (List.range us.length)
  rwa [List.length_range] at this
 refine ⟨n, us, rfl, n1, by omega, by omega, okN, n, us, a, b, rfl, by omega, by omega, by omega, okN, a0, a1, b0, b1, fun hn=>?_, fun ps ks r Wa l1 l2=>?_⟩
 ·refine more_mid W a0 a1 b0 b1 ne fun vs w hv nic pw sw=>?_
  refine iteT (B:=True) ?_
  refine lc_m ((List.range us.length).filter (brK us)) (fun i : Nat=>.int (0 + ((i : Nat) : Int))) (fun i=>pD (us.getD i (0, 0))) .imm (cuts_map us) (by omega) (fun i hi A B hA=>?_) ?_
  ·have hi:=List.mem_range.mp (List.mem_filter.mp hi).1
   exact iteT (B:=B) ⟨.tuple (us.map pD), rfl, _, at_gd hi, rfl, hA⟩
  have eM : ((List.range us.length).filter (brK us)).map (fun i=>pD (us.getD i (0, 0))) = (us.filter (brB us)).map pD:=by
   rw [← bt_all, List.map_map]
   rfl
  rw [eM]
  have lf : (us.filter (brB us)).length<=us.length:=List.length_filter_le _ _
  have hn' : ¬ Rt (adj us [] []) (mmT (a, b)).1 (mmT (a, b)).2:=by
   rcases m1 with e | e <;> rw [e]
   ·exact hn
   ·exact fun r=>hn (rsym r)
  refine ⟨(show 2<=1000 by decide), (show 1<=1000 by decide), by rw [List.length_map]; show _ + 1<=1000; omega, .inr ⟨us.filter (brB us) ++ [mmT (a, b)], .inl (by rw [List.map_append]; rfl), by rw [List.length_append, List.length_singleton]; omega, fun u hu=>?_, fun w2 p2 s2=>?_⟩⟩
  ·rcases List.mem_append.mp hu with z | z
   ·exact W.nice u (List.mem_filter.mp z).1
   ·rw [List.mem_singleton.mp z]
    have:=m2.2.1
    exact ⟨this.1, by omega⟩
  ·have e : w = w2:=sort_uniq (fun u hu=>nic u (List.mem_filter.mp (pw.mem_iff.mp hu)).1) (pw.trans ((new_none hv hn').trans p2.symm)) sw s2
   refine ⟨okD_ties w, okD_ties w2, ?_⟩
   show _/\P (.bool (PyData.eqv (.list (w.map pD)) (.list (w2.map pD))))
   rw [eqv_lst, decide_eq_true e]
   exact ⟨rfl, q⟩
 ·refine more_mid W a0 a1 b0 b1 ne fun vs w hv nic pw sw=>?_
  have hr' : Rt (adj us [] []) (mmT (a, b)).1 (mmT (a, b)).2:=by
   rcases m1 with e | e <;> rw [e]
   ·exact r
   ·exact rsym r
  have se : ∀ t, sepB us (mmT (a, b)).1 (mmT (a, b)).2 t = sepB us a b t:=fun t=>by
   rcases m1 with e | e <;> rw [e]
   exact sep_comm us b a t
  refine iteF (A:=True) ?_
  refine for_all ((List.range us.length).filter (brK us)) (fun i : Nat=>.int (0 + ((i : Nat) : Int))) (fun ρ=>ρ = [.im (webD n us), .im (.int a), .im (.int b), .sn (iD (cutsI us)), .sn (.tuple [iD ps, iD ks]), .im (webD n vs), .sn (.list (w.map pD)), .any, .any]) (cuts_map us) rfl rfl ?_ ?_
  ·rintro i hi ρ rfl
   have hi':=List.mem_filter.mp hi
   have hil:=List.mem_range.mp hi'.1
   have ht:=gd hil
   generalize us.getD i (0, 0) = t at ht
   have hb : brB us t = true:=by rw [← brK_eq ht]; exact hi'.2
   have hz : RZ (adj us [((i : Nat) : Int)] []) t.1 t.2 = false:=by
    rw [← Bool.not_eq_true, RZ_iff, adj_er ht]
    exact br_iff.mp hb
   refine ⟨n, us, i, t, congrArg (fun z=>[webD n us, PyData.int z]) (Int.zero_add _), ht, n1, by omega, by omega, okN, ?_⟩
   rw [hz, if_neg Bool.false_ne_true]
   have hin : ∀ x : Int, 0<=x->x < n->decide (x∈rsI (adj us [((i : Nat) : Int)] []) n.toNat t.1) = RZ (adj (us.erase t) [] []) t.1 x:=fun x x0 x1=>by
    rw [Bool.eq_iff_iff, decide_eq_true_iff, mem_rs, RZ_iff, adj_er ht]
    exact ⟨fun z=>z.2, fun z=>⟨⟨x0, by omega⟩, z⟩⟩
   have ha:=hin a a0 a1
   have hb2:=hin b b0 b1
   generalize rsI (adj us [((i : Nat) : Int)] []) n.toNat t.1 = S at ha hb2
   refine ⟨iD ks, rfl, rfl, ok_ints ks, rfl, ok_ints S, rfl, ok_ints S, ?_⟩
   show if (!decide (((ks.map PyData.int).any fun e=>PyData.eqv e (.int (0 + ((i : Nat) : Int)))) = (!decide (((S.map PyData.int).any fun e=>PyData.eqv e (.int a)) = ((S.map PyData.int).any fun e=>PyData.eqv e (.int b)))))) = true then _ else _
   rw [Dl.any_ints, Dl.any_ints, Dl.any_ints, ha, hb2, bne_dec, Int.zero_add, lane_sep Wa ht hb]
   show if (!decide (sepB us a b t = sepB us a b t)) = true then _ else _
   rw [decide_eq_true rfl]
   exact iteF (A:=True) rfl
  ·rintro ρ rfl
   refine lc_fm ((List.range us.length).filter (brK us)) (fun i : Nat=>.int (0 + ((i : Nat) : Int))) (fun j=>!decide (((j : Nat) : Int)∈ks)) (fun i=>pD (us.getD i (0, 0))) .imm (cuts_map us) (by omega) (fun i hi A B hA hB=>?_) ?_
   ·have hil:=List.mem_range.mp (List.mem_filter.mp hi).1
    refine ⟨iD ks, rfl, rfl, ok_ints ks, ?_⟩
    show if (!((ks.map PyData.int).any fun e=>PyData.eqv e (.int (0 + ((i : Nat) : Int))))) = true then _ else _
    rw [Dl.any_ints, Int.zero_add]
    cases h1 : decide (((i : Nat) : Int)∈ks) with
    | true=>exact iteF (A:=True) (hB (by rw [h1]; rfl))
    | false =>
     have ag:=at_gd hil
     rw [Int.zero_add] at ag
     exact iteT (B:=True) ⟨.tuple (us.map pD), rfl, _, ag, rfl, hA (by rw [h1]; rfl)⟩
   have eL : (((List.range us.length).filter (brK us)).filter fun j=>!decide (((j : Nat) : Int)∈ks)).map (fun i=>pD (us.getD i (0, 0))) = (us.filter fun t=>brB us t && !sepB us (mmT (a, b)).1 (mmT (a, b)).2 t).map pD:=by
    rw [← pick_eq us (fun j=>brK us j && !decide (((j : Nat) : Int)∈ks)) (fun t=>brB us t && !sepB us (mmT (a, b)).1 (mmT (a, b)).2 t) fun j hj=>?_, List.map_map, List.filter_filter]
    ·congr 2
     funext j
     exact Bool.and_comm _ _
    ·have hj':=gd hj
     generalize us.getD j (0, 0) = t at hj'
     rw [brK_eq hj']
     cases hb : brB us t with
     | false=>rfl
     | true=>rw [lane_sep Wa hj' hb, se]
   have lf : (us.filter fun t=>brB us t && !sepB us (mmT (a, b)).1 (mmT (a, b)).2 t).length<=us.length:=List.length_filter_le _ _
   refine ⟨us.filter fun t=>brB us t && !sepB us (mmT (a, b)).1 (mmT (a, b)).2 t, .inl (congrArg PyData.list eL), by omega, fun u hu=>W.nice u (List.mem_filter.mp hu).1, fun w2 p2 s2=>?_⟩
   have e : w = w2:=sort_uniq (fun u hu=>nic u (List.mem_filter.mp (pw.mem_iff.mp hu)).1) (pw.trans ((new_some hv hr').trans p2.symm)) sw s2
   refine ⟨okD_ties w, okD_ties w2, ?_⟩
   show _/\P (.bool (PyData.eqv (.list (w.map pD)) (.list (w2.map pD))))
   rw [eqv_lst, decide_eq_true e]
   exact ⟨rfl, q⟩
theorem sc_law_without : FnScope ["_law_web", "_law_v", "_law_ties_here"] ["_law_web", "_law_v"] (defScope (top 42)):=⟨rfl, rfl, rfl, by decide +kernel, rfl, by decide +kernel, by decide +kernel⟩
theorem nd_law_without_0 : (["_law_a", "_law_b", "_law_web", "_law_v", "_law_ties_here"] : List Str).Nodup:=by decide +kernel
theorem ok_law_without (F : Fun K "_law_without" "_law_without" (top 42) f fd) (B : Dl.Bn mg) (C_web_of : Dl.Cal P w K mg base 6 "web_of" ["n", "ties"] (spD fWebOf)) : FnOk P w K mg base CX0 7 f fd ["_law_web", "_law_v"] (spD fWith):=by
 refine F.ok sc_law_without (len_spD fun ds P h=>?len) (fun cdv A outer s H vs Q E hr h=>?_)
 case len=>(first | (obtain ⟨_, rfl, _⟩:=h; rfl) | (obtain ⟨_, _, rfl, _⟩:=h; rfl) | (obtain ⟨_, _, _, rfl, _⟩:=h; rfl) | (obtain ⟨_, _, _, _, rfl, _⟩:=h; rfl) | (obtain ⟨_, _, _, _, _, rfl, _⟩:=h; rfl) | (obtain ⟨_, _, _, _, _, _, rfl, _⟩:=h; rfl) | (obtain ⟨rfl, _⟩:=h; rfl))
 have nd:=sc_law_without.nd
 refine ⟨_, Wr.WDSs.h (Wr.ds_cons (Wr.ds_setlc none ["_law_a", "_law_b"] (i:=2) rfl nd rfl (by first | exact Or.inl rfl | exact Or.inr rfl) (Wr.di_seq (Wr.pd_ix (Wr.dv 0) Wr.pd_int)) (fun c=>(Wr.dg_tup (n:=2) rfl (Wr.dgs_cons (Wr.dg_name (i:=0) nd_law_without_0 rfl (by first | exact Or.inl rfl | exact Or.inr rfl)) (Wr.dgs_cons (Wr.dg_name (i:=1) nd_law_without_0 rfl (by first | exact Or.inl rfl | exact Or.inr rfl)) Wr.dgs_nil)))) (fun c=>(Wr.dts_one (Wr.pdt_notin hr.units (Wr.dv 3) (Wr.pd_tuple (Wr.pda_cons (Wr.dv 0) (Wr.pda_cons (Wr.dv 1) Wr.pda_nil)))))) (fun c=>(Wr.pd_tuple (Wr.pda_cons (Wr.pd_sub (Wr.dv 0) (Wr.pd_intC B.int boot_int (Wr.pda_cons (Wr.pd_gt (Wr.dv 0) (Wr.dv 3)) Wr.pda_nil))) (Wr.pda_cons (Wr.pd_sub (Wr.dv 1) (Wr.pd_intC B.int boot_int (Wr.pda_cons (Wr.pd_gt (Wr.dv 1) (Wr.dv 3)) Wr.pda_nil))) Wr.pda_nil)))))
  (Wr.ds_one (Wr.ds_ret (Wr.dc C_web_of hr (Wr.pda_cons (Wr.pd_sub (Wr.pd_ix (Wr.dv 0) Wr.pd_int) Wr.pd_int) (Wr.pda_cons (Wr.dv 2) Wr.pda_nil)))))), enterE h ?_⟩
 rintro ds P ⟨n, us, v, rfl, W, n2, hv, q⟩
 refine ⟨[.im (webD n us), .im (.int ((v : Nat) : Int)), .any], by show [argS (webD n us), .im (.int ((v : Nat) : Int)), .any] = _; rw [arg_web], ?_⟩
 have few:=W.few
 have nl:=noV_len us ((v : Nat) : Int)
 refine ⟨.tuple (us.map pD), rfl, lc_fm us pD (fun t=>!decide (((v : Nat) : Int) = t.1\/((v : Nat) : Int) = t.2)) (fun t=>pD (shT ((v : Nat) : Int) t)) .imm rfl (by omega) (fun t ht A B hA hB=>?_) ?_⟩
 ·refine ⟨rfl, (show 2<=1000 by decide), rfl, rfl, ?_⟩
  show if (!([PyData.int t.1, .int t.2].any fun e=>PyData.eqv e (.int ((v : Nat) : Int)))) = true then _ else _
  rw [any_pair]
  cases h1 : decide (((v : Nat) : Int) = t.1\/((v : Nat) : Int) = t.2) with
  | true=>exact iteF (A:=True) (hB (by rw [h1]; rfl))
  | false =>
   have hA:=hA (by rw [h1]; rfl)
   refine iteT (B:=True) ⟨(show 2<=1000 by decide), rfl, ?_⟩
   have e : ∀ x : Int, (if decide (((v : Nat) : Int) < x) = true then (1 : Int) else 0) = if ((v : Nat) : Int) < x then 1 else 0:=fun x=>by
    by_cases z : ((v : Nat) : Int) < x
    ·rw [decide_eq_true z, if_pos rfl, if_pos z]
    ·rw [decide_eq_false z, if_neg Bool.false_ne_true, if_neg z]
   show A (.tuple [.int (t.1 - if decide (((v : Nat) : Int) < t.1) = true then (1 : Int) else 0), .int (t.2 - if decide (((v : Nat) : Int) < t.2) = true then (1 : Int) else 0)])
   rw [e, e]
   exact hA
 ·have nm : ∀ t∈noV us ((v : Nat) : Int), t∈us/\t.1≠((v : Nat) : Int)/\t.2≠((v : Nat) : Int):=fun t ht=>by
   have h1:=List.mem_filter.mp ht
   have:=h1.2
   simp only [Bool.not_eq_true', decide_eq_false_iff_not, not_or] at this
   exact ⟨h1.1, fun z=>this.1 z.symm, fun z=>this.2 z.symm⟩
  have sw : ∀ u∈(noV us ((v : Nat) : Int)).map (shT ((v : Nat) : Int)), 0<=u.1/\u.1 < u.2/\u.2 < n - 1:=fun u hu=>by
   obtain ⟨t, ht, rfl⟩:=List.mem_map.mp hu
   obtain ⟨hm, n1, n2⟩:=nm t ht
   obtain ⟨w0, w1, w2⟩:=W.ok t hm
   show 0<=dnI _ t.1/\dnI _ t.1 < dnI _ t.2/\dnI _ t.2 < n - 1
   unfold dnI
   split <;> split <;> omega
  have okS : OkN (n - 1) ((noV us ((v : Nat) : Int)).map (shT ((v : Nat) : Int))):=fun u hu=>by
   obtain ⟨h1, h2, h3⟩:=sw u hu
   exact ⟨⟨h1, by omega⟩, ⟨by omega, h3⟩, by omega⟩
  have ll : ((noV us ((v : Nat) : Int)).map (shT ((v : Nat) : Int))).length<=40:=by rw [List.length_map]; omega
  have n9:=W.n9
  refine ⟨.int n, rfl, n - 1, (noV us ((v : Nat) : Int)).map (shT ((v : Nat) : Int)), ?_, by omega, by omega, ll, okS, fun vs hv=>?_⟩
  ·show [PyData.int (n - 1), .list ((us.filter fun t=>!decide (((v : Nat) : Int) = t.1\/((v : Nat) : Int) = t.2)).map fun t=>pD (shT ((v : Nat) : Int) t))] = _
   rw [List.map_map]
   rfl
  ·rw [map_mm fun u hu=>(sw u hu).2.1] at hv
   exact ⟨by rw [norm_pos (imm_web _ vs)]; rfl, q vs (fun t=>hv.mem_iff) (by rw [hv.length_eq]; exact ll) fun u hu=>okS u (hv.mem_iff.mp hu)⟩
theorem sc_law_by_places : FnScope ["_law_web", "_law_found", "_law_v", "_law_rest", "_law_back", "_law_here"] ["_law_web"] (defScope (top 43)):=⟨rfl, rfl, rfl, by decide +kernel, rfl, by decide +kernel, by decide +kernel⟩
theorem nd_law_by_places_0 : (["_law_part", "_law_web", "_law_found", "_law_v", "_law_rest", "_law_back", "_law_here"] : List Str).Nodup:=by decide +kernel
theorem nd_law_by_places_1 : (["_law_place", "_law_part", "_law_web", "_law_found", "_law_v", "_law_rest", "_law_back", "_law_here"] : List Str).Nodup:=by decide +kernel
theorem ok_law_by_places (F : Fun K "_law_by_places" "_law_by_places" (top 43) f fd) (B : Dl.Bn mg) (C__law_without : Dl.Cal P w K mg base 7 "_law_without" ["_law_web", "_law_v"] (spD fWith)) (C_parts : Dl.Cal P w K mg base 3 "parts" ["web"] (spD fParts)) (C_parts_without : Dl.Cal P w K mg base 5 "parts_without" ["web", "v"] (spD fPW)) (C_cut_places : Dl.Cal P w K mg base 6 "cut_places" ["web"] (spD fCutP)) : FnOk P w K mg base CX0 8 f fd ["_law_web"] (spD fByP):=by
 refine F.ok sc_law_by_places (len_spD fun ds P h=>?len) (fun cdv A outer s H vs Q E hr h=>?_)
 case len=>(first | (obtain ⟨_, rfl, _⟩:=h; rfl) | (obtain ⟨_, _, rfl, _⟩:=h; rfl) | (obtain ⟨_, _, _, rfl, _⟩:=h; rfl) | (obtain ⟨_, _, _, _, rfl, _⟩:=h; rfl) | (obtain ⟨_, _, _, _, _, rfl, _⟩:=h; rfl) | (obtain ⟨_, _, _, _, _, _, rfl, _⟩:=h; rfl) | (obtain ⟨rfl, _⟩:=h; rfl))
 have nd:=sc_law_by_places.nd
 refine ⟨_, Wr.WDSs.h (Wr.ds_cons (Wr.ds_set (some 0) (i:=1) nd rfl (by first | exact Or.inl rfl | exact Or.inr rfl) (Wr.pd_list Wr.pda_nil))
  (Wr.ds_cons (Wr.ds_for PassesOwn.never rfl (Wr.di_range1 B.range (Wr.pda_cons (Wr.pd_ix (Wr.dv 0) Wr.pd_int) Wr.pda_nil)) (Wr.dg_name (i:=2) nd rfl (by first | exact Or.inl rfl | exact Or.inr rfl)) (Wr.ds_cons (Wr.ds_set none (i:=3) nd rfl (by first | exact Or.inl rfl | exact Or.inr rfl) (Wr.dc C__law_without hr (Wr.pda_cons (Wr.dv 0) (Wr.pda_cons (Wr.dv 2) Wr.pda_nil))))
  (Wr.ds_cons (Wr.ds_setlc none ["_law_part"] (i:=4) rfl nd rfl (by first | exact Or.inl rfl | exact Or.inr rfl) (Wr.di_seq (Wr.dc C_parts hr (Wr.pda_cons (Wr.dv 3) Wr.pda_nil))) (fun c=>(Wr.dg_name (i:=0) nd_law_by_places_0 rfl (by first | exact Or.inl rfl | exact Or.inr rfl))) (fun c=>Wr.dts_nil) (fun c=>(Wr.pd_lc ["_law_place"] rfl (Wr.di_seq (Wr.dv 0)) (fun c=>(Wr.dg_name (i:=0) nd_law_by_places_1 rfl (by first | exact Or.inl rfl | exact Or.inr rfl))) (fun c=>Wr.dts_nil) (fun c=>(Wr.pd_plus (Wr.dv 0) (Wr.pd_intC B.int boot_int (Wr.pda_cons (Wr.pd_ge (Wr.dv 0) (Wr.dv 4)) Wr.pda_nil)))))))
  (Wr.ds_cons (Wr.ds_if (Wr.pdt_neA hr.units (Wr.dc C_parts_without hr (Wr.pda_cons (Wr.dv 0) (Wr.pda_cons (Wr.dv 2) Wr.pda_nil))) (Wr.dv 4)) (Wr.ds_one (Wr.ds_ret Wr.pd_bl)) Wr.ds_nil)
  (Wr.ds_cons (Wr.ds_set none (i:=5) nd rfl (by first | exact Or.inl rfl | exact Or.inr rfl) (Wr.pd_ix (Wr.pd_lc ["_law_part"] rfl (Wr.di_seq (Wr.dc C_parts hr (Wr.pda_cons (Wr.dv 0) Wr.pda_nil))) (fun c=>(Wr.dg_name (i:=0) nd_law_by_places_0 rfl (by first | exact Or.inl rfl | exact Or.inr rfl))) (fun c=>(Wr.dts_one (Wr.pdt_in hr.units (Wr.dv 3) (Wr.dv 0)))) (fun c=>(Wr.dv 0))) Wr.pd_int))
  (Wr.ds_cons (Wr.ds_if (Wr.pdt_gt (Wr.pd_len B.len (Wr.pda_cons (Wr.pd_lc ["_law_part"] rfl (Wr.di_seq (Wr.dv 4)) (fun c=>(Wr.dg_name (i:=0) nd_law_by_places_0 rfl (by first | exact Or.inl rfl | exact Or.inr rfl))) (fun c=>(Wr.dts_one (Wr.pdt_in hr.units (Wr.pd_ix (Wr.dv 0) Wr.pd_int) (Wr.dv 6)))) (fun c=>(Wr.dv 0))) Wr.pda_nil)) Wr.pd_int) (Wr.ds_one (Wr.ds_append (Wr.wv 1) (Wr.pda_cons (Wr.dv 2) Wr.pda_nil))) Wr.ds_nil) (Wr.ds_drops [2, 3, 4, 5] Wr.ds_nil)))))))
  (Wr.ds_drops [2, 3, 4, 5] (Wr.ds_one (Wr.ds_ret (Wr.pd_eqA hr.units (Wr.dc C_cut_places hr (Wr.pda_cons (Wr.dv 0) Wr.pda_nil)) (Wr.dv 1))))))), enterE h ?_⟩
 rintro ds P ⟨n, us, rfl, W, n2, q⟩
 refine ⟨[.im (webD n us), .any, .any, .any, .any, .any], by show [argS (webD n us), .any, .any, .any, .any, .any] = _; rw [arg_web], ?_⟩
 have n1:=W.n1
 have n9:=W.n9
 have few:=W.few
 have okN:=W.okN
 refine ⟨(show 0<=1000 by decide), .int n, rfl, ⟨by omega, by omega⟩, rfl, fun (i : Nat) ρ=>ρ = [.im (webD n us), .dw 0 (iD (zI (((List.range n.toNat).take i).filter (cutB n.toNat us)))), .any, .any, .any, .any], rfl, ?_, ?_⟩
 ·rintro v d ρ hd rfl
  obtain ⟨hv, rfl⟩:=intsD_get hd
  refine ⟨n, us, v, congrArg (fun z=>[webD n us, PyData.int z]) (Int.zero_add _), W, n2, hv, fun vs hvs lv ov=>?_⟩
  refine dset_of (s:=.im (webD (n - 1) vs)) (by rw [norm_pos (imm_web _ vs)]; rfl) ?_
  have cl:=cls_len (RB (adj vs [] [])) (n - 1).toNat (n - 1).toNat
  have ce:=cls_each (RB (adj vs [] [])) (n - 1).toNat (n - 1).toNat
  have sc:=sh_cls hv hvs
  rw [show n.toNat - 1 = (n - 1).toNat by omega] at sc
  refine ⟨n - 1, vs, rfl, by omega, by omega, by omega, ov, ?_⟩
  generalize clsI (RB (adj vs [] [])) (n - 1).toNat (n - 1).toNat = C' at cl ce sc ⊢
  have hup : ∀ x : Int, x + (if decide (0 + ((v : Nat) : Int)<=x) = true then (1 : Int) else 0) = upI ((v : Nat) : Int) x:=fun x=>by
   unfold upI
   by_cases z : ((v : Nat) : Int)<=x
   ·rw [decide_eq_true (by omega), if_pos rfl, if_pos z]
   ·rw [decide_eq_false (by omega), if_neg Bool.false_ne_true, if_neg z, Int.add_zero]
  refine lc_m C' iD (fun l=>iD (l.map (upI ((v : Nat) : Int)))) .new rfl (by omega) (fun l hl A B hA=>iteT (B:=B) ?_) ?_
  ·have ll:=ce l hl
   refine lc_m l PyData.int (fun x=>.int (upI ((v : Nat) : Int) x)) .imm rfl (by omega) (fun x hx A2 B2 hA2=>iteT (B:=B2) ⟨rfl, ?_⟩) ?_
   ·show A2 (.int (x + if decide (0 + ((v : Nat) : Int)<=x) = true then (1 : Int) else 0))
    rw [hup]
    exact hA2
   ·refine ⟨rfl, ?_⟩
    have e : (l.map fun x=>PyData.int (upI ((v : Nat) : Int) x)) = (l.map (upI ((v : Nat) : Int))).map PyData.int:=by rw [List.map_map]; rfl
    rw [e]
    exact hA
  have eB : (C'.map fun l=>iD (l.map (upI ((v : Nat) : Int)))) = (pwI n.toNat us v).map iD:=by
   rw [← sc, List.map_map]
   rfl
  rw [eB]
  have pl:=pw_len n.toNat us v
  have hne : ∀ l∈pwI n.toNat us v, ∃ x l', l = x :: l':=fun l hl=>by
   unfold pwI at hl
   obtain ⟨a, ha, rfl⟩:=List.mem_map.mp hl
   have ha:=List.mem_range.mp (List.mem_filter.mp (List.mem_filter.mp ha).1).1
   have:=mine_ne (R:=RV us v) (n:=n.toNat) (a:=a) (RB_self _ a) ha
   cases hm : mineN (RV us v) n.toNat a with
   | nil=>exact absurd hm this
   | cons x l'=>exact ⟨_, _, rfl⟩
  have ctb : cutB n.toNat us v = decide (1 < ((pwI n.toNat us v).filter fun l=>decide (l.headD 0∈rsI (adj us [] []) n.toNat ((v : Nat) : Int))).length):=rfl
  refine ⟨n, us, v, congrArg (fun z=>[webD n us, PyData.int z]) (Int.zero_add _), n1, by omega, by omega, okN, hv, okD_lists _, okD_lists _, ?_⟩
  show if (!PyData.eqv (.list ((pwI n.toNat us v).map iD)) (.list ((pwI n.toNat us v).map iD))) = true then _ else _
  rw [eqv_lists, decide_eq_true rfl]
  generalize pwI n.toNat us v = Bk at pl hne ctb
  have cl2:=cls_len (RB (adj us [] [])) n.toNat n.toNat
  refine iteF (A:=True) ⟨n, us, rfl, by omega, by omega, by omega, okN, ?_⟩
  refine lc_fm (clsI (RB (adj us [] [])) n.toNat n.toNat) iD (fun l=>decide (((v : Nat) : Int)∈l)) iD .snw rfl (by omega) (fun l hl A B hA hB=>?_) ?_
  ·refine ⟨rfl, ok_ints l, ?_⟩
   show if ((l.map PyData.int).any fun e=>PyData.eqv e (.int (0 + ((v : Nat) : Int)))) = true then _ else _
   rw [Dl.any_ints, Int.zero_add]
   cases h1 : decide (((v : Nat) : Int)∈l) with
   | true=>exact iteT (B:=True) ⟨rfl, hA h1⟩
   | false=>exact iteF (A:=True) (hB h1)
  obtain ⟨l0, L0, eC⟩ : ∃ l0 L0, (clsI (RB (adj us [] [])) n.toNat n.toNat).filter (fun l=>decide (((v : Nat) : Int)∈l)) = l0 :: L0:=by
   have hm : rsI (adj us [] []) n.toNat ((v : Nat) : Int)∈(clsI (RB (adj us [] [])) n.toNat n.toNat).filter (fun l=>decide (((v : Nat) : Int)∈l)):=List.mem_filter.mpr ⟨rs_in (by omega) (by omega), decide_eq_true (mem_rs.mpr ⟨⟨by omega, by omega⟩, .refl _⟩)⟩
   cases hc : (clsI (RB (adj us [] [])) n.toNat n.toNat).filter (fun l=>decide (((v : Nat) : Int)∈l)) with
   | nil=>rw [hc] at hm; cases hm
   | cons l0 L0=>exact ⟨l0, L0, rfl⟩
  have e0 : l0 = rsI (adj us [] []) n.toNat ((v : Nat) : Int):=by
   have hm : l0∈(clsI (RB (adj us [] [])) n.toNat n.toNat).filter (fun l=>decide (((v : Nat) : Int)∈l)):=by rw [eC]; exact List.mem_cons_self
   have hm:=List.mem_filter.mp hm
   exact cls_is hm.1 (of_decide_eq_true hm.2)
  rw [← e0] at ctb
  rw [eC]
  refine ⟨iD l0, atI_nat (j:=0) rfl, ?_⟩
  refine lc_fm Bk iD (fun l=>decide (l.headD 0∈l0)) iD .snw rfl (by omega) (fun l hl A B hA hB=>?_) ?_
  ·obtain ⟨x, l', rfl⟩:=hne l hl
   refine ⟨.int x, atI_nat (j:=0) rfl, rfl, ok_ints l0, ?_⟩
   show if ((l0.map PyData.int).any fun e=>PyData.eqv e (.int x)) = true then _ else _
   rw [Dl.any_ints]
   cases h1 : decide (x∈l0) with
   | true=>exact iteT (B:=True) ⟨rfl, hA h1⟩
   | false=>exact iteF (A:=True) (hB h1)
  have e5 : decide ((1 : Int) < ((((Bk.filter fun l=>decide (l.headD 0∈l0)).map iD).length : Nat) : Int)) = cutB n.toNat us v:=by
   rw [ctb, List.length_map]
   exact decide_eq_decide.mpr (by omega)
  show if decide ((1 : Int) < ((((Bk.filter fun l=>decide (l.headD 0∈l0)).map iD).length : Nat) : Int)) = true then _ else _
  rw [e5]
  have tk : (List.range n.toNat).take (v + 1) = (List.range n.toNat).take v ++ [v]:=by
   rw [List.take_add_one, List.getElem?_range hv]
   rfl
  have lf : (zI (((List.range n.toNat).take v).filter (cutB n.toNat us))).length<=20:=by
   show (List.map _ _).length<=20
   rw [List.length_map]
   have h1:=List.length_filter_le (cutB n.toNat us) ((List.range n.toNat).take v)
   rw [List.length_take, List.length_range] at h1
   omega
  cases hc : cutB n.toNat us v with
  | true =>
   refine iteT (B:=True) ⟨rfl, by rw [List.length_map]; omega, ?_⟩
   show ([_, Sl.dw 0 (.list ((zI (((List.range n.toNat).take v).filter (cutB n.toNat us))).map PyData.int ++ [PyData.int (0 + ((v : Nat) : Int))])), _, _, _, _] : List Sl) = [_, Sl.dw 0 (.list ((zI (((List.range n.toNat).take (v + 1)).filter (cutB n.toNat us))).map PyData.int)), _, _, _, _]
   rw [tk, List.filter_append, List.filter_cons_of_pos hc]
   unfold zI
   rw [List.map_append, List.map_append]
   rfl
  | false =>
   refine iteF (A:=True) ?_
   show ([_, Sl.dw 0 (iD (zI (((List.range n.toNat).take v).filter (cutB n.toNat us)))), _, _, _, _] : List Sl) = [_, Sl.dw 0 (iD (zI (((List.range n.toNat).take (v + 1)).filter (cutB n.toNat us)))), _, _, _, _]
   rw [tk, List.filter_append, List.filter_cons_of_neg (by rw [hc]; decide), List.filter_nil, List.append_nil]
 ·rintro ρ rfl
  rw [len_intsD]
  have eF : zI (((List.range n.toNat).take n.toNat).filter (cutB n.toNat us)) = cutsP n.toNat us:=by
   unfold cutsP
   rw [List.take_of_length_le (by rw [List.length_range]; exact Nat.le_refl _)]
   exact congrArg zI (List.filter_congr fun v hv=>(cut_eq (List.mem_range.mp hv)).symm)
  rw [eF]
  refine ⟨n, us, rfl, n1, by omega, by omega, okN, ok_iD _, ok_iD _, ?_⟩
  show _/\P (.bool (PyData.eqv (iD (cutsP n.toNat us)) (iD (cutsP n.toNat us))))
  rw [eqv_ints, decide_eq_true rfl]
  exact ⟨rfl, q⟩
theorem sc_law : FnScope ["_law_script", "_law_pen_here", "_law_turn", "_law_n", "_law_web", "_law_number", "_law_k", "_law_a"] ["_law_script"] (defScope (top 44)):=⟨rfl, rfl, rfl, by decide +kernel, rfl, by decide +kernel, by decide +kernel⟩
theorem ok_law (F : Fun K "law" "law" (top 44) f fd) (B : Dl.Bn mg) (C__law_pen : Dl.Cal P w K mg base 1 "_law_pen" ["_law_script"] spPen0) (C__law_take : Dl.Cal P w K mg base 1 "_law_take" ["_law_pen_here", "_law_many"] (spP (CP K) fDraw)) (C_web_of : Dl.Cal P w K mg base 6 "web_of" ["n", "ties"] (spD fWebOf)) (C__law_ties : Dl.Cal P w K mg base 4 "_law_ties" ["_law_pen_here", "_law_n"] (spP (CP K) fTies)) (C__law_by_ties : Dl.Cal P w K mg base 8 "_law_by_ties" ["_law_web", "_law_number"] (spD fByT)) (C__law_by_a_tie_more : Dl.Cal P w K mg base 7 "_law_by_a_tie_more" ["_law_web", "_law_a", "_law_b"] (spD fByM)) (C__law_by_places : Dl.Cal P w K mg base 8 "_law_by_places" ["_law_web"] (spD fByP)) : FnOk P w K mg base CX0 9 f fd ["_law_script"] (spLaw K):=by
 refine F.ok sc_law (fun vs H Q E h=>by obtain ⟨a, ns, rfl, _⟩:=h; rfl) (fun cdv A outer s H vs Q E hr h=>?_)
 obtain ⟨sc, ns, rfl, hS, q⟩:=h
 have nd:=sc_law.nd
 refine ⟨_, (pss_cons (ps_set (i:=1) nd rfl (by first | exact Or.inl rfl | exact Or.inr rfl) (pcS C__law_pen hr (pa_cons (pv 0) pa_nil) (by decide) rfl (by decide) rfl rfl)) (Wr.WDSs.h (Wr.ds_cons (Wr.ds_for PassesOwn.never rfl (Wr.di_range1 B.range (Wr.pda_cons Wr.pd_int Wr.pda_nil)) (Wr.dg_name (i:=2) nd rfl (by first | exact Or.inl rfl | exact Or.inr rfl)) (Wr.ds_cons (Wr.ds_set none (i:=3) nd rfl (by first | exact Or.inl rfl | exact Or.inr rfl) (Wr.pd_plus Wr.pd_int (Wr.dcP C__law_take hr (Wr.wv 1) (Wr.pda_cons Wr.pd_int Wr.pda_nil))))
  (Wr.ds_cons (Wr.ds_set none (i:=4) nd rfl (by first | exact Or.inl rfl | exact Or.inr rfl) (Wr.dc C_web_of hr (Wr.pda_cons (Wr.dv 3) (Wr.pda_cons (Wr.dcP C__law_ties hr (Wr.wv 1) (Wr.pda_cons (Wr.dv 3) Wr.pda_nil)) Wr.pda_nil))))
  (Wr.ds_cons (Wr.ds_for PassesOwn.never rfl (Wr.di_range1 B.range (Wr.pda_cons (Wr.pd_len B.len (Wr.pda_cons (Wr.pd_ix (Wr.dv 4) Wr.pd_int) Wr.pda_nil)) Wr.pda_nil)) (Wr.dg_name (i:=5) nd rfl (by first | exact Or.inl rfl | exact Or.inr rfl)) (Wr.ds_cons (Wr.ds_if (Wr.pdt_not (Wr.pdt_val (Wr.dc C__law_by_ties hr (Wr.pda_cons (Wr.dv 4) (Wr.pda_cons (Wr.dv 5) Wr.pda_nil))))) (Wr.ds_one (Wr.ds_ret Wr.pd_bl)) Wr.ds_nil) (Wr.ds_drops [5] Wr.ds_nil)))
  (Wr.ds_drops [5] (Wr.ds_cons (Wr.ds_for PassesOwn.never rfl (Wr.di_range1 B.range (Wr.pda_cons (Wr.pd_times Wr.pd_int (Wr.pd_intC B.int boot_int (Wr.pda_cons (Wr.pd_gt (Wr.dv 3) Wr.pd_int) Wr.pda_nil))) Wr.pda_nil)) (Wr.dg_name (i:=6) nd rfl (by first | exact Or.inl rfl | exact Or.inr rfl)) (Wr.ds_cons (Wr.ds_set none (i:=7) nd rfl (by first | exact Or.inl rfl | exact Or.inr rfl) (Wr.dcP C__law_take hr (Wr.wv 1) (Wr.pda_cons (Wr.dv 3) Wr.pda_nil)))
  (Wr.ds_cons (Wr.ds_if (Wr.pdt_not (Wr.pdt_val (Wr.dc C__law_by_a_tie_more hr (Wr.pda_cons (Wr.dv 4) (Wr.pda_cons (Wr.dv 7) (Wr.pda_cons (Wr.pd_mod (Wr.pd_plus (Wr.pd_plus (Wr.dv 7) Wr.pd_int) (Wr.dcP C__law_take hr (Wr.wv 1) (Wr.pda_cons (Wr.pd_sub (Wr.dv 3) Wr.pd_int) Wr.pda_nil))) (Wr.dv 3)) Wr.pda_nil)))))) (Wr.ds_one (Wr.ds_ret Wr.pd_bl)) Wr.ds_nil) (Wr.ds_drops [6, 7] Wr.ds_nil))))
  (Wr.ds_drops [6, 7] (Wr.ds_cons (Wr.ds_if (Wr.wpt (Wr.pdw_and (Wr.pdt_gt (Wr.dv 3) Wr.pd_int) (Wr.pdw_and1 (Wr.pdt_not (Wr.pdt_val (Wr.dc C__law_by_places hr (Wr.pda_cons (Wr.dv 4) Wr.pda_nil))))))) (Wr.ds_one (Wr.ds_ret Wr.pd_bl)) Wr.ds_nil) (Wr.ds_drops [2, 3, 4, 5, 6, 7] Wr.ds_nil)))))))))
  (Wr.ds_drops [2, 3, 4, 5, 6, 7] (Wr.ds_one (Wr.ds_ret Wr.pd_bl)))))), enterN hS q (by decide) ?_⟩
 refine ⟨⟨by decide, by decide⟩, rfl, fun i ρ=>ρ = R0 K, rfl, ?_, ?_⟩
 rotate_left
 ·rintro ρ rfl
  exact ⟨rfl, rfl⟩
 rintro i d ρ hd rfl
 obtain ⟨hi, rfl⟩:=intsD_get hd
 refine ⟨rfl, 9, rfl, by decide, by decide, fun r r0 r1=>?_⟩
 show dSet 3 none (fun _ P=>P .imm (.int (1 + r))) _ _
 have n1 : 1<=1 + r:=by omega
 have n9 : 1 + r<=9:=by omega
 generalize 1 + r = n at n1 n9
 refine ⟨rfl, n, rfl, n1, n9, fun us ok lu=>⟨n, us, rfl, n1, by omega, by omega, ok, fun vs hv=>?_⟩⟩
 refine dset_of (s:=.im (webD n vs)) (by rw [norm_pos (imm_web n vs)]; rfl) ?_
 have W : WebL n vs:=⟨n1, n9, by rw [hv.length_eq, List.length_map]; exact lu, fun t ht=>by
  obtain ⟨u, hu, rfl⟩:=List.mem_map.mp (hv.mem_iff.mp ht)
  obtain ⟨⟨h1, h2⟩, ⟨h3, h4⟩, h5⟩:=ok u hu
  obtain ⟨_, q2, q3⟩:=mm_ok h1 h2 h3 h4 h5
  exact ⟨q2.1.1, q3, q2.2.1.2⟩⟩
 show dSeq _ _ _ [.any, .pen (CP K), .im (.int (0 + ((i : Nat) : Int))), .im (.int n), .im (webD n vs), .any, .any, .any]
 generalize Sl.im (.int (0 + ((i : Nat) : Int))) = s2
 have few:=W.few
 have lm : (vs.map pD).length = vs.length:=List.length_map ..
 refine ⟨.tuple (vs.map pD), rfl, ?_⟩
 show (-(2 ^ 62)<=(((vs.map pD).length : Nat) : Int)/\(((vs.map pD).length : Nat) : Int) < 2 ^ 62)/\_
 rw [lm]
 refine ⟨⟨by omega, by omega⟩, for_all (List.range vs.length) (fun i : Nat=>.int (0 + ((i : Nat) : Int))) (fun ρ=>ρ = [.any, .pen (CP K), s2, .im (.int n), .im (webD n vs), .any, .any, .any]) rfl rfl rfl ?_ ?_⟩
 ·rintro k hk ρ rfl
  have hk:=List.mem_range.mp hk
  exact ⟨n, vs, k, _, congrArg (fun z=>[webD n vs, PyData.int z]) (Int.zero_add _), W, gd hk, iteF (A:=True) rfl⟩
 rintro ρ rfl
 have hT : ∀ b : Bool, (b = true->1 < n)->∀ t : Int, t = 4 * (if b = true then (1 : Int) else 0)->0<=t/\t<=4/\(0 < t->1 < n):=by
  intro b hb t ht
  subst ht
  cases b with
  | true=>exact ⟨by decide, by decide, fun _=>hb rfl⟩
  | false=>exact ⟨by decide, by decide, fun z=>absurd z (by decide)⟩
 replace hT:=hT (decide (1 < n)) (fun z=>of_decide_eq_true z) _ rfl
 refine ⟨.inl ⟨by decide, by decide⟩, ?_⟩
 generalize 4 * (if decide (1 < n) = true then (1 : Int) else 0) = T at hT ⊢
 refine ⟨⟨by omega, by omega⟩, for_all (List.range T.toNat) (fun i : Nat=>.int (0 + ((i : Nat) : Int))) (fun ρ=>ρ = [.any, .pen (CP K), s2, .im (.int n), .im (webD n vs), .any, .any, .any]) rfl rfl rfl ?_ ?_⟩
 ·rintro j hj ρ rfl
  have hj:=List.mem_range.mp hj
  have n2:=hT.2.2 (by omega)
  refine ⟨rfl, n, rfl, by omega, by omega, fun a a0 a1=>⟨rfl, n - 1, rfl, by omega, by omega, fun c c0 c1=>⟨by omega, n, vs, a, (a + 1 + c) % n, rfl, W, a0, a1, Int.emod_nonneg _ (by omega), Int.emod_lt_of_pos _ (by omega), fun z=>?_, iteF (A:=True) rfl⟩⟩⟩
  have e:=Int.emod_add_mul_ediv (a + 1 + c) n
  by_cases z1 : a + 1 + c < n
  ·rw [Int.emod_eq_of_lt (by omega) z1] at z
   omega
  ·rw [← Int.sub_emod_right, Int.emod_eq_of_lt (by omega) (by omega)] at z
   omega
 rintro ρ rfl
 show if decide (1 < n) = true then _ else _
 refine ite2 (fun c=>?_) (fun c=>iteF (A:=True) rfl)
 have c:=of_decide_eq_true c
 exact ⟨n, vs, rfl, W, by omega, iteF (A:=True) rfl⟩
end
theorem len1 {α : Type} : ∀ us : List α, us.length = 1->∃ a, us = [a]
 | [a], _=>⟨a, rfl⟩
theorem len2 {α : Type} : ∀ us : List α, us.length = 2->∃ a b, us = [a, b]
 | [a, b], _=>⟨a, b, rfl⟩
theorem len3 {α : Type} : ∀ us : List α, us.length = 3->∃ a b c, us = [a, b, c]
 | [a, b, c], _=>⟨a, b, c, rfl⟩
theorem keep_of {K : PySem.W.Frag} {f : Addr} {oc : Value} {od : Option Addr} {fd : FuncData} {sl : Array (Option Value)} (l : K.lookup f = some ⟨oc, od, .func fd, sl⟩) : PySem.W.keepIn K (.ref f) = true:=by
 unfold PySem.W.keepIn
 simp only [l]
theorem cal_of {P : Program} {w : World} {K : PySem.W.Frag} {mg : Str->Option Value} {base : Heap} {k : Nat} {x : Str} {st : Stmt} {f : Addr} {fd : FuncData} {ps : List Str} {sp : Sp} (F : Fun K x x st f fd) (b : Binds K fd ps []) (m : mg x = some (.ref f)) (h : FnOk P w K mg base CX0 k f fd ps sp) :
  Dl.Cal P w K mg base k x ps sp:=⟨f, fd, h, b, F.kp, m⟩
theorem all_mk {l : PySem.W.OpenLaw} {w : World} {K : PySem.W.Frag} {h : Heap} {mg : Str->Option Value} {fa f0 f1 f2 f3 f4 f5 f6 f7 f8 f9 f10 f11 f12 f13 f14 f15 f16 f17 f18 f19 f20 f21 f22 f23 f24 f25 f26 f27 f28 f29 f30 f31 f32 f33 : Addr} (X : K.In h) (G : h.Ns mainGlobals mg) (hfa : mg "law" = some (.ref fa))
  {od0 an0 od1 an1 od2 an2 od3 an3 od4 an4 od5 an5 od6 an6 od7 an7 od8 an8 od9 an9 od10 an10 od11 an11 od12 an12 od13 an13 od14 an14 od15 an15 od16 an16 od17 an17 od18 an18 od19 an19 od20 an20 od21 an21 od22 an22 od23 an23 od24 an24 od25 an25 od26 an26 od27 an27 od28 an28 od29 an29 od30 an30 od31 an31 od32 an32 od33 an33 : Option Addr} {sl0 sl1 sl2 sl3 sl4 sl5 sl6 sl7 sl8 sl9 sl10 sl11 sl12 sl13 sl14 sl15 sl16 sl17 sl18 sl19 sl20 sl21 sl22 sl23 sl24 sl25 sl26 sl27 sl28 sl29 sl30 sl31 sl32 sl33 : Array (Option Value)} {oc0 kV0 dc0 pm0 cd0 ct0 oc1 kV1 dc1 pm1 cd1 ct1 oc2 kV2 dc2 pm2 cd2 ct2 oc3 kV3 dc3 pm3 cd3 ct3 oc4 kV4 dc4 pm4 cd4 ct4 oc5 kV5 dc5 pm5 cd5 ct5 oc6 kV6 dc6 pm6 cd6 ct6 oc7 kV7 dc7 pm7 cd7 ct7 oc8 kV8 dc8 pm8 cd8 ct8 oc9 kV9 dc9 pm9 cd9 ct9 oc10 kV10 dc10 pm10 cd10 ct10 oc11 kV11 dc11 pm11 cd11 ct11 oc12 kV12 dc12 pm12 cd12 ct12 oc13 kV13 dc13 pm13 cd13 ct13 oc14 kV14 dc14 pm14 cd14 ct14 oc15 kV15 dc15 pm15 cd15 ct15 oc16 kV16 dc16 pm16 cd16 ct16 oc17 kV17 dc17 pm17 cd17 ct17 oc18 kV18 dc18 pm18 cd18 ct18 oc19 kV19 dc19 pm19 cd19 ct19 oc20 kV20 dc20 pm20 cd20 ct20 oc21 kV21 dc21 pm21 cd21 ct21 oc22 kV22 dc22 pm22 cd22 ct22 oc23 kV23 dc23 pm23 cd23 ct23 oc24 kV24 dc24 pm24 cd24 ct24 oc25 kV25 dc25 pm25 cd25 ct25 oc26 kV26 dc26 pm26 cd26 ct26 oc27 kV27 dc27 pm27 cd27 ct27 oc28 kV28 dc28 pm28 cd28 ct28 oc29 kV29 dc29 pm29 cd29 ct29 oc30 kV30 dc30 pm30 cd30 ct30 oc31 kV31 dc31 pm31 cd31 ct31 oc32 kV32 dc32 pm32 cd32 ct32 oc33 kV33 dc33 pm33 cd33 ct33 : Value} {tk_MOST_PLACES tk_MOST_TIES : Tok}
  (a0 : PySem.W.nsIn K mainGlobals "is_whole" = some (some (.ref f0))) (l0 : K.lookup f0 = some ⟨oc0, od0, .func (PySem.W.fnOf "is_whole" "is_whole" (defArgs (top 8)) (defBody (top 8)) (defScope (top 8)) .none kV0 dc0 pm0 an0 cd0 ct0), sl0⟩) (c0 : PySem.W.codeIn K cd0 "is_whole" = true)
  (a1 : PySem.W.nsIn K mainGlobals "is_below" = some (some (.ref f1))) (l1 : K.lookup f1 = some ⟨oc1, od1, .func (PySem.W.fnOf "is_below" "is_below" (defArgs (top 9)) (defBody (top 9)) (defScope (top 9)) .none kV1 dc1 pm1 an1 cd1 ct1), sl1⟩) (c1 : PySem.W.codeIn K cd1 "is_below" = true)
  (a2 : PySem.W.nsIn K mainGlobals "is_place" = some (some (.ref f2))) (l2 : K.lookup f2 = some ⟨oc2, od2, .func (PySem.W.fnOf "is_place" "is_place" (defArgs (top 10)) (defBody (top 10)) (defScope (top 10)) .none kV2 dc2 pm2 an2 cd2 ct2), sl2⟩) (c2 : PySem.W.codeIn K cd2 "is_place" = true)
  (a3 : PySem.W.nsIn K mainGlobals "is_tie_number" = some (some (.ref f3))) (l3 : K.lookup f3 = some ⟨oc3, od3, .func (PySem.W.fnOf "is_tie_number" "is_tie_number" (defArgs (top 11)) (defBody (top 11)) (defScope (top 11)) .none kV3 dc3 pm3 an3 cd3 ct3), sl3⟩) (c3 : PySem.W.codeIn K cd3 "is_tie_number" = true)
  (a4 : PySem.W.nsIn K mainGlobals "check_place" = some (some (.ref f4))) (l4 : K.lookup f4 = some ⟨oc4, od4, .func (PySem.W.fnOf "check_place" "check_place" (defArgs (top 12)) (defBody (top 12)) (defScope (top 12)) .none kV4 dc4 pm4 an4 cd4 ct4), sl4⟩) (c4 : PySem.W.codeIn K cd4 "check_place" = true)
  (a5 : PySem.W.nsIn K mainGlobals "check_tie_number" = some (some (.ref f5))) (l5 : K.lookup f5 = some ⟨oc5, od5, .func (PySem.W.fnOf "check_tie_number" "check_tie_number" (defArgs (top 13)) (defBody (top 13)) (defScope (top 13)) .none kV5 dc5 pm5 an5 cd5 ct5), sl5⟩) (c5 : PySem.W.codeIn K cd5 "check_tie_number" = true)
  (a6 : PySem.W.nsIn K mainGlobals "is_tie" = some (some (.ref f6))) (l6 : K.lookup f6 = some ⟨oc6, od6, .func (PySem.W.fnOf "is_tie" "is_tie" (defArgs (top 14)) (defBody (top 14)) (defScope (top 14)) .none kV6 dc6 pm6 an6 cd6 ct6), sl6⟩) (c6 : PySem.W.codeIn K cd6 "is_tie" = true)
  (a7 : PySem.W.nsIn K mainGlobals "makes_web" = some (some (.ref f7))) (l7 : K.lookup f7 = some ⟨oc7, od7, .func (PySem.W.fnOf "makes_web" "makes_web" (defArgs (top 15)) (defBody (top 15)) (defScope (top 15)) .none kV7 dc7 pm7 an7 cd7 ct7), sl7⟩) (c7 : PySem.W.codeIn K cd7 "makes_web" = true)
  (a8 : PySem.W.nsIn K mainGlobals "check_makes_web" = some (some (.ref f8))) (l8 : K.lookup f8 = some ⟨oc8, od8, .func (PySem.W.fnOf "check_makes_web" "check_makes_web" (defArgs (top 16)) (defBody (top 16)) (defScope (top 16)) .none kV8 dc8 pm8 an8 cd8 ct8), sl8⟩) (c8 : PySem.W.codeIn K cd8 "check_makes_web" = true)
  (a9 : PySem.W.nsIn K mainGlobals "web_of" = some (some (.ref f9))) (l9 : K.lookup f9 = some ⟨oc9, od9, .func (PySem.W.fnOf "web_of" "web_of" (defArgs (top 17)) (defBody (top 17)) (defScope (top 17)) .none kV9 dc9 pm9 an9 cd9 ct9), sl9⟩) (c9 : PySem.W.codeIn K cd9 "web_of" = true)
  (a10 : PySem.W.nsIn K mainGlobals "steps_of_web" = some (some (.ref f10))) (l10 : K.lookup f10 = some ⟨oc10, od10, .func (PySem.W.fnOf "steps_of_web" "steps_of_web" (defArgs (top 19)) (defBody (top 19)) (defScope (top 19)) .none kV10 dc10 pm10 an10 cd10 ct10), sl10⟩) (c10 : PySem.W.codeIn K cd10 "steps_of_web" = true)
  (a11 : PySem.W.nsIn K mainGlobals "search" = some (some (.ref f11))) (l11 : K.lookup f11 = some ⟨oc11, od11, .func (PySem.W.fnOf "search" "search" (defArgs (top 20)) (defBody (top 20)) (defScope (top 20)) .none kV11 dc11 pm11 an11 cd11 ct11), sl11⟩) (c11 : PySem.W.codeIn K cd11 "search" = true)
  (a12 : PySem.W.nsIn K mainGlobals "trace" = some (some (.ref f12))) (l12 : K.lookup f12 = some ⟨oc12, od12, .func (PySem.W.fnOf "trace" "trace" (defArgs (top 21)) (defBody (top 21)) (defScope (top 21)) .none kV12 dc12 pm12 an12 cd12 ct12), sl12⟩) (c12 : PySem.W.codeIn K cd12 "trace" = true)
  (a13 : PySem.W.nsIn K mainGlobals "part_of" = some (some (.ref f13))) (l13 : K.lookup f13 = some ⟨oc13, od13, .func (PySem.W.fnOf "part_of" "part_of" (defArgs (top 22)) (defBody (top 22)) (defScope (top 22)) .none kV13 dc13 pm13 an13 cd13 ct13), sl13⟩) (c13 : PySem.W.codeIn K cd13 "part_of" = true)
  (a14 : PySem.W.nsIn K mainGlobals "parts" = some (some (.ref f14))) (l14 : K.lookup f14 = some ⟨oc14, od14, .func (PySem.W.fnOf "parts" "parts" (defArgs (top 23)) (defBody (top 23)) (defScope (top 23)) .none kV14 dc14 pm14 an14 cd14 ct14), sl14⟩) (c14 : PySem.W.codeIn K cd14 "parts" = true)
  (a15 : PySem.W.nsIn K mainGlobals "way" = some (some (.ref f15))) (l15 : K.lookup f15 = some ⟨oc15, od15, .func (PySem.W.fnOf "way" "way" (defArgs (top 24)) (defBody (top 24)) (defScope (top 24)) .none kV15 dc15 pm15 an15 cd15 ct15), sl15⟩) (c15 : PySem.W.codeIn K cd15 "way" = true)
  (a16 : PySem.W.nsIn K mainGlobals "without_ties" = some (some (.ref f16))) (l16 : K.lookup f16 = some ⟨oc16, od16, .func (PySem.W.fnOf "without_ties" "without_ties" (defArgs (top 26)) (defBody (top 26)) (defScope (top 26)) .none kV16 dc16 pm16 an16 cd16 ct16), sl16⟩) (c16 : PySem.W.codeIn K cd16 "without_ties" = true)
  (a17 : PySem.W.nsIn K mainGlobals "side_of" = some (some (.ref f17))) (l17 : K.lookup f17 = some ⟨oc17, od17, .func (PySem.W.fnOf "side_of" "side_of" (defArgs (top 27)) (defBody (top 27)) (defScope (top 27)) .none kV17 dc17 pm17 an17 cd17 ct17), sl17⟩) (c17 : PySem.W.codeIn K cd17 "side_of" = true)
  (a18 : PySem.W.nsIn K mainGlobals "cut_ties" = some (some (.ref f18))) (l18 : K.lookup f18 = some ⟨oc18, od18, .func (PySem.W.fnOf "cut_ties" "cut_ties" (defArgs (top 28)) (defBody (top 28)) (defScope (top 28)) .none kV18 dc18 pm18 an18 cd18 ct18), sl18⟩) (c18 : PySem.W.codeIn K cd18 "cut_ties" = true)
  (a19 : PySem.W.nsIn K mainGlobals "parts_without" = some (some (.ref f19))) (l19 : K.lookup f19 = some ⟨oc19, od19, .func (PySem.W.fnOf "parts_without" "parts_without" (defArgs (top 29)) (defBody (top 29)) (defScope (top 29)) .none kV19 dc19 pm19 an19 cd19 ct19), sl19⟩) (c19 : PySem.W.codeIn K cd19 "parts_without" = true)
  (a20 : PySem.W.nsIn K mainGlobals "cut_places" = some (some (.ref f20))) (l20 : K.lookup f20 = some ⟨oc20, od20, .func (PySem.W.fnOf "cut_places" "cut_places" (defArgs (top 30)) (defBody (top 30)) (defScope (top 30)) .none kV20 dc20 pm20 an20 cd20 ct20), sl20⟩) (c20 : PySem.W.codeIn K cd20 "cut_places" = true)
  (a21 : PySem.W.nsIn K mainGlobals "_law_pen" = some (some (.ref f21))) (l21 : K.lookup f21 = some ⟨oc21, od21, .func (PySem.W.fnOf "_law_pen" "_law_pen" (defArgs (top 32)) (defBody (top 32)) (defScope (top 32)) .none kV21 dc21 pm21 an21 cd21 ct21), sl21⟩) (c21 : PySem.W.codeIn K cd21 "_law_pen" = true)
  (a22 : PySem.W.nsIn K mainGlobals "_law_take" = some (some (.ref f22))) (l22 : K.lookup f22 = some ⟨oc22, od22, .func (PySem.W.fnOf "_law_take" "_law_take" (defArgs (top 33)) (defBody (top 33)) (defScope (top 33)) .none kV22 dc22 pm22 an22 cd22 ct22), sl22⟩) (c22 : PySem.W.codeIn K cd22 "_law_take" = true)
  (a23 : PySem.W.nsIn K mainGlobals "_law_order" = some (some (.ref f23))) (l23 : K.lookup f23 = some ⟨oc23, od23, .func (PySem.W.fnOf "_law_order" "_law_order" (defArgs (top 34)) (defBody (top 34)) (defScope (top 34)) .none kV23 dc23 pm23 an23 cd23 ct23), sl23⟩) (c23 : PySem.W.codeIn K cd23 "_law_order" = true)
  (a24 : PySem.W.nsIn K mainGlobals "_law_any" = some (some (.ref f24))) (l24 : K.lookup f24 = some ⟨oc24, od24, .func (PySem.W.fnOf "_law_any" "_law_any" (defArgs (top 35)) (defBody (top 35)) (defScope (top 35)) .none kV24 dc24 pm24 an24 cd24 ct24), sl24⟩) (c24 : PySem.W.codeIn K cd24 "_law_any" = true)
  (a25 : PySem.W.nsIn K mainGlobals "_law_rings" = some (some (.ref f25))) (l25 : K.lookup f25 = some ⟨oc25, od25, .func (PySem.W.fnOf "_law_rings" "_law_rings" (defArgs (top 36)) (defBody (top 36)) (defScope (top 36)) .none kV25 dc25 pm25 an25 cd25 ct25), sl25⟩) (c25 : PySem.W.codeIn K cd25 "_law_rings" = true)
  (a26 : PySem.W.nsIn K mainGlobals "_law_shape" = some (some (.ref f26))) (l26 : K.lookup f26 = some ⟨oc26, od26, .func (PySem.W.fnOf "_law_shape" "_law_shape" (defArgs (top 37)) (defBody (top 37)) (defScope (top 37)) .none kV26 dc26 pm26 an26 cd26 ct26), sl26⟩) (c26 : PySem.W.codeIn K cd26 "_law_shape" = true)
  (a27 : PySem.W.nsIn K mainGlobals "_law_ties" = some (some (.ref f27))) (l27 : K.lookup f27 = some ⟨oc27, od27, .func (PySem.W.fnOf "_law_ties" "_law_ties" (defArgs (top 38)) (defBody (top 38)) (defScope (top 38)) .none kV27 dc27 pm27 an27 cd27 ct27), sl27⟩) (c27 : PySem.W.codeIn K cd27 "_law_ties" = true)
  (a28 : PySem.W.nsIn K mainGlobals "_law_less" = some (some (.ref f28))) (l28 : K.lookup f28 = some ⟨oc28, od28, .func (PySem.W.fnOf "_law_less" "_law_less" (defArgs (top 39)) (defBody (top 39)) (defScope (top 39)) .none kV28 dc28 pm28 an28 cd28 ct28), sl28⟩) (c28 : PySem.W.codeIn K cd28 "_law_less" = true)
  (a29 : PySem.W.nsIn K mainGlobals "_law_by_ties" = some (some (.ref f29))) (l29 : K.lookup f29 = some ⟨oc29, od29, .func (PySem.W.fnOf "_law_by_ties" "_law_by_ties" (defArgs (top 40)) (defBody (top 40)) (defScope (top 40)) .none kV29 dc29 pm29 an29 cd29 ct29), sl29⟩) (c29 : PySem.W.codeIn K cd29 "_law_by_ties" = true)
  (a30 : PySem.W.nsIn K mainGlobals "_law_by_a_tie_more" = some (some (.ref f30))) (l30 : K.lookup f30 = some ⟨oc30, od30, .func (PySem.W.fnOf "_law_by_a_tie_more" "_law_by_a_tie_more" (defArgs (top 41)) (defBody (top 41)) (defScope (top 41)) .none kV30 dc30 pm30 an30 cd30 ct30), sl30⟩) (c30 : PySem.W.codeIn K cd30 "_law_by_a_tie_more" = true)
  (a31 : PySem.W.nsIn K mainGlobals "_law_without" = some (some (.ref f31))) (l31 : K.lookup f31 = some ⟨oc31, od31, .func (PySem.W.fnOf "_law_without" "_law_without" (defArgs (top 42)) (defBody (top 42)) (defScope (top 42)) .none kV31 dc31 pm31 an31 cd31 ct31), sl31⟩) (c31 : PySem.W.codeIn K cd31 "_law_without" = true)
  (a32 : PySem.W.nsIn K mainGlobals "_law_by_places" = some (some (.ref f32))) (l32 : K.lookup f32 = some ⟨oc32, od32, .func (PySem.W.fnOf "_law_by_places" "_law_by_places" (defArgs (top 43)) (defBody (top 43)) (defScope (top 43)) .none kV32 dc32 pm32 an32 cd32 ct32), sl32⟩) (c32 : PySem.W.codeIn K cd32 "_law_by_places" = true)
  (a33 : PySem.W.nsIn K mainGlobals "law" = some (some (.ref f33))) (l33 : K.lookup f33 = some ⟨oc33, od33, .func (PySem.W.fnOf "law" "law" (defArgs (top 44)) (defBody (top 44)) (defScope (top 44)) .none kV33 dc33 pm33 an33 cd33 ct33), sl33⟩) (c33 : PySem.W.codeIn K cd33 "law" = true)
  (g_MOST_PLACES : PySem.W.nsIn K mainGlobals "MOST_PLACES" = some (some (.int 16 tk_MOST_PLACES)))
  (g_MOST_TIES : PySem.W.nsIn K mainGlobals "MOST_TIES" = some (some (.int 40 tk_MOST_TIES)))
  (z0 : PySem.W.nsIn K mainGlobals "isinstance" = some none)
  (z1 : PySem.W.nsIn K mainGlobals "int" = some none)
  (z2 : PySem.W.nsIn K mainGlobals "bool" = some none)
  (z3 : PySem.W.nsIn K mainGlobals "tuple" = some none)
  (z4 : PySem.W.nsIn K mainGlobals "list" = some none)
  (z5 : PySem.W.nsIn K mainGlobals "len" = some none)
  (z6 : PySem.W.nsIn K mainGlobals "all" = some none)
  (z7 : PySem.W.nsIn K mainGlobals "min" = some none)
  (z8 : PySem.W.nsIn K mainGlobals "max" = some none)
  (z9 : PySem.W.nsIn K mainGlobals "sorted" = some none)
  (z10 : PySem.W.nsIn K mainGlobals "range" = some none)
  (z11 : PySem.W.nsIn K mainGlobals "abs" = some none)
  (z12 : PySem.W.nsIn K mainGlobals "enumerate" = some none)
  (z13 : PySem.W.nsIn K mainGlobals "reversed" = some none)
  :
  ∃ fd : FuncData, (∀ (s : Shared) (v : Value), BindsTo s fd ⟨[v], []⟩ [("_law_script", v)])/\∀ base : Heap, K.In base->base.Ns mainGlobals mg->FnOk l.prog w K mg base CX0 9 fa fd ["_law_script"] (spLaw K):=by
 have e:=hfa.symm.trans (PySem.W.mg_of X G a33)
 cases e
 have F0:=fun_mk (st:=top 8) l0 c0 (keep_of l0)
 have b0:=F0.binds (ps:=["thing"]) fun _ _ _ _ _ _ us hl=>by obtain ⟨_, rfl⟩:=len1 us hl; rfl
 have m0:=PySem.W.mg_of X G a0
 have F1:=fun_mk (st:=top 9) l1 c1 (keep_of l1)
 have b1:=F1.binds (ps:=["limit", "thing"]) fun _ _ _ _ _ _ us hl=>by obtain ⟨_, _, rfl⟩:=len2 us hl; rfl
 have m1:=PySem.W.mg_of X G a1
 have F2:=fun_mk (st:=top 10) l2 c2 (keep_of l2)
 have b2:=F2.binds (ps:=["web", "thing"]) fun _ _ _ _ _ _ us hl=>by obtain ⟨_, _, rfl⟩:=len2 us hl; rfl
 have m2:=PySem.W.mg_of X G a2
 have F3:=fun_mk (st:=top 11) l3 c3 (keep_of l3)
 have b3:=F3.binds (ps:=["web", "thing"]) fun _ _ _ _ _ _ us hl=>by obtain ⟨_, _, rfl⟩:=len2 us hl; rfl
 have m3:=PySem.W.mg_of X G a3
 have F4:=fun_mk (st:=top 12) l4 c4 (keep_of l4)
 have b4:=F4.binds (ps:=["web", "thing"]) fun _ _ _ _ _ _ us hl=>by obtain ⟨_, _, rfl⟩:=len2 us hl; rfl
 have m4:=PySem.W.mg_of X G a4
 have F5:=fun_mk (st:=top 13) l5 c5 (keep_of l5)
 have b5:=F5.binds (ps:=["web", "thing"]) fun _ _ _ _ _ _ us hl=>by obtain ⟨_, _, rfl⟩:=len2 us hl; rfl
 have m5:=PySem.W.mg_of X G a5
 have F6:=fun_mk (st:=top 14) l6 c6 (keep_of l6)
 have b6:=F6.binds (ps:=["n", "thing"]) fun _ _ _ _ _ _ us hl=>by obtain ⟨_, _, rfl⟩:=len2 us hl; rfl
 have m6:=PySem.W.mg_of X G a6
 have F7:=fun_mk (st:=top 15) l7 c7 (keep_of l7)
 have b7:=F7.binds (ps:=["n", "ties"]) fun _ _ _ _ _ _ us hl=>by obtain ⟨_, _, rfl⟩:=len2 us hl; rfl
 have m7:=PySem.W.mg_of X G a7
 have F8:=fun_mk (st:=top 16) l8 c8 (keep_of l8)
 have b8:=F8.binds (ps:=["n", "ties"]) fun _ _ _ _ _ _ us hl=>by obtain ⟨_, _, rfl⟩:=len2 us hl; rfl
 have m8:=PySem.W.mg_of X G a8
 have F9:=fun_mk (st:=top 17) l9 c9 (keep_of l9)
 have b9:=F9.binds (ps:=["n", "ties"]) fun _ _ _ _ _ _ us hl=>by obtain ⟨_, _, rfl⟩:=len2 us hl; rfl
 have m9:=PySem.W.mg_of X G a9
 have F10:=fun_mk (st:=top 19) l10 c10 (keep_of l10)
 have b10:=F10.binds (ps:=["web"]) fun _ _ _ _ _ _ us hl=>by obtain ⟨_, rfl⟩:=len1 us hl; rfl
 have m10:=PySem.W.mg_of X G a10
 have F11:=fun_mk (st:=top 20) l11 c11 (keep_of l11)
 have b11:=F11.binds (ps:=["steps", "start"]) fun _ _ _ _ _ _ us hl=>by obtain ⟨_, _, rfl⟩:=len2 us hl; rfl
 have m11:=PySem.W.mg_of X G a11
 have F12:=fun_mk (st:=top 21) l12 c12 (keep_of l12)
 have b12:=F12.binds (ps:=["came", "goal"]) fun _ _ _ _ _ _ us hl=>by obtain ⟨_, _, rfl⟩:=len2 us hl; rfl
 have m12:=PySem.W.mg_of X G a12
 have F13:=fun_mk (st:=top 22) l13 c13 (keep_of l13)
 have b13:=F13.binds (ps:=["web", "place"]) fun _ _ _ _ _ _ us hl=>by obtain ⟨_, _, rfl⟩:=len2 us hl; rfl
 have m13:=PySem.W.mg_of X G a13
 have F14:=fun_mk (st:=top 23) l14 c14 (keep_of l14)
 have b14:=F14.binds (ps:=["web"]) fun _ _ _ _ _ _ us hl=>by obtain ⟨_, rfl⟩:=len1 us hl; rfl
 have m14:=PySem.W.mg_of X G a14
 have F15:=fun_mk (st:=top 24) l15 c15 (keep_of l15)
 have b15:=F15.binds (ps:=["web", "a", "b"]) fun _ _ _ _ _ _ us hl=>by obtain ⟨_, _, _, rfl⟩:=len3 us hl; rfl
 have m15:=PySem.W.mg_of X G a15
 have F16:=fun_mk (st:=top 26) l16 c16 (keep_of l16)
 have b16:=F16.binds (ps:=["web", "numbers"]) fun _ _ _ _ _ _ us hl=>by obtain ⟨_, _, rfl⟩:=len2 us hl; rfl
 have m16:=PySem.W.mg_of X G a16
 have F17:=fun_mk (st:=top 27) l17 c17 (keep_of l17)
 have b17:=F17.binds (ps:=["web", "number"]) fun _ _ _ _ _ _ us hl=>by obtain ⟨_, _, rfl⟩:=len2 us hl; rfl
 have m17:=PySem.W.mg_of X G a17
 have F18:=fun_mk (st:=top 28) l18 c18 (keep_of l18)
 have b18:=F18.binds (ps:=["web"]) fun _ _ _ _ _ _ us hl=>by obtain ⟨_, rfl⟩:=len1 us hl; rfl
 have m18:=PySem.W.mg_of X G a18
 have F19:=fun_mk (st:=top 29) l19 c19 (keep_of l19)
 have b19:=F19.binds (ps:=["web", "v"]) fun _ _ _ _ _ _ us hl=>by obtain ⟨_, _, rfl⟩:=len2 us hl; rfl
 have m19:=PySem.W.mg_of X G a19
 have F20:=fun_mk (st:=top 30) l20 c20 (keep_of l20)
 have b20:=F20.binds (ps:=["web"]) fun _ _ _ _ _ _ us hl=>by obtain ⟨_, rfl⟩:=len1 us hl; rfl
 have m20:=PySem.W.mg_of X G a20
 have F21:=fun_mk (st:=top 32) l21 c21 (keep_of l21)
 have b21:=F21.binds (ps:=["_law_script"]) fun _ _ _ _ _ _ us hl=>by obtain ⟨_, rfl⟩:=len1 us hl; rfl
 have m21:=PySem.W.mg_of X G a21
 have F22:=fun_mk (st:=top 33) l22 c22 (keep_of l22)
 have b22:=F22.binds (ps:=["_law_pen_here", "_law_many"]) fun _ _ _ _ _ _ us hl=>by obtain ⟨_, _, rfl⟩:=len2 us hl; rfl
 have m22:=PySem.W.mg_of X G a22
 have F23:=fun_mk (st:=top 34) l23 c23 (keep_of l23)
 have b23:=F23.binds (ps:=["_law_pen_here", "_law_n"]) fun _ _ _ _ _ _ us hl=>by obtain ⟨_, _, rfl⟩:=len2 us hl; rfl
 have m23:=PySem.W.mg_of X G a23
 have F24:=fun_mk (st:=top 35) l24 c24 (keep_of l24)
 have b24:=F24.binds (ps:=["_law_pen_here", "_law_n", "_law_many"]) fun _ _ _ _ _ _ us hl=>by obtain ⟨_, _, _, rfl⟩:=len3 us hl; rfl
 have m24:=PySem.W.mg_of X G a24
 have F25:=fun_mk (st:=top 36) l25 c25 (keep_of l25)
 have b25:=F25.binds (ps:=["_law_pen_here", "_law_n"]) fun _ _ _ _ _ _ us hl=>by obtain ⟨_, _, rfl⟩:=len2 us hl; rfl
 have m25:=PySem.W.mg_of X G a25
 have F26:=fun_mk (st:=top 37) l26 c26 (keep_of l26)
 have b26:=F26.binds (ps:=["_law_pen_here", "_law_n"]) fun _ _ _ _ _ _ us hl=>by obtain ⟨_, _, rfl⟩:=len2 us hl; rfl
 have m26:=PySem.W.mg_of X G a26
 have F27:=fun_mk (st:=top 38) l27 c27 (keep_of l27)
 have b27:=F27.binds (ps:=["_law_pen_here", "_law_n"]) fun _ _ _ _ _ _ us hl=>by obtain ⟨_, _, rfl⟩:=len2 us hl; rfl
 have m27:=PySem.W.mg_of X G a27
 have F28:=fun_mk (st:=top 39) l28 c28 (keep_of l28)
 have b28:=F28.binds (ps:=["_law_web", "_law_number"]) fun _ _ _ _ _ _ us hl=>by obtain ⟨_, _, rfl⟩:=len2 us hl; rfl
 have m28:=PySem.W.mg_of X G a28
 have F29:=fun_mk (st:=top 40) l29 c29 (keep_of l29)
 have b29:=F29.binds (ps:=["_law_web", "_law_number"]) fun _ _ _ _ _ _ us hl=>by obtain ⟨_, _, rfl⟩:=len2 us hl; rfl
 have m29:=PySem.W.mg_of X G a29
 have F30:=fun_mk (st:=top 41) l30 c30 (keep_of l30)
 have b30:=F30.binds (ps:=["_law_web", "_law_a", "_law_b"]) fun _ _ _ _ _ _ us hl=>by obtain ⟨_, _, _, rfl⟩:=len3 us hl; rfl
 have m30:=PySem.W.mg_of X G a30
 have F31:=fun_mk (st:=top 42) l31 c31 (keep_of l31)
 have b31:=F31.binds (ps:=["_law_web", "_law_v"]) fun _ _ _ _ _ _ us hl=>by obtain ⟨_, _, rfl⟩:=len2 us hl; rfl
 have m31:=PySem.W.mg_of X G a31
 have F32:=fun_mk (st:=top 43) l32 c32 (keep_of l32)
 have b32:=F32.binds (ps:=["_law_web"]) fun _ _ _ _ _ _ us hl=>by obtain ⟨_, rfl⟩:=len1 us hl; rfl
 have m32:=PySem.W.mg_of X G a32
 have F33:=fun_mk (st:=top 44) l33 c33 (keep_of l33)
 have B : Dl.Bn mg:=⟨PySem.W.mg_none_of X G z0, PySem.W.mg_none_of X G z1, PySem.W.mg_none_of X G z2, PySem.W.mg_none_of X G z3, PySem.W.mg_none_of X G z4, PySem.W.mg_none_of X G z5, PySem.W.mg_none_of X G z6, PySem.W.mg_none_of X G z7, PySem.W.mg_none_of X G z8, PySem.W.mg_none_of X G z9, PySem.W.mg_none_of X G z10, PySem.W.mg_none_of X G z11⟩
 have N12:=PySem.W.mg_none_of X G z12
 have N13:=PySem.W.mg_none_of X G z13
 refine ⟨PySem.W.fnOf "law" "law" (defArgs (top 44)) (defBody (top 44)) (defScope (top 44)) .none kV33 dc33 pm33 an33 cd33 ct33, fun s v=>.of_eq rfl, fun base _ _=>?_⟩
 have C0:=cal_of F0 b0 m0 (ok_whole (P:=l.prog) (w:=w) (base:=base) F0 B)
 have C1:=cal_of F1 b1 m1 (ok_below (P:=l.prog) (w:=w) (base:=base) F1 C0)
 have C2:=cal_of F2 b2 m2 (ok_is_place (P:=l.prog) (w:=w) (base:=base) F2 B C1)
 have C3:=cal_of F3 b3 m3 (ok_is_tie_number (P:=l.prog) (w:=w) (base:=base) F3 B C1)
 have C4:=cal_of F4 b4 m4 (ok_check_place (P:=l.prog) (w:=w) (base:=base) F4 B C2)
 have C5:=cal_of F5 b5 m5 (ok_check_tie_number (P:=l.prog) (w:=w) (base:=base) F5 B C3)
 have C6:=cal_of F6 b6 m6 (ok_is_tie (P:=l.prog) (w:=w) (base:=base) F6 B C1)
 have C7:=cal_of F7 b7 m7 (ok_makes_web (P:=l.prog) (w:=w) (base:=base) F7 B (PySem.W.mg_of X G g_MOST_PLACES) (PySem.W.mg_of X G g_MOST_TIES) C0 C6)
 have C8:=cal_of F8 b8 m8 (ok_check_makes_web (P:=l.prog) (w:=w) (base:=base) F8 B C7)
 have C9:=cal_of F9 b9 m9 (ok_web_of (P:=l.prog) (w:=w) (base:=base) F9 B C8)
 have C10:=cal_of F10 b10 m10 (ok_steps_of_web (P:=l.prog) (w:=w) (base:=base) F10 B N12)
 have C11:=cal_of F11 b11 m11 (ok_search (P:=l.prog) (w:=w) (base:=base) F11 B)
 have C12:=cal_of F12 b12 m12 (ok_trace (P:=l.prog) (w:=w) (base:=base) F12 B N13)
 have C13:=cal_of F13 b13 m13 (ok_part_of (P:=l.prog) (w:=w) (base:=base) F13 B C11 C10)
 have C14:=cal_of F14 b14 m14 (ok_parts (P:=l.prog) (w:=w) (base:=base) F14 B C13)
 have C15:=cal_of F15 b15 m15 (ok_way (P:=l.prog) (w:=w) (base:=base) F15 B C4 C12 C11 C10)
 have C16:=cal_of F16 b16 m16 (ok_without_ties (P:=l.prog) (w:=w) (base:=base) F16 B N12)
 have C17:=cal_of F17 b17 m17 (ok_side_of (P:=l.prog) (w:=w) (base:=base) F17 B C5 C13 C16)
 have C18:=cal_of F18 b18 m18 (ok_cut_ties (P:=l.prog) (w:=w) (base:=base) F18 B C17)
 have C19:=cal_of F19 b19 m19 (ok_parts_without (P:=l.prog) (w:=w) (base:=base) F19 B C4 C14)
 have C20:=cal_of F20 b20 m20 (ok_cut_places (P:=l.prog) (w:=w) (base:=base) F20 B C14 C19)
 have C21:=cal_of F21 b21 m21 (ok_pen (P:=l.prog) (w:=w) (base:=base) F21 )
 have C22:=cal_of F22 b22 m22 (ok_take (P:=l.prog) (w:=w) (base:=base) F22 B)
 have C23:=cal_of F23 b23 m23 (ok_order (P:=l.prog) (w:=w) (base:=base) F23 B C22)
 have C24:=cal_of F24 b24 m24 (ok_law_any (P:=l.prog) (w:=w) (base:=base) F24 B C22)
 have C25:=cal_of F25 b25 m25 (ok_law_rings (P:=l.prog) (w:=w) (base:=base) F25 B C22)
 have C26:=cal_of F26 b26 m26 (ok_law_shape (P:=l.prog) (w:=w) (base:=base) F26 B C22 C25 C24)
 have C27:=cal_of F27 b27 m27 (ok_law_ties (P:=l.prog) (w:=w) (base:=base) F27 B C23 C26 C24 C22)
 have C28:=cal_of F28 b28 m28 (ok_law_less (P:=l.prog) (w:=w) (base:=base) F28 B C9)
 have C29:=cal_of F29 b29 m29 (ok_law_by_ties (P:=l.prog) (w:=w) (base:=base) F29 B C17 C14 C28 C18 C9)
 have C30:=cal_of F30 b30 m30 (ok_law_by_a_tie_more (P:=l.prog) (w:=w) (base:=base) F30 B C18 C15 C9 C17)
 have C31:=cal_of F31 b31 m31 (ok_law_without (P:=l.prog) (w:=w) (base:=base) F31 B C9)
 have C32:=cal_of F32 b32 m32 (ok_law_by_places (P:=l.prog) (w:=w) (base:=base) F32 B C31 C14 C19 C20)
 exact ok_law F33 B C21 C22 C9 C27 C29 C30 C32
theorem walk {l : PySem.W.OpenLaw} {q : Program} {loose : List Str} {XP : (Str->Option Value)->Heap->Prop} {YP : World->Heap->Prop} {d : DefRec} {K : Params->PySem.W.Frag} (hn : l.most = some 63) (hdf : d.params.defaults = [])
  (hY : ∀ (w : World) (h : Heap), YP w h->(K w.params).In h)
  (F : ∀ (w : World) (mg : Str->Option Value) (fa : Addr) (h : Heap), (K w.params).In h->h.Ns mainGlobals mg->mg d.name = some (.ref fa) ->
   ∃ fd : FuncData, (∀ (s : Shared) (u : Value), BindsTo s fd ⟨[u], []⟩ [("_law_script", u)])/\∀ base : Heap, (K w.params).In base->base.Ns mainGlobals mg->FnOk l.prog w (K w.params) mg base CX0 9 fa fd ["_law_script"] (spLaw (K w.params))) :
  PySem.W.WalkO q loose XP YP l.row.toRowW d [] (fun f vs=>PySem.call f vs) :=
 L2.walk_of (n:=63) (k:=9) (x:="_law_script") (CX:=fun _=>CX0) (sp:=fun w=>spLaw (K w.params)) hn (by decide) hdf ⟨rfl, by decide, by decide, rfl⟩ hY F (fun _ _ a ns hl hO hS=>⟨a, ns, rfl, hS, fun _=>rfl⟩) fun _ _ _ _ _ z=>z
end Nf
namespace Nf
open PySem PySem.W PyProof.Rows
noncomputable def keepW : List Nat:=[1, 2, 3, 4, 6, 7, 8, 9, 10, 11, 12, 13, 14, 15, 16, 17, 19, 20, 21, 22, 23, 24, 26, 27, 28, 29, 30, 32, 33, 34, 35, 36, 37, 38, 39, 40, 41, 42, 43, 44]
noncomputable def lookW (p : Program) (w : World) (os : OsState):=(runT p 3878 w os).map (fun s=>seenW p (view p keepW) (fun s=>xlAt (view p keepW) [] s && recOk [] s) w s.abs)
noncomputable def goodW (p : Program):=some (true, openGood (view p keepW) [])
noncomputable def frF (fr : Frag) (k : Nat):=some ((fr.map fun p=>some p.2).take k)
noncomputable def frB (fr : Frag) (k : Nat):=some ((fr.map fun p=>some p.2).drop k)
noncomputable def frontW (p : Program) (w : World) (os : OsState) (as : List Addr) (k : Nat):=(runT p 3878 w os).map (fun s=>(as.map s.abs.heap.get?).take k)
noncomputable def backW (p : Program) (w : World) (os : OsState) (as : List Addr) (k : Nat):=(runT p 3878 w os).map (fun s=>(as.map s.abs.heap.get?).drop k)
theorem lookW_self : lookW = lookW:=rfl
theorem goodW_self : goodW = goodW:=rfl
theorem frontW_self : frontW = frontW:=rfl
theorem backW_self : backW = backW:=rfl
theorem pW_self : PySem.Challenge.pw_nofall_k08_whole_falls_one_by_one = PySem.Challenge.pw_nofall_k08_whole_falls_one_by_one:=rfl
noncomputable def aPar : Params:=(aWorld 1).params
end Nf
lay_quick Nf.lookW Nf.goodW Nf.frontW Nf.backW
name_quick lookQ for Nf.lookW by Nf.lookW_self
name_quick goodQ for Nf.goodW by Nf.goodW_self
name_quick frontQ for Nf.frontW by Nf.frontW_self
name_quick backQ for Nf.backW by Nf.backW_self
name_quick pwQ for PySem.Challenge.pw_nofall_k08_whole_falls_one_by_one by Nf.pW_self
set_option maxHeartbeats 0 in
theorem Nf.look_ok (w : PySem.World) (os : PySem.OsState) : Nf.lookW PySem.Challenge.pw_nofall_k08_whole_falls_one_by_one w os = Nf.goodW PySem.Challenge.pw_nofall_k08_whole_falls_one_by_one:=by
 rw [PySem.W.Fast.lookQ_eq, PySem.W.Fast.goodQ_eq, PySem.W.Fast.pwQ_eq]
 kernel_rfl
open PySem PySem.W PyProof.Rows
local macro_rules
 | `(tactic| o_head (kHook $k $a $e))=>`(tactic| (
  refine holds_open (q:=view PySem.Challenge.pw_nofall_k08_whole_falls_one_by_one Nf.keepW) (loose:=[]) (Xt:=fun s=>xlAt (view PySem.Challenge.pw_nofall_k08_whole_falls_one_by_one Nf.keepW) [] s && recOk [] s) (XP:=XL (view PySem.Challenge.pw_nofall_k08_whole_falls_one_by_one Nf.keepW) []) (Yf:=Hook.obs (kHook $k $a $e)) (Ya:=Hook.val (kHook $k $a $e)) (YP:=Hook.says (kHook $k $a $e)) (N:=3878) ?hl (Hook.of (kHook $k $a $e)) (Hook.keeps (kHook $k $a $e)) (fun s e=>xl_of s (Bool.and_eq_true_iff.mp e).1) XL.keeps (by rfl) (by rfl) (by rfl) (fun s e=>recFacts_of (Bool.and_eq_true_iff.mp e).2) (by rfl) (by first | assumption | decide +kernel) (by decide +kernel) ⟨rfl, rfl, rfl, rfl, rfl, by decide +kernel⟩ ?hw ?hc
  case' hl =>
   have hq : Nat.ble 0 (List.length ($k Nf.aPar)) = true:=by k_qdec
   clear hq))
set_option maxRecDepth 100000 in
set_option maxHeartbeats 0 in
theorem PySem.Challenge.cw_nofall_k08_whole_falls_one_by_one_holds : PySem.Challenge.rw_nofall_k08_whole_falls_one_by_one.Holds := by
 w_on; o_law; k_head
 ·refine Nf.left_of 90 (boot_open (by kernel_rfl) rfl (fun s=>by kernel_rfl)) Nf.look_ok (fun w os=>?_) (fun w os=>?_)
  ·show Nf.frontW PySem.Challenge.pw_nofall_k08_whole_falls_one_by_one w os _ 90 = Nf.frF _ 90
   rw [PySem.W.Fast.frontQ_eq, PySem.W.Fast.pwQ_eq, PySem.W.Fast.te14094770122629165515]
   kernel_rfl
  ·show Nf.backW PySem.Challenge.pw_nofall_k08_whole_falls_one_by_one w os _ 90 = Nf.frB _ 90
   rw [PySem.W.Fast.backQ_eq, PySem.W.Fast.pwQ_eq, PySem.W.Fast.te14094770122629165515]
   kernel_rfl
 ·w_witness2
 k_fill
 refine Nf.walk (l:=PySem.Challenge.rw_nofall_k08_whole_falls_one_by_one) rfl rfl (fun w h Y=>PySem.W.kIn_of Y) ?F
 case F =>
  intro w mg fa h KX G hmg
  refine' Nf.all_mk KX G hmg ?a0 ?l0 ?c0 ?a1 ?l1 ?c1 ?a2 ?l2 ?c2 ?a3 ?l3 ?c3 ?a4 ?l4 ?c4 ?a5 ?l5 ?c5 ?a6 ?l6 ?c6 ?a7 ?l7 ?c7 ?a8 ?l8 ?c8 ?a9 ?l9 ?c9 ?a10 ?l10 ?c10 ?a11 ?l11 ?c11 ?a12 ?l12 ?c12 ?a13 ?l13 ?c13 ?a14 ?l14 ?c14 ?a15 ?l15 ?c15 ?a16 ?l16 ?c16 ?a17 ?l17 ?c17 ?a18 ?l18 ?c18 ?a19 ?l19 ?c19 ?a20 ?l20 ?c20 ?a21 ?l21 ?c21 ?a22 ?l22 ?c22 ?a23 ?l23 ?c23 ?a24 ?l24 ?c24 ?a25 ?l25 ?c25 ?a26 ?l26 ?c26 ?a27 ?l27 ?c27 ?a28 ?l28 ?c28 ?a29 ?l29 ?c29 ?a30 ?l30 ?c30 ?a31 ?l31 ?c31 ?a32 ?l32 ?c32 ?a33 ?l33 ?c33 ?g_MOST_PLACES ?g_MOST_TIES ?z0 ?z1 ?z2 ?z3 ?z4 ?z5 ?z6 ?z7 ?z8 ?z9 ?z10 ?z11 ?z12 ?z13
  (case a0=>k_is); (case l0=>k_is); (case c0=>k_is)
  (case a1=>k_is); (case l1=>k_is); (case c1=>k_is)
  (case a2=>k_is); (case l2=>k_is); (case c2=>k_is)
  (case a3=>k_is); (case l3=>k_is); (case c3=>k_is)
  (case a4=>k_is); (case l4=>k_is); (case c4=>k_is)
  (case a5=>k_is); (case l5=>k_is); (case c5=>k_is)
  (case a6=>k_is); (case l6=>k_is); (case c6=>k_is)
  (case a7=>k_is); (case l7=>k_is); (case c7=>k_is)
  (case a8=>k_is); (case l8=>k_is); (case c8=>k_is)
  (case a9=>k_is); (case l9=>k_is); (case c9=>k_is)
  (case a10=>k_is); (case l10=>k_is); (case c10=>k_is)
  (case a11=>k_is); (case l11=>k_is); (case c11=>k_is)
  (case a12=>k_is); (case l12=>k_is); (case c12=>k_is)
  (case a13=>k_is); (case l13=>k_is); (case c13=>k_is)
  (case a14=>k_is); (case l14=>k_is); (case c14=>k_is)
  (case a15=>k_is); (case l15=>k_is); (case c15=>k_is)
  (case a16=>k_is); (case l16=>k_is); (case c16=>k_is)
  (case a17=>k_is); (case l17=>k_is); (case c17=>k_is)
  (case a18=>k_is); (case l18=>k_is); (case c18=>k_is)
  (case a19=>k_is); (case l19=>k_is); (case c19=>k_is)
  (case a20=>k_is); (case l20=>k_is); (case c20=>k_is)
  (case a21=>k_is); (case l21=>k_is); (case c21=>k_is)
  (case a22=>k_is); (case l22=>k_is); (case c22=>k_is)
  (case a23=>k_is); (case l23=>k_is); (case c23=>k_is)
  (case a24=>k_is); (case l24=>k_is); (case c24=>k_is)
  (case a25=>k_is); (case l25=>k_is); (case c25=>k_is)
  (case a26=>k_is); (case l26=>k_is); (case c26=>k_is)
  (case a27=>k_is); (case l27=>k_is); (case c27=>k_is)
  (case a28=>k_is); (case l28=>k_is); (case c28=>k_is)
  (case a29=>k_is); (case l29=>k_is); (case c29=>k_is)
  (case a30=>k_is); (case l30=>k_is); (case c30=>k_is)
  (case a31=>k_is); (case l31=>k_is); (case c31=>k_is)
  (case a32=>k_is); (case l32=>k_is); (case c32=>k_is)
  (case a33=>k_is); (case l33=>k_is); (case c33=>k_is)
  (case g_MOST_PLACES=>k_is); (case g_MOST_TIES=>k_is); (case z0=>k_is); (case z1=>k_is); (case z2=>k_is); (case z3=>k_is); (case z4=>k_is); (case z5=>k_is); (case z6=>k_is); (case z7=>k_is); (case z8=>k_is); (case z9=>k_is); (case z10=>k_is); (case z11=>k_is); (case z12=>k_is); (case z13=>k_is)
