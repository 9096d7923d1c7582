import PyProof.Rows.All
import Wide.All
import OpenK.AllK
import Wide.FinOn
import Lean
import PyProof.EqAt
import PyProof.EqKinds
import PyProof.TupleCall
import PySem.Challenge.RW_nofall_k12_apart_by_places
set_option genSizeOf false
set_option genSizeOfSpec false
set_option Elab.async false
set_option linter.all false
set_option maxRecDepth 100000
namespace L2
open PySem PySem.Spec PyProof.Rows
noncomputable abbrev Key:=Sum Int Str
noncomputable def gj:Key->Value->Bool
 | .inl k,v=>Value.isInt k v
 | .inr x,v=>Value.isStrOf x v
noncomputable def keyH (w:World):Key->Int
 | .inl k=>hashInt k
 | .inr x=>hashStr w x
theorem bH:∀ {k:Key}{v:Value},gj k v=true->(∃ i t,k=Sum.inl i/\v=Value.int i t)\/(∃ x t,k=Sum.inr x/\v=Value.str x t)
 | .inl i,v,h=>by
  obtain⟨t,e⟩:=Value.isInt_shape (k:=i) (v:=v) h
  exact .inl ⟨i,t,rfl,e⟩
 | .inr x,v,h=>by
  obtain⟨t,e⟩:=Value.isStrOf_shape (x:=x) (v:=v) h
  exact .inr ⟨x,t,rfl,e⟩
theorem keyIs_int (i:Int) (t:Tok):gj (.inl i) (.int i t)=true:=by simp [gj,Value.isInt]
theorem keyIs_str (x:Str) (t:Tok):gj (.inr x) (.str x t)=true:=by simp [gj,Value.isStrOf]
theorem key_ll (a b:Int):decide ((Sum.inl a:Key)=Sum.inl b)=(a == b):=by
 by_cases e:a=b
 ·subst e; simp
 ·have h:¬ (Sum.inl a:Key)=Sum.inl b:=fun q=>e (Sum.inl.inj q)
  rw [decide_eq_false h]
  exact (beq_eq_false_iff_ne.mpr e).symm
theorem key_rr (a b:Str):decide ((Sum.inr a:Key)=Sum.inr b)=decide (a=b):=by
 by_cases e:a=b
 ·subst e; simp
 ·have h:¬ (Sum.inr a:Key)=Sum.inr b:=fun q=>e (Sum.inr.inj q)
  rw [decide_eq_false h,decide_eq_false e]
theorem key_lr (a:Int) (b:Str):decide ((Sum.inl a:Key)=Sum.inr b)=false:=decide_eq_false (fun q=>nomatch q)
theorem key_rl (a:Str) (b:Int):decide ((Sum.inr a:Key)=Sum.inl b)=false:=decide_eq_false (fun q=>nomatch q)
noncomputable def aY (prog:Program) (w:World):PySem.KeyKind prog w Key where
 is:=gj
 hash:=keyH w
 inj:=fun v a b ha hb=>by
  rcases bH ha with ⟨i,t,rfl,rfl⟩ | ⟨x,t,rfl,rfl⟩
  ·rcases bH hb with ⟨j,u,rfl,e⟩ | ⟨y,u,rfl,e⟩
   ·injection e with e1 _; rw [e1]
   ·exact nomatch e
  ·rcases bH hb with ⟨j,u,rfl,e⟩ | ⟨y,u,rfl,e⟩
   ·exact nomatch e
   ·injection e with e1 _; rw [e1]
 byValue:=fun k v h=>by
  rcases bH h with ⟨i,t,rfl,rfl⟩ | ⟨x,t,rfl,rfl⟩ <;> rfl
 pyHash:=fun hv h=>by
  rcases bH hv with ⟨i,t,rfl,rfl⟩ | ⟨x,t,rfl,rfl⟩
  ·exact wpAny_pyHash_int h
  ·exact wpAny_pyHash_str h
 eqBool:=fun hu hv h=>by
  rcases bH hu with ⟨i,t,rfl,rfl⟩ | ⟨x,t,rfl,rfl⟩
  ·rcases bH hv with ⟨j,u,rfl,rfl⟩ | ⟨y,u,rfl,rfl⟩
   ·rw [key_ll] at h; exact wpAny_eqBool_int h
   ·rw [key_lr] at h; exact SeqAt.EqAt.int_str i t y u _ _ _ _ h
  ·rcases bH hv with ⟨j,u,rfl,rfl⟩ | ⟨y,u,rfl,rfl⟩
   ·rw [key_rl] at h; exact SeqAt.EqAt.str_int x t j u _ _ _ _ h
   ·rw [key_rr] at h; exact wpAny_eqBool_str h
 «strs»:=fun k x t v h=>by
  rcases bH h with ⟨i,u,rfl,e⟩ | ⟨y,u,rfl,e⟩
  ·exact nomatch e
  ·injection e with e1 _
   subst e1
   cases v <;> rfl
theorem mixKind_int (prog:Program) (w:World) (i:Int) (t:Tok):(aY prog w).is (.inl i) (.int i t)=true:=keyIs_int i t
theorem mixKind_str (prog:Program) (w:World) (x:Str) (t:Tok):(aY prog w).is (.inr x) (.str x t)=true:=keyIs_str x t
inductive V where
 | non | bl (b:Bool) | int (i:Int) | str (x:Str) | byt (b:Array UInt8) | flt (b:UInt64) | ref (a:Addr) | ty (n:String)
 deriving DecidableEq
noncomputable def RelV:V->Value->Prop
 | .non,u=>u=Value.none
 | .bl b,u=>u=Value.bool b
 | .int i,u=>∃ t,u=Value.int i t
 | .str x,u=>∃ t,u=Value.str x t
 | .byt b,u=>∃ t,u=Value.bytes b t
 | .flt b,u=>∃ t,u=Value.float b t
 | .ref a,u=>u=Value.ref a
 | .ty n,u=>u=Value.type n
noncomputable abbrev Vals:List V->List Value->Prop:=Paired RelV
theorem Vals.length {xs:List V}{us:List Value} (r:Vals xs us):xs.length=us.length:=Paired.length r
theorem Vals.get:∀ {xs:List V}{us:List Value}{i:Nat}{x:V},Vals xs us->xs[i]?=some x->∃ u,us[i]?=some u/\RelV x u
 | _,_,_,_,.nil,e=>by simp at e
 | _,_,0,_,.cons r _,e=>by simp at e; subst e; exact⟨_,rfl,r⟩
 | _,_,i+1,x,.cons _ t,e=>by
  obtain⟨u,h1,h2⟩:=Vals.get (i:=i) (x:=x) t (by simpa using e)
  exact⟨u,by simpa using h1,h2⟩
theorem Vals.set {x:V}{u:Value} (r:RelV x u):∀ {xs:List V}{us:List Value} (i:Nat),Vals xs us->Vals (xs.set i x) (us.set i u)
 | _,_,_,.nil=>.nil
 | _,_,0,.cons _ t=>.cons r t
 | _,_,i+1,.cons q t=>.cons q (Vals.set r i t)
theorem Vals.append:∀ {xs ys:List V}{us ws:List Value},Vals xs us->Vals ys ws->Vals (xs++ys) (us++ws)
 | _,_,_,_,.nil,s=>s
 | _,_,_,_,.cons r t,s=>.cons r (Vals.append t s)
theorem Vals.take:∀ {xs:List V}{us:List Value} (n:Nat),Vals xs us->Vals (xs.take n) (us.take n)
 | _,_,0,_=>.nil
 | _,_,_+1,.nil=>.nil
 | _,_,n+1,.cons r t=>.cons r (Vals.take n t)
theorem Vals.drop:∀ {xs:List V}{us:List Value} (n:Nat),Vals xs us->Vals (xs.drop n) (us.drop n)
 | _,_,0,r=>r
 | _,_,_+1,.nil=>.nil
 | _,_,n+1,.cons _ t=>Vals.drop n t
noncomputable def RelO:Option V->Option Value->Prop
 | some v,some u=>RelV v u
 | none,none=>True
 | _,_=>False
noncomputable def KV {κ:Type}:List (κ×V)->List (κ×Value)->Prop:=Paired fun (p:κ×V) (q:κ×Value)=>p.1=q.1/\RelV p.2 q.2
noncomputable def kV:Key->V
 | .inl i=>.int i
 | .inr x=>.str x
inductive HO where
 | lst (xs:List V)
 | tup (xs:List V)
 | dK (kvs:List (Key×V)) | dT (kvs:List (List Key×V))
 | set (S:Int->Bool) (n:Nat)
 | ins (C dx:Addr) (fs:List (Str×V))
 | own (x:Addr)
 | xd (fs:List (Str×V))
 | met (f x:Addr)
 | rng (lo hi:Int)
 | frz (o:Obj) (u:HO)
 | tbl (ps:Array Value)
 | ext (φ:Heap->Prop)
noncomputable abbrev Hp:=Addr->Option HO
noncomputable def upd (H:Hp) (a:Addr) (o:HO):Hp:=fun b=>if b=a then some o else H b
theorem aF {H:Hp}{a:Addr}{o:HO}:upd H a o a=some o:=by unfold upd; rw [if_pos rfl]
theorem aA {H:Hp}{a b:Addr}{o:HO} (h:b≠a):upd H a o b=H b:=by unfold upd; rw [if_neg h]
theorem ne_of {H:Hp}{a b:Addr}{o u:HO} (h:H a=some o) (h':H b=some u) (d:o≠u):a≠b:=by
 intro e; subst e; rw [h] at h'; exact d (Option.some.inj h')
theorem aH {H:Hp}{a b:Addr}{o:HO} (h:H a=some o) (h':H b=none):a≠b:=by
 intro e; subst e; rw [h] at h'; cases h'
section
variable (P:Program) (w:World)
noncomputable def bZ (H:Hp) (h:Heap) (a:Addr):HO->Prop
 | .lst xs=>xs.length<=sizeLine/\∃ (its:List Value) (n:Nat),Vals xs its/\h.get? a=some { cls:=.type "list",data:=.seq its.toArray n }
 | .tup xs=>xs.length<=sizeLine/\∃ its:List Value,Vals xs its/\IsTup h a its.toArray
 | .dK kvs=>kvs.length<=sizeLine/\(a == sysModules)=false/\∃ vs,KV kvs vs/\h.DictOf (aY P w) a vs
 | .dT kvs=>kvs.length<=sizeLine/\(a == sysModules)=false/\∃ xs:List (List Key×Addr×Value),
   Paired (fun (p:List Key×V) (q:List Key×Addr×Value)=>p.1=q.1/\H q.2.1=some (.tup (p.1.map kV))/\RelV p.2 q.2.2) kvs xs /\
   ∃ o es ep,h.get? a=some o/\o.ExactDict/\o.data=.dict es ep/\es.toList=xs.map (entryOfKey (tupleKind (aY P w)))/\(xs.map (·.1)).Nodup
 | .set S n=>h.SetOf (intKind P w) a S n
 | .ins C dx fs=>H dx=some (.own a)/\fs.length<=1000/\dx≠a/\h.get? a=some (PySem.W.instObj C dx) /\
   ∃ mA,h.Ns1 dx mA/\(∀ f,RelO (fs.lookup f) (mA f))/\PySem.Within mA (fs.map (·.1))
 | .own _=>∃ o,h.get? a=some o
 | .xd fs=>∃ mA,h.Ns1 a mA/\∀ f,RelO (fs.lookup f) (mA f)
 | .rng lo hi=>∃ t u v,h.get? a=some { cls:=.type "range",data:=.fields #[.int lo t,.int hi u,.int 1 v] }
 | .frz o u=>h.get? a=some o/\bZ H h a u
 | .tbl ps=>h.get? a=some { cls:=.none,data:=.fields ps }
 | .met f x=>h.get? a=some (PySem.W.methodObj (.ref f) (.ref x))
 | .ext φ=>φ h/\(∃ o,h.get? a=some o)/\∀ h1 h2:Heap,φ h1->(∀ o,h1.get? a=some o->h2.get? a=some o)->φ h2
noncomputable def HOk (H:Hp) (h:Heap):Prop:=∀ a o,H a=some o->bZ P w H h a o
end
section
variable {P:Program}{w:World}{H H':Hp}{h h':Heap}{a:Addr}{o:HO}
theorem bZ.lt (x:bZ P w H h a o):a<h.objs.size:=by
 cases o with
 | lst xs=>obtain⟨_,_,_,_,e⟩:=x; exact Heap.lt_size e
 | tup xs=>obtain⟨_,_,_,p⟩:=x; exact p.lt
 | dK kvs=>obtain⟨_,_,_,_,o,_,_,e,_⟩:=x; exact Heap.lt_size e
 | dT kvs=>obtain⟨_,_,_,_,o,_,_,e,_⟩:=x; exact Heap.lt_size e
 | set S n=>obtain⟨o,_,_,_,e,_⟩:=x; exact Heap.lt_size e
 | ins C dx fs=>obtain⟨_,_,_,e,_⟩:=x; exact Heap.lt_size e
 | own y=>obtain⟨_,e⟩:=x; exact Heap.lt_size e
 | xd fs=>obtain⟨_,⟨_,_,_,e,_⟩,_⟩:=x; exact Heap.lt_size e
 | rng lo hi=>obtain⟨_,_,_,e⟩:=x; exact Heap.lt_size e
 | frz ob u=>obtain⟨e,_⟩:=x; exact Heap.lt_size e
 | tbl ps=>exact Heap.lt_size (show h.get? a=some _ from x)
 | met f y=>exact Heap.lt_size (show h.get? a=some _ from x)
 | ext φ=>obtain⟨_,⟨_,e⟩,_⟩:=x; exact Heap.lt_size e
theorem Paired.mapP {α β:Type}{F G:α->β->Prop}:∀ {l₁:List α}{l₂:List β},Paired F l₁ l₂->(∀ a b,F a b->G a b)->Paired G l₁ l₂
 | _,_,.nil,_=>.nil
 | _,_,.cons r t,f=>.cons (f _ _ r) (Paired.mapP t f)
theorem bZ.stay (x:bZ P w H h a o) (k:∀ b u,(b=a\/H b=some (.own a))->h.get? b=some u->h'.get? b=some u)
  (ho:∀ b,H b=some (.own a)->H' b=some (.own a)) (ht:∀ b xs,H b=some (.tup xs)->H' b=some (.tup xs)):bZ P w H' h' a o:=by
 induction o with
 | lst xs=>obtain⟨z,its,n,r,e⟩:=x; exact⟨z,its,n,r,k _ _ (.inl rfl) e⟩
 | tup xs=>obtain⟨z,its,r,ob,e,c⟩:=x; exact⟨z,its,r,ob,k _ _ (.inl rfl) e,c⟩
 | dK kvs=>obtain⟨z,y,vs,r,ob,es,ep,e,c⟩:=x; exact⟨z,y,vs,r,ob,es,ep,k _ _ (.inl rfl) e,c⟩
 | dT kvs =>
  obtain⟨z,y,xs,r,ob,es,ep,e,c⟩:=x
  exact⟨z,y,xs,Paired.mapP r fun p q z=>⟨z.1,ht _ _ z.2.1,z.2.2⟩,ob,es,ep,k _ _ (.inl rfl) e,c⟩
 | set S n=>obtain⟨ob,es,ep,t,e,c⟩:=x; exact⟨ob,es,ep,t,k _ _ (.inl rfl) e,c⟩
 | ins C dx fs =>
  obtain⟨d,z,ne,e,mA,⟨od,es,ep,e2,c⟩,r⟩:=x
  exact⟨ho _ d,z,ne,k _ _ (.inl rfl) e,mA,⟨od,es,ep,k _ _ (.inr d) e2,c⟩,r⟩
 | own y=>obtain⟨ob,e⟩:=x; exact⟨ob,k _ _ (.inl rfl) e⟩
 | xd fs=>obtain⟨mA,⟨od,es,ep,e,c⟩,r⟩:=x; exact⟨mA,⟨od,es,ep,k _ _ (.inl rfl) e,c⟩,r⟩
 | rng lo hi=>obtain⟨t,u,v,e⟩:=x; exact⟨t,u,v,k _ _ (.inl rfl) e⟩
 | frz ob u ih=>obtain⟨e,q⟩:=x; exact⟨k _ _ (.inl rfl) e,ih q⟩
 | tbl ps =>
  have e:h.get? a=some { cls:=.none,data:=.fields ps }:=x
  show h'.get? a=some { cls:=.none,data:=.fields ps }
  exact k a _ (.inl rfl) e
 | met f y =>
  have e:h.get? a=some (PySem.W.methodObj (.ref f) (.ref y)):=x
  show h'.get? a=some (PySem.W.methodObj (.ref f) (.ref y))
  exact k a _ (.inl rfl) e
 | ext φ=>obtain⟨p,⟨o,e⟩,st⟩:=x; exact⟨st _ _ p fun o q=>k _ _ (.inl rfl) q,⟨o,k _ _ (.inl rfl) e⟩,st⟩
theorem HOk.lt (x:HOk P w H h) (e:H a=some o):a<h.objs.size:=(x a o e).lt
theorem HOk.fresh (x:HOk P w H h) (e:h.objs.size<=a):H a=none:=by
 cases q:H a with
 | none=>rfl
 | some u=>exact absurd (Nat.lt_of_lt_of_le (x.lt q) e) (Nat.lt_irrefl _)
theorem HOk.kept (x:HOk P w H h) (k:∀ b u,h.get? b=some u->h'.get? b=some u):HOk P w H h':=fun a o e =>
 (x a o e).stay (fun b u _ q=>k b u q) (fun _ q=>q) fun _ _ q=>q
theorem HOk.laid (x:HOk P w H h) (k:∀ b u,h.get? b=some u->h'.get? b=some u) (hp:h.objs.size<=a) (new:bZ P w (upd H a o) h' a o):HOk P w (upd H a o) h':=fun b u e=>by
 have hn:=x.fresh hp
 by_cases hb:b=a
 ·subst hb; rw [aF] at e; cases e; exact new
 ·rw [aA hb] at e
  exact (x b u e).stay (fun c v _ q=>k c v q) (fun c q=>by rw [aA (aH q hn)]; exact q) fun c xs q=>by rw [aA (aH q hn)]; exact q
end
noncomputable def Rd (H:Hp) (a:Addr) (u:HO):Prop:=H a=some u\/∃ o,H a=some (.frz o u)
theorem Rd.ok {P:Program}{w:World}{H:Hp}{h:Heap}{a:Addr}{u:HO} (r:Rd H a u) (x:HOk P w H h):bZ P w H h a u:=by
 rcases r with r | ⟨o,r⟩
 ·exact x a u r
 ·obtain⟨_,q⟩:=x a _ r
  exact q
noncomputable def Mut:Option HO->Prop
 | some (.lst _)=>True
 | some (.dK _)=>True
 | some (.dT _)=>True
 | some (.set _ _)=>True
 | some (.ins _ _ _)=>True
 | some (.ext _)=>True
 | _=>False
section
variable {P:Program}{w:World}{H:Hp}{h h':Heap}{x e:Addr}{o':HO}
theorem HOk.write (ok:HOk P w H h) (mu:Mut (H x)) (he:e=x\/H e=some (.own x)) (k:∀ b u,b≠e->h.get? b=some u->h'.get? b=some u) (heo:∃ u,h'.get? e=some u)
  (new:bZ P w (upd H x o') h' x o'):HOk P w (upd H x o') h':=fun b u q=>by
 have nown:∀ c y,H c=some (.own y)->c≠x:=fun c y r z=>by subst z; rw [r] at mu; exact mu
 have ntup:∀ c xs,H c=some (.tup xs)->c≠x:=fun c xs r z=>by subst z; rw [r] at mu; exact mu
 by_cases hb:b=x
 ·subst hb; rw [aF] at q; cases q; exact new
 ·rw [aA hb] at q
  by_cases hbe:b=e
  ·have q':H b=some (.own x):=by
    rcases he with z | z
    ·exact absurd (hbe.trans z) hb
    ·rw [hbe]; exact z
   rw [q] at q'; cases q'
   obtain⟨v,hv⟩:=heo
   exact⟨v,by rw [hbe]; exact hv⟩
  ·refine (ok b u q).stay (fun c v hc r=>k c v ?_ r) (fun c r=>by rw [aA (nown c b r)]; exact r) fun c xs r=>by rw [aA (ntup c xs r)]; exact r
   rcases hc with rfl | hc
   ·exact hbe
   ·rintro rfl
    rcases he with z | z
    ·exact nown c b hc z
    ·rw [hc] at z; cases z; exact hb rfl
end
structure Un (fs ex:List Addr) (H H':Hp) (h h':Heap):Prop where
 keep:∀ b o,h.get? b=some o->H b=none->b∉fs->b∉ex->h'.get? b=some o
 slot:∀ b o,h.get? b=some o->H b=none->b∈fs->b∉ex->∃ sl,h'.get? b=some { o with slots:=sl }
 free:∀ b o,h.get? b=some o->H b=none->b∉ex->H' b=none
 there:∀ b o,h.get? b=some o->b∉ex->∃ o',h'.get? b=some o'
 tups:∀ b xs,H b=some (.tup xs)->H' b=some (.tup xs)
 frzs:∀ b o u,H b=some (.frz o u)->H' b=some (.frz o u)
 tbls:∀ b ps,H b=some (.tbl ps)->∃ more,H' b=some (.tbl (ps++more))
section
variable {fs fs' ex ex':List Addr}{H H1 H2:Hp}{h h1 h2 h':Heap}{a x e:Addr}{o:HO}
theorem Un.any (u:Un fs ex H H1 h h1) {b:Addr}{ob:Obj} (q:h.get? b=some ob) (n:H b=none) (hx:b∉ex):∃ sl,h1.get? b=some { ob with slots:=sl }:=by
 by_cases hb:b∈fs
 ·exact u.slot b ob q n hb hx
 ·exact⟨ob.slots,u.keep b ob q n hb hx⟩
theorem Un.kept (k:∀ b u,h.get? b=some u->h'.get? b=some u):Un fs ex H H h h' :=
 ⟨fun b ob q _ _ _=>k b ob q,fun b ob q _ _ _=>⟨ob.slots,k b ob q⟩,fun _ _ _ n _=>n,fun b ob q _=>⟨ob,k b ob q⟩,fun _ _ q=>q,fun _ _ _ q=>q,fun _ ps q=>⟨#[],by rw [q]; simp⟩⟩
theorem Un.refl:Un fs ex H H h h:=Un.kept fun _ _ q=>q
theorem Un.laid (k:∀ b u,h.get? b=some u->h'.get? b=some u) (hp:h.objs.size<=a) (hn:H a=none):Un fs ex H (upd H a o) h h' where
 keep:=fun b u q _ _ _=>k b u q
 slot:=fun b u q _ _ _=>⟨u.slots,k b u q⟩
 free:=fun b u q n _=>by rw [aA (Nat.ne_of_lt (Nat.lt_of_lt_of_le (Heap.lt_size q) hp))]; exact n
 there:=fun b u q _=>⟨u,k b u q⟩
 tups:=fun b xs q=>by rw [aA (aH q hn)]; exact q
 frzs:=fun b u xs q=>by rw [aA (aH q hn)]; exact q
 tbls:=fun b ps q=>⟨#[],by rw [aA (aH q hn),q]; simp⟩
theorem Un.write (mu:Mut (H x)) (he:e=x\/H e=some (.own x)) (k:∀ b u,b≠e->h.get? b=some u->h'.get? b=some u) (heo:∃ u,h'.get? e=some u):Un fs ex H (upd H x o) h h':=by
 have hx:∀ b,H b=none->b≠x:=fun b n z=>by subst z; rw [n] at mu; exact mu
 have hb:∀ b,H b=none->b≠e:=fun b n z=>by
  subst z
  rcases he with r | r
  ·exact hx b n r
  ·rw [n] at r; cases r
 have hm:∀ b u,H b=some u->¬ Mut (some u)->b≠x:=fun b u q nm z=>by subst z; rw [q] at mu; exact nm mu
 refine⟨fun b u q n _ _=>k b u (hb b n) q,fun b u q n _ _=>⟨u.slots,k b u (hb b n) q⟩,fun b u q n _=>by rw [aA (hx b n)]; exact n,fun b u q _=>?_,
  fun b xs q=>by rw [aA (hm b _ q fun z=>z)]; exact q,fun b u xs q=>by rw [aA (hm b _ q fun z=>z)]; exact q,fun b ps q=>⟨#[],by rw [aA (hm b _ q fun z=>z),q]; simp⟩⟩
 by_cases hbe:b=e
 ·subst hbe; exact heo
 ·exact⟨u,k b u hbe q⟩
end
noncomputable def trk (h:Heap) (H:Hp):List Addr:=(List.range h.objs.size).filter fun a=>(H a).isSome
noncomputable def hidT (h:Heap) (H:Hp):Heap:=PySem.W.hideAll h (trk h H)
theorem hidT_size (h:Heap) (H:Hp):(hidT h H).objs.size=h.objs.size:=PySem.W.hideAll_size _ _
theorem hidT_get {h:Heap}{H:Hp}{b:Addr}{o:Obj} (e:h.get? b=some o) (n:H b=none):(hidT h H).get? b=some o :=
 PySem.W.hideAll_get _ e fun hm=>by
  have q:(H b).isSome=true:=(List.mem_filter.mp hm).2
  rw [n] at q; simp at q
theorem of_hidT {h:Heap}{H:Hp}{b:Addr}{o:Obj} (e:(hidT h H).get? b=some o):h.get? b=some o/\H b=none:=by
 have e':h.get? b=some o:=PySem.W.of_hideAll (trk h H) e
 refine⟨e',?_⟩
 cases q:H b with
 | none=>rfl
 | some x =>
  have hm:b∈trk h H:=List.mem_filter.mpr ⟨List.mem_range.mpr (Heap.lt_size e'),by simp [q]⟩
  have z:(hidT h H).get? b=none:=PySem.W.hideAll_none (trk h H) hm
  rw [z] at e; cases e
noncomputable def allNews (g h:Heap) (L:Addr):List (Addr×Obj):=(List.range h.objs.size).filterMap fun a=>if a=L\/(g.get? a).isSome=true then none else (h.get? a).map fun o=>(a,o)
theorem of_mem_allNews {g h:Heap}{L:Addr}{p:Addr×Obj} (hp:p∈allNews g h L):p.1≠L/\g.get? p.1=none/\h.get? p.1=some p.2:=by
 obtain⟨b,_,e⟩:=List.mem_filterMap.mp hp
 split at e
 ·cases e
 ·rename_i hn
  cases q:h.get? b with
  | none=>rw [q] at e; simp at e
  | some u =>
   rw [q] at e
   simp only [Option.map_some,Option.some.injEq] at e
   subst e
   refine⟨fun z=>hn (.inl z),?_,q⟩
   show g.get? b=none
   cases r:g.get? b with
   | none=>rfl
   | some v=>exact (hn (.inr (by simp [r]))).elim
noncomputable def rest (g h:Heap) (L d:Addr):List (Addr×Obj):=(allNews g h L).filter fun p=>decide (p.1≠d)
theorem news_all {g h:Heap}{L:Addr}:News g L h (allNews g h L):=fun p hp=>let ⟨a,b,c⟩:=of_mem_allNews hp; ⟨c,a,b⟩
structure Mod (K:PySem.W.Frag) (mg:Str->Option Value) (base:Heap):Prop where
 kin:K.In base
 glob:base.Ns mainGlobals mg
 blt:∃ mb,base.Ns builtinsNs mb/\∀ x:Str,x≠"__name__"->mb x=bootBuiltins x
 nolimit:base.NoLimit
structure Cx where
 prog:Program
 w:World
 K:PySem.W.Frag
 mg:Str->Option Value
 base:Heap
 A:Around
 N:List Str
 s₀:Shared
 H₀:Hp
 env:Env
 outer:List Env
 stack:List Env
 ex:List Addr
 fn:Str->Bool
 calm:Bool
 pn:List (Addr×Obj)
 xe:Value->Shared->Prop
noncomputable def frs (l:List Env):List Addr:=l.filterMap (·.frame)
noncomputable abbrev Cx.fs (X:Cx):List Addr:=frs X.outer
noncomputable def Vis (sc:Scope) (x:Str):Prop:=sc.names.lookup x=some .local\/sc.names.lookup x=some .cell\/sc.names.lookup x=some .free
noncomputable def Loc (sc:Scope) (x:Str):Prop:=sc.names.lookup x=some .local\/sc.names.lookup x=some .cell
noncomputable def Look (env:Env) (h:Heap) (m:Str->Option Value) (x:Str) (u:Value):Prop :=
 (env.kindOf x=some .local/\m x=some u)\/((env.kindOf x=some .cell\/env.kindOf x=some .free)/\∃ c,env.cells.lookup x=some c/\h.IsCell c (some u))
structure Cx.Ok (X:Cx):Prop where
 mod:Mod X.K X.mg X.base
 kind:X.env.scope.kind=.function
 glob:X.env.globals=mainGlobals
 blt:X.env.builtins=builtinsNs
 above:X.s₀.heap.objs.size<=X.env.locals
 inj:∀ x y c,X.env.cells.lookup x=some c->X.env.cells.lookup y=some c->x=y
 has:∀ x,(X.env.kindOf x=some .cell\/X.env.kindOf x=some .free)->∃ c,X.env.cells.lookup x=some c
 cab:∀ x c,X.fn x=true->X.env.cells.lookup x=some c->X.s₀.heap.objs.size<=c
 hd:X.calm=true->X.A.handled=none
 frames:X.A.frames=some X.stack
 stk:X.stack=X.outer\/(X.stack=X.env::X.outer/\X.env.frame=some X.env.locals)
 exf:∀ b∈X.ex,b≠X.env.locals/\∀ x c,X.env.cells.lookup x=some c->c≠b
 bs:∀ b o,X.base.get? b=some o->X.s₀.heap.get? b=some o/\X.H₀ b=none
 bsz:X.base.objs.size<=X.s₀.heap.objs.size
 noex:∀ b o,X.base.get? b=some o->b∉X.ex
 exfs:∀ b∈X.ex,b∉X.fs
 funs:X.s₀.heap.FunFrames X.base X.outer
 frf:∀ b∈X.fs,X.H₀ b=none
structure Inv (X:Cx) (pins:List (Addr×Obj)) (σ:List (Option V)) (H:Hp) (s:Shared):Prop where
 ok:X.Ok
 os:s.os=X.s₀.os
 bare:AllBare s.gens
 base:Un X.fs X.ex X.H₀ H X.s₀.heap s.heap
 loc:∃ m,s.heap.Ns X.env.locals m/\∀ (i:Nat) (x:Str) (v:V),X.N[i]?=some x->σ[i]?=some (some v)->Vis X.env.scope x->∃ u,RelV v u/\Look X.env s.heap m x u
 cell:∀ x c,X.env.cells.lookup x=some c->∃ v,s.heap.IsCell c v
 free:H X.env.locals=none
 freeC:∀ x c,X.env.cells.lookup x=some c->H c=none
 pin:∀ p∈X.pn++pins,s.heap.get? p.1=some p.2/\H p.1=none/\p.1≠X.env.locals/\p.1∉X.fs/\∀ v,p.2.data≠.cell v
 hok:HOk X.prog X.w H s.heap
 len:σ.length=X.N.length
section
variable {X:Cx}{pins:List (Addr×Obj)}{σ:List (Option V)}{H H':Hp}{s:Shared}{h':Heap}
theorem Cx.Ok.nofr (ok:X.Ok) {b:Addr}{o:Obj} (e:X.base.get? b=some o):b∉X.fs:=fun hb=>by
 have:=(ok.funs.mem hb).1
 rw [e] at this; cases this
theorem Inv.bs (I:Inv X pins σ H s):∀ b o,X.base.get? b=some o->s.heap.get? b=some o/\H b=none:=fun b o e =>
 ⟨I.base.keep b o (I.ok.bs b o e).1 (I.ok.bs b o e).2 (I.ok.nofr e) (I.ok.noex b o e),I.base.free b o (I.ok.bs b o e).1 (I.ok.bs b o e).2 (I.ok.noex b o e)⟩
theorem Inv.bk (I:Inv X pins σ H s):∀ b o,X.base.get? b=some o->s.heap.get? b=some o:=fun b o e=>(I.bs b o e).1
theorem Inv.mod (I:Inv X pins σ H s):Mod X.K X.mg X.base:=I.ok.mod
theorem Inv.kIn (I:Inv X pins σ H s):X.K.In s.heap:=I.ok.mod.kin.keeps I.bk
theorem Inv.fr (I:Inv X pins σ H s):∃ m,Fr X.base X.env.locals s.heap m :=
 let ⟨m,hn,_⟩:=I.loc
 ⟨m,hn,I.bk,Nat.le_trans I.ok.bsz I.ok.above⟩
theorem Inv.lt (I:Inv X pins σ H s):X.env.locals<s.heap.objs.size:=let ⟨_,hn,_⟩:=I.loc; hn.lt
theorem Inv.sz (I:Inv X pins σ H s):X.s₀.heap.objs.size<=s.heap.objs.size:=Nat.le_trans I.ok.above (Nat.le_of_lt I.lt)
theorem Inv.nofs (I:Inv X pins σ H s) {a:Addr} (h:s.heap.objs.size<=a):a∉X.fs:=fun hb=>by
 obtain⟨_,o,ho,_⟩:=I.ok.funs.mem hb
 exact absurd (Nat.lt_of_lt_of_le (Heap.lt_size ho) (Nat.le_trans I.sz h)) (Nat.lt_irrefl _)
theorem Inv.cne (I:Inv X pins σ H s):∀ x c,X.env.cells.lookup x=some c->c≠X.env.locals:=fun x c e z=>by
 obtain⟨v,o,ho,hd⟩:=I.cell x c e
 obtain⟨m,⟨o',es,ep,ho',hd',_⟩,_⟩:=I.loc
 rw [z,ho'] at ho; cases ho; rw [hd'] at hd; cases hd
theorem Inv.funs (I:Inv X pins σ H s):s.heap.FunFrames X.base X.outer:=by
 have all:∀ (l:List Env),(∀ b∈frs l,b∈X.fs)->X.s₀.heap.FunFrames X.base l->s.heap.FunFrames X.base l:=by
  intro l
  induction l with
  | nil=>intro _ _; trivial
  | cons env r ih =>
   intro hs hl
   obtain⟨hk,⟨L,o,hf,hn,ho,hd⟩,hr⟩:=hl
   have hL:L∈X.fs:=hs L (by unfold frs; rw [List.filterMap_cons,hf]; exact List.mem_cons_self)
   obtain⟨sl,e⟩:=I.base.slot L o ho (I.ok.frf L hL) hL fun z=>I.ok.exfs L z hL
   exact⟨hk,⟨L,_,hf,hn,e,hd⟩,ih (fun b hb=>hs b (by unfold frs; rw [List.filterMap_cons,hf]; exact List.mem_cons_of_mem _ hb)) hr⟩
 exact all X.outer (fun _ hb=>hb) I.ok.funs
theorem Inv.stack (I:Inv X pins σ H s):s.heap.FunFrames X.base X.stack:=by
 rcases I.ok.stk with e | ⟨e,hf⟩
 ·rw [e]; exact I.funs
 ·rw [e]
  obtain⟨m,hn,_⟩:=I.loc
  refine .cons (by rw [I.ok.kind]; decide) hf hn ?_ I.funs
  exact Heap.get?_none_of_le (Nat.le_trans I.ok.bsz I.ok.above)
theorem Inv.stkSub (I:Inv X pins σ H s):∀ b∈frs X.stack,b∈X.env.locals::X.fs:=fun b hb=>by
 rcases I.ok.stk with e | ⟨e,hf⟩
 ·rw [e] at hb; exact List.mem_cons_of_mem _ hb
 ·rw [e] at hb
  unfold frs at hb
  rw [List.filterMap_cons,hf] at hb
  exact hb
theorem Inv.stkFree (I:Inv X pins σ H s):∀ b∈frs X.stack,H b=none:=fun b hb=>by
 rcases List.mem_cons.mp (I.stkSub b hb) with e | hb
 ·rw [e]; exact I.free
 ·obtain⟨_,o,ho,_⟩:=I.ok.funs.mem hb
  exact I.base.free b o ho (I.ok.frf b hb) fun z=>I.ok.exfs b z hb
theorem Inv.step {g':Array GenState}{t':Nat}{d':Drawn}{ch:List Addr} (I:Inv X pins σ H s)
  (hch:∀ b∈ch,(b∈X.ex\/X.s₀.heap.objs.size<=b)/\b≠X.env.locals/\(∀ x c,X.env.cells.lookup x=some c->c≠b)/\∀ p∈X.pn++pins,p.1≠b)
  (keep:∀ b o,b≠X.env.locals->b∉X.fs->b∉ch->s.heap.get? b=some o->H b=none->h'.get? b=some o)
  (slot:∀ b o,b≠X.env.locals->b∈X.fs->b∉ch->s.heap.get? b=some o->H b=none->∃ sl,h'.get? b=some { o with slots:=sl }) (free:∀ b o,b∉ch->s.heap.get? b=some o->H b=none->H' b=none)
  (there:∀ b o,b∉ch->s.heap.get? b=some o->∃ o',h'.get? b=some o')
  (tups:∀ b xs,H b=some (.tup xs)->H' b=some (.tup xs)) (frzs:∀ b o u,H b=some (.frz o u)->H' b=some (.frz o u)) (tbls:∀ b ps,H b=some (.tbl ps)->∃ more,H' b=some (.tbl (ps++more)))
  (ns:∀ m,s.heap.Ns X.env.locals m->h'.Ns X.env.locals m) (hok:HOk X.prog X.w H' h') (hg:AllBare g') :
  Inv X pins σ H' { s with heap:=h',gens:=g',drawn:=d',toks:=t' }:=by
 have neL:∀ b o,X.s₀.heap.get? b=some o->b≠X.env.locals:=fun b o e=>Nat.ne_of_lt (Nat.lt_of_lt_of_le (Heap.lt_size e) I.ok.above)
 have neC:∀ b o,X.s₀.heap.get? b=some o->b∉X.ex->b∉ch:=fun b o e hx hb=>by
  rcases (hch b hb).1 with z | z
  ·exact hx z
  ·exact absurd (Nat.lt_of_lt_of_le (Heap.lt_size e) z) (Nat.lt_irrefl _)
 have cellK:∀ x c,X.env.cells.lookup x=some c->∀ v,s.heap.IsCell c v->h'.IsCell c v:=fun x c e v ⟨o,ho,hd⟩=>by
  have nch:c∉ch:=fun z=>(hch c z).2.2.1 x c e rfl
  by_cases hc:c∈X.fs
  ·obtain⟨sl,q⟩:=slot c o (I.cne x c e) hc nch ho (I.freeC x c e)
   exact⟨_,q,hd⟩
  ·exact⟨o,keep c o (I.cne x c e) hc nch ho (I.freeC x c e),hd⟩
 refine⟨I.ok,I.os,hg,⟨fun b o e n hb hx=>?_,fun b o e n hb hx=>?_,fun b o e n hx=>?_,fun b o e hx=>?_,fun b xs e=>tups b xs (I.base.tups b xs e),fun b o xs e=>frzs b o xs (I.base.frzs b o xs e),fun b ps e=>?_⟩,?_,fun x c e=>?_,?_,fun x c e=>?_,fun p hp=>?_,hok,I.len⟩
 ·exact keep b o (neL b o e) hb (neC b o e hx) (I.base.keep b o e n hb hx) (I.base.free b o e n hx)
 ·obtain⟨sl,e1⟩:=I.base.slot b o e n hb hx
  obtain⟨sl',e2⟩:=slot b _ (neL b o e) hb (neC b o e hx) e1 (I.base.free b o e n hx)
  exact⟨sl',e2⟩
 ·obtain⟨o',e1⟩:=I.base.there b o e hx
  exact free b o' (neC b o e hx) e1 (I.base.free b o e n hx)
 ·obtain⟨o',e1⟩:=I.base.there b o e hx
  exact there b o' (neC b o e hx) e1
 ·obtain⟨m1,e1⟩:=I.base.tbls b ps e
  obtain⟨m2,e2⟩:=tbls b _ e1
  exact⟨m1++m2,by rw [e2,Array.append_assoc]⟩
 ·obtain⟨m,hn,hl⟩:=I.loc
  refine⟨m,ns m hn,fun i x v e1 e2 e3=>?_⟩
  obtain⟨u,r,l⟩:=hl i x v e1 e2 e3
  refine⟨u,r,?_⟩
  rcases l with l | ⟨k,c,e,z⟩
  ·exact .inl l
  ·exact .inr ⟨k,c,e,cellK x c e _ z⟩
 ·obtain⟨v,z⟩:=I.cell x c e
  exact⟨v,cellK x c e v z⟩
 ·obtain⟨m,⟨o,_,_,ho,_⟩,_⟩:=I.loc
  exact free _ o (fun z=>(hch _ z).2.1 rfl) ho I.free
 ·obtain⟨v,o,ho,hd⟩:=I.cell x c e
  exact free c o (fun z=>(hch c z).2.2.1 x c e rfl) ho (I.freeC x c e)
 ·obtain⟨e,n,ne,nf,d⟩:=I.pin p hp
  have nch:p.1∉ch:=fun z=>(hch p.1 z).2.2.2 p hp rfl
  exact⟨keep p.1 p.2 ne nf nch e n,free p.1 p.2 nch e n,ne,nf,d⟩
theorem Inv.un {t':Nat} (I:Inv X pins σ H s) (u:Un X.fs [] H H' s.heap h') (hok:HOk X.prog X.w H' h'):Inv X pins σ H' { s with heap:=h',toks:=t' }:=by
 obtain⟨m,⟨o,es,ep,ho,r⟩,_⟩:=id I.loc
 obtain⟨sl,hL⟩:=u.any ho I.free (by simp)
 exact I.step (g':=s.gens) (d':=s.drawn) (ch:=[]) (fun _ z=>nomatch z) (fun b o _ hb _ e n=>u.keep b o e n hb (by simp)) (fun b o _ hb _ e n=>u.slot b o e n hb (by simp)) (fun b o _ e n=>u.free b o e n (by simp)) (fun b o _ e=>u.there b o e (by simp)) u.tups u.frzs u.tbls (fun m' hm=>by
  obtain⟨o',es',ep',ho',r'⟩:=hm
  rw [ho] at ho'; cases ho'
  exact⟨_,es',ep',hL,r'⟩) hok I.bare
theorem Inv.call {g':Array GenState}{t':Nat}{d':Drawn}{ch:List Addr} (I:Inv X pins σ H s) (u:Un (frs X.stack) ch H H' s.heap h') (hok:HOk X.prog X.w H' h') (hg:AllBare g')
  (hch:∀ b∈ch,(b∈X.ex\/X.s₀.heap.objs.size<=b)/\b≠X.env.locals/\(∀ x c,X.env.cells.lookup x=some c->c≠b)/\∀ p∈X.pn++pins,p.1≠b) :
  Inv X pins σ H' { s with heap:=h',gens:=g',drawn:=d',toks:=t' }:=by
 obtain⟨m,⟨o,es,ep,ho,r⟩,_⟩:=id I.loc
 obtain⟨sl,hL⟩:=u.any ho I.free fun z=>(hch _ z).2.1 rfl
 exact I.step (ch:=ch) hch (fun b o hL hb hc e n=>u.keep b o e n (fun z=>(List.mem_cons.mp (I.stkSub b z)).elim hL hb) hc) (fun b o _ _ hc e n=>u.any e n hc) (fun b o hc e n=>u.free b o e n hc) (fun b o hc e=>u.there b o e hc) u.tups u.frzs u.tbls (fun m' hm=>by
  obtain⟨o',es',ep',ho',r'⟩:=hm
  rw [ho] at ho'; cases ho'
  exact⟨_,es',ep',hL,r'⟩) hok hg
theorem Inv.turned {t':Nat}{it:Addr} (I:Inv X pins σ H s) (k:∀ b o,b≠it->s.heap.get? b=some o->h'.get? b=some o) (hn:H it=none) (hL:it≠X.env.locals)
  (h1:it∈X.ex\/X.s₀.heap.objs.size<=it) (h2:∀ x c,X.env.cells.lookup x=some c->c≠it) (h3:∀ p∈X.pn++pins,p.1≠it):Inv X pins σ H { s with heap:=h',toks:=t' }:=by
 have nit:∀ b u,H b=some u->b≠it:=fun b u e z=>by rw [z,hn] at e; cases e
 refine I.step (g':=s.gens) (d':=s.drawn) (ch:=[it]) (fun b hb=>?_) (fun b o _ _ hc e _=>k b o (fun z=>hc (by simp [z])) e) (fun b o _ _ hc e _=>⟨o.slots,k b o (fun z=>hc (by simp [z])) e⟩) (fun _ _ _ _ n=>n)
  (fun b o hc e=>⟨o,k b o (fun z=>hc (by simp [z])) e⟩) (fun _ _ e=>e) (fun _ _ _ e=>e) (fun b ps e=>⟨#[],by rw [e]; simp⟩) (fun m hm=>?_) (fun b u e=>?_) I.bare
 ·have e:b=it:=by simpa using hb
  subst e
  exact⟨h1,hL,h2,h3⟩
 ·obtain⟨o,es,ep,ho,r⟩:=hm
  exact⟨o,es,ep,k _ o (Ne.symm hL) ho,r⟩
 ·refine (I.hok b u e).stay (fun c v hc q=>k c v ?_ q) (fun _ q=>q) fun _ _ q=>q
  rcases hc with z | z
  ·rw [z]; exact nit b u e
  ·exact nit c _ z
theorem Inv.tok (I:Inv X pins σ H s) (t:Nat):Inv X pins σ H { s with toks:=t }:=I.un (h':=s.heap) (t':=t) Un.refl I.hok
theorem Inv.kept {t':Nat} (I:Inv X pins σ H s) (k:∀ b u,s.heap.get? b=some u->h'.get? b=some u):Inv X pins σ H { s with heap:=h',toks:=t' }:=I.un (Un.kept k) (I.hok.kept k)
theorem Inv.laid {a:Addr}{o:HO}{t':Nat} (I:Inv X pins σ H s) (k:∀ b u,s.heap.get? b=some u->h'.get? b=some u) (hp:s.heap.objs.size<=a) (new:bZ X.prog X.w (upd H a o) h' a o) :
  Inv X pins σ (upd H a o) { s with heap:=h',toks:=t' }:=I.un (Un.laid k hp (I.hok.fresh hp)) (I.hok.laid k hp new)
theorem Inv.write {x e:Addr}{o:HO}{t':Nat} (I:Inv X pins σ H s) (mu:Mut (H x)) (he:e=x\/H e=some (.own x)) (k:∀ b u,b≠e->s.heap.get? b=some u->h'.get? b=some u) (heo:∃ u,h'.get? e=some u)
  (new:bZ X.prog X.w (upd H x o) h' x o):Inv X pins σ (upd H x o) { s with heap:=h',toks:=t' }:=I.un (Un.write mu he k heo) (I.hok.write mu he k heo new)
theorem Inv.pins_of {pins':List (Addr×Obj)} (I:Inv X pins σ H s) (h:∀ p∈pins',s.heap.get? p.1=some p.2/\H p.1=none/\p.1≠X.env.locals/\p.1∉X.fs/\∀ v,p.2.data≠.cell v):Inv X pins' σ H s :=
 ⟨I.ok,I.os,I.bare,I.base,I.loc,I.cell,I.free,I.freeC,fun p hp=>(List.mem_append.mp hp).elim (fun z=>I.pin p (List.mem_append_left _ z)) (h p),I.hok,I.len⟩
theorem nodup_ix {N:List Str} (hN:N.Nodup) {i j:Nat}{x:Str} (a:N[i]?=some x) (b:N[j]?=some x):i=j:=by
 obtain⟨h1,e1⟩:=List.getElem?_eq_some_iff.mp a
 obtain⟨h2,e2⟩:=List.getElem?_eq_some_iff.mp b
 exact (List.getElem_inj hN).mp (e1.trans e2.symm)
theorem store_ok2 {M:Model}{A:Around}{E:Value->Shared->Prop}{i:Nat}{x:Str}{v:V}{u:Value}{Q:Unit->Shared->Prop} (I:Inv X pins σ H s) (hU:∀ j,X.N[j]?=some x->j=i) (hi:X.N[i]?=some x) (hx:Loc X.env.scope x) (r:RelV v u)
  (h:∀ s',Inv X pins (σ.set i (some v)) H s'->(∃ a,Heap.SameBut a s.heap s'.heap/\(a=X.env.locals\/X.env.cells.lookup x=some a))->Q () s') (hf:X.fn x=true\/X.env.scope.names.lookup x=some .local:=by first | exact .inl rfl | exact .inr rfl | assumption):wpAny M A (storeName X.env x u) Q E s:=by
 obtain⟨m,hn,hl⟩:=id I.loc
 have hcls:(X.env.scope.kind == .class || (X.env.scope.kind == .module&&X.env.locals != X.env.globals))=false:=by rw [I.ok.kind]; rfl
 have hiσ:i<σ.length:=by rw [I.len]; exact (List.getElem?_eq_some_iff.mp hi).1
 have cne:=I.cne
 have tracked:∀ {a:Addr}{h':Heap},(∃ o,s.heap.get? a=some o/\H a=none)->Heap.SameBut a s.heap h'->HOk X.prog X.w H h':=fun {a h'} ha hs b ob e=>by
  obtain⟨_,_,hfree⟩:=ha
  refine (I.hok b ob e).stay (fun c w' hc q=>(hs.2 c ?_).trans q) (fun _ q=>q) fun _ _ q=>q
  rintro rfl
  rcases hc with rfl | hc
  ·rw [hfree] at e; cases e
  ·rw [hfree] at hc; cases hc
 rcases hx with hk | hk
 ·refine wpAny_storeName_local hk hn (fun h' hn' hs=>?_) hcls
  obtain⟨oL,_,_,hoL,_⟩:=id hn
  refine h _ ⟨I.ok,I.os,I.bare,⟨fun b o e n hb hx=>?_,fun b o e n hb hx=>?_,I.base.free,fun b o e hx=>?_,I.base.tups,I.base.frzs,I.base.tbls⟩,⟨_,hn',fun j y v' e1 e2 e3=>?_⟩,fun y c e=>?_,I.free,I.freeC,fun p hp=>?_,tracked ⟨oL,hoL,I.free⟩ hs,by simpa using I.len⟩ ⟨_,hs,.inl rfl⟩
  ·exact (hs.2 b (Nat.ne_of_lt (Nat.lt_of_lt_of_le (Heap.lt_size e) I.ok.above))).trans (I.base.keep b o e n hb hx)
  ·obtain⟨sl,e1⟩:=I.base.slot b o e n hb hx
   exact⟨sl,(hs.2 b (Nat.ne_of_lt (Nat.lt_of_lt_of_le (Heap.lt_size e) I.ok.above))).trans e1⟩
  ·obtain⟨o',e1⟩:=I.base.there b o e hx
   exact⟨o',(hs.2 b (Nat.ne_of_lt (Nat.lt_of_lt_of_le (Heap.lt_size e) I.ok.above))).trans e1⟩
  ·by_cases hj:j=i
   ·subst hj
    rw [hi] at e1; cases e1
    rw [List.getElem?_set_self hiσ] at e2
    cases e2
    exact⟨u,r,.inl ⟨hk,by simp⟩⟩
   ·rw [List.getElem?_set_ne (Ne.symm hj)] at e2
    obtain⟨u',r',q⟩:=hl j y v' e1 e2 e3
    refine⟨u',r',?_⟩
    rcases q with ⟨k,e⟩ | ⟨k,c,e,z⟩
    ·refine .inl ⟨k,?_⟩
     have:y≠x:=fun e=>hj (hU _ (e ▸ e1))
     simp [this,e]
    ·exact .inr ⟨k,c,e,z.sameBut hs (cne y c e)⟩
  ·obtain⟨w',z⟩:=I.cell y c e
   exact⟨w',z.sameBut hs (cne y c e)⟩
  ·obtain⟨e,n,ne,nf,d⟩:=I.pin p hp
   exact⟨(hs.2 p.1 ne).trans e,n,ne,nf,d⟩
 ·have hfn:X.fn x=true:=by
   rcases hf with z | z
   ·exact z
   ·rw [z] at hk; cases hk
  obtain⟨c,hc⟩:=I.ok.has x (.inl hk)
  obtain⟨w',z⟩:=I.cell x c hc
  refine wpAny_storeName_cell I.ok.kind hk hc z (fun h' hc' hs=>?_)
  obtain⟨oc,hoc,hocd⟩:=id z
  refine h { s with heap:=h' } ⟨I.ok,I.os,I.bare,⟨fun b o e n hb hx=>?_,fun b o e n hb hx=>?_,I.base.free,fun b o e hx=>?_,I.base.tups,I.base.frzs,I.base.tbls⟩,⟨m,hn.sameBut hs (Ne.symm (cne x c hc)),fun j y v' e1 e2 e3=>?_⟩,fun y c' e=>?_,I.free,I.freeC,fun p hp=>?_,tracked ⟨oc,hoc,I.freeC x c hc⟩ hs,by simpa using I.len⟩ ⟨c,hs,.inr hc⟩
  ·exact (hs.2 b (Nat.ne_of_lt (Nat.lt_of_lt_of_le (Heap.lt_size e) (I.ok.cab x c hfn hc)))).trans (I.base.keep b o e n hb hx)
  ·obtain⟨sl,e1⟩:=I.base.slot b o e n hb hx
   exact⟨sl,(hs.2 b (Nat.ne_of_lt (Nat.lt_of_lt_of_le (Heap.lt_size e) (I.ok.cab x c hfn hc)))).trans e1⟩
  ·obtain⟨o',e1⟩:=I.base.there b o e hx
   exact⟨o',(hs.2 b (Nat.ne_of_lt (Nat.lt_of_lt_of_le (Heap.lt_size e) (I.ok.cab x c hfn hc)))).trans e1⟩
  ·by_cases hj:j=i
   ·subst hj
    rw [hi] at e1; cases e1
    rw [List.getElem?_set_self hiσ] at e2
    cases e2
    exact⟨u,r,.inr ⟨.inl hk,c,hc,hc'⟩⟩
   ·rw [List.getElem?_set_ne (Ne.symm hj)] at e2
    obtain⟨u',r',q⟩:=hl j y v' e1 e2 e3
    refine⟨u',r',?_⟩
    rcases q with q | ⟨k,c',e,z'⟩
    ·exact .inl q
    ·refine .inr ⟨k,c',e,z'.sameBut hs ?_⟩
     rintro rfl
     exact hj (hU _ (I.ok.inj _ _ _ e hc ▸ e1))
  ·by_cases hcc:c'=c
   ·subst hcc; exact⟨_,hc'⟩
   ·obtain⟨w2,z2⟩:=I.cell y c' e
    exact⟨w2,z2.sameBut hs hcc⟩
  ·obtain⟨e,n,ne,nf,d⟩:=I.pin p hp
   refine⟨(hs.2 p.1 ?_).trans e,n,ne,nf,d⟩
   intro q
   rw [q,hoc] at e
   have q':oc=p.2:=Option.some.inj e
   exact d w' (by rw [← q']; exact hocd)
theorem store_ok {M:Model}{A:Around}{E:Value->Shared->Prop}{i:Nat}{x:Str}{v:V}{u:Value}{Q:Unit->Shared->Prop} (I:Inv X pins σ H s) (hN:X.N.Nodup) (hi:X.N[i]?=some x) (hx:Loc X.env.scope x) (r:RelV v u)
  (h:∀ s',Inv X pins (σ.set i (some v)) H s'->Q () s') (hf:X.fn x=true\/X.env.scope.names.lookup x=some .local:=by first | exact .inl rfl | exact .inr rfl | assumption):wpAny M A (storeName X.env x u) Q E s :=
 store_ok2 I (fun j h=>nodup_ix hN h hi) hi hx r (fun s' I' _=>h s' I') hf
theorem Inv.call' {s':Shared}{ch:List Addr} (I:Inv X pins σ H s) (ho:s'.os=s.os) (u:Un (frs X.stack) ch H H' s.heap s'.heap) (hok:HOk X.prog X.w H' s'.heap) (hg:AllBare s'.gens)
  (hch:∀ b∈ch,(b∈X.ex\/X.s₀.heap.objs.size<=b)/\b≠X.env.locals/\(∀ x c,X.env.cells.lookup x=some c->c≠b)/\∀ p∈X.pn++pins,p.1≠b):Inv X pins σ H' s':=by
 obtain⟨h',g',d',t',o'⟩:=s'
 have e:o'=s.os:=ho
 subst e
 exact I.call (g':=g') (t':=t') (d':=d') u hok hg hch
end
noncomputable abbrev XK:=Value->Option Addr->Hp->Prop
noncomputable abbrev St:=List (Option V)
noncomputable abbrev VK:=V->Hp->Prop
noncomputable abbrev TE:=St->Hp->VK->Prop
noncomputable abbrev TT:=St->Hp->(Bool->Hp->Prop)->Prop
noncomputable abbrev TA:=St->Hp->(List V->Hp->Prop)->Prop
structure Ends where
 nx:St->Hp->Prop
 rt:VK
 bk:St->Hp->Prop:=fun _ _=>False
 ct:St->Hp->Prop:=fun _ _=>False
noncomputable abbrev TS:=Ends->St->Hp->Prop
noncomputable def EP (X:Cx) (pins:List (Addr×Obj)) (σ:St) (Q:VK) (u:Value) (s':Shared):Prop:=∃ v H',Inv X pins σ H' s'/\RelV v u/\Q v H'
noncomputable def TP (X:Cx) (pins:List (Addr×Obj)) (σ:St) (Q:Bool->Hp->Prop) (b:Bool) (s':Shared):Prop:=∃ H',Inv X pins σ H' s'/\Q b H'
noncomputable def AP (X:Cx) (pins:List (Addr×Obj)) (σ:St) (Q:List V->Hp->Prop) (us:List Value) (s':Shared):Prop:=∃ vs H',Inv X pins σ H' s'/\Vals vs us/\Q vs H'
noncomputable def SP (X:Cx) (pins:List (Addr×Obj)) (D:Ends) (f:Flow) (s':Shared):Prop :=
 match f with
 | .next=>∃ σ' H',Inv X pins σ' H' s'/\D.nx σ' H'
 | .brk=>∃ σ' H',Inv X pins σ' H' s'/\D.bk σ' H'
 | .cont=>∃ σ' H',Inv X pins σ' H' s'/\D.ct σ' H'
 | .ret u=>∃ v σ' H',Inv X pins σ' H' s'/\RelV v u/\D.rt v H'
noncomputable def PE (X:Cx) (e:Expr) (t:TE):Prop :=
 ∀ (pins:List (Addr×Obj)) (s:Shared) (σ:St) (H:Hp) (Q:VK),Inv X pins σ H s->t σ H Q->wpAny (model X.prog X.w) X.A (eval e X.env) (EP X pins σ Q) X.xe s
noncomputable def PT (X:Cx) (e:Expr) (t:TT):Prop :=
 ∀ (pins:List (Addr×Obj)) (s:Shared) (σ:St) (H:Hp) (Q:Bool->Hp->Prop),Inv X pins σ H s->t σ H Q->wpAny (model X.prog X.w) X.A (isTrue e X.env (eval e X.env)) (TP X pins σ Q) X.xe s
noncomputable def PW (X:Cx) (e:Expr) (t:TT):Prop :=
 ∀ (whole:Sem Value) (pins:List (Addr×Obj)) (s:Shared) (σ:St) (H:Hp) (Q:Bool->Hp->Prop),Inv X pins σ H s->t σ H Q->wpAny (model X.prog X.w) X.A (isTrue e X.env whole) (TP X pins σ Q) X.xe s
theorem PW.pt {X:Cx}{e:Expr}{t:TT} (h:PW X e t):PT X e t:=h _
noncomputable def PA (X:Cx) (es:List Expr) (t:TA):Prop :=
 ∀ (pos:Pos) (pins:List (Addr×Obj)) (s:Shared) (σ:St) (H:Hp) (Q:List V->Hp->Prop),Inv X pins σ H s->t σ H Q->wpAny (model X.prog X.w) X.A (spliced (backTo pos (starEach es X.env))) (AP X pins σ Q) X.xe s
noncomputable def PS (X:Cx) (st:Stmt) (t:TS):Prop :=
 ∀ (pins:List (Addr×Obj)) (s:Shared) (σ:St) (H:Hp) (D:Ends),Inv X pins σ H s->t D σ H->wpAny (model X.prog X.w) X.A (exec st X.env) (SP X pins D) X.xe s
noncomputable def PSs (X:Cx) (st:List Stmt) (t:TS):Prop :=
 ∀ (pins:List (Addr×Obj)) (s:Shared) (σ:St) (H:Hp) (D:Ends),Inv X pins σ H s->t D σ H->wpAny (model X.prog X.w) X.A (execs st X.env) (SP X pins D) X.xe s
theorem thn {α:Type}{t:Sem α}{Q Q':α->Shared->Prop}{M:Model}{A:Around}{E:Value->Shared->Prop}{s:Shared} (h:wpAny M A t Q E s) (hQ:∀ a s,Q a s->Q' a s):wpAny M A t Q' E s:=wpAny_mono h hQ fun _ _ x=>x
section
variable {X:Cx}
theorem bin {a b:Expr}{ta tb:TE} (ha:PE X a ta) (hb:PE X b tb) {pins:List (Addr×Obj)}{s:Shared}{σ:St}{H:Hp}{R:V->V->Hp->Prop} (I:Inv X pins σ H s) (h:ta σ H fun x H1=>tb σ H1 fun y H2=>R x y H2)
  {α:Type}{Q:α->Shared->Prop}{f:Value->Value->Sem α}
  (hf:∀ v u s2 x y H2,Inv X pins σ H2 s2->RelV x v->RelV y u->R x y H2->wpAny (model X.prog X.w) X.A (f v u) Q X.xe s2) :
  wpAny (model X.prog X.w) X.A (eval a X.env) (fun v s₁=>wpAny (model X.prog X.w) X.A (eval b X.env) (fun u s₂=>wpAny (model X.prog X.w) X.A (f v u) Q X.xe s₂) X.xe s₁) X.xe s:=by
 refine thn (ha pins s σ H _ I h) fun v s1 ⟨x,H1,I1,r1,q1⟩=>?_
 refine thn (hb pins s1 σ H1 _ I1 q1) fun u s2 ⟨y,H2,I2,r2,q2⟩=>?_
 exact hf v u s2 x y H2 I2 r1 r2 q2
noncomputable def lg (i:Nat):TE:=fun σ H Q=>∃ v,σ[i]?=some (some v)/\Q v H
noncomputable def tC (v:V):TE:=fun _ H Q=>Q v H
theorem pe_var {i:Nat}{x:Str}{pos:Pos} (hN:X.N[i]?=some x) (hv:Vis X.env.scope x) (hd:(x == ("__debug__":Str))=false:=by decide) (hcd:(x == ("__classdict__":Str))=false:=by decide):PE X (.Name x pos) (lg i):=by
 intro pins s σ H Q I h
 obtain⟨v,e,h⟩:=h
 obtain⟨m,hn,hl⟩:=I.loc
 obtain⟨u,r,l⟩:=hl i x v hN e hv
 have fin:EP X pins σ Q u s:=⟨v,H,I,r,h⟩
 rcases l with ⟨hk,hm⟩ | ⟨hk,c,hc,hcell⟩
 ·exact wpAny_Name (wpAny_loadName_local I.ok.kind hk hn hm fin) hd
 ·rcases hk with hk | hk
  ·exact wpAny_Name (wpAny_loadName_cell I.ok.kind hk hc hcell fin) hd
  ·exact wpAny_Name (wpAny_loadName_free I.ok.kind hk hc hcell fin hcd) hd
theorem aV {i j pos}:PE X (.Constant (.int i) j pos) (tC (.int i)):=fun _ _ _ H _ I h=>wpAny_Constant_int ⟨.int i,H,I.tok _,⟨_,rfl⟩,h⟩
theorem pe_bl {b j pos}:PE X (.Constant (.bool b) j pos) (tC (.bl b)):=fun _ _ _ H _ I h=>Constant_bool ⟨.bl b,H,I,rfl,h⟩
theorem pe_non {j pos}:PE X (.Constant .none j pos) (tC .non):=fun _ _ _ H _ I h=>Constant_none ⟨.non,H,I,rfl,h⟩
theorem pe_str {x j pos}:PE X (.Constant (.str x) j pos) (tC (.str x)):=fun _ _ _ H _ I h=>Calls.Constant_str ⟨.str x,H,I.tok _,⟨_,rfl⟩,h⟩
noncomputable def Gl (X:Cx) (x:Str):Prop:=X.env.kindOf x=some .globalImplicit
theorem ld_glob {E:Value->Shared->Prop}{pins:List (Addr×Obj)}{s:Shared}{σ:St}{H:Hp}{x:Str}{u:Value}{pos:Pos}{Q:Value->Shared->Prop} (I:Inv X pins σ H s) (hg:Gl X x) (hm:X.mg x=some u) (h:Q u s)
  (hd:(x == ("__debug__":Str))=false:=by decide):wpAny (model X.prog X.w) X.A (eval (.Name x pos) X.env) Q E s :=
 Calls.Name_function_global I.ok.kind hg (Calls.loadGlobal_global (by rw [I.ok.glob]; exact I.mod.glob.keeps I.bk) hm h) hd
theorem iV {E:Value->Shared->Prop}{pins:List (Addr×Obj)}{s:Shared}{σ:St}{H:Hp}{x:Str}{u:Value}{pos:Pos}{Q:Value->Shared->Prop} (I:Inv X pins σ H s) (hg:Gl X x) (hm:X.mg x=none) (hv:bootBuiltins x=some u) (h:Q u s)
  (hn:x≠"__name__":=by decide) (hd:(x == ("__debug__":Str))=false:=by decide):wpAny (model X.prog X.w) X.A (eval (.Name x pos) X.env) Q E s:=by
 obtain⟨mb,h1,h2⟩:=I.mod.blt
 exact Calls.Name_function_global I.ok.kind hg (Calls.loadGlobal_builtin (by rw [I.ok.glob]; exact I.mod.glob.keeps I.bk) hm (by rw [I.ok.blt]; exact h1.keeps I.bk) ((h2 x hn).trans hv) h) hd
theorem pe_bltn {x:Str}{v:V}{u:Value}{pos:Pos} (hg:Gl X x) (hm:X.mg x=none) (hv:bootBuiltins x=some u) (r:RelV v u) (hn:x≠"__name__":=by decide) (hd:(x == ("__debug__":Str))=false:=by decide):PE X (.Name x pos) (tC v) :=
 fun _ _ _ H _ I h=>iV I hg hm hv ⟨v,H,I,r,h⟩ hn hd
variable {a b:Expr}{ta tb:TE}{pos:Pos}
noncomputable def PC (X:Cx) (op:CmpOp) (a b:Expr) (t:TE):Prop :=
 ∀ (pins:List (Addr×Obj)) (s:Shared) (σ:St) (H:Hp) (Q:VK),Inv X pins σ H s->t σ H Q ->
  wpAny (model X.prog X.w) X.A (eval a X.env) (fun v s₁=>wpAny (model X.prog X.w) X.A (eval b X.env) (fun u s₂=>wpAny (model X.prog X.w) X.A (compareOp op v u) (EP X pins σ Q) X.xe s₂) X.xe s₁) X.xe s
noncomputable def tB (t:TE):TT:=fun σ H Q=>t σ H fun x H1=>∃ c,x=.bl c/\Q c H1
theorem pt_cmp {op:CmpOp}{t:TE} (h:PC X op a b t) (h1:behindInMarks op b=false:=by first | exact nobehind _ (by decide) (by decide) | rfl):PT X (.Compare a [op] [b] pos) (tB t):=by
 intro pins s σ H Q I hw
 refine wpAny_isTrue_Compare1 (thn (h pins s σ H _ I hw) fun v s1 h1=>thn h1 fun u s2 h2=>thn h2 fun c s3 ⟨x,H1,I1,r1,q1⟩=>?_) h1
 obtain⟨d,rfl,q⟩:=q1
 cases r1
 exact wpAny_truthy_bool ⟨H1,I1,q⟩
theorem pt_val {e:Expr}{t:TE} (h:PE X e t) (he:∀ whole,isTrue e X.env whole=(do let v ← whole; standAt e.pos; holding [v] (truthy v)):=by intro _; rfl):PT X e (tB t):=by
 intro pins s σ H Q I hw
 refine isTrue_plain (thn (h pins s σ H _ I hw) fun v s1 ⟨x,H1,I1,r1,q1⟩=>?_) (he _)
 obtain⟨d,rfl,q⟩:=q1
 cases r1
 exact wpAny_truthy_bool ⟨H1,I1,q⟩
variable {tA tB':TT}{rest:List Expr}
noncomputable def tAnd (t u:TT):TT:=fun σ H Q=>t σ H fun c H1=>if c=true then u σ H1 Q else Q false H1
noncomputable def tOr (t u:TT):TT:=fun σ H Q=>t σ H fun c H1=>if c=true then Q true H1 else u σ H1 Q
noncomputable def tNot (t:TT):TT:=fun σ H Q=>t σ H fun c H1=>Q (!c) H1
theorem pw_and1 (ha:PT X a tA):PW X (.BoolOp .And [a] pos) tA:=by
 intro wh pins s σ H Q I h
 refine isTrue_and (thn (ha pins s σ H Q I h) fun c s1 e=>?_)
 cases c with
 | true=>exact isTrue_and_nil e
 | false=>exact e
theorem pw_or1 (ha:PT X a tA):PW X (.BoolOp .Or [a] pos) tA:=by
 intro wh pins s σ H Q I h
 refine isTrue_or (thn (ha pins s σ H Q I h) fun c s1 e=>?_)
 cases c with
 | false=>exact isTrue_or_nil e
 | true=>exact e
theorem pw_and (ha:PT X a tA) (hb:PW X (.BoolOp .And (b::rest) pos) tB'):PW X (.BoolOp .And (a::b::rest) pos) (tAnd tA tB'):=by
 intro wh pins s σ H Q I h
 refine isTrue_and (thn (ha pins s σ H _ I h) fun c s1 ⟨H1,I1,q1⟩=>?_)
 cases c with
 | true=>exact hb wh pins s1 σ H1 Q I1 q1
 | false=>exact⟨H1,I1,q1⟩
theorem pw_or (ha:PT X a tA) (hb:PW X (.BoolOp .Or (b::rest) pos) tB'):PW X (.BoolOp .Or (a::b::rest) pos) (tOr tA tB'):=by
 intro wh pins s σ H Q I h
 refine isTrue_or (thn (ha pins s σ H _ I h) fun c s1 ⟨H1,I1,q1⟩=>?_)
 cases c with
 | true=>exact⟨H1,I1,q1⟩
 | false=>exact hb wh pins s1 σ H1 Q I1 q1
theorem pt_not (ha:PT X a tA):PT X (.UnaryOp .Not a pos) (tNot tA):=by
 intro pins s σ H Q I h
 exact isTrue_not (ha pins s σ H (fun c H1=>Q (!c) H1) I h)
noncomputable def tAndV (ta tb:TE):TE:=fun σ H Q=>ta σ H fun x H1=>∃ c,x=.bl c/\if c=true then tb σ H1 Q else Q (.bl false) H1
noncomputable def tNotV (ta:TE):TE:=fun σ H Q=>ta σ H fun x H1=>∃ c,x=.bl c/\Q (.bl (!c)) H1
theorem pe_one {op}{t:TE} (h:PE X a t):PE X (.BoolOp op [a] pos) t:=fun pins s σ H Q I hw=>BoolOp_one (h pins s σ H Q I hw)
theorem pe_and (ha:PE X a ta) (hb:PE X (.BoolOp .And (b::rest) pos) tb):PE X (.BoolOp .And (a::b::rest) pos) (tAndV ta tb):=by
 intro pins s σ H Q I h
 refine BoolOp_and (thn (ha pins s σ H _ I h) fun v s1 ⟨x,H1,I1,r1,q1⟩=>?_)
 obtain⟨c,rfl,q1⟩:=q1
 cases r1
 refine wpAny_truthy_bool ?_
 cases c with
 | true=>exact hb pins s1 σ H1 Q I1 q1
 | false=>exact⟨.bl false,H1,I1,rfl,q1⟩
theorem pe_not (ha:PE X a ta):PE X (.UnaryOp .Not a pos) (tNotV ta):=by
 intro pins s σ H Q I h
 refine UnaryOp_ (thn (ha pins s σ H _ I h) fun v s1 ⟨x,H1,I1,r1,q1⟩=>?_)
 obtain⟨c,rfl,q1⟩:=q1
 cases r1
 exact not_of (wpAny_truthy_bool ⟨.bl (!c),H1,I1,rfl,q1⟩)
noncomputable def tIf (t:TT) (ta tb:TE):TE:=fun σ H Q=>t σ H fun c H1=>if c=true then ta σ H1 Q else tb σ H1 Q
theorem pe_ifExp {c:Expr} (hc:PT X c tA) (ha:PE X a ta) (hb:PE X b tb):PE X (.IfExp c a b pos) (tIf tA ta tb):=by
 intro pins s σ H Q I h
 refine wpAny_IfExp (thn (hc pins s σ H _ I h) fun d s1 ⟨H1,I1,q1⟩=>?_)
 cases d with
 | true=>exact ha pins s1 σ H1 Q I1 q1
 | false=>exact hb pins s1 σ H1 Q I1 q1
end
noncomputable def SqL (K:PySem.W.Frag) (H:Hp) (a:Addr) (xs:List V):Prop :=
 Rd H a (.lst xs) ∨
  ∃ (o:Obj) (its:Array Value) (n:Nat),K.lookup a=some o/\o.cls=.type "list"/\o.dict=none/\o.data=.seq its n/\its.size<=sizeLine/\Vals xs its.toList
noncomputable def SqT (K:PySem.W.Frag) (H:Hp) (a:Addr) (xs:List V):Prop :=
 Rd H a (.tup xs) ∨
  ∃ (o:Obj) (its:Array Value) (n:Nat),K.lookup a=some o/\o.cls=.type "tuple"/\o.data=.seq its n/\its.size<=sizeLine/\Vals xs its.toList
noncomputable def absV:Value->Option V
 | .none=>some .non
 | .bool b=>some (.bl b)
 | .int i _=>some (.int i)
 | .str x _=>some (.str x)
 | .bytes b _=>some (.byt b)
 | .float b _=>some (.flt b)
 | .ref a=>some (.ref a)
 | .type n=>some (.ty n)
 | _=>none
theorem RelV.abs {x:V}{u:Value} (r:RelV x u):absV u=some x:=by
 cases x with
 | non=>cases r; rfl
 | bl _=>cases r; rfl
 | int _=>obtain⟨t,rfl⟩:=r; rfl
 | str _=>obtain⟨t,rfl⟩:=r; rfl
 | byt _=>obtain⟨t,rfl⟩:=r; rfl
 | flt _=>obtain⟨t,rfl⟩:=r; rfl
 | ref _=>cases r; rfl
 | ty _=>cases r; rfl
theorem RelV.inj {x y:V}{u:Value} (r:RelV x u) (q:RelV y u):x=y:=Option.some.inj (r.abs.symm.trans q.abs)
theorem Vals.inj:∀ {xs ys:List V}{us:List Value},Vals xs us->Vals ys us->xs=ys
 | _,_,_,.nil,.nil=>rfl
 | _,_,_,.cons r t,.cons r' t'=>by rw [r.inj r',Vals.inj t t']
section
variable {X:Cx}{pins:List (Addr×Obj)}{σ:St}{H:Hp}{s:Shared}{a:Addr}{xs ys:List V}
theorem SqL.of {K:PySem.W.Frag} (h:H a=some (.lst xs)):SqL K H a xs:=.inl (.inl h)
theorem SqT.of {K:PySem.W.Frag} (h:H a=some (.tup xs)):SqT K H a xs:=.inl (.inl h)
theorem Inv.list (I:Inv X pins σ H s) (h:SqL X.K H a xs):∃ its:List Value,Vals xs its/\PlainL s.heap a its.toArray/\xs.length<=sizeLine:=by
 rcases h with h | ⟨o,its,n,hk,hc,hd,hs,hz,r⟩
 ·obtain⟨z,its,n,r,e⟩:=h.ok I.hok
  exact⟨its,r,⟨_,n,e,rfl,rfl,rfl⟩,z⟩
 ·refine⟨its.toList,r,⟨o,n,I.kIn a o hk,hc,hd,by simpa using hs⟩,?_⟩
  have e:=r.length
  simp only [Array.length_toList] at e
  omega
theorem Inv.tuple (I:Inv X pins σ H s) (h:SqT X.K H a xs):∃ its:List Value,Vals xs its/\IsTup s.heap a its.toArray/\xs.length<=sizeLine:=by
 rcases h with h | ⟨o,its,n,hk,hc,hs,hz,r⟩
 ·obtain⟨z,its,r,p⟩:=h.ok I.hok
  exact⟨its,r,p,z⟩
 ·refine⟨its.toList,r,⟨o,I.kIn a o hk,hc,n,by simpa using hs⟩,?_⟩
  have e:=r.length
  simp only [Array.length_toList] at e
  omega
theorem Inv.list_inj (I:Inv X pins σ H s) (h:SqL X.K H a xs) (h':SqL X.K H a ys):xs=ys:=by
 obtain⟨its,r,⟨o,n,e,_,_,d⟩,_⟩:=I.list h
 obtain⟨its',r',⟨o',n',e',_,_,d'⟩,_⟩:=I.list h'
 rw [e] at e'; cases e'
 rw [d] at d'
 injection d' with d1 _
 have:its=its':=by simpa using congrArg Array.toList d1
 subst this
 exact r.inj r'
theorem Inv.tuple_inj (I:Inv X pins σ H s) (h:SqT X.K H a xs) (h':SqT X.K H a ys):xs=ys:=by
 obtain⟨its,r,⟨o,e,_,n,d⟩,_⟩:=I.tuple h
 obtain⟨its',r',⟨o',e',_,n',d'⟩,_⟩:=I.tuple h'
 rw [e] at e'; cases e'
 rw [d] at d'
 injection d' with d1 _
 have:its=its':=by simpa using congrArg Array.toList d1
 subst this
 exact r.inj r'
end
noncomputable abbrev Cx.wish (X:Cx) (E:Value->Shared->Prop):Cx:={ X with xe:=E }
noncomputable abbrev Cx.nox (X:Cx):Cx:=X.wish fun _ _=>False
theorem Cx.Ok.wish {X:Cx} (ok:X.Ok) (E:Value->Shared->Prop):(X.wish E).Ok :=
 ⟨ok.mod,ok.kind,ok.glob,ok.blt,ok.above,ok.inj,ok.has,ok.cab,ok.hd,ok.frames,ok.stk,ok.exf,ok.bs,ok.bsz,ok.noex,ok.exfs,ok.funs,ok.frf⟩
theorem Cx.Ok.ji {X:Cx}{E:Value->Shared->Prop} (ok:(X.wish E).Ok):X.Ok :=
 ⟨ok.mod,ok.kind,ok.glob,ok.blt,ok.above,ok.inj,ok.has,ok.cab,ok.hd,ok.frames,ok.stk,ok.exf,ok.bs,ok.bsz,ok.noex,ok.exfs,ok.funs,ok.frf⟩
section
variable {X:Cx}{pins:List (Addr×Obj)}{σ:St}{H:Hp}{s:Shared}{E:Value->Shared->Prop}
theorem Inv.wish (I:Inv X pins σ H s) (E:Value->Shared->Prop):Inv (X.wish E) pins σ H s:=⟨I.ok.wish E,I.os,I.bare,I.base,I.loc,I.cell,I.free,I.freeC,I.pin,I.hok,I.len⟩
theorem Inv.ji (I:Inv (X.wish E) pins σ H s):Inv X pins σ H s:=⟨I.ok.ji,I.os,I.bare,I.base,I.loc,I.cell,I.free,I.freeC,I.pin,I.hok,I.len⟩
theorem SP.ji {D:Ends}{f:Flow}{s':Shared} (h:SP (X.wish E) pins D f s'):SP X pins D f s':=by
 cases f with
 | next=>obtain⟨σ',H',I,q⟩:=h; exact⟨σ',H',I.ji,q⟩
 | brk=>obtain⟨σ',H',I,q⟩:=h; exact⟨σ',H',I.ji,q⟩
 | cont=>obtain⟨σ',H',I,q⟩:=h; exact⟨σ',H',I.ji,q⟩
 | ret u=>obtain⟨v,σ',H',I,r,q⟩:=h; exact⟨v,σ',H',I.ji,r,q⟩
theorem PSs.nox {st:List Stmt}{t:TS} (h:PSs X.nox st t):PSs X st t:=fun pins s σ H D I hw =>
 wpAny_mono (h pins s σ H D (I.wish _) hw) (fun _ _ q=>q.ji) fun _ _ z=>False.elim z
end
section
variable {X:Cx}{st:Stmt}{rest:List Stmt}{t u:TS}{e:Expr}{te:TE}{pos:Pos}
noncomputable def tNext:TS:=fun D σ H=>D.nx σ H
noncomputable def tSeq (t u:TS):TS:=fun D σ H=>t { D with nx:=u D } σ H
theorem pss_nil:PSs X [] tNext:=fun _ _ σ H _ I h=>wpAny_execs_nil ⟨σ,H,I,h⟩
theorem bR (h1:PS X st t) (h2:PSs X rest u):PSs X (st::rest) (tSeq t u):=by
 intro pins s σ H D I h
 refine wpAny_execs_cons (thn (h1 pins s σ H { D with nx:=u D } I h) fun f s1 q=>?_)
 cases f with
 | next =>
  obtain⟨σ',H',I',q⟩:=q
  exact h2 pins s1 σ' H' D I' q
 | ret v=>exact q
 | brk=>exact q
 | cont=>exact q
theorem iB (h1:PS X st t):PSs X [st] t:=by
 intro pins s σ H D I h
 refine wpAny_execs_cons (thn (h1 pins s σ H D I h) fun f s1 q=>?_)
 cases f with
 | next=>exact wpAny_execs_nil q
 | ret v=>exact q
 | brk=>exact q
 | cont=>exact q
theorem Inv.quiet {pins:List (Addr×Obj)}{σ:St}{H:Hp}{s:Shared} (I:Inv X pins σ H s):interactive X.env=false:=by simp [interactive,I.ok.kind]
noncomputable def gF (te:TE):TS:=fun D σ H=>te σ H fun _ H1=>D.nx σ H1
theorem fW (he:PE X e te) (hs:swapsWith e none pos.line X.env=pure false:=by rfl):PS X (.Expr e pos) (gF te):=by
 intro pins s σ H D I h
 exact wpAny_Expr_any (thn (he pins s σ H _ I h) fun v s1 ⟨x,H1,I1,r1,q1⟩=>⟨σ,H1,I1,q1⟩) I.quiet hs
noncomputable def tRet (te:TE):TS:=fun D σ H=>te σ H D.rt
theorem ps_ret (he:PE X e te):PS X (.Return (some e) pos) (tRet te):=by
 intro pins s σ H D I h
 exact wpAny_Return_some (thn (he pins s σ H _ I h) fun v s1 ⟨x,H1,I1,r1,q1⟩=>⟨x,σ,H1,I1,r1,q1⟩)
noncomputable def tIfS (c:TT) (t u:TS):TS:=fun D σ H=>c σ H fun b H1=>if b=true then t D σ H1 else u D σ H1
theorem ps_if {c:Expr}{a b:List Stmt}{tc:TT} (hc:PT X c tc) (ha:PSs X a t) (hb:PSs X b u):PS X (.If c a b pos) (tIfS tc t u):=by
 intro pins s σ H D I h
 refine wpAny_If (thn (hc pins s σ H _ I h) fun d s1 ⟨H1,I1,q1⟩=>?_)
 cases d with
 | true=>exact ha pins s1 σ H1 D I1 q1
 | false=>exact hb pins s1 σ H1 D I1 q1
noncomputable def tNever:TS:=fun _ _ _=>False
theorem ps_never:PS X st tNever:=fun _ _ _ _ _ _ h=>h.elim
end
noncomputable abbrev TG:=V->St->Hp->(St->Hp->Prop)->Prop
noncomputable abbrev TGs:=List V->St->Hp->(St->Hp->Prop)->Prop
noncomputable def PG (X:Cx) (target:Expr) (t:TG):Prop :=
 ∀ (pins:List (Addr×Obj)) (s:Shared) (σ:St) (H:Hp) (v:V) (u:Value) (Q:St->Hp->Prop),Inv X pins σ H s->RelV v u->t v σ H Q ->
  wpAny (model X.prog X.w) X.A (assign target X.env u) (fun _ s'=>∃ σ' H',Inv X pins σ' H' s'/\Q σ' H') X.xe s
noncomputable def PGs (X:Cx) (ts:List Expr) (t:TGs):Prop :=
 ∀ (pins:List (Addr×Obj)) (s:Shared) (σ:St) (H:Hp) (vs:List V) (us:List Value) (Q:St->Hp->Prop),Inv X pins σ H s->Vals vs us->t vs σ H Q ->
  wpAny (model X.prog X.w) X.A (assignInOrder ((assignEach ts X.env).map (·.2)) us) (fun _ s'=>∃ σ' H',Inv X pins σ' H' s'/\Q σ' H') X.xe s
noncomputable abbrev TSet:=V->V->V->Hp->(Hp->Prop)->Prop
noncomputable def PSet (X:Cx) (t:TSet):Prop :=
 ∀ (pins:List (Addr×Obj)) (s:Shared) (σ:St) (H:Hp) (o i v:V) (ov iv u:Value) (Q:Hp->Prop),Inv X pins σ H s->RelV o ov->RelV i iv->RelV v u->t o i v H Q ->
  wpAny (model X.prog X.w) X.A (setItem ov iv u) (fun _ s'=>∃ H',Inv X pins σ H' s'/\Q H') X.xe s
section
variable {X:Cx}{pos:Pos}
noncomputable def jJ (i:Nat):TG:=fun v σ H Q=>Q (σ.set i (some v)) H
theorem pg_name {i:Nat}{x:Str} (hN:X.N.Nodup) (hi:X.N[i]?=some x) (hx:Loc X.env.scope x) (hf:X.fn x=true\/X.env.scope.names.lookup x=some .local:=by first | exact .inl rfl | exact .inr rfl | assumption):PG X (.Name x pos) (jJ i):=by
 intro pins s σ H v u Q I r h
 exact wpAny_assign_Name (store_ok I hN hi hx r (fun s' I'=>⟨_,H,I',h⟩) hf)
noncomputable def gNil:TGs:=fun vs σ H Q=>vs=[]/\Q σ H
noncomputable def gCons (t:TG) (u:TGs):TGs:=fun vs σ H Q=>∃ v r,vs=v::r/\t v σ H fun σ' H'=>u r σ' H' Q
theorem pgs_nil:PGs X [] gNil:=by
 intro pins s σ H vs us Q I r h
 obtain⟨e,h⟩:=h
 subst e
 cases r
 exact assignInOrder_nil ⟨σ,H,I,h⟩
theorem pgs_cons {e:Expr}{es:List Expr}{t:TG}{u:TGs} (h1:PG X e t) (h2:PGs X es u)
  (hs:(assignEach (e::es) X.env).map (·.2)=assign e X.env::(assignEach es X.env).map (·.2):=by rfl):PGs X (e::es) (gCons t u):=by
 intro pins s σ H vs us Q I r h
 obtain⟨v,vr,e1,h⟩:=h
 subst e1
 cases r with
 | cons r rr =>
  rw [hs]
  refine assignInOrder_cons (thn (h1 pins s σ H _ _ _ I r h) fun _ s1 ⟨σ1,H1,I1,q1⟩=>?_)
  exact h2 pins s1 σ1 H1 _ _ Q I1 rr q1
noncomputable def gTup (K:PySem.W.Frag) (n:Nat) (t:TGs):TG:=fun v σ H Q=>∃ a xs,v=.ref a/\SqT K H a xs/\xs.length=n/\t xs σ H Q
theorem pg_tup {es:List Expr}{k:Nat}{t:TGs}{n:Nat} (hc:X.calm=true) (h:PGs X es t)
  (hn:(assignEach es X.env).length=n:=by rfl) (hst:(assignEach es X.env).findIdx? (·.1)=none:=by rfl):PG X (.Tuple es k pos) (gTup X.K n t):=by
 intro pins s σ H v u Q I r hw
 obtain⟨a,xs,e1,hq,hl,hw⟩:=hw
 subst e1
 cases r
 obtain⟨its,rv,ht,hz⟩:=I.tuple hq
 refine assign_Tuple_tuple (I.ok.hd hc) ht (by simp [hn,← hl,rv.length]) hst fun h' hx=>?_
 have I1:Inv X pins σ H { s with heap:=h' }:=I.kept (t':=s.toks) fun b o e=>hx b o (Nat.ne_of_lt (Heap.lt_size e)) e
 exact h pins _ σ H xs _ Q I1 (by simpa using rv) hw
noncomputable def gSub (to ti:TE) (t:TSet):TG:=fun v σ H Q=>to σ H fun o H1=>ti σ H1 fun i H2=>t o i v H2 fun H3=>Q σ H3
theorem pg_sub {o i:Expr}{to ti:TE}{t:TSet} (ho:PE X o to) (hi:PE X i ti) (hs:PSet X t)
  (ha:∀ v,assign (.Subscript o i pos) X.env v=(do
   let ov ← holding [v] (eval o X.env)
   let iv ← holding [v,ov] (eval i X.env)
   standAt pos
   holding [v,ov,iv] (setItem ov iv v)
   release [v,ov,iv] []):=by intro _; rfl):PG X (.Subscript o i pos) (gSub to ti t):=by
 intro pins s σ H v u Q I r h
 rw [ha]
 refine wpAny_bind (wpAny_holding (thn (ho pins s σ H _ I h) fun ov s1 ⟨x,H1,I1,r1,q1⟩=>?_))
 refine wpAny_bind (wpAny_holding (thn (hi pins s1 σ H1 _ I1 q1) fun iv s2 ⟨y,H2,I2,r2,q2⟩=>?_))
 refine wpAny_bind (wpAny_standAt (wpAny_bind (wpAny_holding (thn (hs pins s2 σ H2 x y v ov iv u _ I2 r1 r2 r q2) fun _ s3 ⟨H3,I3,q3⟩=>?_))))
 exact wpAny_release ⟨σ,H3,I3,q3⟩
noncomputable def tAsg (te:TE) (g:TG):TS:=fun D σ H=>te σ H fun x H1=>g x σ H1 D.nx
theorem ps_asg {tg e:Expr}{te:TE}{g:TG} (he:PE X e te) (hg:PG X tg g) (hs:swapsWithSole [tg] e pos.line X.env=pure false:=by rfl) (hw:swappedStores [tg] e X.env=pure none:=by rfl)
  (h1:(assignEach [tg] X.env).map (·.2)=[assign tg X.env]:=by rfl):PS X (.Assign [tg] e pos) (tAsg te g):=by
 intro pins s σ H D I h
 refine wpAny_Assign_stores (thn (he pins s σ H _ I h) fun v s1 ⟨x,H1,I1,r1,q1⟩=>?_) hs hw
 rw [h1]
 exact thn (hg pins s1 σ H1 x v _ I1 r1 q1) fun _ s2 q=>q
theorem iC {i:Nat}{x:Str}{e:Expr}{te:TE}{pos':Pos} (hN:X.N.Nodup) (hi:X.N[i]?=some x) (hx:Loc X.env.scope x) (he:PE X e te) (hs:swapsWith e (some (.Name x pos')) pos.line X.env=pure false:=by rfl) (hf:X.fn x=true\/X.env.scope.names.lookup x=some .local:=by first | exact .inl rfl | exact .inr rfl | assumption) :
  PS X (.Assign [.Name x pos'] e pos) (tAsg te (jJ i)):=by
 intro pins s σ H D I h
 refine wpAny_Assign_Name (thn (he pins s σ H _ I h) fun v s1 ⟨y,H1,I1,r1,q1⟩=>?_) hs
 exact store_ok I1 hN hi hx r1 (fun s2 I2=>⟨_,H1,I2,q1⟩) hf
end
section
variable {X:Cx}{pos:Pos}
noncomputable def tWhile (c:TT) (tb:TS):TS:=fun D σ H=>∃ W:Nat->St->Hp->Prop,(∃ m,W m σ H)/\∀ m σ H,W m σ H ->
 c σ H fun b H1=>if b=true then ∃ N:St->Hp->Prop,(∀ σ' H',N σ' H'->∃ m',m'<m/\W m' σ' H')/\tb { D with nx:=N,ct:=N,bk:=D.nx } σ H1 else D.nx σ H1
theorem ps_while {c:Expr}{body:List Stmt}{tc:TT}{tb:TS} (hp:PassesOwn (model X.prog X.w) X.A X.env X.xe) (hc:PT X c tc) (hb:PSs X body tb):PS X (.While c body [] pos) (tWhile tc tb):=by
 intro pins s σ H D I h
 obtain⟨W,⟨m0,w0⟩,turn⟩:=h
 refine wpAny_While (codeAny_whileLoop (fun n s'=>∃ σ' H',Inv X pins σ' H' s'/\W n σ' H') ?_ m0 ⟨σ,H,I,w0⟩)
 rintro n s1 ⟨σ1,H1,I1,w1⟩
 refine wpAny_passesOwn hp (thn (hc pins s1 σ1 H1 _ I1 (turn n σ1 H1 w1)) fun b s2 ⟨H2,I2,q2⟩=>?_)
 cases b with
 | true =>
  obtain⟨N,hN,q2⟩:=q2
  rw [if_pos rfl]
  refine wpAny_passesOwn hp (thn (hb pins s2 σ1 H2 _ I2 q2) fun f s3 q3=>?_)
  cases f with
  | next =>
   obtain⟨σ3,H3,I3,n3⟩:=q3
   obtain⟨m',hm,w3⟩:=hN σ3 H3 n3
   exact⟨m',hm,σ3,H3,I3,w3⟩
  | cont =>
   obtain⟨σ3,H3,I3,n3⟩:=q3
   obtain⟨m',hm,w3⟩:=hN σ3 H3 n3
   exact⟨m',hm,σ3,H3,I3,w3⟩
  | brk=>exact q3
  | ret v=>exact q3
 | false =>
  rw [if_neg Bool.false_ne_true]
  exact wpAny_execs_nil ⟨σ1,H2,I2,q2⟩
end
structure It where
 go:Nat->Hp->Prop
 yld:Nat->Hp->V->Hp->Prop
 stop:Nat->Hp->Prop
noncomputable def FpOk (X:Cx) (pins:List (Addr×Obj)) (H:Hp) (b:Addr):Prop :=
 H b=none/\b≠X.env.locals/\b∉X.fs/\(b∈X.ex\/X.s₀.heap.objs.size<=b)/\(∀ x c,X.env.cells.lookup x=some c->c≠b)/\∀ p∈X.pn++pins,p.1≠b
theorem Inv.fpOk {X:Cx}{pins:List (Addr×Obj)}{σ:St}{H H':Hp}{s:Shared}{b:Addr} (I:Inv X pins σ H s) (hb:s.heap.objs.size<=b) (hn:H' b=none):FpOk X pins H' b:=by
 refine⟨hn,Nat.ne_of_gt (Nat.lt_of_lt_of_le I.lt hb),I.nofs hb,.inr (Nat.le_trans I.sz hb),fun x c e z=>?_,fun p hp z=>?_⟩
 ·obtain⟨v,q⟩:=I.cell x c e
  exact absurd (Nat.lt_of_lt_of_le q.lt (by rw [z]; exact hb)) (Nat.lt_irrefl _)
 ·exact absurd (Nat.lt_of_lt_of_le (Heap.lt_size (I.pin p hp).1) (by rw [z]; exact hb)) (Nat.lt_irrefl _)
structure Turn (P:Program) (w:World) (K:PySem.W.Frag) (tg:Expr) (J:It) (fp:List Addr) (it:Addr) (tn:Nat->Heap->Prop):Prop where
 mem:it∈fp
 obj:∀ i h,tn i h->∀ b∈fp,∃ o,h.get? b=some o/\∀ v,o.data≠.cell v
 keep:∀ i h h',tn i h->(∀ b∈fp,∀ o,h.get? b=some o->h'.get? b=some o)->tn i h'
 item:∀ (X:Cx),X.prog=P->X.w=w->X.K=K->X.calm=true->∀ (i:Nat) (pins:List (Addr×Obj)) (s:Shared) (σ:St) (H:Hp) (E:Value->Shared->Prop),Inv X pins σ H s->(∀ b∈fp,FpOk X pins H b)->tn i s.heap->J.go i H ->
  wpAny (model P w) X.A (pyNext (.ref it)) (fun r s1=>∃ u,r=some u /\
   wpAny (model P w) X.A (letOwnedTupleGo tg (.ref it) u) (fun _ s2=>∃ x H',Inv X pins σ H' s2/\RelV x u/\J.yld i H x H'/\tn (i+1) s2.heap/\∀ b∈fp,H' b=none) E s1) E s
 done:∀ (X:Cx),X.prog=P->X.w=w->X.K=K->X.calm=true->∀ (i:Nat) (pins:List (Addr×Obj)) (s:Shared) (σ:St) (H:Hp) (E:Value->Shared->Prop),Inv X pins σ H s->(∀ b∈fp,FpOk X pins H b)->tn i s.heap->J.stop i H ->
  wpAny (model P w) X.A (pyNext (.ref it)) (fun r s1=>r=none/\Inv X pins σ H s1) E s
 self:∀ (A:Around) (i:Nat) (s:Shared) (Q:Value->Shared->Prop) (E:Value->Shared->Prop),tn i s.heap->Q (.ref it) s->wpAny (model P w) A (pyIter (.ref it)) Q E s
noncomputable abbrev TI:=St->Hp->(It->Hp->Prop)->Prop
noncomputable def PIE (X:Cx) (pins:List (Addr×Obj)) (σ:St) (tg:Expr) (R:It->Hp->Prop) (itv:Value) (s2:Shared):Prop :=
 ∃ (it:Addr) (fp:List Addr) (tn:Nat->Heap->Prop) (J:It) (H':Hp),itv=.ref it/\Inv X pins σ H' s2/\Turn X.prog X.w X.K tg J fp it tn/\tn 0 s2.heap/\(∀ b∈fp,FpOk X pins H' b)/\R J H'
noncomputable def PI (X:Cx) (tg iter:Expr) (wi:TI):Prop :=
 ∀ (pins:List (Addr×Obj)) (s:Shared) (σ:St) (H:Hp) (R:It->Hp->Prop),Inv X pins σ H s->wi σ H R ->
  wpAny (model X.prog X.w) X.A (eval iter X.env) (fun v s1=>wpAny (model X.prog X.w) X.A (pyIter v) (PIE X pins σ tg R) X.xe s1) X.xe s
theorem go_of {M:Model}{A:Around}{E:Value->Shared->Prop}{s:Shared}{tg:Expr}{it:Addr}{u:Value}{o:Obj}{n:String}{vs:Array Value}{Q:Unit->Shared->Prop} (ho:s.heap.get? it=some o) (hc:o.cls=.type n) (hd:o.data=.fields vs)
  (hn:["enumerate","zip","dict_itemiterator","dict_reverseitemiterator","odict_iterator","itertools.zip_longest","itertools.pairwise"].contains n=false) (hQ:Q () s):wpAny M A (letOwnedTupleGo tg (.ref it) u) Q E s:=by
 unfold letOwnedTupleGo
 cases tg <;> first
  | exact wpAny_pure hQ
  | (cases u <;> first
    | exact wpAny_pure hQ
    | (refine wpAny_bind (wpAny_load ho ?_)
       rw [hc,hd]
       show wpAny M A (if (["enumerate","zip","dict_itemiterator","dict_reverseitemiterator","odict_iterator","itertools.zip_longest","itertools.pairwise"].contains n&&vs[0]? == some (rawInt _))=true then _ else _) Q E s
       rw [if_neg (by intro h; rw [hn,Bool.false_and] at h; cases h)]
       exact wpAny_pure hQ))
noncomputable def Itl (K:PySem.W.Frag) (a:Addr):It :=
 ⟨fun i H=>∃ xs x,SqL K H a xs/\xs[i]?=some x,fun i H x H'=>H'=H/\∀ xs,SqL K H a xs->xs[i]?=some x,fun i H=>∃ xs,SqL K H a xs/\xs.length<=i⟩
noncomputable def Itt (K:PySem.W.Frag) (a:Addr):It :=
 ⟨fun i H=>∃ xs x,SqT K H a xs/\xs[i]?=some x,fun i H x H'=>H'=H/\∀ xs,SqT K H a xs->xs[i]?=some x,fun i H=>∃ xs,SqT K H a xs/\xs.length<=i⟩
noncomputable def Itr (lo:Int) (n:Nat):It:=⟨fun i _=>i<n,fun i H x H'=>H'=H/\x=.int (lo+i),fun i _=>n<=i⟩
theorem turn_list {P:Program}{w:World}{K:PySem.W.Frag}{tg:Expr} (a it:Addr):Turn P w K tg (Itl K a) [it] it (fun i h=>h.IsListIter it a i) where
 mem:=by simp
 obj:=fun i h st b hb=>by
  have e:b=it:=by simpa using hb
  subst e
  obtain⟨o,e,c,d⟩:=st
  exact⟨o,e,fun v z=>by rw [d] at z; cases z⟩
 keep:=fun i h h' st k=>st.at fun o e=>k it (by simp) o e
 item:=by
  intro X hP hw hK hc i pins s σ H E I hf st hg
  subst hP hw hK
  obtain⟨xs,x,hq,hx⟩:=hg
  obtain⟨its,rv,p,hz⟩:=I.list hq
  obtain⟨u,hu,ru⟩:=rv.get hx
  obtain⟨f0,f1,f2,f3,f4,f5⟩:=hf it (by simp)
  refine wpAny_pyNext_list_item st p.isList (x:=u) (by simpa using hu) fun h' st' sb=>?_
  have I1:Inv X pins σ H { s with heap:=h' }:=I.turned (t':=s.toks) (fun b o hb e=>(sb.2 b hb).trans e) f0 f1 f3 f4 f5
  obtain⟨o,e,c,d⟩:=id st'
  exact⟨u,rfl,go_of (s:={ s with heap:=h' }) e c d (by decide) ⟨x,H,I1,ru,⟨rfl,fun ys hy=>by rw [I.list_inj hy hq]; exact hx⟩,st',fun b hb=>(hf b hb).1⟩⟩
 done:=by
  intro X hP hw hK hc i pins s σ H E I hf st hg
  subst hP hw hK
  obtain⟨xs,hq,hx⟩:=hg
  obtain⟨its,rv,p,hz⟩:=I.list hq
  obtain⟨f0,f1,f2,f3,f4,f5⟩:=hf it (by simp)
  have hl:=rv.length
  exact wpAny_pyNext_list_end (I.ok.hd hc) st p.isList (by simp; omega) fun h' eb=>⟨rfl,I.turned (t':=s.toks) (fun b o hb e=>eb b o hb e) f0 f1 f3 f4 f5⟩
 self:=fun _ _ _ _ _ st h=>wpAny_pyIter_listiter st h
theorem turn_tuple {P:Program}{w:World}{K:PySem.W.Frag}{tg:Expr} (a it:Addr):Turn P w K tg (Itt K a) [it] it (fun i h=>h.IsTupleIter it a i) where
 mem:=by simp
 obj:=fun i h st b hb=>by
  have e:b=it:=by simpa using hb
  subst e
  obtain⟨o,e,c,d⟩:=st
  exact⟨o,e,fun v z=>by rw [d] at z; cases z⟩
 keep:=fun i h h' st k=>st.at fun o e=>k it (by simp) o e
 item:=by
  intro X hP hw hK hc i pins s σ H E I hf st hg
  subst hP hw hK
  obtain⟨xs,x,hq,hx⟩:=hg
  obtain⟨its,rv,p,hz⟩:=I.tuple hq
  obtain⟨u,hu,ru⟩:=rv.get hx
  obtain⟨f0,f1,f2,f3,f4,f5⟩:=hf it (by simp)
  refine wpAny_pyNext_tuple_item st (show s.heap.IsTuple a its.toArray from p) (x:=u) (by simpa using hu) fun h' st' sb=>?_
  have I1:Inv X pins σ H { s with heap:=h' }:=I.turned (t':=s.toks) (fun b o hb e=>(sb.2 b hb).trans e) f0 f1 f3 f4 f5
  obtain⟨o,e,c,d⟩:=id st'
  exact⟨u,rfl,go_of (s:={ s with heap:=h' }) e c d (by decide) ⟨x,H,I1,ru,⟨rfl,fun ys hy=>by rw [I.tuple_inj hy hq]; exact hx⟩,st',fun b hb=>(hf b hb).1⟩⟩
 done:=by
  intro X hP hw hK hc i pins s σ H E I hf st hg
  subst hP hw hK
  obtain⟨xs,hq,hx⟩:=hg
  obtain⟨its,rv,p,hz⟩:=I.tuple hq
  obtain⟨f0,f1,f2,f3,f4,f5⟩:=hf it (by simp)
  have hl:=rv.length
  exact wpAny_pyNext_tuple_end (I.ok.hd hc) st (show s.heap.IsTuple a its.toArray from p) (by simp; omega) fun h' eb=>⟨rfl,I.turned (t':=s.toks) (fun b o hb e=>eb b o hb e) f0 f1 f3 f4 f5⟩
 self:=fun _ _ _ _ _ st h=>wpAny_pyIter_tupleiter st h
theorem turn_range {P:Program}{w:World}{K:PySem.W.Frag}{tg:Expr} (it:Addr) (lo:Int) (n:Nat):Turn P w K tg (Itr lo n) [it] it (fun i h=>IsRangeIter h it (lo+(i:Nat) * 1) ((n:Int) - (i:Nat)) 1) where
 mem:=by simp
 obj:=fun i h st b hb=>by
  have e:b=it:=by simpa using hb
  subst e
  exact⟨_,st,fun v z=>by
   have z':Data.fields _=Data.cell v:=z
   cases z'⟩
 keep:=fun i h h' st k=>k it (by simp) _ st
 item:=by
  intro X hP hw hK hc i pins s σ H E I hf st hg
  subst hP hw hK
  obtain⟨f0,f1,f2,f3,f4,f5⟩:=hf it (by simp)
  have W:=Walks.range (prog:=X.prog) (w:=X.w) (I.ok.hd hc) it lo 1 n
  refine W.item i s _ _ hg st fun v h' tk hv st' kk=>?_
  obtain⟨t,rfl⟩:=hv
  have I1:Inv X pins σ H { s with heap:=h',toks:=tk }:=I.turned (fun b o hb e=>kk b o (by simpa using hb) e) f0 f1 f3 f4 f5
  refine⟨_,rfl,go_of (s:={ s with heap:=h',toks:=tk }) (n:="range_iterator") st' rfl rfl (by decide) ⟨.int (lo+i),H,I1,⟨t,?_⟩,⟨rfl,rfl⟩,st',fun b hb=>(hf b hb).1⟩⟩
  rw [Int.mul_one]
 done:=by
  intro X hP hw hK hc i pins s σ H E I hf st hg
  subst hP hw hK
  obtain⟨f0,f1,f2,f3,f4,f5⟩:=hf it (by simp)
  exact wpAny_pyNext_range_end (I.ok.hd hc) st (by have:n<=i:=hg; omega) fun h' eb=>⟨rfl,I.turned (t':=s.toks) (fun b o hb e=>eb b o hb e) f0 f1 f3 f4 f5⟩
 self:=fun _ _ _ _ _ st h=>wpAny_pyIter_rangeiter st h
section
variable {X:Cx}{tg:Expr}
theorem range_it {pins:List (Addr×Obj)}{σ:St}{H:Hp}{s:Shared}{R:It->Hp->Prop}{E:Value->Shared->Prop}{lo hi:Int}{t u v:Tok}{tk:Nat} (I:Inv X pins σ H s) (h1:-(2 ^ 62)<=lo) (h2:lo<2 ^ 62) (h3:-(2 ^ 62)<=hi) (h4:hi<2 ^ 62)
  (q:R (Itr lo (hi - lo).toNat) H):wpAny (model X.prog X.w) X.A (pyIter (.ref s.heap.objs.size)) (PIE X pins σ tg R) E { s with heap:=s.heap.push { cls:=.type "range",data:=.fields #[.int lo t,.int hi u,.int 1 v] },toks:=tk }:=by
 refine wpAny_pyIter_range (IsRange.new ..) (small_one h1 h2 h3 h4) ?_
 have I1:Inv X pins σ H { s with heap:=s.heap.push { cls:=.type "range",data:=.fields #[.int lo t,.int hi u,.int 1 v] },toks:=tk }:=I.kept fun b o e=>Heap.get?_push_of_some _ e
 refine⟨(s.heap.push { cls:=.type "range",data:=.fields #[.int lo t,.int hi u,.int 1 v] }).objs.size,[(s.heap.push { cls:=.type "range",data:=.fields #[.int lo t,.int hi u,.int 1 v] }).objs.size],_,_,H,rfl,
  I1.kept (t':=tk) fun b o e=>Heap.get?_push_of_some _ e,turn_range _ lo (hi - lo).toNat,?_,fun b hb=>?_,q⟩
 ·have e1:lo+((0:Nat):Int) * 1=lo:=by simp
  have e2:(((hi - lo).toNat:Nat):Int) - ((0:Nat):Int)=Builtin.Range.rangeSize lo hi 1:=by rw [rangeSize_one]; split <;> omega
  show IsRangeIter _ _ (lo+((0:Nat):Int) * 1) ((((hi - lo).toNat:Nat):Int) - ((0:Nat):Int)) 1
  rw [e1,e2]
  exact Heap.get?_push_size _ rfl
 ·have e:b=(s.heap.push { cls:=.type "range",data:=.fields #[.int lo t,.int hi u,.int 1 v] }).objs.size:=by simpa using hb
  subst e
  exact I1.fpOk (Nat.le_refl _) (I1.hok.fresh (Nat.le_refl _))
noncomputable def iRng1 (ta:TA):TI:=fun σ H R=>ta σ H fun vs H1=>∃ j:Int,vs=[.int j]/\-(2 ^ 62)<=j/\j<2 ^ 62/\R (Itr 0 j.toNat) H1
noncomputable def iRng2 (ta:TA):TI:=fun σ H R=>ta σ H fun vs H1=>∃ i j:Int,vs=[.int i,.int j]/\(-(2 ^ 62)<=i/\i<2 ^ 62/\-(2 ^ 62)<=j/\j<2 ^ 62)/\R (Itr i (j - i).toNat) H1
theorem pi_range1 {a:Expr}{ta:TA}{p pos:Pos} (hg:Gl X "range") (hm:X.mg "range"=none) (ha:PA X [a] ta) (hs:starEach [a] X.env=[(false,eval a X.env)]:=by rfl):PI X tg (.Call (.Name "range" p) [a] [] pos) (iRng1 ta):=by
 intro pins s σ H R I h
 refine Call_ (iV I hg hm boot_range (PyProof.Rows.callWith_type1 (thn (ha pos pins s σ H _ I h) fun us s1 ⟨vs,H1,I1,r1,q1⟩=>?_) hs rfl))
 obtain⟨j,e,q1,q2,q⟩:=q1
 subst e
 cases r1 with
 | cons r rr =>
  cases rr
  obtain⟨t,rfl⟩:=r
  exact call_range_1 (range_it I1 (by omega) (by omega) q1 q2 (by simpa using q))
theorem pi_range2 {a b:Expr}{ta:TA}{p pos:Pos} (hg:Gl X "range") (hm:X.mg "range"=none) (ha:PA X [a,b] ta) (hs:starEach [a,b] X.env=[(false,eval a X.env),(false,eval b X.env)]:=by rfl) (hs2:starEach [b] X.env=[(false,eval b X.env)]:=by rfl) :
  PI X tg (.Call (.Name "range" p) [a,b] [] pos) (iRng2 ta):=by
 intro pins s σ H R I h
 refine Call_ (iV I hg hm boot_range (PyProof.Rows.callWith_type1 (thn (ha pos pins s σ H _ I h) fun us s1 ⟨vs,H1,I1,r1,q1⟩=>?_) (by rw [hs,hs2]) (by rw [hs2]; rfl)))
 obtain⟨i,j,e,⟨q1,q2,q3,q4⟩,q⟩:=q1
 subst e
 cases r1 with
 | cons r rr =>
  cases rr with
  | cons r' rr =>
   cases rr
   obtain⟨t,rfl⟩:=r
   obtain⟨t',rfl⟩:=r'
   exact call_range_2 (range_it I1 q1 q2 q3 q4 q)
noncomputable def tFor (wi:TI) (g:TG) (tb:TS):TS:=fun D σ H=>wi σ H fun J H1=>∃ W:Nat->Nat->St->Hp->Prop,(∃ m,W 0 m σ H1)/\∀ i m σ H,W i m σ H ->
 (J.stop i H/\D.nx σ H)\/(J.go i H/\∃ N:St->Hp->Prop,(∀ σ' H',N σ' H'->∃ m',m'<m/\W (i+1) m' σ' H')/\∀ x H',J.yld i H x H'->g x σ H' fun σ2 H2=>tb { D with nx:=N,ct:=N,bk:=D.nx } σ2 H2)
noncomputable def jt (fp:List Addr) (h:Heap):List (Addr×Obj):=fp.filterMap fun b=>(h.get? b).map fun o=>(b,o)
theorem iM {fp:List Addr}{h:Heap}{b:Addr}{o:Obj} (hb:b∈fp) (e:h.get? b=some o):(b,o)∈jt fp h:=List.mem_filterMap.mpr ⟨b,hb,by rw [e]; rfl⟩
theorem of_pinsAt {fp:List Addr}{h:Heap}{p:Addr×Obj} (hp:p∈jt fp h):p.1∈fp/\h.get? p.1=some p.2:=by
 obtain⟨b,hb,e⟩:=List.mem_filterMap.mp hp
 cases q:h.get? b with
 | none=>rw [q] at e; cases e
 | some o =>
  rw [q] at e
  have e':(b,o)=p:=Option.some.inj e
  subst e'
  exact⟨hb,q⟩
theorem Inv.pinned {pins:List (Addr×Obj)}{σ:St}{H:Hp}{s:Shared}{fp:List Addr} (I:Inv X pins σ H s) (hf:∀ b∈fp,FpOk X pins H b) (ho:∀ b∈fp,∃ o,s.heap.get? b=some o/\∀ v,o.data≠.cell v):Inv X (pins++jt fp s.heap) σ H s :=
 I.pins_of fun p hp=>(List.mem_append.mp hp).elim (fun z=>I.pin p (List.mem_append_right _ z)) fun z=>by
  obtain⟨hb,e⟩:=of_pinsAt z
  obtain⟨f0,f1,f2,_⟩:=hf p.1 hb
  obtain⟨o,e',d⟩:=ho p.1 hb
  rw [e] at e'; cases e'
  exact⟨e,f0,f1,f2,d⟩
theorem Inv.lJ {pins pl:List (Addr×Obj)}{σ:St}{H:Hp}{s:Shared} (I:Inv X (pins++pl) σ H s):Inv X pins σ H s:=I.pins_of fun p hp=>I.pin p (List.mem_append_right _ (List.mem_append_left _ hp))
theorem ps_for {iter:Expr}{body:List Stmt}{wi:TI}{g:TG}{tb:TS}{pos:Pos} (hp:PassesOwn (model X.prog X.w) X.A X.env X.xe) (hc:X.calm=true) (hi:PI X tg iter wi) (hg:PG X tg g) (hb:PSs X body tb)
  (hs:∀ x,foldedSetIterable iter X.env x=pure x:=by intro _; rfl):PS X (.For tg iter body [] pos) (tFor wi g tb):=by
 intro pins s σ H D I h
 refine wpAny_For (thn (hi pins s σ H _ I h) fun v s1 h1=>thn h1 fun itv s2 h2=>?_) hs
 obtain⟨it,fp,tn,J,H2,e,I2,T,st2,f2,W,⟨m0,w0⟩,turn⟩:=h2
 subst e
 -- what stays true of the iterator's objects through the loop
 have stat:∀ {H':Hp},(∀ b∈fp,H' b=none)->∀ b∈fp,FpOk X pins H' b:=fun hn b hb=>⟨hn b hb,(f2 b hb).2⟩
 refine codeAny_forLoop_any (fun n s'=>∃ i σ' H',Inv X pins σ' H' s'/\tn i s'.heap/\(∀ b∈fp,H' b=none)/\W i n σ' H') ?_ m0 ⟨0,σ,H2,I2,st2,fun b hb=>(f2 b hb).1,w0⟩
 rintro n s3 ⟨i,σ3,H3,I3,st3,fr3,w3⟩
 rcases turn i n σ3 H3 w3 with ⟨stop,qn⟩ | ⟨go,N,hN,step⟩
 ·refine wpAny_passesOwn hp (thn (T.done X rfl rfl rfl hc i pins s3 σ3 H3 X.xe I3 (stat fr3) st3 stop) fun r s4 ⟨hr,I4⟩=>?_)
  subst hr
  exact wpAny_execs_nil ⟨σ3,H3,I4,qn⟩
 ·refine wpAny_passesOwn hp (thn (T.item X rfl rfl rfl hc i pins s3 σ3 H3 X.xe I3 (stat fr3) st3 go) fun r s4 ⟨u,hr,h4⟩=>?_)
  subst hr
  refine wpAny_passesOwn hp (thn h4 fun _ s5 ⟨x,H5,I5,r5,y5,st5,fr5⟩=>?_)
  have I5':=I5.pinned (stat fr5) (T.obj _ _ st5)
  refine wpAny_passesOwn hp (thn (hg _ s5 σ3 H5 x u _ I5' r5 (step x H5 y5)) fun _ s6 ⟨σ6,H6,I6,q6⟩=>?_)
  refine wpAny_passesOwn hp (thn (hb _ s6 σ6 H6 _ I6 q6) fun f s7 q7=>?_)
  have again:∀ {σ7:St}{H7:Hp},Inv X (pins++jt fp s5.heap) σ7 H7 s7->N σ7 H7->∃ m,m<n/\∃ i σ' H',Inv X pins σ' H' s7/\tn i s7.heap/\(∀ b∈fp,H' b=none)/\W i m σ' H':=fun {σ7 H7} I7 n7=>by
   obtain⟨m',hm,w7⟩:=hN σ7 H7 n7
   refine⟨m',hm,i+1,σ7,H7,I7.lJ,T.keep _ _ _ st5 fun b hb o e=>(I7.pin (b,o) (List.mem_append_right _ (List.mem_append_right _ (iM hb e)))).1,fun b hb=>?_,w7⟩
   obtain⟨o,e,d⟩:=T.obj _ _ st5 b hb
   exact (I7.pin (b,o) (List.mem_append_right _ (List.mem_append_right _ (iM hb e)))).2.1
  cases f with
  | next=>obtain⟨σ7,H7,I7,n7⟩:=q7; exact again I7 n7
  | cont=>obtain⟨σ7,H7,I7,n7⟩:=q7; exact again I7 n7
  | brk=>obtain⟨σ7,H7,I7,q7⟩:=q7; exact⟨σ7,H7,I7.lJ,q7⟩
  | ret v=>obtain⟨x7,σ7,H7,I7,r7,q7⟩:=q7; exact⟨x7,σ7,H7,I7.lJ,r7,q7⟩
end
noncomputable abbrev R2:=V->V->Hp->VK->Prop
noncomputable def OpR (X:Cx) (f:Value->Value->Sem Value) (r:R2):Prop :=
 ∀ (pins:List (Addr×Obj)) (s:Shared) (σ:St) (H:Hp) (x y:V) (v u:Value) (Q:VK),Inv X pins σ H s->RelV x v->RelV y u->r x y H Q ->
  wpAny (model X.prog X.w) X.A (f v u) (EP X pins σ Q) X.xe s
noncomputable def UnR (X:Cx) (f:Value->Sem Value) (r:V->Hp->VK->Prop):Prop :=
 ∀ (pins:List (Addr×Obj)) (s:Shared) (σ:St) (H:Hp) (x:V) (v:Value) (Q:VK),Inv X pins σ H s->RelV x v->r x H Q ->
  wpAny (model X.prog X.w) X.A (f v) (EP X pins σ Q) X.xe s
noncomputable def cU (X:Cx) (f:Value) (r:List V->Hp->VK->Prop):Prop :=
 ∀ (pins:List (Addr×Obj)) (s:Shared) (σ:St) (H:Hp) (xs:List V) (us:List Value) (Q:VK),Inv X pins σ H s->Vals xs us->r xs H Q ->
  wpAny (model X.prog X.w) X.A (call f us) (EP X pins σ Q) X.xe s
noncomputable def TruR (X:Cx) (r:V->Hp->(Bool->Hp->Prop)->Prop):Prop :=
 ∀ (pins:List (Addr×Obj)) (s:Shared) (σ:St) (H:Hp) (x:V) (v:Value) (Q:Bool->Hp->Prop),Inv X pins σ H s->RelV x v->r x H Q ->
  wpAny (model X.prog X.w) X.A (truthy v) (TP X pins σ Q) X.xe s
noncomputable def tOp (r:R2) (ta tb:TE):TE:=fun σ H Q=>ta σ H fun x H1=>tb σ H1 fun y H2=>r x y H2 Q
noncomputable def tUn (r:V->Hp->VK->Prop) (ta:TE):TE:=fun σ H Q=>ta σ H fun x H1=>r x H1 Q
noncomputable def rI (C:Int->Int->Prop) (g:Int->Int->V):R2:=fun x y H Q=>∃ i j,x=.int i/\y=.int j/\C i j/\Q (g i j) H
noncomputable def rI0 (g:Int->Int->V):R2:=fun x y H Q=>∃ i j,x=.int i/\y=.int j/\Q (g i j) H
noncomputable def rU (g:Int->V):V->Hp->VK->Prop:=fun x H Q=>∃ i,x=.int i/\Q (g i) H
section
variable {X:Cx}{a b c:Expr}{ta tb tc:TE}{pos:Pos}
theorem binT (ha:PE X a ta) (hb:PE X b tb) {pins:List (Addr×Obj)}{s:Shared}{σ:St}{H:Hp}{R:V->V->Hp->Prop} (I:Inv X pins σ H s)
  (h:ta σ H fun x H1=>tb σ H1 fun y H2=>R x y H2) {Q:Value->Shared->Prop}{f:Value->Value->Sem Value}
  (hf:∀ v u s2 x y H2,Inv X pins σ H2 s2->RelV x v->RelV y u->R x y H2->wpAny (model X.prog X.w) X.A (f v u) Q X.xe s2) :
  wpAny (model X.prog X.w) X.A (eval a X.env) (fun v s₁=>wpAny (model X.prog X.w) X.A (eval b X.env) (fun u s₂=>wpAny (model X.prog X.w) X.A (f v u) Q X.xe s₂) X.xe s₁) X.xe s:=by
 refine thn (ha pins s σ H _ I h) fun v s1 ⟨x,H1,I1,r1,q1⟩=>?_
 refine thn (hb pins s1 σ H1 _ I1 q1) fun u s2 ⟨y,H2,I2,r2,q2⟩=>?_
 exact hf v u s2 x y H2 I2 r1 r2 q2
theorem cH {op:Operator}{r:R2} (ho:OpR X (binaryOp op) r) (ha:PE X a ta) (hb:PE X b tb):PE X (.BinOp a op b pos) (tOp r ta tb):=by
 intro pins s σ H Q I h
 exact wpAny_BinOp (binT ha hb I h fun v u s2 x y H2 I2 rx ry q=>ho pins s2 σ H2 x y v u Q I2 rx ry q)
theorem pe_un {op:UnaryOp}{r:V->Hp->VK->Prop} (ho:UnR X (unaryOp op) r) (ha:PE X a ta):PE X (.UnaryOp op a pos) (tUn r ta):=by
 intro pins s σ H Q I h
 exact UnaryOp_ (thn (ha pins s σ H _ I h) fun v s1 ⟨x,H1,I1,r1,q1⟩=>ho pins s1 σ H1 x v Q I1 r1 q1)
theorem opI {f:Value->Value->Sem Value}{C:Int->Int->Prop}{g:Int->Int->Int}
  (rule:∀ (i j:Int) (t u:Tok) (s:Shared) (Q:Value->Shared->Prop) (E:Value->Shared->Prop),C i j->Q (.int (g i j) s.toks) { s with toks:=s.toks+1 }->wpAny (model X.prog X.w) X.A (f (.int i t) (.int j u)) Q E s) :
  OpR X f (rI C fun i j=>.int (g i j)):=by
 intro pins s σ H x y v u Q I rx ry h
 obtain⟨i,j,rfl,rfl,hc,q⟩:=h
 obtain⟨t,rfl⟩:=rx
 obtain⟨t',rfl⟩:=ry
 exact rule i j t t' s _ _ hc ⟨.int (g i j),H,I.tok _,⟨_,rfl⟩,q⟩
theorem opI0 {f:Value->Value->Sem Value}{g:Int->Int->Int}
  (rule:∀ (i j:Int) (t u:Tok) (s:Shared) (Q:Value->Shared->Prop) (E:Value->Shared->Prop),Q (.int (g i j) s.toks) { s with toks:=s.toks+1 }->wpAny (model X.prog X.w) X.A (f (.int i t) (.int j u)) Q E s) :
  OpR X f (rI0 fun i j=>.int (g i j)):=by
 intro pins s σ H x y v u Q I rx ry h
 obtain⟨i,j,rfl,rfl,q⟩:=h
 obtain⟨t,rfl⟩:=rx
 obtain⟨t',rfl⟩:=ry
 exact rule i j t t' s _ _ ⟨.int (g i j),H,I.tok _,⟨_,rfl⟩,q⟩
theorem opB0 {f:Value->Value->Sem Value}{g:Int->Int->Bool}
  (rule:∀ (i j:Int) (t u:Tok) (s:Shared) (Q:Value->Shared->Prop) (E:Value->Shared->Prop),Q (.bool (g i j)) s->wpAny (model X.prog X.w) X.A (f (.int i t) (.int j u)) Q E s) :
  OpR X f (rI0 fun i j=>.bl (g i j)):=by
 intro pins s σ H x y v u Q I rx ry h
 obtain⟨i,j,rfl,rfl,q⟩:=h
 obtain⟨t,rfl⟩:=rx
 obtain⟨t',rfl⟩:=ry
 exact rule i j t t' s _ _ ⟨.bl (g i j),H,I,rfl,q⟩
noncomputable def CDiv (i j:Int):Prop:=0<j/\j<1073741824
noncomputable def CPow (i j:Int):Prop:=0<=j/\j<=1000000/\i.natAbs<2 ^ 64
noncomputable def CMul (i j:Int):Prop:=(-(2 ^ 64)<i/\i<2 ^ 64)\/(-(2 ^ 64)<j/\j<2 ^ 64)
theorem CMul.ok {i j:Int} (h:CMul i j):IntMulOk i j:=by
 rcases h with ⟨h1,h2⟩ | ⟨h1,h2⟩
 ·exact .of_left (intBits_le_64 h1 h2)
 ·exact .of_right (intBits_le_64 h1 h2)
theorem jA:OpR X (binaryOp .Add) (rI0 fun i j=>.int (i+j)):=opI0 fun _ _ _ _ _ _ _ q=>add_int q
theorem op_sub:OpR X (binaryOp .Sub) (rI0 fun i j=>.int (i - j)):=opI0 fun _ _ _ _ _ _ _ q=>sub_int q
theorem lB:OpR X (binaryOp .Mult) (rI CMul fun i j=>.int (i * j)):=opI fun _ _ _ _ _ _ _ hc q=>mul_int q hc.ok
theorem op_fdiv:OpR X (binaryOp .FloorDiv) (rI CDiv fun i j=>.int (i / j)):=opI fun i j _ _ _ _ _ hc q=>by
 have h1:(0:Int)<j:=hc.1
 have h2:j<1073741824:=hc.2
 exact floordiv_int (by omega) (by rw [Int.fdiv_eq_ediv_of_nonneg i (by omega)]; exact q) (.inl (PyProof.noPylong_small (by omega)))
theorem iK:OpR X (binaryOp .Mod) (rI (fun _ j=>0<j) fun i j=>.int (i % j)):=opI fun i j _ _ _ _ _ hc q=>by
 have h1:(0:Int)<j:=hc
 exact mod_int' (by omega) (by rw [Int.fmod_eq_emod_of_nonneg i (by omega)]; exact q)
theorem op_pow:OpR X (binaryOp .Pow) (rI CPow fun i j=>.int (i ^ j.toNat)):=opI fun _ _ _ _ _ _ _ hc q=>pow_int_small hc.1 hc.2.1 hc.2.2 q
theorem unI {f:Value->Sem Value}{g:Int->Int}
  (rule:∀ (i:Int) (t:Tok) (s:Shared) (Q:Value->Shared->Prop) (E:Value->Shared->Prop),Q (.int (g i) s.toks) { s with toks:=s.toks+1 }->wpAny (model X.prog X.w) X.A (f (.int i t)) Q E s) :
  UnR X f (rU fun i=>.int (g i)):=by
 intro pins s σ H x v Q I rx h
 obtain⟨i,rfl,q⟩:=h
 obtain⟨t,rfl⟩:=rx
 exact rule i t s _ _ ⟨.int (g i),H,I.tok _,⟨_,rfl⟩,q⟩
theorem un_neg:UnR X (unaryOp .USub) (rU fun i=>.int (-i)):=unI fun _ _ _ _ _ q=>neg_int q
end
noncomputable def scal:V->V->Bool
 | .non,.non=>true | .non,.int _=>true | .int _,.non=>true | .non,.bl _=>true | .bl _,.non=>true | .non,.str _=>true | .str _,.non=>true
 | .int _,.int _=>true | .bl _,.bl _=>true | .str _,.str _=>true | .byt _,.byt _=>true
 | .int _,.str _=>true | .str _,.int _=>true | .bl _,.str _=>true | .str _,.bl _=>true
 | _,_=>false
noncomputable def rEq:R2:=fun x y H Q=>scal x y=true/\Q (.bl (decide (x=y))) H
noncomputable def rNe:R2:=fun x y H Q=>scal x y=true/\Q (.bl (!decide (x=y))) H
theorem dec_int {i j:Int}:decide (V.int i=V.int j)=(i == j):=by
 rw [Bool.eq_iff_iff]
 simp
theorem dec_bl {i j:Bool}:decide (V.bl i=V.bl j)=(i == j):=by
 rw [Bool.eq_iff_iff]
 simp
theorem dec_str {i j:Str}:decide (V.str i=V.str j)=(i == j):=by
 rw [Bool.eq_iff_iff]
 simp
theorem dec_byt {i j:Array UInt8}:decide (V.byt i=V.byt j)=(i.toList == j.toList):=by
 rw [Bool.eq_iff_iff]
 cases i
 cases j
 simp
section
variable {X:Cx}{a b c:Expr}{ta tb tc:TE}{pos:Pos}
theorem bB {pins:List (Addr×Obj)}{σ:St}{H:Hp}{s:Shared}{Q:VK}{k k':Bool} (I:Inv X pins σ H s) (q:Q (.bl k) H) (e:k=k'):EP X pins σ Q (.bool k') s:=by
 subst e
 exact⟨.bl k,H,I,rfl,q⟩
theorem op_eq:OpR X (compareOp .Eq) rEq:=by
 intro pins s σ H x y v u Q I rx ry h
 obtain⟨hs,q⟩:=h
 cases x with
 | non =>
  cases rx
  cases y with
  | non=>cases ry; exact PySem.EqNone.eq_none_none (bB I q (by simp))
  | bl j=>cases ry; exact PySem.EqNone.eq_none_bool (bB I q (by simp))
  | int j=>obtain⟨t',rfl⟩:=ry; exact PySem.EqNone.eq_none_int (bB I q (by simp))
  | str j=>obtain⟨t',rfl⟩:=ry; exact PySem.EqNone.eq_none_str (bB I q (by simp))
  | _=>exact absurd (show false=true from hs) Bool.false_ne_true
 | bl i =>
  cases rx
  cases y with
  | non=>cases ry; exact PySem.EqNone.eq_bool_none (bB I q (by simp))
  | bl j=>cases ry; exact eq_bool (bB I q dec_bl)
  | str j=>obtain⟨t',rfl⟩:=ry; exact PySem.EqMixed.eq_bool_str (bB I q (by simp))
  | _=>exact absurd (show false=true from hs) Bool.false_ne_true
 | int i =>
  obtain⟨t,rfl⟩:=rx
  cases y with
  | non=>cases ry; exact PySem.EqNone.eq_int_none (bB I q (by simp))
  | int j=>obtain⟨t',rfl⟩:=ry; exact eq_int (bB I q dec_int)
  | str j=>obtain⟨t',rfl⟩:=ry; exact PySem.EqMixed.eq_int_str (bB I q (by simp))
  | _=>exact absurd (show false=true from hs) Bool.false_ne_true
 | str i =>
  obtain⟨t,rfl⟩:=rx
  cases y with
  | non=>cases ry; exact PySem.EqNone.eq_str_none (bB I q (by simp))
  | bl j=>cases ry; exact PySem.EqMixed.eq_str_bool (bB I q (by simp))
  | int j=>obtain⟨t',rfl⟩:=ry; exact PySem.EqMixed.eq_str_int (bB I q (by simp))
  | str j=>obtain⟨t',rfl⟩:=ry; exact eq_str (bB I q dec_str)
  | _=>exact absurd (show false=true from hs) Bool.false_ne_true
 | byt i =>
  obtain⟨t,rfl⟩:=rx
  cases y with
  | byt j=>obtain⟨t',rfl⟩:=ry; exact PySem.W.eq_bytes (bB I q dec_byt)
  | _=>exact absurd (show false=true from hs) Bool.false_ne_true
 | _=>cases y <;> exact absurd (show false=true from hs) Bool.false_ne_true
theorem op_ne:OpR X (compareOp .NotEq) rNe:=by
 intro pins s σ H x y v u Q I rx ry h
 obtain⟨hs,q⟩:=h
 cases x with
 | non =>
  cases rx
  cases y with
  | non=>cases ry; exact PySem.EqNone.ne_none_none (bB I q (by simp))
  | bl j=>cases ry; exact PySem.EqNone.ne_none_bool (bB I q (by simp))
  | int j=>obtain⟨t',rfl⟩:=ry; exact PySem.EqNone.ne_none_int (bB I q (by simp))
  | str j=>obtain⟨t',rfl⟩:=ry; exact PySem.EqNone.ne_none_str (bB I q (by simp))
  | _=>exact absurd (show false=true from hs) Bool.false_ne_true
 | bl i =>
  cases rx
  cases y with
  | non=>cases ry; exact PySem.EqNone.ne_bool_none (bB I q (by simp))
  | bl j=>cases ry; exact ne_bool (bB I q (congrArg not dec_bl))
  | str j=>obtain⟨t',rfl⟩:=ry; exact PySem.EqMixed.ne_bool_str (bB I q (by simp))
  | _=>exact absurd (show false=true from hs) Bool.false_ne_true
 | int i =>
  obtain⟨t,rfl⟩:=rx
  cases y with
  | non=>cases ry; exact PySem.EqNone.ne_int_none (bB I q (by simp))
  | int j=>obtain⟨t',rfl⟩:=ry; exact ne_int (bB I q (congrArg not dec_int))
  | str j=>obtain⟨t',rfl⟩:=ry; exact PySem.EqMixed.ne_int_str (bB I q (by simp))
  | _=>exact absurd (show false=true from hs) Bool.false_ne_true
 | str i =>
  obtain⟨t,rfl⟩:=rx
  cases y with
  | non=>cases ry; exact PySem.EqNone.ne_str_none (bB I q (by simp))
  | bl j=>cases ry; exact PySem.EqMixed.ne_str_bool (bB I q (by simp))
  | int j=>obtain⟨t',rfl⟩:=ry; exact PySem.EqMixed.ne_str_int (bB I q (by simp))
  | str j=>obtain⟨t',rfl⟩:=ry; exact ne_str (bB I q (congrArg not dec_str))
  | _=>exact absurd (show false=true from hs) Bool.false_ne_true
 | byt i =>
  obtain⟨t,rfl⟩:=rx
  cases y with
  | byt j=>obtain⟨t',rfl⟩:=ry; exact PySem.W.ne_bytes (bB I q (congrArg not dec_byt))
  | _=>exact absurd (show false=true from hs) Bool.false_ne_true
 | _=>cases y <;> exact absurd (show false=true from hs) Bool.false_ne_true
theorem op_lt:OpR X (compareOp .Lt) (rI0 fun i j=>.bl (decide (i<j))):=opB0 fun _ _ _ _ _ _ _ q=>lt_int q
theorem op_le:OpR X (compareOp .LtE) (rI0 fun i j=>.bl (decide (i<=j))):=opB0 fun _ _ _ _ _ _ _ q=>le_int q
theorem op_gt:OpR X (compareOp .Gt) (rI0 fun i j=>.bl (decide (j<i))):=opB0 fun _ _ _ _ _ _ _ q=>gt_int q
theorem op_ge:OpR X (compareOp .GtE) (rI0 fun i j=>.bl (decide (j<=i))):=opB0 fun _ _ _ _ _ _ _ q=>ge_int q
theorem op_isN:OpR X (compareOp .Is) (fun x y H Q=>y=.non/\Q (.bl (decide (x=.non))) H):=by
 intro pins s σ H x y v u Q I rx ry h
 obtain⟨rfl,q⟩:=h
 cases ry
 refine is_none_gen (bB I q ?_)
 cases x <;> first
  | (cases rx; rfl)
  | (obtain⟨t,rfl⟩:=rx; rfl)
theorem op_notN:OpR X (compareOp .IsNot) (fun x y H Q=>y=.non/\Q (.bl (!decide (x=.non))) H):=by
 intro pins s σ H x y v u Q I rx ry h
 obtain⟨rfl,q⟩:=h
 cases ry
 refine isnot_none_gen (bB I q ?_)
 cases x <;> first
  | (cases rx; rfl)
  | (obtain⟨t,rfl⟩:=rx; rfl)
theorem dU (b:Expr) {op:CmpOp} (h:op≠.In:=by decide) (h2:op≠.NotIn:=by decide):behindInMarks op b=false:=by
 have e1:(op == CmpOp.In)=false:=by cases op <;> first | rfl | exact absurd rfl h
 have e2:(op == CmpOp.NotIn)=false:=by cases op <;> first | rfl | exact absurd rfl h2
 cases b <;> simp [behindInMarks,e1,e2]
theorem pe_cmpR {op:CmpOp}{r:R2} (ho:OpR X (compareOp op) r) (ha:PE X a ta) (hb:PE X b tb) (hm:behindInMarks op b=false):PE X (.Compare a [op] [b] pos) (tOp r ta tb):=by
 intro pins s σ H Q I h
 exact wpAny_Compare1 (binT ha hb I h fun v u s2 x y H2 I2 rx ry q=>ho pins s2 σ H2 x y v u Q I2 rx ry q) hm
noncomputable def tTest (t:TE):TT:=fun σ H Q=>t σ H fun x H'=>∃ k,x=.bl k/\Q k H'
theorem jX {op:CmpOp}{r:R2} (ho:OpR X (compareOp op) r) (ha:PE X a ta) (hb:PE X b tb) (hm:behindInMarks op b=false):PT X (.Compare a [op] [b] pos) (tTest (tOp r ta tb)):=by
 intro pins s σ H Q I h
 refine wpAny_isTrue_Compare1 (thn (ha pins s σ H _ I h) fun v s1 ⟨x,H1,I1,r1,q1⟩=>thn (hb pins s1 σ H1 _ I1 q1) fun u s2 ⟨y,H2,I2,r2,q2⟩ =>
  thn (ho pins s2 σ H2 x y v u _ I2 r1 r2 q2) fun c s3 ⟨z,H3,I3,r3,k,e,q3⟩=>?_) hm
 subst e
 cases r3
 exact wpAny_truthy_bool ⟨H3,I3,q3⟩
noncomputable def tChain (r r':R2) (ta tb tc:TE):TE:=fun σ H Q=>ta σ H fun x H1=>tb σ H1 fun y H2=>r x y H2 fun z H3=>∃ k,z=.bl k /\
 (if k=true then tc σ H3 fun w' H4=>r' y w' H4 Q else Q (.bl false) H3)
theorem pe_chain {op op':CmpOp}{r r':R2} (ho:OpR X (compareOp op) r) (ho':OpR X (compareOp op') r') (ha:PE X a ta) (hb:PE X b tb) (hc:PE X c tc)
  (hm:lastMarks [op,op'] [b,c]=false:=by with_unfolding_all rfl):PE X (.Compare a [op,op'] [b,c] pos) (tChain r r' ta tb tc):=by
 intro pins s σ H Q I h
 refine Compare_chain (thn (ha pins s σ H _ I h) fun v s1 ⟨x,H1,I1,r1,q1⟩=>chain_link (thn (hb pins s1 σ H1 _ I1 q1) fun u s2 ⟨y,H2,I2,r2,q2⟩ =>
  thn (ho pins s2 σ H2 x y v u _ I2 r1 r2 q2) fun d s3 ⟨z,H3,I3,r3,k,e,q3⟩=>?_)) hm
 subst e
 cases r3
 refine wpAny_truthy_bool ?_
 cases k with
 | false=>exact ite_ff ⟨.bl false,H3,I3,rfl,q3⟩
 | true=>exact ite_tt (chain_last (thn (hc pins s3 σ H3 _ I3 q3) fun w' s4 ⟨z',H4,I4,r4,q4⟩=>ho' pins s4 σ H4 y z' u w' Q I4 r2 r4 q4))
theorem pt_chain {op op':CmpOp}{r r':R2} (ho:OpR X (compareOp op) r) (ho':OpR X (compareOp op') r') (ha:PE X a ta) (hb:PE X b tb) (hc:PE X c tc)
  (hm:lastMarks [op,op'] [b,c]=false:=by with_unfolding_all rfl):PT X (.Compare a [op,op'] [b,c] pos) (tTest (tChain r r' ta tb tc)):=by
 intro pins s σ H Q I h
 refine isTrue_chain (thn (ha pins s σ H _ I h) fun v s1 ⟨x,H1,I1,r1,q1⟩=>test_link (thn (hb pins s1 σ H1 _ I1 q1) fun u s2 ⟨y,H2,I2,r2,q2⟩ =>
  thn (ho pins s2 σ H2 x y v u _ I2 r1 r2 q2) fun d s3 ⟨z,H3,I3,r3,k,e,q3⟩=>?_)) hm
 subst e
 cases r3
 refine wpAny_truthy_bool ?_
 cases k with
 | false =>
  obtain⟨k',e',q'⟩:=q3
  cases e'
  exact ite_ff ⟨H3,I3,q'⟩
 | true =>
  refine ite_tt (test_last (thn (hc pins s3 σ H3 _ I3 q3) fun w' s4 ⟨z',H4,I4,r4,q4⟩=>thn (ho' pins s4 σ H4 y z' u w' _ I4 r2 r4 q4) fun d' s5 ⟨z2,H5,I5,r5,k2,e2,q5⟩=>?_))
  subst e2
  cases r5
  exact wpAny_truthy_bool ⟨H5,I5,q5⟩
noncomputable def TruV (K:PySem.W.Frag) (x:V) (H:Hp) (k:Bool):Prop :=
 match x with
 | .non=>k=false
 | .bl b=>k=b
 | .int i=>k=(i != 0)
 | .str y=>y.length<=sizeLine/\k=((y.length:Int) != 0)
 | .byt y=>y.size<=sizeLine/\k=((y.size:Int) != 0)
 | .ref p=>(∃ xs,SqL K H p xs/\k=!xs.isEmpty)\/(∃ xs,SqT K H p xs/\k=!xs.isEmpty)\/∃ kvs,H p=some (.dK kvs)/\k=!kvs.isEmpty
 | _=>False
theorem isEmpty_kv {κ:Type}{kvs:List (κ×V)}{vs:List (κ×Value)} (r:KV kvs vs):(!vs.isEmpty)=!kvs.isEmpty:=by
 cases r <;> rfl
theorem isEmpty_of {xs:List V}{its:List Value} (r:Vals xs its):(!its.toArray.isEmpty)=!xs.isEmpty:=by
 cases r <;> simp
theorem line63:(sizeLine:Nat)<2 ^ 63:=by rw [sizeLine_eq]; decide
theorem tru_ok:TruR X (fun x H Q=>∃ k,TruV X.K x H k/\Q k H):=by
 intro pins s σ H x v Q I rx h
 obtain⟨k,e,q⟩:=h
 have hl:=line63
 have hs:sizeLine=16777216:=sizeLine_eq
 cases x with
 | non =>
  cases rx
  have e':k=false:=e
  subst e'
  exact truthy_none ⟨H,I,q⟩
 | bl b =>
  cases rx
  have e':k=b:=e
  subst e'
  exact wpAny_truthy_bool ⟨H,I,q⟩
 | int i =>
  obtain⟨t,rfl⟩:=rx
  have e':k=(i != 0):=e
  subst e'
  exact PySem.P.truthy_int ⟨H,I,q⟩
 | str y =>
  obtain⟨t,rfl⟩:=rx
  obtain⟨hy,e'⟩:y.length<=sizeLine/\k=((y.length:Int) != 0):=e
  subst e'
  exact PySem.P.truthy_str (by omega) ⟨H,I.tok _,q⟩
 | byt y =>
  obtain⟨t,rfl⟩:=rx
  obtain⟨hy,e'⟩:y.size<=sizeLine/\k=((y.size:Int) != 0):=e
  subst e'
  exact PySem.W.truthy_bytes (by omega) ⟨H,I.tok _,q⟩
 | ref p =>
  cases rx
  have e':(∃ xs,SqL X.K H p xs/\k=!xs.isEmpty)\/(∃ xs,SqT X.K H p xs/\k=!xs.isEmpty)\/∃ kvs,H p=some (.dK kvs)/\k=!kvs.isEmpty:=e
  rcases e' with ⟨xs,hx,e'⟩ | ⟨xs,hx,e'⟩ | ⟨kvs,hx,e'⟩
  ·subst e'
   obtain⟨its,r,pl,hz⟩:=I.list hx
   have hlen:=r.length
   exact wpAny_truthy_list pl.isList (by simp only [List.size_toArray]; omega) ⟨H,I.tok _,by rw [isEmpty_of r]; exact q⟩
  ·subst e'
   obtain⟨its,r,pl,hz⟩:=I.tuple hx
   have hlen:=r.length
   exact truthy_tuple pl (by simp only [List.size_toArray]; omega) ⟨H,I.tok _,by rw [isEmpty_of r]; exact q⟩
  ·subst e'
   obtain⟨hz,hS,vs,r,m⟩:kvs.length<=sizeLine/\(p == sysModules)=false/\∃ vs,KV kvs vs/\s.heap.DictOf (aY X.prog X.w) p vs:=I.hok p _ hx
   have hlen:kvs.length=vs.length:=Paired.length r
   exact wpAny_truthy_dict hS m (by omega) ⟨H,I.tok _,by rw [isEmpty_kv r]; exact q⟩
 | _=>exact (show False from e).elim
theorem pt_truth (ha:PE X a ta) (he:∀ whole,isTrue a X.env whole=(do let v ← whole; standAt a.pos; holding [v] (truthy v))) :
  PT X a (fun σ H Q=>ta σ H fun x H'=>∃ k,TruV X.K x H' k/\Q k H'):=by
 intro pins s σ H Q I h
 exact isTrue_plain (thn (ha pins s σ H _ I h) fun v s1 ⟨x,H1,I1,r1,q1⟩=>tru_ok pins s1 σ H1 x v Q I1 r1 q1) (he _)
theorem vals1 {x:V}{us:List Value} (r:Vals [x] us):∃ u,us=[u]/\RelV x u:=by
 cases r with
 | cons r1 r2=>cases r2; exact⟨_,rfl,r1⟩
theorem vals2 {x y:V}{us:List Value} (r:Vals [x,y] us):∃ u w',us=[u,w']/\RelV x u/\RelV y w':=by
 cases r with
 | cons r1 r2 =>
  cases r2 with
  | cons r3 r4=>cases r4; exact⟨_,_,rfl,r1,r3⟩
theorem call_abs:cU X (.builtin "abs") (fun xs H Q=>∃ i,xs=[.int i]/\Q (.int (if i<0 then -i else i)) H):=by
 intro pins s σ H xs us Q I r h
 obtain⟨i,rfl,q⟩:=h
 obtain⟨u,rfl,t,rfl⟩:=vals1 r
 exact call_abs_int fun u tk=>⟨.int (if i<0 then -i else i),H,I.tok _,⟨_,rfl⟩,q⟩
theorem call_max2 (hc:X.calm=true):cU X (.builtin "max") (fun xs H Q=>∃ i j,xs=[.int i,.int j]/\Q (.int (if j > i then j else i)) H):=by
 intro pins s σ H xs us Q I r h
 obtain⟨i,j,rfl,q⟩:=h
 obtain⟨u,w',rfl,⟨t,rfl⟩,⟨t',rfl⟩⟩:=vals2 r
 refine max_two_ints (I.ok.hd hc) fun h' tk k=>⟨_,H,I.kept k,?_,q⟩
 by_cases hj:j > i
 ·rw [if_pos hj,if_pos hj]; exact⟨_,rfl⟩
 ·rw [if_neg hj,if_neg hj]; exact⟨_,rfl⟩
theorem call_int1:cU X (.type "int") (fun xs H Q=>(∃ i,xs=[.int i]/\Q (.int i) H)\/∃ k,xs=[.bl k]/\Q (.int (if k then 1 else 0)) H):=by
 intro pins s σ H xs us Q I r h
 rcases h with ⟨i,rfl,q⟩ | ⟨k,rfl,q⟩
 ·obtain⟨u,rfl,t,rfl⟩:=vals1 r
  exact call_int_int ⟨.int i,H,I,⟨_,rfl⟩,q⟩
 ·obtain⟨u,rfl,r1⟩:=vals1 r
  cases r1
  exact call_int_bool ⟨.int (if k then 1 else 0),H,I.tok _,⟨_,rfl⟩,q⟩
end
structure ObjM (h:Heap) (x dx C:Addr) (mA:Str->Option Value):Prop where
 obj:h.get? x=some (PySem.W.instObj C dx)
 ns:h.Ns1 dx mA
 ne:dx≠x
theorem lookIn_ns {h:Heap}{dx:Addr}{mA:Str->Option Value} (n:h.Ns1 dx mA):∃ od,h.get? dx=some od/\∀ name,PySem.W.lookIn name od=some (mA name):=by
 obtain⟨o,es,ep,ho,hd,hk,_,hm⟩:=n
 refine⟨o,ho,fun name=>?_⟩
 have e:=hm name
 unfold nsFind findBy at e
 rw [← Array.find?_toList] at e
 unfold PySem.W.lookIn
 rw [hd]
 dsimp only
 split
 ·rename_i y q
  rw [q] at e
  exact congrArg some e
 ·rename_i q
  rw [q] at e
  have a:es.toList.any (·.refKey)=false:=by
   rw [List.any_eq_false]
   intro y hy
   obtain⟨z,t,hkey⟩:=hk y (Array.mem_toList_iff.mp hy)
   simp [DictEntry.refKey,hkey]
  have a':¬ es.toList.any (·.refKey)=true:=by rw [a]; exact Bool.false_ne_true
  rw [if_neg a']
  exact congrArg some e
theorem ObjM.look {h:Heap}{x dx C:Addr}{mA:Str->Option Value} (I:ObjM h x dx C mA):∃ od,PySem.W.InstAt h x (PySem.W.instObj C dx) C (some od)/\∀ name,PySem.W.lookIn name od=some (mA name) :=
 let ⟨od,ho,hl⟩:=lookIn_ns I.ns
 ⟨od,⟨I.obj,rfl,rfl,ho⟩,hl⟩
section
variable {prog:Program}{w:World}{A:Around}{E:Value->Shared->Prop}{s:Shared}{K:PySem.W.Frag}{x dx C f:Addr}{mA:Str->Option Value}{name:Str}{v:Value}
end
theorem RelO.some_of {v:V}{o:Option Value} (r:RelO (some v) o):∃ u,o=some u/\RelV v u:=by
 cases o with
 | none=>exact (show False from r).elim
 | some u=>exact⟨u,rfl,r⟩
section
variable {P:Program}{w:World}{H H':Hp}{h h':Heap}{a C dx:Addr}{fs fs':List (Str×V)}
theorem ins_get (hok:HOk P w H h) (e:H a=some (.ins C dx fs)):∃ mA,ObjM h a dx C mA/\(∀ f,RelO (fs.lookup f) (mA f))/\PySem.Within mA (fs.map (·.1))/\fs.length<=1000/\H dx=some (.own a):=by
 obtain⟨d,z,ne,ob,mA,n,r,q⟩:=(show bZ P w H h a (.ins C dx fs) from hok a _ e)
 exact⟨mA,⟨ob,n,ne⟩,r,q,z,d⟩
end
structure Cls (K:PySem.W.Frag) (C:Addr):Prop where
 pg:PySem.W.plainGet K C Str.empty=true
 hd:PySem.W.hasDictIn K C=true
 po:PySem.W.plainOver K C=true
 sa:PySem.W.findIn K (.ref C) "__setattr__"=some (some (.builtin "object.__setattr__"))
theorem Cls.get {K:PySem.W.Frag}{C:Addr} (c:Cls K C) (f:Str):PySem.W.plainGet K C f=true:=c.pg
structure Con (K:PySem.W.Frag) (C:Addr) (f:Str) (v:V) (u:Value):Prop where
 at_:PySem.W.findIn K (.ref C) f=some (some u)
 rel:RelV v u
 get:PySem.W.specialIn K u "__get__"=some none
 cp:PySem.W.copiedNames.contains f=false
structure Meth (K:PySem.W.Frag) (C:Addr) (m:Str) (f:Addr):Prop where
 at_:PySem.W.findIn K (.ref C) m=some (some (.ref f))
 fn:PySem.W.isFn K (.ref f)=true
 kp:PySem.W.keepIn K (.ref f)=true
section
variable {X:Cx}{pins:List (Addr×Obj)}{σ:St}{H:Hp}{s:Shared}{a C dx:Addr}{fs:List (Str×V)}{f:Str}{v:V}{A:Around}{E:Value->Shared->Prop}
end
section
variable {X:Cx}{o e value:Expr}{f:Str}{pos pos' tpos:Pos}{ta tv:TE}
end
section
variable {X:Cx}{pins:List (Addr×Obj)}{σ:St}{H:Hp}{s:Shared}{A:Around}{E:Value->Shared->Prop}{Q:Value->Shared->Prop}{c:Value}{b:Bool}
inductive TyOf (K:PySem.W.Frag) (H:Hp):V->Value->Prop where
 | non:TyOf K H .non (.type "NoneType")
 | bl (x:Bool):TyOf K H (.bl x) (.type "bool")
 | int (i:Int):TyOf K H (.int i) (.type "int")
 | str (x:Str):TyOf K H (.str x) (.type "str")
 | flt (x:UInt64):TyOf K H (.flt x) (.type "float")
 | lst {a:Addr}{xs:List V} (e:H a=some (.lst xs)):TyOf K H (.ref a) (.type "list")
 | frz {a:Addr}{o:Obj}{xs:List V} (e:H a=some (.frz o (.lst xs))):TyOf K H (.ref a) (.type "list")
 | tup {a:Addr}{xs:List V} (e:H a=some (.tup xs)):TyOf K H (.ref a) (.type "tuple")
 | dK {a:Addr}{kvs:List (Key×V)} (e:H a=some (.dK kvs)):TyOf K H (.ref a) (.type "dict")
 | dT {a:Addr}{kvs:List (List Key×V)} (e:H a=some (.dT kvs)):TyOf K H (.ref a) (.type "dict")
 | ins {a C dx:Addr}{fs:List (Str×V)} (e:H a=some (.ins C dx fs)) (cl:Cls K C) (ha:PySem.W.findIn K (.ref C) "__class__"=some (some (.builtin "object.__class__")))
   (hn:PySem.W.specialIn K (.builtin "object.__class__") "__get__"=some (some (.builtin "getset_descriptor.__get__"))) (htk:PySem.W.takesIn K (.builtin "object.__class__")=some true)
   (hm:PySem.W.mroIn K C (.type "object")=some true):TyOf K H (.ref a) (.ref C)
theorem isinst_ok {x:V}{u t:Value} (I:Inv X pins σ H s) (rx:RelV x u) (ty:TyOf X.K H x t) (e:PySem.W.kitOne X.K t c=some b) (h:∀ tk,Q (.bool b) { s with toks:=tk }) :
  wpAny (model X.prog X.w) A (call (.builtin "isinstance") [u,c]) Q E s:=by
 cases ty with
 | non=>cases (show u=Value.none from rx); exact PySem.W.kia_one PySem.W.kitx_none I.kIn True.intro e (fun z=>nomatch z) h
 | bl y=>cases (show u=Value.bool y from rx); exact PySem.W.kia_one PySem.W.kitx_bool I.kIn True.intro e (fun z=>nomatch z) h
 | int i=>obtain⟨t,q⟩:=(show ∃ t,u=Value.int i t from rx); cases q; exact PySem.W.kia_one PySem.W.kitx_int I.kIn True.intro e (fun z=>nomatch z) h
 | str y=>obtain⟨t,q⟩:=(show ∃ t,u=Value.str y t from rx); cases q; exact PySem.W.kia_one PySem.W.kitx_str I.kIn True.intro e (fun z=>nomatch z) h
 | flt y=>obtain⟨t,q⟩:=(show ∃ t,u=Value.float y t from rx); cases q; exact PySem.W.kia_one PySem.W.kitx_float I.kIn True.intro e (fun z=>nomatch z) h
 | @lst a xs ea =>
  cases (show u=Value.ref a from rx)
  obtain⟨_,_,n,_,h1⟩:=(show bZ X.prog X.w H s.heap a (.lst xs) from I.hok a _ ea)
  exact PySem.W.kia_one PySem.W.kitx_list I.kIn ⟨_,h1,rfl⟩ e (fun z=>nomatch z) h
 | @frz a ob xs ea =>
  cases (show u=Value.ref a from rx)
  obtain⟨_,_,_,n,_,h1⟩:=(show bZ X.prog X.w H s.heap a (.frz ob (.lst xs)) from I.hok a _ ea)
  exact PySem.W.kia_one PySem.W.kitx_list I.kIn ⟨_,h1,rfl⟩ e (fun z=>nomatch z) h
 | @tup a xs ea =>
  cases (show u=Value.ref a from rx)
  obtain⟨_,_,_,p⟩:=(show bZ X.prog X.w H s.heap a (.tup xs) from I.hok a _ ea)
  obtain⟨o,h1,h2,_⟩:=p
  exact PySem.W.kia_one PySem.W.kitx_tuple I.kIn ⟨o,h1,h2⟩ e (fun z=>nomatch z) h
 | @dK a kvs ea =>
  cases (show u=Value.ref a from rx)
  obtain⟨_,_,vs,_,p⟩:=(show bZ X.prog X.w H s.heap a (.dK kvs) from I.hok a _ ea)
  obtain⟨o,es,ep,h1,h2,_⟩:=p
  exact PySem.W.kia_one PySem.W.kitx_dict I.kIn ⟨o,h1,h2.1⟩ e (fun z=>nomatch z) h
 | @dT a kvs ea =>
  cases (show u=Value.ref a from rx)
  obtain⟨_,_,xs,_,o,es,ep,h1,h2,_⟩:=(show bZ X.prog X.w H s.heap a (.dT kvs) from I.hok a _ ea)
  exact PySem.W.kia_one PySem.W.kitx_dict I.kIn ⟨o,h1,h2.1⟩ e (fun z=>nomatch z) h
 | @ins a C dx fs ea cl ha hn htk hm =>
  cases (show u=Value.ref a from rx)
  obtain⟨mA,O,_⟩:=ins_get I.hok ea
  obtain⟨od,J,_⟩:=O.look
  exact PySem.W.kia_one (PySem.W.kitx_own (cl.get _) cl.hd ha hn htk hm) I.kIn J e (fun z=>nomatch z) h
end
structure Room (k:Nat) (A:Around):Prop where
 hd:A.handled=none
 dp:A.depth+3 * k+5<recursionLimit
 un:A.units+16 * k+200<cLine
 gd:A.guards=some []
theorem Room.mono {j k:Nat}{A:Around} (r:Room k A) (h:j<=k):Room j A:=⟨r.hd,by have:=r.dp; omega,by have:=r.un; omega,r.gd⟩
theorem Room.deeper {k:Nat}{A:Around} (r:Room (k+1) A) (env:Env):Room k (A.deeper env) :=
 ⟨r.hd,by have:=r.dp; show A.depth+1+3 * k+5<_; omega,by have:=r.un; show A.units+3+16 * k+200<_; omega,r.gd⟩
theorem Room.depth {k:Nat}{A:Around} (r:Room k A):A.depth<recursionLimit:=by have:=r.dp; omega
theorem Room.units {k:Nat}{A:Around} (r:Room k A):A.units+64<cLine:=by have:=r.un; omega
noncomputable def tNil:TA:=fun _ H Q=>Q [] H
noncomputable def kO (ta:TE) (tr:TA):TA:=fun σ H Q=>ta σ H fun x H1=>tr σ H1 fun xs H2=>Q (x::xs) H2
section
variable {X:Cx}{e:Expr}{es:List Expr}{te:TE}{t:TA}{pos:Pos}
theorem dG:PA X [] tNil:=fun _ _ _ _ H Q I h=>Calls.spliced_nil ⟨[],H,I,.nil,h⟩
theorem bK (ha:PE X e te) (hr:PA X es t) (hs:starEach (e::es) X.env=(false,eval e X.env)::starEach es X.env:=by rfl):PA X (e::es) (kO te t):=by
 intro pos pins s σ H Q I h
 rw [hs]
 show wpAny _ _ (spliced ((false,eval e X.env)::backTo pos (starEach es X.env))) _ _ s
 refine Calls.spliced_cons (thn (ha pins s σ H _ I h) fun u s1 ⟨x,H1,I1,r1,q1⟩=>?_)
 exact thn (hr pos pins s1 σ H1 _ I1 q1) fun us s2 ⟨xs,H2,I2,r2,q2⟩=>⟨x::xs,H2,I2,.cons r1 r2,q2⟩
noncomputable def tTup (t:TA):TE:=fun σ H Q=>t σ H fun xs H1=>xs.length<=sizeLine/\∀ p,H1 p=none->Q (.ref p) (upd H1 p (.tup xs))
noncomputable def tLst (t:TA):TE:=fun σ H Q=>t σ H fun xs H1=>xs.length<=sizeLine/\∀ p,H1 p=none->Q (.ref p) (upd H1 p (.lst xs))
theorem pe_tup {x1} (h:PA X es t):PE X (.Tuple es x1 pos) (tTup t):=by
 intro pins s σ H Q I hq
 refine wpAny_Tuple_spliced (thn (h pos pins s σ H _ I hq) fun us s1 ⟨xs,H1,I1,r,z,q⟩=>⟨by rw [← r.length]; exact z,?_⟩)
 have hf:H1 s1.heap.objs.size=none:=I1.hok.fresh (Nat.le_refl _)
 refine⟨.ref s1.heap.objs.size,upd H1 s1.heap.objs.size (.tup xs),I1.laid (t':=s1.toks) (fun b u e=>Heap.get?_push_of_some _ e) (Nat.le_refl _) ?_,rfl,q _ hf⟩
 exact⟨z,us,r,⟨_,Heap.get?_push_size _ rfl,rfl,_,rfl⟩⟩
theorem pe_lst (h:PA X es t):PE X (.List es pos) (tLst t):=by
 intro pins s σ H Q I hq
 refine wpAny_List_spliced (thn (h pos pins s σ H _ I hq) fun us s1 ⟨xs,H1,I1,r,z,q⟩=>⟨by rw [← r.length]; exact z,?_⟩)
 have hf:H1 s1.heap.objs.size=none:=I1.hok.fresh (Nat.le_refl _)
 refine⟨.ref s1.heap.objs.size,upd H1 s1.heap.objs.size (.lst xs),I1.laid (t':=s1.toks) (fun b u e=>Heap.get?_push_of_some _ e) (Nat.le_refl _) ?_,rfl,q _ hf⟩
 exact⟨z,us,0,r,Heap.get?_push_size _ rfl⟩
end
noncomputable abbrev Sp:=List V->Hp->VK->XK->Prop
noncomputable abbrev CXT:=List Env->Hp->Shared->XK->Value->Shared->Prop
structure Env0 (P:Program) (w:World) (K:PySem.W.Frag) (mg:Str->Option Value) (base:Heap) (A:Around) (outer:List Env) (s:Shared) (H:Hp):Prop where
 frames:A.frames=some outer
 mod:Mod K mg base
 bs:∀ b o,base.get? b=some o->s.heap.get? b=some o/\H b=none
 bsz:base.objs.size<=s.heap.objs.size
 funs:s.heap.FunFrames base outer
 frf:∀ b∈frs outer,H b=none
 hok:HOk P w H s.heap
 bare:AllBare s.gens
noncomputable def CE (outer:List Env) (P:Program) (w:World) (H:Hp) (s:Shared) (Q:VK) (u:Value) (s':Shared):Prop :=
 ∃ v H',s'.os=s.os/\AllBare s'.gens/\Un (frs outer) [] H H' s.heap s'.heap/\HOk P w H' s'.heap/\RelV v u/\Q v H'
noncomputable def CR (CX:CXT) (outer:List Env) (P:Program) (w:World) (H:Hp) (s:Shared) (Q:VK) (E:XK) (r:Result) (s':Shared):Prop :=
 match r with
 | .ok (.ret u)=>CE outer P w H s Q u s'
 | .ok _=>False
 | .error e=>CX outer H s E e s'
structure FnOk (P:Program) (w:World) (K:PySem.W.Frag) (mg:Str->Option Value) (base:Heap) (CX:CXT) (k:Nat) (f:Addr) (fd:FuncData) (ps:List Str) (sp:Sp):Prop where
 len:∀ vs H Q E,sp vs H Q E->vs.length=ps.length
 run:∀ (A:Around) (outer:List Env) (s:Shared) (H:Hp) (args:Args) (us:List Value) (vs:List V) (Q:VK) (E:XK),Room k A->Env0 P w K mg base A outer s H->BindsTo s fd args (ps.zip us)->Vals vs us->sp vs H Q E ->
  codeAny (model P w) A (.call (.ref f) args) (CR CX outer P w H s Q E) s
section
variable {X:Cx}{pins:List (Addr×Obj)}{σ:St}{H:Hp}{s s':Shared}
theorem Inv.env0 (I:Inv X pins σ H s):Env0 X.prog X.w X.K X.mg X.base X.A X.stack s H :=
 ⟨I.ok.frames,I.ok.mod,I.bs,Nat.le_trans I.ok.bsz I.sz,I.stack,I.stkFree,I.hok,I.bare⟩
theorem Inv.after {Q:VK}{u:Value} (I:Inv X pins σ H s) (h:CE X.stack X.prog X.w H s Q u s'):EP X pins σ Q u s':=by
 obtain⟨v,H',os,bare,un,hok,r,q⟩:=h
 obtain⟨hh,g,d,t,os'⟩:=s'
 obtain rfl:os'=s.os:=os
 exact⟨v,H',I.call (h':=hh) (g':=g) (d':=d) (t':=t) (ch:=[]) un hok bare (fun b z=>absurd z (by simp)),r,q⟩
end
noncomputable def tCall (sp:Sp) (dvs:List V) (E:XK) (t:TA):TE:=fun σ H Q=>t σ H fun vs H1=>sp (vs++dvs) H1 Q E
noncomputable def Binds (K:PySem.W.Frag) (fd:FuncData) (ps:List Str) (ds:List Value):Prop :=
 ∀ (s:Shared) (us:List Value),K.In s.heap->(us++ds).length=ps.length->BindsTo s fd ⟨us,[]⟩ (ps.zip (us++ds))
theorem Binds.all {K:PySem.W.Frag}{fd:FuncData}{ps:List Str} (h:∀ us:List Value,us.length=ps.length->bindArgs fd ⟨us,[]⟩=pure (ps.zip us)):Binds K fd ps []:=fun s us _ hl=>by
 rw [List.append_nil] at hl ⊢
 exact .of_eq (h us hl)
noncomputable def Passes (CX:CXT) (X:Cx) (E:XK):Prop:=∀ (pins:List (Addr×Obj)) (σ:St) (H:Hp) (s:Shared) (e:Value) (s':Shared),Inv X pins σ H s->CX X.stack H s E e s'->X.xe e s'
section
variable {X:Cx}{CX:CXT}{k:Nat}{f C:Addr}{fd:FuncData}{ps:List Str}{sp:Sp}{dvs:List V}{ds:List Value}{E:XK}{x m:Str}{p pos apos:Pos}{e o:Expr}{es:List Expr}{ta:TE}{t:TA}
theorem run_fn {pins:List (Addr×Obj)}{σ:St}{H:Hp}{s:Shared}{Q:VK}{us:List Value}{vs:List V} (F:FnOk X.prog X.w X.K X.mg X.base CX k f fd ps sp) (hr:Room k X.A) (hb:Binds X.K fd ps ds) (hd:Vals dvs ds) (hx:Passes CX X E)
  (I:Inv X pins σ H s) (r:Vals vs us) (h:sp (vs++dvs) H Q E):wpAny (model X.prog X.w) X.A (call (.ref f) us) (EP X pins σ Q) X.xe s:=by
 have r2:Vals (vs++dvs) (us++ds):=r.append hd
 have hl:(us++ds).length=ps.length:=by rw [← r2.length]; exact F.len _ _ _ _ h
 refine wpAny_call (codeAny_mono (F.run X.A X.stack s H ⟨us,[]⟩ (us++ds) (vs++dvs) Q E hr I.env0 (hb s us I.kIn hl) r2 h) fun r s' hq=>?_)
 cases r with
 | error e=>exact hx pins σ H s e s' I hq
 | ok fl =>
  cases fl with
  | ret u=>exact I.after hq
  | next=>exact False.elim hq
  | brk=>exact False.elim hq
  | cont=>exact False.elim hq
theorem pe_call (F:FnOk X.prog X.w X.K X.mg X.base CX k f fd ps sp) (hr:Room k X.A) (hg:Gl X x) (hm:X.mg x=some (.ref f)) (hk:PySem.W.keepIn X.K (.ref f)=true) (hb:Binds X.K fd ps ds) (hd:Vals dvs ds) (hx:Passes CX X E)
  (ha:PA X (e::es) t) (hdb:(x == ("__debug__":Str))=false:=by decide) (he:starEach (e::es) X.env=(false,eval e X.env)::starEach es X.env:=by rfl) (hpl:(backTo pos (starEach es X.env)).any (·.1)=false:=by rfl) :
  PE X (.Call (.Name x p) (e::es) [] pos) (tCall sp dvs E t):=by
 intro pins s σ H Q I h
 refine wpAny_Call_Name_kw (ld_glob I hg hm ?_ hdb)
 refine PySem.W.callWith_K (h₀:=X.base) I.ok.mod.kin hk (thn (ha pos pins s σ H _ I h) fun us s1 ⟨vs,H1,I1,r,q⟩=>⟨I1.kIn,?_⟩) he hpl
 exact run_fn F hr hb hd hx I1 r q
structure Mk (K:PySem.W.Frag) (C f:Addr):Prop where
 makes:PySem.W.makesIn K C=true
 init:PySem.W.findIn K (.ref C) "__init__"=some (some (.ref f))
 fn:PySem.W.isFn K (.ref f)=true
 kp:PySem.W.keepIn K (.ref C)=true
end
section
variable {X:Cx}{CX:CXT}{k:Nat}{f C:Addr}{fd:FuncData}{ps ks:List Str}{sp:Sp}{E:XK}{x m:Str}{p pos apos kpos:Pos}{e o:Expr}{es:List Expr}{kws:List Keyword}{te ta:TE}{t tk:TA}{nm:Option Str}
structure KBinds (K:PySem.W.Frag) (fd:FuncData) (ps ks:List Str) (g:List Value->List Value->List Value) (gV:List V->List V->List V):Prop where
 to:∀ (s:Shared) (us ws:List Value),K.In s.heap->(g us ws).length=ps.length->BindsTo s fd ⟨us,ks.zip ws⟩ (ps.zip (g us ws))
 rel:∀ {vs:List V}{us:List Value}{zs:List V}{ws:List Value},Vals vs us->Vals zs ws->Vals (gV vs zs) (g us ws)
variable {g:List Value->List Value->List Value}{gV:List V->List V->List V}
end
structure FnScope (N P:List Str) (sc:Scope):Prop where
 kind:sc.kind=.function
 co:sc.isCoroutine=false
 gen:sc.isGenerator=false
 nd:N.Nodup
 pre:N.take P.length=P
 par:∀ x∈P,sc.names.lookup x=some .local\/sc.names.lookup x=some .cell
 nofree:∀ y∈sc.names,y.2≠.free
theorem bindL_out {kindOf:Str->Option NameKind}{x:Str}:∀ {binds:List (Str×Value)}{m:Str->Option Value},(∀ v,(x,v)∉binds)->bindL kindOf binds m x=m x
 | [],_,_=>rfl
 | (n,v)::r,m,h=>by
  unfold bindL
  rw [bindL_out fun w hw=>h w (List.mem_cons_of_mem _ hw)]
  split
  ·have:x≠n:=by rintro rfl; exact h v List.mem_cons_self
   simp [this]
  ·rfl
theorem bindC_out {kindOf:Str->Option NameKind}{x:Str}:∀ {binds:List (Str×Value)}{m:Str->Option Value},(∀ v,(x,v)∉binds)->bindC kindOf binds m x=m x
 | [],_,_=>rfl
 | (n,v)::r,m,h=>by
  unfold bindC
  rw [bindC_out fun w hw=>h w (List.mem_cons_of_mem _ hw)]
  split
  ·rfl
  ·have:x≠n:=by rintro rfl; exact h v List.mem_cons_self
   simp [this]
theorem bindL_get {kindOf:Str->Option NameKind}{x:Str}{v:Value}:∀ {P:List Str}{vs:List Value}{i:Nat}{m:Str->Option Value},P.Nodup->P[i]?=some x->vs[i]?=some v->kindOf x=some .local ->
  bindL kindOf (P.zip vs) m x=some v
 | [],_,_,_,_,h,_,_=>by simp at h
 | _::_,[],_,_,_,_,h,_=>by simp at h
 | p::P,w::vs,0,m,nd,h1,h2,hk=>by
  simp at h1 h2; subst h1; subst h2
  show bindL kindOf ((p,w)::P.zip vs) m p=_
  unfold bindL
  rw [bindL_out fun v hv=>(List.nodup_cons.mp nd).1 (List.of_mem_zip hv).1,if_pos hk]
  simp
 | p::P,w::vs,i+1,m,nd,h1,h2,hk=>by
  show bindL kindOf ((p,w)::P.zip vs) m x=_
  unfold bindL
  exact bindL_get (i:=i) (List.nodup_cons.mp nd).2 (by simpa using h1) (by simpa using h2) hk
theorem bindC_get {kindOf:Str->Option NameKind}{x:Str}{v:Value}:∀ {P:List Str}{vs:List Value}{i:Nat}{m:Str->Option Value},P.Nodup->P[i]?=some x->vs[i]?=some v->kindOf x≠some .local ->
  bindC kindOf (P.zip vs) m x=some v
 | [],_,_,_,_,h,_,_=>by simp at h
 | _::_,[],_,_,_,_,h,_=>by simp at h
 | p::P,w::vs,0,m,nd,h1,h2,hk=>by
  simp at h1 h2; subst h1; subst h2
  show bindC kindOf ((p,w)::P.zip vs) m p=_
  unfold bindC
  rw [bindC_out fun v hv=>(List.nodup_cons.mp nd).1 (List.of_mem_zip hv).1,if_neg hk]
  simp
 | p::P,w::vs,i+1,m,nd,h1,h2,hk=>by
  show bindC kindOf ((p,w)::P.zip vs) m x=_
  unfold bindC
  exact bindC_get (i:=i) (List.nodup_cons.mp nd).2 (by simpa using h1) (by simpa using h2) hk
noncomputable def start (N:List Str) (vs:List V):St:=vs.map some++List.replicate (N.length - vs.length) none
noncomputable def cxOf (CX:CXT) (P:Program) (w:World) (K:PySem.W.Frag) (mg:Str->Option Value) (base:Heap) (N:List Str) (qual:Str) (scope:Scope) (f:Addr) (cd:Value) (A:Around) (outer:List Env) (s:Shared) (H:Hp) (E:XK):Cx where
 prog:=P
 w:=w
 K:=K
 mg:=mg
 base:=base
 A:=A.deeper (envOfC qual scope s.heap.objs.size f cd)
 N:=N
 s₀:=s
 H₀:=H
 env:=envOfC qual scope s.heap.objs.size f cd
 outer:=outer
 stack:=envOfC qual scope s.heap.objs.size f cd::outer
 ex:=[]
 calm:=true
 fn:=fun _=>true
 pn:=[]
 xe:=fun e s'=>wpAny (model P w) (A.deeper (envOfC qual scope s.heap.objs.size f cd)) (leaving (envOfC qual scope s.heap.objs.size f cd) e) (fun _ s''=>CX outer H s E e s'') (fun e' s''=>CX outer H s E e' s'') s'
theorem cell_has {sc:Scope}{n:Nat}{x:Str} (h:sc.names.lookup x=some .cell):∃ c,(cellsFrom n sc.names []).lookup x=some c:=by
 have q:=PySem.W.cellsFrom_some sc.names n [] (.inl h)
 exact Option.isSome_iff_exists.mp q
theorem inv_start {CX:CXT}{P:Program}{w:World}{K:PySem.W.Frag}{mg:Str->Option Value}{base:Heap}{N ps:List Str}{qual:Str}{scope:Scope}{f:Addr}{cd:Value}{A:Around}{outer:List Env}{s s1:Shared}{H:Hp}{E:XK}{us:List Value}{vs:List V}
  (S:FnScope N ps scope) (hd:A.handled=none) (e0:Env0 P w K mg base A outer s H) (hl:vs.length=ps.length) (r:Vals vs us)
  (x:InCallC s s.heap.objs.size (bindL (envOfC qual scope s.heap.objs.size f cd).kindOf (ps.zip us) fun _=>none) (cellsFrom (s.heap.objs.size+1) scope.names []) (bindC (envOfC qual scope s.heap.objs.size f cd).kindOf (ps.zip us) fun _=>none) s1) :
  Inv (cxOf CX P w K mg base N qual scope f cd A outer s H E) [] (start N vs) H s1:=by
 have hpl:ps.length<=N.length:=by have:=congrArg List.length S.pre; rw [List.length_take] at this; omega
 obtain⟨h1,tk,rfl,hk⟩:=x.done
 have noA:∀ b:Addr,b∉(cxOf CX P w K mg base N qual scope f cd A outer s H E).ex:=fun b z=>absurd (show b∈([]:List Addr) from z) (by simp)
 refine⟨⟨e0.mod,S.kind,rfl,rfl,Nat.le_refl _,fun y z c h1 h2=>?_,fun y hy=>?_,fun y c _ h=>?_,fun _=>hd,Around.frames_deeper e0.frames,.inr ⟨rfl,rfl⟩,fun b z=>absurd z (noA b),e0.bs,e0.bsz,fun b _ _=>noA b,fun b z=>absurd z (noA b),e0.funs,e0.frf⟩,
  rfl,e0.bare,Un.kept hk,⟨_,x.toInCall.ns,fun i y v h1 h2 h3=>?_⟩,fun y c h=>⟨_,x.cell y c h⟩,e0.hok.fresh (Nat.le_refl _),fun y c h=>?_,fun p hp=>absurd (show p∈([]:List (Addr×Obj)) from hp) (by simp),e0.hok.kept hk,?_⟩
 ·exact name_of_addr x.apart (PySem.mem_of_lookup h1) (PySem.mem_of_lookup h2)
 ·have hy:scope.names.lookup y=some .cell\/scope.names.lookup y=some .free:=hy
  rcases hy with hy | hy
  ·exact cell_has hy
  ·exact absurd rfl (S.nofree _ (PySem.mem_of_lookup hy))
 ·exact Nat.le_of_lt (x.above y c (PySem.mem_of_lookup h))
 ·have hi:i<vs.length:=by
   unfold start at h2
   by_cases hi:i<vs.length
   ·exact hi
   ·rw [List.getElem?_append_right (by simpa using hi)] at h2
    rw [List.getElem?_replicate] at h2
    split at h2 <;> cases h2
  have ha:vs[i]?=some v:=by
   unfold start at h2
   rw [List.getElem?_append_left (by simpa using hi),List.getElem?_map] at h2
   cases e:vs[i]? with
   | none=>rw [e] at h2; cases h2
   | some a=>rw [e] at h2; cases h2; rfl
  obtain⟨u,hu,rv⟩:=r.get ha
  have hp:ps[i]?=some y:=by
   rw [← S.pre,List.getElem?_take_of_lt (by omega)]; exact h1
  have ndP:ps.Nodup:=by rw [← S.pre]; exact S.nd.sublist (List.take_sublist _ _)
  refine⟨u,rv,?_⟩
  rcases S.par y (List.mem_of_getElem? hp) with k | k
  ·exact .inl ⟨k,bindL_get ndP hp hu k⟩
  ·obtain⟨c,e⟩:=cell_has (n:=s.heap.objs.size+1) k
   refine .inr ⟨.inl k,c,e,?_⟩
   have q:=x.cell y c e
   rw [bindC_get ndP hp hu (by show scope.names.lookup y≠_; rw [k]; decide)] at q
   exact q
 ·exact e0.hok.fresh (Nat.le_of_lt (x.above y c (PySem.mem_of_lookup h)))
 ·unfold start
  show _=N.length
  rw [List.length_append,List.length_map,List.length_replicate]
  omega
theorem fn_of {CX:CXT}{P:Program}{w:World}{K:PySem.W.Frag}{mg:Str->Option Value}{base:Heap}{k:Nat}{f:Addr}{name qual:Str}{params:Arguments}{body:List Stmt}{scope:Scope}{dV kV doc pm cdv ct oc:Value}{an od:Option Addr}
  {osl:Array (Option Value)}{N ps:List Str}{sp:Sp} (lk:K.lookup f=some ⟨oc,od,.func (PySem.W.fnOf name qual params body scope dV kV doc pm an cdv ct),osl⟩) (hcd:PySem.W.codeIn K cdv qual=true) (S:FnScope N ps scope)
  (len:∀ vs H Q E,sp vs H Q E->vs.length=ps.length)
  (hbody:∀ (A:Around) (outer:List Env) (s:Shared) (H:Hp) (vs:List V) (Q:VK) (E:XK),Room k (A.deeper (envOfC qual scope s.heap.objs.size f cdv))->sp vs H Q E ->
   ∃ t,PSs (cxOf CX P w K mg base N qual scope f cdv A outer s H E) body t/\t { nx:=fun _ H'=>Q .non H',rt:=Q } (start N vs) H) :
  FnOk P w K mg base CX (k+1) f (PySem.W.fnOf name qual params body scope dV kV doc pm an cdv ct) ps sp:=by
 refine⟨len,fun A outer s H args us vs Q E hr e0 hb r hsp=>?_⟩
 have hl:=len _ _ _ _ hsp
 have KX:K.In s.heap:=e0.mod.kin.keeps fun b o e=>(e0.bs b o e).1
 have lim:s.heap.NoLimit:=e0.mod.nolimit.keeps fun b o e=>(e0.bs b o e).1
 have hkind:∀ y∈ps.zip us,scope.names.lookup y.1=some .local\/(scope.names.lookup y.1=some .cell/\((cellsFrom (s.heap.objs.size+1) scope.names []).lookup y.1).isSome=true):=fun ⟨n,v⟩ hy=>by
  rcases S.par n (List.of_mem_zip hy).1 with q | q
  ·exact .inl q
  ·exact .inr ⟨q,PySem.W.cellsFrom_some _ _ _ (.inl q)⟩
 refine codeAny_call_function hr.depth (KX _ _ lk) rfl S.co S.gen rfl (PySem.W.codeRec_of KX hcd) (hb _ _ _ _ ?_)
 refine wpAny_newFunctionEnv_cells S.kind hkind fun env he s1 x=>?_
 subst he
 refine⟨lim.keeps x.toInCall.keep,codeAny_func ?_⟩
 obtain⟨t,ht,hq⟩:=hbody A outer s H vs Q E (hr.deeper _) hsp
 have I:Inv (cxOf CX P w K mg base N qual scope f cdv A outer s H E) [] (start N vs) H s1:=inv_start S hr.hd e0 hl r x
 refine wpAny_mono (ht [] s1 (start N vs) H _ I hq) (fun fl s' hs=>?_) fun e s' hs=>hs
 have fin:∀ {σ':St}{H':Hp}{v:V}{u:Value},Inv (cxOf CX P w K mg base N qual scope f cdv A outer s H E) [] σ' H' s'->RelV v u->Q v H'->CE outer P w H s Q u s' :=
  fun {σ' H' v u} J rv q=>⟨v,H',J.os,J.bare,J.base,J.hok,rv,q⟩
 cases fl with
 | ret u =>
  obtain⟨v,σ',H',J,rv,q⟩:=hs
  exact fin J rv q
 | next =>
  obtain⟨σ',H',J,q⟩:=hs
  exact fin (v:=V.non) (u:=Value.none) J rfl q
 | brk =>
  obtain⟨_,_,_,q⟩:=hs
  exact False.elim q
 | cont =>
  obtain⟨_,_,_,q⟩:=hs
  exact False.elim q
section
variable {X:Cx}{x:Str}{p pos:Pos}{e:Expr}{es:List Expr}{t:TA}{id T:String}{r:List V->Hp->VK->Prop}
noncomputable def tCB (r:List V->Hp->VK->Prop) (t:TA):TE:=fun σ H Q=>t σ H fun vs H1=>r vs H1 Q
theorem dB (hc:cU X (.builtin id) r) (hg:Gl X x) (hm:X.mg x=none) (hv:bootBuiltins x=some (.builtin id)) (ha:PA X (e::es) t) (hn:x≠"__name__":=by decide) (hdb:(x == ("__debug__":Str))=false:=by decide)
  (he:starEach (e::es) X.env=(false,eval e X.env)::starEach es X.env:=by rfl) (hpl:(backTo pos (starEach es X.env)).any (·.1)=false:=by rfl):PE X (.Call (.Name x p) (e::es) [] pos) (tCB r t):=by
 intro pins s σ H Q I h
 refine wpAny_Call_Name_kw (iV I hg hm hv ?_ hn hdb)
 exact PyProof.Rows.callWith_builtin1 (thn (ha pos pins s σ H _ I h) fun us s1 ⟨vs,H1,I1,r1,q1⟩=>hc pins s1 σ H1 vs us Q I1 r1 q1) he hpl
theorem pe_callTy (hc:cU X (.type T) r) (hg:Gl X x) (hm:X.mg x=none) (hv:bootBuiltins x=some (.type T)) (ha:PA X (e::es) t) (hn:x≠"__name__":=by decide) (hdb:(x == ("__debug__":Str))=false:=by decide)
  (he:starEach (e::es) X.env=(false,eval e X.env)::starEach es X.env:=by rfl) (hpl:(backTo pos (starEach es X.env)).any (·.1)=false:=by rfl):PE X (.Call (.Name x p) (e::es) [] pos) (tCB r t):=by
 intro pins s σ H Q I h
 refine wpAny_Call_Name_kw (iV I hg hm hv ?_ hn hdb)
 exact PyProof.Rows.callWith_type1 (thn (ha pos pins s σ H _ I h) fun us s1 ⟨vs,H1,I1,r1,q1⟩=>hc pins s1 σ H1 vs us Q I1 r1 q1) he hpl
end
end L2
namespace HT
open PySem PyProof.Rows
section
open PySem.SeqAt
open PySem.AutoSeq1 (wpAny_loadPart')
open PySem.MeetsSeq PySem.MeetsSeq2 PySem.MeetsSeq3
end
section
variable {prog:Program}{w:World}{A:Around}{E:Value->Shared->Prop}{s:Shared}
theorem cat_tup {t b:Addr}{vs ws:List Value}{Q:Value->Shared->Prop} (ht:IsTup s.heap t vs.toArray) (hb:IsTup s.heap b ws.toArray) (hv:vs≠[])
  (h1:ws=[]->Q (.ref t) s) (h2:ws≠[]->Q (.ref s.heap.objs.size) { s with heap:=s.heap.push { cls:=.type "tuple",data:=.seq (vs++ws).toArray } })
  (hsz:vs.length+ws.length<=sizeLine):wpAny (model prog w) A (binaryOp .Add (.ref t) (.ref b)) Q E s:=by
 obtain⟨⟨cls,dd,data,sl⟩,ho,hc,n,hd⟩:=id ht
 obtain⟨⟨cls2,dd2,data2,sl2⟩,ho2,hc2,n2,hd2⟩:=id hb
 simp only at hc hd hc2 hd2
 subst hc hd hc2 hd2
 have e:vs.toArray++ws.toArray=(vs++ws).toArray:=by simp
 by_cases hw:ws=[]
 ·exact concat_meets ⟨_,ho,rfl⟩ ⟨_,ho2,rfl⟩ noFill_tuple_add seq_tuple_add PySem.F.slot_tuple_add PySem.F.entry_tuple_add (PySem.F.args_tuple_add_2 _ _)
   (tuple_addW1 t b vs.toArray ws.toArray n n2 dd dd2 sl sl2 (by simpa using hv) (by simp [hw])) ⟨ho,ho2,h1 hw⟩
 ·refine concat_meets ⟨_,ho,rfl⟩ ⟨_,ho2,rfl⟩ noFill_tuple_add seq_tuple_add PySem.F.slot_tuple_add PySem.F.entry_tuple_add (PySem.F.args_tuple_add_2 _ _)
   (tuple_addW2 t b vs.toArray ws.toArray n n2 dd dd2 sl sl2 (by simpa using hv) (by simpa using hw) (by rw [List.size_toArray,List.size_toArray]; exact hsz)) ⟨ho,ho2,?_⟩
  rw [e]
  exact h2 hw
noncomputable def sIx (n d:Nat):Option Int->Nat
 | none=>d
 | some v=>if v<0 then (v+(n:Int)).toNat else min v.toNat n
theorem sIx_nat (n d k:Nat):sIx n d (some (k:Int))=min k n:=by
 show (if (k:Int)<0 then ((k:Int)+(n:Int)).toNat else min (k:Int).toNat n)=min k n
 rw [if_neg (by omega),Int.toNat_natCast]
theorem sIx_le (n d:Nat) (hd:d<=n) (o:Option Int):sIx n d o<=n:=by
 cases o with
 | none=>exact hd
 | some v =>
  show (if v<0 then (v+(n:Int)).toNat else min v.toNat n)<=n
  by_cases hv:v<0
  ·rw [if_pos hv]; omega
  ·rw [if_neg hv]; exact Nat.min_le_right _ _
theorem clip_eq (v:Int) (n d:Nat):(if v<0 then max (v+(n:Int)) 0 else min v (n:Int))=((sIx n d (some v):Nat):Int):=by
 show (if v<0 then max (v+(n:Int)) 0 else min v (n:Int))=(((if v<0 then (v+(n:Int)).toNat else min v.toNat n):Nat):Int)
 by_cases hv:v<0
 ·simp only [if_pos hv]; omega
 ·simp only [if_neg hv]; omega
theorem adjust_gen (lo hi:Option Int) (n:Nat):Builtin.Slice.sliceAdjust lo hi 1 (n:Int)=(((sIx n 0 lo:Nat):Int),((sIx n n hi:Nat):Int)):=by
 have h1:¬ ((1:Int)<0):=by omega
 unfold Builtin.Slice.sliceAdjust
 simp only [h1,if_false]
 refine Prod.ext ?_ ?_
 ·cases lo with
  | none=>rfl
  | some v=>exact clip_eq v n 0
 ·cases hi with
  | none=>rfl
  | some v=>exact clip_eq v n n
theorem places_gen (i j:Nat):Builtin.Slice.slicePlaces (i:Int) (j:Int) 1=j - i:=by
 unfold Builtin.Slice.slicePlaces
 have h1:(1:Int) > 0:=by omega
 simp only [h1,if_true,Int.ediv_one]
 split <;> omega
theorem slicePart_ {v:Value}{o:Option Int}{Q:Option Int->Shared->Prop} (p:IsPart v o) (h:Q o s):wpAny (model prog w) A (Builtin.Slice.slicePartIndex v) Q E s:=by
 cases p with
 | none=>exact slicePart_none h
 | int i t=>exact slicePart_int h
theorem sliceApplied_gen {sl:Addr}{vl vu:Value}{lo hi:Option Int}{n:Nat}{Q:Int×Int×Nat->Shared->Prop} (hs:s.heap.IsSliceOf sl vl vu .none) (pl:IsPart vl lo) (pu:IsPart vu hi)
  (h:Q (((sIx n 0 lo:Nat):Int),1,sIx n n hi - sIx n 0 lo) s):wpAny (model prog w) A (Builtin.Slice.sliceApplied (.ref sl) (pure (n:Int))) Q E s:=by
 obtain⟨os,hos,hcs,hds⟩:=id hs
 unfold Builtin.Slice.sliceApplied Builtin.Slice.sliceFields
 refine wpAny_bind (wpAny_bind (wpAny_field hos hds (x:=vl) rfl (wpAny_bind (wpAny_field hos hds (x:=vu) rfl (wpAny_bind (wpAny_field hos hds (x:=.none) rfl (wpAny_pure ?_)))))))
 refine wpAny_bind (slicePart_none ?_)
 show wpAny _ _ (if ((1:Int) == 0)=true then _ else _) _ _ s
 rw [if_neg (by decide)]
 refine wpAny_bind (slicePart_ pl (wpAny_bind (slicePart_ pu (wpAny_bind (wpAny_pure ?_)))))
 show wpAny _ _ (match Builtin.Slice.sliceAdjust lo hi 1 (n:Int) with | (lo,hi)=>pure (lo,(1:Int),Builtin.Slice.slicePlaces lo hi 1)) _ _ s
 rw [adjust_gen lo hi n]
 show wpAny _ _ (pure (((sIx n 0 lo:Nat):Int),(1:Int),Builtin.Slice.slicePlaces ((sIx n 0 lo:Nat):Int) ((sIx n n hi:Nat):Int) 1)) _ _ s
 rw [places_gen]
 exact wpAny_pure h
theorem pick_gen (xs:Array Value) (i k:Nat):((List.range k).filterMap fun (m:Nat)=>xs[((i:Int)+(m:Int) * 1).toNat]?).toArray=((xs.toList.drop i).take k).toArray:=by
 have e:(fun (m:Nat)=>xs[((i:Int)+(m:Int) * 1).toNat]?)=fun m=>xs[i+m]?:=by
  funext m
  have:((i:Int)+(m:Int) * 1).toNat=i+m:=by omega
  rw [this]
 rw [e]
 have:=pick_run xs i k
 rw [List.filterMap_map] at this
 have e2:((fun x=>xs[x]?) ∘ fun x=>i+x)=fun m=>xs[i+m]?:=rfl
 rw [e2] at this
 rw [this]
theorem getItem_tuple_cut {t sl:Addr}{items:Array Value}{vl vu:Value}{lo hi:Option Int}{Q:Value->Shared->Prop} (ht:IsTup s.heap t items) (hs:s.heap.IsSliceOf sl vl vu .none) (pl:IsPart vl lo) (pu:IsPart vu hi)
  (hw:¬ (sIx items.size 0 lo=0/\sIx items.size items.size hi=items.size))
  (h:Q (.ref s.heap.objs.size) { s with heap:=s.heap.push { cls:=.type "tuple",data:=.seq ((items.toList.drop (sIx items.size 0 lo)).take (sIx items.size items.size hi - sIx items.size 0 lo)).toArray } })
  (hsz:items.size<=sizeLine):wpAny (model prog w) A (getItem (.ref t) (.ref sl)) Q E s:=by
 have htake:sizeOk (.seq ((items.toList.drop (sIx items.size 0 lo)).take (sIx items.size items.size hi - sIx items.size 0 lo)).toArray):=by
  show ((items.toList.drop (sIx items.size 0 lo)).take (sIx items.size items.size hi - sIx items.size 0 lo)).toArray.size<=sizeLine
  rw [List.size_toArray,List.length_take,List.length_drop,Array.length_toList]
  omega
 have hj:sIx items.size items.size hi<=items.size:=sIx_le _ _ (Nat.le_refl _) hi
 obtain⟨os,hos,hcs,hds⟩:=id hs
 have hTs:s.TypeIs (.ref sl) "slice":=⟨os,hos,hcs⟩
 unfold getItem
 try with_reducible refine wpAny_holding ?_
 first | refine wpAny_bind (wpAny_pure ?_) | skip
 refine wpAny_bind (wpAny_sequenceKey ht.typeIs (by decide) ?_)
 refine wpAny_bind (wpAny_callSpecial?_slot (name:=Str.ofString "__getitem__") ht.typeIs PyProof.Rows.slot_tuple_getitem
  (wpAny_call_entry PyProof.Rows.slot_tuple_getitem ht.typeIs entry_tuple_getitem ?_ (args_tuple_getitem _ _)))
 show wpAny _ _ (Builtin.Tuple.tupleItemsOf (.ref t) >>= _) _ _ s
 refine wpAny_bind (tupleItemsOf_ ht ?_)
 refine wpAny_bind (wpAny_typeOf hTs ?_)
 rw [if_pos (by decide)]
 refine wpAny_bind (sliceApplied_gen hs pl pu ?_)
 have hno:¬ ((((sIx items.size 0 lo:Nat):Int) == 0&&(1:Int) == 1&&(sIx items.size items.size hi - sIx items.size 0 lo) == items.size)=true):=by
  intro q
  rw [Bool.and_eq_true,Bool.and_eq_true] at q
  have q1:((sIx items.size 0 lo:Nat):Int)=0:=eq_of_beq q.1.1
  have q2:sIx items.size items.size hi - sIx items.size 0 lo=items.size:=eq_of_beq q.2
  exact hw ⟨by omega,by omega⟩
 show wpAny _ _ (if (((sIx items.size 0 lo:Nat):Int) == 0&&(1:Int) == 1&&(sIx items.size items.size hi - sIx items.size 0 lo) == items.size)=true then _ else _) _ _ s
 rw [if_neg hno,pick_gen]
 first
  | exact wpAny_bind (m:=Builtin.Tuple.tupleExact _) (wpAny_newObj_type (wpAny_pure ⟨_,rfl,wpAny_pure h⟩) htake)
  | exact wpAny_bind (m:=Builtin.Tuple.tupleExact _) (wpAny_newObj_type (wpAny_bind (wpAny_pure (wpAny_pure ⟨_,rfl,wpAny_pure h⟩))) htake)
  | exact wpAny_bind (wpAny_bind (m:=Builtin.Tuple.tupleExact _) (wpAny_newObj_type (wpAny_pure (wpAny_pure ⟨_,rfl,wpAny_pure h⟩)) htake))
  | exact wpAny_bind (wpAny_bind (m:=Builtin.Tuple.tupleExact _) (wpAny_newObj_type (wpAny_pure ⟨_,rfl,wpAny_pure h⟩) htake))
end
end HT
namespace L2
open PySem PySem.Spec PyProof.Rows
noncomputable abbrev TO:=St->Hp->(Option Int->Hp->Prop)->Prop
noncomputable def PO (X:Cx) (e:Option Expr) (t:TO):Prop :=
 ∀ (pins:List (Addr×Obj)) (s:Shared) (σ:St) (H:Hp) (Q:Option Int->Hp->Prop),Inv X pins σ H s->t σ H Q ->
  wpAny (model X.prog X.w) X.A (evalPart e X.env) (fun u s'=>∃ o H',Inv X pins σ H' s'/\IsPart u o/\Q o H') X.xe s
noncomputable def tPart (t:TE):TO:=fun σ H Q=>t σ H fun x H1=>∃ i,x=.int i/\Q (some i) H1
theorem intsAre_of {ns:List Int}:∀ {us:List Value},Vals (ns.map V.int) us->IntsAre us ns:=by
 induction ns with
 | nil=>intro us r; rw [List.map_nil] at r; cases r; exact .nil
 | cons n ns ih =>
  intro us r
  rw [List.map_cons] at r
  cases r with
  | cons r1 r2 =>
   obtain⟨t,e⟩:=r1
   subst e
   exact .cons n t (ih r2)
section
variable {X:Cx}{e:Expr}{te:TE}{lo hi:Option Expr}{tl th:TO}{pos p2:Pos}
theorem po_some (h:PE X e te):PO X (some e) (tPart te):=by
 intro pins s σ H Q I hw
 rw [evalPart_some]
 refine thn (h pins s σ H _ I hw) fun u s1 ⟨x,H1,I1,r1,q1⟩=>?_
 obtain⟨i,rfl,q⟩:=q1
 obtain⟨t,rfl⟩:=r1
 exact⟨some i,H1,I1,.int i t,q⟩
noncomputable def SlR (X:Cx) (r:V->Option Int->Option Int->Hp->VK->Prop):Prop :=
 ∀ (pins:List (Addr×Obj)) (s:Shared) (σ:St) (H:Hp) (x:V) (v vl vu:Value) (lo hi:Option Int) (sl:Addr) (Q:VK),Inv X pins σ H s->RelV x v->s.heap.IsSliceOf sl vl vu .none->IsPart vl lo->IsPart vu hi->r x lo hi H Q ->
  ∃ T id,typeLookup (.type T) "__getitem__"=pure (some (.builtin id))/\s.TypeIs v T/\wpAny (model X.prog X.w) X.A (getItem v (.ref sl)) (EP X pins σ Q) X.xe s
theorem SlR.or {r r':V->Option Int->Option Int->Hp->VK->Prop} (h:SlR X r) (h':SlR X r'):SlR X (fun x lo hi H Q=>r x lo hi H Q\/r' x lo hi H Q):=by
 intro pins s σ H x v vl vu lo hi sl Q I rx hs pl pu q
 rcases q with q | q
 ·exact h pins s σ H x v vl vu lo hi sl Q I rx hs pl pu q
 ·exact h' pins s σ H x v vl vu lo hi sl Q I rx hs pl pu q
noncomputable def tSl (r:V->Option Int->Option Int->Hp->VK->Prop) (te:TE) (tl th:TO):TE:=fun σ H Q=>te σ H fun x H1=>tl σ H1 fun l H2=>th σ H2 fun u H3=>r x l u H3 Q
theorem pe_slice {r:V->Option Int->Option Int->Hp->VK->Prop} (hr:SlR X r) (he:PE X e te) (hl:PO X lo tl) (hu:PO X hi th):PE X (.Subscript e (.Slice lo hi none p2) pos) (tSl r te tl th):=by
 intro pins s σ H Q I h
 refine Subscript_ (thn (he pins s σ H _ I h) fun v s1 ⟨x,H1,I1,r1,q1⟩=>?_)
 refine wpAny_Slice (thn (hl pins s1 σ H1 _ I1 q1) fun vl s2 ⟨l,H2,I2,pl,q2⟩=>thn (hu pins s2 σ H2 _ I2 q2) fun vu s3 ⟨u,H3,I3,pu,q3⟩=>?_)
 rw [evalPart_none]
 refine wpAny_pure ?_
 have I4:Inv X pins σ H3 { s3 with heap:=s3.heap.push { cls:=.type "slice",data:=.fields #[vl,vu,.none] } }:=I3.kept (t':=s3.toks) fun b ob q=>Heap.get?_push_of_some _ q
 obtain⟨T,id,hT,ht,hg⟩:=hr pins { s3 with heap:=s3.heap.push { cls:=.type "slice",data:=.fields #[vl,vu,.none] } } σ H3 x v vl vu l u s3.heap.objs.size Q I4 r1 (Heap.IsSliceOf.new ..) pl pu q3
 show wpAny (model X.prog X.w) X.A (subscriptTail e (.Slice lo hi none p2) v (.ref s3.heap.objs.size)) (EP X pins σ Q) X.xe { s3 with heap:=s3.heap.push { cls:=.type "slice",data:=.fields #[vl,vu,.none] } }
 exact tail_any (ops:=[.ref s3.heap.objs.size,v]) ht hT hg (by with_unfolding_all rfl)
noncomputable def cutV (xs:List V) (lo hi:Option Int):List V:=(xs.drop (HT.sIx xs.length 0 lo)).take (HT.sIx xs.length xs.length hi - HT.sIx xs.length 0 lo)
theorem cutV_length (xs:List V) (lo hi:Option Int):(cutV xs lo hi).length<=xs.length:=by
 unfold cutV
 rw [List.length_take,List.length_drop]
 omega
noncomputable def rSlT (K:PySem.W.Frag):V->Option Int->Option Int->Hp->VK->Prop:=fun x lo hi H Q=>∃ a xs,x=.ref a/\SqT K H a xs /\
 ¬ (HT.sIx xs.length 0 lo=0/\HT.sIx xs.length xs.length hi=xs.length)/\∀ p,H p=none->Q (.ref p) (upd H p (.tup (cutV xs lo hi)))
theorem sl_tup:SlR X (rSlT X.K):=by
 intro pins s σ H x v vl vu lo hi sl Q I rx hs pl pu h
 obtain⟨a,xs,rfl,hx,hw,q⟩:=h
 cases rx
 obtain⟨its,r,ht,hz⟩:=I.tuple hx
 have hlen:its.toArray.size=xs.length:=by rw [List.size_toArray]; exact r.length.symm
 refine⟨"tuple",_,PyProof.Rows.slot_tuple_getitem.lookup,ht.typeIs,?_⟩
 refine HT.getItem_tuple_cut ht hs pl pu (by rw [hlen]; exact hw) ?_ (by rw [hlen]; exact hz)
 rw [hlen]
 refine⟨.ref s.heap.objs.size,_,I.laid (t':=s.toks) (o:=.tup (cutV xs lo hi)) (fun b ob q=>Heap.get?_push_of_some _ q) (Nat.le_refl _) ?_,rfl,q _ (I.hok.fresh (Nat.le_refl _))⟩
 exact⟨Nat.le_trans (cutV_length xs lo hi) hz,_,(r.drop (HT.sIx xs.length 0 lo)).take (HT.sIx xs.length xs.length hi - HT.sIx xs.length 0 lo),IsTup.new _ _⟩
noncomputable def rCatT (K:PySem.W.Frag):R2:=fun x y H Q=>∃ a b xs ys,x=.ref a/\y=.ref b/\SqT K H a xs/\SqT K H b ys/\xs≠[]/\xs.length+ys.length<=sizeLine /\
 (ys=[]->Q (.ref a) H)/\(ys≠[]->∀ p,H p=none->Q (.ref p) (upd H p (.tup (xs++ys))))
theorem Vals.nil_iff {xs:List V}{us:List Value} (r:Vals xs us):us=[]↔xs=[]:=by
 cases r with
 | nil=>simp
 | cons _ _=>simp
theorem op_catT:OpR X (binaryOp .Add) (rCatT X.K):=by
 intro pins s σ H x y v u Q I rx ry h
 obtain⟨a,b,xs,ys,rfl,rfl,ha,hb,hx,hz,q1,q2⟩:=h
 cases rx
 cases ry
 obtain⟨its,r1,p1,_⟩:=I.tuple ha
 obtain⟨its2,r2,p2,_⟩:=I.tuple hb
 refine HT.cat_tup p1 p2 (fun z=>hx (r1.nil_iff.mp z)) (fun z=>⟨.ref a,H,I,rfl,q1 (r2.nil_iff.mp z)⟩) (fun z=>?_) (by rw [← r1.length,← r2.length]; exact hz)
 refine⟨.ref s.heap.objs.size,_,I.laid (t':=s.toks) (o:=.tup (xs++ys)) (fun b ob q=>Heap.get?_push_of_some _ q) (Nat.le_refl _) ?_,rfl,q2 (fun w=>z (r2.nil_iff.mpr w)) _ (I.hok.fresh (Nat.le_refl _))⟩
 exact⟨by rw [List.length_append]; exact hz,_,r1.append r2,IsTup.new _ _⟩
end
noncomputable def ixN (n:Nat) (i:Int):Option Nat:=if 0<=i then (if i<n then some i.toNat else none) else if -(n:Int)<=i then some (i+n).toNat else none
noncomputable def atI {α:Type} (xs:List α) (i:Int):Option α:=(ixN xs.length i).bind fun j=>xs[j]?
theorem ixN_seq {n:Nat}{i:Int}{j:Nat} (h:ixN n i=some j):seqIndex? i n=some j/\j<n/\-(n:Int)<=i/\i<n:=by
 unfold ixN at h
 by_cases h0:0<=i
 ·rw [if_pos h0] at h
  by_cases h1:i<n
  ·rw [if_pos h1] at h
   have e:i.toNat=j:=Option.some.inj h
   exact⟨by rw [seqIndex_of h0 h1,e],by omega,by omega,h1⟩
  ·rw [if_neg h1] at h; cases h
 ·rw [if_neg h0] at h
  by_cases h1:-(n:Int)<=i
  ·rw [if_pos h1] at h
   have e:(i+n).toNat=j:=Option.some.inj h
   exact⟨by rw [seqIndex_neg (by omega) h1,e],by omega,h1,by omega⟩
  ·rw [if_neg h1] at h; cases h
theorem atI_get {α:Type}{xs:List α}{i:Int}{v:α} (h:atI xs i=some v):∃ j,seqIndex? i xs.length=some j/\xs[j]?=some v/\j<xs.length/\-(xs.length:Int)<=i/\i<xs.length:=by
 unfold atI at h
 cases e:ixN xs.length i with
 | none=>rw [e] at h; cases h
 | some j =>
  rw [e] at h
  obtain⟨h1,h2,h3,h4⟩:=ixN_seq e
  exact⟨j,h1,h,h2,h3,h4⟩
theorem dY {α:Type}{xs:List α}{j:Nat}{v:α} (h:xs[j]?=some v):atI xs (j:Int)=some v:=by
 have hj:j<xs.length:=(List.getElem?_eq_some_iff.mp h).1
 have e:ixN xs.length (j:Int)=some j:=by
  unfold ixN
  rw [if_pos (by omega),if_pos (by omega)]; simp
 unfold atI; rw [e]; exact h
noncomputable def PlainIx (b:Expr):Prop:=∀ o i,subscripted b false o i=operate [o,i] (getItem o i)
noncomputable def IxR (X:Cx) (r:R2):Prop :=
 ∀ (value slice:Expr) (pins:List (Addr×Obj)) (s:Shared) (σ:St) (H:Hp) (x y:V) (v u:Value) (Q:VK),Inv X pins σ H s->RelV x v->RelV y u->r x y H Q ->
  subscripted slice false v u=operate [v,u] (getItem v u)->wpAny (model X.prog X.w) X.A (subscriptTail value slice v u) (EP X pins σ Q) X.xe s
noncomputable def MtR (X:Cx) (id:String) (r:V->List V->Hp->VK->Prop):Prop :=
 ∀ (pins:List (Addr×Obj)) (s:Shared) (σ:St) (H:Hp) (x:V) (xs:List V) (v:Value) (us:List Value) (Q:VK),Inv X pins σ H s->RelV x v->Vals xs us->r x xs H Q ->
  wpAny (model X.prog X.w) X.A (call (.builtin id) (v::us)) (EP X pins σ Q) X.xe s
section
variable {X:Cx}{a b:Expr}{ta tb:TE}{pos:Pos}
theorem IxR.or {r r':R2} (h:IxR X r) (h':IxR X r'):IxR X (fun x y H Q=>r x y H Q\/r' x y H Q):=by
 intro value slice pins s σ H x y v u Q I rx ry q hs
 rcases q with q | q
 ·exact h value slice pins s σ H x y v u Q I rx ry q hs
 ·exact h' value slice pins s σ H x y v u Q I rx ry q hs
theorem fj {r:R2} (hr:IxR X r) (ha:PE X a ta) (hb:PE X b tb) (hs:PlainIx b):PE X (.Subscript a b pos) (tOp r ta tb):=by
 intro pins s σ H Q I h
 exact Subscript_ (binT ha hb I h fun v u s2 x y H2 I2 rx ry q=>hr a b pins s2 σ H2 x y v u Q I2 rx ry q (hs _ _))
noncomputable def rIxL (K:PySem.W.Frag):R2:=fun x y H Q=>∃ p xs i v,x=.ref p/\y=.int i/\SqL K H p xs/\atI xs i=some v/\Q v H
noncomputable def rIxT (K:PySem.W.Frag):R2:=fun x y H Q=>∃ p xs i v,x=.ref p/\y=.int i/\SqT K H p xs/\atI xs i=some v/\Q v H
theorem dW:IxR X (rIxL X.K):=by
 intro value slice pins s σ H x y v u Q I rx ry h hs
 obtain⟨p,xs,i,z,rfl,rfl,hq,he,q⟩:=h
 cases rx
 obtain⟨t,rfl⟩:=ry
 obtain⟨its,r,pl,hz⟩:=I.list hq
 obtain⟨j,h1,h2,h3,h4,h5⟩:=atI_get he
 obtain⟨w,ew,rw'⟩:=r.get h2
 have hl:=r.length
 have hn:=line63
 have fin:EP X pins σ Q w s:=⟨z,H,I,rw',q⟩
 by_cases h0:0<=i
 ·have hj:i.toNat=j:=by
   rw [seqIndex_of h0 h5] at h1
   exact Option.some.inj h1
  exact item_listR pl.isList h0 (by omega) (by rw [hj]; simpa using ew) fin hs
 ·have hj:(i+(its.toArray.size:Int)).toNat=j:=by
   rw [seqIndex_neg (by omega) h4] at h1
   rw [List.size_toArray,← hl]
   exact Option.some.inj h1
  exact subscriptTail_builtinR (x:=w) pl.isList.typeIs slot_list_getitem.lookup
   (wpAny_getItem_list_neg (Q:=fun r s'=>r=w/\EP X pins σ Q r s') pl.isList (by omega) (by rw [List.size_toArray] <;> omega) (by omega) (by rw [hj]; simpa using ew) ⟨rfl,fin⟩) hs
theorem lF:IxR X (rIxT X.K):=by
 intro value slice pins s σ H x y v u Q I rx ry h hs
 obtain⟨p,xs,i,z,rfl,rfl,hq,he,q⟩:=h
 cases rx
 obtain⟨t,rfl⟩:=ry
 obtain⟨its,r,pl,hz⟩:=I.tuple hq
 obtain⟨j,h1,h2,h3,h4,h5⟩:=atI_get he
 obtain⟨w,ew,rw'⟩:=r.get h2
 have hl:=r.length
 have hn:=line63
 have fin:EP X pins σ Q w s:=⟨z,H,I,rw',q⟩
 exact subscriptTail_builtinR (x:=w) pl.typeIs slot_tuple_getitem.lookup
  (getItem_tuple (j:=j) (Q:=fun r s'=>r=w/\EP X pins σ Q r s') pl (by omega) (by omega) (by rw [List.size_toArray,← hl]; exact h1) (by simpa using ew) ⟨rfl,fin⟩) hs
theorem mapSeq_set (its:List Value) (n j:Nat) (u:Value):Obj.mapSeq (·.setIfInBounds j u) { cls:=.type "list",data:=.seq its.toArray n }={ cls:=.type "list",data:=.seq (its.set j u).toArray n }:=by
 simp [Obj.mapSeq]
theorem Inv.lst {pins:List (Addr×Obj)}{σ:St}{H:Hp}{s:Shared}{p:Addr}{xs:List V} (I:Inv X pins σ H s) (h:H p=some (.lst xs)) :
  ∃ (its:List Value) (n:Nat),Vals xs its/\s.heap.get? p=some { cls:=.type "list",data:=.seq its.toArray n }/\xs.length<=sizeLine:=by
 obtain⟨z,its,n,r,e⟩:=I.hok p _ h
 exact⟨its,n,r,e,z⟩
theorem Inv.lstUpd {pins:List (Addr×Obj)}{σ:St}{H:Hp}{s:Shared}{p:Addr}{xs ys:List V}{its its':List Value}{n n':Nat}{f:Obj->Obj} (I:Inv X pins σ H s) (h:H p=some (.lst xs))
  (ho:s.heap.get? p=some { cls:=.type "list",data:=.seq its.toArray n }) (hf:f { cls:=.type "list",data:=.seq its.toArray n }={ cls:=.type "list",data:=.seq its'.toArray n' }) (r:Vals ys its') (hz:ys.length<=sizeLine) (t:Nat) :
  Inv X pins σ (upd H p (.lst ys)) { s with heap:=s.heap.update p f,toks:=t }:=by
 have e:(s.heap.update p f).get? p=some { cls:=.type "list",data:=.seq its'.toArray n' }:=by
  rw [Heap.get?_update_self f ho (by rw [hf] <;> rfl),hf]
 refine I.write (x:=p) (e:=p) (by rw [h]; trivial) (.inl rfl) (fun b u hb q=>(Heap.get?_update_other _ _ (Ne.symm hb)).trans q) ⟨_,e⟩ ?_
 exact⟨hz,its',n',r,e⟩
noncomputable def rSetL:V->V->V->Hp->(Hp->Prop)->Prop:=fun o i v H Q=>∃ p xs k j,o=.ref p/\i=.int k/\H p=some (.lst xs)/\ixN xs.length k=some j/\Q (upd H p (.lst (xs.set j v)))
theorem set_list:PSet X rSetL:=by
 intro pins s σ H o i v ov iv u Q I ro ri rv h
 obtain⟨p,xs,k,j,rfl,rfl,hp,hj,q⟩:=h
 cases ro
 obtain⟨t,rfl⟩:=ri
 obtain⟨its,n,r,ho,hz⟩:=I.lst hp
 obtain⟨h1,h2,h3,h4⟩:=ixN_seq hj
 have hl:=r.length
 have hn:=line63
 have I':Inv X pins σ (upd H p (.lst (xs.set j v))) { s with heap:=s.heap.update p (Obj.mapSeq (·.setIfInBounds j u)) } :=
  I.lstUpd hp ho (mapSeq_set its n j u) (r.set rv j) (by rw [List.length_set]; exact hz) s.toks
 by_cases h0:0<=k
 ·have hk:k.toNat=j:=by
   rw [seqIndex_of h0 h4] at h1
   exact Option.some.inj h1
  exact PySem.W.ki_setAt ho h0 (by omega) (by rw [List.size_toArray,← hl]; exact h4) (by rw [hk]; exact⟨_,I',q⟩)
 ·have hk:(k+(its.toArray.size:Int)).toNat=j:=by
   rw [seqIndex_neg (by omega) h3] at h1
   rw [List.size_toArray,← hl]
   exact Option.some.inj h1
  exact PySem.W.ki_setBack ho (by omega) (by rw [List.size_toArray,← hl]; exact h3) (by omega) (by rw [hk]; exact⟨_,I',q⟩)
theorem slice_bounds (lo hi:Option Int) (n:Nat):(sliceBounds lo hi none n).1=((HT.sIx n 0 lo:Nat):Int)/\(sliceBounds lo hi none n).2.1=((HT.sIx n n hi:Nat):Int)/\(sliceBounds lo hi none n).2.2=1:=by
 refine⟨?_,?_,rfl⟩
 ·cases lo with
  | none=>simp [sliceBounds,HT.sIx]
  | some i =>
   simp only [sliceBounds,HT.sIx,Option.getD_none,show (1:Int) > 0 by decide,if_true]
   by_cases h:i<0
   ·simp only [h,if_true] <;> omega
   ·simp only [h,if_false] <;> omega
 ·cases hi with
  | none=>simp [sliceBounds,HT.sIx]
  | some i =>
   simp only [sliceBounds,HT.sIx,Option.getD_none,show (1:Int) > 0 by decide,if_true]
   by_cases h:i<0
   ·simp only [h,if_true] <;> omega
   ·simp only [h,if_false] <;> omega
theorem slicePick_cut (its:List Value) (lo hi:Option Int):slicePick its.toArray lo hi none=((its.drop (HT.sIx its.length 0 lo)).take (HT.sIx its.length its.length hi - HT.sIx its.length 0 lo)).toArray:=by
 obtain⟨h1,h2,h3⟩:=slice_bounds lo hi its.toArray.size
 unfold slicePick
 rw [h1,h2,h3]
 simp only [sliceRange_one,pick_run,List.size_toArray] <;> rfl
noncomputable def rSlL (K:PySem.W.Frag):V->Option Int->Option Int->Hp->VK->Prop:=fun x lo hi H Q=>∃ a xs,x=.ref a/\SqL K H a xs/\∀ p,H p=none->Q (.ref p) (upd H p (.lst (cutV xs lo hi)))
theorem sl_list:SlR X (rSlL X.K):=by
 intro pins s σ H x v vl vu lo hi sl Q I rx hs pl pu h
 obtain⟨a,xs,rfl,hx,q⟩:=h
 cases rx
 obtain⟨its,r,ht,hz⟩:=I.list hx
 have hlen:=r.length
 refine⟨"list",_,slot_list_getitem.lookup,ht.isList.typeIs,?_⟩
 refine wpAny_getItem_list_slice ht.isList hs pl pu .none (by simp) ?_ (by rw [List.size_toArray] <;> omega)
 rw [slicePick_cut,← hlen]
 refine⟨.ref s.heap.objs.size,_,I.laid (t':=s.toks) (o:=.lst (cutV xs lo hi)) (fun b ob q=>Heap.get?_push_of_some _ q) (Nat.le_refl _) ?_,rfl,q _ (I.hok.fresh (Nat.le_refl _))⟩
 exact⟨Nat.le_trans (cutV_length xs lo hi) hz,_,0,(r.drop (HT.sIx xs.length 0 lo)).take (HT.sIx xs.length xs.length hi - HT.sIx xs.length 0 lo),Heap.get?_push_size _ rfl⟩
theorem fJ:cU X (.builtin "len") (fun xs H Q=>∃ p ys,xs=[.ref p]/\(SqL X.K H p ys\/SqT X.K H p ys)/\Q (.int ys.length) H):=by
 intro pins s σ H xs us Q I r h
 obtain⟨p,ys,rfl,hq,q⟩:=h
 obtain⟨u,rfl,rx⟩:=vals1 r
 cases rx
 have hn:=line63
 rcases hq with hq | hq
 ·obtain⟨its,r',pl,hz⟩:=I.list hq
  have hlen:=r'.length
  exact Calls.call_len_list pl.isList (by simp only [List.size_toArray] <;> omega) ⟨.int ys.length,H,I.tok _,⟨s.toks+1,by rw [List.size_toArray,hlen]⟩,q⟩
 ·obtain⟨its,r',pl,hz⟩:=I.tuple hq
  have hlen:=r'.length
  exact len_tuple pl (by simp only [List.size_toArray] <;> omega) ⟨.int ys.length,H,I.tok _,⟨s.toks+1,by rw [List.size_toArray,hlen]⟩,q⟩
theorem call_tuple_of:cU X (.type "tuple") (fun xs H Q=>∃ p ys,xs=[.ref p]/\((SqL X.K H p ys/\∀ l,H l=none->Q (.ref l) (upd H l (.tup ys)))\/(SqT X.K H p ys/\Q (.ref p) H))):=by
 intro pins s σ H xs us Q I r h
 obtain⟨p,ys,rfl,h⟩:=h
 obtain⟨u,rfl,rx⟩:=vals1 r
 cases rx
 rcases h with ⟨hq,q⟩ | ⟨hq,q⟩
 ·obtain⟨its,r',pl,hz⟩:=I.list hq
  have hlen:=r'.length
  refine call_tuple_list pl.isList (fun h' kp=>?_) (by simp only [List.size_toArray] <;> omega)
  have I1:Inv X pins σ H { s with heap:=h' }:=I.kept (t':=s.toks) kp
  have I2:Inv X pins σ (upd H h'.objs.size (.tup ys)) { s with heap:=h'.push { cls:=.type "tuple",data:=.seq its.toArray } } :=
   I1.laid (t':=s.toks) (fun b o e=>Heap.get?_push_of_some _ e) (Nat.le_refl _) (show bZ X.prog X.w _ _ _ (.tup ys) from ⟨hz,its,r',IsTup.new _ _⟩)
  exact⟨.ref h'.objs.size,_,I2,rfl,q _ (I1.hok.fresh (Nat.le_refl _))⟩
 ·obtain⟨its,r',pl,hz⟩:=I.tuple hq
  exact call_tuple_same pl ⟨.ref p,H,I,rfl,q⟩
noncomputable def tyV (K:PySem.W.Frag) (T:String) (x:V) (H:Hp):Prop:=match x with
 | .str _=>T="str"
 | .int _=>T="int"
 | .ref p=>(T="list"/\∃ xs,SqL K H p xs)\/(T="tuple"/\∃ o,K.lookup p=some o/\o.cls=.type "tuple"/\o.dict=none) ∨
   (T="dict"/\((∃ kvs,H p=some (.dK kvs))\/∃ kvs,H p=some (.dT kvs)))\/(T="set"/\∃ S n,H p=some (.set S n))
 | _=>False
theorem tyV_is {pins:List (Addr×Obj)}{σ:St}{H:Hp}{s:Shared}{T:String}{x:V}{v:Value} (I:Inv X pins σ H s) (r:RelV x v) (ty:tyV X.K T x H) :
  s.TypeIs v T/\∀ a,v=.ref a->∃ ob,s.heap.get? a=some ob/\ob.dict=none:=by
 cases x with
 | str z =>
  obtain⟨t,rfl⟩:=r
  cases (show T="str" from ty)
  exact⟨typeIs_str s z t,fun _ e=>nomatch e⟩
 | int i =>
  obtain⟨t,rfl⟩:=r
  cases (show T="int" from ty)
  exact⟨typeIs_int s i t,fun _ e=>nomatch e⟩
 | ref p =>
  cases r
  rcases ty with ⟨rfl,xs,hq⟩ | ⟨rfl,o,hk,hc,hd⟩ | ⟨rfl,hk⟩ | ⟨rfl,S,n,hk⟩
  ·obtain⟨its,_,pl,_⟩:=I.list hq
   refine⟨pl.isList.typeIs,fun a e=>?_⟩
   cases e
   obtain⟨o,n,e,c,hd,_⟩:=pl
   exact⟨o,e,hd⟩
  ·refine⟨⟨o,I.kIn p o hk,hc⟩,fun a e=>?_⟩
   cases e
   exact⟨o,I.kIn _ o hk,hd⟩
  ·have z:∃ o,s.heap.get? p=some o/\o.ExactDict:=by
    rcases hk with ⟨kvs,hk⟩ | ⟨kvs,hk⟩
    ·obtain⟨_,_,_,_,o,_,_,e,ex,_⟩:=I.hok p _ hk
     exact⟨o,e,ex⟩
    ·obtain⟨_,_,_,_,o,_,_,e,ex,_⟩:=I.hok p _ hk
     exact⟨o,e,ex⟩
   obtain⟨o,e,ex⟩:=z
   refine⟨⟨o,e,ex.1⟩,fun a e2=>?_⟩
   cases e2
   exact⟨o,e,ex.2.1⟩
  ·obtain⟨o,_,_,_,e,ex,_⟩:=I.hok p _ hk
   refine⟨⟨o,e,ex.1⟩,fun a e2=>?_⟩
   cases e2
   exact⟨o,e,ex.2.1⟩
 | _=>exact False.elim ty
noncomputable def tBM0 (K:PySem.W.Frag) (T:String) (r:V->List V->Hp->VK->Prop) (to:TE):TE:=fun σ H Q=>to σ H fun x H1=>tyV K T x H1/\r x [] H1 Q
noncomputable def tBM (K:PySem.W.Frag) (T:String) (r:V->List V->Hp->VK->Prop) (to:TE) (t:TA):TE:=fun σ H Q=>to σ H fun x H1=>tyV K T x H1/\t σ H1 fun xs H2=>r x xs H2 Q
variable {o e:Expr}{es:List Expr}{to:TE}{t:TA}{name:Str}{apos cpos:Pos}{T id:String}{r:V->List V->Hp->VK->Prop}
theorem pe_bm0 (pa:PlainAttrs T) (slot:Slot T name id) (hty:typeOf (.builtin id)=pure (.type "method_descriptor")) (hm:MtR X id r) (ho:PE X o to)
  (hbase:attributeBase o name X.env (eval o X.env)=eval o X.env:=by rfl) (hline:(apos.endLine == cpos.line)=true:=by rfl):PE X (.Call (.Attribute o name apos) [] [] cpos) (tBM0 X.K T r to):=by
 intro pins s σ H Q I h
 refine wpAny_Call_method0_late hbase hline (thn (ho pins s σ H _ I h) fun v s1 ⟨x,H1,I1,r1,ty,q1⟩=>?_)
 obtain⟨h1,h2⟩:=tyV_is I1 r1 ty
 exact⟨T,id,pa,slot,hty,h1,h2,Calls.callWith_builtin rfl (PySem.evalArgs_none (hm pins s1 σ H1 x [] v [] Q I1 r1 .nil q1))⟩
theorem pe_bm (pa:PlainAttrs T) (slot:Slot T name id) (hty:typeOf (.builtin id)=pure (.type "method_descriptor")) (hm:MtR X id r) (ho:PE X o to) (ha:PA X (e::es) t)
  (hbase:attributeBase o name X.env (eval o X.env)=eval o X.env:=by rfl)
  (hfew:((backTo cpos (starEach (e::es) X.env)).all (fun x=>!x.1)&&(backToKw cpos (keywordEach [] X.env)).all (fun x=>x.1.isSome)
  &&decide ((e::es).length+([]:List Keyword).length+(if ([]:List Keyword).isEmpty then 0 else 1)<30))=true:=by rfl)
  (hline:(apos.endLine == cpos.line)=true:=by rfl) (hs:starEach (e::es) X.env=(false,eval e X.env)::starEach es X.env:=by rfl) (hplain:(backTo cpos (starEach es X.env)).any (·.1)=false:=by rfl) :
  PE X (.Call (.Attribute o name apos) (e::es) [] cpos) (tBM X.K T r to t):=by
 intro pins s σ H Q I h
 refine wpAny_Call_method_late hbase hfew hline rfl (thn (ho pins s σ H _ I h) fun v s1 ⟨x,H1,I1,r1,ty,q1⟩=>?_)
 obtain⟨h1,h2⟩:=tyV_is I1 r1 ty
 refine⟨T,id,pa,slot,hty,h1,h2,?_⟩
 have hA:=ha cpos pins s1 σ H1 _ I1 q1
 rw [hs] at hA ⊢
 refine Calls.callWith_builtin (by show (false || (backTo cpos (starEach es X.env)).any (·.1))=false; rw [hplain] <;> rfl) (Calls.evalArgs_plain ?_)
 exact thn hA fun us s2 ⟨vs,H2,I2,r2,q2⟩=>hm pins s2 σ H2 x vs v us Q I2 r1 r2 q2
/- xs.append(e),list.index on a module's tuple .. are MtR facts of 06m -/
end
noncomputable def MtM (X:Cx) (id:String) (r:V->List V->Hp->VK->Prop):Prop :=
 ∀ (pins:List (Addr×Obj)) (s:Shared) (σ:St) (H:Hp) (x:V) (xs:List V) (v:Value) (us:List Value) (Q:VK),Inv X pins σ H s->RelV x v->Vals xs us->r x xs H Q ->
  wpAny (model X.prog X.w) X.A (call (.builtin id) (v::us)) (EP X pins σ Q) X.xe s
theorem Vals.one:∀ {x:V}{us:List Value},Vals [x] us->∃ u,us=[u]/\RelV x u
 | _,_,.cons r .nil=>⟨_,rfl,r⟩
theorem Vals.two:∀ {x y:V}{us:List Value},Vals [x,y] us->∃ u v,us=[u,v]/\RelV x u/\RelV y v
 | _,_,_,.cons r (.cons q .nil)=>⟨_,_,rfl,r,q⟩
theorem Vals.zero:∀ {us:List Value},Vals [] us->us=[]
 | _,.nil=>rfl
theorem Vals.dropLast {xs:List V}{us:List Value} (h:Vals xs us):Vals xs.dropLast us.dropLast:=by
 induction h with
 | nil=>exact .nil
 | cons r t ih =>
  cases t with
  | nil=>exact .nil
  | cons q t'=>exact .cons r ih
theorem Vals.reverse {xs:List V}{us:List Value} (h:Vals xs us):Vals xs.reverse us.reverse:=by
 induction h with
 | nil=>exact .nil
 | cons r t ih=>rw [List.reverse_cons,List.reverse_cons]; exact Vals.append ih (.cons r .nil)
theorem Vals.rep {xs:List V}{us:List Value} (h:Vals xs us):∀ k:Nat,Vals (List.replicate k xs).flatten (List.replicate k us).flatten
 | 0=>.nil
 | k+1=>by
  rw [List.replicate_succ,List.replicate_succ,List.flatten_cons,List.flatten_cons]
  exact Vals.append h (Vals.rep h k)
theorem erase_last {α:Type} (l:List α):l.eraseIdx (l.length - 1)=l.dropLast:=by
 induction l with
 | nil=>rfl
 | cons a r ih =>
  cases r with
  | nil=>rfl
  | cons b r =>
   have e:(a::b::r).length - 1=((b::r).length - 1)+1:=by
    have h1:(a::b::r).length=r.length+2:=rfl
    have h2:(b::r).length=r.length+1:=rfl
    omega
   rw [e,List.eraseIdx_cons_succ,ih]
   all_goals rfl
theorem foldl_rep (its:List Value):∀ (k:Nat) (acc:List Value),
  List.foldl (fun x1 x2=>x1++x2) acc.toArray (List.replicate k its.toArray)=(acc++(List.replicate k its).flatten).toArray
 | 0,acc=>by simp
 | k+1,acc=>by
  have e:acc.toArray++its.toArray=(acc++its).toArray:=by simp
  have e2:(acc++its)++(List.replicate k its).flatten=acc++(List.replicate (k+1) its).flatten:=by
   rw [List.replicate_succ,List.flatten_cons,List.append_assoc]
  rw [← e2,← foldl_rep its k (acc++its),← e,List.replicate_succ,List.foldl_cons]
section
variable {X:Cx}{pins:List (Addr×Obj)}{σ:St}{H:Hp}{s:Shared}{l b:Addr}{xs ys zs:List V}
theorem Inv.lset {its its':List Value}{n:Nat}{f:Array Value->Array Value}{t':Nat} (I:Inv X pins σ H s) (hH:H l=some (.lst xs))
  (e:s.heap.get? l=some { cls:=.type "list",data:=.seq its.toArray n }) (hf:f its.toArray=its'.toArray) (hv:Vals ys its') (hz:ys.length<=sizeLine) :
  Inv X pins σ (upd H l (.lst ys)) { s with heap:=s.heap.update l (Obj.mapSeq f),toks:=t' }:=by
 have q:=PySem.IsL.update e f
 rw [hf] at q
 refine I.write (x:=l) (e:=l) (by rw [hH]; exact trivial) (.inl rfl) (fun b' u hb hu=>(Heap.get?_update_other s.heap (Obj.mapSeq f) (Ne.symm hb)).trans hu) ⟨_,q⟩ ?_
 exact⟨hz,its',_,hv,q⟩
theorem Inv.lnew {its:List Value}{t':Nat} (I:Inv X pins σ H s) (hv:Vals ys its) (hz:ys.length<=sizeLine) :
  Inv X pins σ (upd H s.heap.objs.size (.lst ys)) { s with heap:=s.heap.push { cls:=.type "list",data:=.seq its.toArray },toks:=t' } :=
 I.laid (fun _ _ q=>Heap.get?_push_of_some _ q) (Nat.le_refl _) ⟨hz,its,0,hv,Heap.get?_push_size _ rfl⟩
theorem Inv.fresh (I:Inv X pins σ H s):H s.heap.objs.size=none:=I.hok.fresh (Nat.le_refl _)
theorem Inv.lstM (I:Inv X pins σ H s) (hH:H l=some (.lst xs)):xs.length<=sizeLine/\∃ (its:List Value) (n:Nat),Vals xs its/\xs.length=its.length/\s.heap.get? l=some { cls:=.type "list",data:=.seq its.toArray n }:=by
 obtain⟨z,its,n,r,e⟩:=I.hok l _ hH
 exact⟨z,its,n,r,r.length,e⟩
theorem notLongL {n:Nat} (h:n<=sizeLine):Builtin.List.listTooLong n=false:=by
 unfold Builtin.List.listTooLong
 exact decide_eq_false (by omega)
end
section
variable {X:Cx}
noncomputable def iz:V->List V->Hp->VK->Prop:=fun x vs H Q=>∃ l xs y,x=.ref l/\vs=[y]/\H l=some (.lst xs)/\xs.length<sizeLine/\Q .non (upd H l (.lst (xs++[y])))
theorem j6:MtM X "list.append" iz:=by
 intro pins s σ H x vs v us Q I rx rv h
 obtain⟨l,xs,y,rfl,rfl,hH,hz,q⟩:=h
 cases rx
 obtain⟨u,rfl,ru⟩:=rv.one
 obtain⟨z,its,n,r,hl,e⟩:=I.lstM hH
 refine call_meets F.slot_list_append ⟨_,e,rfl⟩ F.entry_list_append (F.args_list_append_2 _ _) (PySem.list_append l its.toArray n u (by rw [List.size_toArray]; omega)) ⟨e,?_⟩
 refine⟨.non,_,I.lset (its':=its++[u]) hH e (by simp) (r.append (.cons ru .nil)) ?_,rfl,q⟩
 rw [List.length_append,List.length_singleton]
 omega
noncomputable def rExtend:V->List V->Hp->VK->Prop:=fun x vs H Q=>∃ l b xs zs,x=.ref l/\vs=[.ref b]/\H l=some (.lst xs)/\H b=some (.lst zs)/\xs.length+zs.length<=sizeLine/\Q .non (upd H l (.lst (xs++zs)))
theorem mt_extend:MtM X "list.extend" rExtend:=by
 intro pins s σ H x vs v us Q I rx rv h
 obtain⟨l,b,xs,zs,rfl,rfl,hH,hB,hz,q⟩:=h
 cases rx
 obtain⟨u,rfl,ru⟩:=rv.one
 cases ru
 obtain⟨z,its,n,r,hl,e⟩:=I.lstM hH
 obtain⟨z2,its2,n2,r2,hl2,e2⟩:=I.lstM hB
 have hsz:its.toArray.size+its2.toArray.size<=sizeLine:=by rw [List.size_toArray,List.size_toArray]; omega
 have hlong:¬ (!its.toArray.isEmpty&&Builtin.List.listTooLong (its.toArray.size+its2.toArray.size))=true:=by
  rw [notLongL hsz,Bool.and_false]
  exact Bool.false_ne_true
 refine call_meets F.slot_list_extend ⟨_,e,rfl⟩ F.entry_list_extend (F.args_list_extend_2 _ _)
  (AutoSeq1.list_extend_list_list_0 l its.toArray n b its2.toArray n2 hlong (by rw [List.size_toArray]; omega) (by omega)) ⟨e,e2,?_⟩
 refine⟨.non,_,I.lset (its':=its++its2) hH e (by simp) (r.append r2) ?_,rfl,q⟩
 rw [List.length_append]
 omega
noncomputable def rPop:V->List V->Hp->VK->Prop:=fun x vs H Q=>∃ l xs y,x=.ref l/\vs=[]/\H l=some (.lst xs)/\xs[xs.length - 1]?=some y/\Q y (upd H l (.lst xs.dropLast))
theorem mt_pop:MtM X "list.pop" rPop:=by
 intro pins s σ H x vs v us Q I rx rv h
 obtain⟨l,xs,y,rfl,rfl,hH,hy,q⟩:=h
 cases rx
 have hus:=rv.zero
 subst hus
 obtain⟨z,its,n,r,hl,e⟩:=I.lstM hH
 obtain⟨u,hu,ru⟩:=r.get hy
 have hy':its.toArray[its.toArray.size - 1]?=some u:=by
  show its.toArray[its.length - 1]?=some u
  rw [← Array.getElem?_toList,← hl]
  exact hu
 refine call_meets F.slot_list_pop ⟨_,e,rfl⟩ F.entry_list_pop (F.args_list_pop_1 _) (MeetsSeq.list_pop_last l its.toArray n u hy' (by rw [List.size_toArray]; omega)) ⟨e,?_⟩
 refine⟨y,_,I.lset (its':=its.dropLast) hH e ?_ r.dropLast ?_,ru,q⟩
 ·show its.toArray.eraseIdxIfInBounds (its.toArray.size - 1)=its.dropLast.toArray
  rw [List.size_toArray,List.eraseIdxIfInBounds_toArray,erase_last]
 ·rw [List.length_dropLast]
  omega
noncomputable def rClear:V->List V->Hp->VK->Prop:=fun x vs H Q=>∃ l xs,x=.ref l/\vs=[]/\H l=some (.lst xs)/\Q .non (upd H l (.lst []))
theorem mt_clear:MtM X "list.clear" rClear:=by
 intro pins s σ H x vs v us Q I rx rv h
 obtain⟨l,xs,rfl,rfl,hH,q⟩:=h
 cases rx
 have hus:=rv.zero
 subst hus
 obtain⟨z,its,n,r,hl,e⟩:=I.lstM hH
 refine call_meets F.slot_list_clear ⟨_,e,rfl⟩ F.entry_list_clear (F.args_list_clear_1 _) (AutoSeq1.list_clear_list_0 l its.toArray n (by rw [List.size_toArray]; omega)) ⟨e,?_⟩
 exact⟨.non,_,I.lset (its':=[]) (ys:=[]) hH e rfl .nil (Nat.zero_le _),rfl,q⟩
noncomputable def rCat:R2:=fun x y H Q=>∃ l b xs zs,x=.ref l/\y=.ref b/\H l=some (.lst xs)/\H b=some (.lst zs)/\xs.length+zs.length<=sizeLine/\∀ p,H p=none->Q (.ref p) (upd H p (.lst (xs++zs)))
theorem op_cat:OpR X (binaryOp .Add) rCat:=by
 intro pins s σ H x y v u Q I rx ry h
 obtain⟨l,b,xs,zs,rfl,rfl,hH,hB,hz,q⟩:=h
 cases rx
 cases ry
 obtain⟨z,its,n,r,hl,e⟩:=I.lstM hH
 obtain⟨z2,its2,n2,r2,hl2,e2⟩:=I.lstM hB
 refine PySem.P.add_list e e2 ?_ (by rw [List.size_toArray,List.size_toArray]; omega)
 have ea:its.toArray++its2.toArray=(its++its2).toArray:=by simp
 rw [ea]
 exact⟨.ref _,_,I.lnew (t':=s.toks) (r.append r2) (by rw [List.length_append]; omega),rfl,q _ I.fresh⟩
noncomputable def rRep:R2:=fun x y H Q=>∃ l k xs,x=.ref l/\y=.int k/\H l=some (.lst xs)/\-(2 ^ 63)<=k/\k<2 ^ 63/\xs.length * k.toNat<=sizeLine /\
 ∀ p,H p=none->Q (.ref p) (upd H p (.lst (List.replicate k.toNat xs).flatten))
theorem len_rep {α:Type} (xs:List α) (k:Nat):(List.replicate k xs).flatten.length=k * xs.length:=by
 induction k with
 | zero=>simp
 | succ k ih=>rw [List.replicate_succ,List.flatten_cons,List.length_append,ih,Nat.succ_mul,Nat.add_comm]
theorem op_rep:OpR X (binaryOp .Mult) rRep:=by
 intro pins s σ H x y v u Q I rx ry h
 obtain⟨l,k,xs,rfl,rfl,hH,h1,h2,hz,q⟩:=h
 cases rx
 obtain⟨t,rfl⟩:=ry
 obtain⟨z,its,n,r,hl,e⟩:=I.lstM hH
 have hlen:its.toArray.size * k.toNat<=sizeLine:=by rw [List.size_toArray,← hl]; exact hz
 have hcap:¬ its.toArray.size * k.toNat > (2 ^ 63 - 1) / 8:=by
  have:(sizeLine:Nat)<=(2 ^ 63 - 1) / 8:=by decide
  omega
 have hfit:¬ (!Builtin.List.listFitsIndex k)=true:=by
  rw [fitsIndex_both h1 h2]
  exact Bool.false_ne_true
 have hlong:¬ Builtin.List.listTooLong (its.toArray.size * k.toNat)=true:=by
  rw [notLongL hlen]
  exact Bool.false_ne_true
 have hnew:List.foldl (fun x1 x2=>x1++x2) #[] (List.replicate (if its.toArray.isEmpty=true then 0 else k.toNat) its.toArray)=(List.replicate k.toNat its).flatten.toArray:=by
  have f0:∀ m:Nat,List.foldl (fun x1 x2=>x1++x2) #[] (List.replicate m its.toArray)=(List.replicate m its).flatten.toArray:=fun m=>by
   have:=foldl_rep its m []
   rw [List.nil_append] at this
   exact this
  rw [f0]
  cases its with
  | nil=>simp
  | cons a r'=>rw [if_neg (by simp)]
 refine wpAny_binaryOp_repeat_ref (T:="list") (U:="int") (by decide) ⟨_,e,rfl⟩ (fun s'=>typeIs_int s' k t) noFill_list_mul F.fills_int_mul F.slot_int_rmul repeat_list F.slot_int_index.lookup
  (call_meets F.slot_int_rmul (typeIs_int s k t) F.entry_int_rmul (F.args_int_rmul_2 _ _) (int___rmul___int_list k t l its.toArray n)
   ⟨e,rfl,⟨_,e,rfl⟩,call_meets F.slot_list_mul ⟨_,e,rfl⟩ F.entry_list_mul (F.args_list_mul_2 _ _) (AutoListH.list___mul___list_int_3 l its.toArray n k t hfit hcap hlong) ⟨e,?_⟩⟩)
 rw [hnew]
 exact⟨.ref _,_,I.lnew (t':=s.toks) (r.rep k.toNat) (by rw [len_rep,Nat.mul_comm]; exact hz),rfl,q _ I.fresh⟩
end
section
variable {prog:Program}{w:World}{A:Around}{E:Value->Shared->Prop}{s:Shared}
end
section
variable {X:Cx}
end
end L2
namespace Att
open PySem PySem.W PySem.Calls PyProof.Rows
theorem ints_of_wellAll {P:Params}{h:Heap}:∀ (ns:List Int) (vs:List Value),WellAll P h vs (ns.map WData.int)->IntsAre vs ns:=by
 intro ns
 induction ns with
 | nil =>
  intro vs w
  rw [List.map_nil] at w
  cases w
  exact .nil
 | cons n ns ih =>
  intro vs w
  rw [List.map_cons] at w
  cases w with
  | cons a b =>
   cases a
   exact .cons _ _ (ih _ b)
theorem script_of {l:OpenLaw}{n:Nat} (hn:l.most=some n) {P:Params}{h:Heap}{args:List WData}{vals:List Value}
  (hpre:l.row.toRowW.claim.pre args=true) (hwl:WellAll P h vals args) :
  ∃ a vs ns,vals=[Value.ref a]/\args=[WData.list (ns.map WData.int)]/\h.get? a=some { cls:=.type "list",data:=.seq vs.toArray }/\IntsAre vs ns/\ns.length<=n:=by
 have hsh:WShape.hasAll [] args [.list .int]=true:=(pre_splitW hpre).1
 have hc:l.pre.holds [] { args:=args }=true:=(pre_splitW hpre).2
 obtain⟨d,r,rfl,h1,h2⟩:=hasAllW_cons hsh
 obtain rfl:=hasAllW_nil h2
 obtain⟨xs,rfl,h3⟩:=hasW_list h1
 obtain⟨ns,rfl⟩:=items_int h3
 have hlen:ns.length<=n:=by
  unfold OpenLaw.pre at hc
  have h4:(WTm.not (.lt (.lit (.int (n:Int))) (.len (.arg 0)))).holds [] { args:=[.list (ns.map .int)] }=true:=by
   have h4:=(holds_andW hc).1
   rw [hn] at h4
   exact h4
  have h5:=condW_of h4 (w_not (w_lt w_lit (w_len_list (w_arg rfl))))
  rw [List.length_map] at h5
  refine Nat.le_of_not_lt fun q=>?_
  have q':(n:Int)<((ns.length:Nat):Int):=by omega
  first
   | (rw [decide_eq_true q'] at h5; exact absurd h5 (by decide))
   | (simp at h5; omega)
 cases hwl with
 | cons w1 w2 =>
  cases w2
  cases w1 with
  | list ho hall=>exact⟨_,_,ns,rfl,rfl,ho,ints_of_wellAll ns _ hall,hlen⟩
theorem post_true (l:OpenLaw) (args:List WData):l.row.toRowW.claim.post args (.bool true) args=true :=
 postW_of (r:=l.row.toRowW) (X:=(true == true))
  (show WShape.has [] (.bool true) .bool=true by first | rfl | decide | simp [WShape.has,WShape.arms,WShape.armsAll])
  (show (WTm.eq .res (.lit (.bool true))).value [] { args:=args,res:=some (.bool true),after:=args }=some (.bool (true == true)) from w_eq_bool (w_res rfl) w_lit) rfl
theorem attach_call {l:OpenLaw}{n:Nat}{q:Program}{loose:List Str}{XP:(Str->Option Value)->Heap->Prop}{YP:World->Heap->Prop}{d:DefRec}
  (hn:l.most=some n) (hdf:d.params.defaults=[])
  (call:∀ (w:World) (s₀ s₁:Shared) (mg mb:Str->Option Value) (fa:Addr) (o:Obj) (pm cd doc:Value) (a:Addr) (vs:List Value) (ns:List Int),
   Ground q loose [] XP w s₀ mg mb s₁.heap->YP w s₁.heap ->
   s₁.heap.get? fa=some o->o.data=.func (docDef d.name d.params d.body d.scope pm cd doc)->s₁.heap.CodeRec cd d.name->mg d.name=some (.ref fa) ->
   s₁.heap.get? a=some { cls:=.type "list",data:=.seq vs.toArray }->IntsAre vs ns->ns.length<=n->s₁.gens=#[] ->
   codeAny (model l.prog w) callerA (.call (.ref fa) ⟨[.ref a],[]⟩) (fun r s'=>r=.ok (.ret (.bool true))/\OldK s₁.heap s'.heap/\s'.os=s₁.os/\AllBare s'.gens) s₁) :
  WalkO q loose XP YP l.row.toRowW d [] (fun f vs=>PySem.call f vs):=by
 intro w s₀ s₁ mg mb G Y fa o pm cd doc dV kV ho hd hcd hD hmg hg args vals as hpre hlay hrd hwl hlo
 obtain rfl:dV=.none:=Dflts.none hD hdf
 obtain rfl:kV=.none:=Dflts.noKw hD
 obtain⟨a,vs,ns,rfl,rfl,hobj,hints,hlen⟩:=script_of hn hpre hwl
 refine enter_call (codeAny_mono (call w s₀ s₁ mg mb fa o pm cd doc a vs ns G Y ho (fd_plain hd) hcd hmg hobj hints hlen hg) fun r s' hq=>?_)
 obtain⟨rfl,h2,h3,h4⟩:=hq
 exact⟨.inl ⟨.bool true,.bool true,[],rfl,fun _=>rfl,.bool true,post_true l _,fun _=>⟨List.Pairwise.nil,fun _ hm=>(nomatch hm)⟩⟩,h2,h3,h4⟩
section
variable {prog:Program}{w:World}{A:Around}{E:Value->Shared->Prop}{s:Shared}{K:Frag}
noncomputable def ledger (h:Heap) (L d:Addr):List (Addr×Obj):=(List.range h.objs.size).filterMap fun a=>if a=L\/a=d then none else (h.get? a).map fun o=>(a,o)
end
end Att
namespace L2
open PySem PySem.Spec PyProof.Rows
theorem jT:∀ {vs:List Value}{ns:List Int},IntsAre vs ns->Vals (ns.map V.int) vs
 | _,_,.nil=>.nil
 | _,_,.cons n t h=>.cons ⟨t,rfl⟩ (jT h)
noncomputable def Only (H:Hp):Prop:=∀ b,H b=none\/∃ o xs,H b=some (.frz o (.lst xs))
noncomputable def aO (s:Stmt):Arguments:=match s with
 | .FunctionDef _ a _ _ _ _ _ _ _ _=>a
 | _=>{ posonlyargs:=[],args:=[],vararg:=none,kwonlyargs:=[],kw_defaults:=[],kwarg:=none,defaults:=[] }
noncomputable def aM (s:Stmt):List Stmt:=match s with
 | .FunctionDef _ _ b _ _ _ _ _ _ _=>b
 | _=>[]
noncomputable def au (s:Stmt):Scope:=match s with
 | .FunctionDef _ _ _ _ _ _ sc _ _ _=>sc
 | _=>{ kind:=.function,names:=[],isGenerator:=false,isCoroutine:=false }
noncomputable abbrev CX0:CXT:=fun _ _ _ _ _ _=>False
noncomputable abbrev E0:XK:=fun _ _ _=>False
theorem pass0 {X:Cx}:Passes CX0 X E0:=fun _ _ _ _ _ _ _ h=>h.elim
structure Fun (K:PySem.W.Frag) (x qual:Str) (st:Stmt) (f:Addr) (fd:FuncData):Prop where
 ex:∃ (oc:Value) (od:Option Addr) (kV doc pm:Value) (an:Option Addr) (cdv ct:Value) (osl:Array (Option Value)),
  fd=PySem.W.fnOf x qual (aO st) (aM st) (au st) .none kV doc pm an cdv ct/\K.lookup f=some ⟨oc,od,.func fd,osl⟩/\PySem.W.codeIn K cdv qual=true
 kp:PySem.W.keepIn K (.ref f)=true
section
variable {P:Program}{w:World}{K:PySem.W.Frag}{mg:Str->Option Value}{base:Heap}
theorem Fun.ok {x qual:Str}{st:Stmt}{f:Addr}{fd:FuncData}{N ps:List Str}{k:Nat}{sp:Sp} (F:Fun K x qual st f fd) (S:FnScope N ps (au st)) (len:∀ vs H Q E,sp vs H Q E->vs.length=ps.length)
  (hbody:∀ (cdv:Value) (A:Around) (outer:List Env) (s:Shared) (H:Hp) (vs:List V) (Q:VK) (E:XK),Room k (A.deeper (envOfC qual (au st) s.heap.objs.size f cdv))->sp vs H Q E ->
   ∃ t,PSs (cxOf CX0 P w K mg base N qual (au st) f cdv A outer s H E).nox (aM st) t/\t { nx:=fun _ H'=>Q .non H',rt:=Q } (start N vs) H):FnOk P w K mg base CX0 (k+1) f fd ps sp:=by
 obtain⟨oc,od,kV,doc,pm,an,cdv,ct,osl,rfl,lk,hcd⟩:=F.ex
 refine fn_of lk hcd S len fun A outer s H vs Q E hr hsp=>?_
 obtain⟨t,h,q⟩:=hbody cdv A outer s H vs Q E hr hsp
 exact⟨t,h.nox,q⟩
theorem Fun.binds {x qual:Str}{st:Stmt}{f:Addr}{fd:FuncData}{ps:List Str} (F:Fun K x qual st f fd)
  (h:∀ (kV doc pm:Value) (an:Option Addr) (cdv ct:Value) (us:List Value),us.length=ps.length->bindArgs (PySem.W.fnOf x qual (aO st) (aM st) (au st) .none kV doc pm an cdv ct) ⟨us,[]⟩=pure (ps.zip us)):Binds K fd ps []:=by
 obtain⟨oc,od,kV,doc,pm,an,cdv,ct,osl,rfl,lk,hcd⟩:=F.ex
 exact .all (h kV doc pm an cdv ct)
theorem aZ {x qual:Str}{st:Stmt}{f:Addr}{oc:Value}{od an:Option Addr}{osl:Array (Option Value)}{kV doc pm cdv ct:Value} (l:K.lookup f=some ⟨oc,od,.func (PySem.W.fnOf x qual (aO st) (aM st) (au st) .none kV doc pm an cdv ct),osl⟩)
  (c:PySem.W.codeIn K cdv qual=true) (k:PySem.W.keepIn K (.ref f)=true):Fun K x qual st f (PySem.W.fnOf x qual (aO st) (aM st) (au st) .none kV doc pm an cdv ct):=⟨⟨oc,od,kV,doc,pm,an,cdv,ct,osl,rfl,l,c⟩,k⟩
end
section
variable {X:Cx}
theorem pv (i:Nat) {x:Str}{pos:Pos} (hN:X.N[i]?=some x:=by rfl) (hv:Vis X.env.scope x:=by first | exact Or.inl rfl | exact Or.inr (Or.inl rfl) | exact Or.inr (Or.inr rfl)) (hd:(x == ("__debug__":Str))=false:=by decide)
  (hcd:(x == ("__classdict__":Str))=false:=by decide):PE X (.Name x pos) (lg i):=pe_var hN hv hd hcd
end
theorem bA {A B:Prop} (h:B):if false=true then A else B:=by
 rw [if_neg Bool.false_ne_true]
 exact h
theorem cD {A B:Prop} (h:A):if true=true then A else B:=by
 rw [if_pos rfl]
 exact h
theorem gB {c A B:Prop} [Decidable c] (h1:c->A) (h2:¬ c->B):if c then A else B:=by
 by_cases h:c
 ·rw [if_pos h]
  exact h1 h
 ·rw [if_neg h]
  exact h2 h
noncomputable def Same (H H':Hp):Prop:=∀ b o,H b=some o->H' b=some o
theorem Same.refl (H:Hp):Same H H:=fun _ _ h=>h
structure CB where
 cl:List (Str×Addr)
 C:Addr
 s:Shared
 H:Hp
 ex:List Addr
noncomputable abbrev Cx.cZ (X:Cx) (own M:List Str) (scope:Scope) (c:CB):Cx where
 prog:=X.prog
 w:=X.w
 K:=X.K
 mg:=X.mg
 base:=X.base
 A:=X.A
 N:=own++M
 s₀:=c.s
 H₀:=c.H
 env:=compEnvC scope c.cl c.C X.env
 outer:=X.stack
 stack:=X.stack
 ex:=c.ex
 fn:=fun x=>scope.names.lookup x == some .cell
 calm:=X.calm
 pn:=[]
 xe:=fun _ _=>False
noncomputable abbrev Cx.comp (X:Cx) (own:List Str) (scope:Scope) (c:CB):Cx:=X.cZ own X.N scope c
noncomputable def dN (cells:List (Str×Addr)):List (Str×NameKind)->List (Str×Addr)->List (Str×Addr)
 | [],acc=>acc
 | (n,k)::r,acc=>if k == .free then dN cells r ((n,(cells.lookup n).getD 0)::acc) else dN cells r acc
theorem iY {env:Env}:∀ (names:List (Str×NameKind)) (acc:List (Str×Addr)),(∀ x∈names,x.2=.free->∃ c,env.cells.lookup x.1=some c) ->
  (forIn names acc fun (p:Str×NameKind) (r:List (Str×Addr))=>match p with
   | (name,kind)=>if (kind == NameKind.free)=true then do let a ← cellOf env name; pure (ForInStep.yield ((name,a)::r)) else pure (ForInStep.yield r):Sem (List (Str×Addr)))=pure (dN env.cells names acc)
 | [],acc,_=>by simp [dN]
 | (n,k)::r,acc,h=>by
  rw [List.forIn_cons]
  by_cases hk:(k == NameKind.free)=true
  ·obtain⟨c,hc⟩:=h (n,k) List.mem_cons_self (by simpa using hk)
   have e:cellOf env n=pure c:=by unfold cellOf; rw [hc]
   have ih:=iY (env:=env) r ((n,c)::acc) fun x hx=>h x (List.mem_cons_of_mem _ hx)
   show ((if (k == NameKind.free)=true then do let a ← cellOf env n; pure (ForInStep.yield ((n,a)::acc)) else pure (ForInStep.yield acc)) >>= _:Sem _)=_
   rw [if_pos hk,e]
   unfold dN
   rw [if_pos hk,hc]
   exact ih
  ·have ih:=iY (env:=env) r acc fun x hx=>h x (List.mem_cons_of_mem _ hx)
   show ((if (k == NameKind.free)=true then do let a ← cellOf env n; pure (ForInStep.yield ((n,a)::acc)) else pure (ForInStep.yield acc)) >>= _:Sem _)=_
   rw [if_neg hk]
   unfold dN
   rw [if_neg hk]
   exact ih
theorem closure_eq {scope:Scope}{env:Env} (h:∀ x∈scope.names,x.2=.free->∃ c,env.cells.lookup x.1=some c):closureFor scope env=pure (dN env.cells scope.names []):=by
 have e:=iY (env:=env) scope.names [] h
 unfold closureFor
 show (forIn scope.names [] _ >>= fun cs=>pure cs:Sem _)=_
 have e2:(forIn scope.names ([]:List (Str×Addr)) fun (p:Str×NameKind) (r:List (Str×Addr))=>match p with
   | (name,kind)=>if (kind == NameKind.free)=true then do let a ← cellOf env name; pure (ForInStep.yield ((name,a)::r)) else pure (ForInStep.yield r):Sem (List (Str×Addr)))=pure (dN env.cells scope.names []):=e
 rw [e2]
 rfl
theorem cloF_get {cells:List (Str×Addr)}{x:Str}{c:Addr}:∀ {names:List (Str×NameKind)}{acc:List (Str×Addr)},(dN cells names acc).lookup x=some c->acc.lookup x=some c\/((x,NameKind.free)∈names/\c=(cells.lookup x).getD 0)
 | [],acc,h=>.inl h
 | (n,k)::r,acc,h=>by
  unfold dN at h
  by_cases hk:(k == NameKind.free)=true
  ·rw [if_pos hk] at h
   have hk':k=.free:=by simpa using hk
   rcases cloF_get h with q | ⟨q1,q2⟩
   ·rw [List.lookup_cons] at q
    cases hx:x == n with
    | true =>
     rw [hx] at q
     have e:x=n:=by simpa using hx
     subst e hk'
     exact .inr ⟨List.mem_cons_self,(Option.some.inj q).symm⟩
    | false=>rw [hx] at q; exact .inl q
   ·exact .inr ⟨List.mem_cons_of_mem _ q1,q2⟩
  ·rw [if_neg hk] at h
   rcases cloF_get h with q | ⟨q1,q2⟩
   ·exact .inl q
   ·exact .inr ⟨List.mem_cons_of_mem _ q1,q2⟩
theorem cloF_acc {cells:List (Str×Addr)}{x:Str}:∀ {names:List (Str×NameKind)}{acc:List (Str×Addr)},(acc.lookup x).isSome=true->((dN cells names acc).lookup x).isSome=true
 | [],_,h=>h
 | (n,k)::r,acc,h=>by
  unfold dN
  split
  ·refine cloF_acc ?_
   rw [List.lookup_cons]
   cases hx:x == n <;> simp [h]
  ·exact cloF_acc h
theorem jN {cells:List (Str×Addr)}{x:Str}:∀ {names:List (Str×NameKind)}{acc:List (Str×Addr)},(x,NameKind.free)∈names->((dN cells names acc).lookup x).isSome=true
 | (n,k)::r,acc,h=>by
  unfold dN
  rcases List.mem_cons.mp h with e | h
  ·cases e
   rw [if_pos (by rfl)]
   exact cloF_acc (by simp [List.lookup_cons])
  ·split
   ·exact jN h
   ·exact jN h
noncomputable def fB (env:Env) (scope:Scope) (N:List Str):Bool :=
 (scope.kind == .function)&&scope.names.all fun y=>match y.2 with
  | .local=>!(N.contains y.1)&&(scope.names.lookup y.1 == some .local)
  | .cell=>!(N.contains y.1)&&(scope.names.lookup y.1 == some .cell)
  | .free=>(scope.names.lookup y.1 == some .free)&&(env.kindOf y.1 == some .cell || env.kindOf y.1 == some .free)
  | _=>true
theorem dJ {env:Env}:∀ {names:List (Str×NameKind)}{x:Str}{q:NameKind},(names.map fun (n,k)=>if (k == NameKind.free&&env.scope.kind == .function&&env.kindOf n == some .cell) then (n,NameKind.cell) else (n,k)).lookup x=some q ->
  ∃ k,(x,k)∈names/\names.lookup x=some k/\(q=k\/(q=.cell/\k=.free))
 | [],_,_,h=>by simp at h
 | (n,k)::r,x,q,h=>by
  have ih:=@dJ env r x q
  have h':List.lookup x ((if (k == NameKind.free&&env.scope.kind == .function&&env.kindOf n == some .cell)=true then (n,NameKind.cell) else (n,k))::(r.map fun (n,k)=>if (k == NameKind.free&&env.scope.kind == .function&&env.kindOf n == some .cell) then (n,NameKind.cell) else (n,k)))=some q:=h
  by_cases hc:(k == NameKind.free&&env.scope.kind == .function&&env.kindOf n == some .cell)=true
  ·rw [if_pos hc,List.lookup_cons] at h'
   cases hx:x == n with
   | true =>
    rw [hx] at h'
    have e:x=n:=by simpa using hx
    subst e
    have hk:k=.free:=by simp at hc; exact hc.1.1
    exact⟨k,List.mem_cons_self,by simp [List.lookup_cons],.inr ⟨(Option.some.inj h').symm,hk⟩⟩
   | false =>
    rw [hx] at h'
    obtain⟨k',h1,h2,h3⟩:=ih h'
    exact⟨k',List.mem_cons_of_mem _ h1,by rw [List.lookup_cons,hx]; exact h2,h3⟩
  ·rw [if_neg hc,List.lookup_cons] at h'
   cases hx:x == n with
   | true =>
    rw [hx] at h'
    have e:x=n:=by simpa using hx
    subst e
    exact⟨k,List.mem_cons_self,by simp [List.lookup_cons],.inl (Option.some.inj h').symm⟩
   | false =>
    rw [hx] at h'
    obtain⟨k',h1,h2,h3⟩:=ih h'
    exact⟨k',List.mem_cons_of_mem _ h1,by rw [List.lookup_cons,hx]; exact h2,h3⟩
theorem HOk.track {P:Program}{w:World}{H:Hp}{h:Heap}{a:Addr}{o:HO} (x:HOk P w H h) (hn:H a=none) (new:bZ P w (upd H a o) h a o):HOk P w (upd H a o) h:=fun b u e=>by
 by_cases hb:b=a
 ·subst hb; rw [aF] at e; cases e; exact new
 ·rw [aA hb] at e
  exact (x b u e).stay (fun c v _ q=>q) (fun c q=>by rw [aA (aH q hn)]; exact q) fun c xs q=>by rw [aA (aH q hn)]; exact q
theorem comp_loop {prog:Program}{w:World}{A:Around}{s:Shared}{elt target iter:Expr}{ifs:List Expr}{scope:Scope}{pos:Pos}{it acc:Value}{env:Env}{R:Result->Shared->Prop} (I:Nat->Shared->Prop)
  (turn:∀ n s,I n s->wpAny (model prog w) A (pyNext it) (fun r s₁=>match r with
   | none=>R (.ok .next) s₁
   | some v=>wpAny (model prog w) A (letOwnedTupleGo target it v) (fun _ s₀=>wpAny (model prog w) A (assign target env v) (fun _ s₂ =>
     wpAny (model prog w) A (forIn ifs true fun c r=>if r=true then do let ok ← isTrue c env (eval c env); pure (ForInStep.yield ok) else pure (ForInStep.yield r)) (fun ok s₃ =>
      if ok=true then wpAny (model prog w) A (eval elt env) (fun x s₄ =>
       wpAny (model prog w) A (call (.builtin "list.append") [acc,x]) (fun _ s₅=>∃ m,m<n/\I m s₅) (fun _ _=>False) s₄) (fun _ _=>False) s₃
      else ∃ m,m<n/\I m s₃) (fun _ _=>False) s₂) (fun _ _=>False) s₀) (fun _ _=>False) s₁) (fun _ _=>False) s)
  (n:Nat) (h:I n s):codeAny (model prog w) A (.compLoop (.ListComp elt [⟨target,iter,ifs,0⟩] scope pos) 0 it acc env) R s:=by
 refine codeAny_loop rfl I (fun n s hI=>?_) n h
 show wpAny _ A ((compTurn (.ListComp elt [⟨target,iter,ifs,0⟩] scope pos) 0 it acc env).onRaise (fun x=>do noteFrame x env; theTreesLotGoes x)) _ _ s
 refine wpAny_noted ?_
 rw [compTurn_list]
 refine wpAny_bind (wpAny_standAt (wpAny_bind (wpAny_mono (turn n s hI) (fun r s₁ h₁=>?_) fun _ _ h'=>h'.elim)))
 cases r with
 | none=>exact wpAny_pure h₁
 | some v =>
  refine wpAny_bind (wpAny_mono h₁ (fun _ s₀ h₀'=>?_) fun _ _ h'=>h'.elim)
  refine wpAny_bind (wpAny_mono h₀' (fun _ s₂ h₂=>wpAny_bind (wpAny_mono h₂ (fun ok s₃ h₃=>?_) fun _ _ h'=>h'.elim)) fun _ _ h'=>h'.elim)
  cases ok with
  | false=>exact wpAny_pure ⟨rfl,h₃⟩
  | true =>
   exact wpAny_bind (wpAny_bind (wpAny_mono h₃ (fun x s₄ h₄=>wpAny_bind (wpAny_mono h₄ (fun _ s₅ h₅=>wpAny_pure (wpAny_pure ⟨rfl,h₅⟩)) fun _ _ h'=>h'.elim)) fun _ _ h'=>h'.elim))
noncomputable def PTs (X:Cx) (ifs:List Expr) (t:TT):Prop :=
 ∀ (pins:List (Addr×Obj)) (s:Shared) (σ:St) (H:Hp) (Q:Bool->Hp->Prop),Inv X pins σ H s->t σ H Q ->
  wpAny (model X.prog X.w) X.A (forIn ifs true fun c r=>if r=true then do let ok ← isTrue c X.env (eval c X.env); pure (ForInStep.yield ok) else pure (ForInStep.yield r)) (TP X pins σ Q) X.xe s
theorem pts_nil {X:Cx}:PTs X [] (fun _ H Q=>Q true H):=fun _ _ _ H _ I h=>wpAny_tests_nil ⟨H,I,h⟩
theorem pts_one {X:Cx}{c:Expr}{t:TT} (hc:PT X c t):PTs X [c] t:=fun pins s σ H Q I h=>wpAny_tests_one (hc pins s σ H Q I h)
noncomputable def LcEnd (J:It) (n:Nat) (g:CB->TG) (tt:CB->TT) (te:CB->TE) (σ:St) (Q:VK) (H:Hp):Prop:=∃ W:Nat->Nat->List V->Hp->Prop,(∃ m,W 0 m [] H)/\∀ (c:CB) i m ys H,W i m ys H ->
 (J.stop i H/\∀ p,H p=none->Q (.ref p) (upd H p (.lst ys))) ∨
 (J.go i H/\ys.length<sizeLine/\∃ N:List V->Hp->Prop,(∀ ys' H',N ys' H'->∃ m',m'<m/\W (i+1) m' ys' H')/\∀ x H',J.yld i H x H'->g c x (List.replicate n none++σ) H' fun σ2 H2=>tt c σ2 H2 fun b H3 =>
  if b=true then te c σ2 H3 fun v H4=>N (ys++[v]) H4 else N ys H3)
noncomputable def tLC (n:Nat) (wi:TI) (g:CB->TG) (tt:CB->TT) (te:CB->TE):TE:=fun σ H Q=>wi σ H fun J H1=>LcEnd J n g tt te σ Q H1
section
variable {X:Cx}{own:List Str}{scope:Scope}{tg iter elt:Expr}{ifs:List Expr}{pos:Pos}{wi:TI}{g:CB->TG}{tt:CB->TT}{te:CB->TE}
noncomputable def bY (env:Env) (scope:Scope) (N M:List Str):Bool :=
 fB env scope M&&((N.length == M.length)&&(N.zip M).all fun y=>y.1 == y.2 || ((y.2 == ("":Str))&&scope.names.all fun z=>!(z.1 == ("":Str))))
theorem compOk_M {env:Env}{N:List Str} (h:fB env scope N=true):bY env scope N N=true:=by
 unfold bY
 rw [h,Bool.true_and,beq_self_eq_true,Bool.true_and,List.all_eq_true]
 rintro ⟨a,b⟩ hy
 obtain⟨i,hi,e⟩:=List.mem_iff_getElem.mp hy
 rw [List.getElem_zip] at e
 cases e
 simp
variable {M:List Str}
theorem fH (h:bY X.env scope X.N M=true):scope.kind=.function:=by
 unfold bY fB at h
 simp only [Bool.and_eq_true,beq_iff_eq] at h
 exact h.1.1
theorem cI (h:bY X.env scope X.N M=true):∀ y∈scope.names,(y.2=.local->y.1∉M/\scope.names.lookup y.1=some .local)/\(y.2=.cell->y.1∉M/\scope.names.lookup y.1=some .cell)/\(y.2=.free->scope.names.lookup y.1=some .free/\(X.env.kindOf y.1=some .cell\/X.env.kindOf y.1=some .free)):=by
 unfold bY at h
 rw [Bool.and_eq_true] at h
 have h:=h.1
 unfold fB at h
 rw [Bool.and_eq_true,List.all_eq_true] at h
 intro y hy
 have q:=h.2 y hy
 obtain⟨n,k⟩:=y
 cases k with
 | «local»=>simp at q ⊢; exact q
 | cell=>simp at q ⊢; exact q
 | free=>simp at q ⊢; exact q
 | globalExplicit=>simp
 | globalImplicit=>simp
theorem bN:∀ (names:List (Str×NameKind)) (n:Nat) (acc:List (Str×Addr)),cellsFrom n names acc=cellsFrom n names []++acc
 | [],_,_=>rfl
 | (nm,k)::r,n,acc=>by
  show (if (k == NameKind.cell)=true then cellsFrom (n+1) r ((nm,n)::acc) else cellsFrom n r acc)=(if (k == NameKind.cell)=true then cellsFrom (n+1) r [(nm,n)] else cellsFrom n r [])++acc
  split
  ·rw [bN r (n+1) ((nm,n)::acc),bN r (n+1) [(nm,n)],List.append_assoc]
   rfl
  ·exact bN r n acc
theorem fK:∀ (names:List (Str×NameKind)) (n:Nat) (x:Str) (c:Addr),(x,c)∈cellsFrom n names []->(x,NameKind.cell)∈names/\n<=c
 | [],_,_,_,h=>nomatch h
 | (nm,k)::r,n,x,c,h=>by
  have h:(x,c)∈(if (k == NameKind.cell)=true then cellsFrom (n+1) r [(nm,n)] else cellsFrom n r []):=h
  split at h
  ·rename_i hk
   rw [bN] at h
   rcases List.mem_append.mp h with z | z
   ·obtain⟨h1,h2⟩:=fK r (n+1) x c z
    exact⟨List.mem_cons_of_mem _ h1,by omega⟩
   ·have z:(x,c)=(nm,n):=by simpa using z
    cases z
    have hk:k=.cell:=by simpa using hk
    subst hk
    exact⟨List.mem_cons_self,Nat.le_refl _⟩
  ·obtain⟨h1,h2⟩:=fK r n x c h
   exact⟨List.mem_cons_of_mem _ h1,h2⟩
theorem cells_inj:∀ (names:List (Str×NameKind)) (n:Nat) (x y:Str) (c:Addr),(x,c)∈cellsFrom n names []->(y,c)∈cellsFrom n names []->x=y
 | [],_,_,_,_,h,_=>nomatch h
 | (nm,k)::r,n,x,y,c,h,h'=>by
  have h:(x,c)∈(if (k == NameKind.cell)=true then cellsFrom (n+1) r [(nm,n)] else cellsFrom n r []):=h
  have h':(y,c)∈(if (k == NameKind.cell)=true then cellsFrom (n+1) r [(nm,n)] else cellsFrom n r []):=h'
  by_cases hk:(k == NameKind.cell)=true
  ·rw [if_pos hk,bN] at h h'
   rcases List.mem_append.mp h with z | z <;> rcases List.mem_append.mp h' with z' | z'
   ·exact cells_inj r (n+1) x y c z z'
   ·have:=(fK r (n+1) x c z).2
    have z':(y,c)=(nm,n):=by simpa using z'
    cases z'
    exact absurd this (Nat.not_succ_le_self _)
   ·have:=(fK r (n+1) y c z').2
    have z:(x,c)=(nm,n):=by simpa using z
    cases z
    exact absurd this (Nat.not_succ_le_self _)
   ·have z:(x,c)=(nm,n):=by simpa using z
    have z':(y,c)=(nm,n):=by simpa using z'
    cases z
    cases z'
    rfl
  ·rw [if_neg hk] at h h'
   exact cells_inj r n x y c h h'
theorem jW:∀ (names:List (Str×NameKind)) (h:Heap) (b:Addr) (o:Obj),h.get? b=some o->(pushCells h names).get? b=some o
 | [],_,_,_,e=>e
 | (nm,k)::r,h,b,o,e=>by
  show (if (k == NameKind.cell)=true then pushCells (h.push { cls:=Value.type "cell",data:=Data.cell none }) r else pushCells h r).get? b=some o
  split
  ·exact jW r _ b o (Heap.get?_push_of_some _ e)
  ·exact jW r h b o e
theorem push_cell:∀ (names:List (Str×NameKind)) (h:Heap) (x:Str) (c:Addr),(x,c)∈cellsFrom h.objs.size names []->(pushCells h names).IsCell c none
 | [],_,_,_,e=>nomatch e
 | (nm,k)::r,h,x,c,e=>by
  have e:(x,c)∈(if (k == NameKind.cell)=true then cellsFrom (h.objs.size+1) r [(nm,h.objs.size)] else cellsFrom h.objs.size r []):=e
  show (if (k == NameKind.cell)=true then pushCells (h.push { cls:=Value.type "cell",data:=Data.cell none }) r else pushCells h r).IsCell c none
  by_cases hk:(k == NameKind.cell)=true
  ·rw [if_pos hk,bN] at e
   rw [if_pos hk]
   rcases List.mem_append.mp e with z | z
   ·exact push_cell r _ x c (by rw [Heap.size_push]; exact z)
   ·have z:(x,c)=(nm,h.objs.size):=by simpa using z
    cases z
    exact⟨_,jW r _ _ _ (Heap.get?_push_size _ rfl),rfl⟩
  ·rw [if_neg hk] at e ⊢
   exact push_cell r h x c e
theorem newFnEnv_c {M:Model}{A:Around}{E:Value->Shared->Prop}{s:Shared}{scope:Scope}{globals:Addr}{closure:List (Str×Addr)}{qual:Str}{func:Option Addr}{code:Value}{around:Option Env}{builtins:Addr}{Q:Env->Shared->Prop}
  (h:Q (newEnv scope s.heap.objs.size globals (cellsFrom (s.heap.objs.size+1) scope.names closure) qual func code around builtins) { s with heap:=pushCells (s.heap.push { cls:=Value.type (if around.isSome=true then "dict" else "frame"),data:=Data.dict #[] }) scope.names }) :
  wpAny M A (newFunctionEnv scope globals closure [] qual func code around builtins) Q E s:=by
 unfold newFunctionEnv
 refine wpAny_bind (wpAny_alloc ?_)
 refine wpAny_bind (wpAny_layCells _ (fun _ _ _=>rfl) _ _ _ _ ?_)
 rw [Heap.size_push]
 exact wpAny_bind (wpAny_pure (wpAny_pure h))
theorem cl_get {n:Nat}{names:List (Str×NameKind)}{cl:List (Str×Addr)}{x:Str}{c:Addr} (h:(cellsFrom n names cl).lookup x=some c):(x,c)∈cellsFrom n names []\/cl.lookup x=some c:=by
 rw [bN,List.lookup_append] at h
 cases e:(cellsFrom n names []).lookup x with
 | none=>rw [e] at h; exact .inr h
 | some d =>
  rw [e] at h
  cases h
  exact .inl (PySem.mem_of_lookup e)
theorem cl_old {n:Nat}{names:List (Str×NameKind)}{cl:List (Str×Addr)}{x:Str} (h:∀ c,(x,c)∈cellsFrom n names []->False):(cellsFrom n names cl).lookup x=cl.lookup x:=by
 rw [bN,List.lookup_append]
 cases e:(cellsFrom n names []).lookup x with
 | none=>rfl
 | some d=>exact (h d (PySem.mem_of_lookup e)).elim
theorem free_old (h:bY X.env scope X.N M=true) {n:Nat}{x:Str} (hx:(x,NameKind.free)∈scope.names):∀ c,(x,c)∈cellsFrom n scope.names []->False:=fun c z=>by
 have h1:=((cI h _ hx).2.2 rfl).1
 have h2:=((cI h _ (fK _ _ _ _ z).1).2.1 rfl).2
 rw [h1] at h2
 cases h2
theorem jM (h:bY X.env scope X.N M=true):X.N.length=M.length:=by
 unfold bY at h
 rw [Bool.and_eq_true,Bool.and_eq_true] at h
 exact eq_of_beq h.2.1
theorem compOkM_N {i:Nat}{x:Str}{k:NameKind} (h:bY X.env scope X.N M=true) (hx:M[i]?=some x) (_:x∈M) (hn:(x,k)∈scope.names):X.N[i]?=some x:=by
 have hl:=jM h
 unfold bY at h
 rw [Bool.and_eq_true,Bool.and_eq_true,List.all_eq_true] at h
 have hi:i<M.length:=(List.getElem?_eq_some_iff.mp hx).1
 have hx':M[i]=x:=(List.getElem?_eq_some_iff.mp hx).2
 have hi':i<X.N.length:=by omega
 have q:=h.2.2 (X.N[i],M[i]) (by
  refine List.mem_iff_getElem.mpr ⟨i,by rw [List.length_zip]; omega,?_⟩
  rw [List.getElem_zip])
 rw [Bool.or_eq_true] at q
 rcases q with q | q
 ·have q:X.N[i]=M[i]:=eq_of_beq q
  rw [List.getElem?_eq_getElem hi',q,hx']
 ·rw [Bool.and_eq_true,List.all_eq_true] at q
  have e:M[i]=("":Str):=eq_of_beq q.1
  have z:=q.2 (x,k) hn
  rw [← hx',e] at z
  simp at z
theorem comp_enter {pins:List (Addr×Obj)}{σ:St}{H:Hp}{s:Shared}{fp:List Addr}{h₁:Heap}{tk:Nat} (hk:bY X.env scope X.N M=true) (I:Inv X pins σ H s) (hf:∀ b∈fp,FpOk X pins H b) (hfo:∀ b∈fp,∃ o,s.heap.get? b=some o)
  (hns:h₁.Ns (s.heap.objs.size+1) fun _=>none) (old:∀ b o,s.heap.get? b=some o->h₁.get? b=some o) (hD:h₁.get? s.heap.objs.size=some { cls:=.type "list",data:=.seq #[] 0 }) (hnc:∀ x c,(x,c)∈cellsFrom (s.heap.objs.size+2) scope.names []->h₁.IsCell c none) :
  Inv (X.cZ own M scope ⟨cellsFrom (s.heap.objs.size+2) scope.names (dN X.env.cells scope.names []),s.heap.objs.size+1,s,H,fp⟩) [(s.heap.objs.size,{ cls:=.type "list",data:=.seq #[] 0 })] (List.replicate own.length none++σ) H { s with heap:=h₁,toks:=tk }:=by
 have hkk:=fH hk
 have hka:=cI hk
 have hhas:∀ x,(x,NameKind.free)∈scope.names->∃ c,X.env.cells.lookup x=some c:=fun x hx=>I.ok.has x ((hka _ hx).2.2 rfl).2
 have hcl:∀ x c,(dN X.env.cells scope.names []).lookup x=some c->X.env.cells.lookup x=some c/\(x,NameKind.free)∈scope.names:=fun x c e=>by
  rcases cloF_get e with q | ⟨q1,q2⟩
  ·simp at q
  ·obtain⟨c',e'⟩:=hhas x q1
   rw [e'] at q2
   exact⟨by rw [e',q2]; rfl,q1⟩
 have hcc:∀ x c,(cellsFrom (s.heap.objs.size+2) scope.names (dN X.env.cells scope.names [])).lookup x=some c->(X.env.cells.lookup x=some c/\(x,NameKind.free)∈scope.names/\c<s.heap.objs.size)\/((x,c)∈cellsFrom (s.heap.objs.size+2) scope.names []/\(x,NameKind.cell)∈scope.names/\s.heap.objs.size+2<=c):=fun x c e=>by
  rcases cl_get e with z | z
  ·exact .inr ⟨z,fK _ _ _ _ z⟩
  ·obtain⟨h1,h2⟩:=hcl x c z
   obtain⟨v,o,ho,_⟩:=I.cell x c h1
   exact .inl ⟨h1,h2,Heap.lt_size ho⟩
 have hvis:∀ x,(relabel scope X.env).names.lookup x=some .cell\/(relabel scope X.env).names.lookup x=some .free->(x,NameKind.free)∈scope.names\/(x,NameKind.cell)∈scope.names:=fun x hx=>by
  have key:∀ q,(relabel scope X.env).names.lookup x=some q->q=.cell\/q=.free->(x,NameKind.free)∈scope.names\/(x,NameKind.cell)∈scope.names:=fun q hq hq'=>by
   obtain⟨k,h1,h2,h3⟩:=dJ (env:=X.env) (names:=scope.names) hq
   rcases h3 with h3 | ⟨_,h3⟩
   ·subst h3
    rcases hq' with z | z
    ·rw [z] at h1; exact .inr h1
    ·rw [z] at h1; exact .inl h1
   ·rw [h3] at h1; exact .inl h1
  rcases hx with hx | hx
  ·exact key _ hx (.inl rfl)
  ·exact key _ hx (.inr rfl)
 have hlt:∀ b o,s.heap.get? b=some o->b<s.heap.objs.size:=fun b o e=>Heap.lt_size e
 refine⟨⟨I.ok.mod,hkk,I.ok.glob,I.ok.blt,Nat.le_succ _,fun x y c h1 h2=>?inj,fun x hx=>?_,fun x c z e=>?cab,I.ok.hd,I.ok.frames,.inl rfl,fun b hb=>⟨?_,fun x c e=>?exf⟩,I.bs,
   Nat.le_trans I.ok.bsz I.sz,fun b o e hb=>?_,fun b hb hs=>?_,I.stack,I.stkFree⟩,rfl,I.bare,Un.kept old,⟨_,hns,fun i x v h1 h2 h3=>?_⟩,fun x c e=>?_,?_,fun x c e=>?frc,fun p hp=>?_,I.hok.kept old,?_⟩
 case inj =>
  rcases hcc x c h1 with ⟨a1,_,a3⟩ | ⟨a1,_,a3⟩ <;> rcases hcc y c h2 with ⟨b1,_,b3⟩ | ⟨b1,_,b3⟩
  ·exact I.ok.inj x y c a1 b1
  ·exact absurd (Nat.lt_of_lt_of_le a3 (Nat.le_trans (Nat.le_add_right _ 2) b3)) (Nat.lt_irrefl _)
  ·exact absurd (Nat.lt_of_lt_of_le b3 (Nat.le_trans (Nat.le_add_right _ 2) a3)) (Nat.lt_irrefl _)
  ·exact cells_inj _ _ _ _ _ a1 b1
 case cab =>
  show s.heap.objs.size<=c
  rcases hcc x c e with ⟨_,a2,_⟩ | ⟨_,_,a3⟩
  ·have h1:=((hka _ a2).2.2 rfl).1
   have z:(scope.names.lookup x == some NameKind.cell)=true:=z
   rw [h1] at z
   exact absurd z (by decide)
  ·omega
 case exf =>
  rcases hcc x c e with ⟨a1,_,_⟩ | ⟨_,_,a3⟩
  ·exact (hf b hb).2.2.2.2.1 x c a1
  ·obtain⟨o,e⟩:=hfo b hb
   have:=hlt b o e
   intro z
   subst z
   exact absurd (Nat.lt_of_lt_of_le this (Nat.le_trans (Nat.le_add_right _ 2) a3)) (Nat.lt_irrefl _)
 case frc =>
  rcases hcc x c e with ⟨a1,_,_⟩ | ⟨_,_,a3⟩
  ·exact I.freeC x c a1
  ·exact I.hok.fresh (by omega)
 ·have hx':(relabel scope X.env).names.lookup x=some .cell\/(relabel scope X.env).names.lookup x=some .free:=hx
  refine Option.isSome_iff_exists.mp (PySem.W.cellsFrom_some _ _ _ ?_)
  rcases hvis x hx' with z | z
  ·exact .inr (jN z)
  ·exact .inl ((hka _ z).2.1 rfl).2
 ·obtain⟨o,e⟩:=hfo b hb
  exact Nat.ne_of_lt (Nat.lt_succ_of_lt (hlt b o e))
 ·have hb':b∈fp:=hb
  rcases (hf b hb').2.2.2.1 with z | z
  ·exact I.ok.noex b o e z
  ·exact absurd (Nat.lt_of_lt_of_le (Heap.lt_size (I.ok.bs b o e).1) z) (Nat.lt_irrefl _)
 ·have hb':b∈fp:=hb
  rcases List.mem_cons.mp (I.stkSub b hs) with z | z
  ·exact (hf b hb').2.1 z
  ·exact (hf b hb').2.2.1 z
 ·have hi:own.length<=i:=by
   by_cases hi:i<own.length
   ·rw [List.getElem?_append_left (by simpa using hi),List.getElem?_replicate] at h2
    split at h2 <;> cases h2
   ·omega
  have h1':M[i - own.length]?=some x:=by
   have q:(own++M)[i]?=some x:=h1
   rwa [List.getElem?_append_right hi] at q
  have h2':σ[i - own.length]?=some (some v):=by
   rw [List.getElem?_append_right (by simpa using hi)] at h2
   simpa using h2
  have h3':Vis (relabel scope X.env) x:=h3
  have hfr:(x,NameKind.free)∈scope.names:=by
   rcases h3' with z | z
   ·obtain⟨k,q1,q2,q3⟩:=dJ (env:=X.env) (names:=scope.names) z
    rcases q3 with q3 | ⟨q3,_⟩
    ·subst q3
     exact absurd (List.mem_of_getElem? h1') ((hka _ q1).1 rfl).1
    ·cases q3
   ·rcases hvis x z with y | y
    ·exact y
    ·exact absurd (List.mem_of_getElem? h1') ((hka _ y).2.1 rfl).1
  have hkx:=((hka _ hfr).2.2 rfl).2
  obtain⟨m,hm,hl⟩:=I.loc
  obtain⟨u,ru,lu⟩:=hl _ x v (compOkM_N hk h1' (List.mem_of_getElem? h1') hfr) h2' (by rcases hkx with z | z; exact .inr (.inl z); exact .inr (.inr z))
  refine⟨u,ru,.inr ⟨?_,?_⟩⟩
  ·rcases h3' with z | z | z
   ·obtain⟨k,q1,q2,q3⟩:=dJ (env:=X.env) (names:=scope.names) z
    rcases q3 with q3 | ⟨q3,_⟩
    ·subst q3
     exact absurd (List.mem_of_getElem? h1') ((hka _ q1).1 rfl).1
    ·cases q3
   ·exact .inl z
   ·exact .inr z
  ·rcases lu with ⟨z,_⟩ | ⟨_,c,e,ic⟩
   ·rcases hkx with q | q
    ·rw [q] at z; cases z
    ·rw [q] at z; cases z
   ·obtain⟨c',e'⟩:=Option.isSome_iff_exists.mp (jN (cells:=X.env.cells) (acc:=[]) hfr)
    have e2:=(hcl x c' e').1
    rw [e] at e2
    cases e2
    obtain⟨o,ho,hd⟩:=ic
    exact⟨c,(cl_old (free_old hk hfr)).trans e',o,old _ _ ho,hd⟩
 ·rcases hcc x c e with ⟨z,_,_⟩ | ⟨z,_,_⟩
  ·obtain⟨v,o,ho,hd⟩:=I.cell x c z
   exact⟨v,o,old _ _ ho,hd⟩
  ·exact⟨none,hnc x c z⟩
 ·exact I.hok.fresh (Nat.le_succ _)
 ·have hp':p=(s.heap.objs.size,{ cls:=.type "list",data:=.seq #[] 0 }):=by simpa using hp
  subst hp'
  refine⟨hD,I.hok.fresh (Nat.le_refl _),Nat.ne_of_lt (Nat.lt_succ_self _),fun z=>?_,fun v z=>nomatch z⟩
  obtain⟨_,o,ho,_⟩:=I.stack.mem z
  exact absurd (Heap.lt_size ho) (Nat.lt_irrefl _)
 ·show (List.replicate own.length none++σ).length=(own++M).length
  rw [List.length_append,List.length_append,List.length_replicate,I.len,jM hk]
theorem comp_leave {pins pn:List (Addr×Obj)}{σ σ':St}{H H':Hp}{s s':Shared}{fp:List Addr}{cl:List (Str×Addr)}{ys:List V}{us:List Value}{n:Nat} (I:Inv X pins σ H s) (hf:∀ b∈fp,FpOk X pins H b)
  (J:Inv (X.cZ own M scope ⟨cl,s.heap.objs.size+1,s,H,fp⟩) pn σ' H' s') (hp:(s.heap.objs.size,({ cls:=.type "list",data:=.seq us.toArray n }:Obj))∈pn) (hv:Vals ys us) (hz:ys.length<=sizeLine) :
  Inv X pins σ (upd H' s.heap.objs.size (.lst ys)) s'/\H' s.heap.objs.size=none:=by
 obtain⟨hD,hDn,_⟩:=J.pin _ (List.mem_append_right _ hp)
 refine⟨I.call' J.os ⟨fun b o e n hb hx=>J.base.keep b o e n hb hx,fun b o e n hb hx=>J.base.slot b o e n hb hx,fun b o e n hx=>?_,fun b o e hx=>J.base.there b o e hx,fun b xs e=>?_,fun b o u e=>?_,fun b ps e=>?_⟩ ?_ J.bare ?_,hDn⟩
 ·rw [aA (Nat.ne_of_lt (Heap.lt_size e))]
  exact J.base.free b o e n hx
 ·have q:=J.base.tups b xs e
  rw [aA (aH q hDn)]
  exact q
 ·have q:=J.base.frzs b o u e
  rw [aA (aH q hDn)]
  exact q
 ·obtain⟨more,q⟩:=J.base.tbls b ps e
  exact⟨more,by rw [aA (aH q hDn)]; exact q⟩
 ·exact J.hok.track hDn ⟨hz,us,n,hv,hD⟩
 ·intro b hb
  exact⟨(hf b hb).2.2.2.1,(hf b hb).2.1,(hf b hb).2.2.2.2.1,(hf b hb).2.2.2.2.2⟩
theorem comp_reset {pins pn:List (Addr×Obj)}{σ σ':St}{H H':Hp}{s s':Shared}{fp:List Addr}{cl:List (Str×Addr)} (hk:bY X.env scope X.N M=true) (I:Inv X pins σ H s) (hf:∀ b∈fp,FpOk X pins H b)
  (hcl:∀ x,(x,NameKind.free)∈scope.names->∃ c,cl.lookup x=some c/\X.env.cells.lookup x=some c)
  (J:Inv (X.cZ own M scope ⟨cl,s.heap.objs.size+1,s,H,fp⟩) pn σ' H' s'):Inv (X.cZ own M scope ⟨cl,s.heap.objs.size+1,s,H,fp⟩) pn (List.replicate own.length none++σ) H' s':=by
 have hka:=cI hk
 refine⟨J.ok,J.os,J.bare,J.base,?_,J.cell,J.free,J.freeC,J.pin,J.hok,?_⟩
 ·obtain⟨mC,hmC,_⟩:=J.loc
  refine⟨mC,hmC,fun i x v h1 h2 h3=>?_⟩
  have hi:own.length<=i:=by
   by_cases hi:i<own.length
   ·rw [List.getElem?_append_left (by simpa using hi),List.getElem?_replicate] at h2
    split at h2 <;> cases h2
   ·omega
  have h1':M[i - own.length]?=some x:=by
   have q:(own++M)[i]?=some x:=h1
   rwa [List.getElem?_append_right hi] at q
  have h2':σ[i - own.length]?=some (some v):=by
   rw [List.getElem?_append_right (by simpa using hi)] at h2
   simpa using h2
  have h3':Vis (relabel scope X.env) x:=h3
  have nloc:¬ (relabel scope X.env).names.lookup x=some .local:=fun z=>by
   obtain⟨k,q1,q2,q3⟩:=dJ (env:=X.env) (names:=scope.names) z
   rcases q3 with q3 | ⟨q3,_⟩
   ·subst q3
    exact absurd (List.mem_of_getElem? h1') ((hka _ q1).1 rfl).1
   ·cases q3
  have hkk:(relabel scope X.env).names.lookup x=some .cell\/(relabel scope X.env).names.lookup x=some .free:=by
   rcases h3' with z | z
   ·exact absurd z nloc
   ·exact z
  have hfr:(x,NameKind.free)∈scope.names:=by
   have key:∀ q,(relabel scope X.env).names.lookup x=some q->q=.cell\/q=.free->(x,NameKind.free)∈scope.names:=fun q hq hq'=>by
    obtain⟨k,h1,h2,h3⟩:=dJ (env:=X.env) (names:=scope.names) hq
    rcases h3 with h3 | ⟨_,h3⟩
    ·subst h3
     rcases hq' with z | z
     ·rw [z] at h1; exact absurd (List.mem_of_getElem? h1') ((hka _ h1).2.1 rfl).1
     ·rw [z] at h1; exact h1
    ·rw [h3] at h1; exact h1
   rcases hkk with hx | hx
   ·exact key _ hx (.inl rfl)
   ·exact key _ hx (.inr rfl)
  have hkx:=((hka _ hfr).2.2 rfl).2
  obtain⟨m,hm,hl⟩:=I.loc
  obtain⟨u,ru,lu⟩:=hl _ x v (compOkM_N hk h1' (List.mem_of_getElem? h1') hfr) h2' (by rcases hkx with z | z; exact .inr (.inl z); exact .inr (.inr z))
  refine⟨u,ru,.inr ⟨hkk,?_⟩⟩
  rcases lu with ⟨z,_⟩ | ⟨_,c,e,ic⟩
  ·rcases hkx with q | q
   ·rw [q] at z; cases z
   ·rw [q] at z; cases z
  ·obtain⟨c',e',e2⟩:=hcl x hfr
   rw [e] at e2
   cases e2
   obtain⟨o,ho,hd⟩:=ic
   obtain⟨sl,q⟩:=J.base.any ho (I.freeC x c e) fun z=>(hf c z).2.2.2.2.1 x c e rfl
   exact⟨c,e',_,q,hd⟩
 ·show (List.replicate own.length none++σ).length=(own++M).length
  rw [List.length_append,List.length_append,List.length_replicate,I.len,jM hk]
theorem comp_walk {pins:List (Addr×Obj)}{σ:St}{H:Hp}{s:Shared}{it:Addr}{fp:List Addr}{tn:Nat->Heap->Prop}{J:It}{W:Nat->Nat->List V->Hp->Prop}{E:Value->Shared->Prop}{RR:Value->Addr->Result->Shared->Prop} (hc:X.calm=true)
  (hk:bY X.env scope X.N M=true) (hg:∀ c,PG (X.cZ own M scope c) tg (g c)) (ht:∀ c,PTs (X.cZ own M scope c) ifs (tt c)) (he:∀ c,PE (X.cZ own M scope c) elt (te c))
  (I:Inv X pins σ H s) (T:Turn X.prog X.w X.K tg J fp it tn) (st:tn 0 s.heap) (hf:∀ b∈fp,FpOk X pins H b) {m0:Nat} (w0:W 0 m0 [] H) {D:List V->Hp->Prop}
  (turn:∀ (c:CB) i m ys H,W i m ys H->(J.stop i H/\D ys H) ∨
   (J.go i H/\ys.length<sizeLine/\∃ N:List V->Hp->Prop,(∀ ys' H',N ys' H'->∃ m',m'<m/\W (i+1) m' ys' H')/\∀ x H',J.yld i H x H'->g c x (List.replicate own.length none++σ) H' fun σ2 H2=>tt c σ2 H2 fun b H3 =>
    if b=true then te c σ2 H3 fun v H4=>N (ys++[v]) H4 else N ys H3))
  (fin:∀ s' m' ys H',(s'.heap.Ns (s.heap.objs.size+1) m')->H' (s.heap.objs.size+1)=none->H' s.heap.objs.size=none->Inv X pins σ (upd H' s.heap.objs.size (.lst ys)) s'->D ys H'->RR (.ref s.heap.objs.size) (s.heap.objs.size+1) (.ok .next) s') :
  wpAny (model X.prog X.w) X.A (newList []) (fun acc s₃=>wpAny (model X.prog X.w) X.A (newFunctionEnv scope X.env.globals (dN X.env.cells scope.names []) [] X.env.qual none .none (some X.env)) (fun cenv s₄ =>
   codeAny (model X.prog X.w) X.A (.compStart (.ListComp elt [⟨tg,iter,ifs,0⟩] scope pos) 0 (.ref it) acc { cenv with scope:=relabel scope X.env }) (RR acc cenv.locals) s₄) E s₃) E s:=by
 have hkk:=fH hk
 have hka:=cI hk
 refine wpAny_newObj_type (newFnEnv_c ?_)
 dsimp only
 have hC:(s.heap.push { cls:=.type "list",dict:=none,data:=.seq ([]:List Value).toArray }).objs.size=s.heap.objs.size+1:=Heap.size_push ..
 rw [hC]
 generalize hH2:s.heap.push { cls:=.type "list",dict:=none,data:=.seq ([]:List Value).toArray }=H2 at hC ⊢
 generalize hH3:H2.push { cls:=Value.type (if (some X.env:Option Env).isSome=true then "dict" else "frame"),data:=Data.dict #[] }=H3
 generalize hh1:pushCells H3 scope.names=h₁
 have hC3:H3.objs.size=s.heap.objs.size+2:=by rw [← hH3,Heap.size_push,hC]
 have old3:∀ b o,H3.get? b=some o->h₁.get? b=some o:=fun b o e=>hh1 ▸ jW _ _ _ _ e
 have old2:∀ b o,H2.get? b=some o->h₁.get? b=some o:=fun b o e=>old3 b o (hH3 ▸ Heap.get?_push_of_some _ e)
 have old:∀ b o,s.heap.get? b=some o->h₁.get? b=some o:=fun b o e=>old2 b o (hH2 ▸ Heap.get?_push_of_some _ e)
 have hacc:h₁.get? s.heap.objs.size=some { cls:=.type "list",data:=.seq #[] 0 }:=old2 _ _ (hH2 ▸ Heap.get?_push_size _ rfl)
 have hns:h₁.Ns (s.heap.objs.size+1) fun _=>none:=by
  have z:=Heap.Ns.new H2 (Value.type (if (some X.env:Option Env).isSome=true then "dict" else "frame"))
  rw [hC,hH3] at z
  exact z.keeps old3
 have hnc:∀ x c,(x,c)∈cellsFrom (s.heap.objs.size+2) scope.names []->h₁.IsCell c none:=fun x c e=>by
  rw [← hC3] at e
  exact hh1 ▸ push_cell _ _ _ _ e
 have hfo:∀ b∈fp,∃ o,s.heap.get? b=some o:=fun b hb=>let ⟨o,e,_⟩:=T.obj 0 _ st b hb; ⟨o,e⟩
 have st₁:tn 0 h₁:=T.keep 0 _ _ st fun b _ o e=>old b o e
 have I₁:=comp_enter (own:=own) (tk:=s.toks) hk I hf hfo hns old hacc hnc
 have loop:∀ s₃:Shared,s₃={ s with heap:=h₁,toks:=s.toks } ->
   codeAny (model X.prog X.w) X.A (.compLoop (.ListComp elt [⟨tg,iter,ifs,0⟩] scope pos) 0 (.ref it) (.ref s.heap.objs.size) (compEnvC scope (cellsFrom (s.heap.objs.size+2) scope.names (dN X.env.cells scope.names [])) (s.heap.objs.size+1) X.env))
    (RR (.ref s.heap.objs.size) (s.heap.objs.size+1)) s₃:=by
  rintro s₃ rfl
  have neD:∀ b∈fp,b≠s.heap.objs.size:=fun b hb=>by
   obtain⟨o,e⟩:=hfo b hb
   exact Nat.ne_of_lt (Heap.lt_size e)
  have stat:∀ {H':Hp}{o:Obj},(∀ b∈fp,H' b=none)->∀ b∈fp,FpOk (X.cZ own M scope ⟨cellsFrom (s.heap.objs.size+2) scope.names (dN X.env.cells scope.names []),s.heap.objs.size+1,s,H,fp⟩) [(s.heap.objs.size,o)] H' b:=fun {H' o} hn b hb =>
   ⟨hn b hb,(I₁.ok.exf b hb).1,I₁.ok.exfs b hb,.inl hb,(I₁.ok.exf b hb).2,fun p hp=>by
    have hp':p=(s.heap.objs.size,o):=by simpa using hp
    subst hp'
    exact Ne.symm (neD b hb)⟩
  refine comp_loop (fun k s'=>∃ i ys us n H',Inv (X.cZ own M scope ⟨cellsFrom (s.heap.objs.size+2) scope.names (dN X.env.cells scope.names []),s.heap.objs.size+1,s,H,fp⟩) [(s.heap.objs.size,{ cls:=.type "list",data:=.seq (us:List Value).toArray n })] (List.replicate own.length none++σ) H' s' /\
    Vals ys us/\ys.length<=sizeLine/\tn i s'.heap/\(∀ b∈fp,H' b=none)/\W i k ys H') ?_ m0 ⟨0,[],[],0,H,I₁,.nil,Nat.zero_le _,st₁,fun b hb=>(hf b hb).1,w0⟩
  rintro k s3 ⟨i,ys,us,n,H3,I3,hv,hz,st3,fr3,w3⟩
  rcases turn ⟨cellsFrom (s.heap.objs.size+2) scope.names (dN X.env.cells scope.names []),s.heap.objs.size+1,s,H,fp⟩ i k ys H3 w3 with ⟨stop,d⟩ | ⟨go,hlt,N,hN,step⟩
  ·refine thn (T.done (X.cZ own M scope ⟨cellsFrom (s.heap.objs.size+2) scope.names (dN X.env.cells scope.names []),s.heap.objs.size+1,s,H,fp⟩) rfl rfl rfl hc i _ s3 _ H3 _ I3 (stat fr3) st3 stop) fun r s4 ⟨hr,I4⟩=>?_
   subst hr
   obtain⟨m',hm',_⟩:=I4.loc
   obtain⟨J4,hDn⟩:=comp_leave I hf I4 (List.mem_singleton.mpr rfl) hv hz
   exact fin s4 m' ys H3 hm' I4.free hDn J4 d
  ·refine thn (T.item (X.cZ own M scope ⟨cellsFrom (s.heap.objs.size+2) scope.names (dN X.env.cells scope.names []),s.heap.objs.size+1,s,H,fp⟩) rfl rfl rfl hc i _ s3 _ H3 _ I3 (stat fr3) st3 go) fun r s4 ⟨u,hr,h4⟩=>?_
   subst hr
   refine thn h4 fun _ s5 ⟨x,H5,I5,r5,y5,st5,fr5⟩=>?_
   have I5':=I5.pinned (stat fr5) (T.obj _ _ st5)
   refine thn (hg _ _ s5 _ H5 x u _ I5' r5 (step x H5 y5)) fun _ s6 ⟨σ6,H6,I6,q6⟩=>?_
   refine thn (ht _ _ s6 σ6 H6 _ I6 q6) fun b s7 ⟨H7,I7,q7⟩=>?_
   -- the turn's end: the iterator's records stand,the names are forgotten
   have clH:∀ x,(x,NameKind.free)∈scope.names->∃ c,(cellsFrom (s.heap.objs.size+2) scope.names (dN X.env.cells scope.names [])).lookup x=some c/\X.env.cells.lookup x=some c:=fun x hx=>by
    obtain⟨c,e⟩:=I.ok.has x ((hka _ hx).2.2 rfl).2
    obtain⟨c',e'⟩:=Option.isSome_iff_exists.mp (jN (cells:=X.env.cells) (acc:=[]) hx)
    rcases cloF_get e' with q | ⟨_,q⟩
    ·simp at q
    ·rw [e] at q
     exact⟨c',(cl_old (free_old hk hx)).trans e',by rw [e,q]; rfl⟩
   have keepT:∀ {H':Hp}{σ':St}{s':Shared}{pn:List (Addr×Obj)},(∀ p∈jt fp s5.heap,p∈pn)->Inv (X.cZ own M scope ⟨cellsFrom (s.heap.objs.size+2) scope.names (dN X.env.cells scope.names []),s.heap.objs.size+1,s,H,fp⟩) pn σ' H' s'->tn (i+1) s'.heap/\∀ b∈fp,H' b=none:=fun {H' σ' s' pn} hs I' =>
    ⟨T.keep _ _ _ st5 fun b hb o e=>(I'.pin (b,o) (List.mem_append_right _ (hs _ (iM hb e)))).1,fun b hb=>by
     obtain⟨o,e,_⟩:=T.obj _ _ st5 b hb
     exact (I'.pin (b,o) (List.mem_append_right _ (hs _ (iM hb e)))).2.1⟩
   cases b with
   | false =>
    rw [if_neg Bool.false_ne_true]
    rw [if_neg Bool.false_ne_true] at q7
    obtain⟨m',hm',w7⟩:=hN _ _ q7
    obtain⟨t7,f7⟩:=keepT (fun p hp=>List.mem_append_right _ hp) I7
    exact⟨m',hm',i+1,ys,us,n,H7,comp_reset hk I hf clH I7.lJ,hv,hz,t7,f7,w7⟩
   | true =>
    rw [if_pos rfl]
    rw [if_pos rfl] at q7
    refine thn (he _ _ s7 σ6 H7 _ I7 q7) fun u8 s8 ⟨v8,H8,I8,r8,q8⟩=>?_
    obtain⟨m',hm',w8⟩:=hN _ _ q8
    obtain⟨t8,f8⟩:=keepT (fun p hp=>List.mem_append_right _ hp) I8
    obtain⟨hD8,nD8,lD8,fD8,_⟩:=I8.pin (s.heap.objs.size,{ cls:=.type "list",data:=.seq us.toArray n }) (List.mem_append_right _ (List.mem_append_left _ (List.mem_singleton.mpr rfl)))
    refine append_at (hsz:=by rw [List.size_toArray,← hv.length]; exact Nat.le_of_lt hlt) hD8 fun h9 hs9 hD9=>?_
    have J8:Inv (X.cZ own M scope ⟨cellsFrom (s.heap.objs.size+2) scope.names (dN X.env.cells scope.names []),s.heap.objs.size+1,s,H,fp⟩) (jt fp s5.heap) σ6 H8 s8:=I8.pins_of fun p hp=>I8.pin p (List.mem_append_right _ (List.mem_append_right _ hp))
    have J9:Inv (X.cZ own M scope ⟨cellsFrom (s.heap.objs.size+2) scope.names (dN X.env.cells scope.names []),s.heap.objs.size+1,s,H,fp⟩) (jt fp s5.heap) σ6 H8 { s8 with heap:=h9 }:=J8.turned (t':=s8.toks) (it:=s.heap.objs.size) (fun b o hb e=>(hs9.2 b hb).trans e) nD8 lD8 (.inr (Nat.le_refl _))
     (fun x c e z=>by
      obtain⟨v,o,ho,hd⟩:=J8.cell x c e
      rw [z,hD8] at ho
      cases ho
      cases hd)
     (fun p hp=>by
      have hp':p∈jt fp s5.heap:=by simpa using hp
      exact neD _ (of_pinsAt hp').1)
    obtain⟨t9,f9⟩:=keepT (fun p hp=>hp) J9
    have e9:h9.get? s.heap.objs.size=some { cls:=.type "list",data:=.seq (us++[u8]).toArray (n+1) }:=by
     rw [hD9,List.push_toArray]
    have J9':Inv (X.cZ own M scope ⟨cellsFrom (s.heap.objs.size+2) scope.names (dN X.env.cells scope.names []),s.heap.objs.size+1,s,H,fp⟩) [(s.heap.objs.size,{ cls:=.type "list",data:=.seq (us++[u8]).toArray (n+1) })] σ6 H8 { s8 with heap:=h9 }:=J9.pins_of fun p hp=>by
     have hp':p=(s.heap.objs.size,{ cls:=.type "list",data:=.seq (us++[u8]).toArray (n+1) }):=by simpa using hp
     subst hp'
     exact⟨e9,nD8,lD8,fD8,fun v z=>nomatch z⟩
    exact⟨m',hm',i+1,ys++[v8],us++[u8],n+1,H8,comp_reset hk I hf clH J9',hv.append (.cons r8 .nil),by rw [List.length_append,List.length_singleton]; exact hlt,t9,f9,w8⟩
 exact codeAny_compStart_list (loop _ rfl) (T.self _ 0 _ _ _ st₁ (loop _ rfl))
theorem comp_clos {pins:List (Addr×Obj)}{σ:St}{H:Hp}{s:Shared} (hk:bY X.env scope X.N M=true) (I:Inv X pins σ H s):closureFor scope X.env=pure (dN X.env.cells scope.names []) :=
 closure_eq fun x hx hf=>I.ok.has x.1 ((cI hk x hx).2.2 hf).2
theorem comp_gone {pins:List (Addr×Obj)}{σ:St}{H:Hp}{s s':Shared}{C:Addr}{h':Heap}{m:Str->Option Value} (I:Inv X pins σ H s') (hs:X.s₀.heap.objs.size<=C) (hC:C≠X.env.locals) (hcl:∀ x c,X.env.cells.lookup x=some c->c≠C) (hp:∀ p∈X.pn++pins,p.1≠C) (hn:H C=none)
  (hb:Heap.SameBut C s'.heap h'):Inv X pins σ H { s' with heap:=h' }:=I.turned (t':=s'.toks) (fun b o hb' e=>(hb.2 b hb').trans e) hn hC (.inr hs) hcl hp
theorem pe_lcM (own M:List Str) (hc:X.calm=true) (hi:PI X tg iter wi) (hg:∀ c,PG (X.cZ own M scope c) tg (g c)) (ht:∀ c,PTs (X.cZ own M scope c) ifs (tt c)) (he:∀ c,PE (X.cZ own M scope c) elt (te c))
  (hk:bY X.env scope X.N M=true:=by rfl) (hs:∀ x,foldedSetIterable iter X.env x=pure x:=by intro _; rfl) :
  PE X (.ListComp elt [⟨tg,iter,ifs,0⟩] scope pos) (tLC own.length wi g tt te):=by
 intro pins s σ H Q I h
 rw [eval_ListComp]
 have hka:=cI hk
 refine wpAny_comprehension_free (use:=none) rfl hs (comp_clos hk I) (fH hk) (fun x hx hl=>((hka x hx).1 hl).2) (thn (hi pins s σ H _ I h) fun v s1 h1=>thn h1 fun itv s2 h2=>?_)
 obtain⟨it,fp,tn,J,H2,e,I2,T,st2,f2,W,⟨m0,w0⟩,turn⟩:=h2
 subst e
 refine comp_walk (RR:=fun acc C=>compPost (model X.prog X.w) X.A X.xe none (EP X pins σ Q) acc C) (D:=fun ys H=>∀ p,H p=none->Q (.ref p) (upd H p (.lst ys))) hc hk hg ht he I2 T st2 f2 w0 turn ?_
 intro s' m' ys H' hns hCn hDn J' d
 have lt2:∀ {b:Addr}{o:Obj},s2.heap.get? b=some o->b≠s2.heap.objs.size+1:=fun e=>Nat.ne_of_lt (Nat.lt_succ_of_lt (Heap.lt_size e))
 refine⟨m',hns,fun h' hb=>⟨.ref s2.heap.objs.size,_,comp_gone (m:=m') (s:=s2) J' (Nat.le_trans I2.sz (Nat.le_succ _)) (Ne.symm (Nat.ne_of_lt (Nat.lt_succ_of_lt I2.lt))) (fun x c e=>?_) (fun p hp=>?_) ?_ hb,rfl,d _ hDn⟩⟩
 ·obtain⟨v,o,ho,_⟩:=I2.cell x c e
  exact lt2 ho
 ·exact lt2 (I2.pin p hp).1
 ·rw [aA (Nat.ne_of_gt (Nat.lt_succ_self _))]
  exact hCn
theorem ps_lcM (own M:List Str) {i:Nat}{y:Str}{py spos:Pos} (hc:X.calm=true) (hN:X.N.Nodup) (hiN:X.N[i]?=some y) (hx:Loc X.env.scope y) (hi:PI X tg iter wi) (hg:∀ c,PG (X.cZ own M scope c) tg (g c)) (ht:∀ c,PTs (X.cZ own M scope c) ifs (tt c)) (he:∀ c,PE (X.cZ own M scope c) elt (te c))
  (hsw:swapsWith (.ListComp elt [⟨tg,iter,ifs,0⟩] scope pos) (some (.Name y py)) spos.line X.env=pure true:=by rfl)
  (hk:bY X.env scope X.N M=true:=by rfl) (hs:∀ x,foldedSetIterable iter X.env x=pure x:=by intro _; rfl) (hf:X.fn y=true\/X.env.scope.names.lookup y=some .local:=by first | exact .inl rfl | exact .inr rfl | assumption) :
  PS X (.Assign [.Name y py] (.ListComp elt [⟨tg,iter,ifs,0⟩] scope pos) spos) (tAsg (tLC own.length wi g tt te) (jJ i)):=by
 intro pins s σ H D I h
 rw [exec_Assign_Name_used _ _ _ _ hsw]
 have hka:=cI hk
 refine wpAny_bind (wpAny_standAt (wpAny_bind ?_))
 show wpAny _ X.A (do let _ ← comprehension (.ListComp elt [⟨tg,iter,ifs,0⟩] scope pos) scope X.env _ (newList []) false (eval iter X.env) (some (assign (.Name y py) X.env))) _ _ s
 refine wpAny_bind (wpAny_mono (wpAny_comprehension_free (use:=some (assign (.Name y py) X.env)) (Q:=fun _ s'=>SP X pins D .next s') rfl hs (comp_clos hk I) (fH hk) (fun x hx hl=>((hka x hx).1 hl).2)
  (thn (hi pins s σ H _ I h) fun v s1 h1=>thn h1 fun itv s2 h2=>?_)) (fun _ s' hq=>wpAny_pure (wpAny_pure hq)) fun _ _ e=>e)
 obtain⟨it,fp,tn,J,H2,e,I2,T,st2,f2,W,⟨m0,w0⟩,turn⟩:=h2
 subst e
 refine comp_walk (RR:=fun acc C=>compPost (model X.prog X.w) X.A X.xe (some (assign (.Name y py) X.env)) (fun _ s'=>SP X pins D .next s') acc C) (D:=fun ys H=>∀ p,H p=none->jJ i (.ref p) σ (upd H p (.lst ys)) D.nx) hc hk hg ht he I2 T st2 f2 w0 turn ?_
 intro s' m' ys H' hns hCn hDn J' d
 have lt2:∀ {b:Addr}{o:Obj},s2.heap.get? b=some o->b≠s2.heap.objs.size+1:=fun e=>Nat.ne_of_lt (Nat.lt_succ_of_lt (Heap.lt_size e))
 show wpAny _ X.A (assign (.Name y py) X.env (.ref s2.heap.objs.size)) _ _ _
 refine wpAny_assign_Name (store_ok2 (v:=.ref s2.heap.objs.size) J' (fun j h=>nodup_ix hN h hiN) hiN hx rfl (fun s'' J'' ⟨a,hsb,ha⟩=>?_) hf)
 have hLne:X.env.locals≠s2.heap.objs.size+1:=Nat.ne_of_lt (Nat.lt_succ_of_lt I2.lt)
 have hCa:s2.heap.objs.size+1≠a:=by
  rcases ha with ha | ha
  ·rw [ha]; exact Ne.symm hLne
  ·obtain⟨v,o,ho,_⟩:=I2.cell _ _ ha
   exact Ne.symm (lt2 ho)
 refine⟨m',hns.sameBut hsb hCa,fun h' hb=>⟨_,_,comp_gone (m:=m') (s:=s2) J'' (Nat.le_trans I2.sz (Nat.le_succ _)) (Ne.symm hLne) (fun x c e=>?_) (fun p hp=>?_) ?_ hb,d _ hDn⟩⟩
 ·obtain⟨v,o,ho,_⟩:=I2.cell x c e
  exact lt2 ho
 ·exact lt2 (I2.pin p hp).1
 ·rw [aA (Nat.ne_of_gt (Nat.lt_succ_self _))]
  exact hCn
theorem pe_lc (own:List Str) (hc:X.calm=true) (hi:PI X tg iter wi) (hg:∀ c,PG (X.comp own scope c) tg (g c)) (ht:∀ c,PTs (X.comp own scope c) ifs (tt c)) (he:∀ c,PE (X.comp own scope c) elt (te c))
  (hk:fB X.env scope X.N=true:=by rfl) (hs:∀ x,foldedSetIterable iter X.env x=pure x:=by intro _; rfl) :
  PE X (.ListComp elt [⟨tg,iter,ifs,0⟩] scope pos) (tLC own.length wi g tt te):=pe_lcM own X.N hc hi hg ht he (compOk_M hk) hs
theorem ps_lc (own:List Str) {i:Nat}{y:Str}{py spos:Pos} (hc:X.calm=true) (hN:X.N.Nodup) (hiN:X.N[i]?=some y) (hx:Loc X.env.scope y) (hi:PI X tg iter wi) (hg:∀ c,PG (X.comp own scope c) tg (g c)) (ht:∀ c,PTs (X.comp own scope c) ifs (tt c)) (he:∀ c,PE (X.comp own scope c) elt (te c))
  (hsw:swapsWith (.ListComp elt [⟨tg,iter,ifs,0⟩] scope pos) (some (.Name y py)) spos.line X.env=pure true:=by rfl)
  (hk:fB X.env scope X.N=true:=by rfl) (hs:∀ x,foldedSetIterable iter X.env x=pure x:=by intro _; rfl) (hf:X.fn y=true\/X.env.scope.names.lookup y=some .local:=by first | exact .inl rfl | exact .inr rfl | assumption) :
  PS X (.Assign [.Name y py] (.ListComp elt [⟨tg,iter,ifs,0⟩] scope pos) spos) (tAsg (tLC own.length wi g tt te) (jJ i)):=ps_lcM own X.N hc hN hiN hx hi hg ht he hsw (compOk_M hk) hs hf
end
section
variable {X:Cx}{tg:Expr}{K:PySem.W.Frag}{g:CB->TG}{tt:CB->TT}{te:CB->TE}{σ:St}{H:Hp}{Q:VK}{n:Nat}
noncomputable def iSeq (K:PySem.W.Frag) (tl:TE):TI:=fun σ H R=>tl σ H fun x H1=>∃ a,x=.ref a/\(((∃ xs,SqL K H1 a xs)/\R (Itl K a) H1)\/((∃ xs,SqT K H1 a xs)/\R (Itt K a) H1))
theorem pi_seq {l:Expr}{tl:TE} (hl:PE X l tl):PI X tg l (iSeq X.K tl):=by
 intro pins s σ H R I h
 refine thn (hl pins s σ H _ I h) fun v s1 ⟨x,H1,I1,r1,q1⟩=>?_
 obtain⟨a,e,q1⟩:=q1
 subst e
 cases r1
 rcases q1 with ⟨⟨xs,hq⟩,q⟩ | ⟨⟨xs,hq⟩,q⟩
 ·obtain⟨its,rv,p,hz⟩:=I1.list hq
  refine wpAny_pyIter_list p.isList ?_
  refine⟨s1.heap.objs.size,[s1.heap.objs.size],_,_,H1,rfl,I1.kept (t':=s1.toks) fun b o e=>Heap.get?_push_of_some _ e,turn_list a _,⟨_,Heap.get?_push_size _ rfl,rfl,rfl⟩,fun b hb=>?_,q⟩
  have e:b=s1.heap.objs.size:=by simpa using hb
  subst e
  exact I1.fpOk (Nat.le_refl _) (I1.hok.fresh (Nat.le_refl _))
 ·obtain⟨its,rv,p,hz⟩:=I1.tuple hq
  refine wpAny_pyIter_tuple (show s1.heap.IsTuple a its.toArray from p) ?_
  refine⟨s1.heap.objs.size,[s1.heap.objs.size],_,_,H1,rfl,I1.kept (t':=s1.toks) fun b o e=>Heap.get?_push_of_some _ e,turn_tuple a _,⟨_,Heap.get?_push_size _ rfl,rfl,rfl⟩,fun b hb=>?_,q⟩
  have e:b=s1.heap.objs.size:=by simpa using hb
  subst e
  exact I1.fpOk (Nat.le_refl _) (I1.hok.fresh (Nat.le_refl _))
theorem lc_any {J:It} (k:Nat) (hk:k<=1000) (Pv:Nat->List V->Hp->Prop) (h0:Pv 0 [] H) (hgo:∀ i ys H,i<k->Pv i ys H->J.go i H) (hst:∀ ys H,Pv k ys H->J.stop k H) (hl:∀ i ys H,Pv i ys H->ys.length<=i)
  (hs:∀ c i x ys H H',i<k->J.yld i H x H'->Pv i ys H->g c x (List.replicate n none++σ) H' fun σ2 H2=>tt c σ2 H2 fun b H3=>if b=true then te c σ2 H3 fun v H4=>Pv (i+1) (ys++[v]) H4 else Pv (i+1) ys H3)
  (hd:∀ ys H,Pv k ys H->∀ p,H p=none->Q (.ref p) (upd H p (.lst ys))):LcEnd J n g tt te σ Q H:=by
 refine⟨fun i m ys H=>m=k - i/\i<=k/\Pv i ys H,⟨k,by simp,Nat.zero_le _,h0⟩,?_⟩
 rintro c i m ys H ⟨rfl,hi,p⟩
 by_cases hlt:i<k
 ·refine .inr ⟨hgo i ys H hlt p,?_,Pv (i+1),fun ys' H' p'=>⟨k - (i+1),by omega,rfl,hlt,p'⟩,fun x H' y=>hs c i x ys H H' hlt y p⟩
  have:=hl i ys H p
  have h24:=sizeLine_eq
  omega
 ·have e:i=k:=by omega
  subst e
  exact .inl ⟨hst ys H p,hd ys H p⟩
end
end L2
namespace NfSort
open PySem PySem.W PyProof.Rows
noncomputable def kwp {α:Type} (n:Nat) (key:Nat->Int):KasT α->(α->Prop)->Prop
 | .ret a,Q=>Q a
 | .ask i j k,Q=>i<n/\j<n/\kwp n key (k (decide (key i<key j))) Q
theorem cX {α:Type}{n:Nat}{key:Nat->Int}{Q Q':α->Prop} (h:∀ a,Q a->Q' a):∀ {t:KasT α},kwp n key t Q->kwp n key t Q'
 | .ret a,q=>h a q
 | .ask _ _ k,q=>⟨q.1,q.2.1,cX h q.2.2⟩
theorem gW {α β:Type}{n:Nat}{key:Nat->Int}{f:α->KasT β}{Q:β->Prop}:∀ {t:KasT α},kwp n key t (fun a=>kwp n key (f a) Q)->kwp n key (t.bind f) Q
 | .ret a,q=>q
 | .ask _ _ k,q=>⟨q.1,q.2.1,gW q.2.2⟩
theorem kwp_run {α:Type}{n:Nat}{key:Nat->Int}{cmp:Nat->Nat->(Bool->Shared->Prop)->Shared->Prop}{s:Shared}{G:α->Shared->Prop} (hc:∀ i j C,i<n->j<n->C (decide (key i<key j)) s->cmp i j C s) :
  ∀ {t:KasT α},kwp n key t (fun a=>G a s)->t.kasWp cmp G s
 | .ret _,q=>q
 | .ask i j k,q=>hc i j _ q.1 q.2.1 (kwp_run hc q.2.2)
section
variable {n:Nat}{key:Nat->Int}{p:Array Nat}
noncomputable def Pm (n:Nat) (p:Array Nat):Prop:=p.Perm (List.range n).toArray
noncomputable def kk (key:Nat->Int) (p:Array Nat) (i:Nat):Int:=key (p.getD i 0)
theorem Pm.size (h:Pm n p):p.size=n:=by
 have:=Array.Perm.size_eq h
 simpa using this
theorem getD_eq (p:Array Nat) (i:Nat):p.getD i 0=(p[i]?).getD 0:=by
 by_cases h:i<p.size <;> simp [Array.getD,h]
theorem Pm.lt (h:Pm n p) {i:Nat} (hi:i<n):p.getD i 0<n:=by
 have hs:=h.size
 have hi':i<p.size:=by omega
 have hm:p[i]∈p.toList:=by
  have:=Array.getElem_mem hi'
  simpa using this
 have hp:p.toList.Perm (List.range n):=by
  have:=Array.perm_iff_toList_perm.mp h
  simpa using this
 have e:p.getD i 0=p[i]:=by simp [Array.getD,hi']
 rw [e]
 exact List.mem_range.mp (hp.mem_iff.mp hm)
theorem Pm.rev (h:Pm n p) (i j:Nat):Pm n (kas_rev p i j):=Array.Perm.trans (mirror_perm _ _ _ _) h
theorem Pm.bub (h:Pm n p) (i j:Nat):Pm n (bubble p i j):=Array.Perm.trans (bubble_perm _ _ _) h
theorem kk_rev (h:Pm n p) {i j:Nat} (hj:j<=n) (t:Nat):kk key (kas_rev p i j) t=if i<=t/\t<j then kk key p (i+j - 1 - t) else kk key p t:=by
 unfold kk kas_rev
 rw [getD_eq,getElem?_mirror_all (by rw [h.size]; exact hj)]
 split
 ·rw [getD_eq]
 ·rw [getD_eq]
theorem kk_bub (h:Pm n p) {k l:Nat} (hk:k<n) (hl:l<=k) (t:Nat):kk key (bubble p k (k - l)) t=if t=l then kk key p k else if l<t/\t<=k then kk key p (t - 1) else kk key p t:=by
 unfold kk
 rw [getD_eq,getElem?_bubble (by rw [h.size]; exact hk) _ (by omega)]
 have e:k - (k - l)=l:=by omega
 rw [e]
 split
 ·rw [getD_eq]
 ·split
  ·rw [getD_eq]
  ·rw [getD_eq]
noncomputable def Up (key:Nat->Int) (p:Array Nat) (m:Nat):Prop:=∀ i j,i<=j->j<m->kk key p i<=kk key p j
noncomputable def Dn (key:Nat->Int) (p:Array Nat) (m:Nat):Prop:=∀ i j,i<=j->j<m->kk key p j<=kk key p i
noncomputable def Rn (key:Nat->Int) (p:Array Nat) (m q:Nat):Prop:=q+1<=m/\∀ t,m<=t+q+1->t<m->kk key p t=kk key p (m - 1)
theorem Up.more {a:Nat} (h:Up key p a) (h1:1<=a) (hx:kk key p (a - 1)<=kk key p a):Up key p (a+1):=fun i j hij hj=>by
 by_cases hja:j<a
 ·exact h i j hij hja
 ·obtain rfl:j=a:=by omega
  by_cases hi:i=j
  ·subst hi; exact Int.le_refl _
  ·exact Int.le_trans (h i (j - 1) (by omega) (by omega)) hx
theorem Dn.more {a:Nat} (h:Dn key p a) (h1:1<=a) (hx:kk key p a<=kk key p (a - 1)):Dn key p (a+1):=fun i j hij hj=>by
 by_cases hja:j<a
 ·exact h i j hij hja
 ·obtain rfl:j=a:=by omega
  by_cases hi:i=j
  ·subst hi; exact Int.le_refl _
  ·exact Int.le_trans hx (h i (j - 1) (by omega) (by omega))
theorem asc_ok (hp:Pm n p):∀ (f a:Nat),1<=a->a+f<=n->Up key p a->kwp n key (kas_asc p f a) (fun m=>a<=m/\m<=a+f/\Up key p m/\(m<a+f->kk key p m<kk key p (m - 1)))
 | 0,a,h1,hf,hu=>⟨Nat.le_refl _,Nat.le_refl _,hu,fun h=>absurd h (by omega)⟩
 | f+1,a,h1,hf,hu=>by
  refine⟨hp.lt (by omega),hp.lt (by omega),?_⟩
  by_cases hc:key (p.getD a 0)<key (p.getD (a - 1) 0)
  ·(rw [decide_eq_true hc]; dsimp only; rw [if_pos rfl])
   exact⟨Nat.le_refl _,by omega,hu,fun _=>hc⟩
  ·(rw [decide_eq_false hc]; dsimp only; rw [if_neg Bool.false_ne_true])
   refine cX (fun m ⟨a1,a2,a3,a4⟩=>⟨by omega,by omega,a3,fun h=>a4 (by omega)⟩) (asc_ok hp f (a+1) (by omega) (by omega) (hu.more h1 (Int.not_lt.mp hc)))
theorem rev_run (hp:Pm n p) {a q:Nat} (ha:a<=n) (hr:Rn key p a q) (t:Nat):kk key (kas_rev p (a - (q+1)) a) t=kk key p t:=by
 rw [kk_rev hp ha]
 split
 ·rename_i h
  rw [hr.2 t (by omega) h.2]
  exact hr.2 _ (by have:=hr.1; omega) (by omega)
 ·rfl
theorem Dn.eq {p':Array Nat}{m:Nat} (h:Dn key p m) (e:∀ t,kk key p' t=kk key p t):Dn key p' m:=fun i j a b=>by rw [e,e]; exact h i j a b
theorem desc_ok:∀ (f:Nat) (p:Array Nat) (a q:Nat),Pm n p->1<=a->a+f<=n->Dn key p a->Rn key p a q ->
  kwp n key (kas_desc f p a q) (fun r=>Pm n r.1/\a<=r.2.1/\r.2.1<=a+f/\Dn key r.1 r.2.1/\Rn key r.1 r.2.1 r.2.2)
 | 0,p,a,q,hp,h1,hf,hd,hr=>⟨hp,Nat.le_refl _,Nat.le_refl _,hd,hr⟩
 | f+1,p,a,q,hp,h1,hf,hd,hr=>by
  refine⟨hp.lt (by omega),hp.lt (by omega),?_⟩
  have fin:∀ {p':Array Nat}{q':Nat},Pm n p'->Dn key p' (a+1)->Rn key p' (a+1) q'->kwp n key (kas_desc f p' (a+1) q') (fun r=>Pm n r.1/\a<=r.2.1/\r.2.1<=a+(f+1)/\Dn key r.1 r.2.1/\Rn key r.1 r.2.1 r.2.2):=fun x y z =>
   cX (fun r ⟨a1,a2,a3,a4,a5⟩=>⟨a1,by omega,by omega,a4,a5⟩) (desc_ok f _ (a+1) _ x (by omega) (by omega) y z)
  have rn0:∀ p':Array Nat,Rn key p' (a+1) 0:=fun p'=>⟨by omega,fun t h1 h2=>by
   have e:t=a+1 - 1:=by omega
   rw [e]⟩
  by_cases hc:key (p.getD a 0)<key (p.getD (a - 1) 0)
  ·(rw [decide_eq_true hc]; dsimp only; rw [if_pos rfl])
   have hc':kk key p a<kk key p (a - 1):=hc
   by_cases hq:q > 0
   ·rw [if_pos hq]
    have e:=rev_run (key:=key) hp (by omega) hr
    exact fin (hp.rev _ _) ((hd.more h1 (Int.le_of_lt hc')).eq e) (rn0 _)
   ·rw [if_neg hq]
    exact fin hp (hd.more h1 (Int.le_of_lt hc')) (rn0 _)
  ·(rw [decide_eq_false hc]; dsimp only; rw [if_neg Bool.false_ne_true])
   refine⟨hp.lt (by omega),hp.lt (by omega),?_⟩
   by_cases hc2:key (p.getD (a - 1) 0)<key (p.getD a 0)
   ·(rw [decide_eq_true hc2]; dsimp only; rw [if_pos rfl])
    exact⟨hp,Nat.le_refl _,(by show a<=a+(f+1); omega),hd,hr⟩
   ·(rw [decide_eq_false hc2]; dsimp only; rw [if_neg Bool.false_ne_true])
    have e:kk key p a=kk key p (a - 1):=Int.le_antisymm (Int.not_lt.mp hc2) (Int.not_lt.mp hc)
    refine fin hp (hd.more h1 (Int.le_of_eq e)) ⟨by have:=hr.1; omega,fun t t1 t2=>?_⟩
    show _=kk key p a
    by_cases ht:t=a
    ·rw [ht]
    ·rw [e]
     exact hr.2 t (by omega) (by omega)
theorem tail3_ok {a:Nat} (hp:Pm n p) (h1:1<=a) (ha:a<=n) (hd:Dn key p a):kwp n key (kas_tail3 a n p) (fun r=>Pm n r.2/\1<=r.1/\r.1<=n/\Up key r.2 r.1):=by
 unfold kas_tail3
 have hu:Up key (kas_rev p 0 a) a:=fun i j hij hj=>by
  rw [kk_rev hp ha,kk_rev hp ha,if_pos ⟨by omega,by omega⟩,if_pos ⟨by omega,hj⟩]
  exact hd _ _ (by omega) (by omega)
 refine gW (cX (fun m ⟨a1,a2,a3,_⟩=>?_) (asc_ok (hp.rev 0 a) (n - a) a h1 (by omega) hu))
 exact⟨hp.rev 0 a,by omega,by omega,a3⟩
theorem descPart_ok {a:Nat} (hp:Pm n p) (ha:a+1<=n) (hd:Dn key p (a+1)):kwp n key (kas_descPart a n p) (fun r=>Pm n r.2/\1<=r.1/\r.1<=n/\Up key r.2 r.1):=by
 unfold kas_descPart
 refine gW (cX (fun r ⟨a1,a2,a3,a4,a5⟩=>?_) (desc_ok (n - (a+1)) p (a+1) 0 hp (by omega) (by omega) hd ⟨by omega,fun t h1 h2=>by
  have e:t=a+1 - 1:=by omega
  rw [e]⟩))
 split
 ·exact tail3_ok (a1.rev _ _) (by omega) (by omega) (a4.eq (rev_run a1 (by omega) a5))
 ·exact tail3_ok a1 (by omega) (by omega) a4
theorem count_ok (hp:Pm n p) (h1:1<=n):kwp n key (kas_count n p) (fun r=>Pm n r.2/\1<=r.1/\r.1<=n/\Up key r.2 r.1):=by
 unfold kas_count
 have u1:Up key p 1:=fun i j hij hj=>by
  have e:i=j:=by omega
  rw [e]; exact Int.le_refl _
 refine gW (cX (fun m ⟨a1,a2,a3,a4⟩=>?_) (asc_ok hp (n - 1) 1 (Nat.le_refl _) (by omega) u1))
 by_cases hm:m=n
 ·rw [if_pos (by simpa using hm)]
  exact⟨hp,by omega,by omega,a3⟩
 ·rw [if_neg (by simpa using hm)]
  have hlt:=a4 (by omega)
  by_cases hm1:m > 1
  ·rw [if_pos hm1]
   refine⟨hp.lt (by omega),hp.lt (by omega),?_⟩
   by_cases hc:key (p.getD 0 0)<key (p.getD (m - 1) 0)
   ·(rw [decide_eq_true hc]; dsimp only; rw [if_pos rfl])
    exact⟨hp,by omega,by omega,a3⟩
   ·(rw [decide_eq_false hc]; dsimp only; rw [if_neg Bool.false_ne_true])
    have hall:∀ t,t<m->kk key p t=kk key p 0:=fun t ht=>by
     have e1:=a3 0 t (by omega) ht
     have e2:=a3 t (m - 1) (by omega) (by omega)
     have e3:kk key p (m - 1)<=kk key p 0:=Int.not_lt.mp hc
     omega
    have e:∀ t,kk key (kas_rev p 0 m) t=kk key p t:=fun t=>by
     rw [kk_rev hp (by omega)]
     split
     ·rename_i h
      rw [hall t h.2,hall _ (by omega)]
     ·rfl
    refine descPart_ok (hp.rev 0 m) (by omega) (Dn.eq (p:=p) (Dn.more (fun i j hij hj=>?_) (by omega) (Int.le_of_lt hlt)) e)
    rw [hall i (by omega),hall j hj]
    exact Int.le_refl _
  ·rw [if_neg hm1]
   obtain rfl:m=1:=by omega
   refine descPart_ok hp (by omega) (Dn.more (fun i j hij hj=>?_) (by omega) (Int.le_of_lt hlt))
   have e:i=j:=by omega
   rw [e]; exact Int.le_refl _
theorem place_ok {k:Nat} (hp:Pm n p) (hk:k<n) (hu:Up key p k):∀ (f l r:Nat),l<=r->r<=k->r<=l+f->(∀ t,t<l->kk key p t<=kk key p k)->(∀ t,r<=t->t<k->kk key p k<kk key p t) ->
  kwp n key (kas_place p k f l r) (fun l'=>l'<=k/\(∀ t,t<l'->kk key p t<=kk key p k)/\(∀ t,l'<=t->t<k->kk key p k<kk key p t))
 | 0,l,r,h1,h2,h3,h4,h5=>⟨by omega,h4,fun t a b=>h5 t (by omega) b⟩
 | f+1,l,r,h1,h2,h3,h4,h5=>by
  unfold kas_place
  by_cases hlr:l ≥ r
  ·rw [if_pos hlr]
   exact⟨by omega,h4,fun t a b=>h5 t (by omega) b⟩
  ·rw [if_neg hlr]
   have hm:(l+r) / 2<r:=by omega
   refine⟨hp.lt hk,hp.lt (by omega),?_⟩
   by_cases hc:key (p.getD k 0)<key (p.getD ((l+r) / 2) 0)
   ·(rw [decide_eq_true hc]; dsimp only; rw [if_pos rfl])
    have hc':kk key p k<kk key p ((l+r) / 2):=hc
    exact place_ok hp hk hu f l _ (by omega) (by omega) (by omega) h4 fun t a b=>Int.lt_of_lt_of_le hc' (hu _ t a b)
   ·(rw [decide_eq_false hc]; dsimp only; rw [if_neg Bool.false_ne_true])
    have hc':kk key p ((l+r) / 2)<=kk key p k:=Int.not_lt.mp hc
    exact place_ok hp hk hu f _ r (by omega) (by omega) (by omega) (fun t a=>Int.le_trans (hu t _ (by omega) (by omega)) hc') h5
theorem bin_ok:∀ (f:Nat) (p:Array Nat) (k:Nat),Pm n p->k+f<=n->Up key p k->kwp n key (kas_bin f p k) (fun p'=>Pm n p'/\Up key p' (k+f))
 | 0,p,k,hp,hk,hu=>⟨hp,hu⟩
 | f+1,p,k,hp,hk,hu=>by
  unfold kas_bin
  refine gW (cX (fun l ⟨a1,a2,a3⟩=>?_) (place_ok hp (by omega) hu k 0 k (Nat.zero_le _) (Nat.le_refl _) (by omega) (fun t h=>absurd h (by omega)) (fun t h1 h2=>absurd h1 (by omega))))
  have e:=kk_bub (key:=key) hp (k:=k) (by omega) a1
  have hu':Up key (bubble p k (k - l)) (k+1):=fun i j hij hj=>by
   rw [e,e]
   by_cases hi:i=l
   ·rw [if_pos hi]
    by_cases hj':j=l
    ·rw [if_pos hj']; exact Int.le_refl _
    ·rw [if_neg hj',if_pos ⟨by omega,by omega⟩]
     exact Int.le_of_lt (a3 _ (by omega) (by omega))
   ·rw [if_neg hi]
    by_cases hi2:l<i/\i<=k
    ·rw [if_pos hi2,if_neg (by omega),if_pos ⟨by omega,by omega⟩]
     exact hu _ _ (by omega) (by omega)
    ·rw [if_neg hi2]
     by_cases hj':j=l
     ·rw [if_pos hj']
      exact a2 i (by omega)
     ·rw [if_neg hj']
      by_cases hj2:l<j/\j<=k
      ·rw [if_pos hj2]
       exact hu _ _ (by omega) (by omega)
      ·rw [if_neg hj2]
       exact hu _ _ hij (by omega)
  refine cX (fun p' ⟨b1,b2⟩=>⟨b1,?_⟩) (bin_ok f _ (k+1) (hp.bub _ _) (by omega) hu')
  have e2:k+(f+1)=k+1+f:=by omega
  rw [e2]; exact b2
theorem sort_ok (h1:1<=n):kwp n key (kas_sort n) (fun p=>Pm n p/\Up key p n):=by
 unfold kas_sort
 refine gW (cX (fun r ⟨a1,a2,a3,a4⟩=>?_) (count_ok (p:=(List.range n).toArray) (Array.Perm.refl _) h1))
 have e:max r.1 1=r.1:=by omega
 rw [e]
 split
 ·refine cX (fun p' ⟨b1,b2⟩=>⟨b1,?_⟩) (bin_ok (n - r.1) r.2 r.1 a1 (by omega) a4)
  have e2:r.1+(n - r.1)=n:=by omega
  rw [e2] at b2; exact b2
 ·have e2:r.1=n:=by omega
  rw [e2] at a4
  exact⟨a1,a4⟩
end
end NfSort
namespace L2
open PySem PySem.Spec PyProof.Rows
section
variable {prog:Program}{w:World}{A:Around}{E:Value->Shared->Prop}{s:Shared}
end
section
variable {X:Cx}{pos:Pos}
noncomputable def gLst (K:PySem.W.Frag) (n:Nat) (t:TGs):TG:=fun v σ H Q=>∃ a xs,v=.ref a/\SqL K H a xs/\xs.length=n/\t xs σ H Q
end
section
variable {X:Cx}
theorem call_isinst1:cU X (.builtin "isinstance") (fun xs H Q=>∃ x c t b,xs=[x,.ty c]/\TyOf X.K H x t/\PySem.W.kitOne X.K t (.type c)=some b/\Q (.bl b) H):=by
 intro pins s σ H xs us Q I r h
 obtain⟨x,c,t,b,rfl,ty,e,q⟩:=h
 obtain⟨u,u2,rfl,rx,rc⟩:=vals2 r
 cases rc
 exact isinst_ok I rx ty e fun tk=>⟨.bl b,H,I.tok _,rfl,q⟩
theorem ins_at {prog:Program}{w:World}{A:Around}{E:Value->Shared->Prop}{s:Shared}{l:Addr}{n:Nat}{x:Int}{t:Tok}{u:Value}{Q:Value->Shared->Prop}{its:List Value} (ho:s.heap.get? l=some { cls:=.type "list",data:=.seq its.toArray n })
  (hfit:¬ (!Builtin.List.listFitsIndex x)=true) (hsz:its.toArray.size<=sizeLine)
  (h:Q .none { s with heap:=s.heap.update l (Obj.mapSeq fun xs=>(xs.extract 0 (if x<0 then (x+(xs.size:Int)).toNat else min x.toNat xs.size)).push u++xs.extract (if x<0 then (x+(xs.size:Int)).toNat else min x.toNat xs.size)),toks:=s.toks }) :
  wpAny (model prog w) A (call (.builtin "list.insert") [.ref l,.int x t,u]) Q E s:=by
 generalize its.toArray=ia at ho hsz
 exact call_meets PySem.F.slot_list_insert ⟨_,ho,rfl⟩ PySem.F.entry_list_insert (PySem.F.args_list_insert_3 _ _ _) (PySem.AutoSeq1.list_insert_list_int_val_1 l ia n x t u hfit hsz) ⟨ho,h⟩
noncomputable def rInsert:V->List V->Hp->VK->Prop:=fun x vs H Q=>∃ l xs k y,x=.ref l/\vs=[.int (k:Nat),y]/\H l=some (.lst xs)/\k<=xs.length/\xs.length<sizeLine/\Q .non (upd H l (.lst (xs.take k++y::xs.drop k)))
theorem mt_insert:MtM X "list.insert" rInsert:=by
 intro pins s σ H x vs v us Q I rx rv h
 obtain⟨l,xs,k,y,rfl,rfl,hH,hk,hz,q⟩:=h
 cases rx
 obtain⟨u1,u,rfl,⟨t,rfl⟩,ru⟩:=rv.two
 obtain⟨z,its,n,r,hl,e⟩:=I.lstM hH
 have h24:(sizeLine:Nat)=16777216:=sizeLine_eq
 have hfit:¬ (!Builtin.List.listFitsIndex (k:Int))=true:=by
  have q1:decide (-(2 ^ 63:Int)<=(k:Int))=true:=decide_eq_true (by omega)
  have q2:decide ((k:Int)<2 ^ 63)=true:=decide_eq_true (by omega)
  unfold Builtin.List.listFitsIndex
  rw [q1,q2]
  exact Bool.false_ne_true
 have hsz:its.toArray.size<=sizeLine:=by
  have e1:its.toArray.size=xs.length:=(List.size_toArray ..).trans hl.symm
  rw [e1]
  exact z
 have hx0:¬ ((k:Int)<0):=by omega
 have hxk:(k:Int).toNat=k:=Int.toNat_natCast k
 generalize hx:(k:Int)=x at hfit hx0 hxk
 refine ins_at (its:=its) e hfit hsz ?_
 refine⟨.non,_,I.lset (its':=its.take k++u::its.drop k) hH e ?_ ?_ ?_,rfl,q⟩
 ·have hm:min k its.length=k:=by omega
  have e2:=PySem.W.kl_ins_eq its k u
  simp only [hx0,if_false,hxk,List.size_toArray,hm]
  exact e2
 ·exact (r.take k).append (.cons ru (r.drop k))
 ·rw [List.length_append,List.length_cons,List.length_take,List.length_drop]
  omega
end
noncomputable abbrev Tie:=Int×Int
noncomputable def Pr (H:Hp) (v:V) (t:Tie):Prop:=∃ p,v=.ref p/\H p=some (.tup [.int t.1,.int t.2])
noncomputable abbrev Prs (H:Hp):List V->List Tie->Prop:=Paired (Pr H)
noncomputable def cj (t:Tie):Int:=64 * t.1+t.2
noncomputable def Nice (t:Tie):Prop:=0<=t.2/\t.2<64
noncomputable def jR (h:Heap) (u:Value) (t:Tie):Prop:=∃ a o t1 t2 n,u=.ref a/\h.get? a=some o/\o.cls=.type "tuple"/\o.data=.seq #[.int t.1 t1,.int t.2 t2] n
theorem jR.keep {h h':Heap}{u:Value}{t:Tie} (x:jR h u t) (k:∀ a o,h.get? a=some o->o.cls=.type "tuple"->h'.get? a=some o):jR h' u t:=by
 obtain⟨a,o,t1,t2,n,e,ho,hc,hd⟩:=x
 exact⟨a,o,t1,t2,n,e,k a o ho hc,hc,hd⟩
theorem pget {α β:Type}{F:α->β->Prop}{l₁:List α}{l₂:List β} (h:Paired F l₁ l₂):∀ {i:Nat}{b:β},l₂[i]?=some b->∃ a,l₁[i]?=some a/\F a b:=by
 induction h with
 | nil=>intro i x e; simp at e
 | cons r t ih =>
  intro i x e
  cases i with
  | zero=>simp at e; subst e; exact⟨_,rfl,r⟩
  | succ i =>
   obtain⟨c,e1,f⟩:=ih (by simpa using e)
   exact⟨c,by simpa using e1,f⟩
theorem ppick {α β:Type}{F:α->β->Prop}{l₁:List α}{l₂:List β} (h:Paired F l₁ l₂) (da:α) (db:β):∀ (p:List Nat),(∀ i∈p,i<l₂.length)->Paired F (p.map fun i=>l₁.getD i da) (p.map fun i=>l₂.getD i db)
 | [],_=>.nil
 | i::p,hp=>by
  have hi:i<l₂.length:=hp i List.mem_cons_self
  obtain⟨a,e,f⟩:=pget h (i:=i) (b:=l₂[i]) (by simp [hi])
  refine .cons ?_ (ppick h da db p fun j hj=>hp j (List.mem_cons_of_mem _ hj))
  have e1:l₁.getD i da=a:=by rw [List.getD_eq_getElem?_getD,e]; rfl
  have e2:l₂.getD i db=l₂[i]:=by simp [hi]
  show F (l₁.getD i da) (l₂.getD i db)
  rw [e1,e2]
  exact f
theorem snds {α:Type}:∀ us:List α,List.map (fun x=>x.snd) (us.zip us)=us
 | []=>rfl
 | u::us=>by rw [List.zip_cons_cons,List.map_cons,snds us]
theorem jE {α:Type} (l:List α) (d:α):(List.range l.length).map (fun i=>l.getD i d)=l:=by
 apply List.ext_getElem
 ·simp
 ·intro i h1 h2
  simp at h1 ⊢
  simp [h1]
section
variable {X:Cx}{pins:List (Addr×Obj)}{σ:St}{H:Hp}{s:Shared}
theorem Inv.pairs (I:Inv X pins σ H s):∀ {vs:List V}{ts:List Tie}{us:List Value},Prs H vs ts->Vals vs us->Paired (jR s.heap) us ts
 | _,_,_,.nil,r=>by cases r; exact .nil
 | _,_,_,.cons p q,r=>by
  cases r with
  | cons r rr =>
   refine .cons ?_ (I.pairs q rr)
   obtain⟨a,rfl,e⟩:=p
   cases r
   obtain⟨_,its,rv,⟨o,ho,hc,n,hd⟩⟩:=I.hok a _ e
   obtain⟨v1,v2,rfl,⟨t1,rfl⟩,⟨t2,rfl⟩⟩:=vals2 rv
   exact⟨a,o,t1,t2,n,rfl,ho,hc,hd⟩
end
section
variable {prog:Program}{w:World}{A:Around}{E:Value->Shared->Prop}{s:Shared}
theorem lt_pairs {x y:Value}{a b:Tie}{Q:Bool->Shared->Prop} (hx:jR s.heap x a) (hy:jR s.heap y b) (na:Nice a) (nb:Nice b) (h:Q (decide (cj a<cj b)) s):wpAny (model prog w) A (keyLt' (tuples' true) x y) Q E s:=by
 obtain⟨p,o,t1,t2,n,rfl,ho,hc,hd⟩:=hx
 obtain⟨p',o',t1',t2',n',rfl,ho',hc',hd'⟩:=hy
 obtain⟨a1,a2⟩:=a
 obtain⟨b1,b2⟩:=b
 unfold Nice at na nb
 simp only at na nb
 refine PySem.W.kat_lt ho hd ho' hd' ?_
 refine PySem.W.kat_cons (wpAny_eqBool_int ?_)
 by_cases e1:a1=b1
 ·subst e1
  rw [beq_self_eq_true]
  refine PySem.W.kat_yes (PySem.W.kat_cons (wpAny_eqBool_int ?_))
  by_cases e2:a2=b2
  ·subst e2
   rw [beq_self_eq_true]
   refine PySem.W.kat_yes (PySem.W.kat_nil ?_)
   have e:decide (cj (a1,a2)<cj (a1,a2))=false:=decide_eq_false (Int.lt_irrefl _)
   rw [e] at h
   exact h
  ·rw [beq_eq_false_iff_ne.mpr e2]
   refine PySem.W.kat_no (PySem.W.kat_one _ _ (lt_int ?_))
   have e:decide (cj (a1,a2)<cj (a1,b2))=decide (a2<b2):=by
    apply decide_eq_decide.mpr
    unfold cj
    omega
   rw [e] at h
   exact h
 ·rw [beq_eq_false_iff_ne.mpr e1]
  refine PySem.W.kat_no (oneLt_int ?_)
  have e:decide (cj (a1,a2)<cj (b1,b2))=decide (a1<b1):=by
   apply decide_eq_decide.mpr
   unfold cj
   simp only
   constructor
   ·intro h; omega
   ·intro h; omega
  rw [e] at h
  exact h
theorem kat_of:∀ {us:List Value}{ts:List Tie},Paired (jR s.heap) us ts->∃ fs,PySem.W.KatTups s.heap us fs/\fs.length=us.length/\∀ v∈fs,∃ i t,v=Value.int i t
 | _,_,.nil=>⟨[],.nil,rfl,fun _ h=>nomatch h⟩
 | _,_,.cons p q=>by
  obtain⟨a,o,t1,t2,n,rfl,ho,hc,hd⟩:=p
  obtain⟨fs,k,hl,hv⟩:=kat_of q
  refine⟨_::fs,.cons ho hc hd (f:=Value.int _ t1) rfl k,by simp [hl],fun v hv'=>?_⟩
  rcases List.mem_cons.mp hv' with rfl | h
  ·exact⟨_,_,rfl⟩
  ·exact hv v h
theorem sort_tree {a:Addr}{us:List Value}{ts:List Tie}{n:Nat}{P:PySem.Fin->Shared->Prop} (ho:s.heap.get? a=some (seqObj "list" us.toArray n))
  (hp:Paired (jR s.heap) us ts) (hn:∀ t∈ts,Nice t) (h64:us.length<64)
  (h:∀ p:List Nat,p.Perm (List.range us.length)->(∀ i j,i<=j->j<us.length->cj (ts.getD (p.getD i 0) (0,0))<=cj (ts.getD (p.getD j 0) (0,0))) ->
   P (.done (.ret .none)) { s with heap:=sortedHeap s.heap a us (p.map fun i=>us.getD i Value.none).toArray }) :
  wpAny (model prog w) A (Builtin.«list.sort» ⟨[.ref a],[]⟩) P E s:=by
 have hlen:=hp.length
 have h24:=sizeLine_eq
 rw [list_sort_plain]
 have ha:a<s.heap.objs.size:=Heap.lt_size ho
 refine wpAny_bind (listItems_at ho rfl ?_)
 refine wpAny_bind (listUpdate_at ho rfl ?_ (by rw [List.size_toArray,sizeLine_eq]; omega) (Nat.zero_le _))
 obtain⟨e1,ho1⟩:∃ e1,(s.heap.update a (Obj.mapSeq fun _=>(#[]:Array Value))).get? a=some (seqObj "list" #[] e1):=⟨_,get?_update_seq ho (fun _=>#[])⟩
 refine wpAny_bind (seqEpoch_at ho1 rfl ?_)
 refine wpAny_bind (wpAny_newTuple ?_ (by show us.length<=_; rw [sizeLine_eq]; omega))
 refine wpAny_bind (wpAny_newList ?_ (Nat.zero_le _))
 refine wpAny_holding ?_
 have ho6:(((s.heap.update a (Obj.mapSeq fun _=>(#[]:Array Value))).push (seqObj "tuple" us.toArray 0)).push (seqObj "list" #[] 0)).get? a=some (seqObj "list" #[] e1):=by
  rw [Heap.get?_push_ne _ _ _ (by rw [size_push',Heap.size_update]; exact Nat.ne_of_lt (Nat.lt_succ_of_lt ha)),Heap.get?_push_ne _ _ _ (by rw [Heap.size_update]; exact Nat.ne_of_lt ha)]
  exact ho1
 have kept:∀ b o,s.heap.get? b=some o->o.cls=.type "tuple"->(((s.heap.update a (Obj.mapSeq fun _=>(#[]:Array Value))).push (seqObj "tuple" us.toArray 0)).push (seqObj "list" #[] 0)).get? b=some o:=fun b o q hc=>by
  have hlt:b<s.heap.objs.size:=Heap.lt_size q
  have hne:b≠a:=fun z=>by
   rw [z,ho] at q
   cases q
   have z2:(Value.type "list")=Value.type "tuple":=hc
   injection z2 with z3
   exact absurd z3 (by decide)
  rw [Heap.get?_push_ne _ _ _ (by rw [size_push',Heap.size_update]; exact Nat.ne_of_lt (Nat.lt_succ_of_lt hlt)),Heap.get?_push_ne _ _ _ (by rw [Heap.size_update]; exact Nat.ne_of_lt hlt),Heap.get?_update_ne _ _ _ _ hne]
  exact q
 show wpAny (model prog w) A _ P E { s with heap:=((s.heap.update a (Obj.mapSeq fun _=>(#[]:Array Value))).push (seqObj "tuple" us.toArray 0)).push (seqObj "list" #[] 0) }
 dsimp only
 have hsz:us.toArray.size=us.length:=by simp
 have hp6:Paired (jR (((s.heap.update a (Obj.mapSeq fun _=>(#[]:Array Value))).push (seqObj "tuple" us.toArray 0)).push (seqObj "list" #[] 0))) us ts:=Paired.mapP hp fun u t x=>x.keep kept
 by_cases h2:us.toArray.size<2
 ·rw [if_pos h2,if_pos h2]
  refine wpAny_bind (wpAny_pure ?_)
  rw [StateT.run_pure]
  refine wpAny_bind (wpAny_pure ?_)
  dsimp only
  have eout:(arrOf (SortSt.mk' general' (us.toArray.zip us.toArray) #[] 7 none)).map (·.2)=((List.range us.length).map fun i=>us.getD i Value.none).toArray:=by
   rw [jE]
   show (us.toArray.zip us.toArray).map (·.2)=us.toArray
   apply Array.toList_inj.mp
   simp
   exact snds us
  rw [eout]
  refine wpAny_bind (seqEpoch_at ho6 rfl ?_)
  refine wpAny_bind (listUpdate_at ho6 rfl ?_ (Nat.zero_le _) (by rw [List.size_toArray,List.length_map,List.length_range,sizeLine_eq]; omega))
  simp only [bne_self_eq_false,Bool.false_eq_true,if_false]
  refine wpAny_pure (h _ (List.Perm.refl _) fun i j hij hj=>?_)
  have:i=j:=by omega
  subst this
  exact Int.le_refl _
 ·rw [if_neg h2,if_neg h2]
  have h2':2<=us.length:=by omega
  obtain⟨fs,hk,hfl,hfi⟩:=kat_of (s:={ s with heap:=((s.heap.update a (Obj.mapSeq fun _=>(#[]:Array Value))).push (seqObj "tuple" us.toArray 0)).push (seqObj "list" #[] 0) }) hp6
  refine wpAny_bind (PySem.W.kat_kind (T:=.type "int") hk (by omega) (fun v hv=>by obtain⟨i,t,rfl⟩:=hfi v hv; exact PySem.W.Looks.of_pure rfl) rfl ?_)
  have hcmp:∀ i j C,i<us.length->j<us.length->C (decide (cj (ts.getD i (0,0))<cj (ts.getD j (0,0)))) { s with heap:=((s.heap.update a (Obj.mapSeq fun _=>(#[]:Array Value))).push (seqObj "tuple" us.toArray 0)).push (seqObj "list" #[] 0) } ->
    PySem.W.kas_cmp prog w A (tuples' true) (us.toArray.zip us.toArray) i j C { s with heap:=((s.heap.update a (Obj.mapSeq fun _=>(#[]:Array Value))).push (seqObj "tuple" us.toArray 0)).push (seqObj "list" #[] 0) }:=fun i j C hi hj hC=>by
   unfold PySem.W.kas_cmp
   rw [PySem.W.kat_item rfl,PySem.W.kat_item rfl]
   have key:∀ k,k<us.length->jR (((s.heap.update a (Obj.mapSeq fun _=>(#[]:Array Value))).push (seqObj "tuple" us.toArray 0)).push (seqObj "list" #[] 0)) (us.getD k Value.none) (ts.getD k (0,0))/\Nice (ts.getD k (0,0)):=fun k hk=>by
    have hk':k<ts.length:=by omega
    have ek:ts.getD k (0,0)=ts[k]:=by simp [hk']
    obtain⟨u,eu,pu⟩:=pget hp6 (i:=k) (b:=ts[k]) (by simp [hk'])
    have eu':us.getD k Value.none=u:=by rw [List.getD_eq_getElem?_getD,eu]; rfl
    rw [ek,eu']
    exact⟨pu,hn _ (List.getElem_mem hk')⟩
   exact lt_pairs (key i hi).1 (key j hj).1 (key i hi).2 (key j hj).2 hC
  have G:=PySem.W.kas_runs (prog:=prog) (w:=w) (A:=A) (E:=E) (κ:=tuples' true) (it:=us.toArray.zip us.toArray) (n:=us.length) (s:={ s with heap:=((s.heap.update a (Obj.mapSeq fun _=>(#[]:Array Value))).push (seqObj "tuple" us.toArray 0)).push (seqObj "list" #[] 0) })
   (Q:=fun _ st' s'=>∃ p:Array Nat,s'={ s with heap:=((s.heap.update a (Obj.mapSeq fun _=>(#[]:Array Value))).push (seqObj "tuple" us.toArray 0)).push (seqObj "list" #[] 0) }/\arrOf st'=p.map (PySem.W.kas_item (us.toArray.zip us.toArray))/\failedOf st'=none/\NfSort.Pm us.length p/\NfSort.Up (fun i=>cj (ts.getD i (0,0))) p us.length)
   (G:=fun p s'=>s'={ s with heap:=((s.heap.update a (Obj.mapSeq fun _=>(#[]:Array Value))).push (seqObj "tuple" us.toArray 0)).push (seqObj "list" #[] 0) }/\NfSort.Pm us.length p/\NfSort.Up (fun i=>cj (ts.getD i (0,0))) p us.length) h2' h64 (fun p' st' s' a1 a2 a3 a4=>⟨p',a4.1,a2,a3,a4.2⟩)
   (NfSort.kwp_run hcmp (NfSort.cX (fun p hp=>⟨rfl,hp⟩) (NfSort.sort_ok (by omega))))
  have est:SortSt.mk' (tuples' true) (us.toArray.zip us.toArray) #[] 7 none=PySem.W.kas_st (tuples' true) (us.toArray.zip us.toArray) (List.toArray (List.range us.length)):=by
   have e:=PySem.W.kas_range (us.toArray.zip us.toArray)
   rw [show (us.toArray.zip us.toArray).size=us.length by simp] at e
   show SortSt.mk' (tuples' true) (us.toArray.zip us.toArray) #[] 7 none=SortSt.mk' (tuples' true) ((List.toArray (List.range us.length)).map (PySem.W.kas_item (us.toArray.zip us.toArray))) #[] 7 none
   rw [e]
  have eT:tuples' (Value.type "int" != Value.type "tuple")=tuples' true:=rfl
  rw [eT,est]
  refine wpAny_bind (wpAny_mono G ?_ fun _ _ e=>e)
  rintro ⟨⟨⟩,st'⟩ s' ⟨p,rfl,har,hf,hpm,hup⟩
  dsimp only
  have hout:=PySem.W.kat_snds (ks:=us) (vs:=us) rfl har
  rw [hout]
  have hsz2:p.size=us.length:=hpm.size
  refine wpAny_bind (seqEpoch_at ho6 rfl ?_)
  refine wpAny_bind (listUpdate_at ho6 rfl ?_ (Nat.zero_le _) (by rw [List.size_toArray,List.length_map,Array.length_toList,hsz2,sizeLine_eq]; omega))
  rw [hf]
  simp only [bne_self_eq_false,Bool.false_eq_true,if_false]
  refine wpAny_pure (h p.toList ?_ fun i j hij hj=>?_)
  ·have:=Array.perm_iff_toList_perm.mp hpm
   simpa using this
  ·have q:=hup i j hij hj
   unfold NfSort.kk at q
   have eg:∀ k,p.toList.getD k 0=p.getD k 0:=fun k=>by
    rw [NfSort.getD_eq,List.getD_eq_getElem?_getD]
    simp
   rw [eg,eg]
   exact q
theorem collect_tupleN {l:Addr}{vs:List Value}{Q:List Value->Shared->Prop} (hl:IsTup s.heap l vs.toArray)
  (h:Q vs { s with heap:=(s.heap.push (seqObj "list" #[] 0)).update s.heap.objs.size (Obj.mapSeq (·++vs.toArray)) }) (hsz:vs.length<=sizeLine) :
  wpAny (model prog w) A (collect (.ref l)) Q E s:=by
 obtain⟨o,ho,hc,n,hd⟩:=id hl
 unfold collect
 refine wpAny_bind (wpAny_runValue (codeAny_builtin entry_proto_collect' ?_))
 show wpAny _ _ (do again (.builtin "list.__iadd__" ⟨[← newList [],.ref l],[]⟩)) _ _ s
 refine wpAny_bind (wpAny_newList (wpAny_pure ⟨Code.quiet_builtin _ (by decide +kernel),codeAny_builtin entry_list_iadd' ?_⟩))
 show wpAny _ _ (Builtin.List.listExtendWith (.ref s.heap.objs.size) (.ref l) (.ref s.heap.objs.size)) _ _ { s with heap:=s.heap.push (seqObj "list" #[] 0) }
 unfold Builtin.List.listExtendWith
 have ho':(s.heap.push (seqObj "list" #[] 0)).get? l=some o:=Heap.get?_push_of_some _ ho
 refine wpAny_bind (wpAny_typeOf (T:="tuple") ⟨o,ho',hc⟩ ?_)
 have ht:(Value.type "tuple" == Value.type "tuple")=true:=by rfl
 rw [if_pos (by rw [ht]; simp)]
 refine wpAny_bind (listItems_at ho' hd ?_)
 refine wpAny_bind (listItems_at (xs:=#[]) (n:=0) (Heap.get?_push_size _ rfl) rfl ?_)
 rw [if_neg (by simp)]
 refine wpAny_bind (listUpdate_at (xs:=#[]) (n:=0) (Heap.get?_push_size _ rfl) rfl ?_ (Nat.zero_le _) (by show (#[]++vs.toArray).size<=sizeLine+1; simp only [Array.size_append,List.size_toArray,List.length_nil]; omega))
 refine wpAny_pure ?_
 show wpAny (model prog w) A (do
   let o ← load s.heap.objs.size
   match o.data with
   | .seq xs _=>pure xs.toList
   | _=>unsupported "internal:collect") Q E { s with heap:=(s.heap.push (seqObj "list" #[] 0)).update s.heap.objs.size (Obj.mapSeq (·++vs.toArray)) }
 refine wpAny_bind (wpAny_load (get?_update_seq (Heap.get?_push_size _ rfl) _) ?_)
 show wpAny _ _ (pure ((#[]:Array Value)++vs.toArray).toList) Q E _
 rw [show ((#[]:Array Value)++vs.toArray).toList=vs by simp]
 exact wpAny_pure h
theorem sorted_pairs {l:Addr}{us:List Value}{ts:List Tie}{Q:Value->Shared->Prop} (hl:s.heap.IsList l us.toArray\/IsTup s.heap l us.toArray) (hp:Paired (jR s.heap) us ts) (hn:∀ t∈ts,Nice t) (h64:us.length<64)
  (h:∀ p:List Nat,p.Perm (List.range us.length)->(∀ i j,i<=j->j<us.length->cj (ts.getD (p.getD i 0) (0,0))<=cj (ts.getD (p.getD j 0) (0,0))) ->
   Q (.ref (s.heap.objs.size+1)) { s with heap:=sortedAll s.heap us (p.map fun i=>us.getD i Value.none).toArray }) :
  wpAny (model prog w) A (call (.builtin "sorted") [.ref l]) Q E s:=by
 have h24:=sizeLine_eq
 refine Calls.call_function_entry kind_sorted plain_sorted entry_sorted (args_sorted1 _) ?_
 unfold Builtin.«sorted»
 refine wpAny_bind (m:=checkCount "sorted" 1 1 _) (wpAny_pure ?_)
 have hsz:((s.heap.push (seqObj "list" #[] 0)).update s.heap.objs.size (Obj.mapSeq (·++us.toArray))).objs.size=s.heap.objs.size+1:=by
  rw [Heap.size_update,size_push']
 have hoL:(((s.heap.push (seqObj "list" #[] 0)).update s.heap.objs.size (Obj.mapSeq (·++us.toArray))).push (seqObj "list" us.toArray 0)).get? (s.heap.objs.size+1)=some (seqObj "list" us.toArray 0):=by
  rw [← hsz]; exact Heap.get?_push_size _ rfl
 have keep:∀ b o,s.heap.get? b=some o->(((s.heap.push (seqObj "list" #[] 0)).update s.heap.objs.size (Obj.mapSeq (·++us.toArray))).push (seqObj "list" us.toArray 0)).get? b=some o:=fun b o q=>by
  have hlt:b<s.heap.objs.size:=Heap.lt_size q
  rw [Heap.get?_push_ne _ _ _ (by rw [hsz]; exact Nat.ne_of_lt (Nat.lt_succ_of_lt hlt)),Heap.get?_update_ne _ _ _ _ (Nat.ne_of_lt hlt),Heap.get?_push_ne _ _ _ (Nat.ne_of_lt hlt)]
  exact q
 have go:∀ {Q':List Value->Shared->Prop},Q' us { s with heap:=(s.heap.push (seqObj "list" #[] 0)).update s.heap.objs.size (Obj.mapSeq (·++us.toArray)) }->wpAny (model prog w) A.in1 (collect (.ref l)) Q' (fun e s'=>E e s') s:=fun {Q'} hq=>by
  rcases hl with hl | hl
  ·exact collect_list hl hq (by omega)
  ·exact collect_tupleN hl hq (by omega)
 refine wpAny_bind (go ?_)
 refine wpAny_bind (wpAny_newList ?_ (by omega))
 show wpAny _ _ _ _ _ { s with heap:=((s.heap.push (seqObj "list" #[] 0)).update s.heap.objs.size (Obj.mapSeq (·++us.toArray))).push (seqObj "list" us.toArray 0) }
 rw [hsz]
 refine wpAny_bind (wpAny_holding (wpAny_call_entry slot_list_sort ⟨_,hoL,rfl⟩ entry_list_sort (sort_tree hoL (Paired.mapP hp fun u t x=>x.keep fun a o e _=>keep a o e) hn h64 fun p a1 a2=>⟨_,rfl,?_⟩) (args_list_sort _)))
 exact wpAny_pure ⟨_,rfl,h p a1 a2⟩
end
section
variable {X:Cx}
theorem sorted_pick {ts:List Tie}{p:List Nat} (hp:p.Perm (List.range ts.length)) (h:∀ i j,i<=j->j<ts.length->cj (ts.getD (p.getD i 0) (0,0))<=cj (ts.getD (p.getD j 0) (0,0))) :
  (p.map fun i=>ts.getD i (0,0)).Perm ts/\(p.map fun i=>ts.getD i (0,0)).Pairwise (fun a b=>cj a<=cj b):=by
 refine⟨?_,?_⟩
 ·have q:=hp.map fun i=>ts.getD i (0,0)
  rw [jE] at q
  exact q
 ·have hl:p.length=ts.length:=by simpa using hp.length_eq
  rw [List.pairwise_iff_getElem]
  intro i j hi hj hij
  rw [List.length_map] at hi hj
  have q:=h i j (by omega) (by omega)
  have ei:p.getD i 0=p[i]:=by simp [hi]
  have ej:p.getD j 0=p[j]:=by simp [hj]
  rw [ei,ej] at q
  simpa using q
theorem call_sortedP:cU X (.builtin "sorted") (fun xs H Q=>∃ (p:Addr) (vs:List V) (ts:List Tie),xs=[.ref p]/\(SqL X.K H p vs\/SqT X.K H p vs)/\Prs H vs ts/\(∀ t∈ts,Nice t)/\ts.length<64 /\
  ∀ l ws us,H l=none->Prs H ws us->us.Perm ts->us.Pairwise (fun a b=>cj a<=cj b)->Q (.ref l) (upd H l (.lst ws))):=by
 intro pins s σ H xs us Q I r h
 obtain⟨p,vs,ts,rfl,hp,hpr,hn,h64,q⟩:=h
 obtain⟨u,rfl,rx⟩:=vals1 r
 cases rx
 have h24:=sizeLine_eq
 have fin:∀ its:List Value,Vals vs its->(s.heap.IsList p its.toArray\/IsTup s.heap p its.toArray)->wpAny (model X.prog X.w) X.A (call (.builtin "sorted") [.ref p]) (EP X pins σ Q) X.xe s:=fun its rv hl=>by
  have hpv:=I.pairs hpr rv
  have hlen:=hpr.length
  have hlen2:=rv.length
  refine sorted_pairs hl hpv hn (by omega) fun pp hpp hord=>?_
  have eits:its.length=ts.length:=by omega
  rw [eits] at hpp hord
  obtain⟨hperm,hpw⟩:=sorted_pick hpp hord
  have hlt:∀ i∈pp,i<ts.length:=fun i hi=>List.mem_range.mp (hpp.mem_iff.mp hi)
  have hw:=ppick hpr V.non (0,0) pp hlt
  have hvv:Vals (pp.map fun i=>vs.getD i V.non) (pp.map fun i=>its.getD i Value.none):=ppick rv V.non Value.none pp fun i hi=>by have:=hlt i hi; omega
  obtain⟨e,he⟩:=sortedAll_at s.heap its (pp.map fun i=>its.getD i Value.none).toArray
  refine⟨.ref (s.heap.objs.size+1),upd H (s.heap.objs.size+1) (.lst (pp.map fun i=>vs.getD i V.non)),I.laid (t':=s.toks) (fun b o eb=>sortedAll_old eb) (Nat.le_succ _) ?_,rfl,q _ _ _ (I.hok.fresh (Nat.le_succ _)) hw hperm hpw⟩
  refine⟨?_,_,e,hvv,he⟩
  have hl3:pp.length=ts.length:=by simpa using hpp.length_eq
  rw [List.length_map]
  omega
 rcases hp with hp | hp
 ·obtain⟨its,rv,pl,hz⟩:=I.list hp
  exact fin its rv (.inl pl.isList)
 ·obtain⟨its,rv,pl,hz⟩:=I.tuple hp
  exact fin its rv (.inr pl)
noncomputable def pD (t:Tie):PyData:=.tuple [.int t.1,.int t.2]
inductive DatV (K:PySem.W.Frag) (H:Hp):V->PyData->Prop
 | lst {a:Addr}{vs:List V}{ts:List Tie}:SqL K H a vs->Prs H vs ts->DatV K H (.ref a) (.list (ts.map pD))
 | tup {a:Addr}{vs:List V}{ts:List Tie}:SqT K H a vs->Prs H vs ts->DatV K H (.ref a) (.tuple (ts.map pD))
 | web {a b:Addr}{n:Int}{vs:List V}{ts:List Tie}:SqT K H a [.int n,.ref b]->SqT K H b vs->Prs H vs ts->DatV K H (.ref a) (.tuple [.int n,.tuple (ts.map pD)])
end
end L2
namespace L2
open PySem PySem.Spec PyProof.Rows HT
section
variable {prog:Program}{w:World}{A:Around}{E:Value->Shared->Prop}{s:Shared}
end
section
variable {X:Cx}{e:Expr}{te:TE}{p1 p2 p3 pos:Pos}
end
end L2
namespace PySem
open Sem (wp)
open AutoSeq1 (wpAny_loadPart')
theorem jD (l:Addr) (items:Array Value) (n:Nat) (dct:Option Addr) (sl:Array (Option Value)) :
  Meets (Builtin.«enumerate.__new__» ⟨[.type "enumerate",.ref l],[]⟩) (fun _ R s=>s.heap.get? l=some { cls:=.type "tuple",dict:=dct,data:=.seq items n,slots:=sl } /\
   R (.ok (.ret (.ref (s.heap.push { cls:=.type "tuple_iterator",data:=.fields #[.ref l,.int 0 0] }).objs.size)))
    { s with heap:=(s.heap.push { cls:=.type "tuple_iterator",data:=.fields #[.ref l,.int 0 0] }).push { cls:=.type "enumerate",data:=.fields #[.none,.bool false,.ref s.heap.objs.size,rawInt 0,.none,.none] } }) :=
 .of_wp fun prog w A R s h=>by
  obtain⟨hp,g,d,tk,os⟩:=s; obtain⟨hl,h⟩:=h
  have hsub:=sub_enumerate
  have hL:Heap.IsTuple (Shared.heap ⟨hp,g,d,tk,os⟩) l items:=⟨_,hl,rfl,n,rfl⟩
  wp_walk using wpAny_loadPart' hl
  refine wpAny_stack_any fun st=>wpAny_pure ?_
  split
  ·rename_i c _ _ _ _ _
   cases (c == Value.type "enumerate")
   ·wp_walk using wpAny_loadPart' hl,wpAny_pyIter_tuple hL
    exact⟨_,rfl,h⟩
   ·wp_walk using wpAny_loadPart' hl,wpAny_pyIter_tuple hL
    exact⟨_,rfl,h⟩
  ·wp_walk using wpAny_loadPart' hl,wpAny_pyIter_tuple hL
   exact⟨_,rfl,h⟩
section
variable {prog:Program}{w:World}{A:Around}{E:Value->Shared->Prop}{s:Shared}
theorem jO {l:Addr}{items:Array Value}{Q:Value->Shared->Prop} (hL:s.heap.IsTuple l items)
  (h:∀ h',IsEnum h' (s.heap.objs.size+1) s.heap.objs.size 0 .none->h'.IsTupleIter s.heap.objs.size l 0->h'.objs.size=s.heap.objs.size+2 ->
   (∀ b o,s.heap.get? b=some o->h'.get? b=some o)->Q (.ref (s.heap.objs.size+1)) { s with heap:=h' }) :
  wpAny (model prog w) A (call (.type "enumerate") [.ref l]) Q E s:=by
 obtain⟨⟨c,dct,dt,sl⟩,hl,hc,n,hd⟩:=hL
 replace hc:c=.type "tuple":=hc
 replace hd:dt=.seq items n:=hd
 subst hc hd
 refine callType_new F.called_enumerate (by decide) (F.typeCall_enumerate_1 _) (F.newCall_enumerate_1 _) (fun obj=>F.args_object_init_2 obj _) F.entry_enumerate_new
  (jD l items n dct sl) ⟨hl,?_⟩
 have hz:(s.heap.push { cls:=.type "tuple_iterator",data:=.fields #[.ref l,.int 0 0] }).objs.size=s.heap.objs.size+1:=Heap.size_push ..
 show _/\_
 rw [hz]
 have he:IsEnum ((s.heap.push { cls:=.type "tuple_iterator",data:=.fields #[.ref l,.int 0 0] }).push
   { cls:=.type "enumerate",data:=.fields #[.none,.bool false,.ref s.heap.objs.size,rawInt 0,.none,.none] }) (s.heap.objs.size+1) s.heap.objs.size 0 .none:=by
  have:=Heap.get?_push_size (s.heap.push { cls:=.type "tuple_iterator",data:=.fields #[.ref l,.int 0 0] })
   (o:={ cls:=.type "enumerate",data:=.fields #[.none,.bool false,.ref s.heap.objs.size,rawInt 0,.none,.none] }) rfl
  rw [hz] at this; exact this
 refine⟨⟨_,he,rfl⟩,h _ he ⟨_,Heap.get?_push_of_some _ (Heap.get?_push_size _ rfl),rfl,rfl⟩ (by rw [Heap.size_push,hz]) fun b o x=>Heap.get?_push_of_some _ (Heap.get?_push_of_some _ x)⟩
theorem nextOf_tuple_item {it l:Addr}{i:Nat}{items}{x:Value}{Q:Value->Shared->Prop} (hit:s.heap.IsTupleIter it l i)
  (hl:s.heap.IsTuple l items) (hx:items[i]?=some x)
  (hQ:∀ h',h'.IsTupleIter it l (i+1)->Heap.SameBut it s.heap h'->Q x { s with heap:=h' }) :
  wpAny (model prog w) A (Builtin.SmallTypes.nextOf (.ref it)) Q E s:=by
 obtain⟨o,ho,hc,hd⟩:=id hit
 obtain⟨ol,hol,_,nl,hdl⟩:=hl
 unfold Builtin.SmallTypes.nextOf
 refine wpAny_bind (wpAny_callSpecial?_slot (name:=Str.ofString "__next__") hit.typeIs PyProof.Rows.slot_tupleiter_next
  (wpAny_call_entry PyProof.Rows.slot_tupleiter_next hit.typeIs PyProof.Rows.entry_tupleiter_next ?_ (PyProof.Rows.args_tupleiter_next _)))
 show wpAny _ _ (field (.ref it) 0 >>= _) _ _ s
 refine wpAny_bind (wpAny_field ho hd (x:=.ref l) rfl ?_)
 show wpAny _ _ (if (Value.ref l == Value.none)=true then _ else _) _ _ s
 rw [if_neg (show ¬ ((Value.ref l == Value.none)=true) from Bool.false_ne_true)]
 show wpAny _ _ (field (.ref it) 1 >>= _) _ _ s
 refine wpAny_bind (wpAny_field ho hd (x:=.int i 0) rfl ?_)
 show wpAny _ _ (seqItems? (.ref l) >>= _) _ _ s
 refine wpAny_bind (wpAny_seqItems hol hdl ?_)
 simp only [Int.toNat_natCast,hx]
 refine wpAny_bind (wpAny_setField ho hd (by simp) (wpAny_pure ⟨x,rfl,wpAny_pure (hQ _ ?_ (Heap.SameBut.update ..))⟩))
 exact⟨_,Heap.get?_update_self _ ho (Obj.isFreed_of_fields (Obj.data_mapFields hd _)),(Obj.cls_mapFields ..).trans hc,by
  rw [Obj.data_mapFields hd]; simp [rawInt]⟩
theorem gU {it l:Addr}{i:Nat}{items}{Q:Value->Shared->Prop} (hh:A.handled=none)
  (hit:s.heap.IsTupleIter it l i) (hl:s.heap.IsTuple l items) (hx:items[i]?=none)
  (hE:∀ h' e,Heap.ExtBut it s.heap h'->(∃ o,h'.get? e=some o/\o.cls=.type "StopIteration")->E (.ref e) { s with heap:=h' }) :
  wpAny (model prog w) A (Builtin.SmallTypes.nextOf (.ref it)) Q E s:=by
 obtain⟨o,ho,hc,hd⟩:=id hit
 obtain⟨ol,hol,_,nl,hdl⟩:=hl
 unfold Builtin.SmallTypes.nextOf
 refine wpAny_bind (wpAny_callSpecial?_slot (name:=Str.ofString "__next__") hit.typeIs PyProof.Rows.slot_tupleiter_next
  (wpAny_call_entry PyProof.Rows.slot_tupleiter_next hit.typeIs PyProof.Rows.entry_tupleiter_next ?_ (PyProof.Rows.args_tupleiter_next _)))
 show wpAny _ _ (field (.ref it) 0 >>= _) _ _ s
 refine wpAny_bind (wpAny_field ho hd (x:=.ref l) rfl ?_)
 show wpAny _ _ (if (Value.ref l == Value.none)=true then _ else _) _ _ s
 rw [if_neg (show ¬ ((Value.ref l == Value.none)=true) from Bool.false_ne_true)]
 show wpAny _ _ (field (.ref it) 1 >>= _) _ _ s
 refine wpAny_bind (wpAny_field ho hd (x:=.int i 0) rfl ?_)
 show wpAny _ _ (seqItems? (.ref l) >>= _) _ _ s
 refine wpAny_bind (wpAny_seqItems hol hdl ?_)
 simp only [Int.toNat_natCast,hx]
 refine wpAny_bind (wpAny_rule (wpAny_bind (wpAny_setField ho hd (by simp) ?_)))
 show wpAny _ _ (newExc (.type "StopIteration") [] >>= _) _ _ _
 refine wpAny_bind ?_
 simp only [newExc,newTuple]
 refine wpAny_bind (wpAny_newObj_type ?_ (by size_fits))
 refine wpAny_bind (m:=firstArgMember _ _) (wpAny_of_eq (a:=Value.none) (by first | rfl | (simp only [firstArgMember]; rfl)) ?_)
 refine wpAny_newObj_type ?_ (by size_fits)
 simp only [raiseNew]
 refine wpAny_bind (wpAny_handled ?_)
 first | rw [show A.in1.handled=none from hh] | rw [hh]
 refine wpAny_bind (wpAny_pure (wpAny_throw ?_))
 exact hE _ _ (((Heap.SameBut.update ..).extBut.push _).push _) ⟨_,Heap.get?_push_size _ rfl,rfl⟩
end
theorem Draws.tuple {prog:Program}{w:World}{A:Around} (hh:A.handled=none) (it l:Addr) (hne:l≠it) (items:Array Value) :
  Draws prog w A it [it,l] items.size (fun i v=>items[i]?=some v) (fun i h=>h.IsTupleIter it l i/\h.IsTuple l items) where
 live:=fun _ _ st=>let ⟨o,ho,_⟩:=st.1; ⟨o,ho⟩
 frame:=fun _ _ _ st hk=>⟨let ⟨o,ho,r⟩:=st.1; ⟨o,hk it (by simp) o ho,r⟩,let ⟨o,ho,r⟩:=st.2; ⟨o,hk l (by simp) o ho,r⟩⟩
 item:=fun i s Q E hi st hQ=>by
  refine nextOf_tuple_item st.1 st.2 (x:=items[i]) (by simp [hi]) fun h' hit' hs'=>?_
  exact hQ _ h' s.toks (by simp [hi]) ⟨hit',st.2.extBut hs'.extBut hne⟩ hs'
 done:=fun s Q E st hE=>gU hh st.1 st.2 (by simp) hE
end PySem
namespace L2
open PySem PySem.Spec PyProof.Rows
noncomputable def Ite (K:PySem.W.Frag) (a:Addr):It :=
 ⟨fun i H=>∃ xs x,SqT K H a xs/\xs[i]?=some x,fun i H x H'=>∃ t v,x=.ref t/\H t=none/\H'=upd H t (.tup [.int i,v])/\∀ xs,SqT K H a xs->xs[i]?=some v,fun i H=>∃ xs,SqT K H a xs/\xs.length<=i⟩
theorem turn_enum {P:Program}{w:World}{K:PySem.W.Frag}{elts:List Expr}{kk:Nat}{pos:Pos} (a e it:Addr) (hei:e≠it) :
  Turn P w K (.Tuple elts kk pos) (Ite K a) [e,it] e (fun i h=>(∃ old,IsEnum h e it i old)/\h.IsTupleIter it a i) where
 mem:=by simp
 obj:=fun i h st b hb=>by
  obtain⟨⟨old,he⟩,o,ho,hc,hd⟩:=st
  rcases List.mem_cons.mp hb with rfl | hb
  ·exact⟨_,he,fun v z=>nomatch z⟩
  ·have e1:b=it:=by simpa using hb
   subst e1
   exact⟨o,ho,fun v z=>by rw [hd] at z; cases z⟩
 keep:=fun i h h' st k=>by
  obtain⟨⟨old,he⟩,o,ho,r⟩:=st
  exact⟨⟨old,k e (by simp) _ he⟩,o,k it (by simp) _ ho,r⟩
 item:=by
  intro X hP hw hK hc i pins s σ H E I hf st hg
  subst hP hw hK
  obtain⟨xs,x,hq,hx⟩:=hg
  obtain⟨its,rv,p,hz⟩:=I.tuple hq
  obtain⟨u,hu,ru⟩:=rv.get hx
  obtain⟨⟨old,he⟩,hit⟩:=st
  have hai:a≠it:=fun z=>by
   obtain⟨o,ho,hc1,_⟩:=p
   obtain⟨o',ho',hc2,_⟩:=hit
   rw [z,ho'] at ho
   cases ho
   rw [hc2] at hc1
   injection hc1 with z2
   exact absurd z2 (by decide)
  have hae:e≠a:=fun z=>by
   obtain⟨o,ho,hc1,_⟩:=p
   have he':s.heap.get? e=some _:=he
   rw [z,ho] at he'
   cases he'
   have z1:Value.type "enumerate"=Value.type "tuple":=hc1
   injection z1 with z2
   exact absurd z2 (by decide)
  have hlt:i<its.toArray.size:=by have:=(List.getElem?_eq_some_iff.mp hu).1; simpa using this
  obtain⟨e0,e1,e2,e3,e4,e5⟩:=hf e (by simp)
  obtain⟨f0,f1,f2,f3,f4,f5⟩:=hf it (by simp)
  have D:=Draws.tuple (prog:=X.prog) (w:=X.w) (A:=X.A.in1) (I.ok.hd hc) it a hai its.toArray
  refine wpAny_pyNext_enum_itemD D he ⟨hit,show s.heap.IsTuple a its.toArray from p⟩ hlt hei (by simp [hei,hae]) fun x' h' tk hP ho hs' hT hsz hk=>⟨_,rfl,?_⟩
  have ex:x'=u:=by
   have hP':its[i]?=some x':=by simpa using hP
   rw [hu] at hP'
   exact (Option.some.inj hP').symm
  subst ex
  refine wpAny_letOwnedTupleGo_enum ho fun h2 he2 hs2=>?_
  have hTn:H s.heap.objs.size=none:=I.hok.fresh (Nat.le_refl _)
  have keep2:∀ b o,b≠e->b≠it->s.heap.get? b=some o->h2.get? b=some o:=fun b o hb1 hb2 q=>(hs2.2 b hb1).trans (hk b o hb1 hb2 q)
  have hTe:s.heap.objs.size≠e:=Nat.ne_of_gt (Heap.lt_size he)
  have hTup:h2.get? s.heap.objs.size=some { cls:=.type "tuple",data:=.seq #[.int i tk,x'] }:=(hs2.2 _ hTe).trans hT
  have J:Inv X pins σ (upd H s.heap.objs.size (.tup [.int i,x])) { s with heap:=h2,toks:=tk+1 }:=by
   refine I.step (g':=s.gens) (d':=s.drawn) (t':=tk+1) (ch:=[e,it]) (fun b hb=>?_) (fun b o _ _ hcb q _=>keep2 b o (fun z=>hcb (by simp [z])) (fun z=>hcb (by simp [z])) q)
    (fun b o _ _ hcb q _=>⟨o.slots,keep2 b o (fun z=>hcb (by simp [z])) (fun z=>hcb (by simp [z])) q⟩) (fun b o _ q n=>by rw [aA (Nat.ne_of_lt (Heap.lt_size q))]; exact n)
    (fun b o hcb q=>⟨o,keep2 b o (fun z=>hcb (by simp [z])) (fun z=>hcb (by simp [z])) q⟩) (fun b ys q=>by rw [aA (aH q hTn)]; exact q) (fun b o y q=>by rw [aA (aH q hTn)]; exact q)
    (fun b ps q=>⟨#[],by rw [aA (aH q hTn),q]; simp⟩) (fun m hm=>?_) ?_ I.bare
   ·rcases List.mem_cons.mp hb with rfl | hb
    ·exact⟨e3,e1,e4,e5⟩
    ·have z:b=it:=by simpa using hb
     subst z
     exact⟨f3,f1,f4,f5⟩
   ·obtain⟨o,es,ep,ho',r⟩:=hm
    exact⟨o,es,ep,keep2 _ o (Ne.symm e1) (Ne.symm f1) ho',r⟩
   ·intro b u' q
    have nT:∀ {c y},H c=some y->c≠e/\c≠it:=fun {c y} z=>⟨fun v=>(by rw [v,e0] at z; exact nomatch z),fun v=>(by rw [v,f0] at z; exact nomatch z)⟩
    by_cases hb:b=s.heap.objs.size
    ·subst hb
     rw [aF] at q
     cases q
     exact⟨(by show 2<=sizeLine; decide),[.int i tk,x'],.cons ⟨_,rfl⟩ (.cons ru .nil),_,hTup,rfl,_,rfl⟩
    ·rw [aA hb] at q
     refine (I.hok b u' q).stay (fun c v hcv y=>keep2 c v ?_ ?_ y) (fun c y=>by rw [aA (aH y hTn)]; exact y) fun c ys y=>by rw [aA (aH y hTn)]; exact y
     ·rcases hcv with rfl | z
      ·exact (nT q).1
      ·exact (nT z).1
     ·rcases hcv with rfl | z
      ·exact (nT q).2
      ·exact (nT z).2
  refine⟨.ref s.heap.objs.size,_,J,rfl,⟨_,x,rfl,hTn,rfl,fun ys hy=>by rw [I.tuple_inj hy hq]; exact hx⟩,⟨⟨x',?_⟩,?_⟩,fun b hb=>?_⟩
  ·have he3:IsEnum h2 e it ((i:Int)+1) x':=by simpa using he2
   have ec:((i+1:Nat):Int)=(i:Int)+1:=by omega
   rw [ec]
   exact he3
  ·obtain⟨o,ho2,r⟩:=hs'.1
   exact⟨o,(hs2.2 it (Ne.symm hei)).trans ho2,r⟩
  ·rw [aA]
   ·exact (hf b hb).1
   ·rcases List.mem_cons.mp hb with rfl | hb
    ·exact Ne.symm hTe
    ·have z:b=it:=by simpa using hb
     subst z
     obtain⟨o,ho2,_⟩:=hit
     exact Nat.ne_of_lt (Heap.lt_size ho2)
 done:=by
  intro X hP hw hK hc i pins s σ H E I hf st hg
  subst hP hw hK
  obtain⟨xs,hq,hx⟩:=hg
  obtain⟨its,rv,p,hz⟩:=I.tuple hq
  obtain⟨⟨old,he⟩,hit⟩:=st
  obtain⟨f0,f1,f2,f3,f4,f5⟩:=hf it (by simp)
  have hl:=rv.length
  have hT:s.TypeIs (.ref e) "enumerate":=⟨_,he,rfl⟩
  unfold pyNext
  refine wpAny_bind (wpAny_attempt (wpAny_callSpecial?_slot (name:=Str.ofString "__next__") hT PySem.F.slot_enumerate_next
   (wpAny_call_entry PySem.F.slot_enumerate_next hT PySem.F.entry_enumerate_next ?_ (PySem.F.args_enumerate_next_1 _))))
  show wpAny _ _ (field (.ref e) 2 >>= _) _ _ _
  refine wpAny_bind (wpAny_field he rfl (x:=.ref it) rfl ?_)
  refine wpAny_bind (gU (I.ok.hd hc) hit (show s.heap.IsTuple a its.toArray from p) (by simp; omega) fun h' x he' hx'=>?_)
  obtain⟨o,ho,hc'⟩:=hx'
  refine wpAny_bind (wpAny_isInstance (T:="StopIteration") (b:=true) ⟨o,ho,hc'⟩ isSubtype_stop ?_)
  exact wpAny_pure ⟨rfl,I.turned (t':=s.toks) (fun b o hb e=>he' b o hb e) f0 f1 f3 f4 f5⟩
 self:=fun A i s Q E st h=>by
  obtain⟨⟨old,he⟩,_⟩:=st
  have hT:s.TypeIs (.ref e) "enumerate":=⟨_,he,rfl⟩
  refine wpAny_pyIter_slot hT PySem.F.slot_enumerate_iter (wpAny_call_entry PySem.F.slot_enumerate_iter hT PySem.F.entry_enumerate_iter ?_ (PySem.F.args_enumerate_iter_1 _))
  show wpAny _ _ (ret (.ref e)) _ _ s
  exact wpAny_pure ⟨_,rfl,"enumerate",_,hT,PySem.F.slot_enumerate_next.lookup,h⟩
theorem boot_enumerate:bootBuiltins "enumerate"=some (.type "enumerate"):=by decide +kernel
noncomputable def iEnum (K:PySem.W.Frag) (ta:TA):TI:=fun σ H R=>ta σ H fun vs H1=>∃ a,vs=[.ref a]/\(∃ xs,SqT K H1 a xs)/\R (Ite K a) H1
theorem pi_enum {X:Cx}{elts:List Expr}{kk:Nat}{tpos:Pos}{a:Expr}{ta:TA}{p pos:Pos} (hg:Gl X "enumerate") (hm:X.mg "enumerate"=none) (ha:PA X [a] ta) (hs:starEach [a] X.env=[(false,eval a X.env)]:=by rfl):PI X (.Tuple elts kk tpos) (.Call (.Name "enumerate" p) [a] [] pos) (iEnum X.K ta):=by
 intro pins s σ H R I h
 refine Call_ (iV I hg hm boot_enumerate (PyProof.Rows.callWith_type1 (thn (ha pos pins s σ H _ I h) fun us s1 ⟨vs,H1,I1,r1,q1⟩=>?_) hs rfl))
 obtain⟨b,e,⟨xs,hq⟩,q⟩:=q1
 subst e
 obtain⟨u,rfl,rx⟩:=vals1 r1
 cases rx
 obtain⟨its,rv,pt,hz⟩:=I1.tuple hq
 refine jO (show s1.heap.IsTuple b its.toArray from pt) fun h' he hit hsz hk=>?_
 have I2:Inv X pins σ H1 { s1 with heap:=h' }:=I1.kept (t':=s1.toks) hk
 have T:Turn X.prog X.w X.K (.Tuple elts kk tpos) (Ite X.K b) [s1.heap.objs.size+1,s1.heap.objs.size] (s1.heap.objs.size+1) (fun i h=>(∃ old,IsEnum h (s1.heap.objs.size+1) s1.heap.objs.size i old)/\h.IsTupleIter s1.heap.objs.size b i):=turn_enum b _ _ (Nat.ne_of_gt (Nat.lt_succ_self _))
 refine T.self _ 0 _ _ _ ⟨⟨_,he⟩,hit⟩ ⟨_,_,_,_,H1,rfl,I2,T,⟨⟨_,he⟩,hit⟩,fun c hc=>?_,q⟩
 rcases List.mem_cons.mp hc with rfl | hc
 ·exact I1.fpOk (Nat.le_succ _) (I1.hok.fresh (Nat.le_succ _))
 ·have z:c=s1.heap.objs.size:=by simpa using hc
  subst z
  exact I1.fpOk (Nat.le_refl _) (I1.hok.fresh (Nat.le_refl _))
section
variable {κ:Type} [DecidableEq κ]
noncomputable def gD (kvs:List (κ×V)) (k:κ):Option V:=(kvs.find? fun kv=>decide (kv.1=k)).map (·.2)
noncomputable def putK (kvs:List (κ×V)) (k:κ) (v:V):List (κ×V) :=
 if (kvs.any fun kv=>decide (kv.1=k))=true then kvs.map (fun kv=>if kv.1=k then (kv.1,v) else kv) else kvs++[(k,v)]
theorem lH {p:κ×V}{r:List (κ×V)}{k:κ} (e:p.1=k):gD (p::r) k=some p.2:=by simp [gD,List.find?_cons,e]
theorem valV_neg {p:κ×V}{r:List (κ×V)}{k:κ} (e:¬ p.1=k):gD (p::r) k=gD r k:=by simp [gD,List.find?_cons,e]
theorem valV_any (k:κ):∀ kvs:List (κ×V),(kvs.any fun kv=>decide (kv.1=k))=(gD kvs k).isSome
 | []=>rfl
 | p::r=>by
  rw [List.any_cons]
  by_cases e:p.1=k
  ·simp only [lH e,decide_eq_true e,Bool.true_or,Option.isSome_some]
  ·rw [valV_neg e,decide_eq_false e,Bool.false_or]; exact valV_any k r
theorem jF (kvs:List (κ×V)) (k:κ) (v:V):(putK kvs k v).length<=kvs.length+1:=by
 unfold putK
 split
 ·rw [List.length_map]; omega
 ·rw [List.length_append,List.length_cons,List.length_nil]; omega
theorem RelO.isSome_eq {o:Option V}{u:Option Value} (r:RelO o u):o.isSome=u.isSome:=by
 cases o with
 | none=>cases u with
  | none=>rfl
  | some _=>exact (show False from r).elim
 | some _=>cases u with
  | none=>exact (show False from r).elim
  | some _=>rfl
theorem KV.val {kvs:List (κ×V)}{vs:List (κ×Value)} (r:KV kvs vs) (k:κ):RelO (gD kvs k) (valueAt vs k):=by
 unfold KV at r
 induction r with
 | nil=>exact True.intro
 | @cons p q ps qs h t ih =>
  obtain⟨h1,h2⟩:=h
  by_cases e:p.1=k
  ·have e':q.1=k:=h1.symm.trans e
   have b:valueAt (q::qs) k=some q.2:=by simp [valueAt,List.find?_cons,e']
   rw [lH e,b]; exact h2
  ·have e':¬ q.1=k:=fun z=>e (h1.trans z)
   have b:valueAt (q::qs) k=valueAt qs k:=by simp [valueAt,List.find?_cons,e']
   rw [valV_neg e,b]; exact ih
theorem KV.any {kvs:List (κ×V)}{vs:List (κ×Value)} (r:KV kvs vs) (k:κ):(kvs.any fun kv=>decide (kv.1=k))=vs.any fun kv=>decide (kv.1=k):=by
 unfold KV at r
 induction r with
 | nil=>rfl
 | cons h t ih=>rw [List.any_cons,List.any_cons,ih,h.1]
theorem KV.repl {kvs:List (κ×V)}{vs:List (κ×Value)} (r:KV kvs vs) (k:κ) {y:V}{u:Value} (ry:RelV y u) :
  KV (kvs.map fun kv=>if kv.1=k then (kv.1,y) else kv) (vs.map fun kv=>if kv.1=k then (kv.1,u) else kv):=by
 unfold KV at r ⊢
 induction r with
 | nil=>exact .nil
 | @cons p q ps qs h t ih =>
  rw [List.map_cons,List.map_cons]
  refine .cons ?_ ih
  obtain⟨h1,h2⟩:=h
  by_cases e:p.1=k
  ·rw [if_pos e,if_pos (h1.symm.trans e)]; exact⟨h1,ry⟩
  ·rw [if_neg e,if_neg (fun z=>e (h1.trans z))]; exact⟨h1,h2⟩
theorem KV.put {kvs:List (κ×V)}{vs:List (κ×Value)} (r:KV kvs vs) (k:κ) {y:V}{u:Value} (ry:RelV y u):KV (putK kvs k y) (stored vs k u):=by
 unfold putK stored
 rw [r.any k]
 by_cases e:(vs.any fun kv=>decide (kv.1=k))=true
 ·rw [if_pos e,if_pos e]; exact r.repl k ry
 ·rw [if_neg e,if_neg e]; exact Paired.snoc r ⟨rfl,ry⟩
theorem KV.keys {kvs:List (κ×V)}{vs:List (κ×Value)} (r:KV kvs vs):kvs.map (·.1)=vs.map (·.1):=by
 unfold KV at r
 induction r with
 | nil=>rfl
 | cons h t ih=>rw [List.map_cons,List.map_cons,ih,h.1]
theorem KV.length {kvs:List (κ×V)}{vs:List (κ×Value)} (r:KV kvs vs):kvs.length=vs.length:=Paired.length r
end
theorem kV_is {P:Program}{w:World}{k:Key}{u:Value} (r:RelV (kV k) u):(aY P w).is k u=true:=by
 cases k with
 | inl i=>obtain⟨t,e⟩:=(show ∃ t,u=Value.int i t from r); subst e; exact mixKind_int P w i t
 | inr x=>obtain⟨t,e⟩:=(show ∃ t,u=Value.str x t from r); subst e; exact mixKind_str P w x t
theorem items_are {P:Program}{w:World}:∀ {ks:List Key}{us:List Value},Vals (ks.map kV) us->ItemsAre (aY P w) ks us
 | [],_,r=>by rw [List.map_nil] at r; cases r; exact .nil
 | k::ks,_,r=>by
  rw [List.map_cons] at r
  cases r with
  | cons h t=>exact .cons (kV_is h) (items_are t)
noncomputable abbrev KT (H:Hp):List (List Key×V)->List (List Key×Addr×Value)->Prop:=Paired fun p q=>p.1=q.1/\H q.2.1=some (.tup (p.1.map kV))/\RelV p.2 q.2.2
theorem KT.val {H:Hp}{kvs:List (List Key×V)}{xs:List (List Key×Addr×Value)} (r:KT H kvs xs) (k:List Key):RelO (gD kvs k) ((atKey xs k).map (·.2)):=by
 induction r with
 | nil=>exact True.intro
 | @cons p q ps qs h t ih =>
  obtain⟨h1,_,h2⟩:=h
  by_cases e:p.1=k
  ·have e':q.1=k:=h1.symm.trans e
   have b:atKey (q::qs) k=some q.2:=by simp [atKey,List.find?_cons,e']
   rw [lH e,b]; exact h2
  ·have e':¬ q.1=k:=fun z=>e (h1.trans z)
   have b:atKey (q::qs) k=atKey qs k:=by simp [atKey,List.find?_cons,e']
   rw [valV_neg e,b]; exact ih
theorem KT.repl {H:Hp}{kvs:List (List Key×V)}{xs:List (List Key×Addr×Value)} (r:KT H kvs xs) (k:List Key) {y:V}{u:Value} (ry:RelV y u) :
  KT H (kvs.map fun kv=>if kv.1=k then (kv.1,y) else kv) (xs.map (putAt k u)):=by
 induction r with
 | nil=>exact .nil
 | @cons p q ps qs h t ih =>
  rw [List.map_cons,List.map_cons]
  refine .cons ?_ ih
  obtain⟨h1,h2,h3⟩:=h
  unfold putAt
  by_cases e:p.1=k
  ·rw [if_pos e,if_pos (h1.symm.trans e)]; exact⟨h1,h2,ry⟩
  ·rw [if_neg e,if_neg (fun z=>e (h1.trans z))]; exact⟨h1,h2,h3⟩
theorem KT.put {H:Hp}{kvs:List (List Key×V)}{xs:List (List Key×Addr×Value)} (r:KT H kvs xs) (k:List Key) {b:Addr}{y:V}{u:Value} (hb:H b=some (.tup (k.map kV))) (ry:RelV y u) :
  KT H (putK kvs k y) (storedH xs k b u):=by
 have e:(kvs.any fun kv=>decide (kv.1=k))=(atKey xs k).isSome:=by
  rw [valV_any,(r.val k).isSome_eq,Option.isSome_map]
 unfold putK storedH
 rw [e]
 by_cases q:(atKey xs k).isSome=true
 ·rw [if_pos q,if_pos q]; exact r.repl k ry
 ·rw [if_neg q,if_neg q]; exact Paired.snoc r ⟨rfl,hb,ry⟩
theorem KT.keeps {H H':Hp}{kvs:List (List Key×V)}{xs:List (List Key×Addr×Value)} (r:KT H kvs xs) (ht:∀ b ys,H b=some (.tup ys)->H' b=some (.tup ys)):KT H' kvs xs :=
 Paired.mapP r fun _ _ z=>⟨z.1,ht _ _ z.2.1,z.2.2⟩
section
variable {P:Program}{w:World}{H:Hp}{h:Heap}{a:Addr}
theorem rd_of {u:HO} (ok:HOk P w H h) (e:Rd H a u):bZ P w H h a u:=e.ok ok
theorem dk_rd {kvs:List (Key×V)} (ok:HOk P w H h) (e:Rd H a (.dK kvs)):kvs.length<=sizeLine/\(a == sysModules)=false/\∃ vs,KV kvs vs/\h.DictOf (aY P w) a vs :=
 show bZ P w H h a (.dK kvs) from rd_of ok e
theorem dk_of {kvs:List (Key×V)} (ok:HOk P w H h) (e:H a=some (.dK kvs)):kvs.length<=sizeLine/\(a == sysModules)=false/\∃ vs,KV kvs vs/\h.DictOf (aY P w) a vs:=dk_rd ok (.inl e)
theorem key_of {ks:List Key} (ok:HOk P w H h) (e:H a=some (.tup (ks.map kV))):(tupleKind (aY P w)).is h ks a:=by
 obtain⟨_,its,r,o,h1,h2,n,h3⟩:=(show bZ P w H h a (.tup (ks.map kV)) from ok a _ e)
 exact⟨o,its.toArray,n,h1,h2,h3,by simpa using items_are r⟩
theorem dt_rd {kvs:List (List Key×V)} (ok:HOk P w H h) (e:Rd H a (.dT kvs)):kvs.length<=sizeLine/\(a == sysModules)=false /\
  ∃ xs,KT H kvs xs/\h.DictOfH (tupleKind (aY P w)) a xs:=by
 obtain⟨z,y,xs,r,o,es,ep,h1,h2,h3,h4,h5⟩:=(show bZ P w H h a (.dT kvs) from rd_of ok e)
 refine⟨z,y,xs,r,o,es,ep,h1,h2,h3,h4,fun x hx=>?_,h5⟩
 have all:∀ {l:List (List Key×V)}{m:List (List Key×Addr×Value)},KT H l m->∀ x∈m,(tupleKind (aY P w)).is h x.1 x.2.1:=by
  intro l m q
  induction q with
  | nil=>intro x hx; exact nomatch hx
  | @cons p q ps qs hq t ih =>
   intro x hx
   rcases List.mem_cons.mp hx with e | hx
   ·subst e
    exact key_of ok (by rw [← hq.1]; exact hq.2.1)
   ·exact ih x hx
 exact all r x hx
theorem dt_of {kvs:List (List Key×V)} (ok:HOk P w H h) (e:H a=some (.dT kvs)):kvs.length<=sizeLine/\(a == sysModules)=false /\
  ∃ xs,KT H kvs xs/\h.DictOfH (tupleKind (aY P w)) a xs:=dt_rd ok (.inl e)
end
noncomputable def DGet (H:Hp) (a:Addr) (y:V) (r:Option V):Prop :=
 (∃ kvs k,Rd H a (.dK kvs)/\y=kV k/\r=gD kvs k)\/∃ kvs k b,Rd H a (.dT kvs)/\y=.ref b/\H b=some (.tup (k.map kV))/\r=gD kvs k
noncomputable def DPut (H:Hp) (a:Addr) (y v:V) (H':Hp):Prop :=
 (∃ kvs k,H a=some (.dK kvs)/\y=kV k/\kvs.length<sizeLine/\H'=upd H a (.dK (putK kvs k v))) ∨
 ∃ kvs k b,H a=some (.dT kvs)/\y=.ref b/\H b=some (.tup (k.map kV))/\kvs.length<sizeLine/\H'=upd H a (.dT (putK kvs k v))
theorem DGet.k {H:Hp}{a:Addr}{kvs:List (Key×V)}{k:Key} (e:H a=some (.dK kvs)):DGet H a (kV k) (gD kvs k):=.inl ⟨kvs,k,.inl e,rfl,rfl⟩
theorem DPut.k {H:Hp}{a:Addr}{kvs:List (Key×V)}{k:Key}{v:V} (e:H a=some (.dK kvs)) (hl:kvs.length<sizeLine):DPut H a (kV k) v (upd H a (.dK (putK kvs k v))):=.inl ⟨kvs,k,e,rfl,hl,rfl⟩
section
variable {X:Cx}{pins:List (Addr×Obj)}{σ:St}{H:Hp}{s:Shared}{a:Addr}{y v:V}{u r:Value}{o:Option V}{A:Around}{E:Value->Shared->Prop}
theorem Inv.big (I:Inv X pins σ H s):sysModules<s.heap.objs.size:=by
 have h:mainGlobals<s.heap.objs.size:=(I.mod.glob.keeps I.bk).lt
 exact Nat.lt_trans (by decide) h
theorem d_getItem {Q:Value->Shared->Prop} (hu:A.units+1<cLine) (I:Inv X pins σ H s) (g:DGet H a y (some v)) (ry:RelV y u) (h:∀ w' s',Inv X pins σ H s'->RelV v w'->Q w' s') :
  wpAny (model X.prog X.w) A (getItem (.ref a) u) Q E s:=by
 rcases g with ⟨kvs,k,e,ey,l⟩ | ⟨kvs,k,b,e,ey,eb,l⟩
 ·subst ey
  obtain⟨z,hd,vs,rel,dd⟩:=dk_rd I.hok e
  obtain⟨w',hw,rw'⟩:=RelO.some_of (v:=v) (o:=valueAt vs k) (by rw [l]; exact rel.val k)
  exact wpAny_getItem_of (kV_is ry) dd.mapOf hw (h w' _ (I.tok _) rw')
 ·subst ey
  cases (show u=Value.ref b from ry)
  obtain⟨z,hd,xs,rel,dd⟩:=dt_rd I.hok e
  obtain⟨w',hw,rw'⟩:=RelO.some_of (v:=v) (o:=(atKey xs k).map (·.2)) (by rw [l]; exact rel.val k)
  obtain⟨p,hp,hp2⟩:=Option.map_eq_some_iff.mp hw
  refine wpAny_getItem_heap (tupleKind_room_in1 hu) (key_of I.hok eb) dd hp ?_
  rw [hp2]
  exact h w' _ (I.tok _) rw'
theorem d_notIn {Q:Value->Shared->Prop} (hu:A.units+1<cLine) (I:Inv X pins σ H s) (g:DGet H a y o) (ry:RelV y u) (h:∀ s',Inv X pins σ H s'->Q (.bool (!o.isSome)) s') :
  wpAny (model X.prog X.w) A (compareOp .NotIn u (.ref a)) Q E s:=by
 rcases g with ⟨kvs,k,e,ey,l⟩ | ⟨kvs,k,b,e,ey,eb,l⟩
 ·subst ey
  obtain⟨z,hd,vs,rel,dd⟩:=dk_rd I.hok e
  refine wpAny_notIn_of (kV_is ry) hd dd.mapOf ?_
  rw [← (rel.val k).isSome_eq,← l]
  exact h _ (I.tok _)
 ·subst ey
  cases (show u=Value.ref b from ry)
  obtain⟨z,hd,xs,rel,dd⟩:=dt_rd I.hok e
  refine wpAny_notIn_heap (tupleKind_room_in1 hu) (key_of I.hok eb) hd dd ?_
  have q:=(rel.val k).isSome_eq
  rw [Option.isSome_map] at q
  rw [← q,← l]
  exact h _ (I.tok _)
theorem d_write {h':Heap}{t':Nat}{ob:HO} (I:Inv X pins σ H s) (mu:Mut (H a)) (hs:Heap.SameBut a s.heap h') (he:∃ q,h'.get? a=some q) (new:bZ X.prog X.w (upd H a ob) h' a ob) :
  Inv X pins σ (upd H a ob) { s with heap:=h',toks:=t' } :=
 I.write (x:=a) (e:=a) mu (.inl rfl) (fun b q hb z=>(hs.2 b hb).trans z) he new
theorem dk_new {P:Program}{w:World}{H':Hp}{h':Heap}{kvs:List (Key×V)}{vs:List (Key×Value)} (z:kvs.length<=sizeLine) (hd:(a == sysModules)=false) (rel:KV kvs vs) (dd:h'.DictOf (aY P w) a vs) :
  bZ P w H' h' a (.dK kvs):=⟨z,hd,vs,rel,dd⟩
theorem d_setItem {H':Hp}{Q:Unit->Shared->Prop} (hu:A.units+1<cLine) (I:Inv X pins σ H s) (g:DPut H a y v H') (ry:RelV y u) (rv:RelV v r) (h:∀ s',Inv X pins σ H' s'->Q () s') :
  wpAny (model X.prog X.w) A (setItem (.ref a) u r) Q E s:=by
 rcases g with ⟨kvs,k,e,ey,l,eH⟩ | ⟨kvs,k,b,e,ey,eb,l,eH⟩
 ·subst ey eH
  obtain⟨z,hd,vs,rel,dd⟩:=dk_of I.hok e
  have hz:vs.length<=sizeLine:=by rw [← rel.length]; exact z
  have hl:(putK kvs k v).length<=sizeLine:=by have:=jF kvs k v; omega
  refine wpAny_setItem_pairs (hsz:=hz) (kV_is ry) dd fun h' dd' hs=>h _ ?_
  have he:∃ q,h'.get? a=some q:=let ⟨q,_,_,hq,_⟩:=dd'; ⟨q,hq⟩
  exact d_write I (by rw [e]; exact True.intro) hs he (dk_new hl hd (rel.put k rv) dd')
 ·subst ey eH
  cases (show u=Value.ref b from ry)
  obtain⟨z,hd,xs,rel,dd⟩:=dt_of I.hok e
  have hz:xs.length<=sizeLine:=by rw [← Paired.length rel]; exact z
  have hl:(putK kvs k v).length<=sizeLine:=by have:=jF kvs k v; omega
  refine wpAny_setItem_heap (hsz:=hz) (tupleKind_room_in1 hu) (key_of I.hok eb) dd fun h' dd' hs=>h _ ?_
  obtain⟨q,es,ep,hq,h2,h3,h4,_,h5⟩:=dd'
  refine d_write I (by rw [e]; exact True.intro) hs ⟨q,hq⟩ ⟨hl,hd,_,(rel.put k eb rv).keeps fun c ys ec=>?_,q,es,ep,hq,h2,h3,h4,h5⟩
  rw [aA (ne_of ec e (fun z=>nomatch z))]
  exact ec
end
section
variable {X:Cx}{pins:List (Addr×Obj)}{σ:St}{H:Hp}{s:Shared}{a:Addr}{kvs:List (Key×V)}{k:Key}{u:Value}{A:Around}{E:Value->Shared->Prop}
end
noncomputable def NoSl (i:Expr):Prop:=∀ ov iv,subscripted i false ov iv=operate [ov,iv] (getItem ov iv)
theorem subD_of {prog:Program}{w:World}{A:Around}{E:Value->Shared->Prop}{s:Shared}{env:Env}{value slice:Expr}{pos:Pos}{T id:String}{Q:Value->Shared->Prop}
  (hl:typeLookup (.type T) "__getitem__"=pure (some (.builtin id))) (hs:NoSl slice)
  (h:wpAny (model prog w) A (eval value env) (fun o s₁=>wpAny (model prog w) A (eval slice env) (fun i s₂=>s₂.TypeIs o T/\wpAny (model prog w) A (getItem o i) Q E s₂) E s₁) E s) :
  wpAny (model prog w) A (eval (.Subscript value slice pos) env) Q E s:=by
 refine Subscript_ (wpAny_mono h (fun o s₁ h₁=>wpAny_mono h₁ (fun i s₂ h₂=>?_) fun _ _ x=>x) fun _ _ x=>x)
 obtain⟨hT,h₂⟩:=h₂
 unfold subscriptTail
 refine wpAny_bind ?_
 rw [getitemInPython_of_ne hT.not_modules]
 refine wpAny_bind (wpAny_specialOf hT hl ?_)
 have fin:wpAny (model prog w) A (subscripted slice false o i) (fun r s₃=>wpAny (model prog w) A (letTemporaryGo value o r >>= fun _=>pure r) Q E s₃) E s₂:=by
  rw [hs o i]
  exact wpAny_operating (wpAny_mono h₂ (fun r s₃ h₃=>wpAny_bind (wpAny_letTemporaryGo (wpAny_pure h₃))) fun _ _ x=>x)
 first
  | exact wpAny_pure (wpAny_bind fin)
  | exact wpAny_bind (wpAny_pure (wpAny_bind fin))
  | exact wpAny_bind fin
theorem dict_typeIs {X:Cx}{pins:List (Addr×Obj)}{σ:St}{H:Hp}{s:Shared}{a:Addr}{y:V}{o:Option V} (I:Inv X pins σ H s) (g:DGet H a y o):s.TypeIs (.ref a) "dict":=by
 rcases g with ⟨kvs,k,e,_,_⟩ | ⟨kvs,k,b,e,_,_,_⟩
 ·obtain⟨_,_,vs,_,dd⟩:=dk_rd I.hok e
  exact dd.typeIs
 ·obtain⟨_,_,xs,_,dd⟩:=dt_rd I.hok e
  exact dd.typeIs
noncomputable def tDGet (td ty:TE):TE:=fun σ H Q=>td σ H fun x H1=>ty σ H1 fun y H2=>∃ a v,x=.ref a/\DGet H2 a y (some v)/\Q v H2
noncomputable def tDNotIn (ty td:TE):TE:=fun σ H Q=>ty σ H fun y H1=>td σ H1 fun x H2=>∃ a o,x=.ref a/\DGet H2 a y o/\Q (.bl (!o.isSome)) H2
noncomputable def sDPut (td ty tv:TE):TS:=fun D σ H=>tv σ H fun v H1=>td σ H1 fun x H2=>ty σ H2 fun y H3=>∃ a H4,x=.ref a/\DPut H3 a y v H4/\D.nx σ H4
section
variable {X:Cx}{o i e value:Expr}{pos pos' tpos:Pos}{td ty tv:TE}
theorem pe_dget (hu:X.A.units+1<cLine) (ho:PE X o td) (hi:PE X i ty) (hs:NoSl i):PE X (.Subscript o i pos) (tDGet td ty):=by
 intro pins s σ H Q I h
 refine subD_of PySem.F.slot_dict_getitem.lookup hs (thn (ho pins s σ H _ I h) fun u s1 ⟨x,H1,I1,rx,q1⟩=>thn (hi pins s1 σ H1 _ I1 q1) fun iv s2 ⟨y,H2,I2,ry,a,v,ex,g,q2⟩=>?_)
 subst ex
 obtain rfl:u=Value.ref a:=rx
 exact⟨dict_typeIs I2 g,d_getItem hu I2 g ry fun w' s3 I3 rw'=>⟨v,H2,I3,rw',q2⟩⟩
theorem pc_dnotin (hu:X.A.units+1<cLine) (hi:PE X i ty) (ho:PE X o td):PC X .NotIn i o (tDNotIn ty td):=by
 intro pins s σ H Q I h
 refine thn (hi pins s σ H _ I h) fun iv s1 ⟨y,H1,I1,ry,q1⟩=>thn (ho pins s1 σ H1 _ I1 q1) fun u s2 ⟨x,H2,I2,rx,a,ov,ex,g,q2⟩=>?_
 subst ex
 obtain rfl:u=Value.ref a:=rx
 exact d_notIn hu I2 g ry fun s3 I3=>⟨.bl (!ov.isSome),H2,I3,rfl,q2⟩
theorem ps_dput (hu:X.A.units+1<cLine) (ho:PE X o td) (hi:PE X i ty) (hv:PE X value tv) (hs:swapsWith value (some (.Subscript o i pos')) pos.line X.env=pure false) :
  PS X (.Assign [.Subscript o i pos'] value pos) (sDPut td ty tv):=by
 intro pins s σ H D I h
 refine wpAny_Assign_Subscript (thn (hv pins s σ H _ I h) fun r s1 ⟨v,H1,I1,rv,q1⟩=>thn (ho pins s1 σ H1 _ I1 q1) fun u s2 ⟨x,H2,I2,rx,q2⟩=>thn (hi pins s2 σ H2 _ I2 q2) fun iv s3 ⟨y,H3,I3,ry,a,H4,ex,g,q3⟩=>?_) hs
 subst ex
 obtain rfl:u=Value.ref a:=rx
 exact d_setItem hu I3 g ry rv fun s4 I4=>⟨σ,H4,I4,q3⟩
end
theorem dk_empty {P:Program}{w:World}{H:Hp} (h:Heap) (hb:sysModules<h.objs.size):bZ P w H (h.push { cls:=.type "dict",data:=.dict #[] }) h.objs.size (.dK []) :=
 ⟨Nat.zero_le _,beq_eq_false_iff_ne.mpr (Ne.symm (Nat.ne_of_lt hb)),[],.nil,Heap.DictOf.new h⟩
noncomputable def tDNewK:TE:=fun _ H Q=>∀ p,H p=none->Q (.ref p) (upd H p (.dK []))
section
variable {X:Cx}{pos:Pos}
theorem pe_dnewK:PE X (.Dict [] [] pos) tDNewK:=fun pins s σ H Q I h =>
 wpAny_Dict_empty ⟨.ref s.heap.objs.size,_,I.laid (a:=s.heap.objs.size) (o:=.dK []) (t':=s.toks) (fun _ _ q=>Heap.get?_push_of_some _ q) (Nat.le_refl _) (dk_empty s.heap I.big),rfl,h _ (I.hok.fresh (Nat.le_refl _))⟩
end
noncomputable def tPairs:List (TE×TE)->St->Hp->(List (V×V)->Hp->Prop)->Prop
 | [],_,H,Q=>Q [] H
 | (tk,tv)::r,σ,H,Q=>tk σ H fun x H1=>tv σ H1 fun y H2=>tPairs r σ H2 fun ps H3=>Q ((x,y)::ps) H3
noncomputable abbrev VV:List (V×V)->List (Value×Value)->Prop:=Paired fun p q=>RelV p.1 q.1/\RelV p.2 q.2
noncomputable def PPs (X:Cx) (pos:Pos) (keys:List (Option Expr)) (values:List Expr) (trs:List (TE×TE)):Prop :=
 ∀ (pins:List (Addr×Obj)) (s:Shared) (σ:St) (H:Hp) (Q:List (V×V)->Hp->Prop),Inv X pins σ H s->tPairs trs σ H Q ->
  wpAny (model X.prog X.w) X.A (evalPairs (pairTrees keys values X.env pos)) (fun vs s'=>∃ ps H',Inv X pins σ H' s'/\VV ps vs/\Q ps H') X.xe s
theorem pps_nil {X:Cx}{pos:Pos}:PPs X pos [] [] []:=fun pins s σ H Q I h=>pairTrees_nil_walk ⟨[],H,I,.nil,h⟩
theorem pps_cons {X:Cx}{pos:Pos}{k v:Expr}{ks:List (Option Expr)}{vs:List Expr}{tk tv:TE}{trs:List (TE×TE)} (hk:PE X k tk) (hv:PE X v tv) (hr:PPs X pos ks vs trs) :
  PPs X pos (some k::ks) (v::vs) ((tk,tv)::trs):=fun pins s σ H Q I h =>
 pairTrees_cons_walk (thn (hk pins s σ H _ I h) fun u s1 ⟨x,H1,I1,rx,q1⟩=>thn (hv pins s1 σ H1 _ I1 q1) fun w2 s2 ⟨y,H2,I2,ry,q2⟩ =>
  thn (hr pins s2 σ H2 _ I2 q2) fun ws s3 ⟨ps,H3,I3,rel,q3⟩=>⟨(x,y)::ps,H3,I3,.cons ⟨rx,ry⟩ rel,q3⟩)
noncomputable def mergeK (kvs more:List (Key×V)):List (Key×V):=more.foldl (fun acc kv=>putK acc kv.1 kv.2) kvs
theorem KV.merge:∀ {more:List (Key×V)}{rs:List (Key×Value)}{kvs:List (Key×V)}{vs:List (Key×Value)},KV more rs->KV kvs vs->KV (mergeK kvs more) (merged vs rs):=by
 intro more rs kvs vs r
 unfold KV at r
 induction r generalizing kvs vs with
 | nil=>intro q; exact q
 | @cons p q ps qs h t ih =>
  intro r0
  have e:KV (putK kvs p.1 p.2) (stored vs q.1 q.2):=by
   have:=r0.put p.1 h.2
   rw [← h.1]; exact this
  exact ih e
theorem kZ:∀ (more kvs:List (Key×V)),(mergeK kvs more).length<=kvs.length+more.length
 | [],kvs=>by show kvs.length<=kvs.length+0; omega
 | p::r,kvs=>by
  have h1:=kZ r (putK kvs p.1 p.2)
  have h2:=jF kvs p.1 p.2
  show (mergeK (putK kvs p.1 p.2) r).length<=_
  rw [List.length_cons]; omega
theorem carries_of {P:Program}{w:World}:∀ {kvs:List (Key×V)}{ws:List (Value×Value)},VV (kvs.map fun kv=>(kV kv.1,kv.2)) ws->∃ rs,Carries (aY P w) ws rs/\KV kvs rs
 | [],_,r=>by rw [List.map_nil] at r; cases r; exact⟨[],True.intro,.nil⟩
 | p::kvs,_,r=>by
  rw [List.map_cons] at r
  cases r with
  | @cons a b as bs h t =>
   obtain⟨rs,c,q⟩:=carries_of (P:=P) (w:=w) t
   obtain⟨b1,b2⟩:=b
   exact⟨(p.1,b2)::rs,⟨kV_is h.1,rfl,c⟩,.cons ⟨rfl,h.2⟩ q⟩
noncomputable def tDisp (trs:List (TE×TE)):TE:=fun σ H Q=>∀ p,H p=none->tPairs trs σ (upd H p (.dK [])) fun ps H2=>H2 p=some (.dK [])/\∃ kvs:List (Key×V),ps=kvs.map (fun kv=>(kV kv.1,kv.2))/\kvs.length<=15/\Q (.ref p) (upd H2 p (.dK (mergeK [] kvs)))
theorem pe_disp {X:Cx}{pos:Pos}{keys:List (Option Expr)}{values:List Expr}{trs:List (TE×TE)} (h:PPs X pos keys values trs) (hall:keys.all (·.isSome)=true) (hl:keys.length=values.length) (h0:keys≠[])
  (h15:keys.length<=15):PE X (.Dict keys values pos) (tDisp trs):=by
 intro pins s σ H Q I q
 have hn:=I.hok.fresh (Nat.le_refl s.heap.objs.size)
 have I1:=I.laid (a:=s.heap.objs.size) (o:=.dK []) (h':=s.heap.push { cls:=.type "dict",data:=.dict #[] }) (t':=s.toks) (fun _ _ q=>Heap.get?_push_of_some _ q) (Nat.le_refl _) (dk_empty s.heap I.big)
 refine wpAny_Dict_walk (knd:=aY X.prog X.w) hall hl h0 h15 (thn (h pins _ σ _ _ I1 (q _ hn)) fun ws s2 ⟨ps,H2,I2,rel,e,kvs,ep,lk,q2⟩=>?_)
 subst ep
 obtain⟨rs,c,rk⟩:=carries_of (P:=X.prog) (w:=X.w) rel
 obtain⟨z,hd,vs0,r0,dd⟩:=dk_of I2.hok e
 cases r0
 refine⟨rs,c,dd,fun h' dd' hs=>⟨.ref s.heap.objs.size,_,?_,rfl,q2⟩⟩
 have hz:(mergeK [] kvs).length<=sizeLine:=by
  have h1:=kZ kvs []
  rw [List.length_nil] at h1
  rw [sizeLine_eq]; omega
 have he:∃ q,h'.get? s.heap.objs.size=some q:=let ⟨q,_,_,hq,_⟩:=dd'; ⟨q,hq⟩
 exact d_write I2 (by rw [e]; exact True.intro) hs he (dk_new hz hd (rk.merge .nil) dd')
structure M1 (X:Cx) (o:Expr) (m:Str) (apos:Pos) (e:Expr) (cpos:Pos):Prop where
 base:attributeBase o m X.env (eval o X.env)=eval o X.env
 few:((backTo cpos (starEach [e] X.env)).all (fun x=>!x.1)&&(backToKw cpos (keywordEach [] X.env)).all (fun x=>x.1.isSome)
 &&decide (([e]:List Expr).length+([]:List Keyword).length+(if ([]:List Keyword).isEmpty then 0 else 1)<30))=true
 line:(apos.endLine == cpos.line)=true
 trees:backTo cpos (starEach [e] X.env)=[(false,eval e X.env)]
structure M2 (X:Cx) (o:Expr) (m:Str) (apos:Pos) (e f:Expr) (cpos:Pos):Prop where
 base:attributeBase o m X.env (eval o X.env)=eval o X.env
 few:((backTo cpos (starEach [e,f] X.env)).all (fun x=>!x.1)&&(backToKw cpos (keywordEach [] X.env)).all (fun x=>x.1.isSome)
 &&decide (([e,f]:List Expr).length+([]:List Keyword).length+(if ([]:List Keyword).isEmpty then 0 else 1)<30))=true
 line:(apos.endLine == cpos.line)=true
 trees:backTo cpos (starEach [e,f] X.env)=[(false,eval e X.env),(false,eval f X.env)]
section
variable {X:Cx}{pins:List (Addr×Obj)}{σ:St}{H:Hp}{s:Shared}{a:Addr}{y d:V}{u r:Value}{o:Option V}{A:Around}{E:Value->Shared->Prop}
end
section
variable {X:Cx}{o e f:Expr}{apos cpos:Pos}{td ty tx:TE}
end
section
variable {X:Cx}{pins:List (Addr×Obj)}{σ:St}{H:Hp}{s:Shared}{a:Addr}{kvs:List (Key×V)}{A:Around}{E:Value->Shared->Prop}
end
section
variable {X:Cx}{pins:List (Addr×Obj)}{σ:St}{H:Hp}{s:Shared}{a:Addr}{y:V}{u:Value}{A:Around}{E:Value->Shared->Prop}
end
section
variable {prog:Program}{w:World}{A:Around}{E:Value->Shared->Prop}{s:Shared}
theorem collect_src {T:String}{r d:Addr}{n:Nat}{P:Nat->Value->Prop}{OK:Heap->Prop}{R:List Value->Shared->Prop} (K:PySem.W.KdlSrc prog w T r d n P OK) (hh:A.handled=none) (hok:OK s.heap) (hn:n<=sizeLine)
  (h:∀ (h':Heap) (tk:Nat) (acc:Array Value),s.heap.objs.size<h'.objs.size->(∀ b o,s.heap.get? b=some o->h'.get? b=some o)->ItemsOf P acc n->R acc.toList { s with heap:=h',toks:=tk }) :
  wpAny (model prog w) A (collect (.ref r)) R E s:=by
 have hlt:=K.there _ hok
 unfold collect
 refine wpAny_bind (wpAny_runValue (codeAny_builtin entry_proto_collect' ?_))
 rw [Around.under_plainId PySem.F.plain_proto_collect _]
 show wpAny _ A.in1 (newList [] >>= fun l=>again (.builtin "list.__iadd__" ⟨[l,.ref r],[]⟩)) _ _ s
 refine wpAny_bind (wpAny_newObj_type ?_)
 refine wpAny_pure ⟨plainId_quiet PySem.F.plain_list_iadd _,codeAny_builtin entry_list_iadd' ?_⟩
 rw [Around.under_plainId PySem.F.plain_list_iadd _]
 have hS₁:(s.heap.push { cls:=.type "list",data:=.seq ([]:List Value).toArray }).get? s.heap.objs.size=some { cls:=.type "list",data:=.seq #[] }:=Heap.get?_push_size _ rfl
 show wpAny _ A.in1 (Builtin.List.listExtendWith (.ref s.heap.objs.size) (.ref r) (.ref s.heap.objs.size)) _ _ _
 have key:=PySem.W.kdl_extend (A:=A) (s:={ s with heap:=s.heap.push { cls:=.type "list",data:=.seq ([]:List Value).toArray } }) K
  (R:=fun (q:Result) (s':Shared)=>∃ (h':Heap) (tk:Nat) (acc':Array Value) (c':Nat),q=.ok (.ret (.ref s.heap.objs.size))/\s'={ s with heap:=h',toks:=tk } /\
   (∀ b o,s.heap.get? b=some o->h'.get? b=some o)/\h'.get? s.heap.objs.size=some { cls:=.type "list",dict:=none,data:=.seq acc' c',slots:=#[] }/\ItemsOf P acc' n)
  hh (K.keep _ _ hok fun b _ o e=>Heap.get?_push_of_some _ e) s.heap.objs.size (Nat.ne_of_gt hlt.1) (Nat.ne_of_gt hlt.2) (.ref s.heap.objs.size) 0 hS₁
  (fun h' tk acc' c' hk hS' hacc=>⟨h',tk,acc',c',rfl,rfl,fun b o e=>hk b o (Nat.ne_of_lt (Heap.lt_size e)) (Heap.get?_push_of_some _ e),hS',hacc⟩) hn
 refine wpAny_mono key (fun fin s' x=>?_) fun e s' x=>?_
 ·cases fin with
  | done f =>
   obtain⟨h',tk,acc',c',e,rfl,hk,hS',hacc⟩:=x
   cases e
   show wpAny _ A (load s.heap.objs.size >>= _) _ _ _
   refine wpAny_bind (wpAny_load hS' ?_)
   exact wpAny_pure (h h' tk acc' (Heap.lt_size hS') hk hacc)
  | again c₁ =>
   refine⟨x.1,codeAny_mono x.2 fun q s₂ y=>?_⟩
   obtain⟨h',tk,acc',c',rfl,rfl,hk,hS',hacc⟩:=y
   show wpAny _ A (load s.heap.objs.size >>= _) _ _ _
   refine wpAny_bind (wpAny_load hS' ?_)
   exact wpAny_pure (h h' tk acc' (Heap.lt_size hS') hk hacc)
 ·obtain⟨_,_,_,_,e',_⟩:=x
  cases e'
theorem sorted_src {T:String}{r d:Addr}{n:Nat}{P:Nat->Value->Prop}{OK:Heap->Prop}{Q:Value->Shared->Prop}{ns:List Int} (K:PySem.W.KdlSrc prog w T r d n P OK) (hh:A.handled=none) (hok:OK s.heap) (hn:n<64)
  (hP:∀ us:List Value,us.length=n->(∀ j v,us[j]?=some v->P j v)->IntsAre us ns)
  (h:∀ (h':Heap) (tk:Nat) (D:Addr) (e:Nat) (out:Array Value) (ns':List Int),s.heap.objs.size<=D->(∀ b o,s.heap.get? b=some o->h'.get? b=some o)->h'.get? D=some { cls:=.type "list",data:=.seq out e }->IntsAre out.toList ns'->ns'.Perm ns->ns'.Pairwise (·<=·)->Q (.ref D) { s with heap:=h',toks:=tk }) :
  wpAny (model prog w) A (call (.builtin "sorted") [.ref r]) Q E s:=by
 have h24:=sizeLine_eq
 refine Calls.call_function_entry kind_sorted plain_sorted entry_sorted (args_sorted1 _) ?_
 unfold Builtin.«sorted»
 refine wpAny_bind (m:=checkCount "sorted" 1 1 _) (wpAny_pure ?_)
 refine wpAny_bind (collect_src (A:=A.in1) K hh hok (by omega) fun h1 tk acc hsz hk hacc=>?_)
 have hlen:acc.toList.length=n:=by rw [Array.length_toList]; exact hacc.1
 have hI:IntsAre acc.toList ns:=hP acc.toList hlen fun j v e=>hacc.2 j v (by rw [← Array.getElem?_toList]; exact e)
 have hz:s.heap.objs.size<=h1.objs.size:=Nat.le_of_lt hsz
 refine wpAny_bind (wpAny_newList ?_ (by omega))
 have hoL:(h1.push (seqObj "list" acc.toList.toArray 0)).get? h1.objs.size=some (seqObj "list" acc.toList.toArray 0):=Heap.get?_push_size _ rfl
 refine wpAny_bind (wpAny_holding (wpAny_call_entry slot_list_sort ⟨_,hoL,rfl⟩ entry_list_sort (list_sort_tree hoL hI (by omega) fun out ns' a1 a2 a3=>⟨_,rfl,?_⟩) (args_list_sort _)))
 obtain⟨e,he⟩:=sortedHeap_at (out:=out) hoL
 refine wpAny_pure ⟨_,rfl,h _ tk h1.objs.size e out ns' hz (fun b o q=>?_) he a1 a2 a3⟩
 have q1:=hk b o q
 have hlt:b<h1.objs.size:=Heap.lt_size q1
 rw [sortedHeap_old (Nat.ne_of_lt hlt) (by rw [size_push']; exact Nat.lt_succ_of_lt hlt)]
 exact Heap.get?_push_of_some _ q1
end
section
variable {X:Cx}
theorem call_sortedI:cU X (.builtin "sorted") (fun xs H Q=>∃ (p:Addr) (ns:List Int),xs=[.ref p]/\SqL X.K H p (ns.map V.int)/\ns.length<64 /\
  ∀ (l:Addr) (out:List Int),H l=none->out.Perm ns->out.Pairwise (·<=·)->Q (.ref l) (upd H l (.lst (out.map V.int)))):=by
 intro pins s σ H xs us Q I r h
 obtain⟨p,ns,rfl,hp,h64,q⟩:=h
 obtain⟨u,rfl,rx⟩:=vals1 r
 cases rx
 obtain⟨its,rv,pl,hz⟩:=I.list hp
 have hI:IntsAre its ns:=intsAre_of rv
 have hl:=rv.length
 rw [List.length_map] at hl
 refine sorted_ints (vs:=its) (ns:=ns) pl.isList hI (by omega) fun out ns' a1 a2 a3=>?_
 obtain⟨e,he⟩:=sortedAll_at s.heap its out
 have hv:=jT a1
 have hlo:=hv.length
 rw [List.length_map] at hlo
 have hpl:=a2.length_eq
 have h24:=sizeLine_eq
 refine⟨.ref (s.heap.objs.size+1),upd H (s.heap.objs.size+1) (.lst (ns'.map V.int)),I.laid (t':=s.toks) (fun b o eb=>sortedAll_old eb) (Nat.le_succ _) ⟨?_,out.toList,e,hv,by simpa using he⟩,rfl,q _ _ (I.hok.fresh (Nat.le_succ _)) a2 a3⟩
 rw [List.length_map]
 omega
theorem keys_ints {P:Program}{w:World}{vs:List (Key×Value)}{ks:List Int} (hk:vs.map (·.1)=ks.map Sum.inl):∀ us:List Value,us.length=vs.length->(∀ (j:Nat) (v:Value),us[j]?=some v->∃ k x,vs[j]?=some (k,x)/\(aY P w).is k v=true)->IntsAre us ks:=by
 intro us
 induction us generalizing vs ks with
 | nil =>
  intro hl _
  have e:vs=[]:=List.eq_nil_of_length_eq_zero (by simpa using hl.symm)
  subst e
  cases ks with
  | nil=>exact .nil
  | cons k ks=>simp at hk
 | cons u us ih =>
  intro hl h
  cases vs with
  | nil=>simp at hl
  | cons v vs =>
   cases ks with
   | nil=>simp at hk
   | cons k ks =>
    rw [List.map_cons,List.map_cons] at hk
    injection hk with hk1 hk2
    obtain⟨k',x,e,is⟩:=h 0 u (by simp)
    simp at e
    subst e
    simp only at hk1
    subst hk1
    have is':gj (Sum.inl k) u=true:=is
    rcases bH is' with ⟨i,t,e1,e2⟩ | ⟨y,t,e1,e2⟩
    ·injection e1 with e1
     subst e1 e2
     exact .cons _ t (ih hk2 (by simpa using hl) fun j v hj=>by simpa using h (j+1) v (by simpa using hj))
    ·cases e1
theorem call_sortedD (hc:X.calm=true):cU X (.builtin "sorted") (fun xs H Q=>∃ (d:Addr) (kvs:List (Key×V)) (ks:List Int),xs=[.ref d]/\H d=some (.dK kvs)/\kvs.map (·.1)=ks.map Sum.inl/\ks.length<64 /\
  ∀ (l:Addr) (out:List Int),H l=none->out.Perm ks->out.Pairwise (·<=·)->Q (.ref l) (upd H l (.lst (out.map V.int)))):=by
 intro pins s σ H xs us Q I r h
 obtain⟨d,kvs,ks,rfl,hd,hks,h64,q⟩:=h
 obtain⟨u,rfl,rx⟩:=vals1 r
 cases rx
 obtain⟨hz,lo,vs,kv,o,es,ep,ho,hx,hda,hk1,hk2,hk3⟩:=dk_of I.hok hd
 have hm:s.heap.DictAt (aY X.prog X.w) d vs ep:=⟨o,es,ho,hx,hda,hk1,hk2,hk3⟩
 have hkeys:vs.map (·.1)=ks.map Sum.inl:=by rw [← KV.keys kv]; exact hks
 have hlv:vs.length=ks.length:=by have:=congrArg List.length hkeys; simpa using this
 refine sorted_src (ns:=ks) (PySem.W.kdl_dict (ep:=ep) lo) (I.ok.hd hc) hm (by omega) (fun us hl h=>keys_ints hkeys us hl h) fun h' tk D e out ns' hD hk he a1 a2 a3=>?_
 have hv:=jT a1
 have hpl:=a2.length_eq
 have h24:=sizeLine_eq
 refine⟨.ref D,upd H D (.lst (ns'.map V.int)),I.laid (fun b o eb=>hk b o eb) hD ⟨?_,out.toList,e,hv,by simpa using he⟩,rfl,q _ _ (I.hok.fresh hD) a2 a3⟩
 rw [List.length_map]
 omega
end
section
variable {X:Cx}
noncomputable def iD (l:List Int):PyData:=.list (l.map PyData.int)
theorem lay_iD:∀ l:List Int,PyData.canLayAll0 (l.map PyData.int)=true
 | []=>rfl
 | t::ts=>by
  show (PyData.canLay0 (PyData.int t)&&PyData.canLayAll0 (ts.map PyData.int))=true
  rw [lay_iD ts]
  rfl
theorem eqv_iD:∀ ts us:List Int,PyData.eqvAll (ts.map PyData.int) (us.map PyData.int)=decide (ts=us)
 | [],[]=>rfl
 | [],_::_=>rfl
 | _::_,[]=>rfl
 | t::ts,u::us=>by
  show ((t == u)&&PyData.eqvAll (ts.map PyData.int) (us.map PyData.int))=_
  rw [eqv_iD ts us,Bool.eq_iff_iff]
  simp
inductive DatL (K:PySem.W.Frag) (H:Hp):V->PyData->Prop
 | flt {a:Addr}{l:List Int}:SqL K H a (l.map V.int)->DatL K H (.ref a) (iD l)
 | lists {a:Addr}{as:List Addr}{ls:List (List Int)}:SqL K H a (as.map V.ref)->Paired (fun (a:Addr) (l:List Int)=>SqL K H a (l.map V.int)) as ls->DatL K H (.ref a) (.list (ls.map iD))
theorem eqv_ints (ts us:List Int):PyData.eqv (iD ts) (iD us)=decide (ts=us):=eqv_iD ts us
end
noncomputable def CX1 (P:Program) (w:World):CXT:=fun outer H s E e s'=>∃ (a:Addr) (cls a0:Value) (H1:Hp) (hb:Heap),e=.ref a/\s'.os=s.os/\AllBare s'.gens/\Un (frs outer) [] H H1 s.heap s'.heap/\HOk P w H1 hb/\hb.FlyingW outer a cls a0 s'.heap /\
 (∀ b o,s.heap.get? b=some o->H b=none->b∉frs outer->hb.get? b=some o)/\(∀ b o,s.heap.get? b=some o->b∉frs outer->∃ o',hb.get? b=some o')/\E cls none H1
structure Lets (X:Cx) (E:XK):Prop where
 xe:∀ e s',wpAny (model X.prog X.w) X.A (leaving X.env e) (fun _ s''=>CX1 X.prog X.w X.outer X.H₀ X.s₀ E e s'') (fun e' s''=>CX1 X.prog X.w X.outer X.H₀ X.s₀ E e' s'') s'->X.xe e s'
 stk:X.stack=X.env::X.outer
 fr:X.env.frame=some X.env.locals
 ex:X.ex=[]
section
variable {X:Cx}{pins:List (Addr×Obj)}{σ:St}{H H1:Hp}{s:Shared}{E:XK}
end
structure ExcCls (K:PySem.W.Frag) (C:Addr) (newId:String) (bmB:List Value):Prop where
 ex:∃ (nm q:Str) (N:Addr) (bs bm:List Value) (hdct:Bool) (sn:List Str) (sub:List Value) (ab:Bool) (col:Option Bool) (dd:Option Addr) (k0 k1 k2 k3 k5:Option Value),
  K.lookup C=some (excClassObj nm q C N bs bm hdct sn sub ab col dd k0 k1 k2 k3 k5 newId)/\PySem.W.tailIn K bmB bm=true/\PySem.W.nsOkIn K N=true/\PySem.W.nsIn K N "__init__"=some none/\bm.contains (.type "BaseException")=true
section
variable {X:Cx}{E:XK}{x:Str}{C:Addr}{newId Bn initId:String}{bmB:List Value}{e:Expr}{es:List Expr}{t:TA}{np cpos pos:Pos}
end
section
variable {X:Cx}{pins:List (Addr×Obj)}{σ:St}{H:Hp}{s:Shared}{ev:Value}
end
section
variable {X:Cx}{k:Nat}{f CF:Addr}{fd:FuncData}{ps:List Str}{sp:Sp}{E:XK}{x hx n:Str}{p np cpos epos hpos pos:Pos}{e:Expr}{es:List Expr}{t:TA}{b₀:Stmt}{suite:List Stmt}{ts:TS}{j:Nat}
end
end L2
namespace L2
open PySem PySem.W PySem.Spec PyProof.Rows
structure ExcK (K:PySem.W.Frag) (C:Addr):Prop where
 ex:∃ (nm q:Str) (N AF:Addr) (bs bmB:List Value) (hdct:Bool) (sn:List Str) (sub:List Value) (ab:Bool) (col:Option Bool) (dd ddF:Option Addr) (k0 k1 k2 k3 k5:Option Value) (newId B:String) (c0:Value) (cd:ClassData) (slF:Array (Option Value)),
  K.lookup C=some (excClassObj nm q C N bs (.ref AF::bmB) hdct sn sub ab col dd k0 k1 k2 k3 k5 newId)/\K.lookup AF=some ⟨c0,ddF,.cls cd,slF⟩/\nsOkIn K cd.ns=true/\(∀ n∈quietNames,nsIn K cd.ns n=some none)/\ExcAttrBase B bmB
 ga:findIn K (.ref C) "__getattribute__"=some (some (.builtin "BaseException.__getattribute__"))
 hook:findIn K (.ref C) "__getattr__"=some none
 cls:findIn K (.ref C) "__class__"=some (some (.builtin "object.__class__"))
 mro:mroIn K C (.type "object")=some true
section
variable {prog:Program}{w:World}{K:PySem.W.Frag}{a C:Addr}{A:Around}{E:Value->Shared->Prop}{s:Shared}
end
section
variable {X:Cx}
noncomputable def rCatS:R2:=fun x y H Q=>∃ a b xs ys,x=.ref a/\y=.ref b/\H a=some (.tup xs)/\H b=some (.tup ys)/\xs.length+ys.length<=sizeLine/\∀ c H',(∀ d u,H d=some u->H' d=some u)->H' c=some (.tup (xs++ys))->Q (.ref c) H'
theorem op_catS:OpR X (binaryOp .Add) rCatS:=by
 intro pins s σ H x y v u Q I rx ry h
 obtain⟨a,b,xs,ys,rfl,rfl,ha,hb,hz,q⟩:=h
 cases rx
 cases ry
 obtain⟨its,r1,p1,_⟩:=I.tuple (SqT.of ha)
 obtain⟨its2,r2,p2,_⟩:=I.tuple (SqT.of hb)
 by_cases hx:xs=[]
 ·subst hx
  cases r1
  obtain⟨m,F⟩:=I.fr
  refine add_tuples (vs:=[]) F news_all p1 p2 (fun _=>⟨.ref b,H,I,rfl,q b H (fun _ _ z=>z) (by simpa using hb)⟩) (fun z=>absurd rfl z) (fun z=>absurd rfl z) (by rw [← r2.length]; simpa using hz)
 ·refine op_catT pins s σ H (.ref a) (.ref b) (.ref a) (.ref b) Q I rfl rfl ⟨a,b,xs,ys,rfl,rfl,SqT.of ha,SqT.of hb,hx,hz,fun e=>?_,fun _ p hp=>?_⟩
  ·subst e
   exact q a H (fun _ _ z=>z) (by rw [List.append_nil]; exact ha)
  ·exact q p _ (fun d u z=>by rw [aA (aH z hp)]; exact z) aF
end
section
variable {K:PySem.W.Frag}{C c:Addr}{dd:Option Addr}{cd:ClassData}{sl:Array (Option Value)}
end
end L2
namespace Dl
open PySem L2 PyProof.Rows
noncomputable abbrev D:=PyData
noncomputable def kD:Key->D
 | .inl i=>.int i
 | .inr x=>.str x
mutual
inductive Rp (ok:Addr->Prop) (H:Hp):V->D->Prop
 | non:Rp ok H .non .none
 | bl (b:Bool):Rp ok H (.bl b) (.bool b)
 | int (i:Int):Rp ok H (.int i) (.int i)
 | str (x:Str):Rp ok H (.str x) (.str x)
 | lst {a:Addr}{vs:List V}{ds:List D} (o:ok a) (h:H a=some (.lst vs)) (r:Rps ok H vs ds):Rp ok H (.ref a) (.list ds)
 | tup {a:Addr}{vs:List V}{ds:List D} (h:H a=some (.tup vs)) (r:Rps ok H vs ds):Rp ok H (.ref a) (.tuple ds)
 | dct {a:Addr}{kvs:List (Key×V)}{ds:List (D×D)} (o:ok a) (h:H a=some (.dK kvs)) (r:Rkv ok H kvs ds):Rp ok H (.ref a) (.dict ds)
inductive Rps (ok:Addr->Prop) (H:Hp):List V->List D->Prop
 | nil:Rps ok H [] []
 | cons {v:V}{d:D}{vs:List V}{ds:List D} (h:Rp ok H v d) (t:Rps ok H vs ds):Rps ok H (v::vs) (d::ds)
inductive Rkv (ok:Addr->Prop) (H:Hp):List (Key×V)->List (D×D)->Prop
 | nil:Rkv ok H [] []
 | cons {k:Key}{v:V}{d:D}{vs:List (Key×V)}{ds:List (D×D)} (h:Rp ok H v d) (t:Rkv ok H vs ds):Rkv ok H ((k,v)::vs) ((kD k,d)::ds)
end
section
variable {ok ok':Addr->Prop}{H H':Hp}
mutual
theorem Rp.mono (f:∀ a,ok a->ok' a) (g:∀ a o,ok a->H a=some o->H' a=some o) (t:∀ a xs,H a=some (.tup xs)->H' a=some (.tup xs)):∀ {v:V}{d:D},Rp ok H v d->Rp ok' H' v d
 | _,_,.non=>.non
 | _,_,.bl b=>.bl b
 | _,_,.int i=>.int i
 | _,_,.str x=>.str x
 | _,_,.lst o h r=>.lst (f _ o) (g _ _ o h) (Rps.mono f g t r)
 | _,_,.tup h r=>.tup (t _ _ h) (Rps.mono f g t r)
 | _,_,.dct o h r=>.dct (f _ o) (g _ _ o h) (Rkv.mono f g t r)
theorem Rps.mono (f:∀ a,ok a->ok' a) (g:∀ a o,ok a->H a=some o->H' a=some o) (t:∀ a xs,H a=some (.tup xs)->H' a=some (.tup xs)):∀ {v:List V}{d:List D},Rps ok H v d->Rps ok' H' v d
 | _,_,.nil=>.nil
 | _,_,.cons h r=>.cons (Rp.mono f g t h) (Rps.mono f g t r)
theorem Rkv.mono (f:∀ a,ok a->ok' a) (g:∀ a o,ok a->H a=some o->H' a=some o) (t:∀ a xs,H a=some (.tup xs)->H' a=some (.tup xs)):∀ {v:List (Key×V)}{d:List (D×D)},Rkv ok H v d->Rkv ok' H' v d
 | _,_,.nil=>.nil
 | _,_,.cons h r=>.cons (Rp.mono f g t h) (Rkv.mono f g t r)
end
theorem Rps.length:∀ {vs:List V}{ds:List D},Rps ok H vs ds->vs.length=ds.length
 | _,_,.nil=>rfl
 | _,_,.cons _ t=>by rw [List.length_cons,List.length_cons,Rps.length t]
theorem Rps.get:∀ {vs:List V}{ds:List D}{i:Nat}{v:V},Rps ok H vs ds->vs[i]?=some v->∃ d,ds[i]?=some d/\Rp ok H v d
 | _,_,i,v,.nil,e=>by simp at e
 | _,_,0,v,.cons h t,e=>by simp at e; subst e; exact⟨_,rfl,h⟩
 | _,_,i+1,v,.cons h t,e=>by
  obtain⟨d,a,b⟩:=Rps.get (i:=i) (v:=v) t (by simpa using e)
  exact⟨d,by simpa using a,b⟩
theorem Rps.getD:∀ {vs:List V}{ds:List D}{i:Nat}{d:D},Rps ok H vs ds->ds[i]?=some d->∃ v,vs[i]?=some v/\Rp ok H v d
 | _,_,i,v,.nil,e=>by simp at e
 | _,_,0,v,.cons h t,e=>by simp at e; subst e; exact⟨_,rfl,h⟩
 | _,_,i+1,v,.cons h t,e=>by
  obtain⟨d,a,b⟩:=Rps.getD (i:=i) (d:=v) t (by simpa using e)
  exact⟨d,by simpa using a,b⟩
theorem Rps.app:∀ {vs ws:List V}{ds es:List D},Rps ok H vs ds->Rps ok H ws es->Rps ok H (vs++ws) (ds++es)
 | _,_,_,_,.nil,s=>s
 | _,_,_,_,.cons h t,s=>.cons h (Rps.app t s)
theorem Rps.snoc {vs:List V}{ds:List D}{v:V}{d:D} (h:Rps ok H vs ds) (r:Rp ok H v d):Rps ok H (vs++[v]) (ds++[d]):=h.app (.cons r .nil)
theorem Rps.take:∀ {vs:List V}{ds:List D} (n:Nat),Rps ok H vs ds->Rps ok H (vs.take n) (ds.take n)
 | _,_,0,_=>by simp; exact .nil
 | _,_,_+1,.nil=>by simp; exact .nil
 | _,_,n+1,.cons r t=>.cons r (Rps.take n t)
theorem Rps.drop:∀ {vs:List V}{ds:List D} (n:Nat),Rps ok H vs ds->Rps ok H (vs.drop n) (ds.drop n)
 | _,_,0,r=>r
 | _,_,_+1,.nil=>by simp; exact .nil
 | _,_,n+1,.cons _ t=>Rps.drop n t
theorem Rps.ofMap {α:Type}{f:α->V}{g:α->D} (h:∀ x,Rp ok H (f x) (g x)):∀ l:List α,Rps ok H (l.map f) (l.map g)
 | []=>.nil
 | x::l=>.cons (h x) (Rps.ofMap h l)
theorem Rp.int' {v:V}{i:Int} (r:Rp ok H v (.int i)):v=.int i:=by cases r; rfl
theorem Rp.bl' {v:V}{i:Bool} (r:Rp ok H v (.bool i)):v=.bl i:=by cases r; rfl
theorem Rp.str' {v:V}{i:Str} (r:Rp ok H v (.str i)):v=.str i:=by cases r; rfl
theorem Rp.dZ {v:V}{ds:List D} (r:Rp ok H v (.list ds)):∃ a vs,v=.ref a/\ok a/\H a=some (.lst vs)/\Rps ok H vs ds:=by
 cases r with
 | lst o h r=>exact⟨_,_,rfl,o,h,r⟩
theorem Rp.eY {v:V}{ds:List D} (r:Rp ok H v (.tuple ds)):∃ a vs,v=.ref a/\H a=some (.tup vs)/\Rps ok H vs ds:=by
 cases r with
 | tup h r=>exact⟨_,_,rfl,h,r⟩
theorem Rps.ints:∀ {vs:List V}{ns:List Int},Rps ok H vs (ns.map PyData.int)->vs=ns.map V.int
 | [],[],_=>rfl
 | _,n::ns,.cons h t=>by
  have e:=h.int'
  subst e
  rw [Rps.ints t]
  rfl
theorem Rps.two {vs:List V}{d e:D} (r:Rps ok H vs [d,e]):∃ v w,vs=[v,w]/\Rp ok H v d/\Rp ok H w e:=by
 cases r with
 | cons h t =>
  cases t with
  | cons h2 t2 =>
   cases t2
   exact⟨_,_,rfl,h,h2⟩
end
mutual
noncomputable def fQ:D->Bool
 | .none=>true
 | .bool _=>true
 | .int _=>true
 | .str _=>true
 | .list _=>false
 | .tuple ds=>gk ds
 | .dict _=>false
noncomputable def gk:List D->Bool
 | []=>true
 | d::ds=>fQ d&&gk ds
end
section
variable {ok:Addr->Prop}{H:Hp}
mutual
theorem Rp.imm:∀ {v:V}{d:D},Rp ok H v d->fQ d=true->Rp (fun _=>False) H v d
 | _,_,.non,_=>.non
 | _,_,.bl b,_=>.bl b
 | _,_,.int i,_=>.int i
 | _,_,.str x,_=>.str x
 | _,_,.tup h r,e=>.tup h (Rps.imm r e)
theorem Rps.imm:∀ {v:List V}{d:List D},Rps ok H v d->gk d=true->Rps (fun _=>False) H v d
 | _,_,.nil,_=>.nil
 | _,_,.cons h r,e=>.cons (Rp.imm h (by simp only [gk,Bool.and_eq_true] at e; exact e.1)) (Rps.imm r (by simp only [gk,Bool.and_eq_true] at e; exact e.2))
end
end
structure Pn where
 fp:Addr->Prop
 PI:Hp->Prop
 pv:V
 mono:∀ H H',PI H->(∀ b o,fp b->H b=some o->H' b=some o)->PI H'
 is:∀ H b,PI H->fp b->∃ o,H b=some o/\∀ xs,o≠.tup xs
class Gr where
 G:Pn->Hp->Prop
instance (priority:=low) grT:Gr:=⟨fun _ _=>True⟩
noncomputable def noPen:Pn:=⟨fun _=>False,fun _=>True,.non,fun _ _ _ _=>trivial,fun _ _ _ h=>h.elim⟩
noncomputable def Kp (p:Pn) (H H':Hp):Prop:=∀ b o,H b=some o->¬ p.fp b->H' b=some o
theorem Kp.refl {p:Pn}{H:Hp}:Kp p H H:=fun _ _ h _=>h
theorem Kp.trans {p:Pn}{H H1 H2:Hp} (a:Kp p H H1) (b:Kp p H1 H2):Kp p H H2:=fun c o h n=>b c o (a c o h n) n
theorem Kp.of {p:Pn}{H H':Hp} (s:Same H H'):Kp p H H':=fun b o h _=>s b o h
inductive Sl where
 | any
 | im (d:D)
 | sh (d:D)
 | sn (d:D)
 | dw (r:Nat) (d:D)
 | pen (C:Pn->Prop)
 | rw (r:Nat) (L:List (List D))
 | tw (r:Nat) (L:List (List D))
 | scr (v:V) (b:Bool)
 | sp (r:Nat) (b:Bool) (ds:List D)
inductive Kd where
 | imm | new | reg (r:Nat) | n0 | snw | shr | wk
 deriving DecidableEq
noncomputable def Kd.le:Kd->Kd->Bool
 | .imm,_=>true
 | .new,.new=>true
 | .new,.n0=>true
 | .new,.snw=>true
 | .new,.shr=>true
 | .new,.wk=>true
 | .reg r,.reg q=>r == q
 | .reg _,.n0=>true
 | .reg _,.wk=>true
 | .snw,.snw=>true
 | .snw,.n0=>true
 | .snw,.shr=>true
 | .snw,.wk=>true
 | .n0,.n0=>true
 | .n0,.wk=>true
 | .shr,.shr=>true
 | .shr,.wk=>true
 | .wk,.wk=>true
 | _,_=>false
noncomputable def Kd.join (a b:Kd):Kd:=if a.le b then b else if b.le a then a else if a.le .n0&&b.le .n0 then .n0 else if a.le .shr&&b.le .shr then .shr else .wk
noncomputable def norm (k:Kd) (d:D):Kd:=match k with
 | .imm=>.imm
 | k=>if fQ d then .imm else k
theorem dD {k:Kd}{d:D} (h:fQ d=true):norm k d=.imm:=by
 cases k <;> first
  | rfl
  | exact if_pos h
theorem gQ {k:Kd}{d:D} (h:¬ fQ d=true):norm k d=k:=by
 cases k <;> first
  | rfl
  | exact if_neg h
noncomputable def okK (p:Pn) (H0:Hp) (own:Addr->Option Nat) (Hb:Hp):Kd->Addr->Prop
 | .imm=>fun _=>False
 | .new=>fun a=>Hb a=none
 | .reg r=>fun a=>own a=some r
 | .n0=>fun a=>H0 a=none/\¬ p.fp a
 | .snw=>fun a=>H0 a=none/\¬ p.fp a/\own a=none
 | .shr=>fun a=>¬ p.fp a/\own a=none
 | .wk=>fun a=>¬ p.fp a
structure At (p:Pn) (H0:Hp) (own:Addr->Option Nat) (Hb H:Hp):Prop where
 k0:∀ b o,H0 b=some o->¬ p.fp b->Hb b=some o
 kp:Kp p Hb H
 penb:p.PI Hb
 pen:p.PI H
 ow:∀ a r,own a=some r->H0 a=none/\¬ p.fp a/\Hb a≠none
section
variable {p:Pn}{H0 Hb H H':Hp}{own:Addr->Option Nat}
theorem At.nfp (A:At p H0 own Hb H) {a:Addr} (h:H a=none):¬ p.fp a:=fun z=>by
 obtain⟨o,e,_⟩:=p.is H a A.pen z
 rw [h] at e
 cases e
theorem At.free (A:At p H0 own Hb H) {a:Addr} (h:H a=none):Hb a=none:=by
 have hn:=A.nfp h
 cases e:Hb a with
 | none=>rfl
 | some o=>rw [A.kp a o e hn] at h; cases h
theorem At.nfb (A:At p H0 own Hb H) {a:Addr} (h:Hb a=none):¬ p.fp a:=fun z=>by
 obtain⟨o,e,_⟩:=p.is Hb a A.penb z
 rw [h] at e
 cases e
theorem At.own0 (A:At p H0 own Hb H) {a:Addr} (h:Hb a=none):own a=none:=by
 cases e:own a with
 | none=>rfl
 | some r=>exact absurd h (A.ow a r e).2.2
theorem At.h0 (A:At p H0 own Hb H) {a:Addr} (h:Hb a=none):H0 a=none:=by
 cases e:H0 a with
 | none=>rfl
 | some o=>rw [A.k0 a o e (A.nfb h)] at h; cases h
theorem eF (A:At p H0 own Hb H) {j k:Kd} (h:j.le k=true) {a:Addr} (o:okK p H0 own Hb j a):okK p H0 own Hb k a:=by
 cases j with
 | imm=>exact False.elim o
 | new =>
  cases k with
  | imm=>cases h
  | new=>exact o
  | reg r=>cases h
  | n0=>exact⟨A.h0 o,A.nfb o⟩
  | snw=>exact⟨A.h0 o,A.nfb o,A.own0 o⟩
  | shr=>exact⟨A.nfb o,A.own0 o⟩
  | wk=>exact A.nfb o
 | reg r =>
  cases k with
  | reg q =>
   have e:r=q:=by simpa [Kd.le] using h
   subst e
   exact o
  | n0=>exact⟨(A.ow a r o).1,(A.ow a r o).2.1⟩
  | wk=>exact (A.ow a r o).2.1
  | _=>cases h
 | n0 =>
  cases k with
  | n0=>exact o
  | wk=>exact o.2
  | _=>cases h
 | snw =>
  cases k with
  | snw=>exact o
  | n0=>exact⟨o.1,o.2.1⟩
  | shr=>exact o.2
  | wk=>exact o.2.1
  | _=>cases h
 | shr =>
  cases k with
  | shr=>exact o
  | wk=>exact o.1
  | _=>cases h
 | wk =>
  cases k with
  | wk=>exact o
  | _=>cases h
theorem mL (A:At p H0 own Hb H) {k:Kd}{a:Addr} (o:okK p H0 own Hb k a):¬ p.fp a:=by
 have:k.le .wk=true:=by cases k <;> rfl
 exact eF A this o
theorem kY (A:At p H0 own Hb H) {j k:Kd} (h:j.le k=true) {v:V}{d:D}{H2:Hp} (r:Rp (okK p H0 own Hb j) H2 v d):Rp (okK p H0 own Hb k) H2 v d :=
 r.mono (fun a o=>eF A h o) (fun _ _ _ e=>e) fun _ _ e=>e
theorem iT (a b:Kd):a.le (a.join b)=true/\b.le (a.join b)=true:=by
 unfold Kd.join
 by_cases h:a.le b=true
 ·rw [if_pos h]; exact⟨h,by cases b <;> simp [Kd.le]⟩
 ·rw [if_neg h]
  by_cases h2:b.le a=true
  ·rw [if_pos h2]; exact⟨by cases a <;> simp [Kd.le],h2⟩
  ·rw [if_neg h2]
   by_cases h3:(a.le .n0&&b.le .n0)=true
   ·rw [if_pos h3]; exact Bool.and_eq_true _ _ ▸ h3
   ·rw [if_neg h3]
    by_cases h4:(a.le .shr&&b.le .shr)=true
    ·rw [if_pos h4]; exact Bool.and_eq_true _ _ ▸ h4
    ·rw [if_neg h4]; exact⟨by cases a <;> rfl,by cases b <;> rfl⟩
theorem bU {k:Kd}{v:V}{d:D}{H2:Hp} (r:Rp (okK p H0 own Hb k) H2 v d):Rp (okK p H0 own Hb (norm k d)) H2 v d:=by
 by_cases h:fQ d=true
 ·rw [dD h]; exact r.imm h
 ·rw [gQ h]; exact r
theorem iW (A:At p H0 own Hb H) (k:Kp p H H'):∀ a xs,H a=some (.tup xs)->H' a=some (.tup xs):=fun a xs h=>k a _ h fun z=>by
 obtain⟨o,e,n⟩:=p.is H a A.pen z
 rw [h] at e
 exact n xs (Option.some.inj e).symm
theorem rp_go (A:At p H0 own Hb H) (k:Kp p H H') {j:Kd}{v:V}{d:D} (r:Rp (okK p H0 own Hb j) H v d):Rp (okK p H0 own Hb j) H' v d :=
 r.mono (fun _ o=>o) (fun a o h e=>k a o e (mL A h)) (iW A k)
theorem dO (A:At p H0 own Hb H) (k:Kp p H H') {j:Kd}{v:List V}{d:List D} (r:Rps (okK p H0 own Hb j) H v d):Rps (okK p H0 own Hb j) H' v d :=
 r.mono (fun _ o=>o) (fun a o h e=>k a o e (mL A h)) (iW A k)
theorem At.go (A:At p H0 own Hb H) (k:Kp p H H') (i:p.PI H'):At p H0 own Hb H':=⟨A.k0,A.kp.trans k,A.penb,i,A.ow⟩
theorem At.base {H1:Hp} (A:At p H0 own Hb H) (B:At p H0 own H H1):At p H0 own Hb H1:=⟨A.k0,A.kp.trans B.kp,A.penb,B.pen,A.ow⟩
theorem okK_base (A:At p H0 own Hb H) {k:Kd}{a:Addr} (o:okK p H0 own H k a):okK p H0 own Hb k a:=by
 cases k <;> first
  | exact o
  | exact A.free o
theorem lX (A:At p H0 own Hb H) {k:Kd}{v:V}{d:D}{H2:Hp} (r:Rp (okK p H0 own H k) H2 v d):Rp (okK p H0 own Hb k) H2 v d :=
 r.mono (fun a o=>okK_base A o) (fun _ _ _ e=>e) fun _ _ e=>e
theorem At.new (A:At p H0 own Hb H) {a:Addr} (h:H a=none) (o:HO):Kp p H (upd H a o)/\p.PI (upd H a o)/\okK p H0 own Hb .new a :=
 have s:Same H (upd H a o):=fun b u q=>by rw [aA (aH q h)]; exact q
 ⟨Kp.of s,p.mono H _ A.pen fun b u _ q=>s b u q,A.free h⟩
end
structure RowsH (own:Addr->Option Nat) (r:Nat) (H:Hp) (st:Addr) (as:List Addr) (L:List (List D)):Prop where
 top:H st=some (.lst (as.map V.ref))
 nd:(st::as).Nodup
 ow:∀ a∈st::as,own a=some r
 len:as.length=L.length
 row:∀ (j:Nat) (a:Addr) (ds:List D),as[j]?=some a->L[j]?=some ds->∃ vs,H a=some (.lst vs)/\Rps (fun _=>False) H vs ds
theorem RowsH.mono {own own':Addr->Option Nat}{r:Nat}{H H':Hp}{st:Addr}{as:List Addr}{L:List (List D)} (h:RowsH own r H st as L) (g:∀ a o,own a=some r->H a=some o->own' a=some r/\H' a=some o) (t:∀ a xs,H a=some (.tup xs)->H' a=some (.tup xs)):RowsH own' r H' st as L:=by
 have live:∀ a∈st::as,∃ o,H a=some o:=fun a ha=>by
  rcases List.mem_cons.mp ha with rfl | ha
  ·exact⟨_,h.top⟩
  ·obtain⟨j,hj⟩:=List.getElem?_of_mem ha
   have hl:=(List.getElem?_eq_some_iff.mp hj).1
   obtain⟨vs,e,_⟩:=h.row j a _ hj (List.getElem?_eq_getElem (by rw [← h.len]; exact hl))
   exact⟨_,e⟩
 refine⟨(g st _ (h.ow st List.mem_cons_self) h.top).2,h.nd,fun a ha=>?_,h.len,fun j a ds e1 e2=>?_⟩
 ·obtain⟨o,e⟩:=live a ha
  exact (g a o (h.ow a ha) e).1
 ·obtain⟨vs,e,r'⟩:=h.row j a ds e1 e2
  exact⟨vs,(g a _ (h.ow a (List.mem_cons_of_mem _ (List.mem_of_getElem? e1))) e).2,r'.mono (fun _ o=>o) (fun _ _ o=>o.elim) t⟩
theorem rps_rowsH {ok:Addr->Prop}{H:Hp}:∀ (as:List Addr) (L:List (List D)),as.length=L.length->(∀ a∈as,ok a)->(∀ (j:Nat) (a:Addr) (ds:List D),as[j]?=some a->L[j]?=some ds->∃ vs,H a=some (.lst vs)/\Rps (fun _=>False) H vs ds)->Rps ok H (as.map V.ref) (L.map PyData.list)
 | [],[],_,_,_=>.nil
 | a::as,d::L,hl,h,r=>by
  obtain⟨vs,e,rs⟩:=r 0 a d rfl rfl
  exact .cons (.lst (h a List.mem_cons_self) e (rs.mono (fun _ o=>o.elim) (fun _ _ o=>o.elim) fun _ _ e=>e)) (rps_rowsH as L (by simpa using hl) (fun b hb=>h b (List.mem_cons_of_mem _ hb)) fun j b ds e1 e2=>r (j+1) b ds e1 e2)
 | [],_::_,hl,_,_=>by cases hl
 | _::_,[],hl,_,_=>by cases hl
theorem RowsH.rp {own:Addr->Option Nat}{r:Nat}{H:Hp}{st:Addr}{as:List Addr}{L:List (List D)} (h:RowsH own r H st as L):Rp (fun a=>own a=some r) H (.ref st) (.list (L.map PyData.list)) :=
 .lst (h.ow st List.mem_cons_self) h.top (rps_rowsH as L h.len (fun a ha=>h.ow a (List.mem_cons_of_mem _ ha)) h.row)
structure RowsT (own:Addr->Option Nat) (r:Nat) (H:Hp) (st:Addr) (as:List Addr) (L:List (List D)):Prop where
 top:H st=some (.tup (as.map V.ref))
 nd:as.Nodup
 ow:∀ a∈as,own a=some r
 len:as.length=L.length
 row:∀ (j:Nat) (a:Addr) (ds:List D),as[j]?=some a->L[j]?=some ds->∃ vs,H a=some (.lst vs)/\Rps (fun _=>False) H vs ds
theorem RowsT.mono {own own':Addr->Option Nat}{r:Nat}{H H':Hp}{st:Addr}{as:List Addr}{L:List (List D)} (h:RowsT own r H st as L) (g:∀ a o,own a=some r->H a=some o->own' a=some r/\H' a=some o) (t:∀ a xs,H a=some (.tup xs)->H' a=some (.tup xs)):RowsT own' r H' st as L:=by
 refine⟨t st _ h.top,h.nd,fun a ha=>?_,h.len,fun j a ds e1 e2=>?_⟩
 ·obtain⟨j,hj⟩:=List.getElem?_of_mem ha
  have hl:=(List.getElem?_eq_some_iff.mp hj).1
  obtain⟨vs,e,_⟩:=h.row j a _ hj (List.getElem?_eq_getElem (by rw [← h.len]; exact hl))
  exact (g a _ (h.ow a ha) e).1
 ·obtain⟨vs,e,r'⟩:=h.row j a ds e1 e2
  exact⟨vs,(g a _ (h.ow a (List.mem_of_getElem? e1)) e).2,r'.mono (fun _ o=>o) (fun _ _ o=>o.elim) t⟩
theorem RowsT.rp {own:Addr->Option Nat}{r:Nat}{H:Hp}{st:Addr}{as:List Addr}{L:List (List D)} (h:RowsT own r H st as L):Rp (fun a=>own a=some r) H (.ref st) (.tuple (L.map PyData.list)) :=
 .tup h.top (rps_rowsH as L h.len h.ow h.row)
noncomputable def okS (p:Pn) (H0:Hp) (own:Addr->Option Nat) (b:Bool) (a:Addr):Prop:=(b=true->H0 a=none)/\¬ p.fp a/\own a=none
noncomputable def jQ (p:Pn) (H0:Hp) (own:Addr->Option Nat) (σ:L2.St) (H:Hp) (i:Nat):Sl->Prop
 | .any=>True
 | .im d=>∃ v,σ[i]?=some (some v)/\Rp (fun _=>False) H v d
 | .sh d=>∃ v,σ[i]?=some (some v)/\Rp (fun a=>¬ p.fp a/\own a=none) H v d
 | .sn d=>∃ v,σ[i]?=some (some v)/\Rp (fun a=>H0 a=none/\¬ p.fp a/\own a=none) H v d
 | .dw r d=>∃ v,σ[i]?=some (some v)/\Rp (fun a=>own a=some r) H v d
 | .pen C=>σ[i]?=some (some p.pv)/\C p
 | .rw r L=>∃ st as,σ[i]?=some (some (.ref st))/\RowsH own r H st as L
 | .tw r L=>∃ st as,σ[i]?=some (some (.ref st))/\RowsT own r H st as L
 | .scr v b=>σ[i]?=some (some v)/\(b=true->p=noPen)
 | .sp r b ds=>∃ l vs,σ[i]?=some (some (.ref l))/\own l=some r/\H l=some (.lst vs)/\Rps (okS p H0 own b) H vs ds
structure EnvD [Gr] (p:Pn) (H0:Hp) (own:Addr->Option Nat) (σ:L2.St) (H:Hp) (ρ:List Sl):Prop where
 k0:∀ b o,H0 b=some o->¬ p.fp b->H b=some o
 pen:p.PI H
 ow:∀ a r,own a=some r->H0 a=none/\¬ p.fp a/\H a≠none
 slot:∀ i s,ρ[i]?=some s->jQ p H0 own σ H i s
 len:ρ.length=σ.length
 gr:Gr.G p H0
variable [Gr]
section
variable {p:Pn}{H0 H H':Hp}{own:Addr->Option Nat}{σ:L2.St}{ρ:List Sl}
theorem EnvD.at (E:EnvD p H0 own σ H ρ):At p H0 own H H:=⟨E.k0,Kp.refl,E.pen,E.pen,E.ow⟩
theorem EnvD.go (E:EnvD p H0 own σ H ρ) (k:Kp p H H') (i:p.PI H'):EnvD p H0 own σ H' ρ:=by
 have A:=E.at
 have tp:=iW A k
 refine⟨fun b o e n=>k b o (E.k0 b o e n) n,i,fun a r e=>?_,fun j s e=>?_,E.len,E.gr⟩
 ·obtain⟨h1,h2,h3⟩:=E.ow a r e
  refine⟨h1,h2,fun z=>?_⟩
  cases q:H a with
  | none=>exact h3 q
  | some o=>rw [k a o q h2] at z; cases z
 ·have q:=E.slot j s e
  cases s with
  | any=>trivial
  | im d=>exact let ⟨v,a,b⟩:=q; ⟨v,a,b.mono (fun _ o=>o) (fun _ _ o=>o.elim) tp⟩
  | sh d=>exact let ⟨v,a,b⟩:=q; ⟨v,a,b.mono (fun _ o=>o) (fun c u o e=>k c u e o.1) tp⟩
  | sn d=>exact let ⟨v,a,b⟩:=q; ⟨v,a,b.mono (fun _ o=>o) (fun c u o e=>k c u e o.2.1) tp⟩
  | dw r d=>exact let ⟨v,a,b⟩:=q; ⟨v,a,b.mono (fun _ o=>o) (fun c u o e=>k c u e (E.ow c r o).2.1) tp⟩
  | pen C=>exact q
  | rw r L=>exact let ⟨st,as,a,b⟩:=q; ⟨st,as,a,b.mono (fun c u o e=>⟨o,k c u e (E.ow c r o).2.1⟩) tp⟩
  | tw r L=>exact let ⟨st,as,a,b⟩:=q; ⟨st,as,a,b.mono (fun c u o e=>⟨o,k c u e (E.ow c r o).2.1⟩) tp⟩
  | scr v b=>exact q
  | sp r b ds=>exact let ⟨l,vs,a,o,h,z⟩:=q; ⟨l,vs,a,o,k l _ h (E.ow l r o).2.1,z.mono (fun _ o=>o) (fun c u o e=>k c u e o.2.1) tp⟩
end
noncomputable abbrev DK:=Kd->D->Prop
noncomputable abbrev DE:=List Sl->DK->Prop
noncomputable def bM (t:DE):TE:=fun σ H Q=>∃ p H0 own ρ P,EnvD p H0 own σ H ρ/\t ρ P/\∀ k d v H',P k d->At p H0 own H H'->Rp (okK p H0 own H k) H' v d->Q v H'
noncomputable abbrev PD (X:Cx) (e:Expr) (t:DE):Prop:=PE X e (bM t)
noncomputable abbrev DA:=List Sl->(List (Kd×D)->Prop)->Prop
inductive RpK (p:Pn) (H0:Hp) (own:Addr->Option Nat) (Hb H:Hp):List V->List (Kd×D)->Prop
 | nil:RpK p H0 own Hb H [] []
 | cons {v:V}{kd:Kd×D}{vs:List V}{ks:List (Kd×D)} (h:Rp (okK p H0 own Hb kd.1) H v kd.2) (t:RpK p H0 own Hb H vs ks):RpK p H0 own Hb H (v::vs) (kd::ks)
noncomputable def liftA (t:DA):TA:=fun σ H Q=>∃ p H0 own ρ P,EnvD p H0 own σ H ρ/\t ρ P/\∀ ks vs H',P ks->At p H0 own H H'->RpK p H0 own H H' vs ks->Q vs H'
noncomputable abbrev PDA (X:Cx) (es:List Expr) (t:DA):Prop:=PA X es (liftA t)
noncomputable abbrev DT:=List Sl->(Bool->Prop)->Prop
noncomputable def liftT (t:DT):TT:=fun σ H Q=>∃ p H0 own ρ P,EnvD p H0 own σ H ρ/\t ρ P/\∀ b H',P b->At p H0 own H H'->Q b H'
noncomputable abbrev PDT (X:Cx) (e:Expr) (t:DT):Prop:=PT X e (liftT t)
theorem PE.wk {X:Cx}{e:Expr}{t t':TE} (h:PE X e t) (w:∀ σ H Q,t' σ H Q->t σ H Q):PE X e t':=fun pins s σ H Q I q=>h pins s σ H Q I (w σ H Q q)
theorem PT.wk {X:Cx}{e:Expr}{t t':TT} (h:PT X e t) (w:∀ σ H Q,t' σ H Q->t σ H Q):PT X e t':=fun pins s σ H Q I q=>h pins s σ H Q I (w σ H Q q)
theorem PA.wk {X:Cx}{e:List Expr}{t t':TA} (h:PA X e t) (w:∀ σ H Q,t' σ H Q->t σ H Q):PA X e t':=fun pos pins s σ H Q I q=>h pos pins s σ H Q I (w σ H Q q)
section
variable {X:Cx}{pos:Pos}{a b:Expr}{ta tb:DE}
theorem RpK.go {p:Pn}{H0 Hb H H':Hp}{own:Addr->Option Nat} (A:At p H0 own Hb H) (k:Kp p H H'):∀ {vs:List V}{ks:List (Kd×D)},RpK p H0 own Hb H vs ks->RpK p H0 own Hb H' vs ks
 | _,_,.nil=>.nil
 | _,_,.cons h t=>.cons (rp_go A k h) (RpK.go A k t)
theorem RpK.base {p:Pn}{H0 Hb H H':Hp}{own:Addr->Option Nat} (A:At p H0 own Hb H):∀ {vs:List V}{ks:List (Kd×D)},RpK p H0 own H H' vs ks->RpK p H0 own Hb H' vs ks
 | _,_,.nil=>.nil
 | _,_,.cons h t=>.cons (lX A h) (RpK.base A t)
noncomputable def tV (i:Nat):DE:=fun ρ P=>match ρ[i]? with
 | some (.im d)=>P .imm d
 | some (.sh d)=>P .shr d
 | some (.sn d)=>P .snw d
 | some (.dw r d)=>P (.reg r) d
 | some (.rw r L)=>P (.reg r) (.list (L.map PyData.list))
 | some (.tw r L)=>P (.reg r) (.tuple (L.map PyData.list))
 | some (.sp r b ds)=>P (if b=true then .n0 else .wk) (.list ds)
 | _=>False
theorem pd_var {i:Nat}{x:Str}{ps:Pos} (h:PE X (.Name x ps) (lg i)):PD X (.Name x ps) (tV i):=PE.wk h (by
 rintro σ H Q ⟨p,H0,own,ρ,P,E,t,q⟩
 unfold tV at t
 split at t
 ·rename_i d e; obtain⟨v,e1,r⟩:=E.slot i _ e; exact⟨v,e1,q _ _ _ _ t E.at r⟩
 ·rename_i d e; obtain⟨v,e1,r⟩:=E.slot i _ e; exact⟨v,e1,q _ _ _ _ t E.at r⟩
 ·rename_i d e; obtain⟨v,e1,r⟩:=E.slot i _ e; exact⟨v,e1,q _ _ _ _ t E.at r⟩
 ·rename_i d e; obtain⟨v,e1,r⟩:=E.slot i _ e; exact⟨v,e1,q _ _ _ _ t E.at r⟩
 ·rename_i r L e; obtain⟨st,as,e1,h⟩:=E.slot i _ e; exact⟨_,e1,q _ _ _ _ t E.at h.rp⟩
 ·rename_i r L e; obtain⟨st,as,e1,h⟩:=E.slot i _ e; exact⟨_,e1,q _ _ _ _ t E.at h.rp⟩
 ·rename_i r b ds e
  obtain⟨l,vs,e1,o,h,z⟩:=E.slot i _ e
  refine⟨_,e1,q _ _ _ _ t E.at ?_⟩
  cases b with
  | true=>exact .lst ⟨(E.ow l r o).1,(E.ow l r o).2.1⟩ h (z.mono (fun c n=>⟨n.1 rfl,n.2.1⟩) (fun _ _ _ e=>e) fun _ _ e=>e)
  | false=>exact .lst (E.ow l r o).2.1 h (z.mono (fun c n=>n.2.1) (fun _ _ _ e=>e) fun _ _ e=>e)
 ·exact t.elim)
noncomputable def tK (d:D):DE:=fun _ P=>P .imm d
theorem mJ {e:Expr}{v:V}{d:D} (h:PE X e (tC v)) (r:∀ H,Rp (fun _=>False) H v d):PD X e (tK d):=PE.wk h (by
 rintro σ H Q ⟨p,H0,own,ρ,P,E,t,q⟩
 exact q _ _ _ _ t E.at (r H))
theorem aq {i:Int}{j:Nat}:PD X (.Constant (.int i) j pos) (tK (.int i)):=mJ aV fun _=>.int i
theorem d7 {i:Bool}{j:Nat}:PD X (.Constant (.bool i) j pos) (tK (.bool i)):=mJ pe_bl fun _=>.bl i
theorem d9 {j:Nat}:PD X (.Constant .none j pos) (tK .none):=mJ pe_non fun _=>.non
theorem gA {x:Str}{j:Nat}:PD X (.Constant (.str x) j pos) (tK (.str x)):=mJ pe_str fun _=>.str x
noncomputable abbrev G2:=Kd->D->Kd->D->DK->Prop
noncomputable def t2 (g:G2) (ta tb:DE):DE:=fun ρ P=>ta ρ fun k1 d1=>tb ρ fun k2 d2=>g k1 d1 k2 d2 P
noncomputable def Ok2 (g:G2) (r:R2):Prop:=∀ p H0 own Hb H x y k1 d1 k2 d2 P Q,At p H0 own Hb H->Rp (okK p H0 own Hb k1) H x d1->Rp (okK p H0 own Hb k2) H y d2->g k1 d1 k2 d2 P ->
 (∀ k d v H',P k d->Kp p H H'->p.PI H'->Rp (okK p H0 own Hb k) H' v d->Q v H')->r x y H Q
theorem lift2 {g:G2}{r:R2} (ok:Ok2 g r):∀ σ H Q,bM (t2 g ta tb) σ H Q->tOp r (bM ta) (bM tb) σ H Q:=by
 rintro σ H Q ⟨p,H0,own,ρ,P,E,t,q⟩
 refine⟨p,H0,own,ρ,_,E,t,fun k1 d1 v1 H1 t1 A1 r1=>?_⟩
 have E1:=E.go A1.kp A1.pen
 refine⟨p,H0,own,ρ,_,E1,t1,fun k2 d2 v2 H2 t2 A2 r2=>?_⟩
 have A:At p H0 own H H2:=A1.base A2
 exact ok p H0 own H H2 v1 v2 k1 d1 k2 d2 P Q A (rp_go A1 A2.kp r1) (lX A1 r2) t2 fun k d v H' h k3 i3 r3=>q k d v H' h (A.go k3 i3) r3
theorem pd_op {op:Operator}{r:R2}{g:G2} (ho:OpR X (binaryOp op) r) (ok:Ok2 g r) (ha:PD X a ta) (hb:PD X b tb):PD X (.BinOp a op b pos) (t2 g ta tb):=PE.wk (cH ho ha hb) (lift2 ok)
theorem pd_cmp {op:CmpOp}{r:R2}{g:G2} (ho:OpR X (compareOp op) r) (ok:Ok2 g r) (ha:PD X a ta) (hb:PD X b tb) (hm:behindInMarks op b=false):PD X (.Compare a [op] [b] pos) (t2 g ta tb):=PE.wk (pe_cmpR ho ha hb hm) (lift2 ok)
noncomputable def dM (t:DE):DT:=fun ρ P=>t ρ fun _ d=>match d with
 | .bool b=>P b
 | _=>False
theorem lift_tst {t:DE}:∀ σ H Q,liftT (dM t) σ H Q->(bM t) σ H (fun x H'=>∃ k,x=.bl k/\Q k H'):=by
 rintro σ H Q ⟨p,H0,own,ρ,P,E,t,q⟩
 refine⟨p,H0,own,ρ,_,E,t,fun k d v H' h A r=>?_⟩
 cases d with
 | bool b=>exact⟨b,r.bl',q b H' h A⟩
 | _=>exact h.elim
theorem eV {op:CmpOp}{r:R2}{g:G2} (ho:OpR X (compareOp op) r) (ok:Ok2 g r) (ha:PD X a ta) (hb:PD X b tb) (hm:behindInMarks op b=false):PDT X (.Compare a [op] [b] pos) (dM (t2 g ta tb)) :=
 PT.wk (jX ho ha hb hm) fun σ H Q h=>lift2 ok σ H _ (lift_tst σ H Q h)
theorem bV {e:Expr}{t:DE} (h:PD X e t) (he:∀ whole,isTrue e X.env whole=(do let v ← whole; standAt e.pos; holding [v] (truthy v)):=by intro _; rfl):PDT X e (dM t) :=
 PT.wk (pt_val h he) fun σ H Q q=>lift_tst σ H Q q
noncomputable def dNot (t:DT):DT:=fun ρ P=>t ρ fun b=>P (!b)
theorem cu {t:DT} (ha:PDT X a t):PDT X (.UnaryOp .Not a pos) (dNot t):=PT.wk (pt_not ha) (by
 rintro σ H Q ⟨p,H0,own,ρ,P,E,t,q⟩
 exact⟨p,H0,own,ρ,_,E,t,fun b H' h A=>q _ H' h A⟩)
noncomputable abbrev PDW (X:Cx) (e:Expr) (t:DT):Prop:=PW X e (liftT t)
theorem PW.wk {X:Cx}{e:Expr}{t t':TT} (h:PW X e t) (w:∀ σ H Q,t' σ H Q->t σ H Q):PW X e t':=fun wh pins s σ H Q I q=>h wh pins s σ H Q I (w σ H Q q)
noncomputable def dAnd (t u:DT):DT:=fun ρ P=>t ρ fun b=>if b=true then u ρ P else P false
noncomputable def dOr (t u:DT):DT:=fun ρ P=>t ρ fun b=>if b=true then P true else u ρ P
section
variable {rest:List Expr}{t u:DT}
theorem ju (ha:PDT X a t):PDW X (.BoolOp .And [a] pos) t:=pw_and1 ha
theorem dR (ha:PDT X a t):PDW X (.BoolOp .Or [a] pos) t:=pw_or1 ha
theorem lift_and:∀ σ H Q,liftT (dAnd t u) σ H Q->tAnd (liftT t) (liftT u) σ H Q:=by
 rintro σ H Q ⟨p,H0,own,ρ,P,E,t,q⟩
 refine⟨p,H0,own,ρ,_,E,t,fun b H' h A=>?_⟩
 cases b with
 | true=>exact cD ⟨p,H0,own,ρ,P,E.go A.kp A.pen,by simpa using h,fun c H2 h2 A2=>q c H2 h2 (A.base A2)⟩
 | false=>exact bA (q false H' (by simpa using h) A)
theorem lift_or:∀ σ H Q,liftT (dOr t u) σ H Q->tOr (liftT t) (liftT u) σ H Q:=by
 rintro σ H Q ⟨p,H0,own,ρ,P,E,t,q⟩
 refine⟨p,H0,own,ρ,_,E,t,fun b H' h A=>?_⟩
 cases b with
 | true=>exact cD (q true H' (by simpa using h) A)
 | false=>exact bA ⟨p,H0,own,ρ,P,E.go A.kp A.pen,by simpa using h,fun c H2 h2 A2=>q c H2 h2 (A.base A2)⟩
theorem iG (ha:PDT X a t) (hb:PDW X (.BoolOp .And (b::rest) pos) u):PDW X (.BoolOp .And (a::b::rest) pos) (dAnd t u):=PW.wk (pw_and ha hb) lift_and
theorem cM (ha:PDT X a t) (hb:PDW X (.BoolOp .Or (b::rest) pos) u):PDW X (.BoolOp .Or (a::b::rest) pos) (dOr t u):=PW.wk (pw_or ha hb) lift_or
theorem PDW.pt {e:Expr}{t:DT} (h:PDW X e t):PDT X e t:=PW.pt h
end
end
variable [Gr]
section
variable {X:Cx}{pos:Pos}{a b e:Expr}{es:List Expr}{ta tb te:DE}{t:DA}
noncomputable def iZ:DA:=fun _ P=>P []
noncomputable def cL (te:DE) (t:DA):DA:=fun ρ P=>te ρ fun k d=>t ρ fun ks=>P ((k,d)::ks)
theorem ak:PDA X [] iZ:=PA.wk dG (by
 rintro σ H Q ⟨p,H0,own,ρ,P,E,t,q⟩
 exact q [] [] H t E.at .nil)
theorem aj (ha:PD X e te) (hr:PDA X es t) (hs:starEach (e::es) X.env=(false,eval e X.env)::starEach es X.env:=by rfl):PDA X (e::es) (cL te t):=PA.wk (bK ha hr hs) (by
 rintro σ H Q ⟨p,H0,own,ρ,P,E,t,q⟩
 refine⟨p,H0,own,ρ,_,E,t,fun k d v H1 h A r=>?_⟩
 refine⟨p,H0,own,ρ,_,E.go A.kp A.pen,h,fun ks vs H2 h2 A2 r2=>?_⟩
 exact q _ _ H2 h2 (A.base A2) (.cons (rp_go A A2.kp r) (RpK.base A r2)))
noncomputable def joins:List (Kd×D)->Kd
 | []=>.imm
 | kd::ks=>kd.1.join (joins ks)
theorem RpK.all {p:Pn}{H0 Hb H H2:Hp}{own:Addr->Option Nat} (A:At p H0 own Hb H):∀ {vs:List V}{ks:List (Kd×D)}{k:Kd},(joins ks).le k=true->RpK p H0 own Hb H2 vs ks->Rps (okK p H0 own Hb (joins ks)) H2 vs (ks.map (·.2))
 | _,_,_,_,.nil=>.nil
 | _,kd::ks,k,e,.cons h t=>by
  have j:=iT kd.1 (joins ks)
  exact .cons (kY A j.1 h) ((RpK.all A (k:=joins ks) (by cases joins ks <;> simp [Kd.le]) t).mono (fun a o=>eF A j.2 o) (fun _ _ _ e=>e) fun _ _ e=>e)
theorem Kd.le_refl (k:Kd):k.le k=true:=by cases k <;> simp [Kd.le]
theorem RpK.length {p:Pn}{H0 Hb H2:Hp}{own:Addr->Option Nat}:∀ {vs:List V}{ks:List (Kd×D)},RpK p H0 own Hb H2 vs ks->vs.length=ks.length
 | _,_,.nil=>rfl
 | _,_,.cons _ t=>by rw [List.length_cons,List.length_cons,RpK.length t]
noncomputable def tList (t:DA):DE:=fun ρ P=>t ρ fun ks=>ks.length<=1000/\P ((joins ks).join .new) (.list (ks.map (·.2)))
noncomputable def lq (t:DA):DE:=fun ρ P=>t ρ fun ks=>ks.length<=1000/\P (norm (joins ks) (.tuple (ks.map (·.2)))) (.tuple (ks.map (·.2)))
theorem aU (h:PDA X es t):PD X (.List es pos) (tList t):=PE.wk (pe_lst h) (by
 rintro σ H Q ⟨p,H0,own,ρ,P,E,t,q⟩
 refine⟨p,H0,own,ρ,_,E,t,fun ks vs H1 h A r=>?_⟩
 have h24:=sizeLine_eq
 have hl:=r.length
 refine⟨by have:=h.1; omega,fun l hl=>?_⟩
 obtain⟨k2,i2,nw⟩:=A.new hl (.lst vs)
 have j:=iT (joins ks) .new
 refine q _ _ _ _ h.2 (A.go k2 i2) (.lst (eF A j.2 nw) aF ?_)
 exact (dO A k2 (RpK.all A (Kd.le_refl _) r)).mono (fun a o=>eF A j.1 o) (fun _ _ _ e=>e) fun _ _ e=>e)
theorem aQ {x1} (h:PDA X es t):PD X (.Tuple es x1 pos) (lq t):=PE.wk (pe_tup h) (by
 rintro σ H Q ⟨p,H0,own,ρ,P,E,t,q⟩
 refine⟨p,H0,own,ρ,_,E,t,fun ks vs H1 h A r=>?_⟩
 have h24:=sizeLine_eq
 have hl:=r.length
 refine⟨by have:=h.1; omega,fun l hl=>?_⟩
 obtain⟨k2,i2,nw⟩:=A.new hl (.tup vs)
 exact q _ _ _ _ h.2 (A.go k2 i2) (bU (.tup aF (dO A k2 (RpK.all A (Kd.le_refl _) r)))))
noncomputable abbrev GC:=List (Kd×D)->DK->Prop
noncomputable def tCl (g:GC) (t:DA):DE:=fun ρ P=>t ρ fun ks=>g ks P
noncomputable def OkC (g:GC) (r:List V->Hp->VK->Prop):Prop:=∀ p H0 own Hb H vs ks P Q,At p H0 own Hb H->RpK p H0 own Hb H vs ks->g ks P ->
 (∀ k d v H',P k d->Kp p H H'->p.PI H'->Rp (okK p H0 own Hb k) H' v d->Q v H')->r vs H Q
theorem liftC {g:GC}{r:List V->Hp->VK->Prop} (ok:OkC g r):∀ σ H Q,bM (tCl g t) σ H Q->tCB r (liftA t) σ H Q:=by
 rintro σ H Q ⟨p,H0,own,ρ,P,E,t,q⟩
 refine⟨p,H0,own,ρ,_,E,t,fun ks vs H1 h A r=>?_⟩
 exact ok p H0 own H H1 vs ks P Q A r h fun k d v H' h2 k2 i2 r2=>q k d v H' h2 (A.go k2 i2) r2
theorem fM {r:List V->Hp->VK->Prop}{id:String}{x:Str}{ps:Pos}{g:GC} (hc:cU X (.builtin id) r) (ok:OkC g r) (hg:Gl X x) (hm:X.mg x=none) (hv:bootBuiltins x=some (.builtin id)) (ha:PDA X (e::es) t) (hn:x≠"__name__":=by decide) (hdb:(x == ("__debug__":Str))=false:=by decide)
  (he:starEach (e::es) X.env=(false,eval e X.env)::starEach es X.env:=by rfl) (hpl:(backTo pos (starEach es X.env)).any (·.1)=false:=by rfl):PD X (.Call (.Name x ps) (e::es) [] pos) (tCl g t):=PE.wk (dB hc hg hm hv ha hn hdb he hpl) (liftC ok)
theorem pd_callT {r:List V->Hp->VK->Prop}{id:String}{x:Str}{ps:Pos}{g:GC} (hc:cU X (.type id) r) (ok:OkC g r) (hg:Gl X x) (hm:X.mg x=none) (hv:bootBuiltins x=some (.type id)) (ha:PDA X (e::es) t) (hn:x≠"__name__":=by decide) (hdb:(x == ("__debug__":Str))=false:=by decide)
  (he:starEach (e::es) X.env=(false,eval e X.env)::starEach es X.env:=by rfl) (hpl:(backTo pos (starEach es X.env)).any (·.1)=false:=by rfl):PD X (.Call (.Name x ps) (e::es) [] pos) (tCl g t):=PE.wk (pe_callTy hc hg hm hv ha hn hdb he hpl) (liftC ok)
noncomputable def spD (t:List D->(D->Prop)->Prop):Sp:=fun vs H Q _=>∃ ds P,Rps (fun _=>True) H vs ds/\t ds P/\∀ d v H',P d->Same H H'->Rp (fun a=>H a=none) H' v d->Q v H'
noncomputable def spP (C:Pn->Prop) (t:List D->(D->Prop)->Prop):Sp:=fun vs H Q _=>∃ p vs' ds P,C p/\vs=p.pv::vs'/\p.PI H/\Rps (fun a=>¬ p.fp a) H vs' ds/\t ds P/\∀ d v H',P d->Kp p H H'->p.PI H'->Rp (fun a=>H a=none) H' v d->Q v H'
noncomputable def tFn (f:List D->(D->Prop)->Prop) (t:DA):DE:=fun ρ P=>t ρ fun ks=>f (ks.map (·.2)) fun d=>P (norm .new d) d
theorem RpK.rps {p:Pn}{H0 Hb H H2:Hp}{own:Addr->Option Nat} (A:At p H0 own Hb H):∀ {vs:List V}{ks:List (Kd×D)},RpK p H0 own Hb H2 vs ks->Rps (fun a=>¬ p.fp a) H2 vs (ks.map (·.2))
 | _,_,.nil=>.nil
 | _,_,.cons h t=>.cons (h.mono (fun a o=>mL A o) (fun _ _ _ e=>e) fun _ _ e=>e) (RpK.rps A t)
theorem lift_fn {f:List D->(D->Prop)->Prop}:∀ σ H Q,bM (tFn f t) σ H Q->tCall (spD f) [] E0 (liftA t) σ H Q:=by
 rintro σ H Q ⟨p,H0,own,ρ,P,E,t,q⟩
 refine⟨p,H0,own,ρ,_,E,t,fun ks vs H1 h A r=>?_⟩
 show spD f (vs++[]) H1 Q E0
 rw [List.append_nil]
 refine⟨ks.map (·.2),_,(RpK.rps A r).mono (fun _ _=>trivial) (fun _ _ _ e=>e) fun _ _ e=>e,h,fun d v H' h2 s r2=>?_⟩
 have k2:Kp p H1 H':=Kp.of s
 refine q _ d v H' h2 (A.go k2 (p.mono H1 H' A.pen fun b o _ e=>s b o e)) (bU ?_)
 exact r2.mono (fun a o=>A.free o) (fun _ _ _ e=>e) fun _ _ e=>e
noncomputable def tFnP (C:Pn->Prop) (f:List D->(D->Prop)->Prop) (i:Nat) (t:DA):DE:=fun ρ P=>ρ[i]?=some (.pen C)/\tFn f t ρ P
theorem lift_fnP {C:Pn->Prop}{f:List D->(D->Prop)->Prop}{i:Nat}:∀ σ H Q,bM (tFnP C f i t) σ H Q->tCall (spP C f) [] E0 (kO (lg i) (liftA t)) σ H Q:=by
 rintro σ H Q ⟨p,H0,own,ρ,P,E,⟨hp,t⟩,q⟩
 obtain⟨hs,c⟩:=E.slot i _ hp
 refine⟨p.pv,hs,p,H0,own,ρ,_,E,t,fun ks vs H1 h A r=>?_⟩
 show spP C f ((p.pv::vs)++[]) H1 Q E0
 rw [List.append_nil]
 refine⟨p,vs,ks.map (·.2),_,c,rfl,A.pen,RpK.rps A r,h,fun d v H' h2 k2 i2 r2=>?_⟩
 exact q _ d v H' h2 (A.go k2 i2) (bU (r2.mono (fun a o=>A.free o) (fun _ _ _ e=>e) fun _ _ e=>e))
noncomputable def gI (C:Int->Int->Prop) (f:Int->Int->D):G2:=fun _ d1 _ d2 P=>match d1,d2 with
 | .int i,.int j=>C i j/\P .imm (f i j)
 | _,_=>False
noncomputable def gI0 (f:Int->Int->D):G2:=fun _ d1 _ d2 P=>match d1,d2 with
 | .int i,.int j=>P .imm (f i j)
 | _,_=>False
theorem okI {C:Int->Int->Prop}{f:Int->Int->D}{g:Int->Int->V} (h:∀ i j H,Rp (fun _=>False) H (g i j) (f i j)):Ok2 (gI C f) (rI C g):=by
 intro p H0 own Hb H x y k1 d1 k2 d2 P Q A r1 r2 t q
 unfold gI at t
 split at t
 ·rename_i i j
  exact⟨i,j,r1.int',r2.int',t.1,q _ _ _ _ t.2 Kp.refl A.pen (h i j H)⟩
 ·exact t.elim
theorem okI0 {f:Int->Int->D}{g:Int->Int->V} (h:∀ i j H,Rp (fun _=>False) H (g i j) (f i j)):Ok2 (gI0 f) (rI0 g):=by
 intro p H0 own Hb H x y k1 d1 k2 d2 P Q A r1 r2 t q
 unfold gI0 at t
 split at t
 ·rename_i i j
  exact⟨i,j,r1.int',r2.int',q _ _ _ _ t Kp.refl A.pen (h i j H)⟩
 ·exact t.elim
theorem jx (ha:PD X a ta) (hb:PD X b tb):PD X (.BinOp a .Sub b pos) (t2 (gI0 fun i j=>.int (i - j)) ta tb):=pd_op op_sub (okI0 fun i j _=>.int _) ha hb
theorem pd_fdiv (ha:PD X a ta) (hb:PD X b tb):PD X (.BinOp a .FloorDiv b pos) (t2 (gI CDiv fun i j=>.int (i / j)) ta tb):=pd_op op_fdiv (okI fun i j _=>.int _) ha hb
theorem pd_mod (ha:PD X a ta) (hb:PD X b tb):PD X (.BinOp a .Mod b pos) (t2 (gI (fun _ j=>0<j) fun i j=>.int (i % j)) ta tb):=pd_op iK (okI fun i j _=>.int _) ha hb
theorem pd_gt (ha:PD X a ta) (hb:PD X b tb):PD X (.Compare a [.Gt] [b] pos) (t2 (gI0 fun i j=>.bool (decide (j<i))) ta tb):=pd_cmp op_gt (okI0 fun i j _=>.bl _) ha hb (dU _)
theorem pdt_lt (ha:PD X a ta) (hb:PD X b tb):PDT X (.Compare a [.Lt] [b] pos) (dM (t2 (gI0 fun i j=>.bool (decide (i<j))) ta tb)):=eV op_lt (okI0 fun i j _=>.bl _) ha hb (dU _)
theorem pdt_gt (ha:PD X a ta) (hb:PD X b tb):PDT X (.Compare a [.Gt] [b] pos) (dM (t2 (gI0 fun i j=>.bool (decide (j<i))) ta tb)):=eV op_gt (okI0 fun i j _=>.bl _) ha hb (dU _)
theorem pdt_ge (ha:PD X a ta) (hb:PD X b tb):PDT X (.Compare a [.GtE] [b] pos) (dM (t2 (gI0 fun i j=>.bool (decide (j<=i))) ta tb)):=eV op_ge (okI0 fun i j _=>.bl _) ha hb (dU _)
noncomputable def scD:D->D->Option Bool
 | .int i,.int j=>some (decide (i=j))
 | .bool i,.bool j=>some (decide (i=j))
 | .str i,.str j=>some (decide (i=j))
 | _,_=>none
noncomputable def gEq (neg:Bool):G2:=fun _ d1 _ d2 P=>match scD d1 d2 with
 | some b=>P .imm (.bool (if neg then !b else b))
 | none=>False
theorem okEq:Ok2 (gEq false) rEq:=by
 intro p H0 own Hb H x y k1 d1 k2 d2 P Q A r1 r2 t q
 unfold gEq scD at t
 split at t
 ·rename_i b e
  split at e <;> first | cases e | skip
  ·rw [r1.int',r2.int']
   refine⟨rfl,?_⟩
   have e2:∀ i j:Int,decide (V.int i=V.int j)=decide (i=j):=fun i j=>by simp
   rw [e2]; exact q _ _ _ _ t Kp.refl A.pen (.bl _)
  ·rw [r1.bl',r2.bl']
   refine⟨rfl,?_⟩
   have e2:∀ i j:Bool,decide (V.bl i=V.bl j)=decide (i=j):=fun i j=>by simp
   rw [e2]; exact q _ _ _ _ t Kp.refl A.pen (.bl _)
  ·rw [r1.str',r2.str']
   refine⟨rfl,?_⟩
   have e2:∀ i j:Str,decide (V.str i=V.str j)=decide (i=j):=fun i j=>by simp
   rw [e2]; exact q _ _ _ _ t Kp.refl A.pen (.bl _)
 ·exact t.elim
theorem okNe:Ok2 (gEq true) rNe:=by
 intro p H0 own Hb H x y k1 d1 k2 d2 P Q A r1 r2 t q
 unfold gEq scD at t
 split at t
 ·rename_i b e
  split at e <;> first | cases e | skip
  ·rw [r1.int',r2.int']
   refine⟨rfl,?_⟩
   have e2:∀ i j:Int,decide (V.int i=V.int j)=decide (i=j):=fun i j=>by simp
   rw [e2]; exact q _ _ _ _ t Kp.refl A.pen (.bl _)
  ·rw [r1.bl',r2.bl']
   refine⟨rfl,?_⟩
   have e2:∀ i j:Bool,decide (V.bl i=V.bl j)=decide (i=j):=fun i j=>by simp
   rw [e2]; exact q _ _ _ _ t Kp.refl A.pen (.bl _)
  ·rw [r1.str',r2.str']
   refine⟨rfl,?_⟩
   have e2:∀ i j:Str,decide (V.str i=V.str j)=decide (i=j):=fun i j=>by simp
   rw [e2]; exact q _ _ _ _ t Kp.refl A.pen (.bl _)
 ·exact t.elim
noncomputable def gIx:G2:=fun k1 d1 _ d2 P=>match d1,d2 with
 | .list ds,.int i=>∃ d,atI ds i=some d/\P (norm k1 d) d
 | .tuple ds,.int i=>∃ d,atI ds i=some d/\P (norm k1 d) d
 | _,_=>False
theorem Rps.atI {ok:Addr->Prop}{H:Hp}{vs:List V}{ds:List D}{i:Int}{d:D} (r:Rps ok H vs ds) (h:L2.atI ds i=some d):∃ v,L2.atI vs i=some v/\Rp ok H v d:=by
 unfold L2.atI at h ⊢
 rw [r.length]
 cases e:ixN ds.length i with
 | none=>rw [e] at h; cases h
 | some j =>
  rw [e] at h
  obtain⟨v,h1,h2⟩:=r.getD (i:=j) (d:=d) h
  exact⟨v,h1,h2⟩
theorem gK {p:Pn}{H0 Hb H:Hp}{own:Addr->Option Nat}{vs:List V}{kd:Kd×D} (r:RpK p H0 own Hb H vs [kd]):∃ v,vs=[v]/\Rp (okK p H0 own Hb kd.1) H v kd.2:=by
 cases r with
 | cons h t=>cases t; exact⟨_,rfl,h⟩
theorem rpk2 {p:Pn}{H0 Hb H:Hp}{own:Addr->Option Nat}{vs:List V}{kd ke:Kd×D} (r:RpK p H0 own Hb H vs [kd,ke]):∃ v w,vs=[v,w]/\Rp (okK p H0 own Hb kd.1) H v kd.2/\Rp (okK p H0 own Hb ke.1) H w ke.2:=by
 cases r with
 | cons h t =>
  cases t with
  | cons h2 t2=>cases t2; exact⟨_,_,rfl,h,h2⟩
noncomputable def gLen:GC:=fun ks P=>match ks with
 | [(_,.list ds)]=>P .imm (.int ds.length)
 | [(_,.tuple ds)]=>P .imm (.int ds.length)
 | _=>False
theorem okLen {K:PySem.W.Frag}:OkC gLen (fun xs H Q=>∃ p ys,xs=[.ref p]/\(SqL K H p ys\/SqT K H p ys)/\Q (.int ys.length) H):=by
 intro p H0 own Hb H vs ks P Q A r t q
 unfold gLen at t
 split at t
 ·obtain⟨v,rfl,r'⟩:=gK r
  obtain⟨c,vs,rfl,o,hc,rs⟩:=r'.dZ
  exact⟨c,vs,rfl,.inl (SqL.of hc),by rw [rs.length]; exact q _ _ _ _ t Kp.refl A.pen (.int _)⟩
 ·obtain⟨v,rfl,r'⟩:=gK r
  obtain⟨c,vs,rfl,hc,rs⟩:=r'.eY
  exact⟨c,vs,rfl,.inr (SqT.of hc),by rw [rs.length]; exact q _ _ _ _ t Kp.refl A.pen (.int _)⟩
 ·exact t.elim
theorem dh {ps:Pos} (hm:X.mg "len"=none) (ha:PDA X [a] t) (hg:Gl X "len":=by rfl) (he:starEach [a] X.env=(false,eval a X.env)::starEach [] X.env:=by rfl) (hpl:(backTo pos (starEach [] X.env)).any (·.1)=false:=by rfl):PD X (.Call (.Name "len" ps) [a] [] pos) (tCl gLen t) :=
 fM fJ okLen hg hm PySem.boot_len ha (by decide) (by decide) he hpl
noncomputable def gInt:GC:=fun ks P=>match ks with
 | [(_,.int i)]=>P .imm (.int i)
 | [(_,.bool b)]=>P .imm (.int (if b then 1 else 0))
 | _=>False
theorem j4 {ps:Pos} (hm:X.mg "int"=none) (hv:bootBuiltins "int"=some (.type "int")) (ha:PDA X [a] t) (hg:Gl X "int":=by rfl) (he:starEach [a] X.env=(false,eval a X.env)::starEach [] X.env:=by rfl) (hpl:(backTo pos (starEach [] X.env)).any (·.1)=false:=by rfl):PD X (.Call (.Name "int" ps) [a] [] pos) (tCl gInt t) :=
 pd_callT call_int1 (by
  intro p H0 own Hb H vs ks P Q A r t q
  unfold gInt at t
  split at t
  ·rename_i k i
   obtain⟨v,rfl,r'⟩:=gK r
   rw [r'.int']
   exact .inl ⟨i,rfl,q _ _ _ _ t Kp.refl A.pen (.int _)⟩
  ·rename_i k i
   obtain⟨v,rfl,r'⟩:=gK r
   rw [r'.bl']
   exact .inr ⟨i,rfl,q _ _ _ _ t Kp.refl A.pen (.int _)⟩
  ·exact t.elim) hg hm hv ha (by decide) (by decide) he hpl
end
variable [Gr]
section
variable {ok ok':Addr->Prop}{H H':Hp}
mutual
theorem Rp.cR (f:∀ a o,ok a->H a=some o->ok' a/\H' a=some o) (t:∀ a xs,H a=some (.tup xs)->H' a=some (.tup xs)):∀ {v:V}{d:D},Rp ok H v d->Rp ok' H' v d
 | _,_,.non=>.non
 | _,_,.bl b=>.bl b
 | _,_,.int i=>.int i
 | _,_,.str x=>.str x
 | _,_,.lst o h r=>.lst (f _ _ o h).1 (f _ _ o h).2 (Rps.cR f t r)
 | _,_,.tup h r=>.tup (t _ _ h) (Rps.cR f t r)
 | _,_,.dct o h r=>.dct (f _ _ o h).1 (f _ _ o h).2 (Rkv.cR f t r)
theorem Rps.cR (f:∀ a o,ok a->H a=some o->ok' a/\H' a=some o) (t:∀ a xs,H a=some (.tup xs)->H' a=some (.tup xs)):∀ {v:List V}{d:List D},Rps ok H v d->Rps ok' H' v d
 | _,_,.nil=>.nil
 | _,_,.cons h r=>.cons (Rp.cR f t h) (Rps.cR f t r)
theorem Rkv.cR (f:∀ a o,ok a->H a=some o->ok' a/\H' a=some o) (t:∀ a xs,H a=some (.tup xs)->H' a=some (.tup xs)):∀ {v:List (Key×V)}{d:List (D×D)},Rkv ok H v d->Rkv ok' H' v d
 | _,_,.nil=>.nil
 | _,_,.cons h r=>.cons (Rp.cR f t h) (Rkv.cR f t r)
end
end
structure DEnds where
 nx:List Sl->Prop
 rt:D->Prop
 bk:List Sl->Prop:=fun _=>False
 ct:List Sl->Prop:=fun _=>False
noncomputable abbrev DS:=DEnds->List Sl->Prop
structure FrS (p:Pn) (own:Addr->Option Nat) (H:Hp) (own':Addr->Option Nat) (H':Hp):Prop where
 keep:∀ b o,H b=some o->¬ p.fp b->own b=none->H' b=some o/\own' b=none
 tup:∀ a xs,H a=some (.tup xs)->H' a=some (.tup xs)
theorem FrS.trans {p:Pn}{o1 o2 o3:Addr->Option Nat}{H1 H2 H3:Hp} (a:FrS p o1 H1 o2 H2) (b:FrS p o2 H2 o3 H3):FrS p o1 H1 o3 H3:=⟨fun c o h n e=>let ⟨x,y⟩:=a.keep c o h n e; b.keep c o x n y,fun c xs e=>b.tup c xs (a.tup c xs e)⟩
theorem FrS.refl {p:Pn}{o1:Addr->Option Nat}{H1:Hp}:FrS p o1 H1 o1 H1:=⟨fun _ _ h _ e=>⟨h,e⟩,fun _ _ e=>e⟩
theorem At.tups {p:Pn}{H0 H H':Hp}{own:Addr->Option Nat} (A:At p H0 own H H'):∀ a xs,H a=some (.tup xs)->H' a=some (.tup xs):=iW (⟨A.k0,Kp.refl,A.penb,A.penb,A.ow⟩:At p H0 own H H) A.kp
structure RPost (p:Pn) (H0 H':Hp) (v:V) (d:D):Prop where
 k0:∀ b o,H0 b=some o->¬ p.fp b->H' b=some o
 pen:p.PI H'
 rp:Rp (fun a=>H0 a=none/\¬ p.fp a) H' v d
structure Wish (p:Pn) (H0:Hp) (own:Addr->Option Nat) (H:Hp) (P:DEnds) (Q:Ends):Prop where
 nx:∀ own' σ' H' ρ',EnvD p H0 own' σ' H' ρ'->FrS p own H own' H'->P.nx ρ'->Q.nx σ' H'
 rt:∀ d v H',P.rt d->RPost p H0 H' v d->Q.rt v H'
 bk:∀ own' σ' H' ρ',EnvD p H0 own' σ' H' ρ'->FrS p own H own' H'->P.bk ρ'->Q.bk σ' H'
 ct:∀ own' σ' H' ρ',EnvD p H0 own' σ' H' ρ'->FrS p own H own' H'->P.ct ρ'->Q.ct σ' H'
theorem Wish.go {p:Pn}{H0 H H':Hp}{own own':Addr->Option Nat}{P:DEnds}{Q:Ends} (w:Wish p H0 own H P Q) (f:FrS p own H own' H'):Wish p H0 own' H' P Q :=
 ⟨fun o s h r e g n=>w.nx o s h r e (f.trans g) n,w.rt,fun o s h r e g n=>w.bk o s h r e (f.trans g) n,fun o s h r e g n=>w.ct o s h r e (f.trans g) n⟩
noncomputable def liftS (t:DS):TS:=fun Q σ H=>∃ p H0 own ρ P,EnvD p H0 own σ H ρ/\t P ρ/\Wish p H0 own H P Q
noncomputable abbrev PDS (X:Cx) (st:Stmt) (t:DS):Prop:=PS X st (liftS t)
noncomputable abbrev lG (X:Cx) (st:List Stmt) (t:DS):Prop:=PSs X st (liftS t)
theorem PSs.wk' {X:Cx}{ss:List Stmt}{t t':TS} (h:PSs X ss t) (w:∀ D σ H,t' D σ H->t D σ H):PSs X ss t':=fun pins s σ H D I q=>h pins s σ H D I (w D σ H q)
theorem PS.wk' {X:Cx}{ss:Stmt}{t t':TS} (h:PS X ss t) (w:∀ D σ H,t' D σ H->t D σ H):PS X ss t':=fun pins s σ H D I q=>h pins s σ H D I (w D σ H q)
theorem At.frs {p:Pn}{H0 H H':Hp}{own:Addr->Option Nat} (A:At p H0 own H H'):FrS p own H own H':=⟨fun b o h n e=>⟨A.kp b o h n,e⟩,A.tups⟩
section
variable {X:Cx}{pos:Pos}{st:Stmt}{rest:List Stmt}{e:Expr}{te:DE}{t u:DS}
noncomputable def dNext:DS:=fun P ρ=>P.nx ρ
noncomputable def dSeq (t u:DS):DS:=fun P ρ=>t { P with nx:=u P } ρ
theorem aJ:lG X [] dNext:=PSs.wk' pss_nil (by
 rintro Q σ H ⟨p,H0,own,ρ,P,E,t,w⟩
 exact w.nx own σ H ρ E FrS.refl t)
theorem ao (h1:PDS X st t) (h2:lG X rest u):lG X (st::rest) (dSeq t u):=PSs.wk' (bR h1 h2) (by
 rintro Q σ H ⟨p,H0,own,ρ,P,E,t,w⟩
 exact⟨p,H0,own,ρ,_,E,t,⟨fun o s h r e g n=>⟨p,H0,o,r,P,e,n,w.go g⟩,w.rt,w.bk,w.ct⟩⟩)
theorem aD (h1:PDS X st t):lG X [st] t:=iB h1
theorem ds_never:PDS X st (fun _ _=>False):=PS.wk' ps_never (by
 rintro Q σ H ⟨p,H0,own,ρ,P,E,t,w⟩
 exact t)
noncomputable def dRet (te:DE):DS:=fun P ρ=>te ρ fun k d=>k.le .n0=true/\P.rt d
theorem aK (he:PD X e te):PDS X (.Return (some e) pos) (dRet te):=PS.wk' (ps_ret he) (by
 rintro Q σ H ⟨p,H0,own,ρ,P,E,t,w⟩
 refine⟨p,H0,own,ρ,_,E,t,fun k d v H' h A r=>w.rt d v H' h.2 ⟨fun b o e n=>A.kp b o (A.k0 b o e n) n,A.pen,?_⟩⟩
 exact kY A h.1 r)
noncomputable def dIf (c:DT) (t u:DS):DS:=fun P ρ=>c ρ fun b=>if b=true then t P ρ else u P ρ
theorem bJ {c:Expr}{a b:List Stmt}{tc:DT} (hc:PDT X c tc) (ha:lG X a t) (hb:lG X b u):PDS X (.If c a b pos) (dIf tc t u):=PS.wk' (ps_if hc ha hb) (by
 rintro Q σ H ⟨p,H0,own,ρ,P,E,t,w⟩
 refine⟨p,H0,own,ρ,_,E,t,fun b H' h A=>?_⟩
 cases b with
 | true=>exact cD ⟨p,H0,own,ρ,P,E.go A.kp A.pen,by simpa using h,w.go A.frs⟩
 | false=>exact bA ⟨p,H0,own,ρ,P,E.go A.kp A.pen,by simpa using h,w.go A.frs⟩)
noncomputable def dExpr (te:DE):DS:=fun P ρ=>te ρ fun _ _=>P.nx ρ
theorem gn (he:PD X e te) (hs:swapsWith e none pos.line X.env=pure false:=by rfl):PDS X (.Expr e pos) (dExpr te):=PS.wk' (fW he hs) (by
 rintro Q σ H ⟨p,H0,own,ρ,P,E,t,w⟩
 exact⟨p,H0,own,ρ,_,E,t,fun k d v H' h A r=>w.nx own σ H' ρ (E.go A.kp A.pen) A.frs h⟩)
noncomputable def Sl.region:Sl->Option Nat
 | .dw r _=>some r
 | .rw r _=>some r
 | .tw r _=>some r
 | .sp r _ _=>some r
 | _=>none
noncomputable def freeR (r:Nat) (ρ:List Sl) (i:Nat):Bool:=(ρ.set i .any).all fun s=>s.region != some r
noncomputable def stK (rg:Option Nat) (ρ:List Sl) (i:Nat) (k:Kd) (d:D):Option Sl:=match k with
 | .imm=>some (.im d)
 | .new=>match rg with
  | some r=>if freeR r ρ i=true then some (.dw r d) else none
  | none=>some (.sn d)
 | .reg r=>some (.dw r d)
 | .snw=>some (.sn d)
 | .shr=>some (.sh d)
 | _=>none
noncomputable def dSet (i:Nat) (rg:Option Nat) (te:DE):DS:=fun P ρ=>te ρ fun k d=>match stK rg ρ i (norm k d) d with
 | some s=>P.nx (ρ.set i s)
 | none=>False
section
variable {p:Pn}{H0 H H1:Hp}{own:Addr->Option Nat}{σ:L2.St}{ρ:List Sl}{i:Nat}
theorem EnvD.set {v:V}{s:Sl} (E:EnvD p H0 own σ H ρ) (hs:i<σ.length->jQ p H0 own (σ.set i (some v)) H i s):EnvD p H0 own (σ.set i (some v)) H (ρ.set i s):=by
 refine⟨E.k0,E.pen,E.ow,fun j s' e=>?_,by simpa using E.len,E.gr⟩
 by_cases hj:j=i
 ·subst hj
  have hl:j<ρ.length:=by
   have:=(List.getElem?_eq_some_iff.mp e).1
   simpa using this
  rw [List.getElem?_set_self hl] at e
  cases e
  exact hs (by rw [← E.len]; exact hl)
 ·rw [List.getElem?_set_ne (Ne.symm hj)] at e
  have q:=E.slot j s' e
  have eq:(σ.set i (some v))[j]?=σ[j]?:=List.getElem?_set_ne (Ne.symm hj)
  cases s' <;> simp only [jQ,eq] at q ⊢ <;> exact q
noncomputable def cQ (r:Nat) (H H1:Hp) (own:Addr->Option Nat):Addr->Option Nat:=fun a=>match H a,H1 a with
 | none,some _=>some r
 | _,_=>own a
theorem bQ {r:Nat}{a:Addr}{o:HO} (h:H a=some o):cQ r H H1 own a=own a:=by unfold cQ; rw [h]
theorem iw {r:Nat}{a:Addr}{o:HO} (h:H a=none) (h1:H1 a=some o):cQ r H H1 own a=some r:=by unfold cQ; rw [h,h1]
theorem EnvD.adopt (r:Nat) (E:EnvD p H0 own σ H ρ) (A:At p H0 own H H1):EnvD p H0 (cQ r H H1 own) σ H1 ρ:=by
 have tp:=iW E.at A.kp
 refine⟨fun b o e n=>A.kp b o (E.k0 b o e n) n,A.pen,fun a q e=>?_,fun j s e=>?_,E.len,E.gr⟩
 ·cases h:H a with
  | some o =>
   rw [bQ h] at e
   obtain⟨x,y,z⟩:=E.ow a q e
   refine⟨x,y,by rw [A.kp a o h y]; exact fun z=>nomatch z⟩
  | none =>
   cases h1:H1 a with
   | none =>
    have e':own a=some q:=by rw [← e]; unfold cQ; rw [h,h1]
    exact absurd h (E.ow a q e').2.2
   | some o=>exact⟨E.at.h0 h,E.at.nfb h,fun z=>nomatch z⟩
 ·have q:=E.slot j s e
  cases s with
  | any=>trivial
  | im d=>exact let ⟨v,a,b⟩:=q; ⟨v,a,b.mono (fun _ o=>o) (fun _ _ o=>o.elim) tp⟩
  | sh d=>exact let ⟨v,a,b⟩:=q; ⟨v,a,b.cR (fun c o n h=>⟨⟨n.1,by rw [bQ h]; exact n.2⟩,A.kp c o h n.1⟩) tp⟩
  | sn d=>exact let ⟨v,a,b⟩:=q; ⟨v,a,b.cR (fun c o n h=>⟨⟨n.1,n.2.1,by rw [bQ h]; exact n.2.2⟩,A.kp c o h n.2.1⟩) tp⟩
  | dw r' d=>exact let ⟨v,a,b⟩:=q; ⟨v,a,b.cR (fun c o n h=>⟨by rw [bQ h]; exact n,A.kp c o h (E.ow c r' n).2.1⟩) tp⟩
  | pen C=>exact q
  | rw r' L=>exact let ⟨st,as,a,b⟩:=q; ⟨st,as,a,b.mono (fun c o n h=>⟨by rw [bQ h]; exact n,A.kp c o h (E.ow c r' n).2.1⟩) tp⟩
  | tw r' L=>exact let ⟨st,as,a,b⟩:=q; ⟨st,as,a,b.mono (fun c o n h=>⟨by rw [bQ h]; exact n,A.kp c o h (E.ow c r' n).2.1⟩) tp⟩
  | scr v b=>exact q
  | sp r' b ds=>exact let ⟨l,vs,a,o,h,z⟩:=q; ⟨l,vs,a,by rw [bQ h]; exact o,A.kp l _ h (E.ow l r' o).2.1,z.cR (fun c u n e=>⟨⟨n.1,n.2.1,by rw [bQ e]; exact n.2.2⟩,A.kp c u e n.2.1⟩) tp⟩
theorem adopt_rp {r:Nat}{k:Kd}{v:V}{d:D} (h:k.le .new=true) (A:At p H0 own H H1) (x:Rp (okK p H0 own H k) H1 v d):Rp (fun a=>cQ r H H1 own a=some r) H1 v d :=
 (kY A h x).cR (fun a o n e=>⟨iw n e,e⟩) fun _ _ e=>e
theorem kh {r:Nat} (A:At p H0 own H H1):FrS p own H (cQ r H H1 own) H1:=⟨fun b o h n e=>⟨A.kp b o h n,by rw [bQ h]; exact e⟩,A.tups⟩
theorem EnvD.drop (E:EnvD p H0 own σ H ρ):EnvD p H0 own σ H (ρ.set i .any):=by
 refine⟨E.k0,E.pen,E.ow,fun j s' e=>?_,by simpa using E.len,E.gr⟩
 by_cases hj:j=i
 ·subst hj
  have hl:j<ρ.length:=by
   have:=(List.getElem?_eq_some_iff.mp e).1
   simpa using this
  rw [List.getElem?_set_self hl] at e
  cases e
  trivial
 ·rw [List.getElem?_set_ne (Ne.symm hj)] at e
  exact E.slot j s' e
noncomputable def bL (r:Nat) (own:Addr->Option Nat):Addr->Option Nat:=fun a=>if own a=some r then none else own a
theorem EnvD.clear {r:Nat} (E:EnvD p H0 own σ H ρ) (h:ρ.all (fun s=>s.region != some r)=true):EnvD p H0 (bL r own) σ H ρ:=by
 refine⟨E.k0,E.pen,fun a q e=>?_,fun j s e=>?_,E.len,E.gr⟩
 ·unfold bL at e
  split at e
  ·cases e
  ·exact E.ow a q e
 ·have q:=E.slot j s e
  have z:=List.all_eq_true.mp h s (List.mem_of_getElem? e)
  have c0:∀ a,own a=none->bL r own a=none:=fun a n=>by unfold bL; rw [n]; simp
  cases s with
  | any=>trivial
  | im d=>exact q
  | sh d=>exact let ⟨v,a,b⟩:=q; ⟨v,a,b.mono (fun c n=>⟨n.1,c0 c n.2⟩) (fun _ _ _ e=>e) fun _ _ e=>e⟩
  | sn d=>exact let ⟨v,a,b⟩:=q; ⟨v,a,b.mono (fun c n=>⟨n.1,n.2.1,c0 c n.2.2⟩) (fun _ _ _ e=>e) fun _ _ e=>e⟩
  | dw r' d =>
   have hne:r'≠r:=by simpa [Sl.region] using z
   exact let ⟨v,a,b⟩:=q; ⟨v,a,b.mono (fun c n=>by unfold bL; rw [n,if_neg (by simpa using hne)]) (fun _ _ _ e=>e) fun _ _ e=>e⟩
  | pen C=>exact q
  | rw r' L =>
   have hne:r'≠r:=by simpa [Sl.region] using z
   exact let ⟨st,as,a,b⟩:=q; ⟨st,as,a,b.mono (fun c o n e=>⟨by unfold bL; rw [n,if_neg (by simpa using hne)],e⟩) fun _ _ e=>e⟩
  | tw r' L =>
   have hne:r'≠r:=by simpa [Sl.region] using z
   exact let ⟨st,as,a,b⟩:=q; ⟨st,as,a,b.mono (fun c o n e=>⟨by unfold bL; rw [n,if_neg (by simpa using hne)],e⟩) fun _ _ e=>e⟩
  | scr v b=>exact q
  | sp r' b ds =>
   have hne:r'≠r:=by simpa [Sl.region] using z
   exact let ⟨l,vs,a,o,h,y⟩:=q; ⟨l,vs,a,by unfold bL; rw [o,if_neg (by simpa using hne)],h,y.mono (fun c n=>⟨n.1,n.2.1,c0 c n.2.2⟩) (fun _ _ _ e=>e) fun _ _ e=>e⟩
theorem g8 {r:Nat}:FrS p own H (bL r own) H:=⟨fun b o h n e=>⟨h,by unfold bL; rw [e]; simp⟩,fun _ _ e=>e⟩
end
theorem aN {i:Nat} (rg:Option Nat) (h:PS X st (tAsg (bM te) (jJ i))):PDS X st (dSet i rg te):=PS.wk' h (by
 rintro Q σ H ⟨p,H0,own,ρ,P,E,t,w⟩
 refine⟨p,H0,own,ρ,_,E,t,fun k d v H1 h A r=>?_⟩
 have r:=bU r
 generalize norm k d=k' at h r
 show Q.nx (σ.set i (some v)) H1
 have E1:=E.go A.kp A.pen
 have fin:∀ s,jQ p H0 own (σ.set i (some v)) H1 i s\/¬ i<σ.length->P.nx (ρ.set i s)->Q.nx (σ.set i (some v)) H1:=fun s hs hn =>
  w.nx own _ H1 _ (E1.set fun hl=>hs.elim id fun z=>absurd hl z) A.frs hn
 have here:i<σ.length->(σ.set i (some v))[i]?=some (some v):=fun hl=>List.getElem?_set_self hl
 by_cases hl:i<σ.length
 ·cases k' with
  | imm=>exact fin (.im d) (.inl ⟨v,here hl,r⟩) h
  | new =>
   cases rg with
   | none=>exact fin (.sn d) (.inl ⟨v,here hl,kY A (k:=.snw) rfl r⟩) h
   | some q =>
    simp only [stK] at h
    by_cases hf:freeR q ρ i=true
    ·rw [if_pos hf] at h
     have E2:EnvD p H0 (bL q own) σ H (ρ.set i .any):=(E.drop (i:=i)).clear hf
     have A2:At p H0 (bL q own) H H1:=⟨A.k0,A.kp,A.penb,A.pen,E2.ow⟩
     have E3:=E2.adopt q A2
     have r2:Rp (okK p H0 (bL q own) H .new) H1 v d:=r
     have E4:EnvD p H0 (cQ q H H1 (bL q own)) (σ.set i (some v)) H1 ((ρ.set i .any).set i (.dw q d)):=E3.set fun _=>⟨v,here hl,adopt_rp (k:=.new) rfl A2 r2⟩
     rw [List.set_set] at E4
     exact w.nx _ _ H1 _ E4 (g8.trans (kh A2)) h
    ·rw [if_neg hf] at h
     exact h.elim
  | reg q=>exact fin (.dw q d) (.inl ⟨v,here hl,r⟩) h
  | n0=>exact h.elim
  | snw=>exact fin (.sn d) (.inl ⟨v,here hl,r⟩) h
  | shr=>exact fin (.sh d) (.inl ⟨v,here hl,r⟩) h
  | wk=>exact h.elim
 ·cases hs:stK rg ρ i k' d with
  | none=>rw [hs] at h; exact h.elim
  | some s=>rw [hs] at h; exact fin s (.inr hl) h)
end
variable [Gr]
section
variable {ok ok':Addr->Prop}{H:Hp}
mutual
theorem Rp.inj:∀ {v:V}{d d':D},Rp ok H v d->Rp ok' H v d'->d=d'
 | _,_,_,.non,.non=>rfl
 | _,_,_,.bl b,.bl _=>rfl
 | _,_,_,.int i,.int _=>rfl
 | _,_,_,.str x,.str _=>rfl
 | _,_,_,.lst o h r,.lst o' h' r'=>by
  rw [h] at h'; cases h'
  rw [Rps.inj r r']
 | _,_,_,.lst o h r,.tup h' r'=>by rw [h] at h'; cases h'
 | _,_,_,.lst o h r,.dct o' h' r'=>by rw [h] at h'; cases h'
 | _,_,_,.tup h r,.lst o' h' r'=>by rw [h] at h'; cases h'
 | _,_,_,.tup h r,.tup h' r'=>by
  rw [h] at h'; cases h'
  rw [Rps.inj r r']
 | _,_,_,.tup h r,.dct o' h' r'=>by rw [h] at h'; cases h'
 | _,_,_,.dct o h r,.lst o' h' r'=>by rw [h] at h'; cases h'
 | _,_,_,.dct o h r,.tup h' r'=>by rw [h] at h'; cases h'
 | _,_,_,.dct o h r,.dct o' h' r'=>by
  rw [h] at h'; cases h'
  rw [Rkv.inj r r']
theorem Rps.inj:∀ {v:List V}{d d':List D},Rps ok H v d->Rps ok' H v d'->d=d'
 | _,_,_,.nil,.nil=>rfl
 | _,_,_,.cons h t,.cons h' t'=>by rw [Rp.inj h h',Rps.inj t t']
theorem Rkv.inj:∀ {v:List (Key×V)}{d d':List (D×D)},Rkv ok H v d->Rkv ok' H v d'->d=d'
 | _,_,_,.nil,.nil=>rfl
 | _,_,_,.cons h t,.cons h' t'=>by rw [Rp.inj h h',Rkv.inj t t']
end
variable {l:Addr}{T:D}
mutual
theorem Rp.avoid (h0:Rp ok' H (.ref l) T):∀ {v:V}{d:D},Rp ok H v d->sizeOf d<sizeOf T->Rp (fun a=>ok a/\a≠l) H v d
 | _,_,.non,_=>.non
 | _,_,.bl b,_=>.bl b
 | _,_,.int i,_=>.int i
 | _,_,.str x,_=>.str x
 | _,_,.lst (ds:=ds) o h r,s=>.lst ⟨o,fun z=>by
   subst z
   have e:=Rp.inj (Rp.lst o h r) h0
   rw [e] at s
   exact absurd s (Nat.lt_irrefl _)⟩ h (Rps.avoid h0 r (by simp only [PyData.list.sizeOf_spec] at s; omega))
 | _,_,.tup (ds:=ds) h r,s=>.tup h (Rps.avoid h0 r (by simp only [PyData.tuple.sizeOf_spec] at s; omega))
 | _,_,.dct (ds:=ds) o h r,s=>.dct ⟨o,fun z=>by
   subst z
   have e:=Rp.inj (Rp.dct o h r) h0
   rw [e] at s
   exact absurd s (Nat.lt_irrefl _)⟩ h (Rkv.avoid h0 r (by simp only [PyData.dict.sizeOf_spec] at s; omega))
theorem Rps.avoid (h0:Rp ok' H (.ref l) T):∀ {v:List V}{d:List D},Rps ok H v d->sizeOf d<sizeOf T->Rps (fun a=>ok a/\a≠l) H v d
 | _,_,.nil,_=>.nil
 | _,_,.cons h t,s=>.cons (Rp.avoid h0 h (by simp only [List.cons.sizeOf_spec] at s; omega)) (Rps.avoid h0 t (by simp only [List.cons.sizeOf_spec] at s; omega))
theorem Rkv.avoid (h0:Rp ok' H (.ref l) T):∀ {v:List (Key×V)}{d:List (D×D)},Rkv ok H v d->sizeOf d<sizeOf T->Rkv (fun a=>ok a/\a≠l) H v d
 | _,_,.nil,_=>.nil
 | _,_,.cons h t,s=>.cons (Rp.avoid h0 h (by simp only [List.cons.sizeOf_spec,Prod.mk.sizeOf_spec] at s; omega)) (Rkv.avoid h0 t (by simp only [List.cons.sizeOf_spec] at s; omega))
end
end
noncomputable def forget (r:Nat) (ρ:List Sl):List Sl:=ρ.map fun s=>if s.region=some r then .any else s
section
variable {p:Pn}{H0 H H1:Hp}{own:Addr->Option Nat}{σ:L2.St}{ρ:List Sl}{i:Nat}
theorem EnvD.write {r:Nat}{l:Addr}{u o':HO} (E:EnvD p H0 own σ H ρ) (hl:own l=some r) (ho:H l=some u) (hu:∀ xs,u≠.tup xs):EnvD p H0 own σ (upd H l o') (forget r ρ):=by
 have h0:=E.ow l r hl
 have tp:∀ a xs,H a=some (.tup xs)->upd H l o' a=some (.tup xs):=fun a xs e=>by
  rw [aA]; exact e
  intro z; subst z; rw [ho] at e; exact hu xs (Option.some.inj e)
 refine⟨fun b o e n=>?_,p.mono H _ E.pen fun b o f e=>?_,fun a q e=>?_,fun j s e=>?_,by unfold forget; rw [List.length_map]; exact E.len,E.gr⟩
 ·rw [aA]; exact E.k0 b o e n
  intro z; subst z; rw [h0.1] at e; cases e
 ·rw [aA]; exact e
  intro z; subst z; exact h0.2.1 f
 ·obtain⟨x,y,z⟩:=E.ow a q e
  refine⟨x,y,?_⟩
  by_cases hh:a=l
  ·subst hh; rw [aF]; exact fun z=>nomatch z
  ·rw [aA hh]; exact z
 ·unfold forget at e
  rw [List.getElem?_map] at e
  cases hr:ρ[j]? with
  | none=>rw [hr] at e; cases e
  | some s0 =>
   rw [hr] at e
   have e:=Option.some.inj e
   have q:=E.slot j s0 hr
   have ne:∀ c,own c≠some r->c≠l:=fun c n z=>by subst z; exact n hl
   cases s0 with
   | any=>simp only [Sl.region] at e; subst e; trivial
   | im d =>
    have e:Sl.im d=s:=e
    subst e
    exact let ⟨v,a,b⟩:=q; ⟨v,a,b.mono (fun _ o=>o) (fun _ _ o=>o.elim) tp⟩
   | sh d =>
    have e:Sl.sh d=s:=e
    subst e
    exact let ⟨v,a,b⟩:=q; ⟨v,a,b.mono (fun _ o=>o) (fun c o n e=>by rw [aA (ne c (by rw [n.2]; exact fun z=>nomatch z))]; exact e) tp⟩
   | sn d =>
    have e:Sl.sn d=s:=e
    subst e
    exact let ⟨v,a,b⟩:=q; ⟨v,a,b.mono (fun _ o=>o) (fun c o n e=>by rw [aA (ne c (by rw [n.2.2]; exact fun z=>nomatch z))]; exact e) tp⟩
   | dw r' d =>
    by_cases hrr:r'=r
    ·subst hrr
     have e:(if (some r':Option Nat)=some r' then Sl.any else Sl.dw r' d)=s:=e
     rw [if_pos rfl] at e
     subst e
     trivial
    ·have e:(if (some r':Option Nat)=some r then Sl.any else Sl.dw r' d)=s:=e
     rw [if_neg (by simpa using hrr)] at e
     subst e
     exact let ⟨v,a,b⟩:=q; ⟨v,a,b.mono (fun _ o=>o) (fun c o n e=>by rw [aA (ne c (by rw [n]; simpa using hrr))]; exact e) tp⟩
   | pen C =>
    have e:Sl.pen C=s:=e
    subst e
    exact q
   | scr v b =>
    have e:Sl.scr v b=s:=e
    subst e
    exact q
   | sp r' b ds =>
    by_cases hrr:r'=r
    ·subst hrr
     have e:(if (some r':Option Nat)=some r' then Sl.any else Sl.sp r' b ds)=s:=e
     rw [if_pos rfl] at e
     subst e
     trivial
    ·have e:(if (some r':Option Nat)=some r then Sl.any else Sl.sp r' b ds)=s:=e
     rw [if_neg (by simpa using hrr)] at e
     subst e
     exact let ⟨l',vs,a,o,h,y⟩:=q; ⟨l',vs,a,o,by rw [aA (ne l' (by rw [o]; simpa using hrr))]; exact h,y.mono (fun _ o=>o) (fun c o n e=>by rw [aA (ne c (by rw [n.2.2]; exact fun z=>nomatch z))]; exact e) tp⟩
   | rw r' L =>
    by_cases hrr:r'=r
    ·subst hrr
     have e:(if (some r':Option Nat)=some r' then Sl.any else Sl.rw r' L)=s:=e
     rw [if_pos rfl] at e
     subst e
     trivial
    ·have e:(if (some r':Option Nat)=some r then Sl.any else Sl.rw r' L)=s:=e
     rw [if_neg (by simpa using hrr)] at e
     subst e
     exact let ⟨st,as,a,b⟩:=q; ⟨st,as,a,b.mono (fun c o n e=>⟨n,by rw [aA (ne c (by rw [n]; simpa using hrr))]; exact e⟩) tp⟩
   | tw r' L =>
    by_cases hrr:r'=r
    ·subst hrr
     have e:(if (some r':Option Nat)=some r' then Sl.any else Sl.tw r' L)=s:=e
     rw [if_pos rfl] at e
     subst e
     trivial
    ·have e:(if (some r':Option Nat)=some r then Sl.any else Sl.tw r' L)=s:=e
     rw [if_neg (by simpa using hrr)] at e
     subst e
     exact let ⟨st,as,a,b⟩:=q; ⟨st,as,a,b.mono (fun c o n e=>⟨n,by rw [aA (ne c (by rw [n]; simpa using hrr))]; exact e⟩) tp⟩
theorem gC {r:Nat}{l:Addr}{u o':HO} (hl:own l=some r) (ho:H l=some u) (hu:∀ xs,u≠.tup xs):FrS p own H own (upd H l o'):=by
 refine⟨fun b o h n e=>⟨?_,e⟩,fun a xs e=>?_⟩
 ·rw [aA]; exact h
  intro z; subst z; rw [hl] at e; cases e
 ·rw [aA]; exact e
  intro z; subst z; rw [ho] at e; exact hu xs (Option.some.inj e)
theorem EnvD.put {v:V}{s:Sl} (E:EnvD p H0 own σ H ρ) (hs:jQ p H0 own σ H i s):EnvD p H0 own σ H (ρ.set i s):=by
 refine⟨E.k0,E.pen,E.ow,fun j s' e=>?_,by simpa using E.len,E.gr⟩
 by_cases hj:j=i
 ·subst hj
  have hl:j<ρ.length:=by
   have:=(List.getElem?_eq_some_iff.mp e).1
   simpa using this
  rw [List.getElem?_set_self hl] at e
  cases e
  exact hs
 ·rw [List.getElem?_set_ne (Ne.symm hj)] at e
  exact E.slot j s' e
theorem EnvD.relist {r:Nat}{l:Addr}{vs vs':List V}{ds ds':List D} (E:EnvD p H0 own σ H ρ) (A:At p H0 own H H1) (hv:σ[i]?=some (some (.ref l))) (hl:own l=some r) (ho:H l=some (.lst vs)) (rs:Rps (fun a=>own a=some r) H vs ds)
  (hs:∀ H2,(∀ {w:V}{d:D},Rp (fun a=>own a=some r) H w d->sizeOf d<sizeOf (PyData.list ds)->Rp (fun a=>cQ r H H1 own a=some r) H2 w d)->(∀ {w:V}{d:D},Rp (okK p H0 own H .new) H1 w d->Rp (fun a=>cQ r H H1 own a=some r) H2 w d)->Rps (fun a=>cQ r H H1 own a=some r) H2 vs' ds') :
  EnvD p H0 (cQ r H H1 own) σ (upd H1 l (.lst vs')) ((forget r ρ).set i (.dw r (.list ds')))/\FrS p own H (cQ r H H1 own) (upd H1 l (.lst vs')):=by
 have h1:H1 l=some (.lst vs):=A.kp l _ ho (E.ow l r hl).2.1
 have hl':cQ r H H1 own l=some r:=by rw [bQ ho]; exact hl
 have E1:=(E.adopt r A).write (o':=.lst vs') hl' h1 (fun xs z=>nomatch z)
 have tp:∀ a xs,H1 a=some (.tup xs)->upd H1 l (.lst vs') a=some (.tup xs):=fun a xs e=>by
  rw [aA]; exact e
  intro z; subst z; rw [h1] at e; cases e
 refine⟨E1.put (v:=.ref l) ⟨.ref l,hv,.lst hl' aF (hs _ ?_ ?_)⟩,(kh A).trans (gC hl' h1 fun xs z=>nomatch z)⟩
 ·intro w d x sz
  have x1:=Rp.avoid (Rp.lst (ok:=fun a=>own a=some r) hl ho rs) x sz
  exact x1.cR (fun a o n e=>⟨by rw [bQ e]; exact n.1,by rw [aA n.2]; exact A.kp a o e (E.ow a r n.1).2.1⟩) fun a xs e=>tp a xs (iW E.at A.kp a xs e)
 ·intro w d x
  exact x.cR (fun a o n e=>⟨iw n e,by rw [aA (fun z=>by subst z; rw [ho] at n; cases n)]; exact e⟩) tp
end
section
variable {X:Cx}{pos:Pos}{st:Stmt}{e:Expr}{te:DE}{i:Nat}{ta:DA}
theorem sz_of_mem {d:D}{ds:List D} (h:d∈ds):sizeOf d<sizeOf (PyData.list ds):=by
 have:=List.sizeOf_lt_of_mem h
 simp only [PyData.list.sizeOf_spec]
 omega
theorem lW {ok ok':Addr->Prop}{H H2:Hp}{T:D} (f:∀ {w:V}{d:D},Rp ok H w d->sizeOf d<sizeOf T->Rp ok' H2 w d):∀ {vs:List V}{ds:List D},Rps ok H vs ds->(∀ d∈ds,sizeOf d<sizeOf T)->Rps ok' H2 vs ds
 | _,_,.nil,_=>.nil
 | _,_,.cons h t,s=>.cons (f h (s _ List.mem_cons_self)) (lW f t fun d hd=>s d (List.mem_cons_of_mem _ hd))
noncomputable def dApp (i:Nat) (te:DE):DS:=fun P ρ=>match ρ[i]? with
 | some (.dw r (.list ds))=>te ρ fun k d=>(norm k d).le .new=true/\ds.length<1000/\P.nx ((forget r ρ).set i (.dw r (.list (ds++[d]))))
 | _=>False
theorem cY (h:PS X st (gF (tBM X.K "list" iz (lg i) (liftA (cL te iZ))))):PDS X st (dApp i te):=PS.wk' h (by
 rintro Q σ H ⟨p,H0,own,ρ,P,E,t,w⟩
 unfold dApp at t
 split at t
 ·rename_i r ds hr
  obtain⟨v,hv,x⟩:=E.slot i _ hr
  obtain⟨l,vs,rfl,hl,ho,rs⟩:=x.dZ
  refine⟨.ref l,hv,.inl ⟨rfl,vs,SqL.of ho⟩,p,H0,own,ρ,fun ks=>∃ k d,ks=[(k,d)]/\(norm k d).le .new=true/\ds.length<1000/\P.nx ((forget r ρ).set i (.dw r (.list (ds++[d])))),E,?_,?_⟩
  ·show te ρ fun k d=>∃ k' d',[(k,d)]=[(k',d')]/\_
   have e:(fun k d=>∃ k' d',[((k,d):Kd×D)]=[(k',d')]/\(norm k' d').le .new=true/\ds.length<1000/\P.nx ((forget r ρ).set i (.dw r (.list (ds++[d'])))))=fun k d=>(norm k d).le .new=true/\ds.length<1000/\P.nx ((forget r ρ).set i (.dw r (.list (ds++[d])))):=by
    funext k d
    apply propext
    constructor
    ·rintro ⟨k',d',e,h⟩
     cases e
     exact h
    ·exact fun h=>⟨k,d,rfl,h⟩
   rw [e]
   exact t
  ·rintro ks ws H1 ⟨k,d,rfl,hk,hlen,hn⟩ A rk
   obtain⟨y,rfl,ry⟩:=gK rk
   have ry:=kY A hk (bU ry)
   have h1:H1 l=some (.lst vs):=A.kp l _ ho (E.ow l r hl).2.1
   have h24:=sizeLine_eq
   have hln:=rs.length
   refine⟨l,vs,y,rfl,rfl,h1,by omega,?_⟩
   obtain⟨E2,F2⟩:=E.relist (vs':=vs++[y]) (ds':=ds++[d]) A hv hl ho rs fun H2 f g=>(lW f rs fun d hd=>sz_of_mem hd).snoc (g ry)
   exact w.nx _ σ _ _ E2 F2 hn
 ·exact t.elim)
end
variable [Gr]
noncomputable abbrev DG:=Kd->D->List Sl->(List Sl->Prop)->Prop
noncomputable abbrev DGs:=Kd->List D->List Sl->(List Sl->Prop)->Prop
noncomputable def slotB (k:Kd) (d:D):Sl:=match k with
 | .imm=>.im d
 | .new=>.sn d
 | .reg r=>.dw r d
 | .snw=>.sn d
 | .shr=>.sh d
 | _=>.any
noncomputable def okB (p:Pn) (H0:Hp) (own:Addr->Option Nat):Kd->Addr->Prop
 | .imm=>fun _=>False
 | .new=>fun a=>H0 a=none/\¬ p.fp a/\own a=none
 | .reg r=>fun a=>own a=some r
 | .snw=>fun a=>H0 a=none/\¬ p.fp a/\own a=none
 | .shr=>fun a=>¬ p.fp a/\own a=none
 | .n0=>fun _=>True
 | .wk=>fun _=>True
noncomputable def liftG (g:DG):TG:=fun v σ H Q=>∃ p H0 own ρ k d P,EnvD p H0 own σ H ρ/\Rp (okB p H0 own k) H v d/\g k d ρ P/\∀ σ' ρ',EnvD p H0 own σ' H ρ'->P ρ'->Q σ' H
noncomputable def liftGs (g:DGs):TGs:=fun vs σ H Q=>∃ p H0 own ρ k ds P,EnvD p H0 own σ H ρ/\Rps (okB p H0 own k) H vs ds/\g k ds ρ P/\∀ σ' ρ',EnvD p H0 own σ' H ρ'->P ρ'->Q σ' H
noncomputable abbrev PDG (X:Cx) (e:Expr) (g:DG):Prop:=PG X e (liftG g)
theorem PG.wk {X:Cx}{e:Expr}{t t':TG} (h:PG X e t) (w:∀ v σ H Q,t' v σ H Q->t v σ H Q):PG X e t':=fun pins s σ H v u Q I r q=>h pins s σ H v u Q I r (w v σ H Q q)
theorem PGs.wk {X:Cx}{e:List Expr}{t t':TGs} (h:PGs X e t) (w:∀ v σ H Q,t' v σ H Q->t v σ H Q):PGs X e t':=fun pins s σ H v u Q I r q=>h pins s σ H v u Q I r (w v σ H Q q)
theorem gM {p:Pn}{H0 H:Hp}{own:Addr->Option Nat}{k:Kd}{v:V}{d:D} (r:Rp (okB p H0 own k) H v d):Rp (okB p H0 own (norm k d)) H v d:=by
 by_cases h:fQ d=true
 ·rw [dD h]; exact r.imm h
 ·rw [gQ h]; exact r
section
variable {X:Cx}{pos:Pos}{e:Expr}{es:List Expr}
noncomputable def gNm (i:Nat):DG:=fun k d ρ P=>P (ρ.set i (slotB (norm k d) d))
theorem slotB_ok {p:Pn}{H0 H:Hp}{own:Addr->Option Nat}{σ:L2.St}{i:Nat}{k:Kd}{v:V}{d:D} (r:Rp (okB p H0 own k) H v d) (h:σ[i]?=some (some v)):jQ p H0 own σ H i (slotB k d):=by
 cases k with
 | imm=>exact⟨v,h,r⟩
 | new=>exact⟨v,h,r⟩
 | reg q=>exact⟨v,h,r⟩
 | n0=>trivial
 | snw=>exact⟨v,h,r⟩
 | shr=>exact⟨v,h,r⟩
 | wk=>trivial
theorem aG {i:Nat}{x:Str} (h:PG X (.Name x pos) (jJ i)):PDG X (.Name x pos) (gNm i):=PG.wk h (by
 rintro v σ H Q ⟨p,H0,own,ρ,k,d,P,E,r,t,q⟩
 exact q _ _ (E.set fun hl=>slotB_ok (gM r) (List.getElem?_set_self hl)) t)
noncomputable def gsNil:DGs:=fun _ ds ρ P=>match ds with
 | []=>P ρ
 | _=>False
noncomputable def gsCons (g:DG) (gs:DGs):DGs:=fun k ds ρ P=>match ds with
 | d::r=>g (norm k d) d ρ fun ρ'=>gs k r ρ' P
 | []=>False
theorem dF:PGs X [] (liftGs gsNil):=PGs.wk pgs_nil (by
 rintro v σ H Q ⟨p,H0,own,ρ,k,ds,P,E,r,t,q⟩
 cases ds with
 | nil=>cases r; exact⟨rfl,q _ _ E t⟩
 | cons d ds=>exact t.elim)
theorem bx {g:DG}{gs:DGs} (h1:PDG X e g) (h2:PGs X es (liftGs gs)) (hs:(assignEach (e::es) X.env).map (·.2)=assign e X.env::(assignEach es X.env).map (·.2):=by rfl):PGs X (e::es) (liftGs (gsCons g gs)):=PGs.wk (pgs_cons h1 h2 hs) (by
 rintro v σ H Q ⟨p,H0,own,ρ,k,ds,P,E,r,t,q⟩
 cases r with
 | nil=>exact t.elim
 | cons r rs =>
  exact⟨_,_,rfl,p,H0,own,ρ,_,_,_,E,gM r,t,fun σ' ρ' E' t'=>⟨p,H0,own,ρ',k,_,P,E',rs,t',q⟩⟩)
noncomputable def gTp (n:Nat) (gs:DGs):DG:=fun k d ρ P=>match d with
 | .tuple ds=>ds.length=n/\gs k ds ρ P
 | _=>False
theorem fP {gs:DGs}{k n:Nat} (hc:X.calm=true) (h:PGs X es (liftGs gs)) (hn:(assignEach es X.env).length=n:=by rfl) (hst:(assignEach es X.env).findIdx? (·.1)=none:=by rfl):PDG X (.Tuple es k pos) (gTp n gs):=PG.wk (pg_tup hc h hn hst) (by
 rintro v σ H Q ⟨p,H0,own,ρ,k,d,P,E,r,t,q⟩
 cases d with
 | tuple ds =>
  obtain⟨a,vs,rfl,ha,rs⟩:=r.eY
  exact⟨a,vs,rfl,SqT.of ha,by rw [rs.length]; exact t.1,p,H0,own,ρ,k,ds,P,E,rs,t.2,q⟩
 | _=>exact t.elim)
end
structure Wlk (Ok:Hp->Prop) (J:It) (ds:List D) (ok:Addr->Prop):Prop where
 go:∀ i H,Ok H->i<ds.length->J.go i H
 stop:∀ H,Ok H->J.stop ds.length H
 yld:∀ i H x H',Ok H->J.yld i H x H'->Same H H'/\∀ d,ds[i]?=some d->Rp ok H' x d
 stab:∀ H H',Ok H->(∀ b o,ok b->H b=some o->H' b=some o)->(∀ a xs,H a=some (.tup xs)->H' a=some (.tup xs))->Ok H'
noncomputable abbrev DI:=List Sl->(Kd->List D->Prop)->Prop
noncomputable def okA (p:Pn) (H0:Hp) (own:Addr->Option Nat) (Hb:Hp) (k:Kd) (H:Hp) (a:Addr):Prop:=okK p H0 own Hb k a/\∃ o,H a=some o
noncomputable def liftI (t:DI):TI:=fun σ H R=>∃ p H0 own ρ P,EnvD p H0 own σ H ρ/\t ρ P/\∀ k ds J H1 Ok,P k ds->At p H0 own H H1->Wlk Ok J ds (okA p H0 own H k H1)->Ok H1->R J H1
noncomputable abbrev PDI (X:Cx) (tg e:Expr) (t:DI):Prop:=PI X tg e (liftI t)
theorem PI.wk {X:Cx}{tg e:Expr}{t t':TI} (h:PI X tg e t) (w:∀ σ H R,t' σ H R->t σ H R):PI X tg e t':=fun pins s σ H R I q=>h pins s σ H R I (w σ H R q)
section
variable {X:Cx}{tg l:Expr}{tl:DE}{pos:Pos}{ta:DA}
theorem walk_lst {K:PySem.W.Frag}{ok:Addr->Prop}{a:Addr}{ds:List D}:Wlk (fun H=>Rp ok H (.ref a) (.list ds)) (Itl K a) ds ok where
 go:=fun i H r hi=>by
  obtain⟨b,vs,e,o,h,rs⟩:=r.dZ
  cases e
  have:i<vs.length:=by rw [rs.length]; exact hi
  exact⟨vs,vs[i],SqL.of h,by simp [this]⟩
 stop:=fun H r=>by
  obtain⟨b,vs,e,o,h,rs⟩:=r.dZ
  cases e
  exact⟨vs,SqL.of h,by rw [rs.length]; exact Nat.le_refl _⟩
 yld:=fun i H x H' r y=>by
  obtain⟨rfl,y⟩:=y
  obtain⟨b,vs,e,o,h,rs⟩:=r.dZ
  cases e
  refine⟨Same.refl _,fun d hd=>?_⟩
  obtain⟨v,hv,rv⟩:=rs.getD hd
  have:=y vs (SqL.of h)
  rw [hv] at this
  cases this
  exact rv
 stab:=fun H H' r f t=>r.cR (fun a o n e=>⟨n,f a o n e⟩) t
theorem walk_tup {K:PySem.W.Frag}{ok:Addr->Prop}{a:Addr}{ds:List D}:Wlk (fun H=>Rp ok H (.ref a) (.tuple ds)) (Itt K a) ds ok where
 go:=fun i H r hi=>by
  obtain⟨b,vs,e,h,rs⟩:=r.eY
  cases e
  have:i<vs.length:=by rw [rs.length]; exact hi
  exact⟨vs,vs[i],SqT.of h,by simp [this]⟩
 stop:=fun H r=>by
  obtain⟨b,vs,e,h,rs⟩:=r.eY
  cases e
  exact⟨vs,SqT.of h,by rw [rs.length]; exact Nat.le_refl _⟩
 yld:=fun i H x H' r y=>by
  obtain⟨rfl,y⟩:=y
  obtain⟨b,vs,e,h,rs⟩:=r.eY
  cases e
  refine⟨Same.refl _,fun d hd=>?_⟩
  obtain⟨v,hv,rv⟩:=rs.getD hd
  have:=y vs (SqT.of h)
  rw [hv] at this
  cases this
  exact rv
 stab:=fun H H' r f t=>r.cR (fun a o n e=>⟨n,f a o n e⟩) t
theorem walk_rng {ok:Addr->Prop}{lo:Int}{n:Nat}:Wlk (fun _=>True) (Itr lo n) ((List.range n).map fun i=>PyData.int (lo+((i:Nat):Int))) ok where
 go:=fun i H r hi=>by
  have h:i<n:=by simpa using hi
  exact h
 stop:=fun H r=>by show n<=_; simp
 yld:=fun i H x H' r y=>by
  obtain⟨rfl,rfl⟩:=y
  refine⟨Same.refl _,fun d hd=>?_⟩
  rw [List.getElem?_map] at hd
  cases h:(List.range n)[i]? with
  | none=>rw [h] at hd; cases hd
  | some j =>
   rw [h] at hd
   have e:=Option.some.inj hd
   have hj:j=i:=by
    have:=List.getElem?_eq_some_iff.mp h
    obtain⟨h1,h2⟩:=this
    simpa using h2.symm
   subst e hj
   exact .int _
 stab:=fun _ _ _ _ _=>trivial
theorem rpA {p:Pn}{H0 Hb H:Hp}{own:Addr->Option Nat}{k:Kd}{v:V}{d:D} (r:Rp (okK p H0 own Hb k) H v d):Rp (okA p H0 own Hb k H) H v d:=r.cR (fun a o n e=>⟨⟨n,o,e⟩,e⟩) fun _ _ e=>e
noncomputable def iSq (tl:DE):DI:=fun ρ P=>tl ρ fun k d=>match d with
 | .list ds=>P k ds
 | .tuple ds=>P k ds
 | _=>False
theorem cg (hl:PD X l tl):PDI X tg l (iSq tl):=PI.wk (pi_seq hl) (by
 rintro σ H R ⟨p,H0,own,ρ,P,E,t,q⟩
 refine⟨p,H0,own,ρ,_,E,t,fun k d v H1 h A r=>?_⟩
 cases d with
 | list ds =>
  obtain⟨a,vs,rfl,o,ha,rs⟩:=r.dZ
  exact⟨a,rfl,.inl ⟨⟨vs,SqL.of ha⟩,q k ds _ H1 _ h A walk_lst (rpA r)⟩⟩
 | tuple ds =>
  obtain⟨a,vs,rfl,ha,rs⟩:=r.eY
  exact⟨a,rfl,.inr ⟨⟨vs,SqT.of ha⟩,q k ds _ H1 _ h A walk_tup (rpA r)⟩⟩
 | _=>exact h.elim)
noncomputable def intsD (lo:Int) (n:Nat):List D:=(List.range n).map fun i=>PyData.int (lo+((i:Nat):Int))
noncomputable def iR1 (ta:DA):DI:=fun ρ P=>ta ρ fun ks=>match ks with
 | [(_,.int j)]=>(-(2 ^ 62)<=j/\j<2 ^ 62)/\P .imm (intsD 0 j.toNat)
 | _=>False
theorem bG {a:Expr}{ps:Pos} (hm:X.mg "range"=none) (ha:PDA X [a] ta) (hg:Gl X "range":=by rfl) (hs:starEach [a] X.env=[(false,eval a X.env)]:=by rfl):PDI X tg (.Call (.Name "range" ps) [a] [] pos) (iR1 ta):=PI.wk (pi_range1 hg hm ha hs) (by
 rintro σ H R ⟨p,H0,own,ρ,P,E,t,q⟩
 refine⟨p,H0,own,ρ,_,E,t,fun ks vs H1 h A r=>?_⟩
 split at h
 ·rename_i k j
  obtain⟨v,rfl,r'⟩:=gK r
  exact⟨j,by rw [r'.int'],h.1.1,h.1.2,q _ _ _ H1 _ h.2 A walk_rng trivial⟩
 ·exact h.elim)
noncomputable def iR2 (ta:DA):DI:=fun ρ P=>ta ρ fun ks=>match ks with
 | [(_,.int i),(_,.int j)]=>(-(2 ^ 62)<=i/\i<2 ^ 62/\-(2 ^ 62)<=j/\j<2 ^ 62)/\P .imm (intsD i (j - i).toNat)
 | _=>False
theorem di_range2 {a b:Expr}{ps:Pos} (hm:X.mg "range"=none) (ha:PDA X [a,b] ta) (hg:Gl X "range":=by rfl) (hs:starEach [a,b] X.env=[(false,eval a X.env),(false,eval b X.env)]:=by rfl) (hs2:starEach [b] X.env=[(false,eval b X.env)]:=by rfl):PDI X tg (.Call (.Name "range" ps) [a,b] [] pos) (iR2 ta):=PI.wk (pi_range2 hg hm ha hs hs2) (by
 rintro σ H R ⟨p,H0,own,ρ,P,E,t,q⟩
 refine⟨p,H0,own,ρ,_,E,t,fun ks vs H1 h A r=>?_⟩
 split at h
 ·rename_i k i k' j
  obtain⟨v,w,rfl,r',r2⟩:=rpk2 r
  exact⟨i,j,by rw [r'.int',r2.int'],h.1,q _ _ _ H1 _ h.2 A walk_rng trivial⟩
 ·exact h.elim)
noncomputable def enumD (ds:List D):List D:=ds.zipIdx.map fun x=>PyData.tuple [.int ((x.2:Nat):Int),x.1]
theorem eN {ds:List D}{i:Nat}:(enumD ds)[i]?=(ds[i]?).map fun d=>PyData.tuple [.int ((i:Nat):Int),d]:=by
 unfold enumD
 rw [List.getElem?_map,List.getElem?_zipIdx]
 cases ds[i]? with
 | none=>rfl
 | some d=>simp
theorem eG {ds:List D}:(enumD ds).length=ds.length:=by unfold enumD; simp
theorem walk_enum {K:PySem.W.Frag}{ok:Addr->Prop}{a:Addr}{ds:List D}:Wlk (fun H=>Rp ok H (.ref a) (.tuple ds)) (Ite K a) (enumD ds) ok where
 go:=fun i H r hi=>by
  obtain⟨b,vs,e,h,rs⟩:=r.eY
  cases e
  have:i<vs.length:=by rw [rs.length]; rw [eG] at hi; exact hi
  exact⟨vs,vs[i],SqT.of h,by simp [this]⟩
 stop:=fun H r=>by
  obtain⟨b,vs,e,h,rs⟩:=r.eY
  cases e
  exact⟨vs,SqT.of h,by rw [rs.length,eG]; exact Nat.le_refl _⟩
 yld:=fun i H x H' r y=>by
  obtain⟨t,v,rfl,ht,rfl,y⟩:=y
  have sm:Same H (upd H t (.tup [.int i,v])):=fun b u q=>by rw [aA (aH q ht)]; exact q
  refine⟨sm,fun d hd=>?_⟩
  obtain⟨b,vs,e,h,rs⟩:=r.eY
  cases e
  rw [eN] at hd
  cases he:ds[i]? with
  | none=>rw [he] at hd; cases hd
  | some d0 =>
   rw [he] at hd
   have e:=Option.some.inj hd
   subst e
   obtain⟨v',hv,rv⟩:=rs.getD he
   have:=y vs (SqT.of h)
   rw [hv] at this
   cases this
   exact .tup aF (.cons (.int _) (.cons (rv.mono (fun _ o=>o) (fun a o _ e=>sm a o e) fun a xs e=>sm a _ e) .nil))
 stab:=fun H H' r f t=>r.cR (fun a o n e=>⟨n,f a o n e⟩) t
noncomputable def iEn (ta:DA):DI:=fun ρ P=>ta ρ fun ks=>match ks with
 | [(k,.tuple ds)]=>P k (enumD ds)
 | _=>False
theorem di_enum {elts:List Expr}{kk:Nat}{tpos:Pos}{a:Expr}{ps:Pos} (hm:X.mg "enumerate"=none) (ha:PDA X [a] ta) (hg:Gl X "enumerate":=by rfl) (hs:starEach [a] X.env=[(false,eval a X.env)]:=by rfl):PDI X (.Tuple elts kk tpos) (.Call (.Name "enumerate" ps) [a] [] pos) (iEn ta):=PI.wk (pi_enum hg hm ha hs) (by
 rintro σ H R ⟨p,H0,own,ρ,P,E,t,q⟩
 refine⟨p,H0,own,ρ,_,E,t,fun ks vs H1 h A r=>?_⟩
 split at h
 ·rename_i k ds
  obtain⟨v,rfl,r'⟩:=gK r
  obtain⟨a,vs,e,ha,rs⟩:=Rp.eY r'
  subst e
  exact⟨a,rfl,⟨vs,SqT.of ha⟩,q k _ _ H1 _ h A walk_enum (rpA r')⟩
 ·exact h.elim)
end
variable [Gr]
noncomputable def elK:Kd->Kd
 | .new=>.snw
 | k=>k
section
variable {X:Cx}{tg iter:Expr}{pos:Pos}{body:List Stmt}{ti:DI}{g:DG}{tb:DS}
noncomputable def dFor (ti:DI) (g:DG) (tb:DS):DS:=fun P ρ=>ti ρ fun k ds=>k.le .shr=true/\∃ Iv:Nat->List Sl->Prop,Iv 0 ρ /\
 (∀ i d ρ',ds[i]?=some d->Iv i ρ'->g (norm (elK k) d) d ρ' fun ρ2=>tb { nx:=Iv (i+1),ct:=Iv (i+1),bk:=P.nx,rt:=P.rt } ρ2)/\∀ ρ',Iv ds.length ρ'->P.nx ρ'
theorem okA_B {p:Pn}{H0 Hb H1 H':Hp}{own own':Addr->Option Nat}{k:Kd} (hk:k.le .shr=true) (A:At p H0 own Hb H1) (F:FrS p own H1 own' H') {v:V}{d:D}{H2:Hp} (r:Rp (okA p H0 own Hb k H1) H2 v d):Rp (okB p H0 own' (elK k)) H2 v d:=by
 refine r.mono (fun a n=>?_) (fun _ _ _ e=>e) fun _ _ e=>e
 obtain⟨o,u,hu⟩:=n
 have o2:¬ p.fp a/\own a=none:=eF A (k:=.shr) hk o
 have f:=(F.keep a u hu o2.1 o2.2).2
 cases k with
 | imm=>exact o
 | new=>exact⟨A.h0 o,o2.1,f⟩
 | reg q=>cases hk
 | n0=>cases hk
 | snw=>exact⟨o.1,o2.1,f⟩
 | shr=>exact⟨o2.1,f⟩
 | wk=>cases hk
theorem bT (hp:PassesOwn (model X.prog X.w) X.A X.env X.xe) (hc:X.calm=true) (hi:PDI X tg iter ti) (hg:PDG X tg g) (hb:lG X body tb) (hs:∀ x,foldedSetIterable iter X.env x=pure x:=by intro _; rfl):PDS X (.For tg iter body [] pos) (dFor ti g tb):=PS.wk' (ps_for hp hc hi hg hb hs) (by
 rintro Q σ H ⟨p,H0,own,ρ,P,E,t,w⟩
 refine⟨p,H0,own,ρ,_,E,t,fun k ds J H1 Ok h A W o1=>?_⟩
 obtain⟨hk,Iv,i0,step,done⟩:=h
 have w1:=w.go A.frs
 have okS:∀ own' H',FrS p own H1 own' H'->Ok H':=fun own' H' F=>W.stab H1 H' o1 (fun b o n e=>by
  have o2:¬ p.fp b/\own b=none:=eF A (k:=.shr) hk n.1
  exact (F.keep b o e o2.1 o2.2).1) F.tup
 refine⟨fun i m σ' H'=>m=ds.length - i/\i<=ds.length/\∃ own' ρ',EnvD p H0 own' σ' H' ρ'/\FrS p own H1 own' H'/\Iv i ρ',⟨_,rfl,Nat.zero_le _,own,ρ,E.go A.kp A.pen,FrS.refl,i0⟩,?_⟩
 rintro i m σ' H' ⟨rfl,hi,own',ρ',E',F',iv⟩
 have oH:=okS own' H' F'
 by_cases hlt:i<ds.length
 ·refine .inr ⟨W.go i H' oH hlt,fun σ2 H2=>∃ own' ρ',EnvD p H0 own' σ2 H2 ρ'/\FrS p own H1 own' H2/\Iv (i+1) ρ',fun σ2 H2 h=>⟨_,by omega,rfl,hlt,h⟩,fun x H2 y=>?_⟩
  obtain⟨sm,rx⟩:=W.yld i H' x H2 oH y
  have rx:=rx ds[i] (List.getElem?_eq_getElem hlt)
  have E2:EnvD p H0 own' σ' H2 ρ':=E'.go (Kp.of sm) (p.mono H' H2 E'.pen fun b o _ e=>sm b o e)
  have F2:FrS p own H1 own' H2:=⟨fun b o e n z=>let ⟨x,y⟩:=F'.keep b o e n z; ⟨sm b o x,y⟩,fun a xs e=>sm a _ (F'.tup a xs e)⟩
  refine⟨p,H0,own',ρ',_,_,_,E2,gM (okA_B hk A F2 rx),step i ds[i] ρ' (List.getElem?_eq_getElem hlt) iv,fun σ3 ρ3 E3 t3=>?_⟩
  have nxt:∀ own4 σ4 H4 ρ4,EnvD p H0 own4 σ4 H4 ρ4->FrS p own' H2 own4 H4->Iv (i+1) ρ4->∃ own' ρ',EnvD p H0 own' σ4 H4 ρ'/\FrS p own H1 own' H4/\Iv (i+1) ρ':=fun own4 σ4 H4 ρ4 E4 F4 v4=>⟨own4,ρ4,E4,F2.trans F4,v4⟩
  exact⟨p,H0,own',ρ3,_,E3,t3,⟨nxt,w.rt,fun o s h r e f n=>w1.nx o s h r e (F2.trans f) n,nxt⟩⟩
 ·have e:i=ds.length:=by omega
  subst e
  exact .inl ⟨W.stop H' oH,w1.nx own' σ' H' ρ' E' F' (done ρ' iv)⟩)
noncomputable def dWhile (tc:DT) (tb:DS):DS:=fun P ρ=>∃ Iv:Nat->List Sl->Prop,(∃ m,Iv m ρ)/\∀ m ρ',Iv m ρ'->tc ρ' fun b =>
 if b=true then tb { nx:=fun ρ2=>∃ m',m'<m/\Iv m' ρ2,ct:=fun ρ2=>∃ m',m'<m/\Iv m' ρ2,bk:=P.nx,rt:=P.rt } ρ' else P.nx ρ'
theorem jK {c:Expr}{tc:DT} (hp:PassesOwn (model X.prog X.w) X.A X.env X.xe) (hc:PDT X c tc) (hb:lG X body tb):PDS X (.While c body [] pos) (dWhile tc tb):=PS.wk' (ps_while hp hc hb) (by
 rintro Q σ H ⟨p,H0,own,ρ,P,E,⟨Iv,⟨m,i0⟩,step⟩,w⟩
 refine⟨fun m σ' H'=>∃ own' ρ',EnvD p H0 own' σ' H' ρ'/\FrS p own H own' H'/\Iv m ρ',⟨m,own,ρ,E,FrS.refl,i0⟩,?_⟩
 rintro m σ1 H1 ⟨own1,ρ1,E1,F1,iv⟩
 refine⟨p,H0,own1,ρ1,_,E1,step m ρ1 iv,fun b H2 h A=>?_⟩
 have F2:=F1.trans A.frs
 cases b with
 | true =>
  refine cD ⟨fun σ' H'=>∃ m',m'<m/\∃ own' ρ',EnvD p H0 own' σ' H' ρ'/\FrS p own H own' H'/\Iv m' ρ',fun σ' H' h=>h,?_⟩
  have nxt:∀ own4 σ4 H4 ρ4,EnvD p H0 own4 σ4 H4 ρ4->FrS p own1 H2 own4 H4->(∃ m',m'<m/\Iv m' ρ4)->∃ m',m'<m/\∃ own' ρ',EnvD p H0 own' σ4 H4 ρ'/\FrS p own H own' H4/\Iv m' ρ':=fun own4 σ4 H4 ρ4 E4 F4 ⟨m',hm,v4⟩=>⟨m',hm,own4,ρ4,E4,F2.trans F4,v4⟩
  exact⟨p,H0,own1,ρ1,{ nx:=fun ρ2=>∃ m',m'<m/\Iv m' ρ2,ct:=fun ρ2=>∃ m',m'<m/\Iv m' ρ2,bk:=P.nx,rt:=P.rt },E1.go A.kp A.pen,by simpa using h,⟨nxt,w.rt,fun o s h r e f n=>w.nx o s h r e (F2.trans f) n,nxt⟩⟩
 | false=>exact bA (w.nx own1 σ1 H2 ρ1 (E1.go A.kp A.pen) F2 (by simpa using h)))
end
theorem EnvD.comp {p:Pn}{H0 H:Hp}{own:Addr->Option Nat}{σ:L2.St}{ρ:List Sl} (n:Nat) (E:EnvD p H0 own σ H ρ):EnvD p H0 own (List.replicate n none++σ) H (List.replicate n .any++ρ):=by
 refine⟨E.k0,E.pen,E.ow,fun j s e=>?_,by simp [E.len],E.gr⟩
 by_cases hj:j<n
 ·rw [List.getElem?_append_left (by simpa using hj)] at e
  have:s=.any:=by
   rw [List.getElem?_replicate] at e
   rw [if_pos hj] at e
   exact (Option.some.inj e).symm
  subst this
  trivial
 ·have e1:(List.replicate n Sl.any++ρ)[j]?=ρ[j - n]?:=by rw [List.getElem?_append_right (by simpa using hj)]; simp
  have e2:(List.replicate n (none:Option V)++σ)[j]?=σ[j - n]?:=by rw [List.getElem?_append_right (by simpa using hj)]; simp
  rw [e1] at e
  have q:=E.slot _ s e
  cases s <;> simp only [jQ,e2] at q ⊢ <;> exact q
noncomputable abbrev PDTs (X:Cx) (es:List Expr) (t:DT):Prop:=PTs X es (liftT t)
theorem j8 {X:Cx}:PDTs X [] (fun _ P=>P true):=fun pins s σ H Q I h=>by
 obtain⟨p,H0,own,ρ,P,E,t,q⟩:=h
 exact pts_nil pins s σ H Q I (q true H t E.at)
theorem cT {X:Cx}{c:Expr}{t:DT} (hc:PDT X c t):PDTs X [c] t:=pts_one hc
noncomputable def elC (k:Kd):Kd:=elK k
noncomputable def dLC (n:Nat) (ti:DI) (g:DG) (tt:DT) (te:DE):DE:=fun ρ P=>ti ρ fun k ds=>ds.length<=1000/\∃ (ke:Kd) (Iv:Nat->List D->Prop),Iv 0 [] /\
 (∀ i d ys,ds[i]?=some d->Iv i ys->g (norm (elC k) d) d (List.replicate n .any++ρ) fun ρ'=>tt ρ' fun b=>if b=true then te ρ' fun k' d'=>(norm k' d').le ke=true/\Iv (i+1) (ys++[d']) else Iv (i+1) ys) /\
 ∀ ys,Iv ds.length ys->P (ke.join .new) (.list ys)
theorem okA_C {p:Pn}{H0 Hb H1:Hp}{own:Addr->Option Nat}{k:Kd} (A:At p H0 own Hb H1) {v:V}{d:D}{H2:Hp} (r:Rp (okA p H0 own Hb k H1) H2 v d):Rp (okB p H0 own (elC k)) H2 v d:=by
 refine r.mono (fun a n=>?_) (fun _ _ _ e=>e) fun _ _ e=>e
 obtain⟨o,u,hu⟩:=n
 cases k with
 | imm=>exact o
 | new=>exact⟨A.h0 o,A.nfb o,A.own0 o⟩
 | reg q=>exact o
 | n0=>trivial
 | snw=>exact o
 | shr=>exact o
 | wk=>trivial
section
variable {X:Cx}{own:List Str}{scope:Scope}{tg iter elt:Expr}{ifs:List Expr}{pos:Pos}{ti:DI}{g:DG}{tt:DT}{te:DE}
theorem lift_lc {n:Nat}:∀ σ H Q,bM (dLC n ti g tt te) σ H Q->tLC n (liftI ti) (fun _=>liftG g) (fun _=>liftT tt) (fun _=>bM te) σ H Q:=by
 rintro σ H Q ⟨p,H0,own,ρ,P,E,t,q⟩
 refine⟨p,H0,own,ρ,_,E,t,fun k ds J H1 Ok h A W o1=>?_⟩
 obtain⟨hlen,ke,Iv,i0,step,done⟩:=h
 have okS:∀ H',Kp p H1 H'->p.PI H'->Ok H':=fun H' K i=>W.stab H1 H' o1 (fun b o n e=>K b o e (mL A n.1)) (iW A K)
 refine⟨fun i m ys H'=>m=ds.length - i/\i<=ds.length/\Kp p H1 H'/\p.PI H'/\∃ es,Rps (okK p H0 own H ke) H' ys es/\es.length<=i/\Iv i es,⟨_,rfl,Nat.zero_le _,Kp.refl,A.pen,[],.nil,Nat.le_refl _,i0⟩,?_⟩
 rintro c i m ys H' ⟨rfl,hi,K',I',es,rs,hl,iv⟩
 have oH:=okS H' K' I'
 have A':=A.go K' I'
 have h24:=sizeLine_eq
 by_cases hlt:i<ds.length
 ·refine .inr ⟨W.go i H' oH hlt,by have:=rs.length; omega,fun ys' H2=>Kp p H1 H2/\p.PI H2/\∃ es,Rps (okK p H0 own H ke) H2 ys' es/\es.length<=i+1/\Iv (i+1) es,fun ys' H2 h=>⟨_,by omega,rfl,hlt,h⟩,fun x H2 y=>?_⟩
  obtain⟨sm,rx⟩:=W.yld i H' x H2 oH y
  have rx:=rx ds[i] (List.getElem?_eq_getElem hlt)
  have I2:p.PI H2:=p.mono H' H2 I' fun b o _ e=>sm b o e
  have K2:Kp p H1 H2:=K'.trans (Kp.of sm)
  have A2:=A.go K2 I2
  have E2:EnvD p H0 own σ H2 ρ:=E.go A2.kp A2.pen
  have rs2:=dO A' (Kp.of sm) rs
  refine⟨p,H0,own,_,_,_,_,E2.comp n,gM (okA_C A rx),step i ds[i] es (List.getElem?_eq_getElem hlt) iv,fun σ3 ρ3 E3 t3=>?_⟩
  refine⟨p,H0,own,ρ3,_,E3,t3,fun b H4 h4 A4=>?_⟩
  have A5:At p H0 own H H4:=A2.base A4
  have rs4:=dO A2 A4.kp rs2
  cases b with
  | true =>
   refine cD ⟨p,H0,own,ρ3,_,E3.go A4.kp A4.pen,by simpa using h4,fun k' d' v H6 h6 A6 r6=>?_⟩
   refine⟨(K2.trans A4.kp).trans A6.kp,A6.pen,es++[d'],(dO A5 A6.kp rs4).snoc (kY (A5.base A6) h6.1 (bU (lX A5 r6))),by simp; omega,h6.2⟩
  | false=>exact bA ⟨K2.trans A4.kp,A4.pen,es,rs4,by omega,by simpa using h4⟩
 ·have e:i=ds.length:=by omega
  subst e
  refine .inl ⟨W.stop H' oH,fun l hl'=>?_⟩
  obtain⟨k7,i7,nw⟩:=A'.new hl' (.lst ys)
  have j:=iT ke .new
  refine q _ _ _ _ (done es iv) (A'.go k7 i7) (.lst (eF A' j.2 nw) aF ?_)
  exact (dO A' k7 rs).mono (fun a o=>eF A' j.1 o) (fun _ _ _ e=>e) fun _ _ e=>e
theorem fX (own:List Str) (hc:X.calm=true) (hi:PDI X tg iter ti) (hg:∀ c,PDG (X.comp own scope c) tg g) (ht:∀ c,PDTs (X.comp own scope c) ifs tt) (he:∀ c,PD (X.comp own scope c) elt te)
  (hk:fB X.env scope X.N=true:=by rfl) (hs:∀ x,foldedSetIterable iter X.env x=pure x:=by intro _; rfl) :
  PD X (.ListComp elt [⟨tg,iter,ifs,0⟩] scope pos) (dLC own.length ti g tt te):=PE.wk (pe_lc own hc hi hg ht he hk hs) lift_lc
end
noncomputable def dI (d:D):Sl:=if fQ d then .im d else .sh d
theorem env_start {p:Pn}{H:Hp}{N:List Str}{vs:List V}{ds:List D} (g:Gr.G p H) (hp:p.PI H) (r:Rps (fun a=>¬ p.fp a) H vs ds):EnvD p H (fun _=>none) (L2.start N vs) H (ds.map dI++List.replicate (N.length - vs.length) .any):=by
 refine⟨fun _ _ e _=>e,hp,(fun _ _ e=>nomatch e),fun j s e=>?_,by unfold L2.start; simp [r.length],g⟩
 by_cases hj:j<ds.length
 ·rw [List.getElem?_append_left (by simpa using hj),List.getElem?_map] at e
  obtain⟨v,hv,rv⟩:=r.getD (List.getElem?_eq_getElem hj)
  rw [List.getElem?_eq_getElem hj] at e
  have e:=Option.some.inj e
  have hs:(L2.start N vs)[j]?=some (some v):=by
   unfold L2.start
   rw [List.getElem?_append_left (by rw [List.length_map,r.length]; exact hj),List.getElem?_map,hv]
   rfl
  subst e
  unfold dI
  by_cases hi:fQ ds[j]=true
  ·rw [if_pos hi]; exact⟨v,hs,rv.imm hi⟩
  ·rw [if_neg hi]; exact⟨v,hs,rv.mono (fun _ o=>⟨o,rfl⟩) (fun _ _ _ e=>e) fun _ _ e=>e⟩
 ·rw [List.getElem?_append_right (by simpa using hj),List.getElem?_replicate] at e
  split at e
  ·cases e; trivial
  ·cases e
theorem enterD {f:List D->(D->Prop)->Prop}{T:DS}{N:List Str}{vs:List V}{H:Hp}{Q:VK}{E:XK} (h:spD f vs H Q E)
  (body:∀ ds P,f ds P->T { nx:=fun _=>P .none,rt:=P } (ds.map dI++List.replicate (N.length - ds.length) .any)) (g:Gr.G noPen H:=by trivial):liftS T { nx:=fun _ H'=>Q .non H',rt:=Q } (L2.start N vs) H:=by
 obtain⟨ds,P,r,t,q⟩:=h
 have E:=env_start (p:=noPen) (N:=N) g trivial (r.mono (ok':=fun a=>¬ noPen.fp a) (fun _ _ z=>z) (fun _ _ _ e=>e) fun _ _ e=>e)
 rw [r.length] at E
 have sm:∀ H',(∀ b o,H b=some o->¬ noPen.fp b->H' b=some o)->Same H H':=fun H' k b o e=>k b o e fun z=>z
 refine⟨noPen,H,fun _=>none,_,_,E,body ds P t,⟨fun o s h' r' e' _ n=>q _ _ h' n (sm h' e'.k0) .non,fun d v h' n w=>q d v h' n (sm h' w.k0) (w.rp.mono (fun _ o=>o.1) (fun _ _ _ e=>e) fun _ _ e=>e),fun _ _ _ _ _ _ n=>n.elim,fun _ _ _ _ _ _ n=>n.elim⟩⟩
theorem enterP {C:Pn->Prop}{f:List D->(D->Prop)->Prop}{T:DS}{N:List Str}{vs:List V}{H:Hp}{Q:VK}{E:XK} (h:spP C f vs H Q E)
  (body:∀ ds P,f ds P->T { nx:=fun _=>P .none,rt:=P } (.pen C::(ds.map dI++List.replicate (N.length - (ds.length+1)) .any))) (g:∀ p,Gr.G p H:=by intro _; trivial):liftS T { nx:=fun _ H'=>Q .non H',rt:=Q } (L2.start N vs) H:=by
 obtain⟨p,vs',ds,P,c,rfl,pi,r,t,q⟩:=h
 have E0:=env_start (p:=p) (N:=N.drop 1) (g p) pi r
 have E:EnvD p H (fun _=>none) (L2.start N (p.pv::vs')) H (.pen C::(ds.map dI++List.replicate (N.length - (ds.length+1)) .any)):=by
  refine⟨fun _ _ e _=>e,pi,(fun _ _ e=>nomatch e),fun j s e=>?_,by unfold L2.start; simp [r.length],g p⟩
  cases j with
  | zero =>
   have e:=Option.some.inj e
   subst e
   exact⟨rfl,c⟩
  | succ j =>
   rw [List.getElem?_cons_succ] at e
   have hl:N.length - (ds.length+1)=(N.drop 1).length - vs'.length:=by rw [r.length,List.length_drop]; omega
   rw [hl] at e
   have q:=E0.slot j s e
   have es:(L2.start N (p.pv::vs'))[j+1]?=(L2.start (N.drop 1) vs')[j]?:=by
    unfold L2.start
    have:N.length - (p.pv::vs').length=(N.drop 1).length - vs'.length:=by rw [List.length_drop,List.length_cons]; omega
    rw [this]
    simp
   cases s <;> simp only [jQ,es] at q ⊢ <;> exact q
 have nw:∀ {H' v d},RPost p H H' v d->Rp (fun a=>H a=none) H' v d:=fun w=>w.rp.mono (fun _ o=>o.1) (fun _ _ _ e=>e) fun _ _ e=>e
 exact⟨p,H,fun _=>none,_,_,E,body ds P t,⟨fun o s h' r' e' _ n=>q _ _ h' n e'.k0 e'.pen .non,fun d v h' n w=>q d v h' n w.k0 w.pen (nw w),fun _ _ _ _ _ _ n=>n.elim,fun _ _ _ _ _ _ n=>n.elim⟩⟩
end Dl
namespace PySem
open PyProof.Rows
noncomputable abbrev zipO (f0:Value) (q:Bool) (TI TO:Addr):Obj:={ cls:=.type "zip",data:=.fields #[f0,.bool q,.bool false,.ref TI,.ref TO] }
section
variable {prog:Program}{w:World}{A:Around}{E:Value->Shared->Prop}{s:Shared}
structure ZSt (z TI TO i1 i2 l1 l2:Addr) (xs ys:Array Value) (i:Nat) (h:Heap):Prop where
 zip:(i=0/\h.get? z=some (zipO .none false TI TO))\/∃ (T:Addr) (q:Bool) (oT:Obj),h.get? z=some (zipO (rawInt T) q TI TO)/\h.get? T=some oT/\T≠z/\T≠i1/\T≠i2
 ti:h.get? TI=some { cls:=.type "tuple",data:=.seq #[.ref i1,.ref i2] }
 to:∃ a b,h.get? TO=some { cls:=.type "tuple",data:=.seq #[a,b] }
 j1:h.IsListIter i1 l1 i
 j2:h.IsListIter i2 l2 i
 e1:h.IsList l1 xs
 e2:h.IsList l2 ys
variable {z TI TO i1 i2 l1 l2:Addr}{xs ys:Array Value}
end
section
variable {prog:Program}{w:World}{A:Around}{z TI TO i1 i2 l1 l2:Addr}{xs ys:Array Value}{R:Result->Shared->Prop}
end
end PySem
namespace L2
open PySem PySem.Spec PyProof.Rows
section
variable {X:Cx}{pins:List (Addr×Obj)}{σ:L2.St}{H:Hp}{s:Shared}
end
end L2
namespace Dl
open PySem L2 PyProof.Rows
variable [Gr]
section
variable {X:Cx}{pos:Pos}{a b c e:Expr}{es:List Expr}{ta tb tc te:DE}{t:DA}
noncomputable def newP (k:Kd) (ds:List D) (P:Kd->Prop):Prop:=(gk ds=true/\P .new)\/P (k.join .new)
theorem newP_ok {p:Pn}{H0 Hb H H2:Hp}{own:Addr->Option Nat} (A:At p H0 own Hb H) {k:Kd}{vs:List V}{ds:List D}{P:Kd->Prop}{l:Addr} (r:Rps (okK p H0 own Hb k) H2 vs ds) (nw:okK p H0 own Hb .new l) (hl:H2 l=some (.lst vs)) (h:newP k ds P):∃ k',P k'/\Rp (okK p H0 own Hb k') H2 (.ref l) (.list ds):=by
 rcases h with ⟨i,h⟩ | h
 ·exact⟨_,h,.lst nw hl ((Rps.imm r i).mono (fun _ o=>o.elim) (fun _ _ _ e=>e) fun _ _ e=>e)⟩
 ·exact⟨_,h,.lst (eF A (iT k .new).2 nw) hl (r.mono (fun a o=>eF A (iT k .new).1 o) (fun _ _ _ e=>e) fun _ _ e=>e)⟩
theorem imm_ints:∀ l:List Int,gk (l.map PyData.int)=true
 | []=>rfl
 | x::l=>by
  show (fQ (.int x)&&gk (l.map PyData.int))=true
  rw [imm_ints l]
  rfl
theorem imm_pairs:∀ l:List Tie,gk (l.map pD)=true
 | []=>rfl
 | x::l=>by
  show (fQ (pD x)&&gk (l.map pD))=true
  rw [imm_pairs l]
  rfl
noncomputable def prD (p:D×D):D:=.tuple [p.1,p.2]
noncomputable def gZip:GC:=fun ks P=>match ks with
 | [(k1,.list ds),(k2,.list es)]=>ds.length<=1000/\newP (k1.join k2) ((ds.zip es).map prD) fun k=>P k (.list ((ds.zip es).map prD))
 | _=>False
noncomputable def tCh (f g:Int->Int->Bool) (ta tb tc:DE):DE:=fun ρ P=>ta ρ fun _ d1=>tb ρ fun _ d2=>match d1,d2 with
 | .int i,.int j=>if f i j=true then tc ρ fun _ d3=>(match d3 with
   | .int l=>P .imm (.bool (g j l))
   | _=>False) else P .imm (.bool false)
 | _,_=>False
theorem lift_ch {f g:Int->Int->Bool}:∀ σ H Q,bM (tCh f g ta tb tc) σ H Q->tChain (rI0 fun i j=>.bl (f i j)) (rI0 fun i j=>.bl (g i j)) (bM ta) (bM tb) (bM tc) σ H Q:=by
 rintro σ H Q ⟨p,H0,own,ρ,P,E,t,q⟩
 refine⟨p,H0,own,ρ,_,E,t,fun k1 d1 v1 H1 t1 A1 r1=>?_⟩
 refine⟨p,H0,own,ρ,_,E.go A1.kp A1.pen,t1,fun k2 d2 v2 H2 t2 A2 r2=>?_⟩
 have A:=A1.base A2
 split at t2
 ·rename_i i j
  refine⟨i,j,r1.int',r2.int',_,rfl,?_⟩
  cases hf:f i j with
  | true =>
   rw [hf,if_pos rfl] at t2
   refine cD ⟨p,H0,own,ρ,_,(E.go A1.kp A1.pen).go A2.kp A2.pen,t2,fun k3 d3 v3 H3 t3 A3 r3=>?_⟩
   cases d3 with
   | int l=>exact⟨j,l,r2.int',r3.int',q _ _ _ _ t3 (A.base A3) (.bl _)⟩
   | _=>exact t3.elim
  | false =>
   rw [hf,if_neg Bool.false_ne_true] at t2
   exact bA (q _ _ _ _ t2 A (.bl _))
 ·exact t2.elim
theorem pd_chLL (ha:PD X a ta) (hb:PD X b tb) (hc:PD X c tc) (hm:lastMarks [.LtE,.Lt] [b,c]=false:=by with_unfolding_all rfl):PD X (.Compare a [.LtE,.Lt] [b,c] pos) (tCh (fun i j=>decide (i<=j)) (fun i j=>decide (i<j)) ta tb tc):=PE.wk (pe_chain op_le op_lt ha hb hc hm) lift_ch
theorem pdt_chain {op op':CmpOp}{r r':R2}{g:DE} (h:PT X (.Compare a [op,op'] [b,c] pos) (tTest (tChain r r' (bM ta) (bM tb) (bM tc)))) (w:∀ σ H Q,bM g σ H Q->tChain r r' (bM ta) (bM tb) (bM tc) σ H Q):PDT X (.Compare a [op,op'] [b,c] pos) (dM g) :=
 PT.wk h fun σ H Q q=>w σ H _ (lift_tst σ H Q q)
noncomputable def tNotD (ta:DE):DE:=fun ρ P=>ta ρ fun _ d=>match d with
 | .bool b=>P .imm (.bool (!b))
 | _=>False
theorem pd_not (ha:PD X a ta):PD X (.UnaryOp .Not a pos) (tNotD ta):=PE.wk (pe_not ha) (by
 rintro σ H Q ⟨p,H0,own,ρ,P,E,t,q⟩
 refine⟨p,H0,own,ρ,_,E,t,fun k d v H' h A r=>?_⟩
 cases d with
 | bool b=>exact⟨b,r.bl',q _ _ _ _ h A (.bl _)⟩
 | _=>exact h.elim)
noncomputable def tAndD (ta tb:DE):DE:=fun ρ P=>ta ρ fun _ d=>match d with
 | .bool b=>if b=true then tb ρ P else P .imm (.bool false)
 | _=>False
theorem pd_one {op} (h:PD X a ta):PD X (.BoolOp op [a] pos) ta:=pe_one h
theorem jy {rest:List Expr} (ha:PD X a ta) (hb:PD X (.BoolOp .And (b::rest) pos) tb):PD X (.BoolOp .And (a::b::rest) pos) (tAndD ta tb):=PE.wk (pe_and ha hb) (by
 rintro σ H Q ⟨p,H0,own,ρ,P,E,t,q⟩
 refine⟨p,H0,own,ρ,_,E,t,fun k d v H' h A r=>?_⟩
 cases d with
 | bool b =>
  refine⟨b,r.bl',?_⟩
  cases b with
  | true=>exact cD ⟨p,H0,own,ρ,P,E.go A.kp A.pen,by simpa using h,fun k d v H2 h2 A2 r2=>q k d v H2 h2 (A.base A2) (lX A r2)⟩
  | false=>exact bA (q _ _ _ _ (by simpa using h) A (.bl _))
 | _=>exact h.elim)
noncomputable def tIfD (tc:DT) (ta tb:DE):DE:=fun ρ P=>tc ρ fun b=>if b=true then ta ρ P else tb ρ P
theorem mG {u:DT} (hc:PDT X c u) (ha:PD X a ta) (hb:PD X b tb):PD X (.IfExp c a b pos) (tIfD u ta tb):=PE.wk (pe_ifExp hc ha hb) (by
 rintro σ H Q ⟨p,H0,own,ρ,P,E,t,q⟩
 refine⟨p,H0,own,ρ,_,E,t,fun b H' h A=>?_⟩
 have nx:∀ k d v H2,P k d->At p H0 own H' H2->Rp (okK p H0 own H' k) H2 v d->Q v H2:=fun k d v H2 h2 A2 r2=>q k d v H2 h2 (A.base A2) (lX A r2)
 cases b with
 | true=>exact cD ⟨p,H0,own,ρ,P,E.go A.kp A.pen,by simpa using h,nx⟩
 | false=>exact bA ⟨p,H0,own,ρ,P,E.go A.kp A.pen,by simpa using h,nx⟩)
noncomputable def tyD:D->String
 | .none=>"NoneType"
 | .bool _=>"bool"
 | .int _=>"int"
 | .str _=>"str"
 | .list _=>"list"
 | .tuple _=>"tuple"
 | .dict _=>"dict"
noncomputable def isT (c:String) (d:D):Bool:=tyD d == c || (c == "int"&&tyD d == "bool")
noncomputable def tIs (c:String) (te:DE):DE:=fun ρ P=>te ρ fun _ d=>P .imm (.bool (isT c d))
theorem cN {T:String}{x:Str}{ps pt:Pos} (hk:∀ t:Value,(t=.type "NoneType"\/t=.type "bool"\/t=.type "int"\/t=.type "str"\/t=.type "list"\/t=.type "tuple"\/t=.type "dict")->∃ n,t=.type n/\PySem.W.kitOne X.K t (.type T)=some (n == T || (T == "int"&&n == "bool")))
  (hm:X.mg "isinstance"=none) (he:PD X e te) (hT:PE X (.Name x pt) (tC (.ty T))) (hg:Gl X "isinstance":=by rfl) (h1:starEach [e,.Name x pt] X.env=(false,eval e X.env)::starEach [.Name x pt] X.env:=by rfl) (h2:starEach [.Name x pt] X.env=(false,eval (.Name x pt) X.env)::starEach [] X.env:=by rfl) (hpl:(backTo pos (starEach [.Name x pt] X.env)).any (·.1)=false:=by rfl) :
  PD X (.Call (.Name "isinstance" ps) [e,.Name x pt] [] pos) (tIs T te):=PE.wk (dB call_isinst1 hg hm boot_isinstance (bK he (bK hT dG h2) h1) (by decide) (by decide) h1 hpl) (by
 rintro σ H Q ⟨p,H0,own,ρ,P,E,t,q⟩
 refine⟨p,H0,own,ρ,_,E,t,fun k d v H' h A r=>?_⟩
 have fin:∀ n,TyOf X.K H' v (.type n)->n=tyD d->∃ x' c' t' b,[v,V.ty T]=[x',.ty c']/\TyOf X.K H' x' t'/\PySem.W.kitOne X.K t' (.type c')=some b/\Q (.bl b) H':=fun n ty en=>by
  obtain⟨n',e,hk'⟩:=hk (.type n) (by rw [en]; cases d <;> simp [tyD])
  cases e
  refine⟨v,T,.type n,_,rfl,ty,hk',?_⟩
  rw [en]
  exact q _ _ _ _ h A (.bl _)
 show ∃ x' c' t' b,_/\_
 cases r with
 | non=>exact fin _ .non rfl
 | bl b=>exact fin _ (.bl b) rfl
 | int i=>exact fin _ (.int i) rfl
 | str x=>exact fin _ (.str x) rfl
 | lst o hh rr=>exact fin _ (.lst hh) rfl
 | tup hh rr=>exact fin _ (.tup hh) rfl
 | dct o hh rr=>exact fin _ (.dK hh) rfl)
theorem kit_int {K:PySem.W.Frag}:∀ t:Value,(t=.type "NoneType"\/t=.type "bool"\/t=.type "int"\/t=.type "str"\/t=.type "list"\/t=.type "tuple"\/t=.type "dict")->∃ n,t=.type n/\PySem.W.kitOne K t (.type "int")=some (n == "int" || ("int" == "int"&&n == "bool")):=by
 rintro t (rfl | rfl | rfl | rfl | rfl | rfl | rfl) <;> exact⟨_,rfl,rfl⟩
theorem kit_bool {K:PySem.W.Frag}:∀ t:Value,(t=.type "NoneType"\/t=.type "bool"\/t=.type "int"\/t=.type "str"\/t=.type "list"\/t=.type "tuple"\/t=.type "dict")->∃ n,t=.type n/\PySem.W.kitOne K t (.type "bool")=some (n == "bool" || ("bool" == "int"&&n == "bool")):=by
 rintro t (rfl | rfl | rfl | rfl | rfl | rfl | rfl) <;> exact⟨_,rfl,rfl⟩
theorem kit_list {K:PySem.W.Frag}:∀ t:Value,(t=.type "NoneType"\/t=.type "bool"\/t=.type "int"\/t=.type "str"\/t=.type "list"\/t=.type "tuple"\/t=.type "dict")->∃ n,t=.type n/\PySem.W.kitOne K t (.type "list")=some (n == "list" || ("list" == "int"&&n == "bool")):=by
 rintro t (rfl | rfl | rfl | rfl | rfl | rfl | rfl) <;> exact⟨_,rfl,rfl⟩
theorem kit_tuple {K:PySem.W.Frag}:∀ t:Value,(t=.type "NoneType"\/t=.type "bool"\/t=.type "int"\/t=.type "str"\/t=.type "list"\/t=.type "tuple"\/t=.type "dict")->∃ n,t=.type n/\PySem.W.kitOne K t (.type "tuple")=some (n == "tuple" || ("tuple" == "int"&&n == "bool")):=by
 rintro t (rfl | rfl | rfl | rfl | rfl | rfl | rfl) <;> exact⟨_,rfl,rfl⟩
theorem kit_str {K:PySem.W.Frag}:∀ t:Value,(t=.type "NoneType"\/t=.type "bool"\/t=.type "int"\/t=.type "str"\/t=.type "list"\/t=.type "tuple"\/t=.type "dict")->∃ n,t=.type n/\PySem.W.kitOne K t (.type "str")=some (n == "str" || ("str" == "int"&&n == "bool")):=by
 rintro t (rfl | rfl | rfl | rfl | rfl | rfl | rfl) <;> exact⟨_,rfl,rfl⟩
noncomputable def gAll:GC:=fun ks P=>match ks with
 | [(_,.list ds)]=>∃ bs:List Bool,ds=bs.map PyData.bool/\P .imm (.bool (bs.all id))
 | _=>False
noncomputable def gMM (f:Int->Int->Int):GC:=fun ks P=>match ks with
 | [(_,.int i),(_,.int j)]=>P .imm (.int (f i j))
 | _=>False
theorem pd_max2 {ps:Pos} (hc:X.calm=true) (hm:X.mg "max"=none) (ha:PDA X [a,b] t) (hg:Gl X "max":=by rfl) (he:starEach [a,b] X.env=(false,eval a X.env)::starEach [b] X.env:=by rfl) (hpl:(backTo pos (starEach [b] X.env)).any (·.1)=false:=by rfl):PD X (.Call (.Name "max" ps) [a,b] [] pos) (tCl (gMM fun i j=>if j > i then j else i) t) :=
 fM (call_max2 hc) (by
  intro p H0 own Hb H vs ks P Q A r t q
  unfold gMM at t
  split at t
  ·rename_i k i k' j
   obtain⟨v,w,rfl,r1,r2⟩:=rpk2 r
   rw [Rp.int' r1,Rp.int' r2]
   exact⟨i,j,rfl,q _ _ _ _ t Kp.refl A.pen (.int _)⟩
  ·exact t.elim) hg hm boot_max ha (by decide) (by decide) he hpl
noncomputable def gLst:GC:=fun ks P=>match ks with
 | [(k,.list ds)]=>newP k ds fun k'=>P k' (.list ds)
 | [(k,.tuple ds)]=>newP k ds fun k'=>P k' (.list ds)
 | _=>False
noncomputable def gTup':GC:=fun ks P=>match ks with
 | [(k,.list ds)]=>P (norm k (.tuple ds)) (.tuple ds)
 | [(k,.tuple ds)]=>P (norm k (.tuple ds)) (.tuple ds)
 | _=>False
theorem jZ {ps:Pos} (hm:X.mg "tuple"=none) (ha:PDA X [a] t) (hg:Gl X "tuple":=by rfl) (he:starEach [a] X.env=(false,eval a X.env)::starEach [] X.env:=by rfl) (hpl:(backTo pos (starEach [] X.env)).any (·.1)=false:=by rfl):PD X (.Call (.Name "tuple" ps) [a] [] pos) (tCl gTup' t) :=
 pd_callT call_tuple_of (by
  intro p H0 own Hb H vs ks P Q A r t q
  unfold gTup' at t
  split at t
  ·rename_i k ds
   obtain⟨v,rfl,r'⟩:=gK r
   obtain⟨x,xs,e1,o1,h1,rs1⟩:=Rp.dZ r'
   subst e1
   refine⟨x,xs,rfl,.inl ⟨SqL.of h1,fun l hl=>?_⟩⟩
   obtain⟨k2,i2,nw⟩:=A.new hl (.tup xs)
   exact q _ _ _ _ t k2 i2 (bU (.tup aF (dO A k2 rs1)))
  ·rename_i k ds
   obtain⟨v,rfl,r'⟩:=gK r
   obtain⟨x,xs,e1,h1,rs1⟩:=Rp.eY r'
   subst e1
   exact⟨x,xs,rfl,.inr ⟨SqT.of h1,q _ _ _ _ t Kp.refl A.pen (bU r')⟩⟩
  ·exact t.elim) hg hm boot_tuple ha (by decide) (by decide) he hpl
noncomputable def gSortI:GC:=fun ks P=>match ks with
 | [(_,.list ds)]=>∃ ns:List Int,ds=ns.map PyData.int/\ns.length<64/\∀ out:List Int,out.Perm ns->out.Pairwise (·<=·)->P .new (.list (out.map PyData.int))
 | _=>False
theorem fL {ps:Pos} (hm:X.mg "sorted"=none) (ha:PDA X [a] t) (hg:Gl X "sorted":=by rfl) (he:starEach [a] X.env=(false,eval a X.env)::starEach [] X.env:=by rfl) (hpl:(backTo pos (starEach [] X.env)).any (·.1)=false:=by rfl):PD X (.Call (.Name "sorted" ps) [a] [] pos) (tCl gSortI t) :=
 fM call_sortedI (by
  intro p H0 own Hb H vs ks P Q A r t q
  unfold gSortI at t
  split at t
  ·obtain⟨ns,rfl,hl,t⟩:=t
   obtain⟨v,rfl,r'⟩:=gK r
   obtain⟨x,xs,e1,o1,h1,rs1⟩:=Rp.dZ r'
   subst e1
   have e2:=Rps.ints rs1
   subst e2
   refine⟨x,ns,rfl,SqL.of h1,hl,fun l out hl' hp hs=>?_⟩
   obtain⟨k2,i2,nw⟩:=A.new hl' (.lst (out.map V.int))
   exact q _ _ _ _ (t out hp hs) k2 i2 (.lst nw aF (Rps.ofMap (fun i=>.int i) out))
  ·exact t.elim) hg hm boot_sorted ha (by decide) (by decide) he hpl
noncomputable def gSortP:GC:=fun ks P=>match ks with
 | [(_,d)]=>∃ ts:List Tie,(d=.list (ts.map pD)\/d=.tuple (ts.map pD))/\ts.length<64/\(∀ t∈ts,Nice t)/\∀ us:List Tie,us.Perm ts->us.Pairwise (fun a b=>cj a<=cj b)->P .new (.list (us.map pD))
 | _=>False
theorem Rps.prs {ok:Addr->Prop}{H:Hp}:∀ {vs:List V}{ts:List Tie},Rps ok H vs (ts.map pD)->Prs H vs ts
 | [],[],_=>.nil
 | _,t::ts,.cons h r=>by
  obtain⟨x,xs,e,hx,rs⟩:=Rp.eY h
  obtain⟨v1,v2,e2,q1,q2⟩:=Rps.two rs
  subst e e2
  rw [q1.int',q2.int'] at hx
  exact .cons ⟨x,rfl,hx⟩ (Rps.prs r)
theorem Prs.rps {ok:Addr->Prop}{H:Hp}:∀ {vs:List V}{ts:List Tie},Prs H vs ts->Rps ok H vs (ts.map pD)
 | _,_,.nil=>.nil
 | _,_,.cons r t=>by
  obtain⟨x,e,hx⟩:=r
  subst e
  exact .cons (.tup hx (.cons (.int _) (.cons (.int _) .nil))) (Prs.rps t)
theorem pd_sortP {ps:Pos} (hm:X.mg "sorted"=none) (ha:PDA X [a] t) (hg:Gl X "sorted":=by rfl) (he:starEach [a] X.env=(false,eval a X.env)::starEach [] X.env:=by rfl) (hpl:(backTo pos (starEach [] X.env)).any (·.1)=false:=by rfl):PD X (.Call (.Name "sorted" ps) [a] [] pos) (tCl gSortP t) :=
 fM call_sortedP (by
  intro p H0 own Hb H vs ks P Q A r t q
  unfold gSortP at t
  split at t
  ·obtain⟨ts,hd,hl,hn,t⟩:=t
   obtain⟨v,rfl,r'⟩:=gK r
   have fin:∀ l ws us,H l=none->Prs H ws us->us.Perm ts->us.Pairwise (fun a b=>cj a<=cj b)->Q (.ref l) (upd H l (.lst ws)):=fun l ws us hl' pr hp hs=>by
    obtain⟨k2,i2,nw⟩:=A.new hl' (.lst ws)
    exact q _ _ _ _ (t us hp hs) k2 i2 (.lst nw aF (dO A k2 (Prs.rps pr)))
   rcases hd with rfl | rfl
   ·obtain⟨x,xs,e1,o1,h1,rs1⟩:=Rp.dZ r'
    subst e1
    exact⟨x,xs,ts,rfl,.inl (SqL.of h1),Rps.prs rs1,hn,hl,fin⟩
   ·obtain⟨x,xs,e1,h1,rs1⟩:=Rp.eY r'
    subst e1
    exact⟨x,xs,ts,rfl,.inr (SqT.of h1),Rps.prs rs1,hn,hl,fin⟩
  ·exact t.elim) hg hm boot_sorted ha (by decide) (by decide) he hpl
end
variable [Gr]
section
variable {X:Cx}{pins:List (Addr×Obj)}{σ:L2.St}{H:Hp}{s:Shared}{ok:Addr->Prop}
mutual
theorem Rp.reads (I:Inv X pins σ H s):∀ {v:V}{d:D}{u:Value},Rp ok H v d->RelV v u->d.canLay0=true->∃ as,Reads s.heap u d as
 | _,_,_,.non,r,_=>by cases r; exact⟨_,.none⟩
 | _,_,_,.bl b,r,_=>by cases r; exact⟨_,.bool b⟩
 | _,_,_,.int i,r,_=>by obtain⟨t,rfl⟩:=r; exact⟨_,.int i t⟩
 | _,_,_,.str x,r,_=>by obtain⟨t,rfl⟩:=r; exact⟨_,.str x t⟩
 | _,_,_,.lst o h rs,r,c=>by
  cases r
  obtain⟨its,rv,pl,_⟩:=I.list (SqL.of h)
  obtain⟨as,ra⟩:=Rps.reads I rs rv (by simpa [PyData.canLay0] using c)
  obtain⟨ob,ho,hc,n,hd⟩:=pl.isList
  exact⟨_,.list ho hc hd (by simpa using ra)⟩
 | _,_,_,.tup h rs,r,c=>by
  cases r
  obtain⟨its,rv,pl,_⟩:=I.tuple (SqT.of h)
  obtain⟨as,ra⟩:=Rps.reads I rs rv (by simpa [PyData.canLay0] using c)
  obtain⟨ob,ho,hc,n,hd⟩:=pl
  exact⟨_,.tuple ho hc hd (by simpa using ra)⟩
 | _,_,_,.dct o h rs,r,c=>by simp [PyData.canLay0] at c
theorem Rps.reads (I:Inv X pins σ H s):∀ {v:List V}{d:List D}{u:List Value},Rps ok H v d->Vals v u->PyData.canLayAll0 d=true->∃ as,ReadsAll s.heap u d as
 | _,_,_,.nil,r,_=>by cases r; exact⟨[],.nil⟩
 | _,_,_,.cons h t,r,c=>by
  cases r with
  | cons a b =>
   simp only [PyData.canLayAll0,Bool.and_eq_true] at c
   obtain⟨as,ra⟩:=Rp.reads I h a c.1
   obtain⟨bs,rb⟩:=Rps.reads I t b c.2
   exact⟨_,.cons ra rb⟩
end
end
noncomputable def okD (d:D):Bool:=d.canLay0&&decide (d.depth<=60)
section
variable {X:Cx}{pos:Pos}{a b e:Expr}{ta tb te:DE}
noncomputable def rEqG (K:PySem.W.Frag) (neg:Bool):R2:=fun x y H Q=>∃ ok ok' d e,Rp ok H x d/\Rp ok' H y e/\okD d=true/\okD e=true/\Q (.bl (if neg then !(PyData.eqv d e) else PyData.eqv d e)) H
theorem op_eqG (hu:X.A.units+64<cLine):OpR X (compareOp .Eq) (rEqG X.K false):=by
 intro pins s σ H x y v u Q I rx ry h
 obtain⟨ok,ok',d,e,hd,he,cd,ce,q⟩:=h
 simp only [okD,Bool.and_eq_true,decide_eq_true_eq] at cd ce
 obtain⟨as,ra⟩:=hd.reads I rx cd.1
 obtain⟨bs,rb⟩:=he.reads I ry ce.1
 exact SeqAt.compareEq_reads ra rb cd.1 ce.1 (by omega) ⟨.bl _,H,I,rfl,q⟩
theorem op_neG (hu:X.A.units+64<cLine):OpR X (compareOp .NotEq) (rEqG X.K true):=by
 intro pins s σ H x y v u Q I rx ry h
 obtain⟨ok,ok',d,e,hd,he,cd,ce,q⟩:=h
 simp only [okD,Bool.and_eq_true,decide_eq_true_eq] at cd ce
 obtain⟨as,ra⟩:=hd.reads I rx cd.1
 obtain⟨bs,rb⟩:=he.reads I ry ce.1
 exact SeqAt.compareNe_reads ra rb cd.1 ce.1 (by omega) ⟨.bl _,H,I,rfl,q⟩
noncomputable def gEqG (neg:Bool):G2:=fun _ d1 _ d2 P=>okD d1=true/\okD d2=true/\P .imm (.bool (if neg then !(PyData.eqv d1 d2) else PyData.eqv d1 d2))
theorem okEqG {K:PySem.W.Frag} (neg:Bool):Ok2 (gEqG neg) (rEqG K neg):=by
 intro p H0 own Hb H x y k1 d1 k2 d2 P Q A r1 r2 t q
 exact⟨_,_,d1,d2,r1,r2,t.1,t.2.1,q _ _ _ _ t.2.2 Kp.refl A.pen (.bl _)⟩
noncomputable def eqP (x:D) (h:Heap) (u:Value):Bool:=by
 classical
 exact decide (∃ d as,Reads h u d as/\PyData.eqv d x=true)
noncomputable def rInG (neg:Bool):R2:=fun x y H Q=>∃ ok ok' d es,Rp ok H x d/\(Rp ok' H y (.list es)\/Rp ok' H y (.tuple es))/\okD d=true/\(es.all okD)=true/\Q (.bl (if neg then !(es.any fun e=>PyData.eqv e d) else es.any fun e=>PyData.eqv e d)) H
theorem eqP_of {x:D}{h:Heap}{u:Value}{d:D}{as:List Addr} (r:Reads h u d as):eqP x h u=PyData.eqv d x:=by
 classical
 unfold eqP
 rw [Bool.eq_iff_iff,decide_eq_true_eq]
 constructor
 ·rintro ⟨d',as',r',e⟩
  rw [(r.unique d' as' r').1]
  exact e
 ·exact fun e=>⟨d,as,r,e⟩
theorem any_eqP {x:D}{h:Heap}:∀ {us:List Value}{ds:List D}{as:List Addr},ReadsAll h us ds as->us.any (eqP x h)=ds.any fun e=>PyData.eqv e x
 | _,_,_,.nil=>rfl
 | _,_,_,.cons a b=>by
  rw [List.any_cons,List.any_cons,eqP_of a,any_eqP b]
theorem mem_eqP {A:Around}{s:Shared}{x:D}{v:Value}{bs:List Addr} (rx:Reads s.heap v x bs) (cx:okD x=true) (hu:A.units+60<cLine):∀ {us:List Value}{ds:List D}{as:List Addr},ReadsAll s.heap us ds as->ds.all okD=true->∀ u∈us,SeqAt.EqAt A s u v (eqP x s.heap u)
 | _,_,_,.nil,_,u,hu'=>nomatch hu'
 | _,d::ds,_,.cons a b,c,u,hu'=>by
  simp only [List.all_cons,Bool.and_eq_true] at c
  rcases List.mem_cons.mp hu' with rfl | hu'
  ·rw [eqP_of a]
   have c1:=c.1
   simp only [okD,Bool.and_eq_true,decide_eq_true_eq] at c1 cx
   exact SeqAt.eqAt_reads _ _ A s _ _ _ _ a rx c1.1 cx.1 (by omega)
  ·exact mem_eqP rx cx hu b c.2 u hu'
theorem in1_room {A:Around} (hu:A.units+64<cLine):A.in1.units+60<cLine:=by
 have:A.in1.units<=A.units+1:=by first | exact Nat.le_refl _ | exact Nat.le_succ _ | (unfold Around.in1; simp)
 omega
theorem lay_all:∀ {es:List D},es.all okD=true->PyData.canLayAll0 es=true
 | [],_=>rfl
 | e::es,h=>by
  simp only [List.all_cons,Bool.and_eq_true,okD] at h
  simp only [PyData.canLayAll0,Bool.and_eq_true]
  exact⟨h.1.1,lay_all h.2⟩
theorem op_inG (hu:X.A.units+64<cLine):OpR X (compareOp .In) (rInG false):=by
 intro pins s σ H x y v u Q I rx ry h
 obtain⟨ok,ok',d,es,hd,hs,cd,ce,q⟩:=h
 have cd':=cd
 simp only [okD,Bool.and_eq_true,decide_eq_true_eq] at cd'
 obtain⟨bs,rb⟩:=hd.reads I rx cd'.1
 rcases hs with hs | hs
 ·obtain⟨c,vs,rfl,o,hc,rs⟩:=hs.dZ
  cases ry
  obtain⟨its,r,pl,hz⟩:=I.list (SqL.of hc)
  obtain⟨as,ra⟩:=rs.reads I r (lay_all ce)
  refine SeqAt.in_listAt (eqP d s.heap) pl.isList (fun w hw=>mem_eqP rb cd (in1_room hu) ra ce w (by simpa using hw)) ⟨.bl _,H,I,rfl,?_⟩
  rw [show its.toArray.any (eqP d s.heap)=its.any (eqP d s.heap) by simp,any_eqP ra]
  exact q
 ·obtain⟨c,vs,rfl,hc,rs⟩:=hs.eY
  cases ry
  obtain⟨its,r,pl,hz⟩:=I.tuple (SqT.of hc)
  obtain⟨as,ra⟩:=rs.reads I r (lay_all ce)
  refine SeqAt.in_tupleAt (eqP d s.heap) pl (fun w hw=>mem_eqP rb cd (in1_room hu) ra ce w (by simpa using hw)) ⟨.bl _,H,I,rfl,?_⟩
  rw [show its.toArray.any (eqP d s.heap)=its.any (eqP d s.heap) by simp,any_eqP ra]
  exact q
theorem op_notinG (hu:X.A.units+64<cLine):OpR X (compareOp .NotIn) (rInG true):=by
 intro pins s σ H x y v u Q I rx ry h
 obtain⟨ok,ok',d,es,hd,hs,cd,ce,q⟩:=h
 have cd':=cd
 simp only [okD,Bool.and_eq_true,decide_eq_true_eq] at cd'
 obtain⟨bs,rb⟩:=hd.reads I rx cd'.1
 rcases hs with hs | hs
 ·obtain⟨c,vs,rfl,o,hc,rs⟩:=hs.dZ
  cases ry
  obtain⟨its,r,pl,hz⟩:=I.list (SqL.of hc)
  obtain⟨as,ra⟩:=rs.reads I r (lay_all ce)
  refine SeqAt.notIn_listAt (eqP d s.heap) pl.isList (fun w hw=>mem_eqP rb cd (in1_room hu) ra ce w (by simpa using hw)) ⟨.bl _,H,I,rfl,?_⟩
  rw [show its.toArray.any (eqP d s.heap)=its.any (eqP d s.heap) by simp,any_eqP ra]
  exact q
 ·obtain⟨c,vs,rfl,hc,rs⟩:=hs.eY
  cases ry
  obtain⟨its,r,pl,hz⟩:=I.tuple (SqT.of hc)
  obtain⟨as,ra⟩:=rs.reads I r (lay_all ce)
  refine SeqAt.notIn_tupleAt (eqP d s.heap) pl (fun w hw=>mem_eqP rb cd (in1_room hu) ra ce w (by simpa using hw)) ⟨.bl _,H,I,rfl,?_⟩
  rw [show its.toArray.any (eqP d s.heap)=its.any (eqP d s.heap) by simp,any_eqP ra]
  exact q
noncomputable def gIn (neg:Bool):G2:=fun _ d1 _ d2 P=>match d2 with
 | .list es=>okD d1=true/\es.all okD=true/\P .imm (.bool (if neg then !(es.any fun e=>PyData.eqv e d1) else es.any fun e=>PyData.eqv e d1))
 | .tuple es=>okD d1=true/\es.all okD=true/\P .imm (.bool (if neg then !(es.any fun e=>PyData.eqv e d1) else es.any fun e=>PyData.eqv e d1))
 | _=>False
theorem okIn (neg:Bool):Ok2 (gIn neg) (rInG neg):=by
 intro p H0 own Hb H x y k1 d1 k2 d2 P Q A r1 r2 t q
 cases d2 with
 | list es=>exact⟨_,_,d1,es,r1,.inl r2,t.1,t.2.1,q _ _ _ _ t.2.2 Kp.refl A.pen (.bl _)⟩
 | tuple es=>exact⟨_,_,d1,es,r1,.inr r2,t.1,t.2.1,q _ _ _ _ t.2.2 Kp.refl A.pen (.bl _)⟩
 | _=>exact t.elim
theorem pd_in (hu:X.A.units+64<cLine) (ha:PD X a ta) (hb:PD X b tb) (hm:behindInMarks .In b=false:=by rfl):PD X (.Compare a [.In] [b] pos) (t2 (gIn false) ta tb):=pd_cmp (op_inG hu) (okIn false) ha hb hm
theorem jw (hu:X.A.units+64<cLine) (ha:PD X a ta) (hb:PD X b tb) (hm:behindInMarks .In b=false:=by rfl):PDT X (.Compare a [.In] [b] pos) (dM (t2 (gIn false) ta tb)):=eV (op_inG hu) (okIn false) ha hb hm
theorem bF (hu:X.A.units+64<cLine) (ha:PD X a ta) (hb:PD X b tb) (hm:behindInMarks .NotIn b=false:=by rfl):PDT X (.Compare a [.NotIn] [b] pos) (dM (t2 (gIn true) ta tb)):=eV (op_notinG hu) (okIn true) ha hb hm
end
variable [Gr]
section
variable {X:Cx}{pos p2:Pos}{a b c e:Expr}{es:List Expr}{ta tb tc te:DE}{t:DA}{st:Stmt}
noncomputable abbrev DO:=List Sl->(Option Int->Prop)->Prop
noncomputable def liftO (t:DO):TO:=fun σ H Q=>∃ p H0 own ρ P,EnvD p H0 own σ H ρ/\t ρ P/\∀ o H',P o->At p H0 own H H'->Q o H'
theorem PO.wk {e:Option Expr}{t t':TO} (h:PO X e t) (w:∀ σ H Q,t' σ H Q->t σ H Q):PO X e t':=fun pins s σ H Q I q=>h pins s σ H Q I (w σ H Q q)
noncomputable def oSome (te:DE):DO:=fun ρ P=>te ρ fun _ d=>match d with
 | .int i=>P (some i)
 | _=>False
theorem do_some (h:PD X e te):PO X (some e) (liftO (oSome te)):=PO.wk (po_some h) (by
 rintro σ H Q ⟨p,H0,own,ρ,P,E,t,q⟩
 refine⟨p,H0,own,ρ,_,E,t,fun k d v H' h A r=>?_⟩
 cases d with
 | int i=>exact⟨i,r.int',q _ _ h A⟩
 | _=>exact h.elim)
noncomputable def cutL {α:Type} (ds:List α) (lo hi:Option Int):List α:=(ds.drop (HT.sIx ds.length 0 lo)).take (HT.sIx ds.length ds.length hi - HT.sIx ds.length 0 lo)
theorem Rps.cut {ok:Addr->Prop}{H:Hp}{vs:List V}{ds:List D} (r:Rps ok H vs ds) (lo hi:Option Int):Rps ok H (cutV vs lo hi) (cutL ds lo hi):=by
 unfold cutV cutL
 rw [r.length]
 exact (r.drop _).take _
noncomputable def tSlL (te:DE) (tl th:DO):DE:=fun ρ P=>te ρ fun k d=>tl ρ fun lo=>th ρ fun hi=>match d with
 | .list ds=>newP k (cutL ds lo hi) fun k'=>P k' (.list (cutL ds lo hi))
 | _=>False
noncomputable def gCat:G2:=fun k1 d1 k2 d2 P=>match d1,d2 with
 | .list ds,.list es=>ds.length+es.length<=1000/\newP (k1.join k2) (ds++es) fun k=>P k (.list (ds++es))
 | _,_=>False
theorem okCat:Ok2 gCat rCat:=by
 intro p H0 own Hb H x y k1 d1 k2 d2 P Q A r1 r2 t q
 unfold gCat at t
 split at t
 ·obtain⟨c1,xs,e1,o1,h1,rs1⟩:=r1.dZ
  obtain⟨c2,ys,e2,o2,h2,rs2⟩:=r2.dZ
  subst e1 e2
  have h24:=sizeLine_eq
  refine⟨c1,c2,xs,ys,rfl,rfl,h1,h2,by rw [rs1.length,rs2.length]; omega,fun l hl=>?_⟩
  obtain⟨k3,i3,nw⟩:=A.new hl (.lst (xs++ys))
  have j:=iT k1 k2
  have m:∀ {k vs ds},k.le (k1.join k2)=true->Rps (okK p H0 own Hb k) H vs ds->Rps (okK p H0 own Hb (k1.join k2)) H vs ds:=fun hk z=>z.mono (fun a o=>eF A hk o) (fun _ _ _ e=>e) fun _ _ e=>e
  obtain⟨k',hk',rk'⟩:=newP_ok A (dO A k3 ((m j.1 rs1).app (m j.2 rs2))) nw aF t.2
  exact q _ _ _ _ hk' k3 i3 rk'
 ·exact t.elim
noncomputable def gCatT:G2:=fun k1 d1 k2 d2 P=>match d1,d2 with
 | .tuple ds,.tuple es=>ds.length+es.length<=1000/\P (norm (k1.join k2) (.tuple (ds++es))) (.tuple (ds++es))
 | _,_=>False
theorem okCatT:Ok2 gCatT rCatS:=by
 intro p H0 own Hb H x y k1 d1 k2 d2 P Q A r1 r2 t q
 unfold gCatT at t
 split at t
 ·obtain⟨c1,xs,e1,h1,rs1⟩:=r1.eY
  obtain⟨c2,ys,e2,h2,rs2⟩:=r2.eY
  subst e1 e2
  have h24:=sizeLine_eq
  refine⟨c1,c2,xs,ys,rfl,rfl,h1,h2,by rw [rs1.length,rs2.length]; omega,fun l H' sm hl=>?_⟩
  have K:Kp p H H':=Kp.of sm
  have j:=iT k1 k2
  have m:∀ {k vs ds},k.le (k1.join k2)=true->Rps (okK p H0 own Hb k) H vs ds->Rps (okK p H0 own Hb (k1.join k2)) H vs ds:=fun hk z=>z.mono (fun a o=>eF A hk o) (fun _ _ _ e=>e) fun _ _ e=>e
  exact q _ _ _ _ t.2 K (p.mono H H' A.pen fun b o _ e=>sm b o e) (bU (.tup hl (dO A K ((m j.1 rs1).app (m j.2 rs2)))))
 ·exact t.elim
noncomputable def tNeg (ta:DE):DE:=fun ρ P=>ta ρ fun _ d=>match d with
 | .int i=>P .imm (.int (-i))
 | _=>False
theorem pd_neg (ha:PD X a ta):PD X (.UnaryOp .USub a pos) (tNeg ta):=PE.wk (pe_un un_neg ha) (by
 rintro σ H Q ⟨p,H0,own,ρ,P,E,t,q⟩
 refine⟨p,H0,own,ρ,_,E,t,fun k d v H' h A r=>?_⟩
 cases d with
 | int i=>exact⟨i,r.int',q _ _ _ _ h A (.int _)⟩
 | _=>exact h.elim)
noncomputable def dAsg (te:DE) (g:DG):DS:=fun P ρ=>te ρ fun k d=>g (norm (elK k) d) d ρ P.nx
theorem okK_B {p:Pn}{H0 Hb H:Hp}{own:Addr->Option Nat} (A:At p H0 own Hb H) {k:Kd}{v:V}{d:D} (r:Rp (okK p H0 own Hb k) H v d):Rp (okB p H0 own (norm (elK k) d)) H v d:=by
 refine gM (r.mono (fun a o=>?_) (fun _ _ _ e=>e) fun _ _ e=>e)
 cases k with
 | imm=>exact o
 | new=>exact⟨A.h0 o,A.nfb o,A.own0 o⟩
 | reg q=>exact o
 | n0=>trivial
 | snw=>exact o
 | shr=>exact o
 | wk=>trivial
theorem ds_asg {g:DG} (h:PS X st (tAsg (bM te) (liftG g))):PDS X st (dAsg te g):=PS.wk' h (by
 rintro Q σ H ⟨p,H0,own,ρ,P,E,t,w⟩
 refine⟨p,H0,own,ρ,_,E,t,fun k d v H1 h A r=>?_⟩
 exact⟨p,H0,own,ρ,_,d,P.nx,E.go A.kp A.pen,okK_B A r,h,fun σ' ρ' E' n=>w.nx own σ' H1 ρ' E' A.frs n⟩)
noncomputable def dExt (i:Nat) (te:DE):DS:=fun P ρ=>match ρ[i]? with
 | some (.dw r (.list ds))=>te ρ fun k d=>match d with
  | .list es=>(k.le .new || gk es)=true/\ds.length+es.length<=1000/\P.nx ((forget r ρ).set i (.dw r (.list (ds++es))))
  | _=>False
 | _=>False
theorem one_arg {te:DE}{ρ:List Sl}{R:Kd->D->Prop} (t:te ρ R):cL te iZ ρ (fun ks=>∃ k d,ks=[(k,d)]/\R k d):=by
 show te ρ fun k d=>∃ k' d',[((k,d):Kd×D)]=[(k',d')]/\R k' d'
 have e:(fun k d=>∃ k' d',[((k,d):Kd×D)]=[(k',d')]/\R k' d')=R:=by
  funext k d
  apply propext
  constructor
  ·rintro ⟨k',d',e,h⟩
   cases e
   exact h
  ·exact fun h=>⟨k,d,rfl,h⟩
 rw [e]
 exact t
noncomputable def dIns (i:Nat) (tj te:DE):DS:=fun P ρ=>match ρ[i]? with
 | some (.dw r (.list ds))=>tj ρ fun _ dj=>te ρ fun k d=>match dj with
  | .int j=>(norm k d).le .new=true/\0<=j/\j.toNat<=ds.length/\ds.length<1000/\P.nx ((forget r ρ).set i (.dw r (.list (ds.take j.toNat++d::ds.drop j.toNat))))
  | _=>False
 | _=>False
theorem ds_insert {i:Nat}{tj:DE} (h:PS X st (gF (tBM X.K "list" rInsert (lg i) (liftA (cL tj (cL te iZ)))))):PDS X st (dIns i tj te):=PS.wk' h (by
 rintro Q σ H ⟨p,H0,own,ρ,P,E,t,w⟩
 unfold dIns at t
 split at t
 ·rename_i r ds hr
  obtain⟨v,hv,x⟩:=E.slot i _ hr
  obtain⟨l,vs,rfl,hl,ho,rs⟩:=x.dZ
  refine⟨.ref l,hv,.inl ⟨rfl,vs,SqL.of ho⟩,p,H0,own,ρ,fun ks=>∃ k1 dj k d,ks=[(k1,dj),(k,d)]/\(match dj with
   | .int j=>(norm k d).le .new=true/\0<=j/\j.toNat<=ds.length/\ds.length<1000/\P.nx ((forget r ρ).set i (.dw r (.list (ds.take j.toNat++d::ds.drop j.toNat))))
   | _=>False),E,?_,?_⟩
  ·show tj ρ fun k1 dj=>te ρ fun k d=>∃ k1' dj' k' d',[((k1,dj):Kd×D),(k,d)]=[(k1',dj'),(k',d')]/\_
   have e:∀ (k1:Kd) (dj:D),(fun k d=>∃ k1' dj' k' d',[((k1,dj):Kd×D),(k,d)]=[(k1',dj'),(k',d')]/\(match dj' with
    | .int j=>(norm k' d').le .new=true/\0<=j/\j.toNat<=ds.length/\ds.length<1000/\P.nx ((forget r ρ).set i (.dw r (.list (ds.take j.toNat++d'::ds.drop j.toNat))))
    | _=>False))=fun k d=>(match dj with
    | .int j=>(norm k d).le .new=true/\0<=j/\j.toNat<=ds.length/\ds.length<1000/\P.nx ((forget r ρ).set i (.dw r (.list (ds.take j.toNat++d::ds.drop j.toNat))))
    | _=>False):=fun k1 dj=>by
    funext k d
    apply propext
    constructor
    ·rintro ⟨k1',dj',k',d',e,h⟩
     cases e
     exact h
    ·exact fun h=>⟨k1,dj,k,d,rfl,h⟩
   simp only [e]
   exact t
  ·rintro ks ws H1 ⟨k1,dj,k,d,rfl,hh⟩ A rk
   cases dj with
   | int j =>
    obtain⟨hk,h0,hj,hlen,hn⟩:=hh
    obtain⟨y1,y,rfl,ry1,ry⟩:=rpk2 rk
    have ry:=kY A hk (bU ry)
    have e1:=Rp.int' ry1
    have h1:H1 l=some (.lst vs):=A.kp l _ ho (E.ow l r hl).2.1
    have h24:=sizeLine_eq
    have l1:=rs.length
    refine⟨l,vs,j.toNat,y,rfl,?_,h1,by omega,by omega,?_⟩
    ·rw [e1]
     have:((j.toNat:Nat):Int)=j:=by omega
     rw [this]
    obtain⟨E2,F2⟩:=E.relist (vs':=vs.take j.toNat++y::vs.drop j.toNat) (ds':=ds.take j.toNat++d::ds.drop j.toNat) A hv hl ho rs fun H2 f g=>by
     have m:=lW f rs fun d hd=>sz_of_mem hd
     exact (m.take _).app (.cons (g ry) (m.drop _))
    exact w.nx _ σ _ _ E2 F2 hn
   | _=>exact hh.elim
 ·exact t.elim)
end
variable [Gr]
structure Cal (P:Program) (w:World) (K:PySem.W.Frag) (mg:Str->Option Value) (base:Heap) (k:Nat) (x:Str) (ps:List Str) (sp:Sp):Prop where
 ex:∃ f fd,FnOk P w K mg base CX0 k f fd ps sp/\Binds K fd ps []/\PySem.W.keepIn K (.ref f)=true/\mg x=some (.ref f)
section
variable {X:Cx}{k j:Nat}{x:Str}{ps:List Str}{e:Expr}{es:List Expr}{t:DA}{p pos pq:Pos}
theorem pcS {sp:Sp}{ta:TA} (C:Cal X.prog X.w X.K X.mg X.base k x ps sp) (hr:Room j X.A) (ha:PA X (e::es) ta) (hk:k<=j) (hg:Gl X x)
  (hdb:(x == ("__debug__":Str))=false) (he:starEach (e::es) X.env=(false,eval e X.env)::starEach es X.env) (hpl:(backTo pos (starEach es X.env)).any (·.1)=false) :
  PE X (.Call (.Name x p) (e::es) [] pos) (tCall sp [] E0 ta):=by
 obtain⟨f,fd,F,b,kp,m⟩:=C.ex
 exact pe_call F (hr.mono hk) hg m kp b .nil pass0 ha hdb he hpl
theorem dc {f:List D->(D->Prop)->Prop} (C:Cal X.prog X.w X.K X.mg X.base k x ps (spD f)) (hr:Room j X.A) (ha:PDA X (e::es) t) (hk:k<=j:=by decide) (hg:Gl X x:=by rfl)
  (hdb:(x == ("__debug__":Str))=false:=by decide) (he:starEach (e::es) X.env=(false,eval e X.env)::starEach es X.env:=by rfl) (hpl:(backTo pos (starEach es X.env)).any (·.1)=false:=by rfl) :
  PD X (.Call (.Name x p) (e::es) [] pos) (tFn f t):=PE.wk (pcS C hr ha hk hg hdb he hpl) lift_fn
theorem dcP {C:Pn->Prop}{i:Nat}{f:List D->(D->Prop)->Prop}{y:Str}{py:Pos} (CC:Cal X.prog X.w X.K X.mg X.base k x ps (spP C f)) (hr:Room j X.A) (hi:PE X (.Name y py) (lg i)) (ha:PDA X es t) (hk:k<=j:=by decide) (hg:Gl X x:=by rfl)
  (hdb:(x == ("__debug__":Str))=false:=by decide) (he:starEach (.Name y py::es) X.env=(false,eval (.Name y py) X.env)::starEach es X.env:=by rfl) (hpl:(backTo pos (starEach es X.env)).any (·.1)=false:=by rfl) :
  PD X (.Call (.Name x p) (.Name y py::es) [] pos) (tFnP C f i t):=PE.wk (pcS CC hr (bK hi ha) hk hg hdb he hpl) lift_fnP
theorem dv (i:Nat) {x:Str}{pos:Pos} (hN:X.N[i]?=some x:=by rfl) (hv:Vis X.env.scope x:=by first | exact Or.inl rfl | exact Or.inr (Or.inl rfl) | exact Or.inr (Or.inr rfl)) (hd:(x == ("__debug__":Str))=false:=by decide)
  (hcd:(x == ("__classdict__":Str))=false:=by decide):PD X (.Name x pos) (tV i):=pd_var (pv i hN hv hd hcd)
end
structure Bn (mg:Str->Option Value):Prop where
 isinstance:mg "isinstance"=none
 int:mg "int"=none
 bool:mg "bool"=none
 tuple:mg "tuple"=none
 list:mg "list"=none
 len:mg "len"=none
 all:mg "all"=none
 min:mg "min"=none
 max:mg "max"=none
 sorted:mg "sorted"=none
 range:mg "range"=none
 abs:mg "abs"=none
theorem boot_abs:bootBuiltins "abs"=some (.builtin "abs"):=by decide +kernel
theorem aW {f:List D->(D->Prop)->Prop}{n:Nat} (hn:∀ ds P,f ds P->ds.length=n):∀ vs H Q E,spD f vs H Q E->vs.length=n:=fun vs H Q E h=>by
 obtain⟨ds,P,r,t,_⟩:=h
 rw [r.length]
 exact hn ds P t
theorem bC {f:List D->(D->Prop)->Prop}{T:DS}{N:List Str}{vs:List V}{H:Hp}{Q:VK}{E:XK} (h:spD f vs H Q E)
  (body:∀ ds P,f ds P->∃ ρ,ds.map dI++List.replicate (N.length - ds.length) .any=ρ/\T { nx:=fun _=>P .none,rt:=P } ρ) (g:Gr.G noPen H:=by trivial):liftS T { nx:=fun _ H'=>Q .non H',rt:=Q } (L2.start N vs) H :=
 enterD h (fun ds P t=>by
  obtain⟨ρ,e,q⟩:=body ds P t
  rw [e]
  exact q) g
noncomputable def aP (n:Int) (us:List Tie):D:=.tuple [.int n,.tuple (us.map pD)]
theorem imm_web (n:Int) (us:List Tie):fQ (aP n us)=true:=by
 show (fQ (.int n)&&(gk (us.map pD)&&true))=true
 rw [imm_pairs]
 rfl
theorem bD (n:Int) (us:List Tie):dI (aP n us)=.im (aP n us):=if_pos (imm_web n us)
theorem enterQ {C:Pn->Prop}{f:List D->(D->Prop)->Prop}{T:DS}{N:List Str}{vs:List V}{H:Hp}{Q:VK}{E:XK} (h:spP C f vs H Q E)
  (body:∀ ds P,f ds P->∃ ρ,ds.map dI++List.replicate (N.length - (ds.length+1)) .any=ρ/\T { nx:=fun _=>P .none,rt:=P } (.pen C::ρ)) (g:∀ p,Gr.G p H:=by intro _; trivial):liftS T { nx:=fun _ H'=>Q .non H',rt:=Q } (L2.start N vs) H :=
 enterP h (fun ds P t=>by
  obtain⟨ρ,e,q⟩:=body ds P t
  rw [e]
  exact q) g
variable [Gr]
theorem gb {α β:Type}{l:List α}{g:α->β}{i:Nat}{d:β} (h:(l.map g)[i]?=some d):∃ x,l[i]?=some x/\g x=d:=by
 rw [List.getElem?_map] at h
 cases e:l[i]? with
 | none=>rw [e] at h; cases h
 | some x=>rw [e] at h; exact⟨x,rfl,Option.some.inj h⟩
theorem bI:∀ l:List Int,(l.map PyData.int).all okD=true
 | []=>rfl
 | x::l=>by
  rw [List.map_cons,List.all_cons,bI l]
  rfl
theorem any_ints (x:Int):∀ l:List Int,((l.map PyData.int).any fun e=>PyData.eqv e (.int x))=decide (x∈l)
 | []=>rfl
 | y::l=>by
  rw [List.map_cons,List.any_cons,any_ints x l]
  have e:PyData.eqv (.int y) (.int x)=(y == x):=rfl
  rw [e,Bool.eq_iff_iff,Bool.or_eq_true,beq_iff_eq,decide_eq_true_eq,decide_eq_true_eq,List.mem_cons]
  constructor
  ·rintro (h | h)
   ·exact .inl h.symm
   ·exact .inr h
  ·rintro (h | h)
   ·exact .inl h.symm
   ·exact .inr h
theorem bO (lo:Int) (n:Nat):(intsD lo n).length=n:=by unfold intsD; simp
theorem cP {lo:Int}{n i:Nat}{d:D} (h:(intsD lo n)[i]?=some d):i<n/\d=.int (lo+((i:Nat):Int)):=by
 unfold intsD at h
 obtain⟨x,hx,e⟩:=gb h
 obtain⟨h1,h2⟩:=List.getElem?_eq_some_iff.mp hx
 have h3:i<n:=by simpa using h1
 have h4:x=i:=by simpa using h2.symm
 subst h4
 exact⟨h3,e.symm⟩
variable [Gr]
section
variable {X:Cx}{pos p2:Pos}{a b e:Expr}{ta tb te:DE}
theorem Rps.rep {ok:Addr->Prop}{H:Hp}{vs:List V}{ds:List D} (r:Rps ok H vs ds):∀ k:Nat,Rps ok H (List.replicate k vs).flatten (List.replicate k ds).flatten
 | 0=>.nil
 | k+1=>by
  rw [List.replicate_succ,List.replicate_succ,List.flatten_cons,List.flatten_cons]
  exact r.app (Rps.rep r k)
noncomputable def gRep:G2:=fun k1 d1 _ d2 P=>match d1,d2 with
 | .list ds,.int k=>0<=k/\k<1000/\ds.length * k.toNat<=1000/\newP k1 (List.replicate k.toNat ds).flatten fun k'=>P k' (.list (List.replicate k.toNat ds).flatten)
 | _,_=>False
theorem okRep:Ok2 gRep rRep:=by
 intro p H0 own Hb H x y k1 d1 k2 d2 P Q A r1 r2 t q
 unfold gRep at t
 split at t
 ·rename_i ds k
  obtain⟨c1,xs,e1,o1,h1,rs1⟩:=r1.dZ
  subst e1
  have h24:=sizeLine_eq
  refine⟨c1,k,xs,rfl,r2.int',h1,by omega,by omega,by rw [rs1.length]; omega,fun l hl=>?_⟩
  obtain⟨k3,i3,nw⟩:=A.new hl (.lst (List.replicate k.toNat xs).flatten)
  obtain⟨k',hk',rk'⟩:=newP_ok A (dO A k3 (rs1.rep k.toNat)) nw aF t.2.2.2
  exact q _ _ _ _ hk' k3 i3 rk'
 ·exact t.elim
end
theorem mq (ns:List Int):∀ k,k<=ns.length->PySem.preSum (fun i=>ns.getD i 0) k=(ns.take k).sum
 | 0,_=>rfl
 | k+1,h=>by
  show PySem.preSum _ k+ns.getD k 0=_
  have hk:k<ns.length:=by omega
  have e:ns.take (k+1)=ns.take k++[ns[k]]:=by rw [List.take_add_one,List.getElem?_eq_getElem hk]; rfl
  have e2:ns.getD k 0=ns[k]:=by rw [List.getD_eq_getElem?_getD,List.getElem?_eq_getElem hk]; rfl
  rw [mq ns k (by omega),e,e2,List.sum_append,List.sum_cons,List.sum_nil,Int.add_zero]
theorem sum_small:∀ (ns:List Int) (b:Int),(∀ x∈ns,-b<=x/\x<=b)->-(b * ns.length)<=ns.sum/\ns.sum<=b * ns.length
 | [],b,_=>by simp
 | x::ns,b,h=>by
  obtain⟨h1,h2⟩:=sum_small ns b fun y hy=>h y (List.mem_cons_of_mem _ hy)
  have hx:=h x List.mem_cons_self
  have e:b * ((x::ns).length:Int)=b * ns.length+b:=by
   rw [List.length_cons]
   have:(((ns.length+1:Nat)):Int)=(ns.length:Int)+1:=by omega
   rw [this,Int.mul_add,Int.mul_one]
  rw [e,List.sum_cons]
  omega
section
variable {X:Cx}{pos:Pos}{a:Expr}{t:DA}
theorem call_sumI (hc:X.calm=true):cU X (.builtin "sum") (fun xs H Q=>∃ (p:Addr) (ns:List Int),xs=[.ref p]/\SqL X.K H p (ns.map V.int)/\ns.length<=1000/\(∀ x∈ns,-1000000<=x/\x<=1000000)/\Q (.int ns.sum) H):=by
 intro pins s σ H xs us Q I r h
 obtain⟨p,ns,rfl,hp,hl,hs,q⟩:=h
 obtain⟨u,rfl,rx⟩:=vals1 r
 cases rx
 obtain⟨its,rv,pl,hz⟩:=I.list hp
 have hlen:its.length=ns.length:=by have:=rv.length; rw [List.length_map] at this; exact this.symm
 have hlt:p≠s.heap.objs.size:=by obtain⟨o,ho,_⟩:=pl.isList; exact Nat.ne_of_lt (Heap.lt_size ho)
 have hltp:p<s.heap.objs.size:=by obtain⟨o,ho,_⟩:=pl.isList; exact Heap.lt_size ho
 have at':∀ i v,its[i]?=some v->∃ t,v=Value.int (ns.getD i 0) t:=fun i v e=>by
  have hi:i<its.length:=(List.getElem?_eq_some_iff.mp e).1
  have hv:(ns.map V.int)[i]?=some (V.int ns[i]):=by rw [List.getElem?_map,List.getElem?_eq_getElem (show i<ns.length by omega)]; rfl
  obtain⟨u,eu,ru⟩:=rv.get hv
  rw [e] at eu
  cases eu
  obtain⟨t,rfl⟩:=ru
  exact⟨t,by rw [List.getD_eq_getElem?_getD,List.getElem?_eq_getElem (show i<ns.length by omega)]; rfl⟩
 refine call_sum_walk (wpAny_pyIter_list pl.isList ?_)
 refine⟨_,_,_,_,_,_,fun i=>ns.getD i 0,rfl,Walks.list (A:=X.A.in1) (I.ok.hd hc) _ p hlt _,⟨⟨_,Heap.get?_push_size _ rfl,rfl,rfl⟩,pl.isList.push _⟩,?_,fun i v e=>at' i v (by simpa using e),fun j hj=>?_,fun h' tk t' hk=>?_⟩
 ·intro b hb
  show b<(s.heap.push _).objs.size
  rw [Heap.size_push]
  simp at hb
  rcases hb with rfl | rfl
  ·exact Nat.lt_succ_self _
  ·exact Nat.lt_succ_of_lt hltp
 ·have hj:j<ns.length:=by simpa [hlen] using hj
  have e:ns.getD j 0=ns[j]:=by rw [List.getD_eq_getElem?_getD,List.getElem?_eq_getElem hj]; rfl
  have b1:=hs _ (List.getElem_mem hj)
  have b2:=sum_small (ns.take (j+1)) 1000000 fun x hx=>hs x (List.mem_of_mem_take hx)
  have b3:(ns.take (j+1)).length<=1000:=by rw [List.length_take]; omega
  rw [mq ns (j+1) hj]
  refine⟨?_,?_⟩
  ·show -(2 ^ 63)<=ns.getD j 0/\ns.getD j 0<2 ^ 63
   rw [e]
   omega
  ·show -(2 ^ 63)<=(ns.take (j+1)).sum/\(ns.take (j+1)).sum<2 ^ 63
   omega
 ·have e:PySem.preSum (fun i=>ns.getD i 0) its.toArray.size=ns.sum:=by
   rw [List.size_toArray,hlen,mq ns ns.length (Nat.le_refl _),List.take_length]
  rw [e]
  refine⟨.int ns.sum,H,I.kept fun b o eb=>hk b o ?_ (Heap.get?_push_of_some _ eb),⟨_,rfl⟩,q⟩
  intro hm
  have:b=s.heap.objs.size:=by simpa using hm
  exact absurd (this ▸ Heap.lt_size eb) (Nat.lt_irrefl _)
variable [Gr]
theorem boot_sum:bootBuiltins "sum"=some (.builtin "sum"):=by decide +kernel
end
variable [Gr]
section
variable {X:Cx}{pos:Pos}{a b e:Expr}{ta tb te:DE}
end
variable [Gr]
section
variable {X:Cx}{pos:Pos}{a b e:Expr}{ta tb te:DE}
noncomputable def nonB:D->Bool
 | .none=>true
 | _=>false
noncomputable def gIsN:G2:=fun _ d1 _ d2 P=>match d2 with
 | .none=>P .imm (.bool (nonB d1))
 | _=>False
theorem rp_nonB {ok:Addr->Prop}{H:Hp}{v:V}{d:D} (r:Rp ok H v d):decide (v=.non)=nonB d:=by
 cases r <;> simp [nonB]
theorem okIsN:Ok2 gIsN (fun x y H Q=>y=.non/\Q (.bl (decide (x=.non))) H):=by
 intro p H0 own Hb H x y k1 d1 k2 d2 P Q A r1 r2 t q
 unfold gIsN at t
 split at t
 ·cases r2
  rw [rp_nonB r1]
  exact⟨rfl,q _ _ _ _ t Kp.refl A.pen (.bl _)⟩
 ·exact t.elim
theorem mz (ha:PD X a ta) (hb:PD X b tb):PDT X (.Compare a [.Is] [b] pos) (dM (t2 gIsN ta tb)):=eV op_isN okIsN ha hb (dU _)
end
variable [Gr]
section
variable {X:Cx}{pos:Pos}{st:Stmt}
end
@[reducible] def grX (H:Hp):Gr:=⟨fun p H0=>p=noPen/\H0=H⟩
structure Cal1 (P:Program) (w:World) (K:PySem.W.Frag) (mg:Str->Option Value) (base:Heap) (k:Nat) (x:Str) (ps:List Str) (sp:Sp):Prop where
 ex:∃ f fd,FnOk P w K mg base (CX1 P w) k f fd ps sp/\Binds K fd ps []/\PySem.W.keepIn K (.ref f)=true/\mg x=some (.ref f)
section
variable {X:Cx}{E:XK}{k j:Nat}{x:Str}{ps:List Str}{e:Expr}{es:List Expr}{p pos:Pos}
end
variable [Gr]
theorem boot_repr:bootBuiltins "repr"=some (.builtin "repr"):=by decide +kernel
section
variable {X:Cx}{pos:Pos}{a b e:Expr}{ta tb te:DE}{t:DA}
end
end Dl
namespace L2
open PySem PyProof.Rows
theorem ints_are:∀ {ns:List Int}{us:List Value},Vals (ns.map V.int) us->IntsAre us ns
 | [],_,.nil=>.nil
 | n::ns,_,.cons r t=>by
  obtain⟨k,rfl⟩:=r
  exact .cons n k (ints_are t)
noncomputable def once (ns:List Int):List Int:=ns.foldl step_dedup []
theorem first_once (ns:List Int) {m:Nat} (hm:m=ns.length):firstMet (fun i=>ns.getD i 0) m=once ns:=by
 subst hm
 unfold firstMet once
 congr 1
 refine List.ext_getElem (by simp) fun i h1 h2=>?_
 simp at h1
 simp [List.getD_eq_getElem?_getD,h1]
section
variable {X:Cx}
theorem call_set_of (hc:X.calm=true):cU X (.type "set") (fun xs H Q=>∃ p ns,xs=[.ref p]/\SqL X.K H p (ns.map V.int)/\ns.length<=1000/\∀ l S,H l=none->Q (.ref l) (upd H l (.set S (once ns).length))):=by
 intro pins s σ H xs us Q I r h
 obtain⟨p,ns,rfl,hq,hl,q⟩:=h
 obtain⟨u,rfl,rx⟩:=vals1 r
 cases rx
 obtain⟨its,r',pl,hz⟩:=I.list hq
 have hlen:=r'.length
 rw [List.length_map] at hlen
 refine call_set_list (items:=its.toArray) (ns:=ns) (I.ok.hd hc) pl.isList (by simpa using ints_are r') ?_ fun h' tk st k=>?_
 ·show its.toArray.size+1<scanBound
  rw [List.size_toArray,← hlen]
  exact Nat.lt_of_le_of_lt (Nat.add_le_add_right hl 1) (by decide)
 ·rw [first_once ns (by rw [List.size_toArray,← hlen])] at st
  refine⟨.ref s.heap.objs.size,_,I.laid (t':=tk) (fun b o e=>k b o (Heap.lt_size e) e) (Nat.le_refl _) (show bZ X.prog X.w _ h' _ (.set _ (once ns).length) from st),rfl,q _ _ (I.hok.fresh (Nat.le_refl _))⟩
theorem call_len_setI:cU X (.builtin "len") (fun xs H Q=>∃ p S n,xs=[.ref p]/\H p=some (.set S n)/\n<=1000/\Q (.int (n:Int)) H):=by
 intro pins s σ H xs us Q I r h
 obtain⟨p,S,n,rfl,hq,hl,q⟩:=h
 obtain⟨u,rfl,rx⟩:=vals1 r
 cases rx
 obtain⟨o,es,ep,t,e1,e2,e3,_,_,_,e6,e7⟩:=I.hok p _ hq
 refine call_len_set e1 e2 e3 e6 (by rw [e7]; omega) ?_
 rw [e7]
 exact⟨.int n,H,I.tok _,⟨_,rfl⟩,q⟩
end
theorem jB:∀ (ns acc:List Int),(ns.foldl step_dedup acc).length<=acc.length+ns.length
 | [],acc=>Nat.le_refl _
 | n::ns,acc=>by
  rw [List.foldl_cons]
  have h:=jB ns (step_dedup acc n)
  have:(step_dedup acc n).length<=acc.length+1:=by
   unfold step_dedup
   split
   ·omega
   ·rw [List.length_append]; exact Nat.le_refl _
  rw [List.length_cons]
  omega
theorem once_iff:∀ (ns acc:List Int),((ns.foldl step_dedup acc).length=acc.length+ns.length)↔(ns.Nodup/\∀ x∈ns,x∉acc)
 | [],acc=>by simp
 | n::ns,acc=>by
  rw [List.foldl_cons,List.length_cons,List.nodup_cons]
  by_cases hn:n∈acc
  ·have e:step_dedup acc n=acc:=by
    unfold step_dedup
    rw [if_pos (List.any_eq_true.mpr ⟨n,hn,by simp⟩)]
   rw [e]
   have:=jB ns acc
   constructor
   ·intro h; omega
   ·rintro ⟨_,h⟩
    exact absurd hn (h n List.mem_cons_self)
  ·have e:step_dedup acc n=acc++[n]:=by
    unfold step_dedup
    rw [if_neg (fun z=>by
     obtain⟨x,hx,ex⟩:=List.any_eq_true.mp z
     have:x=n:=by simpa using ex
     exact hn (this ▸ hx))]
   rw [e]
   have ih:=once_iff ns (acc++[n])
   rw [List.length_append,List.length_singleton] at ih
   constructor
   ·intro h
    obtain⟨a,b⟩:=ih.mp (by omega)
    refine⟨⟨fun z=>b n z (List.mem_append_right _ (List.mem_singleton.mpr rfl)),a⟩,fun x hx=>?_⟩
    rcases List.mem_cons.mp hx with z | z
    ·rw [z]; exact hn
    ·exact fun y=>b x z (List.mem_append_left _ y)
   ·rintro ⟨⟨a,b⟩,c⟩
    have:=ih.mpr ⟨b,fun x hx z=>by
     rcases List.mem_append.mp z with y | y
     ·exact c x (List.mem_cons_of_mem _ hx) y
     ·rw [List.mem_singleton.mp y] at hx; exact a hx⟩
    omega
theorem once_nodup (ns:List Int):(once ns).length=ns.length↔ns.Nodup:=by
 have:=once_iff ns []
 simp at this
 exact this
end L2
namespace Dl
open PySem L2 PyProof.Rows
variable [Gr]
section
variable {X:Cx}{pos pos':Pos}{a:Expr}{t:DA}
theorem boot_set:bootBuiltins "set"=some (.type "set"):=by decide +kernel
noncomputable def gLenSet:GC:=fun ks P=>∃ k ns,ks=[(k,.list (ns.map PyData.int))]/\ns.length<=1000/\P .imm (.int ((once ns).length:Nat))
theorem pd_lenset {ps ps':Pos} (hc:X.calm=true) (hs:X.mg "set"=none) (hl:X.mg "len"=none) (ha:PDA X [a] t) (hgs:Gl X "set":=by rfl) (hgl:Gl X "len":=by rfl)
  (he:starEach [a] X.env=(false,eval a X.env)::starEach [] X.env:=by rfl) (hpl:(backTo pos (starEach [] X.env)).any (·.1)=false:=by rfl)
  (he':starEach [Expr.Call (.Name "set" ps) [a] [] pos] X.env=(false,eval (Expr.Call (.Name "set" ps) [a] [] pos) X.env)::starEach [] X.env:=by rfl) (hpl':(backTo pos' (starEach [] X.env)).any (·.1)=false:=by rfl) :
  PD X (.Call (.Name "len" ps') [.Call (.Name "set" ps) [a] [] pos] [] pos') (tCl gLenSet t) :=
 PE.wk (dB call_len_setI hgl hl PySem.boot_len (bK (pe_callTy (call_set_of hc) hgs hs boot_set ha (by decide) (by decide) he hpl) dG he') (by decide) (by decide) he' hpl') (by
  rintro σ H Q ⟨p,H0,own,ρ,P,E,t,q⟩
  refine⟨p,H0,own,ρ,_,E,t,fun ks vs H1 h A r=>?_⟩
  obtain⟨k,ns,rfl,hn,h⟩:=h
  obtain⟨v,rfl,r'⟩:=gK r
  obtain⟨c,ws,rfl,o,hc',rs⟩:=r'.dZ
  have ew:=rs.ints
  subst ew
  refine⟨c,ns,rfl,SqL.of hc',hn,fun l S hl'=>?_⟩
  obtain⟨k2,i2,nw⟩:=A.new hl' (.set S (once ns).length)
  have h1:=jB ns []
  exact⟨l,S,_,rfl,aF,by unfold once; simp at h1; omega,q _ _ _ _ h (A.go k2 i2) (.int _)⟩)
end
variable [Gr]
section
variable {X:Cx}{pos p2:Pos}{a b c e:Expr}{es:List Expr}{ta tb tc te:DE}{t:DA}{st:Stmt}
theorem OpR.or {f:Value->Value->Sem Value}{r r':R2} (h:OpR X f r) (h':OpR X f r'):OpR X f (fun x y H Q=>r x y H Q\/r' x y H Q):=by
 intro pins s σ H x y v u Q I rx ry q
 rcases q with q | q
 ·exact h pins s σ H x y v u Q I rx ry q
 ·exact h' pins s σ H x y v u Q I rx ry q
theorem cU.or {f:Value}{r r':List V->Hp->VK->Prop} (h:cU X f r) (h':cU X f r'):cU X f (fun x H Q=>r x H Q\/r' x H Q):=by
 intro pins s σ H x v Q I rx q
 rcases q with q | q
 ·exact h pins s σ H x v Q I rx q
 ·exact h' pins s σ H x v Q I rx q
theorem aB (ha:PD X a ta) (hb:PD X b tb) (hs:PlainIx b:=by exact fun _ _=>rfl):PD X (.Subscript a b pos) (t2 gIx ta tb):=PE.wk (fj (IxR.or dW lF) ha hb hs) (lift2 (by
 intro p H0 own Hb H x y k1 d1 k2 d2 P Q A r1 r2 t q
 unfold gIx at t
 split at t
 ·rename_i ds i
  obtain⟨d,hd,t⟩:=t
  obtain⟨c,vs,rfl,o,hc,rs⟩:=r1.dZ
  obtain⟨v,hv,rv⟩:=rs.atI hd
  exact .inl ⟨c,vs,i,v,rfl,r2.int',SqL.of hc,hv,q _ _ _ _ t Kp.refl A.pen (bU rv)⟩
 ·rename_i ds i
  obtain⟨d,hd,t⟩:=t
  obtain⟨c,vs,rfl,hc,rs⟩:=r1.eY
  obtain⟨v,hv,rv⟩:=rs.atI hd
  exact .inr ⟨c,vs,i,v,rfl,r2.int',SqT.of hc,hv,q _ _ _ _ t Kp.refl A.pen (bU rv)⟩
 ·exact t.elim))
noncomputable def gPlus:G2:=fun k1 d1 k2 d2 P=>match d1 with
 | .int i=>(match d2 with
  | .int j=>P .imm (.int (i+j))
  | _=>False)
 | .list ds=>gCat k1 (.list ds) k2 d2 P
 | .tuple ds=>gCatT k1 (.tuple ds) k2 d2 P
 | _=>False
theorem cA (ha:PD X a ta) (hb:PD X b tb):PD X (.BinOp a .Add b pos) (t2 gPlus ta tb):=pd_op (OpR.or jA (OpR.or op_cat op_catS)) (by
 intro p H0 own Hb H x y k1 d1 k2 d2 P Q A r1 r2 t q
 cases d1 with
 | int i =>
  cases d2 with
  | int j=>exact .inl ⟨i,j,r1.int',r2.int',q _ _ _ _ t Kp.refl A.pen (.int _)⟩
  | _=>exact t.elim
 | list ds=>exact .inr (.inl (okCat p H0 own Hb H x y k1 _ k2 d2 P Q A r1 r2 t q))
 | tuple ds=>exact .inr (.inr (okCatT p H0 own Hb H x y k1 _ k2 d2 P Q A r1 r2 t q))
 | _=>exact t.elim) ha hb
noncomputable def gTimes:G2:=fun k1 d1 k2 d2 P=>match d1 with
 | .int i=>(match d2 with
  | .int j=>CMul i j/\P .imm (.int (i * j))
  | _=>False)
 | .list ds=>gRep k1 (.list ds) k2 d2 P
 | _=>False
theorem gP (ha:PD X a ta) (hb:PD X b tb):PD X (.BinOp a .Mult b pos) (t2 gTimes ta tb):=pd_op (OpR.or lB op_rep) (by
 intro p H0 own Hb H x y k1 d1 k2 d2 P Q A r1 r2 t q
 cases d1 with
 | int i =>
  cases d2 with
  | int j=>exact .inl ⟨i,j,r1.int',r2.int',t.1,q _ _ _ _ t.2 Kp.refl A.pen (.int _)⟩
  | _=>exact t.elim
 | list ds=>exact .inr (okRep p H0 own Hb H x y k1 _ k2 d2 P Q A r1 r2 t q)
 | _=>exact t.elim) ha hb
noncomputable def gEqA (neg:Bool):G2:=fun k1 d1 k2 d2 P=>match scD d1 d2 with
 | some b=>P .imm (.bool (if neg then !b else b))
 | none=>gEqG neg k1 d1 k2 d2 P
theorem okEqA {K:PySem.W.Frag}:Ok2 (gEqA false) (fun x y H Q=>rEq x y H Q\/rEqG K false x y H Q):=by
 intro p H0 own Hb H x y k1 d1 k2 d2 P Q A r1 r2 t q
 cases e:scD d1 d2 with
 | some b =>
  have t':gEq false k1 d1 k2 d2 P:=by
   unfold gEqA at t
   unfold gEq
   rw [e] at t ⊢
   exact t
  exact .inl (okEq p H0 own Hb H x y k1 d1 k2 d2 P Q A r1 r2 t' q)
 | none =>
  unfold gEqA at t
  rw [e] at t
  exact .inr (okEqG false p H0 own Hb H x y k1 d1 k2 d2 P Q A r1 r2 t q)
theorem okNeA {K:PySem.W.Frag}:Ok2 (gEqA true) (fun x y H Q=>rNe x y H Q\/rEqG K true x y H Q):=by
 intro p H0 own Hb H x y k1 d1 k2 d2 P Q A r1 r2 t q
 cases e:scD d1 d2 with
 | some b =>
  have t':gEq true k1 d1 k2 d2 P:=by
   unfold gEqA at t
   unfold gEq
   rw [e] at t ⊢
   exact t
  exact .inl (okNe p H0 own Hb H x y k1 d1 k2 d2 P Q A r1 r2 t' q)
 | none =>
  unfold gEqA at t
  rw [e] at t
  exact .inr (okEqG true p H0 own Hb H x y k1 d1 k2 d2 P Q A r1 r2 t q)
theorem iJ (hu:X.A.units+64<cLine) (ha:PD X a ta) (hb:PD X b tb):PD X (.Compare a [.Eq] [b] pos) (t2 (gEqA false) ta tb):=pd_cmp (OpR.or op_eq (op_eqG hu)) okEqA ha hb (dU _)
theorem mD (hu:X.A.units+64<cLine) (ha:PD X a ta) (hb:PD X b tb):PDT X (.Compare a [.Eq] [b] pos) (dM (t2 (gEqA false) ta tb)):=eV (OpR.or op_eq (op_eqG hu)) okEqA ha hb (dU _)
theorem bW (hu:X.A.units+64<cLine) (ha:PD X a ta) (hb:PD X b tb):PDT X (.Compare a [.NotEq] [b] pos) (dM (t2 (gEqA true) ta tb)):=eV (OpR.or op_ne (op_neG hu)) okNeA ha hb (dU _)
end
section
variable {n:Nat}{g:DG}{tt:DT}{te:DE}{ρ:List Sl}{k:Kd}{ds:List D}{R:Kd->List D->Prop}
theorem m_snoc' {α β:Type} (f:α->β) {l:List α}{i:Nat}{x:α} (h:l[i]?=some x):(l.take (i+1)).map f=(l.take i).map f++[f x]:=by
 rw [List.take_add_one,h]
 simp
theorem lc_m {α:Type} (xs:List α) (e f:α->D) (ke:Kd) (hd:ds=xs.map e) (hl:xs.length<=1000)
  (step:∀ x∈xs,∀ (A:D->Prop) (B:Prop),A (f x)->g (norm (elC k) (e x)) (e x) (List.replicate n .any++ρ) fun ρ'=>if true=true then te ρ' fun k' d'=>(norm k' d').le ke=true/\A d' else B)
  (q:R ke (xs.map f)) :
  ds.length<=1000/\∃ (ke:Kd) (Iv:Nat->List D->Prop),Iv 0 [] /\
   (∀ i d ys,ds[i]?=some d->Iv i ys->g (norm (elC k) d) d (List.replicate n .any++ρ) fun ρ'=>if true=true then te ρ' fun k' d'=>(norm k' d').le ke=true/\Iv (i+1) (ys++[d']) else Iv (i+1) ys) /\
   ∀ ys,Iv ds.length ys->R ke ys:=by
 subst hd
 refine⟨by rw [List.length_map]; exact hl,ke,fun i ys=>ys=(xs.take i).map f,rfl,?_,?_⟩
 ·rintro i d ys hd rfl
  rw [List.getElem?_map] at hd
  cases hx:xs[i]? with
  | none=>rw [hx] at hd; cases hd
  | some x =>
   rw [hx] at hd
   have hd:=Option.some.inj hd
   subst hd
   exact step x (List.mem_of_getElem? hx) (fun d'=>(xs.take i).map f++[d']=(xs.take (i+1)).map f) _ (m_snoc' f hx).symm
 ·rintro ys rfl
  rw [List.length_map,List.take_length]
  exact q
theorem jh {α:Type} (xs:List α) (e:α->D) (p:α->Bool) (f:α->D) (ke:Kd) (hd:ds=xs.map e) (hl:xs.length<=1000)
  (step:∀ x∈xs,∀ (A:D->Prop) (B:Prop),(p x=true->A (f x))->(p x=false->B)->g (norm (elC k) (e x)) (e x) (List.replicate n .any++ρ) fun ρ'=>tt ρ' fun b=>if b=true then te ρ' fun k' d'=>(norm k' d').le ke=true/\A d' else B)
  (q:R ke ((xs.filter p).map f)) :
  ds.length<=1000/\∃ (ke:Kd) (Iv:Nat->List D->Prop),Iv 0 [] /\
   (∀ i d ys,ds[i]?=some d->Iv i ys->g (norm (elC k) d) d (List.replicate n .any++ρ) fun ρ'=>tt ρ' fun b=>if b=true then te ρ' fun k' d'=>(norm k' d').le ke=true/\Iv (i+1) (ys++[d']) else Iv (i+1) ys) /\
   ∀ ys,Iv ds.length ys->R ke ys:=by
 subst hd
 refine⟨by rw [List.length_map]; exact hl,ke,fun i ys=>ys=((xs.take i).filter p).map f,rfl,?_,?_⟩
 ·rintro i d ys hd rfl
  rw [List.getElem?_map] at hd
  cases hx:xs[i]? with
  | none=>rw [hx] at hd; cases hd
  | some x =>
   rw [hx] at hd
   have hd:=Option.some.inj hd
   subst hd
   have sn:((xs.take (i+1)).filter p).map f=((xs.take i).filter p).map f++if p x=true then [f x] else []:=by
    rw [List.take_add_one,hx,List.filter_append,List.map_append]
    cases hp:p x <;> simp [hp]
   refine step x (List.mem_of_getElem? hx) (fun d'=>((xs.take i).filter p).map f++[d']=((xs.take (i+1)).filter p).map f) _ (fun h=>?_) (fun h=>?_)
   ·rw [sn,if_pos h]
   ·show _=_
    rw [sn,h,if_neg Bool.false_ne_true,List.append_nil]
 ·rintro ys rfl
  rw [List.length_map,List.take_length]
  exact q
end
section
variable {g:DG}{tb:DS}{k:Kd}{ds:List D}{ρ:List Sl}{P:DEnds}
end
variable [Gr]
section
variable {X:Cx}{scope:Scope}{tg iter elt:Expr}{ifs:List Expr}{pos:Pos}{ti:DI}{g:DG}{tt:DT}{te:DE}
theorem ps_lcD (own:List Str) {i:Nat}{y:Str}{py spos:Pos} (hc:X.calm=true) (hN:X.N.Nodup) (hiN:X.N[i]?=some y) (hx:Loc X.env.scope y) (hi:PDI X tg iter ti) (hg:∀ c,PDG (X.comp own scope c) tg g) (ht:∀ c,PDTs (X.comp own scope c) ifs tt) (he:∀ c,PD (X.comp own scope c) elt te)
  (hsw:swapsWith (.ListComp elt [⟨tg,iter,ifs,0⟩] scope pos) (some (.Name y py)) spos.line X.env=pure true:=by rfl)
  (hk:fB X.env scope X.N=true:=by rfl) (hs:∀ x,foldedSetIterable iter X.env x=pure x:=by intro _; rfl) (hf:X.fn y=true\/X.env.scope.names.lookup y=some .local:=by first | exact .inl rfl | exact .inr rfl | assumption) :
  PS X (.Assign [.Name y py] (.ListComp elt [⟨tg,iter,ifs,0⟩] scope pos) spos) (tAsg (bM (dLC own.length ti g tt te)) (jJ i)):=PS.wk' (ps_lc own hc hN hiN hx hi hg ht he hsw hk hs hf) fun D σ H q=>lift_lc σ H _ q
end
section
variable {n:Nat}{g:DG}{tt:DT}{te:DE}{ρ:List Sl}{k:Kd}{ds:List D}{R:Kd->List D->Prop}
end
variable [Gr]
section
variable {X:Cx}{pos:Pos}{st:Stmt}{rest:List Stmt}{te tj:DE}{ti:DI}{t:DS}
noncomputable def dFrz (i:Nat) (t:DS):DS:=fun P ρ=>match ρ[i]? with
 | some (.dw r d)=>freeR r ρ i=true/\t P (ρ.set i (.sn d))
 | some (.rw r L)=>freeR r ρ i=true/\t P (ρ.set i (.sn (.list (L.map PyData.list))))
 | some (.sp r b ds)=>freeR r ρ i=true/\t P (ρ.set i (if b=true then .sn (.list ds) else .sh (.list ds)))
 | _=>False
theorem EnvD.freeze {p:Pn}{H0 H:Hp}{own:Addr->Option Nat}{σ:L2.St}{ρ:List Sl}{i r:Nat}{d:D}{v:V} (E:EnvD p H0 own σ H ρ) (hf:freeR r ρ i=true) (hv:σ[i]?=some (some v)) (x:Rp (fun a=>own a=some r) H v d) :
  EnvD p H0 (bL r own) σ H (ρ.set i (.sn d)):=by
 have E2:EnvD p H0 (bL r own) σ H (ρ.set i .any):=(E.drop (i:=i)).clear hf
 have E3:=E2.put (v:=v) (i:=i) (s:=.sn d) ⟨v,hv,x.mono (fun a o=>⟨(E.ow a r o).1,(E.ow a r o).2.1,by unfold bL; rw [if_pos o]⟩) (fun _ _ _ e=>e) fun _ _ e=>e⟩
 rw [List.set_set] at E3
 exact E3
theorem ds_frz (i:Nat) (h:lG X rest t):lG X rest (dFrz i t):=PSs.wk' h (by
 rintro Q σ H ⟨p,H0,own,ρ,P,E,q,w⟩
 unfold dFrz at q
 split at q
 ·rename_i r d e
  obtain⟨v,hv,x⟩:=E.slot i _ e
  exact⟨p,H0,_,_,P,E.freeze q.1 hv x,q.2,w.go g8⟩
 ·rename_i r L e
  obtain⟨st,as,hv,x⟩:=E.slot i _ e
  exact⟨p,H0,_,_,P,E.freeze q.1 hv x.rp,q.2,w.go g8⟩
 ·rename_i r b ds e
  obtain⟨l,vs,hv,o,h,z⟩:=E.slot i _ e
  have E2:EnvD p H0 (bL r own) σ H (ρ.set i .any):=(E.drop (i:=i)).clear q.1
  have c0:∀ a,own a=none->bL r own a=none:=fun a n=>by unfold bL; rw [n]; simp
  have cl:bL r own l=none:=by unfold bL; rw [if_pos o]
  have E3:EnvD p H0 (bL r own) σ H ((ρ.set i .any).set i (if b=true then .sn (.list ds) else .sh (.list ds))):=E2.put (v:=.ref l) (by
   cases b with
   | true=>exact⟨_,hv,.lst ⟨(E.ow l r o).1,(E.ow l r o).2.1,cl⟩ h (z.mono (fun c n=>⟨n.1 rfl,n.2.1,c0 c n.2.2⟩) (fun _ _ _ e=>e) fun _ _ e=>e)⟩
   | false=>exact⟨_,hv,.lst ⟨(E.ow l r o).2.1,cl⟩ h (z.mono (fun c n=>⟨n.2.1,c0 c n.2.2⟩) (fun _ _ _ e=>e) fun _ _ e=>e)⟩)
  rw [List.set_set] at E3
  exact⟨p,H0,_,_,P,E3,q.2,w.go g8⟩
 ·exact q.elim)
noncomputable def dSp (i:Nat) (b:Bool) (t:DS):DS:=fun P ρ=>match ρ[i]? with
 | some (.dw r (.list ds))=>gk ds=true/\t P (ρ.set i (.sp r b ds))
 | _=>False
theorem ds_sp (i:Nat) (b:Bool) (h:lG X rest t):lG X rest (dSp i b t):=PSs.wk' h (by
 rintro Q σ H ⟨p,H0,own,ρ,P,E,q,w⟩
 unfold dSp at q
 split at q
 ·rename_i r ds e
  obtain⟨v,hv,x⟩:=E.slot i _ e
  obtain⟨l,vs,rfl,o,h,z⟩:=x.dZ
  exact⟨p,H0,own,_,P,E.put (v:=.ref l) (i:=i) (s:=.sp r b ds) ⟨l,vs,hv,o,h,(z.imm q.1).mono (fun _ o=>o.elim) (fun _ _ o=>o.elim) fun _ _ e=>e⟩,q.2,w⟩
 ·exact q.elim)
noncomputable def spK (b:Bool):Kd:=if b=true then .snw else .shr
theorem okS_of {p:Pn}{H0 Hb H:Hp}{own:Addr->Option Nat}{b:Bool} (A:At p H0 own Hb H) {k:Kd} (hk:k.le (spK b)=true) {v:V}{d:D}{H2:Hp} (r:Rp (okK p H0 own Hb k) H2 v d):Rp (okS p H0 own b) H2 v d:=by
 have r2:=kY A hk r
 cases b with
 | true=>exact r2.mono (fun a o=>⟨fun _=>o.1,o.2.1,o.2.2⟩) (fun _ _ _ e=>e) fun _ _ e=>e
 | false=>exact r2.mono (fun a o=>⟨fun z=>(nomatch z),o.1,o.2⟩) (fun _ _ _ e=>e) fun _ _ e=>e
theorem EnvD.respine {p:Pn}{H0 H:Hp}{own:Addr->Option Nat}{σ:L2.St}{ρ:List Sl}{i r:Nat}{b:Bool}{l:Addr}{vs vs':List V}{ds':List D} (E:EnvD p H0 own σ H ρ) (hv:σ[i]?=some (some (.ref l))) (o:own l=some r) (h:H l=some (.lst vs)) (z:Rps (okS p H0 own b) H vs' ds') :
  EnvD p H0 own σ (upd H l (.lst vs')) ((forget r ρ).set i (.sp r b ds'))/\FrS p own H own (upd H l (.lst vs')):=by
 refine⟨(E.write (o':=.lst vs') o h fun xs z=>nomatch z).put (v:=.ref l) ⟨l,vs',hv,o,aF,z.mono (fun _ o=>o) (fun c u n e=>?_) fun a xs e=>?_⟩,gC o h fun xs z=>nomatch z⟩
 ·rw [aA]; exact e
  intro y; subst y; rw [n.2.2] at o; cases o
 ·rw [aA]; exact e
  intro y; subst y; rw [h] at e; cases e
noncomputable def dAppS (i:Nat) (te:DE):DS:=fun P ρ=>match ρ[i]? with
 | some (.sp r b ds)=>te ρ fun k d=>(norm k d).le (spK b)=true/\ds.length<1000/\P.nx ((forget r ρ).set i (.sp r b (ds++[d])))
 | _=>False
theorem ds_appS {i:Nat} (h:PS X st (gF (tBM X.K "list" iz (lg i) (liftA (cL te iZ))))):PDS X st (dAppS i te):=PS.wk' h (by
 rintro Q σ H ⟨p,H0,own,ρ,P,E,t,w⟩
 unfold dAppS at t
 split at t
 ·rename_i r b ds hr
  obtain⟨l,vs,hv,o,ho,rs⟩:=E.slot i _ hr
  refine⟨.ref l,hv,.inl ⟨rfl,vs,SqL.of ho⟩,p,H0,own,ρ,_,E,one_arg t,?_⟩
  rintro ks ws H1 ⟨k,d,rfl,hk,hlen,hn⟩ A rk
  obtain⟨y,rfl,ry⟩:=gK rk
  have E1:=E.go A.kp A.pen
  have h1:H1 l=some (.lst vs):=A.kp l _ ho (E.ow l r o).2.1
  have rs1:Rps (okS p H0 own b) H1 vs ds:=rs.mono (fun _ o=>o) (fun c u n e=>A.kp c u e n.2.1) A.tups
  have h24:=sizeLine_eq
  have hln:=rs.length
  refine⟨l,vs,y,rfl,rfl,h1,by omega,?_⟩
  obtain⟨E2,F2⟩:=E1.respine (b:=b) hv o h1 (rs1.snoc (okS_of A hk (bU ry)))
  exact w.nx _ σ _ _ E2 (A.frs.trans F2) hn
 ·exact t.elim)
noncomputable def dInsS (i:Nat) (tj te:DE):DS:=fun P ρ=>match ρ[i]? with
 | some (.sp r b ds)=>tj ρ fun _ dj=>te ρ fun k d=>match dj with
  | .int j=>(norm k d).le (spK b)=true/\0<=j/\j.toNat<=ds.length/\ds.length<1000/\P.nx ((forget r ρ).set i (.sp r b (ds.take j.toNat++d::ds.drop j.toNat)))
  | _=>False
 | _=>False
theorem refs_inj:∀ {as bs:List Addr},as.map V.ref=bs.map V.ref->as=bs
 | [],[],_=>rfl
 | a::as,b::bs,e=>by
  rw [List.map_cons,List.map_cons] at e
  injection e with e1 e2
  rw [V.ref.inj e1,refs_inj e2]
 | [],_::_,e=>by cases e
 | _::_,[],e=>by cases e
noncomputable def dDrops (js:List Nat) (t:DS):DS:=fun P ρ=>t P (js.foldl (fun ρ j=>ρ.set j .any) ρ)
theorem EnvD.drops {p:Pn}{H0 H:Hp}{own:Addr->Option Nat}{σ:L2.St}:∀ (js:List Nat) {ρ:List Sl},EnvD p H0 own σ H ρ->EnvD p H0 own σ H (js.foldl (fun ρ j=>ρ.set j .any) ρ)
 | [],_,E=>E
 | _::js,_,E=>EnvD.drops js E.drop
theorem aC (js:List Nat) (h:lG X rest t):lG X rest (dDrops js t):=PSs.wk' h (by
 rintro Q σ H ⟨p,H0,own,ρ,P,E,q,w⟩
 exact⟨p,H0,own,_,P,E.drops js,q,w⟩)
noncomputable def dRowApp (i:Nat) (tj te:DE):DS:=fun P ρ=>match ρ[i]? with
 | some (.rw r L)=>tj ρ fun _ dj=>match dj with
  | .int j=>∃ n l,ixN L.length j=some n/\L[n]?=some l/\te ρ fun _ d=>fQ d=true/\l.length<1000/\P.nx ((forget r ρ).set i (.rw r (L.set n (l++[d]))))
  | _=>False
 | _=>False
theorem eO {i:Nat} (h:PS X st (gF (tBM X.K "list" iz (tOp (rIxL X.K) (lg i) (bM tj)) (liftA (cL te iZ))))):PDS X st (dRowApp i tj te):=PS.wk' h (by
 rintro Q σ H ⟨p,H0,own,ρ,P,E,q,w⟩
 unfold dRowApp at q
 split at q
 ·rename_i r L hr
  obtain⟨st,as,hv,R0⟩:=E.slot i _ hr
  refine⟨.ref st,hv,p,H0,own,ρ,_,E,q,fun kj dj vj H1 q1 A1 rj=>?_⟩
  cases dj with
  | int j =>
   have E1:=E.go A1.kp A1.pen
   obtain⟨st',as',hv',R1⟩:=E1.slot i _ hr
   rw [hv] at hv'
   cases hv'
   have ej:=Rp.int' rj
   subst ej
   obtain⟨n,l,hn,hl,q1⟩:=q1
   have hnl:=(List.getElem?_eq_some_iff.mp hl).1
   rw [List.getElem?_eq_getElem hnl] at hl
   cases hl
   have hna:n<as'.length:=by rw [R1.len]; exact hnl
   have eat:atI (as'.map V.ref) j=some (.ref as'[n]):=by
    unfold L2.atI
    rw [List.length_map,R1.len,hn]
    show (as'.map V.ref)[n]?=_
    rw [List.getElem?_map,List.getElem?_eq_getElem hna]
    rfl
   obtain⟨vs,hav,rv⟩:=R1.row n as'[n] L[n] (List.getElem?_eq_getElem hna) (List.getElem?_eq_getElem hnl)
   refine⟨st,_,j,.ref as'[n],rfl,rfl,SqL.of R1.top,eat,.inl ⟨rfl,vs,SqL.of hav⟩,p,H0,own,ρ,_,E1,one_arg q1,?_⟩
   rintro ks ws H2 ⟨k,d,rfl,im,len,nx⟩ A2 rk
   obtain⟨y,rfl,ry⟩:=gK rk
   have ry:Rp (fun _=>False) H2 y d:=Rp.imm ry im
   have E2:=E1.go A2.kp A2.pen
   obtain⟨st',as2,hv',R2⟩:=E2.slot i _ hr
   rw [hv] at hv'
   cases hv'
   -- the rows are those of before
   have eas:as2=as':=by
    have e1:=A2.kp st _ R1.top (E1.ow st r (R1.ow st List.mem_cons_self)).2.1
    rw [R2.top] at e1
    have e2:=(HO.lst.inj (Option.some.inj e1))
    exact refs_inj e2
   subst eas
   obtain⟨vs2,hav2,rv2⟩:=R2.row n as2[n] L[n] (List.getElem?_eq_getElem hna) (List.getElem?_eq_getElem hnl)
   have oa:=R2.ow as2[n] (List.mem_cons_of_mem _ (List.getElem_mem hna))
   have h24:=sizeLine_eq
   have ln:=rv2.length
   refine⟨as2[n],vs2,y,rfl,rfl,hav2,by omega,?_⟩
   have tp:∀ a xs,H2 a=some (.tup xs)->upd H2 as2[n] (.lst (vs2++[y])) a=some (.tup xs):=fun a xs e=>by
    rw [aA]; exact e
    intro z; subst z; rw [hav2] at e; cases e
   have E3:=E2.write (o':=.lst (vs2++[y])) oa hav2 (fun xs z=>nomatch z)
   have nd1:=List.nodup_cons.mp R2.nd
   have E4:=E3.put (v:=.ref st) (i:=i) (s:=.rw r (L.set n (L[n]++[d]))) ⟨st,as2,hv,⟨?_,R2.nd,R2.ow,by rw [List.length_set]; exact R2.len,fun m a ds e1 e2=>?_⟩⟩
   ·exact w.nx _ σ _ _ E4 ((A1.frs.trans A2.frs).trans (gC oa hav2 fun xs z=>nomatch z)) nx
   ·rw [aA]; exact R2.top
    intro z
    exact nd1.1 (by rw [z]; exact List.getElem_mem hna)
   ·by_cases em:m=n
    ·subst em
     rw [List.getElem?_set_self hnl] at e2
     rw [List.getElem?_eq_getElem hna] at e1
     cases e1
     cases e2
     exact⟨_,aF,(rv2.mono (fun _ o=>o) (fun _ _ o=>o.elim) tp).snoc (ry.mono (fun _ o=>o) (fun _ _ o=>o.elim) tp)⟩
    ·rw [List.getElem?_set_ne (Ne.symm em)] at e2
     obtain⟨vs3,h3,r3⟩:=R2.row m a ds e1 e2
     refine⟨vs3,?_,r3.mono (fun _ o=>o) (fun _ _ o=>o.elim) tp⟩
     rw [aA]; exact h3
     intro z
     have hm:=(List.getElem?_eq_some_iff.mp e1).1
     have hz:as2[m]=as2[n]:=by rw [(List.getElem?_eq_some_iff.mp e1).2]; exact z
     exact em ((List.getElem_inj nd1.2).mp hz)
  | _=>exact q1.elim
 ·exact q.elim)
noncomputable def dRowsC (i r:Nat) (ti:DI):DS:=fun P ρ=>ti ρ fun k ds=>ds.length<=1000/\freeR r ρ i=true/\P.nx (ρ.set i (.rw r (List.replicate ds.length [])))
theorem jL {i n j:Nat} (r:Nat) (h:PS X st (tAsg (tLC n (liftI ti) (fun _=>liftG (gNm j)) (fun _=>liftT fun _ P=>P true) (fun _=>tLst tNil)) (jJ i))):PDS X st (dRowsC i r ti):=PS.wk' h (by
 rintro Q σ H ⟨p,H0,own,ρ,P,E,q,w⟩
 refine⟨p,H0,own,ρ,_,E,q,fun k ds J H1 Ok h A W o1=>?_⟩
 obtain⟨hlen,hf,nx⟩:=h
 have okS:∀ H',Kp p H1 H'->p.PI H'->Ok H':=fun H' K i=>W.stab H1 H' o1 (fun b o n e=>K b o e (mL A n.1)) (iW A K)
 refine⟨fun i m ys H'=>m=ds.length - i/\i<=ds.length/\Kp p H1 H'/\p.PI H'/\∃ as:List Addr,ys=as.map V.ref/\as.Nodup/\as.length=i/\∀ a∈as,H a=none/\H' a=some (.lst []),⟨_,rfl,Nat.zero_le _,Kp.refl,A.pen,[],rfl,.nil,rfl,fun a ha=>nomatch ha⟩,?_⟩
 rintro c i' m ys H' ⟨rfl,hi,K',I',as,rfl,nd,la,hn⟩
 have oH:=okS H' K' I'
 have A':=A.go K' I'
 have h24:=sizeLine_eq
 by_cases hlt:i'<ds.length
 ·refine .inr ⟨W.go i' H' oH hlt,by rw [List.length_map]; omega,fun ys' H2=>Kp p H1 H2/\p.PI H2/\∃ as:List Addr,ys'=as.map V.ref/\as.Nodup/\as.length=i'+1/\∀ a∈as,H a=none/\H2 a=some (.lst []),fun ys' H2 h=>⟨_,by omega,rfl,hlt,h⟩,fun x H2 y=>?_⟩
  obtain⟨sm,rx⟩:=W.yld i' H' x H2 oH y
  have rx:=rx ds[i'] (List.getElem?_eq_getElem hlt)
  have I2:p.PI H2:=p.mono H' H2 I' fun b o _ e=>sm b o e
  have K2:Kp p H1 H2:=K'.trans (Kp.of sm)
  have A2:=A.go K2 I2
  have E2:EnvD p H0 own σ H2 ρ:=E.go A2.kp A2.pen
  refine⟨p,H0,own,_,_,_,fun _=>True,E2.comp n,gM (okA_C A rx),trivial,fun σ3 ρ3 E3 t3=>?_⟩
  refine⟨p,H0,own,ρ3,fun b=>b=true,E3,rfl,fun b H4 h4 A4=>?_⟩
  subst h4
  refine cD ⟨(by show 0<=sizeLine; omega),fun l hl=>?_⟩
  have A5:At p H0 own H H4:=A2.base A4
  obtain⟨k7,i7,nw⟩:=A5.new hl (.lst [])
  refine⟨(K2.trans A4.kp).trans k7,i7,as++[l],by rw [List.map_append]; rfl,?_,by rw [List.length_append,la]; rfl,fun a ha=>?_⟩
  ·refine List.nodup_append.mpr ⟨nd,by simp,fun a ha b hb=>?_⟩
   rw [List.mem_singleton.mp hb]
   intro z
   subst z
   have e:=A4.kp a _ (sm a _ (hn a ha).2) (A.nfb (hn a ha).1)
   rw [hl] at e
   cases e
  ·rcases List.mem_append.mp ha with z | z
   ·refine⟨(hn a z).1,?_⟩
    have e:=A4.kp a _ (sm a _ (hn a z).2) (A.nfb (hn a z).1)
    exact k7 a _ e (A.nfb (hn a z).1)
   ·rw [List.mem_singleton.mp z]
    exact⟨nw,aF⟩
 ·have e:i'=ds.length:=by omega
  subst e
  refine .inl ⟨W.stop H' oH,fun l hl=>?_⟩
  obtain⟨k7,i7,nw⟩:=A'.new hl (.lst (as.map V.ref))
  have A7:=A'.go k7 i7
  show Q.nx (σ.set i (some (.ref l))) (upd H' l (.lst (as.map V.ref)))
  have E2:EnvD p H0 (bL r own) σ H (ρ.set i .any):=(E.drop (i:=i)).clear hf
  have A8:At p H0 (bL r own) H (upd H' l (.lst (as.map V.ref))):=⟨A7.k0,A7.kp,A7.penb,A7.pen,E2.ow⟩
  have E3:=E2.adopt r A8
  have lna:l∉as:=fun z=>by rw [(hn l z).2] at hl; cases hl
  have E4:=E3.set (i:=i) (v:=.ref l) (s:=.rw r (List.replicate ds.length [])) fun hli=>⟨l,as,List.getElem?_set_self hli,⟨aF,List.nodup_cons.mpr ⟨lna,nd⟩,fun a ha=>?_,by rw [la,List.length_replicate],fun m a es e1 e2=>?_⟩⟩
  ·rw [List.set_set] at E4
   exact w.nx _ _ _ _ E4 (g8.trans (kh A8)) nx
  ·rcases List.mem_cons.mp ha with rfl | ha
   ·exact iw nw aF
   ·exact iw (hn a ha).1 (by rw [aA (fun z:a=l=>lna (by rw [← z]; exact ha))]; exact (hn a ha).2)
  ·have ha:=List.mem_of_getElem? e1
   have ees:es=[]:=by
    have:=List.mem_of_getElem? e2
    exact (List.mem_replicate.mp this).2
   subst ees
   exact⟨[],by rw [aA (fun z:a=l=>lna (by rw [← z]; exact ha))]; exact (hn a ha).2,.nil⟩)
theorem j5:PD X (.Dict [] [] pos) (fun _ P=>P .new (.dict [])):=PE.wk pe_dnewK (by
 rintro σ H Q ⟨p,H0,own,ρ,P,E,t,q⟩
 have A:=E.at
 exact fun d hd=>let ⟨k2,i2,nw⟩:=A.new hd (.dK []); q _ _ _ _ t (A.go k2 i2) (.dct nw aF .nil))
end
@[reducible] def grL (K:PySem.W.Frag) (sc:Addr) (ns:List Int):Gr:=⟨fun p H0=>SqL K H0 sc (ns.map V.int)/\∀ b,p.fp b->H0 b=none⟩
noncomputable def spLaw (K:PySem.W.Frag):Sp:=fun vs H Q _=>∃ (a:Addr) (ns:List Int),vs=[.ref a]/\SqL K H a (ns.map V.int)/\∀ H',Q (.bl true) H'
section
variable {X:Cx}{k1 k2 j:Nat}{x y z:Str}{ps1 ps2:List Str}{e:Expr}{es1 es2:List Expr}{p1 p2 p3 pos pos1:Pos}{K:PySem.W.Frag}{sc:Addr}{ns:List Int}{C:Pn->Prop}{pre:List D->Prop}{g:List D->(D->Prop)->Prop}{i:Nat}
end
variable [Gr]
section
variable {X:Cx}{pos pos':Pos}{a b:Expr}{t:DA}
end
variable [Gr]
mutual
inductive Tm where
 | int (i:Int)
 | neg (i:Int)
 | bl (b:Bool)
 | non
 | str (s:Str)
 | var (i:Nat)
 | lst (ts:Tms)
 | tup (ts:Tms)
 | dct
inductive Tms where
 | nil
 | cons (t:Tm) (ts:Tms)
end
noncomputable def visB (sc:Scope) (x:Str):Bool:=sc.names.lookup x == some .local || sc.names.lookup x == some .cell || sc.names.lookup x == some .free
mutual
noncomputable def okT (N:List Str) (sc:Scope):Tm->Expr->Bool
 | .int i,.Constant (.int j) _ _=>i == j
 | .neg i,.UnaryOp .USub (.Constant (.int j) _ _) _=>i == j
 | .bl b,.Constant (.bool c) _ _=>b == c
 | .non,.Constant .none _ _=>true
 | .str s,.Constant (.str u) _ _=>s == u
 | .var i,.Name x _=>N[i]? == some x&&(visB sc x&&(!(x == ("__debug__":Str))&&!(x == ("__classdict__":Str))))
 | .lst ts,.List es _=>okTs N sc ts es
 | .tup ts,.Tuple es _ _=>okTs N sc ts es
 | .dct,.Dict [] [] _=>true
 | _,_=>false
noncomputable def okTs (N:List Str) (sc:Scope):Tms->List Expr->Bool
 | .nil,[]=>true
 | .cons t ts,e::es=>okT N sc t e&&okTs N sc ts es
 | _,_=>false
end
mutual
noncomputable def evT (ρ:List Sl):Tm->Option (Kd×D)
 | .int i=>some (.imm,.int i)
 | .neg i=>some (.imm,.int (-i))
 | .bl b=>some (.imm,.bool b)
 | .non=>some (.imm,.none)
 | .str s=>some (.imm,.str s)
 | .var i=>match ρ[i]? with
  | some (.im d)=>some (.imm,d)
  | some (.sh d)=>some (.shr,d)
  | some (.sn d)=>some (.snw,d)
  | some (.dw r d)=>some (.reg r,d)
  | _=>none
 | .lst ts=>match evTs ρ ts with
  | some ks=>some ((joins ks).join .new,.list (ks.map (·.2)))
  | none=>none
 | .tup ts=>match evTs ρ ts with
  | some ks=>some (norm (joins ks) (.tuple (ks.map (·.2))),.tuple (ks.map (·.2)))
  | none=>none
 | .dct=>some (.new,.dict [])
noncomputable def evTs (ρ:List Sl):Tms->Option (List (Kd×D))
 | .nil=>some []
 | .cons t ts=>match evT ρ t,evTs ρ ts with
  | some k,some ks=>some (k::ks)
  | _,_=>none
end
mutual
noncomputable def smT:Tm->Bool
 | .lst ts=>smTs 1000 ts
 | .tup ts=>smTs 1000 ts
 | _=>true
noncomputable def smTs:Nat->Tms->Bool
 | _,.nil=>true
 | n+1,.cons t ts=>smT t&&smTs n ts
 | 0,.cons _ _=>false
end
section
variable {X:Cx}{e:Expr}{es:List Expr}
section
variable {N:List Str}{sc:Scope}
end
end
end Dl
namespace L2
open PySem PySem.Spec PyProof.Rows HT
section
variable {X:Cx}{e:Expr}{te:TE}{p1 p2 p3 pos:Pos}
end
end L2
namespace Dl
open PySem L2 PyProof.Rows
variable [Gr]
section
variable {X:Cx}{pos p1 p2 p3:Pos}{a b e:Expr}{es:List Expr}{ta tb te:DE}{t:DA}
theorem Rps.rev {ok:Addr->Prop}{H:Hp}:∀ {vs:List V}{ds:List D},Rps ok H vs ds->Rps ok H vs.reverse ds.reverse
 | _,_,.nil=>.nil
 | _,_,.cons h t=>by
  rw [List.reverse_cons,List.reverse_cons]
  exact (Rps.rev t).snoc h
noncomputable def tSl' (te:DE) (tl th:DO):DE:=fun ρ P=>te ρ fun k d=>tl ρ fun lo=>th ρ fun hi=>match d with
 | .list ds=>newP k (cutL ds lo hi) fun k'=>P k' (.list (cutL ds lo hi))
 | .tuple ds=>¬ (HT.sIx ds.length 0 lo=0/\HT.sIx ds.length ds.length hi=ds.length)/\P (norm k (.tuple (cutL ds lo hi))) (.tuple (cutL ds lo hi))
 | _=>False
theorem pd_sl {lo hi:Option Expr}{tl th:DO} (he:PD X e te) (hl:PO X lo (liftO tl)) (hh:PO X hi (liftO th)):PD X (.Subscript e (.Slice lo hi none p2) pos) (tSl' te tl th):=PE.wk (pe_slice (SlR.or sl_list sl_tup) he hl hh) (by
 rintro σ H Q ⟨p,H0,own,ρ,P,E,t,q⟩
 refine⟨p,H0,own,ρ,_,E,t,fun k d v H1 h A r=>?_⟩
 refine⟨p,H0,own,ρ,_,E.go A.kp A.pen,h,fun o1 H2 h2 A2=>?_⟩
 refine⟨p,H0,own,ρ,_,(E.go A.kp A.pen).go A2.kp A2.pen,h2,fun o2 H3 h3 A3=>?_⟩
 have A4:=(A.base A2).base A3
 have r3:=rp_go (A.base A2) A3.kp (rp_go A A2.kp r)
 cases d with
 | list ds =>
  obtain⟨x,xs,e1,o,h1,rs⟩:=Rp.dZ r3
  subst e1
  refine .inl ⟨x,xs,rfl,SqL.of h1,fun l hl=>?_⟩
  obtain⟨k2,i2,nw⟩:=A4.new hl (.lst (cutV xs o1 o2))
  obtain⟨k',hk',rk'⟩:=newP_ok A4 (dO A4 k2 (rs.cut o1 o2)) nw aF h3
  exact q _ _ _ _ hk' (A4.go k2 i2) rk'
 | tuple ds =>
  obtain⟨x,xs,e1,h1,rs⟩:=Rp.eY r3
  subst e1
  refine .inr ⟨x,xs,rfl,SqT.of h1,by rw [rs.length]; exact h3.1,fun l hl=>?_⟩
  obtain⟨k2,i2,nw⟩:=A4.new hl (.tup (cutV xs o1 o2))
  exact q _ _ _ _ h3.2 (A4.go k2 i2) (bU (.tup aF (dO A4 k2 (rs.cut o1 o2))))
 | _=>exact h3.elim)
end
variable [Gr]
noncomputable abbrev IM:=List (Int×D)
noncomputable def kvD (m:IM):List (D×D):=m.map fun p=>(PyData.int p.1,p.2)
noncomputable def dX (m:IM) (k:Int):Bool:=m.any fun p=>decide (p.1=k)
noncomputable def jH (m:IM) (k:Int):Option D:=(m.find? fun p=>decide (p.1=k)).map (·.2)
noncomputable def fu (m:IM) (k:Int) (d:D):IM:=if dX m k=true then m.map (fun p=>if p.1=k then (p.1,d) else p) else m++[(k,d)]
noncomputable def immI (m:IM):Bool:=m.all fun p=>fQ p.2
theorem kD_int {k:Key}{i:Int} (h:kD k=.int i):k=.inl i:=by
 cases k with
 | inl j=>cases h; rfl
 | inr x=>cases h
theorem Rkv.kv:∀ {ok:Addr->Prop}{H:Hp}{kvs:List (Key×V)}{m:IM},Rkv ok H kvs (kvD m)->∃ vs:List V,kvs=(m.map (·.1)).zipWith (fun i v=>(Sum.inl i,v)) vs/\Rps ok H vs (m.map (·.2))
 | _,_,_,[],h=>by cases h; exact⟨[],rfl,.nil⟩
 | _,_,_,p::m,h=>by
  unfold kvD at h
  rw [List.map_cons] at h
  generalize hk:PyData.int p.1=kk at h
  cases h with
  | cons h t =>
   rename_i k v vs0
   obtain⟨vs,rfl,r⟩:=Rkv.kv (m:=m) t
   have e:=kD_int hk.symm
   subst e
   exact⟨v::vs,rfl,.cons h r⟩
theorem kvs_has:∀ {m:IM}{vs:List V} (k:Int),vs.length=m.length->(((m.map (·.1)).zipWith (fun i v=>((Sum.inl i:Key),v)) vs).any fun kv=>decide (kv.1=Sum.inl k))=dX m k
 | [],[],_,_=>rfl
 | p::m,v::vs,k,h=>by
  have ih:=kvs_has (m:=m) (vs:=vs) k (by simpa using h)
  have e:decide ((Sum.inl p.1:Key)=Sum.inl k)=decide (p.1=k):=by
   by_cases c:p.1=k <;> simp [c]
  show (decide ((Sum.inl p.1:Key)=Sum.inl k) || _)=(decide (p.1=k) || _)
  rw [e]
  exact congrArg _ ih
 | [],_::_,_,h=>by cases h
 | _::_,[],_,h=>by cases h
theorem val_some {kvs:List (Key×V)}{k:Key}:(gD kvs k).isSome=kvs.any fun kv=>decide (kv.1=k):=by
 induction kvs with
 | nil=>rfl
 | cons p r ih =>
  unfold gD at ih ⊢
  rw [List.find?_cons,List.any_cons]
  cases h:decide (p.1=k) with
  | true=>rfl
  | false=>exact ih
theorem kvs_get:∀ {ok:Addr->Prop}{H:Hp}{m:IM}{vs:List V}{k:Int}{d:D},Rps ok H vs (m.map (·.2))->jH m k=some d->∃ v,gD ((m.map (·.1)).zipWith (fun i v=>((Sum.inl i:Key),v)) vs) (Sum.inl k)=some v/\Rp ok H v d
 | _,_,[],_,_,_,_,h=>by cases h
 | _,_,p::m,_,k,d,.cons r t,h=>by
  unfold jH at h
  rw [List.find?_cons] at h
  by_cases c:p.1=k
  ·rw [decide_eq_true c] at h
   cases h
   refine⟨_,?_,r⟩
   show gD ((Sum.inl p.1,_)::_) (Sum.inl k)=_
   rw [lH (by rw [c])]
  ·rw [decide_eq_false c] at h
   obtain⟨v,e,rv⟩:=kvs_get (m:=m) (k:=k) (d:=d) t h
   refine⟨v,?_,rv⟩
   show gD ((Sum.inl p.1,_)::_) (Sum.inl k)=_
   unfold gD at e ⊢
   rw [List.find?_cons,decide_eq_false (fun z=>c (Sum.inl.inj z))]
   exact e
theorem kvs_put:∀ {m:IM}{vs:List V}{k:Int}{v:V}{ok:Addr->Prop}{H:Hp}{d:D},Rps ok H vs (m.map (·.2))->Rp ok H v d->Rkv ok H (putK ((m.map (·.1)).zipWith (fun i v=>((Sum.inl i:Key),v)) vs) (Sum.inl k) v) (kvD (fu m k d)):=by
 intro m vs k v ok H d rs rv
 have hl:vs.length=m.length:=by rw [rs.length,List.length_map]
 have all:∀ {m:IM}{vs:List V},Rps ok H vs (m.map (·.2))->Rkv ok H ((m.map (·.1)).zipWith (fun i v=>((Sum.inl i:Key),v)) vs) (kvD m):=by
  intro m
  induction m with
  | nil=>intro vs r; cases r; exact .nil
  | cons p m ih =>
   intro vs r
   cases r with
   | cons h t=>exact .cons (k:=Sum.inl p.1) h (ih t)
 unfold putK fu
 rw [kvs_has k hl]
 by_cases c:dX m k=true
 ·rw [if_pos c,if_pos c]
  clear c hl
  induction m generalizing vs with
  | nil=>cases rs; exact .nil
  | cons p m ih =>
   cases rs with
   | cons h t =>
    have:=ih t
    by_cases cp:p.1=k
    ·have e1:(Sum.inl p.1:Key)=Sum.inl k:=by rw [cp]
     show Rkv ok H ((if (Sum.inl p.1:Key)=Sum.inl k then ((Sum.inl p.1:Key),v) else (Sum.inl p.1,_))::_) (kvD ((if p.1=k then (p.1,d) else p)::_))
     rw [if_pos e1,if_pos cp]
     exact .cons (k:=Sum.inl p.1) rv this
    ·have e1:¬ ((Sum.inl p.1:Key)=Sum.inl k):=fun z=>cp (Sum.inl.inj z)
     show Rkv ok H ((if (Sum.inl p.1:Key)=Sum.inl k then ((Sum.inl p.1:Key),v) else (Sum.inl p.1,_))::_) (kvD ((if p.1=k then (p.1,d) else p)::_))
     rw [if_neg e1,if_neg cp]
     exact .cons (k:=Sum.inl p.1) h this
 ·rw [if_neg c,if_neg c]
  have app:∀ {a b:List (Key×V)}{x y:List (D×D)},Rkv ok H a x->Rkv ok H b y->Rkv ok H (a++b) (x++y):=by
   intro a b x y h1 h2
   induction a generalizing x with
   | nil=>cases h1; exact h2
   | cons p a ih=>cases h1 with | cons h t=>exact .cons h (ih t)
  unfold kvD
  rw [List.map_append]
  exact app (all rs) (.cons (k:=Sum.inl k) rv .nil)
section
variable {X:Cx}{pos pos' p2:Pos}{a b e:Expr}{ta tb te tj tm:DE}{st st2:Stmt}{rest:List Stmt}{ti:DI}{g:DG}{t:DS}
noncomputable def tD1 (ta tb:DE):DE:=fun ρ P=>ta ρ fun _ d1=>tb ρ fun k2 d2=>match d1 with
 | .int i=>(norm k2 d2).le .new=true/\P .new (.dict (kvD [(i,d2)]))
 | _=>False
theorem pd_dict1 (ha:PD X a ta) (hb:PD X b tb):PD X (.Dict [some a] [b] pos) (tD1 ta tb):=PE.wk (pe_disp (pps_cons ha hb pps_nil) rfl rfl (by intro z; cases z) (by show 1<=15; decide)) (by
 rintro σ H Q ⟨p,H0,own,ρ,P,E,t,q⟩
 intro c hc
 have A0:=E.at
 obtain⟨k0,i0,nw⟩:=A0.new hc (.dK [])
 have nf:=A0.nfb hc
 refine⟨p,H0,own,ρ,_,E.go k0 i0,t,fun k1 d1 v1 H1 t1 A1 r1=>?_⟩
 refine⟨p,H0,own,ρ,_,(E.go k0 i0).go A1.kp A1.pen,t1,fun k2 d2 v2 H2 t2 A2 r2=>?_⟩
 have h1:H1 c=some (.dK []):=A1.kp c _ aF nf
 have h2:H2 c=some (.dK []):=A2.kp c _ h1 nf
 refine⟨h2,?_⟩
 cases d1 with
 | int i =>
  have e1:=Rp.int' r1
  subst e1
  refine⟨[(Sum.inl i,v2)],rfl,(by show 1<=15; decide),?_⟩
  show Q (.ref c) (upd H2 c (.dK [(Sum.inl i,v2)]))
  have K:Kp p H (upd H2 c (.dK [(Sum.inl i,v2)])):=fun x o ex nx=>by
   rw [aA (aH ex hc)]
   exact A2.kp x o (A1.kp x o (by rw [aA (aH ex hc)]; exact ex) nx) nx
  have PIf:p.PI (upd H2 c (.dK [(Sum.inl i,v2)])):=p.mono H2 _ A2.pen fun x o fx ex=>by
   rw [aA (fun z:x=c=>nf (by rw [← z]; exact fx))]; exact ex
  refine q _ _ _ _ t2.2 ⟨A0.k0,K,A0.penb,PIf,A0.ow⟩ (.dct nw aF (.cons (k:=Sum.inl i) ?_ .nil))
  have rn:Rp (okK p H0 own H1 .new) H2 v2 d2:=kY A2 t2.1 (bU r2)
  refine rn.cR (fun x o n ex=>⟨?_,?_⟩) fun x xs ex=>?_
  ·have n:H1 x=none:=n
   cases hx:H x with
   | none=>exact hx
   | some u =>
    have:=A1.kp x u (by rw [aA (aH hx hc)]; exact hx) (A2.nfb n)
    rw [n] at this
    cases this
  ·have n:H1 x=none:=n
   rw [aA (fun z=>by rw [z,h1] at n; cases n)]
   exact ex
  ·rw [aA (fun z=>by rw [z,h2] at ex; cases ex)]
   exact ex
 | _=>exact t2.elim)
noncomputable def gDin (neg:Bool):G2:=fun _ d1 _ d2 P=>match d1,d2 with
 | .int k,.dict ds=>∃ m:IM,ds=kvD m/\P .imm (.bool (if neg then !(dX m k) else dX m k))
 | _,_=>False
theorem Rp.dct' {ok:Addr->Prop}{H:Hp}{v:V}{ds:List (D×D)} (r:Rp ok H v (.dict ds)):∃ a kvs,v=.ref a/\ok a/\H a=some (.dK kvs)/\Rkv ok H kvs ds:=by
 cases r with
 | dct o h r=>exact⟨_,_,rfl,o,h,r⟩
theorem lift_dnotin:∀ σ H Q,bM (t2 (gDin true) ta tb) σ H Q->tDNotIn (bM ta) (bM tb) σ H Q:=by
 rintro σ H Q ⟨p,H0,own,ρ,P,E,t,q⟩
 refine⟨p,H0,own,ρ,_,E,t,fun k1 d1 v1 H1 t1 A1 r1=>?_⟩
 refine⟨p,H0,own,ρ,_,E.go A1.kp A1.pen,t1,fun k2 d2 v2 H2 t2 A2 r2=>?_⟩
 have A:=A1.base A2
 unfold gDin at t2
 split at t2
 ·rename_i k ds
  obtain⟨m,rfl,t2⟩:=t2
  have e1:=Rp.int' r1
  subst e1
  obtain⟨c,kvs,rfl,o,hc,rk⟩:=Rp.dct' r2
  obtain⟨vs,rfl,rs⟩:=rk.kv
  refine⟨c,_,rfl,DGet.k (k:=Sum.inl k) hc,?_⟩
  rw [val_some,kvs_has k (by rw [rs.length,List.length_map])]
  exact q _ _ _ _ t2 A (.bl _)
 ·exact t2.elim
theorem hu1 (hu:X.A.units+64<cLine):X.A.units+1<cLine:=by omega
theorem d8 (hu:X.A.units+64<cLine) (ha:PD X a ta) (hb:PD X b tb) (hm:behindInMarks .NotIn b=false:=by rfl):PDT X (.Compare a [.NotIn] [b] pos) (dM (t2 (gDin true) ta tb)):=PT.wk (pt_cmp (pc_dnotin (hu1 hu) ha hb) hm) fun σ H Q q=>lift_dnotin σ H _ (by
 obtain⟨p,H0,own,ρ,P,E,t,q⟩:=q
 refine⟨p,H0,own,ρ,_,E,t,fun k d v H' h A r=>?_⟩
 cases d with
 | bool b=>exact⟨b,Rp.bl' r,q b H' h A⟩
 | _=>exact h.elim)
noncomputable def gDget:G2:=fun k1 d1 _ d2 P=>match d1,d2 with
 | .dict ds,.int k=>∃ (m:IM) (d:D),ds=kvD m/\jH m k=some d/\P (norm k1 d) d
 | _,_=>False
theorem mH (hu:X.A.units+64<cLine) (ha:PD X a ta) (hb:PD X b tb) (hs:NoSl b:=by exact fun _ _=>rfl):PD X (.Subscript a b pos) (t2 gDget ta tb):=PE.wk (pe_dget (hu1 hu) ha hb hs) (by
 rintro σ H Q ⟨p,H0,own,ρ,P,E,t,q⟩
 refine⟨p,H0,own,ρ,_,E,t,fun k1 d1 v1 H1 t1 A1 r1=>?_⟩
 refine⟨p,H0,own,ρ,_,E.go A1.kp A1.pen,t1,fun k2 d2 v2 H2 t2 A2 r2=>?_⟩
 have A:=A1.base A2
 unfold gDget at t2
 split at t2
 ·rename_i ds k
  obtain⟨m,d,rfl,hg,t2⟩:=t2
  have e2:=Rp.int' r2
  subst e2
  obtain⟨c,kvs,rfl,o,hc,rk⟩:=Rp.dct' (rp_go A1 A2.kp r1)
  obtain⟨vs,rfl,rs⟩:=rk.kv
  obtain⟨v,ev,rv⟩:=kvs_get rs hg
  refine⟨c,v,rfl,?_,q _ _ _ _ t2 A (bU rv)⟩
  rw [← ev]
  exact DGet.k (k:=Sum.inl k) hc
 ·exact t2.elim)
noncomputable def dPutD (i:Nat) (tk tv:DE):DS:=fun P ρ=>match ρ[i]? with
 | some (.dw r (.dict ds))=>tv ρ fun _ dv=>tk ρ fun _ dk=>match dk with
  | .int k=>∃ m:IM,ds=kvD m/\fQ dv=true/\immI m=true/\m.length<1000/\P.nx ((forget r ρ).set i (.dw r (.dict (kvD (fu m k dv)))))
  | _=>False
 | _=>False
theorem imm_vals {ok:Addr->Prop}{H:Hp}:∀ {m:IM}{vs:List V},immI m=true->Rps ok H vs (m.map (·.2))->Rps (fun _=>False) H vs (m.map (·.2))
 | [],_,_,.nil=>.nil
 | p::m,_,h,.cons r t=>by
  unfold immI at h
  rw [List.all_cons,Bool.and_eq_true] at h
  exact .cons (r.imm h.1) (imm_vals (m:=m) h.2 t)
theorem ds_dput {i:Nat}{tk tv:DE} (h:PS X st (sDPut (lg i) (bM tk) (bM tv))):PDS X st (dPutD i tk tv):=PS.wk' h (by
 rintro Q σ H ⟨p,H0,own,ρ,P,E,t,w⟩
 unfold dPutD at t
 split at t
 ·rename_i r ds hr
  obtain⟨v,hv,_⟩:=E.slot i _ hr
  refine⟨p,H0,own,ρ,_,E,t,fun kv dv vv H1 t1 A1 r1=>?_⟩
  have E1:=E.go A1.kp A1.pen
  refine⟨v,hv,p,H0,own,ρ,_,E1,t1,fun kk dk vk H2 t2 A2 r2=>?_⟩
  have E2:=E1.go A2.kp A2.pen
  cases dk with
  | int k =>
   obtain⟨m,rfl,im,imm,hlen,nx⟩:=t2
   obtain⟨v',hv',x⟩:=E2.slot i _ hr
   rw [hv] at hv'
   cases hv'
   obtain⟨l,kvs,rfl,o,hl,rk⟩:=Rp.dct' x
   obtain⟨vs,rfl,rs⟩:=rk.kv
   have ek:=Rp.int' r2
   subst ek
   have h24:=sizeLine_eq
   have rs0:=imm_vals imm rs
   have rv0:Rp (fun _=>False) H2 vv dv:=(rp_go A1 A2.kp r1).imm im
   have ln:((m.map (·.1)).zipWith (fun i v=>((Sum.inl i:Key),v)) vs).length=m.length:=by
    rw [List.length_zipWith,List.length_map,rs.length,List.length_map,Nat.min_self]
   refine⟨l,_,rfl,DPut.k (k:=Sum.inl k) hl (by rw [ln]; omega),?_⟩
   have rp:=kvs_put (k:=k) rs0 rv0
   generalize putK ((m.map (·.1)).zipWith (fun i v=>((Sum.inl i:Key),v)) vs) (Sum.inl k) vv=kvs' at rp
   have tp:∀ a xs,H2 a=some (.tup xs)->upd H2 l (.dK kvs') a=some (.tup xs):=fun a xs e=>by
    rw [aA (fun z=>by rw [z,hl] at e; cases e)]; exact e
   have E3:=(E2.write (o':=.dK kvs') o hl fun xs z=>nomatch z).put (v:=.ref l) (i:=i) (s:=.dw r (.dict (kvD (fu m k dv)))) ⟨_,hv,.dct o aF (rp.mono (fun _ o=>o.elim) (fun _ _ o=>o.elim) tp)⟩
   exact w.nx _ σ _ _ E3 ((A1.frs.trans A2.frs).trans (gC o hl fun xs z=>nomatch z)) nx
  | _=>exact t2.elim
 ·exact t.elim)
noncomputable def tTru (te:DE):DT:=fun ρ P=>te ρ fun _ d=>match d with
 | .list ds=>P (!ds.isEmpty)
 | .tuple ds=>P (!ds.isEmpty)
 | .bool b=>P b
 | _=>False
theorem emp_eq {ok:Addr->Prop}{H:Hp}{vs:List V}{ds:List D} (r:Rps ok H vs ds):(!vs.isEmpty)=!ds.isEmpty:=by
 cases r <;> rfl
theorem pdt_tru (h:PD X e te) (he:∀ whole,isTrue e X.env whole=(do let v ← whole; standAt e.pos; holding [v] (truthy v)):=by intro _; rfl):PDT X e (tTru te):=PT.wk (pt_truth h he) (by
 rintro σ H Q ⟨p,H0,own,ρ,P,E,t,q⟩
 refine⟨p,H0,own,ρ,_,E,t,fun k d v H' h A r=>?_⟩
 cases d with
 | list ds =>
  obtain⟨c,vs,rfl,o,hc,rs⟩:=Rp.dZ r
  exact⟨_,.inl ⟨vs,SqL.of hc,rfl⟩,by rw [emp_eq rs]; exact q _ _ h A⟩
 | tuple ds =>
  obtain⟨c,vs,rfl,hc,rs⟩:=Rp.eY r
  exact⟨_,.inr (.inl ⟨vs,SqT.of hc,rfl⟩),by rw [emp_eq rs]; exact q _ _ h A⟩
 | bool b =>
  have e:=Rp.bl' r
  subst e
  exact⟨b,rfl,q _ _ h A⟩
 | _=>exact h.elim)
end
variable [Gr]
section
variable {X:Cx}{te te1 te2 tj tm:DE}{st st2:Stmt}{rest:List Stmt}{t:DS}
end
variable [Gr]
section
variable {X:Cx}{te tj:DE}{st:Stmt}{t:DS}
end
end Dl
namespace L2
open PySem PySem.Spec PyProof.Rows
noncomputable def IteL (K:PySem.W.Frag) (a:Addr):It :=
 ⟨fun i H=>∃ xs x,SqL K H a xs/\xs[i]?=some x,fun i H x H'=>∃ t v,x=.ref t/\H t=none/\H'=upd H t (.tup [.int i,v])/\∀ xs,SqL K H a xs->xs[i]?=some v,fun i H=>∃ xs,SqL K H a xs/\xs.length<=i⟩
theorem turn_enumL {P:Program}{w:World}{K:PySem.W.Frag}{elts:List Expr}{kk:Nat}{pos:Pos} (a e it:Addr) (hei:e≠it) :
  Turn P w K (.Tuple elts kk pos) (IteL K a) [e,it] e (fun i h=>(∃ old,IsEnum h e it i old)/\h.IsListIter it a i) where
 mem:=by simp
 obj:=fun i h st b hb=>by
  obtain⟨⟨old,he⟩,o,ho,hc,hd⟩:=st
  rcases List.mem_cons.mp hb with rfl | hb
  ·exact⟨_,he,fun v z=>nomatch z⟩
  ·have e1:b=it:=by simpa using hb
   subst e1
   exact⟨o,ho,fun v z=>by rw [hd] at z; cases z⟩
 keep:=fun i h h' st k=>by
  obtain⟨⟨old,he⟩,o,ho,r⟩:=st
  exact⟨⟨old,k e (by simp) _ he⟩,o,k it (by simp) _ ho,r⟩
 item:=by
  intro X hP hw hK hc i pins s σ H E I hf st hg
  subst hP hw hK
  obtain⟨xs,x,hq,hx⟩:=hg
  obtain⟨its,rv,p,hz⟩:=I.list hq
  obtain⟨u,hu,ru⟩:=rv.get hx
  obtain⟨⟨old,he⟩,hit⟩:=st
  have hai:a≠it:=fun z=>by
   obtain⟨o,_,ho,hc1,_⟩:=p
   obtain⟨o',ho',hc2,_⟩:=hit
   rw [z,ho'] at ho
   cases ho
   rw [hc2] at hc1
   injection hc1 with z2
   exact absurd z2 (by decide)
  have hae:e≠a:=fun z=>by
   obtain⟨o,_,ho,hc1,_⟩:=p
   have he':s.heap.get? e=some _:=he
   rw [z,ho] at he'
   cases he'
   have z1:Value.type "enumerate"=Value.type "list":=hc1
   injection z1 with z2
   exact absurd z2 (by decide)
  have hlt:i<its.toArray.size:=by have:=(List.getElem?_eq_some_iff.mp hu).1; simpa using this
  obtain⟨e0,e1,e2,e3,e4,e5⟩:=hf e (by simp)
  obtain⟨f0,f1,f2,f3,f4,f5⟩:=hf it (by simp)
  have D:=Draws.list (prog:=X.prog) (w:=X.w) (A:=X.A.in1) (I.ok.hd hc) it a hai its.toArray
  refine wpAny_pyNext_enum_itemD D he ⟨hit,p.isList⟩ hlt hei (by simp [hei,hae]) fun x' h' tk hP ho hs' hT hsz hk=>⟨_,rfl,?_⟩
  have ex:x'=u:=by
   have hP':its[i]?=some x':=by simpa using hP
   rw [hu] at hP'
   exact (Option.some.inj hP').symm
  subst ex
  refine wpAny_letOwnedTupleGo_enum ho fun h2 he2 hs2=>?_
  have hTn:H s.heap.objs.size=none:=I.hok.fresh (Nat.le_refl _)
  have keep2:∀ b o,b≠e->b≠it->s.heap.get? b=some o->h2.get? b=some o:=fun b o hb1 hb2 q=>(hs2.2 b hb1).trans (hk b o hb1 hb2 q)
  have hTe:s.heap.objs.size≠e:=Nat.ne_of_gt (Heap.lt_size he)
  have hTup:h2.get? s.heap.objs.size=some { cls:=.type "tuple",data:=.seq #[.int i tk,x'] }:=(hs2.2 _ hTe).trans hT
  have J:Inv X pins σ (upd H s.heap.objs.size (.tup [.int i,x])) { s with heap:=h2,toks:=tk+1 }:=by
   refine I.step (g':=s.gens) (d':=s.drawn) (t':=tk+1) (ch:=[e,it]) (fun b hb=>?_) (fun b o _ _ hcb q _=>keep2 b o (fun z=>hcb (by simp [z])) (fun z=>hcb (by simp [z])) q)
    (fun b o _ _ hcb q _=>⟨o.slots,keep2 b o (fun z=>hcb (by simp [z])) (fun z=>hcb (by simp [z])) q⟩) (fun b o _ q n=>by rw [aA (Nat.ne_of_lt (Heap.lt_size q))]; exact n)
    (fun b o hcb q=>⟨o,keep2 b o (fun z=>hcb (by simp [z])) (fun z=>hcb (by simp [z])) q⟩) (fun b ys q=>by rw [aA (aH q hTn)]; exact q) (fun b o y q=>by rw [aA (aH q hTn)]; exact q)
    (fun b ps q=>⟨#[],by rw [aA (aH q hTn),q]; simp⟩) (fun m hm=>?_) ?_ I.bare
   ·rcases List.mem_cons.mp hb with rfl | hb
    ·exact⟨e3,e1,e4,e5⟩
    ·have z:b=it:=by simpa using hb
     subst z
     exact⟨f3,f1,f4,f5⟩
   ·obtain⟨o,es,ep,ho',r⟩:=hm
    exact⟨o,es,ep,keep2 _ o (Ne.symm e1) (Ne.symm f1) ho',r⟩
   ·intro b u' q
    have nT:∀ {c y},H c=some y->c≠e/\c≠it:=fun {c y} z=>⟨fun v=>(by rw [v,e0] at z; exact nomatch z),fun v=>(by rw [v,f0] at z; exact nomatch z)⟩
    by_cases hb:b=s.heap.objs.size
    ·subst hb
     rw [aF] at q
     cases q
     exact⟨(by show 2<=sizeLine; decide),[.int i tk,x'],.cons ⟨_,rfl⟩ (.cons ru .nil),_,hTup,rfl,_,rfl⟩
    ·rw [aA hb] at q
     refine (I.hok b u' q).stay (fun c v hcv y=>keep2 c v ?_ ?_ y) (fun c y=>by rw [aA (aH y hTn)]; exact y) fun c ys y=>by rw [aA (aH y hTn)]; exact y
     ·rcases hcv with rfl | z
      ·exact (nT q).1
      ·exact (nT z).1
     ·rcases hcv with rfl | z
      ·exact (nT q).2
      ·exact (nT z).2
  refine⟨.ref s.heap.objs.size,_,J,rfl,⟨_,x,rfl,hTn,rfl,fun ys hy=>by rw [I.list_inj hy hq]; exact hx⟩,⟨⟨x',?_⟩,?_⟩,fun b hb=>?_⟩
  ·have he3:IsEnum h2 e it ((i:Int)+1) x':=by simpa using he2
   have ec:((i+1:Nat):Int)=(i:Int)+1:=by omega
   rw [ec]
   exact he3
  ·obtain⟨o,ho2,r⟩:=hs'.1
   exact⟨o,(hs2.2 it (Ne.symm hei)).trans ho2,r⟩
  ·rw [aA]
   ·exact (hf b hb).1
   ·rcases List.mem_cons.mp hb with rfl | hb
    ·exact Ne.symm hTe
    ·have z:b=it:=by simpa using hb
     subst z
     obtain⟨o,ho2,_⟩:=hit
     exact Nat.ne_of_lt (Heap.lt_size ho2)
 done:=by
  intro X hP hw hK hc i pins s σ H E I hf st hg
  subst hP hw hK
  obtain⟨xs,hq,hx⟩:=hg
  obtain⟨its,rv,p,hz⟩:=I.list hq
  obtain⟨⟨old,he⟩,hit⟩:=st
  obtain⟨f0,f1,f2,f3,f4,f5⟩:=hf it (by simp)
  have hl:=rv.length
  have hT:s.TypeIs (.ref e) "enumerate":=⟨_,he,rfl⟩
  unfold pyNext
  refine wpAny_bind (wpAny_attempt (wpAny_callSpecial?_slot (name:=Str.ofString "__next__") hT PySem.F.slot_enumerate_next
   (wpAny_call_entry PySem.F.slot_enumerate_next hT PySem.F.entry_enumerate_next ?_ (PySem.F.args_enumerate_next_1 _))))
  show wpAny _ _ (field (.ref e) 2 >>= _) _ _ _
  refine wpAny_bind (wpAny_field he rfl (x:=.ref it) rfl ?_)
  refine wpAny_bind (wpAny_nextOf_list_end (I.ok.hd hc) hit p.isList (by simp; omega) fun h' x he' hx'=>?_)
  obtain⟨o,ho,hc'⟩:=hx'
  refine wpAny_bind (wpAny_isInstance (T:="StopIteration") (b:=true) ⟨o,ho,hc'⟩ isSubtype_stop ?_)
  exact wpAny_pure ⟨rfl,I.turned (t':=s.toks) (fun b o hb e=>he' b o hb e) f0 f1 f3 f4 f5⟩
 self:=fun A i s Q E st h=>by
  obtain⟨⟨old,he⟩,_⟩:=st
  have hT:s.TypeIs (.ref e) "enumerate":=⟨_,he,rfl⟩
  refine wpAny_pyIter_slot hT PySem.F.slot_enumerate_iter (wpAny_call_entry PySem.F.slot_enumerate_iter hT PySem.F.entry_enumerate_iter ?_ (PySem.F.args_enumerate_iter_1 _))
  show wpAny _ _ (ret (.ref e)) _ _ s
  exact wpAny_pure ⟨_,rfl,"enumerate",_,hT,PySem.F.slot_enumerate_next.lookup,h⟩
noncomputable def iEnumL (K:PySem.W.Frag) (ta:TA):TI:=fun σ H R=>ta σ H fun vs H1=>∃ a,vs=[.ref a]/\(∃ xs,SqL K H1 a xs)/\R (IteL K a) H1
theorem pi_enumL {X:Cx}{elts:List Expr}{kk:Nat}{tpos:Pos}{a:Expr}{ta:TA}{p pos:Pos} (hg:Gl X "enumerate") (hm:X.mg "enumerate"=none) (ha:PA X [a] ta) (hs:starEach [a] X.env=[(false,eval a X.env)]:=by rfl):PI X (.Tuple elts kk tpos) (.Call (.Name "enumerate" p) [a] [] pos) (iEnumL X.K ta):=by
 intro pins s σ H R I h
 refine Call_ (iV I hg hm boot_enumerate (PyProof.Rows.callWith_type1 (thn (ha pos pins s σ H _ I h) fun us s1 ⟨vs,H1,I1,r1,q1⟩=>?_) hs rfl))
 obtain⟨b,e,⟨xs,hq⟩,q⟩:=q1
 subst e
 obtain⟨u,rfl,rx⟩:=vals1 r1
 cases rx
 obtain⟨its,rv,pt,hz⟩:=I1.list hq
 refine call_enumerate_list pt.isList fun h' he hit hsz hk=>?_
 have I2:Inv X pins σ H1 { s1 with heap:=h' }:=I1.kept (t':=s1.toks) hk
 have T:Turn X.prog X.w X.K (.Tuple elts kk tpos) (IteL X.K b) [s1.heap.objs.size+1,s1.heap.objs.size] (s1.heap.objs.size+1) (fun i h=>(∃ old,IsEnum h (s1.heap.objs.size+1) s1.heap.objs.size i old)/\h.IsListIter s1.heap.objs.size b i):=turn_enumL b _ _ (Nat.ne_of_gt (Nat.lt_succ_self _))
 refine T.self _ 0 _ _ _ ⟨⟨_,he⟩,hit⟩ ⟨_,_,_,_,H1,rfl,I2,T,⟨⟨_,he⟩,hit⟩,fun c hc=>?_,q⟩
 rcases List.mem_cons.mp hc with rfl | hc
 ·exact I1.fpOk (Nat.le_succ _) (I1.hok.fresh (Nat.le_succ _))
 ·have z:c=s1.heap.objs.size:=by simpa using hc
  subst z
  exact I1.fpOk (Nat.le_refl _) (I1.hok.fresh (Nat.le_refl _))
end L2
namespace Dl
open PySem L2 PyProof.Rows
variable [Gr]
section
variable {X:Cx}{tg:Expr}{pos:Pos}{ta:DA}
theorem walk_enumL {K:PySem.W.Frag}{ok:Addr->Prop}{a:Addr}{ds:List D}:Wlk (fun H=>Rp ok H (.ref a) (.list ds)) (IteL K a) (enumD ds) ok where
 go:=fun i H r hi=>by
  obtain⟨b,vs,e,_,h,rs⟩:=r.dZ
  cases e
  have:i<vs.length:=by rw [rs.length]; rw [eG] at hi; exact hi
  exact⟨vs,vs[i],SqL.of h,by simp [this]⟩
 stop:=fun H r=>by
  obtain⟨b,vs,e,_,h,rs⟩:=r.dZ
  cases e
  exact⟨vs,SqL.of h,by rw [rs.length,eG]; exact Nat.le_refl _⟩
 yld:=fun i H x H' r y=>by
  obtain⟨t,v,rfl,ht,rfl,y⟩:=y
  have sm:Same H (upd H t (.tup [.int i,v])):=fun b u q=>by rw [aA (aH q ht)]; exact q
  refine⟨sm,fun d hd=>?_⟩
  obtain⟨b,vs,e,_,h,rs⟩:=r.dZ
  cases e
  rw [eN] at hd
  cases he:ds[i]? with
  | none=>rw [he] at hd; cases hd
  | some d0 =>
   rw [he] at hd
   have e:=Option.some.inj hd
   subst e
   obtain⟨v',hv,rv⟩:=rs.getD he
   have:=y vs (SqL.of h)
   rw [hv] at this
   cases this
   exact .tup aF (.cons (.int _) (.cons (rv.mono (fun _ o=>o) (fun a o _ e=>sm a o e) fun a xs e=>sm a _ e) .nil))
 stab:=fun H H' r f t=>r.cR (fun a o n e=>⟨n,f a o n e⟩) t
noncomputable def iEnL (ta:DA):DI:=fun ρ P=>ta ρ fun ks=>match ks with
 | [(k,.list ds)]=>P k (enumD ds)
 | _=>False
theorem di_enumL {elts:List Expr}{kk:Nat}{tpos:Pos}{a:Expr}{ps:Pos} (hm:X.mg "enumerate"=none) (ha:PDA X [a] ta) (hg:Gl X "enumerate":=by rfl) (hs:starEach [a] X.env=[(false,eval a X.env)]:=by rfl):PDI X (.Tuple elts kk tpos) (.Call (.Name "enumerate" ps) [a] [] pos) (iEnL ta):=PI.wk (pi_enumL hg hm ha hs) (by
 rintro σ H R ⟨p,H0,own,ρ,P,E,t,q⟩
 refine⟨p,H0,own,ρ,_,E,t,fun ks vs H1 h A r=>?_⟩
 split at h
 ·rename_i k ds
  obtain⟨v,rfl,r'⟩:=gK r
  obtain⟨a,vs,e,_,ha,rs⟩:=Rp.dZ r'
  subst e
  exact⟨a,rfl,⟨vs,SqL.of ha⟩,q k _ _ H1 _ h A walk_enumL (rpA r')⟩
 ·exact h.elim)
end
section
variable {X:Cx}
theorem call_sumT (hc:X.calm=true):cU X (.builtin "sum") (fun xs H Q=>∃ (p:Addr) (ns:List Int),xs=[.ref p]/\SqT X.K H p (ns.map V.int)/\ns.length<=1000/\(∀ x∈ns,-1000000<=x/\x<=1000000)/\Q (.int ns.sum) H):=by
 intro pins s σ H xs us Q I r h
 obtain⟨p,ns,rfl,hp,hl,hs,q⟩:=h
 obtain⟨u,rfl,rx⟩:=vals1 r
 cases rx
 obtain⟨its,rv,pl,hz⟩:=I.tuple hp
 have hlen:its.length=ns.length:=by have:=rv.length; rw [List.length_map] at this; exact this.symm
 have hltp:p<s.heap.objs.size:=by obtain⟨o,ho,_⟩:=pl; exact Heap.lt_size ho
 have at':∀ i v,its[i]?=some v->∃ t,v=Value.int (ns.getD i 0) t:=fun i v e=>by
  have hi:i<its.length:=(List.getElem?_eq_some_iff.mp e).1
  have hv:(ns.map V.int)[i]?=some (V.int ns[i]):=by rw [List.getElem?_map,List.getElem?_eq_getElem (show i<ns.length by omega)]; rfl
  obtain⟨u,eu,ru⟩:=rv.get hv
  rw [e] at eu
  cases eu
  obtain⟨t,rfl⟩:=ru
  exact⟨t,by rw [List.getD_eq_getElem?_getD,List.getElem?_eq_getElem (show i<ns.length by omega)]; rfl⟩
 refine call_sum_walk (wpAny_pyIter_tuple pl ?_)
 refine⟨_,_,_,_,_,_,fun i=>ns.getD i 0,rfl,Walks.tuple (A:=X.A.in1) (I.ok.hd hc) _ p (Nat.ne_of_lt hltp) _,⟨⟨_,Heap.get?_push_size _ rfl,rfl,rfl⟩,pl.push _⟩,?_,fun i v e=>at' i v (by simpa using e),fun j hj=>?_,fun h' tk t' hk=>?_⟩
 ·intro b hb
  show b<(s.heap.push _).objs.size
  rw [Heap.size_push]
  simp at hb
  rcases hb with rfl | rfl
  ·exact Nat.lt_succ_self _
  ·exact Nat.lt_succ_of_lt hltp
 ·have hj:j<ns.length:=by simpa [hlen] using hj
  have e:ns.getD j 0=ns[j]:=by rw [List.getD_eq_getElem?_getD,List.getElem?_eq_getElem hj]; rfl
  have b1:=hs _ (List.getElem_mem hj)
  have b2:=sum_small (ns.take (j+1)) 1000000 fun x hx=>hs x (List.mem_of_mem_take hx)
  have b3:(ns.take (j+1)).length<=1000:=by rw [List.length_take]; omega
  rw [mq ns (j+1) hj]
  refine⟨?_,?_⟩
  ·show -(2 ^ 63)<=ns.getD j 0/\ns.getD j 0<2 ^ 63
   rw [e]
   omega
  ·show -(2 ^ 63)<=(ns.take (j+1)).sum/\(ns.take (j+1)).sum<2 ^ 63
   omega
 ·have e:PySem.preSum (fun i=>ns.getD i 0) its.toArray.size=ns.sum:=by
   rw [List.size_toArray,hlen,mq ns ns.length (Nat.le_refl _),List.take_length]
  rw [e]
  refine⟨.int ns.sum,H,I.kept fun b o eb=>hk b o ?_ (Heap.get?_push_of_some _ eb),⟨_,rfl⟩,q⟩
  intro hm
  have:b=s.heap.objs.size:=by simpa using hm
  exact absurd (this ▸ Heap.lt_size eb) (Nat.lt_irrefl _)
end
section
variable {prog:Program}{w:World}{A:Around}{E:Value->Shared->Prop}
theorem draw_lst {it l:Addr}{items:Array Value} (hne:l≠it):∀ (n i:Nat) (s:Shared) (Q:List Value->Shared->Prop),s.heap.IsListIter it l i->s.heap.IsList l items->i+n<=items.size ->
  (∀ h',h'.IsListIter it l (i+n)->Heap.SameBut it s.heap h'->Q ((items.toList.drop i).take n) { s with heap:=h' })->wpAny (model prog w) A (draw (.ref it) n) Q E s
 | 0,i,s,Q,hit,_,_,hQ=>by
  show wpAny _ _ (pure []) Q E s
  exact wpAny_pure (by simpa using hQ s.heap hit (Heap.SameBut.refl ..))
 | n+1,i,s,Q,hit,hl,hle,hQ=>by
  have hlt:i<items.size:=by omega
  show wpAny _ _ (pyNext (.ref it) >>= _) Q E s
  refine wpAny_bind (wpAny_pyNext_list_item hit hl (x:=items[i]) (by simp [hlt]) fun h₁ hit₁ hs₁=>?_)
  refine wpAny_bind (wpAny_holding (draw_lst hne n (i+1) _ _ hit₁ (hl.extBut hs₁.extBut hne) (by omega) fun h₂ hit₂ hs₂=>wpAny_pure ?_))
  have hd:items.toList.drop i=items[i]::items.toList.drop (i+1):=by simp [List.drop_eq_getElem_cons,hlt]
  have z:=hQ h₂ (by rw [show i+(n+1)=i+1+n by omega]; exact hit₂) (hs₁.trans hs₂)
  rw [hd,List.take_succ_cons] at z
  exact z
theorem unpackItems_lst {s:Shared}{l:Addr}{items:Array Value}{Q:List Value->Shared->Prop} (hh:A.handled=none) (hl:s.heap.IsList l items)
  (hQ:∀ h',Heap.ExtBut s.heap.objs.size s.heap h'->Q items.toList { s with heap:=h' }):wpAny (model prog w) A (unpackItems (.ref l) items.size none) Q E s:=by
 have hlt:l≠s.heap.objs.size:=by obtain⟨o,ho,_⟩:=hl; exact Nat.ne_of_lt (Heap.lt_size ho)
 unfold unpackItems
 refine wpAny_bind ?_
 unfold notIterableAtAll
 refine wpAny_bind (wpAny_specialOf hl.typeIs slot_list_iter.lookup ?_)
 refine wpAny_pure ?_
 simp only [if_false,Bool.false_eq_true]
 refine wpAny_bind (wpAny_holding (wpAny_pyIter_list hl ?_))
 refine wpAny_bind (wpAny_holding (draw_lst hlt items.size 0 _ _ ⟨_,Heap.get?_push_size _ rfl,rfl,rfl⟩ (hl.push _) (by omega) fun h₁ hit₁ hs₁=>?_))
 have hall:List.take items.size (List.drop 0 items.toList)=items.toList:=by rw [List.drop_zero]; refine List.take_of_length_le ?_; simp
 rw [hall,if_neg (by simp)]
 have hl₁:h₁.IsList l items:=(hl.push _).extBut hs₁.extBut hlt
 refine wpAny_bind (wpAny_holding (wpAny_pyNext_list_end hh hit₁ hl₁ (by simp) fun h₂ he₂=>?_))
 simp only [if_false,Option.isSome_none,Bool.false_eq_true]
 exact wpAny_pure (hQ h₂ fun b o hb e=>he₂ b o hb (hs₁.extBut b o hb (Heap.get?_push_of_some _ e)))
theorem assign_Tuple_lst {s:Shared}{env:Env}{elts:List Expr}{x1}{pos:Pos}{l:Addr}{items:Array Value}{Q:Unit->Shared->Prop} (hh:A.handled=none) (hl:s.heap.IsList l items)
  (hn:(assignEach elts env).length=items.size) (hstar:(assignEach elts env).findIdx? (·.1)=none)
  (h:∀ h',Heap.ExtBut s.heap.objs.size s.heap h'->wpAny (model prog w) A (assignInOrder ((assignEach elts env).map (·.2)) items.toList) Q E { s with heap:=h' }) :
  wpAny (model prog w) A (assign (.Tuple elts x1 pos) env (.ref l)) Q E s:=by
 rw [assign_Tuple]
 refine wpAny_bind (wpAny_standAt ?_)
 unfold unpack
 rw [hn,hstar]
 exact wpAny_bind (wpAny_holding (unpackItems_lst hh hl h))
end
section
variable {X:Cx}{pos:Pos}
noncomputable def gLsU (K:PySem.W.Frag) (n:Nat) (t:TGs):TG:=fun v σ H Q=>∃ a xs,v=.ref a/\SqL K H a xs/\xs.length=n/\t xs σ H Q
theorem pg_lst {es:List Expr}{k:Nat}{t:TGs}{n:Nat} (hc:X.calm=true) (h:PGs X es t)
  (hn:(assignEach es X.env).length=n:=by rfl) (hst:(assignEach es X.env).findIdx? (·.1)=none:=by rfl):PG X (.Tuple es k pos) (gLsU X.K n t):=by
 intro pins s σ H v u Q I r hw
 obtain⟨a,xs,e1,hq,hl,hw⟩:=hw
 subst e1
 cases r
 obtain⟨its,rv,pl,hz⟩:=I.list hq
 refine assign_Tuple_lst (I.ok.hd hc) pl.isList (by simp [hn,← hl,rv.length]) hst fun h' hx=>?_
 have I1:Inv X pins σ H { s with heap:=h' }:=I.kept (t':=s.toks) fun b o e=>hx b o (Nat.ne_of_lt (Heap.lt_size e)) e
 exact h pins _ σ H xs _ Q I1 (by simpa using rv) hw
variable [Gr]
noncomputable def gTL (n:Nat) (gs:DGs):DG:=fun k d ρ P=>match d with
 | .list ds=>ds.length=n/\gs k ds ρ P
 | _=>False
theorem dg_lst {es:List Expr}{gs:DGs}{k n:Nat} (hc:X.calm=true) (h:PGs X es (liftGs gs)) (hn:(assignEach es X.env).length=n:=by rfl) (hst:(assignEach es X.env).findIdx? (·.1)=none:=by rfl):PDG X (.Tuple es k pos) (gTL n gs):=PG.wk (pg_lst hc h hn hst) (by
 rintro v σ H Q ⟨p,H0,own,ρ,k,d,P,E,r,t,q⟩
 cases d with
 | list ds =>
  obtain⟨a,vs,rfl,_,ha,rs⟩:=r.dZ
  exact⟨a,vs,rfl,SqL.of ha,by rw [rs.length]; exact t.1,p,H0,own,ρ,k,ds,P,E,rs,t.2,q⟩
 | _=>exact t.elim)
end
section
variable {X:Cx}{pos:Pos}{a:Expr}{t:DA} [Gr]
noncomputable def gMnA (f:Int->Int->Int) (le:Int->Int->Prop):GC:=fun ks P=>match ks with
 | [(_,.tuple [.int i,.int j])]=>P .imm (.int (f i j))
 | [(_,.list ds)]=>∃ ns:List Int,ds=ns.map PyData.int/\ns≠[]/\∀ M,M∈ns->(∀ a∈ns,le M a)->P .imm (.int M)
 | _=>False
noncomputable def gSumA:GC:=fun ks P=>match ks with
 | [(_,.list ds)]=>∃ ns:List Int,ds=ns.map PyData.int/\ns.length<=1000/\(∀ x∈ns,-1000000<=x/\x<=1000000)/\P .imm (.int ns.sum)
 | [(_,.tuple ds)]=>∃ ns:List Int,ds=ns.map PyData.int/\ns.length<=1000/\(∀ x∈ns,-1000000<=x/\x<=1000000)/\P .imm (.int ns.sum)
 | _=>False
theorem pd_sumA {ps:Pos} (hc:X.calm=true) (hm:X.mg "sum"=none) (ha:PDA X [a] t) (hg:Gl X "sum":=by rfl) (he:starEach [a] X.env=(false,eval a X.env)::starEach [] X.env:=by rfl) (hpl:(backTo pos (starEach [] X.env)).any (·.1)=false:=by rfl):PD X (.Call (.Name "sum" ps) [a] [] pos) (tCl gSumA t) :=
 fM (cU.or (call_sumI hc) (call_sumT hc)) (by
  intro p H0 own Hb H vs ks P Q A r t q
  unfold gSumA at t
  split at t
  ·obtain⟨ns,rfl,hl,hb,t⟩:=t
   obtain⟨v,rfl,r'⟩:=gK r
   obtain⟨x,xs,e1,o1,h1,rs1⟩:=Rp.dZ r'
   subst e1
   have e2:=Rps.ints rs1
   subst e2
   exact .inl ⟨x,ns,rfl,SqL.of h1,hl,hb,q _ _ _ _ t Kp.refl A.pen (.int _)⟩
  ·obtain⟨ns,rfl,hl,hb,t⟩:=t
   obtain⟨v,rfl,r'⟩:=gK r
   obtain⟨x,xs,e1,h1,rs1⟩:=Rp.eY r'
   subst e1
   have e2:=Rps.ints rs1
   subst e2
   exact .inr ⟨x,ns,rfl,SqT.of h1,hl,hb,q _ _ _ _ t Kp.refl A.pen (.int _)⟩
  ·exact t.elim) hg hm boot_sum ha (by decide) (by decide) he hpl
noncomputable def gSortD:GC:=fun ks P=>match ks with
 | [(_,.dict ds)]=>∃ m:IM,ds=kvD m/\m.length<64/\∀ out:List Int,out.Perm (m.map (·.1))->out.Pairwise (·<=·)->P .new (.list (out.map PyData.int))
 | _=>False
theorem rkv_keys {ok:Addr->Prop}{H:Hp}:∀ {kvs:List (Key×V)}{ds:List (D×D)}{m:IM},Rkv ok H kvs ds->ds=kvD m->kvs.map (·.1)=(m.map (·.1)).map Sum.inl
 | _,_,[],.nil,_=>rfl
 | _,_,p::m,.cons h t,e=>by
  have e1:kD _=PyData.int p.1:=congrArg Prod.fst (List.cons.inj e).1
  have e2:=kD_int e1
  rw [List.map_cons,List.map_cons,List.map_cons,rkv_keys (m:=m) t (List.cons.inj e).2,← e2]
 | _,_,[],.cons _ _,e=>nomatch e
 | _,_,_::_,.nil,e=>nomatch e
theorem pd_sortD {ps:Pos} (hc:X.calm=true) (hm:X.mg "sorted"=none) (ha:PDA X [a] t) (hg:Gl X "sorted":=by rfl) (he:starEach [a] X.env=(false,eval a X.env)::starEach [] X.env:=by rfl) (hpl:(backTo pos (starEach [] X.env)).any (·.1)=false:=by rfl):PD X (.Call (.Name "sorted" ps) [a] [] pos) (tCl gSortD t) :=
 fM (call_sortedD hc) (by
  intro p H0 own Hb H vs ks P Q A r t q
  unfold gSortD at t
  split at t
  ·obtain⟨m,rfl,hl,t⟩:=t
   obtain⟨v,rfl,r'⟩:=gK r
   obtain⟨x,kvs,e1,o1,h1,rs1⟩:=Rp.dct' r'
   subst e1
   refine⟨x,kvs,m.map (·.1),rfl,h1,rkv_keys rs1 rfl,by rw [List.length_map]; exact hl,fun l out hl' hp hs=>?_⟩
   obtain⟨k2,i2,nw⟩:=A.new hl' (.lst (out.map V.int))
   exact q _ _ _ _ (t out hp hs) k2 i2 (.lst nw aF (Rps.ofMap (fun i=>.int i) out))
  ·exact t.elim) hg hm boot_sorted ha (by decide) (by decide) he hpl
noncomputable def gNotN:G2:=fun _ d1 _ d2 P=>match d2 with
 | .none=>P .imm (.bool (!nonB d1))
 | _=>False
theorem okNotN:Ok2 gNotN (fun x y H Q=>y=.non/\Q (.bl (!decide (x=.non))) H):=by
 intro p H0 own Hb H x y k1 d1 k2 d2 P Q A r1 r2 t q
 unfold gNotN at t
 split at t
 ·cases r2
  rw [rp_nonB r1]
  exact⟨rfl,q _ _ _ _ t Kp.refl A.pen (.bl _)⟩
 ·exact t.elim
variable {b:Expr}{ta tb:DE}
theorem iH (ha:PD X a ta) (hb:PD X b tb):PDT X (.Compare a [.IsNot] [b] pos) (dM (t2 gNotN ta tb)):=eV op_notN okNotN ha hb (dU _)
end
section
variable {X:Cx}
end
section
variable {X:Cx}{pos:Pos}{a e:Expr}{te ta:DE}{t:DA}{st st2:Stmt}{rest:List Stmt} [Gr]
end
section
variable {X:Cx}{tg iter c:Expr}{pos pos1:Pos}{ret:Stmt}{ti:DI}{g:DG}{tc:DT} [Gr]
end
end Dl
namespace L2
open PySem PySem.Spec PyProof.Rows
theorem law_callS {P:Program}{w:World}{K:PySem.W.Frag}{mg mb:Str->Option Value}{CX:CXT}{k:Nat}{fa a:Addr}{fd:FuncData}{x:Str}{sp:Sp}{s₁:Shared}{vs:List Value}{ns:List Int}
  (KX:K.In s₁.heap) (hns:s₁.heap.Ns mainGlobals mg) (hb:s₁.heap.Ns builtinsNs mb) (hbb:∀ x:Str,x≠"__name__"->mb x=bootBuiltins x) (hlim:s₁.heap.NoLimit) (hg:s₁.gens=#[])
  (ha:s₁.heap.get? a=some { cls:=.type "list",data:=.seq vs.toArray }) (hi:IntsAre vs ns) (hl:ns.length<=sizeLine) (hr:Room k callerA)
  (F:∀ base:Heap,K.In base->base.Ns mainGlobals mg->(∀ b m,s₁.heap.Ns b m->base.Ns b m)->FnOk P w K mg base CX k fa fd [x] sp) (hbind:∀ (s:Shared) (u:Value),BindsTo s fd ⟨[u],[]⟩ [(x,u)])
  (hsp:∀ H:Hp,Only H->SqL K H a (ns.map V.int)->sp [.ref a] H (fun v _=>v=.bl true) fun _ _ _=>False)
  (hCX:∀ H e s',CX [] H s₁ (fun _ _ _=>False) e s'->False) :
  codeAny (model P w) callerA (.call (.ref fa) ⟨[.ref a],[]⟩) (fun r s'=>r=.ok (.ret (.bool true))/\OldK s₁.heap s'.heap/\s'.os=s₁.os/\AllBare s'.gens) s₁:=by
 have rv:=jT hi
 have lenV:=hi.length
 -- from an abstract heap in which nothing but the script may be tracked
 have core:∀ H:Hp,Only H->SqL K H a (ns.map V.int)->HOk P w H s₁.heap->(∀ b,H b≠none->b=a)->(H a≠none->K.lookup a=none) ->
   codeAny (model P w) callerA (.call (.ref fa) ⟨[.ref a],[]⟩) (fun r s'=>r=.ok (.ret (.bool true))/\OldK s₁.heap s'.heap/\s'.os=s₁.os/\AllBare s'.gens) s₁:=by
  intro H hO hS hok hA hK
  have base_of:∀ {b:Addr}{o:Obj},s₁.heap.get? b=some o->H b=none->(hidT s₁.heap H).get? b=some o:=fun e n=>hidT_get e n
  have noA:∀ {b:Addr}{o:Obj}{es:Array DictEntry}{ep:Nat},s₁.heap.get? b=some o->o.data=.dict es ep->H b=none:=fun {b o es ep} e d=>by
   cases q:H b with
   | none=>rfl
   | some u =>
    have e':b=a:=hA b (by rw [q]; simp)
    subst e'
    rw [ha] at e; cases e
    have d':Data.seq vs.toArray _=Data.dict es ep:=d
    cases d'
  have nsK:∀ {b:Addr}{m:Str->Option Value},s₁.heap.Ns b m->(hidT s₁.heap H).Ns b m:=fun {b m} ⟨o,es,ep,e,d,r⟩=>⟨o,es,ep,base_of e (noA e d),d,r⟩
  have hKb:K.In (hidT s₁.heap H):=fun b o e=>base_of (KX b o e) (by
   cases q:H b with
   | none=>rfl
   | some u =>
    have e':b=a:=hA b (by rw [q]; simp)
    subst e'
    rw [hK (by rw [q]; simp)] at e; cases e)
  have hM:Mod K mg (hidT s₁.heap H):=⟨hKb,nsK hns,⟨mb,nsK hb,hbb⟩,let ⟨mc,h1,h2⟩:=hlim; ⟨mc,nsK h1,h2⟩⟩
  have e0:Env0 P w K mg (hidT s₁.heap H) callerA [] s₁ H:=⟨rfl,hM,fun b o e=>of_hidT e,Nat.le_of_eq (hidT_size _ _),trivial,fun b hb=>absurd (show b∈([]:List Addr) from hb) (by simp),hok,.of_eq hg⟩
  refine codeAny_mono ((F _ hKb (nsK hns) fun _ _ h=>nsK h).run callerA [] s₁ H ⟨[.ref a],[]⟩ [.ref a] [.ref a] _ _ hr e0 (hbind s₁ (.ref a)) (.cons rfl .nil) (hsp H hO hS)) fun r s' h=>?_
  cases r with
  | error e=>exact (hCX H e s' h).elim
  | ok fl =>
   cases fl with
   | next=>exact False.elim h
   | brk=>exact False.elim h
   | cont=>exact False.elim h
   | ret u =>
    obtain⟨v,H',os,bare,un,hok',r',q⟩:=h
    have q':v=.bl true:=q
    subst q'
    obtain rfl:u=Value.bool true:=r'
    refine⟨rfl,OldK.of_keep fun b o e=>?_,os,bare⟩
    cases q:H b with
    | none=>exact un.keep b o e q (by intro z; exact absurd (show b∈([]:List Addr) from z) (by simp)) (by simp)
    | some u =>
     rcases hO b with z | ⟨ob,xs,z⟩
     ·rw [q] at z; cases z
     ·have z2:=un.frzs b ob _ z
      obtain⟨e1,_⟩:=hok b _ z
      obtain⟨e2,_⟩:=hok' b _ z2
      rw [e] at e1; cases e1
      exact e2
 cases hk:K.lookup a with
 | some o =>
  -- the script is one of the module's own objects
  have e:=KX a o hk
  rw [ha] at e
  cases e
  refine core (fun _=>none) (fun _=>.inl rfl) (.inr ⟨_,vs.toArray,_,hk,rfl,rfl,rfl,by rw [List.size_toArray,lenV]; exact hl,by simpa using rv⟩) (fun b u z=>by have z':(none:Option HO)=some u:=z; cases z') (fun b z=>absurd rfl z) fun z=>absurd rfl z
 | none =>
  refine core (fun b=>if b=a then some (.frz { cls:=.type "list",data:=.seq vs.toArray } (.lst (ns.map V.int))) else none) (fun b=>?_) (.inl (.inr ⟨{ cls:=.type "list",data:=.seq vs.toArray },if_pos rfl⟩)) (fun b u z=>?_) (fun b z=>?_) fun _=>hk
  ·by_cases hb:b=a
   ·exact .inr ⟨_,_,if_pos hb⟩
   ·exact .inl (if_neg hb)
  ·by_cases hb:b=a
   ·have z':=(if_pos hb).symm.trans z
    cases z'
    subst hb
    exact⟨ha,by rw [List.length_map]; exact hl,vs,_,rv,ha⟩
   ·have z':=(if_neg hb).symm.trans z
    cases z'
  ·by_cases hb:b=a
   ·exact hb
   ·exact absurd (if_neg hb) z
theorem walk_ofS {l:PySem.W.OpenLaw}{n k:Nat}{q:Program}{loose:List Str}{XP:(Str->Option Value)->Heap->Prop}{YP:World->Heap->Prop}{d:DefRec}{K:Params->PySem.W.Frag}{CX:World->CXT}{sp:World->Sp}{x:Str}
  (hi:importsNone q=true) (hn:l.most=some n) (hn2:n<=sizeLine) (hdf:d.params.defaults=[]) (hr:Room k callerA)
  (hY:∀ (w:World) (h:Heap),YP w h->(K w.params).In h)
  (F:∀ (w:World) (mg:Str->Option Value) (fa:Addr) (h:Heap),(K w.params).In h->h.Ns mainGlobals mg->mg d.name=some (.ref fa) ->
   ∃ fd:FuncData,(∀ (s:Shared) (u:Value),BindsTo s fd ⟨[u],[]⟩ [(x,u)]) /\
    ∀ base:Heap,(K w.params).In base->base.Ns mainGlobals mg->(∃ o,base.get? sysModules=some o)->FnOk l.prog w (K w.params) mg base (CX w) k fa fd [x] (sp w))
  (hsp:∀ (w:World) (H:Hp) (a:Addr) (ns:List Int),ns.length<=n->Only H->SqL (K w.params) H a (ns.map V.int)->sp w [.ref a] H (fun v _=>v=.bl true) fun _ _ _=>False)
  (hCX:∀ (w:World) (H:Hp) (s:Shared) (e:Value) (s':Shared),CX w [] H s (fun _ _ _=>False) e s'->False) :
  PySem.W.WalkO q loose XP YP l.row.toRowW d [] (fun f vs=>PySem.call f vs):=by
 refine Att.attach_call hn hdf fun w s₀ s₁ mg mb fa o pm cd doc a vs ns G Y ho hd hcd hmg hobj hints hlen hg=>?_
 have KX:=hY w _ Y
 obtain⟨fd,hb,hF⟩:=F w mg fa _ KX G.T.g hmg
 obtain⟨mm,hm,_⟩:=(G.T.seer hi).mods
 exact law_callS KX G.T.g G.T.b G.T.builtins G.T.nolimit hg hobj hints (Nat.le_trans hlen hn2) hr (fun base h1 h2 h3=>hF base h1 h2 (let ⟨o,_,_,e,_⟩:=h3 _ _ hm; ⟨o,e⟩)) hb (fun H hO hS=>hsp w H a ns hlen hO hS) fun H e s'=>hCX w H s₁ e s'
end L2
set_option autoImplicit true
set_option relaxedAutoImplicit true
namespace Wr
open PySem L2 PyProof.Rows Dl
structure WD [Gr] (X:Cx) (e:Expr) (t:DE):Prop where
 h:PD X e t
structure WDT [Gr] (X:Cx) (e:Expr) (t:DT):Prop where
 h:PDT X e t
structure WDW [Gr] (X:Cx) (e:Expr) (t:DT):Prop where
 h:PDW X e t
structure WDA [Gr] (X:Cx) (e:List Expr) (t:DA):Prop where
 h:PDA X e t
structure WDS [Gr] (X:Cx) (e:Stmt) (t:DS):Prop where
 h:PDS X e t
structure WDSs [Gr] (X:Cx) (e:List Stmt) (t:DS):Prop where
 h:lG X e t
structure WDI [Gr] (X:Cx) (tg e:Expr) (t:DI):Prop where
 h:PDI X tg e t
structure WDG [Gr] (X:Cx) (e:Expr) (t:DG):Prop where
 h:PDG X e t
structure WDGs [Gr] (X:Cx) (e:List Expr) (t:DGs):Prop where
 h:PGs X e (liftGs t)
structure WDTs [Gr] (X:Cx) (e:List Expr) (t:DT):Prop where
 h:PDTs X e t
structure WDO [Gr] (X:Cx) (e:Option Expr) (t:DO):Prop where
 h:PO X e (liftO t)
structure WV (X:Cx) (e:Expr) (i:Nat):Prop where
 h:PE X e (lg i)
structure WC (X:Cx) (e:Expr) (v:V):Prop where
 h:PE X e (tC v)
section
variable [Gr]
theorem wv (i:Nat) {x:Str}{pos:Pos} (hN:X.N[i]?=some x:=by rfl) (hv:Vis X.env.scope x:=by first | exact Or.inl rfl | exact Or.inr (Or.inl rfl) | exact Or.inr (Or.inr rfl)) (hd:(x == ("__debug__":Str))=false:=by decide)
  (hcd:(x == ("__classdict__":Str))=false:=by decide):WV X (.Name x pos) i:=⟨pv i hN hv hd hcd⟩
theorem wpt {t:DT} (h:WDW X e t):WDT X e t:=⟨PDW.pt h.h⟩
theorem pdt_chain {op op':CmpOp}{f f':Int->Int->Bool} (ho:OpR X (compareOp op) (rI0 fun i j=>.bl (f i j))) (ho':OpR X (compareOp op') (rI0 fun i j=>.bl (f' i j))) (ha:WD X a ta) (hb:WD X b tb) (hc:WD X c tc) (hm:lastMarks [op,op'] [b,c]=false:=by with_unfolding_all rfl):WDT X (.Compare a [op,op'] [b,c] pos) (dM (tCh f f' ta tb tc)):=⟨Dl.pdt_chain (pt_chain ho ho' ha.h hb.h hc.h hm) lift_ch⟩
theorem wty {x:Str}{T:String} (hg:Gl X x) (hm:X.mg x=none) (hv:bootBuiltins x=some (.type T)) (hn:x≠"__name__":=by decide) (hd:(x == ("__debug__":Str))=false:=by decide):WC X (.Name x ps) (.ty T):=⟨pe_bltn hg hm hv rfl hn hd⟩
theorem aN {i:Nat}{x:Str}{e:Expr}{te:DE}{pos' pos:Pos} (rg:Option Nat) (hN:X.N.Nodup) (hi:X.N[i]?=some x) (hx:Loc X.env.scope x) (he:WD X e te) (hs:swapsWith e (some (.Name x pos')) pos.line X.env=pure false:=by rfl) (hf:X.fn x=true\/X.env.scope.names.lookup x=some .local:=by first | exact .inl rfl | exact .inr rfl | assumption) :
  WDS X (.Assign [.Name x pos'] e pos) (dSet i rg te):=⟨Dl.aN rg (iC hN hi hx he.h hs hf)⟩
theorem ds_setlc (rg:Option Nat) (own:List Str) {i:Nat}{y:Str}{py spos:Pos} (hc:X.calm=true) (hN:X.N.Nodup) (hiN:X.N[i]?=some y) (hx:Loc X.env.scope y) (hi:WDI X tg iter ti) (hg:∀ c,WDG (X.comp own scope c) tg g) (ht:∀ c,WDTs (X.comp own scope c) ifs tt) (he:∀ c,WD (X.comp own scope c) elt te)
  (hsw:swapsWith (.ListComp elt [⟨tg,iter,ifs,0⟩] scope pos) (some (.Name y py)) spos.line X.env=pure true:=by rfl)
  (hk:fB X.env scope X.N=true:=by rfl) (hs:∀ x,foldedSetIterable iter X.env x=pure x:=by intro _; rfl) (hf:X.fn y=true\/X.env.scope.names.lookup y=some .local:=by first | exact .inl rfl | exact .inr rfl | assumption) :
  WDS X (.Assign [.Name y py] (.ListComp elt [⟨tg,iter,ifs,0⟩] scope pos) spos) (dSet i rg (dLC own.length ti g tt te)):=⟨Dl.aN rg (ps_lcD own hc hN hiN hx hi.h (fun c=>(hg c).h) (fun c=>(ht c).h) (fun c=>(he c).h) hsw hk hs hf)⟩
theorem jL (r:Nat) (own:List Str) {i j:Nat}{y z:Str}{py spos zp lp:Pos} (hc:X.calm=true) (hN:X.N.Nodup) (hiN:X.N[i]?=some y) (hx:Loc X.env.scope y) (hi:WDI X (.Name z zp) iter ti) (hg:∀ c,WDG (X.comp own scope c) (.Name z zp) (gNm j))
  (hsw:swapsWith (.ListComp (.List [] lp) [⟨.Name z zp,iter,[],0⟩] scope pos) (some (.Name y py)) spos.line X.env=pure true:=by rfl)
  (hk:fB X.env scope X.N=true:=by rfl) (hs:∀ x,foldedSetIterable iter X.env x=pure x:=by intro _; rfl) (hf:X.fn y=true\/X.env.scope.names.lookup y=some .local:=by first | exact .inl rfl | exact .inr rfl | assumption) :
  WDS X (.Assign [.Name y py] (.ListComp (.List [] lp) [⟨.Name z zp,iter,[],0⟩] scope pos) spos) (dRowsC i r ti):=⟨Dl.jL r (ps_lc own hc hN hiN hx hi.h (fun c=>(hg c).h) (fun c=>j8) (fun c=>pe_lst dG) hsw hk hs hf)⟩
theorem ds_asg {tg e:Expr}{te:DE}{g:DG} (he:WD X e te) (hg:WDG X tg g) (hs:swapsWithSole [tg] e pos.line X.env=pure false:=by rfl) (hw:swappedStores [tg] e X.env=pure none:=by rfl)
  (h1:(assignEach [tg] X.env).map (·.2)=[assign tg X.env]:=by rfl):WDS X (.Assign [tg] e pos) (dAsg te g):=⟨Dl.ds_asg (ps_asg he.h hg.h hs hw h1)⟩
theorem cY {i:Nat}{x:Str}{e:Expr}{es:List Expr}{apos cpos np pos:Pos} (hv:WV X (.Name x np) i) (ha:WDA X (e::es) (cL te iZ))
  (hbase:attributeBase (.Name x np) "append" X.env (eval (.Name x np) X.env)=eval (.Name x np) X.env:=by rfl)
  (hfew:((backTo cpos (starEach (e::es) X.env)).all (fun x=>!x.1)&&(backToKw cpos (keywordEach [] X.env)).all (fun x=>x.1.isSome)
  &&decide ((e::es).length+([]:List Keyword).length+(if ([]:List Keyword).isEmpty then 0 else 1)<30))=true:=by rfl)
  (hline:(apos.endLine == cpos.line)=true:=by rfl) (hst:starEach (e::es) X.env=(false,eval e X.env)::starEach es X.env:=by rfl) (hplain:(backTo cpos (starEach es X.env)).any (·.1)=false:=by rfl)
  (hs:swapsWith (.Call (.Attribute (.Name x np) "append" apos) (e::es) [] cpos) none pos.line X.env=pure false:=by rfl) :
  WDS X (.Expr (.Call (.Attribute (.Name x np) "append" apos) (e::es) [] cpos) pos) (dApp i te):=⟨Dl.cY (fW (pe_bm PySem.F.plainAttrs_list PySem.F.slot_list_append PySem.F.type_list_append j6 hv.h ha.h hbase hfew hline hst hplain) hs)⟩
theorem ds_insert {i:Nat}{x:Str}{e:Expr}{es:List Expr}{apos cpos np pos:Pos} (hv:WV X (.Name x np) i) (ha:WDA X (e::es) (cL tj (cL te iZ)))
  (hbase:attributeBase (.Name x np) "insert" X.env (eval (.Name x np) X.env)=eval (.Name x np) X.env:=by rfl)
  (hfew:((backTo cpos (starEach (e::es) X.env)).all (fun x=>!x.1)&&(backToKw cpos (keywordEach [] X.env)).all (fun x=>x.1.isSome)
  &&decide ((e::es).length+([]:List Keyword).length+(if ([]:List Keyword).isEmpty then 0 else 1)<30))=true:=by rfl)
  (hline:(apos.endLine == cpos.line)=true:=by rfl) (hst:starEach (e::es) X.env=(false,eval e X.env)::starEach es X.env:=by rfl) (hplain:(backTo cpos (starEach es X.env)).any (·.1)=false:=by rfl)
  (hs:swapsWith (.Call (.Attribute (.Name x np) "insert" apos) (e::es) [] cpos) none pos.line X.env=pure false:=by rfl) :
  WDS X (.Expr (.Call (.Attribute (.Name x np) "insert" apos) (e::es) [] cpos) pos) (dIns i tj te):=⟨Dl.ds_insert (fW (pe_bm PySem.F.plainAttrs_list PySem.F.slot_list_insert PySem.F.type_list_insert mt_insert hv.h ha.h hbase hfew hline hst hplain) hs)⟩
theorem ds_appS {i:Nat}{x:Str}{e:Expr}{es:List Expr}{apos cpos np pos:Pos} (hv:WV X (.Name x np) i) (ha:WDA X (e::es) (cL te iZ))
  (hbase:attributeBase (.Name x np) "append" X.env (eval (.Name x np) X.env)=eval (.Name x np) X.env:=by rfl)
  (hfew:((backTo cpos (starEach (e::es) X.env)).all (fun x=>!x.1)&&(backToKw cpos (keywordEach [] X.env)).all (fun x=>x.1.isSome)
  &&decide ((e::es).length+([]:List Keyword).length+(if ([]:List Keyword).isEmpty then 0 else 1)<30))=true:=by rfl)
  (hline:(apos.endLine == cpos.line)=true:=by rfl) (hst:starEach (e::es) X.env=(false,eval e X.env)::starEach es X.env:=by rfl) (hplain:(backTo cpos (starEach es X.env)).any (·.1)=false:=by rfl)
  (hs:swapsWith (.Call (.Attribute (.Name x np) "append" apos) (e::es) [] cpos) none pos.line X.env=pure false:=by rfl) :
  WDS X (.Expr (.Call (.Attribute (.Name x np) "append" apos) (e::es) [] cpos) pos) (dAppS i te):=⟨Dl.ds_appS (fW (pe_bm PySem.F.plainAttrs_list PySem.F.slot_list_append PySem.F.type_list_append j6 hv.h ha.h hbase hfew hline hst hplain) hs)⟩
theorem eO {i:Nat}{x:Str}{e ej:Expr}{es:List Expr}{apos cpos np sp pos:Pos} (hv:WV X (.Name x np) i) (hj:WD X ej tj) (ha:WDA X (e::es) (cL te iZ)) (hpx:PlainIx ej:=by exact fun _ _=>rfl)
  (hbase:attributeBase (.Subscript (.Name x np) ej sp) "append" X.env (eval (.Subscript (.Name x np) ej sp) X.env)=eval (.Subscript (.Name x np) ej sp) X.env:=by rfl)
  (hfew:((backTo cpos (starEach (e::es) X.env)).all (fun x=>!x.1)&&(backToKw cpos (keywordEach [] X.env)).all (fun x=>x.1.isSome)
  &&decide ((e::es).length+([]:List Keyword).length+(if ([]:List Keyword).isEmpty then 0 else 1)<30))=true:=by rfl)
  (hline:(apos.endLine == cpos.line)=true:=by rfl) (hst:starEach (e::es) X.env=(false,eval e X.env)::starEach es X.env:=by rfl) (hplain:(backTo cpos (starEach es X.env)).any (·.1)=false:=by rfl)
  (hs:swapsWith (.Call (.Attribute (.Subscript (.Name x np) ej sp) "append" apos) (e::es) [] cpos) none pos.line X.env=pure false:=by rfl) :
  WDS X (.Expr (.Call (.Attribute (.Subscript (.Name x np) ej sp) "append" apos) (e::es) [] cpos) pos) (dRowApp i tj te):=⟨Dl.eO (fW (pe_bm PySem.F.plainAttrs_list PySem.F.slot_list_append PySem.F.type_list_append j6 (fj dW hv.h hj.h hpx) ha.h hbase hfew hline hst hplain) hs)⟩
theorem ds_dput {i:Nat}{x:Str}{ek e:Expr}{np pos' pos:Pos} (hu:X.A.units+64<cLine) (hv:WV X (.Name x np) i) (hk:WD X ek tk) (he:WD X e tv) (hs:swapsWith e (some (.Subscript (.Name x np) ek pos')) pos.line X.env=pure false:=by rfl) :
  WDS X (.Assign [.Subscript (.Name x np) ek pos'] e pos) (dPutD i tk tv):=⟨Dl.ds_dput (ps_dput (hu1 hu) hv.h hk.h he.h hs)⟩
theorem aG {i:Nat}{x:Str} (hN:X.N.Nodup) (hi:X.N[i]?=some x) (hx:Loc X.env.scope x) (hf:X.fn x=true\/X.env.scope.names.lookup x=some .local:=by first | exact .inl rfl | exact .inr rfl | assumption):WDG X (.Name x pos) (gNm i):=⟨Dl.aG (pg_name hN hi hx hf)⟩
theorem aq {i:Int}{j:Nat}:WD X (.Constant (.int i) j pos) (tK (.int i)):=⟨Dl.aq ⟩
theorem d7 {i:Bool}{j:Nat}:WD X (.Constant (.bool i) j pos) (tK (.bool i)):=⟨Dl.d7 ⟩
theorem d9 {j:Nat}:WD X (.Constant .none j pos) (tK .none):=⟨Dl.d9 ⟩
theorem gA {x:Str}{j:Nat}:WD X (.Constant (.str x) j pos) (tK (.str x)):=⟨Dl.gA ⟩
theorem bV {e:Expr}{t:DE} (h:WD X e t) (he:∀ whole,isTrue e X.env whole=(do let v ← whole; standAt e.pos; holding [v] (truthy v)):=by intro _; rfl):WDT X e (dM t):=⟨Dl.bV (h:=h.h) (he:=he)⟩
theorem cu {t:DT} (ha:WDT X a t):WDT X (.UnaryOp .Not a pos) (dNot t):=⟨Dl.cu (ha:=ha.h)⟩
theorem ju (ha:WDT X a t):WDW X (.BoolOp .And [a] pos) t:=⟨Dl.ju (ha:=ha.h)⟩
theorem dR (ha:WDT X a t):WDW X (.BoolOp .Or [a] pos) t:=⟨Dl.dR (ha:=ha.h)⟩
theorem iG {rest:List Expr} (ha:WDT X a t) (hb:WDW X (.BoolOp .And (b::rest) pos) u):WDW X (.BoolOp .And (a::b::rest) pos) (dAnd t u):=⟨Dl.iG (ha:=ha.h) (hb:=hb.h)⟩
theorem cM {rest:List Expr} (ha:WDT X a t) (hb:WDW X (.BoolOp .Or (b::rest) pos) u):WDW X (.BoolOp .Or (a::b::rest) pos) (dOr t u):=⟨Dl.cM (ha:=ha.h) (hb:=hb.h)⟩
theorem ak :WDA X [] iZ:=⟨Dl.ak ⟩
theorem aj (ha:WD X e te) (hr:WDA X es t) (hs:starEach (e::es) X.env=(false,eval e X.env)::starEach es X.env:=by rfl):WDA X (e::es) (cL te t):=⟨Dl.aj (ha:=ha.h) (hr:=hr.h) (hs:=hs)⟩
theorem aU (h:WDA X es t):WD X (.List es pos) (tList t):=⟨Dl.aU (h:=h.h)⟩
theorem aQ {x1} (h:WDA X es t):WD X (.Tuple es x1 pos) (lq t):=⟨Dl.aQ (h:=h.h)⟩
theorem jx (ha:WD X a ta) (hb:WD X b tb):WD X (.BinOp a .Sub b pos) (t2 (gI0 fun i j=>.int (i - j)) ta tb):=⟨Dl.jx (ha:=ha.h) (hb:=hb.h)⟩
theorem pd_fdiv (ha:WD X a ta) (hb:WD X b tb):WD X (.BinOp a .FloorDiv b pos) (t2 (gI CDiv fun i j=>.int (i / j)) ta tb):=⟨Dl.pd_fdiv (ha:=ha.h) (hb:=hb.h)⟩
theorem pd_mod (ha:WD X a ta) (hb:WD X b tb):WD X (.BinOp a .Mod b pos) (t2 (gI (fun _ j=>0<j) fun i j=>.int (i % j)) ta tb):=⟨Dl.pd_mod (ha:=ha.h) (hb:=hb.h)⟩
theorem pd_gt (ha:WD X a ta) (hb:WD X b tb):WD X (.Compare a [.Gt] [b] pos) (t2 (gI0 fun i j=>.bool (decide (j<i))) ta tb):=⟨Dl.pd_gt (ha:=ha.h) (hb:=hb.h)⟩
theorem pdt_lt (ha:WD X a ta) (hb:WD X b tb):WDT X (.Compare a [.Lt] [b] pos) (dM (t2 (gI0 fun i j=>.bool (decide (i<j))) ta tb)):=⟨Dl.pdt_lt (ha:=ha.h) (hb:=hb.h)⟩
theorem pdt_gt (ha:WD X a ta) (hb:WD X b tb):WDT X (.Compare a [.Gt] [b] pos) (dM (t2 (gI0 fun i j=>.bool (decide (j<i))) ta tb)):=⟨Dl.pdt_gt (ha:=ha.h) (hb:=hb.h)⟩
theorem pdt_ge (ha:WD X a ta) (hb:WD X b tb):WDT X (.Compare a [.GtE] [b] pos) (dM (t2 (gI0 fun i j=>.bool (decide (j<=i))) ta tb)):=⟨Dl.pdt_ge (ha:=ha.h) (hb:=hb.h)⟩
theorem dh {ps:Pos} (hm:X.mg "len"=none) (ha:WDA X [a] t) (hg:Gl X "len":=by rfl) (he:starEach [a] X.env=(false,eval a X.env)::starEach [] X.env:=by rfl) (hpl:(backTo pos (starEach [] X.env)).any (·.1)=false:=by rfl):WD X (.Call (.Name "len" ps) [a] [] pos) (tCl gLen t):=⟨Dl.dh (hm:=hm) (ha:=ha.h) (hg:=hg) (he:=he) (hpl:=hpl)⟩
theorem j4 {ps:Pos} (hm:X.mg "int"=none) (hv:bootBuiltins "int"=some (.type "int")) (ha:WDA X [a] t) (hg:Gl X "int":=by rfl) (he:starEach [a] X.env=(false,eval a X.env)::starEach [] X.env:=by rfl) (hpl:(backTo pos (starEach [] X.env)).any (·.1)=false:=by rfl):WD X (.Call (.Name "int" ps) [a] [] pos) (tCl gInt t):=⟨Dl.j4 (hm:=hm) (hv:=hv) (ha:=ha.h) (hg:=hg) (he:=he) (hpl:=hpl)⟩
theorem aJ :WDSs X [] dNext:=⟨Dl.aJ ⟩
theorem ao {st:Stmt}{rest:List Stmt} (h1:WDS X st t) (h2:WDSs X rest u):WDSs X (st::rest) (dSeq t u):=⟨Dl.ao (h1:=h1.h) (h2:=h2.h)⟩
theorem aD {st:Stmt} (h1:WDS X st t):WDSs X [st] t:=⟨Dl.aD (h1:=h1.h)⟩
theorem ds_never {st:Stmt}:WDS X st (fun _ _=>False):=⟨Dl.ds_never ⟩
theorem aK (he:WD X e te):WDS X (.Return (some e) pos) (dRet te):=⟨Dl.aK (he:=he.h)⟩
theorem bJ {c:Expr}{a b:List Stmt}{tc:DT} (hc:WDT X c tc) (ha:WDSs X a t) (hb:WDSs X b u):WDS X (.If c a b pos) (dIf tc t u):=⟨Dl.bJ (hc:=hc.h) (ha:=ha.h) (hb:=hb.h)⟩
theorem gn (he:WD X e te) (hs:swapsWith e none pos.line X.env=pure false:=by rfl):WDS X (.Expr e pos) (dExpr te):=⟨Dl.gn (he:=he.h) (hs:=hs)⟩
theorem dF :WDGs X [] gsNil:=⟨Dl.dF ⟩
theorem bx {g:DG}{gs:DGs} (h1:WDG X e g) (h2:WDGs X es gs) (hs:(assignEach (e::es) X.env).map (·.2)=assign e X.env::(assignEach es X.env).map (·.2):=by rfl):WDGs X (e::es) (gsCons g gs):=⟨Dl.bx (h1:=h1.h) (h2:=h2.h) (hs:=hs)⟩
theorem fP {gs:DGs}{k n:Nat} (hc:X.calm=true) (h:WDGs X es gs) (hn:(assignEach es X.env).length=n:=by rfl) (hst:(assignEach es X.env).findIdx? (·.1)=none:=by rfl):WDG X (.Tuple es k pos) (gTp n gs):=⟨Dl.fP (hc:=hc) (h:=h.h) (hn:=hn) (hst:=hst)⟩
theorem cg (hl:WD X l tl):WDI X tg l (iSq tl):=⟨Dl.cg (hl:=hl.h)⟩
theorem bG {a:Expr}{ps:Pos} (hm:X.mg "range"=none) (ha:WDA X [a] ta) (hg:Gl X "range":=by rfl) (hs:starEach [a] X.env=[(false,eval a X.env)]:=by rfl):WDI X tg (.Call (.Name "range" ps) [a] [] pos) (iR1 ta):=⟨Dl.bG (hm:=hm) (ha:=ha.h) (hg:=hg) (hs:=hs)⟩
theorem di_range2 {a b:Expr}{ps:Pos} (hm:X.mg "range"=none) (ha:WDA X [a,b] ta) (hg:Gl X "range":=by rfl) (hs:starEach [a,b] X.env=[(false,eval a X.env),(false,eval b X.env)]:=by rfl) (hs2:starEach [b] X.env=[(false,eval b X.env)]:=by rfl):WDI X tg (.Call (.Name "range" ps) [a,b] [] pos) (iR2 ta):=⟨Dl.di_range2 (hm:=hm) (ha:=ha.h) (hg:=hg) (hs:=hs) (hs2:=hs2)⟩
theorem di_enum {elts:List Expr}{kk:Nat}{tpos:Pos}{a:Expr}{ps:Pos} (hm:X.mg "enumerate"=none) (ha:WDA X [a] ta) (hg:Gl X "enumerate":=by rfl) (hs:starEach [a] X.env=[(false,eval a X.env)]:=by rfl):WDI X (.Tuple elts kk tpos) (.Call (.Name "enumerate" ps) [a] [] pos) (iEn ta):=⟨Dl.di_enum (hm:=hm) (ha:=ha.h) (hg:=hg) (hs:=hs)⟩
theorem bT {body:List Stmt} (hp:PassesOwn (model X.prog X.w) X.A X.env X.xe) (hc:X.calm=true) (hi:WDI X tg iter ti) (hg:WDG X tg g) (hb:WDSs X body tb) (hs:∀ x,foldedSetIterable iter X.env x=pure x:=by intro _; rfl):WDS X (.For tg iter body [] pos) (dFor ti g tb):=⟨Dl.bT (hp:=hp) (hc:=hc) (hi:=hi.h) (hg:=hg.h) (hb:=hb.h) (hs:=hs)⟩
theorem jK {body:List Stmt}{c:Expr}{tc:DT} (hp:PassesOwn (model X.prog X.w) X.A X.env X.xe) (hc:WDT X c tc) (hb:WDSs X body tb):WDS X (.While c body [] pos) (dWhile tc tb):=⟨Dl.jK (hp:=hp) (hc:=hc.h) (hb:=hb.h)⟩
theorem j8 {X:Cx}:WDTs X [] (fun _ P=>P true):=⟨Dl.j8 ⟩
theorem cT {X:Cx}{c:Expr}{t:DT} (hc:WDT X c t):WDTs X [c] t:=⟨Dl.cT (hc:=hc.h)⟩
theorem fX (own:List Str) (hc:X.calm=true) (hi:WDI X tg iter ti) (hg:∀ c,WDG (X.comp own scope c) tg g) (ht:∀ c,WDTs (X.comp own scope c) ifs tt) (he:∀ c,WD (X.comp own scope c) elt te) (hk:fB X.env scope X.N=true:=by rfl) (hs:∀ x,foldedSetIterable iter X.env x=pure x:=by intro _; rfl):WD X (.ListComp elt [⟨tg,iter,ifs,0⟩] scope pos) (dLC own.length ti g tt te):=⟨Dl.fX (own:=own) (hc:=hc) (hi:=hi.h) (hg:=fun c=>(hg c).h) (ht:=fun c=>(ht c).h) (he:=fun c=>(he c).h) (hk:=hk) (hs:=hs)⟩
theorem pd_chLL (ha:WD X a ta) (hb:WD X b tb) (hc:WD X c tc) (hm:lastMarks [.LtE,.Lt] [b,c]=false:=by with_unfolding_all rfl):WD X (.Compare a [.LtE,.Lt] [b,c] pos) (tCh (fun i j=>decide (i<=j)) (fun i j=>decide (i<j)) ta tb tc):=⟨Dl.pd_chLL (ha:=ha.h) (hb:=hb.h) (hc:=hc.h) (hm:=hm)⟩
theorem pd_not (ha:WD X a ta):WD X (.UnaryOp .Not a pos) (tNotD ta):=⟨Dl.pd_not (ha:=ha.h)⟩
theorem pd_one {op} (h:WD X a ta):WD X (.BoolOp op [a] pos) ta:=⟨Dl.pd_one (h:=h.h)⟩
theorem jy {rest:List Expr} (ha:WD X a ta) (hb:WD X (.BoolOp .And (b::rest) pos) tb):WD X (.BoolOp .And (a::b::rest) pos) (tAndD ta tb):=⟨Dl.jy (ha:=ha.h) (hb:=hb.h)⟩
theorem mG {u:DT} (hc:WDT X c u) (ha:WD X a ta) (hb:WD X b tb):WD X (.IfExp c a b pos) (tIfD u ta tb):=⟨Dl.mG (hc:=hc.h) (ha:=ha.h) (hb:=hb.h)⟩
theorem pd_max2 {ps:Pos} (hc:X.calm=true) (hm:X.mg "max"=none) (ha:WDA X [a,b] t) (hg:Gl X "max":=by rfl) (he:starEach [a,b] X.env=(false,eval a X.env)::starEach [b] X.env:=by rfl) (hpl:(backTo pos (starEach [b] X.env)).any (·.1)=false:=by rfl):WD X (.Call (.Name "max" ps) [a,b] [] pos) (tCl (gMM fun i j=>if j > i then j else i) t):=⟨Dl.pd_max2 (hc:=hc) (hm:=hm) (ha:=ha.h) (hg:=hg) (he:=he) (hpl:=hpl)⟩
theorem jZ {ps:Pos} (hm:X.mg "tuple"=none) (ha:WDA X [a] t) (hg:Gl X "tuple":=by rfl) (he:starEach [a] X.env=(false,eval a X.env)::starEach [] X.env:=by rfl) (hpl:(backTo pos (starEach [] X.env)).any (·.1)=false:=by rfl):WD X (.Call (.Name "tuple" ps) [a] [] pos) (tCl gTup' t):=⟨Dl.jZ (hm:=hm) (ha:=ha.h) (hg:=hg) (he:=he) (hpl:=hpl)⟩
theorem fL {ps:Pos} (hm:X.mg "sorted"=none) (ha:WDA X [a] t) (hg:Gl X "sorted":=by rfl) (he:starEach [a] X.env=(false,eval a X.env)::starEach [] X.env:=by rfl) (hpl:(backTo pos (starEach [] X.env)).any (·.1)=false:=by rfl):WD X (.Call (.Name "sorted" ps) [a] [] pos) (tCl gSortI t):=⟨Dl.fL (hm:=hm) (ha:=ha.h) (hg:=hg) (he:=he) (hpl:=hpl)⟩
theorem pd_sortP {ps:Pos} (hm:X.mg "sorted"=none) (ha:WDA X [a] t) (hg:Gl X "sorted":=by rfl) (he:starEach [a] X.env=(false,eval a X.env)::starEach [] X.env:=by rfl) (hpl:(backTo pos (starEach [] X.env)).any (·.1)=false:=by rfl):WD X (.Call (.Name "sorted" ps) [a] [] pos) (tCl gSortP t):=⟨Dl.pd_sortP (hm:=hm) (ha:=ha.h) (hg:=hg) (he:=he) (hpl:=hpl)⟩
theorem pd_in (hu:X.A.units+64<cLine) (ha:WD X a ta) (hb:WD X b tb) (hm:behindInMarks .In b=false:=by rfl):WD X (.Compare a [.In] [b] pos) (t2 (gIn false) ta tb):=⟨Dl.pd_in (hu:=hu) (ha:=ha.h) (hb:=hb.h) (hm:=hm)⟩
theorem jw (hu:X.A.units+64<cLine) (ha:WD X a ta) (hb:WD X b tb) (hm:behindInMarks .In b=false:=by rfl):WDT X (.Compare a [.In] [b] pos) (dM (t2 (gIn false) ta tb)):=⟨Dl.jw (hu:=hu) (ha:=ha.h) (hb:=hb.h) (hm:=hm)⟩
theorem bF (hu:X.A.units+64<cLine) (ha:WD X a ta) (hb:WD X b tb) (hm:behindInMarks .NotIn b=false:=by rfl):WDT X (.Compare a [.NotIn] [b] pos) (dM (t2 (gIn true) ta tb)):=⟨Dl.bF (hu:=hu) (ha:=ha.h) (hb:=hb.h) (hm:=hm)⟩
theorem do_some (h:WD X e te):WDO X (some e) (oSome te):=⟨Dl.do_some (h:=h.h)⟩
theorem pd_neg (ha:WD X a ta):WD X (.UnaryOp .USub a pos) (tNeg ta):=⟨Dl.pd_neg (ha:=ha.h)⟩
theorem dc {f:List D->(D->Prop)->Prop} (C:Cal X.prog X.w X.K X.mg X.base k x ps (spD f)) (hr:Room j X.A) (ha:WDA X (e::es) t) (hk:k<=j:=by decide) (hg:Gl X x:=by rfl) (hdb:(x == ("__debug__":Str))=false:=by decide) (he:starEach (e::es) X.env=(false,eval e X.env)::starEach es X.env:=by rfl) (hpl:(backTo pos (starEach es X.env)).any (·.1)=false:=by rfl):WD X (.Call (.Name x p) (e::es) [] pos) (tFn f t):=⟨Dl.dc (C:=C) (hr:=hr) (ha:=ha.h) (hk:=hk) (hg:=hg) (hdb:=hdb) (he:=he) (hpl:=hpl)⟩
theorem dcP {C:Pn->Prop}{i:Nat}{f:List D->(D->Prop)->Prop}{y:Str}{py:Pos} (CC:Cal X.prog X.w X.K X.mg X.base k x ps (spP C f)) (hr:Room j X.A) (hi:WV X (.Name y py) i) (ha:WDA X es t) (hk:k<=j:=by decide) (hg:Gl X x:=by rfl) (hdb:(x == ("__debug__":Str))=false:=by decide) (he:starEach (.Name y py::es) X.env=(false,eval (.Name y py) X.env)::starEach es X.env:=by rfl) (hpl:(backTo pos (starEach es X.env)).any (·.1)=false:=by rfl):WD X (.Call (.Name x p) (.Name y py::es) [] pos) (tFnP C f i t):=⟨Dl.dcP (CC:=CC) (hr:=hr) (hi:=hi.h) (ha:=ha.h) (hk:=hk) (hg:=hg) (hdb:=hdb) (he:=he) (hpl:=hpl)⟩
theorem dv (i:Nat) {x:Str}{pos:Pos} (hN:X.N[i]?=some x:=by rfl) (hv:Vis X.env.scope x:=by first | exact Or.inl rfl | exact Or.inr (Or.inl rfl) | exact Or.inr (Or.inr rfl)) (hd:(x == ("__debug__":Str))=false:=by decide) (hcd:(x == ("__classdict__":Str))=false:=by decide):WD X (.Name x pos) (tV i):=⟨Dl.dv (i:=i) (hN:=hN) (hv:=hv) (hd:=hd) (hcd:=hcd)⟩
theorem mz (ha:WD X a ta) (hb:WD X b tb):WDT X (.Compare a [.Is] [b] pos) (dM (t2 gIsN ta tb)):=⟨Dl.mz (ha:=ha.h) (hb:=hb.h)⟩
theorem pd_lenset {ps ps':Pos} (hc:X.calm=true) (hs:X.mg "set"=none) (hl:X.mg "len"=none) (ha:WDA X [a] t) (hgs:Gl X "set":=by rfl) (hgl:Gl X "len":=by rfl) (he:starEach [a] X.env=(false,eval a X.env)::starEach [] X.env:=by rfl) (hpl:(backTo pos (starEach [] X.env)).any (·.1)=false:=by rfl) (he':starEach [Expr.Call (.Name "set" ps) [a] [] pos] X.env=(false,eval (Expr.Call (.Name "set" ps) [a] [] pos) X.env)::starEach [] X.env:=by rfl) (hpl':(backTo pos' (starEach [] X.env)).any (·.1)=false:=by rfl):WD X (.Call (.Name "len" ps') [.Call (.Name "set" ps) [a] [] pos] [] pos') (tCl gLenSet t):=⟨Dl.pd_lenset (hc:=hc) (hs:=hs) (hl:=hl) (ha:=ha.h) (hgs:=hgs) (hgl:=hgl) (he:=he) (hpl:=hpl) (he':=he') (hpl':=hpl')⟩
theorem aB (ha:WD X a ta) (hb:WD X b tb) (hs:PlainIx b:=by exact fun _ _=>rfl):WD X (.Subscript a b pos) (t2 gIx ta tb):=⟨Dl.aB (ha:=ha.h) (hb:=hb.h) (hs:=hs)⟩
theorem cA (ha:WD X a ta) (hb:WD X b tb):WD X (.BinOp a .Add b pos) (t2 gPlus ta tb):=⟨Dl.cA (ha:=ha.h) (hb:=hb.h)⟩
theorem gP (ha:WD X a ta) (hb:WD X b tb):WD X (.BinOp a .Mult b pos) (t2 gTimes ta tb):=⟨Dl.gP (ha:=ha.h) (hb:=hb.h)⟩
theorem iJ (hu:X.A.units+64<cLine) (ha:WD X a ta) (hb:WD X b tb):WD X (.Compare a [.Eq] [b] pos) (t2 (gEqA false) ta tb):=⟨Dl.iJ (hu:=hu) (ha:=ha.h) (hb:=hb.h)⟩
theorem mD (hu:X.A.units+64<cLine) (ha:WD X a ta) (hb:WD X b tb):WDT X (.Compare a [.Eq] [b] pos) (dM (t2 (gEqA false) ta tb)):=⟨Dl.mD (hu:=hu) (ha:=ha.h) (hb:=hb.h)⟩
theorem bW (hu:X.A.units+64<cLine) (ha:WD X a ta) (hb:WD X b tb):WDT X (.Compare a [.NotEq] [b] pos) (dM (t2 (gEqA true) ta tb)):=⟨Dl.bW (hu:=hu) (ha:=ha.h) (hb:=hb.h)⟩
theorem ds_frz {rest:List Stmt} (i:Nat) (h:WDSs X rest t):WDSs X rest (dFrz i t):=⟨Dl.ds_frz (i:=i) (h:=h.h)⟩
theorem ds_sp {rest:List Stmt} (i:Nat) (b:Bool) (h:WDSs X rest t):WDSs X rest (dSp i b t):=⟨Dl.ds_sp (i:=i) (b:=b) (h:=h.h)⟩
theorem aC {rest:List Stmt} (js:List Nat) (h:WDSs X rest t):WDSs X rest (dDrops js t):=⟨Dl.aC (js:=js) (h:=h.h)⟩
theorem j5 :WD X (.Dict [] [] pos) (fun _ P=>P .new (.dict [])):=⟨Dl.j5 ⟩
theorem pd_sl {lo hi:Option Expr}{tl th:DO} (he:WD X e te) (hl:WDO X lo tl) (hh:WDO X hi th):WD X (.Subscript e (.Slice lo hi none p2) pos) (tSl' te tl th):=⟨Dl.pd_sl (he:=he.h) (hl:=hl.h) (hh:=hh.h)⟩
theorem pd_dict1 (ha:WD X a ta) (hb:WD X b tb):WD X (.Dict [some a] [b] pos) (tD1 ta tb):=⟨Dl.pd_dict1 (ha:=ha.h) (hb:=hb.h)⟩
theorem d8 (hu:X.A.units+64<cLine) (ha:WD X a ta) (hb:WD X b tb) (hm:behindInMarks .NotIn b=false:=by rfl):WDT X (.Compare a [.NotIn] [b] pos) (dM (t2 (gDin true) ta tb)):=⟨Dl.d8 (hu:=hu) (ha:=ha.h) (hb:=hb.h) (hm:=hm)⟩
theorem mH (hu:X.A.units+64<cLine) (ha:WD X a ta) (hb:WD X b tb) (hs:NoSl b:=by exact fun _ _=>rfl):WD X (.Subscript a b pos) (t2 gDget ta tb):=⟨Dl.mH (hu:=hu) (ha:=ha.h) (hb:=hb.h) (hs:=hs)⟩
theorem pdt_tru (h:WD X e te) (he:∀ whole,isTrue e X.env whole=(do let v ← whole; standAt e.pos; holding [v] (truthy v)):=by intro _; rfl):WDT X e (tTru te):=⟨Dl.pdt_tru (h:=h.h) (he:=he)⟩
theorem dg_lst {es:List Expr}{gs:DGs}{k n:Nat} (hc:X.calm=true) (h:WDGs X es gs) (hn:(assignEach es X.env).length=n:=by rfl) (hst:(assignEach es X.env).findIdx? (·.1)=none:=by rfl):WDG X (.Tuple es k pos) (gTL n gs):=⟨Dl.dg_lst (hc:=hc) (h:=h.h) (hn:=hn) (hst:=hst)⟩
theorem pd_sumA {ps:Pos} (hc:X.calm=true) (hm:X.mg "sum"=none) (ha:WDA X [a] t) (hg:Gl X "sum":=by rfl) (he:starEach [a] X.env=(false,eval a X.env)::starEach [] X.env:=by rfl) (hpl:(backTo pos (starEach [] X.env)).any (·.1)=false:=by rfl):WD X (.Call (.Name "sum" ps) [a] [] pos) (tCl gSumA t):=⟨Dl.pd_sumA (hc:=hc) (hm:=hm) (ha:=ha.h) (hg:=hg) (he:=he) (hpl:=hpl)⟩
theorem pd_sortD {ps:Pos} (hc:X.calm=true) (hm:X.mg "sorted"=none) (ha:WDA X [a] t) (hg:Gl X "sorted":=by rfl) (he:starEach [a] X.env=(false,eval a X.env)::starEach [] X.env:=by rfl) (hpl:(backTo pos (starEach [] X.env)).any (·.1)=false:=by rfl):WD X (.Call (.Name "sorted" ps) [a] [] pos) (tCl gSortD t):=⟨Dl.pd_sortD (hc:=hc) (hm:=hm) (ha:=ha.h) (hg:=hg) (he:=he) (hpl:=hpl)⟩
theorem iH (ha:WD X a ta) (hb:WD X b tb):WDT X (.Compare a [.IsNot] [b] pos) (dM (t2 gNotN ta tb)):=⟨Dl.iH (ha:=ha.h) (hb:=hb.h)⟩
end
section
theorem cN [Gr] {T:String}{x:Str}{e:Expr}{te:DE}{ps pt pos:Pos} (hk:∀ t:Value,(t=.type "NoneType"\/t=.type "bool"\/t=.type "int"\/t=.type "str"\/t=.type "list"\/t=.type "tuple"\/t=.type "dict")->∃ n,t=.type n/\PySem.W.kitOne X.K t (.type T)=some (n == T || (T == "int"&&n == "bool")))
  (hm:X.mg "isinstance"=none) (he:WD X e te) (hT:WC X (.Name x pt) (.ty T)) (hg:Gl X "isinstance":=by rfl) (h1:starEach [e,.Name x pt] X.env=(false,eval e X.env)::starEach [.Name x pt] X.env:=by rfl) (h2:starEach [.Name x pt] X.env=(false,eval (.Name x pt) X.env)::starEach [] X.env:=by rfl) (hpl:(backTo pos (starEach [.Name x pt] X.env)).any (·.1)=false:=by rfl) :
  WD X (.Call (.Name "isinstance" ps) [e,.Name x pt] [] pos) (tIs T te):=⟨Dl.cN hk hm he.h hT.h hg h1 h2 hpl⟩
end
end Wr
set_option autoImplicit false
set_option autoImplicit true
namespace Wr
open PySem L2 PyProof.Rows Dl
section
variable [Gr] {X:Cx}{tj te:DE}
theorem di_enumL {elts:List Expr}{kk:Nat}{tpos pos:Pos}{a:Expr}{ps:Pos} (hm:X.mg "enumerate"=none) (ha:WDA X [a] ta) (hg:Gl X "enumerate":=by rfl) (hs:starEach [a] X.env=[(false,eval a X.env)]:=by rfl):WDI X (.Tuple elts kk tpos) (.Call (.Name "enumerate" ps) [a] [] pos) (iEnL ta):=⟨Dl.di_enumL hm ha.h hg hs⟩
end
section
variable [Gr] {X:Cx}{tj te te1 te2 ta:DE}{t:DS}
end
end Wr
namespace Dl
open PySem L2 PyProof.Rows
section
variable {X:Cx}{pins:List (Addr×Obj)}{σ:L2.St}{H:Hp}{s:Shared}{ok ok':Addr->Prop}
mutual
theorem Rp.gw (I:Inv X pins σ H s):∀ {v:V}{d:D}{u:Value},Rp ok H v d->RelV v u->∃ as,Reads s.heap u d as/\∀ a∈as,H a≠none
 | _,_,_,.non,r=>by cases r; exact⟨_,.none,fun _ h=>nomatch h⟩
 | _,_,_,.bl b,r=>by cases r; exact⟨_,.bool b,fun _ h=>nomatch h⟩
 | _,_,_,.int i,r=>by obtain⟨t,rfl⟩:=r; exact⟨_,.int i t,fun _ h=>nomatch h⟩
 | _,_,_,.str x,r=>by obtain⟨t,rfl⟩:=r; exact⟨_,.str x t,fun _ h=>nomatch h⟩
 | _,_,_,.lst o h rs,r=>by
  cases r
  obtain⟨its,rv,pl,_⟩:=I.list (SqL.of h)
  obtain⟨as,ra,na⟩:=Rps.gw I rs rv
  obtain⟨ob,ho,hc,n,hd⟩:=pl.isList
  refine⟨_,.list ho hc hd (by simpa using ra),fun b hb=>?_⟩
  rcases List.mem_cons.mp hb with rfl | hb
  ·rw [h]; exact fun z=>nomatch z
  ·exact na b hb
 | _,_,_,.tup h rs,r=>by
  cases r
  obtain⟨its,rv,pl,_⟩:=I.tuple (SqT.of h)
  obtain⟨as,ra,na⟩:=Rps.gw I rs rv
  obtain⟨ob,ho,hc,n,hd⟩:=pl
  exact⟨_,.tuple ho hc hd (by simpa using ra),na⟩
 | _,_,_,.dct (a:=a) (kvs:=kvs) (ds:=ds) o h rs,r=>by
  cases r
  obtain⟨_,_,vs,rel,ob,es,ep,ho,hc,hd,_,hp,_⟩:=dk_of I.hok h
  obtain⟨as,bs,ra,rb,na⟩:=Rkv.gw I rs rel hp
  refine⟨_,.dict ho hc.1 hd ra rb,fun b hb=>?_⟩
  rcases List.mem_append.mp hb with hb | hb
  ·rcases List.mem_cons.mp hb with rfl | hb
   ·rw [h]; exact fun z=>nomatch z
   ·exact na b (.inl hb)
  ·exact na b (.inr hb)
theorem Rps.gw (I:Inv X pins σ H s):∀ {v:List V}{d:List D}{u:List Value},Rps ok H v d->Vals v u->∃ as,ReadsAll s.heap u d as/\∀ a∈as,H a≠none
 | _,_,_,.nil,r=>by cases r; exact⟨[],.nil,fun _ h=>nomatch h⟩
 | _,_,_,.cons h t,r=>by
  cases r with
  | cons a b =>
   obtain⟨as,ra,na⟩:=Rp.gw I h a
   obtain⟨bs,rb,nb⟩:=Rps.gw I t b
   exact⟨_,.cons ra rb,fun c hc=>(List.mem_append.mp hc).elim (na c) (nb c)⟩
theorem Rkv.gw (I:Inv X pins σ H s):∀ {kvs:List (Key×V)}{ds:List (D×D)}{vs:List (Key×Value)}{es:List DictEntry},Rkv ok H kvs ds->KV kvs vs->Pairs (aY X.prog X.w) es vs->∃ as bs,ReadsAll s.heap (es.map (·.key)) (ds.map (·.1)) as/\ReadsAll s.heap (es.map (·.val)) (ds.map (·.2)) bs/\∀ a,a∈as\/a∈bs->H a≠none
 | _,_,_,_,.nil,r,p=>by
  cases r
  cases p
  exact⟨[],[],.nil,.nil,fun _ h=>h.elim (fun h=>nomatch h) fun h=>nomatch h⟩
 | _,_,_,_,.cons h t,r,p=>by
  cases r with
  | cons a b =>
   cases p with
   | cons p1 p2 p3 =>
    obtain⟨a1,a2⟩:=a
    obtain⟨as,bs,ra,rb,nb⟩:=Rkv.gw I t b p3
    obtain⟨cs,rc,nc⟩:=Rp.gw I h a2
    have p1':gj _ _=true:=p1
    rw [← a1] at p1'
    rw [← p2] at rc
    rcases bH p1' with ⟨i,tk,e1,e2⟩ | ⟨x,tk,e1,e2⟩
    ·refine⟨_,_,.cons (as:=[]) ?_ ra,.cons rc rb,fun c hc=>?_⟩
     ·dsimp only at e1 ⊢; rw [e2,e1]
      exact .int i tk
     ·rcases hc with hc | hc
      ·exact nb c (.inl hc)
      ·exact (List.mem_append.mp hc).elim (nc c) fun z=>nb c (.inr z)
    ·refine⟨_,_,.cons (as:=[]) ?_ ra,.cons rc rb,fun c hc=>?_⟩
     ·dsimp only at e1 ⊢; rw [e2,e1]
      exact .str x tk
     ·rcases hc with hc | hc
      ·exact nb c (.inl hc)
      ·exact (List.mem_append.mp hc).elim (nc c) fun z=>nb c (.inr z)
end
end
noncomputable def okRA (d:D):Prop:=d.showable=true/\d.depth<=50/\d.shown.length<=sizeLine
noncomputable def SysIn (base:Heap):Prop:=∃ o,base.get? sysModules=some o
section
variable {X:Cx}{pos:Pos}{a e:Expr}{te:DE}{t:DA} [Gr]
theorem call_reprA (hS:SysIn X.base) (hg:X.A.guards=some []) (hu:X.A.units+64<cLine):cU X (.builtin "repr") (fun xs H Q=>∃ ok v d,xs=[v]/\Rp ok H v d/\okRA d/\Q (.str d.shown) H):=by
 intro pins s σ H xs us Q I r h
 obtain⟨ok,v,d,rfl,rd,⟨o2,o3,o4⟩,q⟩:=h
 obtain⟨u,rfl,r1⟩:=vals1 r
 have fin:∀ (x:Str) (tk:Tok),x=d.shown->EP X pins σ Q (.str x tk) { s with toks:=s.toks+1 }:=fun x tk e=>by subst e; exact⟨.str d.shown,H,I.tok _,⟨tk,rfl⟩,q⟩
 have big:∀ a,v=.ref a->wpAny (model X.prog X.w) X.A (call (.builtin "repr") [u]) (EP X pins σ Q) X.xe s:=fun a ea=>by
  subst ea
  obtain⟨as,ra,na⟩:=rd.gw I r1
  cases r1
  obtain⟨o,ho⟩:=hS
  refine repr_of_reads' (h₀:=s.heap) ra o2 (fun _ hm=>na _ hm (I.bs _ _ ho).2) hg (by omega) (fun _ _ e=>e) (fun h' u tk k=>?_) o4
  exact⟨.str d.shown,H,I.kept k,⟨_,rfl⟩,q⟩
 cases rd with
 | non=>cases r1; exact PySem.P.repr_of_none (fin _ _ rfl)
 | bl b=>cases r1; exact PySem.P.repr_of_bool (fin _ _ (by cases b <;> rfl))
 | int i =>
  obtain⟨t,rfl⟩:=r1
  exact PySem.P.repr_of_int (of_decide_eq_true o2) (fin _ _ rfl)
 | str x =>
  obtain⟨t,rfl⟩:=r1
  exact PySem.P.repr_of_str (fin _ _ rfl) o4
 | lst o h rs=>exact big _ rfl
 | tup h rs=>exact big _ rfl
 | dct o h rs=>exact big _ rfl
noncomputable def gReprA:GC:=fun ks P=>∃ k d,ks=[(k,d)]/\okRA d/\P .imm (.str d.shown)
theorem mF {ps:Pos} (hS:SysIn X.base) (hgd:X.A.guards=some []) (hu:X.A.units+64<cLine) (hm:X.mg "repr"=none) (ha:PDA X [a] t) (hg:Gl X "repr":=by rfl) (he:starEach [a] X.env=(false,eval a X.env)::starEach [] X.env:=by rfl) (hpl:(backTo pos (starEach [] X.env)).any (·.1)=false:=by rfl):PD X (.Call (.Name "repr" ps) [a] [] pos) (tCl gReprA t) :=
 fM (call_reprA hS hgd hu) (by
  intro p H0 own Hb H vs ks P Q A r t q
  obtain⟨k,d,rfl,o,t⟩:=t
  obtain⟨v,rfl,r'⟩:=gK r
  exact⟨_,v,d,rfl,r',o,q _ _ _ _ t Kp.refl A.pen (.str _)⟩) hg hm boot_repr ha (by decide) (by decide) he hpl
end
section
variable [Gr]
noncomputable abbrev DR:=(D->Prop)->List Sl->Prop
structure WishR (p:Pn) (own:Addr->Option Nat) (H:Hp) (P:D->Prop) (Q:Ends):Prop where
 rt:∀ d v H',P d->p.PI H'->(∀ b o,H b=some o->¬ p.fp b->own b=none->H' b=some o)->Rp (fun a=>¬ p.fp a) H' v d->Q.rt v H'
noncomputable def liftR (t:DR):TS:=fun Q σ H=>∃ p H0 own ρ P,EnvD p H0 own σ H ρ/\t P ρ/\WishR p own H P Q
structure WR (X:Cx) (ss:List Stmt) (t:DR):Prop where
 h:PSs X ss (liftR t)
variable {X:Cx}{pos:Pos}{e:Expr}{te:DE}{st:Stmt}{rest:List Stmt}{t:DS}{u:DR}
variable {k j:Nat}{x:Str}{ps:List Str}{es:List Expr}{ta:DA}{p:Pos}
end
end Dl
namespace Wr
open PySem L2 PyProof.Rows Dl
variable [Gr] {X:Cx}{pos:Pos}{a:Expr}{t:DA}
theorem mF {ps:Pos} (hS:SysIn X.base) (hgd:X.A.guards=some []) (hu:X.A.units+64<cLine) (hm:X.mg "repr"=none) (ha:WDA X [a] t) (hg:Gl X "repr":=by rfl) (he:starEach [a] X.env=(false,eval a X.env)::starEach [] X.env:=by rfl) (hpl:(backTo pos (starEach [] X.env)).any (·.1)=false:=by rfl):WD X (.Call (.Name "repr" ps) [a] [] pos) (tCl gReprA t):=⟨Dl.mF hS hgd hu hm ha.h hg he hpl⟩
end Wr
namespace L2
open PySem PySem.Spec PyProof.Rows
end L2
namespace Dl
open PySem L2 PyProof.Rows
variable [Gr]
section
variable {X:Cx}{tg:Expr}{pos:Pos}{ta:DA}
end
end Dl
namespace Wr
open PySem L2 PyProof.Rows Dl
variable [Gr] {X:Cx}{pos:Pos}{ta:DA}
end Wr
namespace Dl
open PySem L2 PyProof.Rows
variable [Gr]
section
variable {X:Cx}{pos:Pos}{st:Stmt}{rest:List Stmt}{t u:DS}{te tj t1 t2:DE}
end
end Dl
namespace Wr
open PySem L2 PyProof.Rows Dl
section
variable [Gr] {X:Cx}{tj te t1 t2:DE}{t u:DS}
end
end Wr
set_option autoImplicit false
namespace L2
open PySem PySem.Spec PyProof.Rows
section
variable {X:Cx}{k:Nat}{f CF:Addr}{fd:FuncData}{ps:List Str}{sp:Sp}{E:XK}{x hx n:Str}{p np cpos epos hpos pos:Pos}{e:Expr}{es:List Expr}{t:TA}{b₀:Stmt}{suite:List Stmt}{ts:TS}{j:Nat}
end
section
variable {X:Cx}{k:Nat}{f CF:Addr}{fd:FuncData}{ps:List Str}{sp:Sp}{E:XK}{x hx n:Str}{p np cpos epos hpos pos:Pos}{e:Expr}{es:List Expr}{t:TA}{b₀:Stmt}{suite:List Stmt}{ts:TS}{j:Nat}
end
end L2
namespace Dl
open PySem L2 PyProof.Rows
section
variable [Gr] {X:Cx}{pos:Pos}{a:Expr}{t:DA}
theorem boot_str:bootBuiltins "str"=some (.type "str"):=by decide +kernel
end
end Dl
namespace Wr
open PySem L2 PyProof.Rows Dl
section
variable [Gr] {X:Cx}{pos:Pos}{a:Expr}{t:DA}
end
end Wr
namespace Dl
open PySem L2 PyProof.Rows
structure Ext (p q:Pn):Prop where
 pv:q.pv=p.pv
 fp:∀ a,p.fp a->q.fp a
 pi:∀ H,q.PI H->p.PI H
 go:∀ H H',q.PI H->Kp p H H'->p.PI H'->q.PI H'
noncomputable def CE (C:Pn->Prop) (q:Pn):Prop:=∃ p,C p/\Ext p q
section
variable [Gr]
variable {X:Cx}{pos:Pos}{c:Expr}{a rest:List Stmt}{tc:DT}{t u:DR}
variable {k j i:Nat}{x y:Str}{ps:List Str}{es:List Expr}{ta:DA}{pp py:Pos}
end
end Dl
namespace L2
open PySem PySem.Spec PyProof.Rows Builtin
section
variable {X:Cx}
end
end L2
namespace Dl
open PySem L2 PyProof.Rows
section
variable [Gr]
variable {X:Cx}{pos:Pos}{a b e:Expr}{ta tb te:DE}{p1 p2 p3:Pos}
end
end Dl
namespace Wr
open PySem L2 PyProof.Rows Dl
section
variable [Gr] {X:Cx}{pos:Pos}{a b e:Expr}{ta tb te:DE}{p1 p2 p3:Pos}
end
end Wr
namespace L2
open PySem PySem.Spec PyProof.Rows Builtin
section
variable {X:Cx}
end
end L2
namespace Dl
open PySem L2 PyProof.Rows
section
variable [Gr] {X:Cx}{pos p2:Pos}{a b e:Expr}{t:DA}{ta tb te:DE}
end
end Dl
namespace Wr
open PySem L2 PyProof.Rows Dl
section
variable [Gr] {X:Cx}{pos p2:Pos}{a b e:Expr}{t:DA}{ta tb te:DE}
end
end Wr
namespace Dl
open PySem L2 PyProof.Rows
variable [Gr]
section
variable {X:Cx}{st st2:Stmt}{rest:List Stmt}{te1 te2:DE}{tt:DT}{tr:TS}{t:DS}
end
section
variable {X:Cx}{own:List Str}{scope:Scope}{tg iter elt:Expr}{ifs:List Expr}{pos:Pos}{g:DG}{tt:DT}{te:DE}
end
end Dl
namespace Wr
open PySem L2 PyProof.Rows Dl
variable [Gr]
section
variable {X:Cx}{te1 te2:DE}{tt:DT}{tr:TS}{t:DS}
end
end Wr
namespace PySem
open PySem.W PyProof.Rows PySem.Spec
theorem rvi_no_len:typeLookup (.type "list_reverseiterator") "__len__"=pure none:=by rw [typeLookup_type,builtinLookup_eq_fast]; kernel_rfl
theorem rvi_hint:typeLookup (.type "list_reverseiterator") "__length_hint__"=pure (some (.builtin "list_reverseiterator.__length_hint__")):=by rw [typeLookup_type,builtinLookup_eq_fast]; kernel_rfl
section
variable {prog:Program}{w:World}{A:Around}{E:Value->Shared->Prop}{s:Shared}{it l:Addr}{items:Array Value}
theorem rvi_hintF {Q:Bool->Shared->Prop} (hT:s.TypeIs (.ref it) "list_reverseiterator") (h:Q false s):wpAny (model prog w) A (Builtin.List.listLengthHint (.ref it)) Q E s:=by
 unfold Builtin.List.listLengthHint
 refine wpAny_bind (wpAny_specialOf hT rvi_no_len ?_)
 show wpAny _ _ (specialOf (Value.ref it) (Str.ofString "__length_hint__") >>= _) _ _ _
 refine wpAny_bind (wpAny_specialOf hT rvi_hint ?_)
 generalize hid:("list_reverseiterator.__length_hint__":String)=nm
 wp_delta
 rw [show splitId nm=some ("list_reverseiterator","__length_hint__") from by subst hid; decide +kernel]
 subst hid
 refine wpAny_bind (wpAny_isInstance (T:="list_reverseiterator") (b:=true) hT (by rw [isSubtype_type]; kernel_rfl) ?_)
 refine wpAny_ite_split (fun z=>absurd z (by decide)) (fun _=>?_)
 refine wpAny_ite_split (fun _=>?_) (fun z=>absurd (by decide +kernel) z)
 refine wpAny_ite_split (fun z=>absurd z (by decide +kernel)) (fun _=>?_)
 exact wpAny_pure h
theorem rvi_list {Q:Value->Shared->Prop} (hh:A.handled=none) (hne:l≠it) (hit:s.heap.IsRevIter it l ((items.size:Int) - 1)) (hl:s.heap.IsList l items) (hn:items.size<=sizeLine)
  (hQ:∀ h' tk acc c,(∀ b o,b≠it->s.heap.get? b=some o->h'.get? b=some o)->h'.get? s.heap.objs.size=some { cls:=.type "list",dict:=none,data:=.seq acc c,slots:=#[] }->ItemsOf (fun i v=>items[items.size - 1 - i]?=some v) acc items.size->Q (.ref s.heap.objs.size) { s with heap:=h',toks:=tk }) :
  wpAny (model prog w) A (call (.type "list") [.ref it]) Q E s:=by
 obtain⟨oi,ei,_⟩:=id hit
 obtain⟨ol,el,_⟩:=id hl
 have lt:∀ {b:Addr}{o:Obj},s.heap.get? b=some o->s.heap.objs.size≠b:=fun e=>Nat.ne_of_gt (Heap.lt_size e)
 refine callType_codes (Q₁:=fun obj s₁=>obj=.ref s.heap.objs.size/\s₁={ s with heap:=s.heap.push { cls:=.type "list",data:=.seq #[] } }) F.called_list (F.typeCall_list_1 _) F.entry_list_init (code_list_new _ ⟨rfl,rfl⟩) fun obj s₁ hx=>?_
 obtain⟨rfl,rfl⟩:=hx
 have hS:(s.heap.push { cls:=.type "list",data:=.seq #[] }).get? s.heap.objs.size=some { cls:=.type "list",data:=.seq #[] }:=Heap.get?_push_size _ rfl
 refine⟨⟨_,hS,rfl⟩,F.args_list_init_2 _ _,?_⟩
 show wpAny _ _ (Builtin.List.listItems (.ref s.heap.objs.size) >>= fun old=>Builtin.List.listUpdate (.ref s.heap.objs.size) (fun _=>#[]) >>= fun _=>letGo old.toList.reverse >>= fun _=>Builtin.List.listExtendWith (.ref s.heap.objs.size) (.ref it) .none) _ _ _
 have old:∀ b o,s.heap.get? b=some o->(s.heap.push { cls:=.type "list",data:=.seq #[] }).get? b=some o:=fun b o e=>Heap.get?_push_of_some _ e
 refine wpAny_bind ?_
 unfold Builtin.List.listItems
 refine wpAny_bind (wpAny_seqItems hS rfl (wpAny_pure ?_))
 refine wpAny_bind (m:=updateSeq s.heap.objs.size (fun _=>#[])) (wpAny_updateSeq hS rfl ?_)
 have hS2:=Heap.get?_update_self (Obj.mapSeq (fun _=>(#[]:Array Value))) hS rfl
 refine wpAny_bind (wpAny_letGo ?_)
 generalize hg:(s.heap.push { cls:=.type "list",data:=.seq #[] }).update s.heap.objs.size (Obj.mapSeq fun _=>(#[]:Array Value))=g at hS2
 have kg:∀ b o,s.heap.get? b=some o->g.get? b=some o:=fun b o e=>by rw [← hg]; exact (Heap.get?_update_other _ _ (lt e)).trans (old b o e)
 have hit2:g.IsRevIter it l ((items.size:Int) - 1):=hit.at fun o e=>kg _ o e
 have hl2:g.IsList l items:=hl.at fun o e=>kg _ o e
 have hT:({ s with heap:=g }:Shared).TypeIs (.ref it) "list_reverseiterator":=⟨oi,kg _ _ ei,(id hit:_).elim fun o x=>by rw [ei] at x; cases x.1; exact x.2.1⟩
 unfold Builtin.List.listExtendWith
 refine wpAny_bind (wpAny_typeOf hT ?_)
 have q1:Builtin.List.listSameRef (.ref s.heap.objs.size) (.ref it)=false:=by simp [Builtin.List.listSameRef,lt ei]
 have q2:(Value.type "list_reverseiterator" == Value.type "list")=false:=by decide
 have q3:(Value.type "list_reverseiterator" == Value.type "tuple")=false:=by decide
 simp only [q1,q2,q3,Bool.or_false,Bool.false_eq_true,if_false]
 refine wpAny_bind (wpAny_pyIter_revIter hit2 ?_)
 refine wpAny_bind (wpAny_holding (rvi_hintF hT ?_))
 refine wpAny_ite_split (fun z=>absurd z (by decide)) (fun _=>?_)
 have W:=Walks.listRev (prog:=prog) (w:=w) (A:=A.in1.in1) hh it l hne items
 have hSf:s.heap.objs.size∉[it,l]:=by simp only [List.mem_cons,List.not_mem_nil,or_false,not_or]; exact⟨lt ei,lt el⟩
 refine wpAny_pure ⟨plainId_quiet F.plain_extend_loop _,codeAny_extend_loopS (A:=A.in1) W.toS hn s.heap.objs.size hSf .none items.size 0 _ #[] _ rfl (Nat.zero_le _) ⟨Nat.zero_le _,by simpa using hit2,hl2⟩ hS2 (ItemsOf.nil _) fun s' acc c hm hS' hacc=>?_⟩
 rw [Moved.eq_with hm]
 refine⟨rfl,hQ s'.heap s'.toks acc c (fun b o hb e=>hm.heap b o (fun z=>?_) (kg b o e)) hS' hacc⟩
 rcases List.mem_cons.mp z with z | z
 ·exact lt e z.symm
 ·exact hb (List.mem_singleton.mp z)
end
end PySem
namespace L2
open PySem PySem.Spec PyProof.Rows
section
variable {X:Cx}
noncomputable def tLR (K:PySem.W.Frag) (ta:TA):TE:=fun σ H Q=>ta σ H fun vs H1=>∃ p xs,vs=[.ref p]/\SqL K H1 p xs/\∀ l,H1 l=none->Q (.ref l) (upd H1 l (.lst xs.reverse))
theorem items_rev {its:List Value}{acc:Array Value} (h:ItemsOf (fun i v=>its.toArray[its.toArray.size - 1 - i]?=some v) acc its.toArray.size):acc.toList=its.reverse:=by
 have hs:acc.size=its.length:=by have:=h.1; simpa using this
 refine List.ext_getElem? fun i=>?_
 by_cases hi:i<acc.size
 ·have e:acc.toList[i]?=some acc[i]:=by rw [Array.getElem?_toList]; exact Array.getElem?_eq_getElem hi
  have q:=h.2 i acc[i] (Array.getElem?_eq_getElem hi)
  rw [e,List.getElem?_reverse (by omega)]
  simpa using q.symm
 ·rw [List.getElem?_eq_none (by rw [Array.length_toList]; omega),List.getElem?_eq_none (by rw [List.length_reverse]; omega)]
theorem pe_listrev {a:Expr}{ta:TA}{p1 p2 pos1 pos2:Pos} (hc:X.calm=true) (hgl:Gl X "list") (hml:X.mg "list"=none) (hgr:Gl X "reversed") (hmr:X.mg "reversed"=none) (ha:PA X [a] ta)
  (e1:starEach [.Call (.Name "reversed" p2) [a] [] pos2] X.env=[(false,eval (.Call (.Name "reversed" p2) [a] [] pos2) X.env)]:=by rfl) (e2:starEach [a] X.env=(false,eval a X.env)::starEach [] X.env:=by rfl) (e3:(backTo pos2 (starEach [] X.env)).any (·.1)=false:=by rfl) :
  PE X (.Call (.Name "list" p1) [.Call (.Name "reversed" p2) [a] [] pos2] [] pos1) (tLR X.K ta):=by
 intro pins s σ H Q I h
 refine wpAny_Call_Name_kw (iV I hgl hml boot_list ?_)
 refine PyProof.Rows.callWith_type1 ?_ e1 rfl
 rw [e1]
 refine Calls.spliced_cons ?_
 refine wpAny_Call_Name_kw (iV I hgr hmr PyProof.Rows.boot_reversed ?_)
 refine PyProof.Rows.callWith_type1 (thn (ha pos2 pins s σ H _ I h) fun us s1 ⟨vs,H1,I1,r1,q1⟩=>?_) e2 e3
 obtain⟨p,xs,rfl,hp,k⟩:=q1
 obtain⟨u,rfl,rx⟩:=vals1 r1
 cases rx
 obtain⟨its,rv,pl,hz⟩:=I1.list hp
 refine call_reversed_list pl.isList ?_
 refine Calls.spliced_nil ?_
 have hl1:=rv.length
 have lp:p<s1.heap.objs.size:=by obtain⟨o,e,_⟩:=pl.isList; exact Heap.lt_size e
 refine rvi_list (items:=its.toArray) (l:=p) (it:=s1.heap.objs.size) (s:={ s1 with heap:=s1.heap.push (revObj p ((its.toArray.size:Int) - 1)) }) (I1.ok.hd hc) (Nat.ne_of_lt lp) ⟨_,Heap.get?_push_size _ rfl,rfl,rfl⟩ (pl.isList.at fun o e=>Heap.get?_push_of_some _ e) (by rw [List.size_toArray]; omega) fun h' tk acc c hk hS hacc=>?_
 have kept:∀ b o,s1.heap.get? b=some o->h'.get? b=some o:=fun b o e=>hk b o (Nat.ne_of_lt (Heap.lt_size e)) (Heap.get?_push_of_some _ e)
 have ea:=items_rev hacc
 have sz:(s1.heap.push (revObj p ((its.toArray.size:Int) - 1))).objs.size=s1.heap.objs.size+1:=Heap.size_push ..
 have hle:s1.heap.objs.size<=(s1.heap.push (revObj p ((its.toArray.size:Int) - 1))).objs.size:=by omega
 refine⟨.ref (s1.heap.push (revObj p ((its.toArray.size:Int) - 1))).objs.size,_,I1.laid (t':=tk) (o:=.lst xs.reverse) kept hle ⟨by rw [List.length_reverse]; omega,its.reverse,c,rv.reverse,?_⟩,rfl,k _ (I1.hok.fresh hle)⟩
 rw [← ea,Array.toArray_toList]
 exact hS
end
end L2
namespace Dl
open PySem L2 PyProof.Rows
section
variable [Gr] {X:Cx}{a:Expr}{t:DA}
noncomputable def gRvC:GC:=fun ks P=>match ks with
 | [(k,.list ds)]=>newP k ds.reverse fun k'=>P k' (.list ds.reverse)
 | _=>False
theorem iI {p1 p2 pos1 pos2:Pos} (hc:X.calm=true) (hml:X.mg "list"=none) (hmr:X.mg "reversed"=none) (ha:PDA X [a] t) (hgl:Gl X "list":=by rfl) (hgr:Gl X "reversed":=by rfl)
  (e1:starEach [.Call (.Name "reversed" p2) [a] [] pos2] X.env=[(false,eval (.Call (.Name "reversed" p2) [a] [] pos2) X.env)]:=by rfl) (e2:starEach [a] X.env=(false,eval a X.env)::starEach [] X.env:=by rfl) (e3:(backTo pos2 (starEach [] X.env)).any (·.1)=false:=by rfl) :
  PD X (.Call (.Name "list" p1) [.Call (.Name "reversed" p2) [a] [] pos2] [] pos1) (tCl gRvC t):=PE.wk (pe_listrev hc hgl hml hgr hmr ha e1 e2 e3) (by
 rintro σ H Q ⟨p,H0,own,ρ,P,E,t,q⟩
 refine⟨p,H0,own,ρ,_,E,t,fun ks vs H1 h A r=>?_⟩
 unfold gRvC at h
 split at h
 ·rename_i k ds
  obtain⟨v,rfl,r'⟩:=gK r
  obtain⟨x,xs,rfl,o,h1,rs⟩:=r'.dZ
  refine⟨x,xs,rfl,SqL.of h1,fun l hl=>?_⟩
  obtain⟨k2,i2,nw⟩:=A.new hl (.lst xs.reverse)
  obtain⟨k',hk',rk'⟩:=newP_ok A (dO A k2 rs.rev) nw aF h
  exact q _ _ _ _ hk' (A.go k2 i2) rk'
 ·exact h.elim)
end
end Dl
namespace Wr
open PySem L2 PyProof.Rows Dl
section
variable [Gr] {X:Cx}{a:Expr}{t:DA}
theorem iI {p1 p2 pos1 pos2:Pos} (hc:X.calm=true) (hml:X.mg "list"=none) (hmr:X.mg "reversed"=none) (ha:WDA X [a] t) (hgl:Gl X "list":=by rfl) (hgr:Gl X "reversed":=by rfl)
  (e1:starEach [.Call (.Name "reversed" p2) [a] [] pos2] X.env=[(false,eval (.Call (.Name "reversed" p2) [a] [] pos2) X.env)]:=by rfl) (e2:starEach [a] X.env=(false,eval a X.env)::starEach [] X.env:=by rfl) (e3:(backTo pos2 (starEach [] X.env)).any (·.1)=false:=by rfl) :
  WD X (.Call (.Name "list" p1) [.Call (.Name "reversed" p2) [a] [] pos2] [] pos1) (tCl gRvC t):=⟨Dl.iI hc hml hmr ha.h hgl hgr e1 e2 e3⟩
end
end Wr
set_option autoImplicit true
namespace Wr
open PySem L2 PyProof.Rows Dl
variable [Gr] {X:Cx}{pos:Pos}{a b:Expr}{ta tb:DE}
end Wr
namespace Dl
open PySem L2 PyProof.Rows
structure Spo (ok:Addr->Prop) (H H':Hp):Prop where
 keep:∀ b o,H b=some o->¬ ok b->H' b=some o
 tup:∀ b xs,H b=some (.tup xs)->H' b=some (.tup xs)
 al:∀ b,H b≠none->H' b≠none
theorem Spo.trans {ok:Addr->Prop}{H H1 H2:Hp} (a:Spo ok H H1) (b:Spo ok H1 H2):Spo ok H H2:=⟨fun c o h n=>b.keep c o (a.keep c o h n) n,fun c xs h=>b.tup c xs (a.tup c xs h),fun c h=>b.al c (a.al c h)⟩
theorem Spo.write {ok:Addr->Prop}{H:Hp}{l:Addr}{vs ws:List V} (h:H l=some (.lst vs)) (hl:ok l):Spo ok H (upd H l (.lst ws)):=⟨fun b u e n=>by rw [aA (a:=l) (b:=b) (fun z=>n (by rw [z]; exact hl))]; exact e,fun b u e=>by rw [aA (fun z=>by subst z; rw [h] at e; cases e)]; exact e,fun b e=>by
 by_cases z:b=l
 ·subst z; rw [aF]; exact fun q=>nomatch q
 ·rw [aA z]; exact e⟩
noncomputable def LiI (ok:Addr->Prop) (H:Hp) (k:Nat) (a:Addr):Prop:=ok a/\∃ ns:List Int,H a=some (.lst (ns.map V.int))/\ns.length<=k
inductive Part (ok:Addr->Prop) (H:Hp) (k:Nat):V->Prop
 | int (i:Int):Part ok H k (.int i)
 | lst {a:Addr} (h:LiI ok H k a):Part ok H k (.ref a)
 | two {t a b:Addr} (h:H t=some (.tup [.ref a,.ref b])) (ha:LiI ok H k a) (hb:LiI ok H k b):Part ok H k (.ref t)
theorem LiI.le {ok:Addr->Prop}{H:Hp}{k m:Nat}{a:Addr} (h:LiI ok H k a) (hk:k<=m):LiI ok H m a:=let ⟨o,ns,e,l⟩:=h; ⟨o,ns,e,Nat.le_trans l hk⟩
theorem LiI.write {ok:Addr->Prop}{H:Hp}{k:Nat}{a c:Addr}{ns:List Int} (h:LiI ok H k c) (ha:ok a) (hn:ns.length<=k+1):LiI ok (upd H a (.lst (ns.map V.int))) (k+1) c:=by
 by_cases z:c=a
 ·subst z
  exact⟨ha,ns,aF,hn⟩
 ·obtain⟨o,ms,e,l⟩:=h
  exact⟨o,ms,by rw [aA z]; exact e,by omega⟩
theorem Part.write {ok:Addr->Prop}{H:Hp}{k:Nat}{a:Addr}{ns:List Int}{v:V} (h:Part ok H k v) (ha:LiI ok H k a) (hn:ns.length<=k+1):Part ok (upd H a (.lst (ns.map V.int))) (k+1) v:=by
 cases h with
 | int i=>exact .int i
 | lst h=>exact .lst (h.write ha.1 hn)
 | two h h1 h2 =>
  obtain⟨o,ms,e,_⟩:=ha
  exact .two ((Spo.write (ok:=ok) e o).tup _ _ h) (h1.write o hn) (h2.write o hn)
theorem Part.le {ok:Addr->Prop}{H:Hp}{k m:Nat}{v:V} (h:Part ok H k v) (hk:k<=m):Part ok H m v:=by
 cases h with
 | int i=>exact .int i
 | lst h=>exact .lst (h.le hk)
 | two h h1 h2=>exact .two h (h1.le hk) (h2.le hk)
noncomputable def PartD (d:D):Prop:=(∃ i,d=.int i)\/(∃ l:List Int,d=.list (l.map PyData.int)/\l.length<=100)\/∃ l k:List Int,d=.tuple [.list (l.map PyData.int),.list (k.map PyData.int)]/\l.length<=100/\k.length<=100
section
variable [Gr] {p:Pn}{H0 H:Hp}{own:Addr->Option Nat}{σ:L2.St}{ρ:List Sl}
theorem EnvD.many {r:Nat}{H':Hp} (E:EnvD p H0 own σ H ρ) (S:Spo (fun a=>own a=some r) H H'):EnvD p H0 own σ H' (forget r ρ):=by
 have tp:=S.tup
 refine⟨fun b o e n=>?_,p.mono H _ E.pen fun b o f e=>?_,fun a q e=>?_,fun j s e=>?_,by unfold forget; rw [List.length_map]; exact E.len,E.gr⟩
 ·exact S.keep b o (E.k0 b o e n) fun z=>by
   rw [(E.ow b r z).1] at e
   cases e
 ·exact S.keep b o e fun z=>(E.ow b r z).2.1 f
 ·obtain⟨x,y,z⟩:=E.ow a q e
  exact⟨x,y,S.al a z⟩
 ·unfold forget at e
  rw [List.getElem?_map] at e
  cases hr:ρ[j]? with
  | none=>rw [hr] at e; cases e
  | some s0 =>
   rw [hr] at e
   have e:=Option.some.inj e
   have q:=E.slot j s0 hr
   cases s0 with
   | any=>simp only [Sl.region] at e; subst e; trivial
   | im d =>
    have e:Sl.im d=s:=e
    subst e
    exact let ⟨v,a,b⟩:=q; ⟨v,a,b.mono (fun _ o=>o) (fun _ _ o=>o.elim) tp⟩
   | sh d =>
    have e:Sl.sh d=s:=e
    subst e
    exact let ⟨v,a,b⟩:=q; ⟨v,a,b.mono (fun _ o=>o) (fun c o n e=>S.keep _ _ e (by rw [n.2]; exact fun z=>nomatch z)) tp⟩
   | sn d =>
    have e:Sl.sn d=s:=e
    subst e
    exact let ⟨v,a,b⟩:=q; ⟨v,a,b.mono (fun _ o=>o) (fun c o n e=>S.keep _ _ e (by rw [n.2.2]; exact fun z=>nomatch z)) tp⟩
   | dw r' d =>
    by_cases hrr:r'=r
    ·subst hrr
     have e:(if (some r':Option Nat)=some r' then Sl.any else Sl.dw r' d)=s:=e
     rw [if_pos rfl] at e
     subst e
     trivial
    ·have e:(if (some r':Option Nat)=some r then Sl.any else Sl.dw r' d)=s:=e
     rw [if_neg (by simpa using hrr)] at e
     subst e
     exact let ⟨v,a,b⟩:=q; ⟨v,a,b.mono (fun _ o=>o) (fun c o n e=>S.keep _ _ e (by rw [n]; simpa using hrr)) tp⟩
   | pen C =>
    have e:Sl.pen C=s:=e
    subst e
    exact q
   | scr v b =>
    have e:Sl.scr v b=s:=e
    subst e
    exact q
   | sp r' b ds =>
    by_cases hrr:r'=r
    ·subst hrr
     have e:(if (some r':Option Nat)=some r' then Sl.any else Sl.sp r' b ds)=s:=e
     rw [if_pos rfl] at e
     subst e
     trivial
    ·have e:(if (some r':Option Nat)=some r then Sl.any else Sl.sp r' b ds)=s:=e
     rw [if_neg (by simpa using hrr)] at e
     subst e
     exact let ⟨l',vs,a,o,h,y⟩:=q; ⟨l',vs,a,o,S.keep _ _ h (by rw [o]; simpa using hrr),y.mono (fun _ o=>o) (fun c o n e=>S.keep _ _ e (by rw [n.2.2]; exact fun z=>nomatch z)) tp⟩
   | rw r' L =>
    by_cases hrr:r'=r
    ·subst hrr
     have e:(if (some r':Option Nat)=some r' then Sl.any else Sl.rw r' L)=s:=e
     rw [if_pos rfl] at e
     subst e
     trivial
    ·have e:(if (some r':Option Nat)=some r then Sl.any else Sl.rw r' L)=s:=e
     rw [if_neg (by simpa using hrr)] at e
     subst e
     exact let ⟨st,as,a,b⟩:=q; ⟨st,as,a,b.mono (fun c o n e=>⟨n,S.keep _ _ e (by rw [n]; simpa using hrr)⟩) tp⟩
   | tw r' L =>
    by_cases hrr:r'=r
    ·subst hrr
     have e:(if (some r':Option Nat)=some r' then Sl.any else Sl.tw r' L)=s:=e
     rw [if_pos rfl] at e
     subst e
     trivial
    ·have e:(if (some r':Option Nat)=some r then Sl.any else Sl.tw r' L)=s:=e
     rw [if_neg (by simpa using hrr)] at e
     subst e
     exact let ⟨st,as,a,b⟩:=q; ⟨st,as,a,b.mono (fun c o n e=>⟨n,S.keep _ _ e (by rw [n]; simpa using hrr)⟩) tp⟩
theorem spo_frs {r:Nat}{H':Hp} (S:Spo (fun a=>own a=some r) H H'):FrS p own H own H':=⟨fun b o h n e=>⟨S.keep b o h (fun z=>by rw [z] at e; cases e),e⟩,S.tup⟩
theorem lE {ok:Addr->Prop}{H:Hp}{v:V}{l:List Int}{k:Nat} (r:Rp ok H v (.list (l.map PyData.int))) (hk:l.length<=k):∃ a,v=.ref a/\LiI ok H k a:=by
 obtain⟨a,ws,rfl,oa,ha,rw'⟩:=Rp.dZ r
 have ew:=Rps.ints rw'
 subst ew
 exact⟨a,rfl,oa,l,ha,hk⟩
theorem rp_lii {ok:Addr->Prop}{H:Hp}{a:Addr}{k:Nat} (h:LiI ok H k a):∃ l:List Int,Rp ok H (.ref a) (.list (l.map PyData.int)):=by
 obtain⟨o,ns,e,_⟩:=h
 exact⟨ns,.lst o e (Rps.ofMap (fun i=>.int i) ns)⟩
theorem part_rp {ok:Addr->Prop}{H:Hp}{v:V}{d:D} (r:Rp ok H v d) (h:PartD d):Part ok H 100 v:=by
 rcases h with ⟨i,rfl⟩ | ⟨l,rfl,hl⟩ | ⟨l,k,rfl,hl,hk⟩
 ·rw [r.int']
  exact .int i
 ·obtain⟨a,rfl,h⟩:=lE r hl
  exact .lst h
 ·obtain⟨t,vs,rfl,ht,rs⟩:=Rp.eY r
  cases rs with
  | cons r1 rs =>
   cases rs with
   | cons r2 rs =>
    cases rs
    obtain⟨a,rfl,h1⟩:=lE r1 hl
    obtain⟨b,rfl,h2⟩:=lE r2 hk
    exact .two ht h1 h2
theorem rp_part {ok:Addr->Prop}{H:Hp}{v:V}{k:Nat} (h:Part ok H k v):∃ d,Rp ok H v d:=by
 cases h with
 | int i=>exact⟨_,.int i⟩
 | lst h=>exact let ⟨l,r⟩:=rp_lii h; ⟨_,r⟩
 | two ht h1 h2 =>
  obtain⟨l,r1⟩:=rp_lii h1
  obtain⟨k,r2⟩:=rp_lii h2
  exact⟨_,.tup ht (.cons r1 (.cons r2 .nil))⟩
theorem rps_parts {ok:Addr->Prop}{H:Hp}{k:Nat}:∀ {ws:List V},(∀ w∈ws,Part ok H k w)->∃ ds,Rps ok H ws ds
 | [],_=>⟨[],.nil⟩
 | w::ws,h=>by
  obtain⟨d,r⟩:=rp_part (h w List.mem_cons_self)
  obtain⟨ds,rs⟩:=rps_parts (ws:=ws) fun u hu=>h u (List.mem_cons_of_mem _ hu)
  exact⟨d::ds,.cons r rs⟩
theorem parts_rps {ok:Addr->Prop}{H:Hp}{ws:List V}{ds:List D} (r:Rps ok H ws ds):(∀ d∈ds,PartD d)->∀ w∈ws,Part ok H 100 w:=by
 intro h w hw
 obtain⟨j,hj⟩:=List.getElem?_of_mem hw
 obtain⟨d,hd,rd⟩:=r.get hj
 exact part_rp rd (h d (List.mem_of_getElem? hd))
end
end Dl
namespace Wr
open PySem L2 PyProof.Rows Dl
variable [Gr] {X:Cx}{pos p1 p2 p3:Pos}
end Wr
namespace L2
open PySem PySem.Spec PyProof.Rows
section
variable {prog:Program}{w:World}{A:Around}{E:Value->Shared->Prop}{s:Shared}
theorem miss_keys:typeLookup (.type "list") "keys"=pure none:=am_miss_of_fast (by kernel_rfl)
theorem attr_no_keys {a:Addr}{xs:Array Value}{Q:Option Value->Shared->Prop} (hx:PlainL s.heap a xs) (hA:A.handled=none)
  (h:∀ h' tk,(∀ b o,s.heap.get? b=some o->h'.get? b=some o)->Q none { s with heap:=h',toks:=tk }) :
  wpAny (model prog w) A (getAttr? (.ref a) "keys") Q E s:=by
 obtain⟨o,k,hx,hc,hd,hdat⟩:=hx
 obtain⟨c,dct,dat,sl⟩:=o
 simp only at hc hdat hd
 subst hc hdat hd
 obtain⟨hp,g,d,tk,os⟩:=s
 have hT:∀ tk',(⟨hp,g,d,tk',os⟩:Shared).TypeIs (.ref a) "list":=fun _=>⟨_,hx,rfl⟩
 have f1:=sub_AttributeError
 have f3:=F.slot_list_getattribute.lookup
 have f4:=F.slot_list_getattribute.bind (.ref a)
 have f5:=am_list_getattr_none
 unfold getAttr? getAttrBy? getAttrBy
 repeat (any_goals (first | assumption | exact hT _ | ((with_reducible show wpAny _ _ (call (Value.builtin "list.__getattribute__") _ _) _ _ _); refine call_meets F.slot_list_getattribute (hT _) am_entry_list_getattribute (F.args_list_getattribute_2 _ _) (meets_getattribute_miss_list a xs k sl "keys" _ miss_keys (by decide) (by decide)) ⟨hx,hA,fun h' tk' e hx'=>?_⟩) | wp_step))
 obtain⟨t',u',he⟩:=hx'.there
 show wpAny _ _ (getattributeRaised _ _ _ _ _ _ _) _ _ _
 unfold getattributeRaised
 repeat (any_goals (first | assumption | wp_step))
 exact h _ _ hx'.keeps
theorem entry_dul:entryFor table "dict.update.loop"=some Builtin.«dict.update.loop»:=entryFor_of_tree (by kernel_rfl)
theorem jY:plainId "dict.update.loop"=true:=by decide +kernel
theorem pair_items {t:Addr}{its:Array Value}{Q:List Value->Shared->Prop} (ht:IsTup s.heap t its) (h:Q its.toList s):wpAny (model prog w) A (Builtin.Dict.pairItems (.ref t)) Q E s:=by
 obtain⟨o,ho,hc,n,hd⟩:=ht
 obtain⟨c,dct,dat,sl⟩:=o
 simp only at hc hd
 subst hc hd
 obtain⟨hp,g,d,tk,os⟩:=s
 have hT:(⟨hp,g,d,tk,os⟩:Shared).TypeIs (.ref t) "tuple":=⟨_,ho,rfl⟩
 unfold Builtin.Dict.pairItems
 repeat (any_goals (first | assumption | wp_step))
noncomputable def PairsAt (P:Program) (w:World) (h:Heap) (items:Array Value) (kvs:List (Key×Value)) (d it:Addr):Prop :=
 ∀ (i:Nat) (kv:Key×Value),kvs[i]?=some kv->∃ t key,items[i]?=some (.ref t)/\t≠d/\t≠it/\gj kv.1 key=true/\IsTup h t #[key,kv.2]
theorem dict_loop {d it l:Addr}{items:Array Value}{kvs:List (Key×Value)} (hdi:d≠it) (hdl:d≠l) (hli:l≠it) (hA:A.in1.handled=none) (hn:items.size=kvs.length) {R:Result->Shared->Prop}:∀ (k i:Nat) (s:Shared) (acc:List (Key×Value)),kvs.length - i=k->i<=kvs.length->s.heap.IsListIter it l i->s.heap.IsList l items->s.heap.DictOf (aY prog w) d acc->PairsAt prog w s.heap items kvs d it->acc.length+(kvs.length - i)<=sizeLine ->
  (∀ h' tk,h'.DictOf (aY prog w) d (merged acc (kvs.drop i))->(∀ b o,b≠d->b≠it->s.heap.get? b=some o->h'.get? b=some o)->R (.ok (.ret .none)) { s with heap:=h',toks:=tk }) ->
  codeAny (model prog w) A (.builtin "dict.update.loop" ⟨[.ref d,.ref it,rawInt i,.none],[]⟩) R s:=by
 have W:=Walks.list (prog:=prog) (w:=w) (A:=A.in1) hA it l hli items
 rw [hn] at W
 intro k
 induction k with
 | zero =>
  intro i s acc hk hi hit hl hm hp hz hR
  have e:i=kvs.length:=by omega
  subst e
  refine codeAny_builtin entry_dul ?_
  rw [Around.under_plainId jY _]
  show wpAny _ A.in1 (pyNext (.ref it) >>= _) _ _ s
  refine wpAny_bind (W.done s _ _ ⟨hit,hl⟩ fun h' tk hk'=>?_)
  show wpAny _ _ (Builtin.Dict.addKeywords d [] >>= _) _ _ _
  refine wpAny_bind (wpAny_pure (wpAny_pure ?_))
  have:=hR h' tk
  rw [List.drop_of_length_le (Nat.le_refl _)] at this
  exact this (hm.at fun o e=>hk' _ o (by simpa using hdi) e) fun b o _ hb e=>hk' b o (by simpa using hb) e
 | succ k ih =>
  intro i s acc hk hi hit hl hm hp hz hR
  have hlt:i<kvs.length:=by omega
  have hkv:=List.getElem?_eq_getElem hlt
  have hd:kvs.drop i=kvs[i]::kvs.drop (i+1):=List.drop_eq_getElem_cons hlt
  generalize kvs[i]=kv at hkv hd
  refine codeAny_builtin entry_dul ?_
  rw [Around.under_plainId jY _]
  show wpAny _ A.in1 (pyNext (.ref it) >>= _) _ _ s
  refine wpAny_bind (W.item i s _ _ hlt ⟨hit,hl⟩ fun v h' tk hP hst' hk'=>?_)
  obtain⟨t,key,ht,htd,hti,hkey,htup⟩:=hp i kv hkv
  have ev:v=.ref t:=by rw [ht] at hP; exact (Option.some.inj hP).symm
  subst ev
  have eY:IsTup h' t #[key,kv.2]:=by
   obtain⟨o,e,r⟩:=htup
   exact⟨o,hk' t o (by simpa using hti) e,r⟩
  refine wpAny_bind (wpAny_holding ?_)
  refine wpAny_bind (wpAny_tryCatch (pair_items (its:=#[key,kv.2]) (eY) ?_))
  have hm':h'.DictOf (aY prog w) d acc:=hm.at fun o e=>hk' _ o (by simpa using hdi) e
  refine wpAny_holding (wpAny_dictSet_pairs (knd:=aY prog w) (k:=kv.1) (hsz:=by omega) hkey hm' fun h2 hm2 hs2=>?_)
  have hc:((i:Int)+1)=((i+1:Nat):Int):=by push_cast; rfl
  refine wpAny_pure ⟨plainId_quiet jY _,?_⟩
  rw [hc]
  have keep2:∀ b o,b≠d->b≠it->s.heap.get? b=some o->h2.get? b=some o:=fun b o hb hb' e=>(hs2.2 b hb).trans (hk' b o (by simpa using hb') e)
  refine ih (i+1) _ (stored acc kv.1 kv.2) (by omega) (by omega) ?_ ?_ hm2 ?_ ?_ fun h3 tk3 hm3 hk3=>?_
  ·obtain⟨o,ho,r⟩:=hst'.1
   exact⟨o,(hs2.2 it (Ne.symm hdi)).trans ho,r⟩
  ·obtain⟨o,ho,r⟩:=hst'.2
   exact⟨o,(hs2.2 l (Ne.symm hdl)).trans ho,r⟩
  ·intro j kv' hj
   obtain⟨t,key,e1,e2,e3,e4,o,e5,r⟩:=hp j kv' hj
   exact⟨t,key,e1,e2,e3,e4,o,keep2 t o e2 e3 e5,r⟩
  ·have:=stored_length_le acc kv.1 kv.2
   omega
  ·have:=hR h3 tk3
   rw [hd] at this
   exact this hm3 fun b o hb hb' e=>hk3 b o hb hb' (keep2 b o hb hb' e)
theorem call_dict_pairs {l:Addr}{items:Array Value}{kvs:List (Key×Value)}{Q:Value->Shared->Prop} (hA:A.handled=none) (hl:PlainL s.heap l items) (hn:items.size=kvs.length) (hz:kvs.length<=sizeLine)
  (hp:∀ (i:Nat) (kv:Key×Value),kvs[i]?=some kv->∃ t key,items[i]?=some (.ref t)/\gj kv.1 key=true/\IsTup s.heap t #[key,kv.2]) (nd:(kvs.map (·.1)).Nodup)
  (h:∀ h' tk,h'.DictOf (aY prog w) s.heap.objs.size kvs->(∀ b o,s.heap.get? b=some o->h'.get? b=some o)->Q (.ref s.heap.objs.size) { s with heap:=h',toks:=tk }) :
  wpAny (model prog w) A (call (.type "dict") [.ref l]) Q E s:=by
 refine callType_codes (Q₁:=fun obj s₁=>obj=.ref s.heap.objs.size/\s₁={ s with heap:=s.heap.push { cls:=.type "dict",data:=.dict #[] } }) F.kt_called_dict (F.kt_typeCall_dict_1 _) F.entry_dict_init (kt_code_dict_new _ ⟨rfl,rfl⟩) ?_
 rintro obj s₁ ⟨rfl,rfl⟩
 have hnew:(s.heap.push { cls:=.type "dict",data:=.dict #[] }).DictOf (aY prog w) s.heap.objs.size []:=Heap.DictOf.new s.heap
 have hl':PlainL (s.heap.push { cls:=.type "dict",data:=.dict #[] }) l items:=hl.keeps fun b o e=>Heap.get?_push_of_some _ e
 refine⟨hnew.typeIs,F.args_dict_init_2 _ _,?_⟩
 unfold Builtin.«dict.__init__»
 refine wpAny_bind ?_
 unfold Builtin.Dict.selfAndRest
 refine wpAny_bind (wpAny_notOrdered_dict hnew.typeIs ?_)
 show wpAny _ _ (pure (s.heap.objs.size,[Value.ref l])) _ _ _
 refine wpAny_pure ?_
 show wpAny _ _ (Builtin.Dict.updateFrom "dict.__init__" s.heap.objs.size (.ref l) [] .none) _ _ _
 unfold Builtin.Dict.updateFrom
 refine wpAny_bind (wpAny_typeOf hl'.isList.typeIs ?_)
 rw [if_pos (by decide)]
 refine wpAny_bind (attr_no_keys hl' hA fun h1 tk1 k1=>?_)
 have hl1:PlainL h1 l items:=hl'.keeps k1
 have hd1:h1.DictOf (aY prog w) s.heap.objs.size []:=hnew.at fun o e=>k1 _ o e
 rw [if_pos (show (none:Option Value).isNone=true from rfl)]
 refine wpAny_bind (wpAny_rule ?_)
 refine wpAny_bind (wpAny_pyIter_list hl1.isList ?_)
 have i0:s.heap.objs.size≠h1.objs.size:=by
  obtain⟨o,_,_,ho,_⟩:=hd1
  exact Nat.ne_of_lt (Heap.lt_size ho)
 refine wpAny_pure ⟨plainId_quiet jY _,?_⟩
 refine dict_loop (A:=A.in1) (prog:=prog) (w:=w) (d:=s.heap.objs.size) (it:=h1.objs.size) (l:=l) (kvs:=kvs) i0 (Nat.ne_of_gt hl.lt) (Nat.ne_of_lt hl1.lt) hA hn kvs.length 0 _ [] rfl (Nat.zero_le _) ?_ ?_ ?_ ?_ ?_ ?_
 ·exact⟨_,Heap.get?_push_size _ rfl,rfl,rfl⟩
 ·exact hl1.isList.push _
 ·exact hd1.push _
 ·intro i kv hi
  obtain⟨t,key,e1,e2,o,e3,r⟩:=hp i kv hi
  have e4:=Heap.get?_push_of_some { cls:=.type "dict",data:=.dict #[] } e3
  exact⟨t,key,e1,Nat.ne_of_lt (Heap.lt_size e3),Nat.ne_of_lt (Heap.lt_size (k1 _ _ e4)),e2,o,Heap.get?_push_of_some _ (k1 _ _ e4),r⟩
 ·simpa using hz
 ·intro h3 tk3 hm hk
  rw [List.drop_zero,merged_nil_of_nodup kvs nd] at hm
  refine⟨rfl,h h3 tk3 hm fun b o e=>?_⟩
  have e4:=Heap.get?_push_of_some { cls:=.type "dict",data:=.dict #[] } e
  exact hk b o (Nat.ne_of_lt (Heap.lt_size e)) (Nat.ne_of_lt (Heap.lt_size (k1 _ _ e4))) (Heap.get?_push_of_some _ (k1 _ _ e4))
end
section
variable {X:Cx}
theorem vals_ref:∀ {ts:List Addr}{us:List Value},Vals (ts.map V.ref) us->us=ts.map Value.ref
 | [],_,.nil=>rfl
 | t::ts,_,.cons r k=>by
  cases r
  rw [vals_ref k]
  rfl
end
end L2
namespace Dl
open PySem L2 PyProof.Rows
section
variable {X:Cx}{pos:Pos}{a e:Expr}{t:DA} [Gr]
theorem boot_dictB:bootBuiltins "dict"=some (.type "dict"):=by decide +kernel
end
section
variable [Gr] {X:Cx}{st:Stmt}
theorem sz_kv:∀ {m:IM}{d:D},d∈m.map (·.2)->sizeOf d<sizeOf (PyData.dict (kvD m))
 | p::m,d,h=>by
  unfold kvD
  rw [List.map_cons]
  simp only [PyData.dict.sizeOf_spec,List.cons.sizeOf_spec,Prod.mk.sizeOf_spec]
  rw [List.map_cons] at h
  rcases List.mem_cons.mp h with rfl | h
  ·omega
  ·have:=sz_kv (m:=m) h
   unfold kvD at this
   simp only [PyData.dict.sizeOf_spec] at this
   omega
noncomputable def dPutN (i:Nat) (tk tv:DE):DS:=fun P ρ=>match ρ[i]? with
 | some (.dw r (.dict ds))=>tv ρ fun kv dv=>tk ρ fun _ dk=>match dk with
  | .int k=>∃ m:IM,ds=kvD m/\(norm kv dv).le .new=true/\m.length<1000/\P.nx ((forget r ρ).set i (.dw r (.dict (kvD (fu m k dv)))))
  | _=>False
 | _=>False
theorem ds_dputN {i:Nat}{tk tv:DE} (h:PS X st (sDPut (lg i) (bM tk) (bM tv))):PDS X st (dPutN i tk tv):=PS.wk' h (by
 rintro Q σ H ⟨p,H0,own,ρ,P,E,t,w⟩
 unfold dPutN at t
 split at t
 ·rename_i r ds hr
  obtain⟨v,hv,x⟩:=E.slot i _ hr
  refine⟨p,H0,own,ρ,_,E,t,fun kv dv vv H1 t1 A1 r1=>?_⟩
  have E1:=E.go A1.kp A1.pen
  refine⟨v,hv,p,H0,own,ρ,_,E1,t1,fun kk dk vk H2 t2 A2 r2=>?_⟩
  cases dk with
  | int k =>
   obtain⟨m,rfl,hk,hlen,nx⟩:=t2
   obtain⟨l,kvs,rfl,o,hl,rk⟩:=Rp.dct' x
   obtain⟨vs,rfl,rs⟩:=rk.kv
   have ek:=Rp.int' r2
   subst ek
   have h24:=sizeLine_eq
   have A:=A1.base A2
   have ry:Rp (okK p H0 own H .new) H2 vv dv:=rp_go A1 A2.kp (kY A1 hk (bU r1))
   have ln:((m.map (·.1)).zipWith (fun i v=>((Sum.inl i:Key),v)) vs).length=m.length:=by
    rw [List.length_zipWith,List.length_map,rs.length,List.length_map,Nat.min_self]
   have h2:H2 l=some (.dK ((m.map (·.1)).zipWith (fun i v=>((Sum.inl i:Key),v)) vs)):=A.kp l _ hl (E.ow l r o).2.1
   refine⟨l,_,rfl,DPut.k (k:=Sum.inl k) h2 (by rw [ln]; omega),?_⟩
   have hl':cQ r H H2 own l=some r:=by rw [bQ hl]; exact o
   generalize hkvs:putK ((m.map (·.1)).zipWith (fun i v=>((Sum.inl i:Key),v)) vs) (Sum.inl k) vv=kvs'
   have E3:=(E.adopt r A).write (o':=.dK kvs') hl' h2 (fun xs z=>nomatch z)
   have tp:∀ a xs,H2 a=some (.tup xs)->upd H2 l (.dK kvs') a=some (.tup xs):=fun a xs e=>by
    rw [aA (fun z=>by rw [z,h2] at e; cases e)]; exact e
   have a1:Rps (fun a=>cQ r H H2 own a=some r) (upd H2 l (.dK kvs')) vs (m.map (·.2)):=lW (T:=PyData.dict (kvD m)) (fun {w d} y sz=>by
    have x1:=Rp.avoid x y sz
    exact x1.cR (fun a o n e=>⟨by rw [bQ e]; exact n.1,by rw [aA n.2]; exact A.kp a o e (E.ow a r n.1).2.1⟩) fun a xs e=>tp a xs (iW E.at A.kp a xs e)) rs fun d hd=>sz_kv hd
   have a2:Rp (fun a=>cQ r H H2 own a=some r) (upd H2 l (.dK kvs')) vv dv:=ry.cR (fun a o n e=>⟨iw n e,by rw [aA (fun z=>by subst z; rw [hl] at n; cases n)]; exact e⟩) tp
   have rp:=kvs_put (k:=k) a1 a2
   rw [hkvs] at rp
   have E4:=E3.put (v:=.ref l) (i:=i) (s:=.dw r (.dict (kvD (fu m k dv)))) ⟨_,hv,.dct hl' aF rp⟩
   exact w.nx _ σ _ _ E4 ((kh A).trans (gC hl' h2 fun xs z=>nomatch z)) nx
  | _=>exact t2.elim
 ·exact t.elim)
end
end Dl
namespace L2
open PySem PySem.Spec PyProof.Rows
section
variable {X:Cx}{pins:List (Addr×Obj)}{σ:St}{H:Hp}{s:Shared}
theorem Inv.fast {a:Addr}{kvs:List (Key×V)}{o:Obj} (I:Inv X pins σ H s) (hu:H a=some (.dK kvs)) (ho:s.heap.get? a=some o):Inv X pins σ (upd H a (.frz o (.dK kvs))) s:=by
 have ne:∀ {b:Addr},H b=none->b≠a:=fun {b} h z=>by rw [z,hu] at h; cases h
 refine⟨I.ok,I.os,I.bare,⟨I.base.keep,I.base.slot,fun b ob e n hx=>?_,I.base.there,fun b xs e=>?_,fun b ob u e=>?_,fun b ps e=>?_⟩,I.loc,I.cell,?_,fun x c e=>?_,fun p q=>?_,fun b u e=>?_,I.len⟩
 ·have h1:=I.base.free b ob e n hx
  rw [aA (ne h1)]
  exact h1
 ·have q:=I.base.tups b xs e
  rw [aA (fun z=>by rw [z,hu] at q; cases q)]
  exact q
 ·have q:=I.base.frzs b ob u e
  rw [aA (fun z=>by rw [z,hu] at q; cases q)]
  exact q
 ·obtain⟨m,q⟩:=I.base.tbls b ps e
  exact⟨m,by rw [aA (fun z=>by rw [z,hu] at q; cases q)]; exact q⟩
 ·rw [aA (ne I.free)]
  exact I.free
 ·rw [aA (ne (I.freeC x c e))]
  exact I.freeC x c e
 ·obtain⟨q1,q2,q3⟩:=I.pin p q
  exact⟨q1,by rw [aA (ne q2)]; exact q2,q3⟩
 ·have st:∀ {c:Addr}{v:HO},H c=some v->bZ X.prog X.w (upd H a (.frz o (.dK kvs))) s.heap c v:=fun {c v} hc=>(I.hok c v hc).stay (fun _ _ _ q=>q) (fun d q=>by rw [aA (fun z=>by rw [z,hu] at q; cases q)]; exact q) fun d xs q=>by rw [aA (fun z=>by rw [z,hu] at q; cases q)]; exact q
  by_cases z:b=a
  ·subst z
   rw [aF] at e
   cases e
   exact⟨ho,st hu⟩
  ·rw [aA z] at e
   exact st e
noncomputable def tFast (i:Nat) (t:TS):TS:=fun D σ H=>∃ a kvs,σ[i]?=some (some (.ref a))/\H a=some (.dK kvs)/\∀ o,t D σ (upd H a (.frz o (.dK kvs)))
theorem ps_fast {st:Stmt}{t:TS} (i:Nat) (h:PS X st t):PS X st (tFast i t):=by
 intro pins s σ H D I q
 obtain⟨a,kvs,hv,ha,q⟩:=q
 obtain⟨_,_,vs,_,o,es,ep,e,_⟩:=I.hok a _ ha
 exact h pins s σ _ D (I.fast ha e) (q o)
noncomputable def Itf (d:Addr) (o:Obj) (kvs:List (Key×V)):It:=⟨fun i H=>H d=some (.frz o (.dK kvs))/\i<kvs.length,fun i H x H'=>H'=H/\∃ k v,kvs[i]?=some (k,v)/\x=kV k,fun i H=>H d=some (.frz o (.dK kvs))/\kvs.length<=i⟩
theorem rel_key {k:Key}{v:Value} (h:gj k v=true):RelV (kV k) v:=by
 rcases bH h with ⟨i,t,rfl,rfl⟩ | ⟨x,t,rfl,rfl⟩
 ·exact⟨t,rfl⟩
 ·exact⟨t,rfl⟩
theorem turn_fast {P:Program}{w:World}{K:PySem.W.Frag}{tg:Expr} (d it:Addr) (o:Obj) (kvs:List (Key×V)) {vs:List (Key×Value)}{ep:Nat} (kv:KV kvs vs) (da:∀ h:Heap,h.get? d=some o->h.DictAt (aY P w) d vs ep):Turn P w K tg (Itf d o kvs) [it] it (fun i h=>h.IsKeyIter it d i vs.length ep) where
 mem:=by simp
 obj:=fun i h st b hb=>by
  have e:b=it:=by simpa using hb
  subst e
  obtain⟨o,e,c,d⟩:=st
  exact⟨o,e,fun v z=>by rw [d] at z; cases z⟩
 keep:=fun i h h' st k=>st.at fun o e=>k it (by simp) o e
 item:=by
  intro X hP hw hK hc i pins s σ H E I hf st hg
  subst hP hw hK
  obtain⟨hd,hi⟩:=hg
  have hm:=da s.heap (I.hok d _ hd).1
  have hl:=kv.length
  obtain⟨f0,f1,f2,f3,f4,f5⟩:=hf it (by simp)
  obtain⟨⟨k,x⟩,hx⟩:∃ p,vs[i]?=some p:=⟨vs[i]'(by omega),List.getElem?_eq_getElem _⟩
  obtain⟨⟨k',v'⟩,hx'⟩:∃ p,kvs[i]?=some p:=⟨kvs[i],List.getElem?_eq_getElem hi⟩
  have ek:k'=k:=by
   have e1:(kvs.map (·.1))[i]?=some k':=by rw [List.getElem?_map,hx']; rfl
   rw [KV.keys kv,List.getElem?_map,hx] at e1
   exact (Option.some.inj e1).symm
  subst ek
  refine wpAny_pyNext_dict_item st hm hx fun key h' hkey hit' hs'=>?_
  have I1:Inv X pins σ H { s with heap:=h' }:=I.turned (t':=s.toks) (fun b o hb e=>(hs'.2 b hb).trans e) f0 f1 f3 f4 f5
  exact⟨key,rfl,letGo_keyiter (s':={ s with heap:=h' }) hit' ⟨kV k',H,I1,rel_key hkey,⟨rfl,k',v',hx',rfl⟩,hit',fun b hb=>(hf b hb).1⟩⟩
 done:=by
  intro X hP hw hK hc i pins s σ H E I hf st hg
  subst hP hw hK
  obtain⟨hd,hi⟩:=hg
  have hm:=da s.heap (I.hok d _ hd).1
  have hl:=kv.length
  obtain⟨f0,f1,f2,f3,f4,f5⟩:=hf it (by simp)
  exact wpAny_pyNext_dict_end (I.ok.hd hc) st hm (List.getElem?_eq_none (by omega)) fun h' eb=>⟨rfl,I.turned (t':=s.toks) (fun b o hb e=>eb b o hb e) f0 f1 f3 f4 f5⟩
 self:=fun _ _ _ _ _ st h=>wpAny_pyIter_keyiter st h
noncomputable def iFast (tl:TE):TI:=fun σ H R=>tl σ H fun x H1=>∃ d o kvs,x=.ref d/\H1 d=some (.frz o (.dK kvs))/\R (Itf d o kvs) H1
theorem pi_fast {tg l:Expr}{tl:TE} (hl:PE X l tl):PI X tg l (iFast tl):=by
 intro pins s σ H R I h
 refine thn (hl pins s σ H _ I h) fun v s1 ⟨x,H1,I1,r1,q1⟩=>?_
 obtain⟨d,o,kvs,e,hd,q⟩:=q1
 subst e
 cases r1
 obtain⟨ho,_,hz,vs,kv,o',es,ep,ho',r⟩:=I1.hok d _ hd
 rw [ho] at ho'
 cases ho'
 have da:∀ h:Heap,h.get? d=some o->h.DictAt (aY X.prog X.w) d vs ep:=fun h e=>⟨o,es,e,r⟩
 refine wpAny_pyIter_dict hz (da _ ho) ?_
 refine⟨s1.heap.objs.size,[s1.heap.objs.size],_,_,H1,rfl,I1.kept (t':=s1.toks) fun b o e=>Heap.get?_push_of_some _ e,turn_fast d _ o kvs kv da,⟨_,Heap.get?_push_size _ rfl,rfl,rfl⟩,fun b hb=>?_,q⟩
 have e:b=s1.heap.objs.size:=by simpa using hb
 subst e
 exact I1.fpOk (Nat.le_refl _) (I1.hok.fresh (Nat.le_refl _))
theorem call_dictV (hc:X.calm=true):cU X (.type "dict") (fun xs H Q=>∃ (p:Addr) (kvs:List (Int×V)) (ts:List Addr),xs=[.ref p]/\SqL X.K H p (ts.map V.ref)/\Paired (fun t (q:Int×V)=>SqT X.K H t [.int q.1,q.2]) ts kvs/\(kvs.map (·.1)).Nodup /\
  ∀ l,H l=none->Q (.ref l) (upd H l (.dK (kvs.map fun q=>((Sum.inl q.1:Key),q.2))))):=by
 intro pins s σ H xs us Q I r h
 obtain⟨p,m,ts,rfl,hq,hp,nd,q⟩:=h
 obtain⟨u,rfl,rx⟩:=vals1 r
 cases rx
 obtain⟨its,r',pl,hz⟩:=I.list hq
 have e:=vals_ref r'
 subst e
 have hl:ts.length=m.length:=Paired.length hp
 rw [List.length_map] at hz
 have ex:∃ kvs:List (Key×Value),KV (m.map fun q=>((Sum.inl q.1:Key),q.2)) kvs/\kvs.length=m.length/\kvs.map (·.1)=m.map (fun p=>(Sum.inl p.1:Key))/\∀ (i:Nat) (kv:Key×Value),kvs[i]?=some kv->∃ t key,(ts.map Value.ref)[i]?=some (.ref t)/\gj kv.1 key=true/\IsTup s.heap t #[key,kv.2]:=by
  clear hq r' pl hz nd q hl r
  induction hp with
  | nil=>exact⟨[],.nil,rfl,rfl,fun i kv h=>by simp at h⟩
  | cons h _ ih =>
   obtain⟨kvs,k1,k2,k3,k4⟩:=ih
   obtain⟨us,rv,it,_⟩:=I.tuple h
   cases rv with
   | cons a b =>
    cases b with
    | cons b c =>
     cases c
     obtain⟨t1,rfl⟩:=a
     refine⟨(_,_)::kvs,.cons ⟨rfl,b⟩ k1,by rw [List.length_cons,List.length_cons,k2],?_,fun i kv hi=>?_⟩
     ·rw [List.map_cons,List.map_cons,k3]
     ·cases i with
      | zero =>
       have hi:=Option.some.inj hi
       subst hi
       exact⟨_,_,rfl,by show gj (Sum.inl _) (.int _ t1)=true; unfold gj; simp [Value.isInt],it⟩
      | succ i=>exact k4 i kv (by simpa using hi)
 obtain⟨kvs,k1,k2,k3,k4⟩:=ex
 refine call_dict_pairs (kvs:=kvs) (I.ok.hd hc) pl (by rw [List.size_toArray,List.length_map,k2,hl]) (by omega) ?_ ?_ fun h' tk hd hk=>?_
 ·intro i kv hi
  obtain⟨t,key,e1,e2,e3⟩:=k4 i kv hi
  exact⟨t,key,by simpa using e1,e2,e3⟩
 ·rw [k3]
  have:m.map (fun p=>(Sum.inl p.1:Key))=(m.map (·.1)).map Sum.inl:=by rw [List.map_map]; rfl
  rw [this]
  exact List.Pairwise.map _ (fun a b h z=>h (Sum.inl.inj z)) nd
 ·have big:=I.big
  refine⟨.ref s.heap.objs.size,_,I.laid (t':=tk) hk (Nat.le_refl _) (dk_new (by rw [List.length_map]; omega) (beq_eq_false_iff_ne.mpr (Nat.ne_of_gt big)) k1 hd),rfl,q _ (I.hok.fresh (Nat.le_refl _))⟩
end
end L2
namespace Dl
open PySem L2 PyProof.Rows
theorem val_at {ks:List Int}:∀ {vs:List V}{i:Nat}{k:Int}{v:V},ks.Nodup->ks[i]?=some k->vs[i]?=some v->gD (ks.zipWith (fun i v=>((Sum.inl i:Key),v)) vs) (Sum.inl k)=some v:=by
 induction ks with
 | nil=>exact fun _ h=>nomatch h
 | cons a ks ih =>
  intro vs i k v nd h1 h2
  cases vs with
  | nil=>cases h2
  | cons u vs =>
   cases i with
   | zero =>
    cases h1
    cases h2
    unfold gD
    rw [List.zipWith_cons_cons,List.find?_cons_of_pos (by exact decide_eq_true rfl)]
    rfl
   | succ i =>
    have nd':=List.nodup_cons.mp nd
    have h1:ks[i]?=some k:=h1
    have ne:a≠k:=fun z=>nd'.1 (z ▸ List.mem_of_getElem? h1)
    have ih:=ih nd'.2 h1 (show vs[i]?=some v from h2)
    unfold gD at ih ⊢
    rw [List.zipWith_cons_cons,List.find?_cons_of_neg (by rw [decide_eq_false (fun z=>ne (Sum.inl.inj z))]; exact Bool.false_ne_true)]
    exact ih
noncomputable def kept (m:IM) (vs:List V) (p:Int->Bool) (n:Nat):List (Int×V):=(((m.map (·.1)).zip vs).take n).filter fun q=>p q.1
theorem kept_next {m:IM}{vs:List V}{p:Int->Bool}{n:Nat}{k:Int}{v:V} (h1:(m.map (·.1))[n]?=some k) (h2:vs[n]?=some v):kept m vs p (n+1)=kept m vs p n++if p k=true then [(k,v)] else []:=by
 unfold kept
 have hz:((m.map (·.1)).zip vs)[n]?=some (k,v):=by rw [List.getElem?_zip_eq_some]; exact⟨h1,h2⟩
 rw [List.take_add_one,hz,List.filter_append]
 congr 1
 cases e:p k with
 | true =>
  rw [if_pos rfl]
  show List.filter (fun q=>p q.1) [(k,v)]=_
  rw [List.filter_cons_of_pos (by exact e)]
  rfl
 | false =>
  rw [if_neg Bool.false_ne_true]
  show List.filter (fun q=>p q.1) [(k,v)]=_
  rw [List.filter_cons_of_neg (by rw [show p (k,v).1=false from e]; exact Bool.false_ne_true)]
  rfl
theorem paired_snoc {α β:Type}{F:α->β->Prop}{l₁:List α}{l₂:List β}{a:α}{b:β} (h:Paired F l₁ l₂) (r:F a b):Paired F (l₁++[a]) (l₂++[b]):=by
 induction h with
 | nil=>exact .cons r .nil
 | cons x _ ih=>exact .cons x ih
section
variable [Gr] {X:Cx}{st:Stmt}
noncomputable def dRetD (i j:Nat):DS:=fun P ρ=>∃ r m b,ρ[i]?=some (.dw r (.dict (kvD m)))/\ρ[j]?=some (.im (.int b))/\m.length<=1000/\(m.map (·.1)).Nodup/\∃ L:Int->List Int,(∀ q∈m,q.2=.list ((L q.1).map PyData.int))/\P.rt (.dict (kvD (m.filter fun q=>!decide (b∈L q.1))))
theorem rkv_kept {ok:Addr->Prop}{H:Hp}{p:Int->Bool}:∀ {m:IM}{vs:List V},Rps ok H vs (m.map (·.2))->Rkv ok H ((((m.map (·.1)).zip vs).filter fun q=>p q.1).map fun q=>((Sum.inl q.1:Key),q.2)) (kvD (m.filter fun q=>p q.1))
 | [],_,.nil=>.nil
 | q::m,v::vs,.cons h t=>by
  rw [List.map_cons,List.zip_cons_cons]
  cases e:p q.1 with
  | true =>
   rw [List.filter_cons_of_pos (by exact e),List.filter_cons_of_pos (by exact e)]
   exact .cons (k:=Sum.inl q.1) h (rkv_kept t)
  | false =>
   rw [List.filter_cons_of_neg (by rw [show p ((q.1,v):Int×V).1=false from e]; exact Bool.false_ne_true),List.filter_cons_of_neg (by rw [e]; exact Bool.false_ne_true)]
   exact rkv_kept t
end
end Dl
namespace Wr
open PySem L2 PyProof.Rows Dl
variable [Gr] {X:Cx}{pos p1 p2 p3 p4 p5 p6:Pos}
theorem ds_retD {i j:Nat}{one:Str}{own:List Str}{scope:Scope}{ef e1 e2 o1 o2 eb:Expr}{on:Pos}{x1:Nat} (hu:X.A.units+64<cLine) (hc:X.calm=true) (hm:X.mg "dict"=none) (ho:own.length=1) (hv:WV X ef i)
  (hg:∀ c,PG (X.comp own scope c) (.Name one on) (jJ 0)) (v1:∀ c,WV (X.comp own scope c) e1 (i+1)) (v2:∀ c,WV (X.comp own scope c) e2 (i+1)) (w1:∀ c,WV (X.comp own scope c) o1 0) (w2:∀ c,WV (X.comp own scope c) o2 0) (w3:∀ c,WV (X.comp own scope c) o3 0) (vb:∀ c,WV (X.comp own scope c) eb (j+1))
  (hs1:NoSl o1:=by exact fun _ _=>rfl) (hs3:NoSl o3:=by exact fun _ _=>rfl) (hmk:behindInMarks .NotIn (.Subscript e1 o1 p5)=false:=by rfl) (hgd:Gl X "dict":=by rfl)
  (st2:∀ c,starEach [o2,.Subscript e2 o3 p4] (X.comp own scope c).env=(false,eval o2 (X.comp own scope c).env)::starEach [.Subscript e2 o3 p4] (X.comp own scope c).env:=by intro _; rfl) (st3:∀ c,starEach [.Subscript e2 o3 p4] (X.comp own scope c).env=(false,eval (.Subscript e2 o3 p4) (X.comp own scope c).env)::starEach [] (X.comp own scope c).env:=by intro _; rfl)
  (hk:fB X.env scope X.N=true:=by rfl) (hs:∀ x,foldedSetIterable ef X.env x=pure x:=by intro _; rfl)
  (he:starEach [.ListComp (.Tuple [o2,.Subscript e2 o3 p4] x1 p3) [⟨.Name one on,ef,[.Compare eb [.NotIn] [.Subscript e1 o1 p5] p6],0⟩] scope p2] X.env=(false,eval (.ListComp (.Tuple [o2,.Subscript e2 o3 p4] x1 p3) [⟨.Name one on,ef,[.Compare eb [.NotIn] [.Subscript e1 o1 p5] p6],0⟩] scope p2) X.env)::starEach [] X.env:=by rfl) (hpl:(backTo p1 (starEach [] X.env)).any (·.1)=false:=by rfl) :
  WDS X (.Return (some (.Call (.Name "dict" pd) [.ListComp (.Tuple [o2,.Subscript e2 o3 p4] x1 p3) [⟨.Name one on,ef,[.Compare eb [.NotIn] [.Subscript e1 o1 p5] p6],0⟩] scope p2] [] p1)) pos) (dRetD i j):=⟨PS.wk' (ps_fast i (ps_ret (pe_callTy (call_dictV hc) hgd hm boot_dictB (bK (pe_lc own hc (pi_fast hv.h) hg (fun c=>pts_one (jX (op_notinG hu) (vb c).h (pe_dget (hu1 hu) (v1 c).h (w1 c).h hs1) hmk)) (fun c=>pe_tup (bK (w2 c).h (bK (pe_dget (hu1 hu) (v2 c).h (w3 c).h hs3) dG (st3 c)) (st2 c))) hk hs) dG he) (by decide) (by decide) he hpl))) (by
 rintro Q σ H ⟨p,H0,own',ρ,P,E,⟨r,m,b,hi,hj,lm,nd,L,hL,q⟩,w⟩
 obtain⟨v,hvs,x⟩:=E.slot i _ hi
 obtain⟨l,kvs,rfl,o,hl,rk⟩:=Rp.dct' x
 obtain⟨vs,rfl,rs⟩:=rk.kv
 obtain⟨vb',hvb,rb⟩:=E.slot j _ hj
 have eb':vb'=.int b:=Rp.int' rb
 subst eb'
 have lv:vs.length=m.length:=by rw [rs.length,List.length_map]
 refine⟨l,_,hvs,hl,fun ob=>?_⟩
 generalize hkv:(m.map (·.1)).zipWith (fun i v=>((Sum.inl i:Key),v)) vs=kvs at hl x
 have lk:kvs.length=m.length:=by rw [← hkv,List.length_zipWith,List.length_map,lv,Nat.min_self]
 -- what is kept of the heap
 have rs':∀ {H':Hp},(∀ c u,H c=some u->c≠l->H' c=some u)->Rps (fun c=>own' c=some r/\c≠l) H' vs (m.map (·.2)):=fun {H'} k=>lW (T:=PyData.dict (kvD m)) (fun {w d} y sz=>(Rp.avoid x y sz).mono (fun _ o=>o) (fun c u o e=>k c u e o.2) fun c xs e=>k c _ e (fun z=>by rw [z,hl] at e; cases e)) rs fun d hd=>sz_kv hd
 refine⟨.ref l,hvs,l,ob,kvs,rfl,aF,?_⟩
 rw [ho]
 refine lc_any m.length lm (fun n ys H'=>∃ ts:List Addr,ys=ts.map V.ref/\ts.length<=n/\H' l=some (.frz ob (.dK kvs))/\(∀ c u,H c=some u->c≠l->H' c=some u)/\Paired (fun t (q:Int×V)=>H' t=some (.tup [.int q.1,q.2])) ts (kept m vs (fun k=>!decide (b∈L k)) n)) ⟨[],rfl,Nat.le_refl _,aF,fun c u e n=>by rw [aA n]; exact e,.nil⟩ ?_ ?_ ?_ ?_ ?_
 ·rintro n ys H' hn ⟨ts,_,_,hf,_⟩
  exact⟨hf,by omega⟩
 ·rintro ys H' ⟨ts,_,_,hf,_⟩
  exact⟨hf,by omega⟩
 ·rintro n ys H' ⟨ts,rfl,ht,_⟩
  rw [List.length_map]
  exact ht
 ·rintro c n xv ys H' H'' hn ⟨rfl,k,v,hkvn,rfl⟩ ⟨ts,rfl,ht,hf,kp,pr⟩
  have hkn:∃ q,m[n]?=some q:=⟨m[n],List.getElem?_eq_getElem hn⟩
  obtain⟨q0,hq0⟩:=hkn
  have h1:(m.map (·.1))[n]?=some q0.1:=by rw [List.getElem?_map,hq0]; rfl
  obtain⟨v0,h2⟩:∃ v0,vs[n]?=some v0:=⟨vs[n]'(by omega),List.getElem?_eq_getElem _⟩
  have ek:k=Sum.inl q0.1/\v=v0:=by
   rw [← hkv,List.getElem?_zipWith,h1,h2] at hkvn
   have:=Option.some.inj hkvn
   exact⟨(congrArg Prod.fst this).symm,(congrArg Prod.snd this).symm⟩
  obtain⟨rfl,rfl⟩:=ek
  have vl:=val_at nd h1 h2
  rw [hkv] at vl
  have hd2:=hL q0 (List.mem_of_getElem? hq0)
  obtain⟨dd,hdd,rv⟩:=(rs' kp).get h2
  rw [List.getElem?_map,hq0] at hdd
  have hdd:q0.2=dd:=Option.some.inj hdd
  subst hdd
  rw [hd2] at rv
  have nx:=kept_next (p:=fun k=>!decide (b∈L k)) h1 h2
  have g0:((none::σ:L2.St).set 0 (some (V.int q0.1)))[0]?=some (some (V.int q0.1)):=rfl
  have dg:∀ {H3:Hp},H3 l=some (.frz ob (.dK kvs))->DGet H3 l (.int q0.1) (some v):=fun {H3} e=>.inl ⟨kvs,Sum.inl q0.1,.inr ⟨ob,e⟩,rfl,vl.symm⟩
  refine⟨.int b,hvb,.ref l,hvs,.int q0.1,g0,l,v,rfl,dg hf,_,_,.int b,_,.int (ok:=fun _=>True) b,.inl rv,rfl,bI _,_,rfl,?_⟩
  show if (!(((L q0.1).map PyData.int).any fun e=>PyData.eqv e (.int b)))=true then _ else _
  rw [Dl.any_ints]
  cases hb:decide (b∈L q0.1) with
  | true =>
   rw [hb,if_neg (by decide),List.append_nil] at nx
   exact bA (A:=True) ⟨ts,rfl,by omega,hf,kp,by rw [nx]; exact pr⟩
  | false =>
   rw [hb,if_pos (by decide)] at nx
   refine cD (B:=True) ⟨.int q0.1,g0,.ref l,hvs,.int q0.1,g0,l,v,rfl,dg hf,(by show 2<=sizeLine; decide),fun t htn=>⟨ts++[t],by rw [List.map_append]; rfl,by rw [List.length_append,List.length_singleton]; omega,?_,fun c u e n=>?_,?_⟩⟩
   ·rw [aA (aH hf htn)]; exact hf
   ·rw [aA (aH (kp c u e n) htn)]; exact kp c u e n
   ·rw [nx]
    refine paired_snoc ?_ aF
    exact L2.Paired.mapP pr fun a q' e=>by rw [aA (aH e htn)]; exact e
 ·rintro ys H' ⟨ts,rfl,ht,hf,kp,pr⟩ pl hpl
  have ek:kept m vs (fun k=>!decide (b∈L k)) m.length=((m.map (·.1)).zip vs).filter fun q=>!decide (b∈L q.1):=by
   unfold kept
   rw [List.take_of_length_le (by rw [List.length_zip,List.length_map]; omega)]
  rw [ek] at pr
  have up:∀ {c:Addr}{u:HO},H' c=some u->upd H' pl (.lst (ts.map V.ref)) c=some u:=fun {c u} e=>by rw [aA (aH e hpl)]; exact e
  refine⟨pl,_,ts,rfl,SqL.of aF,L2.Paired.mapP pr fun t q' e=>SqT.of (up e),?_,fun l' hl'=>?_⟩
  ·have sub:(((m.map (·.1)).zip vs).filter fun q=>!decide (b∈L q.1)).map (·.1)=(((m.map (·.1)).zip vs).map (·.1)).filter (fun k=>!decide (b∈L k)):=by
    rw [List.filter_map]
    rfl
   rw [sub,List.map_fst_zip (by rw [List.length_map]; omega)]
   exact nd.filter _
  ·have up2:∀ {c:Addr}{u:HO},H' c=some u->upd (upd H' pl (.lst (ts.map V.ref))) l' (.dK ((((m.map (·.1)).zip vs).filter fun q=>!decide (b∈L q.1)).map fun q=>((Sum.inl q.1:Key),q.2))) c=some u:=fun {c u} e=>by rw [aA (aH (up e) hl')]; exact up e
   have hn':H' l'=none:=by
    cases e:H' l' with
    | none=>rfl
    | some u=>rw [up e] at hl'; cases hl'
   have hn:H l'=none/\l'≠l:=by
    have nl:l'≠l:=fun z=>by rw [z,hf] at hn'; cases hn'
    refine⟨?_,nl⟩
    cases e:H l' with
    | none=>rfl
    | some u=>rw [kp l' u e nl] at hn'; cases hn'
   have ol:=E.ow l r o
   refine w.rt _ _ _ q ⟨fun c u e n=>?_,p.mono H _ E.pen fun c u f e=>?_,?_⟩
   ·have nl:c≠l:=fun z=>by rw [z,ol.1] at e; cases e
    exact up2 (kp c u (E.k0 c u e n) nl)
   ·exact up2 (kp c u e fun z=>ol.2.1 (z ▸ f))
   ·have A:=E.at
    have fr:=A.nfp hn.1
    have h0:H0 l'=none:=A.h0 hn.1
    have rz:Rps (fun c=>H0 c=none/\¬ p.fp c) (upd (upd H' pl (.lst (ts.map V.ref))) l' (.dK ((((m.map (·.1)).zip vs).filter fun q=>!decide (b∈L q.1)).map fun q=>((Sum.inl q.1:Key),q.2)))) vs (m.map (·.2)):=(rs' fun c u e n=>up2 (kp c u e n)).mono (fun c o=>⟨(E.ow c r o.1).1,(E.ow c r o.1).2.1⟩) (fun _ _ _ e=>e) fun _ _ e=>e
    exact .dct ⟨h0,fr⟩ aF (rkv_kept (p:=fun k=>!decide (b∈L k)) rz))⟩
end Wr
namespace Dl
open PySem L2 PyProof.Rows PySem.W
section
variable [Gr] {X:Cx}
noncomputable def rNeD:R2:=fun x y H Q=>∃ a b kvs,x=.ref a/\y=.ref b/\Rd H a (.dK kvs)/\Rd H b (.dK [])/\Q (.bl (!kvs.isEmpty)) H
theorem op_neE (hu:X.A.units+64<cLine):OpR X (compareOp .NotEq) rNeD:=by
 intro pins s σ H x y v u Q I rx ry h
 obtain⟨a,b,kvs,rfl,rfl,ha,hb,q⟩:=h
 cases rx
 cases ry
 obtain⟨_,hS,vs,r,m⟩:=dk_rd I.hok ha
 obtain⟨_,hS',vs',r',m'⟩:=dk_rd I.hok hb
 cases r'
 have e:(vs.length == ([]:List (Key×Value)).length&&true)=kvs.isEmpty:=by
  cases r <;> rfl
 refine keq_ne (r:=true) hS hS' m m' (by omega) (fun z=>?_) ?_
 ·cases vs with
  | nil=>exact .nil
  | cons _ _=>cases z
 ·rw [e]
  exact⟨.bl _,H,I,rfl,q⟩
noncomputable def gNeD:G2:=fun _ d1 _ d2 P=>∃ kvs,d1=.dict kvs/\d2=.dict []/\P .imm (.bool (!kvs.isEmpty))
theorem okNeD:Ok2 gNeD rNeD:=by
 intro p H0 own Hb H x y k1 d1 k2 d2 P Q A r1 r2 t q
 obtain⟨kvs,rfl,rfl,t⟩:=t
 obtain⟨a,ks,rfl,_,ha,rk⟩:=Rp.dct' r1
 obtain⟨b,ks',rfl,_,hb,rk'⟩:=Rp.dct' r2
 cases rk'
 have e:ks.isEmpty=kvs.isEmpty:=by cases rk <;> rfl
 refine⟨a,b,ks,rfl,rfl,.inl ha,.inl hb,?_⟩
 rw [e]
 exact q _ _ _ _ t Kp.refl A.pen (.bl _)
end
end Dl
namespace Wr
open PySem L2 PyProof.Rows Dl
section
variable [Gr] {X:Cx}{pos pos':Pos}{a b:Expr}{ta tb:DE}
theorem pdt_neD (hu:X.A.units+64<cLine) (ha:WD X a ta) (hb:WD X b tb):WDT X (.Compare a [.NotEq] [b] pos) (dM (t2 gNeD ta tb)):=⟨Dl.eV (op_neE hu) okNeD ha.h hb.h (dU _)⟩
theorem ds_dputN {i:Nat}{x:Str}{ek e:Expr}{np pos' pos:Pos}{tk tv:DE} (hu:X.A.units+64<cLine) (hv:WV X (.Name x np) i) (hk:WD X ek tk) (he:WD X e tv) (hs:swapsWith e (some (.Subscript (.Name x np) ek pos')) pos.line X.env=pure false:=by rfl) :
  WDS X (.Assign [.Subscript (.Name x np) ek pos'] e pos) (dPutN i tk tv):=⟨Dl.ds_dputN (ps_dput (hu1 hu) hv.h hk.h he.h hs)⟩
end
end Wr
namespace Dl
open PySem L2 PyProof.Rows
noncomputable def LastD (ds:List D):Prop:=(∃ l:List Int,ds=[.list (l.map PyData.int)]/\l.length<=100)\/(∃ (k:Int) (l:List Int),ds=[.int k,.list (l.map PyData.int)]/\l.length<=100)\/∃ p1 k1 p2 k2:List Int,ds=[.tuple [.list (p1.map PyData.int),.list (k1.map PyData.int)],.tuple [.list (p2.map PyData.int),.list (k2.map PyData.int)]]/\p1.length<=100/\k1.length<=100/\p2.length<=100/\k2.length<=100
theorem LastD.parts {ds:List D} (h:LastD ds):∀ d∈ds,PartD d:=by
 intro d hd
 rcases h with ⟨l,rfl,hl⟩ | ⟨k,l,rfl,hl⟩ | ⟨p1,k1,p2,k2,rfl,h1,h2,h3,h4⟩
 ·rw [List.mem_singleton.mp hd]
  exact .inr (.inl ⟨l,rfl,hl⟩)
 ·simp only [List.mem_cons,List.not_mem_nil,or_false] at hd
  rcases hd with rfl | rfl
  ·exact .inl ⟨k,rfl⟩
  ·exact .inr (.inl ⟨l,rfl,hl⟩)
 ·simp only [List.mem_cons,List.not_mem_nil,or_false] at hd
  rcases hd with rfl | rfl
  ·exact .inr (.inr ⟨p1,k1,rfl,h1,h2⟩)
  ·exact .inr (.inr ⟨p2,k2,rfl,h3,h4⟩)
section
variable [Gr]
noncomputable def dSpI (i:Nat):DS:=fun P ρ=>∃ r s ds,ρ[i]?=some (.dw r (.tuple (.str s::ds)))/\LastD ds/\∀ ds',P.nx ((forget r ρ).set i (.dw r (.tuple (.str s::ds'))))
noncomputable def tLast (K:PySem.W.Frag) (i:Nat):TE:=tOp (rIxT K) (lg i) (tUn (rU fun i=>V.int (-i)) (tC (V.int 1)))
noncomputable def tIsL (K:PySem.W.Frag) (i:Nat):TE:=tCB (fun xs H Q=>∃ x c t b,xs=[x,V.ty c]/\TyOf K H x t/\PySem.W.kitOne K t (Value.type c)=some b/\Q (V.bl b) H) (kO (tLast K i) (kO (tC (V.ty "list")) tNil))
noncomputable def tIx2 (K:PySem.W.Frag) (i:Nat) (a b:Int):TE:=tOp (rIxT K) (tOp (rIxT K) (lg i) (tC (V.int a))) (tC (V.int b))
theorem last_two {α:Type}{a b:α}:atI [a,b] (-1)=some b:=rfl
theorem last_three {α:Type}{a b c:α}:atI [a,b,c] (-1)=some c:=rfl
section
variable {K:PySem.W.Frag}{i:Nat}{σ:L2.St}{H:Hp}{a b t:Addr}{vs us ws:List V}{v:V}{Q:VK}{Dn:Ends}
theorem if_of0 {T:TE}{t u:TS}{c:Bool} (h:∀ Q:VK,Q (.bl c) H->T σ H Q) (q:if c=true then t Dn σ H else u Dn σ H):tIfS (tB T) t u Dn σ H:=h _ ⟨c,rfl,q⟩
theorem last_of (hv:σ[i]?=some (some (.ref a))) (ha:H a=some (.tup vs)) (hl:atI vs (-1)=some v) (q:Q v H):tLast K i σ H Q:=⟨.ref a,hv,1,rfl,a,vs,-1,v,rfl,rfl,SqT.of ha,hl,q⟩
theorem isL_of {ty:Value}{c:Bool} (hv:σ[i]?=some (some (.ref a))) (ha:H a=some (.tup vs)) (hl:atI vs (-1)=some v) (h:TyOf K H v ty) (e:PySem.W.kitOne K ty (.type "list")=some c) (q:Q (.bl c) H):tIsL K i σ H Q:=last_of hv ha hl ⟨v,"list",ty,c,rfl,h,e,q⟩
theorem ix2_of {m n:Int} (hv:σ[i]?=some (some (.ref a))) (ha:H a=some (.tup vs)) (h1:atI vs m=some (.ref t)) (ht:H t=some (.tup us)) (h2:atI us n=some v) (q:Q v H):tIx2 K i m n σ H Q:=⟨.ref a,hv,a,vs,m,.ref t,rfl,rfl,SqT.of ha,h1,t,us,n,v,rfl,rfl,SqT.of ht,h2,q⟩
theorem clr_of {T:TE} (h:(∀ Q:VK,Q (.ref b) H->T σ H Q)) (hb:H b=some (.lst ws)) (q:Dn.nx σ (upd H b (.lst []))):gF (tBM0 K "list" rClear T) Dn σ H:=h _ ⟨.inl ⟨rfl,_,SqL.of hb⟩,b,ws,rfl,rfl,hb,q⟩
theorem app_of0 {T:TE} (h:(∀ Q:VK,Q (.ref b) H->T σ H Q)) (hb:H b=some (.lst ws)) (hl:ws.length<sizeLine) (q:Dn.nx σ (upd H b (.lst (ws++[.int 0])))):gF (tBM K "list" iz T (kO (tC (.int 0)) tNil)) Dn σ H:=h _ ⟨.inl ⟨rfl,_,SqL.of hb⟩,b,ws,_,rfl,rfl,hb,hl,q⟩
theorem rps_cons' {ok:Addr->Prop}{ws:List V}{d:D}{ds:List D} (r:Rps ok H ws (d::ds)):∃ w us,ws=w::us/\Rp ok H w d/\Rps ok H us ds:=by
 cases r with
 | cons x y=>exact⟨_,_,rfl,x,y⟩
theorem rps_nil' {ok:Addr->Prop}{ws:List V} (r:Rps ok H ws []):ws=[]:=by
 cases r
 rfl
theorem rps_one' {ok:Addr->Prop}{ws:List V}{d:D} (r:Rps ok H ws [d]):∃ w,ws=[w]/\Rp ok H w d:=by
 obtain⟨w,us,rfl,x,y⟩:=rps_cons' r
 cases rps_nil' y
 exact⟨w,rfl,x⟩
theorem rps_two' {ok:Addr->Prop}{ws:List V}{d e:D} (r:Rps ok H ws [d,e]):∃ w u,ws=[w,u]/\Rp ok H w d/\Rp ok H u e:=by
 obtain⟨w,us,rfl,x,y⟩:=rps_cons' r
 obtain⟨u,rfl,z⟩:=rps_one' y
 exact⟨w,u,rfl,x,z⟩
theorem rp_pair' {ok:Addr->Prop}{p k:List Int} (r:Rp ok H v (.tuple [.list (p.map PyData.int),.list (k.map PyData.int)])) (hp:p.length<=100) (hk:k.length<=100):∃ t a b,v=.ref t/\H t=some (.tup [.ref a,.ref b])/\LiI ok H 100 a/\LiI ok H 100 b:=by
 obtain⟨t,us,rfl,ht,rs⟩:=Rp.eY r
 obtain⟨w,u,rfl,x,y⟩:=rps_two' rs
 obtain⟨a,rfl,h1⟩:=lE x hp
 obtain⟨b,rfl,h2⟩:=lE y hk
 exact⟨t,a,b,rfl,ht,h1,h2⟩
end
end
end Dl
namespace Wr
open PySem L2 PyProof.Rows Dl
variable [Gr] {X:Cx}
theorem ds_spI {i:Nat}{c:Expr}{pos:Pos} (h0:PE X c (tIsL X.K i)) (h1:PS X s1 (gF (tBM0 X.K "list" rClear (tLast X.K i)))) (h2:PS X s2 (gF (tBM0 X.K "list" rClear (tIx2 X.K i 1 0)))) (h3:PS X s3 (gF (tBM X.K "list" iz (tIx2 X.K i 2 1) (kO (tC (.int 0)) tNil))))
  (hw:∀ whole,isTrue c X.env whole=(do let v ← whole; standAt c.pos; holding [v] (truthy v)):=by intro _; rfl):WDS X (.If c [s1] [s2,s3] pos) (dSpI i):=⟨PS.wk' (ps_if (pt_val h0 hw) (iB h1) (bR h2 (iB h3))) (by
 rintro Q σ H ⟨p,H0,own,ρ,P,E,⟨r,s,ds,hr,hl,hn⟩,w⟩
 have hp:=hl.parts
 obtain⟨v,hv,x⟩:=E.slot i _ hr
 obtain⟨a,vs,rfl,ha,rs⟩:=Rp.eY x
 obtain⟨v1,ws,rfl,r1,rz⟩:=rps_cons' rs
 cases Rp.str' r1
 have fin:∀ H',Spo (fun c=>own c=some r) H H'->(∀ w∈ws,Part (fun c=>own c=some r) H' 300 w)->Q.nx σ H':=fun H' S hp'=>by
  obtain⟨ds',rs'⟩:=rps_parts hp'
  exact w.nx _ σ H' _ ((E.many S).put (i:=i) (v:=.ref a) (s:=.dw r (.tuple (.str s::ds'))) ⟨.ref a,hv,.tup (S.tup _ _ ha) (.cons (.str s) rs')⟩) (spo_frs S) (hn ds')
 have hps:=parts_rps rz hp
 clear w hn hp E x rs r1
 have one:∀ b,LiI (fun c=>own c=some r) H 100 b->atI (V.str s::ws) (-1)=some (.ref b)->tIfS (tB (tIsL X.K i)) (gF (tBM0 X.K "list" rClear (tLast X.K i))) (tSeq (gF (tBM0 X.K "list" rClear (tIx2 X.K i 1 0))) (gF (tBM X.K "list" iz (tIx2 X.K i 2 1) (kO (tC (.int 0)) tNil)))) Q σ H:=fun b h l=>by
  obtain⟨o,ns,e,ln⟩:=id h
  exact if_of0 (fun Q q=>isL_of hv ha l (.lst e) rfl q) (cD (clr_of (fun Q q=>last_of hv ha l q) e (fin _ (Spo.write e o) fun w hw=>((hps w hw).write (ns:=[]) h (Nat.zero_le _)).le (by decide))))
 rcases hl with ⟨l,rfl,hl⟩ | ⟨k,l,rfl,hl⟩ | ⟨p1,k1,p2,k2,rfl,g1,g2,g3,g4⟩
 ·obtain⟨u,rfl,r2⟩:=rps_one' rz
  obtain⟨b,rfl,h⟩:=lE r2 hl
  exact one b h last_two
 ·obtain⟨u,u2,rfl,_,r2⟩:=rps_two' rz
  obtain⟨b,rfl,h⟩:=lE r2 hl
  exact one b h last_three
 ·clear one
  obtain⟨u,u2,rfl,r2,r3⟩:=rps_two' rz
  obtain⟨t1,b1,b2,rfl,ht1,z1,_⟩:=rp_pair' r2 g1 g2
  obtain⟨t2,b3,b4,rfl,ht2,_,z4⟩:=rp_pair' r3 g3 g4
  clear r2 r3 rz g1 g2 g3 g4
  obtain⟨o,ns,e,ln⟩:=id z1
  have S1:=Spo.write (ok:=fun c=>own c=some r) (ws:=[]) e o
  have b4':=z4.write (ns:=[]) o (Nat.zero_le _)
  obtain⟨o4,ms,e4,l4⟩:=id b4'
  have S2:=Spo.write (ok:=fun c=>own c=some r) (ws:=(ms++[0]).map V.int) e4 o4
  refine if_of0 (fun Q q=>isL_of hv ha last_three (.tup ht2) rfl q) (bA (clr_of (fun Q q=>ix2_of hv ha rfl ht1 rfl q) e (app_of0 (fun Q q=>ix2_of hv (S1.tup _ _ ha) rfl (S1.tup _ _ ht2) rfl q) e4 (by rw [List.length_map]; have:=sizeLine_eq; omega) ?_)))
  rw [show ms.map V.int++[V.int 0]=(ms++[0]).map V.int from by rw [List.map_append]; rfl]
  exact fin _ (S1.trans S2) fun w hw=>(((hps w hw).write (ns:=[]) z1 (Nat.zero_le _)).write (ns:=ms++[0]) b4' (by rw [List.length_append]; exact Nat.succ_le_succ l4)).le (by decide))⟩
end Wr
namespace Nf
open PySem PySem.W PyProof.Rows
noncomputable def topRunT (tb:String->Option Builtin) (p:Program) (w:World) (m:Nat) (ann:Option Value):Nat->SharedT->Thread->Option SharedT
 | 0,_,_=>none
 | n+1,s,t=>match through t with
  | true=>some s
  | false=>match stepOk m ann t with
   | false=>none
   | true=>match stepT (denote tb) p w s t with
    | none=>none
    | some r=>topRunT tb p w m ann n r.1 r.2
theorem topRun_of {tb:String->Option Builtin}{p:Program}{w:World}{m:Nat}{ann:Option Value}:∀ {n:Nat}{s s':SharedT}{t:Thread},topRunT tb p w m ann n s t=some s'->topRun tb p w m ann n s.abs t=some s'.abs
 | 0,_,_,_,h=>by cases h
 | n+1,s,s',t,h=>by
  unfold topRunT at h
  unfold topRun
  cases he:through t with
  | true=>rw [he] at h; cases h; rfl
  | false =>
   rw [he] at h
   cases hk:stepOk m ann t with
   | false=>rw [hk] at h; cases h
   | true =>
    rw [hk] at h
    cases hs:stepT (denote tb) p w s t with
    | none=>rw [hs] at h; cases h
    | some r=>obtain⟨s2,t2⟩:=r; rw [hs] at h; rw [stepT_spec hs]; exact topRun_of h
noncomputable def bootTree (P:Params):BT:=((((((((((BT.nil.ins 0 (boot_o_0 P)).ins 1 (boot_o_1 P)).ins 2 (boot_o_2 P)).ins 3 (boot_o_3 P)).ins 4 (boot_o_4 P)).ins 5 (boot_o_5 P)).ins 6 (boot_o_6 P)).ins 7 (boot_o_7 P)).ins 8 (boot_o_8 P)).ins 9 (boot_o_9 P)).ins 10 (boot_o_10 P)
noncomputable def lifeW:Life:={}
theorem boot_tree (P:Params):absHeap (bootTree P) 11 lifeW=boot_heap P:=by kernel_rfl
noncomputable def startW (w:World) (os:OsState):SharedT:=⟨bootTree w.params,11,lifeW,#[],boot_drawn,boot_toks,os⟩
theorem start_abs (w:World) (os:OsState):(startW w os).abs=⟨boot_heap w.params,#[],boot_drawn,boot_toks,os⟩:=by
 unfold startW SharedT.abs
 dsimp only
 rw [boot_tree]
noncomputable def sizeW (P:Params):=((boot_heap P).isNs mainGlobals,(boot_heap P).objs.size,(boot_heap P).nsMap mainGlobals "__annotations__")
theorem sizeW_self:sizeW=sizeW:=rfl
end Nf
name_quick sizeQ for Nf.sizeW by Nf.sizeW_self
namespace Nf
open PySem PySem.W PyProof.Rows
theorem boot_size (w:World):((boot_heap w.params).isNs mainGlobals,(boot_heap w.params).objs.size,(boot_heap w.params).nsMap mainGlobals "__annotations__")=(true,11,some (.ref 6)):=by
 show sizeW w.params=_
 rw [PySem.W.Fast.sizeQ_eq]
 kernel_rfl
noncomputable def runT (p:Program) (N:Nat) (w:World) (os:OsState):=topRunT treeTable p w 11 (some (.ref 6)) N (startW w os) (topStub p)
noncomputable def seenW (p q:Program) (Xt:Shared->Bool) (w:World) (s:Shared) :=
 (staticsOk (importedModules p.main.body) (boot_heap w.params) s.heap&&namesBound p s.heap&&gensDone s&&laidKept (boot_heap w.params) s.heap,openSeen q [] (importedModules p.main.body) Xt true s)
theorem left_of {p q:Program}{Xt:Shared->Bool}{β:Type}{Yf:Shared->List β}{Ya:World->List β}{N:Nat} (k:Nat)
  (open_:∀ w:World,(fencedOpening treeTable p w N).map (fun s=>(s.heap,s.gens,s.drawn,s.toks))=some (boot_heap w.params,Array.mk [],boot_drawn,boot_toks))
  (look:∀ (w:World) (os:OsState),(runT p N w os).map (fun s=>seenW p q Xt w s.abs)=some (true,openGood q []))
  (front:∀ (w:World) (os:OsState),(runT p N w os).map (fun s=>(Yf s.abs).take k)=some ((Ya w).take k))
  (back:∀ (w:World) (os:OsState),(runT p N w os).map (fun s=>(Yf s.abs).drop k)=some ((Ya w).drop k)):LeftO p q [] Xt Yf Ya N:=fun w=>by
 obtain⟨⟨h,gs,d,j,os⟩,e,e'⟩:=Option.map_eq_some_iff.mp (open_ w)
 obtain⟨rfl,rfl,rfl,rfl⟩:h=boot_heap w.params/\gs=#[]/\d=boot_drawn/\j=boot_toks:=by simpa using e'
 obtain⟨z1,z2,z3⟩:_/\_/\_:=by simpa only [Prod.mk.injEq] using boot_size w
 obtain⟨s,hs,l⟩:=Option.map_eq_some_iff.mp (look w os)
 have l4:(Yf s.abs).take k=(Ya w).take k:=by
  have:=front w os
  rw [hs] at this
  exact Option.some.inj this
 have l5:(Yf s.abs).drop k=(Ya w).drop k:=by
  have:=back w os
  rw [hs] at this
  exact Option.some.inj this
 have l3:Yf s.abs=Ya w:=by rw [← List.take_append_drop k (Yf s.abs),l4,l5,List.take_append_drop]
 unfold seenW at l
 obtain⟨l1,l2⟩:=Prod.mk.inj l
 have r:=topRun_of hs
 rw [start_abs] at r
 have t:topFrom treeTable p w N ⟨boot_heap w.params,#[],boot_drawn,boot_toks,os⟩=some s.abs:=by
  unfold topFrom
  dsimp only
  rw [z1,z2,z3,r]
  show (match staticsOk (importedModules p.main.body) (boot_heap w.params) s.abs.heap&&namesBound p s.abs.heap&&gensDone s.abs&&laidKept (boot_heap w.params) s.abs.heap with | true=>_ | false=>_)=_
  rw [l1]
 unfold openEnds
 rw [e]
 show (topFrom treeTable p w N _).map _=_
 rw [t]
 exact congrArg some (Prod.ext l2 l3)
end Nf
namespace Nf
open PySem L2 PyProof.Rows Dl
noncomputable def top (i:Nat):Stmt:=PySem.Challenge.pw_nofall_k12_apart_by_places.main.body.getD i (.Pass ⟨0,0,0,0⟩)
theorem PSs.wk {X:Cx}{ss:List Stmt}{t t':TS} (h:PSs X ss t) (w:∀ D σ H,t' D σ H->t D σ H):PSs X ss t':=fun pins s σ H D I q=>h pins s σ H D I (w D σ H q)
noncomputable def penS (p sc:Addr) (ns:List Int) (b:Bool):Pn where
 fp:=fun a=>a=p\/(b=true/\a=sc)
 PI:=fun H=>(∃ x y:Int,H p=some (.lst [.ref sc,.int x,.int y]))/\(b=true->Rd H sc (.lst (ns.map V.int)))
 pv:=.ref p
 mono:=fun H H' ⟨⟨x,y,h⟩,r⟩ k=>⟨⟨x,y,k _ _ (.inl rfl) h⟩,fun e=>(r e).elim (fun z=>.inl (k _ _ (.inr ⟨e,rfl⟩) z)) fun ⟨o,z⟩=>.inr ⟨o,k _ _ (.inr ⟨e,rfl⟩) z⟩⟩
 is:=fun H a ⟨⟨x,y,h⟩,r⟩ hb=>by
  rcases hb with rfl | ⟨e,rfl⟩
  ·exact⟨_,h,fun xs z=>nomatch z⟩
  ·rcases r e with z | ⟨o,z⟩
   ·exact⟨_,z,fun xs z=>nomatch z⟩
   ·exact⟨_,z,fun xs z=>nomatch z⟩
noncomputable def CP (K:PySem.W.Frag) (q:Pn):Prop:=∃ p sc ns b,(b=true->p≠sc)/\(b=false->∀ H,SqL K H sc (ns.map V.int))/\q=penS p sc ns b
theorem pen_sq {K:PySem.W.Frag}{H:Hp}{sc:Addr}{ns:List Int}{b:Bool} (r:b=true->Rd H sc (.lst (ns.map V.int))) (hb:b=false->∀ H,SqL K H sc (ns.map V.int)):SqL K H sc (ns.map V.int):=by
 cases b with
 | true=>exact .inl (r rfl)
 | false=>exact hb rfl H
theorem rd_upd {H:Hp}{sc p:Addr}{u o:HO} (h:Rd H sc u) (n:p≠sc):Rd (upd H p o) sc u:=by
 rcases h with z | ⟨o',z⟩
 ·exact .inl (by rw [aA (Ne.symm n)]; exact z)
 ·exact .inr ⟨o',by rw [aA (Ne.symm n)]; exact z⟩
noncomputable def fDraw (ds:List D) (P:D->Prop):Prop:=∃ m:Int,ds=[.int m]/\0<m/\m<1073741824/\∀ r:Int,0<=r->r<m->P (.int r)
theorem len_spP {C:Pn->Prop}{f:List D->(D->Prop)->Prop}{n:Nat} (hn:∀ ds P,f ds P->ds.length=n):∀ vs H Q E,spP C f vs H Q E->vs.length=n+1:=fun vs H Q E h=>by
 obtain⟨p,vs',ds,P,_,rfl,_,r,t,_⟩:=h
 rw [List.length_cons,r.length,hn ds P t]
theorem mod_sm {x m:Int} (hm:0<m) (hb:m<=2 ^ 32):-(2 ^ 64)<x % m/\x % m<2 ^ 64:=by
 have h1:=Int.emod_nonneg x (b:=m) (by omega)
 have h2:=Int.emod_lt_of_pos x hm
 omega
theorem emod_ix {i:Int}{ns:List Int} (h:(0:Int)<((ns.map V.int).length:Nat)):∃ v:Int,atI (ns.map V.int) (i % (((ns.map V.int).length:Nat):Int))=some (.int v):=by
 rw [List.length_map] at h ⊢
 have h1:=Int.emod_nonneg i (b:=(ns.length:Int)) (by omega)
 have h2:=Int.emod_lt_of_pos i h
 have hk:(i % (ns.length:Int)).toNat<ns.length:=by omega
 have ek:i % (ns.length:Int)=(((i % (ns.length:Int)).toNat:Nat):Int):=by omega
 have q:atI (ns.map V.int) (((i % (ns.length:Int)).toNat:Nat):Int)=some (.int ns[(i % (ns.length:Int)).toNat]):=dY (by rw [List.getElem?_map,List.getElem?_eq_getElem hk]; rfl)
 rw [← ek] at q
 exact⟨_,q⟩
noncomputable def tTk:TS:=fun D σ H=>∃ (a0 a2 a5:Option V) (m a cell:Int),σ=[a0,some (.int m),a2,some (.int a),some (.int cell),a5]/\0<m/\m<1073741824/\∀ r:Int,0<=r->r<m->D.rt (.int r) H
noncomputable def tCe (K:PySem.W.Frag) (p sc:Addr) (ns:List Int):TS:=fun D σ H=>∃ (a2 a5:Option V) (m a cell x y:Int),σ=[some (.ref p),some (.int m),a2,some (.int a),some (.int cell),a5]/\0<m/\m<1073741824/\H p=some (.lst [.ref sc,.int x,.int y])/\SqL K H sc (ns.map V.int) /\
 (∀ r:Int,0<=r->r<m->D.rt (.int r) H)/\∀ r z:Int,0<=r->r<m->D.rt (.int r) (upd H p (.lst [.ref sc,.int x,.int z]))
theorem enterM {K:PySem.W.Frag}{T:DS}{N:List Str}{H:Hp}{Q:VK}{sc:Addr}{ns:List Int} (hS:SqL K H sc (ns.map V.int)) (q:∀ H',Q (.bl true) H') (hN:2<=N.length)
  (body:T { nx:=fun _=>False,rt:=fun d=>d=.bool true } (.any::.pen (CP K)::List.replicate (N.length - 2) .any)) :
  tSeq (tAsg (tLst (kO (lg 0) (kO (tC (.int 0)) (kO (tC (.int 0)) tNil)))) (jJ 1)) (liftS T) { nx:=fun _ H'=>Q .non H',rt:=Q } (L2.start N [.ref sc]) H:=by
 refine⟨_,rfl,by show 3<=sizeLine; decide,fun p hp=>?_⟩
 show liftS T _ ((L2.start N [.ref sc]).set 1 (some (.ref p))) _
 have main:∀ b,(b=true->p≠sc)->(b=false->∀ H,SqL K H sc (ns.map V.int))->(b=true->Rd (upd H p (.lst [.ref sc,.int 0,.int 0])) sc (.lst (ns.map V.int)))->liftS T { nx:=fun _ H'=>Q .non H',rt:=Q } ((L2.start N [.ref sc]).set 1 (some (.ref p))) (upd H p (.lst [.ref sc,.int 0,.int 0])):=by
  intro b h1 h2 h3
  refine⟨penS p sc ns b,upd H p (.lst [.ref sc,.int 0,.int 0]),fun _=>none,_,_,?_,body,⟨fun _ _ _ _ _ _ n=>n.elim,fun d v H' n w=>?_,fun _ _ _ _ _ _ n=>n.elim,fun _ _ _ _ _ _ n=>n.elim⟩⟩
  ·have hl:(L2.start N [.ref sc]).length=N.length:=by unfold L2.start; simp; omega
   refine⟨fun b o e _=>e,⟨⟨0,0,aF⟩,h3⟩,fun a r e=>(nomatch e),fun j s e=>?_,by rw [List.length_set,hl,List.length_cons,List.length_cons,List.length_replicate]; omega,trivial⟩
   rcases j with _ | _ | j
   ·cases e; trivial
   ·cases e
    exact⟨List.getElem?_set_self (by rw [hl]; omega),p,sc,ns,b,h1,h2,rfl⟩
   ·rw [List.getElem?_cons_succ,List.getElem?_cons_succ] at e
    have e2:=(List.mem_replicate.mp (List.mem_of_getElem? e)).2
    subst e2
    trivial
  ·have n:d=.bool true:=n
   subst n
   have r:=w.rp
   cases r
   exact q H'
 rcases hS with h | h
 ·have hn:p≠sc:=by
   rintro rfl
   rcases h with z | ⟨o,z⟩ <;> rw [hp] at z <;> cases z
  exact main true (fun _=>hn) (fun z=>nomatch z) fun _=>rd_upd h hn
 ·exact main false (fun z=>nomatch z) (fun _ H=>.inr h) fun z=>nomatch z
section
variable {P:Program}{w:World}{K:PySem.W.Frag}{mg:Str->Option Value}{base:Heap}{f:Addr}{fd:FuncData}
theorem sc_take:FnScope ["_law_pen","_law_many","_law_digit","_law_at","_law_cell","_law_number"] ["_law_pen","_law_many"] (au (top 34)):=⟨rfl,rfl,rfl,by decide +kernel,rfl,by decide +kernel,by decide +kernel⟩
theorem ok_take (F:Fun K "_law_take" "_law_take" (top 34) f fd) (B:Dl.Bn mg):FnOk P w K mg base CX0 1 f fd ["_law_pen","_law_many"] (spP (CP K) fDraw):=by
 refine F.ok sc_take (len_spP fun ds P ⟨m,e,_⟩=>by rw [e]; rfl) (fun cdv A outer s H vs Q E hr h=>?_)
 obtain⟨_,vs',ds,P,⟨p,sc,ns,b,hps,hbK,rfl⟩,rfl,⟨⟨x,y,hp⟩,hsc⟩,rp,⟨m,rfl,m0,m30,hP⟩,q⟩:=h
 obtain rfl:vs'=[.int m]:=by
  cases rp with
  | cons h1 t=>cases h1; cases t; rfl
 have nd:=sc_take.nd
 have hS:=pen_sq hsc hbK
 refine⟨_,bR (ps_if (jX op_gt (fj dW (pv 0) aV (fun _ _=>rfl)) aV (dU _))
   (bR (iC (i:=2) nd rfl (Or.inl rfl) (cH iK (fj dW (pv 0) aV (fun _ _=>rfl)) (pv 1)))
   (bR (ps_asg (cH op_fdiv (fj dW (pv 0) aV (fun _ _=>rfl)) (pv 1)) (pg_sub (pv 0) aV set_list))
   (iB (ps_ret (pv 2))))) pss_nil)
  (bR (iC (i:=3) nd rfl (Or.inl rfl) (fj dW (pv 0) aV (fun _ _=>rfl)))
  (bR (ps_asg (cH jA (pv 3) aV) (pg_sub (pv 0) aV set_list))
  (bR (iC (i:=4) nd rfl (Or.inl rfl) aV)
  (bR (ps_if (jX op_gt (dB fJ rfl B.len PySem.boot_len (bK (fj dW (pv 0) aV (fun _ _=>rfl)) dG)) aV (dU _))
   (iB (iC (i:=4) nd rfl (Or.inl rfl) (fj dW (fj dW (pv 0) aV (fun _ _=>rfl)) (cH iK (pv 3) (dB fJ rfl B.len PySem.boot_len (bK (fj dW (pv 0) aV (fun _ _=>rfl)) dG))) (fun _ _=>rfl)))) pss_nil)
  (PSs.wk (t':=tCe K p sc ns) (bR (ps_if (PW.pt (pw_and (jX op_lt (pv 3) (dB fJ rfl B.len PySem.boot_len (bK (fj dW (pv 0) aV (fun _ _=>rfl)) dG)) (dU _)) (pw_and1 (jX op_ge (dB call_abs rfl B.abs Dl.boot_abs (bK (pv 4) dG)) (cH op_pow aV aV) (dU _)))))
   (bR (ps_asg (cH op_fdiv (dB call_abs rfl B.abs Dl.boot_abs (bK (pv 4) dG)) (pv 1)) (pg_sub (pv 0) aV set_list))
   (iB (ps_ret (cH iK (dB call_abs rfl B.abs Dl.boot_abs (bK (pv 4) dG)) (pv 1))))) pss_nil)
  (PSs.wk (t':=tTk) (bR (iC (i:=5) nd rfl (Or.inl rfl) (cH iK (cH lB (cH jA (cH jA (cH iK (pv 4) aV) (cH lB aV (pv 3))) aV) aV) aV))
  (bR (iC (i:=5) nd rfl (Or.inl rfl) (cH iK (cH jA (cH jA (cH lB (pv 5) (pv 5)) (cH lB aV (pv 5))) (pv 3)) aV))
  (bR (iC (i:=5) nd rfl (Or.inl rfl) (cH iK (cH jA (cH jA (cH lB (pv 5) (pv 5)) (cH lB aV (pv 5))) aV) aV))
  (iB (ps_ret (cH iK (cH op_fdiv (pv 5) aV) (pv 1))))))) ?tk)) ?ce))))),?_⟩
 case tk =>
  rintro D σ H' ⟨a0,a2,a5,m,a,cell,rfl,m0,m30,hq⟩
  have md:∀ x:Int,0<=x % m/\x % m<m:=fun x=>⟨Int.emod_nonneg _ (by omega),Int.emod_lt_of_pos _ m0⟩
  refine⟨_,rfl,_,_,rfl,rfl,(by show (0:Int)<2147483629; decide),_,rfl,_,_,rfl,rfl,.inl ⟨by decide,by decide⟩,_,_,rfl,rfl,_,_,rfl,rfl,_,_,rfl,rfl,.inr ⟨by decide,by decide⟩,_,_,rfl,rfl,(by show (0:Int)<2147483647; decide),?_⟩
  refine⟨_,rfl,_,rfl,_,_,rfl,rfl,.inl (mod_sm (by decide) (by decide)),_,rfl,_,_,rfl,rfl,.inl ⟨by decide,by decide⟩,_,_,rfl,rfl,_,rfl,_,_,rfl,rfl,_,_,rfl,rfl,(by show (0:Int)<2147483587; decide),?_⟩
  refine⟨_,rfl,_,rfl,_,_,rfl,rfl,.inl (mod_sm (by decide) (by decide)),_,rfl,_,_,rfl,rfl,.inl ⟨by decide,by decide⟩,_,_,rfl,rfl,_,_,rfl,rfl,_,_,rfl,rfl,(by show (0:Int)<2147483563; decide),?_⟩
  exact⟨_,rfl,_,_,rfl,rfl,⟨by decide,by decide⟩,_,rfl,_,_,rfl,rfl,m0,hq _ (md _).1 (md _).2⟩
 case ce =>
  rintro D σ H' ⟨a2,a5,m,a,cell,x,y,rfl,m0,m30,hp,hS,hq,hq2⟩
  have md:∀ x:Int,0<=x % m/\x % m<m:=fun x=>⟨Int.emod_nonneg _ (by omega),Int.emod_lt_of_pos _ m0⟩
  have el:tTk D [some (.ref p),some (.int m),a2,some (.int a),some (.int cell),a5] H':=⟨_,_,_,m,a,cell,rfl,m0,m30,hq⟩
  refine⟨_,rfl,_,rfl,p,_,_,_,rfl,rfl,SqL.of hp,rfl,sc,_,rfl,.inl hS,_,_,rfl,rfl,_,rfl,gB (fun c1=>?_) (fun c1=>bA el)⟩
  refine⟨_,rfl,cell,rfl,_,_,rfl,rfl,⟨by decide,by decide,by decide⟩,_,_,rfl,rfl,_,rfl,gB (fun c2=>?_) (fun c2=>el)⟩
  exact⟨_,rfl,cell,rfl,_,rfl,_,_,rfl,rfl,⟨m0,m30⟩,_,rfl,p,_,_,_,rfl,rfl,hp,rfl,_,rfl,cell,rfl,_,rfl,_,_,rfl,rfl,m0,hq2 _ _ (md _).1 (md _).2⟩
 have md:∀ x:Int,0<=x % m/\x % m<m:=fun x=>⟨Int.emod_nonneg _ (by omega),Int.emod_lt_of_pos _ m0⟩
 have rdk:∀ (H':Hp) (o:HO),(b=true->Rd H' sc (.lst (ns.map V.int)))->b=true->Rd (upd H' p o) sc (.lst (ns.map V.int)):=fun H' o r e=>rd_upd (r e) (hps e)
 have fin:∀ (H':Hp) (r:Int),0<=r->r<m->(∀ a o,H a=some o->a≠p->H' a=some o)->(penS p sc ns b).PI H'->Q (.int r) H':=fun H' r h1 h2 k e =>
  q _ _ _ (hP r h1 h2) (fun a o e n=>k a o e fun z=>n (.inl z)) e (.int r)
 have kU:∀ (H1:Hp) (o:HO),(∀ a o,H a=some o->a≠p->H1 a=some o)->∀ a u,H a=some u->a≠p->upd H1 p o a=some u:=fun H1 o k a u e n=>by rw [aA n]; exact k a u e n
 refine⟨_,rfl,p,_,_,_,rfl,rfl,SqL.of hp,rfl,_,_,rfl,rfl,_,rfl,gB (fun c1=>?_) (fun c1=>?_)⟩
 ·exact⟨_,rfl,p,_,_,_,rfl,rfl,SqL.of hp,rfl,_,rfl,_,_,rfl,rfl,m0,_,rfl,p,_,_,_,rfl,rfl,SqL.of hp,rfl,_,rfl,_,_,rfl,rfl,⟨m0,m30⟩,_,rfl,p,_,_,_,rfl,rfl,hp,rfl,_,rfl,fin _ _ (md _).1 (md _).2 (kU _ _ fun b o e _=>e) ⟨⟨_,_,aF⟩,rdk _ _ hsc⟩⟩
 ·have hp1:upd H p (.lst [.ref sc,.int (x+1),.int y]) p=some (.lst [.ref sc,.int (x+1),.int y]):=aF
  have r1:=rdk H (.lst [.ref sc,.int (x+1),.int y]) hsc
  have k1:=kU H (.lst [.ref sc,.int (x+1),.int y]) fun b o e _=>e
  have hS1:=pen_sq r1 hbK
  have en:∀ (a4:Int) (a2 a5:Option V),tCe K p sc ns { nx:=fun _ H'=>Q .non H',rt:=Q } [some (.ref p),some (.int m),a2,some (.int x),some (.int a4),a5] (upd H p (.lst [.ref sc,.int (x+1),.int y])):=fun a4 a2 a5 =>
   ⟨a2,a5,m,x,a4,x+1,y,rfl,m0,m30,hp1,hS1,fun r r0 r1'=>fin _ r r0 r1' k1 ⟨⟨_,_,hp1⟩,r1⟩,fun r z r0 r1'=>fin _ r r0 r1' (kU _ _ k1) ⟨⟨_,_,aF⟩,rdk _ _ r1⟩⟩
  refine⟨_,rfl,p,_,_,_,rfl,rfl,SqL.of hp,rfl,?_⟩
  refine⟨_,rfl,_,_,rfl,rfl,_,rfl,p,_,_,_,rfl,rfl,hp,rfl,?_⟩
  refine⟨_,rfl,p,_,_,_,rfl,rfl,SqL.of hp1,rfl,sc,_,rfl,.inl hS1,_,_,rfl,rfl,_,rfl,gB (fun c2=>?_) (fun c2=>en _ _ _)⟩
  have c2:=of_decide_eq_true c2
  obtain⟨v,hv⟩:=emod_ix (i:=x) c2
  exact⟨_,rfl,p,_,_,_,rfl,rfl,SqL.of hp1,rfl,_,rfl,_,rfl,p,_,_,_,rfl,rfl,SqL.of hp1,rfl,sc,_,rfl,.inl hS1,_,_,rfl,rfl,c2,sc,_,_,_,rfl,rfl,hS1,hv,en _ _ _⟩
end
end Nf
set_option maxHeartbeats 4000000
namespace Nf
open PySem L2 PyProof.Rows Dl
structure IsOrd (n:Int) (l:List Int):Prop where
 len:(l.length:Int)=n
 rng:∀ x∈l,0<=x/\x<n
 nd:l.Nodup
theorem IsOrd.ins {k:Nat}{l:List Int} (h:IsOrd k l) (j:Nat):IsOrd ((k+1:Nat):Int) (l.take j++((k:Nat):Int)::l.drop j):=by
 have p:(l.take j++((k:Nat):Int)::l.drop j).Perm (((k:Nat):Int)::l):=by
  refine List.perm_middle.trans ?_
  rw [List.take_append_drop]
 refine⟨?_,fun x hx=>?_,?_⟩
 ·rw [p.length_eq,List.length_cons]
  have:=h.len
  omega
 ·rcases List.mem_cons.mp (p.mem_iff.mp hx) with z | z
  ·omega
  ·have:=h.rng x z
   omega
 ·refine p.symm.nodup ?_
  refine List.nodup_cons.mpr ⟨fun z=>?_,h.nd⟩
  have:=h.rng _ z
  omega
theorem IsOrd.at {n:Int}{l:List Int} (h:IsOrd n l) {a:Int} (h0:0<=a) (h1:a<n):∃ x:Int,atI (l.map PyData.int) a=some (.int x)/\(0<=x/\x<n)/\l[a.toNat]?=some x:=by
 have hl:=h.len
 have hk:a.toNat<l.length:=by omega
 have ek:a=((a.toNat:Nat):Int):=by omega
 have z:atI (l.map PyData.int) ((a.toNat:Nat):Int)=some (.int l[a.toNat]):=dY (by rw [List.getElem?_map,List.getElem?_eq_getElem hk]; rfl)
 rw [← ek] at z
 exact⟨_,z,h.rng _ (List.getElem_mem hk),List.getElem?_eq_getElem hk⟩
noncomputable def OkT (n:Int) (t:Tie):Prop:=(0<=t.1/\t.1<n)/\(0<=t.2/\t.2<n)/\t.1≠t.2
noncomputable def OkN (n:Int) (us:List Tie):Prop:=∀ t∈us,OkT n t
theorem OkN.snoc {n:Int}{us:List Tie}{t:Tie} (h:OkN n us) (h':OkT n t):OkN n (us++[t]):=fun u hu=>(List.mem_append.mp hu).elim (h u) fun z=>by rw [List.mem_singleton.mp z]; exact h'
noncomputable def OkW (n:Int) (us:List Tie):Prop:=∀ t∈us,0<=t.1/\t.1<t.2/\t.2<n
theorem app1 (ts:List Tie) (a b:Int):ts.map pD++[PyData.tuple [.int a,.int b]]=(ts++[((a,b):Tie)]).map pD:=by
 rw [List.map_append]
 rfl
theorem okD_tie (us:List Tie):okD (.list (us.map pD))=true/\okD (.tuple (us.map pD))=true:=by
 have h1:∀ us:List Tie,PyData.canLayAll0 (us.map pD)=true:=fun us=>by
  induction us with
  | nil=>rfl
  | cons t us ih=>exact ih
 have h2:∀ us:List Tie,PyData.depthAll (us.map pD)<=1:=fun us=>by
  induction us with
  | nil=>exact Nat.zero_le _
  | cons t us ih =>
   show max (max 0 (max 0 0)+1) (PyData.depthAll (us.map pD))<=1
   omega
 have h3:PyData.depthAll (us.map pD)+1<=60:=by have:=h2 us; omega
 constructor
 ·show (PyData.canLayAll0 (us.map pD)&&decide (PyData.depthAll (us.map pD)+1<=60))=true
  rw [h1,decide_eq_true h3]; rfl
 ·show (PyData.canLayAll0 (us.map pD)&&decide (PyData.depthAll (us.map pD)+1<=60))=true
  rw [h1,decide_eq_true h3]; rfl
theorem two_up {x y:Int}{out:List Int} (p:out.Perm [x,y]) (s:out.Pairwise (·<=·)) (n:x≠y):∃ u v,out=[u,v]/\u<v/\(u=x\/u=y)/\(v=x\/v=y):=by
 have hl:=p.length_eq
 match out,hl with
 | [u,v],_ =>
  have hu:u∈[x,y]:=p.mem_iff.mp (by simp)
  have hv:v∈[x,y]:=p.mem_iff.mp (by simp)
  have hx:x∈[u,v]:=p.mem_iff.mpr (by simp)
  have hy:y∈[u,v]:=p.mem_iff.mpr (by simp)
  simp at hu hv hx hy s
  exact⟨u,v,rfl,by omega,hu,hv⟩
theorem small4 {x:Int} (h0:0<=x) (h1:x<4) (a b c d:D):∃ e,atI [a,b,c,d] x=some e/\(e=a\/e=b\/e=c\/e=d):=by
 rcases (by omega:x=0\/x=1\/x=2\/x=3) with rfl | rfl | rfl | rfl
 ·exact⟨a,rfl,.inl rfl⟩
 ·exact⟨b,rfl,.inr (.inl rfl)⟩
 ·exact⟨c,rfl,.inr (.inr (.inl rfl))⟩
 ·exact⟨d,rfl,.inr (.inr (.inr rfl))⟩
noncomputable def lD2 (t:Tie):D:=.list [.int t.1,.int t.2]
noncomputable def fMore (ds:List D) (P:D->Prop):Prop:=∃ (n:Int) (ts:List Tie),ds=[.int n,.list (ts.map pD)]/\2<=n/\n<=16/\ts.length<=60/\OkN n ts/\∀ t,OkT n t->P (pD t)
noncomputable def fWeb (ds:List D) (P:D->Prop):Prop:=∃ a b:Int,ds=[.int a,.int b]/\1<=a/\a<=16/\1<=b/\b<=16/\∀ (n:Int) (us:List Tie),1<=n->(n<=a\/n<=b)->us.length<=39->OkW n us->P (aP n us)
section
variable {P:Program}{w:World}{K:PySem.W.Frag}{mg:Str->Option Value}{base:Heap}{f:Addr}{fd:FuncData}
theorem sc_law_more:FnScope ["_law_pen","_law_n","_law_ties","_law_sort","_law_one"] ["_law_pen","_law_n","_law_ties"] (au (top 35)):=⟨rfl,rfl,rfl,by decide +kernel,rfl,by decide +kernel,by decide +kernel⟩
theorem ok_law_more (F:Fun K "_law_more" "_law_more" (top 35) f fd) (B:Dl.Bn mg) (C__law_take:Dl.Cal P w K mg base 1 "_law_take" ["_law_pen","_law_many"] (spP (CP K) fDraw)):FnOk P w K mg base CX0 2 f fd ["_law_pen","_law_n","_law_ties"] (spP (CP K) fMore):=by
 refine F.ok sc_law_more (len_spP fun ds P h=>?len) (fun cdv A outer s H vs Q E hr h=>?_)
 case len=>(first | (obtain⟨_,rfl,_⟩:=h; rfl) | (obtain⟨_,_,rfl,_⟩:=h; rfl) | (obtain⟨_,_,_,rfl,_⟩:=h; rfl) | (obtain⟨_,_,_,_,rfl,_⟩:=h; rfl) | (obtain⟨_,_,_,_,_,rfl,_⟩:=h; rfl) | (obtain⟨_,_,_,_,_,_,rfl,_⟩:=h; rfl) | (obtain⟨_,_,_,_,_,_,_,rfl,_⟩:=h; rfl) | (obtain⟨rfl,_⟩:=h; rfl))
 have nd:=sc_law_more.nd
 refine⟨_,Wr.WDSs.h (Wr.ao (Wr.aN none (i:=3) nd rfl (by first | exact Or.inl rfl | exact Or.inr rfl) (Wr.dcP C__law_take hr (Wr.wv 0) (Wr.aj Wr.aq Wr.ak)))
  (Wr.ao (Wr.bJ (Wr.wpt (Wr.iG (Wr.mD hr.units (Wr.dv 3) Wr.aq) (Wr.ju (Wr.bW hr.units (Wr.dv 2) (Wr.aU Wr.ak))))) (Wr.aD (Wr.aK (Wr.aB (Wr.dv 2) (Wr.dcP C__law_take hr (Wr.wv 0) (Wr.aj (Wr.dh B.len (Wr.aj (Wr.dv 2) Wr.ak)) Wr.ak))))) Wr.aJ)
  (Wr.ao (Wr.aN none (i:=4) nd rfl (by first | exact Or.inl rfl | exact Or.inr rfl) (Wr.dcP C__law_take hr (Wr.wv 0) (Wr.aj (Wr.dv 1) Wr.ak)))
  (Wr.ao (Wr.bJ (Wr.wpt (Wr.iG (Wr.mD hr.units (Wr.dv 3) Wr.aq) (Wr.ju (Wr.pdt_gt (Wr.dv 1) Wr.aq)))) (Wr.aD (Wr.aK (Wr.aQ (Wr.aj (Wr.dv 4) (Wr.aj (Wr.pd_mod (Wr.cA (Wr.dv 4) Wr.aq) (Wr.dv 1)) Wr.ak))))) Wr.aJ)
  (Wr.aD (Wr.aK (Wr.aQ (Wr.aj (Wr.dv 4) (Wr.aj (Wr.pd_mod (Wr.cA (Wr.cA (Wr.dv 4) Wr.aq) (Wr.dcP C__law_take hr (Wr.wv 0) (Wr.aj (Wr.jx (Wr.dv 1) Wr.aq) Wr.ak))) (Wr.dv 1)) Wr.ak))))))))),enterQ h ?_⟩
 rintro ds P ⟨n,ts,rfl,n2,n16,lt,ok,q⟩
 refine⟨[.im (.int n),.sh (.list (ts.map pD)),.any,.any],rfl,?_⟩
 refine⟨rfl,4,rfl,by decide,by decide,fun r r0 r1=>?_⟩
 have rest:∀ s:Int,dSeq (dSet 4 none (tFnP (CP K) fDraw 0 (cL (tV 1) iZ)))
   (dSeq (dIf (dAnd (dM (t2 (gEqA false) (tV 3) (tK (PyData.int 1)))) (dM (t2 (gI0 fun i j=>PyData.bool (decide (j<i))) (tV 1) (tK (PyData.int 2)))))
    (dRet (lq (cL (tV 4) (cL (t2 (gI (fun x j=>0<j) fun i j=>PyData.int (i % j)) (t2 gPlus (tV 4) (tK (PyData.int 2))) (tV 1)) iZ)))) dNext)
   (dRet (lq (cL (tV 4) (cL (t2 (gI (fun x j=>0<j) fun i j=>PyData.int (i % j)) (t2 gPlus (t2 gPlus (tV 4) (tK (PyData.int 1))) (tFnP (CP K) fDraw 0 (cL (t2 (gI0 fun i j=>PyData.int (i - j)) (tV 1) (tK (PyData.int 1))) iZ))) (tV 1)) iZ)))))
   { nx:=fun x=>P PyData.none,rt:=P } [.pen (CP K),.im (.int n),.sh (.list (ts.map pD)),.im (.int s),.any]:=by
  intro s
  refine⟨rfl,n,rfl,by omega,by omega,fun o o0 o1=>?_⟩
  have last:∀ d:Int,0<=d->d<n - 1->OkT n (o,(o+1+d) % n):=fun d d0 d1=>by
   have e1:=Int.emod_nonneg (o+1+d) (b:=n) (by omega)
   have e2:=Int.emod_lt_of_pos (o+1+d) (b:=n) (by omega)
   refine⟨⟨o0,o1⟩,⟨e1,e2⟩,fun z=>?_⟩
   have z:o=(o+1+d) % n:=z
   by_cases hh:o+1+d<n
   ·rw [Int.emod_eq_of_lt (by omega) hh] at z
    omega
   ·have:(o+1+d) % n=o+1+d - n:=by
     have h2:(o+1+d)=(o+1+d - n)+n:=by omega
     rw [h2,Int.add_emod_right,Int.emod_eq_of_lt (by omega) (by omega)]
     omega
    omega
  have el:dRet (lq (cL (tV 4) (cL (t2 (gI (fun x j=>0<j) fun i j=>PyData.int (i % j)) (t2 gPlus (t2 gPlus (tV 4) (tK (PyData.int 1))) (tFnP (CP K) fDraw 0 (cL (t2 (gI0 fun i j=>PyData.int (i - j)) (tV 1) (tK (PyData.int 1))) iZ))) (tV 1)) iZ))) { nx:=fun x=>P PyData.none,rt:=P } [.pen (CP K),.im (.int n),.sh (.list (ts.map pD)),.im (.int s),.im (.int o)] :=
   ⟨rfl,n - 1,rfl,by omega,by omega,fun d d0 d1=>⟨by omega,(show 2<=1000 by decide),rfl,q (o,(o+1+d) % n) (last d d0 d1)⟩⟩
  show if decide (s=1)=true then _ else _
  refine gB (fun c=>?_) (fun c=>bA (A:=True) el)
  show if decide (2<n)=true then _ else _
  refine gB (fun c=>?_) (fun c=>el)
  have c:=of_decide_eq_true c
  have lo:=last 1 (by omega) (by omega)
  exact⟨by omega,(show 2<=1000 by decide),rfl,q (o,(o+2) % n) (by rw [show o+2=o+1+1 by omega]; exact lo)⟩
 show if decide (r=0)=true then _ else _
 refine gB (fun c=>?_) (fun c=>bA (A:=True) (rest r))
 refine⟨(show 0<=1000 by decide),(okD_tie ts).1,rfl,?_⟩
 show if (!(PyData.eqv (.list (ts.map pD)) (.list [])))=true then _ else _
 cases ts with
 | nil=>exact bA (A:=True) (rest r)
 | cons t ts =>
  refine cD (B:=True) ⟨rfl,_,rfl,?_,?_,fun d d0 d1=>?_⟩
  ·show (0:Int)<(((t::ts).map pD).length:Nat)
   rw [List.length_map,List.length_cons]; omega
  ·show (((t::ts).map pD).length:Int)<1073741824
   rw [List.length_map]; omega
  ·rw [List.length_map] at d1
   have hk:d.toNat<(t::ts).length:=by omega
   have ek:d=((d.toNat:Nat):Int):=by omega
   have z:atI ((t::ts).map pD) ((d.toNat:Nat):Int)=some (pD (t::ts)[d.toNat]):=dY (by rw [List.getElem?_map,List.getElem?_eq_getElem hk]; rfl)
   rw [← ek] at z
   exact⟨_,z,rfl,q _ (ok _ (List.getElem_mem hk))⟩
theorem sc_law_web:FnScope ["_law_pen","_law_few","_law_great","_law_n","_law_turned","_law_k","_law_shape","_law_spared","_law_ties","_law_other","_law_turn","_law_found"] ["_law_pen","_law_few","_law_great"] (au (top 36)):=⟨rfl,rfl,rfl,by decide +kernel,rfl,by decide +kernel,by decide +kernel⟩
theorem fG:(["_law_a","_law_b","_law_pen","_law_few","_law_great","_law_n","_law_turned","_law_k","_law_shape","_law_spared","_law_ties","_law_other","_law_turn","_law_found"]:List Str).Nodup:=by decide +kernel
theorem ok_law_web (F:Fun K "_law_web" "_law_web" (top 36) f fd) (B:Dl.Bn mg) (C__law_take:Dl.Cal P w K mg base 1 "_law_take" ["_law_pen","_law_many"] (spP (CP K) fDraw)) (C__law_more:Dl.Cal P w K mg base 2 "_law_more" ["_law_pen","_law_n","_law_ties"] (spP (CP K) fMore)):FnOk P w K mg base CX0 3 f fd ["_law_pen","_law_few","_law_great"] (spP (CP K) fWeb):=by
 refine F.ok sc_law_web (len_spP fun ds P h=>?len) (fun cdv A outer s H vs Q E hr h=>?_)
 case len=>(first | (obtain⟨_,rfl,_⟩:=h; rfl) | (obtain⟨_,_,rfl,_⟩:=h; rfl) | (obtain⟨_,_,_,rfl,_⟩:=h; rfl) | (obtain⟨_,_,_,_,rfl,_⟩:=h; rfl) | (obtain⟨_,_,_,_,_,rfl,_⟩:=h; rfl) | (obtain⟨_,_,_,_,_,_,rfl,_⟩:=h; rfl) | (obtain⟨_,_,_,_,_,_,_,rfl,_⟩:=h; rfl) | (obtain⟨rfl,_⟩:=h; rfl))
 have nd:=sc_law_web.nd
 refine⟨_,Wr.WDSs.h (Wr.ao (Wr.aN none (i:=3) nd rfl (by first | exact Or.inl rfl | exact Or.inr rfl) (Wr.cA Wr.aq (Wr.dcP C__law_take hr (Wr.wv 0) (Wr.aj (Wr.aB (Wr.aU (Wr.aj (Wr.dv 1) (Wr.aj (Wr.dv 2) Wr.ak))) (Wr.j4 B.int boot_int (Wr.aj (Wr.iJ hr.units (Wr.dcP C__law_take hr (Wr.wv 0) (Wr.aj Wr.aq Wr.ak)) Wr.aq) Wr.ak))) Wr.ak))))
  (Wr.ao (Wr.aN (some 0) (i:=4) nd rfl (by first | exact Or.inl rfl | exact Or.inr rfl) (Wr.aU Wr.ak))
  (Wr.ao (Wr.bT PassesOwn.never rfl (Wr.bG B.range (Wr.aj (Wr.dv 3) Wr.ak)) (Wr.aG (i:=5) nd rfl (by first | exact Or.inl rfl | exact Or.inr rfl)) (Wr.ao (Wr.ds_insert (Wr.wv 4) (Wr.aj (Wr.dcP C__law_take hr (Wr.wv 0) (Wr.aj (Wr.cA (Wr.dv 5) Wr.aq) Wr.ak)) (Wr.aj (Wr.dv 5) Wr.ak))) (Wr.aC [5] Wr.aJ)))
  (Wr.aC [5] (Wr.ao (Wr.aN none (i:=6) nd rfl (by first | exact Or.inl rfl | exact Or.inr rfl) (Wr.dcP C__law_take hr (Wr.wv 0) (Wr.aj Wr.aq Wr.ak)))
  (Wr.ao (Wr.aN none (i:=7) nd rfl (by first | exact Or.inl rfl | exact Or.inr rfl) (Wr.aB (Wr.aU (Wr.aj Wr.aq (Wr.aj Wr.aq (Wr.aj Wr.aq (Wr.aj Wr.aq Wr.ak))))) (Wr.dcP C__law_take hr (Wr.wv 0) (Wr.aj Wr.aq Wr.ak))))
  (Wr.ao (Wr.aN (some 1) (i:=8) nd rfl (by first | exact Or.inl rfl | exact Or.inr rfl) (Wr.aU Wr.ak))
  (Wr.ao (Wr.bT PassesOwn.never rfl (Wr.di_range2 B.range (Wr.aj Wr.aq (Wr.aj (Wr.dv 3) Wr.ak))) (Wr.aG (i:=5) nd rfl (by first | exact Or.inl rfl | exact Or.inr rfl)) (Wr.ao (Wr.aN none (i:=9) nd rfl (by first | exact Or.inl rfl | exact Or.inr rfl) (Wr.aB (Wr.aU (Wr.aj (Wr.jx (Wr.dv 5) Wr.aq) (Wr.aj (Wr.dcP C__law_take hr (Wr.wv 0) (Wr.aj (Wr.dv 5) Wr.ak)) (Wr.aj (Wr.pd_max2 rfl B.max (Wr.aj Wr.aq (Wr.aj (Wr.jx (Wr.jx (Wr.dv 5) Wr.aq) (Wr.dcP C__law_take hr (Wr.wv 0) (Wr.aj Wr.aq Wr.ak))) Wr.ak))) (Wr.aj Wr.aq Wr.ak))))) (Wr.dv 6)))
  (Wr.ao (Wr.bJ (Wr.pdt_ge (Wr.dcP C__law_take hr (Wr.wv 0) (Wr.aj Wr.aq Wr.ak)) (Wr.dv 7)) (Wr.aD (Wr.cY (Wr.wv 8) (Wr.aj (Wr.aQ (Wr.aj (Wr.dv 9) (Wr.aj (Wr.dv 5) Wr.ak))) Wr.ak))) Wr.aJ) (Wr.aC [5,9] Wr.aJ))))
  (Wr.aC [5,9] (Wr.ao (Wr.bT PassesOwn.never rfl (Wr.bG B.range (Wr.aj (Wr.gP (Wr.dcP C__law_take hr (Wr.wv 0) (Wr.aj (Wr.aB (Wr.aU (Wr.aj Wr.aq (Wr.aj Wr.aq (Wr.aj Wr.aq (Wr.aj Wr.aq Wr.ak))))) (Wr.dcP C__law_take hr (Wr.wv 0) (Wr.aj Wr.aq Wr.ak))) Wr.ak)) (Wr.j4 B.int boot_int (Wr.aj (Wr.pd_gt (Wr.dv 3) Wr.aq) Wr.ak))) Wr.ak)) (Wr.aG (i:=10) nd rfl (by first | exact Or.inl rfl | exact Or.inr rfl)) (Wr.ao (Wr.cY (Wr.wv 8) (Wr.aj (Wr.dcP C__law_more hr (Wr.wv 0) (Wr.aj (Wr.dv 3) (Wr.aj (Wr.dv 8) Wr.ak))) Wr.ak)) (Wr.aC [10] Wr.aJ)))
  (Wr.aC [10] (Wr.ao (Wr.ds_setlc none ["_law_a","_law_b"] (i:=11) rfl nd rfl (by first | exact Or.inl rfl | exact Or.inr rfl) (Wr.cg (Wr.dv 8)) (fun c=>(Wr.fP (n:=2) rfl (Wr.bx (Wr.aG (i:=0) fG rfl (by first | exact Or.inl rfl | exact Or.inr rfl)) (Wr.bx (Wr.aG (i:=1) fG rfl (by first | exact Or.inl rfl | exact Or.inr rfl)) Wr.dF)))) (fun c=>Wr.j8) (fun c=>(Wr.fL B.sorted (Wr.aj (Wr.aU (Wr.aj (Wr.aB (Wr.dv 6) (Wr.dv 0)) (Wr.aj (Wr.aB (Wr.dv 6) (Wr.dv 1)) Wr.ak))) Wr.ak))))
  (Wr.aD (Wr.aK (Wr.aQ (Wr.aj (Wr.dv 3) (Wr.aj (Wr.jZ B.tuple (Wr.aj (Wr.pd_sortP B.sorted (Wr.aj (Wr.fX ["_law_a","_law_b"] rfl (Wr.cg (Wr.dv 11)) (fun c=>(Wr.dg_lst (n:=2) rfl (Wr.bx (Wr.aG (i:=0) fG rfl (by first | exact Or.inl rfl | exact Or.inr rfl)) (Wr.bx (Wr.aG (i:=1) fG rfl (by first | exact Or.inl rfl | exact Or.inr rfl)) Wr.dF)))) (fun c=>Wr.j8) (fun c=>(Wr.aQ (Wr.aj (Wr.dv 0) (Wr.aj (Wr.dv 1) Wr.ak))))) Wr.ak)) Wr.ak)) Wr.ak))))))))))))))))),enterQ h ?_⟩
 rintro ds P ⟨a,b,rfl,a1,a16,b1,b16,q⟩
 refine⟨[.im (.int a),.im (.int b),.any,.any,.any,.any,.any,.any,.any,.any,.any],rfl,?_⟩
 refine⟨rfl,(show 2<=1000 by decide),rfl,12,rfl,by decide,by decide,fun r r0 r1=>?_⟩
 obtain⟨m,m1,m16,mab,hm⟩:∃ m:Int,1<=m/\m<=16/\(m=a\/m=b)/\atI [PyData.int a,PyData.int b] (if decide (r=11)=true then 1 else 0)=some (.int m):=by
  cases decide (r=11)
  ·exact⟨a,a1,a16,.inl rfl,rfl⟩
  ·exact⟨b,b1,b16,.inr rfl,rfl⟩
 refine⟨.int m,hm,m,rfl,by omega,by omega,fun x x0 x1=>?_⟩
 have n1:1<=1+x:=by omega
 have nm:1+x<=m:=by omega
 show dSet 3 none (fun _ P=>P .imm (.int (1+x))) _ _
 generalize 1+x=n at n1 nm
 clear hm x0 x1
 refine⟨(show 0<=1000 by decide),⟨by omega,by omega⟩,rfl,fun (i:Nat) ρ=>∃ (l:List Int),ρ=[.pen (CP K),.im (.int a),.im (.int b),.im (.int n),.dw 0 (.list (l.map PyData.int)),.any,.any,.any,.any,.any,.any,.any]/\IsOrd i l,⟨[],rfl,rfl,fun x hx=>(nomatch hx),.nil⟩,?_,?_⟩
 ·rintro i d ρ hd ⟨l,rfl,hl⟩
  obtain⟨hi,rfl⟩:=cP hd
  have hlen:=hl.len
  refine⟨rfl,_,rfl,by omega,by omega,fun r r0 r1=>⟨rfl,r0,?_,?_,?_⟩⟩
  ·rw [List.length_map]; omega
  ·rw [List.length_map]; omega
  ·refine⟨l.take r.toNat++((i:Nat):Int)::l.drop r.toNat,?_,hl.ins r.toNat⟩
   show [Sl.pen (CP K),_,_,_,Sl.dw 0 (.list ((l.map PyData.int).take r.toNat++PyData.int (0+((i:Nat):Int))::(l.map PyData.int).drop r.toNat)),_,_,_,_,_,_,_]=_
   rw [List.map_append,List.map_cons,List.map_take,List.map_drop,Int.zero_add]
   rfl
 rintro ρ ⟨l,rfl,hl⟩
 rw [bO] at hl
 rw [show ((n.toNat:Nat):Int)=n by omega] at hl
 refine⟨rfl,4,rfl,by decide,by decide,fun sh s0 s1=>?_⟩
 refine⟨(show 4<=1000 by decide),rfl,4,rfl,by decide,by decide,fun p p0 p1=>?_⟩
 obtain⟨v,hv⟩:∃ v:Int,atI [PyData.int 0,.int 0,.int 1,.int 4] p=some (.int v):=by
  obtain⟨e,he,z⟩:=small4 p0 p1 (.int 0) (.int 0) (.int 1) (.int 4)
  rcases z with rfl | rfl | rfl | rfl <;> exact⟨_,he⟩
 refine⟨.int v,hv,(show 0<=1000 by decide),?_⟩
 refine⟨⟨by omega,by omega,by omega,by omega⟩,rfl,fun (i:Nat) ρ=>∃ (ts:List Tie),ρ=[.pen (CP K),.im (.int a),.im (.int b),.im (.int n),.dw 0 (.list (l.map PyData.int)),.any,.im (.int sh),.im (.int v),.dw 1 (.list (ts.map pD)),.any,.any,.any]/\ts.length<=i/\OkN n ts,⟨[],rfl,Nat.le_refl _,fun t ht=>nomatch ht⟩,?_,?_⟩
 ·rintro i d ρ hd ⟨ts,rfl,lt,ok⟩
  obtain⟨hi,rfl⟩:=cP hd
  have lm:(ts.map pD).length=ts.length:=List.length_map ..
  refine⟨rfl,1+((i:Nat):Int),rfl,by omega,by omega,fun x x0 x1=>⟨rfl,2,rfl,by decide,by decide,fun y y0 y1=>⟨(show 4<=1000 by decide),?_⟩⟩⟩
  obtain⟨o,ho,o0,o1⟩:∃ o:Int,atI [PyData.int (1+((i:Nat):Int) - 1),.int x,.int (if 1+((i:Nat):Int) - 1 - y > 0 then 1+((i:Nat):Int) - 1 - y else 0),.int 0] sh=some (.int o)/\0<=o/\o<1+((i:Nat):Int):=by
   obtain⟨e,he,z⟩:=small4 s0 s1 (.int (1+((i:Nat):Int) - 1)) (.int x) (.int (if 1+((i:Nat):Int) - 1 - y > 0 then 1+((i:Nat):Int) - 1 - y else 0)) (.int 0)
   rcases z with rfl | rfl | rfl | rfl
   ·exact⟨_,he,by omega,by omega⟩
   ·exact⟨_,he,by omega,by omega⟩
   ·refine⟨_,he,?_,?_⟩ <;> split <;> omega
   ·exact⟨_,he,by omega,by omega⟩
  refine⟨.int o,ho,rfl,12,rfl,by decide,by decide,fun z z0 z1=>?_⟩
  show if decide (v<=z)=true then _ else _
  refine gB (fun c=>⟨(show 2<=1000 by decide),rfl,by omega,ts++[(o,1+((i:Nat):Int))],?_,by rw [List.length_append,List.length_singleton]; omega,ok.snoc ⟨⟨o0,by omega⟩,⟨by omega,by omega⟩,fun e=>?_⟩⟩) (fun c=>⟨ts,rfl,by omega,ok⟩)
  ·rw [← app1]; rfl
  ·have e:o=1+((i:Nat):Int):=e
   omega
 rintro ρ ⟨ts,rfl,lt,ok⟩
 rw [bO] at lt
 have lt:ts.length<=15:=by omega
 refine⟨rfl,(show 4<=1000 by decide),rfl,4,rfl,by decide,by decide,fun p p0 p1=>?_⟩
 obtain⟨c,hc,c0,c1⟩:∃ c:Int,atI [PyData.int 1,.int 3,.int 6,.int 25] p=some (.int c)/\1<=c/\c<=25:=by
  obtain⟨e,he,z⟩:=small4 p0 p1 (.int 1) (.int 3) (.int 6) (.int 25)
  rcases z with rfl | rfl | rfl | rfl
  ·exact⟨1,he,by decide,by decide⟩
  ·exact⟨3,he,by decide,by decide⟩
  ·exact⟨6,he,by decide,by decide⟩
  ·exact⟨25,he,by decide,by decide⟩
 refine⟨.int c,hc,c,rfl,by omega,by omega,fun z z0 z1=>?_⟩
 obtain⟨g,hg,g01,g1⟩:∃ g:Int,(if decide (1<n)=true then (1:Int) else 0)=g/\(g=0\/g=1)/\(g=1->2<=n):=by
  by_cases h:1<n
  ·exact⟨1,if_pos (decide_eq_true h),.inr rfl,fun _=>by omega⟩
  ·exact⟨0,if_neg (by rw [decide_eq_false h]; exact Bool.false_ne_true),.inl rfl,fun z=>by omega⟩
 have zg:0<=z * g/\z * g<=24/\(0<z * g->2<=n):=by
  rcases g01 with rfl | rfl
  ·rw [Int.mul_zero]; omega
  ·rw [Int.mul_one]; omega
 show CMul z (if decide (1<n)=true then (1:Int) else 0)/\_
 rw [hg]
 refine⟨.inr (by rcases g01 with rfl | rfl <;> exact⟨by decide,by decide⟩),?_⟩
 show (-(2 ^ 62)<=z * g/\z * g<2 ^ 62)/\_
 generalize z * g=w0 at zg
 refine⟨⟨by omega,by omega⟩,rfl,fun (i:Nat) ρ=>∃ (ts:List Tie),ρ=[.pen (CP K),.im (.int a),.im (.int b),.im (.int n),.dw 0 (.list (l.map PyData.int)),.any,.im (.int sh),.im (.int v),.dw 1 (.list (ts.map pD)),.any,.any,.any]/\ts.length<=15+i/\OkN n ts,⟨ts,rfl,lt,ok⟩,?_,?_⟩
 ·rintro i d ρ hd ⟨ts,rfl,lt,ok⟩
  obtain⟨hi,rfl⟩:=cP hd
  have lm:(ts.map pD).length=ts.length:=List.length_map ..
  refine⟨rfl,n,ts,rfl,zg.2.2 (by omega),by omega,by omega,ok,fun t ht=>⟨rfl,by omega,ts++[t],?_,by rw [List.length_append,List.length_singleton]; omega,ok.snoc ht⟩⟩
  rw [List.map_append]; rfl
 rintro ρ ⟨ts,rfl,lt,ok⟩
 rw [bO] at lt
 have lt:ts.length<=39:=by omega
 have lm:(ts.map pD).length=ts.length:=List.length_map ..
 refine⟨by omega,.new,fun i ys=>∃ us:List Tie,ys=us.map lD2/\us.length=i/\OkW n us,⟨[],rfl,rfl,fun t ht=>nomatch ht⟩,?_,?_⟩
 ·rintro i d ys hd ⟨us,rfl,hu,oku⟩
  obtain⟨t,ht,rfl⟩:=gb hd
  obtain⟨⟨a0,a1⟩,⟨b0,b1⟩,nab⟩:=ok t (List.mem_of_getElem? ht)
  obtain⟨x,ex,xr,xl⟩:=hl.at a0 a1
  obtain⟨y,ey,yr,yl⟩:=hl.at b0 b1
  have nxy:x≠y:=fun e=>by
   subst e
   have h1:=List.getElem?_eq_some_iff.mp xl
   have h2:=List.getElem?_eq_some_iff.mp yl
   have:=(List.getElem_inj hl.nd (h₀:=h1.1) (h₁:=h2.1)).mp (h1.2.trans h2.2.symm)
   omega
  refine⟨rfl,cD (B:=True) ⟨.int x,ex,.int y,ey,(show 2<=1000 by decide),[x,y],rfl,(show 2<64 by decide),fun out hp hs=>?_⟩⟩
  obtain⟨u,v,rfl,uv,eu,ev⟩:=two_up hp hs nxy
  refine⟨rfl,us++[(u,v)],by rw [List.map_append]; rfl,by rw [List.length_append,List.length_singleton,hu],fun w hw=>?_⟩
  rcases List.mem_append.mp hw with z | z
  ·exact oku w z
  ·rw [List.mem_singleton.mp z]
   exact⟨by rcases eu with rfl | rfl <;> omega,uv,by rcases ev with rfl | rfl <;> omega⟩
 rintro ys ⟨us,rfl,hu,oku⟩
 have lu:(us.map lD2).length=us.length:=List.length_map ..
 have hu:us.length<=39:=by omega
 refine lc_m us lD2 pD .imm rfl (by omega) (fun t ht A B hA=>⟨rfl,cD (B:=B) ⟨(show 2<=1000 by decide),rfl,hA⟩⟩) ?_
 refine⟨us,.inl rfl,by omega,fun t ht=>⟨by have:=oku t ht; omega,by have:=oku t ht; omega⟩,fun us' hp _=>⟨(show 2<=1000 by decide),?_,q n us' n1 ?_ (by rw [hp.length_eq]; omega) fun t ht=>oku t (hp.mem_iff.mp ht)⟩⟩
 ·have e:=imm_web n us'
  show (norm _ (aP n us')).le .n0=true
  rw [dD e]
  rfl
 ·rcases mab with rfl | rfl
  ·exact .inl nm
  ·exact .inr nm
end
inductive Rt (us:List Tie):Int->Int->Prop
 | refl (a:Int):Rt us a a
 | step {a b c:Int} (h:Rt us a b) (t:(b,c)∈us):Rt us a c
theorem Rt.trans {us:List Tie}{a b c:Int} (h:Rt us a b) (k:Rt us b c):Rt us a c:=by
 induction k with
 | refl=>exact h
 | step _ t ih=>exact .step ih t
theorem rt_swap {us vs:List Tie} (h:∀ a b,(a,b)∈us->(b,a)∈vs) {a b:Int} (r:Rt us a b):Rt vs b a:=by
 induction r with
 | refl=>exact .refl _
 | step _ t ih=>exact (Rt.step (.refl _) (h _ _ t)).trans ih
theorem Rt.mono {us vs:List Tie} (h:∀ t∈us,t∈vs) {a b:Int} (r:Rt us a b):Rt vs a b:=by
 induction r with
 | refl=>exact .refl _
 | step _ t ih=>exact .step ih (h _ t)
theorem Rt.sym {us:List Tie} (h:∀ a b,(a,b)∈us->(b,a)∈us) {a b:Int} (r:Rt us a b):Rt us b a:=rt_swap h r
theorem Rt.rng {us:List Tie}{n:Nat} (ok:∀ t∈us,0<=t.2/\t.2<n) {a b:Int} (h:0<=a/\a<n) (r:Rt us a b):0<=b/\b<n:=by
 cases r with
 | refl=>exact h
 | step _ t=>exact ok _ t
open Classical in
noncomputable def RZ (us:List Tie) (a b:Int):Bool:=decide (Rt us a b)
theorem cG {us:List Tie}{a b:Int}:RZ us a b=true↔Rt us a b:=by
 classical
 unfold RZ
 exact decide_eq_true_iff
noncomputable def RB (us:List Tie) (a b:Nat):Bool:=RZ us ((a:Nat):Int) ((b:Nat):Int)
theorem jc {us:List Tie}{a b:Nat}:RB us a b=true↔Rt us ((a:Nat):Int) ((b:Nat):Int):=cG
theorem RB_self (us:List Tie) (a:Nat):RB us a a=true:=jc.mpr (.refl _)
noncomputable def fZ (R:Nat->Nat->Bool) (n a:Nat):List Nat:=(List.range n).filter fun b=>R a b&&R b a
noncomputable def jG (R:Nat->Nat->Bool) (n a:Nat):Bool:=decide ((fZ R n a).head?=some a)
noncomputable def zI (l:List Nat):List Int:=l.map fun i:Nat=>0+((i:Nat):Int)
noncomputable def clsI (R:Nat->Nat->Bool) (n k:Nat):List (List Int):=(((List.range n).take k).filter (jG R n)).map fun a=>zI (fZ R n a)
theorem cls_len (R:Nat->Nat->Bool) (n k:Nat):(clsI R n k).length<=n:=by
 unfold clsI
 rw [List.length_map]
 have h1:=List.length_filter_le (jG R n) ((List.range n).take k)
 rw [List.length_take,List.length_range] at h1
 omega
theorem cls_snoc (R:Nat->Nat->Bool) {n k:Nat} (h:k<n):clsI R n (k+1)=clsI R n k++if jG R n k=true then [zI (fZ R n k)] else []:=by
 unfold clsI
 have e:(List.range n).take (k+1)=(List.range n).take k++[k]:=by
  rw [List.take_add_one,List.getElem?_range h]
  rfl
 rw [e,List.filter_append,List.map_append]
 cases hf:jG R n k <;> simp [hf]
theorem mem_zI {l:List Nat}{x:Int}:x∈zI l↔0<=x/\x.toNat∈l:=by
 unfold zI
 rw [List.mem_map]
 constructor
 ·rintro ⟨i,hi,rfl⟩
  rw [show ((0+((i:Nat):Int)).toNat)=i by omega]
  exact⟨by omega,hi⟩
 ·intro h
  exact⟨x.toNat,h.2,by omega⟩
theorem mem_zr {n:Nat}{x:Int}:x∈zI (List.range n)↔0<=x/\x<n:=by
 rw [mem_zI,List.mem_range]
 omega
theorem zI_rise {l:List Nat} (h:l.Pairwise (·<·)):(zI l).Pairwise (·<·):=by
 unfold zI
 rw [List.pairwise_map]
 exact h.imp fun h=>by omega
noncomputable def rsI (vs:List Tie) (n:Nat) (a:Int):List Int:=(zI (List.range n)).filter (RZ vs a)
theorem dH {vs:List Tie}{n:Nat}{a x:Int}:x∈rsI vs n a↔(0<=x/\x<n)/\Rt vs a x:=by
 unfold rsI
 rw [List.mem_filter,mem_zr,cG]
theorem jV {vs:List Tie}{n:Nat}{a:Int}:(rsI vs n a).Pairwise (·<·):=(zI_rise List.pairwise_lt_range).filter _
theorem rs_len (vs:List Tie) (n:Nat) (a:Int):(rsI vs n a).length<=n:=by
 unfold rsI
 have:=List.length_filter_le (RZ vs a) (zI (List.range n))
 unfold zI at this
 rw [List.length_map,List.length_range] at this
 exact this
theorem rise_nd {l:List Int} (h:l.Pairwise (·<·)):l.Nodup:=h.imp fun h=>by omega
theorem rise_same {out ks l:List Int} (hp:out.Perm ks) (hs:out.Pairwise (·<=·)) (hn:ks.Nodup) (hl:l.Pairwise (·<·)) (hk:∀ q,q∈ks↔q∈l):out=l :=
 PySem.W.ksm_same (hp.trans ((List.perm_ext_iff_of_nodup hn (rise_nd hl)).mpr hk)) hs (hl.imp fun h=>by omega)
theorem rise_ext {l k:List Int} (hl:l.Pairwise (·<·)) (hk:k.Pairwise (·<·)) (h:∀ q,q∈l↔q∈k):l=k:=rise_same (List.Perm.refl _) (hl.imp fun h=>by omega) (rise_nd hl) hk h
theorem rs_eq {vs:List Tie}{n:Nat}{a:Int}{out ks:List Int} (hp:out.Perm ks) (hs:out.Pairwise (·<=·)) (hn:ks.Nodup) (hk:∀ q,q∈ks↔Rt vs a q) (hr:∀ q,Rt vs a q->0<=q/\q<n):out=rsI vs n a :=
 rise_same hp hs hn jV fun q=>by
  rw [dH,hk]
  exact⟨fun h=>⟨hr q h,h⟩,fun h=>h.2⟩
theorem rs_cong {vs us:List Tie}{n:Nat}{a:Int} (h:∀ x,Rt vs a x↔Rt us a x):rsI vs n a=rsI us n a:=rise_ext jV jV fun q=>by rw [dH,dH,h]
noncomputable def adj (us:List Tie) (F B:List Int):List Tie:=us.zipIdx.flatMap fun p=>if ((p.2:Nat):Int)∈F then [] else [p.1,(p.1.2,p.1.1)].filter fun t=>decide (t.2∉B)
theorem cC {us:List Tie}{F B:List Int}{x y:Int}:(x,y)∈adj us F B↔∃ k:Nat,(us[k]?=some (x,y)\/us[k]?=some (y,x))/\((k:Nat):Int)∉F/\y∉B:=by
 unfold adj
 rw [List.mem_flatMap]
 constructor
 ·rintro ⟨⟨t,k⟩,hk,h⟩
  have hk:=List.mem_zipIdx_iff_getElem?.mp hk
  by_cases hF:((k:Nat):Int)∈F
  ·rw [if_pos hF] at h; cases h
  ·rw [if_neg hF,List.mem_filter] at h
   obtain⟨h,hB⟩:=h
   refine⟨k,?_,hF,of_decide_eq_true hB⟩
   rcases List.mem_cons.mp h with e | e
   ·left; rw [e]; exact hk
   ·right
    have e:=List.mem_singleton.mp e
    have e1:x=t.2:=congrArg Prod.fst e
    have e2:y=t.1:=congrArg Prod.snd e
    rw [e1,e2]; exact hk
 ·rintro ⟨k,h,hF,hB⟩
  rcases h with h | h
  ·refine⟨((x,y),k),List.mem_zipIdx_iff_getElem?.mpr h,?_⟩
   rw [if_neg hF,List.mem_filter]
   exact⟨List.mem_cons_self,decide_eq_true hB⟩
  ·refine⟨((y,x),k),List.mem_zipIdx_iff_getElem?.mpr h,?_⟩
   rw [if_neg hF,List.mem_filter]
   exact⟨List.mem_cons_of_mem _ (List.mem_singleton.mpr rfl),decide_eq_true hB⟩
theorem adj_rng {us:List Tie}{F B:List Int}{n:Int} (ok:OkN n us) (n0:0<=n):∀ t∈adj us F B,(0<=t.1/\t.1<(n.toNat:Nat))/\0<=t.2/\t.2<(n.toNat:Nat):=by
 rintro ⟨x,y⟩ h
 obtain⟨k,e,_⟩:=cC.mp h
 have en:((n.toNat:Nat):Int)=n:=by omega
 rcases e with e | e
 ·have o:=ok _ (List.mem_of_getElem? e)
  exact⟨by rw [en]; exact o.1,by rw [en]; exact o.2.1⟩
 ·have o:=ok _ (List.mem_of_getElem? e)
  exact⟨by rw [en]; exact o.2.1,by rw [en]; exact o.1⟩
theorem kE {us:List Tie}{F:List Int}:∀ a b,(a,b)∈adj us F []->(b,a)∈adj us F []:=fun a b h=>by
 obtain⟨k,e,hF,_⟩:=cC.mp h
 exact cC.mpr ⟨k,e.symm,hF,fun z=>nomatch z⟩
theorem OkW.okN {n:Int}{us:List Tie} (h:OkW n us):OkN n us:=fun t ht=>by
 have:=h t ht
 exact⟨⟨by omega,by omega⟩,⟨by omega,by omega⟩,by omega⟩
theorem jP (x a b:Int):([PyData.int a,.int b].any fun e=>PyData.eqv e (.int x))=decide (x=a\/x=b):=by
 show (a == x || (b == x || false))=_
 rw [Bool.eq_iff_iff]
 simp
 omega
theorem gR {n:Nat}{l:List Int} (nd:l.Nodup) (h:∀ x∈l,0<=x/\x<n):l.length<=n:=by
 induction n generalizing l with
 | zero=>cases l with
  | nil=>exact Nat.le_refl _
  | cons x l=>have:=h x (List.mem_cons_self ..); omega
 | succ n ih =>
  by_cases e:((n:Nat):Int)∈l
  ·have z:=ih (nd.erase ((n:Nat):Int)) fun x hx=>by
    have:=h x (List.mem_of_mem_erase hx)
    have:x≠((n:Nat):Int):=(nd.mem_erase_iff.mp hx).1
    omega
   rw [List.length_erase_of_mem e] at z
   omega
  ·have z:=ih nd fun x hx=>by
    have:=h x hx
    have:x≠((n:Nat):Int):=fun w=>e (w ▸ hx)
    omega
   omega
structure Fd (n:Nat) (es:List Tie) (a:Int) (l:List Int) (at':Nat):Prop where
 nd:l.Nodup
 rng:∀ x∈l,0<=x/\x<n
 st:a∈l
 rt:∀ x∈l,Rt es a x
 cl:∀ (j:Nat) (x:Int),j<at'->l[j]?=some x->∀ y,(x,y)∈es->y∈l
theorem Fd.add {n:Nat}{es:List Tie}{a:Int}{l:List Int}{i:Nat} (h:Fd n es a l i) (hi:i<=l.length) {x y:Int} (hx:x∈l) (t:(x,y)∈es) (hy:0<=y/\y<n) (nw:y∉l):Fd n es a (l++[y]) i:=by
 refine⟨List.nodup_append.mpr ⟨h.nd,by simp,fun z hz w hw=>by rw [List.mem_singleton.mp hw]; rintro rfl; exact nw hz⟩,fun z hz=>?_,List.mem_append_left _ h.st,fun z hz=>?_,fun j z hj hz w hw=>?_⟩
 ·rcases List.mem_append.mp hz with z | z
  ·exact h.rng _ z
  ·rw [List.mem_singleton.mp z]; exact hy
 ·rcases List.mem_append.mp hz with z | z
  ·exact h.rt _ z
  ·rw [List.mem_singleton.mp z]; exact .step (h.rt x hx) t
 ·rw [List.getElem?_append_left (by omega)] at hz
  exact List.mem_append_left _ (h.cl j z hj hz w hw)
theorem Fd.all {n:Nat}{es:List Tie}{a:Int}{l:List Int}{i:Nat} (h:Fd n es a l i) (hi:l.length<=i):∀ x,x∈l↔Rt es a x:=fun x=>by
 refine⟨h.rt x,fun r=>?_⟩
 induction r with
 | refl=>exact h.st
 | step r t ih =>
  obtain⟨j,hj⟩:=List.getElem?_of_mem ih
  have:=(List.getElem?_eq_some_iff.mp hj).1
  exact h.cl j _ (by omega) hj _ t
noncomputable def fMet (ds:List D) (P:D->Prop):Prop:=∃ n us a F B,ds=[aP n us,.int a,iD F,iD B]/\1<=n/\n<=16/\us.length<=60/\OkN n us/\0<=a/\a<n/\P (iD (rsI (adj us F B) n.toNat a))
section
variable {P:Program}{w:World}{K:PySem.W.Frag}{mg:Str->Option Value}{base:Heap}{f:Addr}{fd:FuncData}
theorem sc_law_met:FnScope ["_law_web_here","_law_start","_law_fallen","_law_barred","_law_found","_law_at","_law_k","_law_tie","_law_there"] ["_law_web_here","_law_start","_law_fallen","_law_barred"] (au (top 37)):=⟨rfl,rfl,rfl,by decide +kernel,rfl,by decide +kernel,by decide +kernel⟩
theorem ok_law_met (F:Fun K "_law_met" "_law_met" (top 37) f fd) (B:Dl.Bn mg) (m_enumerate:mg "enumerate"=none) (m_sum:mg "sum"=none):FnOk P w K mg base CX0 1 f fd ["_law_web_here","_law_start","_law_fallen","_law_barred"] (spD fMet):=by
 refine F.ok sc_law_met (aW fun ds P h=>?len) (fun cdv A outer s H vs Q E hr h=>?_)
 case len=>(first | (obtain⟨_,rfl,_⟩:=h; rfl) | (obtain⟨_,_,rfl,_⟩:=h; rfl) | (obtain⟨_,_,_,rfl,_⟩:=h; rfl) | (obtain⟨_,_,_,_,rfl,_⟩:=h; rfl) | (obtain⟨_,_,_,_,_,rfl,_⟩:=h; rfl) | (obtain⟨_,_,_,_,_,_,rfl,_⟩:=h; rfl) | (obtain⟨_,_,_,_,_,_,_,rfl,_⟩:=h; rfl) | (obtain⟨rfl,_⟩:=h; rfl))
 have nd:=sc_law_met.nd
 refine⟨_,Wr.WDSs.h (Wr.ao (Wr.aN (some 0) (i:=4) nd rfl (by first | exact Or.inl rfl | exact Or.inr rfl) (Wr.aU (Wr.aj (Wr.dv 1) Wr.ak)))
  (Wr.ao (Wr.aN none (i:=5) nd rfl (by first | exact Or.inl rfl | exact Or.inr rfl) Wr.aq)
  (Wr.ao (Wr.jK PassesOwn.never (Wr.pdt_lt (Wr.dv 5) (Wr.dh B.len (Wr.aj (Wr.dv 4) Wr.ak))) (Wr.ao (Wr.bT PassesOwn.never rfl (Wr.di_enum m_enumerate (Wr.aj (Wr.aB (Wr.dv 0) Wr.aq) Wr.ak)) (Wr.fP (n:=2) rfl (Wr.bx (Wr.aG (i:=6) nd rfl (by first | exact Or.inl rfl | exact Or.inr rfl)) (Wr.bx (Wr.aG (i:=7) nd rfl (by first | exact Or.inl rfl | exact Or.inr rfl)) Wr.dF))) (Wr.ao (Wr.aN none (i:=8) nd rfl (by first | exact Or.inl rfl | exact Or.inr rfl) (Wr.jx (Wr.pd_sumA rfl m_sum (Wr.aj (Wr.dv 7) Wr.ak)) (Wr.aB (Wr.dv 4) (Wr.dv 5))))
  (Wr.ao (Wr.bJ (Wr.wpt (Wr.iG (Wr.jw hr.units (Wr.aB (Wr.dv 4) (Wr.dv 5)) (Wr.dv 7)) (Wr.iG (Wr.bF hr.units (Wr.dv 6) (Wr.dv 2)) (Wr.iG (Wr.bF hr.units (Wr.dv 8) (Wr.dv 4)) (Wr.ju (Wr.bF hr.units (Wr.dv 8) (Wr.dv 3))))))) (Wr.aD (Wr.cY (Wr.wv 4) (Wr.aj (Wr.dv 8) Wr.ak))) Wr.aJ) (Wr.aC [6,7,8] Wr.aJ))))
  (Wr.aC [6,7,8] (Wr.ao (Wr.aN none (i:=5) nd rfl (by first | exact Or.inl rfl | exact Or.inr rfl) (Wr.cA (Wr.dv 5) Wr.aq)) (Wr.aC [6,7,8] Wr.aJ)))))
  (Wr.aC [5,6,7,8] (Wr.aD (Wr.aK (Wr.fL B.sorted (Wr.aj (Wr.dv 4) Wr.ak)))))))),bC h ?_⟩
 rintro ds P ⟨n,us,a,F,B,rfl,n1,n16,lu,ok,a0,a1,q⟩
 refine⟨[.im (aP n us),.im (.int a),.sh (iD F),.sh (iD B),.any,.any,.any,.any,.any],?_,?_⟩
 ·show [dI (aP n us),.im (.int a),.sh (iD F),.sh (iD B),.any,.any,.any,.any,.any]=_
  rw [bD]
 have an:=adj_rng (F:=F) (B:=B) ok (by omega)
 refine⟨(show 1<=1000 by decide),fun mm ρ=>∃ (l:List Int) (i:Nat),ρ=[.im (aP n us),.im (.int a),.sh (iD F),.sh (iD B),.dw 0 (iD l),.im (.int ((i:Nat):Int)),.any,.any,.any]/\Fd n.toNat (adj us F B) a l i/\i<=l.length/\mm=17 - i,⟨_,[a],0,rfl,?_,Nat.zero_le _,rfl⟩,?_⟩
 ·exact⟨by simp,fun x hx=>by rw [List.mem_singleton.mp hx]; omega,by simp,fun x hx=>by rw [List.mem_singleton.mp hx]; exact .refl _,fun j x hj=>absurd hj (Nat.not_lt_zero _)⟩
 rintro mm ρ ⟨l,i,rfl,h,hi,rfl⟩
 have ll:(l.map PyData.int).length=l.length:=List.length_map ..
 have hln:=gR h.nd h.rng
 show if decide (((i:Nat):Int)<((l.map PyData.int).length:Nat))=true then _ else _
 refine gB (fun c=>?_) (fun c=>?_)
 ·have c:=of_decide_eq_true c
  have hlt:i<l.length:=by omega
  have hx:=List.getElem?_eq_getElem hlt
  generalize l[i]=x at hx
  refine⟨.tuple (us.map pD),rfl,rfl,fun (j:Nat) ρ=>∃ l':List Int,ρ=[.im (aP n us),.im (.int a),.sh (iD F),.sh (iD B),.dw 0 (iD l'),.im (.int ((i:Nat):Int)),.any,.any,.any]/\Fd n.toNat (adj us F B) a l' i/\i<l'.length/\l'[i]?=some x/\∀ k:Nat,k<j->∀ y,(us[k]?=some (x,y)\/us[k]?=some (y,x))->((k:Nat):Int)∉F->y∉B->y∈l',⟨l,rfl,h,hlt,hx,fun k hk=>absurd hk (Nat.not_lt_zero _)⟩,?_,?_⟩
  ·rintro j d ρ hd ⟨l',rfl,h',hi',hx',hk'⟩
   rw [eN,List.getElem?_map] at hd
   obtain⟨t,ht,rfl⟩:∃ t,us[j]?=some t/\PyData.tuple [.int ((j:Nat):Int),pD t]=d:=by
    cases e:us[j]? with
    | none=>rw [e] at hd; cases hd
    | some t=>rw [e] at hd; exact⟨t,rfl,Option.some.inj hd⟩
   obtain⟨⟨o1,o2⟩,⟨o3,o4⟩,o5⟩:=ok t (List.mem_of_getElem? ht)
   have atx:atI (l'.map PyData.int) ((i:Nat):Int)=some (.int x):=dY (by rw [List.getElem?_map,hx']; rfl)
   have hxm:=List.mem_of_getElem? hx'
   have ll':(l'.map PyData.int).length=l'.length:=List.length_map ..
   have hln':=gR h'.nd h'.rng
   refine⟨rfl,[t.1,t.2],rfl,(show 2<=1000 by decide),fun y hy=>?_,.int x,atx,?_⟩
   ·rcases List.mem_cons.mp hy with rfl | hy
    ·omega
    ·rw [List.mem_singleton.mp hy]; omega
   rw [show [t.1,t.2].sum=t.1+t.2 by simp]
   have skip:(∀ y,(t=(x,y)\/t=(y,x))->((j:Nat):Int)∉F->y∉B->y∈l')->∃ l'':List Int,([.im (aP n us),.im (.int a),.sh (iD F),.sh (iD B),.dw 0 (iD l'),.im (.int ((i:Nat):Int)),.any,.any,.any]:List Sl)=[.im (aP n us),.im (.int a),.sh (iD F),.sh (iD B),.dw 0 (iD l''),.im (.int ((i:Nat):Int)),.any,.any,.any]/\Fd n.toNat (adj us F B) a l'' i/\i<l''.length/\l''[i]?=some x/\∀ k:Nat,k<j+1->∀ y,(us[k]?=some (x,y)\/us[k]?=some (y,x))->((k:Nat):Int)∉F->y∉B->y∈l'':=fun z=>by
    refine⟨l',rfl,h',hi',hx',fun k hk y hy hF hB=>?_⟩
    by_cases e:k=j
    ·subst e
     rw [ht] at hy
     exact z y (hy.imp Option.some.inj Option.some.inj) hF hB
    ·exact hk' k (by omega) y hy hF hB
   refine⟨.int x,atx,rfl,rfl,?_⟩
   show if ([PyData.int t.1,.int t.2].any fun e=>PyData.eqv e (.int x))=true then _ else _
   rw [jP]
   refine gB (fun c1=>?_) (fun c1=>bA (A:=True) (skip fun y hy _ _=>?_))
   ·refine⟨rfl,bI F,?_⟩
    show if (!((F.map PyData.int).any fun e=>PyData.eqv e (.int ((j:Nat):Int))))=true then _ else _
    rw [Dl.any_ints]
    refine gB (fun c2=>?_) (fun c2=>bA (A:=True) (skip fun y _ hF _=>?_))
    ·refine⟨rfl,bI l',?_⟩
     show if (!((l'.map PyData.int).any fun e=>PyData.eqv e (.int (t.1+t.2 - x))))=true then _ else _
     rw [Dl.any_ints]
     have c1:=of_decide_eq_true c1
     have oth:∀ y,(t=(x,y)\/t=(y,x))->y=t.1+t.2 - x:=fun y hy=>by
      rcases hy with rfl | rfl
      ·show y=x+y - x
       omega
      ·show y=y+x - x
       omega
     refine gB (fun c3=>?_) (fun c3=>bA (A:=True) (skip fun y hy _ _=>?_))
     ·refine⟨rfl,bI B,?_⟩
      show if (!((B.map PyData.int).any fun e=>PyData.eqv e (.int (t.1+t.2 - x))))=true then _ else _
      rw [Dl.any_ints]
      refine gB (fun c4=>?_) (fun c4=>skip fun y hy _ hB=>?_)
      ·have n2:((j:Nat):Int)∉F:=by simpa using c2
       have n3:t.1+t.2 - x∉l':=by simpa using c3
       have n4:t.1+t.2 - x∉B:=by simpa using c4
       have ed:(x,t.1+t.2 - x)∈adj us F B:=cC.mpr ⟨j,by
        rw [ht]
        rcases c1 with rfl | rfl
        ·left
         rw [show t.1+t.2 - t.1=t.2 by omega]
        ·right
         rw [show t.1+t.2 - t.2=t.1 by omega],n2,n4⟩
       refine⟨rfl,by omega,l'++[t.1+t.2 - x],?_,h'.add (by omega) hxm ed (an _ ed).2 n3,by rw [List.length_append]; omega,by rw [List.getElem?_append_left hi']; exact hx',fun k hk y hy hF hB=>?_⟩
       ·unfold iD
        rw [List.map_append]
        rfl
       ·by_cases e:k=j
        ·subst e
         rw [ht] at hy
         rw [oth y (hy.imp Option.some.inj Option.some.inj)]
         exact List.mem_append_right _ (List.mem_singleton.mpr rfl)
        ·exact List.mem_append_left _ (hk' k (by omega) y hy hF hB)
      ·rw [oth y hy] at hB
       exact absurd (by simpa using c4) hB
     ·rw [oth y hy]
      simpa using c3
    ·exact absurd (by simpa using c2) hF
   ·refine absurd (decide_eq_true ?_) c1
    rcases hy with rfl | rfl
    ·exact .inl rfl
    ·exact .inr rfl
  ·rintro ρ ⟨l',rfl,h',hi',hx',hk'⟩
   rw [eG,List.length_map] at hk'
   have hln':=gR h'.nd h'.rng
   refine⟨17 - (i+1),by omega,l',i+1,rfl,⟨h'.nd,h'.rng,h'.st,h'.rt,fun k z hk hz y hy=>?_⟩,by omega,rfl⟩
   by_cases e:k=i
   ·subst e
    rw [hx'] at hz
    cases hz
    obtain⟨k,e,hF,hB⟩:=cC.mp hy
    have:k<us.length:=by rcases e with e | e <;> exact (List.getElem?_eq_some_iff.mp e).1
    exact hk' k this y e hF hB
   ·exact h'.cl k z (by omega) hz y hy
 ·have c:¬ ((i:Nat):Int)<((l.map PyData.int).length:Nat):=fun z=>c (decide_eq_true z)
  have hall:=h.all (by omega)
  refine⟨l,rfl,by omega,fun out hp hs=>⟨rfl,?_⟩⟩
  rw [rs_eq hp hs h.nd hall (fun x r=>r.rng (fun t ht=>(an t ht).2) ⟨a0,by omega⟩)]
  exact q
end
noncomputable abbrev Put:=Int×Tie
noncomputable def rowOf (ps:List Put) (p:Nat):List Tie:=(ps.filter fun q=>decide (q.1=((p:Nat):Int))).map (·.2)
noncomputable def stOf (n:Nat) (ps:List Put):List (List Tie):=(List.range n).map (rowOf ps)
noncomputable def edg (ps:List Put):List Tie:=ps.map fun q=>(q.1,q.2.1)
structure PutsOk (n:Nat) (ps:List Put):Prop where
 few:ps.length<=200
 rng:∀ q∈ps,(0<=q.1/\q.1<n)/\0<=q.2.1/\q.2.1<n
theorem iy (n:Nat) (ps:List Put):(stOf n ps).length=n:=by
 unfold stOf
 rw [List.length_map,List.length_range]
theorem st_get {n p:Nat} (ps:List Put) (h:p<n):(stOf n ps)[p]?=some (rowOf ps p):=by
 unfold stOf
 rw [List.getElem?_map,List.getElem?_range h]
 rfl
theorem mem_row {ps:List Put}{p:Nat}{t:Tie}:t∈rowOf ps p↔(((p:Nat):Int),t)∈ps:=by
 unfold rowOf
 rw [List.mem_map]
 constructor
 ·rintro ⟨q,hq,rfl⟩
  obtain⟨h1,h2⟩:=List.mem_filter.mp hq
  have h2:q.1=((p:Nat):Int):=of_decide_eq_true h2
  rw [← h2]
  exact h1
 ·intro h
  exact⟨_,List.mem_filter.mpr ⟨h,decide_eq_true rfl⟩,rfl⟩
theorem lY (ps:List Put) (p:Nat):(rowOf ps p).length<=ps.length:=by
 unfold rowOf
 rw [List.length_map]
 exact List.length_filter_le _ _
theorem row_snoc (ps:List Put) (q:Put) (p:Nat):rowOf (ps++[q]) p=if q.1=((p:Nat):Int) then rowOf ps p++[q.2] else rowOf ps p:=by
 unfold rowOf
 rw [List.filter_append,List.map_append]
 by_cases h:q.1=((p:Nat):Int)
 ·rw [if_pos h,List.filter_cons_of_pos (by exact decide_eq_true h)]
  rfl
 ·rw [if_neg h,List.filter_cons_of_neg (by rw [decide_eq_false h]; exact Bool.false_ne_true)]
  exact List.append_nil _
theorem st_snoc {n:Nat}{ps:List Put}{q:Put} (h:0<=q.1/\q.1<n):(stOf n ps).set q.1.toNat (rowOf ps q.1.toNat++[q.2])=stOf n (ps++[q]):=by
 refine List.ext_getElem? fun i=>?_
 by_cases hi:i<n
 ·rw [st_get _ hi,row_snoc]
  by_cases e:q.1.toNat=i
  ·rw [e,List.getElem?_set_self (by rw [iy]; exact hi),if_pos (by omega)]
  ·rw [List.getElem?_set_ne e,st_get _ hi,if_neg (by omega)]
 ·rw [List.getElem?_eq_none (by rw [List.length_set,iy]; omega),List.getElem?_eq_none (by rw [iy]; omega)]
theorem st_nil (n:Nat):stOf n []=List.replicate n []:=by
 refine List.eq_replicate_iff.mpr ⟨iy _ _,fun b hb=>?_⟩
 obtain⟨p,_,rfl⟩:=List.mem_map.mp hb
 rfl
noncomputable def stD (S:List (List Tie)):D:=.list (S.map fun ts=>.list (ts.map pD))
noncomputable def rP (S:List (List Tie)):List (List D):=S.map fun ts=>ts.map pD
theorem stD_eq (S:List (List Tie)):PyData.list ((rP S).map PyData.list)=stD S:=by
 unfold rP stD
 rw [List.map_map]
 rfl
theorem rP_set (S:List (List Tie)) (k:Nat) (l:List Tie) (u:Tie):(rP S).set k (l.map pD++[pD u])=rP (S.set k (l++[u])):=by
 unfold rP
 rw [List.map_set,List.map_append]
 rfl
theorem rP_get {n p:Nat} (ps:List Put) (h:p<n):(rP (stOf n ps))[p]?=some ((rowOf ps p).map pD):=by
 unfold rP
 rw [List.getElem?_map,st_get ps h]
 rfl
theorem mj {n:Nat}{ps:List Put}{q:Put} (h:0<=q.1/\q.1<n):(rP (stOf n ps)).set q.1.toNat ((rowOf ps q.1.toNat).map pD++[pD q.2])=rP (stOf n (ps++[q])):=by
 rw [rP_set,st_snoc h]
theorem adj_mem {us:List Tie}{x y:Int}:(x,y)∈adj us [] []↔((x,y)∈us\/(y,x)∈us):=by
 rw [cC]
 constructor
 ·rintro ⟨k,e | e,_⟩
  ·exact .inl (List.mem_of_getElem? e)
  ·exact .inr (List.mem_of_getElem? e)
 ·rintro (e | e)
  ·obtain⟨k,hk⟩:=List.getElem?_of_mem e
   exact⟨k,.inl hk,List.not_mem_nil,List.not_mem_nil⟩
  ·obtain⟨k,hk⟩:=List.getElem?_of_mem e
   exact⟨k,.inr hk,List.not_mem_nil,List.not_mem_nil⟩
theorem j7 {ps:List Put}{x y:Int}:(x,y)∈edg ps↔∃ k,(x,(y,k))∈ps:=by
 unfold edg
 rw [List.mem_map]
 constructor
 ·rintro ⟨⟨p,y',k⟩,hq,e⟩
  cases e
  exact⟨k,hq⟩
 ·rintro ⟨k,h⟩
  exact⟨_,h,rfl⟩
noncomputable def aL (m:IM):List Int:=m.map (·.1)
theorem eX {m:IM}{k:Int}:dX m k=true↔k∈aL m:=by
 unfold dX aL
 rw [List.any_eq_true,List.mem_map]
 constructor
 ·rintro ⟨p,hp,e⟩; exact⟨p,hp,of_decide_eq_true e⟩
 ·rintro ⟨p,hp,e⟩; exact⟨p,hp,decide_eq_true e⟩
theorem has_no {m:IM}{k:Int} (h:dX m k=false):k∉aL m:=fun z=>by rw [eX.mpr z] at h; cases h
theorem put_new {m:IM}{k:Int}{d:D} (h:dX m k=false):fu m k d=m++[(k,d)]:=by
 unfold fu
 rw [h]
 rfl
inductive Cm (ps:List Put) (a:Int):IM->Prop
 | base:Cm ps a [(a,.none)]
 | snoc {m:IM}{x p k:Int} (h:Cm ps a m) (hp:p∈aL m) (hx:x∉aL m) (j:(p,(x,k))∈ps):Cm ps a (m++[(x,.tuple [.int p,.int k])])
structure Sr (n:Nat) (ps:List Put) (a:Int) (m:IM) (open':Int->Prop):Prop where
 im:immI m=true
 nd:(aL m).Nodup
 rng:∀ x∈aL m,0<=x/\x<n
 st:a∈aL m
 rt:∀ x∈aL m,Rt (edg ps) a x
 cl:∀ x∈aL m,open' x\/∀ b,(x,b)∈edg ps->b∈aL m
 cm:Cm ps a m
theorem Sr.few {n:Nat}{ps:List Put}{a:Int}{m:IM}{o:Int->Prop} (h:Sr n ps a m o):m.length<=n:=by
 have:=gR h.nd h.rng
 unfold aL at this
 rwa [List.length_map] at this
theorem Sr.all {n:Nat}{ps:List Put}{a:Int}{m:IM} (h:Sr n ps a m fun _=>False):∀ x,dX m x=true↔Rt (edg ps) a x:=fun x=>by
 rw [eX]
 refine⟨h.rt x,fun r=>?_⟩
 induction r with
 | refl=>exact h.st
 | step r t ih=>exact (h.cl _ ih).elim False.elim fun z=>z _ t
theorem Sr.add {n:Nat}{ps:List Put}{a x c k:Int}{m:IM}{o o':Int->Prop} (h:Sr n ps a m o) (jn:(x,(c,k))∈ps) (hx:x∈aL m) (hc:0<=c/\c<n) (nw:dX m c=false) (oo:∀ y,o y->o' y) (oc:o' c):Sr n ps a (fu m c (.tuple [.int x,.int k])) o':=by
 have t:(x,c)∈edg ps:=j7.mpr ⟨k,jn⟩
 generalize hdd:PyData.tuple [.int x,.int k]=d
 have hd:fQ d=true:=by rw [← hdd]; rfl
 have kk:aL (m++[(c,d)])=aL m++[c]:=by unfold aL; rw [List.map_append]; rfl
 rw [put_new nw]
 refine⟨?_,?_,?_,?_,?_,?_,by rw [← hdd]; exact .snoc h.cm hx (has_no nw) jn⟩
 ·have:=h.im
  unfold immI at this ⊢
  rw [List.all_append,this]
  show (true&&(fQ d&&true))=true
  rw [hd]; rfl
 ·rw [kk]
  exact List.nodup_append.mpr ⟨h.nd,by simp,fun y hy z hz=>by rw [List.mem_singleton.mp hz]; rintro rfl; exact has_no nw hy⟩
 ·rw [kk]
  intro y hy
  rcases List.mem_append.mp hy with z | z
  ·exact h.rng y z
  ·rw [List.mem_singleton.mp z]; exact hc
 ·rw [kk]; exact List.mem_append_left _ h.st
 ·rw [kk]
  intro y hy
  rcases List.mem_append.mp hy with z | z
  ·exact h.rt y z
  ·rw [List.mem_singleton.mp z]; exact .step (h.rt x hx) t
 ·rw [kk]
  intro y hy
  rcases List.mem_append.mp hy with z | z
  ·exact (h.cl y z).imp (oo y) fun q b hb=>List.mem_append_left _ (q b hb)
  ·rw [List.mem_singleton.mp z]; exact .inl oc
theorem Sr.wk {n:Nat}{ps:List Put}{a:Int}{m:IM}{o o':Int->Prop} (h:Sr n ps a m o) (f:∀ x∈aL m,o x->o' x\/∀ b,(x,b)∈edg ps->b∈aL m):Sr n ps a m o' :=
 ⟨h.im,h.nd,h.rng,h.st,h.rt,fun x hx=>(h.cl x hx).elim (f x hx) .inr,h.cm⟩
noncomputable def visit (y:Int) (st:IM×List Int) (t:Tie):IM×List Int:=if dX st.1 t.1=true then st else (fu st.1 t.1 (.tuple [.int y,.int t.2]),st.2++[t.1])
noncomputable def visits (ps:List Put) (st:IM×List Int) (y:Int):IM×List Int:=(rowOf ps y.toNat).foldl (visit y) st
noncomputable def srch (ps:List Put):Nat->IM->List Int->IM
 | 0,m,_=>m
 | _+1,m,[]=>m
 | k+1,m,x::r=>srch ps k ((x::r).foldl (visits ps) (m,[])).1 ((x::r).foldl (visits ps) (m,[])).2
noncomputable def srM (n:Nat) (ps:List Put) (a:Int):IM:=srch ps (2 * n+2) [(a,.none)] [a]
structure VI (n:Nat) (ps:List Put) (a:Int) (k:Nat) (R rest:List Int) (y:Int) (st:IM×List Int):Prop where
 sr:Sr n ps a st.1 (fun z=>(z∈st.2\/z∈rest)\/z=y)
 row:∀ z∈R,z∈aL st.1
 la:∀ z∈st.2,z∈aL st.1
 len:st.1.length=k+st.2.length
 me:y∈aL st.1
theorem VI.one {n:Nat}{ps:List Put}{a:Int}{k:Nat}{R rest:List Int}{y:Int}{st:IM×List Int} (ok:PutsOk n ps) (h:VI n ps a k R rest y st) {t:Tie} (ht:(y,t)∈ps):VI n ps a k R rest y (visit y st t)/\t.1∈aL (visit y st t).1/\∀ z∈aL st.1,z∈aL (visit y st t).1:=by
 unfold visit
 cases hb:dX st.1 t.1 with
 | true =>
  rw [if_pos rfl]
  exact⟨h,eX.mp hb,fun z hz=>hz⟩
 | false =>
  rw [if_neg Bool.false_ne_true]
  have kk:aL (fu st.1 t.1 (.tuple [.int y,.int t.2]))=aL st.1++[t.1]:=by
   rw [put_new hb]; unfold aL; rw [List.map_append]; rfl
  have sub:∀ z∈aL st.1,z∈aL (fu st.1 t.1 (.tuple [.int y,.int t.2])):=fun z hz=>by rw [kk]; exact List.mem_append_left _ hz
  have own:t.1∈aL (fu st.1 t.1 (.tuple [.int y,.int t.2])):=by rw [kk]; exact List.mem_append_right _ (List.mem_singleton.mpr rfl)
  refine⟨⟨h.sr.add (x:=y) ht h.me (ok.rng _ ht).2 hb (fun z hz=>?_) (.inl (.inl (List.mem_append_right _ (List.mem_singleton.mpr rfl)))),fun z hz=>sub z (h.row z hz),fun z hz=>?_,?_,sub y h.me⟩,own,sub⟩
  ·rcases hz with (z | z) | z
   ·exact .inl (.inl (List.mem_append_left _ z))
   ·exact .inl (.inr z)
   ·exact .inr z
  ·rcases List.mem_append.mp hz with z | z
   ·exact sub _ (h.la _ z)
   ·rw [List.mem_singleton.mp z]; exact own
  ·have:=h.len
   rw [put_new hb,List.length_append,List.length_append]
   show st.1.length+1=k+(st.2.length+1)
   omega
theorem VI.many {n:Nat}{ps:List Put}{a:Int}{k:Nat}{R rest:List Int}{y:Int} (ok:PutsOk n ps):∀ (ts:List Tie) {st:IM×List Int},(∀ t∈ts,(y,t)∈ps)->VI n ps a k R rest y st->VI n ps a k R rest y (ts.foldl (visit y) st)/\(∀ t∈ts,t.1∈aL (ts.foldl (visit y) st).1)/\∀ z∈aL st.1,z∈aL (ts.foldl (visit y) st).1
 | [],st,_,h=>⟨h,(fun t ht=>nomatch ht),fun z hz=>hz⟩
 | t::ts,st,hp,h=>by
  obtain⟨h1,h2,h3⟩:=h.one ok (hp t List.mem_cons_self)
  obtain⟨g1,g2,g3⟩:=VI.many ok ts (fun u hu=>hp u (List.mem_cons_of_mem _ hu)) h1
  refine⟨g1,fun u hu=>?_,fun z hz=>g3 z (h3 z hz)⟩
  rcases List.mem_cons.mp hu with rfl | hu
  ·exact g3 _ h2
  ·exact g2 u hu
structure WI (n:Nat) (ps:List Put) (a:Int) (k:Nat) (R rest:List Int) (st:IM×List Int):Prop where
 sr:Sr n ps a st.1 (fun z=>z∈st.2\/z∈rest)
 row:∀ z∈R,z∈aL st.1
 la:∀ z∈st.2,z∈aL st.1
 len:st.1.length=k+st.2.length
theorem WI.into {n:Nat}{ps:List Put}{a:Int}{k:Nat}{R rest:List Int}{y:Int}{st:IM×List Int} (h:WI n ps a k R (y::rest) st) (hy:y∈R):VI n ps a k R rest y st:=⟨h.sr.wk fun z _ hz=>.inl (by
 rcases hz with hz | hz
 ·exact .inl (.inl hz)
 ·rcases List.mem_cons.mp hz with e | e
  ·exact .inr e
  ·exact .inl (.inr e)),h.row,h.la,h.len,h.row y hy⟩
theorem row_at {ps:List Put}{y:Int} (y0:0<=y):∀ t∈rowOf ps y.toNat,(y,t)∈ps:=fun t ht=>by
 have:=mem_row.mp ht
 rwa [show ((y.toNat:Nat):Int)=y by omega] at this
theorem WI.next {n:Nat}{ps:List Put}{a:Int}{k:Nat}{R rest:List Int}{y:Int}{st:IM×List Int} (ok:PutsOk n ps) (h:WI n ps a k R (y::rest) st) (hy:y∈R):WI n ps a k R rest (visits ps st y):=by
 have yr:=h.sr.rng y (h.row y hy)
 obtain⟨g1,g2,g3⟩:=(h.into hy).many ok (rowOf ps y.toNat) (row_at yr.1)
 unfold visits
 refine⟨g1.sr.wk fun z hz hz'=>?_,g1.row,g1.la,g1.len⟩
 rcases hz' with z' | z'
 ·exact .inl z'
 ·right
  intro b hb
  rw [z'] at hb
  obtain⟨k,hk⟩:=j7.mp hb
  refine g2 (b,k) (mem_row.mpr ?_)
  rwa [show ((y.toNat:Nat):Int)=y by omega]
theorem WI.many {n:Nat}{ps:List Put}{a:Int}{k:Nat}{R:List Int} (ok:PutsOk n ps):∀ (l rest:List Int) {st:IM×List Int},(∀ y∈l,y∈R)->WI n ps a k R (l++rest) st->WI n ps a k R rest (l.foldl (visits ps) st)
 | [],rest,st,_,h=>h
 | y::l,rest,st,hl,h=>WI.many ok l rest (fun z hz=>hl z (List.mem_cons_of_mem _ hz)) (h.next ok (hl y List.mem_cons_self))
theorem WI.start {n:Nat}{ps:List Put}{a:Int}{m:IM}{R:List Int} (h:Sr n ps a m (·∈R)) (hr:∀ x∈R,x∈aL m):WI n ps a m.length R R (m,[]):=⟨h.wk fun x _ hx=>.inl (.inr hx),hr,(fun y hy=>nomatch hy),rfl⟩
theorem WI.at {n:Nat}{ps:List Put}{a:Int}{m:IM}{R:List Int} (ok:PutsOk n ps) (h:Sr n ps a m (·∈R)) (hr:∀ x∈R,x∈aL m) (i:Nat):WI n ps a m.length R (R.drop i) ((R.take i).foldl (visits ps) (m,[])) :=
 WI.many ok (R.take i) (R.drop i) (fun y hy=>List.mem_of_mem_take hy) (by rw [List.take_append_drop]; exact WI.start h hr)
noncomputable def mes (n:Nat) (m:IM) (R:List Int):Nat:=2 * (n - m.length)+(if R=[] then 0 else 1)
theorem WI.less {n:Nat}{ps:List Put}{a:Int}{m:IM}{R:List Int}{st:IM×List Int} (h:WI n ps a m.length R [] st) (hR:R≠[]):mes n st.1 st.2<mes n m R:=by
 have few:=h.sr.few
 have len:=h.len
 unfold mes
 rw [if_neg hR]
 by_cases e:st.2=[]
 ·rw [e] at len
  rw [if_pos e]
  have len:st.1.length=m.length+0:=len
  omega
 ·rw [if_neg e]
  have:=List.length_pos_iff.mpr e
  omega
theorem WI.done {n:Nat}{ps:List Put}{a:Int}{m:IM}{R:List Int}{st:IM×List Int} (h:WI n ps a m.length R [] st):Sr n ps a st.1 (·∈st.2):=h.sr.wk fun z _ hz=>.inl (hz.elim id fun q=>nomatch q)
theorem srch_ok {n:Nat}{ps:List Put}{a:Int} (ok:PutsOk n ps):∀ (k:Nat) (m:IM) (R:List Int),mes n m R<=k->Sr n ps a m (·∈R)->(∀ x∈R,x∈aL m)->Sr n ps a (srch ps k m R) fun _=>False
 | k,m,[],_,h,_=>by
  have e:srch ps k m []=m:=by cases k <;> rfl
  rw [e]
  exact h.wk fun z _ hz=>nomatch hz
 | 0,m,x::r,hk,_,_=>by
  unfold mes at hk
  rw [if_neg (fun z=>nomatch z)] at hk
  omega
 | k+1,m,x::r,hk,h,hr=>by
  have W:=WI.at ok h hr (x::r).length
  rw [List.drop_length,List.take_length] at W
  have l:=W.less (fun z=>nomatch z)
  exact srch_ok ok k _ _ (by omega) W.done W.la
theorem sr_start {n:Nat}{ps:List Put}{a:Int} (a0:0<=a) (a1:a<n):Sr n ps a [(a,.none)] (·∈[a]):=by
 refine⟨rfl,by simp [aL],fun x hx=>?_,by simp [aL],fun x hx=>?_,fun x hx=>.inl ?_,.base⟩
 ·have e:x=a:=by simpa [aL] using hx
  omega
 ·have e:x=a:=by simpa [aL] using hx
  rw [e]; exact .refl _
 ·have e:x=a:=by simpa [aL] using hx
  rw [e]; exact List.mem_singleton.mpr rfl
theorem key_start (a:Int):∀ x∈[a],x∈aL [(a,PyData.none)]:=fun x hx=>by
 rw [List.mem_singleton.mp hx]
 simp [aL]
theorem lA {n:Nat}{ps:List Put}{a:Int} (ok:PutsOk n ps) (a0:0<=a) (a1:a<n):Sr n ps a (srM n ps a) fun _=>False:=srch_ok ok _ _ _ (by
 unfold mes
 rw [if_neg (fun z=>nomatch z)]
 show 2 * (n - 1)+1<=2 * n+2
 omega) (sr_start a0 a1) (key_start a)
noncomputable def fSearch (ds:List D) (P:D->Prop):Prop:=∃ n ps a,ds=[stD (stOf n ps),.int a]/\n<=100/\PutsOk n ps/\0<=a/\a<n/\P (.dict (kvD (srM n ps a)))
section
variable {P:Program}{w:World}{K:PySem.W.Frag}{mg:Str->Option Value}{base:Heap}{f:Addr}{fd:FuncData}
theorem sc_search:FnScope ["steps","start","came","row","later","place","step"] ["steps","start"] (au (top 11)):=⟨rfl,rfl,rfl,by decide +kernel,rfl,by decide +kernel,by decide +kernel⟩
theorem ok_search (F:Fun K "search" "search" (top 11) f fd) (B:Dl.Bn mg):FnOk P w K mg base CX0 1 f fd ["steps","start"] (spD fSearch):=by
 refine F.ok sc_search (aW fun ds P h=>?len) (fun cdv A outer s H vs Q E hr h=>?_)
 case len=>(first | (obtain⟨_,rfl,_⟩:=h; rfl) | (obtain⟨_,_,rfl,_⟩:=h; rfl) | (obtain⟨_,_,_,rfl,_⟩:=h; rfl) | (obtain⟨_,_,_,_,rfl,_⟩:=h; rfl) | (obtain⟨_,_,_,_,_,rfl,_⟩:=h; rfl) | (obtain⟨_,_,_,_,_,_,rfl,_⟩:=h; rfl) | (obtain⟨_,_,_,_,_,_,_,rfl,_⟩:=h; rfl) | (obtain⟨rfl,_⟩:=h; rfl))
 have nd:=sc_search.nd
 refine⟨_,Wr.WDSs.h (Wr.ao (Wr.aN (some 0) (i:=2) nd rfl (by first | exact Or.inl rfl | exact Or.inr rfl) (Wr.pd_dict1 (Wr.dv 1) Wr.d9))
  (Wr.ao (Wr.aN none (i:=3) nd rfl (by first | exact Or.inl rfl | exact Or.inr rfl) (Wr.aU (Wr.aj (Wr.dv 1) Wr.ak)))
  (Wr.ao (Wr.jK PassesOwn.never (Wr.pdt_tru (Wr.dv 3)) (Wr.ao (Wr.aN (some 1) (i:=4) nd rfl (by first | exact Or.inl rfl | exact Or.inr rfl) (Wr.aU Wr.ak))
  (Wr.ao (Wr.bT PassesOwn.never rfl (Wr.cg (Wr.dv 3)) (Wr.aG (i:=5) nd rfl (by first | exact Or.inl rfl | exact Or.inr rfl)) (Wr.ao (Wr.bT PassesOwn.never rfl (Wr.cg (Wr.aB (Wr.dv 0) (Wr.dv 5))) (Wr.aG (i:=6) nd rfl (by first | exact Or.inl rfl | exact Or.inr rfl)) (Wr.ao (Wr.bJ (Wr.d8 hr.units (Wr.aB (Wr.dv 6) Wr.aq) (Wr.dv 2)) (Wr.ao (Wr.ds_dput hr.units (Wr.wv 2) (Wr.aB (Wr.dv 6) Wr.aq) (Wr.aQ (Wr.aj (Wr.dv 5) (Wr.aj (Wr.aB (Wr.dv 6) Wr.aq) Wr.ak))))
  (Wr.aD (Wr.cY (Wr.wv 4) (Wr.aj (Wr.aB (Wr.dv 6) Wr.aq) Wr.ak)))) Wr.aJ) (Wr.aC [6] Wr.aJ))) (Wr.aC [5,6] Wr.aJ)))
  (Wr.aC [5,6] (Wr.ds_frz 4 (Wr.ao (Wr.aN none (i:=3) nd rfl (by first | exact Or.inl rfl | exact Or.inr rfl) (Wr.dv 4)) (Wr.aC [4,5,6] Wr.aJ)))))))
  (Wr.aC [3,4,5,6] (Wr.aD (Wr.aK (Wr.dv 2))))))),bC h ?_⟩
 rintro ds P ⟨n,ps,a,rfl,n16,ok,a0,a1,q⟩
 refine⟨[.sh (stD (stOf n ps)),.im (.int a),.any,.any,.any,.any,.any],rfl,?_⟩
 refine⟨rfl,(show 1<=1000 by decide),?_⟩
 refine⟨fun mm ρ=>∃ (m:IM) (row:List Int) (fuel:Nat),ρ=[.sh (stD (stOf n ps)),.im (.int a),.dw 0 (.dict (kvD m)),.sn (iD row),.any,.any,.any]/\Sr n ps a m (·∈row)/\(∀ x∈row,x∈aL m)/\mm=mes n m row/\mm<=fuel/\srch ps fuel m row=srM n ps a,⟨_,[(a,.none)],[a],2 * n+2,rfl,sr_start a0 a1,key_start a,rfl,?_,rfl⟩,?_⟩
 ·unfold mes
  rw [if_neg (fun z=>nomatch z)]
  show 2 * (n - 1)+1<=2 * n+2
  omega
 rintro mm ρ ⟨m,R,fuel,rfl,h,hr,rfl,hf,e⟩
 show if (!(R.map PyData.int).isEmpty)=true then _ else _
 cases hR:R with
 | nil =>
  subst hR
  refine bA (A:=True) ⟨rfl,?_⟩
  have e2:srch ps fuel m []=m:=by cases fuel <;> rfl
  rw [e2] at e
  rw [e]
  exact q
 | cons x0 R0 =>
  refine cD (B:=True) ?_
  rw [← hR]
  have hne:R≠[]:=by rw [hR]; exact fun z=>nomatch z
  refine⟨by decide,rfl,fun (i:Nat) ρ=>∃ st:IM×List Int,st=(R.take i).foldl (visits ps) (m,[])/\ρ=[.sh (stD (stOf n ps)),.im (.int a),.dw 0 (.dict (kvD st.1)),.sn (iD R),.dw 1 (iD st.2),.any,.any],⟨(m,[]),rfl,rfl⟩,?_,?_⟩
  ·rintro i d ρ hd ⟨st,hst,rfl⟩
   obtain⟨y,hy,rfl⟩:=gb hd
   have ym:=List.mem_of_getElem? hy
   have W:=WI.at ok h hr i
   rw [← hst] at W
   have dr:R.drop i=y::R.drop (i+1):=by
    have hi:=(List.getElem?_eq_some_iff.mp hy).1
    rw [List.drop_eq_getElem_cons hi,(List.getElem?_eq_some_iff.mp hy).2]
   rw [dr] at W
   have V:=W.into ym
   have yr:=W.sr.rng y (W.row y ym)
   have fl:=lY ps y.toNat
   have fl2:=ok.few
   have eat:atI ((stOf n ps).map fun ts=>PyData.list (ts.map pD)) y=some (.list ((rowOf ps y.toNat).map pD)):=by
    have:=dY (xs:=(stOf n ps).map fun ts=>PyData.list (ts.map pD)) (j:=y.toNat) (v:=.list ((rowOf ps y.toNat).map pD)) (by rw [List.getElem?_map,st_get ps (by omega)]; rfl)
    rwa [show ((y.toNat:Nat):Int)=y by omega] at this
   have tk:R.take (i+1)=R.take i++[y]:=by rw [List.take_add_one,hy]; rfl
   refine⟨.list ((rowOf ps y.toNat).map pD),eat,rfl,fun (j:Nat) ρ=>∃ s2:IM×List Int,s2=((rowOf ps y.toNat).take j).foldl (visit y) st/\ρ=[.sh (stD (stOf n ps)),.im (.int a),.dw 0 (.dict (kvD s2.1)),.sn (iD R),.dw 1 (iD s2.2),.im (.int y),.any],⟨st,rfl,rfl⟩,?_,?_⟩
   ·rintro j d ρ hd ⟨s2,hs2,rfl⟩
    obtain⟨t,ht,rfl⟩:=gb hd
    have tj:(rowOf ps y.toNat).take (j+1)=(rowOf ps y.toNat).take j++[t]:=by rw [List.take_add_one,ht]; rfl
    have V2:=(V.many ok ((rowOf ps y.toNat).take j) fun u hu=>row_at yr.1 u (List.mem_of_mem_take hu)).1
    rw [← hs2] at V2
    have few2:=V2.sr.few
    have len2:=V2.len
    have nx:visit y s2 t=((rowOf ps y.toNat).take (j+1)).foldl (visit y) st:=by rw [tj,List.foldl_append,← hs2]; rfl
    refine⟨.int t.1,rfl,s2.1,rfl,?_⟩
    show if (!dX s2.1 t.1)=true then _ else _
    unfold visit at nx
    cases hb:dX s2.1 t.1 with
    | true =>
     rw [hb,if_pos rfl] at nx
     exact bA (A:=True) ⟨s2,nx,rfl⟩
    | false =>
     rw [hb,if_neg Bool.false_ne_true] at nx
     have ll:(s2.2.map PyData.int).length=s2.2.length:=List.length_map ..
     refine cD (B:=True) ⟨.int t.2,rfl,(show 2<=1000 by decide),.int t.1,rfl,s2.1,rfl,rfl,V2.sr.im,by omega,.int t.1,rfl,rfl,by omega,_,nx,?_⟩
     unfold iD
     rw [List.map_append]
     rfl
   ·rintro ρ ⟨s2,hs2,rfl⟩
    rw [List.length_map,List.take_length] at hs2
    refine⟨s2,?_,rfl⟩
    rw [tk,List.foldl_append,← hst,hs2]
    rfl
  ·rintro ρ ⟨st,hst,rfl⟩
   rw [List.length_map] at hst
   have W:=WI.at ok h hr R.length
   rw [← hst,List.drop_length] at W
   have less:=W.less hne
   rw [List.take_length] at hst
   refine⟨rfl,mes n st.1 st.2,less,st.1,st.2,fuel - 1,rfl,W.done,W.la,rfl,by omega,?_⟩
   cases fuel with
   | zero=>omega
   | succ k =>
    rw [hst,← e,hR]
    rfl
end
inductive Wy (ws:List Put) (a:Int):List Int->List Int->Int->Prop
 | one:Wy ws a [a] [] a
 | step {ps ks:List Int}{p x k:Int} (h:Wy ws a ps ks p) (hx:x∉ps) (j:(p,(x,k))∈ws):Wy ws a (ps++[x]) (ks++[k]) x
inductive TR (m:IM):List Int->List Int->Int->Prop
 | one {a:Int} (h:jH m a=some .none):TR m [a] [] a
 | step {ps ks:List Int}{p x k:Int} (h:TR m ps ks p) (g:jH m x=some (.tuple [.int p,.int k])):TR m (ps++[x]) (ks++[k]) x
theorem get_snoc {m:IM}{x:Int}{e:D}{q:Int×D} (h:jH m x=some e):jH (m++[q]) x=some e:=by
 unfold jH at h ⊢
 rw [List.find?_append]
 cases hf:m.find? fun p=>decide (p.1=x) with
 | none=>rw [hf] at h; cases h
 | some z=>rw [hf] at h; exact h
theorem get_new {m:IM}{y:Int}{d:D} (hx:y∉aL m):jH (m++[(y,d)]) y=some d:=by
 unfold jH
 have hf:(m.find? fun p=>decide (p.1=y))=none:=List.find?_eq_none.mpr fun p hp z=>hx (List.mem_map.mpr ⟨p,hp,of_decide_eq_true z⟩)
 rw [List.find?_append,hf]
 show ((List.find? (fun p=>decide (p.1=y)) [(y,d)])).map (·.2)=some d
 rw [List.find?_cons_of_pos (by exact decide_eq_true rfl)]
 rfl
theorem TR.snoc {m:IM}{q:Int×D}{ps ks:List Int}{x:Int} (h:TR m ps ks x):TR (m++[q]) ps ks x:=by
 induction h with
 | one h=>exact .one (get_snoc h)
 | step _ g ih=>exact .step ih (get_snoc g)
theorem Cm.tr {ws:List Put}{a:Int}{m:IM} (h:Cm ws a m):∀ x∈aL m,∃ ps ks,Wy ws a ps ks x/\TR m ps ks x/\(∀ y∈ps,y∈aL m)/\ps.length<=m.length/\ks.length<=m.length:=by
 induction h with
 | base =>
  intro x hx
  have e:x=a:=by simpa [aL] using hx
  subst e
  exact⟨[x],[],.one,.one (by unfold jH; rw [List.find?_cons_of_pos (by exact decide_eq_true rfl)]; rfl),fun y hy=>by rw [List.mem_singleton.mp hy]; simp [aL],Nat.le_refl _,Nat.zero_le _⟩
 | @snoc m x0 p k h hp hx j ih =>
  have kk:aL (m++[(x0,.tuple [.int p,.int k])])=aL m++[x0]:=by unfold aL; rw [List.map_append]; rfl
  intro x hxm
  rw [kk] at hxm
  rcases List.mem_append.mp hxm with z | z
  ·obtain⟨ps,ks,w,t,hs,l1,l2⟩:=ih x z
   exact⟨ps,ks,w,t.snoc,fun y hy=>by rw [kk]; exact List.mem_append_left _ (hs y hy),by rw [List.length_append]; omega,by rw [List.length_append]; omega⟩
  ·rw [List.mem_singleton.mp z]
   obtain⟨ps,ks,w,t,hs,l1,l2⟩:=ih p hp
   refine⟨ps++[x0],ks++[k],.step w (fun q=>hx (hs _ q)) j,.step t.snoc (get_new hx),fun y hy=>?_,by rw [List.length_append,List.length_append]; simpa using l1,by rw [List.length_append,List.length_append]; simpa using l2⟩
   rw [kk]
   rcases List.mem_append.mp hy with q | q
   ·exact List.mem_append_left _ (hs y q)
   ·exact List.mem_append_right _ q
theorem TR.val {m:IM}{ps ks:List Int}{x:Int} (h:TR m ps ks x):∃ d,jH m x=some d/\((d=.none/\ps=[x]/\ks=[])\/∃ ps' ks' p k,d=.tuple [.int p,.int k]/\ps=ps'++[x]/\ks=ks'++[k]/\TR m ps' ks' p):=by
 cases h with
 | one h=>exact⟨_,h,.inl ⟨rfl,rfl,rfl⟩⟩
 | step h g=>exact⟨_,g,.inr ⟨_,_,_,_,rfl,rfl,rfl,h⟩⟩
theorem TR.uniq {m:IM}{ps ks:List Int}{x:Int} (h:TR m ps ks x):∀ {ps' ks':List Int},TR m ps' ks' x->ps=ps'/\ks=ks':=by
 induction h with
 | one h =>
  intro ps' ks' h'
  cases h' with
  | one _=>exact⟨rfl,rfl⟩
  | step _ g=>rw [h] at g; cases g
 | step _ g ih =>
  intro ps' ks' h'
  cases h' with
  | one h=>rw [g] at h; cases h
  | step h2 g2 =>
   rw [g] at g2
   cases g2
   obtain⟨rfl,rfl⟩:=ih h2
   exact⟨rfl,rfl⟩
open Classical in
noncomputable def trO (m:IM) (g:Int):Option (List Int×List Int):=if h:∃ r:List Int×List Int,TR m r.1 r.2 g then some h.choose else none
theorem tr_some {m:IM}{g:Int}{ps ks:List Int} (h:TR m ps ks g):trO m g=some (ps,ks):=by
 have e:∃ r:List Int×List Int,TR m r.1 r.2 g:=⟨(ps,ks),h⟩
 unfold trO
 rw [dif_pos e]
 obtain⟨h1,h2⟩:=h.uniq e.choose_spec
 exact congrArg some (Prod.ext h1.symm h2.symm)
theorem tr_none {m:IM}{g:Int} (h:dX m g=false):trO m g=none:=by
 unfold trO
 refine dif_neg fun ⟨r,hr⟩=>?_
 obtain⟨d,hd,_⟩:=hr.val
 unfold jH at hd
 cases hf:m.find? fun p=>decide (p.1=g) with
 | none=>rw [hf] at hd; cases hd
 | some z =>
  have h1:=List.mem_of_find?_eq_some hf
  have h2:=List.find?_some hf
  have:dX m g=true:=List.any_eq_true.mpr ⟨z,h1,h2⟩
  rw [this] at h
  cases h
noncomputable def dz:Option (List Int×List Int)->D
 | none=>.none
 | some r=>.tuple [iD r.1,iD r.2]
noncomputable def cW (n:Nat) (ps:List Put) (a g:Int):Option (List Int×List Int):=trO (srM n ps a) g
theorem eE {n:Nat}{ps:List Put}{a g:Int} (ok:PutsOk n ps) (a0:0<=a) (a1:a<n) (r:Rt (edg ps) a g):∃ P K,cW n ps a g=some (P,K)/\Wy ps a P K g/\P.length<=n/\K.length<=n:=by
 have S:=lA ok a0 a1
 obtain⟨P,K,W,T,_,l1,l2⟩:=S.cm.tr g (eX.mp ((S.all g).mpr r))
 have few:=S.few
 exact⟨P,K,tr_some T,W,by omega,by omega⟩
theorem path_none {n:Nat}{ps:List Put}{a g:Int} (ok:PutsOk n ps) (a0:0<=a) (a1:a<n) (r:¬ Rt (edg ps) a g):cW n ps a g=none:=tr_none (by
 have S:=lA ok a0 a1
 rw [Bool.eq_false_iff]
 exact fun z=>r ((S.all g).mp z))
noncomputable def bw (us:List Tie):List Put:=us.zipIdx.flatMap fun p=>[(p.1.1,(p.1.2,((p.2:Nat):Int))),(p.1.2,(p.1.1,((p.2:Nat):Int)))]
theorem putsW_take {us:List Tie}{i:Nat}{t:Tie} (h:us[i]?=some t):bw (us.take (i+1))=bw (us.take i)++[(t.1,(t.2,((i:Nat):Int)))]++[(t.2,(t.1,((i:Nat):Int)))]:=by
 have hi:=(List.getElem?_eq_some_iff.mp h).1
 have tk:us.take (i+1)=us.take i++[t]:=by rw [List.take_add_one,h]; rfl
 unfold bw
 rw [tk,List.zipIdx_append,List.flatMap_append,List.length_take,Nat.min_eq_left (by omega),List.append_assoc,Nat.zero_add]
 rfl
theorem cO {us:List Tie}{p x k:Int}:(p,(x,k))∈bw us↔∃ j:Nat,k=((j:Nat):Int)/\(us[j]?=some (p,x)\/us[j]?=some (x,p)):=by
 unfold bw
 rw [List.mem_flatMap]
 constructor
 ·rintro ⟨⟨t,j⟩,ht,hm⟩
  have ht:us[j]?=some t:=List.mem_zipIdx_iff_getElem?.mp ht
  simp only [List.mem_cons,List.not_mem_nil,or_false,Prod.mk.injEq] at hm
  rcases hm with ⟨rfl,rfl,rfl⟩ | ⟨rfl,rfl,rfl⟩
  ·exact⟨j,rfl,.inl ht⟩
  ·exact⟨j,rfl,.inr ht⟩
 ·rintro ⟨j,rfl,e | e⟩
  ·exact⟨((p,x),j),List.mem_zipIdx_iff_getElem?.mpr e,by simp⟩
  ·exact⟨((x,p),j),List.mem_zipIdx_iff_getElem?.mpr e,by simp⟩
theorem two_len {α β:Type} (f g:α->β):∀ l:List α,(l.flatMap fun p=>[f p,g p]).length=2 * l.length
 | []=>rfl
 | x::l=>by
  rw [List.flatMap_cons,List.length_append,two_len f g l]
  show 2+2 * l.length=2 * (l.length+1)
  omega
theorem putsW_len (us:List Tie):(bw us).length=2 * us.length:=by
 unfold bw
 rw [two_len,List.length_zipIdx]
theorem gO {n:Int}{us:List Tie} (n0:0<=n) (lu:us.length<=100) (ok:OkN n us):PutsOk n.toNat (bw us):=by
 refine⟨by rw [putsW_len]; omega,fun q hq=>?_⟩
 obtain⟨p,x,k⟩:=q
 obtain⟨j,_,e | e⟩:=cO.mp hq
 ·obtain⟨⟨h1,h2⟩,⟨h3,h4⟩,_⟩:=ok _ (List.mem_of_getElem? e)
  dsimp only at *
  omega
 ·obtain⟨⟨h1,h2⟩,⟨h3,h4⟩,_⟩:=ok _ (List.mem_of_getElem? e)
  dsimp only at *
  omega
theorem edg_putsW {us:List Tie}{x y:Int}:(x,y)∈edg (bw us)↔(x,y)∈adj us [] []:=by
 rw [j7,adj_mem]
 constructor
 ·rintro ⟨k,h⟩
  obtain⟨j,_,e | e⟩:=cO.mp h
  ·exact .inl (List.mem_of_getElem? e)
  ·exact .inr (List.mem_of_getElem? e)
 ·rintro (e | e)
  ·obtain⟨j,hj⟩:=List.getElem?_of_mem e
   exact⟨_,cO.mpr ⟨j,rfl,.inl hj⟩⟩
  ·obtain⟨j,hj⟩:=List.getElem?_of_mem e
   exact⟨_,cO.mpr ⟨j,rfl,.inr hj⟩⟩
theorem rt_putsW {us:List Tie}{x y:Int}:Rt (edg (bw us)) x y↔Rt (adj us [] []) x y:=⟨Rt.mono fun ⟨_,_⟩ h=>edg_putsW.mp h,Rt.mono fun ⟨_,_⟩ h=>edg_putsW.mpr h⟩
noncomputable def fTrace (ds:List D) (P:D->Prop):Prop:=∃ (ws:List Put) (a:Int) (m:IM) (g:Int),ds=[.dict (kvD m),.int g]/\Cm ws a m/\m.length<=100/\P (dz (trO m g))
noncomputable def fSteps (ds:List D) (P:D->Prop):Prop:=∃ n us,ds=[aP n us]/\0<=n/\n<=100/\us.length<=100/\OkN n us/\P (stD (stOf n.toNat (bw us)))
noncomputable def fPart (ds:List D) (P:D->Prop):Prop:=∃ n us a,ds=[aP n us,.int a]/\0<=n/\n<=60/\us.length<=100/\OkN n us/\0<=a/\a<n/\P (iD (rsI (adj us [] []) n.toNat a))
noncomputable def fWay (ds:List D) (P:D->Prop):Prop:=∃ n us a b,ds=[aP n us,.int a,.int b]/\0<=n/\n<=60/\us.length<=100/\OkN n us/\0<=a/\a<n/\0<=b/\b<n/\P (dz (cW n.toNat (bw us) a b))
noncomputable def fWhI (ds:List D) (P:D->Prop):Prop:=∃ i:Int,ds=[.int i]/\P (.bool true)
noncomputable def fBelI (ds:List D) (P:D->Prop):Prop:=∃ m i:Int,ds=[.int m,.int i]/\0<=i/\i<m/\P (.bool true)
noncomputable def fIsP (ds:List D) (P:D->Prop):Prop:=∃ n us i,ds=[aP n us,.int i]/\0<=i/\i<n/\P (.bool true)
noncomputable def fCkP (ds:List D) (P:D->Prop):Prop:=∃ n us i,ds=[aP n us,.int i]/\0<=i/\i<n/\P .none
noncomputable def fCk2 (ds:List D) (P:D->Prop):Prop:=∃ n us i j,ds=[aP n us,.int i,.int j]/\0<=i/\i<n/\0<=j/\j<n/\i≠j/\P .none
section
variable {P:Program}{w:World}{K:PySem.W.Frag}{mg:Str->Option Value}{base:Heap}{f:Addr}{fd:FuncData}
theorem sc_trace:FnScope ["came","goal","places","ties","step"] ["came","goal"] (au (top 12)):=⟨rfl,rfl,rfl,by decide +kernel,rfl,by decide +kernel,by decide +kernel⟩
theorem ok_trace (F:Fun K "trace" "trace" (top 12) f fd) (B:Dl.Bn mg) (m_reversed:mg "reversed"=none):FnOk P w K mg base CX0 1 f fd ["came","goal"] (spD fTrace):=by
 refine F.ok sc_trace (aW fun ds P h=>?len) (fun cdv A outer s H vs Q E hr h=>?_)
 case len=>(first | (obtain⟨_,rfl,_⟩:=h; rfl) | (obtain⟨_,_,rfl,_⟩:=h; rfl) | (obtain⟨_,_,_,rfl,_⟩:=h; rfl) | (obtain⟨_,_,_,_,rfl,_⟩:=h; rfl) | (obtain⟨_,_,_,_,_,rfl,_⟩:=h; rfl) | (obtain⟨_,_,_,_,_,_,rfl,_⟩:=h; rfl) | (obtain⟨_,_,_,_,_,_,_,rfl,_⟩:=h; rfl) | (obtain⟨rfl,_⟩:=h; rfl))
 have nd:=sc_trace.nd
 refine⟨_,Wr.WDSs.h (Wr.ao (Wr.bJ (Wr.d8 hr.units (Wr.dv 1) (Wr.dv 0)) (Wr.aD (Wr.aK Wr.d9)) Wr.aJ)
  (Wr.ao (Wr.aN (some 0) (i:=2) nd rfl (by first | exact Or.inl rfl | exact Or.inr rfl) (Wr.aU (Wr.aj (Wr.dv 1) Wr.ak)))
  (Wr.ao (Wr.aN (some 1) (i:=3) nd rfl (by first | exact Or.inl rfl | exact Or.inr rfl) (Wr.aU Wr.ak))
  (Wr.ao (Wr.aN none (i:=4) nd rfl (by first | exact Or.inl rfl | exact Or.inr rfl) (Wr.mH hr.units (Wr.dv 0) (Wr.dv 1)))
  (Wr.ao (Wr.jK PassesOwn.never (Wr.iH (Wr.dv 4) Wr.d9) (Wr.ao (Wr.cY (Wr.wv 2) (Wr.aj (Wr.aB (Wr.dv 4) Wr.aq) Wr.ak))
  (Wr.ao (Wr.cY (Wr.wv 3) (Wr.aj (Wr.aB (Wr.dv 4) Wr.aq) Wr.ak))
  (Wr.aD (Wr.aN none (i:=4) nd rfl (by first | exact Or.inl rfl | exact Or.inr rfl) (Wr.mH hr.units (Wr.dv 0) (Wr.aB (Wr.dv 4) Wr.aq)))))))
  (Wr.aC [4] (Wr.aD (Wr.aK (Wr.aQ (Wr.aj (Wr.iI rfl B.list m_reversed (Wr.aj (Wr.dv 2) Wr.ak)) (Wr.aj (Wr.iI rfl B.list m_reversed (Wr.aj (Wr.dv 3) Wr.ak)) Wr.ak))))))))))),bC h ?_⟩
 rintro ds P ⟨ws,a,m,g,rfl,C,lm,qq⟩
 refine⟨[.sh (.dict (kvD m)),.im (.int g),.any,.any,.any],rfl,m,rfl,?_⟩
 show if (!dX m g)=true then _ else _
 cases hb:dX m g with
 | false=>exact cD (B:=True) ⟨rfl,by rw [tr_none hb] at qq; exact qq⟩
 | true =>
  obtain⟨ps,ks,W,T,_,l1,l2⟩:=C.tr g (eX.mp hb)
  have q:P (.tuple [iD ps,iD ks]):=by rw [tr_some T] at qq; exact qq
  obtain⟨d0,hg0,hv0⟩:=T.val
  have im0:∀ k,norm k d0=.imm:=fun k=>by
   rcases hv0 with ⟨rfl,_⟩ | ⟨_,_,p,k2,rfl,_⟩
   ·exact dD rfl
   ·exact dD rfl
  refine bA (A:=True) ⟨(show 1<=1000 by decide),(show 0<=1000 by decide),m,d0,rfl,hg0,?_⟩
  show dSet 4 none (fun _ P=>P (norm .shr d0) d0) _ _
  unfold dSet
  simp only [im0]
  show dSeq _ _ _ [.sh (.dict (kvD m)),.im (.int g),.dw 0 (iD [g]),.dw 1 (iD []),.im d0]
  refine⟨fun mm ρ=>∃ (c:Int) (p1 k1 S T:List Int) (d:D),ρ=[.sh (.dict (kvD m)),.im (.int g),.dw 0 (iD (S.reverse++[c])),.dw 1 (iD T.reverse),.im d]/\TR m p1 k1 c/\jH m c=some d/\p1++S=ps/\k1++T=ks/\mm=p1.length,⟨_,g,ps,ks,[],[],d0,rfl,T,hg0,List.append_nil _,List.append_nil _,rfl⟩,?_⟩
  rintro mm ρ ⟨c,p1,k1,S,T',d,rfl,t,hg,e1,e2,rfl⟩
  have L1:(S.reverse++[c]).length<=101:=by
   have h1:=congrArg List.length e1
   rw [List.length_append] at h1
   rw [List.length_append,List.length_reverse,List.length_singleton]
   omega
  have L2:T'.reverse.length<=100:=by
   have h1:=congrArg List.length e2
   rw [List.length_append] at h1
   rw [List.length_reverse]
   omega
  obtain⟨d2,hg2,hv⟩:=t.val
  rw [hg] at hg2
  cases hg2
  rcases hv with ⟨rfl,rfl,rfl⟩ | ⟨p',k',p,k,rfl,rfl,rfl,t'⟩
  ·have r1:((S.reverse++[c]).map PyData.int).reverse=ps.map PyData.int:=by
    rw [← List.map_reverse,List.reverse_append,List.reverse_reverse,← e1]
    rfl
   have r2:(T'.reverse.map PyData.int).reverse=ks.map PyData.int:=by
    rw [← List.map_reverse,List.reverse_reverse,← e2]
    rfl
   refine bA (A:=True) (.inl ⟨by rw [r1]; exact imm_ints _,.inl ⟨by rw [r2]; exact imm_ints _,(show 2<=1000 by decide),rfl,?_⟩⟩)
   show P (.tuple [.list ((S.reverse++[c]).map PyData.int).reverse,.list (T'.reverse.map PyData.int).reverse])
   rw [r1,r2]
   exact q
  ·obtain⟨d3,hg3,hv3⟩:=t'.val
   have im3:∀ k,norm k d3=.imm:=fun k=>by
    rcases hv3 with ⟨rfl,_⟩ | ⟨_,_,_,_,rfl,_⟩
    ·exact dD rfl
    ·exact dD rfl
   refine cD (B:=True) ⟨.int p,rfl,rfl,by rw [List.length_map]; omega,.int k,rfl,rfl,by rw [List.length_map]; omega,.int p,rfl,m,d3,rfl,hg3,?_⟩
   simp only [im3]
   refine⟨p'.length,by rw [List.length_append,List.length_singleton]; omega,p,p',k',c::S,k::T',d3,?_,t',hg3,by rw [← e1,List.append_assoc]; rfl,by rw [← e2,List.append_assoc]; rfl,rfl⟩
   have r1:(S.reverse++[c]).map PyData.int++[PyData.int p]=((c::S).reverse++[p]).map PyData.int:=by
    rw [List.reverse_cons,List.map_append (l₂:=[p])]
    rfl
   have r2:T'.reverse.map PyData.int++[PyData.int k]=(k::T').reverse.map PyData.int:=by
    rw [List.reverse_cons,List.map_append]
    rfl
   show ([_,_,Sl.dw 0 (.list ((S.reverse++[c]).map PyData.int++[PyData.int p])),Sl.dw 1 (.list (T'.reverse.map PyData.int++[PyData.int k])),_]:List Sl)=[_,_,Sl.dw 0 (.list (((c::S).reverse++[p]).map PyData.int)),Sl.dw 1 (.list ((k::T').reverse.map PyData.int)),_]
   rw [r1,r2]
   rfl
theorem sc_is_whole:FnScope ["thing"] ["thing"] (au (top 4)):=⟨rfl,rfl,rfl,by decide +kernel,rfl,by decide +kernel,by decide +kernel⟩
theorem ok_is_whole (F:Fun K "is_whole" "is_whole" (top 4) f fd) (B:Dl.Bn mg):FnOk P w K mg base CX0 1 f fd ["thing"] (spD fWhI):=by
 refine F.ok sc_is_whole (aW fun ds P h=>?len) (fun cdv A outer s H vs Q E hr h=>?_)
 case len=>(first | (obtain⟨_,rfl,_⟩:=h; rfl) | (obtain⟨_,_,rfl,_⟩:=h; rfl) | (obtain⟨_,_,_,rfl,_⟩:=h; rfl) | (obtain⟨_,_,_,_,rfl,_⟩:=h; rfl) | (obtain⟨_,_,_,_,_,rfl,_⟩:=h; rfl) | (obtain⟨_,_,_,_,_,_,rfl,_⟩:=h; rfl) | (obtain⟨_,_,_,_,_,_,_,rfl,_⟩:=h; rfl) | (obtain⟨rfl,_⟩:=h; rfl))
 have nd:=sc_is_whole.nd
 refine⟨_,Wr.WDSs.h (Wr.aD (Wr.aK (Wr.jy (Wr.cN kit_int B.isinstance (Wr.dv 0) (Wr.wty rfl B.int boot_int)) (Wr.pd_one (Wr.pd_not (Wr.cN kit_bool B.isinstance (Wr.dv 0) (Wr.wty rfl B.bool boot_bool))))))),bC h ?_⟩
 rintro ds P ⟨i,rfl,q⟩
 refine⟨[.im (.int i)],rfl,?_⟩
 exact⟨rfl,q⟩
theorem sc_is_below:FnScope ["limit","thing"] ["limit","thing"] (au (top 5)):=⟨rfl,rfl,rfl,by decide +kernel,rfl,by decide +kernel,by decide +kernel⟩
theorem ok_is_below (F:Fun K "is_below" "is_below" (top 5) f fd) (B:Dl.Bn mg) (C_is_whole:Dl.Cal P w K mg base 1 "is_whole" ["thing"] (spD fWhI)):FnOk P w K mg base CX0 2 f fd ["limit","thing"] (spD fBelI):=by
 refine F.ok sc_is_below (aW fun ds P h=>?len) (fun cdv A outer s H vs Q E hr h=>?_)
 case len=>(first | (obtain⟨_,rfl,_⟩:=h; rfl) | (obtain⟨_,_,rfl,_⟩:=h; rfl) | (obtain⟨_,_,_,rfl,_⟩:=h; rfl) | (obtain⟨_,_,_,_,rfl,_⟩:=h; rfl) | (obtain⟨_,_,_,_,_,rfl,_⟩:=h; rfl) | (obtain⟨_,_,_,_,_,_,rfl,_⟩:=h; rfl) | (obtain⟨_,_,_,_,_,_,_,rfl,_⟩:=h; rfl) | (obtain⟨rfl,_⟩:=h; rfl))
 have nd:=sc_is_below.nd
 refine⟨_,Wr.WDSs.h (Wr.aD (Wr.aK (Wr.jy (Wr.dc C_is_whole hr (Wr.aj (Wr.dv 1) Wr.ak)) (Wr.pd_one (Wr.pd_chLL Wr.aq (Wr.dv 1) (Wr.dv 0)))))),bC h ?_⟩
 rintro ds P ⟨m,i,rfl,h0,h1,q⟩
 refine⟨[.im (.int m),.im (.int i)],rfl,?_⟩
 refine⟨i,rfl,cD (B:=True) ?_⟩
 show if decide ((0:Int)<=i)=true then _ else _
 rw [decide_eq_true h0]
 refine cD (B:=True) ⟨rfl,?_⟩
 show P (.bool (decide (i<m)))
 rw [decide_eq_true h1]
 exact q
theorem sc_is_place:FnScope ["web","thing"] ["web","thing"] (au (top 6)):=⟨rfl,rfl,rfl,by decide +kernel,rfl,by decide +kernel,by decide +kernel⟩
theorem ok_is_place (F:Fun K "is_place" "is_place" (top 6) f fd) (B:Dl.Bn mg) (C_is_below:Dl.Cal P w K mg base 2 "is_below" ["limit","thing"] (spD fBelI)):FnOk P w K mg base CX0 3 f fd ["web","thing"] (spD fIsP):=by
 refine F.ok sc_is_place (aW fun ds P h=>?len) (fun cdv A outer s H vs Q E hr h=>?_)
 case len=>(first | (obtain⟨_,rfl,_⟩:=h; rfl) | (obtain⟨_,_,rfl,_⟩:=h; rfl) | (obtain⟨_,_,_,rfl,_⟩:=h; rfl) | (obtain⟨_,_,_,_,rfl,_⟩:=h; rfl) | (obtain⟨_,_,_,_,_,rfl,_⟩:=h; rfl) | (obtain⟨_,_,_,_,_,_,rfl,_⟩:=h; rfl) | (obtain⟨_,_,_,_,_,_,_,rfl,_⟩:=h; rfl) | (obtain⟨rfl,_⟩:=h; rfl))
 have nd:=sc_is_place.nd
 refine⟨_,Wr.WDSs.h (Wr.aD (Wr.aK (Wr.dc C_is_below hr (Wr.aj (Wr.aB (Wr.dv 0) Wr.aq) (Wr.aj (Wr.dv 1) Wr.ak))))),bC h ?_⟩
 rintro ds P ⟨n,us,i,rfl,h0,h1,q⟩
 refine⟨[.im (aP n us),.im (.int i)],by show [dI (aP n us),.im (.int i)]=_; rw [bD],?_⟩
 exact⟨.int n,rfl,n,i,rfl,h0,h1,rfl,q⟩
theorem jq:FnScope ["web","thing"] ["web","thing"] (au (top 7)):=⟨rfl,rfl,rfl,by decide +kernel,rfl,by decide +kernel,by decide +kernel⟩
theorem ok_check_place (F:Fun K "check_place" "check_place" (top 7) f fd) (B:Dl.Bn mg) (C_is_place:Dl.Cal P w K mg base 3 "is_place" ["web","thing"] (spD fIsP)):FnOk P w K mg base CX0 4 f fd ["web","thing"] (spD fCkP):=by
 refine F.ok jq (aW fun ds P h=>?len) (fun cdv A outer s H vs Q E hr h=>?_)
 case len=>(first | (obtain⟨_,rfl,_⟩:=h; rfl) | (obtain⟨_,_,rfl,_⟩:=h; rfl) | (obtain⟨_,_,_,rfl,_⟩:=h; rfl) | (obtain⟨_,_,_,_,rfl,_⟩:=h; rfl) | (obtain⟨_,_,_,_,_,rfl,_⟩:=h; rfl) | (obtain⟨_,_,_,_,_,_,rfl,_⟩:=h; rfl) | (obtain⟨_,_,_,_,_,_,_,rfl,_⟩:=h; rfl) | (obtain⟨rfl,_⟩:=h; rfl))
 have nd:=jq.nd
 refine⟨_,Wr.WDSs.h (Wr.aD (Wr.bJ (Wr.cu (Wr.bV (Wr.dc C_is_place hr (Wr.aj (Wr.dv 0) (Wr.aj (Wr.dv 1) Wr.ak))))) (Wr.aD Wr.ds_never) Wr.aJ)),bC h ?_⟩
 rintro ds P ⟨n,us,i,rfl,h0,h1,q⟩
 refine⟨[.im (aP n us),.im (.int i)],by show [dI (aP n us),.im (.int i)]=_; rw [bD],?_⟩
 exact⟨n,us,i,rfl,h0,h1,bA (A:=True) q⟩
theorem fD:FnScope ["web","a","b"] ["web","a","b"] (au (top 8)):=⟨rfl,rfl,rfl,by decide +kernel,rfl,by decide +kernel,by decide +kernel⟩
theorem kI (F:Fun K "check_two_places" "check_two_places" (top 8) f fd) (B:Dl.Bn mg) (C_check_place:Dl.Cal P w K mg base 4 "check_place" ["web","thing"] (spD fCkP)):FnOk P w K mg base CX0 5 f fd ["web","a","b"] (spD fCk2):=by
 refine F.ok fD (aW fun ds P h=>?len) (fun cdv A outer s H vs Q E hr h=>?_)
 case len=>(first | (obtain⟨_,rfl,_⟩:=h; rfl) | (obtain⟨_,_,rfl,_⟩:=h; rfl) | (obtain⟨_,_,_,rfl,_⟩:=h; rfl) | (obtain⟨_,_,_,_,rfl,_⟩:=h; rfl) | (obtain⟨_,_,_,_,_,rfl,_⟩:=h; rfl) | (obtain⟨_,_,_,_,_,_,rfl,_⟩:=h; rfl) | (obtain⟨_,_,_,_,_,_,_,rfl,_⟩:=h; rfl) | (obtain⟨rfl,_⟩:=h; rfl))
 have nd:=fD.nd
 refine⟨_,Wr.WDSs.h (Wr.ao (Wr.gn (Wr.dc C_check_place hr (Wr.aj (Wr.dv 0) (Wr.aj (Wr.dv 1) Wr.ak))))
  (Wr.ao (Wr.gn (Wr.dc C_check_place hr (Wr.aj (Wr.dv 0) (Wr.aj (Wr.dv 2) Wr.ak))))
  (Wr.aD (Wr.bJ (Wr.mD hr.units (Wr.dv 1) (Wr.dv 2)) (Wr.aD Wr.ds_never) Wr.aJ)))),bC h ?_⟩
 rintro ds P ⟨n,us,i,j,rfl,h0,h1,h2,h3,ne,q⟩
 refine⟨[.im (aP n us),.im (.int i),.im (.int j)],by show [dI (aP n us),.im (.int i),.im (.int j)]=_; rw [bD],?_⟩
 refine⟨n,us,i,rfl,h0,h1,n,us,j,rfl,h2,h3,?_⟩
 show if decide (i=j)=true then _ else _
 rw [decide_eq_false ne]
 exact bA (A:=True) q
theorem je:FnScope ["web","steps","number","tie"] ["web"] (au (top 10)):=⟨rfl,rfl,rfl,by decide +kernel,rfl,by decide +kernel,by decide +kernel⟩
theorem nd_steps_of_web_0:(["place","web","steps","number","tie"]:List Str).Nodup:=by decide +kernel
theorem ok_steps_of_web (F:Fun K "steps_of_web" "steps_of_web" (top 10) f fd) (B:Dl.Bn mg) (m_enumerate:mg "enumerate"=none):FnOk P w K mg base CX0 1 f fd ["web"] (spD fSteps):=by
 refine F.ok je (aW fun ds P h=>?len) (fun cdv A outer s H vs Q E hr h=>?_)
 case len=>(first | (obtain⟨_,rfl,_⟩:=h; rfl) | (obtain⟨_,_,rfl,_⟩:=h; rfl) | (obtain⟨_,_,_,rfl,_⟩:=h; rfl) | (obtain⟨_,_,_,_,rfl,_⟩:=h; rfl) | (obtain⟨_,_,_,_,_,rfl,_⟩:=h; rfl) | (obtain⟨_,_,_,_,_,_,rfl,_⟩:=h; rfl) | (obtain⟨_,_,_,_,_,_,_,rfl,_⟩:=h; rfl) | (obtain⟨rfl,_⟩:=h; rfl))
 have nd:=je.nd
 refine⟨_,Wr.WDSs.h (Wr.ao (Wr.jL 0 ["place"] (i:=1) rfl nd rfl (by first | exact Or.inl rfl | exact Or.inr rfl) (Wr.bG B.range (Wr.aj (Wr.aB (Wr.dv 0) Wr.aq) Wr.ak)) (fun c=>(Wr.aG (i:=0) nd_steps_of_web_0 rfl (by first | exact Or.inl rfl | exact Or.inr rfl))))
  (Wr.ao (Wr.bT PassesOwn.never rfl (Wr.di_enum m_enumerate (Wr.aj (Wr.aB (Wr.dv 0) Wr.aq) Wr.ak)) (Wr.fP (n:=2) rfl (Wr.bx (Wr.aG (i:=2) nd rfl (by first | exact Or.inl rfl | exact Or.inr rfl)) (Wr.bx (Wr.aG (i:=3) nd rfl (by first | exact Or.inl rfl | exact Or.inr rfl)) Wr.dF))) (Wr.ao (Wr.eO (Wr.wv 1) (Wr.aB (Wr.dv 3) Wr.aq) (Wr.aj (Wr.aQ (Wr.aj (Wr.aB (Wr.dv 3) Wr.aq) (Wr.aj (Wr.dv 2) Wr.ak))) Wr.ak))
  (Wr.ao (Wr.eO (Wr.wv 1) (Wr.aB (Wr.dv 3) Wr.aq) (Wr.aj (Wr.aQ (Wr.aj (Wr.aB (Wr.dv 3) Wr.aq) (Wr.aj (Wr.dv 2) Wr.ak))) Wr.ak)) (Wr.aC [2,3] Wr.aJ))))
  (Wr.aC [2,3] (Wr.aD (Wr.aK (Wr.dv 1)))))),bC h ?_⟩
 rintro ds P ⟨n,us,rfl,n1,n16,lu,ok,q⟩
 refine⟨[.im (aP n us),.any,.any,.any],?_,?_⟩
 ·show [dI (aP n us),.any,.any,.any]=_
  rw [bD]
 refine⟨.int n,rfl,⟨by omega,by omega⟩,by rw [bO]; omega,rfl,?_⟩
 rw [bO]
 refine⟨.tuple (us.map pD),rfl,rfl,fun (i:Nat) ρ=>ρ=[.im (aP n us),.rw 0 (rP (stOf n.toNat (bw (us.take i)))),.any,.any],?_,?_,?_⟩
 ·show [_,Sl.rw 0 (List.replicate n.toNat []),_,_]=[_,Sl.rw 0 (rP (stOf n.toNat [])),_,_]
  rw [st_nil]
  unfold rP
  rw [List.map_replicate]
  rfl
 ·rintro i d ρ hd rfl
  rw [eN,List.getElem?_map] at hd
  obtain⟨t,ht,rfl⟩:∃ t,us[i]?=some t/\PyData.tuple [.int ((i:Nat):Int),pD t]=d:=by
   cases e:us[i]? with
   | none=>rw [e] at hd; cases hd
   | some t=>rw [e] at hd; exact⟨t,rfl,Option.some.inj hd⟩
  obtain⟨⟨o1,o2⟩,⟨o3,o4⟩,o5⟩:=ok t (List.mem_of_getElem? ht)
  have hi:=(List.getElem?_eq_some_iff.mp ht).1
  have l1:(bw (us.take i)).length<=200:=by rw [putsW_len,List.length_take]; omega
  have r1:=lY (bw (us.take i)) t.1.toNat
  have r2:=lY (bw (us.take i)++[(t.1,(t.2,((i:Nat):Int)))]) t.2.toNat
  rw [List.length_append,List.length_singleton] at r2
  have s1:=mj (n:=n.toNat) (ps:=bw (us.take i)) (q:=(t.1,(t.2,((i:Nat):Int)))) ⟨o1,by show t.1<_; omega⟩
  have s2:=mj (n:=n.toNat) (ps:=bw (us.take i)++[(t.1,(t.2,((i:Nat):Int)))]) (q:=(t.2,(t.1,((i:Nat):Int)))) ⟨o3,by show t.2<_; omega⟩
  rw [← s1] at s2
  refine⟨rfl,.int t.1,rfl,t.1.toNat,(rowOf (bw (us.take i)) t.1.toNat).map pD,?_,rP_get _ (by omega),.int t.2,rfl,(show 2<=1000 by decide),rfl,by rw [List.length_map]; omega,.int t.2,rfl,?_⟩
  ·unfold ixN rP
   rw [if_pos o1,if_pos (by rw [List.length_map,iy]; omega)]
  refine⟨t.2.toNat,(rowOf (bw (us.take i)++[(t.1,(t.2,((i:Nat):Int)))]) t.2.toNat).map pD,?_,?_,.int t.1,rfl,(show 2<=1000 by decide),rfl,by rw [List.length_map]; omega,?_⟩
  ·unfold ixN rP
   rw [if_pos o3,if_pos (by rw [List.length_set,List.length_map,iy]; omega)]
  ·have:=rP_get (n:=n.toNat) (bw (us.take i)++[(t.1,(t.2,((i:Nat):Int)))]) (p:=t.2.toNat) (by omega)
   rw [← s1] at this
   exact this
  ·show [Sl.im (aP n us),Sl.rw 0 (((rP (stOf n.toNat (bw (us.take i)))).set t.1.toNat ((rowOf (bw (us.take i)) t.1.toNat).map pD++[pD (t.2,((i:Nat):Int))])).set t.2.toNat ((rowOf (bw (us.take i)++[(t.1,(t.2,((i:Nat):Int)))]) t.2.toNat).map pD++[pD (t.1,((i:Nat):Int))])),Sl.any,Sl.any]=[_,Sl.rw 0 (rP (stOf n.toNat (bw (us.take (i+1))))),_,_]
   rw [putsW_take ht,← s2]
 ·rintro ρ rfl
  rw [eG,List.length_map,List.take_length]
  refine⟨rfl,?_⟩
  show P (.list ((rP (stOf n.toNat (bw us))).map PyData.list))
  rw [stD_eq]
  exact q
theorem sc_part_of:FnScope ["web","place"] ["web","place"] (au (top 13)):=⟨rfl,rfl,rfl,by decide +kernel,rfl,by decide +kernel,by decide +kernel⟩
theorem ok_part_of (F:Fun K "part_of" "part_of" (top 13) f fd) (B:Dl.Bn mg) (C_search:Dl.Cal P w K mg base 1 "search" ["steps","start"] (spD fSearch)) (C_steps_of_web:Dl.Cal P w K mg base 1 "steps_of_web" ["web"] (spD fSteps)):FnOk P w K mg base CX0 2 f fd ["web","place"] (spD fPart):=by
 refine F.ok sc_part_of (aW fun ds P h=>?len) (fun cdv A outer s H vs Q E hr h=>?_)
 case len=>(first | (obtain⟨_,rfl,_⟩:=h; rfl) | (obtain⟨_,_,rfl,_⟩:=h; rfl) | (obtain⟨_,_,_,rfl,_⟩:=h; rfl) | (obtain⟨_,_,_,_,rfl,_⟩:=h; rfl) | (obtain⟨_,_,_,_,_,rfl,_⟩:=h; rfl) | (obtain⟨_,_,_,_,_,_,rfl,_⟩:=h; rfl) | (obtain⟨_,_,_,_,_,_,_,rfl,_⟩:=h; rfl) | (obtain⟨rfl,_⟩:=h; rfl))
 have nd:=sc_part_of.nd
 refine⟨_,Wr.WDSs.h (Wr.aD (Wr.aK (Wr.pd_sortD rfl B.sorted (Wr.aj (Wr.dc C_search hr (Wr.aj (Wr.dc C_steps_of_web hr (Wr.aj (Wr.dv 0) Wr.ak)) (Wr.aj (Wr.dv 1) Wr.ak))) Wr.ak)))),bC h ?_⟩
 rintro ds P ⟨n,us,a,rfl,n1,n16,lu,ok,a0,a1,q⟩
 refine⟨[.im (aP n us),.im (.int a)],?_,?_⟩
 ·show [dI (aP n us),.im (.int a)]=_
  rw [bD]
 have an:=adj_rng (F:=[]) (B:=[]) ok (by omega)
 have po:=gO (by omega) lu ok
 have S:=lA (n:=n.toNat) po a0 (by omega)
 have few:=S.few
 refine⟨n,us,rfl,by omega,by omega,lu,ok,n.toNat,bw us,a,rfl,by omega,po,a0,by omega,srM n.toNat (bw us) a,rfl,by omega,fun out hp hs=>⟨rfl,?_⟩⟩
 have e:=rs_eq (vs:=adj us [] []) (n:=n.toNat) (a:=a) hp hs S.nd (fun x=>by rw [← rt_putsW,← S.all,eX]; rfl) fun x r=>r.rng (fun t ht=>(an t ht).2) ⟨a0,by omega⟩
 rw [e]
 exact q
theorem sc_way:FnScope ["web","a","b"] ["web","a","b"] (au (top 15)):=⟨rfl,rfl,rfl,by decide +kernel,rfl,by decide +kernel,by decide +kernel⟩
theorem ok_way (F:Fun K "way" "way" (top 15) f fd) (B:Dl.Bn mg) (C_check_place:Dl.Cal P w K mg base 4 "check_place" ["web","thing"] (spD fCkP)) (C_trace:Dl.Cal P w K mg base 1 "trace" ["came","goal"] (spD fTrace)) (C_search:Dl.Cal P w K mg base 1 "search" ["steps","start"] (spD fSearch)) (C_steps_of_web:Dl.Cal P w K mg base 1 "steps_of_web" ["web"] (spD fSteps)):FnOk P w K mg base CX0 5 f fd ["web","a","b"] (spD fWay):=by
 refine F.ok sc_way (aW fun ds P h=>?len) (fun cdv A outer s H vs Q E hr h=>?_)
 case len=>(first | (obtain⟨_,rfl,_⟩:=h; rfl) | (obtain⟨_,_,rfl,_⟩:=h; rfl) | (obtain⟨_,_,_,rfl,_⟩:=h; rfl) | (obtain⟨_,_,_,_,rfl,_⟩:=h; rfl) | (obtain⟨_,_,_,_,_,rfl,_⟩:=h; rfl) | (obtain⟨_,_,_,_,_,_,rfl,_⟩:=h; rfl) | (obtain⟨_,_,_,_,_,_,_,rfl,_⟩:=h; rfl) | (obtain⟨rfl,_⟩:=h; rfl))
 have nd:=sc_way.nd
 refine⟨_,Wr.WDSs.h (Wr.ao (Wr.gn (Wr.dc C_check_place hr (Wr.aj (Wr.dv 0) (Wr.aj (Wr.dv 1) Wr.ak))))
  (Wr.ao (Wr.gn (Wr.dc C_check_place hr (Wr.aj (Wr.dv 0) (Wr.aj (Wr.dv 2) Wr.ak))))
  (Wr.aD (Wr.aK (Wr.dc C_trace hr (Wr.aj (Wr.dc C_search hr (Wr.aj (Wr.dc C_steps_of_web hr (Wr.aj (Wr.dv 0) Wr.ak)) (Wr.aj (Wr.dv 1) Wr.ak))) (Wr.aj (Wr.dv 2) Wr.ak))))))),bC h ?_⟩
 rintro ds P ⟨n,us,a,b,rfl,n0,n60,lu,ok,a0,a1,b0,b1,q⟩
 refine⟨[.im (aP n us),.im (.int a),.im (.int b)],by show [dI (aP n us),.im (.int a),.im (.int b)]=_; rw [bD],?_⟩
 have po:=gO (by omega) lu ok
 have S:=lA (n:=n.toNat) po a0 (by omega)
 have few:=S.few
 refine⟨n,us,a,rfl,a0,a1,n,us,b,rfl,b0,b1,n,us,rfl,n0,by omega,lu,ok,n.toNat,bw us,a,rfl,by omega,po,a0,by omega,bw us,a,srM n.toNat (bw us) a,b,rfl,S.cm,by omega,?_⟩
 show _/\P (dz (cW n.toNat (bw us) a b))
 refine⟨?_,q⟩
 show (norm .new (dz (trO (srM n.toNat (bw us) a) b))).le .n0=true
 cases trO (srM n.toNat (bw us) a) b with
 | none=>rfl
 | some r=>rfl
end
noncomputable def cF (arcs:List Tie) (i:Int):Tie:=arcs.getD i.toNat (0,0)
noncomputable def lft (arcs:List Tie) (U:List Int):List Put:=arcs.zipIdx.map fun p=>if ((p.2:Nat):Int)∈U then (p.1.2,(p.1.1,((p.2:Nat):Int))) else (p.1.1,(p.1.2,((p.2:Nat):Int)))
noncomputable def alg (arcs:List Tie) (U:List Int):List Put:=U.map fun i=>((cF arcs i).1,((cF arcs i).2,i))
noncomputable def OkA (n:Int) (arcs:List Tie):Prop:=∀ e∈arcs,(0<=e.1/\e.1<n)/\0<=e.2/\e.2<n
noncomputable def InL (arcs:List Tie) (U:List Int):Prop:=U.length<=200/\∀ i∈U,0<=i/\i<(arcs.length:Int)
noncomputable def sd (L:Nat) (U K:List Int):List Int:=(zI (List.range L)).filter fun i=>decide (i∈U) != decide (i∈K)
noncomputable def aug (n:Nat) (arcs:List Tie) (a b:Int):Nat->List Int->Option (List Int)
 | 0,U=>some U
 | k+1,U=>match cW n (lft arcs U) a b with
  | none=>none
  | some r=>aug n arcs a b k (sd arcs.length U r.2)
noncomputable def usedD:Option (List Int)->D
 | none=>.none
 | some U=>iD U
theorem arc_get {arcs:List Tie}{i:Int} (h0:0<=i) (h1:i<(arcs.length:Int)):arcs[i.toNat]?=some (cF arcs i):=by
 unfold cF
 rw [List.getD_eq_getElem?_getD,List.getElem?_eq_getElem (by omega)]
 rfl
theorem arc_at {arcs:List Tie}{i:Int} (h0:0<=i) (h1:i<(arcs.length:Int)):atI (arcs.map pD) i=some (pD (cF arcs i)):=by
 have q:atI (arcs.map pD) ((i.toNat:Nat):Int)=some (pD (cF arcs i)):=dY (by rw [List.getElem?_map,arc_get h0 h1]; rfl)
 rwa [show ((i.toNat:Nat):Int)=i by omega] at q
theorem lft_take {arcs:List Tie}{U:List Int}{i:Nat}{t:Tie} (h:arcs[i]?=some t):lft (arcs.take (i+1)) U=lft (arcs.take i) U++[if ((i:Nat):Int)∈U then (t.2,(t.1,((i:Nat):Int))) else (t.1,(t.2,((i:Nat):Int)))]:=by
 have hi:=(List.getElem?_eq_some_iff.mp h).1
 have tk:arcs.take (i+1)=arcs.take i++[t]:=by rw [List.take_add_one,h]; rfl
 unfold lft
 rw [tk,List.zipIdx_append,List.map_append,List.length_take,Nat.min_eq_left (by omega),Nat.zero_add]
 rfl
theorem iQ {arcs:List Tie}{U:List Int}{p x k:Int}:(p,(x,k))∈lft arcs U↔∃ j:Nat,k=((j:Nat):Int)/\((k∈U/\arcs[j]?=some (x,p))\/(k∉U/\arcs[j]?=some (p,x))):=by
 unfold lft
 rw [List.mem_map]
 constructor
 ·rintro ⟨⟨t,j⟩,ht,hm⟩
  have ht:arcs[j]?=some t:=List.mem_zipIdx_iff_getElem?.mp ht
  dsimp only at hm
  by_cases hU:((j:Nat):Int)∈U
  ·rw [if_pos hU] at hm
   cases hm
   exact⟨j,rfl,.inl ⟨hU,ht⟩⟩
  ·rw [if_neg hU] at hm
   cases hm
   exact⟨j,rfl,.inr ⟨hU,ht⟩⟩
 ·rintro ⟨j,rfl,⟨hU,e⟩ | ⟨hU,e⟩⟩
  ·exact⟨((x,p),j),List.mem_zipIdx_iff_getElem?.mpr e,if_pos hU⟩
  ·exact⟨((p,x),j),List.mem_zipIdx_iff_getElem?.mpr e,if_neg hU⟩
theorem lft_len (arcs:List Tie) (U:List Int):(lft arcs U).length=arcs.length:=by
 unfold lft
 rw [List.length_map,List.length_zipIdx]
theorem lft_ok {n:Int}{arcs:List Tie}{U:List Int} (n0:0<=n) (la:arcs.length<=200) (ok:OkA n arcs):PutsOk n.toNat (lft arcs U):=by
 refine⟨by rw [lft_len]; exact la,fun q hq=>?_⟩
 obtain⟨p,x,k⟩:=q
 obtain⟨j,_,⟨_,e⟩ | ⟨_,e⟩⟩:=iQ.mp hq
 ·obtain⟨⟨h1,h2⟩,h3,h4⟩:=ok _ (List.mem_of_getElem? e)
  dsimp only at *
  omega
 ·obtain⟨⟨h1,h2⟩,h3,h4⟩:=ok _ (List.mem_of_getElem? e)
  dsimp only at *
  omega
theorem arc_ok {n:Int}{arcs:List Tie}{i:Int} (ok:OkA n arcs) (h0:0<=i) (h1:i<(arcs.length:Int)):(0<=(cF arcs i).1/\(cF arcs i).1<n)/\0<=(cF arcs i).2/\(cF arcs i).2<n:=ok _ (List.mem_of_getElem? (arc_get h0 h1))
theorem iR {arcs:List Tie}{U:List Int}{p x k:Int}:(p,(x,k))∈alg arcs U↔k∈U/\cF arcs k=(p,x):=by
 unfold alg
 rw [List.mem_map]
 constructor
 ·rintro ⟨i,hi,e⟩
  cases e
  exact⟨hi,rfl⟩
 ·rintro ⟨hk,e⟩
  exact⟨k,hk,by rw [e]⟩
theorem alg_ok {n:Int}{arcs:List Tie}{U:List Int} (n0:0<=n) (ok:OkA n arcs) (hU:InL arcs U):PutsOk n.toNat (alg arcs U):=by
 refine⟨by unfold alg; rw [List.length_map]; exact hU.1,fun q hq=>?_⟩
 obtain⟨p,x,k⟩:=q
 obtain⟨h1,h2⟩:=iR.mp hq
 obtain⟨k0,k1⟩:=hU.2 k h1
 have:=arc_ok ok k0 k1
 rw [h2] at this
 dsimp only at *
 omega
theorem sd_in {arcs:List Tie}{U K:List Int} (la:arcs.length<=200):InL arcs (sd arcs.length U K):=by
 refine⟨?_,fun i hi=>?_⟩
 ·unfold sd zI
  refine Nat.le_trans (List.length_filter_le _ _) ?_
  rw [List.length_map,List.length_range]
  exact la
 ·exact mem_zr.mp (List.mem_filter.mp hi).1
theorem sd_map (L:Nat) (U K:List Int):((List.range L).filter fun v=>decide ((0+((v:Nat):Int))∈U) != decide ((0+((v:Nat):Int))∈K)).map (fun v=>PyData.int (0+((v:Nat):Int)))=(sd L U K).map PyData.int:=by
 unfold sd zI
 rw [List.filter_map,List.map_map]
 rfl
noncomputable def fAlong (ds:List D) (P:D->Prop):Prop:=∃ n arcs U,ds=[.int n,.list (arcs.map pD),iD U]/\0<=n/\n<=100/\arcs.length<=200/\OkA n arcs/\InL arcs U/\P (stD (stOf n.toNat (alg arcs U)))
noncomputable def fLeft (ds:List D) (P:D->Prop):Prop:=∃ n arcs U,ds=[.int n,.list (arcs.map pD),iD U]/\0<=n/\n<=100/\arcs.length<=200/\OkA n arcs/\InL arcs U/\P (stD (stOf n.toNat (lft arcs U)))
noncomputable def fTwo (ds:List D) (P:D->Prop):Prop:=∃ n arcs a b,ds=[.int n,.list (arcs.map pD),.int a,.int b]/\0<=n/\n<=100/\arcs.length<=200/\OkA n arcs/\0<=a/\a<n/\P (usedD (aug n.toNat arcs a b 2 []))
noncomputable def fAl2 (ds:List D) (P:D->Prop):Prop:=∃ n arcs U a b r1 r2,ds=[.int n,.list (arcs.map pD),iD U,.int a,.int b]/\0<=n/\n<=100/\arcs.length<=200/\OkA n arcs/\InL arcs U/\0<=a/\a<n/\cW n.toNat (alg arcs U) a b=some r1/\cW n.toNat (alg arcs (U.filter fun i=>!decide (i∈r1.2))) a b=some r2/\P (.list [dz (some r1),dz (some r2)])
section
variable {P:Program}{w:World}{K:PySem.W.Frag}{mg:Str->Option Value}{base:Heap}{f:Addr}{fd:FuncData}
theorem jj:FnScope ["count","arcs","used","steps","index"] ["count","arcs","used"] (au (top 20)):=⟨rfl,rfl,rfl,by decide +kernel,rfl,by decide +kernel,by decide +kernel⟩
theorem nd_steps_along_0:(["node","count","arcs","used","steps","index"]:List Str).Nodup:=by decide +kernel
theorem ok_steps_along (F:Fun K "steps_along" "steps_along" (top 20) f fd) (B:Dl.Bn mg):FnOk P w K mg base CX0 1 f fd ["count","arcs","used"] (spD fAlong):=by
 refine F.ok jj (aW fun ds P h=>?len) (fun cdv A outer s H vs Q E hr h=>?_)
 case len=>(first | (obtain⟨_,rfl,_⟩:=h; rfl) | (obtain⟨_,_,rfl,_⟩:=h; rfl) | (obtain⟨_,_,_,rfl,_⟩:=h; rfl) | (obtain⟨_,_,_,_,rfl,_⟩:=h; rfl) | (obtain⟨_,_,_,_,_,rfl,_⟩:=h; rfl) | (obtain⟨_,_,_,_,_,_,rfl,_⟩:=h; rfl) | (obtain⟨_,_,_,_,_,_,_,rfl,_⟩:=h; rfl) | (obtain⟨rfl,_⟩:=h; rfl))
 have nd:=jj.nd
 refine⟨_,Wr.WDSs.h (Wr.ao (Wr.jL 0 ["node"] (i:=3) rfl nd rfl (by first | exact Or.inl rfl | exact Or.inr rfl) (Wr.bG B.range (Wr.aj (Wr.dv 0) Wr.ak)) (fun c=>(Wr.aG (i:=0) nd_steps_along_0 rfl (by first | exact Or.inl rfl | exact Or.inr rfl))))
  (Wr.ao (Wr.bT PassesOwn.never rfl (Wr.cg (Wr.dv 2)) (Wr.aG (i:=4) nd rfl (by first | exact Or.inl rfl | exact Or.inr rfl)) (Wr.ao (Wr.eO (Wr.wv 3) (Wr.aB (Wr.aB (Wr.dv 1) (Wr.dv 4)) Wr.aq) (Wr.aj (Wr.aQ (Wr.aj (Wr.aB (Wr.aB (Wr.dv 1) (Wr.dv 4)) Wr.aq) (Wr.aj (Wr.dv 4) Wr.ak))) Wr.ak)) (Wr.aC [4] Wr.aJ)))
  (Wr.aC [4] (Wr.aD (Wr.aK (Wr.dv 3)))))),bC h ?_⟩
 rintro ds P ⟨n,arcs,U,rfl,n0,n1,la,ok,hU,q⟩
 refine⟨[.im (.int n),.sh (.list (arcs.map pD)),.sh (iD U),.any,.any],rfl,?_⟩
 refine⟨⟨by omega,by omega⟩,by rw [bO]; omega,rfl,?_⟩
 rw [bO]
 refine⟨rfl,fun (i:Nat) ρ=>ρ=[.im (.int n),.sh (.list (arcs.map pD)),.sh (iD U),.rw 0 (rP (stOf n.toNat (alg arcs (U.take i)))),.any],?_,?_,?_⟩
 ·show [_,_,_,Sl.rw 0 (List.replicate n.toNat []),_]=[_,_,_,Sl.rw 0 (rP (stOf n.toNat [])),_]
  rw [st_nil]
  unfold rP
  rw [List.map_replicate]
  rfl
 ·rintro i d ρ hd rfl
  obtain⟨k,hk,rfl⟩:=gb hd
  have hi:=(List.getElem?_eq_some_iff.mp hk).1
  obtain⟨k0,k1⟩:=hU.2 k (List.mem_of_getElem? hk)
  obtain⟨⟨o1,o2⟩,o3,o4⟩:=arc_ok ok k0 k1
  have tk:U.take (i+1)=U.take i++[k]:=by rw [List.take_add_one,hk]; rfl
  have l1:(alg arcs (U.take i)).length<=200:=by unfold alg; rw [List.length_map,List.length_take]; have:=hU.1; omega
  have r1:=lY (alg arcs (U.take i)) (cF arcs k).1.toNat
  have s1:=mj (n:=n.toNat) (ps:=alg arcs (U.take i)) (q:=((cF arcs k).1,((cF arcs k).2,k))) ⟨o1,by show (cF arcs k).1<_; omega⟩
  refine⟨_,arc_at k0 k1,.int (cF arcs k).1,rfl,(cF arcs k).1.toNat,(rowOf (alg arcs (U.take i)) (cF arcs k).1.toNat).map pD,?_,rP_get _ (by omega),_,arc_at k0 k1,.int (cF arcs k).2,rfl,(show 2<=1000 by decide),rfl,by rw [List.length_map]; omega,?_⟩
  ·unfold ixN rP
   rw [if_pos o1,if_pos (by rw [List.length_map,iy]; omega)]
  ·show [_,_,_,Sl.rw 0 ((rP (stOf n.toNat (alg arcs (U.take i)))).set (cF arcs k).1.toNat ((rowOf (alg arcs (U.take i)) (cF arcs k).1.toNat).map pD++[pD ((cF arcs k).2,k)])),_]=[_,_,_,Sl.rw 0 (rP (stOf n.toNat (alg arcs (U.take (i+1))))),_]
   have ea:alg arcs (U.take (i+1))=alg arcs (U.take i)++[((cF arcs k).1,((cF arcs k).2,k))]:=by
    unfold alg
    rw [tk,List.map_append]
    rfl
   rw [ea,← s1]
   rfl
 ·rintro ρ rfl
  rw [List.length_map,List.take_length]
  refine⟨rfl,?_⟩
  show P (.list ((rP (stOf n.toNat (alg arcs U))).map PyData.list))
  rw [stD_eq]
  exact q
theorem kW:FnScope ["count","arcs","used","steps","index","arc"] ["count","arcs","used"] (au (top 21)):=⟨rfl,rfl,rfl,by decide +kernel,rfl,by decide +kernel,by decide +kernel⟩
theorem nd_steps_left_0:(["node","count","arcs","used","steps","index","arc"]:List Str).Nodup:=by decide +kernel
theorem ok_steps_left (F:Fun K "steps_left" "steps_left" (top 21) f fd) (B:Dl.Bn mg) (m_enumerate:mg "enumerate"=none):FnOk P w K mg base CX0 1 f fd ["count","arcs","used"] (spD fLeft):=by
 refine F.ok kW (aW fun ds P h=>?len) (fun cdv A outer s H vs Q E hr h=>?_)
 case len=>(first | (obtain⟨_,rfl,_⟩:=h; rfl) | (obtain⟨_,_,rfl,_⟩:=h; rfl) | (obtain⟨_,_,_,rfl,_⟩:=h; rfl) | (obtain⟨_,_,_,_,rfl,_⟩:=h; rfl) | (obtain⟨_,_,_,_,_,rfl,_⟩:=h; rfl) | (obtain⟨_,_,_,_,_,_,rfl,_⟩:=h; rfl) | (obtain⟨_,_,_,_,_,_,_,rfl,_⟩:=h; rfl) | (obtain⟨rfl,_⟩:=h; rfl))
 have nd:=kW.nd
 refine⟨_,Wr.WDSs.h (Wr.ao (Wr.jL 0 ["node"] (i:=3) rfl nd rfl (by first | exact Or.inl rfl | exact Or.inr rfl) (Wr.bG B.range (Wr.aj (Wr.dv 0) Wr.ak)) (fun c=>(Wr.aG (i:=0) nd_steps_left_0 rfl (by first | exact Or.inl rfl | exact Or.inr rfl))))
  (Wr.ao (Wr.bT PassesOwn.never rfl (Wr.di_enumL m_enumerate (Wr.aj (Wr.dv 1) Wr.ak)) (Wr.fP (n:=2) rfl (Wr.bx (Wr.aG (i:=4) nd rfl (by first | exact Or.inl rfl | exact Or.inr rfl)) (Wr.bx (Wr.aG (i:=5) nd rfl (by first | exact Or.inl rfl | exact Or.inr rfl)) Wr.dF))) (Wr.ao (Wr.bJ (Wr.jw hr.units (Wr.dv 4) (Wr.dv 2)) (Wr.aD (Wr.eO (Wr.wv 3) (Wr.aB (Wr.dv 5) Wr.aq) (Wr.aj (Wr.aQ (Wr.aj (Wr.aB (Wr.dv 5) Wr.aq) (Wr.aj (Wr.dv 4) Wr.ak))) Wr.ak))) (Wr.aD (Wr.eO (Wr.wv 3) (Wr.aB (Wr.dv 5) Wr.aq) (Wr.aj (Wr.aQ (Wr.aj (Wr.aB (Wr.dv 5) Wr.aq) (Wr.aj (Wr.dv 4) Wr.ak))) Wr.ak)))) (Wr.aC [4,5] Wr.aJ)))
  (Wr.aC [4,5] (Wr.aD (Wr.aK (Wr.dv 3)))))),bC h ?_⟩
 rintro ds P ⟨n,arcs,U,rfl,n0,n1,la,ok,hU,q⟩
 refine⟨[.im (.int n),.sh (.list (arcs.map pD)),.sh (iD U),.any,.any,.any],rfl,?_⟩
 refine⟨⟨by omega,by omega⟩,by rw [bO]; omega,rfl,?_⟩
 rw [bO]
 refine⟨rfl,fun (i:Nat) ρ=>ρ=[.im (.int n),.sh (.list (arcs.map pD)),.sh (iD U),.rw 0 (rP (stOf n.toNat (lft (arcs.take i) U))),.any,.any],?_,?_,?_⟩
 ·show [_,_,_,Sl.rw 0 (List.replicate n.toNat []),_,_]=[_,_,_,Sl.rw 0 (rP (stOf n.toNat [])),_,_]
  rw [st_nil]
  unfold rP
  rw [List.map_replicate]
  rfl
 ·rintro i d ρ hd rfl
  rw [eN,List.getElem?_map] at hd
  obtain⟨t,ht,rfl⟩:∃ t,arcs[i]?=some t/\PyData.tuple [.int ((i:Nat):Int),pD t]=d:=by
   cases e:arcs[i]? with
   | none=>rw [e] at hd; cases hd
   | some t=>rw [e] at hd; exact⟨t,rfl,Option.some.inj hd⟩
  obtain⟨⟨o1,o2⟩,o3,o4⟩:=ok t (List.mem_of_getElem? ht)
  have hi:=(List.getElem?_eq_some_iff.mp ht).1
  have l1:(lft (arcs.take i) U).length<=200:=by rw [lft_len,List.length_take]; omega
  have ea:=lft_take (U:=U) ht
  have r1:=lY (lft (arcs.take i) U)
  refine⟨rfl,rfl,bI U,?_⟩
  show if ((U.map PyData.int).any fun e=>PyData.eqv e (.int ((i:Nat):Int)))=true then _ else _
  rw [Dl.any_ints]
  by_cases hF:((i:Nat):Int)∈U
  ·rw [decide_eq_true hF]
   rw [if_pos hF] at ea
   have s1:=mj (n:=n.toNat) (ps:=lft (arcs.take i) U) (q:=(t.2,(t.1,((i:Nat):Int)))) ⟨o3,by show t.2<_; omega⟩
   have r1:=r1 t.2.toNat
   refine cD (B:=True) ⟨.int t.2,rfl,t.2.toNat,(rowOf (lft (arcs.take i) U) t.2.toNat).map pD,?_,rP_get _ (by omega),.int t.1,rfl,(show 2<=1000 by decide),rfl,by rw [List.length_map]; omega,?_⟩
   ·unfold ixN rP
    rw [if_pos o3,if_pos (by rw [List.length_map,iy]; omega)]
   ·show [_,_,_,Sl.rw 0 ((rP (stOf n.toNat (lft (arcs.take i) U))).set t.2.toNat ((rowOf (lft (arcs.take i) U) t.2.toNat).map pD++[pD (t.1,((i:Nat):Int))])),_,_]=[_,_,_,Sl.rw 0 (rP (stOf n.toNat (lft (arcs.take (i+1)) U))),_,_]
    rw [ea,← s1]
    rfl
  ·rw [decide_eq_false hF]
   rw [if_neg hF] at ea
   have s1:=mj (n:=n.toNat) (ps:=lft (arcs.take i) U) (q:=(t.1,(t.2,((i:Nat):Int)))) ⟨o1,by show t.1<_; omega⟩
   have r1:=r1 t.1.toNat
   refine bA (A:=True) ⟨.int t.1,rfl,t.1.toNat,(rowOf (lft (arcs.take i) U) t.1.toNat).map pD,?_,rP_get _ (by omega),.int t.2,rfl,(show 2<=1000 by decide),rfl,by rw [List.length_map]; omega,?_⟩
   ·unfold ixN rP
    rw [if_pos o1,if_pos (by rw [List.length_map,iy]; omega)]
   ·show [_,_,_,Sl.rw 0 ((rP (stOf n.toNat (lft (arcs.take i) U))).set t.1.toNat ((rowOf (lft (arcs.take i) U) t.1.toNat).map pD++[pD (t.2,((i:Nat):Int))])),_,_]=[_,_,_,Sl.rw 0 (rP (stOf n.toNat (lft (arcs.take (i+1)) U))),_,_]
    rw [ea,← s1]
    rfl
 ·rintro ρ rfl
  rw [eG,List.length_map,List.take_length]
  refine⟨rfl,?_⟩
  show P (.list ((rP (stOf n.toNat (lft arcs U))).map PyData.list))
  rw [stD_eq]
  exact q
theorem jr:FnScope ["count","arcs","start","goal","used","turn","found"] ["count","arcs","start","goal"] (au (top 22)):=⟨rfl,rfl,rfl,by decide +kernel,rfl,by decide +kernel,by decide +kernel⟩
theorem nd_arcs_of_two_0:(["index","count","arcs","start","goal","used","turn","found"]:List Str).Nodup:=by decide +kernel
theorem ok_arcs_of_two (F:Fun K "arcs_of_two" "arcs_of_two" (top 22) f fd) (B:Dl.Bn mg) (C_trace:Dl.Cal P w K mg base 1 "trace" ["came","goal"] (spD fTrace)) (C_search:Dl.Cal P w K mg base 1 "search" ["steps","start"] (spD fSearch)) (C_steps_left:Dl.Cal P w K mg base 1 "steps_left" ["count","arcs","used"] (spD fLeft)):FnOk P w K mg base CX0 2 f fd ["count","arcs","start","goal"] (spD fTwo):=by
 refine F.ok jr (aW fun ds P h=>?len) (fun cdv A outer s H vs Q E hr h=>?_)
 case len=>(first | (obtain⟨_,rfl,_⟩:=h; rfl) | (obtain⟨_,_,rfl,_⟩:=h; rfl) | (obtain⟨_,_,_,rfl,_⟩:=h; rfl) | (obtain⟨_,_,_,_,rfl,_⟩:=h; rfl) | (obtain⟨_,_,_,_,_,rfl,_⟩:=h; rfl) | (obtain⟨_,_,_,_,_,_,rfl,_⟩:=h; rfl) | (obtain⟨_,_,_,_,_,_,_,rfl,_⟩:=h; rfl) | (obtain⟨rfl,_⟩:=h; rfl))
 have nd:=jr.nd
 refine⟨_,Wr.WDSs.h (Wr.ao (Wr.aN none (i:=4) nd rfl (by first | exact Or.inl rfl | exact Or.inr rfl) (Wr.aU Wr.ak))
  (Wr.ao (Wr.bT PassesOwn.never rfl (Wr.bG B.range (Wr.aj Wr.aq Wr.ak)) (Wr.aG (i:=5) nd rfl (by first | exact Or.inl rfl | exact Or.inr rfl)) (Wr.ao (Wr.aN none (i:=6) nd rfl (by first | exact Or.inl rfl | exact Or.inr rfl) (Wr.dc C_trace hr (Wr.aj (Wr.dc C_search hr (Wr.aj (Wr.dc C_steps_left hr (Wr.aj (Wr.dv 0) (Wr.aj (Wr.dv 1) (Wr.aj (Wr.dv 4) Wr.ak)))) (Wr.aj (Wr.dv 2) Wr.ak))) (Wr.aj (Wr.dv 3) Wr.ak))))
  (Wr.ao (Wr.bJ (Wr.mz (Wr.dv 6) Wr.d9) (Wr.aD (Wr.aK Wr.d9)) Wr.aJ)
  (Wr.ao (Wr.aN none (i:=4) nd rfl (by first | exact Or.inl rfl | exact Or.inr rfl) (Wr.fX ["index"] rfl (Wr.bG B.range (Wr.aj (Wr.dh B.len (Wr.aj (Wr.dv 1) Wr.ak)) Wr.ak)) (fun c=>(Wr.aG (i:=0) nd_arcs_of_two_0 rfl (by first | exact Or.inl rfl | exact Or.inr rfl))) (fun c=>(Wr.cT (Wr.bW hr.units (Wr.pd_in hr.units (Wr.dv 0) (Wr.dv 5)) (Wr.pd_in hr.units (Wr.dv 0) (Wr.aB (Wr.dv 7) Wr.aq))))) (fun c=>(Wr.dv 0)))) (Wr.aC [5,6] Wr.aJ)))))
  (Wr.aC [5,6] (Wr.aD (Wr.aK (Wr.dv 4)))))),bC h ?_⟩
 rintro ds P ⟨n,arcs,a,b,rfl,n0,n1,la,ok,a0,a1,q⟩
 refine⟨[.im (.int n),.sh (.list (arcs.map pD)),.im (.int a),.im (.int b),.any,.any,.any],rfl,?_⟩
 generalize hG:aug n.toNat arcs a b 2 []=G at q
 refine⟨(show 0<=1000 by decide),⟨by decide,by decide⟩,rfl,fun (i:Nat) ρ=>∃ U,InL arcs U/\aug n.toNat arcs a b (2 - i) U=G/\ρ=[.im (.int n),.sh (.list (arcs.map pD)),.im (.int a),.im (.int b),.sn (iD U),.any,.any],⟨[],⟨Nat.zero_le _,(fun i hi=>nomatch hi)⟩,hG,rfl⟩,?_,?_⟩
 ·rintro i d ρ hd ⟨U,hU,e,rfl⟩
  obtain⟨hi,rfl⟩:=cP hd
  have po:=lft_ok (U:=U) (by omega) la ok
  have S:=lA (n:=n.toNat) po a0 (by omega)
  have few:=S.few
  refine⟨n,arcs,U,rfl,n0,n1,la,ok,hU,n.toNat,lft arcs U,a,rfl,by omega,po,a0,by omega,lft arcs U,a,srM n.toNat (lft arcs U) a,b,rfl,S.cm,by omega,?_⟩
  have e2:2 - i=(1 - i)+1:=by omega
  rw [e2] at e
  unfold aug at e
  show (match Dl.stK none _ 6 (norm (norm .new (dz (cW n.toNat (lft arcs U) a b))) (dz (cW n.toNat (lft arcs U) a b))) (dz (cW n.toNat (lft arcs U) a b)) with
   | some s=>_
   | none=>False)
  cases hp:cW n.toNat (lft arcs U) a b with
  | none =>
   rw [hp] at e
   refine cD (B:=True) ⟨rfl,?_⟩
   rw [← e] at q
   exact q
  | some r =>
   rw [hp] at e
   obtain⟨r1,r2⟩:=r
   have lm:(arcs.map pD).length=arcs.length:=List.length_map ..
   have hx:∀ x y:Bool,(!decide (x=y))=(x != y):=fun x y=>by cases x <;> cases y <;> rfl
   refine bA (A:=True) ⟨⟨by omega,by omega⟩,?_⟩
   refine jh (List.range arcs.length) (fun v=>PyData.int (0+((v:Nat):Int))) (fun v=>decide ((0+((v:Nat):Int))∈U) != decide ((0+((v:Nat):Int))∈r2)) (fun v=>PyData.int (0+((v:Nat):Int))) .imm ?_ (by rw [List.length_range]; omega) (fun v hv A B hA hB=>?_) ?_
   ·rw [lm,Int.toNat_natCast]
    rfl
   ·refine⟨rfl,bI U,_,rfl,rfl,bI r2,?_⟩
    show if (!decide (((U.map PyData.int).any fun e=>PyData.eqv e (.int (0+((v:Nat):Int))))=((r2.map PyData.int).any fun e=>PyData.eqv e (.int (0+((v:Nat):Int))))))=true then _ else _
    rw [Dl.any_ints,Dl.any_ints,hx]
    exact gB (fun c=>⟨rfl,hA c⟩) (fun c=>hB (Bool.eq_false_iff.mpr c))
   show ∃ U',InL arcs U'/\aug n.toNat arcs a b (2 - (i+1)) U'=G/\[Sl.im (.int n),.sh (.list (arcs.map pD)),.im (.int a),.im (.int b),.sn (.list (((List.range arcs.length).filter fun v=>decide ((0+((v:Nat):Int))∈U) != decide ((0+((v:Nat):Int))∈r2)).map fun v=>PyData.int (0+((v:Nat):Int)))),.any,.any]=[Sl.im (.int n),.sh (.list (arcs.map pD)),.im (.int a),.im (.int b),.sn (iD U'),.any,.any]
   refine⟨sd arcs.length U r2,sd_in la,by rw [show 2 - (i+1)=1 - i by omega]; exact e,?_⟩
   rw [sd_map]
   rfl
 ·rintro ρ ⟨U,hU,e,rfl⟩
  have e:some U=G:=e
  rw [← e] at q
  exact⟨rfl,q⟩
theorem lN:FnScope ["count","arcs","used","start","goal","one","rest","other"] ["count","arcs","used","start","goal"] (au (top 23)):=⟨rfl,rfl,rfl,by decide +kernel,rfl,by decide +kernel,by decide +kernel⟩
theorem nd_two_along_0:(["index","count","arcs","used","start","goal","one","rest","other"]:List Str).Nodup:=by decide +kernel
theorem ok_two_along (F:Fun K "two_along" "two_along" (top 23) f fd) (B:Dl.Bn mg) (C_trace:Dl.Cal P w K mg base 1 "trace" ["came","goal"] (spD fTrace)) (C_search:Dl.Cal P w K mg base 1 "search" ["steps","start"] (spD fSearch)) (C_steps_along:Dl.Cal P w K mg base 1 "steps_along" ["count","arcs","used"] (spD fAlong)):FnOk P w K mg base CX0 2 f fd ["count","arcs","used","start","goal"] (spD fAl2):=by
 refine F.ok lN (aW fun ds P h=>?len) (fun cdv A outer s H vs Q E hr h=>?_)
 case len=>(first | (obtain⟨_,rfl,_⟩:=h; rfl) | (obtain⟨_,_,rfl,_⟩:=h; rfl) | (obtain⟨_,_,_,rfl,_⟩:=h; rfl) | (obtain⟨_,_,_,_,rfl,_⟩:=h; rfl) | (obtain⟨_,_,_,_,_,rfl,_⟩:=h; rfl) | (obtain⟨_,_,_,_,_,_,rfl,_⟩:=h; rfl) | (obtain⟨_,_,_,_,_,_,_,rfl,_⟩:=h; rfl) | (obtain⟨rfl,_⟩:=h; rfl))
 have nd:=lN.nd
 refine⟨_,Wr.WDSs.h (Wr.ao (Wr.aN none (i:=5) nd rfl (by first | exact Or.inl rfl | exact Or.inr rfl) (Wr.dc C_trace hr (Wr.aj (Wr.dc C_search hr (Wr.aj (Wr.dc C_steps_along hr (Wr.aj (Wr.dv 0) (Wr.aj (Wr.dv 1) (Wr.aj (Wr.dv 2) Wr.ak)))) (Wr.aj (Wr.dv 3) Wr.ak))) (Wr.aj (Wr.dv 4) Wr.ak))))
  (Wr.ao (Wr.ds_setlc none ["index"] (i:=6) rfl nd rfl (by first | exact Or.inl rfl | exact Or.inr rfl) (Wr.cg (Wr.dv 2)) (fun c=>(Wr.aG (i:=0) nd_two_along_0 rfl (by first | exact Or.inl rfl | exact Or.inr rfl))) (fun c=>(Wr.cT (Wr.bF hr.units (Wr.dv 0) (Wr.aB (Wr.dv 6) Wr.aq)))) (fun c=>(Wr.dv 0)))
  (Wr.ao (Wr.aN none (i:=7) nd rfl (by first | exact Or.inl rfl | exact Or.inr rfl) (Wr.dc C_trace hr (Wr.aj (Wr.dc C_search hr (Wr.aj (Wr.dc C_steps_along hr (Wr.aj (Wr.dv 0) (Wr.aj (Wr.dv 1) (Wr.aj (Wr.dv 6) Wr.ak)))) (Wr.aj (Wr.dv 3) Wr.ak))) (Wr.aj (Wr.dv 4) Wr.ak))))
  (Wr.aD (Wr.aK (Wr.aU (Wr.aj (Wr.dv 5) (Wr.aj (Wr.dv 7) Wr.ak)))))))),bC h ?_⟩
 rintro ds P ⟨n,arcs,U,a,b,r1,r2,rfl,n0,n1,la,ok,hU,a0,a1,p1,p2,q⟩
 refine⟨[.im (.int n),.sh (.list (arcs.map pD)),.sh (iD U),.im (.int a),.im (.int b),.any,.any,.any],rfl,?_⟩
 have po:=alg_ok (by omega) ok hU
 have S:=lA (n:=n.toNat) po a0 (by omega)
 have few:=S.few
 refine⟨n,arcs,U,rfl,n0,n1,la,ok,hU,n.toNat,alg arcs U,a,rfl,by omega,po,a0,by omega,alg arcs U,a,srM n.toNat (alg arcs U) a,b,rfl,S.cm,by omega,?_⟩
 show (match Dl.stK none _ 5 (norm (norm .new (dz (cW n.toNat (alg arcs U) a b))) (dz (cW n.toNat (alg arcs U) a b))) (dz (cW n.toNat (alg arcs U) a b)) with
  | some s=>_
  | none=>False)
 rw [p1]
 refine jh U PyData.int (fun i=>!decide (i∈r1.2)) PyData.int .imm rfl (by have:=hU.1; omega) (fun i hi A B hA hB=>?_) ?_
 ·refine⟨_,rfl,rfl,bI r1.2,?_⟩
  show if (!((r1.2.map PyData.int).any fun e=>PyData.eqv e (.int i)))=true then _ else _
  rw [Dl.any_ints]
  exact gB (fun c=>⟨rfl,hA c⟩) (fun c=>hB (Bool.eq_false_iff.mpr c))
 have hU2:InL arcs (U.filter fun i=>!decide (i∈r1.2)):=⟨Nat.le_trans (List.length_filter_le _ _) hU.1,fun i hi=>hU.2 i (List.mem_filter.mp hi).1⟩
 have po2:=alg_ok (by omega) ok hU2
 have S2:=lA (n:=n.toNat) po2 a0 (by omega)
 have few2:=S2.few
 refine⟨n,arcs,_,rfl,n0,n1,la,ok,hU2,n.toNat,alg arcs (U.filter fun i=>!decide (i∈r1.2)),a,rfl,by omega,po2,a0,by omega,alg arcs (U.filter fun i=>!decide (i∈r1.2)),a,srM n.toNat (alg arcs (U.filter fun i=>!decide (i∈r1.2))) a,b,rfl,S2.cm,by omega,?_⟩
 show (match Dl.stK none _ 7 (norm (norm .new (dz (cW n.toNat (alg arcs (U.filter fun i=>!decide (i∈r1.2))) a b))) (dz (cW n.toNat (alg arcs (U.filter fun i=>!decide (i∈r1.2))) a b))) (dz (cW n.toNat (alg arcs (U.filter fun i=>!decide (i∈r1.2))) a b)) with
  | some s=>_
  | none=>False)
 rw [p2]
 exact⟨(show 2<=1000 by decide),rfl,q⟩
end
noncomputable def cV:Nat->(Nat->Int)->Int
 | 0,_=>0
 | k+1,g=>cV k g+g k
theorem eZ {g h:Nat->Int}:∀ {L:Nat},(∀ i,i<L->g i=h i)->cV L g=cV L h
 | 0,_=>rfl
 | L+1,e=>by
  show cV L g+g L=cV L h+h L
  rw [eZ fun i hi=>e i (by omega),e L (by omega)]
theorem sum_add {g h:Nat->Int}:∀ L:Nat,cV L (fun i=>g i+h i)=cV L g+cV L h
 | 0=>rfl
 | L+1=>by
  show cV L (fun i=>g i+h i)+(g L+h L)=cV L g+g L+(cV L h+h L)
  rw [sum_add L]
  omega
theorem lK:∀ L:Nat,cV L (fun _=>0)=0
 | 0=>rfl
 | L+1=>by
  show cV L (fun _=>0)+0=0
  rw [lK L]
  rfl
theorem sum_one {g:Nat->Int}{j:Nat}:∀ {L:Nat},j<L->cV L (fun i=>if i=j then g i else 0)=g j
 | L+1,h=>by
  show cV L (fun i=>if i=j then g i else 0)+(if L=j then g L else 0)=g j
  by_cases e:L=j
  ·subst e
   rw [if_pos rfl,eZ (h:=fun _=>0) fun i hi=>if_neg (by omega),lK]
   omega
  ·rw [if_neg e,sum_one (by omega)]
   omega
theorem sum_le {g:Nat->Int}:∀ {L:Nat},(∀ i,i<L->g i<=0)->cV L g<=0
 | 0,_=>Int.le_refl _
 | L+1,h=>by
  have h1:=sum_le (L:=L) (g:=g) fun i hi=>h i (Nat.lt_succ_of_lt hi)
  have h2:=h L (by omega)
  show cV L g+g L<=0
  omega
theorem sum_ge {g:Nat->Int}:∀ {L:Nat},(∀ i,i<L->0<=g i)->0<=cV L g
 | 0,_=>Int.le_refl _
 | L+1,h=>by
  have h1:=sum_ge (L:=L) (g:=g) fun i hi=>h i (Nat.lt_succ_of_lt hi)
  have h2:=h L (by omega)
  show 0<=cV L g+g L
  omega
theorem sum_two {g:Nat->Int}{i j L:Nat} (hi:i<L) (hj:j<L) (ne:i≠j) (h:∀ k,k<L->0<=g k):g i+g j<=cV L g:=by
 have e:cV L g=cV L (fun k=>if k=i then g k else 0)+(cV L (fun k=>if k=j then g k else 0)+cV L (fun k=>if k=i\/k=j then 0 else g k)):=by
  rw [← sum_add,← sum_add]
  refine eZ fun k hk=>?_
  by_cases a:k=i
  ·subst a
   rw [if_pos rfl,if_neg ne,if_pos (.inl rfl)]
   omega
  ·by_cases b:k=j
   ·subst b
    rw [if_neg a,if_pos rfl,if_pos (.inr rfl)]
    omega
   ·rw [if_neg a,if_neg b,if_neg (fun z=>z.elim a b)]
    omega
 have r:0<=cV L (fun k=>if k=i\/k=j then 0 else g k):=sum_ge fun k hk=>by
  by_cases z:k=i\/k=j
  ·rw [if_pos z]
   exact Int.le_refl _
  ·rw [if_neg z]
   exact h k hk
 rw [sum_one hi,sum_one hj] at e
 omega
theorem sum_pos {g:Nat->Int}:∀ {L:Nat},0<cV L g->∃ i,i<L/\0<g i
 | 0,h=>absurd (show (0:Int)<0 from h) (by decide)
 | L+1,h=>by
  have h:0<cV L g+g L:=h
  by_cases e:0<g L
  ·exact⟨L,by omega,e⟩
  ·obtain⟨i,hi,hg⟩:=sum_pos (L:=L) (g:=g) (by omega)
   exact⟨i,by omega,hg⟩
noncomputable def chi (S:Int->Bool) (x:Int):Int:=if S x=true then 1 else 0
noncomputable def flo (arcs:List Tie) (S:Int->Bool) (i:Nat):Int:=chi S (cF arcs i).1 - chi S (cF arcs i).2
noncomputable def net (arcs:List Tie) (U:List Int) (S:Int->Bool):Int:=cV arcs.length fun i=>if ((i:Nat):Int)∈U then flo arcs S i else 0
noncomputable def Flow (arcs:List Tie) (a b c:Int) (U:List Int):Prop:=∀ S,net arcs U S=c * (chi S a - chi S b)
theorem chi_le (S:Int->Bool) (x:Int):0<=chi S x/\chi S x<=1:=by
 unfold chi
 cases S x
 ·exact⟨by decide,by decide⟩
 ·exact⟨by decide,by decide⟩
theorem chi_t {S:Int->Bool}{x:Int} (h:S x=true):chi S x=1:=if_pos h
theorem chi_f {S:Int->Bool}{x:Int} (h:S x=false):chi S x=0:=by
 unfold chi
 rw [h]
 rfl
theorem Wy.hop {ws:List Put}{a:Int}{P K:List Int}{x:Int} (h:Wy ws a P K x):∀ k∈K,∃ p y,(p,(y,k))∈ws/\y∈P:=by
 induction h with
 | one=>exact fun k hk=>nomatch hk
 | step h hx j ih =>
  intro k hk
  rcases List.mem_append.mp hk with z | z
  ·obtain⟨p,y,h1,h2⟩:=ih k z
   exact⟨p,y,h1,List.mem_append_left _ h2⟩
  ·rw [List.mem_singleton.mp z]
   exact⟨_,_,j,List.mem_append_right _ (List.mem_singleton.mpr rfl)⟩
theorem wy_sum {ws:List Put}{L:Nat}{g:Nat->Int}{S:Int->Bool}{a:Int}{P K:List Int}{x:Int} (hg:∀ p y k,(p,(y,k))∈ws->∃ j:Nat,k=((j:Nat):Int)/\j<L/\g j=chi S p - chi S y) (uq:∀ p y p' y' k,(p,(y,k))∈ws->(p',(y',k))∈ws->y=y')
  (h:Wy ws a P K x):cV L (fun i=>if ((i:Nat):Int)∈K then g i else 0)=chi S a - chi S x:=by
 induction h with
 | one =>
  rw [eZ (h:=fun _=>0) fun i _=>if_neg (fun z=>nomatch z),lK]
  omega
 | @step P K p y k h hx j ih =>
  obtain⟨q,rfl,hq,gq⟩:=hg _ _ _ j
  have nk:((q:Nat):Int)∉K:=fun z=>by
   obtain⟨p',y',h1,h2⟩:=h.hop _ z
   rw [uq _ _ _ _ _ j h1] at hx
   exact hx h2
  have e:cV L (fun i=>if ((i:Nat):Int)∈K++[((q:Nat):Int)] then g i else 0)=cV L (fun i=>if ((i:Nat):Int)∈K then g i else 0)+cV L (fun i=>if i=q then g i else 0):=by
   rw [← sum_add]
   refine eZ fun i _=>?_
   by_cases a1:i=q
   ·subst a1
    rw [if_pos (List.mem_append_right _ (List.mem_singleton.mpr rfl)),if_neg nk,if_pos rfl]
    omega
   ·rw [if_neg a1]
    by_cases a2:((i:Nat):Int)∈K
    ·rw [if_pos (List.mem_append_left _ a2),if_pos a2]
     omega
    ·rw [if_neg (fun z=>(List.mem_append.mp z).elim a2 fun z=>a1 (by have:=List.mem_singleton.mp z; omega)),if_neg a2]
     omega
  rw [e,ih,sum_one hq,gq]
  omega
theorem j9 {arcs:List Tie}{j:Nat}{t:Tie} (h:arcs[j]?=some t):cF arcs ((j:Nat):Int)=t:=by
 unfold cF
 rw [Int.toNat_natCast,List.getD_eq_getElem?_getD,h]
 rfl
theorem flow_nil (arcs:List Tie) (a b:Int):Flow arcs a b 0 []:=fun S=>by
 unfold net
 rw [eZ (h:=fun _=>0) fun i _=>if_neg (fun z=>nomatch z),lK,Int.zero_mul]
theorem mem_sd {L:Nat}{U K:List Int}{i:Nat} (hi:i<L):((i:Nat):Int)∈sd L U K↔¬ (((i:Nat):Int)∈U↔((i:Nat):Int)∈K):=by
 unfold sd
 rw [List.mem_filter]
 have h1:((i:Nat):Int)∈zI (List.range L):=mem_zr.mpr ⟨by omega,by omega⟩
 by_cases a:((i:Nat):Int)∈U <;> by_cases b:((i:Nat):Int)∈K <;> simp [a,b,h1]
theorem flow_aug {arcs:List Tie}{a b c:Int}{U P K:List Int} (h:Flow arcs a b c U) (w:Wy (lft arcs U) a P K b):Flow arcs a b (c+1) (sd arcs.length U K):=fun S=>by
 have s:=wy_sum (L:=arcs.length) (g:=fun i=>if ((i:Nat):Int)∈U then - flo arcs S i else flo arcs S i) (S:=S) (fun p y k hk=>?_) (fun p y p' y' k h1 h2=>?_) w
 ·have e:net arcs (sd arcs.length U K) S=net arcs U S+cV arcs.length (fun i=>if ((i:Nat):Int)∈K then (if ((i:Nat):Int)∈U then - flo arcs S i else flo arcs S i) else 0):=by
   unfold net
   rw [← sum_add]
   refine eZ fun i hi=>?_
   have m:=mem_sd (U:=U) (K:=K) hi
   by_cases u:((i:Nat):Int)∈U <;> by_cases k:((i:Nat):Int)∈K
   ·rw [if_neg (fun z=>m.mp z ⟨fun _=>k,fun _=>u⟩),if_pos u,if_pos k,if_pos u]
    omega
   ·rw [if_pos (m.mpr fun z=>k (z.mp u)),if_pos u,if_neg k]
    omega
   ·rw [if_pos (m.mpr fun z=>u (z.mpr k)),if_neg u,if_pos k,if_neg u]
    omega
   ·rw [if_neg (fun z=>m.mp z ⟨fun q=>absurd q u,fun q=>absurd q k⟩),if_neg u,if_neg k]
    omega
  rw [e,s,h S,Int.add_mul,Int.one_mul]
 ·obtain⟨j,rfl,⟨hu,e⟩ | ⟨hu,e⟩⟩:=iQ.mp hk
  ·refine⟨j,rfl,(List.getElem?_eq_some_iff.mp e).1,?_⟩
   show (if ((j:Nat):Int)∈U then - flo arcs S j else flo arcs S j)=_
   rw [if_pos hu]
   unfold flo
   rw [j9 e]
   show -(chi S y - chi S p)=chi S p - chi S y
   omega
  ·refine⟨j,rfl,(List.getElem?_eq_some_iff.mp e).1,?_⟩
   show (if ((j:Nat):Int)∈U then - flo arcs S j else flo arcs S j)=_
   rw [if_neg hu]
   unfold flo
   rw [j9 e]
 ·obtain⟨j,rfl,x1⟩:=iQ.mp h1
  obtain⟨j',e',x2⟩:=iQ.mp h2
  have ej:j=j':=by omega
  subst ej
  rcases x1 with ⟨u1,e1⟩ | ⟨u1,e1⟩ <;> rcases x2 with ⟨u2,e2⟩ | ⟨u2,e2⟩
  ·rw [e1] at e2; cases e2; rfl
  ·exact absurd u1 u2
  ·exact absurd u2 u1
  ·rw [e1] at e2; cases e2; rfl
theorem alg_hop {arcs:List Tie}{U:List Int} (hU:InL arcs U) {S:Int->Bool}{p y k:Int} (hk:(p,(y,k))∈alg arcs U):∃ j:Nat,k=((j:Nat):Int)/\j<arcs.length/\flo arcs S j=chi S p - chi S y:=by
 obtain⟨h1,h2⟩:=iR.mp hk
 obtain⟨k0,k1⟩:=hU.2 k h1
 refine⟨k.toNat,by omega,by omega,?_⟩
 unfold flo
 rw [show ((k.toNat:Nat):Int)=k by omega,h2]
theorem flow_rest {arcs:List Tie}{a b c:Int}{U P K:List Int} (hU:InL arcs U) (h:Flow arcs a b c U) (w:Wy (alg arcs U) a P K b):Flow arcs a b (c - 1) (U.filter fun i=>!decide (i∈K)):=fun S=>by
 have s:=wy_sum (L:=arcs.length) (g:=flo arcs S) (S:=S) (fun p y k hk=>alg_hop hU hk) (fun p y p' y' k h1 h2=>?_) w
 ·have e:net arcs U S=net arcs (U.filter fun i=>!decide (i∈K)) S+cV arcs.length (fun i=>if ((i:Nat):Int)∈K then flo arcs S i else 0):=by
   unfold net
   rw [← sum_add]
   refine eZ fun i hi=>?_
   have m:((i:Nat):Int)∈(U.filter fun i=>!decide (i∈K))↔((i:Nat):Int)∈U/\((i:Nat):Int)∉K:=by
    rw [List.mem_filter,Bool.not_eq_true',decide_eq_false_iff_not]
   by_cases k:((i:Nat):Int)∈K
   ·have u:((i:Nat):Int)∈U:=by
     obtain⟨p,y,h1,_⟩:=w.hop _ k
     exact (iR.mp h1).1
    rw [if_pos u,if_neg (fun z=>(m.mp z).2 k),if_pos k]
    omega
   ·by_cases u:((i:Nat):Int)∈U
    ·rw [if_pos u,if_pos (m.mpr ⟨u,k⟩),if_neg k]
     omega
    ·rw [if_neg u,if_neg (fun z=>u (m.mp z).1),if_neg k]
     omega
  have hS:=h S
  rw [e,s] at hS
  rw [Int.sub_mul,Int.one_mul]
  omega
 ·have e1:=(iR.mp h1).2
  rw [(iR.mp h2).2] at e1
  cases e1
  rfl
theorem flow_way {arcs:List Tie}{a b c:Int}{U:List Int} (hc:0<c) (h:Flow arcs a b c U):Rt (edg (alg arcs U)) a b:=by
 by_cases r:Rt (edg (alg arcs U)) a b
 ·exact r
 ·exfalso
  have hS:=h (RZ (edg (alg arcs U)) a)
  rw [chi_t (cG.mpr (.refl _)),chi_f (Bool.eq_false_iff.mpr fun z=>r (cG.mp z))] at hS
  have le:net arcs U (RZ (edg (alg arcs U)) a)<=0:=sum_le fun i hi=>by
   by_cases u:((i:Nat):Int)∈U
   ·rw [if_pos u]
    unfold flo
    cases e:RZ (edg (alg arcs U)) a (cF arcs ((i:Nat):Int)).1 with
    | false =>
     rw [chi_f e]
     have:=chi_le (RZ (edg (alg arcs U)) a) (cF arcs ((i:Nat):Int)).2
     omega
    | true =>
     have r2:Rt (edg (alg arcs U)) a (cF arcs ((i:Nat):Int)).2:=.step (cG.mp e) (j7.mpr ⟨_,iR.mpr ⟨u,rfl⟩⟩)
     rw [chi_t e,chi_t (cG.mpr r2)]
     omega
   ·rw [if_neg u]
    exact Int.le_refl _
  omega
noncomputable def oN (n a b v:Int):Int:=if v=a\/v=b then v else v+n
noncomputable def inn (n a b:Int):List Int:=(zI (List.range n.toNat)).filter fun v=>!decide (v=a\/v=b)
noncomputable def cJ (n a b:Int) (us:List Tie):List Tie:=us.flatMap fun t=>[(oN n a b t.1,t.2),(oN n a b t.2,t.1)]
noncomputable def aX (n a b:Int) (us:List Tie):List Tie:=cJ n a b us++(inn n a b).map fun v=>(v,v+n)
theorem eU (n a b:Int) (us:List Tie):(cJ n a b us).length=2 * us.length:=two_len (fun t:Tie=>(oN n a b t.1,t.2)) (fun t:Tie=>(oN n a b t.2,t.1)) us
theorem arcsH_get (n a b:Int):∀ (us:List Tie) (k:Nat) {t:Tie},us[k]?=some t->(cJ n a b us)[2 * k]?=some (oN n a b t.1,t.2)/\(cJ n a b us)[2 * k+1]?=some (oN n a b t.2,t.1)
 | u::us,0,t,h=>by
  cases h
  exact⟨rfl,rfl⟩
 | u::us,k+1,t,h=>by
  have:=arcsH_get n a b us k (t:=t) h
  exact this
theorem cB {n a b v:Int}:v∈inn n a b↔(0<=v/\v<n)/\v≠a/\v≠b:=by
 unfold inn
 rw [List.mem_filter,mem_zr,Bool.not_eq_true',decide_eq_false_iff_not]
 constructor
 ·rintro ⟨⟨h0,h1⟩,h2⟩
  exact⟨⟨h0,by omega⟩,fun z=>h2 (.inl z),fun z=>h2 (.inr z)⟩
 ·rintro ⟨⟨h0,h1⟩,h2,h3⟩
  exact⟨⟨h0,by omega⟩,fun z=>z.elim h2 h3⟩
theorem inn_nd (n a b:Int):(inn n a b).Nodup:=rise_nd ((zI_rise List.pairwise_lt_range).filter _)
theorem inn_len (n a b:Int):(inn n a b).length<=n.toNat:=by
 unfold inn zI
 refine Nat.le_trans (List.length_filter_le _ _) ?_
 rw [List.length_map,List.length_range]
 exact Nat.le_refl _
theorem arcsP_len (n a b:Int) (us:List Tie):(aX n a b us).length=2 * us.length+(inn n a b).length:=by
 unfold aX
 rw [List.length_append,eU,List.length_map]
theorem arcsP_get {n a b:Int}{us:List Tie}{k:Nat}{t:Tie} (h:us[k]?=some t):(aX n a b us)[2 * k]?=some (oN n a b t.1,t.2)/\(aX n a b us)[2 * k+1]?=some (oN n a b t.2,t.1):=by
 obtain⟨g1,g2⟩:=arcsH_get n a b us k h
 unfold aX
 rw [List.getElem?_append_left (List.getElem?_eq_some_iff.mp g1).1,List.getElem?_append_left (List.getElem?_eq_some_iff.mp g2).1]
 exact⟨g1,g2⟩
theorem arcsP_in {n a b v:Int}{us:List Tie} (h:v∈inn n a b):∃ j:Nat,2 * us.length<=j/\(inn n a b)[j - 2 * us.length]?=some v/\(aX n a b us)[j]?=some (v,v+n):=by
 obtain⟨i,hi⟩:=List.getElem?_of_mem h
 refine⟨2 * us.length+i,by omega,by rw [show 2 * us.length+i - 2 * us.length=i by omega]; exact hi,?_⟩
 unfold aX
 rw [List.getElem?_append_right (by rw [eU]; omega),eU,show 2 * us.length+i - 2 * us.length=i by omega,List.getElem?_map,hi]
 rfl
theorem iu {n a b:Int}{us:List Tie}{j:Nat}{e:Tie} (h:(aX n a b us)[j]?=some e):(∃ t,j<2 * us.length/\us[j / 2]?=some t/\((j=2 * (j / 2)/\e=(oN n a b t.1,t.2))\/(j=2 * (j / 2)+1/\e=(oN n a b t.2,t.1))))\/(2 * us.length<=j/\∃ v,(inn n a b)[j - 2 * us.length]?=some v/\e=(v,v+n)):=by
 by_cases hj:j<2 * us.length
 ·left
  have hk:j / 2<us.length:=by omega
  have ht:=List.getElem?_eq_getElem hk
  obtain⟨g1,g2⟩:=arcsP_get (n:=n) (a:=a) (b:=b) ht
  refine⟨_,hj,ht,?_⟩
  rcases Nat.mod_two_eq_zero_or_one j with m | m
  ·left
   have ej:2 * (j / 2)=j:=by omega
   rw [ej,h] at g1
   exact⟨ej.symm,Option.some.inj g1⟩
  ·right
   have ej:2 * (j / 2)+1=j:=by omega
   rw [ej,h] at g2
   exact⟨ej.symm,Option.some.inj g2⟩
 ·right
  refine⟨by omega,?_⟩
  unfold aX at h
  rw [List.getElem?_append_right (by rw [eU]; omega),eU,List.getElem?_map] at h
  cases hv:(inn n a b)[j - 2 * us.length]? with
  | none=>rw [hv] at h; cases h
  | some v =>
   rw [hv] at h
   exact⟨v,rfl,(Option.some.inj h).symm⟩
theorem oN_rng {n a b v:Int} (h0:0<=v) (h1:v<n):0<=oN n a b v/\oN n a b v<2 * n:=by
 unfold oN
 split <;> omega
theorem arcsP_ok {n a b:Int}{us:List Tie} (ok:OkN n us):OkA (2 * n) (aX n a b us):=fun e he=>by
 obtain⟨j,hj⟩:=List.getElem?_of_mem he
 rcases iu hj with ⟨t,_,ht,h⟩ | ⟨_,v,hv,rfl⟩
 ·obtain⟨⟨h1,h2⟩,⟨h3,h4⟩,_⟩:=ok t (List.mem_of_getElem? ht)
  have o1:=oN_rng (a:=a) (b:=b) h1 h2
  have o2:=oN_rng (a:=a) (b:=b) h3 h4
  rcases h with ⟨_,rfl⟩ | ⟨_,rfl⟩
  ·exact⟨o1,by show 0<=t.2; omega,by show t.2<2 * n; omega⟩
  ·exact⟨o2,by show 0<=t.1; omega,by show t.1<2 * n; omega⟩
 ·obtain⟨⟨h0,h1⟩,_⟩:=cB.mp (List.mem_of_getElem? hv)
  exact⟨⟨h0,by show v<2 * n; omega⟩,by show 0<=v+n; omega,by show v+n<2 * n; omega⟩
theorem cut_one {arcs:List Tie}{a b:Int}{U:List Int} (h:Flow arcs a b 1 U) (hr:¬ Rt (edg (lft arcs U)) a b):∃ i0,i0<arcs.length/\∀ j,j<arcs.length->RZ (edg (lft arcs U)) a (cF arcs ((j:Nat):Int)).1=true->RZ (edg (lft arcs U)) a (cF arcs ((j:Nat):Int)).2=false->j=i0:=by
 let S:=RZ (edg (lft arcs U)) a
 have hS:=h S
 have ca:chi S a=1:=chi_t (cG.mpr (.refl _))
 have cb:chi S b=0:=chi_f (Bool.eq_false_iff.mpr fun z=>hr (cG.mp z))
 rw [ca,cb] at hS
 have st:∀ (j:Nat) (p x:Int),(p,(x,((j:Nat):Int)))∈lft arcs U->S p=true->S x=true:=fun j p x hm hp=>cG.mpr (.step (cG.mp hp) (j7.mpr ⟨_,hm⟩))
 have get:∀ i,i<arcs.length->arcs[i]?=some (cF arcs ((i:Nat):Int)):=fun i hi=>arc_get (arcs:=arcs) (i:=((i:Nat):Int)) (by omega) (by omega)
 have ge:∀ i,i<arcs.length->0<=(if ((i:Nat):Int)∈U then flo arcs S i else 0):=fun i hi=>by
  by_cases u:((i:Nat):Int)∈U
  ·rw [if_pos u]
   unfold flo
   cases e:S (cF arcs ((i:Nat):Int)).2 with
   | false =>
    rw [chi_f e]
    have:=chi_le S (cF arcs ((i:Nat):Int)).1
    omega
   | true =>
    have:S (cF arcs ((i:Nat):Int)).1=true:=st i _ _ (iQ.mpr ⟨i,rfl,.inl ⟨u,get i hi⟩⟩) e
    rw [chi_t e,chi_t this]
    omega
  ·rw [if_neg u]
   exact Int.le_refl _
 have hS:cV arcs.length (fun i=>if ((i:Nat):Int)∈U then flo arcs S i else 0)=1:=hS
 obtain⟨i0,hi0,g0⟩:=sum_pos (by rw [hS]; decide)
 have g0:0<(if ((i0:Nat):Int)∈U then flo arcs S i0 else 0):=g0
 refine⟨i0,hi0,fun j hj h1 h2=>?_⟩
 have h1:S (cF arcs ((j:Nat):Int)).1=true:=h1
 have h2:S (cF arcs ((j:Nat):Int)).2=false:=h2
 by_cases u:((j:Nat):Int)∈U
 ·by_cases e:j=i0
  ·exact e
  ·have:=sum_two hj hi0 e ge
   have this:(if ((j:Nat):Int)∈U then flo arcs S j else 0)+(if ((i0:Nat):Int)∈U then flo arcs S i0 else 0)<=_:=this
   rw [hS,if_pos u] at this
   unfold flo at this
   rw [chi_t h1,chi_f h2] at this
   unfold flo at g0
   omega
 ·have:S (cF arcs ((j:Nat):Int)).2=true:=st j _ _ (iQ.mpr ⟨j,rfl,.inr ⟨u,get j hj⟩⟩) h1
  rw [h2] at this
  cases this
theorem oN_a (n a b:Int):oN n a b a=a:=if_pos (.inl rfl)
theorem oN_b (n a b:Int):oN n a b b=b:=if_pos (.inr rfl)
theorem arc_step {n a b:Int}{us:List Tie}{x y:Int}{k:Nat} (e:us[k]?=some (x,y)\/us[k]?=some (y,x)):∃ j,j<(aX n a b us).length/\j / 2=k/\j<2 * us.length/\cF (aX n a b us) ((j:Nat):Int)=(oN n a b x,y)/\(aX n a b us)[j]?=some (oN n a b x,y):=by
 rcases e with e | e
 ·have g:=(arcsP_get (n:=n) (a:=a) (b:=b) e).1
  have hk:=(List.getElem?_eq_some_iff.mp e).1
  exact⟨2 * k,(List.getElem?_eq_some_iff.mp g).1,by omega,by omega,j9 g,g⟩
 ·have g:=(arcsP_get (n:=n) (a:=a) (b:=b) e).2
  have hk:=(List.getElem?_eq_some_iff.mp e).1
  exact⟨2 * k+1,(List.getElem?_eq_some_iff.mp g).1,by omega,by omega,j9 g,g⟩
theorem cut_part {n a b:Int}{us:List Tie}{U:List Int} (ok:OkN n us) (h:Flow (aX n a b us) a b 1 U) (hr:¬ Rt (edg (lft (aX n a b us) U)) a b):(∃ v,v∈inn n a b/\¬ Rt (adj us [] [v]) a b)\/∃ k:Nat,k<us.length/\¬ Rt (adj us [((k:Nat):Int)] []) a b:=by
 obtain⟨i0,hi0,only⟩:=cut_one h hr
 rw [arcsP_len] at hi0
 generalize hS:RZ (edg (lft (aX n a b us) U)) a=S at only
 have Sa:S a=true:=by rw [← hS]; exact cG.mpr (.refl _)
 have Sb:S b=false:=by rw [← hS]; exact Bool.eq_false_iff.mpr fun z=>hr (cG.mp z)
 have step:∀ (F B:List Int),(∀ k:Nat,k=i0 / 2->i0<2 * us.length->((k:Nat):Int)∈F)->(∀ v,(inn n a b)[i0 - 2 * us.length]?=some v->2 * us.length<=i0->v∈B)->¬ Rt (adj us F B) a b:=fun F B hF hB r=>by
  have all:∀ x,Rt (adj us F B) a x->S (oN n a b x)=true:=fun x r=>by
   induction r with
   | refl=>rw [oN_a]; exact Sa
   | @step y z _ t ih =>
    obtain⟨k,e,nk,nz⟩:=cC.mp t
    obtain⟨j,hj,jk,jl,ja,_⟩:=arc_step (n:=n) (a:=a) (b:=b) e
    have Sz:S z=true:=by
     cases e2:S z with
     | true=>rfl
     | false =>
      have:=only j hj (by rw [ja]; exact ih) (by rw [ja]; exact e2)
      subst this
      exact absurd (hF k jk.symm jl) nk
    by_cases zz:z=a\/z=b
    ·unfold oN
     rw [if_pos zz]
     exact Sz
    ·have zr:0<=z/\z<n:=by
      rcases e with e | e
      ·exact (ok _ (List.mem_of_getElem? e)).2.1
      ·exact (ok _ (List.mem_of_getElem? e)).1
     have zi:z∈inn n a b:=cB.mpr ⟨zr,fun q=>zz (.inl q),fun q=>zz (.inr q)⟩
     obtain⟨j2,l2,g2,e2⟩:=arcsP_in (us:=us) zi
     have ho:oN n a b z=z+n:=if_neg zz
     rw [ho]
     cases e3:S (z+n) with
     | true=>rfl
     | false =>
      have:=only j2 (List.getElem?_eq_some_iff.mp e2).1 (by rw [j9 e2]; exact Sz) (by rw [j9 e2]; exact e3)
      subst this
      exact absurd (hB z g2 l2) nz
  have:=all b r
  rw [oN_b,Sb] at this
  cases this
 by_cases c:i0<2 * us.length
 ·right
  refine⟨i0 / 2,by omega,step [((i0 / 2:Nat):Int)] [] (fun k hk _=>by rw [hk]; exact List.mem_singleton.mpr rfl) (fun v _ l=>by omega)⟩
 ·cases hv:(inn n a b)[i0 - 2 * us.length]? with
  | some v =>
   left
   refine⟨v,List.mem_of_getElem? hv,step [] [v] (fun k _ l=>by omega) (fun w hw _=>by rw [hv] at hw; cases hw; exact List.mem_singleton.mpr rfl)⟩
  | none =>
   exfalso
   have:=List.getElem?_eq_none_iff.mp hv
   omega
theorem rt_split {n a b:Int}{us:List Tie} (ok:OkN n us) {x:Int} (r:Rt (adj us [] []) a x):Rt (edg (lft (aX n a b us) [])) a (oN n a b x):=by
 have st:∀ (j:Nat) (e:Tie),(aX n a b us)[j]?=some e->e∈edg (lft (aX n a b us) []):=fun j e he=>j7.mpr ⟨_,iQ.mpr ⟨j,rfl,.inr ⟨List.not_mem_nil,he⟩⟩⟩
 induction r with
 | refl=>rw [oN_a]; exact .refl _
 | @step y z _ t ih =>
  obtain⟨k,e,_,_⟩:=cC.mp t
  obtain⟨j,hj,jk,jl,ja,g⟩:=arc_step (n:=n) (a:=a) (b:=b) e
  have rz:=Rt.step ih (st j _ g)
  by_cases zz:z=a\/z=b
  ·unfold oN
   rw [if_pos zz]
   exact rz
  ·have zr:0<=z/\z<n:=by
    rcases e with e | e
    ·exact (ok _ (List.mem_of_getElem? e)).2.1
    ·exact (ok _ (List.mem_of_getElem? e)).1
   have zi:z∈inn n a b:=cB.mpr ⟨zr,fun q=>zz (.inl q),fun q=>zz (.inr q)⟩
   obtain⟨j2,l2,g2,e2⟩:=arcsP_in (us:=us) zi
   have ho:oN n a b z=z+n:=if_neg zz
   rw [ho]
   exact .step rz (st j2 _ e2)
noncomputable def piN (n x:Int):Int:=if x<n then x else x - n
theorem pi_oN {n a b v:Int} (h0:0<=v) (h1:v<n):piN n (oN n a b v)=v:=by
 unfold piN oN
 by_cases c:v=a\/v=b
 ·rw [if_pos c,if_pos h1]
 ·rw [if_neg c,if_neg (by omega)]
  omega
noncomputable def gY (n:Int) (P:List Int):List Int:=P.filter fun x=>decide (x<n)
noncomputable def gZ (T:Nat) (K:List Int):List Int:=(K.filter fun i=>decide (i<2 * ((T:Nat):Int))).map fun i=>i / 2
theorem alg_at {arcs:List Tie}{N:List Int} (hN:InL arcs N) {p y k:Int} (j:(p,(y,k))∈alg arcs N):∃ i:Nat,k=((i:Nat):Int)/\k∈N/\arcs[i]?=some (p,y):=by
 obtain⟨h1,h2⟩:=iR.mp j
 obtain⟨k0,k1⟩:=hN.2 k h1
 refine⟨k.toNat,by omega,h1,?_⟩
 rw [arc_get k0 k1,h2]
theorem wy_join {n a b:Int}{us:List Tie}{N P K:List Int}{x:Int} (ok:OkN n us) (ha:0<=a/\a<n) (hN:InL (aX n a b us) N) (h:Wy (alg (aX n a b us) N) a P K x):Wy (bw us) a (gY n P) (gZ us.length K) (piN n x):=by
 induction h with
 | one =>
  have e1:gY n [a]=[a]:=by unfold gY; rw [List.filter_cons_of_pos (by exact decide_eq_true ha.2)]; rfl
  have e2:piN n a=a:=if_pos ha.2
  rw [e1,e2]
  exact .one
 | @step P K p y k h hx j ih =>
  obtain⟨i,rfl,_,hi⟩:=alg_at hN j
  rcases iu hi with ⟨t,hl,ht,e⟩ | ⟨hl,v,hv,e⟩
  ·obtain⟨⟨h1,h2⟩,⟨h3,h4⟩,_⟩:=ok t (List.mem_of_getElem? ht)
   obtain⟨u,z,eu,hp,hy,u0,u1,z0,z1⟩:∃ u z,(us[i / 2]?=some (u,z)\/us[i / 2]?=some (z,u))/\p=oN n a b u/\y=z/\0<=u/\u<n/\0<=z/\z<n:=by
    rcases e with ⟨_,e⟩ | ⟨_,e⟩
    ·exact⟨t.1,t.2,.inl ht,congrArg Prod.fst e,congrArg Prod.snd e,h1,h2,h3,h4⟩
    ·exact⟨t.2,t.1,.inr ht,congrArg Prod.fst e,congrArg Prod.snd e,h3,h4,h1,h2⟩
   subst hp hy
   rw [pi_oN u0 u1] at ih
   have e1:gY n (P++[y])=gY n P++[y]:=by
    unfold gY
    rw [List.filter_append,List.filter_cons_of_pos (l:=[]) (by exact decide_eq_true z1)]
    rfl
   have e2:gZ us.length (K++[((i:Nat):Int)])=gZ us.length K++[((i / 2:Nat):Int)]:=by
    unfold gZ
    rw [List.filter_append,List.filter_cons_of_pos (l:=[]) (by exact decide_eq_true (by omega)),List.map_append]
    show _++[((i:Nat):Int) / 2]=_
    congr 1
   have e3:piN n y=y:=if_pos z1
   rw [e1,e2,e3]
   refine .step ih (fun q=>hx (List.mem_filter.mp q).1) (cO.mpr ⟨i / 2,rfl,eu⟩)
  ·have ev:=cB.mp (List.mem_of_getElem? hv)
   have hp:p=v:=congrArg Prod.fst e
   have hy:y=v+n:=congrArg Prod.snd e
   subst hp hy
   have e1:gY n (P++[p+n])=gY n P:=by
    unfold gY
    rw [List.filter_append,List.filter_cons_of_neg (l:=[]) (by rw [decide_eq_false (by omega)]; exact Bool.false_ne_true)]
    exact List.append_nil _
   have e2:gZ us.length (K++[((i:Nat):Int)])=gZ us.length K:=by
    unfold gZ
    rw [List.filter_append,List.filter_cons_of_neg (l:=[]) (by rw [decide_eq_false (by omega)]; exact Bool.false_ne_true)]
    rw [List.filter_nil,List.append_nil]
   have e3:piN n (p+n)=piN n p:=by
    unfold piN
    rw [if_neg (by omega),if_pos ev.1.2]
    omega
   rw [e1,e2,e3]
   exact ih
theorem wy_leave {ws:List Put}{a:Int}{P K:List Int}{x:Int} (h:Wy ws a P K x):∀ v∈P,v≠x->∃ y k,k∈K/\(v,(y,k))∈ws:=by
 induction h with
 | one=>exact fun v hv ne=>absurd (List.mem_singleton.mp hv) ne
 | @step P K p y k h hx j ih =>
  intro v hv ne
  rcases List.mem_append.mp hv with z | z
  ·by_cases e:v=p
   ·subst e
    exact⟨y,k,List.mem_append_right _ (List.mem_singleton.mpr rfl),j⟩
   ·obtain⟨y',k',h1,h2⟩:=ih v z e
    exact⟨y',k',List.mem_append_left _ h1,h2⟩
  ·exact absurd (List.mem_singleton.mp z) ne
theorem wy_st {ws:List Put}{a:Int}{P K:List Int}{x:Int} (h:Wy ws a P K x):a∈P/\x∈P:=by
 induction h with
 | one=>exact⟨List.mem_singleton.mpr rfl,List.mem_singleton.mpr rfl⟩
 | step _ _ _ ih=>exact⟨List.mem_append_left _ ih.1,List.mem_append_right _ (List.mem_singleton.mpr rfl)⟩
theorem wy_back {ws:List Put}{a:Int}{P K:List Int}{x:Int} (h:Wy ws a P K x):∀ k∈K,∃ p y,(p,(y,k))∈ws/\y≠a/\p∈P/\y∈P:=by
 induction h with
 | one=>exact fun k hk=>nomatch hk
 | @step P K p y k h hx j ih =>
  obtain⟨stP,pP⟩:=wy_st h
  intro k' hk
  rcases List.mem_append.mp hk with z | z
  ·obtain⟨p',y',h1,h2,h3,h4⟩:=ih k' z
   exact⟨p',y',h1,h2,List.mem_append_left _ h3,List.mem_append_left _ h4⟩
  ·rw [List.mem_singleton.mp z]
   exact⟨p,y,j,(fun e=>hx (e ▸ stP)),List.mem_append_left _ pP,List.mem_append_right _ (List.mem_singleton.mpr rfl)⟩
theorem lZ {arcs:List Tie}{U K:List Int} (h:InL arcs U):InL arcs (U.filter fun i=>!decide (i∈K)):=⟨Nat.le_trans (List.length_filter_le _ _) h.1,fun i hi=>h.2 i (List.mem_filter.mp hi).1⟩
theorem nd_ix {l:List Int}{i j:Nat}{v:Int} (nd:l.Nodup) (h1:l[i]?=some v) (h2:l[j]?=some v):i=j:=by
 obtain⟨a1,b1⟩:=List.getElem?_eq_some_iff.mp h1
 obtain⟨a2,b2⟩:=List.getElem?_eq_some_iff.mp h2
 have pw:=List.pairwise_iff_getElem.mp nd
 rcases Nat.lt_trichotomy i j with z | z | z
 ·exact absurd (b1.trans b2.symm) (pw _ _ a1 a2 z)
 ·exact z
 ·exact absurd (b2.trans b1.symm) (pw _ _ a2 a1 z)
section
variable {n a b:Int}{us:List Tie}{U:List Int}{P1 K1 P2 K2:List Int}
theorem leave_one {v y y':Int}{i j:Nat} (hv:v∈inn n a b) (hi:(aX n a b us)[i]?=some (v,y)) (hj:(aX n a b us)[j]?=some (v,y')) (ok:OkN n us):i=j:=by
 have ev:=cB.mp hv
 have one:∀ {i:Nat}{y:Int},(aX n a b us)[i]?=some (v,y)->2 * us.length<=i/\(inn n a b)[i - 2 * us.length]?=some v:=fun {i y} h=>by
  rcases iu h with ⟨t,_,ht,e⟩ | ⟨hl,w,hw,e⟩
  ·exfalso
   obtain⟨⟨h1,h2⟩,⟨h3,h4⟩,_⟩:=ok t (List.mem_of_getElem? ht)
   have no:∀ u,0<=u->v≠oN n a b u:=fun u u0 z=>by
    unfold oN at z
    by_cases c:u=a\/u=b
    ·rw [if_pos c] at z
     rcases c with c | c
     ·exact ev.2.1 (z.trans c)
     ·exact ev.2.2 (z.trans c)
    ·rw [if_neg c] at z
     omega
   rcases e with ⟨_,e⟩ | ⟨_,e⟩
   ·exact no t.1 h1 (congrArg Prod.fst e)
   ·exact no t.2 h3 (congrArg Prod.fst e)
  ·have:v=w:=congrArg Prod.fst e
   subst this
   exact⟨hl,hw⟩
 obtain⟨l1,g1⟩:=one hi
 obtain⟨l2,g2⟩:=one hj
 have nd:=inn_nd n a b
 have:=nd_ix nd g1 g2
 omega
theorem way_places (ok:OkN n us) (hU:InL (aX n a b us) U) (W1:Wy (alg (aX n a b us) U) a P1 K1 b) (W2:Wy (alg (aX n a b us) (U.filter fun i=>!decide (i∈K1))) a P2 K2 b):∀ v∈gY n P1,v∈gY n P2->v=a\/v=b:=fun v h1 h2=>by
 refine Classical.byContradiction fun c=>?_
 have c1:v≠a:=fun z=>c (.inl z)
 have c2:v≠b:=fun z=>c (.inr z)
 obtain⟨m1,l1⟩:=List.mem_filter.mp h1
 obtain⟨m2,_⟩:=List.mem_filter.mp h2
 have l1:v<n:=of_decide_eq_true l1
 obtain⟨y1,k1,q1,j1⟩:=wy_leave W1 v m1 c2
 obtain⟨y2,k2,q2,j2⟩:=wy_leave W2 v m2 c2
 obtain⟨i1,rfl,_,e1⟩:=alg_at hU j1
 obtain⟨i2,rfl,u2,e2⟩:=alg_at (lZ hU) j2
 have v0:0<=v:=by
  rcases iu e1 with ⟨t,_,ht,e⟩ | ⟨_,w,hw,e⟩
  ·obtain⟨⟨h1,h2⟩,⟨h3,h4⟩,_⟩:=ok t (List.mem_of_getElem? ht)
   rcases e with ⟨_,e⟩ | ⟨_,e⟩
   ·have:v=oN n a b t.1:=congrArg Prod.fst e
    have:=oN_rng (a:=a) (b:=b) h1 h2
    omega
   ·have:v=oN n a b t.2:=congrArg Prod.fst e
    have:=oN_rng (a:=a) (b:=b) h3 h4
    omega
  ·have:=(cB.mp (List.mem_of_getElem? hw)).1.1
   have:v=w:=congrArg Prod.fst e
   omega
 have e:=leave_one (cB.mpr ⟨⟨v0,l1⟩,c1,c2⟩) e1 e2 ok
 subst e
 have u2:=(List.mem_filter.mp u2).2
 rw [decide_eq_true q1] at u2
 cases u2
theorem way_ties (ok:OkN n us) (ha:0<=a/\a<n) (hU:InL (aX n a b us) U) (W1:Wy (alg (aX n a b us) U) a P1 K1 b) (W2:Wy (alg (aX n a b us) (U.filter fun i=>!decide (i∈K1))) a P2 K2 b):∀ k∈gZ us.length K1,k∉gZ us.length K2:=fun k h1 h2=>by
 obtain⟨i,hi,rfl⟩:=List.mem_map.mp h1
 obtain⟨j,hj,ej⟩:=List.mem_map.mp h2
 obtain⟨i1,il⟩:=List.mem_filter.mp hi
 obtain⟨j1,jl⟩:=List.mem_filter.mp hj
 have il:=of_decide_eq_true il
 have jl:=of_decide_eq_true jl
 have X1:=wy_join ok ha hU W1
 have X2:=wy_join ok ha (lZ hU) W2
 have pl:=way_places ok hU W1 W2
 obtain⟨p1,y1,g1,n1,_,_⟩:=wy_back W1 i i1
 obtain⟨p2,y2,g2,n2,_,_⟩:=wy_back W2 j j1
 obtain⟨i',rfl,_,e1⟩:=alg_at hU g1
 obtain⟨j',rfl,uj,e2⟩:=alg_at (lZ hU) g2
 have ne:i'≠j':=fun z=>by
  subst z
  have uj:=(List.mem_filter.mp uj).2
  rw [decide_eq_true i1] at uj
  cases uj
 have hij:i' / 2=j' / 2:=by
  have:((j':Nat):Int) / 2=((i':Nat):Int) / 2:=ej
  omega
 have tie:∀ {q:Nat}{p y:Int},((q:Nat):Int)<2 * ((us.length:Nat):Int)->(aX n a b us)[q]?=some (p,y)->∃ t,us[q / 2]?=some t/\((q=2 * (q / 2)/\y=t.2)\/(q=2 * (q / 2)+1/\y=t.1)):=fun {q p y} hl h=>by
  rcases iu h with ⟨t,_,ht,e⟩ | ⟨hl',_⟩
  ·refine⟨t,ht,?_⟩
   rcases e with ⟨e0,e⟩ | ⟨e0,e⟩
   ·exact .inl ⟨e0,congrArg Prod.snd e⟩
   ·exact .inr ⟨e0,congrArg Prod.snd e⟩
  ·omega
 obtain⟨t,ht,c1⟩:=tie il e1
 obtain⟨t',ht',c2⟩:=tie jl e2
 rw [← hij,ht] at ht'
 cases ht'
 -- both places of the tie are on both ways
 have on:∀ {P K:List Int}{x:Int},Wy (bw us) a P K x->((i':Nat):Int) / 2∈K->t.1∈P/\t.2∈P:=fun {P K x} W hk=>by
  obtain⟨p,y,hp,_,pm,ym⟩:=wy_back W _ hk
  obtain⟨q,eq,h⟩:=cO.mp hp
  have eq:i' / 2=q:=by omega
  subst eq
  rw [ht] at h
  rcases h with h | h
  ·cases h
   exact⟨pm,ym⟩
  ·cases h
   exact⟨ym,pm⟩
 obtain⟨a1,a2⟩:=on X1 h1
 obtain⟨b1,b2⟩:=on X2 h2
 have q1:=pl _ a1 b1
 have q2:=pl _ a2 b2
 have nt:=(ok t (List.mem_of_getElem? ht)).2.2
 have nn:t.1≠a/\t.2≠a:=by
  rcases c1 with ⟨x1,rfl⟩ | ⟨x1,rfl⟩ <;> rcases c2 with ⟨x2,rfl⟩ | ⟨x2,rfl⟩
  ·omega
  ·exact⟨n2,n1⟩
  ·exact⟨n1,n2⟩
  ·omega
 rcases q1 with q1 | q1
 ·exact nn.1 q1
 ·rcases q2 with q2 | q2
  ·exact nn.2 q2
  ·exact nt (q1.trans q2.symm)
end
theorem fst_iff {R:Nat->Nat->Bool}{n i:Nat} (hi:i<n) (hs:R i i=true):jG R n i=true↔∀ b,b<i->(R i b&&R b i)=false:=by
 unfold jG fZ
 rw [decide_eq_true_iff,List.head?_filter,List.find?_range_eq_some]
 constructor
 ·intro h b hb
  have:=h.2.2 b hb
  rwa [Bool.not_eq_true'] at this
 ·intro h
  refine⟨by rw [hs]; rfl,List.mem_range.mpr hi,fun j hj=>?_⟩
  rw [h j hj]; rfl
theorem mine_rs {es:List Tie} (sy:∀ a b,(a,b)∈es->(b,a)∈es) (n i:Nat):rsI es n ((i:Nat):Int)=zI (fZ (RB es) n i):=by
 refine rise_ext jV (zI_rise (List.pairwise_lt_range.filter _)) fun q=>?_
 rw [dH,mem_zI]
 unfold fZ
 rw [List.mem_filter,List.mem_range,Bool.and_eq_true,jc,jc]
 constructor
 ·rintro ⟨⟨h0,h1⟩,r⟩
  rw [Int.toNat_of_nonneg h0]
  exact⟨h0,by omega,r,r.sym sy⟩
 ·rintro ⟨h0,h1,r,_⟩
  rw [Int.toNat_of_nonneg h0] at r
  exact⟨⟨h0,by omega⟩,r⟩
structure Seen (n:Nat) (es:List Tie) (i:Nat) (m:IM):Prop where
 im:immI m=true
 nd:(aL m).Nodup
 rng:∀ x∈aL m,0<=x/\x<n
 is:∀ x,x∈aL m↔∃ p:Nat,p<i/\Rt es ((p:Nat):Int) x
theorem put_keys {m:IM} (k:Int) (d:D):∀ x,x∈aL (fu m k d)↔x∈aL m\/x=k:=fun x=>by
 unfold fu
 by_cases h:dX m k=true
 ·rw [if_pos h]
  have e:aL (m.map fun p=>if p.1=k then (p.1,d) else p)=aL m:=by
   unfold aL
   rw [List.map_map]
   refine List.map_congr_left fun p _=>?_
   show (if p.1=k then (p.1,d) else p).1=p.1
   split <;> rfl
  rw [e]
  exact⟨.inl,fun z=>z.elim id fun z=>z ▸ eX.mp h⟩
 ·rw [if_neg h]
  unfold aL
  rw [List.map_append,List.mem_append]
  exact Iff.rfl.trans ⟨fun z=>z.imp id List.mem_singleton.mp,fun z=>z.imp id fun z=>List.mem_singleton.mpr z⟩
theorem put_imm {m:IM} (k:Int) (d:D) (h:immI m=true) (hd:fQ d=true):immI (fu m k d)=true:=by
 unfold fu
 split
 ·unfold immI at *
  rw [List.all_map,List.all_eq_true]
  intro p hp
  show fQ (if p.1=k then (p.1,d) else p).2=true
  split
  ·exact hd
  ·exact List.all_eq_true.mp h p hp
 ·unfold immI at *
  rw [List.all_append,h]
  show (true&&(fQ d&&true))=true
  rw [hd]; rfl
theorem put_nd {m:IM} (k:Int) (d:D) (h:(aL m).Nodup):(aL (fu m k d)).Nodup:=by
 unfold fu
 by_cases hh:dX m k=true
 ·rw [if_pos hh]
  have e:aL (m.map fun p=>if p.1=k then (p.1,d) else p)=aL m:=by
   unfold aL
   rw [List.map_map]
   refine List.map_congr_left fun p _=>?_
   show (if p.1=k then (p.1,d) else p).1=p.1
   split <;> rfl
  rw [e]; exact h
 ·rw [if_neg hh]
  unfold aL at *
  rw [List.map_append]
  refine List.nodup_append.mpr ⟨h,by simp,fun y hy z hz=>?_⟩
  have hz:=List.mem_singleton.mp hz
  rw [hz]
  rintro rfl
  exact hh (eX.mpr hy)
theorem dset_of {P:DEnds}{ρ:List Sl}{rg:Option Nat}{i:Nat}{k:Kd}{d:D}{s:Sl} (e:stK rg ρ i (norm k d) d=some s) (h:P.nx (ρ.set i s)):(match stK rg ρ i (norm k d) d with
 | some s=>P.nx (ρ.set i s)
 | none=>False):=by
 rw [e]
 exact h
noncomputable def noV (us:List Tie) (v:Int):List Tie:=us.filter fun t=>!decide (v=t.1\/v=t.2)
noncomputable def RV (us:List Tie) (v:Nat):Nat->Nat->Bool:=RB (adj (noV us ((v:Nat):Int)) [] [])
noncomputable def pwI (n:Nat) (us:List Tie) (v:Nat):List (List Int):=(((List.range n).filter (jG (RV us v) n)).filter fun a=>decide (a≠v)).map fun a=>zI (fZ (RV us v) n a)
theorem noV_ok {n:Int}{us:List Tie} (ok:OkN n us) (v:Int):OkN n (noV us v):=fun t ht=>ok t ((List.mem_filter.mp ht).1)
theorem noV_len (us:List Tie) (v:Int):(noV us v).length<=us.length:=List.length_filter_le _ _
theorem noV_adj {us:List Tie}{v x y:Int}:(x,y)∈adj (noV us v) [] []↔(x,y)∈adj us [] []/\x≠v/\y≠v:=by
 have key:∀ (ws:List Tie),(x,y)∈adj ws [] []↔(x,y)∈ws\/(y,x)∈ws:=fun ws=>by
  rw [cC]
  constructor
  ·rintro ⟨k,e | e,_⟩
   ·exact .inl (List.mem_of_getElem? e)
   ·exact .inr (List.mem_of_getElem? e)
  ·rintro (e | e)
   ·obtain⟨k,hk⟩:=List.getElem?_of_mem e
    exact⟨k,.inl hk,List.not_mem_nil,List.not_mem_nil⟩
   ·obtain⟨k,hk⟩:=List.getElem?_of_mem e
    exact⟨k,.inr hk,List.not_mem_nil,List.not_mem_nil⟩
 have fl:∀ a b:Int,((a,b):Tie)∈noV us v↔(a,b)∈us/\a≠v/\b≠v:=fun a b=>by
  unfold noV
  rw [List.mem_filter]
  simp only [Bool.not_eq_true',decide_eq_false_iff_not,not_or]
  constructor
  ·rintro ⟨h,h1,h2⟩
   exact⟨h,fun z=>h1 z.symm,fun z=>h2 z.symm⟩
  ·rintro ⟨h,h1,h2⟩
   exact⟨h,fun z=>h1 z.symm,fun z=>h2 z.symm⟩
 rw [key,key,fl,fl]
 constructor
 ·rintro (⟨h,a,b⟩ | ⟨h,a,b⟩)
  ·exact⟨.inl h,a,b⟩
  ·exact⟨.inr h,b,a⟩
 ·rintro ⟨h | h,a,b⟩
  ·exact .inl ⟨h,a,b⟩
  ·exact .inr ⟨h,b,a⟩
theorem noV_alone {us:List Tie}{v a:Int} (r:Rt (adj (noV us v) [] []) a v):a=v:=by
 cases r with
 | refl=>rfl
 | step r t=>exact absurd rfl (noV_adj.mp t).2.2
theorem pw_eq {n:Nat}{us:List Tie}{v:Nat} (hv:v<n):(clsI (RV us v) n n).filter (fun l=>!decide (((v:Nat):Int)∈l))=pwI n us v:=by
 unfold clsI pwI
 rw [List.take_of_length_le (by rw [List.length_range]; exact Nat.le_refl _),List.filter_map]
 congr 1
 refine List.filter_congr fun a ha=>?_
 show (!decide (((v:Nat):Int)∈zI (fZ (RV us v) n a)))=decide (a≠v)
 have h:((v:Nat):Int)∈zI (fZ (RV us v) n a)↔a=v:=by
  rw [mem_zI]
  unfold fZ
  rw [List.mem_filter,Bool.and_eq_true]
  show 0<=((v:Nat):Int)/\v∈List.range n/\RV us v a v=true/\RV us v v a=true↔_
  constructor
  ·rintro ⟨_,_,h,_⟩
   have:=noV_alone (jc.mp h)
   omega
  ·rintro rfl
   exact⟨by omega,List.mem_range.mpr hv,RB_self _ _,RB_self _ _⟩
 by_cases e:a=v
 ·rw [decide_eq_true (h.mpr e),decide_eq_false (fun z=>z e)]; rfl
 ·rw [decide_eq_false (fun z=>e (h.mp z)),decide_eq_true e]; rfl
theorem pw_len (n:Nat) (us:List Tie) (v:Nat):(pwI n us v).length<=n:=by
 unfold pwI
 rw [List.length_map]
 have h1:=List.length_filter_le (fun a=>decide (a≠v)) ((List.range n).filter (jG (RV us v) n))
 have h2:=List.length_filter_le (jG (RV us v) n) (List.range n)
 rw [List.length_range] at h2
 omega
noncomputable def fParts (ds:List D) (P:D->Prop):Prop:=∃ n us,ds=[aP n us]/\0<=n/\n<=60/\us.length<=100/\OkN n us/\P (.list ((clsI (RB (adj us [] [])) n.toNat n.toNat).map iD))
noncomputable def fPW (ds:List D) (P:D->Prop):Prop:=∃ (n:Int) (us:List Tie) (v:Nat),ds=[aP n us,.int ((v:Nat):Int)]/\1<=n/\n<=60/\us.length<=100/\OkN n us/\v<n.toNat/\P (.list ((pwI n.toNat us v).map iD))
theorem leastN {Q:Nat->Prop}:∀ k,Q k->∃ m,m<=k/\Q m/\∀ b,b<m->¬ Q b:=by
 intro k
 induction k using Nat.strongRecOn with
 | ind k ih =>
  intro h
  by_cases c:∃ b,b<k/\Q b
  ·obtain⟨b,hb,qb⟩:=c
   obtain⟨m,hm,qm,hl⟩:=ih b hb qb
   exact⟨m,by omega,qm,hl⟩
  ·exact⟨k,Nat.le_refl _,h,fun b hb qb=>c ⟨b,hb,qb⟩⟩
theorem rt_bar {us:List Tie}{v a y:Int} (ne:a≠v):Rt (adj (noV us v) [] []) a y↔Rt (adj us [] [v]) a y:=by
 constructor
 ·exact Rt.mono fun ⟨p,q⟩ h=>by
   obtain⟨h1,_,h3⟩:=noV_adj.mp h
   obtain⟨k,e,hk,_⟩:=cC.mp h1
   exact cC.mpr ⟨k,e,hk,fun z=>h3 (List.mem_singleton.mp z)⟩
 ·intro r
  have:Rt (adj (noV us v) [] []) a y/\y≠v:=by
   induction r with
   | refl=>exact⟨.refl _,ne⟩
   | @step p q _ t ih =>
    obtain⟨k,e,hk,hq⟩:=cC.mp t
    have nq:q≠v:=fun z=>hq (List.mem_singleton.mpr z)
    exact⟨.step ih.1 (noV_adj.mpr ⟨cC.mpr ⟨k,e,hk,List.not_mem_nil⟩,ih.2,nq⟩),nq⟩
  exact this.1
theorem sw_head {n:Nat}{us:List Tie}{v:Nat}{a:Int} (a0:0<=a) (a1:a<n) (ne:a≠((v:Nat):Int)):∃ r,(pwI n us v).filter (fun l=>decide (a∈l))=rsI (adj us [] [((v:Nat):Int)]) n a::r:=by
 have sy:∀ x y,(x,y)∈adj (noV us ((v:Nat):Int)) [] []->(y,x)∈adj (noV us ((v:Nat):Int)) [] []:=kE
 have each:∀ l∈pwI n us v,a∈l->l=rsI (adj us [] [((v:Nat):Int)]) n a:=fun l hl ha=>by
  obtain⟨x,hx,rfl⟩:=List.mem_map.mp hl
  have e:=mine_rs sy n x
  have e:zI (fZ (RV us v) n x)=rsI (adj (noV us ((v:Nat):Int)) [] []) n ((x:Nat):Int):=e.symm
  rw [e] at ha ⊢
  have r:=(dH.mp ha).2
  refine rise_ext jV jV fun y=>?_
  rw [dH,dH,← rt_bar ne]
  exact⟨fun z=>⟨z.1,(r.sym sy).trans z.2⟩,fun z=>⟨z.1,r.trans z.2⟩⟩
 obtain⟨m,hm0,hm,hl⟩:=leastN (Q:=fun k=>Rt (adj (noV us ((v:Nat):Int)) [] []) a ((k:Nat):Int)) a.toNat (by rw [show ((a.toNat:Nat):Int)=a by omega]; exact .refl _)
 have mn:m<n:=by omega
 have mv:m≠v:=fun z=>by
  subst z
  exact ne (noV_alone hm)
 have mem:zI (fZ (RV us v) n m)∈pwI n us v:=by
  refine List.mem_map.mpr ⟨m,List.mem_filter.mpr ⟨List.mem_filter.mpr ⟨List.mem_range.mpr mn,?_⟩,decide_eq_true mv⟩,rfl⟩
  show jG (RB (adj (noV us ((v:Nat):Int)) [] [])) n m=true
  rw [fst_iff mn (RB_self _ m)]
  intro b hb
  rw [Bool.eq_false_iff]
  intro z
  rw [Bool.and_eq_true] at z
  exact hl b hb (hm.trans (jc.mp z.1))
 have am:a∈zI (fZ (RV us v) n m):=by
  have e:zI (fZ (RV us v) n m)=rsI (adj (noV us ((v:Nat):Int)) [] []) n ((m:Nat):Int):=(mine_rs sy n m).symm
  rw [e,dH]
  exact⟨⟨a0,a1⟩,hm.sym sy⟩
 cases hf:(pwI n us v).filter (fun l=>decide (a∈l)) with
 | nil=>exact absurd (decide_eq_true am) (List.filter_eq_nil_iff.mp hf _ mem)
 | cons l r =>
  have:=List.mem_filter.mp (show l∈(pwI n us v).filter (fun l=>decide (a∈l)) by rw [hf]; exact List.mem_cons_self)
  exact⟨r,by rw [each l this.1 (of_decide_eq_true this.2)]⟩
noncomputable def fSW (ds:List D) (P:D->Prop):Prop:=∃ (n:Int) (us:List Tie) (v:Nat) (a:Int),ds=[aP n us,.int ((v:Nat):Int),.int a]/\1<=n/\n<=60/\us.length<=100/\OkN n us/\v<n.toNat/\0<=a/\a<n/\a≠((v:Nat):Int)/\P (iD (rsI (adj us [] [((v:Nat):Int)]) n.toNat a))
open Classical in
noncomputable def ppF (n:Nat) (us:List Tie) (a b:Int):List Nat->D
 | []=>.none
 | v::r=>if (((v:Nat):Int)=a\/((v:Nat):Int)=b)\/Rt (adj us [] [((v:Nat):Int)]) a b then ppF n us a b r else .tuple [.str "place",.int ((v:Nat):Int),iD (rsI (adj us [] [((v:Nat):Int)]) n a)]
noncomputable def fPPl (ds:List D) (P:D->Prop):Prop:=∃ (n:Int) (us:List Tie) (a b:Int),ds=[aP n us,.int a,.int b]/\1<=n/\n<=60/\us.length<=100/\OkN n us/\0<=a/\a<n/\0<=b/\b<n/\P (ppF n.toNat us a b (List.range n.toNat))
section
variable {P:Program}{w:World}{K:PySem.W.Frag}{mg:Str->Option Value}{base:Heap}{f:Addr}{fd:FuncData}{CN:Addr}
theorem sc_parts:FnScope ["web","told","seen","place","part","member"] ["web"] (au (top 14)):=⟨rfl,rfl,rfl,by decide +kernel,rfl,by decide +kernel,by decide +kernel⟩
theorem ok_parts (F:Fun K "parts" "parts" (top 14) f fd) (B:Dl.Bn mg) (C_part_of:Dl.Cal P w K mg base 2 "part_of" ["web","place"] (spD fPart)):FnOk P w K mg base CX0 3 f fd ["web"] (spD fParts):=by
 refine F.ok sc_parts (aW fun ds P h=>?len) (fun cdv A outer s H vs Q E hr h=>?_)
 case len=>(first | (obtain⟨_,rfl,_⟩:=h; rfl) | (obtain⟨_,_,rfl,_⟩:=h; rfl) | (obtain⟨_,_,_,rfl,_⟩:=h; rfl) | (obtain⟨_,_,_,_,rfl,_⟩:=h; rfl) | (obtain⟨_,_,_,_,_,rfl,_⟩:=h; rfl) | (obtain⟨_,_,_,_,_,_,rfl,_⟩:=h; rfl) | (obtain⟨_,_,_,_,_,_,_,rfl,_⟩:=h; rfl) | (obtain⟨rfl,_⟩:=h; rfl))
 have nd:=sc_parts.nd
 refine⟨_,Wr.WDSs.h (Wr.ao (Wr.aN (some 0) (i:=1) nd rfl (by first | exact Or.inl rfl | exact Or.inr rfl) (Wr.aU Wr.ak))
  (Wr.ds_sp 1 true (Wr.ao (Wr.aN (some 1) (i:=2) nd rfl (by first | exact Or.inl rfl | exact Or.inr rfl) Wr.j5)
  (Wr.ao (Wr.bT PassesOwn.never rfl (Wr.bG B.range (Wr.aj (Wr.aB (Wr.dv 0) Wr.aq) Wr.ak)) (Wr.aG (i:=3) nd rfl (by first | exact Or.inl rfl | exact Or.inr rfl)) (Wr.ao (Wr.bJ (Wr.d8 hr.units (Wr.dv 3) (Wr.dv 2)) (Wr.ao (Wr.aN none (i:=4) nd rfl (by first | exact Or.inl rfl | exact Or.inr rfl) (Wr.dc C_part_of hr (Wr.aj (Wr.dv 0) (Wr.aj (Wr.dv 3) Wr.ak))))
  (Wr.ao (Wr.ds_appS (Wr.wv 1) (Wr.aj (Wr.dv 4) Wr.ak))
  (Wr.ao (Wr.bT PassesOwn.never rfl (Wr.cg (Wr.dv 4)) (Wr.aG (i:=5) nd rfl (by first | exact Or.inl rfl | exact Or.inr rfl)) (Wr.ao (Wr.ds_dput hr.units (Wr.wv 2) (Wr.dv 5) Wr.d7) (Wr.aC [5] Wr.aJ))) (Wr.aC [5] Wr.aJ)))) Wr.aJ) (Wr.aC [3,4,5] Wr.aJ)))
  (Wr.aC [3,4,5] (Wr.aD (Wr.aK (Wr.dv 1)))))))),bC h ?_⟩
 rintro ds P ⟨n,us,rfl,n1,n16,lu,ok,q⟩
 refine⟨[.im (aP n us),.any,.any,.any,.any,.any],?_,?_⟩
 ·show [dI (aP n us),.any,.any,.any,.any,.any]=_
  rw [bD]
 have an:=adj_rng (F:=[]) (B:=[]) ok (by omega)
 have sy:=kE (us:=us) (F:=[])
 generalize hes:adj us [] []=es at an sy q
 refine⟨(show 0<=1000 by decide),rfl,.int n,rfl,⟨by omega,by omega⟩,rfl,fun (i:Nat) ρ=>∃ m,ρ=[.im (aP n us),.sp 0 true ((clsI (RB es) n.toNat i).map iD),.dw 1 (.dict (kvD m)),.any,.any,.any]/\Seen n.toNat es i m,⟨[],rfl,rfl,by simp [aL],fun x hx=>(nomatch hx),fun x=>⟨fun z=>(nomatch z),fun ⟨p,hp,_⟩=>absurd hp (Nat.not_lt_zero _)⟩⟩,?_,?_⟩
 ·rintro i d ρ hd ⟨m,rfl,h⟩
  obtain⟨hi,rfl⟩:=cP hd
  have ec:=cls_snoc (RB es) hi
  have hl:=cls_len (RB es) n.toNat i
  refine⟨m,rfl,?_⟩
  show if (!dX m (0+((i:Nat):Int)))=true then _ else _
  rw [Int.zero_add]
  have hf:jG (RB es) n.toNat i=!dX m ((i:Nat):Int):=by
   rw [Bool.eq_iff_iff,fst_iff hi (RB_self es i),Bool.not_eq_true',← Bool.not_eq_true,eX,h.is]
   constructor
   ·rintro z ⟨p,hp,r⟩
    have:=z p hp
    rw [jc.mpr r,jc.mpr (r.sym sy)] at this
    cases this
   ·intro z b hb
    rw [Bool.and_eq_false_iff,← Bool.not_eq_true,← Bool.not_eq_true,jc,jc]
    exact .inr fun r=>z ⟨b,hb,r⟩
  cases hb:dX m ((i:Nat):Int) with
  | true =>
   rw [hf,hb,if_neg (by decide),List.append_nil] at ec
   refine bA (A:=True) ⟨m,?_,h.im,h.nd,h.rng,fun x=>?_⟩
   ·rw [ec]
    rfl
   ·rw [h.is]
    constructor
    ·rintro ⟨p,hp,r⟩
     exact⟨p,by omega,r⟩
    ·rintro ⟨p,hp,r⟩
     by_cases e:p=i
     ·subst e
      obtain⟨p',hp',r'⟩:=(h.is _).mp (eX.mp hb)
      exact⟨p',hp',r'.trans r⟩
     ·exact⟨p,by omega,r⟩
  | false =>
   rw [hf,hb,if_pos (by decide)] at ec
   refine cD (B:=True) ⟨n,us,_,rfl,by omega,by omega,lu,ok,by omega,by omega,?_⟩
   rw [hes]
   have pm:∀ x,x∈rsI es n.toNat ((i:Nat):Int)↔Rt es ((i:Nat):Int) x:=fun x=>by
    rw [dH]
    exact⟨fun z=>z.2,fun r=>⟨r.rng (fun t ht=>(an t ht).2) ⟨by omega,by omega⟩,r⟩⟩
   rw [← mine_rs sy] at ec
   have pl:=rs_len es n.toNat ((i:Nat):Int)
   generalize rsI es n.toNat ((i:Nat):Int)=pt at ec pm pl
   refine⟨rfl,by rw [List.length_map]; omega,?_⟩
   refine⟨rfl,fun (j:Nat) ρ=>∃ m',ρ=[.im (aP n us),.sp 0 true ((clsI (RB es) n.toNat (i+1)).map iD),.dw 1 (.dict (kvD m')),.im (.int ((i:Nat):Int)),.sn (iD pt),.any]/\immI m'=true/\(aL m').Nodup/\∀ x,x∈aL m'↔x∈aL m\/x∈pt.take j,⟨m,?_,h.im,h.nd,fun x=>⟨.inl,fun z=>z.elim id fun z=>nomatch z⟩⟩,?_,?_⟩
   ·rw [ec,List.map_append]
    rfl
   ·rintro j d ρ hd ⟨m',rfl,im',nd',is'⟩
    obtain⟨x,hx,rfl⟩:=gb hd
    have xr:=(pm x).mp (List.mem_of_getElem? hx)
    have tk:pt.take (j+1)=pt.take j++[x]:=by rw [List.take_add_one,hx]; rfl
    have ln:=gR nd' fun y hy=>show 0<=y/\y<n.toNat from by
     rcases (is' y).mp hy with z | z
     ·exact h.rng y z
     ·exact ((pm y).mp (List.mem_of_mem_take z)).rng (fun t ht=>(an t ht).2) ⟨by omega,by omega⟩
    unfold aL at ln
    rw [List.length_map] at ln
    refine⟨m',rfl,rfl,im',by omega,fu m' x (.bool true),rfl,put_imm _ _ im' rfl,put_nd _ _ nd',fun y=>?_⟩
    rw [put_keys,is',tk,List.mem_append,List.mem_singleton,or_assoc]
   ·rintro ρ ⟨m',rfl,im',nd',is'⟩
    rw [List.length_map,List.take_length] at is'
    refine⟨m',rfl,im',nd',fun y hy=>?_,fun x=>?_⟩
    ·rcases (is' y).mp hy with z | z
     ·exact h.rng y z
     ·exact ((pm y).mp z).rng (fun t ht=>(an t ht).2) ⟨by omega,by omega⟩
    ·rw [is',h.is,pm]
     constructor
     ·rintro (⟨p,hp,r⟩ | r)
      ·exact⟨p,by omega,r⟩
      ·exact⟨i,by omega,r⟩
     ·rintro ⟨p,hp,r⟩
      by_cases e:p=i
      ·subst e; exact .inr r
      ·exact .inl ⟨p,by omega,r⟩
 ·rintro ρ ⟨m,rfl,h⟩
  rw [bO]
  exact⟨rfl,q⟩
theorem gH:FnScope ["web","v","left"] ["web","v"] (au (top 18)):=⟨rfl,rfl,rfl,by decide +kernel,rfl,by decide +kernel,by decide +kernel⟩
theorem lD:(["tie","web","v","left"]:List Str).Nodup:=by decide +kernel
theorem lC:(["part","web","v","left"]:List Str).Nodup:=by decide +kernel
theorem ok_parts_without (F:Fun K "parts_without" "parts_without" (top 18) f fd) (B:Dl.Bn mg) (C_check_place:Dl.Cal P w K mg base 4 "check_place" ["web","thing"] (spD fCkP)) (C_parts:Dl.Cal P w K mg base 3 "parts" ["web"] (spD fParts)):FnOk P w K mg base CX0 5 f fd ["web","v"] (spD fPW):=by
 refine F.ok gH (aW fun ds P h=>?len) (fun cdv A outer s H vs Q E hr h=>?_)
 case len=>(first | (obtain⟨_,rfl,_⟩:=h; rfl) | (obtain⟨_,_,rfl,_⟩:=h; rfl) | (obtain⟨_,_,_,rfl,_⟩:=h; rfl) | (obtain⟨_,_,_,_,rfl,_⟩:=h; rfl) | (obtain⟨_,_,_,_,_,rfl,_⟩:=h; rfl) | (obtain⟨_,_,_,_,_,_,rfl,_⟩:=h; rfl) | (obtain⟨_,_,_,_,_,_,_,rfl,_⟩:=h; rfl) | (obtain⟨rfl,_⟩:=h; rfl))
 have nd:=gH.nd
 refine⟨_,Wr.WDSs.h (Wr.ao (Wr.gn (Wr.dc C_check_place hr (Wr.aj (Wr.dv 0) (Wr.aj (Wr.dv 1) Wr.ak))))
  (Wr.ao (Wr.aN none (i:=2) nd rfl (by first | exact Or.inl rfl | exact Or.inr rfl) (Wr.aQ (Wr.aj (Wr.aB (Wr.dv 0) Wr.aq) (Wr.aj (Wr.jZ B.tuple (Wr.aj (Wr.fX ["tie"] rfl (Wr.cg (Wr.aB (Wr.dv 0) Wr.aq)) (fun c=>(Wr.aG (i:=0) lD rfl (by first | exact Or.inl rfl | exact Or.inr rfl))) (fun c=>(Wr.cT (Wr.bF hr.units (Wr.dv 2) (Wr.dv 0)))) (fun c=>(Wr.dv 0))) Wr.ak)) Wr.ak))))
  (Wr.aD (Wr.aK (Wr.fX ["part"] rfl (Wr.cg (Wr.dc C_parts hr (Wr.aj (Wr.dv 2) Wr.ak))) (fun c=>(Wr.aG (i:=0) lC rfl (by first | exact Or.inl rfl | exact Or.inr rfl))) (fun c=>(Wr.cT (Wr.bF hr.units (Wr.dv 2) (Wr.dv 0)))) (fun c=>(Wr.dv 0))))))),bC h ?_⟩
 rintro ds P ⟨n,us,v,rfl,n1,n60,lu,ok,hv,q⟩
 refine⟨[.im (aP n us),.im (.int ((v:Nat):Int)),.any],?_,?_⟩
 ·show [dI (aP n us),.im (.int ((v:Nat):Int)),.any]=_
  rw [bD]
 refine⟨n,us,_,rfl,by omega,by omega,?_⟩
 refine⟨.int n,rfl,.tuple (us.map pD),rfl,jh us pD (fun t=>!decide (((v:Nat):Int)=t.1\/((v:Nat):Int)=t.2)) pD .imm rfl (by omega) (fun t ht A B hA hB=>?_) ?_⟩
 ·refine⟨rfl,rfl,?_⟩
  show if (!([PyData.int t.1,.int t.2].any fun e=>PyData.eqv e (.int ((v:Nat):Int))))=true then _ else _
  rw [jP]
  cases h1:decide (((v:Nat):Int)=t.1\/((v:Nat):Int)=t.2) with
  | true=>exact bA (A:=True) (hB (by rw [h1]; rfl))
  | false=>exact cD (B:=True) ⟨rfl,hA (by rw [h1]; rfl)⟩
 refine⟨(show 2<=1000 by decide),dset_of (s:=.im (aP n (noV us ((v:Nat):Int)))) (by
  show stK none _ 2 (norm _ (aP n (noV us ((v:Nat):Int)))) (aP n (noV us ((v:Nat):Int)))=some (.im (aP n (noV us ((v:Nat):Int))))
  rw [dD (imm_web n _)]; rfl) ?_⟩
 have cl:=cls_len (RV us v) n.toNat n.toNat
 refine⟨n,noV us ((v:Nat):Int),rfl,by omega,n60,by have:=noV_len us ((v:Nat):Int); omega,noV_ok ok _,jh (clsI (RV us v) n.toNat n.toNat) iD (fun l=>!decide (((v:Nat):Int)∈l)) iD .snw rfl (by omega) (fun l hl A B hA hB=>?_) ?_⟩
 ·refine⟨rfl,bI l,?_⟩
  show if (!((l.map PyData.int).any fun e=>PyData.eqv e (.int ((v:Nat):Int))))=true then _ else _
  rw [Dl.any_ints]
  cases h1:decide (((v:Nat):Int)∈l) with
  | true=>exact bA (A:=True) (hB (by rw [h1]; rfl))
  | false=>exact cD (B:=True) ⟨rfl,hA (by rw [h1]; rfl)⟩
 ·rw [pw_eq hv]
  exact⟨rfl,q⟩
theorem jf:FnScope ["web","v","a"] ["web","v","a"] (au (top 30)):=⟨rfl,rfl,rfl,by decide +kernel,rfl,by decide +kernel,by decide +kernel⟩
theorem nd_side_without_0:(["part","web","v","a"]:List Str).Nodup:=by decide +kernel
theorem ok_side_without (F:Fun K "side_without" "side_without" (top 30) f fd) (B:Dl.Bn mg) (C_parts_without:Dl.Cal P w K mg base 5 "parts_without" ["web","v"] (spD fPW)):FnOk P w K mg base CX0 6 f fd ["web","v","a"] (spD fSW):=by
 refine F.ok jf (aW fun ds P h=>?len) (fun cdv A outer s H vs Q E hr h=>?_)
 case len=>(first | (obtain⟨_,rfl,_⟩:=h; rfl) | (obtain⟨_,_,rfl,_⟩:=h; rfl) | (obtain⟨_,_,_,rfl,_⟩:=h; rfl) | (obtain⟨_,_,_,_,rfl,_⟩:=h; rfl) | (obtain⟨_,_,_,_,_,rfl,_⟩:=h; rfl) | (obtain⟨_,_,_,_,_,_,rfl,_⟩:=h; rfl) | (obtain⟨_,_,_,_,_,_,_,rfl,_⟩:=h; rfl) | (obtain⟨rfl,_⟩:=h; rfl))
 have nd:=jf.nd
 refine⟨_,Wr.WDSs.h (Wr.aD (Wr.aK (Wr.aB (Wr.fX ["part"] rfl (Wr.cg (Wr.dc C_parts_without hr (Wr.aj (Wr.dv 0) (Wr.aj (Wr.dv 1) Wr.ak)))) (fun c=>(Wr.aG (i:=0) nd_side_without_0 rfl (by first | exact Or.inl rfl | exact Or.inr rfl))) (fun c=>(Wr.cT (Wr.jw hr.units (Wr.dv 3) (Wr.dv 0)))) (fun c=>(Wr.dv 0))) Wr.aq))),bC h ?_⟩
 rintro ds P ⟨n,us,v,a,rfl,n1,n60,lu,ok,hv,a0,a1,ne,q⟩
 refine⟨[.im (aP n us),.im (.int ((v:Nat):Int)),.im (.int a)],by show [dI (aP n us),.im (.int ((v:Nat):Int)),.im (.int a)]=_; rw [bD],?_⟩
 obtain⟨r,hr2⟩:=sw_head (n:=n.toNat) (us:=us) a0 (by omega) ne
 have pl:=pw_len n.toNat us v
 refine⟨n,us,v,rfl,n1,n60,lu,ok,hv,jh (pwI n.toNat us v) iD (fun l=>decide (a∈l)) iD .snw rfl (by omega) (fun l hl A B hA hB=>?_) ?_⟩
 ·refine⟨rfl,bI l,?_⟩
  show if ((l.map PyData.int).any fun e=>PyData.eqv e (.int a))=true then _ else _
  rw [Dl.any_ints]
  exact gB (fun c=>⟨rfl,hA c⟩) (fun c=>hB (Bool.eq_false_iff.mpr c))
 rw [hr2]
 exact⟨_,dY (j:=0) rfl,rfl,q⟩
theorem gJ:FnScope ["web","a","b","v","side"] ["web","a","b"] (au (top 31)):=⟨rfl,rfl,rfl,by decide +kernel,rfl,by decide +kernel,by decide +kernel⟩
theorem ok_parting_place (F:Fun K "parting_place" "parting_place" (top 31) f fd) (B:Dl.Bn mg) (C_side_without:Dl.Cal P w K mg base 6 "side_without" ["web","v","a"] (spD fSW)):FnOk P w K mg base CX0 7 f fd ["web","a","b"] (spD fPPl):=by
 refine F.ok gJ (aW fun ds P h=>?len) (fun cdv A outer s H vs Q E hr h=>?_)
 case len=>(first | (obtain⟨_,rfl,_⟩:=h; rfl) | (obtain⟨_,_,rfl,_⟩:=h; rfl) | (obtain⟨_,_,_,rfl,_⟩:=h; rfl) | (obtain⟨_,_,_,_,rfl,_⟩:=h; rfl) | (obtain⟨_,_,_,_,_,rfl,_⟩:=h; rfl) | (obtain⟨_,_,_,_,_,_,rfl,_⟩:=h; rfl) | (obtain⟨_,_,_,_,_,_,_,rfl,_⟩:=h; rfl) | (obtain⟨rfl,_⟩:=h; rfl))
 have nd:=gJ.nd
 refine⟨_,Wr.WDSs.h (Wr.ao (Wr.bT PassesOwn.never rfl (Wr.bG B.range (Wr.aj (Wr.aB (Wr.dv 0) Wr.aq) Wr.ak)) (Wr.aG (i:=3) nd rfl (by first | exact Or.inl rfl | exact Or.inr rfl)) (Wr.ao (Wr.bJ (Wr.bF hr.units (Wr.dv 3) (Wr.aQ (Wr.aj (Wr.dv 1) (Wr.aj (Wr.dv 2) Wr.ak)))) (Wr.ao (Wr.aN none (i:=4) nd rfl (by first | exact Or.inl rfl | exact Or.inr rfl) (Wr.dc C_side_without hr (Wr.aj (Wr.dv 0) (Wr.aj (Wr.dv 3) (Wr.aj (Wr.dv 1) Wr.ak)))))
  (Wr.aD (Wr.bJ (Wr.bF hr.units (Wr.dv 2) (Wr.dv 4)) (Wr.aD (Wr.aK (Wr.aQ (Wr.aj Wr.gA (Wr.aj (Wr.dv 3) (Wr.aj (Wr.dv 4) Wr.ak)))))) Wr.aJ))) Wr.aJ) (Wr.aC [3,4] Wr.aJ)))
  (Wr.aC [3,4] (Wr.aD (Wr.aK Wr.d9)))),bC h ?_⟩
 rintro ds P ⟨n,us,a,b,rfl,n1,n60,lu,ok,a0,a1,b0,b1,q⟩
 refine⟨[.im (aP n us),.im (.int a),.im (.int b),.any,.any],by show [dI (aP n us),.im (.int a),.im (.int b),.any,.any]=_; rw [bD],?_⟩
 generalize hG:ppF n.toNat us a b (List.range n.toNat)=G at q
 refine⟨.int n,rfl,⟨by omega,by omega⟩,rfl,fun (i:Nat) ρ=>ρ=[.im (aP n us),.im (.int a),.im (.int b),.any,.any]/\ppF n.toNat us a b ((List.range n.toNat).drop i)=G,⟨rfl,hG⟩,?_,?_⟩
 ·rintro i d ρ hd ⟨rfl,e⟩
  obtain⟨hi,rfl⟩:=cP hd
  have dr:(List.range n.toNat).drop i=i::(List.range n.toNat).drop (i+1):=by
   rw [List.drop_eq_getElem_cons (by rw [List.length_range]; omega),List.getElem_range]
  rw [dr] at e
  unfold ppF at e
  have mb:b∈rsI (adj us [] [((i:Nat):Int)]) n.toNat a↔Rt (adj us [] [((i:Nat):Int)]) a b:=by
   rw [dH]
   exact⟨fun z=>z.2,fun z=>⟨⟨b0,by omega⟩,z⟩⟩
  refine⟨(show 2<=1000 by decide),rfl,rfl,?_⟩
  show if (!([PyData.int a,.int b].any fun e=>PyData.eqv e (.int (0+((i:Nat):Int)))))=true then _ else _
  rw [jP,Int.zero_add]
  by_cases c:((i:Nat):Int)=a\/((i:Nat):Int)=b
  ·rw [if_pos (.inl c)] at e
   rw [decide_eq_true c]
   exact bA (A:=True) ⟨rfl,e⟩
  ·rw [decide_eq_false c]
   refine cD (B:=True) ⟨n,us,i,a,rfl,n1,n60,lu,ok,hi,a0,a1,fun z=>c (.inl z.symm),?_⟩
   refine⟨rfl,bI _,?_⟩
   show if (!(((rsI (adj us [] [((i:Nat):Int)]) n.toNat a).map PyData.int).any fun e=>PyData.eqv e (.int b)))=true then _ else _
   rw [Dl.any_ints]
   by_cases r:Rt (adj us [] [((i:Nat):Int)]) a b
   ·rw [if_pos (.inr r)] at e
    rw [decide_eq_true (mb.mpr r)]
    exact bA (A:=True) ⟨rfl,e⟩
   ·rw [if_neg (fun z=>z.elim c r)] at e
    rw [decide_eq_false fun z=>r (mb.mp z)]
    rw [← e] at q
    exact cD (B:=True) ⟨(show 3<=1000 by decide),rfl,q⟩
 ·rintro ρ ⟨rfl,e⟩
  rw [bO,List.drop_eq_nil_of_le (by rw [List.length_range]; omega)] at e
  have e:PyData.none=G:=e
  rw [← e] at q
  exact⟨rfl,q⟩
end
theorem enum_zip (us:List Tie):enumD (us.map pD)=us.zipIdx.map fun p=>PyData.tuple [.int ((p.2:Nat):Int),pD p.1]:=by
 refine List.ext_getElem? fun i=>?_
 rw [eN,List.getElem?_map,List.getElem?_map,List.getElem?_zipIdx]
 cases us[i]? with
 | none=>rfl
 | some t=>simp
noncomputable def wo (us:List Tie) (F:List Int):List Tie:=(us.zipIdx.filter fun p=>decide (((p.2:Nat):Int)∉F)).map (·.1)
theorem mem_wo {us:List Tie}{F:List Int}{t:Tie}:t∈wo us F↔∃ k:Nat,us[k]?=some t/\((k:Nat):Int)∉F:=by
 unfold wo
 rw [List.mem_map]
 constructor
 ·rintro ⟨⟨u,k⟩,h,rfl⟩
  rw [List.mem_filter] at h
  exact⟨k,List.mem_zipIdx_iff_getElem?.mp h.1,of_decide_eq_true h.2⟩
 ·rintro ⟨k,h,hF⟩
  exact⟨(t,k),List.mem_filter.mpr ⟨List.mem_zipIdx_iff_getElem?.mpr h,decide_eq_true hF⟩,rfl⟩
theorem wo_len (us:List Tie) (F:List Int):(wo us F).length<=us.length:=by
 unfold wo
 rw [List.length_map]
 have:=List.length_filter_le (fun p:Tie×Nat=>decide (((p.2:Nat):Int)∉F)) us.zipIdx
 rw [List.length_zipIdx] at this
 exact this
theorem wo_ok {n:Int}{us:List Tie}{F:List Int} (h:OkN n us):OkN n (wo us F):=fun t ht=>by
 obtain⟨k,e,_⟩:=mem_wo.mp ht
 exact h t (List.mem_of_getElem? e)
theorem wo_adj {us:List Tie}{F:List Int}{x y:Int}:(x,y)∈adj (wo us F) [] []↔(x,y)∈adj us F []:=by
 rw [adj_mem,mem_wo,mem_wo,cC]
 constructor
 ·rintro (⟨k,e,h⟩ | ⟨k,e,h⟩)
  ·exact⟨k,.inl e,h,List.not_mem_nil⟩
  ·exact⟨k,.inr e,h,List.not_mem_nil⟩
 ·rintro ⟨k,e | e,h,_⟩
  ·exact .inl ⟨k,e,h⟩
  ·exact .inr ⟨k,e,h⟩
theorem rt_wo {us:List Tie}{F:List Int}{a b:Int}:Rt (adj (wo us F) [] []) a b↔Rt (adj us F []) a b:=⟨Rt.mono fun ⟨_,_⟩ h=>wo_adj.mp h,Rt.mono fun ⟨_,_⟩ h=>wo_adj.mpr h⟩
noncomputable def twoD:Option ((List Int×List Int)×(List Int×List Int))->D
 | none=>.none
 | some r=>.list [dz (some r.1),dz (some r.2)]
noncomputable def ptF (n:Nat) (us:List Tie) (a b:Int):List Int->D
 | []=>.none
 | k::r=>if RZ (adj us [k] []) a b=true then ptF n us a b r else .tuple [.str "tie",.int k,iD (rsI (adj us [k] []) n a)]
theorem InL.nil (arcs:List Tie):InL arcs []:=⟨Nat.zero_le _,(fun i hi=>nomatch hi)⟩
theorem aug_some {n:Int}{arcs:List Tie}{a b:Int} (n0:0<=n) (la:arcs.length<=200) (ok:OkA n arcs) (a0:0<=a) (a1:a<n):∀ (k:Nat) {c:Int}{U V:List Int},InL arcs U->Flow arcs a b c U->aug n.toNat arcs a b k U=some V->InL arcs V/\Flow arcs a b (c+k) V
 | 0,c,U,V,hU,h,e=>by
  cases e
  exact⟨hU,by rw [show c+((0:Nat):Int)=c by omega]; exact h⟩
 | k+1,c,U,V,hU,h,e=>by
  unfold aug at e
  by_cases r:Rt (edg (lft arcs U)) a b
  ·obtain⟨P,K,hp,W,_,_⟩:=eE (lft_ok n0 la ok) a0 (by omega) r
   rw [hp] at e
   have:=aug_some n0 la ok a0 a1 k (sd_in la) (flow_aug h W) e
   rwa [show c+1+((k:Nat):Int)=c+((k+1:Nat):Int) by omega] at this
  ·rw [path_none (lft_ok n0 la ok) a0 (by omega) r] at e
   cases e
theorem wy_avoid {us:List Tie}{a:Int}{P K:List Int}{x:Int}{k:Int} (h:Wy (bw us) a P K x):k∉K->Rt (adj us [k] []) a x:=by
 induction h with
 | one=>exact fun _=>.refl _
 | @step P K p y j h hx hj ih =>
  intro hk
  refine .step (ih fun z=>hk (List.mem_append_left _ z)) (cC.mpr ?_)
  obtain⟨i,e,ht⟩:=cO.mp hj
  refine⟨i,ht,fun z=>hk (List.mem_append_right _ ?_),List.not_mem_nil⟩
  rw [List.mem_singleton.mp z] at e
  rw [← e]
  exact List.mem_singleton.mpr rfl
theorem wy_rng {us:List Tie}{a:Int}{P K:List Int}{x:Int} (h:Wy (bw us) a P K x):∀ k∈K,0<=k/\k<(us.length:Int):=fun k hk=>by
 obtain⟨p,y,h1,_⟩:=h.hop k hk
 obtain⟨j,rfl,e | e⟩:=cO.mp h1
 ·have:=(List.getElem?_eq_some_iff.mp e).1
  omega
 ·have:=(List.getElem?_eq_some_iff.mp e).1
  omega
theorem pt_find {n:Nat}{us:List Tie}{a b:Int}:∀ {K:List Int},(∀ k∈K,0<=k/\k<(us.length:Int))->(∃ k∈K,¬ Rt (adj us [k] []) a b)->∃ k:Nat,k<us.length/\¬ Rt (adj us [((k:Nat):Int)] []) a b/\ptF n us a b K=.tuple [.str "tie",.int ((k:Nat):Int),iD (rsI (adj us [((k:Nat):Int)] []) n a)]
 | [],_,⟨k,hk,_⟩=>nomatch hk
 | k::r,hr,h=>by
  unfold ptF
  by_cases e:Rt (adj us [k] []) a b
  ·rw [if_pos (cG.mpr e)]
   refine pt_find (fun j hj=>hr j (List.mem_cons_of_mem _ hj)) ?_
   obtain⟨j,hj,nj⟩:=h
   rcases List.mem_cons.mp hj with rfl | hj
   ·exact absurd e nj
   ·exact⟨j,hj,nj⟩
  ·rw [if_neg fun z=>e (cG.mp z)]
   have:=hr k List.mem_cons_self
   refine⟨k.toNat,by omega,?_,?_⟩
   ·rw [show ((k.toNat:Nat):Int)=k by omega]
    exact e
   ·rw [show ((k.toNat:Nat):Int)=k by omega]
theorem pt_kind {n:Nat}{us:List Tie}{a b:Int}:∀ K:List Int,(norm .new (ptF n us a b K)).le .n0=true
 | []=>rfl
 | k::r=>by
  unfold ptF
  by_cases e:RZ (adj us [k] []) a b=true
  ·rw [if_pos e]
   exact pt_kind r
  ·rw [if_neg e]
   rfl
theorem wy_avoidP {us:List Tie}{a:Int}{P K:List Int}{x:Int}{v:Int} (h:Wy (bw us) a P K x):v∉P->Rt (adj us [] [v]) a x:=by
 induction h with
 | one=>exact fun _=>.refl _
 | @step P K p y j h hx hj ih =>
  intro hv
  refine .step (ih fun z=>hv (List.mem_append_left _ z)) (cC.mpr ?_)
  obtain⟨i,e,ht⟩:=cO.mp hj
  refine⟨i,ht,List.not_mem_nil,fun z=>hv (List.mem_append_right _ ?_)⟩
  rw [List.mem_singleton.mp z]
  exact List.mem_singleton.mpr rfl
noncomputable def jn (n:Int) (T:Nat) (r:List Int×List Int):List Int×List Int:=(gY n r.1,gZ T r.2)
noncomputable def twoP (n:Int) (us:List Tie) (a b:Int):Option ((List Int×List Int)×(List Int×List Int)):=match aug (2 * n).toNat (aX n a b us) a b 2 [] with
 | none=>none
 | some U=>match cW (2 * n).toNat (alg (aX n a b us) U) a b with
  | none=>none
  | some r1=>match cW (2 * n).toNat (alg (aX n a b us) (U.filter fun i=>!decide (i∈r1.2))) a b with
   | none=>none
   | some r2=>some (jn n us.length r1,jn n us.length r2)
open Classical in
noncomputable def byP (n:Int) (us:List Tie) (a b:Int):D:=if RZ (adj us [] []) a b=true then (match twoP n us a b with
  | some r=>.tuple [.str "ways",dz (some r.1),dz (some r.2)]
  | none=>if ppF n.toNat us a b (List.range n.toNat)=.none then (match cW n.toNat (bw us) a b with
    | some w=>ptF n.toNat us a b w.2
    | none=>.none)
   else ppF n.toNat us a b (List.range n.toNat))
 else .tuple [.str "apart",iD (rsI (adj us [] []) n.toNat a)]
theorem two_waysP {n:Int}{us:List Tie}{a b:Int}{U:List Int} (n0:0<=n) (ok:OkN n us) (a0:0<=a) (a1:a<n) (hU:InL (aX n a b us) U) (h:Flow (aX n a b us) a b 2 U):∃ r1 r2,cW (2 * n).toNat (alg (aX n a b us) U) a b=some r1/\cW (2 * n).toNat (alg (aX n a b us) (U.filter fun i=>!decide (i∈r1.2))) a b=some r2/\Wy (alg (aX n a b us) U) a r1.1 r1.2 b/\Wy (alg (aX n a b us) (U.filter fun i=>!decide (i∈r1.2))) a r2.1 r2.2 b/\(r1.1.length<=(2 * n).toNat/\r1.2.length<=(2 * n).toNat)/\r2.1.length<=(2 * n).toNat/\r2.2.length<=(2 * n).toNat:=by
 obtain⟨P1,K1,p1,W1,m1,l1⟩:=eE (alg_ok (n:=2 * n) (by omega) (arcsP_ok ok) hU) a0 (by omega) (flow_way (by decide) h)
 have f2:=flow_rest hU h W1
 obtain⟨P2,K2,p2,W2,m2,l2⟩:=eE (alg_ok (n:=2 * n) (by omega) (arcsP_ok ok) (lZ (K:=K1) hU)) a0 (by omega) (flow_way (by decide) f2)
 exact⟨(P1,K1),(P2,K2),p1,p2,W1,W2,⟨m1,l1⟩,m2,l2⟩
noncomputable def ByPOk (n:Int) (us:List Tie) (a b:Int) (d:D):Prop :=
 (¬ Rt (adj us [] []) a b/\d=.tuple [.str "apart",iD (rsI (adj us [] []) n.toNat a)]) ∨
 (Rt (adj us [] []) a b/\∃ v:Nat,((v:Nat):Int)∈inn n a b/\¬ Rt (adj us [] [((v:Nat):Int)]) a b/\d=.tuple [.str "place",.int ((v:Nat):Int),iD (rsI (adj us [] [((v:Nat):Int)]) n.toNat a)]) ∨
 (Rt (adj us [] []) a b/\(∀ v∈inn n a b,Rt (adj us [] [v]) a b)/\∃ k:Nat,k<us.length/\¬ Rt (adj us [((k:Nat):Int)] []) a b/\d=.tuple [.str "tie",.int ((k:Nat):Int),iD (rsI (adj us [((k:Nat):Int)] []) n.toNat a)]) ∨
 (Rt (adj us [] []) a b/\(∀ v∈inn n a b,Rt (adj us [] [v]) a b)/\(∀ k:Nat,Rt (adj us [((k:Nat):Int)] []) a b)/\∃ w1 w2:List Int×List Int,Wy (bw us) a w1.1 w1.2 b/\Wy (bw us) a w2.1 w2.2 b/\(∀ k∈w1.2,k∉w2.2)/\(∀ v∈w1.1,v∈w2.1->v=a\/v=b)/\d=.tuple [.str "ways",dz (some w1),dz (some w2)])
theorem pp_find {n:Nat}{us:List Tie}{a b:Int}:∀ l:List Nat,(ppF n us a b l=.none/\∀ v∈l,(((v:Nat):Int)=a\/((v:Nat):Int)=b)\/Rt (adj us [] [((v:Nat):Int)]) a b)\/∃ v∈l,¬ (((v:Nat):Int)=a\/((v:Nat):Int)=b)/\¬ Rt (adj us [] [((v:Nat):Int)]) a b/\ppF n us a b l=.tuple [.str "place",.int ((v:Nat):Int),iD (rsI (adj us [] [((v:Nat):Int)]) n a)]
 | []=>.inl ⟨rfl,(fun v hv=>nomatch hv)⟩
 | v::r=>by
  by_cases c:(((v:Nat):Int)=a\/((v:Nat):Int)=b)\/Rt (adj us [] [((v:Nat):Int)]) a b
  ·have e:ppF n us a b (v::r)=ppF n us a b r:=by
    conv=>lhs; unfold ppF
    exact if_pos c
   rw [e]
   rcases pp_find r with ⟨h1,h2⟩ | ⟨u,hu,h⟩
   ·refine .inl ⟨h1,fun u hu=>?_⟩
    rcases List.mem_cons.mp hu with rfl | hu
    ·exact c
    ·exact h2 u hu
   ·exact .inr ⟨u,List.mem_cons_of_mem _ hu,h⟩
  ·refine .inr ⟨v,List.mem_cons_self,fun z=>c (.inl z),fun z=>c (.inr z),?_⟩
   unfold ppF
   exact if_neg c
theorem by_okP {n:Int}{us:List Tie}{a b:Int} (n0:0<=n) (n60:n<=50) (lu:us.length<=60) (ok:OkN n us) (a0:0<=a) (a1:a<n) (b1:b<n):ByPOk n us a b (byP n us a b):=by
 unfold byP
 have il:=inn_len n a b
 have la:(aX n a b us).length<=200:=by rw [arcsP_len]; omega
 have oka:=arcsP_ok (a:=a) (b:=b) ok
 by_cases r:Rt (adj us [] []) a b
 ·rw [if_pos (cG.mpr r)]
  obtain⟨PW,KW,hw,W,_,_⟩:=eE (gO n0 (by omega:us.length<=100) ok) a0 (by omega) (rt_putsW.mpr r)
  cases hU:aug (2 * n).toNat (aX n a b us) a b 2 [] with
  | none =>
   have e:twoP n us a b=none:=by unfold twoP; rw [hU]
   rw [e,hw]
   obtain⟨P1,K1,p1,W1,_⟩:=eE (lft_ok (n:=2 * n) (U:=[]) (by omega) la oka) a0 (by omega) (by have:=rt_split (b:=b) ok r; rwa [oN_b] at this)
   have f1:=flow_aug (flow_nil (aX n a b us) a b) W1
   have nr:¬ Rt (edg (lft (aX n a b us) (sd (aX n a b us).length [] K1))) a b:=fun r2=>by
    obtain⟨P2,K2,p2,_⟩:=eE (lft_ok (n:=2 * n) (by omega) la oka) a0 (by omega) r2
    unfold aug at hU
    rw [p1] at hU
    dsimp only at hU
    unfold aug at hU
    rw [p2] at hU
    cases hU
   have cp:=cut_part ok (by simpa using f1) nr
   rcases pp_find (n:=n.toNat) (us:=us) (a:=a) (b:=b) (List.range n.toNat) with ⟨h1,h2⟩ | ⟨v,hv,h1,h2,h3⟩
   ·have all:∀ v∈inn n a b,Rt (adj us [] [v]) a b:=fun v hv=>by
     obtain⟨⟨v0,v1⟩,va,vb⟩:=cB.mp hv
     have:=h2 v.toNat (List.mem_range.mpr (by omega))
     rw [show ((v.toNat:Nat):Int)=v by omega] at this
     exact this.elim (fun z=>(z.elim va vb).elim) id
    refine .inr (.inr (.inl ⟨r,all,?_⟩))
    rw [if_pos h1]
    rcases cp with ⟨v,hv,nv⟩ | ⟨k,hk,nk⟩
    ·exact absurd (all v hv) nv
    ·refine pt_find (wy_rng W) ⟨_,?_,nk⟩
     exact Classical.byContradiction fun z=>nk (wy_avoid W z)
   ·refine .inr (.inl ⟨r,v,cB.mpr ⟨⟨by omega,by have:=List.mem_range.mp hv; omega⟩,fun z=>h1 (.inl z),fun z=>h1 (.inr z)⟩,h2,?_⟩)
    rw [h3]
    exact if_neg (fun z=>nomatch z)
  | some U =>
   obtain⟨iU,fU⟩:=aug_some (n:=2 * n) (by omega) la oka a0 (by omega) 2 (InL.nil _) (flow_nil _ a b) hU
   obtain⟨r1,r2,p1,p2,W1,W2,_⟩:=two_waysP n0 ok a0 a1 iU (by simpa using fU)
   have e:twoP n us a b=some (jn n us.length r1,jn n us.length r2):=by
    unfold twoP
    rw [hU]
    dsimp only
    rw [p1]
    dsimp only
    rw [p2]
   rw [e]
   have pb:piN n b=b:=if_pos b1
   have w1:=wy_join ok ⟨a0,a1⟩ iU W1
   have w2:=wy_join ok ⟨a0,a1⟩ (lZ iU) W2
   rw [pb] at w1 w2
   have pl:=way_places ok iU W1 W2
   have ti:=way_ties ok ⟨a0,a1⟩ iU W1 W2
   refine .inr (.inr (.inr ⟨r,fun v hv=>?_,fun k=>?_,jn n us.length r1,jn n us.length r2,w1,w2,ti,pl,rfl⟩))
   ·obtain⟨_,va,vb⟩:=cB.mp hv
    by_cases h1:v∈gY n r1.1
    ·exact wy_avoidP w2 fun h2=>(pl v h1 h2).elim va vb
    ·exact wy_avoidP w1 h1
   ·by_cases h1:((k:Nat):Int)∈gZ us.length r1.2
    ·exact wy_avoid w2 (ti _ h1)
    ·exact wy_avoid w1 h1
 ·rw [if_neg fun z=>r (cG.mp z)]
  exact .inl ⟨r,rfl⟩
noncomputable def fWo (ds:List D) (P:D->Prop):Prop:=∃ n us F,ds=[aP n us,iD F]/\us.length<=100/\P (aP n (wo us F))
noncomputable def fPTie (ds:List D) (P:D->Prop):Prop:=∃ n us a b w,ds=[aP n us,.int a,.int b]/\1<=n/\n<=60/\us.length<=100/\OkN n us/\0<=a/\a<n/\0<=b/\b<n/\cW n.toNat (bw us) a b=some w/\P (ptF n.toNat us a b w.2)
noncomputable def fArP (ds:List D) (P:D->Prop):Prop:=∃ n us a b,ds=[aP n us,.int a,.int b]/\0<=n/\n<=50/\us.length<=60/\P (.list ((aX n a b us).map pD))
noncomputable def fJA (ds:List D) (P:D->Prop):Prop:=∃ n us l k,ds=[aP n us,iD l,iD k]/\us.length<=60/\l.length<=200/\k.length<=200/\P (dz (some (jn n us.length (l,k))))
noncomputable def fTBP (ds:List D) (P:D->Prop):Prop:=∃ n us a b,ds=[aP n us,.int a,.int b]/\0<=n/\n<=50/\us.length<=60/\OkN n us/\0<=a/\a<n/\P (twoD (twoP n us a b))
noncomputable def fByP (ds:List D) (P:D->Prop):Prop:=∃ n us a b,ds=[aP n us,.int a,.int b]/\1<=n/\n<=50/\us.length<=60/\OkN n us/\0<=a/\a<n/\0<=b/\b<n/\a≠b/\P (byP n us a b)
theorem app_of {i r:Nat}{te:DE}{P:DEnds}{ρ:List Sl}{ds:List D} (hs:ρ[i]?=some (.dw r (.list ds))) (h:te ρ fun k d=>(norm k d).le .new=true/\ds.length<1000/\P.nx ((forget r ρ).set i (.dw r (.list (ds++[d]))))):dApp i te P ρ:=by
 unfold dApp
 rw [hs]
 exact h
noncomputable def hopE:DE:=lq (cL (tIfD (dM (t2 (gIn false) (t2 gIx (tV 6) (tK (PyData.int 0))) (lq (cL (tV 1) (cL (tV 2) iZ))))) (t2 gIx (tV 6) (tK (PyData.int 0))) (t2 gPlus (t2 gIx (tV 6) (tK (PyData.int 0))) (tV 3))) (cL (t2 gIx (tV 6) (tK (PyData.int 1))) iZ))
theorem hop_go {n a b:Int}{us:List Tie} (L:List D) (t h:Tie) (R:DK) (q:R .imm (pD (oN n a b h.1,h.2))):hopE [.im (aP n us),.im (.int a),.im (.int b),.im (.int n),.dw 0 (.list L),.im (pD t),.im (pD h)] R:=by
 refine⟨.int h.1,rfl,(show 2<=1000 by decide),rfl,rfl,?_⟩
 show if ([PyData.int a,.int b].any fun e=>PyData.eqv e (.int h.1))=true then _ else _
 rw [jP]
 unfold oN at q
 by_cases c:h.1=a\/h.1=b
 ·rw [if_pos c] at q
  rw [decide_eq_true c]
  exact cD (B:=True) ⟨.int h.1,rfl,.int h.2,rfl,(show 2<=1000 by decide),q⟩
 ·rw [if_neg c] at q
  rw [decide_eq_false c]
  exact bA (A:=True) ⟨.int h.1,rfl,.int h.2,rfl,(show 2<=1000 by decide),q⟩
theorem imm_pds:∀ us:List Tie,gk (us.map pD)=true
 | []=>rfl
 | _::us=>imm_pds us
section
variable {P:Program}{w:World}{K:PySem.W.Frag}{mg:Str->Option Value}{base:Heap}{f:Addr}{fd:FuncData}
theorem jd:FnScope ["web","numbers"] ["web","numbers"] (au (top 17)):=⟨rfl,rfl,rfl,by decide +kernel,rfl,by decide +kernel,by decide +kernel⟩
theorem fY:(["number","tie","web","numbers"]:List Str).Nodup:=by decide +kernel
theorem ok_without_ties (F:Fun K "without_ties" "without_ties" (top 17) f fd) (B:Dl.Bn mg) (m_enumerate:mg "enumerate"=none):FnOk P w K mg base CX0 1 f fd ["web","numbers"] (spD fWo):=by
 refine F.ok jd (aW fun ds P h=>?len) (fun cdv A outer s H vs Q E hr h=>?_)
 case len=>(first | (obtain⟨_,rfl,_⟩:=h; rfl) | (obtain⟨_,_,rfl,_⟩:=h; rfl) | (obtain⟨_,_,_,rfl,_⟩:=h; rfl) | (obtain⟨_,_,_,_,rfl,_⟩:=h; rfl) | (obtain⟨_,_,_,_,_,rfl,_⟩:=h; rfl) | (obtain⟨_,_,_,_,_,_,rfl,_⟩:=h; rfl) | (obtain⟨_,_,_,_,_,_,_,rfl,_⟩:=h; rfl) | (obtain⟨rfl,_⟩:=h; rfl))
 have nd:=jd.nd
 refine⟨_,Wr.WDSs.h (Wr.aD (Wr.aK (Wr.aQ (Wr.aj (Wr.aB (Wr.dv 0) Wr.aq) (Wr.aj (Wr.jZ B.tuple (Wr.aj (Wr.fX ["number","tie"] rfl (Wr.di_enum m_enumerate (Wr.aj (Wr.aB (Wr.dv 0) Wr.aq) Wr.ak)) (fun c=>(Wr.fP (n:=2) rfl (Wr.bx (Wr.aG (i:=0) fY rfl (by first | exact Or.inl rfl | exact Or.inr rfl)) (Wr.bx (Wr.aG (i:=1) fY rfl (by first | exact Or.inl rfl | exact Or.inr rfl)) Wr.dF)))) (fun c=>(Wr.cT (Wr.bF hr.units (Wr.dv 0) (Wr.dv 3)))) (fun c=>(Wr.dv 1))) Wr.ak)) Wr.ak))))),bC h ?_⟩
 rintro ds P ⟨n,us,F,rfl,lu,q⟩
 refine⟨[.im (aP n us),.sh (iD F)],by show [dI (aP n us),.sh (iD F)]=_; rw [bD],?_⟩
 refine⟨.int n,rfl,.tuple (us.map pD),rfl,?_⟩
 refine jh us.zipIdx (fun p=>PyData.tuple [.int ((p.2:Nat):Int),pD p.1]) (fun p=>decide (((p.2:Nat):Int)∉F)) (fun p=>pD p.1) .imm (enum_zip us) (by rw [List.length_zipIdx]; omega) ?_ ?_
 ·rintro ⟨t,k⟩ hk A B h1 h2
  refine⟨rfl,rfl,bI F,?_⟩
  show if (!((F.map PyData.int).any fun e=>PyData.eqv e (.int ((k:Nat):Int))))=true then _ else _
  rw [Dl.any_ints]
  by_cases hF:((k:Nat):Int)∈F
  ·rw [decide_eq_true hF]
   exact bA (A:=True) (h2 (decide_eq_false fun z=>z hF))
  ·rw [decide_eq_false hF]
   exact cD (B:=True) ⟨rfl,h1 (decide_eq_true hF)⟩
 ·have e:((us.zipIdx.filter fun p=>decide (((p.2:Nat):Int)∉F)).map fun p=>pD p.1)=(wo us F).map pD:=by
   unfold wo
   rw [List.map_map]
   rfl
  show _/\_/\P (.tuple [.int n,.tuple ((us.zipIdx.filter fun p=>decide (((p.2:Nat):Int)∉F)).map fun p=>pD p.1)])
  rw [e]
  refine⟨(show 2<=1000 by decide),?_,q⟩
  show (norm _ (aP n (wo us F))).le .n0=true
  rw [dD (imm_web _ _)]
  rfl
theorem jm:FnScope ["web","a","b","number","side"] ["web","a","b"] (au (top 25)):=⟨rfl,rfl,rfl,by decide +kernel,rfl,by decide +kernel,by decide +kernel⟩
theorem ok_parting_tie (F:Fun K "parting_tie" "parting_tie" (top 25) f fd) (B:Dl.Bn mg) (C_way:Dl.Cal P w K mg base 5 "way" ["web","a","b"] (spD fWay)) (C_part_of:Dl.Cal P w K mg base 2 "part_of" ["web","place"] (spD fPart)) (C_without_ties:Dl.Cal P w K mg base 1 "without_ties" ["web","numbers"] (spD fWo)):FnOk P w K mg base CX0 6 f fd ["web","a","b"] (spD fPTie):=by
 refine F.ok jm (aW fun ds P h=>?len) (fun cdv A outer s H vs Q E hr h=>?_)
 case len=>(first | (obtain⟨_,rfl,_⟩:=h; rfl) | (obtain⟨_,_,rfl,_⟩:=h; rfl) | (obtain⟨_,_,_,rfl,_⟩:=h; rfl) | (obtain⟨_,_,_,_,rfl,_⟩:=h; rfl) | (obtain⟨_,_,_,_,_,rfl,_⟩:=h; rfl) | (obtain⟨_,_,_,_,_,_,rfl,_⟩:=h; rfl) | (obtain⟨_,_,_,_,_,_,_,rfl,_⟩:=h; rfl) | (obtain⟨rfl,_⟩:=h; rfl))
 have nd:=jm.nd
 refine⟨_,Wr.WDSs.h (Wr.ao (Wr.bT PassesOwn.never rfl (Wr.cg (Wr.aB (Wr.dc C_way hr (Wr.aj (Wr.dv 0) (Wr.aj (Wr.dv 1) (Wr.aj (Wr.dv 2) Wr.ak)))) Wr.aq)) (Wr.aG (i:=3) nd rfl (by first | exact Or.inl rfl | exact Or.inr rfl)) (Wr.ao (Wr.aN none (i:=4) nd rfl (by first | exact Or.inl rfl | exact Or.inr rfl) (Wr.dc C_part_of hr (Wr.aj (Wr.dc C_without_ties hr (Wr.aj (Wr.dv 0) (Wr.aj (Wr.aU (Wr.aj (Wr.dv 3) Wr.ak)) Wr.ak))) (Wr.aj (Wr.dv 1) Wr.ak))))
  (Wr.ao (Wr.bJ (Wr.bF hr.units (Wr.dv 2) (Wr.dv 4)) (Wr.aD (Wr.aK (Wr.aQ (Wr.aj Wr.gA (Wr.aj (Wr.dv 3) (Wr.aj (Wr.dv 4) Wr.ak)))))) Wr.aJ) (Wr.aC [3,4] Wr.aJ))))
  (Wr.aC [3,4] (Wr.aD (Wr.aK Wr.d9)))),bC h ?_⟩
 rintro ds P ⟨n,us,a,b,w,rfl,n0,n60,lu,ok,a0,a1,b0,b1,hw,q⟩
 refine⟨[.im (aP n us),.im (.int a),.im (.int b),.any,.any],by show [dI (aP n us),.im (.int a),.im (.int b),.any,.any]=_; rw [bD],?_⟩
 generalize hG:ptF n.toNat us a b w.2=G at q
 refine⟨n,us,a,b,rfl,by omega,n60,lu,ok,a0,a1,b0,b1,?_⟩
 rw [hw]
 refine⟨iD w.2,rfl,rfl,fun (i:Nat) ρ=>ρ=[.im (aP n us),.im (.int a),.im (.int b),.any,.any]/\ptF n.toNat us a b (w.2.drop i)=G,⟨rfl,hG⟩,?_,?_⟩
 ·rintro i d ρ hd ⟨rfl,e⟩
  obtain⟨k,hk,rfl⟩:=gb hd
  have dr:w.2.drop i=k::w.2.drop (i+1):=by
   have hi:=(List.getElem?_eq_some_iff.mp hk).1
   rw [List.drop_eq_getElem_cons hi,(List.getElem?_eq_some_iff.mp hk).2]
  rw [dr] at e
  unfold ptF at e
  have lw:=wo_len us [k]
  have er:rsI (adj (wo us [k]) [] []) n.toNat a=rsI (adj us [k] []) n.toNat a:=rs_cong fun x=>rt_wo
  refine⟨(show 1<=1000 by decide),n,us,[k],rfl,lu,n,wo us [k],a,rfl,by omega,n60,by omega,wo_ok ok,a0,a1,?_⟩
  rw [er]
  refine⟨rfl,bI _,?_⟩
  show if (!(((rsI (adj us [k] []) n.toNat a).map PyData.int).any fun e=>PyData.eqv e (.int b)))=true then _ else _
  rw [Dl.any_ints]
  have mb:b∈rsI (adj us [k] []) n.toNat a↔Rt (adj us [k] []) a b:=by
   rw [dH]
   exact⟨fun z=>z.2,fun z=>⟨⟨b0,by omega⟩,z⟩⟩
  by_cases r:Rt (adj us [k] []) a b
  ·rw [decide_eq_true (mb.mpr r)]
   rw [if_pos (cG.mpr r)] at e
   exact bA (A:=True) ⟨rfl,e⟩
  ·rw [decide_eq_false fun z=>r (mb.mp z)]
   rw [if_neg fun z=>r (cG.mp z)] at e
   rw [← e] at q
   exact cD (B:=True) ⟨(show 3<=1000 by decide),rfl,q⟩
 ·rintro ρ ⟨rfl,e⟩
  rw [List.length_map,List.drop_length] at e
  have e:PyData.none=G:=e
  rw [← e] at q
  exact⟨rfl,q⟩
theorem fV:FnScope ["web","a","b","n","arcs","tie","hop"] ["web","a","b"] (au (top 27)):=⟨rfl,rfl,rfl,by decide +kernel,rfl,by decide +kernel,by decide +kernel⟩
theorem kJ:(["v","web","a","b","n","arcs","tie","hop"]:List Str).Nodup:=by decide +kernel
theorem mK (F:Fun K "arcs_of_places" "arcs_of_places" (top 27) f fd) (B:Dl.Bn mg):FnOk P w K mg base CX0 1 f fd ["web","a","b"] (spD fArP):=by
 refine F.ok fV (aW fun ds P h=>?len) (fun cdv A outer s H vs Q E hr h=>?_)
 case len=>(first | (obtain⟨_,rfl,_⟩:=h; rfl) | (obtain⟨_,_,rfl,_⟩:=h; rfl) | (obtain⟨_,_,_,rfl,_⟩:=h; rfl) | (obtain⟨_,_,_,_,rfl,_⟩:=h; rfl) | (obtain⟨_,_,_,_,_,rfl,_⟩:=h; rfl) | (obtain⟨_,_,_,_,_,_,rfl,_⟩:=h; rfl) | (obtain⟨_,_,_,_,_,_,_,rfl,_⟩:=h; rfl) | (obtain⟨rfl,_⟩:=h; rfl))
 have nd:=fV.nd
 refine⟨_,Wr.WDSs.h (Wr.ao (Wr.aN none (i:=3) nd rfl (by first | exact Or.inl rfl | exact Or.inr rfl) (Wr.aB (Wr.dv 0) Wr.aq))
  (Wr.ao (Wr.aN (some 0) (i:=4) nd rfl (by first | exact Or.inl rfl | exact Or.inr rfl) (Wr.aU Wr.ak))
  (Wr.ao (Wr.bT PassesOwn.never rfl (Wr.cg (Wr.aB (Wr.dv 0) Wr.aq)) (Wr.aG (i:=5) nd rfl (by first | exact Or.inl rfl | exact Or.inr rfl)) (Wr.ao (Wr.bT PassesOwn.never rfl (Wr.cg (Wr.aQ (Wr.aj (Wr.dv 5) (Wr.aj (Wr.aQ (Wr.aj (Wr.aB (Wr.dv 5) Wr.aq) (Wr.aj (Wr.aB (Wr.dv 5) Wr.aq) Wr.ak))) Wr.ak)))) (Wr.aG (i:=6) nd rfl (by first | exact Or.inl rfl | exact Or.inr rfl)) (Wr.ao (Wr.cY (Wr.wv 4) (Wr.aj (Wr.aQ (Wr.aj (Wr.mG (Wr.jw hr.units (Wr.aB (Wr.dv 6) Wr.aq) (Wr.aQ (Wr.aj (Wr.dv 1) (Wr.aj (Wr.dv 2) Wr.ak)))) (Wr.aB (Wr.dv 6) Wr.aq) (Wr.cA (Wr.aB (Wr.dv 6) Wr.aq) (Wr.dv 3))) (Wr.aj (Wr.aB (Wr.dv 6) Wr.aq) Wr.ak))) Wr.ak)) (Wr.aC [6] Wr.aJ))) (Wr.aC [5,6] Wr.aJ)))
  (Wr.aC [5,6] (Wr.aD (Wr.aK (Wr.cA (Wr.dv 4) (Wr.fX ["v"] rfl (Wr.bG B.range (Wr.aj (Wr.dv 3) Wr.ak)) (fun c=>(Wr.aG (i:=0) kJ rfl (by first | exact Or.inl rfl | exact Or.inr rfl))) (fun c=>(Wr.cT (Wr.bF hr.units (Wr.dv 0) (Wr.aQ (Wr.aj (Wr.dv 2) (Wr.aj (Wr.dv 3) Wr.ak)))))) (fun c=>(Wr.aQ (Wr.aj (Wr.dv 0) (Wr.aj (Wr.cA (Wr.dv 0) (Wr.dv 4)) Wr.ak)))))))))))),bC h ?_⟩
 rintro ds P ⟨n,us,a,b,rfl,n0,n1,lu,q⟩
 refine⟨[.im (aP n us),.im (.int a),.im (.int b),.any,.any,.any,.any],by show [dI (aP n us),.im (.int a),.im (.int b),.any,.any,.any,.any]=_; rw [bD],?_⟩
 refine⟨.int n,rfl,(show 0<=1000 by decide),.tuple (us.map pD),rfl,rfl,fun (i:Nat) ρ=>ρ=[.im (aP n us),.im (.int a),.im (.int b),.im (.int n),.dw 0 (.list ((cJ n a b (us.take i)).map pD)),.any,.any],rfl,?_,?_⟩
 ·rintro i d ρ hd rfl
  obtain⟨t,ht,rfl⟩:=gb hd
  have hi:=(List.getElem?_eq_some_iff.mp ht).1
  have tk:us.take (i+1)=us.take i++[t]:=by rw [List.take_add_one,ht]; rfl
  have l:=eU n a b (us.take i)
  rw [List.length_take] at l
  have ea:(cJ n a b (us.take (i+1))).map pD=(cJ n a b (us.take i)).map pD++[pD (oN n a b t.1,t.2)]++[pD (oN n a b t.2,t.1)]:=by
   unfold cJ
   rw [tk,List.flatMap_append,List.map_append,List.append_assoc]
   rfl
  refine⟨.int t.2,rfl,.int t.1,rfl,(show 2<=1000 by decide),(show 2<=1000 by decide),rfl,fun (j:Nat) ρ=>ρ=[.im (aP n us),.im (.int a),.im (.int b),.im (.int n),.dw 0 (.list ((cJ n a b (us.take i)).map pD++([(oN n a b t.1,t.2),(oN n a b t.2,t.1)].take j).map pD)),.im (pD t),.any],?_,?_,?_⟩
  ·show [_,_,_,_,Sl.dw 0 (.list ((cJ n a b (us.take i)).map pD)),_,_]=[_,_,_,_,Sl.dw 0 (.list ((cJ n a b (us.take i)).map pD++[])),_,_]
   rw [List.append_nil]
   rfl
  ·rintro j d ρ hd rfl
   have l2:((cJ n a b (us.take i)).map pD).length=(cJ n a b (us.take i)).length:=List.length_map ..
   match j,hd with
   | 0,hd =>
    have hd:pD t=d:=Option.some.inj hd
    subst hd
    show Dl.dSeq (dApp 4 hopE) (dDrops [6] dNext) _ [.im (aP n us),.im (.int a),.im (.int b),.im (.int n),.dw 0 (.list ((cJ n a b (us.take i)).map pD++[])),.im (pD t),.im (pD t)]
    refine app_of rfl (hop_go _ t t _ ?_)
    refine⟨rfl,?_,?_⟩
    ·show ((cJ n a b (us.take i)).map pD++[]).length<1000
     rw [List.append_nil]
     omega
    ·show [_,_,_,_,Sl.dw 0 (.list ((cJ n a b (us.take i)).map pD++[]++[pD (oN n a b t.1,t.2)])),_,_]=[_,_,_,_,Sl.dw 0 (.list ((cJ n a b (us.take i)).map pD++[pD (oN n a b t.1,t.2)])),_,_]
     rw [List.append_nil]
     rfl
   | 1,hd =>
    have hd:pD (t.2,t.1)=d:=Option.some.inj hd
    subst hd
    show Dl.dSeq (dApp 4 hopE) (dDrops [6] dNext) _ [.im (aP n us),.im (.int a),.im (.int b),.im (.int n),.dw 0 (.list ((cJ n a b (us.take i)).map pD++[pD (oN n a b t.1,t.2)])),.im (pD t),.im (pD (t.2,t.1))]
    refine app_of rfl (hop_go _ t (t.2,t.1) _ ?_)
    refine⟨rfl,?_,?_⟩
    ·show ((cJ n a b (us.take i)).map pD++[pD (oN n a b t.1,t.2)]).length<1000
     rw [List.length_append,List.length_singleton]
     omega
    ·show [_,_,_,_,Sl.dw 0 (.list ((cJ n a b (us.take i)).map pD++[pD (oN n a b t.1,t.2)]++[pD (oN n a b t.2,t.1)])),_,_]=[_,_,_,_,Sl.dw 0 (.list ((cJ n a b (us.take i)).map pD++[pD (oN n a b t.1,t.2),pD (oN n a b t.2,t.1)])),_,_]
     rw [List.append_assoc]
     rfl
   | j+2,hd=>cases hd
  ·rintro ρ rfl
   show [_,_,_,_,Sl.dw 0 (.list ((cJ n a b (us.take i)).map pD++[pD (oN n a b t.1,t.2),pD (oN n a b t.2,t.1)])),_,_]=[_,_,_,_,Sl.dw 0 (.list ((cJ n a b (us.take (i+1))).map pD)),_,_]
   rw [ea,List.append_assoc]
   rfl
 ·rintro ρ rfl
  rw [List.length_map,List.take_length]
  have l:=eU n a b us
  have l2:((cJ n a b us).map pD).length=(cJ n a b us).length:=List.length_map ..
  refine⟨⟨by omega,by omega⟩,jh (List.range n.toNat) (fun v=>PyData.int (0+((v:Nat):Int))) (fun v=>!decide (0+((v:Nat):Int)=a\/0+((v:Nat):Int)=b)) (fun v=>pD (0+((v:Nat):Int),0+((v:Nat):Int)+n)) .imm rfl (by rw [List.length_range]; omega) (fun v hv A B hA hB=>?_) ?_⟩
  ·refine⟨(show 2<=1000 by decide),rfl,rfl,?_⟩
   show if (!([PyData.int a,.int b].any fun e=>PyData.eqv e (.int (0+((v:Nat):Int)))))=true then _ else _
   rw [jP]
   exact gB (fun c=>⟨(show 2<=1000 by decide),rfl,hA c⟩) (fun c=>hB (Bool.eq_false_iff.mpr c))
  have e:((List.range n.toNat).filter fun v=>!decide (0+((v:Nat):Int)=a\/0+((v:Nat):Int)=b)).map (fun v=>pD (0+((v:Nat):Int),0+((v:Nat):Int)+n))=((inn n a b).map fun v=>(v,v+n)).map pD:=by
   unfold inn zI
   rw [List.filter_map,List.map_map,List.map_map]
   rfl
  rw [e]
  have il:=inn_len n a b
  refine⟨?_,?_⟩
  ·show ((cJ n a b us).map pD).length+(((inn n a b).map fun v=>(v,v+n)).map pD).length<=1000
   have e5:(((inn n a b).map fun v=>(v,v+n)).map pD).length=(inn n a b).length:=by rw [List.length_map,List.length_map]
   omega
  ·rw [← List.map_append]
   exact .inl ⟨imm_pds _,rfl,q⟩
theorem jg:FnScope ["web","nodes","indexes","places"] ["web","nodes","indexes"] (au (top 28)):=⟨rfl,rfl,rfl,by decide +kernel,rfl,by decide +kernel,by decide +kernel⟩
theorem nd_joined_again_0:(["node","web","nodes","indexes","places"]:List Str).Nodup:=by decide +kernel
theorem nd_joined_again_1:(["index","web","nodes","indexes","places"]:List Str).Nodup:=by decide +kernel
theorem ok_joined_again (F:Fun K "joined_again" "joined_again" (top 28) f fd) (B:Dl.Bn mg):FnOk P w K mg base CX0 1 f fd ["web","nodes","indexes"] (spD fJA):=by
 refine F.ok jg (aW fun ds P h=>?len) (fun cdv A outer s H vs Q E hr h=>?_)
 case len=>(first | (obtain⟨_,rfl,_⟩:=h; rfl) | (obtain⟨_,_,rfl,_⟩:=h; rfl) | (obtain⟨_,_,_,rfl,_⟩:=h; rfl) | (obtain⟨_,_,_,_,rfl,_⟩:=h; rfl) | (obtain⟨_,_,_,_,_,rfl,_⟩:=h; rfl) | (obtain⟨_,_,_,_,_,_,rfl,_⟩:=h; rfl) | (obtain⟨_,_,_,_,_,_,_,rfl,_⟩:=h; rfl) | (obtain⟨rfl,_⟩:=h; rfl))
 have nd:=jg.nd
 refine⟨_,Wr.WDSs.h (Wr.ao (Wr.ds_setlc none ["node"] (i:=3) rfl nd rfl (by first | exact Or.inl rfl | exact Or.inr rfl) (Wr.cg (Wr.dv 1)) (fun c=>(Wr.aG (i:=0) nd_joined_again_0 rfl (by first | exact Or.inl rfl | exact Or.inr rfl))) (fun c=>(Wr.cT (Wr.pdt_lt (Wr.dv 0) (Wr.aB (Wr.dv 1) Wr.aq)))) (fun c=>(Wr.dv 0)))
  (Wr.aD (Wr.aK (Wr.aQ (Wr.aj (Wr.dv 3) (Wr.aj (Wr.fX ["index"] rfl (Wr.cg (Wr.dv 2)) (fun c=>(Wr.aG (i:=0) nd_joined_again_1 rfl (by first | exact Or.inl rfl | exact Or.inr rfl))) (fun c=>(Wr.cT (Wr.pdt_lt (Wr.dv 0) (Wr.gP Wr.aq (Wr.dh B.len (Wr.aj (Wr.aB (Wr.dv 1) Wr.aq) Wr.ak)))))) (fun c=>(Wr.pd_fdiv (Wr.dv 0) Wr.aq))) Wr.ak)))))),bC h ?_⟩
 rintro ds P ⟨n,us,l,k,rfl,lu,ll,lk,q⟩
 refine⟨[.im (aP n us),.sh (iD l),.sh (iD k),.any],by show [dI (aP n us),.sh (iD l),.sh (iD k),.any]=_; rw [bD],?_⟩
 have lu2:(us.map pD).length=us.length:=List.length_map ..
 refine jh l PyData.int (fun x=>decide (x<n)) PyData.int .imm rfl (by omega) (fun x hx A B hA hB=>⟨.int n,rfl,gB (fun c=>⟨rfl,hA c⟩) (fun c=>hB (Bool.eq_false_iff.mpr c))⟩) ?_
 refine jh k PyData.int (fun i=>decide (i<2 * ((us.length:Nat):Int))) (fun i=>PyData.int (i / 2)) .imm rfl (by omega) (fun i hi A B hA hB=>?_) ?_
 ·refine⟨.tuple (us.map pD),rfl,.inl ⟨by decide,by decide⟩,?_⟩
  show if decide (i<2 * (((us.map pD).length:Nat):Int))=true then _ else _
  rw [lu2]
  exact gB (fun c=>⟨⟨by decide,by decide⟩,rfl,hA c⟩) (fun c=>hB (Bool.eq_false_iff.mpr c))
 have e:(k.filter fun i=>decide (i<2 * ((us.length:Nat):Int))).map (fun i=>PyData.int (i / 2))=(gZ us.length k).map PyData.int:=by
  unfold gZ
  rw [List.map_map]
  rfl
 rw [e]
 exact⟨(show 2<=1000 by decide),rfl,q⟩
theorem gG:FnScope ["web","a","b","arcs","used"] ["web","a","b"] (au (top 29)):=⟨rfl,rfl,rfl,by decide +kernel,rfl,by decide +kernel,by decide +kernel⟩
theorem fO:(["nodes","indexes","web","a","b","arcs","used"]:List Str).Nodup:=by decide +kernel
theorem ok_two_by_places (F:Fun K "two_by_places" "two_by_places" (top 29) f fd) (B:Dl.Bn mg) (C_arcs_of_places:Dl.Cal P w K mg base 1 "arcs_of_places" ["web","a","b"] (spD fArP)) (C_arcs_of_two:Dl.Cal P w K mg base 2 "arcs_of_two" ["count","arcs","start","goal"] (spD fTwo)) (C_two_along:Dl.Cal P w K mg base 2 "two_along" ["count","arcs","used","start","goal"] (spD fAl2)) (C_joined_again:Dl.Cal P w K mg base 1 "joined_again" ["web","nodes","indexes"] (spD fJA)):FnOk P w K mg base CX0 3 f fd ["web","a","b"] (spD fTBP):=by
 refine F.ok gG (aW fun ds P h=>?len) (fun cdv A outer s H vs Q E hr h=>?_)
 case len=>(first | (obtain⟨_,rfl,_⟩:=h; rfl) | (obtain⟨_,_,rfl,_⟩:=h; rfl) | (obtain⟨_,_,_,rfl,_⟩:=h; rfl) | (obtain⟨_,_,_,_,rfl,_⟩:=h; rfl) | (obtain⟨_,_,_,_,_,rfl,_⟩:=h; rfl) | (obtain⟨_,_,_,_,_,_,rfl,_⟩:=h; rfl) | (obtain⟨_,_,_,_,_,_,_,rfl,_⟩:=h; rfl) | (obtain⟨rfl,_⟩:=h; rfl))
 have nd:=gG.nd
 refine⟨_,Wr.WDSs.h (Wr.ao (Wr.aN none (i:=3) nd rfl (by first | exact Or.inl rfl | exact Or.inr rfl) (Wr.dc C_arcs_of_places hr (Wr.aj (Wr.dv 0) (Wr.aj (Wr.dv 1) (Wr.aj (Wr.dv 2) Wr.ak)))))
  (Wr.ao (Wr.aN none (i:=4) nd rfl (by first | exact Or.inl rfl | exact Or.inr rfl) (Wr.dc C_arcs_of_two hr (Wr.aj (Wr.gP Wr.aq (Wr.aB (Wr.dv 0) Wr.aq)) (Wr.aj (Wr.dv 3) (Wr.aj (Wr.dv 1) (Wr.aj (Wr.dv 2) Wr.ak))))))
  (Wr.ao (Wr.bJ (Wr.mz (Wr.dv 4) Wr.d9) (Wr.aD (Wr.aK Wr.d9)) Wr.aJ)
  (Wr.aD (Wr.aK (Wr.fX ["nodes","indexes"] rfl (Wr.cg (Wr.dc C_two_along hr (Wr.aj (Wr.gP Wr.aq (Wr.aB (Wr.dv 0) Wr.aq)) (Wr.aj (Wr.dv 3) (Wr.aj (Wr.dv 4) (Wr.aj (Wr.dv 1) (Wr.aj (Wr.dv 2) Wr.ak))))))) (fun c=>(Wr.fP (n:=2) rfl (Wr.bx (Wr.aG (i:=0) fO rfl (by first | exact Or.inl rfl | exact Or.inr rfl)) (Wr.bx (Wr.aG (i:=1) fO rfl (by first | exact Or.inl rfl | exact Or.inr rfl)) Wr.dF)))) (fun c=>Wr.j8) (fun c=>(Wr.dc C_joined_again hr (Wr.aj (Wr.dv 2) (Wr.aj (Wr.dv 0) (Wr.aj (Wr.dv 1) Wr.ak))))))))))),bC h ?_⟩
 rintro ds P ⟨n,us,a,b,rfl,n0,n60,lu,ok,a0,a1,q⟩
 refine⟨[.im (aP n us),.im (.int a),.im (.int b),.any,.any],by show [dI (aP n us),.im (.int a),.im (.int b),.any,.any]=_; rw [bD],?_⟩
 have il:=inn_len n a b
 have la:(aX n a b us).length<=200:=by rw [arcsP_len]; omega
 have oka:=arcsP_ok (a:=a) (b:=b) ok
 refine⟨n,us,a,b,rfl,n0,n60,lu,.int n,rfl,.inl ⟨by decide,by decide⟩,2 * n,aX n a b us,a,b,rfl,by omega,by omega,la,oka,a0,by omega,?_⟩
 cases hU:aug (2 * n).toNat (aX n a b us) a b 2 [] with
 | none =>
  have e:twoP n us a b=none:=by unfold twoP; rw [hU]
  rw [e] at q
  exact cD (B:=True) ⟨rfl,q⟩
 | some U =>
  obtain⟨iU,fU⟩:=aug_some (n:=2 * n) (by omega) la oka a0 (by omega) 2 (InL.nil _) (flow_nil _ a b) hU
  obtain⟨r1,r2,p1,p2,W1,W2,⟨m1,l1⟩,m2,l2⟩:=two_waysP n0 ok a0 a1 iU (by simpa using fU)
  have e:twoP n us a b=some (jn n us.length r1,jn n us.length r2):=by
   unfold twoP
   rw [hU]
   dsimp only
   rw [p1]
   dsimp only
   rw [p2]
  rw [e] at q
  refine bA (A:=True) ⟨.int n,rfl,.inl ⟨by decide,by decide⟩,2 * n,aX n a b us,U,a,b,r1,r2,rfl,by omega,by omega,la,oka,iU,a0,by omega,p1,p2,?_⟩
  refine lc_m [r1,r2] (fun r=>dz (some r)) (fun r=>dz (some (jn n us.length r))) .new rfl (by show 2<=1000; decide) (fun r hr A B h=>cD (B:=True) ?_) ?_
  ·have lr:r.1.length<=200/\r.2.length<=200:=by
    simp only [List.mem_cons,List.not_mem_nil,or_false] at hr
    rcases hr with rfl | rfl <;> omega
   exact⟨rfl,n,us,r.1,r.2,rfl,lu,lr.1,lr.2,rfl,h⟩
  exact⟨rfl,q⟩
theorem lV:FnScope ["web","a","b","side","found","shown"] ["web","a","b"] (au (top 32)):=⟨rfl,rfl,rfl,by decide +kernel,rfl,by decide +kernel,by decide +kernel⟩
theorem ok_by_places (F:Fun K "by_places" "by_places" (top 32) f fd) (B:Dl.Bn mg) (C_check_two_places:Dl.Cal P w K mg base 5 "check_two_places" ["web","a","b"] (spD fCk2)) (C_part_of:Dl.Cal P w K mg base 2 "part_of" ["web","place"] (spD fPart)) (C_two_by_places:Dl.Cal P w K mg base 3 "two_by_places" ["web","a","b"] (spD fTBP)) (C_parting_place:Dl.Cal P w K mg base 7 "parting_place" ["web","a","b"] (spD fPPl)) (C_parting_tie:Dl.Cal P w K mg base 6 "parting_tie" ["web","a","b"] (spD fPTie)):FnOk P w K mg base CX0 8 f fd ["web","a","b"] (spD fByP):=by
 refine F.ok lV (aW fun ds P h=>?len) (fun cdv A outer s H vs Q E hr h=>?_)
 case len=>(first | (obtain⟨_,rfl,_⟩:=h; rfl) | (obtain⟨_,_,rfl,_⟩:=h; rfl) | (obtain⟨_,_,_,rfl,_⟩:=h; rfl) | (obtain⟨_,_,_,_,rfl,_⟩:=h; rfl) | (obtain⟨_,_,_,_,_,rfl,_⟩:=h; rfl) | (obtain⟨_,_,_,_,_,_,rfl,_⟩:=h; rfl) | (obtain⟨_,_,_,_,_,_,_,rfl,_⟩:=h; rfl) | (obtain⟨rfl,_⟩:=h; rfl))
 have nd:=lV.nd
 refine⟨_,Wr.WDSs.h (Wr.ao (Wr.gn (Wr.dc C_check_two_places hr (Wr.aj (Wr.dv 0) (Wr.aj (Wr.dv 1) (Wr.aj (Wr.dv 2) Wr.ak)))))
  (Wr.ao (Wr.aN none (i:=3) nd rfl (by first | exact Or.inl rfl | exact Or.inr rfl) (Wr.dc C_part_of hr (Wr.aj (Wr.dv 0) (Wr.aj (Wr.dv 1) Wr.ak))))
  (Wr.ao (Wr.bJ (Wr.bF hr.units (Wr.dv 2) (Wr.dv 3)) (Wr.aD (Wr.aK (Wr.aQ (Wr.aj Wr.gA (Wr.aj (Wr.dv 3) Wr.ak))))) Wr.aJ)
  (Wr.ao (Wr.aN none (i:=4) nd rfl (by first | exact Or.inl rfl | exact Or.inr rfl) (Wr.dc C_two_by_places hr (Wr.aj (Wr.dv 0) (Wr.aj (Wr.dv 1) (Wr.aj (Wr.dv 2) Wr.ak)))))
  (Wr.ao (Wr.bJ (Wr.iH (Wr.dv 4) Wr.d9) (Wr.aD (Wr.aK (Wr.aQ (Wr.aj Wr.gA (Wr.aj (Wr.aB (Wr.dv 4) Wr.aq) (Wr.aj (Wr.aB (Wr.dv 4) Wr.aq) Wr.ak)))))) Wr.aJ)
  (Wr.ao (Wr.aN none (i:=5) nd rfl (by first | exact Or.inl rfl | exact Or.inr rfl) (Wr.dc C_parting_place hr (Wr.aj (Wr.dv 0) (Wr.aj (Wr.dv 1) (Wr.aj (Wr.dv 2) Wr.ak)))))
  (Wr.aD (Wr.aK (Wr.mG (Wr.mz (Wr.dv 5) Wr.d9) (Wr.dc C_parting_tie hr (Wr.aj (Wr.dv 0) (Wr.aj (Wr.dv 1) (Wr.aj (Wr.dv 2) Wr.ak)))) (Wr.dv 5)))))))))),bC h ?_⟩
 rintro ds P ⟨n,us,a,b,rfl,n0,n60,lu,ok,a0,a1,b0,b1,ne,q⟩
 refine⟨[.im (aP n us),.im (.int a),.im (.int b),.any,.any,.any],by show [dI (aP n us),.im (.int a),.im (.int b),.any,.any,.any]=_; rw [bD],?_⟩
 refine⟨n,us,a,b,rfl,a0,a1,b0,b1,ne,n,us,a,rfl,by omega,by omega,by omega,ok,a0,a1,rfl,bI _,?_⟩
 show if (!(((rsI (adj us [] []) n.toNat a).map PyData.int).any fun e=>PyData.eqv e (.int b)))=true then _ else _
 rw [Dl.any_ints]
 have mb:b∈rsI (adj us [] []) n.toNat a↔Rt (adj us [] []) a b:=by
  rw [dH]
  exact⟨fun z=>z.2,fun z=>⟨⟨b0,by omega⟩,z⟩⟩
 unfold byP at q
 by_cases r:Rt (adj us [] []) a b
 ·rw [decide_eq_true (mb.mpr r)]
  rw [if_pos (cG.mpr r)] at q
  obtain⟨PW,KW,hw,W,_,_⟩:=eE (gO (by omega) (by omega:us.length<=100) ok) a0 (by omega) (rt_putsW.mpr r)
  refine bA (A:=True) ⟨n,us,a,b,rfl,by omega,n60,lu,ok,a0,a1,?_⟩
  cases hR:twoP n us a b with
  | none =>
   rw [hR,hw] at q
   refine bA (A:=True) ⟨n,us,a,b,rfl,n0,by omega,by omega,ok,a0,a1,b0,b1,?_⟩
   rcases pp_find (n:=n.toNat) (us:=us) (a:=a) (b:=b) (List.range n.toNat) with ⟨h1,_⟩ | ⟨v,_,_,_,h3⟩
   ·rw [h1] at q ⊢
    rw [if_pos rfl] at q
    exact cD (B:=True) ⟨n,us,a,b,(PW,KW),rfl,n0,by omega,by omega,ok,a0,a1,b0,b1,hw,pt_kind KW,q⟩
   ·rw [h3] at q ⊢
    rw [if_neg (fun z=>nomatch z)] at q
    exact bA (A:=True) ⟨rfl,q⟩
  | some R =>
   rw [hR] at q
   exact cD (B:=True) ⟨_,rfl,_,rfl,(show 3<=1000 by decide),rfl,q⟩
 ·rw [decide_eq_false fun z=>r (mb.mp z)]
  rw [if_neg fun z=>r (cG.mp z)] at q
  exact cD (B:=True) ⟨(show 2<=1000 by decide),rfl,q⟩
end
noncomputable def fNum (ds:List D) (P:D->Prop):Prop:=∃ l:List Int,ds=[iD l]/\l.length<=100/\P (.bool true)
noncomputable def fLeads (ds:List D) (P:D->Prop):Prop:=∃ n us a b w,ds=[aP n us,.int a,.int b,dz (some w)]/\us.length<=100/\OkW n us/\Wy (bw us) a w.1 w.2 b/\w.1.length<=100/\P (.bool true)
noncomputable def fPair (ds:List D) (P:D->Prop):Prop:=∃ n:Int,ds=[.int n]/\2<=n/\n<=16/\∀ x y:Int,0<=x->x<n->0<=y->y<n->x≠y->P (.tuple [.int x,.int y])
theorem iteP {c:Bool}{A B:Prop} (h:c=true) (a:A):if c=true then A else B:=by rw [if_pos h]; exact a
theorem iteN {c:Bool}{A B:Prop} (h:c=false) (b:B):if c=true then A else B:=by rw [h,if_neg Bool.false_ne_true]; exact b
theorem wy_len {ws:List Put}{a:Int}{P K:List Int}{x:Int} (h:Wy ws a P K x):P.length=K.length+1:=by
 induction h with
 | one=>rfl
 | step _ _ _ ih=>rw [List.length_append,List.length_append,List.length_singleton,List.length_singleton,ih]
theorem wy_nd {ws:List Put}{a:Int}{P K:List Int}{x:Int} (h:Wy ws a P K x):P.Nodup:=by
 induction h with
 | one=>simp
 | step _ hx _ ih=>exact List.nodup_append.mpr ⟨ih,by simp,fun y hy z hz=>by rw [List.mem_singleton.mp hz]; rintro rfl; exact hx hy⟩
theorem wy_head {ws:List Put}{a:Int}{P K:List Int}{x:Int} (h:Wy ws a P K x):P[0]?=some a:=by
 induction h with
 | one=>rfl
 | step h _ _ ih=>rw [List.getElem?_append_left (List.getElem?_eq_some_iff.mp ih).1]; exact ih
theorem wy_last {ws:List Put}{a:Int}{P K:List Int}{x:Int} (h:Wy ws a P K x):∃ Q,P=Q++[x]:=by
 cases h with
 | one=>exact⟨[],rfl⟩
 | step _ _ _=>exact⟨_,rfl⟩
theorem wy_hop {ws:List Put}{a:Int}{P K:List Int}{x:Int} (h:Wy ws a P K x):∀ (i:Nat) (k:Int),K[i]?=some k->∃ p y,P[i]?=some p/\P[i+1]?=some y/\(p,(y,k))∈ws:=by
 induction h with
 | one=>exact fun i k e=>by cases e
 | @step P K p y k h hx j ih =>
  intro i k' e
  have l:=wy_len h
  by_cases hi:i<K.length
  ·rw [List.getElem?_append_left hi] at e
   obtain⟨p',y',h1,h2,h3⟩:=ih i k' e
   exact⟨p',y',by rw [List.getElem?_append_left (by omega)]; exact h1,by rw [List.getElem?_append_left (by omega)]; exact h2,h3⟩
  ·rw [List.getElem?_append_right (by omega)] at e
   have hi:i=K.length:=by
    have:=(List.getElem?_eq_some_iff.mp e).1
    rw [List.length_singleton] at this
    omega
   subst hi
   rw [Nat.sub_self] at e
   have e:k=k':=Option.some.inj e
   subst e
   obtain⟨Q,rfl⟩:=wy_last h
   rw [List.length_append,List.length_singleton] at l
   refine⟨p,y,?_,?_,j⟩
   ·rw [List.getElem?_append_left (by rw [List.length_append,List.length_singleton]; omega),List.getElem?_append_right (by omega),show K.length - Q.length=0 by omega]
    rfl
   ·rw [List.getElem?_append_right (by rw [List.length_append,List.length_singleton]; omega),List.length_append,List.length_singleton,show K.length+1 - (Q.length+1)=0 by omega]
    rfl
theorem cut_two {l:List Int}{i:Nat}{p y:Int} (h1:l[i]?=some p) (h2:l[i+1]?=some y):cutL (l.map PyData.int) (some ((i:Nat):Int)) (some (((i:Nat):Int)+2))=[p,y].map PyData.int:=by
 have hi:=(List.getElem?_eq_some_iff.mp h2).1
 have lm:(l.map PyData.int).length=l.length:=List.length_map ..
 unfold cutL
 have e1:HT.sIx (l.map PyData.int).length 0 (some ((i:Nat):Int))=i:=by
  rw [HT.sIx_nat]
  omega
 have e2:HT.sIx (l.map PyData.int).length (l.map PyData.int).length (some (((i:Nat):Int)+2))=i+2:=by
  rw [show ((i:Nat):Int)+2=((i+2:Nat):Int) by omega,HT.sIx_nat]
  omega
 rw [e1,e2,show i+2 - i=2 by omega,← List.map_drop,← List.map_take]
 congr 1
 rw [List.drop_eq_getElem_cons (by omega),List.drop_eq_getElem_cons hi,(List.getElem?_eq_some_iff.mp h2).2]
 have:=(List.getElem?_eq_some_iff.mp h1).2
 rw [this]
 rfl
theorem sort_two {t:Tie}{p y:Int}{out:List Int} (ht:t.1<t.2) (e:t=(p,y)\/t=(y,p)) (hp:out.Perm [p,y]) (hs:out.Pairwise (·<=·)):out=[t.1,t.2]:=by
 have h2:([t.1,t.2]:List Int).Pairwise (·<=·):=by
  simp
  omega
 have pm:out.Perm [t.1,t.2]:=by
  rcases e with rfl | rfl
  ·exact hp
  ·exact hp.trans (List.Perm.swap _ _ _)
 exact pm.eq_of_pairwise (fun a b _ _ h1 h2=>by omega) hs h2
theorem last_at {l:List Int}{x:Int}{Q:List Int} (h:l=Q++[x]):atI (l.map PyData.int) (-1)=some (.int x):=by
 subst h
 have e:ixN ((Q++[x]).map PyData.int).length (-1)=some Q.length:=by
  unfold ixN
  rw [List.length_map,List.length_append,List.length_singleton,if_neg (by decide),if_pos (by omega)]
  congr 1
  omega
 unfold atI
 rw [e]
 show ((Q++[x]).map PyData.int)[Q.length]?=_
 rw [List.getElem?_map,List.getElem?_append_right (Nat.le_refl _),Nat.sub_self]
 rfl
section
variable {P:Program}{w:World}{K:PySem.W.Frag}{mg:Str->Option Value}{base:Heap}{f:Addr}{fd:FuncData}
theorem jo:FnScope ["_law_thing"] ["_law_thing"] (au (top 38)):=⟨rfl,rfl,rfl,by decide +kernel,rfl,by decide +kernel,by decide +kernel⟩
theorem nd_law_numbers_0:(["_law_one","_law_thing"]:List Str).Nodup:=by decide +kernel
theorem ok_law_numbers (F:Fun K "_law_numbers" "_law_numbers" (top 38) f fd) (B:Dl.Bn mg):FnOk P w K mg base CX0 1 f fd ["_law_thing"] (spD fNum):=by
 refine F.ok jo (aW fun ds P h=>?len) (fun cdv A outer s H vs Q E hr h=>?_)
 case len=>(first | (obtain⟨_,rfl,_⟩:=h; rfl) | (obtain⟨_,_,rfl,_⟩:=h; rfl) | (obtain⟨_,_,_,rfl,_⟩:=h; rfl) | (obtain⟨_,_,_,_,rfl,_⟩:=h; rfl) | (obtain⟨_,_,_,_,_,rfl,_⟩:=h; rfl) | (obtain⟨_,_,_,_,_,_,rfl,_⟩:=h; rfl) | (obtain⟨_,_,_,_,_,_,_,rfl,_⟩:=h; rfl) | (obtain⟨rfl,_⟩:=h; rfl))
 have nd:=jo.nd
 refine⟨_,Wr.WDSs.h (Wr.ao (Wr.bJ (Wr.cu (Wr.bV (Wr.cN kit_list B.isinstance (Wr.dv 0) (Wr.wty rfl B.list boot_list)))) (Wr.aD (Wr.aK Wr.d7)) Wr.aJ)
  (Wr.aD (Wr.aK (Wr.iJ hr.units (Wr.fX ["_law_one"] rfl (Wr.cg (Wr.dv 0)) (fun c=>(Wr.aG (i:=0) nd_law_numbers_0 rfl (by first | exact Or.inl rfl | exact Or.inr rfl))) (fun c=>(Wr.cT (Wr.wpt (Wr.cM (Wr.cu (Wr.bV (Wr.cN kit_int B.isinstance (Wr.dv 0) (Wr.wty rfl B.int boot_int)))) (Wr.dR (Wr.bV (Wr.cN kit_bool B.isinstance (Wr.dv 0) (Wr.wty rfl B.bool boot_bool)))))))) (fun c=>(Wr.dv 0))) (Wr.aU Wr.ak))))),bC h ?_⟩
 rintro ds P ⟨l,rfl,ll,q⟩
 refine⟨[.sh (iD l)],rfl,?_⟩
 refine bA (A:=True) (jh l PyData.int (fun _=>false) PyData.int .imm rfl (by omega) (fun x hx A B h1 h2=>bA (A:=True) (bA (A:=A (.int x)) (h2 rfl))) ?_)
 rw [show l.filter (fun _=>false)=[] by simp]
 exact⟨(show 0<=1000 by decide),rfl,rfl,rfl,q⟩
theorem lU:FnScope ["_law_web_here","_law_a","_law_b","_law_thing","_law_places","_law_row","_law_k","_law_number","_law_two"] ["_law_web_here","_law_a","_law_b","_law_thing"] (au (top 39)):=⟨rfl,rfl,rfl,by decide +kernel,rfl,by decide +kernel,by decide +kernel⟩
theorem ok_law_leads (F:Fun K "_law_leads" "_law_leads" (top 39) f fd) (B:Dl.Bn mg) (m_set:mg "set"=none) (m_enumerate:mg "enumerate"=none) (C__law_numbers:Dl.Cal P w K mg base 1 "_law_numbers" ["_law_thing"] (spD fNum)):FnOk P w K mg base CX0 2 f fd ["_law_web_here","_law_a","_law_b","_law_thing"] (spD fLeads):=by
 refine F.ok lU (aW fun ds P h=>?len) (fun cdv A outer s H vs Q E hr h=>?_)
 case len=>(first | (obtain⟨_,rfl,_⟩:=h; rfl) | (obtain⟨_,_,rfl,_⟩:=h; rfl) | (obtain⟨_,_,_,rfl,_⟩:=h; rfl) | (obtain⟨_,_,_,_,rfl,_⟩:=h; rfl) | (obtain⟨_,_,_,_,_,rfl,_⟩:=h; rfl) | (obtain⟨_,_,_,_,_,_,rfl,_⟩:=h; rfl) | (obtain⟨_,_,_,_,_,_,_,rfl,_⟩:=h; rfl) | (obtain⟨rfl,_⟩:=h; rfl))
 have nd:=lU.nd
 refine⟨_,Wr.WDSs.h (Wr.ao (Wr.bJ (Wr.wpt (Wr.cM (Wr.cu (Wr.bV (Wr.cN kit_tuple B.isinstance (Wr.dv 3) (Wr.wty rfl B.tuple boot_tuple)))) (Wr.cM (Wr.bW hr.units (Wr.dh B.len (Wr.aj (Wr.dv 3) Wr.ak)) Wr.aq) (Wr.cM (Wr.cu (Wr.bV (Wr.dc C__law_numbers hr (Wr.aj (Wr.aB (Wr.dv 3) Wr.aq) Wr.ak)))) (Wr.dR (Wr.cu (Wr.bV (Wr.dc C__law_numbers hr (Wr.aj (Wr.aB (Wr.dv 3) Wr.aq) Wr.ak))))))))) (Wr.aD (Wr.aK Wr.d7)) Wr.aJ)
  (Wr.ao (Wr.ds_asg (Wr.dv 3) (Wr.fP (n:=2) rfl (Wr.bx (Wr.aG (i:=4) nd rfl (by first | exact Or.inl rfl | exact Or.inr rfl)) (Wr.bx (Wr.aG (i:=5) nd rfl (by first | exact Or.inl rfl | exact Or.inr rfl)) Wr.dF))))
  (Wr.ao (Wr.bJ (Wr.wpt (Wr.cM (Wr.bW hr.units (Wr.dh B.len (Wr.aj (Wr.dv 4) Wr.ak)) (Wr.cA (Wr.dh B.len (Wr.aj (Wr.dv 5) Wr.ak)) Wr.aq)) (Wr.cM (Wr.bW hr.units (Wr.aB (Wr.dv 4) Wr.aq) (Wr.dv 1)) (Wr.cM (Wr.bW hr.units (Wr.aB (Wr.dv 4) (Wr.pd_neg Wr.aq)) (Wr.dv 2)) (Wr.dR (Wr.bW hr.units (Wr.pd_lenset rfl m_set B.len (Wr.aj (Wr.dv 4) Wr.ak)) (Wr.dh B.len (Wr.aj (Wr.dv 4) Wr.ak)))))))) (Wr.aD (Wr.aK Wr.d7)) Wr.aJ)
  (Wr.ao (Wr.bT PassesOwn.never rfl (Wr.di_enumL m_enumerate (Wr.aj (Wr.dv 5) Wr.ak)) (Wr.fP (n:=2) rfl (Wr.bx (Wr.aG (i:=6) nd rfl (by first | exact Or.inl rfl | exact Or.inr rfl)) (Wr.bx (Wr.aG (i:=7) nd rfl (by first | exact Or.inl rfl | exact Or.inr rfl)) Wr.dF))) (Wr.ao (Wr.aN none (i:=8) nd rfl (by first | exact Or.inl rfl | exact Or.inr rfl) (Wr.fL B.sorted (Wr.aj (Wr.pd_sl (Wr.dv 4) (Wr.do_some (Wr.dv 6)) (Wr.do_some (Wr.cA (Wr.dv 6) Wr.aq))) Wr.ak)))
  (Wr.ao (Wr.bJ (Wr.wpt (Wr.cM (Wr.cu (Wr.pdt_chain op_le op_lt Wr.aq (Wr.dv 7) (Wr.dh B.len (Wr.aj (Wr.aB (Wr.dv 0) Wr.aq) Wr.ak)))) (Wr.dR (Wr.bW hr.units (Wr.aB (Wr.aB (Wr.dv 0) Wr.aq) (Wr.dv 7)) (Wr.jZ B.tuple (Wr.aj (Wr.dv 8) Wr.ak)))))) (Wr.aD (Wr.aK Wr.d7)) Wr.aJ) (Wr.aC [6,7,8] Wr.aJ))))
  (Wr.aC [6,7,8] (Wr.aD (Wr.aK Wr.d7))))))),bC h ?_⟩
 rintro ds P ⟨n,us,a,b,w,rfl,lu,ok,W,lw,q⟩
 refine⟨[.im (aP n us),.im (.int a),.im (.int b),.sh (dz (some w)),.any,.any,.any,.any,.any],by show [dI (aP n us),.im (.int a),.im (.int b),.sh (dz (some w)),.any,.any,.any,.any,.any]=_; rw [bD],?_⟩
 have wl:=wy_len W
 have l1:(w.1.map PyData.int).length=w.1.length:=List.length_map ..
 have l2:(w.2.map PyData.int).length=w.2.length:=List.length_map ..
 have lu2:(us.map pD).length=us.length:=List.length_map ..
 refine bA (A:=True) (bA (A:=True) ⟨iD w.1,rfl,w.1,rfl,by omega,bA (A:=True) ⟨iD w.2,rfl,w.2,rfl,by omega,bA (A:=True) ?_⟩⟩)
 refine⟨rfl,?_⟩
 show if (!decide ((((w.1.map PyData.int).length:Nat):Int)=(((w.2.map PyData.int).length:Nat):Int)+1))=true then _ else _
 rw [decide_eq_true (show (((w.1.map PyData.int).length:Nat):Int)=(((w.2.map PyData.int).length:Nat):Int)+1 by omega)]
 have nd:=wy_nd W
 obtain⟨Q,hQ⟩:=wy_last W
 have h0:atI (w.1.map PyData.int) 0=some (.int a):=dY (j:=0) (by rw [List.getElem?_map,wy_head W]; rfl)
 refine bA (A:=True) ⟨.int a,h0,?_⟩
 show if (!decide (a=a))=true then _ else _
 rw [decide_eq_true rfl]
 refine bA (A:=True) ⟨.int b,last_at hQ,?_⟩
 show if (!decide (b=b))=true then _ else _
 rw [decide_eq_true rfl]
 refine bA (A:=True) ⟨_,w.1,rfl,by omega,?_⟩
 have eo:(((once w.1).length:Nat):Int)=(((w.1.map PyData.int).length:Nat):Int):=by
  rw [(once_nodup w.1).mpr nd,l1]
 show if (!decide ((((once w.1).length:Nat):Int)=(((w.1.map PyData.int).length:Nat):Int)))=true then _ else _
 rw [decide_eq_true eo]
 refine bA (A:=True) ?_
 refine⟨rfl,fun (i:Nat) ρ=>ρ=[.im (aP n us),.im (.int a),.im (.int b),.sh (dz (some w)),.sh (iD w.1),.sh (iD w.2),.any,.any,.any],rfl,?_,?_⟩
 ·rintro i d ρ hd rfl
  rw [eN,List.getElem?_map] at hd
  obtain⟨k,hk,rfl⟩:∃ k,w.2[i]?=some k/\PyData.tuple [.int ((i:Nat):Int),.int k]=d:=by
   cases e:w.2[i]? with
   | none=>rw [e] at hd; cases hd
   | some t=>rw [e] at hd; exact⟨t,rfl,Option.some.inj hd⟩
  obtain⟨p,y,h1,h2,h3⟩:=wy_hop W i k hk
  obtain⟨j,rfl,ht⟩:=cO.mp h3
  obtain⟨t,htt,et⟩:∃ t,us[j]?=some t/\(t=(p,y)\/t=(y,p)):=by
   rcases ht with e | e
   ·exact⟨_,e,.inl rfl⟩
   ·exact⟨_,e,.inr rfl⟩
  have hj:=(List.getElem?_eq_some_iff.mp htt).1
  have tt:=ok t (List.mem_of_getElem? htt)
  have aw:atI (us.map pD) ((j:Nat):Int)=some (pD t):=dY (by rw [List.getElem?_map,htt]; rfl)
  have ec:=cut_two h1 h2
  refine⟨rfl,.inl ⟨by rw [ec]; rfl,[p,y],ec,(show 2<64 by decide),fun out hp hs=>?_⟩⟩
  have eo:=sort_two tt.2.1 et hp hs
  subst eo
  refine cD (B:=True) ⟨.tuple (us.map pD),rfl,?_⟩
  refine iteN (c:=!decide (((j:Nat):Int)<(((us.map pD).length:Nat):Int))) (by rw [decide_eq_true (by omega)]; rfl) ⟨.tuple (us.map pD),rfl,pD t,aw,rfl,rfl,?_⟩
  have ee:PyData.eqv (pD t) (pD t)=true:=by
   show (t.1 == t.1&&(t.2 == t.2&&true))=true
   simp
  exact iteN (c:=!PyData.eqv (pD t) (pD t)) (by rw [ee]; rfl) rfl
 ·rintro ρ rfl
  exact⟨rfl,q⟩
theorem sc_law_pair:FnScope ["_law_pen","_law_n","_law_a"] ["_law_pen","_law_n"] (au (top 40)):=⟨rfl,rfl,rfl,by decide +kernel,rfl,by decide +kernel,by decide +kernel⟩
theorem ok_law_pair (F:Fun K "_law_pair" "_law_pair" (top 40) f fd) (B:Dl.Bn mg) (C__law_take:Dl.Cal P w K mg base 1 "_law_take" ["_law_pen","_law_many"] (spP (CP K) fDraw)):FnOk P w K mg base CX0 2 f fd ["_law_pen","_law_n"] (spP (CP K) fPair):=by
 refine F.ok sc_law_pair (len_spP fun ds P h=>?len) (fun cdv A outer s H vs Q E hr h=>?_)
 case len=>(first | (obtain⟨_,rfl,_⟩:=h; rfl) | (obtain⟨_,_,rfl,_⟩:=h; rfl) | (obtain⟨_,_,_,rfl,_⟩:=h; rfl) | (obtain⟨_,_,_,_,rfl,_⟩:=h; rfl) | (obtain⟨_,_,_,_,_,rfl,_⟩:=h; rfl) | (obtain⟨_,_,_,_,_,_,rfl,_⟩:=h; rfl) | (obtain⟨_,_,_,_,_,_,_,rfl,_⟩:=h; rfl) | (obtain⟨rfl,_⟩:=h; rfl))
 have nd:=sc_law_pair.nd
 refine⟨_,Wr.WDSs.h (Wr.ao (Wr.aN none (i:=2) nd rfl (by first | exact Or.inl rfl | exact Or.inr rfl) (Wr.dcP C__law_take hr (Wr.wv 0) (Wr.aj (Wr.dv 1) Wr.ak)))
  (Wr.aD (Wr.aK (Wr.aQ (Wr.aj (Wr.dv 2) (Wr.aj (Wr.pd_mod (Wr.cA (Wr.cA (Wr.dv 2) Wr.aq) (Wr.dcP C__law_take hr (Wr.wv 0) (Wr.aj (Wr.jx (Wr.dv 1) Wr.aq) Wr.ak))) (Wr.dv 1)) Wr.ak)))))),enterQ h ?_⟩
 rintro ds P ⟨n,rfl,n2,n16,q⟩
 refine⟨[.im (.int n),.any],rfl,?_⟩
 refine⟨rfl,n,rfl,by omega,by omega,fun a a0 a1=>⟨rfl,n - 1,rfl,by omega,by omega,fun b b0 b1=>⟨(show (0:Int)<n by omega),(show 2<=1000 by decide),rfl,?_⟩⟩⟩
 have h1:=Int.emod_nonneg (a+1+b) (b:=n) (by omega)
 have h2:=Int.emod_lt_of_pos (a+1+b) (b:=n) (by omega)
 refine q a _ a0 a1 h1 h2 ?_
 by_cases h:a+1+b<n
 ·rw [Int.emod_eq_of_lt (by omega) h]
  omega
 ·rw [← Int.sub_emod_right,Int.emod_eq_of_lt (by omega) (by omega)]
  omega
end
theorem wy_rngP {n:Nat}{ws:List Put}{a:Int}{P K:List Int}{x:Int} (ok:PutsOk n ws) (ha:0<=a/\a<n) (h:Wy ws a P K x):∀ y∈P,0<=y/\y<n:=by
 induction h with
 | one=>exact fun y hy=>by rw [List.mem_singleton.mp hy]; exact ha
 | step _ _ j ih =>
  intro y hy
  rcases List.mem_append.mp hy with z | z
  ·exact ih y z
  ·rw [List.mem_singleton.mp z]
   exact (ok.rng _ j).2
theorem wy_few {n:Nat}{ws:List Put}{a:Int}{P K:List Int}{x:Int} (ok:PutsOk n ws) (ha:0<=a/\a<n) (h:Wy ws a P K x):P.length<=n:=gR (wy_nd h) (wy_rngP ok ha h)
theorem okD_iD (l:List Int):okD (iD l)=true:=by
 have h1:=lay_iD l
 have h2:∀ l:List Int,PyData.depthAll (l.map PyData.int)<=0:=fun l=>by
  induction l with
  | nil=>exact Nat.le_refl _
  | cons x a ih =>
   show max 0 (PyData.depthAll (a.map PyData.int))<=0
   omega
 have h2:PyData.depthAll (l.map PyData.int)+1<=60:=by have:=h2 l; omega
 show (PyData.canLayAll0 (l.map PyData.int)&&decide (PyData.depthAll (l.map PyData.int)+1<=60))=true
 rw [h1,decide_eq_true h2]
 rfl
theorem self_eqv (l:List Int):PyData.eqv (iD l) (iD l)=true:=by
 rw [eqv_ints,decide_eq_true rfl]
theorem zI_natR {l:List Nat}{p:Nat}:((p:Nat):Int)∈zI l↔p∈l:=by
 rw [mem_zI]
 exact⟨fun ⟨_,z⟩=>by simpa using z,fun z=>⟨by omega,by simpa using z⟩⟩
theorem put_newR {m:IM}{k:Int}{d:D} (h:∀ q∈m,q.1≠k):fu m k d=m++[(k,d)]:=by
 unfold fu
 rw [if_neg]
 intro z
 unfold dX at z
 obtain⟨q,hq,e⟩:=List.any_eq_true.mp z
 exact h q hq (of_decide_eq_true e)
noncomputable def tab (f:Int->List Int) (p:Nat->Bool) (i:Nat):IM:=((List.range i).filter p).map fun v=>(((v:Nat):Int),iD (f ((v:Nat):Int)))
theorem tab_lt {f:Int->List Int}{p:Nat->Bool}{i:Nat}:∀ q∈tab f p i,q.1<(i:Int)/\q.2=iD (f q.1):=fun q hq=>by
 obtain⟨v,hv,rfl⟩:=List.mem_map.mp hq
 have:=List.mem_range.mp (List.mem_filter.mp hv).1
 exact⟨by show ((v:Nat):Int)<_; omega,rfl⟩
theorem tab_put {f:Int->List Int}{p:Nat->Bool}{i:Nat} (h:p i=true):fu (tab f p i) ((i:Nat):Int) (iD (f ((i:Nat):Int)))=tab f p (i+1):=by
 rw [put_newR fun q hq z=>by have:=(tab_lt q hq).1; omega]
 unfold tab
 rw [List.range_succ,List.filter_append,List.map_append,List.filter_cons_of_pos h]
 rfl
theorem tab_skip {f:Int->List Int}{p:Nat->Bool}{i:Nat} (h:p i=false):tab f p (i+1)=tab f p i:=by
 unfold tab
 rw [List.range_succ,List.filter_append,List.map_append,List.filter_cons_of_neg (by rw [h]; exact Bool.false_ne_true)]
 exact List.append_nil _
theorem jU {f:Int->List Int}{p:Nat->Bool}{i:Nat}:(tab f p i).length<=i:=by
 unfold tab
 rw [List.length_map]
 exact Nat.le_trans (List.length_filter_le _ _) (by rw [List.length_range]; exact Nat.le_refl _)
theorem tab_nd {f:Int->List Int}{p:Nat->Bool}{i:Nat}:((tab f p i).map (·.1)).Nodup:=by
 unfold tab
 rw [List.map_map]
 have h:(List.range i |>.filter p).Nodup:=List.nodup_range.filter p
 exact List.Pairwise.map _ (fun a b ne z=>ne (Int.ofNat.inj z)) h
theorem tab_filter {f:Int->List Int}{p q:Nat->Bool}{i:Nat}{b:Int} (h:∀ v,v<i->q v=(p v&&!decide (b∈f ((v:Nat):Int)))):(tab f p i).filter (fun x=>!decide (b∈f x.1))=tab f q i:=by
 unfold tab
 rw [List.filter_map,List.filter_filter]
 refine congrArg _ (List.filter_congr fun v hv=>?_)
 rw [h v (List.mem_range.mp hv),Bool.and_comm]
 rfl
open Classical in
noncomputable def pP (n:Int) (us:List Tie) (a b:Int) (v:Nat):Bool:=decide (((v:Nat):Int)∈inn n a b/\¬ Rt (adj us [] [((v:Nat):Int)]) a b)
open Classical in
noncomputable def pT (us:List Tie) (a b:Int) (k:Nat):Bool:=decide (¬ Rt (adj us [((k:Nat):Int)] []) a b)
open Classical in
theorem jz {n:Int}{us:List Tie}{a b:Int}{v:Nat}:pP n us a b v=true↔((v:Nat):Int)∈inn n a b/\¬ Rt (adj us [] [((v:Nat):Int)]) a b:=by
 unfold pP
 rw [decide_eq_true_eq]
open Classical in
theorem pT_iff {us:List Tie}{a b:Int}{k:Nat}:pT us a b k=true↔¬ Rt (adj us [((k:Nat):Int)] []) a b:=by
 unfold pT
 rw [decide_eq_true_eq]
noncomputable def sidM (n:Int) (us:List Tie) (a b:Int) (byp:Bool):IM:=if byp=true then tab (fun v=>rsI (adj us [] [v]) n.toNat a) (pP n us a b) n.toNat else tab (fun k=>rsI (adj us [k] []) n.toNat a) (pT us a b) us.length
theorem sid_t (n:Int) (us:List Tie) (a b:Int):sidM n us a b true=tab (fun v=>rsI (adj us [] [v]) n.toNat a) (pP n us a b) n.toNat:=if_pos rfl
theorem sid_f (n:Int) (us:List Tie) (a b:Int):sidM n us a b false=tab (fun k=>rsI (adj us [k] []) n.toNat a) (pT us a b) us.length:=if_neg Bool.false_ne_true
theorem mem_innN {n a b:Int}{v:Nat} (h:v<n.toNat):((v:Nat):Int)∈inn n a b↔¬ (((v:Nat):Int)=a\/((v:Nat):Int)=b):=by
 unfold inn
 rw [List.mem_filter,zI_natR,List.mem_range,Bool.not_eq_true',decide_eq_false_iff_not]
 exact⟨fun z=>z.2,fun z=>⟨h,z⟩⟩
theorem has_tab {f:Int->List Int}{p:Nat->Bool}{i v:Nat} (h:v<i) (hp:p v=true):dX (tab f p i) ((v:Nat):Int)=true:=by
 unfold dX
 exact List.any_eq_true.mpr ⟨(((v:Nat):Int),iD (f ((v:Nat):Int))),List.mem_map.mpr ⟨v,List.mem_filter.mpr ⟨List.mem_range.mpr h,hp⟩,rfl⟩,decide_eq_true rfl⟩
theorem get_tab {f:Int->List Int}{p:Nat->Bool}{i v:Nat} (h:v<i) (hp:p v=true):jH (tab f p i) ((v:Nat):Int)=some (iD (f ((v:Nat):Int))):=by
 unfold jH
 cases e:(tab f p i).find? fun q=>decide (q.1=((v:Nat):Int)) with
 | none =>
  have:=List.find?_eq_none.mp e (((v:Nat):Int),iD (f ((v:Nat):Int))) (List.mem_map.mpr ⟨v,List.mem_filter.mpr ⟨List.mem_range.mpr h,hp⟩,rfl⟩)
  exact absurd (decide_eq_true rfl) this
 | some q =>
  have h1:=List.find?_some e
  have h2:=(tab_lt q (List.mem_of_find?_eq_some e)).2
  have h3:q.1=((v:Nat):Int):=of_decide_eq_true h1
  show some q.2=_
  rw [h2,h3]
theorem kv_some {f:Int->List Int}{p:Nat->Bool}{i v:Nat} (h:v<i) (hp:p v=true):(kvD (tab f p i)).isEmpty=false:=by
 unfold kvD tab
 rw [List.isEmpty_map,List.isEmpty_map,List.isEmpty_eq_false_iff_exists_mem]
 exact⟨v,List.mem_filter.mpr ⟨List.mem_range.mpr h,hp⟩⟩
theorem kv_none {f:Int->List Int}{p:Nat->Bool}{i:Nat} (h:∀ v,v<i->p v=false):(kvD (tab f p i)).isEmpty=true:=by
 unfold kvD tab
 rw [List.isEmpty_map,List.isEmpty_map,List.isEmpty_iff,List.filter_eq_nil_iff]
 exact fun v hv z=>by rw [h v (List.mem_range.mp hv)] at z; cases z
theorem two_sorted {l out o2:List Int}{a b:Int} (nd:l.Nodup) (ne:a≠b) (h:∀ x,x∈l↔x=a\/x=b) (p1:out.Perm l) (s1:out.Pairwise (·<=·)) (p2:o2.Perm [a,b]) (s2:o2.Pairwise (·<=·)):out=o2:=by
 have pm:l.Perm [a,b]:=(List.perm_ext_iff_of_nodup nd (by simp [ne])).mpr fun x=>by
  rw [h]
  simp only [List.mem_cons,List.not_mem_nil,or_false]
 exact ((p1.trans pm).trans p2.symm).eq_of_pairwise (fun a b _ _ h1 h2=>by omega) s1 s2
noncomputable def fSid (ds:List D) (P:D->Prop):Prop:=∃ n us a b byp,ds=[aP n us,.int a,.int b,.bool byp]/\1<=n/\n<=16/\us.length<=39/\OkN n us/\0<=a/\a<n/\0<=b/\b<n/\a≠b/\P (.dict (kvD (sidM n us a b byp)))
noncomputable def fNamed (ds:List D) (P:D->Prop):Prop:=∃ (w:Str) (k:Int) (l:List Int) (m:IM),ds=[.tuple [.str w,.int k,iD l],.str w,.dict (kvD m)]/\m.length<=100/\l.length<=100/\dX m k=true/\jH m k=some (iD l)/\P (.bool true)
noncomputable def fRightP (ds:List D) (P:D->Prop):Prop:=∃ n us a b d,ds=[aP n us,.int a,.int b,d]/\1<=n/\n<=16/\us.length<=39/\OkW n us/\0<=a/\a<n/\0<=b/\b<n/\a≠b/\ByPOk n us a b d/\P (.bool true)
section
variable {P:Program}{w:World}{K:PySem.W.Frag}{mg:Str->Option Value}{base:Heap}{f:Addr}{fd:FuncData}
theorem lO:FnScope ["_law_web_here","_law_a","_law_b","_law_by_place","_law_found","_law_v","_law_number"] ["_law_web_here","_law_a","_law_b","_law_by_place"] (au (top 42)):=⟨rfl,rfl,rfl,by decide +kernel,rfl,by decide +kernel,by decide +kernel⟩
theorem nd_law_sides_0:(["_law_one","_law_web_here","_law_a","_law_b","_law_by_place","_law_found","_law_v","_law_number"]:List Str).Nodup:=by decide +kernel
theorem ok_law_sides (F:Fun K "_law_sides" "_law_sides" (top 42) f fd) (B:Dl.Bn mg) (m_dict:mg "dict"=none) (C__law_met:Dl.Cal P w K mg base 1 "_law_met" ["_law_web_here","_law_start","_law_fallen","_law_barred"] (spD fMet)):FnOk P w K mg base CX0 2 f fd ["_law_web_here","_law_a","_law_b","_law_by_place"] (spD fSid):=by
 refine F.ok lO (aW fun ds P h=>?len) (fun cdv A outer s H vs Q E hr h=>?_)
 case len=>(first | (obtain⟨_,rfl,_⟩:=h; rfl) | (obtain⟨_,_,rfl,_⟩:=h; rfl) | (obtain⟨_,_,_,rfl,_⟩:=h; rfl) | (obtain⟨_,_,_,_,rfl,_⟩:=h; rfl) | (obtain⟨_,_,_,_,_,rfl,_⟩:=h; rfl) | (obtain⟨_,_,_,_,_,_,rfl,_⟩:=h; rfl) | (obtain⟨_,_,_,_,_,_,_,rfl,_⟩:=h; rfl) | (obtain⟨rfl,_⟩:=h; rfl))
 have nd:=lO.nd
 refine⟨_,Wr.WDSs.h (Wr.ao (Wr.aN (some 0) (i:=4) nd rfl (by first | exact Or.inl rfl | exact Or.inr rfl) Wr.j5)
  (Wr.ao (Wr.bJ (Wr.bV (Wr.dv 3)) (Wr.ao (Wr.bT PassesOwn.never rfl (Wr.bG B.range (Wr.aj (Wr.aB (Wr.dv 0) Wr.aq) Wr.ak)) (Wr.aG (i:=5) nd rfl (by first | exact Or.inl rfl | exact Or.inr rfl)) (Wr.ao (Wr.bJ (Wr.bF hr.units (Wr.dv 5) (Wr.aQ (Wr.aj (Wr.dv 1) (Wr.aj (Wr.dv 2) Wr.ak)))) (Wr.aD (Wr.ds_dputN hr.units (Wr.wv 4) (Wr.dv 5) (Wr.dc C__law_met hr (Wr.aj (Wr.dv 0) (Wr.aj (Wr.dv 1) (Wr.aj (Wr.aU Wr.ak) (Wr.aj (Wr.aU (Wr.aj (Wr.dv 5) Wr.ak)) Wr.ak))))))) Wr.aJ) (Wr.aC [5] Wr.aJ))) (Wr.aC [5] Wr.aJ)) (Wr.ao (Wr.bT PassesOwn.never rfl (Wr.bG B.range (Wr.aj (Wr.dh B.len (Wr.aj (Wr.aB (Wr.dv 0) Wr.aq) Wr.ak)) Wr.ak)) (Wr.aG (i:=6) nd rfl (by first | exact Or.inl rfl | exact Or.inr rfl)) (Wr.ao (Wr.ds_dputN hr.units (Wr.wv 4) (Wr.dv 6) (Wr.dc C__law_met hr (Wr.aj (Wr.dv 0) (Wr.aj (Wr.dv 1) (Wr.aj (Wr.aU (Wr.aj (Wr.dv 6) Wr.ak)) (Wr.aj (Wr.aU Wr.ak) Wr.ak)))))) (Wr.aC [6] Wr.aJ))) (Wr.aC [6] Wr.aJ)))
  (Wr.aC [5,6] (Wr.aD (Wr.ds_retD (i:=4) (j:=2) (own:=["_law_one"]) hr.units rfl m_dict rfl (Wr.wv 4) (fun c=>pg_name (i:=0) nd_law_sides_0 rfl (by first | exact Or.inl rfl | exact Or.inr rfl)) (fun c=>Wr.wv 5) (fun c=>Wr.wv 5) (fun c=>Wr.wv 0) (fun c=>Wr.wv 0) (fun c=>Wr.wv 0) (fun c=>Wr.wv 3)))))),bC h ?_⟩
 rintro ds P ⟨n,us,a,b,byp,rfl,n1,n16,lu,okn,a0,a1,b0,b1,ne,q⟩
 refine⟨[.im (aP n us),.im (.int a),.im (.int b),.im (.bool byp),.any,.any,.any],by show [dI (aP n us),.im (.int a),.im (.int b),.im (.bool byp),.any,.any,.any]=_; rw [bD],?_⟩
 have lu2:(us.map pD).length=us.length:=List.length_map ..
 have mr:∀ F B:List Int,b∈rsI (adj us F B) n.toNat a↔Rt (adj us F B) a b:=fun F B=>by
  rw [dH]
  exact⟨fun z=>z.2,fun z=>⟨⟨b0,by omega⟩,z⟩⟩
 cases byp with
 | true =>
  refine cD (B:=True) ?_
  refine⟨.int n,rfl,⟨by omega,by omega⟩,rfl,fun (i:Nat) ρ=>ρ=[.im (aP n us),.im (.int a),.im (.int b),.im (.bool true),.dw 0 (.dict (kvD (tab (fun v=>rsI (adj us [] [v]) n.toNat a) (fun v=>!decide (((v:Nat):Int)=a\/((v:Nat):Int)=b)) i))),.any,.any],rfl,?_,?_⟩
  ·rintro i d ρ hd rfl
   obtain⟨hi,rfl⟩:=cP hd
   have e:(([a,b].map PyData.int).any fun e=>PyData.eqv e (.int (0+((i:Nat):Int))))=decide (((i:Nat):Int)=a\/((i:Nat):Int)=b):=by
    rw [Dl.any_ints,Int.zero_add]
    simp only [List.mem_cons,List.not_mem_nil,or_false]
   refine⟨(show 2<=1000 by decide),rfl,rfl,?_⟩
   by_cases c:((i:Nat):Int)=a\/((i:Nat):Int)=b
   ·refine iteN (c:=!(([a,b].map PyData.int).any fun e=>PyData.eqv e (.int (0+((i:Nat):Int))))) (by rw [e,decide_eq_true c]; rfl) ?_
    show ([_,_,_,_,_,_,_]:List Sl)=_
    rw [tab_skip (by rw [decide_eq_true c]; rfl)]
   ·refine iteP (c:=!(([a,b].map PyData.int).any fun e=>PyData.eqv e (.int (0+((i:Nat):Int))))) (by rw [e,decide_eq_false c]; rfl) ?_
    refine⟨(show 0<=1000 by decide),(show 1<=1000 by decide),n,us,a,[],[0+((i:Nat):Int)],rfl,n1,n16,by omega,okn,a0,a1,_,rfl,rfl,Nat.lt_of_le_of_lt jU (by omega),?_⟩
    show ([_,_,_,_,.dw 0 (.dict (kvD (fu _ (0+((i:Nat):Int)) (iD (rsI (adj us [] [0+((i:Nat):Int)]) n.toNat a))))),_,_]:List Sl)=_
    rw [Int.zero_add,← tab_put (i:=i) (by rw [decide_eq_false c]; rfl)]
    rfl
  ·rintro ρ rfl
   rw [bO]
   refine⟨0,_,b,rfl,rfl,Nat.le_trans jU (by omega),tab_nd,fun v=>rsI (adj us [] [v]) n.toNat a,fun x hx=>(tab_lt x hx).2,?_⟩
   have e:=tab_filter (f:=fun v=>rsI (adj us [] [v]) n.toNat a) (p:=fun v=>!decide (((v:Nat):Int)=a\/((v:Nat):Int)=b)) (q:=pP n us a b) (i:=n.toNat) (b:=b) fun v hv=>by
    rw [Bool.eq_iff_iff,jz,Bool.and_eq_true,Bool.not_eq_true',Bool.not_eq_true',decide_eq_false_iff_not,decide_eq_false_iff_not,mem_innN hv,mr]
   rw [sid_t,← e] at q
   exact q
 | false =>
  refine⟨.tuple (us.map pD),rfl,⟨by omega,by omega⟩,rfl,fun (i:Nat) ρ=>ρ=[.im (aP n us),.im (.int a),.im (.int b),.im (.bool false),.dw 0 (.dict (kvD (tab (fun k=>rsI (adj us [k] []) n.toNat a) (fun _=>true) i))),.any,.any],rfl,?_,?_⟩
  ·rintro i d ρ hd rfl
   obtain⟨hi,rfl⟩:=cP hd
   refine⟨(show 1<=1000 by decide),(show 0<=1000 by decide),n,us,a,[0+((i:Nat):Int)],[],rfl,n1,n16,by omega,okn,a0,a1,_,rfl,rfl,Nat.lt_of_le_of_lt jU (by omega),?_⟩
   show ([_,_,_,_,.dw 0 (.dict (kvD (fu _ (0+((i:Nat):Int)) (iD (rsI (adj us [0+((i:Nat):Int)] []) n.toNat a))))),_,_]:List Sl)=_
   rw [Int.zero_add,← tab_put (i:=i) rfl]
   rfl
  ·rintro ρ rfl
   rw [bO]
   refine⟨0,_,b,rfl,rfl,Nat.le_trans jU (by omega),tab_nd,fun k=>rsI (adj us [k] []) n.toNat a,fun x hx=>(tab_lt x hx).2,?_⟩
   have e:=tab_filter (f:=fun k=>rsI (adj us [k] []) n.toNat a) (p:=fun _=>true) (q:=pT us a b) (i:=us.length) (b:=b) fun v hv=>by
    rw [Bool.eq_iff_iff,pT_iff,Bool.and_eq_true,Bool.not_eq_true',decide_eq_false_iff_not,mr]
    exact⟨fun z=>⟨rfl,z⟩,fun z=>z.2⟩
   rw [sid_f,← e] at q
   rw [lu2,Int.toNat_natCast]
   exact q
theorem lR:FnScope ["_law_told","_law_word","_law_sides_here"] ["_law_told","_law_word","_law_sides_here"] (au (top 41)):=⟨rfl,rfl,rfl,by decide +kernel,rfl,by decide +kernel,by decide +kernel⟩
theorem ok_law_named (F:Fun K "_law_named" "_law_named" (top 41) f fd) (B:Dl.Bn mg) (C__law_numbers:Dl.Cal P w K mg base 1 "_law_numbers" ["_law_thing"] (spD fNum)):FnOk P w K mg base CX0 2 f fd ["_law_told","_law_word","_law_sides_here"] (spD fNamed):=by
 refine F.ok lR (aW fun ds P h=>?len) (fun cdv A outer s H vs Q E hr h=>?_)
 case len=>(first | (obtain⟨_,rfl,_⟩:=h; rfl) | (obtain⟨_,_,rfl,_⟩:=h; rfl) | (obtain⟨_,_,_,rfl,_⟩:=h; rfl) | (obtain⟨_,_,_,_,rfl,_⟩:=h; rfl) | (obtain⟨_,_,_,_,_,rfl,_⟩:=h; rfl) | (obtain⟨_,_,_,_,_,_,rfl,_⟩:=h; rfl) | (obtain⟨_,_,_,_,_,_,_,rfl,_⟩:=h; rfl) | (obtain⟨rfl,_⟩:=h; rfl))
 have nd:=lR.nd
 refine⟨_,Wr.WDSs.h (Wr.ao (Wr.bJ (Wr.wpt (Wr.cM (Wr.bW hr.units (Wr.aB (Wr.dv 0) Wr.aq) (Wr.dv 1)) (Wr.cM (Wr.bW hr.units (Wr.dh B.len (Wr.aj (Wr.dv 0) Wr.ak)) Wr.aq) (Wr.cM (Wr.cu (Wr.bV (Wr.dc C__law_numbers hr (Wr.aj (Wr.aU (Wr.aj (Wr.aB (Wr.dv 0) Wr.aq) Wr.ak)) Wr.ak)))) (Wr.dR (Wr.d8 hr.units (Wr.aB (Wr.dv 0) Wr.aq) (Wr.dv 2))))))) (Wr.aD (Wr.aK Wr.d7)) Wr.aJ)
  (Wr.aD (Wr.aK (Wr.jy (Wr.dc C__law_numbers hr (Wr.aj (Wr.aB (Wr.dv 0) Wr.aq) Wr.ak)) (Wr.pd_one (Wr.iJ hr.units (Wr.aB (Wr.dv 0) Wr.aq) (Wr.mH hr.units (Wr.dv 2) (Wr.aB (Wr.dv 0) Wr.aq)))))))),bC h ?_⟩
 rintro ds P ⟨w,k,l,m,rfl,lm,ll,hk,hg,q⟩
 refine⟨[.sh (.tuple [.str w,.int k,iD l]),.im (.str w),.sh (.dict (kvD m))],rfl,?_⟩
 refine⟨_,rfl,iteN (c:=!decide (w=w)) (by rw [decide_eq_true rfl]; rfl) ?_⟩
 refine bA (A:=True) ⟨_,rfl,(show 1<=1000 by decide),[k],rfl,(show 1<=100 by decide),bA (A:=True) ⟨_,rfl,m,rfl,?_⟩⟩
 refine iteN (c:=!dX m k) (by rw [hk]; rfl) ?_
 refine⟨_,rfl,_,rfl,ll,cD (B:=True) ⟨_,rfl,_,rfl,m,_,rfl,hg,okD_iD _,okD_iD _,rfl,?_⟩⟩
 show P (.bool (PyData.eqv (iD l) (iD l)))
 rw [self_eqv]
 exact q
theorem lQ:FnScope ["_law_web_here","_law_a","_law_b","_law_told","_law_here","_law_middles","_law_sides_here"] ["_law_web_here","_law_a","_law_b","_law_told"] (au (top 43)):=⟨rfl,rfl,rfl,by decide +kernel,rfl,by decide +kernel,by decide +kernel⟩
theorem jC:(["_law_one","_law_web_here","_law_a","_law_b","_law_told","_law_here","_law_middles","_law_sides_here"]:List Str).Nodup:=by decide +kernel
theorem ok_law_right (F:Fun K "_law_right" "_law_right" (top 43) f fd) (B:Dl.Bn mg) (m_str:mg "str"=none) (C__law_met:Dl.Cal P w K mg base 1 "_law_met" ["_law_web_here","_law_start","_law_fallen","_law_barred"] (spD fMet)) (C__law_numbers:Dl.Cal P w K mg base 1 "_law_numbers" ["_law_thing"] (spD fNum)) (C__law_sides:Dl.Cal P w K mg base 2 "_law_sides" ["_law_web_here","_law_a","_law_b","_law_by_place"] (spD fSid)) (C__law_named:Dl.Cal P w K mg base 2 "_law_named" ["_law_told","_law_word","_law_sides_here"] (spD fNamed)) (C__law_leads:Dl.Cal P w K mg base 2 "_law_leads" ["_law_web_here","_law_a","_law_b","_law_thing"] (spD fLeads)):FnOk P w K mg base CX0 3 f fd ["_law_web_here","_law_a","_law_b","_law_told"] (spD fRightP):=by
 refine F.ok lQ (aW fun ds P h=>?len) (fun cdv A outer s H vs Q E hr h=>?_)
 case len=>(first | (obtain⟨_,rfl,_⟩:=h; rfl) | (obtain⟨_,_,rfl,_⟩:=h; rfl) | (obtain⟨_,_,_,rfl,_⟩:=h; rfl) | (obtain⟨_,_,_,_,rfl,_⟩:=h; rfl) | (obtain⟨_,_,_,_,_,rfl,_⟩:=h; rfl) | (obtain⟨_,_,_,_,_,_,rfl,_⟩:=h; rfl) | (obtain⟨_,_,_,_,_,_,_,rfl,_⟩:=h; rfl) | (obtain⟨rfl,_⟩:=h; rfl))
 have nd:=lQ.nd
 refine⟨_,Wr.WDSs.h (Wr.ao (Wr.bJ (Wr.wpt (Wr.cM (Wr.cu (Wr.bV (Wr.cN kit_tuple B.isinstance (Wr.dv 3) (Wr.wty rfl B.tuple boot_tuple)))) (Wr.cM (Wr.pdt_lt (Wr.dh B.len (Wr.aj (Wr.dv 3) Wr.ak)) Wr.aq) (Wr.dR (Wr.cu (Wr.bV (Wr.cN kit_str B.isinstance (Wr.aB (Wr.dv 3) Wr.aq) (Wr.wty rfl m_str Dl.boot_str)))))))) (Wr.aD (Wr.aK Wr.d7)) Wr.aJ)
  (Wr.ao (Wr.aN none (i:=4) nd rfl (by first | exact Or.inl rfl | exact Or.inr rfl) (Wr.dc C__law_met hr (Wr.aj (Wr.dv 0) (Wr.aj (Wr.dv 1) (Wr.aj (Wr.aU Wr.ak) (Wr.aj (Wr.aU Wr.ak) Wr.ak))))))
  (Wr.ao (Wr.bJ (Wr.bF hr.units (Wr.dv 2) (Wr.dv 4)) (Wr.aD (Wr.aK (Wr.jy (Wr.iJ hr.units (Wr.aB (Wr.dv 3) Wr.aq) Wr.gA) (Wr.jy (Wr.iJ hr.units (Wr.dh B.len (Wr.aj (Wr.dv 3) Wr.ak)) Wr.aq) (Wr.jy (Wr.dc C__law_numbers hr (Wr.aj (Wr.aB (Wr.dv 3) Wr.aq) Wr.ak)) (Wr.pd_one (Wr.iJ hr.units (Wr.aB (Wr.dv 3) Wr.aq) (Wr.dv 4)))))))) Wr.aJ)
  (Wr.ao (Wr.aN none (i:=5) nd rfl (by first | exact Or.inl rfl | exact Or.inr rfl) (Wr.dc C__law_sides hr (Wr.aj (Wr.dv 0) (Wr.aj (Wr.dv 1) (Wr.aj (Wr.dv 2) (Wr.aj Wr.d7 Wr.ak))))))
  (Wr.ao (Wr.bJ (Wr.pdt_neD hr.units (Wr.dv 5) Wr.j5) (Wr.aD (Wr.aK (Wr.dc C__law_named hr (Wr.aj (Wr.dv 3) (Wr.aj Wr.gA (Wr.aj (Wr.dv 5) Wr.ak)))))) Wr.aJ)
  (Wr.ao (Wr.aN none (i:=6) nd rfl (by first | exact Or.inl rfl | exact Or.inr rfl) (Wr.dc C__law_sides hr (Wr.aj (Wr.dv 0) (Wr.aj (Wr.dv 1) (Wr.aj (Wr.dv 2) (Wr.aj Wr.d7 Wr.ak))))))
  (Wr.ao (Wr.bJ (Wr.pdt_neD hr.units (Wr.dv 6) Wr.j5) (Wr.aD (Wr.aK (Wr.dc C__law_named hr (Wr.aj (Wr.dv 3) (Wr.aj Wr.gA (Wr.aj (Wr.dv 6) Wr.ak)))))) Wr.aJ)
  (Wr.ao (Wr.bJ (Wr.wpt (Wr.cM (Wr.bW hr.units (Wr.aB (Wr.dv 3) Wr.aq) Wr.gA) (Wr.cM (Wr.bW hr.units (Wr.dh B.len (Wr.aj (Wr.dv 3) Wr.ak)) Wr.aq) (Wr.dR (Wr.cu (Wr.bV (Wr.dc C__law_leads hr (Wr.aj (Wr.dv 0) (Wr.aj (Wr.dv 1) (Wr.aj (Wr.dv 2) (Wr.aj (Wr.aB (Wr.dv 3) Wr.aq) Wr.ak))))))))))) (Wr.aD (Wr.aK Wr.d7)) Wr.aJ)
  (Wr.ao (Wr.bJ (Wr.wpt (Wr.cM (Wr.cu (Wr.bV (Wr.dc C__law_leads hr (Wr.aj (Wr.dv 0) (Wr.aj (Wr.dv 1) (Wr.aj (Wr.dv 2) (Wr.aj (Wr.aB (Wr.dv 3) Wr.aq) Wr.ak))))))) (Wr.dR (Wr.bW hr.units (Wr.fX ["_law_one"] rfl (Wr.cg (Wr.aB (Wr.aB (Wr.dv 3) Wr.aq) Wr.aq)) (fun c=>(Wr.aG (i:=0) jC rfl (by first | exact Or.inl rfl | exact Or.inr rfl))) (fun c=>(Wr.cT (Wr.jw hr.units (Wr.dv 0) (Wr.aB (Wr.aB (Wr.dv 4) Wr.aq) Wr.aq)))) (fun c=>(Wr.dv 0))) (Wr.aU Wr.ak))))) (Wr.aD (Wr.aK Wr.d7)) Wr.aJ)
  (Wr.aD (Wr.aK (Wr.iJ hr.units (Wr.fL B.sorted (Wr.aj (Wr.fX ["_law_one"] rfl (Wr.cg (Wr.aB (Wr.aB (Wr.dv 3) Wr.aq) Wr.aq)) (fun c=>(Wr.aG (i:=0) jC rfl (by first | exact Or.inl rfl | exact Or.inr rfl))) (fun c=>(Wr.cT (Wr.jw hr.units (Wr.dv 0) (Wr.aB (Wr.aB (Wr.dv 4) Wr.aq) Wr.aq)))) (fun c=>(Wr.dv 0))) Wr.ak)) (Wr.fL B.sorted (Wr.aj (Wr.aU (Wr.aj (Wr.dv 1) (Wr.aj (Wr.dv 2) Wr.ak))) Wr.ak)))))))))))))),bC h ?_⟩
 rintro ds P ⟨n,us,a,b,d,rfl,n1,n16,lu,okw,a0,a1,b0,b1,ne,ok,q⟩
 have okn:=okw.okN
 have po:=gO (n:=n) (by omega) (by omega:us.length<=100) okn
 have mr:∀ F B:List Int,b∈rsI (adj us F B) n.toNat a↔Rt (adj us F B) a b:=fun F B=>by
  rw [dH]
  exact⟨fun z=>z.2,fun z=>⟨⟨b0,by omega⟩,z⟩⟩
 have lu2:(us.map pD).length=us.length:=List.length_map ..
 have lr:∀ F B:List Int,(rsI (adj us F B) n.toNat a).length<=16:=fun F B=>by have:=rs_len (adj us F B) n.toNat a; omega
 rcases ok with ⟨r,rfl⟩ | ⟨r,v,hv,nv,rfl⟩ | ⟨r,allP,k,hk,nk,rfl⟩ | ⟨r,allP,all,w1,w2,W1,W2,ap,vp,rfl⟩
 ·refine⟨[.im (aP n us),.im (.int a),.im (.int b),.sh (.tuple [.str "apart",iD (rsI (adj us [] []) n.toNat a)]),.any,.any,.any],by show [dI (aP n us),.im (.int a),.im (.int b),_,.any,.any,.any]=_; rw [bD]; rfl,?_⟩
  refine bA (A:=True) (bA (A:=True) ⟨.str "apart",rfl,bA (A:=True) ?_⟩)
  refine⟨(show 0<=1000 by decide),(show 0<=1000 by decide),n,us,a,[],[],rfl,n1,n16,by omega,okn,a0,a1,?_⟩
  refine⟨rfl,bI _,?_⟩
  refine iteP (c:=!(((rsI (adj us [] []) n.toNat a).map PyData.int).any fun e=>PyData.eqv e (.int b))) (by rw [Dl.any_ints,decide_eq_false fun z=>r ((mr [] []).mp z)]; rfl) ?_
  exact⟨_,rfl,cD (B:=True) (cD (B:=True) ⟨_,rfl,_,rfl,by have:=lr [] []; omega,cD (B:=True) ⟨_,rfl,okD_iD _,okD_iD _,rfl,by
   show P (.bool (PyData.eqv (iD (rsI (adj us [] []) n.toNat a)) (iD (rsI (adj us [] []) n.toNat a))))
   rw [self_eqv]
   exact q⟩⟩)⟩
 ·refine⟨[.im (aP n us),.im (.int a),.im (.int b),.sh (.tuple [.str "place",.int ((v:Nat):Int),iD (rsI (adj us [] [((v:Nat):Int)]) n.toNat a)]),.any,.any,.any],by show [dI (aP n us),.im (.int a),.im (.int b),_,.any,.any,.any]=_; rw [bD]; rfl,?_⟩
  refine bA (A:=True) (bA (A:=True) ⟨.str "place",rfl,bA (A:=True) ?_⟩)
  refine⟨(show 0<=1000 by decide),(show 0<=1000 by decide),n,us,a,[],[],rfl,n1,n16,by omega,okn,a0,a1,?_⟩
  refine⟨rfl,bI _,?_⟩
  refine iteN (c:=!(((rsI (adj us [] []) n.toNat a).map PyData.int).any fun e=>PyData.eqv e (.int b))) (by rw [Dl.any_ints,decide_eq_true ((mr [] []).mpr r)]; rfl) ?_
  refine⟨n,us,a,b,true,rfl,n1,n16,lu,okn,a0,a1,b0,b1,ne,?_⟩
  have hvn:v<n.toNat:=by have:=(cB.mp hv).1; omega
  refine⟨_,rfl,rfl,iteP (c:=!(kvD (sidM n us a b true)).isEmpty) (by rw [sid_t,kv_some hvn (jz.mpr ⟨hv,nv⟩)]; rfl) ?_⟩
  refine⟨"place",((v:Nat):Int),rsI (adj us [] [((v:Nat):Int)]) n.toNat a,sidM n us a b true,rfl,?_,?_,?_,?_,rfl,q⟩
  ·rw [sid_t]; exact Nat.le_trans jU (by omega)
  ·have:=lr [] [((v:Nat):Int)]; omega
  ·rw [sid_t]; exact has_tab hvn (jz.mpr ⟨hv,nv⟩)
  ·rw [sid_t]; exact get_tab hvn (jz.mpr ⟨hv,nv⟩)
 ·refine⟨[.im (aP n us),.im (.int a),.im (.int b),.sh (.tuple [.str "tie",.int ((k:Nat):Int),iD (rsI (adj us [((k:Nat):Int)] []) n.toNat a)]),.any,.any,.any],by show [dI (aP n us),.im (.int a),.im (.int b),_,.any,.any,.any]=_; rw [bD]; rfl,?_⟩
  refine bA (A:=True) (bA (A:=True) ⟨.str "tie",rfl,bA (A:=True) ?_⟩)
  refine⟨(show 0<=1000 by decide),(show 0<=1000 by decide),n,us,a,[],[],rfl,n1,n16,by omega,okn,a0,a1,?_⟩
  refine⟨rfl,bI _,?_⟩
  refine iteN (c:=!(((rsI (adj us [] []) n.toNat a).map PyData.int).any fun e=>PyData.eqv e (.int b))) (by rw [Dl.any_ints,decide_eq_true ((mr [] []).mpr r)]; rfl) ?_
  refine⟨n,us,a,b,true,rfl,n1,n16,lu,okn,a0,a1,b0,b1,ne,?_⟩
  refine⟨_,rfl,rfl,iteN (c:=!(kvD (sidM n us a b true)).isEmpty) (by rw [sid_t,kv_none fun v hv=>Bool.eq_false_iff.mpr fun z=>(jz.mp z).2 (allP _ (jz.mp z).1)]; rfl) ?_⟩
  refine⟨n,us,a,b,false,rfl,n1,n16,lu,okn,a0,a1,b0,b1,ne,?_⟩
  refine⟨_,rfl,rfl,iteP (c:=!(kvD (sidM n us a b false)).isEmpty) (by rw [sid_f,kv_some hk (pT_iff.mpr nk)]; rfl) ?_⟩
  refine⟨"tie",((k:Nat):Int),rsI (adj us [((k:Nat):Int)] []) n.toNat a,sidM n us a b false,rfl,?_,?_,?_,?_,rfl,q⟩
  ·rw [sid_f]; exact Nat.le_trans jU (by omega)
  ·have:=lr [((k:Nat):Int)] []; omega
  ·rw [sid_f]; exact has_tab hk (pT_iff.mpr nk)
  ·rw [sid_f]; exact get_tab hk (pT_iff.mpr nk)
 ·refine⟨[.im (aP n us),.im (.int a),.im (.int b),.sh (.tuple [.str "ways",dz (some w1),dz (some w2)]),.any,.any,.any],by show [dI (aP n us),.im (.int a),.im (.int b),_,.any,.any,.any]=_; rw [bD]; rfl,?_⟩
  refine bA (A:=True) (bA (A:=True) ⟨.str "ways",rfl,bA (A:=True) ?_⟩)
  refine⟨(show 0<=1000 by decide),(show 0<=1000 by decide),n,us,a,[],[],rfl,n1,n16,by omega,okn,a0,a1,?_⟩
  refine⟨rfl,bI _,?_⟩
  refine iteN (c:=!(((rsI (adj us [] []) n.toNat a).map PyData.int).any fun e=>PyData.eqv e (.int b))) (by rw [Dl.any_ints,decide_eq_true ((mr [] []).mpr r)]; rfl) ?_
  refine⟨n,us,a,b,true,rfl,n1,n16,lu,okn,a0,a1,b0,b1,ne,?_⟩
  refine⟨_,rfl,rfl,iteN (c:=!(kvD (sidM n us a b true)).isEmpty) (by rw [sid_t,kv_none fun v hv=>Bool.eq_false_iff.mpr fun z=>(jz.mp z).2 (allP _ (jz.mp z).1)]; rfl) ?_⟩
  refine⟨n,us,a,b,false,rfl,n1,n16,lu,okn,a0,a1,b0,b1,ne,?_⟩
  refine⟨_,rfl,rfl,iteN (c:=!(kvD (sidM n us a b false)).isEmpty) (by rw [sid_f,kv_none fun k hk=>Bool.eq_false_iff.mpr fun z=>pT_iff.mp z (all k)]; rfl) ?_⟩
  have f1:=wy_few po ⟨a0,by omega⟩ W1
  have f2:=wy_few po ⟨a0,by omega⟩ W2
  have g1:=wy_len W1
  have g2:=wy_len W2
  refine⟨_,rfl,bA (A:=True) ⟨_,rfl,n,us,a,b,w1,rfl,by omega,okw,W1,by omega,bA (A:=True) ⟨_,rfl,n,us,a,b,w2,rfl,by omega,okw,W2,by omega,bA (A:=True) ?_⟩⟩⟩
  refine⟨_,rfl,_,rfl,?_⟩
  refine jh w1.2 PyData.int (fun k=>decide (k∈w2.2)) PyData.int .imm rfl (by omega) (fun k hk A B hA hB=>?_) ?_
  ·refine⟨_,rfl,_,rfl,rfl,bI _,?_⟩
   show if ((w2.2.map PyData.int).any fun e=>PyData.eqv e (.int k))=true then _ else _
   rw [Dl.any_ints]
   exact gB (fun c=>⟨rfl,hA c⟩) (fun c=>hB (Bool.eq_false_iff.mpr c))
  have e0:w1.2.filter (fun k=>decide (k∈w2.2))=[]:=List.filter_eq_nil_iff.mpr fun k hk z=>ap k hk (of_decide_eq_true z)
  rw [e0]
  refine⟨(show 0<=1000 by decide),rfl,rfl,?_⟩
  refine⟨_,rfl,_,rfl,?_⟩
  refine jh w1.1 PyData.int (fun k=>decide (k∈w2.1)) PyData.int .imm rfl (by omega) (fun k hk A B hA hB=>?_) ?_
  ·refine⟨_,rfl,_,rfl,rfl,bI _,?_⟩
   show if ((w2.1.map PyData.int).any fun e=>PyData.eqv e (.int k))=true then _ else _
   rw [Dl.any_ints]
   exact gB (fun c=>⟨rfl,hA c⟩) (fun c=>hB (Bool.eq_false_iff.mpr c))
  have lf:(w1.1.filter fun k=>decide (k∈w2.1)).length<=w1.1.length:=List.length_filter_le _ _
  refine⟨w1.1.filter fun k=>decide (k∈w2.1),rfl,by omega,fun out pm so=>⟨(show 2<=1000 by decide),[a,b],rfl,(show 2<64 by decide),fun o2 pm2 so2=>⟨okD_iD _,okD_iD _,rfl,?_⟩⟩⟩
  have e:out=o2:=two_sorted ((wy_nd W1).filter _) ne (fun x=>by
   rw [List.mem_filter,decide_eq_true_eq]
   exact⟨fun z=>vp x z.1 z.2,fun z=>by
    rcases z with rfl | rfl
    ·exact⟨(wy_st W1).1,(wy_st W2).1⟩
    ·exact⟨(wy_st W1).2,(wy_st W2).2⟩⟩) pm so pm2 so2
  subst e
  show P (.bool (PyData.eqv (iD out) (iD out)))
  rw [self_eqv]
  exact q
end
noncomputable def Sh (k m:Nat) (d:D):Prop:=d.showable=true/\d.leavesShort 40=true/\d.depth<=k/\d.bulk<=m
instance (k m:Nat) (d:D):Decidable (Sh k m d):=by unfold Sh; exact inferInstance
theorem Sh.mono {k m k' m':Nat}{d:D} (h:Sh k m d) (h1:k<=k') (h2:m<=m'):Sh k' m' d:=⟨h.1,h.2.1,Nat.le_trans h.2.2.1 h1,Nat.le_trans h.2.2.2 h2⟩
theorem Sh.int {k m:Nat}{i:Int} (h0:-1000<=i) (h1:i<=1000):Sh k m (.int i):=by
 refine⟨?_,?_,Nat.zero_le _,Nat.zero_le _⟩
 ·simp only [PyData.showable,decide_eq_true_eq]
  have:=Nat.log2_le_self i.natAbs
  omega
 ·simp only [PyData.leavesShort,decide_eq_true_eq]
  have:=PyData.shown_int_le (i:=i) (by omega)
  omega
theorem sh_all {k m:Nat}:∀ {ds:List D},(∀ d∈ds,Sh k m d)->PyData.showableAll ds=true/\PyData.leavesShortAll 40 ds=true/\PyData.depthAll ds<=k/\PyData.bulkAll ds<=ds.length * (m+1)
 | [],_=>⟨rfl,rfl,Nat.zero_le _,Nat.zero_le _⟩
 | d::ds,h=>by
  obtain⟨h1,h2,h3,h4⟩:=sh_all (ds:=ds) fun e he=>h e (List.mem_cons_of_mem _ he)
  obtain⟨g1,g2,g3,g4⟩:=h d List.mem_cons_self
  refine⟨?_,?_,?_,?_⟩
  ·show (d.showable&&PyData.showableAll ds)=true
   rw [g1,h1]; rfl
  ·show (d.leavesShort 40&&PyData.leavesShortAll 40 ds)=true
   rw [g2,h2]; rfl
  ·show max d.depth (PyData.depthAll ds)<=k
   omega
  ·show d.bulk+1+PyData.bulkAll ds<=(ds.length+1) * (m+1)
   rw [Nat.add_mul]
   omega
theorem Sh.list {k m c:Nat}{ds:List D} (h:∀ d∈ds,Sh k m d) (hc:ds.length * (m+1)<=c):Sh (k+1) c (.list ds):=by
 obtain⟨h1,h2,h3,h4⟩:=sh_all h
 exact⟨h1,h2,Nat.succ_le_succ h3,Nat.le_trans h4 hc⟩
theorem Sh.tuple {k m c:Nat}{ds:List D} (h:∀ d∈ds,Sh k m d) (hc:ds.length * (m+1)<=c):Sh (k+1) c (.tuple ds):=by
 obtain⟨h1,h2,h3,h4⟩:=sh_all h
 exact⟨h1,h2,Nat.succ_le_succ h3,Nat.le_trans h4 hc⟩
theorem Sh.ok {k m:Nat}{d:D} (h:Sh k m d) (hk:k<=50) (hm:m<=100000):okRA d:=by
 obtain⟨h1,h2,h3,h4⟩:=h
 refine⟨h1,by omega,?_⟩
 have b:=PyData.shown_le_bulk 40 (by decide) d h2
 have h24:=sizeLine_eq
 have:(40+2) * d.bulk<=42 * 100000:=Nat.mul_le_mul (by decide) (by omega)
 omega
open Classical in
noncomputable def fC (n:Int) (us:List Tie) (a b:Int):Str:=if Rt (adj us [] []) a b then (if ∀ v∈inn n a b,Rt (adj us [] [v]) a b then (if ∀ k:Nat,Rt (adj us [((k:Nat):Int)] []) a b then "ways" else "tie") else "place") else "apart"
theorem sort_sym (n:Int) (us:List Tie) (a b:Int):fC n us a b=fC n us b a:=by
 have h:∀ F:List Int,Rt (adj us F []) a b↔Rt (adj us F []) b a:=fun F=>⟨Rt.sym kE,Rt.sym kE⟩
 have hb:∀ v,v≠a/\v≠b->(Rt (adj us [] [v]) a b↔Rt (adj us [] [v]) b a):=fun v hv=>by
  rw [← rt_bar (Ne.symm hv.1),← rt_bar (Ne.symm hv.2)]
  exact⟨Rt.sym kE,Rt.sym kE⟩
 have h1:=h []
 have h2:(∀ k:Nat,Rt (adj us [((k:Nat):Int)] []) a b)↔∀ k:Nat,Rt (adj us [((k:Nat):Int)] []) b a:=⟨fun z k=>(h _).mp (z k),fun z k=>(h _).mpr (z k)⟩
 have hi:∀ v,v∈inn n a b↔v∈inn n b a:=fun v=>by
  rw [cB,cB]
  exact⟨fun z=>⟨z.1,z.2.2,z.2.1⟩,fun z=>⟨z.1,z.2.2,z.2.1⟩⟩
 have h3:(∀ v∈inn n a b,Rt (adj us [] [v]) a b)↔∀ v∈inn n b a,Rt (adj us [] [v]) b a:=⟨fun z v hv=>(hb v (cB.mp ((hi v).mpr hv)).2).mp (z v ((hi v).mpr hv)),fun z v hv=>(hb v (cB.mp hv).2).mpr (z v ((hi v).mp hv))⟩
 unfold fC
 by_cases r:Rt (adj us [] []) a b
 ·rw [if_pos r,if_pos (h1.mp r)]
  by_cases r3:∀ v∈inn n a b,Rt (adj us [] [v]) a b
  ·rw [if_pos r3,if_pos (h3.mp r3)]
   by_cases r2:∀ k:Nat,Rt (adj us [((k:Nat):Int)] []) a b
   ·rw [if_pos r2,if_pos (h2.mp r2)]
   ·rw [if_neg r2,if_neg fun z=>r2 (h2.mpr z)]
  ·rw [if_neg r3,if_neg fun z=>r3 (h3.mpr z)]
 ·rw [if_neg r,if_neg fun z=>r (h1.mpr z)]
noncomputable def SmallI (l:List Int):Prop:=l.length<=100/\∀ x∈l,-1000<=x/\x<=1000
theorem lM {l:List Int} (h:SmallI l):Sh 1 200 (iD l):=Sh.list (k:=0) (m:=0) (fun d hd=>by
 obtain⟨x,hx,rfl⟩:=List.mem_map.mp hd
 exact Sh.int (h.2 x hx).1 (h.2 x hx).2) (by rw [List.length_map]; have:=h.1; omega)
theorem sh_two {p k:List Int} (hp:SmallI p) (hk:SmallI k):Sh 2 500 (.tuple [iD p,iD k]):=Sh.tuple (k:=1) (m:=200) (fun d hd=>by
 simp only [List.mem_cons,List.not_mem_nil,or_false] at hd
 rcases hd with rfl | rfl
 ·exact lM hp
 ·exact lM hk) (by show 2 * (200+1)<=500; decide)
theorem sh_word:∀ s:Str,(s="ways"\/s="tie"\/s="apart"\/s="place")->Sh 2 500 (.str s):=fun s h=>by
 rcases h with rfl | rfl | rfl | rfl <;> decide +kernel
theorem by_form {n:Int}{us:List Tie}{a b:Int}{d:D} (n1:1<=n) (n16:n<=16) (lu:us.length<=39) (okn:OkN n us) (a0:0<=a) (a1:a<n) (h:ByPOk n us a b d):∃ ds,d=.tuple (.str (fC n us a b)::ds)/\LastD ds/\okRA d:=by
 have po:=gO (n:=n) (by omega) (by omega:us.length<=100) okn
 have rs:∀ F B:List Int,SmallI (rsI (adj us F B) n.toNat a):=fun F B=>⟨by have:=rs_len (adj us F B) n.toNat a; omega,fun x hx=>by have:=(dH.mp hx).1; omega⟩
 have wy:∀ w:List Int×List Int,Wy (bw us) a w.1 w.2 b->SmallI w.1/\SmallI w.2:=fun w W=>by
  have f1:=wy_few po ⟨a0,by omega⟩ W
  have g1:=wy_len W
  exact⟨⟨by omega,fun x hx=>by have:=wy_rngP po ⟨a0,by omega⟩ W x hx; omega⟩,⟨by omega,fun x hx=>by have:=wy_rng W x hx; omega⟩⟩
 rcases h with ⟨r,rfl⟩ | ⟨r,v,hv,nv,rfl⟩ | ⟨r,allP,k,hk,nk,rfl⟩ | ⟨r,allP,all,w1,w2,W1,W2,ap,vp,rfl⟩
 ·have e:fC n us a b="apart":=by unfold fC; rw [if_neg r]
  rw [e]
  refine⟨[iD _],rfl,.inl ⟨_,rfl,(rs [] []).1⟩,?_⟩
  refine (Sh.tuple (k:=2) (m:=500) (c:=5000) (fun d hd=>?_) (by show 2 * (500+1)<=5000; decide)).ok (by decide) (by decide)
  simp only [List.mem_cons,List.not_mem_nil,or_false] at hd
  rcases hd with rfl | rfl
  ·exact sh_word _ (.inr (.inr (.inl rfl)))
  ·exact (lM (rs [] [])).mono (by decide) (by decide)
 ·have e:fC n us a b="place":=by unfold fC; rw [if_pos r,if_neg fun z=>nv (z _ hv)]
  rw [e]
  refine⟨[.int (((v:Nat)):Int),iD _],rfl,.inr (.inl ⟨_,_,rfl,(rs [] [((v:Nat):Int)]).1⟩),?_⟩
  refine (Sh.tuple (k:=2) (m:=500) (c:=5000) (fun d hd=>?_) (by show 3 * (500+1)<=5000; decide)).ok (by decide) (by decide)
  simp only [List.mem_cons,List.not_mem_nil,or_false] at hd
  rcases hd with rfl | rfl | rfl
  ·exact sh_word _ (.inr (.inr (.inr rfl)))
  ·exact Sh.int (by omega) (by have:=(cB.mp hv).1; omega)
  ·exact (lM (rs [] [((v:Nat):Int)])).mono (by decide) (by decide)
 ·have e:fC n us a b="tie":=by unfold fC; rw [if_pos r,if_pos allP,if_neg fun z=>nk (z k)]
  rw [e]
  refine⟨[.int (((k:Nat)):Int),iD _],rfl,.inr (.inl ⟨_,_,rfl,(rs [((k:Nat):Int)] []).1⟩),?_⟩
  refine (Sh.tuple (k:=2) (m:=500) (c:=5000) (fun d hd=>?_) (by show 3 * (500+1)<=5000; decide)).ok (by decide) (by decide)
  simp only [List.mem_cons,List.not_mem_nil,or_false] at hd
  rcases hd with rfl | rfl | rfl
  ·exact sh_word _ (.inr (.inl rfl))
  ·exact Sh.int (by omega) (by omega)
  ·exact (lM (rs [((k:Nat):Int)] [])).mono (by decide) (by decide)
 ·have e:fC n us a b="ways":=by unfold fC; rw [if_pos r,if_pos allP,if_pos all]
  rw [e]
  obtain⟨s1,s2⟩:=wy w1 W1
  obtain⟨s3,s4⟩:=wy w2 W2
  refine⟨[dz (some w1),dz (some w2)],rfl,.inr (.inr ⟨_,_,_,_,rfl,s1.1,s2.1,s3.1,s4.1⟩),?_⟩
  refine (Sh.tuple (k:=2) (m:=500) (c:=5000) (fun d hd=>?_) (by show 3 * (500+1)<=5000; decide)).ok (by decide) (by decide)
  simp only [List.mem_cons,List.not_mem_nil,or_false] at hd
  rcases hd with rfl | rfl | rfl
  ·exact sh_word _ (.inl rfl)
  ·exact sh_two s1 s2
  ·exact sh_two s3 s4
theorem by_imm {n:Int}{us:List Tie}{a b:Int}{d:D} (h:ByPOk n us a b d):¬ fQ d=true:=by
 rcases h with ⟨_,rfl⟩ | ⟨_,v,_,_,rfl⟩ | ⟨_,_,k,_,_,rfl⟩ | ⟨_,_,_,w1,w2,_,_,_,_,rfl⟩ <;> exact fun z=>nomatch z
theorem turns_at (n:Int):∃ c:Int,atI [PyData.int 0,.int 6,.int 2] ((if decide (1<n)=true then 1 else 0)+(if decide (9<n)=true then 1 else 0))=some (.int c)/\0<=c/\c<=6/\(0<c->1<n):=by
 by_cases h1:1<n
 ·rw [decide_eq_true h1,if_pos rfl]
  by_cases h2:9<n
  ·rw [decide_eq_true h2,if_pos rfl]
   exact⟨2,rfl,by decide,by decide,fun _=>h1⟩
  ·rw [decide_eq_false h2,if_neg Bool.false_ne_true]
   exact⟨6,rfl,by decide,by decide,fun _=>h1⟩
 ·rw [decide_eq_false h1,if_neg Bool.false_ne_true,decide_eq_false (show ¬ 9<n by omega),if_neg Bool.false_ne_true]
  exact⟨0,rfl,by decide,by decide,fun z=>absurd z (by decide)⟩
section
variable {P:Program}{w:World}{K:PySem.W.Frag}{mg:Str->Option Value}{base:Heap}{f:Addr}{fd:FuncData}
theorem sc_law:FnScope ["_law_script","_law_pen","_law_turn","_law_web_here","_law_k","_law_a","_law_b","_law_told","_law_shown","_law_back"] ["_law_script"] (au (top 44)):=⟨rfl,rfl,rfl,by decide +kernel,rfl,by decide +kernel,by decide +kernel⟩
theorem ok_law (F:Fun K "law" "law" (top 44) f fd) (B:Dl.Bn mg) (m_repr:mg "repr"=none) (SY:Dl.SysIn base) (C__law_web:Dl.Cal P w K mg base 3 "_law_web" ["_law_pen","_law_few","_law_great"] (spP (CP K) fWeb)) (C__law_pair:Dl.Cal P w K mg base 2 "_law_pair" ["_law_pen","_law_n"] (spP (CP K) fPair)) (C_by_places:Dl.Cal P w K mg base 8 "by_places" ["web","a","b"] (spD fByP)) (C__law_right:Dl.Cal P w K mg base 3 "_law_right" ["_law_web_here","_law_a","_law_b","_law_told"] (spD fRightP)):FnOk P w K mg base CX0 9 f fd ["_law_script"] (spLaw K):=by
 refine F.ok sc_law (fun vs H Q E h=>by obtain⟨a,ns,rfl,_⟩:=h; rfl) (fun cdv A outer s H vs Q E hr h=>?_)
 obtain⟨sc,ns,rfl,hS,q⟩:=h
 have nd:=sc_law.nd
 refine⟨_,(bR (iC (i:=1) nd rfl (by first | exact Or.inl rfl | exact Or.inr rfl) (pe_lst (bK (pv 0) (bK aV (bK aV dG))))) (Wr.WDSs.h (Wr.ao (Wr.bT PassesOwn.never rfl (Wr.bG B.range (Wr.aj Wr.aq Wr.ak)) (Wr.aG (i:=2) nd rfl (by first | exact Or.inl rfl | exact Or.inr rfl)) (Wr.ao (Wr.aN none (i:=3) nd rfl (by first | exact Or.inl rfl | exact Or.inr rfl) (Wr.dcP C__law_web hr (Wr.wv 1) (Wr.aj Wr.aq (Wr.aj Wr.aq Wr.ak))))
  (Wr.ao (Wr.bT PassesOwn.never rfl (Wr.bG B.range (Wr.aj (Wr.aB (Wr.aU (Wr.aj Wr.aq (Wr.aj Wr.aq (Wr.aj Wr.aq Wr.ak)))) (Wr.cA (Wr.j4 B.int boot_int (Wr.aj (Wr.pd_gt (Wr.aB (Wr.dv 3) Wr.aq) Wr.aq) Wr.ak)) (Wr.j4 B.int boot_int (Wr.aj (Wr.pd_gt (Wr.aB (Wr.dv 3) Wr.aq) Wr.aq) Wr.ak)))) Wr.ak)) (Wr.aG (i:=4) nd rfl (by first | exact Or.inl rfl | exact Or.inr rfl)) (Wr.ao (Wr.ds_asg (Wr.dcP C__law_pair hr (Wr.wv 1) (Wr.aj (Wr.aB (Wr.dv 3) Wr.aq) Wr.ak)) (Wr.fP (n:=2) rfl (Wr.bx (Wr.aG (i:=5) nd rfl (by first | exact Or.inl rfl | exact Or.inr rfl)) (Wr.bx (Wr.aG (i:=6) nd rfl (by first | exact Or.inl rfl | exact Or.inr rfl)) Wr.dF))))
  (Wr.ao (Wr.aN (some 0) (i:=7) nd rfl (by first | exact Or.inl rfl | exact Or.inr rfl) (Wr.dc C_by_places hr (Wr.aj (Wr.dv 3) (Wr.aj (Wr.dv 5) (Wr.aj (Wr.dv 6) Wr.ak)))))
  (Wr.ao (Wr.bJ (Wr.cu (Wr.bV (Wr.dc C__law_right hr (Wr.aj (Wr.dv 3) (Wr.aj (Wr.dv 5) (Wr.aj (Wr.dv 6) (Wr.aj (Wr.dv 7) Wr.ak))))))) (Wr.aD (Wr.aK Wr.d7)) Wr.aJ)
  (Wr.ao (Wr.aN none (i:=8) nd rfl (by first | exact Or.inl rfl | exact Or.inr rfl) (Wr.mF SY hr.gd hr.units m_repr (Wr.aj (Wr.dv 7) Wr.ak)))
  (Wr.ao (Wr.ds_spI (i:=7) (dB call_isinst1 rfl B.isinstance boot_isinstance (bK (fj lF (Wr.wv 7).h (pe_un un_neg aV) (fun _ _=>rfl)) (bK (pe_bltn (v:=.ty "list") rfl B.list boot_list rfl) dG)) (by decide) (by decide) rfl rfl) (fW (pe_bm0 PySem.F.plainAttrs_list PySem.F.slot_list_clear PySem.F.type_list_clear mt_clear (fj lF (Wr.wv 7).h (pe_un un_neg aV) (fun _ _=>rfl)))) (fW (pe_bm0 PySem.F.plainAttrs_list PySem.F.slot_list_clear PySem.F.type_list_clear mt_clear (fj lF (fj lF (Wr.wv 7).h aV (fun _ _=>rfl)) aV (fun _ _=>rfl)))) (fW (pe_bm PySem.F.plainAttrs_list PySem.F.slot_list_append PySem.F.type_list_append j6 (fj lF (fj lF (Wr.wv 7).h aV (fun _ _=>rfl)) aV (fun _ _=>rfl)) (bK aV dG))))
  (Wr.ao (Wr.bJ (Wr.bW hr.units (Wr.mF SY hr.gd hr.units m_repr (Wr.aj (Wr.dc C_by_places hr (Wr.aj (Wr.dv 3) (Wr.aj (Wr.dv 5) (Wr.aj (Wr.dv 6) Wr.ak)))) Wr.ak)) (Wr.dv 8)) (Wr.aD (Wr.aK Wr.d7)) Wr.aJ)
  (Wr.ao (Wr.aN none (i:=9) nd rfl (by first | exact Or.inl rfl | exact Or.inr rfl) (Wr.dc C_by_places hr (Wr.aj (Wr.dv 3) (Wr.aj (Wr.dv 6) (Wr.aj (Wr.dv 5) Wr.ak)))))
  (Wr.ao (Wr.bJ (Wr.wpt (Wr.cM (Wr.bW hr.units (Wr.aB (Wr.dv 9) Wr.aq) (Wr.aB (Wr.dv 7) Wr.aq)) (Wr.dR (Wr.cu (Wr.bV (Wr.dc C__law_right hr (Wr.aj (Wr.dv 3) (Wr.aj (Wr.dv 6) (Wr.aj (Wr.dv 5) (Wr.aj (Wr.dv 9) Wr.ak)))))))))) (Wr.aD (Wr.aK Wr.d7)) Wr.aJ) (Wr.aC [4,5,6,7,8,9] Wr.aJ)))))))))) (Wr.aC [2,3,4,5,6,7,8,9] Wr.aJ))))
  (Wr.aC [2,3,4,5,6,7,8,9] (Wr.aD (Wr.aK Wr.d7)))))),enterM hS q (by decide) ?_⟩
 refine⟨⟨by decide,by decide⟩,rfl,fun (i:Nat) ρ=>ρ=[.any,.pen (CP K),.any,.any,.any,.any,.any,.any,.any,.any],rfl,?_,?_⟩
 rotate_left
 ·rintro ρ rfl
  exact⟨rfl,rfl⟩
 rintro i d ρ hd rfl
 obtain⟨hi,rfl⟩:=cP hd
 refine⟨rfl,9,16,rfl,by decide,by decide,by decide,by decide,fun n us n1 nm lu okw=>?_⟩
 have okn:=okw.okN
 have n16:n<=16:=by omega
 refine dset_of (s:=.im (aP n us)) (by
  show Dl.stK none _ 3 (norm _ (aP n us)) (aP n us)=some (.im (aP n us))
  rw [dD (imm_web n us)]; rfl) ?_
 obtain⟨c,hc,c0,c6,c1⟩:=turns_at n
 refine⟨(show 3<=1000 by decide),.int n,rfl,.int n,rfl,.int c,hc,⟨by omega,by omega⟩,rfl,fun (j:Nat) ρ=>ρ=[.any,.pen (CP K),.im (.int (0+((i:Nat):Int))),.im (aP n us),.any,.any,.any,.any,.any,.any],rfl,?_,?_⟩
 rotate_left
 ·rintro ρ rfl
  rfl
 rintro j d ρ hd rfl
 obtain⟨hj,rfl⟩:=cP hd
 have n2:=c1 (by omega)
 refine⟨rfl,.int n,rfl,n,rfl,by omega,n16,fun x y x0 x1 y0 y1 ne=>⟨rfl,n,us,x,y,rfl,n1,by omega,by omega,okn,x0,x1,y0,y1,ne,?_⟩⟩
 have B1:=by_okP (b:=y) (by omega:(0:Int)<=n) (by omega) (by omega:us.length<=60) okn x0 x1 y1
 have B2:=by_okP (b:=x) (by omega:(0:Int)<=n) (by omega) (by omega:us.length<=60) okn y0 y1 x1
 generalize hD:byP n us x y=D1 at B1 ⊢
 generalize hE:byP n us y x=D2 at B2
 have i1:=by_imm B1
 have i2:=by_imm B2
 obtain⟨ds,e1,last,okr⟩:=by_form n1 n16 (by omega) okn x0 x1 B1
 obtain⟨es,e2,_,_⟩:=by_form n1 n16 (by omega) okn y0 y1 B2
 refine dset_of (s:=.dw 0 D1) ?_ ?_
 ·show Dl.stK (some 0) _ 7 (norm _ D1) D1=_
  rw [gQ i1,gQ i1]
  rfl
 refine⟨n,us,x,y,D1,rfl,n1,n16,by omega,okw,x0,x1,y0,y1,ne,B1,bA (A:=True) ?_⟩
 refine⟨_,_,rfl,okr,?_⟩
 subst e1
 refine⟨0,_,_,rfl,last,fun ds'=>?_⟩
 refine⟨n,us,x,y,rfl,n1,by omega,by omega,okn,x0,x1,y0,y1,ne,?_⟩
 rw [hD]
 refine⟨_,_,rfl,okr,?_⟩
 refine iteN (c:=!decide ((PyData.tuple (.str (fC n us x y)::ds)).shown=(PyData.tuple (.str (fC n us x y)::ds)).shown)) (by rw [decide_eq_true rfl]; rfl) ?_
 refine⟨n,us,y,x,rfl,n1,by omega,by omega,okn,y0,y1,x0,x1,ne.symm,?_⟩
 rw [hE]
 refine dset_of (s:=.sn D2) ?_ ?_
 ·show Dl.stK none _ 9 (norm _ D2) D2=_
  rw [gQ i2,gQ i2]
  rfl
 subst e2
 refine⟨_,dY (j:=0) rfl,_,dY (j:=0) rfl,?_⟩
 refine iteN (c:=!decide (fC n us y x=fC n us x y)) (by rw [decide_eq_true (sort_sym n us y x)]; rfl) ?_
 exact⟨n,us,y,x,_,rfl,n1,n16,by omega,okw,y0,y1,x0,x1,ne.symm,B2,bA (A:=True) rfl⟩
end
theorem len1 {α:Type}:∀ us:List α,us.length=1->∃ a,us=[a]
 | [a],_=>⟨a,rfl⟩
theorem len2 {α:Type}:∀ us:List α,us.length=2->∃ a b,us=[a,b]
 | [a,b],_=>⟨a,b,rfl⟩
theorem len3 {α:Type}:∀ us:List α,us.length=3->∃ a b c,us=[a,b,c]
 | [a,b,c],_=>⟨a,b,c,rfl⟩
theorem len4 {α:Type}:∀ us:List α,us.length=4->∃ a b c d,us=[a,b,c,d]
 | [a,b,c,d],_=>⟨a,b,c,d,rfl⟩
theorem len5 {α:Type}:∀ us:List α,us.length=5->∃ a b c d e,us=[a,b,c,d,e]
 | [a,b,c,d,e],_=>⟨a,b,c,d,e,rfl⟩
theorem aR {K:PySem.W.Frag}{f:Addr}{oc:Value}{od:Option Addr}{fd:FuncData}{sl:Array (Option Value)} (l:K.lookup f=some ⟨oc,od,.func fd,sl⟩):PySem.W.keepIn K (.ref f)=true:=by
 unfold PySem.W.keepIn
 simp only [l]
theorem bf {P:Program}{w:World}{K:PySem.W.Frag}{mg:Str->Option Value}{base:Heap}{k:Nat}{x:Str}{st:Stmt}{f:Addr}{fd:FuncData}{ps:List Str}{sp:Sp} (F:Fun K x x st f fd) (b:Binds K fd ps []) (m:mg x=some (.ref f)) (h:FnOk P w K mg base CX0 k f fd ps sp) :
  Dl.Cal P w K mg base k x ps sp:=⟨f,fd,h,b,F.kp,m⟩
theorem all_mk {l:PySem.W.OpenLaw}{w:World}{K:PySem.W.Frag}{h:Heap}{mg:Str->Option Value}{fa f0 f1 f2 f3 f4 f5 f6 f7 f8 f9 f10 f11 f12 f13 f14 f15 f16 f17 f18 f19 f20 f21 f22 f23 f24 f25 f26 f27 f28 f29 f30 f31 f32 f33 f34:Addr} (X:K.In h) (G:h.Ns mainGlobals mg) (hfa:mg "law"=some (.ref fa))
  {od0 an0 od1 an1 od2 an2 od3 an3 od4 an4 od5 an5 od6 an6 od7 an7 od8 an8 od9 an9 od10 an10 od11 an11 od12 an12 od13 an13 od14 an14 od15 an15 od16 an16 od17 an17 od18 an18 od19 an19 od20 an20 od21 an21 od22 an22 od23 an23 od24 an24 od25 an25 od26 an26 od27 an27 od28 an28 od29 an29 od30 an30 od31 an31 od32 an32 od33 an33 od34 an34:Option Addr}{sl0 sl1 sl2 sl3 sl4 sl5 sl6 sl7 sl8 sl9 sl10 sl11 sl12 sl13 sl14 sl15 sl16 sl17 sl18 sl19 sl20 sl21 sl22 sl23 sl24 sl25 sl26 sl27 sl28 sl29 sl30 sl31 sl32 sl33 sl34:Array (Option Value)}{oc0 kV0 dc0 pm0 cd0 ct0 oc1 kV1 dc1 pm1 cd1 ct1 oc2 kV2 dc2 pm2 cd2 ct2 oc3 kV3 dc3 pm3 cd3 ct3 oc4 kV4 dc4 pm4 cd4 ct4 oc5 kV5 dc5 pm5 cd5 ct5 oc6 kV6 dc6 pm6 cd6 ct6 oc7 kV7 dc7 pm7 cd7 ct7 oc8 kV8 dc8 pm8 cd8 ct8 oc9 kV9 dc9 pm9 cd9 ct9 oc10 kV10 dc10 pm10 cd10 ct10 oc11 kV11 dc11 pm11 cd11 ct11 oc12 kV12 dc12 pm12 cd12 ct12 oc13 kV13 dc13 pm13 cd13 ct13 oc14 kV14 dc14 pm14 cd14 ct14 oc15 kV15 dc15 pm15 cd15 ct15 oc16 kV16 dc16 pm16 cd16 ct16 oc17 kV17 dc17 pm17 cd17 ct17 oc18 kV18 dc18 pm18 cd18 ct18 oc19 kV19 dc19 pm19 cd19 ct19 oc20 kV20 dc20 pm20 cd20 ct20 oc21 kV21 dc21 pm21 cd21 ct21 oc22 kV22 dc22 pm22 cd22 ct22 oc23 kV23 dc23 pm23 cd23 ct23 oc24 kV24 dc24 pm24 cd24 ct24 oc25 kV25 dc25 pm25 cd25 ct25 oc26 kV26 dc26 pm26 cd26 ct26 oc27 kV27 dc27 pm27 cd27 ct27 oc28 kV28 dc28 pm28 cd28 ct28 oc29 kV29 dc29 pm29 cd29 ct29 oc30 kV30 dc30 pm30 cd30 ct30 oc31 kV31 dc31 pm31 cd31 ct31 oc32 kV32 dc32 pm32 cd32 ct32 oc33 kV33 dc33 pm33 cd33 ct33 oc34 kV34 dc34 pm34 cd34 ct34:Value}
  (a0:PySem.W.nsIn K mainGlobals "is_whole"=some (some (.ref f0))) (l0:K.lookup f0=some ⟨oc0,od0,.func (PySem.W.fnOf "is_whole" "is_whole" (aO (top 4)) (aM (top 4)) (au (top 4)) .none kV0 dc0 pm0 an0 cd0 ct0),sl0⟩) (c0:PySem.W.codeIn K cd0 "is_whole"=true)
  (a1:PySem.W.nsIn K mainGlobals "is_below"=some (some (.ref f1))) (l1:K.lookup f1=some ⟨oc1,od1,.func (PySem.W.fnOf "is_below" "is_below" (aO (top 5)) (aM (top 5)) (au (top 5)) .none kV1 dc1 pm1 an1 cd1 ct1),sl1⟩) (c1:PySem.W.codeIn K cd1 "is_below"=true)
  (a2:PySem.W.nsIn K mainGlobals "is_place"=some (some (.ref f2))) (l2:K.lookup f2=some ⟨oc2,od2,.func (PySem.W.fnOf "is_place" "is_place" (aO (top 6)) (aM (top 6)) (au (top 6)) .none kV2 dc2 pm2 an2 cd2 ct2),sl2⟩) (c2:PySem.W.codeIn K cd2 "is_place"=true)
  (a3:PySem.W.nsIn K mainGlobals "check_place"=some (some (.ref f3))) (l3:K.lookup f3=some ⟨oc3,od3,.func (PySem.W.fnOf "check_place" "check_place" (aO (top 7)) (aM (top 7)) (au (top 7)) .none kV3 dc3 pm3 an3 cd3 ct3),sl3⟩) (c3:PySem.W.codeIn K cd3 "check_place"=true)
  (a4:PySem.W.nsIn K mainGlobals "check_two_places"=some (some (.ref f4))) (l4:K.lookup f4=some ⟨oc4,od4,.func (PySem.W.fnOf "check_two_places" "check_two_places" (aO (top 8)) (aM (top 8)) (au (top 8)) .none kV4 dc4 pm4 an4 cd4 ct4),sl4⟩) (c4:PySem.W.codeIn K cd4 "check_two_places"=true)
  (a5:PySem.W.nsIn K mainGlobals "steps_of_web"=some (some (.ref f5))) (l5:K.lookup f5=some ⟨oc5,od5,.func (PySem.W.fnOf "steps_of_web" "steps_of_web" (aO (top 10)) (aM (top 10)) (au (top 10)) .none kV5 dc5 pm5 an5 cd5 ct5),sl5⟩) (c5:PySem.W.codeIn K cd5 "steps_of_web"=true)
  (a6:PySem.W.nsIn K mainGlobals "search"=some (some (.ref f6))) (l6:K.lookup f6=some ⟨oc6,od6,.func (PySem.W.fnOf "search" "search" (aO (top 11)) (aM (top 11)) (au (top 11)) .none kV6 dc6 pm6 an6 cd6 ct6),sl6⟩) (c6:PySem.W.codeIn K cd6 "search"=true)
  (a7:PySem.W.nsIn K mainGlobals "trace"=some (some (.ref f7))) (l7:K.lookup f7=some ⟨oc7,od7,.func (PySem.W.fnOf "trace" "trace" (aO (top 12)) (aM (top 12)) (au (top 12)) .none kV7 dc7 pm7 an7 cd7 ct7),sl7⟩) (c7:PySem.W.codeIn K cd7 "trace"=true)
  (a8:PySem.W.nsIn K mainGlobals "part_of"=some (some (.ref f8))) (l8:K.lookup f8=some ⟨oc8,od8,.func (PySem.W.fnOf "part_of" "part_of" (aO (top 13)) (aM (top 13)) (au (top 13)) .none kV8 dc8 pm8 an8 cd8 ct8),sl8⟩) (c8:PySem.W.codeIn K cd8 "part_of"=true)
  (a9:PySem.W.nsIn K mainGlobals "parts"=some (some (.ref f9))) (l9:K.lookup f9=some ⟨oc9,od9,.func (PySem.W.fnOf "parts" "parts" (aO (top 14)) (aM (top 14)) (au (top 14)) .none kV9 dc9 pm9 an9 cd9 ct9),sl9⟩) (c9:PySem.W.codeIn K cd9 "parts"=true)
  (a10:PySem.W.nsIn K mainGlobals "way"=some (some (.ref f10))) (l10:K.lookup f10=some ⟨oc10,od10,.func (PySem.W.fnOf "way" "way" (aO (top 15)) (aM (top 15)) (au (top 15)) .none kV10 dc10 pm10 an10 cd10 ct10),sl10⟩) (c10:PySem.W.codeIn K cd10 "way"=true)
  (a11:PySem.W.nsIn K mainGlobals "without_ties"=some (some (.ref f11))) (l11:K.lookup f11=some ⟨oc11,od11,.func (PySem.W.fnOf "without_ties" "without_ties" (aO (top 17)) (aM (top 17)) (au (top 17)) .none kV11 dc11 pm11 an11 cd11 ct11),sl11⟩) (c11:PySem.W.codeIn K cd11 "without_ties"=true)
  (a12:PySem.W.nsIn K mainGlobals "parts_without"=some (some (.ref f12))) (l12:K.lookup f12=some ⟨oc12,od12,.func (PySem.W.fnOf "parts_without" "parts_without" (aO (top 18)) (aM (top 18)) (au (top 18)) .none kV12 dc12 pm12 an12 cd12 ct12),sl12⟩) (c12:PySem.W.codeIn K cd12 "parts_without"=true)
  (a13:PySem.W.nsIn K mainGlobals "steps_along"=some (some (.ref f13))) (l13:K.lookup f13=some ⟨oc13,od13,.func (PySem.W.fnOf "steps_along" "steps_along" (aO (top 20)) (aM (top 20)) (au (top 20)) .none kV13 dc13 pm13 an13 cd13 ct13),sl13⟩) (c13:PySem.W.codeIn K cd13 "steps_along"=true)
  (a14:PySem.W.nsIn K mainGlobals "steps_left"=some (some (.ref f14))) (l14:K.lookup f14=some ⟨oc14,od14,.func (PySem.W.fnOf "steps_left" "steps_left" (aO (top 21)) (aM (top 21)) (au (top 21)) .none kV14 dc14 pm14 an14 cd14 ct14),sl14⟩) (c14:PySem.W.codeIn K cd14 "steps_left"=true)
  (a15:PySem.W.nsIn K mainGlobals "arcs_of_two"=some (some (.ref f15))) (l15:K.lookup f15=some ⟨oc15,od15,.func (PySem.W.fnOf "arcs_of_two" "arcs_of_two" (aO (top 22)) (aM (top 22)) (au (top 22)) .none kV15 dc15 pm15 an15 cd15 ct15),sl15⟩) (c15:PySem.W.codeIn K cd15 "arcs_of_two"=true)
  (a16:PySem.W.nsIn K mainGlobals "two_along"=some (some (.ref f16))) (l16:K.lookup f16=some ⟨oc16,od16,.func (PySem.W.fnOf "two_along" "two_along" (aO (top 23)) (aM (top 23)) (au (top 23)) .none kV16 dc16 pm16 an16 cd16 ct16),sl16⟩) (c16:PySem.W.codeIn K cd16 "two_along"=true)
  (a17:PySem.W.nsIn K mainGlobals "parting_tie"=some (some (.ref f17))) (l17:K.lookup f17=some ⟨oc17,od17,.func (PySem.W.fnOf "parting_tie" "parting_tie" (aO (top 25)) (aM (top 25)) (au (top 25)) .none kV17 dc17 pm17 an17 cd17 ct17),sl17⟩) (c17:PySem.W.codeIn K cd17 "parting_tie"=true)
  (a18:PySem.W.nsIn K mainGlobals "arcs_of_places"=some (some (.ref f18))) (l18:K.lookup f18=some ⟨oc18,od18,.func (PySem.W.fnOf "arcs_of_places" "arcs_of_places" (aO (top 27)) (aM (top 27)) (au (top 27)) .none kV18 dc18 pm18 an18 cd18 ct18),sl18⟩) (c18:PySem.W.codeIn K cd18 "arcs_of_places"=true)
  (a19:PySem.W.nsIn K mainGlobals "joined_again"=some (some (.ref f19))) (l19:K.lookup f19=some ⟨oc19,od19,.func (PySem.W.fnOf "joined_again" "joined_again" (aO (top 28)) (aM (top 28)) (au (top 28)) .none kV19 dc19 pm19 an19 cd19 ct19),sl19⟩) (c19:PySem.W.codeIn K cd19 "joined_again"=true)
  (a20:PySem.W.nsIn K mainGlobals "two_by_places"=some (some (.ref f20))) (l20:K.lookup f20=some ⟨oc20,od20,.func (PySem.W.fnOf "two_by_places" "two_by_places" (aO (top 29)) (aM (top 29)) (au (top 29)) .none kV20 dc20 pm20 an20 cd20 ct20),sl20⟩) (c20:PySem.W.codeIn K cd20 "two_by_places"=true)
  (a21:PySem.W.nsIn K mainGlobals "side_without"=some (some (.ref f21))) (l21:K.lookup f21=some ⟨oc21,od21,.func (PySem.W.fnOf "side_without" "side_without" (aO (top 30)) (aM (top 30)) (au (top 30)) .none kV21 dc21 pm21 an21 cd21 ct21),sl21⟩) (c21:PySem.W.codeIn K cd21 "side_without"=true)
  (a22:PySem.W.nsIn K mainGlobals "parting_place"=some (some (.ref f22))) (l22:K.lookup f22=some ⟨oc22,od22,.func (PySem.W.fnOf "parting_place" "parting_place" (aO (top 31)) (aM (top 31)) (au (top 31)) .none kV22 dc22 pm22 an22 cd22 ct22),sl22⟩) (c22:PySem.W.codeIn K cd22 "parting_place"=true)
  (a23:PySem.W.nsIn K mainGlobals "by_places"=some (some (.ref f23))) (l23:K.lookup f23=some ⟨oc23,od23,.func (PySem.W.fnOf "by_places" "by_places" (aO (top 32)) (aM (top 32)) (au (top 32)) .none kV23 dc23 pm23 an23 cd23 ct23),sl23⟩) (c23:PySem.W.codeIn K cd23 "by_places"=true)
  (a24:PySem.W.nsIn K mainGlobals "_law_take"=some (some (.ref f24))) (l24:K.lookup f24=some ⟨oc24,od24,.func (PySem.W.fnOf "_law_take" "_law_take" (aO (top 34)) (aM (top 34)) (au (top 34)) .none kV24 dc24 pm24 an24 cd24 ct24),sl24⟩) (c24:PySem.W.codeIn K cd24 "_law_take"=true)
  (a25:PySem.W.nsIn K mainGlobals "_law_more"=some (some (.ref f25))) (l25:K.lookup f25=some ⟨oc25,od25,.func (PySem.W.fnOf "_law_more" "_law_more" (aO (top 35)) (aM (top 35)) (au (top 35)) .none kV25 dc25 pm25 an25 cd25 ct25),sl25⟩) (c25:PySem.W.codeIn K cd25 "_law_more"=true)
  (a26:PySem.W.nsIn K mainGlobals "_law_web"=some (some (.ref f26))) (l26:K.lookup f26=some ⟨oc26,od26,.func (PySem.W.fnOf "_law_web" "_law_web" (aO (top 36)) (aM (top 36)) (au (top 36)) .none kV26 dc26 pm26 an26 cd26 ct26),sl26⟩) (c26:PySem.W.codeIn K cd26 "_law_web"=true)
  (a27:PySem.W.nsIn K mainGlobals "_law_met"=some (some (.ref f27))) (l27:K.lookup f27=some ⟨oc27,od27,.func (PySem.W.fnOf "_law_met" "_law_met" (aO (top 37)) (aM (top 37)) (au (top 37)) .none kV27 dc27 pm27 an27 cd27 ct27),sl27⟩) (c27:PySem.W.codeIn K cd27 "_law_met"=true)
  (a28:PySem.W.nsIn K mainGlobals "_law_numbers"=some (some (.ref f28))) (l28:K.lookup f28=some ⟨oc28,od28,.func (PySem.W.fnOf "_law_numbers" "_law_numbers" (aO (top 38)) (aM (top 38)) (au (top 38)) .none kV28 dc28 pm28 an28 cd28 ct28),sl28⟩) (c28:PySem.W.codeIn K cd28 "_law_numbers"=true)
  (a29:PySem.W.nsIn K mainGlobals "_law_leads"=some (some (.ref f29))) (l29:K.lookup f29=some ⟨oc29,od29,.func (PySem.W.fnOf "_law_leads" "_law_leads" (aO (top 39)) (aM (top 39)) (au (top 39)) .none kV29 dc29 pm29 an29 cd29 ct29),sl29⟩) (c29:PySem.W.codeIn K cd29 "_law_leads"=true)
  (a30:PySem.W.nsIn K mainGlobals "_law_pair"=some (some (.ref f30))) (l30:K.lookup f30=some ⟨oc30,od30,.func (PySem.W.fnOf "_law_pair" "_law_pair" (aO (top 40)) (aM (top 40)) (au (top 40)) .none kV30 dc30 pm30 an30 cd30 ct30),sl30⟩) (c30:PySem.W.codeIn K cd30 "_law_pair"=true)
  (a31:PySem.W.nsIn K mainGlobals "_law_named"=some (some (.ref f31))) (l31:K.lookup f31=some ⟨oc31,od31,.func (PySem.W.fnOf "_law_named" "_law_named" (aO (top 41)) (aM (top 41)) (au (top 41)) .none kV31 dc31 pm31 an31 cd31 ct31),sl31⟩) (c31:PySem.W.codeIn K cd31 "_law_named"=true)
  (a32:PySem.W.nsIn K mainGlobals "_law_sides"=some (some (.ref f32))) (l32:K.lookup f32=some ⟨oc32,od32,.func (PySem.W.fnOf "_law_sides" "_law_sides" (aO (top 42)) (aM (top 42)) (au (top 42)) .none kV32 dc32 pm32 an32 cd32 ct32),sl32⟩) (c32:PySem.W.codeIn K cd32 "_law_sides"=true)
  (a33:PySem.W.nsIn K mainGlobals "_law_right"=some (some (.ref f33))) (l33:K.lookup f33=some ⟨oc33,od33,.func (PySem.W.fnOf "_law_right" "_law_right" (aO (top 43)) (aM (top 43)) (au (top 43)) .none kV33 dc33 pm33 an33 cd33 ct33),sl33⟩) (c33:PySem.W.codeIn K cd33 "_law_right"=true)
  (a34:PySem.W.nsIn K mainGlobals "law"=some (some (.ref f34))) (l34:K.lookup f34=some ⟨oc34,od34,.func (PySem.W.fnOf "law" "law" (aO (top 44)) (aM (top 44)) (au (top 44)) .none kV34 dc34 pm34 an34 cd34 ct34),sl34⟩) (c34:PySem.W.codeIn K cd34 "law"=true)
  (z0:PySem.W.nsIn K mainGlobals "isinstance"=some none)
  (z1:PySem.W.nsIn K mainGlobals "int"=some none)
  (z2:PySem.W.nsIn K mainGlobals "bool"=some none)
  (z3:PySem.W.nsIn K mainGlobals "tuple"=some none)
  (z4:PySem.W.nsIn K mainGlobals "list"=some none)
  (z5:PySem.W.nsIn K mainGlobals "len"=some none)
  (z6:PySem.W.nsIn K mainGlobals "all"=some none)
  (z7:PySem.W.nsIn K mainGlobals "min"=some none)
  (z8:PySem.W.nsIn K mainGlobals "max"=some none)
  (z9:PySem.W.nsIn K mainGlobals "sorted"=some none)
  (z10:PySem.W.nsIn K mainGlobals "range"=some none)
  (z11:PySem.W.nsIn K mainGlobals "abs"=some none)
  (z12:PySem.W.nsIn K mainGlobals "enumerate"=some none)
  (z13:PySem.W.nsIn K mainGlobals "reversed"=some none)
  (z14:PySem.W.nsIn K mainGlobals "sum"=some none)
  (z15:PySem.W.nsIn K mainGlobals "set"=some none)
  (z16:PySem.W.nsIn K mainGlobals "dict"=some none)
  (z17:PySem.W.nsIn K mainGlobals "str"=some none)
  (z18:PySem.W.nsIn K mainGlobals "repr"=some none)
  :
  ∃ fd:FuncData,(∀ (s:Shared) (v:Value),BindsTo s fd ⟨[v],[]⟩ [("_law_script",v)])/\∀ base:Heap,K.In base->base.Ns mainGlobals mg->Dl.SysIn base->FnOk l.prog w K mg base CX0 9 fa fd ["_law_script"] (spLaw K):=by
 have e:=hfa.symm.trans (PySem.W.mg_of X G a34)
 cases e
 have F0:=aZ (st:=top 4) l0 c0 (aR l0)
 have b0:=F0.binds (ps:=["thing"]) fun _ _ _ _ _ _ us hl=>by obtain⟨_,rfl⟩:=len1 us hl; rfl
 have m0:=PySem.W.mg_of X G a0
 have F1:=aZ (st:=top 5) l1 c1 (aR l1)
 have b1:=F1.binds (ps:=["limit","thing"]) fun _ _ _ _ _ _ us hl=>by obtain⟨_,_,rfl⟩:=len2 us hl; rfl
 have m1:=PySem.W.mg_of X G a1
 have F2:=aZ (st:=top 6) l2 c2 (aR l2)
 have b2:=F2.binds (ps:=["web","thing"]) fun _ _ _ _ _ _ us hl=>by obtain⟨_,_,rfl⟩:=len2 us hl; rfl
 have m2:=PySem.W.mg_of X G a2
 have F3:=aZ (st:=top 7) l3 c3 (aR l3)
 have b3:=F3.binds (ps:=["web","thing"]) fun _ _ _ _ _ _ us hl=>by obtain⟨_,_,rfl⟩:=len2 us hl; rfl
 have m3:=PySem.W.mg_of X G a3
 have F4:=aZ (st:=top 8) l4 c4 (aR l4)
 have b4:=F4.binds (ps:=["web","a","b"]) fun _ _ _ _ _ _ us hl=>by obtain⟨_,_,_,rfl⟩:=len3 us hl; rfl
 have m4:=PySem.W.mg_of X G a4
 have F5:=aZ (st:=top 10) l5 c5 (aR l5)
 have b5:=F5.binds (ps:=["web"]) fun _ _ _ _ _ _ us hl=>by obtain⟨_,rfl⟩:=len1 us hl; rfl
 have m5:=PySem.W.mg_of X G a5
 have F6:=aZ (st:=top 11) l6 c6 (aR l6)
 have b6:=F6.binds (ps:=["steps","start"]) fun _ _ _ _ _ _ us hl=>by obtain⟨_,_,rfl⟩:=len2 us hl; rfl
 have m6:=PySem.W.mg_of X G a6
 have F7:=aZ (st:=top 12) l7 c7 (aR l7)
 have b7:=F7.binds (ps:=["came","goal"]) fun _ _ _ _ _ _ us hl=>by obtain⟨_,_,rfl⟩:=len2 us hl; rfl
 have m7:=PySem.W.mg_of X G a7
 have F8:=aZ (st:=top 13) l8 c8 (aR l8)
 have b8:=F8.binds (ps:=["web","place"]) fun _ _ _ _ _ _ us hl=>by obtain⟨_,_,rfl⟩:=len2 us hl; rfl
 have m8:=PySem.W.mg_of X G a8
 have F9:=aZ (st:=top 14) l9 c9 (aR l9)
 have b9:=F9.binds (ps:=["web"]) fun _ _ _ _ _ _ us hl=>by obtain⟨_,rfl⟩:=len1 us hl; rfl
 have m9:=PySem.W.mg_of X G a9
 have F10:=aZ (st:=top 15) l10 c10 (aR l10)
 have b10:=F10.binds (ps:=["web","a","b"]) fun _ _ _ _ _ _ us hl=>by obtain⟨_,_,_,rfl⟩:=len3 us hl; rfl
 have m10:=PySem.W.mg_of X G a10
 have F11:=aZ (st:=top 17) l11 c11 (aR l11)
 have b11:=F11.binds (ps:=["web","numbers"]) fun _ _ _ _ _ _ us hl=>by obtain⟨_,_,rfl⟩:=len2 us hl; rfl
 have m11:=PySem.W.mg_of X G a11
 have F12:=aZ (st:=top 18) l12 c12 (aR l12)
 have b12:=F12.binds (ps:=["web","v"]) fun _ _ _ _ _ _ us hl=>by obtain⟨_,_,rfl⟩:=len2 us hl; rfl
 have m12:=PySem.W.mg_of X G a12
 have F13:=aZ (st:=top 20) l13 c13 (aR l13)
 have b13:=F13.binds (ps:=["count","arcs","used"]) fun _ _ _ _ _ _ us hl=>by obtain⟨_,_,_,rfl⟩:=len3 us hl; rfl
 have m13:=PySem.W.mg_of X G a13
 have F14:=aZ (st:=top 21) l14 c14 (aR l14)
 have b14:=F14.binds (ps:=["count","arcs","used"]) fun _ _ _ _ _ _ us hl=>by obtain⟨_,_,_,rfl⟩:=len3 us hl; rfl
 have m14:=PySem.W.mg_of X G a14
 have F15:=aZ (st:=top 22) l15 c15 (aR l15)
 have b15:=F15.binds (ps:=["count","arcs","start","goal"]) fun _ _ _ _ _ _ us hl=>by obtain⟨_,_,_,_,rfl⟩:=len4 us hl; rfl
 have m15:=PySem.W.mg_of X G a15
 have F16:=aZ (st:=top 23) l16 c16 (aR l16)
 have b16:=F16.binds (ps:=["count","arcs","used","start","goal"]) fun _ _ _ _ _ _ us hl=>by obtain⟨_,_,_,_,_,rfl⟩:=len5 us hl; rfl
 have m16:=PySem.W.mg_of X G a16
 have F17:=aZ (st:=top 25) l17 c17 (aR l17)
 have b17:=F17.binds (ps:=["web","a","b"]) fun _ _ _ _ _ _ us hl=>by obtain⟨_,_,_,rfl⟩:=len3 us hl; rfl
 have m17:=PySem.W.mg_of X G a17
 have F18:=aZ (st:=top 27) l18 c18 (aR l18)
 have b18:=F18.binds (ps:=["web","a","b"]) fun _ _ _ _ _ _ us hl=>by obtain⟨_,_,_,rfl⟩:=len3 us hl; rfl
 have m18:=PySem.W.mg_of X G a18
 have F19:=aZ (st:=top 28) l19 c19 (aR l19)
 have b19:=F19.binds (ps:=["web","nodes","indexes"]) fun _ _ _ _ _ _ us hl=>by obtain⟨_,_,_,rfl⟩:=len3 us hl; rfl
 have m19:=PySem.W.mg_of X G a19
 have F20:=aZ (st:=top 29) l20 c20 (aR l20)
 have b20:=F20.binds (ps:=["web","a","b"]) fun _ _ _ _ _ _ us hl=>by obtain⟨_,_,_,rfl⟩:=len3 us hl; rfl
 have m20:=PySem.W.mg_of X G a20
 have F21:=aZ (st:=top 30) l21 c21 (aR l21)
 have b21:=F21.binds (ps:=["web","v","a"]) fun _ _ _ _ _ _ us hl=>by obtain⟨_,_,_,rfl⟩:=len3 us hl; rfl
 have m21:=PySem.W.mg_of X G a21
 have F22:=aZ (st:=top 31) l22 c22 (aR l22)
 have b22:=F22.binds (ps:=["web","a","b"]) fun _ _ _ _ _ _ us hl=>by obtain⟨_,_,_,rfl⟩:=len3 us hl; rfl
 have m22:=PySem.W.mg_of X G a22
 have F23:=aZ (st:=top 32) l23 c23 (aR l23)
 have b23:=F23.binds (ps:=["web","a","b"]) fun _ _ _ _ _ _ us hl=>by obtain⟨_,_,_,rfl⟩:=len3 us hl; rfl
 have m23:=PySem.W.mg_of X G a23
 have F24:=aZ (st:=top 34) l24 c24 (aR l24)
 have b24:=F24.binds (ps:=["_law_pen","_law_many"]) fun _ _ _ _ _ _ us hl=>by obtain⟨_,_,rfl⟩:=len2 us hl; rfl
 have m24:=PySem.W.mg_of X G a24
 have F25:=aZ (st:=top 35) l25 c25 (aR l25)
 have b25:=F25.binds (ps:=["_law_pen","_law_n","_law_ties"]) fun _ _ _ _ _ _ us hl=>by obtain⟨_,_,_,rfl⟩:=len3 us hl; rfl
 have m25:=PySem.W.mg_of X G a25
 have F26:=aZ (st:=top 36) l26 c26 (aR l26)
 have b26:=F26.binds (ps:=["_law_pen","_law_few","_law_great"]) fun _ _ _ _ _ _ us hl=>by obtain⟨_,_,_,rfl⟩:=len3 us hl; rfl
 have m26:=PySem.W.mg_of X G a26
 have F27:=aZ (st:=top 37) l27 c27 (aR l27)
 have b27:=F27.binds (ps:=["_law_web_here","_law_start","_law_fallen","_law_barred"]) fun _ _ _ _ _ _ us hl=>by obtain⟨_,_,_,_,rfl⟩:=len4 us hl; rfl
 have m27:=PySem.W.mg_of X G a27
 have F28:=aZ (st:=top 38) l28 c28 (aR l28)
 have b28:=F28.binds (ps:=["_law_thing"]) fun _ _ _ _ _ _ us hl=>by obtain⟨_,rfl⟩:=len1 us hl; rfl
 have m28:=PySem.W.mg_of X G a28
 have F29:=aZ (st:=top 39) l29 c29 (aR l29)
 have b29:=F29.binds (ps:=["_law_web_here","_law_a","_law_b","_law_thing"]) fun _ _ _ _ _ _ us hl=>by obtain⟨_,_,_,_,rfl⟩:=len4 us hl; rfl
 have m29:=PySem.W.mg_of X G a29
 have F30:=aZ (st:=top 40) l30 c30 (aR l30)
 have b30:=F30.binds (ps:=["_law_pen","_law_n"]) fun _ _ _ _ _ _ us hl=>by obtain⟨_,_,rfl⟩:=len2 us hl; rfl
 have m30:=PySem.W.mg_of X G a30
 have F31:=aZ (st:=top 41) l31 c31 (aR l31)
 have b31:=F31.binds (ps:=["_law_told","_law_word","_law_sides_here"]) fun _ _ _ _ _ _ us hl=>by obtain⟨_,_,_,rfl⟩:=len3 us hl; rfl
 have m31:=PySem.W.mg_of X G a31
 have F32:=aZ (st:=top 42) l32 c32 (aR l32)
 have b32:=F32.binds (ps:=["_law_web_here","_law_a","_law_b","_law_by_place"]) fun _ _ _ _ _ _ us hl=>by obtain⟨_,_,_,_,rfl⟩:=len4 us hl; rfl
 have m32:=PySem.W.mg_of X G a32
 have F33:=aZ (st:=top 43) l33 c33 (aR l33)
 have b33:=F33.binds (ps:=["_law_web_here","_law_a","_law_b","_law_told"]) fun _ _ _ _ _ _ us hl=>by obtain⟨_,_,_,_,rfl⟩:=len4 us hl; rfl
 have m33:=PySem.W.mg_of X G a33
 have F34:=aZ (st:=top 44) l34 c34 (aR l34)
 have B:Dl.Bn mg:=⟨PySem.W.mg_none_of X G z0,PySem.W.mg_none_of X G z1,PySem.W.mg_none_of X G z2,PySem.W.mg_none_of X G z3,PySem.W.mg_none_of X G z4,PySem.W.mg_none_of X G z5,PySem.W.mg_none_of X G z6,PySem.W.mg_none_of X G z7,PySem.W.mg_none_of X G z8,PySem.W.mg_none_of X G z9,PySem.W.mg_none_of X G z10,PySem.W.mg_none_of X G z11⟩
 have N12:=PySem.W.mg_none_of X G z12
 have N13:=PySem.W.mg_none_of X G z13
 have N14:=PySem.W.mg_none_of X G z14
 have N15:=PySem.W.mg_none_of X G z15
 have N16:=PySem.W.mg_none_of X G z16
 have N17:=PySem.W.mg_none_of X G z17
 have N18:=PySem.W.mg_none_of X G z18
 refine⟨PySem.W.fnOf "law" "law" (aO (top 44)) (aM (top 44)) (au (top 44)) .none kV34 dc34 pm34 an34 cd34 ct34,fun s v=>.of_eq rfl,fun base _ _ SY=>?_⟩
 have C0:=bf F0 b0 m0 (ok_is_whole (P:=l.prog) (w:=w) (base:=base) F0 B)
 have C1:=bf F1 b1 m1 (ok_is_below (P:=l.prog) (w:=w) (base:=base) F1 B C0)
 have C2:=bf F2 b2 m2 (ok_is_place (P:=l.prog) (w:=w) (base:=base) F2 B C1)
 have C3:=bf F3 b3 m3 (ok_check_place (P:=l.prog) (w:=w) (base:=base) F3 B C2)
 have C4:=bf F4 b4 m4 (kI (P:=l.prog) (w:=w) (base:=base) F4 B C3)
 have C5:=bf F5 b5 m5 (ok_steps_of_web (P:=l.prog) (w:=w) (base:=base) F5 B N12)
 have C6:=bf F6 b6 m6 (ok_search (P:=l.prog) (w:=w) (base:=base) F6 B)
 have C7:=bf F7 b7 m7 (ok_trace (P:=l.prog) (w:=w) (base:=base) F7 B N13)
 have C8:=bf F8 b8 m8 (ok_part_of (P:=l.prog) (w:=w) (base:=base) F8 B C6 C5)
 have C9:=bf F9 b9 m9 (ok_parts (P:=l.prog) (w:=w) (base:=base) F9 B C8)
 have C10:=bf F10 b10 m10 (ok_way (P:=l.prog) (w:=w) (base:=base) F10 B C3 C7 C6 C5)
 have C11:=bf F11 b11 m11 (ok_without_ties (P:=l.prog) (w:=w) (base:=base) F11 B N12)
 have C12:=bf F12 b12 m12 (ok_parts_without (P:=l.prog) (w:=w) (base:=base) F12 B C3 C9)
 have C13:=bf F13 b13 m13 (ok_steps_along (P:=l.prog) (w:=w) (base:=base) F13 B)
 have C14:=bf F14 b14 m14 (ok_steps_left (P:=l.prog) (w:=w) (base:=base) F14 B N12)
 have C15:=bf F15 b15 m15 (ok_arcs_of_two (P:=l.prog) (w:=w) (base:=base) F15 B C7 C6 C14)
 have C16:=bf F16 b16 m16 (ok_two_along (P:=l.prog) (w:=w) (base:=base) F16 B C7 C6 C13)
 have C17:=bf F17 b17 m17 (ok_parting_tie (P:=l.prog) (w:=w) (base:=base) F17 B C10 C8 C11)
 have C18:=bf F18 b18 m18 (mK (P:=l.prog) (w:=w) (base:=base) F18 B)
 have C19:=bf F19 b19 m19 (ok_joined_again (P:=l.prog) (w:=w) (base:=base) F19 B)
 have C20:=bf F20 b20 m20 (ok_two_by_places (P:=l.prog) (w:=w) (base:=base) F20 B C18 C15 C16 C19)
 have C21:=bf F21 b21 m21 (ok_side_without (P:=l.prog) (w:=w) (base:=base) F21 B C12)
 have C22:=bf F22 b22 m22 (ok_parting_place (P:=l.prog) (w:=w) (base:=base) F22 B C21)
 have C23:=bf F23 b23 m23 (ok_by_places (P:=l.prog) (w:=w) (base:=base) F23 B C4 C8 C20 C22 C17)
 have C24:=bf F24 b24 m24 (ok_take (P:=l.prog) (w:=w) (base:=base) F24 B)
 have C25:=bf F25 b25 m25 (ok_law_more (P:=l.prog) (w:=w) (base:=base) F25 B C24)
 have C26:=bf F26 b26 m26 (ok_law_web (P:=l.prog) (w:=w) (base:=base) F26 B C24 C25)
 have C27:=bf F27 b27 m27 (ok_law_met (P:=l.prog) (w:=w) (base:=base) F27 B N12 N14)
 have C28:=bf F28 b28 m28 (ok_law_numbers (P:=l.prog) (w:=w) (base:=base) F28 B)
 have C29:=bf F29 b29 m29 (ok_law_leads (P:=l.prog) (w:=w) (base:=base) F29 B N15 N12 C28)
 have C30:=bf F30 b30 m30 (ok_law_pair (P:=l.prog) (w:=w) (base:=base) F30 B C24)
 have C31:=bf F31 b31 m31 (ok_law_named (P:=l.prog) (w:=w) (base:=base) F31 B C28)
 have C32:=bf F32 b32 m32 (ok_law_sides (P:=l.prog) (w:=w) (base:=base) F32 B N16 C27)
 have C33:=bf F33 b33 m33 (ok_law_right (P:=l.prog) (w:=w) (base:=base) F33 B N17 C27 C28 C32 C31 C29)
 exact ok_law F34 B N18 SY C26 C30 C23 C33
theorem walk {l:PySem.W.OpenLaw}{q:Program}{loose:List Str}{XP:(Str->Option Value)->Heap->Prop}{YP:World->Heap->Prop}{d:DefRec}{K:Params->PySem.W.Frag} (hi:importsNone q=true) (hn:l.most=some 63) (hdf:d.params.defaults=[])
  (hY:∀ (w:World) (h:Heap),YP w h->(K w.params).In h)
  (F:∀ (w:World) (mg:Str->Option Value) (fa:Addr) (h:Heap),(K w.params).In h->h.Ns mainGlobals mg->mg d.name=some (.ref fa) ->
   ∃ fd:FuncData,(∀ (s:Shared) (u:Value),BindsTo s fd ⟨[u],[]⟩ [("_law_script",u)])/\∀ base:Heap,(K w.params).In base->base.Ns mainGlobals mg->Dl.SysIn base->FnOk l.prog w (K w.params) mg base CX0 9 fa fd ["_law_script"] (spLaw (K w.params))) :
  PySem.W.WalkO q loose XP YP l.row.toRowW d [] (fun f vs=>PySem.call f vs) :=
 L2.walk_ofS (n:=63) (k:=9) (x:="_law_script") (CX:=fun _=>CX0) (sp:=fun w=>spLaw (K w.params)) hi hn (by decide) hdf ⟨rfl,by decide,by decide,rfl⟩ hY F (fun _ _ a ns hl hO hS=>⟨a,ns,rfl,hS,fun _=>rfl⟩) fun _ _ _ _ _ z=>z
end Nf
namespace Nf
open PySem PySem.W PyProof.Rows
noncomputable def keepW:List Nat:=[1,2,4,5,6,7,8,10,11,12,13,14,15,17,18,20,21,22,23,25,27,28,29,30,31,32,34,35,36,37,38,39,40,41,42,43,44]
noncomputable def lookW (p:Program) (w:World) (os:OsState):=(runT p 3156 w os).map (fun s=>seenW p (view p keepW) (fun s=>xlAt (view p keepW) [] s&&recOk [] s) w s.abs)
noncomputable def goodW (p:Program):=some (true,openGood (view p keepW) [])
noncomputable def frF (fr:Frag) (k:Nat):=some ((fr.map fun p=>some p.2).take k)
noncomputable def frB (fr:Frag) (k:Nat):=some ((fr.map fun p=>some p.2).drop k)
noncomputable def frontW (p:Program) (w:World) (os:OsState) (as:List Addr) (k:Nat):=(runT p 3156 w os).map (fun s=>(as.map s.abs.heap.get?).take k)
noncomputable def backW (p:Program) (w:World) (os:OsState) (as:List Addr) (k:Nat):=(runT p 3156 w os).map (fun s=>(as.map s.abs.heap.get?).drop k)
theorem lookW_self:lookW=lookW:=rfl
theorem goodW_self:goodW=goodW:=rfl
theorem frontW_self:frontW=frontW:=rfl
theorem backW_self:backW=backW:=rfl
theorem pW_self:PySem.Challenge.pw_nofall_k12_apart_by_places=PySem.Challenge.pw_nofall_k12_apart_by_places:=rfl
noncomputable def aPar:Params:=(aWorld 1).params
end Nf
lay_quick Nf.lookW Nf.goodW Nf.frontW Nf.backW
name_quick lookQ for Nf.lookW by Nf.lookW_self
name_quick goodQ for Nf.goodW by Nf.goodW_self
name_quick frontQ for Nf.frontW by Nf.frontW_self
name_quick backQ for Nf.backW by Nf.backW_self
name_quick pwQ for PySem.Challenge.pw_nofall_k12_apart_by_places by Nf.pW_self
set_option maxHeartbeats 0 in
theorem Nf.look_ok (w:PySem.World) (os:PySem.OsState):Nf.lookW PySem.Challenge.pw_nofall_k12_apart_by_places w os=Nf.goodW PySem.Challenge.pw_nofall_k12_apart_by_places:=by
 rw [PySem.W.Fast.lookQ_eq,PySem.W.Fast.goodQ_eq,PySem.W.Fast.pwQ_eq]
 kernel_rfl
open PySem PySem.W PyProof.Rows
local macro_rules
 | `(tactic| o_head (kHook $k $a $e))=>`(tactic| (
  refine holds_open (q:=view PySem.Challenge.pw_nofall_k12_apart_by_places Nf.keepW) (loose:=[]) (Xt:=fun s=>xlAt (view PySem.Challenge.pw_nofall_k12_apart_by_places Nf.keepW) [] s&&recOk [] s) (XP:=XL (view PySem.Challenge.pw_nofall_k12_apart_by_places Nf.keepW) []) (Yf:=Hook.obs (kHook $k $a $e)) (Ya:=Hook.val (kHook $k $a $e)) (YP:=Hook.says (kHook $k $a $e)) (N:=3156) ?hl (Hook.of (kHook $k $a $e)) (Hook.keeps (kHook $k $a $e)) (fun s e=>xl_of s (Bool.and_eq_true_iff.mp e).1) XL.keeps (by rfl) (by rfl) (by rfl) (fun s e=>recFacts_of (Bool.and_eq_true_iff.mp e).2) (by rfl) (by first | assumption | decide +kernel) (by decide +kernel) ⟨rfl,rfl,rfl,rfl,rfl,by decide +kernel⟩ ?hw ?hc
  case' hl =>
   have hq:Nat.ble 0 (List.length ($k Nf.aPar))=true:=by k_qdec
   clear hq))
set_option maxRecDepth 100000 in
set_option maxHeartbeats 0 in
theorem PySem.Challenge.cw_nofall_k12_apart_by_places_holds : PySem.Challenge.rw_nofall_k12_apart_by_places.Holds := by
 w_on; o_law; k_head
 ·refine Nf.left_of 90 (boot_open (by kernel_rfl) rfl (fun s=>by kernel_rfl)) Nf.look_ok (fun w os=>?_) (fun w os=>?_)
  ·show Nf.frontW PySem.Challenge.pw_nofall_k12_apart_by_places w os _ 90=Nf.frF _ 90
   rw [PySem.W.Fast.frontQ_eq,PySem.W.Fast.pwQ_eq,PySem.W.Fast.te6505256788536465446]
   kernel_rfl
  ·show Nf.backW PySem.Challenge.pw_nofall_k12_apart_by_places w os _ 90=Nf.frB _ 90
   rw [PySem.W.Fast.backQ_eq,PySem.W.Fast.pwQ_eq,PySem.W.Fast.te6505256788536465446]
   kernel_rfl
 ·w_witness2
 k_fill
 refine Nf.walk (l:=PySem.Challenge.rw_nofall_k12_apart_by_places) rfl rfl rfl (fun w h Y=>PySem.W.kIn_of Y) ?F
 case F =>
  intro w mg fa h KX G hmg
  refine' Nf.all_mk KX G hmg ?a0 ?l0 ?c0 ?a1 ?l1 ?c1 ?a2 ?l2 ?c2 ?a3 ?l3 ?c3 ?a4 ?l4 ?c4 ?a5 ?l5 ?c5 ?a6 ?l6 ?c6 ?a7 ?l7 ?c7 ?a8 ?l8 ?c8 ?a9 ?l9 ?c9 ?a10 ?l10 ?c10 ?a11 ?l11 ?c11 ?a12 ?l12 ?c12 ?a13 ?l13 ?c13 ?a14 ?l14 ?c14 ?a15 ?l15 ?c15 ?a16 ?l16 ?c16 ?a17 ?l17 ?c17 ?a18 ?l18 ?c18 ?a19 ?l19 ?c19 ?a20 ?l20 ?c20 ?a21 ?l21 ?c21 ?a22 ?l22 ?c22 ?a23 ?l23 ?c23 ?a24 ?l24 ?c24 ?a25 ?l25 ?c25 ?a26 ?l26 ?c26 ?a27 ?l27 ?c27 ?a28 ?l28 ?c28 ?a29 ?l29 ?c29 ?a30 ?l30 ?c30 ?a31 ?l31 ?c31 ?a32 ?l32 ?c32 ?a33 ?l33 ?c33 ?a34 ?l34 ?c34 ?z0 ?z1 ?z2 ?z3 ?z4 ?z5 ?z6 ?z7 ?z8 ?z9 ?z10 ?z11 ?z12 ?z13 ?z14 ?z15 ?z16 ?z17 ?z18
  (case a0=>k_is); (case l0=>k_is); (case c0=>k_is)
  (case a1=>k_is); (case l1=>k_is); (case c1=>k_is)
  (case a2=>k_is); (case l2=>k_is); (case c2=>k_is)
  (case a3=>k_is); (case l3=>k_is); (case c3=>k_is)
  (case a4=>k_is); (case l4=>k_is); (case c4=>k_is)
  (case a5=>k_is); (case l5=>k_is); (case c5=>k_is)
  (case a6=>k_is); (case l6=>k_is); (case c6=>k_is)
  (case a7=>k_is); (case l7=>k_is); (case c7=>k_is)
  (case a8=>k_is); (case l8=>k_is); (case c8=>k_is)
  (case a9=>k_is); (case l9=>k_is); (case c9=>k_is)
  (case a10=>k_is); (case l10=>k_is); (case c10=>k_is)
  (case a11=>k_is); (case l11=>k_is); (case c11=>k_is)
  (case a12=>k_is); (case l12=>k_is); (case c12=>k_is)
  (case a13=>k_is); (case l13=>k_is); (case c13=>k_is)
  (case a14=>k_is); (case l14=>k_is); (case c14=>k_is)
  (case a15=>k_is); (case l15=>k_is); (case c15=>k_is)
  (case a16=>k_is); (case l16=>k_is); (case c16=>k_is)
  (case a17=>k_is); (case l17=>k_is); (case c17=>k_is)
  (case a18=>k_is); (case l18=>k_is); (case c18=>k_is)
  (case a19=>k_is); (case l19=>k_is); (case c19=>k_is)
  (case a20=>k_is); (case l20=>k_is); (case c20=>k_is)
  (case a21=>k_is); (case l21=>k_is); (case c21=>k_is)
  (case a22=>k_is); (case l22=>k_is); (case c22=>k_is)
  (case a23=>k_is); (case l23=>k_is); (case c23=>k_is)
  (case a24=>k_is); (case l24=>k_is); (case c24=>k_is)
  (case a25=>k_is); (case l25=>k_is); (case c25=>k_is)
  (case a26=>k_is); (case l26=>k_is); (case c26=>k_is)
  (case a27=>k_is); (case l27=>k_is); (case c27=>k_is)
  (case a28=>k_is); (case l28=>k_is); (case c28=>k_is)
  (case a29=>k_is); (case l29=>k_is); (case c29=>k_is)
  (case a30=>k_is); (case l30=>k_is); (case c30=>k_is)
  (case a31=>k_is); (case l31=>k_is); (case c31=>k_is)
  (case a32=>k_is); (case l32=>k_is); (case c32=>k_is)
  (case a33=>k_is); (case l33=>k_is); (case c33=>k_is)
  (case a34=>k_is); (case l34=>k_is); (case c34=>k_is)
  (case z0=>k_is); (case z1=>k_is); (case z2=>k_is); (case z3=>k_is); (case z4=>k_is); (case z5=>k_is); (case z6=>k_is); (case z7=>k_is); (case z8=>k_is); (case z9=>k_is); (case z10=>k_is); (case z11=>k_is); (case z12=>k_is); (case z13=>k_is); (case z14=>k_is); (case z15=>k_is); (case z16=>k_is); (case z17=>k_is); (case z18=>k_is)
