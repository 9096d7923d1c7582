import PyProof.Rows.All
import Wide.All
import OpenK.AllK
import Wide.FinOn
import Lean
import PyProof.EqAt
import PyProof.EqKinds
import PyProof.TupleCall
import PySem.Challenge.RW_nofall_k33_place_bounds
set_option genSizeOf false
set_option genSizeOfSpec false
set_option Elab.async false
set_option linter.all false
set_option maxRecDepth 100000
noncomputable section
namespace L2
open PySem PySem.Spec PyProof.Rows
theorem zK {n:Nat} (h:Nat.ble n 1000=true:=by rfl):n<=1000:=Nat.le_of_ble_eq_true h
abbrev Key:=Sum Int Str
def rM:Key->Value->Bool
 | .inl k,v=>Value.isInt k v
 | .inr x,v=>Value.isStrOf x v
def Vc (w:World):Key->Int
 | .inl k=>hashInt k
 | .inr x=>hashStr w x
theorem bM:∀ {k:Key}{v:Value},rM k v=true->(∃ i t,k=Sum.inl i/\v=Value.int i t)\/(∃ x t,k=Sum.inr x/\v=Value.str x t)
 | .inl i,v,h=>by
  obtain⟨t,e⟩:=Value.isInt_shape (k:=i) (v:=v) h
  exact .inl ⟨i,t,rfl,e⟩
 | .inr x,v,h=>by
  obtain⟨t,e⟩:=Value.isStrOf_shape (x:=x) (v:=v) h
  exact .inr ⟨x,t,rfl,e⟩
theorem Fl (i:Int) (t:Tok):rM (.inl i) (.int i t)=true:=by simp [rM,Value.isInt]
theorem Fj (x:Str) (t:Tok):rM (.inr x) (.str x t)=true:=by simp [rM,Value.isStrOf]
theorem QW (a b:Int):decide ((Sum.inl a:Key)=Sum.inl b)=(a == b):=by
 by_cases e:a=b
 ·subst e; simp
 ·have h:¬ (Sum.inl a:Key)=Sum.inl b:=fun q=>e (Sum.inl.inj q)
  rw [decide_eq_false h]
  exact (beq_eq_false_iff_ne.mpr e).symm
theorem QS (a b:Str):decide ((Sum.inr a:Key)=Sum.inr b)=decide (a=b):=by
 by_cases e:a=b
 ·subst e; simp
 ·have h:¬ (Sum.inr a:Key)=Sum.inr b:=fun q=>e (Sum.inr.inj q)
  rw [decide_eq_false h,decide_eq_false e]
theorem QV (a:Int) (b:Str):decide ((Sum.inl a:Key)=Sum.inr b)=false:=decide_eq_false (fun q=>nomatch q)
theorem QT (a:Str) (b:Int):decide ((Sum.inr a:Key)=Sum.inl b)=false:=decide_eq_false (fun q=>nomatch q)
def bU (prog:Program) (w:World):PySem.KeyKind prog w Key where
 is:=rM
 hash:=Vc w
 inj:=fun v a b ha hb=>by
  rcases bM ha with ⟨i,t,rfl,rfl⟩ | ⟨x,t,rfl,rfl⟩
  ·rcases bM hb with ⟨j,u,rfl,e⟩ | ⟨y,u,rfl,e⟩
   ·injection e with e1 _; rw [e1]
   ·exact nomatch e
  ·rcases bM hb with ⟨j,u,rfl,e⟩ | ⟨y,u,rfl,e⟩
   ·exact nomatch e
   ·injection e with e1 _; rw [e1]
 byValue:=fun k v h=>by
  rcases bM h with ⟨i,t,rfl,rfl⟩ | ⟨x,t,rfl,rfl⟩ <;> rfl
 pyHash:=fun hv h=>by
  rcases bM hv with ⟨i,t,rfl,rfl⟩ | ⟨x,t,rfl,rfl⟩
  ·exact wpAny_pyHash_int h
  ·exact wpAny_pyHash_str h
 eqBool:=fun hu hv h=>by
  rcases bM hu with ⟨i,t,rfl,rfl⟩ | ⟨x,t,rfl,rfl⟩
  ·rcases bM hv with ⟨j,u,rfl,rfl⟩ | ⟨y,u,rfl,rfl⟩
   ·rw [QW] at h; exact wpAny_eqBool_int h
   ·rw [QV] at h; exact SeqAt.EqAt.int_str i t y u _ _ _ _ h
  ·rcases bM hv with ⟨j,u,rfl,rfl⟩ | ⟨y,u,rfl,rfl⟩
   ·rw [QT] at h; exact SeqAt.EqAt.str_int x t j u _ _ _ _ h
   ·rw [QS] at h; exact wpAny_eqBool_str h
 «strs»:=fun k x t v h=>by
  rcases bM h with ⟨i,u,rfl,e⟩ | ⟨y,u,rfl,e⟩
  ·exact nomatch e
  ·injection e with e1 _
   subst e1
   cases v <;> rfl
theorem xU (prog:Program) (w:World) (i:Int) (t:Tok):(bU prog w).is (.inl i) (.int i t)=true:=Fl i t
theorem xT (prog:Program) (w:World) (x:Str) (t:Tok):(bU prog w).is (.inr x) (.str x t)=true:=Fj x t
inductive V where
 | non | bl (b:Bool) | int (i:Int) | str (x:Str) | byt (b:Array UInt8) | flt (b:UInt64) | ref (a:Addr) | ty (n:String)
 deriving DecidableEq
def RelV:V->Value->Prop
 | .non,u=>u=Value.none
 | .bl b,u=>u=Value.bool b
 | .int i,u=>∃ t,u=Value.int i t
 | .str x,u=>∃ t,u=Value.str x t
 | .byt b,u=>∃ t,u=Value.bytes b t
 | .flt b,u=>∃ t,u=Value.float b t
 | .ref a,u=>u=Value.ref a
 | .ty n,u=>u=Value.type n
abbrev Vals:List V->List Value->Prop:=Paired RelV
theorem Vals.length {xs:List V}{us:List Value} (r:Vals xs us):xs.length=us.length:=Paired.length r
theorem Vals.get:∀ {xs:List V}{us:List Value}{i:Nat}{x:V},Vals xs us->xs[i]?=some x->∃ u,us[i]?=some u/\RelV x u
 | _,_,_,_,.nil,e=>by simp at e
 | _,_,0,_,.cons r _,e=>by simp at e; subst e; exact⟨_,rfl,r⟩
 | _,_,i+1,x,.cons _ t,e=>by
  obtain⟨u,h1,h2⟩:=Vals.get (i:=i) (x:=x) t (by simpa using e)
  exact⟨u,by simpa using h1,h2⟩
theorem Vals.set {x:V}{u:Value} (r:RelV x u):∀ {xs:List V}{us:List Value} (i:Nat),Vals xs us->Vals (xs.set i x) (us.set i u)
 | _,_,_,.nil=>.nil
 | _,_,0,.cons _ t=>.cons r t
 | _,_,i+1,.cons q t=>.cons q (Vals.set r i t)
theorem Vals.append:∀ {xs ys:List V}{us ws:List Value},Vals xs us->Vals ys ws->Vals (xs++ys) (us++ws)
 | _,_,_,_,.nil,s=>s
 | _,_,_,_,.cons r t,s=>.cons r (Vals.append t s)
theorem Vals.take:∀ {xs:List V}{us:List Value} (n:Nat),Vals xs us->Vals (xs.take n) (us.take n)
 | _,_,0,_=>.nil
 | _,_,_+1,.nil=>.nil
 | _,_,n+1,.cons r t=>.cons r (Vals.take n t)
theorem Vals.drop:∀ {xs:List V}{us:List Value} (n:Nat),Vals xs us->Vals (xs.drop n) (us.drop n)
 | _,_,0,r=>r
 | _,_,_+1,.nil=>.nil
 | _,_,n+1,.cons _ t=>Vals.drop n t
def Bt:Option V->Option Value->Prop
 | some v,some u=>RelV v u
 | none,none=>True
 | _,_=>False
def KV {κ:Type}:List (κ×V)->List (κ×Value)->Prop:=Paired fun (p:κ×V) (q:κ×Value)=>p.1=q.1/\RelV p.2 q.2
def kV:Key->V
 | .inl i=>.int i
 | .inr x=>.str x
inductive HO where
 | lst (xs:List V)
 | tup (xs:List V)
 | dK (kvs:List (Key×V)) | dT (kvs:List (List Key×V))
 | set (S:Int->Bool) (n:Nat)
 | ins (C dx:Addr) (fs:List (Str×V))
 | own (x:Addr)
 | xd (fs:List (Str×V))
 | met (f x:Addr)
 | rng (lo hi:Int)
 | frz (o:Obj) (u:HO)
 | tbl (ps:Array Value)
 | ext (φ:Heap->Prop)
abbrev Hp:=Addr->Option HO
def upd (H:Hp) (a:Addr) (o:HO):Hp:=fun b=>if b=a then some o else H b
theorem aB {H:Hp}{a:Addr}{o:HO}:upd H a o a=some o:=by unfold upd; rw [if_pos rfl]
theorem au {H:Hp}{a b:Addr}{o:HO} (h:b≠a):upd H a o b=H b:=by unfold upd; rw [if_neg h]
theorem Tg {H:Hp}{a b:Addr}{o u:HO} (h:H a=some o) (h':H b=some u) (d:o≠u):a≠b:=by
 intro e; subst e; rw [h] at h'; exact d (Option.some.inj h')
theorem aD {H:Hp}{a b:Addr}{o:HO} (h:H a=some o) (h':H b=none):a≠b:=by
 intro e; subst e; rw [h] at h'; cases h'
section
variable (P:Program) (w:World)
def bG (H:Hp) (h:Heap) (a:Addr):HO->Prop
 | .lst xs=>xs.length<=sizeLine/\∃ (its:List Value) (n:Nat),Vals xs its/\h.get? a=some { cls:=.type "list",data:=.seq its.toArray n }
 | .tup xs=>xs.length<=sizeLine/\∃ its:List Value,Vals xs its/\IsTup h a its.toArray
 | .dK kvs=>kvs.length<=sizeLine/\(a == sysModules)=false/\∃ vs,KV kvs vs/\h.DictOf (bU P w) a vs
 | .dT kvs=>kvs.length<=sizeLine/\(a == sysModules)=false/\∃ xs:List (List Key×Addr×Value),
   Paired (fun (p:List Key×V) (q:List Key×Addr×Value)=>p.1=q.1/\H q.2.1=some (.tup (p.1.map kV))/\RelV p.2 q.2.2) kvs xs /\
   ∃ o es ep,h.get? a=some o/\o.ExactDict/\o.data=.dict es ep/\es.toList=xs.map (entryOfKey (tupleKind (bU P w)))/\(xs.map (·.1)).Nodup
 | .set S n=>h.SetOf (intKind P w) a S n
 | .ins C dx fs=>H dx=some (.own a)/\fs.length<=1000/\dx≠a/\h.get? a=some (W.instObj C dx) /\
   ∃ mA,h.Ns1 dx mA/\(∀ f,Bt (fs.lookup f) (mA f))/\PySem.Within mA (fs.map (·.1))
 | .own _=>∃ o,h.get? a=some o
 | .xd fs=>∃ mA,h.Ns1 a mA/\∀ f,Bt (fs.lookup f) (mA f)
 | .rng lo hi=>∃ t u v,h.get? a=some { cls:=.type "range",data:=.fields #[.int lo t,.int hi u,.int 1 v] }
 | .frz o u=>h.get? a=some o/\bG H h a u
 | .tbl ps=>h.get? a=some { cls:=.none,data:=.fields ps }
 | .met f x=>h.get? a=some (W.methodObj (.ref f) (.ref x))
 | .ext φ=>φ h/\(∃ o,h.get? a=some o)/\∀ h1 h2:Heap,φ h1->(∀ o,h1.get? a=some o->h2.get? a=some o)->φ h2
def HOk (H:Hp) (h:Heap):Prop:=∀ a o,H a=some o->bG P w H h a o
end
section
variable {P:Program}{w:World}{H H':Hp}{h h':Heap}{a:Addr}{o:HO}
theorem bG.lt (x:bG P w H h a o):a<h.objs.size:=by
 cases o with
 | lst xs=>obtain⟨_,_,_,_,e⟩:=x; exact Heap.lt_size e
 | tup xs=>obtain⟨_,_,_,p⟩:=x; exact p.lt
 | dK kvs=>obtain⟨_,_,_,_,o,_,_,e,_⟩:=x; exact Heap.lt_size e
 | dT kvs=>obtain⟨_,_,_,_,o,_,_,e,_⟩:=x; exact Heap.lt_size e
 | set S n=>obtain⟨o,_,_,_,e,_⟩:=x; exact Heap.lt_size e
 | ins C dx fs=>obtain⟨_,_,_,e,_⟩:=x; exact Heap.lt_size e
 | own y=>obtain⟨_,e⟩:=x; exact Heap.lt_size e
 | xd fs=>obtain⟨_,⟨_,_,_,e,_⟩,_⟩:=x; exact Heap.lt_size e
 | rng lo hi=>obtain⟨_,_,_,e⟩:=x; exact Heap.lt_size e
 | frz ob u=>obtain⟨e,_⟩:=x; exact Heap.lt_size e
 | tbl ps=>exact Heap.lt_size (show h.get? a=some _ from x)
 | met f y=>exact Heap.lt_size (show h.get? a=some _ from x)
 | ext φ=>obtain⟨_,⟨_,e⟩,_⟩:=x; exact Heap.lt_size e
theorem Paired.Fb {α β:Type}{F G:α->β->Prop}:∀ {l₁:List α}{l₂:List β},Paired F l₁ l₂->(∀ a b,F a b->G a b)->Paired G l₁ l₂
 | _,_,.nil,_=>.nil
 | _,_,.cons r t,f=>.cons (f _ _ r) (Paired.Fb t f)
theorem bG.stay (x:bG P w H h a o) (k:∀ b u,(b=a\/H b=some (.own a))->h.get? b=some u->h'.get? b=some u)
  (ho:∀ b,H b=some (.own a)->H' b=some (.own a)) (ht:∀ b xs,H b=some (.tup xs)->H' b=some (.tup xs)):bG P w H' h' a o:=by
 induction o with
 | lst xs=>obtain⟨z,its,n,r,e⟩:=x; exact⟨z,its,n,r,k _ _ (.inl rfl) e⟩
 | tup xs=>obtain⟨z,its,r,ob,e,c⟩:=x; exact⟨z,its,r,ob,k _ _ (.inl rfl) e,c⟩
 | dK kvs=>obtain⟨z,y,vs,r,ob,es,ep,e,c⟩:=x; exact⟨z,y,vs,r,ob,es,ep,k _ _ (.inl rfl) e,c⟩
 | dT kvs =>
  obtain⟨z,y,xs,r,ob,es,ep,e,c⟩:=x
  exact⟨z,y,xs,Paired.Fb r fun p q z=>⟨z.1,ht _ _ z.2.1,z.2.2⟩,ob,es,ep,k _ _ (.inl rfl) e,c⟩
 | set S n=>obtain⟨ob,es,ep,t,e,c⟩:=x; exact⟨ob,es,ep,t,k _ _ (.inl rfl) e,c⟩
 | ins C dx fs =>
  obtain⟨d,z,ne,e,mA,⟨od,es,ep,e2,c⟩,r⟩:=x
  exact⟨ho _ d,z,ne,k _ _ (.inl rfl) e,mA,⟨od,es,ep,k _ _ (.inr d) e2,c⟩,r⟩
 | own y=>obtain⟨ob,e⟩:=x; exact⟨ob,k _ _ (.inl rfl) e⟩
 | xd fs=>obtain⟨mA,⟨od,es,ep,e,c⟩,r⟩:=x; exact⟨mA,⟨od,es,ep,k _ _ (.inl rfl) e,c⟩,r⟩
 | rng lo hi=>obtain⟨t,u,v,e⟩:=x; exact⟨t,u,v,k _ _ (.inl rfl) e⟩
 | frz ob u ih=>obtain⟨e,q⟩:=x; exact⟨k _ _ (.inl rfl) e,ih q⟩
 | tbl ps =>
  have e:h.get? a=some { cls:=.none,data:=.fields ps }:=x
  show h'.get? a=some { cls:=.none,data:=.fields ps }
  exact k a _ (.inl rfl) e
 | met f y =>
  have e:h.get? a=some (W.methodObj (.ref f) (.ref y)):=x
  show h'.get? a=some (W.methodObj (.ref f) (.ref y))
  exact k a _ (.inl rfl) e
 | ext φ=>obtain⟨p,⟨o,e⟩,st⟩:=x; exact⟨st _ _ p fun o q=>k _ _ (.inl rfl) q,⟨o,k _ _ (.inl rfl) e⟩,st⟩
theorem HOk.lt (x:HOk P w H h) (e:H a=some o):a<h.objs.size:=(x a o e).lt
theorem HOk.fresh (x:HOk P w H h) (e:h.objs.size<=a):H a=none:=by
 cases q:H a with
 | none=>rfl
 | some u=>exact absurd (Nat.lt_of_lt_of_le (x.lt q) e) (Nat.lt_irrefl _)
theorem HOk.kept (x:HOk P w H h) (k:∀ b u,h.get? b=some u->h'.get? b=some u):HOk P w H h':=fun a o e =>
 (x a o e).stay (fun b u _ q=>k b u q) (fun _ q=>q) fun _ _ q=>q
theorem HOk.laid (x:HOk P w H h) (k:∀ b u,h.get? b=some u->h'.get? b=some u) (hp:h.objs.size<=a) (new:bG P w (upd H a o) h' a o):HOk P w (upd H a o) h':=fun b u e=>by
 have hn:=x.fresh hp
 by_cases hb:b=a
 ·subst hb; rw [aB] at e; cases e; exact new
 ·rw [au hb] at e
  exact (x b u e).stay (fun c v _ q=>k c v q) (fun c q=>by rw [au (aD q hn)]; exact q) fun c xs q=>by rw [au (aD q hn)]; exact q
end
def Rd (H:Hp) (a:Addr) (u:HO):Prop:=H a=some u\/∃ o,H a=some (.frz o u)
theorem Rd.ok {P:Program}{w:World}{H:Hp}{h:Heap}{a:Addr}{u:HO} (r:Rd H a u) (x:HOk P w H h):bG P w H h a u:=by
 rcases r with r | ⟨o,r⟩
 ·exact x a u r
 ·obtain⟨_,q⟩:=x a _ r
  exact q
def Mut:Option HO->Prop
 | some (.lst _)=>True
 | some (.dK _)=>True
 | some (.dT _)=>True
 | some (.set _ _)=>True
 | some (.ins _ _ _)=>True
 | some (.ext _)=>True
 | _=>False
section
variable {P:Program}{w:World}{H:Hp}{h h':Heap}{x e:Addr}{o':HO}
theorem HOk.write (ok:HOk P w H h) (mu:Mut (H x)) (he:e=x\/H e=some (.own x)) (k:∀ b u,b≠e->h.get? b=some u->h'.get? b=some u) (heo:∃ u,h'.get? e=some u)
  (new:bG P w (upd H x o') h' x o'):HOk P w (upd H x o') h':=fun b u q=>by
 have nown:∀ c y,H c=some (.own y)->c≠x:=fun c y r z=>by subst z; rw [r] at mu; exact mu
 have ntup:∀ c xs,H c=some (.tup xs)->c≠x:=fun c xs r z=>by subst z; rw [r] at mu; exact mu
 by_cases hb:b=x
 ·subst hb; rw [aB] at q; cases q; exact new
 ·rw [au hb] at q
  by_cases hbe:b=e
  ·have q':H b=some (.own x):=by
    rcases he with z | z
    ·exact absurd (hbe.trans z) hb
    ·rw [hbe]; exact z
   rw [q] at q'; cases q'
   obtain⟨v,hv⟩:=heo
   exact⟨v,by rw [hbe]; exact hv⟩
  ·refine (ok b u q).stay (fun c v hc r=>k c v ?_ r) (fun c r=>by rw [au (nown c b r)]; exact r) fun c xs r=>by rw [au (ntup c xs r)]; exact r
   rcases hc with rfl | hc
   ·exact hbe
   ·rintro rfl
    rcases he with z | z
    ·exact nown c b hc z
    ·rw [hc] at z; cases z; exact hb rfl
end
structure Un (fs ex:List Addr) (H H':Hp) (h h':Heap):Prop where
 keep:∀ b o,h.get? b=some o->H b=none->b∉fs->b∉ex->h'.get? b=some o
 slot:∀ b o,h.get? b=some o->H b=none->b∈fs->b∉ex->∃ sl,h'.get? b=some { o with slots:=sl }
 free:∀ b o,h.get? b=some o->H b=none->b∉ex->H' b=none
 there:∀ b o,h.get? b=some o->b∉ex->∃ o',h'.get? b=some o'
 tups:∀ b xs,H b=some (.tup xs)->H' b=some (.tup xs)
 frzs:∀ b o u,H b=some (.frz o u)->H' b=some (.frz o u)
 tbls:∀ b ps,H b=some (.tbl ps)->∃ more,H' b=some (.tbl (ps++more))
section
variable {fs fs' ex ex':List Addr}{H H1 H2:Hp}{h h1 h2 h':Heap}{a x e:Addr}{o:HO}
theorem Un.any (u:Un fs ex H H1 h h1) {b:Addr}{ob:Obj} (q:h.get? b=some ob) (n:H b=none) (hx:b∉ex):∃ sl,h1.get? b=some { ob with slots:=sl }:=by
 by_cases hb:b∈fs
 ·exact u.slot b ob q n hb hx
 ·exact⟨ob.slots,u.keep b ob q n hb hx⟩
theorem Un.kept (k:∀ b u,h.get? b=some u->h'.get? b=some u):Un fs ex H H h h' :=
 ⟨fun b ob q _ _ _=>k b ob q,fun b ob q _ _ _=>⟨ob.slots,k b ob q⟩,fun _ _ _ n _=>n,fun b ob q _=>⟨ob,k b ob q⟩,fun _ _ q=>q,fun _ _ _ q=>q,fun _ ps q=>⟨#[],by rw [q]; simp⟩⟩
theorem Un.refl:Un fs ex H H h h:=Un.kept fun _ _ q=>q
theorem Un.laid (k:∀ b u,h.get? b=some u->h'.get? b=some u) (hp:h.objs.size<=a) (hn:H a=none):Un fs ex H (upd H a o) h h' where
 keep:=fun b u q _ _ _=>k b u q
 slot:=fun b u q _ _ _=>⟨u.slots,k b u q⟩
 free:=fun b u q n _=>by rw [au (Nat.ne_of_lt (Nat.lt_of_lt_of_le (Heap.lt_size q) hp))]; exact n
 there:=fun b u q _=>⟨u,k b u q⟩
 tups:=fun b xs q=>by rw [au (aD q hn)]; exact q
 frzs:=fun b u xs q=>by rw [au (aD q hn)]; exact q
 tbls:=fun b ps q=>⟨#[],by rw [au (aD q hn),q]; simp⟩
theorem Un.write (mu:Mut (H x)) (he:e=x\/H e=some (.own x)) (k:∀ b u,b≠e->h.get? b=some u->h'.get? b=some u) (heo:∃ u,h'.get? e=some u):Un fs ex H (upd H x o) h h':=by
 have hx:∀ b,H b=none->b≠x:=fun b n z=>by subst z; rw [n] at mu; exact mu
 have hb:∀ b,H b=none->b≠e:=fun b n z=>by
  subst z
  rcases he with r | r
  ·exact hx b n r
  ·rw [n] at r; cases r
 have hm:∀ b u,H b=some u->¬ Mut (some u)->b≠x:=fun b u q nm z=>by subst z; rw [q] at mu; exact nm mu
 refine⟨fun b u q n _ _=>k b u (hb b n) q,fun b u q n _ _=>⟨u.slots,k b u (hb b n) q⟩,fun b u q n _=>by rw [au (hx b n)]; exact n,fun b u q _=>?_,
  fun b xs q=>by rw [au (hm b _ q fun z=>z)]; exact q,fun b u xs q=>by rw [au (hm b _ q fun z=>z)]; exact q,fun b ps q=>⟨#[],by rw [au (hm b _ q fun z=>z),q]; simp⟩⟩
 by_cases hbe:b=e
 ·subst hbe; exact heo
 ·exact⟨u,k b u hbe q⟩
end
def trk (h:Heap) (H:Hp):List Addr:=(List.range h.objs.size).filter fun a=>(H a).isSome
def vO (h:Heap) (H:Hp):Heap:=W.hideAll h (trk h H)
theorem Fq (h:Heap) (H:Hp):(vO h H).objs.size=h.objs.size:=W.hideAll_size _ _
theorem Jj {h:Heap}{H:Hp}{b:Addr}{o:Obj} (e:h.get? b=some o) (n:H b=none):(vO h H).get? b=some o :=
 W.hideAll_get _ e fun hm=>by
  have q:(H b).isSome=true:=(List.mem_filter.mp hm).2
  rw [n] at q; simp at q
theorem Lz {h:Heap}{H:Hp}{b:Addr}{o:Obj} (e:(vO h H).get? b=some o):h.get? b=some o/\H b=none:=by
 have e':h.get? b=some o:=W.of_hideAll (trk h H) e
 refine⟨e',?_⟩
 cases q:H b with
 | none=>rfl
 | some x =>
  have hm:b∈trk h H:=List.mem_filter.mpr ⟨List.mem_range.mpr (Heap.lt_size e'),by simp [q]⟩
  have z:(vO h H).get? b=none:=W.hideAll_none (trk h H) hm
  rw [z] at e; cases e
def wB (g h:Heap) (L:Addr):List (Addr×Obj):=(List.range h.objs.size).filterMap fun a=>if a=L\/(g.get? a).isSome=true then none else (h.get? a).map fun o=>(a,o)
theorem rA {g h:Heap}{L:Addr}{p:Addr×Obj} (hp:p∈wB g h L):p.1≠L/\g.get? p.1=none/\h.get? p.1=some p.2:=by
 obtain⟨b,_,e⟩:=List.mem_filterMap.mp hp
 split at e
 ·cases e
 ·rename_i hn
  cases q:h.get? b with
  | none=>rw [q] at e; simp at e
  | some u =>
   rw [q] at e
   simp only [Option.map_some,Option.some.injEq] at e
   subst e
   refine⟨fun z=>hn (.inl z),?_,q⟩
   show g.get? b=none
   cases r:g.get? b with
   | none=>rfl
   | some v=>exact (hn (.inr (by simp [r]))).elim
def rest (g h:Heap) (L d:Addr):List (Addr×Obj):=(wB g h L).filter fun p=>decide (p.1≠d)
theorem Il {g h:Heap}{L:Addr}:News g L h (wB g h L):=fun p hp=>let ⟨a,b,c⟩:=rA hp; ⟨c,a,b⟩
structure Mod (K:W.Frag) (mg:Str->Option Value) (base:Heap):Prop where
 kin:K.In base
 glob:base.Ns mainGlobals mg
 blt:∃ mb,base.Ns builtinsNs mb/\∀ x:Str,x≠"__name__"->mb x=bootBuiltins x
 nolimit:base.NoLimit
structure Cx where
 prog:Program
 w:World
 K:W.Frag
 mg:Str->Option Value
 base:Heap
 A:Around
 N:List Str
 s₀:Shared
 H₀:Hp
 env:Env
 outer:List Env
 stack:List Env
 ex:List Addr
 fn:Str->Bool
 calm:Bool
 pn:List (Addr×Obj)
 xe:Value->Shared->Prop
 sf:List (Addr×Obj×HO):=[]
def frs (l:List Env):List Addr:=l.filterMap (·.frame)
abbrev Cx.fs (X:Cx):List Addr:=frs X.outer
def Vis (sc:Scope) (x:Str):Prop:=sc.names.lookup x=some .local\/sc.names.lookup x=some .cell\/sc.names.lookup x=some .free
def Loc (sc:Scope) (x:Str):Prop:=sc.names.lookup x=some .local\/sc.names.lookup x=some .cell
def Look (env:Env) (h:Heap) (m:Str->Option Value) (x:Str) (u:Value):Prop :=
 (env.kindOf x=some .local/\m x=some u)\/((env.kindOf x=some .cell\/env.kindOf x=some .free)/\∃ c,env.cells.lookup x=some c/\h.IsCell c (some u))
abbrev zS (X:Cx) (e:Expr) (es:List Expr):Prop:=starEach (e::es) X.env=(false,eval e X.env)::starEach es X.env
abbrev zP (X:Cx) (p:Pos) (es:List Expr):Prop:=(backTo p (starEach es X.env)).any (·.1)=false
abbrev zB (x:Str):Prop:=(x == ("__debug__":Str))=false
abbrev zF (X:Cx) (e:Expr):Prop:=∀ x,foldedSetIterable e X.env x=pure x
abbrev zL (X:Cx) (x:Str):Prop:=X.fn x=true\/X.env.scope.names.lookup x=some .local
abbrev zW (X:Cx) (p:Pos) (es:List Expr):Prop:=((backTo p (starEach es X.env)).all (fun x=>!x.1)&&(backToKw p (keywordEach [] X.env)).all (fun x=>x.1.isSome)&&decide (es.length+([]:List Keyword).length+(if ([]:List Keyword).isEmpty then 0 else 1)<30))=true
theorem zQ {sc:Scope}{x:Str} (h:(sc.names.lookup x == some .local||sc.names.lookup x == some .cell)=true:=by rfl):Loc sc x:=(Bool.or_eq_true_iff.mp h).imp (fun z=>eq_of_beq z) fun z=>eq_of_beq z
structure Cx.Ok (X:Cx):Prop where
 mod:Mod X.K X.mg X.base
 kind:X.env.scope.kind=.function
 glob:X.env.globals=mainGlobals
 blt:X.env.builtins=builtinsNs
 above:X.s₀.heap.objs.size<=X.env.locals
 inj:∀ x y c,X.env.cells.lookup x=some c->X.env.cells.lookup y=some c->x=y
 has:∀ x,(X.env.kindOf x=some .cell\/X.env.kindOf x=some .free)->∃ c,X.env.cells.lookup x=some c
 cab:∀ x c,X.fn x=true->X.env.cells.lookup x=some c->X.s₀.heap.objs.size<=c
 hd:X.calm=true->X.A.handled=none
 frames:X.A.frames=some X.stack
 stk:X.stack=X.outer\/(X.stack=X.env::X.outer/\X.env.frame=some X.env.locals)
 exf:∀ b∈X.ex,b≠X.env.locals/\∀ x c,X.env.cells.lookup x=some c->c≠b
 bs:∀ b o,X.base.get? b=some o->X.s₀.heap.get? b=some o/\X.H₀ b=none
 bsz:X.base.objs.size<=X.s₀.heap.objs.size
 noex:∀ b o,X.base.get? b=some o->b∉X.ex
 exfs:∀ b∈X.ex,b∉X.fs
 mO:X.s₀.heap.FunFrames X.base X.outer
 frf:∀ b∈X.fs,X.H₀ b=none
 sof:∀ q∈X.sf,X.A.handled=some (.ref q.1)/\X.H₀ q.1=some (.frz q.2.1 q.2.2)/\∃ ws,q.2.1.data=.fields ws/\ws[2]?=some .none
structure Inv (X:Cx) (pins:List (Addr×Obj)) (σ:List (Option V)) (H:Hp) (s:Shared):Prop where
 ok:X.Ok
 os:s.os=X.s₀.os
 bare:AllBare s.gens
 base:Un X.fs X.ex X.H₀ H X.s₀.heap s.heap
 loc:∃ m,s.heap.Ns X.env.locals m/\∀ (i:Nat) (x:Str) (v:V),X.N[i]?=some x->σ[i]?=some (some v)->Vis X.env.scope x->∃ u,RelV v u/\Look X.env s.heap m x u
 cell:∀ x c,X.env.cells.lookup x=some c->∃ v,s.heap.IsCell c v
 free:H X.env.locals=none
 freeC:∀ x c,X.env.cells.lookup x=some c->H c=none
 pin:∀ p∈X.pn++pins,s.heap.get? p.1=some p.2/\H p.1=none/\p.1≠X.env.locals/\p.1∉X.fs/\∀ v,p.2.data≠.cell v
 hok:HOk X.prog X.w H s.heap
 len:σ.length=X.N.length
section
variable {X:Cx}{pins:List (Addr×Obj)}{σ:List (Option V)}{H H':Hp}{s:Shared}{h':Heap}
theorem Cx.Ok.U5 (ok:X.Ok) {b:Addr}{o:Obj} (e:X.base.get? b=some o):b∉X.fs:=fun hb=>by
 have:=(ok.mO.mem hb).1
 rw [e] at this; cases this
theorem Inv.bs (I:Inv X pins σ H s):∀ b o,X.base.get? b=some o->s.heap.get? b=some o/\H b=none:=fun b o e =>
 ⟨I.base.keep b o (I.ok.bs b o e).1 (I.ok.bs b o e).2 (I.ok.U5 e) (I.ok.noex b o e),I.base.free b o (I.ok.bs b o e).1 (I.ok.bs b o e).2 (I.ok.noex b o e)⟩
theorem Inv.bk (I:Inv X pins σ H s):∀ b o,X.base.get? b=some o->s.heap.get? b=some o:=fun b o e=>(I.bs b o e).1
theorem Inv.mod (I:Inv X pins σ H s):Mod X.K X.mg X.base:=I.ok.mod
theorem Inv.kIn (I:Inv X pins σ H s):X.K.In s.heap:=I.ok.mod.kin.keeps I.bk
theorem Inv.fr (I:Inv X pins σ H s):∃ m,Fr X.base X.env.locals s.heap m :=
 let ⟨m,hn,_⟩:=I.loc
 ⟨m,hn,I.bk,Nat.le_trans I.ok.bsz I.ok.above⟩
theorem Inv.lt (I:Inv X pins σ H s):X.env.locals<s.heap.objs.size:=let ⟨_,hn,_⟩:=I.loc; hn.lt
theorem Inv.sz (I:Inv X pins σ H s):X.s₀.heap.objs.size<=s.heap.objs.size:=Nat.le_trans I.ok.above (Nat.le_of_lt I.lt)
theorem Inv.U4 (I:Inv X pins σ H s) {a:Addr} (h:s.heap.objs.size<=a):a∉X.fs:=fun hb=>by
 obtain⟨_,o,ho,_⟩:=I.ok.mO.mem hb
 exact absurd (Nat.lt_of_lt_of_le (Heap.lt_size ho) (Nat.le_trans I.sz h)) (Nat.lt_irrefl _)
theorem Inv.cne (I:Inv X pins σ H s):∀ x c,X.env.cells.lookup x=some c->c≠X.env.locals:=fun x c e z=>by
 obtain⟨v,o,ho,hd⟩:=I.cell x c e
 obtain⟨m,⟨o',es,ep,ho',hd',_⟩,_⟩:=I.loc
 rw [z,ho'] at ho; cases ho; rw [hd'] at hd; cases hd
theorem Inv.mO (I:Inv X pins σ H s):s.heap.FunFrames X.base X.outer:=by
 have all:∀ (l:List Env),(∀ b∈frs l,b∈X.fs)->X.s₀.heap.FunFrames X.base l->s.heap.FunFrames X.base l:=by
  intro l
  induction l with
  | nil=>intro _ _; trivial
  | cons env r ih =>
   intro hs hl
   obtain⟨hk,⟨L,o,hf,hn,ho,hd⟩,hr⟩:=hl
   have hL:L∈X.fs:=hs L (by unfold frs; rw [List.filterMap_cons,hf]; exact List.mem_cons_self)
   obtain⟨sl,e⟩:=I.base.slot L o ho (I.ok.frf L hL) hL fun z=>I.ok.exfs L z hL
   exact⟨hk,⟨L,_,hf,hn,e,hd⟩,ih (fun b hb=>hs b (by unfold frs; rw [List.filterMap_cons,hf]; exact List.mem_cons_of_mem _ hb)) hr⟩
 exact all X.outer (fun _ hb=>hb) I.ok.mO
theorem Inv.stack (I:Inv X pins σ H s):s.heap.FunFrames X.base X.stack:=by
 rcases I.ok.stk with e | ⟨e,hf⟩
 ·rw [e]; exact I.mO
 ·rw [e]
  obtain⟨m,hn,_⟩:=I.loc
  refine .cons (by rw [I.ok.kind]; decide) hf hn ?_ I.mO
  exact Heap.get?_none_of_le (Nat.le_trans I.ok.bsz I.ok.above)
theorem Inv.uQ (I:Inv X pins σ H s):∀ b∈frs X.stack,b∈X.env.locals::X.fs:=fun b hb=>by
 rcases I.ok.stk with e | ⟨e,hf⟩
 ·rw [e] at hb; exact List.mem_cons_of_mem _ hb
 ·rw [e] at hb
  unfold frs at hb
  rw [List.filterMap_cons,hf] at hb
  exact hb
theorem Inv.uR (I:Inv X pins σ H s):∀ b∈frs X.stack,H b=none:=fun b hb=>by
 rcases List.mem_cons.mp (I.uQ b hb) with e | hb
 ·rw [e]; exact I.free
 ·obtain⟨_,o,ho,_⟩:=I.ok.mO.mem hb
  exact I.base.free b o ho (I.ok.frf b hb) fun z=>I.ok.exfs b z hb
theorem Inv.step {g':Array GenState}{t':Nat}{d':Drawn}{ch:List Addr} (I:Inv X pins σ H s)
  (hch:∀ b∈ch,(b∈X.ex\/X.s₀.heap.objs.size<=b)/\b≠X.env.locals/\(∀ x c,X.env.cells.lookup x=some c->c≠b)/\∀ p∈X.pn++pins,p.1≠b)
  (keep:∀ b o,b≠X.env.locals->b∉X.fs->b∉ch->s.heap.get? b=some o->H b=none->h'.get? b=some o)
  (slot:∀ b o,b≠X.env.locals->b∈X.fs->b∉ch->s.heap.get? b=some o->H b=none->∃ sl,h'.get? b=some { o with slots:=sl }) (free:∀ b o,b∉ch->s.heap.get? b=some o->H b=none->H' b=none)
  (there:∀ b o,b∉ch->s.heap.get? b=some o->∃ o',h'.get? b=some o')
  (tups:∀ b xs,H b=some (.tup xs)->H' b=some (.tup xs)) (frzs:∀ b o u,H b=some (.frz o u)->H' b=some (.frz o u)) (tbls:∀ b ps,H b=some (.tbl ps)->∃ more,H' b=some (.tbl (ps++more)))
  (ns:∀ m,s.heap.Ns X.env.locals m->h'.Ns X.env.locals m) (hok:HOk X.prog X.w H' h') (hg:AllBare g') :
  Inv X pins σ H' { s with heap:=h',gens:=g',drawn:=d',toks:=t' }:=by
 have neL:∀ b o,X.s₀.heap.get? b=some o->b≠X.env.locals:=fun b o e=>Nat.ne_of_lt (Nat.lt_of_lt_of_le (Heap.lt_size e) I.ok.above)
 have neC:∀ b o,X.s₀.heap.get? b=some o->b∉X.ex->b∉ch:=fun b o e hx hb=>by
  rcases (hch b hb).1 with z | z
  ·exact hx z
  ·exact absurd (Nat.lt_of_lt_of_le (Heap.lt_size e) z) (Nat.lt_irrefl _)
 have cellK:∀ x c,X.env.cells.lookup x=some c->∀ v,s.heap.IsCell c v->h'.IsCell c v:=fun x c e v ⟨o,ho,hd⟩=>by
  have nch:c∉ch:=fun z=>(hch c z).2.2.1 x c e rfl
  by_cases hc:c∈X.fs
  ·obtain⟨sl,q⟩:=slot c o (I.cne x c e) hc nch ho (I.freeC x c e)
   exact⟨_,q,hd⟩
  ·exact⟨o,keep c o (I.cne x c e) hc nch ho (I.freeC x c e),hd⟩
 refine⟨I.ok,I.os,hg,⟨fun b o e n hb hx=>?_,fun b o e n hb hx=>?_,fun b o e n hx=>?_,fun b o e hx=>?_,fun b xs e=>tups b xs (I.base.tups b xs e),fun b o xs e=>frzs b o xs (I.base.frzs b o xs e),fun b ps e=>?_⟩,?_,fun x c e=>?_,?_,fun x c e=>?_,fun p hp=>?_,hok,I.len⟩
 ·exact keep b o (neL b o e) hb (neC b o e hx) (I.base.keep b o e n hb hx) (I.base.free b o e n hx)
 ·obtain⟨sl,e1⟩:=I.base.slot b o e n hb hx
  obtain⟨sl',e2⟩:=slot b _ (neL b o e) hb (neC b o e hx) e1 (I.base.free b o e n hx)
  exact⟨sl',e2⟩
 ·obtain⟨o',e1⟩:=I.base.there b o e hx
  exact free b o' (neC b o e hx) e1 (I.base.free b o e n hx)
 ·obtain⟨o',e1⟩:=I.base.there b o e hx
  exact there b o' (neC b o e hx) e1
 ·obtain⟨m1,e1⟩:=I.base.tbls b ps e
  obtain⟨m2,e2⟩:=tbls b _ e1
  exact⟨m1++m2,by rw [e2,Array.append_assoc]⟩
 ·obtain⟨m,hn,hl⟩:=I.loc
  refine⟨m,ns m hn,fun i x v e1 e2 e3=>?_⟩
  obtain⟨u,r,l⟩:=hl i x v e1 e2 e3
  refine⟨u,r,?_⟩
  rcases l with l | ⟨k,c,e,z⟩
  ·exact .inl l
  ·exact .inr ⟨k,c,e,cellK x c e _ z⟩
 ·obtain⟨v,z⟩:=I.cell x c e
  exact⟨v,cellK x c e v z⟩
 ·obtain⟨m,⟨o,_,_,ho,_⟩,_⟩:=I.loc
  exact free _ o (fun z=>(hch _ z).2.1 rfl) ho I.free
 ·obtain⟨v,o,ho,hd⟩:=I.cell x c e
  exact free c o (fun z=>(hch c z).2.2.1 x c e rfl) ho (I.freeC x c e)
 ·obtain⟨e,n,ne,nf,d⟩:=I.pin p hp
  have nch:p.1∉ch:=fun z=>(hch p.1 z).2.2.2 p hp rfl
  exact⟨keep p.1 p.2 ne nf nch e n,free p.1 p.2 nch e n,ne,nf,d⟩
theorem Inv.un {t':Nat} (I:Inv X pins σ H s) (u:Un X.fs [] H H' s.heap h') (hok:HOk X.prog X.w H' h'):Inv X pins σ H' { s with heap:=h',toks:=t' }:=by
 obtain⟨m,⟨o,es,ep,ho,r⟩,_⟩:=id I.loc
 obtain⟨sl,hL⟩:=u.any ho I.free (by simp)
 exact I.step (g':=s.gens) (d':=s.drawn) (ch:=[]) (fun _ z=>nomatch z) (fun b o _ hb _ e n=>u.keep b o e n hb (by simp)) (fun b o _ hb _ e n=>u.slot b o e n hb (by simp)) (fun b o _ e n=>u.free b o e n (by simp)) (fun b o _ e=>u.there b o e (by simp)) u.tups u.frzs u.tbls (fun m' hm=>by
  obtain⟨o',es',ep',ho',r'⟩:=hm
  rw [ho] at ho'; cases ho'
  exact⟨_,es',ep',hL,r'⟩) hok I.bare
theorem Inv.call {g':Array GenState}{t':Nat}{d':Drawn}{ch:List Addr} (I:Inv X pins σ H s) (u:Un (frs X.stack) ch H H' s.heap h') (hok:HOk X.prog X.w H' h') (hg:AllBare g')
  (hch:∀ b∈ch,(b∈X.ex\/X.s₀.heap.objs.size<=b)/\b≠X.env.locals/\(∀ x c,X.env.cells.lookup x=some c->c≠b)/\∀ p∈X.pn++pins,p.1≠b) :
  Inv X pins σ H' { s with heap:=h',gens:=g',drawn:=d',toks:=t' }:=by
 obtain⟨m,⟨o,es,ep,ho,r⟩,_⟩:=id I.loc
 obtain⟨sl,hL⟩:=u.any ho I.free fun z=>(hch _ z).2.1 rfl
 exact I.step (ch:=ch) hch (fun b o hL hb hc e n=>u.keep b o e n (fun z=>(List.mem_cons.mp (I.uQ b z)).elim hL hb) hc) (fun b o _ _ hc e n=>u.any e n hc) (fun b o hc e n=>u.free b o e n hc) (fun b o hc e=>u.there b o e hc) u.tups u.frzs u.tbls (fun m' hm=>by
  obtain⟨o',es',ep',ho',r'⟩:=hm
  rw [ho] at ho'; cases ho'
  exact⟨_,es',ep',hL,r'⟩) hok hg
theorem Inv.turned {t':Nat}{it:Addr} (I:Inv X pins σ H s) (k:∀ b o,b≠it->s.heap.get? b=some o->h'.get? b=some o) (hn:H it=none) (hL:it≠X.env.locals)
  (h1:it∈X.ex\/X.s₀.heap.objs.size<=it) (h2:∀ x c,X.env.cells.lookup x=some c->c≠it) (h3:∀ p∈X.pn++pins,p.1≠it):Inv X pins σ H { s with heap:=h',toks:=t' }:=by
 have nit:∀ b u,H b=some u->b≠it:=fun b u e z=>by rw [z,hn] at e; cases e
 refine I.step (g':=s.gens) (d':=s.drawn) (ch:=[it]) (fun b hb=>?_) (fun b o _ _ hc e _=>k b o (fun z=>hc (by simp [z])) e) (fun b o _ _ hc e _=>⟨o.slots,k b o (fun z=>hc (by simp [z])) e⟩) (fun _ _ _ _ n=>n)
  (fun b o hc e=>⟨o,k b o (fun z=>hc (by simp [z])) e⟩) (fun _ _ e=>e) (fun _ _ _ e=>e) (fun b ps e=>⟨#[],by rw [e]; simp⟩) (fun m hm=>?_) (fun b u e=>?_) I.bare
 ·have e:b=it:=by simpa using hb
  subst e
  exact⟨h1,hL,h2,h3⟩
 ·obtain⟨o,es,ep,ho,r⟩:=hm
  exact⟨o,es,ep,k _ o (Ne.symm hL) ho,r⟩
 ·refine (I.hok b u e).stay (fun c v hc q=>k c v ?_ q) (fun _ q=>q) fun _ _ q=>q
  rcases hc with z | z
  ·rw [z]; exact nit b u e
  ·exact nit c _ z
theorem Inv.tok (I:Inv X pins σ H s) (t:Nat):Inv X pins σ H { s with toks:=t }:=I.un (h':=s.heap) (t':=t) Un.refl I.hok
theorem Inv.kept {t':Nat} (I:Inv X pins σ H s) (k:∀ b u,s.heap.get? b=some u->h'.get? b=some u):Inv X pins σ H { s with heap:=h',toks:=t' }:=I.un (Un.kept k) (I.hok.kept k)
theorem Inv.laid {a:Addr}{o:HO}{t':Nat} (I:Inv X pins σ H s) (k:∀ b u,s.heap.get? b=some u->h'.get? b=some u) (hp:s.heap.objs.size<=a) (new:bG X.prog X.w (upd H a o) h' a o) :
  Inv X pins σ (upd H a o) { s with heap:=h',toks:=t' }:=I.un (Un.laid k hp (I.hok.fresh hp)) (I.hok.laid k hp new)
theorem Inv.write {x e:Addr}{o:HO}{t':Nat} (I:Inv X pins σ H s) (mu:Mut (H x)) (he:e=x\/H e=some (.own x)) (k:∀ b u,b≠e->s.heap.get? b=some u->h'.get? b=some u) (heo:∃ u,h'.get? e=some u)
  (new:bG X.prog X.w (upd H x o) h' x o):Inv X pins σ (upd H x o) { s with heap:=h',toks:=t' }:=I.un (Un.write mu he k heo) (I.hok.write mu he k heo new)
theorem Inv.pU {pins':List (Addr×Obj)} (I:Inv X pins σ H s) (h:∀ p∈pins',s.heap.get? p.1=some p.2/\H p.1=none/\p.1≠X.env.locals/\p.1∉X.fs/\∀ v,p.2.data≠.cell v):Inv X pins' σ H s :=
 ⟨I.ok,I.os,I.bare,I.base,I.loc,I.cell,I.free,I.freeC,fun p hp=>(List.mem_append.mp hp).elim (fun z=>I.pin p (List.mem_append_left _ z)) (h p),I.hok,I.len⟩
theorem rB {N:List Str} (hN:N.Nodup) {i j:Nat}{x:Str} (a:N[i]?=some x) (b:N[j]?=some x):i=j:=by
 obtain⟨h1,e1⟩:=List.getElem?_eq_some_iff.mp a
 obtain⟨h2,e2⟩:=List.getElem?_eq_some_iff.mp b
 exact (List.getElem_inj hN).mp (e1.trans e2.symm)
theorem tM {M:Model}{A:Around}{E:Value->Shared->Prop}{i:Nat}{x:Str}{v:V}{u:Value}{Q:Unit->Shared->Prop} (I:Inv X pins σ H s) (hU:∀ j,X.N[j]?=some x->j=i) (hi:X.N[i]?=some x) (hx:Loc X.env.scope x) (r:RelV v u)
  (h:∀ s',Inv X pins (σ.set i (some v)) H s'->(∃ a,Heap.SameBut a s.heap s'.heap/\(a=X.env.locals\/X.env.cells.lookup x=some a))->Q () s') (hf:X.fn x=true\/X.env.scope.names.lookup x=some .local:=by first | exact .inl rfl | exact .inr rfl | assumption):wpAny M A (storeName X.env x u) Q E s:=by
 obtain⟨m,hn,hl⟩:=id I.loc
 have hcls:(X.env.scope.kind == .class || (X.env.scope.kind == .module&&X.env.locals != X.env.globals))=false:=by rw [I.ok.kind]; rfl
 have hiσ:i<σ.length:=by rw [I.len]; exact (List.getElem?_eq_some_iff.mp hi).1
 have cne:=I.cne
 have tracked:∀ {a:Addr}{h':Heap},(∃ o,s.heap.get? a=some o/\H a=none)->Heap.SameBut a s.heap h'->HOk X.prog X.w H h':=fun {a h'} ha hs b ob e=>by
  obtain⟨_,_,hfree⟩:=ha
  refine (I.hok b ob e).stay (fun c w' hc q=>(hs.2 c ?_).trans q) (fun _ q=>q) fun _ _ q=>q
  rintro rfl
  rcases hc with rfl | hc
  ·rw [hfree] at e; cases e
  ·rw [hfree] at hc; cases hc
 rcases hx with hk | hk
 ·refine wpAny_storeName_local hk hn (fun h' hn' hs=>?_) hcls
  obtain⟨oL,_,_,hoL,_⟩:=id hn
  refine h _ ⟨I.ok,I.os,I.bare,⟨fun b o e n hb hx=>?_,fun b o e n hb hx=>?_,I.base.free,fun b o e hx=>?_,I.base.tups,I.base.frzs,I.base.tbls⟩,⟨_,hn',fun j y v' e1 e2 e3=>?_⟩,fun y c e=>?_,I.free,I.freeC,fun p hp=>?_,tracked ⟨oL,hoL,I.free⟩ hs,by simpa using I.len⟩ ⟨_,hs,.inl rfl⟩
  ·exact (hs.2 b (Nat.ne_of_lt (Nat.lt_of_lt_of_le (Heap.lt_size e) I.ok.above))).trans (I.base.keep b o e n hb hx)
  ·obtain⟨sl,e1⟩:=I.base.slot b o e n hb hx
   exact⟨sl,(hs.2 b (Nat.ne_of_lt (Nat.lt_of_lt_of_le (Heap.lt_size e) I.ok.above))).trans e1⟩
  ·obtain⟨o',e1⟩:=I.base.there b o e hx
   exact⟨o',(hs.2 b (Nat.ne_of_lt (Nat.lt_of_lt_of_le (Heap.lt_size e) I.ok.above))).trans e1⟩
  ·by_cases hj:j=i
   ·subst hj
    rw [hi] at e1; cases e1
    rw [List.getElem?_set_self hiσ] at e2
    cases e2
    exact⟨u,r,.inl ⟨hk,by simp⟩⟩
   ·rw [List.getElem?_set_ne (Ne.symm hj)] at e2
    obtain⟨u',r',q⟩:=hl j y v' e1 e2 e3
    refine⟨u',r',?_⟩
    rcases q with ⟨k,e⟩ | ⟨k,c,e,z⟩
    ·refine .inl ⟨k,?_⟩
     have:y≠x:=fun e=>hj (hU _ (e ▸ e1))
     simp [this,e]
    ·exact .inr ⟨k,c,e,z.sameBut hs (cne y c e)⟩
  ·obtain⟨w',z⟩:=I.cell y c e
   exact⟨w',z.sameBut hs (cne y c e)⟩
  ·obtain⟨e,n,ne,nf,d⟩:=I.pin p hp
   exact⟨(hs.2 p.1 ne).trans e,n,ne,nf,d⟩
 ·have hfn:X.fn x=true:=by
   rcases hf with z | z
   ·exact z
   ·rw [z] at hk; cases hk
  obtain⟨c,hc⟩:=I.ok.has x (.inl hk)
  obtain⟨w',z⟩:=I.cell x c hc
  refine wpAny_storeName_cell I.ok.kind hk hc z (fun h' hc' hs=>?_)
  obtain⟨oc,hoc,hocd⟩:=id z
  refine h { s with heap:=h' } ⟨I.ok,I.os,I.bare,⟨fun b o e n hb hx=>?_,fun b o e n hb hx=>?_,I.base.free,fun b o e hx=>?_,I.base.tups,I.base.frzs,I.base.tbls⟩,⟨m,hn.sameBut hs (Ne.symm (cne x c hc)),fun j y v' e1 e2 e3=>?_⟩,fun y c' e=>?_,I.free,I.freeC,fun p hp=>?_,tracked ⟨oc,hoc,I.freeC x c hc⟩ hs,by simpa using I.len⟩ ⟨c,hs,.inr hc⟩
  ·exact (hs.2 b (Nat.ne_of_lt (Nat.lt_of_lt_of_le (Heap.lt_size e) (I.ok.cab x c hfn hc)))).trans (I.base.keep b o e n hb hx)
  ·obtain⟨sl,e1⟩:=I.base.slot b o e n hb hx
   exact⟨sl,(hs.2 b (Nat.ne_of_lt (Nat.lt_of_lt_of_le (Heap.lt_size e) (I.ok.cab x c hfn hc)))).trans e1⟩
  ·obtain⟨o',e1⟩:=I.base.there b o e hx
   exact⟨o',(hs.2 b (Nat.ne_of_lt (Nat.lt_of_lt_of_le (Heap.lt_size e) (I.ok.cab x c hfn hc)))).trans e1⟩
  ·by_cases hj:j=i
   ·subst hj
    rw [hi] at e1; cases e1
    rw [List.getElem?_set_self hiσ] at e2
    cases e2
    exact⟨u,r,.inr ⟨.inl hk,c,hc,hc'⟩⟩
   ·rw [List.getElem?_set_ne (Ne.symm hj)] at e2
    obtain⟨u',r',q⟩:=hl j y v' e1 e2 e3
    refine⟨u',r',?_⟩
    rcases q with q | ⟨k,c',e,z'⟩
    ·exact .inl q
    ·refine .inr ⟨k,c',e,z'.sameBut hs ?_⟩
     rintro rfl
     exact hj (hU _ (I.ok.inj _ _ _ e hc ▸ e1))
  ·by_cases hcc:c'=c
   ·subst hcc; exact⟨_,hc'⟩
   ·obtain⟨w2,z2⟩:=I.cell y c' e
    exact⟨w2,z2.sameBut hs hcc⟩
  ·obtain⟨e,n,ne,nf,d⟩:=I.pin p hp
   refine⟨(hs.2 p.1 ?_).trans e,n,ne,nf,d⟩
   intro q
   rw [q,hoc] at e
   have q':oc=p.2:=Option.some.inj e
   exact d w' (by rw [← q']; exact hocd)
theorem qy {M:Model}{A:Around}{E:Value->Shared->Prop}{i:Nat}{x:Str}{v:V}{u:Value}{Q:Unit->Shared->Prop} (I:Inv X pins σ H s) (hN:X.N.Nodup) (hi:X.N[i]?=some x) (hx:Loc X.env.scope x) (r:RelV v u)
  (h:∀ s',Inv X pins (σ.set i (some v)) H s'->Q () s') (hf:X.fn x=true\/X.env.scope.names.lookup x=some .local:=by first | exact .inl rfl | exact .inr rfl | assumption):wpAny M A (storeName X.env x u) Q E s :=
 tM I (fun j h=>rB hN h hi) hi hx r (fun s' I' _=>h s' I') hf
theorem Inv.call' {s':Shared}{ch:List Addr} (I:Inv X pins σ H s) (ho:s'.os=s.os) (u:Un (frs X.stack) ch H H' s.heap s'.heap) (hok:HOk X.prog X.w H' s'.heap) (hg:AllBare s'.gens)
  (hch:∀ b∈ch,(b∈X.ex\/X.s₀.heap.objs.size<=b)/\b≠X.env.locals/\(∀ x c,X.env.cells.lookup x=some c->c≠b)/\∀ p∈X.pn++pins,p.1≠b):Inv X pins σ H' s':=by
 obtain⟨h',g',d',t',o'⟩:=s'
 have e:o'=s.os:=ho
 subst e
 exact I.call (g':=g') (t':=t') (d':=d') u hok hg hch
end
abbrev XK:=Value->Option Addr->Hp->Prop
abbrev St:=List (Option V)
abbrev VK:=V->Hp->Prop
abbrev TE:=St->Hp->VK->Prop
abbrev TT:=St->Hp->(Bool->Hp->Prop)->Prop
abbrev TA:=St->Hp->(List V->Hp->Prop)->Prop
structure Ends where
 nx:St->Hp->Prop
 rt:VK
 bk:St->Hp->Prop:=fun _ _=>False
 ct:St->Hp->Prop:=fun _ _=>False
abbrev TS:=Ends->St->Hp->Prop
def EP (X:Cx) (pins:List (Addr×Obj)) (σ:St) (Q:VK) (u:Value) (s':Shared):Prop:=∃ v H',Inv X pins σ H' s'/\RelV v u/\Q v H'
def TP (X:Cx) (pins:List (Addr×Obj)) (σ:St) (Q:Bool->Hp->Prop) (b:Bool) (s':Shared):Prop:=∃ H',Inv X pins σ H' s'/\Q b H'
def AP (X:Cx) (pins:List (Addr×Obj)) (σ:St) (Q:List V->Hp->Prop) (us:List Value) (s':Shared):Prop:=∃ vs H',Inv X pins σ H' s'/\Vals vs us/\Q vs H'
def SP (X:Cx) (pins:List (Addr×Obj)) (D:Ends) (f:Flow) (s':Shared):Prop :=
 match f with
 | .next=>∃ σ' H',Inv X pins σ' H' s'/\D.nx σ' H'
 | .brk=>∃ σ' H',Inv X pins σ' H' s'/\D.bk σ' H'
 | .cont=>∃ σ' H',Inv X pins σ' H' s'/\D.ct σ' H'
 | .ret u=>∃ v σ' H',Inv X pins σ' H' s'/\RelV v u/\D.rt v H'
def PE (X:Cx) (e:Expr) (t:TE):Prop :=
 ∀ (pins:List (Addr×Obj)) (s:Shared) (σ:St) (H:Hp) (Q:VK),Inv X pins σ H s->t σ H Q->wpAny (model X.prog X.w) X.A (eval e X.env) (EP X pins σ Q) X.xe s
def PT (X:Cx) (e:Expr) (t:TT):Prop :=
 ∀ (pins:List (Addr×Obj)) (s:Shared) (σ:St) (H:Hp) (Q:Bool->Hp->Prop),Inv X pins σ H s->t σ H Q->wpAny (model X.prog X.w) X.A (isTrue e X.env (eval e X.env)) (TP X pins σ Q) X.xe s
def PW (X:Cx) (e:Expr) (t:TT):Prop :=
 ∀ (whole:Sem Value) (pins:List (Addr×Obj)) (s:Shared) (σ:St) (H:Hp) (Q:Bool->Hp->Prop),Inv X pins σ H s->t σ H Q->wpAny (model X.prog X.w) X.A (isTrue e X.env whole) (TP X pins σ Q) X.xe s
theorem PW.pt {X:Cx}{e:Expr}{t:TT} (h:PW X e t):PT X e t:=h _
def PA (X:Cx) (es:List Expr) (t:TA):Prop :=
 ∀ (pos:Pos) (pins:List (Addr×Obj)) (s:Shared) (σ:St) (H:Hp) (Q:List V->Hp->Prop),Inv X pins σ H s->t σ H Q->wpAny (model X.prog X.w) X.A (spliced (backTo pos (starEach es X.env))) (AP X pins σ Q) X.xe s
def PS (X:Cx) (st:Stmt) (t:TS):Prop :=
 ∀ (pins:List (Addr×Obj)) (s:Shared) (σ:St) (H:Hp) (D:Ends),Inv X pins σ H s->t D σ H->wpAny (model X.prog X.w) X.A (exec st X.env) (SP X pins D) X.xe s
def PSs (X:Cx) (st:List Stmt) (t:TS):Prop :=
 ∀ (pins:List (Addr×Obj)) (s:Shared) (σ:St) (H:Hp) (D:Ends),Inv X pins σ H s->t D σ H->wpAny (model X.prog X.w) X.A (execs st X.env) (SP X pins D) X.xe s
theorem thn {α:Type}{t:Sem α}{Q Q':α->Shared->Prop}{M:Model}{A:Around}{E:Value->Shared->Prop}{s:Shared} (h:wpAny M A t Q E s) (hQ:∀ a s,Q a s->Q' a s):wpAny M A t Q' E s:=wpAny_mono h hQ fun _ _ x=>x
section
variable {X:Cx}
theorem bin {a b:Expr}{ta tb:TE} (ha:PE X a ta) (hb:PE X b tb) {pins:List (Addr×Obj)}{s:Shared}{σ:St}{H:Hp}{R:V->V->Hp->Prop} (I:Inv X pins σ H s) (h:ta σ H fun x H1=>tb σ H1 fun y H2=>R x y H2)
  {α:Type}{Q:α->Shared->Prop}{f:Value->Value->Sem α}
  (hf:∀ v u s2 x y H2,Inv X pins σ H2 s2->RelV x v->RelV y u->R x y H2->wpAny (model X.prog X.w) X.A (f v u) Q X.xe s2) :
  wpAny (model X.prog X.w) X.A (eval a X.env) (fun v s₁=>wpAny (model X.prog X.w) X.A (eval b X.env) (fun u s₂=>wpAny (model X.prog X.w) X.A (f v u) Q X.xe s₂) X.xe s₁) X.xe s:=by
 refine thn (ha pins s σ H _ I h) fun v s1 ⟨x,H1,I1,r1,q1⟩=>?_
 refine thn (hb pins s1 σ H1 _ I1 q1) fun u s2 ⟨y,H2,I2,r2,q2⟩=>?_
 exact hf v u s2 x y H2 I2 r1 r2 q2
def j7 (i:Nat):TE:=fun σ H Q=>∃ v,σ[i]?=some (some v)/\Q v H
def tC (v:V):TE:=fun _ H Q=>Q v H
theorem Qk {i:Nat}{x:Str}{pos:Pos} (hN:X.N[i]?=some x) (hv:Vis X.env.scope x) (hd:(x == ("__debug__":Str))=false:=by decide) (hcd:(x == ("__classdict__":Str))=false:=by decide):PE X (.Name x pos) (j7 i):=by
 intro pins s σ H Q I h
 obtain⟨v,e,h⟩:=h
 obtain⟨m,hn,hl⟩:=I.loc
 obtain⟨u,r,l⟩:=hl i x v hN e hv
 have fin:EP X pins σ Q u s:=⟨v,H,I,r,h⟩
 rcases l with ⟨hk,hm⟩ | ⟨hk,c,hc,hcell⟩
 ·exact wpAny_Name (wpAny_loadName_local I.ok.kind hk hn hm fin) hd
 ·rcases hk with hk | hk
  ·exact wpAny_Name (wpAny_loadName_cell I.ok.kind hk hc hcell fin) hd
  ·exact wpAny_Name (wpAny_loadName_free I.ok.kind hk hc hcell fin hcd) hd
theorem aU {i j pos}:PE X (.Constant (.int i) j pos) (tC (.int i)):=fun _ _ _ H _ I h=>wpAny_Constant_int ⟨.int i,H,I.tok _,⟨_,rfl⟩,h⟩
theorem SQ {b j pos}:PE X (.Constant (.bool b) j pos) (tC (.bl b)):=fun _ _ _ H _ I h=>Constant_bool ⟨.bl b,H,I,rfl,h⟩
theorem Qn {j pos}:PE X (.Constant .none j pos) (tC .non):=fun _ _ _ H _ I h=>Constant_none ⟨.non,H,I,rfl,h⟩
theorem Hr {x j pos}:PE X (.Constant (.str x) j pos) (tC (.str x)):=fun _ _ _ H _ I h=>Calls.Constant_str ⟨.str x,H,I.tok _,⟨_,rfl⟩,h⟩
def Gl (X:Cx) (x:Str):Prop:=X.env.kindOf x=some .globalImplicit
theorem jM {E:Value->Shared->Prop}{pins:List (Addr×Obj)}{s:Shared}{σ:St}{H:Hp}{x:Str}{u:Value}{pos:Pos}{Q:Value->Shared->Prop} (I:Inv X pins σ H s) (hg:Gl X x) (hm:X.mg x=some u) (h:Q u s)
  (hd:(x == ("__debug__":Str))=false:=by decide):wpAny (model X.prog X.w) X.A (eval (.Name x pos) X.env) Q E s :=
 Calls.Name_function_global I.ok.kind hg (Calls.loadGlobal_global (by rw [I.ok.glob]; exact I.mod.glob.keeps I.bk) hm h) hd
theorem jt {E:Value->Shared->Prop}{pins:List (Addr×Obj)}{s:Shared}{σ:St}{H:Hp}{x:Str}{u:Value}{pos:Pos}{Q:Value->Shared->Prop} (I:Inv X pins σ H s) (hg:Gl X x) (hm:X.mg x=none) (hv:bootBuiltins x=some u) (h:Q u s)
  (hn:x≠"__name__":=by decide) (hd:(x == ("__debug__":Str))=false:=by decide):wpAny (model X.prog X.w) X.A (eval (.Name x pos) X.env) Q E s:=by
 obtain⟨mb,h1,h2⟩:=I.mod.blt
 exact Calls.Name_function_global I.ok.kind hg (Calls.loadGlobal_builtin (by rw [I.ok.glob]; exact I.mod.glob.keeps I.bk) hm (by rw [I.ok.blt]; exact h1.keeps I.bk) ((h2 x hn).trans hv) h) hd
theorem d7 {x:Str}{v:V}{u:Value}{pos:Pos} (hg:Gl X x) (hm:X.mg x=some u) (r:RelV v u) (hd:(x == ("__debug__":Str))=false:=by decide):PE X (.Name x pos) (tC v) :=
 fun _ _ _ H _ I h=>jM I hg hm ⟨v,H,I,r,h⟩ hd
theorem jG {x:Str}{v:V}{u:Value}{pos:Pos} (hg:Gl X x) (hm:X.mg x=none) (hv:bootBuiltins x=some u) (r:RelV v u) (hn:x≠"__name__":=by decide) (hd:(x == ("__debug__":Str))=false:=by decide):PE X (.Name x pos) (tC v) :=
 fun _ _ _ H _ I h=>jt I hg hm hv ⟨v,H,I,r,h⟩ hn hd
variable {a b:Expr}{ta tb:TE}{pos:Pos}
def PC (X:Cx) (op:CmpOp) (a b:Expr) (t:TE):Prop :=
 ∀ (pins:List (Addr×Obj)) (s:Shared) (σ:St) (H:Hp) (Q:VK),Inv X pins σ H s->t σ H Q ->
  wpAny (model X.prog X.w) X.A (eval a X.env) (fun v s₁=>wpAny (model X.prog X.w) X.A (eval b X.env) (fun u s₂=>wpAny (model X.prog X.w) X.A (compareOp op v u) (EP X pins σ Q) X.xe s₂) X.xe s₁) X.xe s
def tB (t:TE):TT:=fun σ H Q=>t σ H fun x H1=>∃ c,x=.bl c/\Q c H1
theorem Qg {op:CmpOp}{t:TE} (h:PC X op a b t) (h1:behindInMarks op b=false:=by first | exact nobehind _ (by decide) (by decide) | rfl):PT X (.Compare a [op] [b] pos) (tB t):=by
 intro pins s σ H Q I hw
 refine wpAny_isTrue_Compare1 (thn (h pins s σ H _ I hw) fun v s1 h1=>thn h1 fun u s2 h2=>thn h2 fun c s3 ⟨x,H1,I1,r1,q1⟩=>?_) h1
 obtain⟨d,rfl,q⟩:=q1
 cases r1
 exact wpAny_truthy_bool ⟨H1,I1,q⟩
theorem Qe {e:Expr}{t:TE} (h:PE X e t) (he:∀ whole,isTrue e X.env whole=(do let v ← whole; standAt e.pos; holding [v] (truthy v)):=by intro _; rfl):PT X e (tB t):=by
 intro pins s σ H Q I hw
 refine isTrue_plain (thn (h pins s σ H _ I hw) fun v s1 ⟨x,H1,I1,r1,q1⟩=>?_) (he _)
 obtain⟨d,rfl,q⟩:=q1
 cases r1
 exact wpAny_truthy_bool ⟨H1,I1,q⟩
variable {tA tB':TT}{rest:List Expr}
def R3 (t u:TT):TT:=fun σ H Q=>t σ H fun c H1=>if c=true then u σ H1 Q else Q false H1
def tOr (t u:TT):TT:=fun σ H Q=>t σ H fun c H1=>if c=true then Q true H1 else u σ H1 Q
def Ut (t:TT):TT:=fun σ H Q=>t σ H fun c H1=>Q (!c) H1
theorem Cp (ha:PT X a tA):PW X (.BoolOp .And [a] pos) tA:=by
 intro wh pins s σ H Q I h
 refine isTrue_and (thn (ha pins s σ H Q I h) fun c s1 e=>?_)
 cases c with
 | true=>exact isTrue_and_nil e
 | false=>exact e
theorem GR (ha:PT X a tA):PW X (.BoolOp .Or [a] pos) tA:=by
 intro wh pins s σ H Q I h
 refine isTrue_or (thn (ha pins s σ H Q I h) fun c s1 e=>?_)
 cases c with
 | false=>exact isTrue_or_nil e
 | true=>exact e
theorem GX (ha:PT X a tA) (hb:PW X (.BoolOp .And (b::rest) pos) tB'):PW X (.BoolOp .And (a::b::rest) pos) (R3 tA tB'):=by
 intro wh pins s σ H Q I h
 refine isTrue_and (thn (ha pins s σ H _ I h) fun c s1 ⟨H1,I1,q1⟩=>?_)
 cases c with
 | true=>exact hb wh pins s1 σ H1 Q I1 q1
 | false=>exact⟨H1,I1,q1⟩
theorem NP (ha:PT X a tA) (hb:PW X (.BoolOp .Or (b::rest) pos) tB'):PW X (.BoolOp .Or (a::b::rest) pos) (tOr tA tB'):=by
 intro wh pins s σ H Q I h
 refine isTrue_or (thn (ha pins s σ H _ I h) fun c s1 ⟨H1,I1,q1⟩=>?_)
 cases c with
 | true=>exact⟨H1,I1,q1⟩
 | false=>exact hb wh pins s1 σ H1 Q I1 q1
theorem Qf (ha:PT X a tA):PT X (.UnaryOp .Not a pos) (Ut tA):=by
 intro pins s σ H Q I h
 exact isTrue_not (ha pins s σ H (fun c H1=>Q (!c) H1) I h)
def RX (ta tb:TE):TE:=fun σ H Q=>ta σ H fun x H1=>∃ c,x=.bl c/\if c=true then tb σ H1 Q else Q (.bl false) H1
def RK (ta:TE):TE:=fun σ H Q=>ta σ H fun x H1=>∃ c,x=.bl c/\Q (.bl (!c)) H1
theorem Ql {op}{t:TE} (h:PE X a t):PE X (.BoolOp op [a] pos) t:=fun pins s σ H Q I hw=>BoolOp_one (h pins s σ H Q I hw)
theorem Qo (ha:PE X a ta) (hb:PE X (.BoolOp .And (b::rest) pos) tb):PE X (.BoolOp .And (a::b::rest) pos) (RX ta tb):=by
 intro pins s σ H Q I h
 refine BoolOp_and (thn (ha pins s σ H _ I h) fun v s1 ⟨x,H1,I1,r1,q1⟩=>?_)
 obtain⟨c,rfl,q1⟩:=q1
 cases r1
 refine wpAny_truthy_bool ?_
 cases c with
 | true=>exact hb pins s1 σ H1 Q I1 q1
 | false=>exact⟨.bl false,H1,I1,rfl,q1⟩
theorem Qm (ha:PE X a ta):PE X (.UnaryOp .Not a pos) (RK ta):=by
 intro pins s σ H Q I h
 refine UnaryOp_ (thn (ha pins s σ H _ I h) fun v s1 ⟨x,H1,I1,r1,q1⟩=>?_)
 obtain⟨c,rfl,q1⟩:=q1
 cases r1
 exact not_of (wpAny_truthy_bool ⟨.bl (!c),H1,I1,rfl,q1⟩)
end
def SqL (K:W.Frag) (H:Hp) (a:Addr) (xs:List V):Prop :=
 Rd H a (.lst xs) ∨
  ∃ (o:Obj) (its:Array Value) (n:Nat),K.lookup a=some o/\o.cls=.type "list"/\o.dict=none/\o.data=.seq its n/\its.size<=sizeLine/\Vals xs its.toList
def SqT (K:W.Frag) (H:Hp) (a:Addr) (xs:List V):Prop :=
 Rd H a (.tup xs) ∨
  ∃ (o:Obj) (its:Array Value) (n:Nat),K.lookup a=some o/\o.cls=.type "tuple"/\o.data=.seq its n/\its.size<=sizeLine/\Vals xs its.toList
def Vm:Value->Option V
 | .none=>some .non
 | .bool b=>some (.bl b)
 | .int i _=>some (.int i)
 | .str x _=>some (.str x)
 | .bytes b _=>some (.byt b)
 | .float b _=>some (.flt b)
 | .ref a=>some (.ref a)
 | .type n=>some (.ty n)
 | _=>none
theorem RelV.abs {x:V}{u:Value} (r:RelV x u):Vm u=some x:=by
 cases x with
 | non=>cases r; rfl
 | bl _=>cases r; rfl
 | int _=>obtain⟨t,rfl⟩:=r; rfl
 | str _=>obtain⟨t,rfl⟩:=r; rfl
 | byt _=>obtain⟨t,rfl⟩:=r; rfl
 | flt _=>obtain⟨t,rfl⟩:=r; rfl
 | ref _=>cases r; rfl
 | ty _=>cases r; rfl
theorem RelV.inj {x y:V}{u:Value} (r:RelV x u) (q:RelV y u):x=y:=Option.some.inj (r.abs.symm.trans q.abs)
theorem Vals.inj:∀ {xs ys:List V}{us:List Value},Vals xs us->Vals ys us->xs=ys
 | _,_,_,.nil,.nil=>rfl
 | _,_,_,.cons r t,.cons r' t'=>by rw [r.inj r',Vals.inj t t']
section
variable {X:Cx}{pins:List (Addr×Obj)}{σ:St}{H:Hp}{s:Shared}{a:Addr}{xs ys:List V}
theorem SqL.of {K:W.Frag} (h:H a=some (.lst xs)):SqL K H a xs:=.inl (.inl h)
theorem SqT.of {K:W.Frag} (h:H a=some (.tup xs)):SqT K H a xs:=.inl (.inl h)
theorem Inv.list (I:Inv X pins σ H s) (h:SqL X.K H a xs):∃ its:List Value,Vals xs its/\PlainL s.heap a its.toArray/\xs.length<=sizeLine:=by
 rcases h with h | ⟨o,its,n,hk,hc,hd,hs,hz,r⟩
 ·obtain⟨z,its,n,r,e⟩:=h.ok I.hok
  exact⟨its,r,⟨_,n,e,rfl,rfl,rfl⟩,z⟩
 ·refine⟨its.toList,r,⟨o,n,I.kIn a o hk,hc,hd,by simpa using hs⟩,?_⟩
  have e:=r.length
  simp only [Array.length_toList] at e
  omega
theorem Inv.tuple (I:Inv X pins σ H s) (h:SqT X.K H a xs):∃ its:List Value,Vals xs its/\IsTup s.heap a its.toArray/\xs.length<=sizeLine:=by
 rcases h with h | ⟨o,its,n,hk,hc,hs,hz,r⟩
 ·obtain⟨z,its,r,p⟩:=h.ok I.hok
  exact⟨its,r,p,z⟩
 ·refine⟨its.toList,r,⟨o,I.kIn a o hk,hc,n,by simpa using hs⟩,?_⟩
  have e:=r.length
  simp only [Array.length_toList] at e
  omega
theorem Inv.xY (I:Inv X pins σ H s) (h:SqL X.K H a xs) (h':SqL X.K H a ys):xs=ys:=by
 obtain⟨its,r,⟨o,n,e,_,_,d⟩,_⟩:=I.list h
 obtain⟨its',r',⟨o',n',e',_,_,d'⟩,_⟩:=I.list h'
 rw [e] at e'; cases e'
 rw [d] at d'
 injection d' with d1 _
 have:its=its':=by simpa using congrArg Array.toList d1
 subst this
 exact r.inj r'
theorem Inv.tG (I:Inv X pins σ H s) (h:SqT X.K H a xs) (h':SqT X.K H a ys):xs=ys:=by
 obtain⟨its,r,⟨o,e,_,n,d⟩,_⟩:=I.tuple h
 obtain⟨its',r',⟨o',e',_,n',d'⟩,_⟩:=I.tuple h'
 rw [e] at e'; cases e'
 rw [d] at d'
 injection d' with d1 _
 have:its=its':=by simpa using congrArg Array.toList d1
 subst this
 exact r.inj r'
end
abbrev Cx.wish (X:Cx) (E:Value->Shared->Prop):Cx:={ X with xe:=E }
abbrev Cx.nox (X:Cx):Cx:=X.wish fun _ _=>False
theorem Cx.Ok.wish {X:Cx} (ok:X.Ok) (E:Value->Shared->Prop):(X.wish E).Ok :=
 ⟨ok.mod,ok.kind,ok.glob,ok.blt,ok.above,ok.inj,ok.has,ok.cab,ok.hd,ok.frames,ok.stk,ok.exf,ok.bs,ok.bsz,ok.noex,ok.exfs,ok.mO,ok.frf,ok.sof⟩
theorem Cx.Ok.gR {X:Cx}{E:Value->Shared->Prop} (ok:(X.wish E).Ok):X.Ok :=
 ⟨ok.mod,ok.kind,ok.glob,ok.blt,ok.above,ok.inj,ok.has,ok.cab,ok.hd,ok.frames,ok.stk,ok.exf,ok.bs,ok.bsz,ok.noex,ok.exfs,ok.mO,ok.frf,ok.sof⟩
section
variable {X:Cx}{pins:List (Addr×Obj)}{σ:St}{H:Hp}{s:Shared}{E:Value->Shared->Prop}
theorem Inv.wish (I:Inv X pins σ H s) (E:Value->Shared->Prop):Inv (X.wish E) pins σ H s:=⟨I.ok.wish E,I.os,I.bare,I.base,I.loc,I.cell,I.free,I.freeC,I.pin,I.hok,I.len⟩
theorem Inv.gR (I:Inv (X.wish E) pins σ H s):Inv X pins σ H s:=⟨I.ok.gR,I.os,I.bare,I.base,I.loc,I.cell,I.free,I.freeC,I.pin,I.hok,I.len⟩
theorem SP.gR {D:Ends}{f:Flow}{s':Shared} (h:SP (X.wish E) pins D f s'):SP X pins D f s':=by
 cases f with
 | next=>obtain⟨σ',H',I,q⟩:=h; exact⟨σ',H',I.gR,q⟩
 | brk=>obtain⟨σ',H',I,q⟩:=h; exact⟨σ',H',I.gR,q⟩
 | cont=>obtain⟨σ',H',I,q⟩:=h; exact⟨σ',H',I.gR,q⟩
 | ret u=>obtain⟨v,σ',H',I,r,q⟩:=h; exact⟨v,σ',H',I.gR,r,q⟩
theorem PSs.nox {st:List Stmt}{t:TS} (h:PSs X.nox st t):PSs X st t:=fun pins s σ H D I hw =>
 wpAny_mono (h pins s σ H D (I.wish _) hw) (fun _ _ q=>q.gR) fun _ _ z=>False.elim z
end
section
variable {X:Cx}{st:Stmt}{rest:List Stmt}{t u:TS}{e:Expr}{te:TE}{pos:Pos}
def RL:TS:=fun D σ H=>D.nx σ H
def Ur (t u:TS):TS:=fun D σ H=>t { D with nx:=u D } σ H
theorem pR:PSs X [] RL:=fun _ _ σ H _ I h=>wpAny_execs_nil ⟨σ,H,I,h⟩
theorem bH (h1:PS X st t) (h2:PSs X rest u):PSs X (st::rest) (Ur t u):=by
 intro pins s σ H D I h
 refine wpAny_execs_cons (thn (h1 pins s σ H { D with nx:=u D } I h) fun f s1 q=>?_)
 cases f with
 | next =>
  obtain⟨σ',H',I',q⟩:=q
  exact h2 pins s1 σ' H' D I' q
 | ret v=>exact q
 | brk=>exact q
 | cont=>exact q
theorem cU (h1:PS X st t):PSs X [st] t:=by
 intro pins s σ H D I h
 refine wpAny_execs_cons (thn (h1 pins s σ H D I h) fun f s1 q=>?_)
 cases f with
 | next=>exact wpAny_execs_nil q
 | ret v=>exact q
 | brk=>exact q
 | cont=>exact q
theorem Inv.quiet {pins:List (Addr×Obj)}{σ:St}{H:Hp}{s:Shared} (I:Inv X pins σ H s):interactive X.env=false:=by simp [interactive,I.ok.kind]
def oW (te:TE):TS:=fun D σ H=>te σ H fun _ H1=>D.nx σ H1
theorem fu (he:PE X e te) (hs:swapsWith e none pos.line X.env=pure false:=by rfl):PS X (.Expr e pos) (oW te):=by
 intro pins s σ H D I h
 exact wpAny_Expr_any (thn (he pins s σ H _ I h) fun v s1 ⟨x,H1,I1,r1,q1⟩=>⟨σ,H1,I1,q1⟩) I.quiet hs
def Us (te:TE):TS:=fun D σ H=>te σ H D.rt
theorem gW (he:PE X e te):PS X (.Return (some e) pos) (Us te):=by
 intro pins s σ H D I h
 exact wpAny_Return_some (thn (he pins s σ H _ I h) fun v s1 ⟨x,H1,I1,r1,q1⟩=>⟨x,σ,H1,I1,r1,q1⟩)
def Uw (c:TT) (t u:TS):TS:=fun D σ H=>c σ H fun b H1=>if b=true then t D σ H1 else u D σ H1
theorem tU {c:Expr}{a b:List Stmt}{tc:TT} (hc:PT X c tc) (ha:PSs X a t) (hb:PSs X b u):PS X (.If c a b pos) (Uw tc t u):=by
 intro pins s σ H D I h
 refine wpAny_If (thn (hc pins s σ H _ I h) fun d s1 ⟨H1,I1,q1⟩=>?_)
 cases d with
 | true=>exact ha pins s1 σ H1 D I1 q1
 | false=>exact hb pins s1 σ H1 D I1 q1
def Pb:TS:=fun _ _ _=>False
theorem G7:PS X st Pb:=fun _ _ _ _ _ _ h=>h.elim
end
abbrev TG:=V->St->Hp->(St->Hp->Prop)->Prop
abbrev TGs:=List V->St->Hp->(St->Hp->Prop)->Prop
def PG (X:Cx) (target:Expr) (t:TG):Prop :=
 ∀ (pins:List (Addr×Obj)) (s:Shared) (σ:St) (H:Hp) (v:V) (u:Value) (Q:St->Hp->Prop),Inv X pins σ H s->RelV v u->t v σ H Q ->
  wpAny (model X.prog X.w) X.A (assign target X.env u) (fun _ s'=>∃ σ' H',Inv X pins σ' H' s'/\Q σ' H') X.xe s
def PGs (X:Cx) (ts:List Expr) (t:TGs):Prop :=
 ∀ (pins:List (Addr×Obj)) (s:Shared) (σ:St) (H:Hp) (vs:List V) (us:List Value) (Q:St->Hp->Prop),Inv X pins σ H s->Vals vs us->t vs σ H Q ->
  wpAny (model X.prog X.w) X.A (assignInOrder ((assignEach ts X.env).map (·.2)) us) (fun _ s'=>∃ σ' H',Inv X pins σ' H' s'/\Q σ' H') X.xe s
abbrev Rq:=V->V->V->Hp->(Hp->Prop)->Prop
def Uh (X:Cx) (t:Rq):Prop :=
 ∀ (pins:List (Addr×Obj)) (s:Shared) (σ:St) (H:Hp) (o i v:V) (ov iv u:Value) (Q:Hp->Prop),Inv X pins σ H s->RelV o ov->RelV i iv->RelV v u->t o i v H Q ->
  wpAny (model X.prog X.w) X.A (setItem ov iv u) (fun _ s'=>∃ H',Inv X pins σ H' s'/\Q H') X.xe s
section
variable {X:Cx}{pos:Pos}
def fY (i:Nat):TG:=fun v σ H Q=>Q (σ.set i (some v)) H
theorem gY {i:Nat}{x:Str} (hN:X.N.Nodup) (hi:X.N[i]?=some x) (hx:Loc X.env.scope x) (hf:X.fn x=true\/X.env.scope.names.lookup x=some .local:=by first | exact .inl rfl | exact .inr rfl | assumption):PG X (.Name x pos) (fY i):=by
 intro pins s σ H v u Q I r h
 exact wpAny_assign_Name (qy I hN hi hx r (fun s' I'=>⟨_,H,I',h⟩) hf)
def Vg:TGs:=fun vs σ H Q=>vs=[]/\Q σ H
def TF (t:TG) (u:TGs):TGs:=fun vs σ H Q=>∃ v r,vs=v::r/\t v σ H fun σ' H'=>u r σ' H' Q
theorem Le:PGs X [] Vg:=by
 intro pins s σ H vs us Q I r h
 obtain⟨e,h⟩:=h
 subst e
 cases r
 exact assignInOrder_nil ⟨σ,H,I,h⟩
theorem Hl {e:Expr}{es:List Expr}{t:TG}{u:TGs} (h1:PG X e t) (h2:PGs X es u)
  (hs:(assignEach (e::es) X.env).map (·.2)=assign e X.env::(assignEach es X.env).map (·.2):=by rfl):PGs X (e::es) (TF t u):=by
 intro pins s σ H vs us Q I r h
 obtain⟨v,vr,e1,h⟩:=h
 subst e1
 cases r with
 | cons r rr =>
  rw [hs]
  refine assignInOrder_cons (thn (h1 pins s σ H _ _ _ I r h) fun _ s1 ⟨σ1,H1,I1,q1⟩=>?_)
  exact h2 pins s1 σ1 H1 _ _ Q I1 rr q1
def Tw (K:W.Frag) (n:Nat) (t:TGs):TG:=fun v σ H Q=>∃ a xs,v=.ref a/\SqT K H a xs/\xs.length=n/\t xs σ H Q
theorem Qj {es:List Expr}{k:Nat}{t:TGs}{n:Nat} (hc:X.calm=true) (h:PGs X es t)
  (hn:(assignEach es X.env).length=n:=by rfl) (hst:(assignEach es X.env).findIdx? (·.1)=none:=by rfl):PG X (.Tuple es k pos) (Tw X.K n t):=by
 intro pins s σ H v u Q I r hw
 obtain⟨a,xs,e1,hq,hl,hw⟩:=hw
 subst e1
 cases r
 obtain⟨its,rv,ht,hz⟩:=I.tuple hq
 refine assign_Tuple_tuple (I.ok.hd hc) ht (by simp [hn,← hl,rv.length]) hst fun h' hx=>?_
 have I1:Inv X pins σ H { s with heap:=h' }:=I.kept (t':=s.toks) fun b o e=>hx b o (Nat.ne_of_lt (Heap.lt_size e)) e
 exact h pins _ σ H xs _ Q I1 (by simpa using rv) hw
def Vf (to ti:TE) (t:Rq):TG:=fun v σ H Q=>to σ H fun o H1=>ti σ H1 fun i H2=>t o i v H2 fun H3=>Q σ H3
theorem Ho {o i:Expr}{to ti:TE}{t:Rq} (ho:PE X o to) (hi:PE X i ti) (hs:Uh X t)
  (ha:∀ v,assign (.Subscript o i pos) X.env v=(do
   let ov ← holding [v] (eval o X.env)
   let iv ← holding [v,ov] (eval i X.env)
   standAt pos
   holding [v,ov,iv] (setItem ov iv v)
   release [v,ov,iv] []):=by intro _; rfl):PG X (.Subscript o i pos) (Vf to ti t):=by
 intro pins s σ H v u Q I r h
 rw [ha]
 refine wpAny_bind (wpAny_holding (thn (ho pins s σ H _ I h) fun ov s1 ⟨x,H1,I1,r1,q1⟩=>?_))
 refine wpAny_bind (wpAny_holding (thn (hi pins s1 σ H1 _ I1 q1) fun iv s2 ⟨y,H2,I2,r2,q2⟩=>?_))
 refine wpAny_bind (wpAny_standAt (wpAny_bind (wpAny_holding (thn (hs pins s2 σ H2 x y v ov iv u _ I2 r1 r2 r q2) fun _ s3 ⟨H3,I3,q3⟩=>?_))))
 exact wpAny_release ⟨σ,H3,I3,q3⟩
def lg (te:TE) (g:TG):TS:=fun D σ H=>te σ H fun x H1=>g x σ H1 D.nx
theorem zG {tg e:Expr}{te:TE}{g:TG} (he:PE X e te) (hg:PG X tg g) (hs:swapsWithSole [tg] e pos.line X.env=pure false:=by rfl) (hw:swappedStores [tg] e X.env=pure none:=by rfl)
  (h1:(assignEach [tg] X.env).map (·.2)=[assign tg X.env]:=by rfl):PS X (.Assign [tg] e pos) (lg te g):=by
 intro pins s σ H D I h
 refine wpAny_Assign_stores (thn (he pins s σ H _ I h) fun v s1 ⟨x,H1,I1,r1,q1⟩=>?_) hs hw
 rw [h1]
 exact thn (hg pins s1 σ H1 x v _ I1 r1 q1) fun _ s2 q=>q
theorem cX {i:Nat}{x:Str}{e:Expr}{te:TE}{pos':Pos} (hN:X.N.Nodup) (hi:X.N[i]?=some x) (hx:Loc X.env.scope x) (he:PE X e te) (hs:swapsWith e (some (.Name x pos')) pos.line X.env=pure false:=by rfl) (hf:X.fn x=true\/X.env.scope.names.lookup x=some .local:=by first | exact .inl rfl | exact .inr rfl | assumption) :
  PS X (.Assign [.Name x pos'] e pos) (lg te (fY i)):=by
 intro pins s σ H D I h
 refine wpAny_Assign_Name (thn (he pins s σ H _ I h) fun v s1 ⟨y,H1,I1,r1,q1⟩=>?_) hs
 exact qy I1 hN hi hx r1 (fun s2 I2=>⟨_,H1,I2,q1⟩) hf
end
section
variable {X:Cx}{pos:Pos}
def O8 (c:TT) (tb:TS):TS:=fun D σ H=>∃ W:Nat->St->Hp->Prop,(∃ m,W m σ H)/\∀ m σ H,W m σ H ->
 c σ H fun b H1=>if b=true then ∃ N:St->Hp->Prop,(∀ σ' H',N σ' H'->∃ m',m'<m/\W m' σ' H')/\tb { D with nx:=N,ct:=N,bk:=D.nx } σ H1 else D.nx σ H1
theorem G5 {c:Expr}{body:List Stmt}{tc:TT}{tb:TS} (hp:PassesOwn (model X.prog X.w) X.A X.env X.xe) (hc:PT X c tc) (hb:PSs X body tb):PS X (.While c body [] pos) (O8 tc tb):=by
 intro pins s σ H D I h
 obtain⟨W,⟨m0,w0⟩,turn⟩:=h
 refine wpAny_While (codeAny_whileLoop (fun n s'=>∃ σ' H',Inv X pins σ' H' s'/\W n σ' H') ?_ m0 ⟨σ,H,I,w0⟩)
 rintro n s1 ⟨σ1,H1,I1,w1⟩
 refine wpAny_passesOwn hp (thn (hc pins s1 σ1 H1 _ I1 (turn n σ1 H1 w1)) fun b s2 ⟨H2,I2,q2⟩=>?_)
 cases b with
 | true =>
  obtain⟨N,hN,q2⟩:=q2
  rw [if_pos rfl]
  refine wpAny_passesOwn hp (thn (hb pins s2 σ1 H2 _ I2 q2) fun f s3 q3=>?_)
  cases f with
  | next =>
   obtain⟨σ3,H3,I3,n3⟩:=q3
   obtain⟨m',hm,w3⟩:=hN σ3 H3 n3
   exact⟨m',hm,σ3,H3,I3,w3⟩
  | cont =>
   obtain⟨σ3,H3,I3,n3⟩:=q3
   obtain⟨m',hm,w3⟩:=hN σ3 H3 n3
   exact⟨m',hm,σ3,H3,I3,w3⟩
  | brk=>exact q3
  | ret v=>exact q3
 | false =>
  rw [if_neg Bool.false_ne_true]
  exact wpAny_execs_nil ⟨σ1,H2,I2,q2⟩
end
structure It where
 go:Nat->Hp->Prop
 yld:Nat->Hp->V->Hp->Prop
 stop:Nat->Hp->Prop
def sO (X:Cx) (pins:List (Addr×Obj)) (H:Hp) (b:Addr):Prop :=
 H b=none/\b≠X.env.locals/\b∉X.fs/\(b∈X.ex\/X.s₀.heap.objs.size<=b)/\(∀ x c,X.env.cells.lookup x=some c->c≠b)/\∀ p∈X.pn++pins,p.1≠b
theorem Inv.Fv {X:Cx}{pins:List (Addr×Obj)}{σ:St}{H H':Hp}{s:Shared}{b:Addr} (I:Inv X pins σ H s) (hb:s.heap.objs.size<=b) (hn:H' b=none):sO X pins H' b:=by
 refine⟨hn,Nat.ne_of_gt (Nat.lt_of_lt_of_le I.lt hb),I.U4 hb,.inr (Nat.le_trans I.sz hb),fun x c e z=>?_,fun p hp z=>?_⟩
 ·obtain⟨v,q⟩:=I.cell x c e
  exact absurd (Nat.lt_of_lt_of_le q.lt (by rw [z]; exact hb)) (Nat.lt_irrefl _)
 ·exact absurd (Nat.lt_of_lt_of_le (Heap.lt_size (I.pin p hp).1) (by rw [z]; exact hb)) (Nat.lt_irrefl _)
structure TurnG (Cm:Cx->Prop) (P:Program) (w:World) (K:W.Frag) (tg:Expr) (J:It) (fp:List Addr) (it:Addr) (tn:Nat->Heap->Prop):Prop where
 mem:it∈fp
 obj:∀ i h,tn i h->∀ b∈fp,∃ o,h.get? b=some o/\∀ v,o.data≠.cell v
 keep:∀ i h h',tn i h->(∀ b∈fp,∀ o,h.get? b=some o->h'.get? b=some o)->tn i h'
 item:∀ (X:Cx),X.prog=P->X.w=w->X.K=K->Cm X->∀ (i:Nat) (pins:List (Addr×Obj)) (s:Shared) (σ:St) (H:Hp) (E:Value->Shared->Prop),Inv X pins σ H s->(∀ b∈fp,sO X pins H b)->tn i s.heap->J.go i H ->
  wpAny (model P w) X.A (pyNext (.ref it)) (fun r s1=>∃ u,r=some u /\
   wpAny (model P w) X.A (letOwnedTupleGo tg (.ref it) u) (fun _ s2=>∃ x H',Inv X pins σ H' s2/\RelV x u/\J.yld i H x H'/\tn (i+1) s2.heap/\∀ b∈fp,H' b=none) E s1) E s
 done:∀ (X:Cx),X.prog=P->X.w=w->X.K=K->Cm X->∀ (i:Nat) (pins:List (Addr×Obj)) (s:Shared) (σ:St) (H:Hp) (E:Value->Shared->Prop),Inv X pins σ H s->(∀ b∈fp,sO X pins H b)->tn i s.heap->J.stop i H ->
  wpAny (model P w) X.A (pyNext (.ref it)) (fun r s1=>r=none/\Inv X pins σ H s1) E s
 self:∀ (A:Around) (i:Nat) (s:Shared) (Q:Value->Shared->Prop) (E:Value->Shared->Prop),tn i s.heap->Q (.ref it) s->wpAny (model P w) A (pyIter (.ref it)) Q E s
abbrev Turn (P:Program) (w:World) (K:W.Frag) (tg:Expr) (J:It) (fp:List Addr) (it:Addr) (tn:Nat->Heap->Prop):Prop:=TurnG (fun X=>X.calm=true) P w K tg J fp it tn
abbrev TI:=St->Hp->(It->Hp->Prop)->Prop
def Ui (Cm:Cx->Prop) (X:Cx) (pins:List (Addr×Obj)) (σ:St) (tg:Expr) (R:It->Hp->Prop) (itv:Value) (s2:Shared):Prop :=
 ∃ (it:Addr) (fp:List Addr) (tn:Nat->Heap->Prop) (J:It) (H':Hp),itv=.ref it/\Inv X pins σ H' s2/\TurnG Cm X.prog X.w X.K tg J fp it tn/\tn 0 s2.heap/\(∀ b∈fp,sO X pins H' b)/\R J H'
def PIG (Cm:Cx->Prop) (X:Cx) (tg iter:Expr) (wi:TI):Prop :=
 ∀ (pins:List (Addr×Obj)) (s:Shared) (σ:St) (H:Hp) (R:It->Hp->Prop),Inv X pins σ H s->wi σ H R ->
  wpAny (model X.prog X.w) X.A (eval iter X.env) (fun v s1=>wpAny (model X.prog X.w) X.A (pyIter v) (Ui Cm X pins σ tg R) X.xe s1) X.xe s
abbrev PIE (X:Cx):=Ui (fun X=>X.calm=true) X
abbrev PI (X:Cx):=PIG (fun X=>X.calm=true) X
theorem Dh {M:Model}{A:Around}{E:Value->Shared->Prop}{s:Shared}{tg:Expr}{it:Addr}{u:Value}{o:Obj}{n:String}{vs:Array Value}{Q:Unit->Shared->Prop} (ho:s.heap.get? it=some o) (hc:o.cls=.type n) (hd:o.data=.fields vs)
  (hn:["enumerate","zip","dict_itemiterator","dict_reverseitemiterator","odict_iterator","itertools.zip_longest","itertools.pairwise"].contains n=false) (hQ:Q () s):wpAny M A (letOwnedTupleGo tg (.ref it) u) Q E s:=by
 unfold letOwnedTupleGo
 cases tg <;> first
  | exact wpAny_pure hQ
  | (cases u <;> first
    | exact wpAny_pure hQ
    | (refine wpAny_bind (wpAny_load ho ?_)
       rw [hc,hd]
       show wpAny M A (if (["enumerate","zip","dict_itemiterator","dict_reverseitemiterator","odict_iterator","itertools.zip_longest","itertools.pairwise"].contains n&&vs[0]? == some (rawInt _))=true then _ else _) Q E s
       rw [if_neg (by intro h; rw [hn,Bool.false_and] at h; cases h)]
       exact wpAny_pure hQ))
def Itl (K:W.Frag) (a:Addr):It :=
 ⟨fun i H=>∃ xs x,SqL K H a xs/\xs[i]?=some x,fun i H x H'=>H'=H/\∀ xs,SqL K H a xs->xs[i]?=some x,fun i H=>∃ xs,SqL K H a xs/\xs.length<=i⟩
def Itt (K:W.Frag) (a:Addr):It :=
 ⟨fun i H=>∃ xs x,SqT K H a xs/\xs[i]?=some x,fun i H x H'=>H'=H/\∀ xs,SqT K H a xs->xs[i]?=some x,fun i H=>∃ xs,SqT K H a xs/\xs.length<=i⟩
def Itr (lo:Int) (n:Nat):It:=⟨fun i _=>i<n,fun i H x H'=>H'=H/\x=.int (lo+i),fun i _=>n<=i⟩
theorem nP {P:Program}{w:World}{K:W.Frag}{tg:Expr} (a it:Addr):Turn P w K tg (Itl K a) [it] it (fun i h=>h.IsListIter it a i) where
 mem:=by simp
 obj:=fun i h st b hb=>by
  have e:b=it:=by simpa using hb
  subst e
  obtain⟨o,e,c,d⟩:=st
  exact⟨o,e,fun v z=>by rw [d] at z; cases z⟩
 keep:=fun i h h' st k=>st.at fun o e=>k it (by simp) o e
 item:=by
  intro X hP hw hK hc i pins s σ H E I hf st hg
  subst hP hw hK
  obtain⟨xs,x,hq,hx⟩:=hg
  obtain⟨its,rv,p,hz⟩:=I.list hq
  obtain⟨u,hu,ru⟩:=rv.get hx
  obtain⟨f0,f1,f2,f3,f4,f5⟩:=hf it (by simp)
  refine wpAny_pyNext_list_item st p.isList (x:=u) (by simpa using hu) fun h' st' sb=>?_
  have I1:Inv X pins σ H { s with heap:=h' }:=I.turned (t':=s.toks) (fun b o hb e=>(sb.2 b hb).trans e) f0 f1 f3 f4 f5
  obtain⟨o,e,c,d⟩:=id st'
  exact⟨u,rfl,Dh (s:={ s with heap:=h' }) e c d (by decide) ⟨x,H,I1,ru,⟨rfl,fun ys hy=>by rw [I.xY hy hq]; exact hx⟩,st',fun b hb=>(hf b hb).1⟩⟩
 done:=by
  intro X hP hw hK hc i pins s σ H E I hf st hg
  subst hP hw hK
  obtain⟨xs,hq,hx⟩:=hg
  obtain⟨its,rv,p,hz⟩:=I.list hq
  obtain⟨f0,f1,f2,f3,f4,f5⟩:=hf it (by simp)
  have hl:=rv.length
  exact wpAny_pyNext_list_end (I.ok.hd hc) st p.isList (by simp; omega) fun h' eb=>⟨rfl,I.turned (t':=s.toks) (fun b o hb e=>eb b o hb e) f0 f1 f3 f4 f5⟩
 self:=fun _ _ _ _ _ st h=>wpAny_pyIter_listiter st h
theorem zf {P:Program}{w:World}{K:W.Frag}{tg:Expr} (a it:Addr):Turn P w K tg (Itt K a) [it] it (fun i h=>h.IsTupleIter it a i) where
 mem:=by simp
 obj:=fun i h st b hb=>by
  have e:b=it:=by simpa using hb
  subst e
  obtain⟨o,e,c,d⟩:=st
  exact⟨o,e,fun v z=>by rw [d] at z; cases z⟩
 keep:=fun i h h' st k=>st.at fun o e=>k it (by simp) o e
 item:=by
  intro X hP hw hK hc i pins s σ H E I hf st hg
  subst hP hw hK
  obtain⟨xs,x,hq,hx⟩:=hg
  obtain⟨its,rv,p,hz⟩:=I.tuple hq
  obtain⟨u,hu,ru⟩:=rv.get hx
  obtain⟨f0,f1,f2,f3,f4,f5⟩:=hf it (by simp)
  refine wpAny_pyNext_tuple_item st (show s.heap.IsTuple a its.toArray from p) (x:=u) (by simpa using hu) fun h' st' sb=>?_
  have I1:Inv X pins σ H { s with heap:=h' }:=I.turned (t':=s.toks) (fun b o hb e=>(sb.2 b hb).trans e) f0 f1 f3 f4 f5
  obtain⟨o,e,c,d⟩:=id st'
  exact⟨u,rfl,Dh (s:={ s with heap:=h' }) e c d (by decide) ⟨x,H,I1,ru,⟨rfl,fun ys hy=>by rw [I.tG hy hq]; exact hx⟩,st',fun b hb=>(hf b hb).1⟩⟩
 done:=by
  intro X hP hw hK hc i pins s σ H E I hf st hg
  subst hP hw hK
  obtain⟨xs,hq,hx⟩:=hg
  obtain⟨its,rv,p,hz⟩:=I.tuple hq
  obtain⟨f0,f1,f2,f3,f4,f5⟩:=hf it (by simp)
  have hl:=rv.length
  exact wpAny_pyNext_tuple_end (I.ok.hd hc) st (show s.heap.IsTuple a its.toArray from p) (by simp; omega) fun h' eb=>⟨rfl,I.turned (t':=s.toks) (fun b o hb e=>eb b o hb e) f0 f1 f3 f4 f5⟩
 self:=fun _ _ _ _ _ st h=>wpAny_pyIter_tupleiter st h
theorem zj {P:Program}{w:World}{K:W.Frag}{tg:Expr} (it:Addr) (lo:Int) (n:Nat):Turn P w K tg (Itr lo n) [it] it (fun i h=>IsRangeIter h it (lo+(i:Nat) * 1) ((n:Int) - (i:Nat)) 1) where
 mem:=by simp
 obj:=fun i h st b hb=>by
  have e:b=it:=by simpa using hb
  subst e
  exact⟨_,st,fun v z=>by
   have z':Data.fields _=Data.cell v:=z
   cases z'⟩
 keep:=fun i h h' st k=>k it (by simp) _ st
 item:=by
  intro X hP hw hK hc i pins s σ H E I hf st hg
  subst hP hw hK
  obtain⟨f0,f1,f2,f3,f4,f5⟩:=hf it (by simp)
  have W:=Walks.range (prog:=X.prog) (w:=X.w) (I.ok.hd hc) it lo 1 n
  refine W.item i s _ _ hg st fun v h' tk hv st' kk=>?_
  obtain⟨t,rfl⟩:=hv
  have I1:Inv X pins σ H { s with heap:=h',toks:=tk }:=I.turned (fun b o hb e=>kk b o (by simpa using hb) e) f0 f1 f3 f4 f5
  refine⟨_,rfl,Dh (s:={ s with heap:=h',toks:=tk }) (n:="range_iterator") st' rfl rfl (by decide) ⟨.int (lo+i),H,I1,⟨t,?_⟩,⟨rfl,rfl⟩,st',fun b hb=>(hf b hb).1⟩⟩
  rw [Int.mul_one]
 done:=by
  intro X hP hw hK hc i pins s σ H E I hf st hg
  subst hP hw hK
  obtain⟨f0,f1,f2,f3,f4,f5⟩:=hf it (by simp)
  exact wpAny_pyNext_range_end (I.ok.hd hc) st (by have:n<=i:=hg; omega) fun h' eb=>⟨rfl,I.turned (t':=s.toks) (fun b o hb e=>eb b o hb e) f0 f1 f3 f4 f5⟩
 self:=fun _ _ _ _ _ st h=>wpAny_pyIter_rangeiter st h
section
variable {X:Cx}{tg:Expr}
def Tr (K:W.Frag) (tl:TE):TI:=fun σ H R=>tl σ H fun x H1=>∃ a,x=.ref a/\(∃ xs,SqL K H1 a xs)/\R (Itl K a) H1
theorem wV {pins:List (Addr×Obj)}{σ:St}{H:Hp}{s:Shared}{R:It->Hp->Prop}{E:Value->Shared->Prop}{lo hi:Int}{t u v:Tok}{tk:Nat} (I:Inv X pins σ H s) (h1:-(2 ^ 62)<=lo) (h2:lo<2 ^ 62) (h3:-(2 ^ 62)<=hi) (h4:hi<2 ^ 62)
  (q:R (Itr lo (hi - lo).toNat) H):wpAny (model X.prog X.w) X.A (pyIter (.ref s.heap.objs.size)) (PIE X pins σ tg R) E { s with heap:=s.heap.push { cls:=.type "range",data:=.fields #[.int lo t,.int hi u,.int 1 v] },toks:=tk }:=by
 refine wpAny_pyIter_range (IsRange.new ..) (small_one h1 h2 h3 h4) ?_
 have I1:Inv X pins σ H { s with heap:=s.heap.push { cls:=.type "range",data:=.fields #[.int lo t,.int hi u,.int 1 v] },toks:=tk }:=I.kept fun b o e=>Heap.get?_push_of_some _ e
 refine⟨(s.heap.push { cls:=.type "range",data:=.fields #[.int lo t,.int hi u,.int 1 v] }).objs.size,[(s.heap.push { cls:=.type "range",data:=.fields #[.int lo t,.int hi u,.int 1 v] }).objs.size],_,_,H,rfl,
  I1.kept (t':=tk) fun b o e=>Heap.get?_push_of_some _ e,zj _ lo (hi - lo).toNat,?_,fun b hb=>?_,q⟩
 ·have e1:lo+((0:Nat):Int) * 1=lo:=by simp
  have e2:(((hi - lo).toNat:Nat):Int) - ((0:Nat):Int)=Builtin.Range.rangeSize lo hi 1:=by rw [rangeSize_one]; split <;> omega
  show IsRangeIter _ _ (lo+((0:Nat):Int) * 1) ((((hi - lo).toNat:Nat):Int) - ((0:Nat):Int)) 1
  rw [e1,e2]
  exact Heap.get?_push_size _ rfl
 ·have e:b=(s.heap.push { cls:=.type "range",data:=.fields #[.int lo t,.int hi u,.int 1 v] }).objs.size:=by simpa using hb
  subst e
  exact I1.Fv (Nat.le_refl _) (I1.hok.fresh (Nat.le_refl _))
def Tq (ta:TA):TI:=fun σ H R=>ta σ H fun vs H1=>∃ j:Int,vs=[.int j]/\-(2 ^ 62)<=j/\j<2 ^ 62/\R (Itr 0 j.toNat) H1
def Tp (ta:TA):TI:=fun σ H R=>ta σ H fun vs H1=>∃ i j:Int,vs=[.int i,.int j]/\(-(2 ^ 62)<=i/\i<2 ^ 62/\-(2 ^ 62)<=j/\j<2 ^ 62)/\R (Itr i (j - i).toNat) H1
theorem nZ {a:Expr}{ta:TA}{p pos:Pos} (hg:Gl X "range") (hm:X.mg "range"=none) (ha:PA X [a] ta) (hs:starEach [a] X.env=[(false,eval a X.env)]:=by rfl):PI X tg (.Call (.Name "range" p) [a] [] pos) (Tq ta):=by
 intro pins s σ H R I h
 refine Call_ (jt I hg hm boot_range (PyProof.Rows.callWith_type1 (thn (ha pos pins s σ H _ I h) fun us s1 ⟨vs,H1,I1,r1,q1⟩=>?_) hs rfl))
 obtain⟨j,e,q1,q2,q⟩:=q1
 subst e
 cases r1 with
 | cons r rr =>
  cases rr
  obtain⟨t,rfl⟩:=r
  exact call_range_1 (wV I1 (by omega) (by omega) q1 q2 (by simpa using q))
theorem Ek {a b:Expr}{ta:TA}{p pos:Pos} (hg:Gl X "range") (hm:X.mg "range"=none) (ha:PA X [a,b] ta) (hs:starEach [a,b] X.env=[(false,eval a X.env),(false,eval b X.env)]:=by rfl) (hs2:starEach [b] X.env=[(false,eval b X.env)]:=by rfl) :
  PI X tg (.Call (.Name "range" p) [a,b] [] pos) (Tp ta):=by
 intro pins s σ H R I h
 refine Call_ (jt I hg hm boot_range (PyProof.Rows.callWith_type1 (thn (ha pos pins s σ H _ I h) fun us s1 ⟨vs,H1,I1,r1,q1⟩=>?_) (by rw [hs,hs2]) (by rw [hs2]; rfl)))
 obtain⟨i,j,e,⟨q1,q2,q3,q4⟩,q⟩:=q1
 subst e
 cases r1 with
 | cons r rr =>
  cases rr with
  | cons r' rr =>
   cases rr
   obtain⟨t,rfl⟩:=r
   obtain⟨t',rfl⟩:=r'
   exact call_range_2 (wV I1 q1 q2 q3 q4 q)
def Ux (wi:TI) (g:TG) (tb:TS):TS:=fun D σ H=>wi σ H fun J H1=>∃ W:Nat->Nat->St->Hp->Prop,(∃ m,W 0 m σ H1)/\∀ i m σ H,W i m σ H ->
 (J.stop i H/\D.nx σ H)\/(J.go i H/\∃ N:St->Hp->Prop,(∀ σ' H',N σ' H'->∃ m',m'<m/\W (i+1) m' σ' H')/\∀ x H',J.yld i H x H'->g x σ H' fun σ2 H2=>tb { D with nx:=N,ct:=N,bk:=D.nx } σ2 H2)
def ji (fp:List Addr) (h:Heap):List (Addr×Obj):=fp.filterMap fun b=>(h.get? b).map fun o=>(b,o)
theorem iz {fp:List Addr}{h:Heap}{b:Addr}{o:Obj} (hb:b∈fp) (e:h.get? b=some o):(b,o)∈ji fp h:=List.mem_filterMap.mpr ⟨b,hb,by rw [e]; rfl⟩
theorem tY {fp:List Addr}{h:Heap}{p:Addr×Obj} (hp:p∈ji fp h):p.1∈fp/\h.get? p.1=some p.2:=by
 obtain⟨b,hb,e⟩:=List.mem_filterMap.mp hp
 cases q:h.get? b with
 | none=>rw [q] at e; cases e
 | some o =>
  rw [q] at e
  have e':(b,o)=p:=Option.some.inj e
  subst e'
  exact⟨hb,q⟩
theorem Inv.pinned {pins:List (Addr×Obj)}{σ:St}{H:Hp}{s:Shared}{fp:List Addr} (I:Inv X pins σ H s) (hf:∀ b∈fp,sO X pins H b) (ho:∀ b∈fp,∃ o,s.heap.get? b=some o/\∀ v,o.data≠.cell v):Inv X (pins++ji fp s.heap) σ H s :=
 I.pU fun p hp=>(List.mem_append.mp hp).elim (fun z=>I.pin p (List.mem_append_right _ z)) fun z=>by
  obtain⟨hb,e⟩:=tY z
  obtain⟨f0,f1,f2,_⟩:=hf p.1 hb
  obtain⟨o,e',d⟩:=ho p.1 hb
  rw [e] at e'; cases e'
  exact⟨e,f0,f1,f2,d⟩
theorem Inv.kZ {pins pl:List (Addr×Obj)}{σ:St}{H:Hp}{s:Shared} (I:Inv X (pins++pl) σ H s):Inv X pins σ H s:=I.pU fun p hp=>I.pin p (List.mem_append_right _ (List.mem_append_left _ hp))
theorem G9 {iter:Expr}{body:List Stmt}{wi:TI}{g:TG}{tb:TS}{pos:Pos} (hp:PassesOwn (model X.prog X.w) X.A X.env X.xe) (hc:X.calm=true) (hi:PI X tg iter wi) (hg:PG X tg g) (hb:PSs X body tb)
  (hs:∀ x,foldedSetIterable iter X.env x=pure x:=by intro _; rfl):PS X (.For tg iter body [] pos) (Ux wi g tb):=by
 intro pins s σ H D I h
 refine wpAny_For (thn (hi pins s σ H _ I h) fun v s1 h1=>thn h1 fun itv s2 h2=>?_) hs
 obtain⟨it,fp,tn,J,H2,e,I2,T,st2,f2,W,⟨m0,w0⟩,turn⟩:=h2
 subst e
 -- what stays true of the iterator's objects through the loop
 have stat:∀ {H':Hp},(∀ b∈fp,H' b=none)->∀ b∈fp,sO X pins H' b:=fun hn b hb=>⟨hn b hb,(f2 b hb).2⟩
 refine codeAny_forLoop_any (fun n s'=>∃ i σ' H',Inv X pins σ' H' s'/\tn i s'.heap/\(∀ b∈fp,H' b=none)/\W i n σ' H') ?_ m0 ⟨0,σ,H2,I2,st2,fun b hb=>(f2 b hb).1,w0⟩
 rintro n s3 ⟨i,σ3,H3,I3,st3,fr3,w3⟩
 rcases turn i n σ3 H3 w3 with ⟨stop,qn⟩ | ⟨go,N,hN,step⟩
 ·refine wpAny_passesOwn hp (thn (T.done X rfl rfl rfl hc i pins s3 σ3 H3 X.xe I3 (stat fr3) st3 stop) fun r s4 ⟨hr,I4⟩=>?_)
  subst hr
  exact wpAny_execs_nil ⟨σ3,H3,I4,qn⟩
 ·refine wpAny_passesOwn hp (thn (T.item X rfl rfl rfl hc i pins s3 σ3 H3 X.xe I3 (stat fr3) st3 go) fun r s4 ⟨u,hr,h4⟩=>?_)
  subst hr
  refine wpAny_passesOwn hp (thn h4 fun _ s5 ⟨x,H5,I5,r5,y5,st5,fr5⟩=>?_)
  have I5':=I5.pinned (stat fr5) (T.obj _ _ st5)
  refine wpAny_passesOwn hp (thn (hg _ s5 σ3 H5 x u _ I5' r5 (step x H5 y5)) fun _ s6 ⟨σ6,H6,I6,q6⟩=>?_)
  refine wpAny_passesOwn hp (thn (hb _ s6 σ6 H6 _ I6 q6) fun f s7 q7=>?_)
  have again:∀ {σ7:St}{H7:Hp},Inv X (pins++ji fp s5.heap) σ7 H7 s7->N σ7 H7->∃ m,m<n/\∃ i σ' H',Inv X pins σ' H' s7/\tn i s7.heap/\(∀ b∈fp,H' b=none)/\W i m σ' H':=fun {σ7 H7} I7 n7=>by
   obtain⟨m',hm,w7⟩:=hN σ7 H7 n7
   refine⟨m',hm,i+1,σ7,H7,I7.kZ,T.keep _ _ _ st5 fun b hb o e=>(I7.pin (b,o) (List.mem_append_right _ (List.mem_append_right _ (iz hb e)))).1,fun b hb=>?_,w7⟩
   obtain⟨o,e,d⟩:=T.obj _ _ st5 b hb
   exact (I7.pin (b,o) (List.mem_append_right _ (List.mem_append_right _ (iz hb e)))).2.1
  cases f with
  | next=>obtain⟨σ7,H7,I7,n7⟩:=q7; exact again I7 n7
  | cont=>obtain⟨σ7,H7,I7,n7⟩:=q7; exact again I7 n7
  | brk=>obtain⟨σ7,H7,I7,q7⟩:=q7; exact⟨σ7,H7,I7.kZ,q7⟩
  | ret v=>obtain⟨x7,σ7,H7,I7,r7,q7⟩:=q7; exact⟨x7,σ7,H7,I7.kZ,r7,q7⟩
end
abbrev R2:=V->V->Hp->VK->Prop
def OpR (X:Cx) (f:Value->Value->Sem Value) (r:R2):Prop :=
 ∀ (pins:List (Addr×Obj)) (s:Shared) (σ:St) (H:Hp) (x y:V) (v u:Value) (Q:VK),Inv X pins σ H s->RelV x v->RelV y u->r x y H Q ->
  wpAny (model X.prog X.w) X.A (f v u) (EP X pins σ Q) X.xe s
def UnR (X:Cx) (f:Value->Sem Value) (r:V->Hp->VK->Prop):Prop :=
 ∀ (pins:List (Addr×Obj)) (s:Shared) (σ:St) (H:Hp) (x:V) (v:Value) (Q:VK),Inv X pins σ H s->RelV x v->r x H Q ->
  wpAny (model X.prog X.w) X.A (f v) (EP X pins σ Q) X.xe s
def bO (X:Cx) (f:Value) (r:List V->Hp->VK->Prop):Prop :=
 ∀ (pins:List (Addr×Obj)) (s:Shared) (σ:St) (H:Hp) (xs:List V) (us:List Value) (Q:VK),Inv X pins σ H s->Vals xs us->r xs H Q ->
  wpAny (model X.prog X.w) X.A (call f us) (EP X pins σ Q) X.xe s
def Vo (X:Cx) (r:V->Hp->(Bool->Hp->Prop)->Prop):Prop :=
 ∀ (pins:List (Addr×Obj)) (s:Shared) (σ:St) (H:Hp) (x:V) (v:Value) (Q:Bool->Hp->Prop),Inv X pins σ H s->RelV x v->r x H Q ->
  wpAny (model X.prog X.w) X.A (truthy v) (TP X pins σ Q) X.xe s
def tOp (r:R2) (ta tb:TE):TE:=fun σ H Q=>ta σ H fun x H1=>tb σ H1 fun y H2=>r x y H2 Q
def tUn (r:V->Hp->VK->Prop) (ta:TE):TE:=fun σ H Q=>ta σ H fun x H1=>r x H1 Q
def rI (C:Int->Int->Prop) (g:Int->Int->V):R2:=fun x y H Q=>∃ i j,x=.int i/\y=.int j/\C i j/\Q (g i j) H
def rI0 (g:Int->Int->V):R2:=fun x y H Q=>∃ i j,x=.int i/\y=.int j/\Q (g i j) H
def rU (g:Int->V):V->Hp->VK->Prop:=fun x H Q=>∃ i,x=.int i/\Q (g i) H
section
variable {X:Cx}{a b c:Expr}{ta tb tc:TE}{pos:Pos}
theorem Rm (ha:PE X a ta) (hb:PE X b tb) {pins:List (Addr×Obj)}{s:Shared}{σ:St}{H:Hp}{R:V->V->Hp->Prop} (I:Inv X pins σ H s)
  (h:ta σ H fun x H1=>tb σ H1 fun y H2=>R x y H2) {Q:Value->Shared->Prop}{f:Value->Value->Sem Value}
  (hf:∀ v u s2 x y H2,Inv X pins σ H2 s2->RelV x v->RelV y u->R x y H2->wpAny (model X.prog X.w) X.A (f v u) Q X.xe s2) :
  wpAny (model X.prog X.w) X.A (eval a X.env) (fun v s₁=>wpAny (model X.prog X.w) X.A (eval b X.env) (fun u s₂=>wpAny (model X.prog X.w) X.A (f v u) Q X.xe s₂) X.xe s₁) X.xe s:=by
 refine thn (ha pins s σ H _ I h) fun v s1 ⟨x,H1,I1,r1,q1⟩=>?_
 refine thn (hb pins s1 σ H1 _ I1 q1) fun u s2 ⟨y,H2,I2,r2,q2⟩=>?_
 exact hf v u s2 x y H2 I2 r1 r2 q2
theorem bF {op:Operator}{r:R2} (ho:OpR X (binaryOp op) r) (ha:PE X a ta) (hb:PE X b tb):PE X (.BinOp a op b pos) (tOp r ta tb):=by
 intro pins s σ H Q I h
 exact wpAny_BinOp (Rm ha hb I h fun v u s2 x y H2 I2 rx ry q=>ho pins s2 σ H2 x y v u Q I2 rx ry q)
theorem SN {op:UnaryOp}{r:V->Hp->VK->Prop} (ho:UnR X (unaryOp op) r) (ha:PE X a ta):PE X (.UnaryOp op a pos) (tUn r ta):=by
 intro pins s σ H Q I h
 exact UnaryOp_ (thn (ha pins s σ H _ I h) fun v s1 ⟨x,H1,I1,r1,q1⟩=>ho pins s1 σ H1 x v Q I1 r1 q1)
theorem opI {f:Value->Value->Sem Value}{C:Int->Int->Prop}{g:Int->Int->Int}
  (rule:∀ (i j:Int) (t u:Tok) (s:Shared) (Q:Value->Shared->Prop) (E:Value->Shared->Prop),C i j->Q (.int (g i j) s.toks) { s with toks:=s.toks+1 }->wpAny (model X.prog X.w) X.A (f (.int i t) (.int j u)) Q E s) :
  OpR X f (rI C fun i j=>.int (g i j)):=by
 intro pins s σ H x y v u Q I rx ry h
 obtain⟨i,j,rfl,rfl,hc,q⟩:=h
 obtain⟨t,rfl⟩:=rx
 obtain⟨t',rfl⟩:=ry
 exact rule i j t t' s _ _ hc ⟨.int (g i j),H,I.tok _,⟨_,rfl⟩,q⟩
theorem Tc {f:Value->Value->Sem Value}{g:Int->Int->Int}
  (rule:∀ (i j:Int) (t u:Tok) (s:Shared) (Q:Value->Shared->Prop) (E:Value->Shared->Prop),Q (.int (g i j) s.toks) { s with toks:=s.toks+1 }->wpAny (model X.prog X.w) X.A (f (.int i t) (.int j u)) Q E s) :
  OpR X f (rI0 fun i j=>.int (g i j)):=by
 intro pins s σ H x y v u Q I rx ry h
 obtain⟨i,j,rfl,rfl,q⟩:=h
 obtain⟨t,rfl⟩:=rx
 obtain⟨t',rfl⟩:=ry
 exact rule i j t t' s _ _ ⟨.int (g i j),H,I.tok _,⟨_,rfl⟩,q⟩
theorem Lq {f:Value->Value->Sem Value}{g:Int->Int->Bool}
  (rule:∀ (i j:Int) (t u:Tok) (s:Shared) (Q:Value->Shared->Prop) (E:Value->Shared->Prop),Q (.bool (g i j)) s->wpAny (model X.prog X.w) X.A (f (.int i t) (.int j u)) Q E s) :
  OpR X f (rI0 fun i j=>.bl (g i j)):=by
 intro pins s σ H x y v u Q I rx ry h
 obtain⟨i,j,rfl,rfl,q⟩:=h
 obtain⟨t,rfl⟩:=rx
 obtain⟨t',rfl⟩:=ry
 exact rule i j t t' s _ _ ⟨.bl (g i j),H,I,rfl,q⟩
def Ru (i j:Int):Prop:=0<j/\j<1073741824
def Vq (i j:Int):Prop:=0<=j/\j<=1000000/\i.natAbs<2 ^ 64
def Rr (i j:Int):Prop:=(-(2 ^ 64)<i/\i<2 ^ 64)\/(-(2 ^ 64)<j/\j<2 ^ 64)
theorem Rr.ok {i j:Int} (h:Rr i j):IntMulOk i j:=by
 rcases h with ⟨h1,h2⟩ | ⟨h1,h2⟩
 ·exact .of_left (intBits_le_64 h1 h2)
 ·exact .of_right (intBits_le_64 h1 h2)
theorem fW:OpR X (binaryOp .Add) (rI0 fun i j=>.int (i+j)):=Tc fun _ _ _ _ _ _ _ q=>add_int q
theorem HJ:OpR X (binaryOp .Sub) (rI0 fun i j=>.int (i - j)):=Tc fun _ _ _ _ _ _ _ q=>sub_int q
theorem eU:OpR X (binaryOp .Mult) (rI Rr fun i j=>.int (i * j)):=opI fun _ _ _ _ _ _ _ hc q=>mul_int q hc.ok
theorem vg:OpR X (binaryOp .FloorDiv) (rI Ru fun i j=>.int (i / j)):=opI fun i j _ _ _ _ _ hc q=>by
 have h1:(0:Int)<j:=hc.1
 have h2:j<1073741824:=hc.2
 exact floordiv_int (by omega) (by rw [Int.fdiv_eq_ediv_of_nonneg i (by omega)]; exact q) (.inl (PyProof.noPylong_small (by omega)))
theorem gA:OpR X (binaryOp .Mod) (rI (fun _ j=>0<j) fun i j=>.int (i % j)):=opI fun i j _ _ _ _ _ hc q=>by
 have h1:(0:Int)<j:=hc
 exact mod_int' (by omega) (by rw [Int.fmod_eq_emod_of_nonneg i (by omega)]; exact q)
theorem Qv:OpR X (binaryOp .Pow) (rI Vq fun i j=>.int (i ^ j.toNat)):=opI fun _ _ _ _ _ _ _ hc q=>pow_int_small hc.1 hc.2.1 hc.2.2 q
theorem unI {f:Value->Sem Value}{g:Int->Int}
  (rule:∀ (i:Int) (t:Tok) (s:Shared) (Q:Value->Shared->Prop) (E:Value->Shared->Prop),Q (.int (g i) s.toks) { s with toks:=s.toks+1 }->wpAny (model X.prog X.w) X.A (f (.int i t)) Q E s) :
  UnR X f (rU fun i=>.int (g i)):=by
 intro pins s σ H x v Q I rx h
 obtain⟨i,rfl,q⟩:=h
 obtain⟨t,rfl⟩:=rx
 exact rule i t s _ _ ⟨.int (g i),H,I.tok _,⟨_,rfl⟩,q⟩
theorem O5:UnR X (unaryOp .USub) (rU fun i=>.int (-i)):=unI fun _ _ _ _ _ q=>neg_int q
end
def R8:V->V->Bool
 | .non,.non=>true | .non,.int _=>true | .int _,.non=>true | .non,.bl _=>true | .bl _,.non=>true | .non,.str _=>true | .str _,.non=>true
 | .int _,.int _=>true | .bl _,.bl _=>true | .str _,.str _=>true | .byt _,.byt _=>true
 | .int _,.str _=>true | .str _,.int _=>true | .bl _,.str _=>true | .str _,.bl _=>true
 | _,_=>false
def rEq:R2:=fun x y H Q=>R8 x y=true/\Q (.bl (decide (x=y))) H
def rNe:R2:=fun x y H Q=>R8 x y=true/\Q (.bl (!decide (x=y))) H
theorem Du {i j:Int}:decide (V.int i=V.int j)=(i == j):=by
 rw [Bool.eq_iff_iff]
 simp
theorem JN {i j:Bool}:decide (V.bl i=V.bl j)=(i == j):=by
 rw [Bool.eq_iff_iff]
 simp
theorem Dt {i j:Str}:decide (V.str i=V.str j)=(i == j):=by
 rw [Bool.eq_iff_iff]
 simp
theorem Dv {i j:Array UInt8}:decide (V.byt i=V.byt j)=(i.toList == j.toList):=by
 rw [Bool.eq_iff_iff]
 cases i
 cases j
 simp
section
variable {X:Cx}{a b c:Expr}{ta tb tc:TE}{pos:Pos}
theorem bB {pins:List (Addr×Obj)}{σ:St}{H:Hp}{s:Shared}{Q:VK}{k k':Bool} (I:Inv X pins σ H s) (q:Q (.bl k) H) (e:k=k'):EP X pins σ Q (.bool k') s:=by
 subst e
 exact⟨.bl k,H,I,rfl,q⟩
theorem CK:OpR X (compareOp .Eq) rEq:=by
 intro pins s σ H x y v u Q I rx ry h
 obtain⟨hs,q⟩:=h
 cases x with
 | non =>
  cases rx
  cases y with
  | non=>cases ry; exact PySem.EqNone.eq_none_none (bB I q (by simp))
  | bl j=>cases ry; exact PySem.EqNone.eq_none_bool (bB I q (by simp))
  | int j=>obtain⟨t',rfl⟩:=ry; exact PySem.EqNone.eq_none_int (bB I q (by simp))
  | str j=>obtain⟨t',rfl⟩:=ry; exact PySem.EqNone.eq_none_str (bB I q (by simp))
  | _=>exact absurd (show false=true from hs) Bool.false_ne_true
 | bl i =>
  cases rx
  cases y with
  | non=>cases ry; exact PySem.EqNone.eq_bool_none (bB I q (by simp))
  | bl j=>cases ry; exact eq_bool (bB I q JN)
  | str j=>obtain⟨t',rfl⟩:=ry; exact PySem.EqMixed.eq_bool_str (bB I q (by simp))
  | _=>exact absurd (show false=true from hs) Bool.false_ne_true
 | int i =>
  obtain⟨t,rfl⟩:=rx
  cases y with
  | non=>cases ry; exact PySem.EqNone.eq_int_none (bB I q (by simp))
  | int j=>obtain⟨t',rfl⟩:=ry; exact eq_int (bB I q Du)
  | str j=>obtain⟨t',rfl⟩:=ry; exact PySem.EqMixed.eq_int_str (bB I q (by simp))
  | _=>exact absurd (show false=true from hs) Bool.false_ne_true
 | str i =>
  obtain⟨t,rfl⟩:=rx
  cases y with
  | non=>cases ry; exact PySem.EqNone.eq_str_none (bB I q (by simp))
  | bl j=>cases ry; exact PySem.EqMixed.eq_str_bool (bB I q (by simp))
  | int j=>obtain⟨t',rfl⟩:=ry; exact PySem.EqMixed.eq_str_int (bB I q (by simp))
  | str j=>obtain⟨t',rfl⟩:=ry; exact eq_str (bB I q Dt)
  | _=>exact absurd (show false=true from hs) Bool.false_ne_true
 | byt i =>
  obtain⟨t,rfl⟩:=rx
  cases y with
  | byt j=>obtain⟨t',rfl⟩:=ry; exact W.eq_bytes (bB I q Dv)
  | _=>exact absurd (show false=true from hs) Bool.false_ne_true
 | _=>cases y <;> exact absurd (show false=true from hs) Bool.false_ne_true
theorem HS:OpR X (compareOp .NotEq) rNe:=by
 intro pins s σ H x y v u Q I rx ry h
 obtain⟨hs,q⟩:=h
 cases x with
 | non =>
  cases rx
  cases y with
  | non=>cases ry; exact PySem.EqNone.ne_none_none (bB I q (by simp))
  | bl j=>cases ry; exact PySem.EqNone.ne_none_bool (bB I q (by simp))
  | int j=>obtain⟨t',rfl⟩:=ry; exact PySem.EqNone.ne_none_int (bB I q (by simp))
  | str j=>obtain⟨t',rfl⟩:=ry; exact PySem.EqNone.ne_none_str (bB I q (by simp))
  | _=>exact absurd (show false=true from hs) Bool.false_ne_true
 | bl i =>
  cases rx
  cases y with
  | non=>cases ry; exact PySem.EqNone.ne_bool_none (bB I q (by simp))
  | bl j=>cases ry; exact ne_bool (bB I q (congrArg not JN))
  | str j=>obtain⟨t',rfl⟩:=ry; exact PySem.EqMixed.ne_bool_str (bB I q (by simp))
  | _=>exact absurd (show false=true from hs) Bool.false_ne_true
 | int i =>
  obtain⟨t,rfl⟩:=rx
  cases y with
  | non=>cases ry; exact PySem.EqNone.ne_int_none (bB I q (by simp))
  | int j=>obtain⟨t',rfl⟩:=ry; exact ne_int (bB I q (congrArg not Du))
  | str j=>obtain⟨t',rfl⟩:=ry; exact PySem.EqMixed.ne_int_str (bB I q (by simp))
  | _=>exact absurd (show false=true from hs) Bool.false_ne_true
 | str i =>
  obtain⟨t,rfl⟩:=rx
  cases y with
  | non=>cases ry; exact PySem.EqNone.ne_str_none (bB I q (by simp))
  | bl j=>cases ry; exact PySem.EqMixed.ne_str_bool (bB I q (by simp))
  | int j=>obtain⟨t',rfl⟩:=ry; exact PySem.EqMixed.ne_str_int (bB I q (by simp))
  | str j=>obtain⟨t',rfl⟩:=ry; exact ne_str (bB I q (congrArg not Dt))
  | _=>exact absurd (show false=true from hs) Bool.false_ne_true
 | byt i =>
  obtain⟨t,rfl⟩:=rx
  cases y with
  | byt j=>obtain⟨t',rfl⟩:=ry; exact W.ne_bytes (bB I q (congrArg not Dv))
  | _=>exact absurd (show false=true from hs) Bool.false_ne_true
 | _=>cases y <;> exact absurd (show false=true from hs) Bool.false_ne_true
theorem xg:OpR X (compareOp .Lt) (rI0 fun i j=>.bl (decide (i<j))):=Lq fun _ _ _ _ _ _ _ q=>lt_int q
theorem NQ:OpR X (compareOp .LtE) (rI0 fun i j=>.bl (decide (i<=j))):=Lq fun _ _ _ _ _ _ _ q=>le_int q
theorem CJ:OpR X (compareOp .Gt) (rI0 fun i j=>.bl (decide (j<i))):=Lq fun _ _ _ _ _ _ _ q=>gt_int q
theorem S9:OpR X (compareOp .GtE) (rI0 fun i j=>.bl (decide (j<=i))):=Lq fun _ _ _ _ _ _ _ q=>ge_int q
theorem dg (b:Expr) {op:CmpOp} (h:op≠.In:=by decide) (h2:op≠.NotIn:=by decide):behindInMarks op b=false:=by
 have e1:(op == CmpOp.In)=false:=by cases op <;> first | rfl | exact absurd rfl h
 have e2:(op == CmpOp.NotIn)=false:=by cases op <;> first | rfl | exact absurd rfl h2
 cases b <;> simp [behindInMarks,e1,e2]
theorem Lk {op:CmpOp}{r:R2} (ho:OpR X (compareOp op) r) (ha:PE X a ta) (hb:PE X b tb) (hm:behindInMarks op b=false):PE X (.Compare a [op] [b] pos) (tOp r ta tb):=by
 intro pins s σ H Q I h
 exact wpAny_Compare1 (Rm ha hb I h fun v u s2 x y H2 I2 rx ry q=>ho pins s2 σ H2 x y v u Q I2 rx ry q) hm
def Gx (t:TE):TT:=fun σ H Q=>t σ H fun x H'=>∃ k,x=.bl k/\Q k H'
theorem jF {op:CmpOp}{r:R2} (ho:OpR X (compareOp op) r) (ha:PE X a ta) (hb:PE X b tb) (hm:behindInMarks op b=false):PT X (.Compare a [op] [b] pos) (Gx (tOp r ta tb)):=by
 intro pins s σ H Q I h
 refine wpAny_isTrue_Compare1 (thn (ha pins s σ H _ I h) fun v s1 ⟨x,H1,I1,r1,q1⟩=>thn (hb pins s1 σ H1 _ I1 q1) fun u s2 ⟨y,H2,I2,r2,q2⟩ =>
  thn (ho pins s2 σ H2 x y v u _ I2 r1 r2 q2) fun c s3 ⟨z,H3,I3,r3,k,e,q3⟩=>?_) hm
 subst e
 cases r3
 exact wpAny_truthy_bool ⟨H3,I3,q3⟩
def qu (r r':R2) (ta tb tc:TE):TE:=fun σ H Q=>ta σ H fun x H1=>tb σ H1 fun y H2=>r x y H2 fun z H3=>∃ k,z=.bl k /\
 (if k=true then tc σ H3 fun w' H4=>r' y w' H4 Q else Q (.bl false) H3)
theorem Hv {op op':CmpOp}{r r':R2} (ho:OpR X (compareOp op) r) (ho':OpR X (compareOp op') r') (ha:PE X a ta) (hb:PE X b tb) (hc:PE X c tc)
  (hm:lastMarks [op,op'] [b,c]=false:=by with_unfolding_all rfl):PE X (.Compare a [op,op'] [b,c] pos) (qu r r' ta tb tc):=by
 intro pins s σ H Q I h
 refine Compare_chain (thn (ha pins s σ H _ I h) fun v s1 ⟨x,H1,I1,r1,q1⟩=>chain_link (thn (hb pins s1 σ H1 _ I1 q1) fun u s2 ⟨y,H2,I2,r2,q2⟩ =>
  thn (ho pins s2 σ H2 x y v u _ I2 r1 r2 q2) fun d s3 ⟨z,H3,I3,r3,k,e,q3⟩=>?_)) hm
 subst e
 cases r3
 refine wpAny_truthy_bool ?_
 cases k with
 | false=>exact ite_ff ⟨.bl false,H3,I3,rfl,q3⟩
 | true=>exact ite_tt (chain_last (thn (hc pins s3 σ H3 _ I3 q3) fun w' s4 ⟨z',H4,I4,r4,q4⟩=>ho' pins s4 σ H4 y z' u w' Q I4 r2 r4 q4))
theorem G4 {op op':CmpOp}{r r':R2} (ho:OpR X (compareOp op) r) (ho':OpR X (compareOp op') r') (ha:PE X a ta) (hb:PE X b tb) (hc:PE X c tc)
  (hm:lastMarks [op,op'] [b,c]=false:=by with_unfolding_all rfl):PT X (.Compare a [op,op'] [b,c] pos) (Gx (qu r r' ta tb tc)):=by
 intro pins s σ H Q I h
 refine isTrue_chain (thn (ha pins s σ H _ I h) fun v s1 ⟨x,H1,I1,r1,q1⟩=>test_link (thn (hb pins s1 σ H1 _ I1 q1) fun u s2 ⟨y,H2,I2,r2,q2⟩ =>
  thn (ho pins s2 σ H2 x y v u _ I2 r1 r2 q2) fun d s3 ⟨z,H3,I3,r3,k,e,q3⟩=>?_)) hm
 subst e
 cases r3
 refine wpAny_truthy_bool ?_
 cases k with
 | false =>
  obtain⟨k',e',q'⟩:=q3
  cases e'
  exact ite_ff ⟨H3,I3,q'⟩
 | true =>
  refine ite_tt (test_last (thn (hc pins s3 σ H3 _ I3 q3) fun w' s4 ⟨z',H4,I4,r4,q4⟩=>thn (ho' pins s4 σ H4 y z' u w' _ I4 r2 r4 q4) fun d' s5 ⟨z2,H5,I5,r5,k2,e2,q5⟩=>?_))
  subst e2
  cases r5
  exact wpAny_truthy_bool ⟨H5,I5,q5⟩
def Ug (K:W.Frag) (x:V) (H:Hp) (k:Bool):Prop :=
 match x with
 | .non=>k=false
 | .bl b=>k=b
 | .int i=>k=(i != 0)
 | .str y=>y.length<=sizeLine/\k=((y.length:Int) != 0)
 | .byt y=>y.size<=sizeLine/\k=((y.size:Int) != 0)
 | .ref p=>(∃ xs,SqL K H p xs/\k=!xs.isEmpty)\/(∃ xs,SqT K H p xs/\k=!xs.isEmpty)\/∃ kvs,H p=some (.dK kvs)/\k=!kvs.isEmpty
 | _=>False
theorem Am {κ:Type}{kvs:List (κ×V)}{vs:List (κ×Value)} (r:KV kvs vs):(!vs.isEmpty)=!kvs.isEmpty:=by
 cases r <;> rfl
theorem rN {xs:List V}{its:List Value} (r:Vals xs its):(!its.toArray.isEmpty)=!xs.isEmpty:=by
 cases r <;> simp
theorem rH:(sizeLine:Nat)<2 ^ 63:=by rw [sizeLine_eq]; decide
theorem O6:Vo X (fun x H Q=>∃ k,Ug X.K x H k/\Q k H):=by
 intro pins s σ H x v Q I rx h
 obtain⟨k,e,q⟩:=h
 have hl:=rH
 have hs:sizeLine=16777216:=sizeLine_eq
 cases x with
 | non =>
  cases rx
  have e':k=false:=e
  subst e'
  exact truthy_none ⟨H,I,q⟩
 | bl b =>
  cases rx
  have e':k=b:=e
  subst e'
  exact wpAny_truthy_bool ⟨H,I,q⟩
 | int i =>
  obtain⟨t,rfl⟩:=rx
  have e':k=(i != 0):=e
  subst e'
  exact PySem.P.truthy_int ⟨H,I,q⟩
 | str y =>
  obtain⟨t,rfl⟩:=rx
  obtain⟨hy,e'⟩:y.length<=sizeLine/\k=((y.length:Int) != 0):=e
  subst e'
  exact PySem.P.truthy_str (by omega) ⟨H,I.tok _,q⟩
 | byt y =>
  obtain⟨t,rfl⟩:=rx
  obtain⟨hy,e'⟩:y.size<=sizeLine/\k=((y.size:Int) != 0):=e
  subst e'
  exact W.truthy_bytes (by omega) ⟨H,I.tok _,q⟩
 | ref p =>
  cases rx
  have e':(∃ xs,SqL X.K H p xs/\k=!xs.isEmpty)\/(∃ xs,SqT X.K H p xs/\k=!xs.isEmpty)\/∃ kvs,H p=some (.dK kvs)/\k=!kvs.isEmpty:=e
  rcases e' with ⟨xs,hx,e'⟩ | ⟨xs,hx,e'⟩ | ⟨kvs,hx,e'⟩
  ·subst e'
   obtain⟨its,r,pl,hz⟩:=I.list hx
   have hlen:=r.length
   exact wpAny_truthy_list pl.isList (by simp only [List.size_toArray]; omega) ⟨H,I.tok _,by rw [rN r]; exact q⟩
  ·subst e'
   obtain⟨its,r,pl,hz⟩:=I.tuple hx
   have hlen:=r.length
   exact truthy_tuple pl (by simp only [List.size_toArray]; omega) ⟨H,I.tok _,by rw [rN r]; exact q⟩
  ·subst e'
   obtain⟨hz,hS,vs,r,m⟩:kvs.length<=sizeLine/\(p == sysModules)=false/\∃ vs,KV kvs vs/\s.heap.DictOf (bU X.prog X.w) p vs:=I.hok p _ hx
   have hlen:kvs.length=vs.length:=Paired.length r
   exact wpAny_truthy_dict hS m (by omega) ⟨H,I.tok _,by rw [Am r]; exact q⟩
 | _=>exact (show False from e).elim
theorem G3 (ha:PE X a ta) (he:∀ whole,isTrue a X.env whole=(do let v ← whole; standAt a.pos; holding [v] (truthy v))) :
  PT X a (fun σ H Q=>ta σ H fun x H'=>∃ k,Ug X.K x H' k/\Q k H'):=by
 intro pins s σ H Q I h
 exact isTrue_plain (thn (ha pins s σ H _ I h) fun v s1 ⟨x,H1,I1,r1,q1⟩=>O6 pins s1 σ H1 x v Q I1 r1 q1) (he _)
theorem vals1 {x:V}{us:List Value} (r:Vals [x] us):∃ u,us=[u]/\RelV x u:=by
 cases r with
 | cons r1 r2=>cases r2; exact⟨_,rfl,r1⟩
theorem vals2 {x y:V}{us:List Value} (r:Vals [x,y] us):∃ u w',us=[u,w']/\RelV x u/\RelV y w':=by
 cases r with
 | cons r1 r2 =>
  cases r2 with
  | cons r3 r4=>cases r4; exact⟨_,_,rfl,r1,r3⟩
theorem Gf (hc:X.calm=true):bO X (.builtin "max") (fun xs H Q=>∃ i j,xs=[.int i,.int j]/\Q (.int (if j > i then j else i)) H):=by
 intro pins s σ H xs us Q I r h
 obtain⟨i,j,rfl,q⟩:=h
 obtain⟨u,w',rfl,⟨t,rfl⟩,⟨t',rfl⟩⟩:=vals2 r
 refine max_two_ints (I.ok.hd hc) fun h' tk k=>⟨_,H,I.kept k,?_,q⟩
 by_cases hj:j > i
 ·rw [if_pos hj,if_pos hj]; exact⟨_,rfl⟩
 ·rw [if_neg hj,if_neg hj]; exact⟨_,rfl⟩
theorem Gb (hc:X.calm=true):bO X (.builtin "min") (fun xs H Q=>∃ i j,xs=[.int i,.int j]/\Q (.int (if j<i then j else i)) H):=by
 intro pins s σ H xs us Q I r h
 obtain⟨i,j,rfl,q⟩:=h
 obtain⟨u,w',rfl,⟨t,rfl⟩,⟨t',rfl⟩⟩:=vals2 r
 refine min_two_ints (I.ok.hd hc) fun h' tk k=>⟨_,H,I.kept k,?_,q⟩
 by_cases hj:j<i
 ·rw [if_pos hj,if_pos hj]; exact⟨_,rfl⟩
 ·rw [if_neg hj,if_neg hj]; exact⟨_,rfl⟩
end
structure ObjM (h:Heap) (x dx C:Addr) (mA:Str->Option Value):Prop where
 obj:h.get? x=some (W.instObj C dx)
 ns:h.Ns1 dx mA
 ne:dx≠x
theorem Fe {h:Heap}{dx:Addr}{mA:Str->Option Value} (n:h.Ns1 dx mA):∃ od,h.get? dx=some od/\∀ name,W.lookIn name od=some (mA name):=by
 obtain⟨o,es,ep,ho,hd,hk,_,hm⟩:=n
 refine⟨o,ho,fun name=>?_⟩
 have e:=hm name
 unfold nsFind findBy at e
 rw [← Array.find?_toList] at e
 unfold W.lookIn
 rw [hd]
 dsimp only
 split
 ·rename_i y q
  rw [q] at e
  exact congrArg some e
 ·rename_i q
  rw [q] at e
  have a:es.toList.any (·.refKey)=false:=by
   rw [List.any_eq_false]
   intro y hy
   obtain⟨z,t,hkey⟩:=hk y (Array.mem_toList_iff.mp hy)
   simp [DictEntry.refKey,hkey]
  have a':¬ es.toList.any (·.refKey)=true:=by rw [a]; exact Bool.false_ne_true
  rw [if_neg a']
  exact congrArg some e
theorem ObjM.look {h:Heap}{x dx C:Addr}{mA:Str->Option Value} (I:ObjM h x dx C mA):∃ od,W.InstAt h x (W.instObj C dx) C (some od)/\∀ name,W.lookIn name od=some (mA name) :=
 let ⟨od,ho,hl⟩:=Fe I.ns
 ⟨od,⟨I.obj,rfl,rfl,ho⟩,hl⟩
section
variable {prog:Program}{w:World}{A:Around}{E:Value->Shared->Prop}{s:Shared}{K:W.Frag}{x dx C f:Addr}{mA:Str->Option Value}{name:Str}{v:Value}
end
section
variable {P:Program}{w:World}{H H':Hp}{h h':Heap}{a C dx:Addr}{fs fs':List (Str×V)}
theorem Mz (hok:HOk P w H h) (e:H a=some (.ins C dx fs)):∃ mA,ObjM h a dx C mA/\(∀ f,Bt (fs.lookup f) (mA f))/\PySem.Within mA (fs.map (·.1))/\fs.length<=1000/\H dx=some (.own a):=by
 obtain⟨d,z,ne,ob,mA,n,r,q⟩:=(show bG P w H h a (.ins C dx fs) from hok a _ e)
 exact⟨mA,⟨ob,n,ne⟩,r,q,z,d⟩
end
structure Cls (K:W.Frag) (C:Addr):Prop where
 pg:W.plainGet K C Str.empty=true
 hd:W.hasDictIn K C=true
 po:W.plainOver K C=true
 sa:W.findIn K (.ref C) "__setattr__"=some (some (.builtin "object.__setattr__"))
theorem Cls.get {K:W.Frag}{C:Addr} (c:Cls K C) (f:Str):W.plainGet K C f=true:=c.pg
structure Con (K:W.Frag) (C:Addr) (f:Str) (v:V) (u:Value):Prop where
 at_:W.findIn K (.ref C) f=some (some u)
 rel:RelV v u
 get:W.specialIn K u "__get__"=some none
 cp:W.copiedNames.contains f=false
structure Meth (K:W.Frag) (C:Addr) (m:Str) (f:Addr):Prop where
 at_:W.findIn K (.ref C) m=some (some (.ref f))
 fn:W.isFn K (.ref f)=true
 kp:W.keepIn K (.ref f)=true
section
variable {X:Cx}{pins:List (Addr×Obj)}{σ:St}{H:Hp}{s:Shared}{a C dx:Addr}{fs:List (Str×V)}{f:Str}{v:V}{A:Around}{E:Value->Shared->Prop}
end
section
variable {X:Cx}{o e value:Expr}{f:Str}{pos pos' tpos:Pos}{ta tv:TE}
end
section
variable {X:Cx}{pins:List (Addr×Obj)}{σ:St}{H:Hp}{s:Shared}{A:Around}{E:Value->Shared->Prop}{Q:Value->Shared->Prop}{c:Value}{b:Bool}
inductive TyOf (K:W.Frag) (H:Hp):V->Value->Prop where
 | non:TyOf K H .non (.type "NoneType")
 | bl (x:Bool):TyOf K H (.bl x) (.type "bool")
 | int (i:Int):TyOf K H (.int i) (.type "int")
 | str (x:Str):TyOf K H (.str x) (.type "str")
 | flt (x:UInt64):TyOf K H (.flt x) (.type "float")
 | lst {a:Addr}{xs:List V} (e:H a=some (.lst xs)):TyOf K H (.ref a) (.type "list")
 | frz {a:Addr}{o:Obj}{xs:List V} (e:H a=some (.frz o (.lst xs))):TyOf K H (.ref a) (.type "list")
 | tup {a:Addr}{xs:List V} (e:H a=some (.tup xs)):TyOf K H (.ref a) (.type "tuple")
 | dK {a:Addr}{kvs:List (Key×V)} (e:H a=some (.dK kvs)):TyOf K H (.ref a) (.type "dict")
 | dT {a:Addr}{kvs:List (List Key×V)} (e:H a=some (.dT kvs)):TyOf K H (.ref a) (.type "dict")
 | ins {a C dx:Addr}{fs:List (Str×V)} (e:H a=some (.ins C dx fs)) (cl:Cls K C) (ha:W.findIn K (.ref C) "__class__"=some (some (.builtin "object.__class__")))
   (hn:W.specialIn K (.builtin "object.__class__") "__get__"=some (some (.builtin "getset_descriptor.__get__"))) (htk:W.takesIn K (.builtin "object.__class__")=some true)
   (hm:W.mroIn K C (.type "object")=some true):TyOf K H (.ref a) (.ref C)
theorem Fo {x:V}{u t:Value} (I:Inv X pins σ H s) (rx:RelV x u) (ty:TyOf X.K H x t) (e:W.kitOne X.K t c=some b) (h:∀ tk,Q (.bool b) { s with toks:=tk }) :
  wpAny (model X.prog X.w) A (call (.builtin "isinstance") [u,c]) Q E s:=by
 cases ty with
 | non=>cases (show u=Value.none from rx); exact W.kia_one W.kitx_none I.kIn True.intro e (fun z=>nomatch z) h
 | bl y=>cases (show u=Value.bool y from rx); exact W.kia_one W.kitx_bool I.kIn True.intro e (fun z=>nomatch z) h
 | int i=>obtain⟨t,q⟩:=(show ∃ t,u=Value.int i t from rx); cases q; exact W.kia_one W.kitx_int I.kIn True.intro e (fun z=>nomatch z) h
 | str y=>obtain⟨t,q⟩:=(show ∃ t,u=Value.str y t from rx); cases q; exact W.kia_one W.kitx_str I.kIn True.intro e (fun z=>nomatch z) h
 | flt y=>obtain⟨t,q⟩:=(show ∃ t,u=Value.float y t from rx); cases q; exact W.kia_one W.kitx_float I.kIn True.intro e (fun z=>nomatch z) h
 | @lst a xs ea =>
  cases (show u=Value.ref a from rx)
  obtain⟨_,_,n,_,h1⟩:=(show bG X.prog X.w H s.heap a (.lst xs) from I.hok a _ ea)
  exact W.kia_one W.kitx_list I.kIn ⟨_,h1,rfl⟩ e (fun z=>nomatch z) h
 | @frz a ob xs ea =>
  cases (show u=Value.ref a from rx)
  obtain⟨_,_,_,n,_,h1⟩:=(show bG X.prog X.w H s.heap a (.frz ob (.lst xs)) from I.hok a _ ea)
  exact W.kia_one W.kitx_list I.kIn ⟨_,h1,rfl⟩ e (fun z=>nomatch z) h
 | @tup a xs ea =>
  cases (show u=Value.ref a from rx)
  obtain⟨_,_,_,p⟩:=(show bG X.prog X.w H s.heap a (.tup xs) from I.hok a _ ea)
  obtain⟨o,h1,h2,_⟩:=p
  exact W.kia_one W.kitx_tuple I.kIn ⟨o,h1,h2⟩ e (fun z=>nomatch z) h
 | @dK a kvs ea =>
  cases (show u=Value.ref a from rx)
  obtain⟨_,_,vs,_,p⟩:=(show bG X.prog X.w H s.heap a (.dK kvs) from I.hok a _ ea)
  obtain⟨o,es,ep,h1,h2,_⟩:=p
  exact W.kia_one W.kitx_dict I.kIn ⟨o,h1,h2.1⟩ e (fun z=>nomatch z) h
 | @dT a kvs ea =>
  cases (show u=Value.ref a from rx)
  obtain⟨_,_,xs,_,o,es,ep,h1,h2,_⟩:=(show bG X.prog X.w H s.heap a (.dT kvs) from I.hok a _ ea)
  exact W.kia_one W.kitx_dict I.kIn ⟨o,h1,h2.1⟩ e (fun z=>nomatch z) h
 | @ins a C dx fs ea cl ha hn htk hm =>
  cases (show u=Value.ref a from rx)
  obtain⟨mA,O,_⟩:=Mz I.hok ea
  obtain⟨od,J,_⟩:=O.look
  exact W.kia_one (W.kitx_own (cl.get _) cl.hd ha hn htk hm) I.kIn J e (fun z=>nomatch z) h
end
structure Room (k:Nat) (A:Around):Prop where
 hd:A.handled=none
 dp:A.depth+3 * k+5<recursionLimit
 un:A.units+16 * k+200<cLine
 gd:A.guards=some []
theorem Room.mono {j k:Nat}{A:Around} (r:Room k A) (h:j<=k):Room j A:=⟨r.hd,by have:=r.dp; omega,by have:=r.un; omega,r.gd⟩
theorem Room.deeper {k:Nat}{A:Around} (r:Room (k+1) A) (env:Env):Room k (A.deeper env) :=
 ⟨r.hd,by have:=r.dp; show A.depth+1+3 * k+5<_; omega,by have:=r.un; show A.units+3+16 * k+200<_; omega,r.gd⟩
theorem Room.depth {k:Nat}{A:Around} (r:Room k A):A.depth<recursionLimit:=by have:=r.dp; omega
theorem Room.units {k:Nat}{A:Around} (r:Room k A):A.units+64<cLine:=by have:=r.un; omega
def Pa:TA:=fun _ H Q=>Q [] H
def Nv (ta:TE) (tr:TA):TA:=fun σ H Q=>ta σ H fun x H1=>tr σ H1 fun xs H2=>Q (x::xs) H2
section
variable {X:Cx}{e:Expr}{es:List Expr}{te:TE}{t:TA}{pos:Pos}
theorem cC:PA X [] Pa:=fun _ _ _ _ H Q I h=>Calls.spliced_nil ⟨[],H,I,.nil,h⟩
theorem aP (ha:PE X e te) (hr:PA X es t) (hs:starEach (e::es) X.env=(false,eval e X.env)::starEach es X.env:=by rfl):PA X (e::es) (Nv te t):=by
 intro pos pins s σ H Q I h
 rw [hs]
 show wpAny _ _ (spliced ((false,eval e X.env)::backTo pos (starEach es X.env))) _ _ s
 refine Calls.spliced_cons (thn (ha pins s σ H _ I h) fun u s1 ⟨x,H1,I1,r1,q1⟩=>?_)
 exact thn (hr pos pins s1 σ H1 _ I1 q1) fun us s2 ⟨xs,H2,I2,r2,q2⟩=>⟨x::xs,H2,I2,.cons r1 r2,q2⟩
def Um (t:TA):TE:=fun σ H Q=>t σ H fun xs H1=>xs.length<=sizeLine/\∀ p,H1 p=none->Q (.ref p) (upd H1 p (.tup xs))
def Kz (t:TA):TE:=fun σ H Q=>t σ H fun xs H1=>xs.length<=sizeLine/\∀ p,H1 p=none->Q (.ref p) (upd H1 p (.lst xs))
theorem Hq {x1} (h:PA X es t):PE X (.Tuple es x1 pos) (Um t):=by
 intro pins s σ H Q I hq
 refine wpAny_Tuple_spliced (thn (h pos pins s σ H _ I hq) fun us s1 ⟨xs,H1,I1,r,z,q⟩=>⟨by rw [← r.length]; exact z,?_⟩)
 have hf:H1 s1.heap.objs.size=none:=I1.hok.fresh (Nat.le_refl _)
 refine⟨.ref s1.heap.objs.size,upd H1 s1.heap.objs.size (.tup xs),I1.laid (t':=s1.toks) (fun b u e=>Heap.get?_push_of_some _ e) (Nat.le_refl _) ?_,rfl,q _ hf⟩
 exact⟨z,us,r,⟨_,Heap.get?_push_size _ rfl,rfl,_,rfl⟩⟩
theorem n6 (h:PA X es t):PE X (.List es pos) (Kz t):=by
 intro pins s σ H Q I hq
 refine wpAny_List_spliced (thn (h pos pins s σ H _ I hq) fun us s1 ⟨xs,H1,I1,r,z,q⟩=>⟨by rw [← r.length]; exact z,?_⟩)
 have hf:H1 s1.heap.objs.size=none:=I1.hok.fresh (Nat.le_refl _)
 refine⟨.ref s1.heap.objs.size,upd H1 s1.heap.objs.size (.lst xs),I1.laid (t':=s1.toks) (fun b u e=>Heap.get?_push_of_some _ e) (Nat.le_refl _) ?_,rfl,q _ hf⟩
 exact⟨z,us,0,r,Heap.get?_push_size _ rfl⟩
end
abbrev Sp:=List V->Hp->VK->XK->Prop
abbrev CXT:=List Env->Hp->Shared->XK->Value->Shared->Prop
structure Env0 (P:Program) (w:World) (K:W.Frag) (mg:Str->Option Value) (base:Heap) (A:Around) (outer:List Env) (s:Shared) (H:Hp):Prop where
 frames:A.frames=some outer
 mod:Mod K mg base
 bs:∀ b o,base.get? b=some o->s.heap.get? b=some o/\H b=none
 bsz:base.objs.size<=s.heap.objs.size
 mO:s.heap.FunFrames base outer
 frf:∀ b∈frs outer,H b=none
 hok:HOk P w H s.heap
 bare:AllBare s.gens
def CE (outer:List Env) (P:Program) (w:World) (H:Hp) (s:Shared) (Q:VK) (u:Value) (s':Shared):Prop :=
 ∃ v H',s'.os=s.os/\AllBare s'.gens/\Un (frs outer) [] H H' s.heap s'.heap/\HOk P w H' s'.heap/\RelV v u/\Q v H'
def CR (CX:CXT) (outer:List Env) (P:Program) (w:World) (H:Hp) (s:Shared) (Q:VK) (E:XK) (r:Result) (s':Shared):Prop :=
 match r with
 | .ok (.ret u)=>CE outer P w H s Q u s'
 | .ok _=>False
 | .error e=>CX outer H s E e s'
structure FnOk (P:Program) (w:World) (K:W.Frag) (mg:Str->Option Value) (base:Heap) (CX:CXT) (k:Nat) (f:Addr) (fd:FuncData) (ps:List Str) (sp:Sp):Prop where
 len:∀ vs H Q E,sp vs H Q E->vs.length=ps.length
 run:∀ (A:Around) (outer:List Env) (s:Shared) (H:Hp) (args:Args) (us:List Value) (vs:List V) (Q:VK) (E:XK),Room k A->Env0 P w K mg base A outer s H->BindsTo s fd args (ps.zip us)->Vals vs us->sp vs H Q E ->
  codeAny (model P w) A (.call (.ref f) args) (CR CX outer P w H s Q E) s
section
variable {X:Cx}{pins:List (Addr×Obj)}{σ:St}{H:Hp}{s s':Shared}
theorem Inv.env0 (I:Inv X pins σ H s):Env0 X.prog X.w X.K X.mg X.base X.A X.stack s H :=
 ⟨I.ok.frames,I.ok.mod,I.bs,Nat.le_trans I.ok.bsz I.sz,I.stack,I.uR,I.hok,I.bare⟩
theorem Inv.after {Q:VK}{u:Value} (I:Inv X pins σ H s) (h:CE X.stack X.prog X.w H s Q u s'):EP X pins σ Q u s':=by
 obtain⟨v,H',os,bare,un,hok,r,q⟩:=h
 obtain⟨hh,g,d,t,os'⟩:=s'
 obtain rfl:os'=s.os:=os
 exact⟨v,H',I.call (h':=hh) (g':=g) (d':=d) (t':=t) (ch:=[]) un hok bare (fun b z=>absurd z (by simp)),r,q⟩
end
def qw (sp:Sp) (dvs:List V) (E:XK) (t:TA):TE:=fun σ H Q=>t σ H fun vs H1=>sp (vs++dvs) H1 Q E
def Binds (K:W.Frag) (fd:FuncData) (ps:List Str) (ds:List Value):Prop :=
 ∀ (s:Shared) (us:List Value),K.In s.heap->(us++ds).length=ps.length->BindsTo s fd ⟨us,[]⟩ (ps.zip (us++ds))
theorem Binds.all {K:W.Frag}{fd:FuncData}{ps:List Str} (h:∀ us:List Value,us.length=ps.length->bindArgs fd ⟨us,[]⟩=pure (ps.zip us)):Binds K fd ps []:=fun s us _ hl=>by
 rw [List.append_nil] at hl ⊢
 exact .of_eq (h us hl)
def Passes (CX:CXT) (X:Cx) (E:XK):Prop:=∀ (pins:List (Addr×Obj)) (σ:St) (H:Hp) (s:Shared) (e:Value) (s':Shared),Inv X pins σ H s->CX X.stack H s E e s'->X.xe e s'
section
variable {X:Cx}{CX:CXT}{k:Nat}{f C:Addr}{fd:FuncData}{ps:List Str}{sp:Sp}{dvs:List V}{ds:List Value}{E:XK}{x m:Str}{p pos apos:Pos}{e o:Expr}{es:List Expr}{ta:TE}{t:TA}
theorem Pz {pins:List (Addr×Obj)}{σ:St}{H:Hp}{s:Shared}{Q:VK}{us:List Value}{vs:List V} (F:FnOk X.prog X.w X.K X.mg X.base CX k f fd ps sp) (hr:Room k X.A) (hb:Binds X.K fd ps ds) (hd:Vals dvs ds) (hx:Passes CX X E)
  (I:Inv X pins σ H s) (r:Vals vs us) (h:sp (vs++dvs) H Q E):wpAny (model X.prog X.w) X.A (call (.ref f) us) (EP X pins σ Q) X.xe s:=by
 have r2:Vals (vs++dvs) (us++ds):=r.append hd
 have hl:(us++ds).length=ps.length:=by rw [← r2.length]; exact F.len _ _ _ _ h
 refine wpAny_call (codeAny_mono (F.run X.A X.stack s H ⟨us,[]⟩ (us++ds) (vs++dvs) Q E hr I.env0 (hb s us I.kIn hl) r2 h) fun r s' hq=>?_)
 cases r with
 | error e=>exact hx pins σ H s e s' I hq
 | ok fl =>
  cases fl with
  | ret u=>exact I.after hq
  | next=>exact False.elim hq
  | brk=>exact False.elim hq
  | cont=>exact False.elim hq
theorem Cy (F:FnOk X.prog X.w X.K X.mg X.base CX k f fd ps sp) (hr:Room k X.A) (hg:Gl X x) (hm:X.mg x=some (.ref f)) (hk:W.keepIn X.K (.ref f)=true) (hb:Binds X.K fd ps ds) (hd:Vals dvs ds) (hx:Passes CX X E)
  (ha:PA X (e::es) t) (hdb:(x == ("__debug__":Str))=false:=by decide) (he:starEach (e::es) X.env=(false,eval e X.env)::starEach es X.env:=by rfl) (hpl:(backTo pos (starEach es X.env)).any (·.1)=false:=by rfl) :
  PE X (.Call (.Name x p) (e::es) [] pos) (qw sp dvs E t):=by
 intro pins s σ H Q I h
 refine wpAny_Call_Name_kw (jM I hg hm ?_ hdb)
 refine W.callWith_K (h₀:=X.base) I.ok.mod.kin hk (thn (ha pos pins s σ H _ I h) fun us s1 ⟨vs,H1,I1,r,q⟩=>⟨I1.kIn,?_⟩) he hpl
 exact Pz F hr hb hd hx I1 r q
structure Mk (K:W.Frag) (C f:Addr):Prop where
 makes:W.makesIn K C=true
 init:W.findIn K (.ref C) "__init__"=some (some (.ref f))
 fn:W.isFn K (.ref f)=true
 kp:W.keepIn K (.ref C)=true
end
section
variable {X:Cx}{CX:CXT}{k:Nat}{f C:Addr}{fd:FuncData}{ps ks:List Str}{sp:Sp}{E:XK}{x m:Str}{p pos apos kpos:Pos}{e o:Expr}{es:List Expr}{kws:List Keyword}{te ta:TE}{t tk:TA}{nm:Option Str}
structure KBinds (K:W.Frag) (fd:FuncData) (ps ks:List Str) (g:List Value->List Value->List Value) (gV:List V->List V->List V):Prop where
 to:∀ (s:Shared) (us ws:List Value),K.In s.heap->(g us ws).length=ps.length->BindsTo s fd ⟨us,ks.zip ws⟩ (ps.zip (g us ws))
 rel:∀ {vs:List V}{us:List Value}{zs:List V}{ws:List Value},Vals vs us->Vals zs ws->Vals (gV vs zs) (g us ws)
variable {g:List Value->List Value->List Value}{gV:List V->List V->List V}
end
structure FnScope (N P:List Str) (sc:Scope):Prop where
 kind:sc.kind=.function
 co:sc.isCoroutine=false
 gen:sc.isGenerator=false
 nd:N.Nodup
 pre:N.take P.length=P
 par:∀ x∈P,sc.names.lookup x=some .local\/sc.names.lookup x=some .cell
 nofree:∀ y∈sc.names,y.2≠.free
theorem zC {N P:List Str}{sc:Scope} (a:sc.kind=.function:=by rfl) (b:sc.isCoroutine=false:=by rfl) (c:sc.isGenerator=false:=by rfl) (d:N.Nodup:=by decide +kernel) (e:N.take P.length=P:=by rfl) (f:∀ x∈P,sc.names.lookup x=some .local\/sc.names.lookup x=some .cell:=by decide +kernel) (g:∀ y∈sc.names,y.2≠.free:=by decide +kernel):FnScope N P sc:=⟨a,b,c,d,e,f,g⟩
theorem uH {kindOf:Str->Option NameKind}{x:Str}:∀ {binds:List (Str×Value)}{m:Str->Option Value},(∀ v,(x,v)∉binds)->bindL kindOf binds m x=m x
 | [],_,_=>rfl
 | (n,v)::r,m,h=>by
  unfold bindL
  rw [uH fun w hw=>h w (List.mem_cons_of_mem _ hw)]
  split
  ·have:x≠n:=by rintro rfl; exact h v List.mem_cons_self
   simp [this]
  ·rfl
theorem uJ {kindOf:Str->Option NameKind}{x:Str}:∀ {binds:List (Str×Value)}{m:Str->Option Value},(∀ v,(x,v)∉binds)->bindC kindOf binds m x=m x
 | [],_,_=>rfl
 | (n,v)::r,m,h=>by
  unfold bindC
  rw [uJ fun w hw=>h w (List.mem_cons_of_mem _ hw)]
  split
  ·rfl
  ·have:x≠n:=by rintro rfl; exact h v List.mem_cons_self
   simp [this]
theorem uI {kindOf:Str->Option NameKind}{x:Str}{v:Value}:∀ {P:List Str}{vs:List Value}{i:Nat}{m:Str->Option Value},P.Nodup->P[i]?=some x->vs[i]?=some v->kindOf x=some .local ->
  bindL kindOf (P.zip vs) m x=some v
 | [],_,_,_,_,h,_,_=>by simp at h
 | _::_,[],_,_,_,_,h,_=>by simp at h
 | p::P,w::vs,0,m,nd,h1,h2,hk=>by
  simp at h1 h2; subst h1; subst h2
  show bindL kindOf ((p,w)::P.zip vs) m p=_
  unfold bindL
  rw [uH fun v hv=>(List.nodup_cons.mp nd).1 (List.of_mem_zip hv).1,if_pos hk]
  simp
 | p::P,w::vs,i+1,m,nd,h1,h2,hk=>by
  show bindL kindOf ((p,w)::P.zip vs) m x=_
  unfold bindL
  exact uI (i:=i) (List.nodup_cons.mp nd).2 (by simpa using h1) (by simpa using h2) hk
theorem uK {kindOf:Str->Option NameKind}{x:Str}{v:Value}:∀ {P:List Str}{vs:List Value}{i:Nat}{m:Str->Option Value},P.Nodup->P[i]?=some x->vs[i]?=some v->kindOf x≠some .local ->
  bindC kindOf (P.zip vs) m x=some v
 | [],_,_,_,_,h,_,_=>by simp at h
 | _::_,[],_,_,_,_,h,_=>by simp at h
 | p::P,w::vs,0,m,nd,h1,h2,hk=>by
  simp at h1 h2; subst h1; subst h2
  show bindC kindOf ((p,w)::P.zip vs) m p=_
  unfold bindC
  rw [uJ fun v hv=>(List.nodup_cons.mp nd).1 (List.of_mem_zip hv).1,if_neg hk]
  simp
 | p::P,w::vs,i+1,m,nd,h1,h2,hk=>by
  show bindC kindOf ((p,w)::P.zip vs) m x=_
  unfold bindC
  exact uK (i:=i) (List.nodup_cons.mp nd).2 (by simpa using h1) (by simpa using h2) hk
def start (N:List Str) (vs:List V):St:=vs.map some++List.replicate (N.length - vs.length) none
def wg (CX:CXT) (P:Program) (w:World) (K:W.Frag) (mg:Str->Option Value) (base:Heap) (N:List Str) (qual:Str) (scope:Scope) (f:Addr) (cd:Value) (A:Around) (outer:List Env) (s:Shared) (H:Hp) (E:XK):Cx where
 prog:=P
 w:=w
 K:=K
 mg:=mg
 base:=base
 A:=A.deeper (envOfC qual scope s.heap.objs.size f cd)
 N:=N
 s₀:=s
 H₀:=H
 env:=envOfC qual scope s.heap.objs.size f cd
 outer:=outer
 stack:=envOfC qual scope s.heap.objs.size f cd::outer
 ex:=[]
 calm:=true
 fn:=fun _=>true
 pn:=[]
 xe:=fun e s'=>wpAny (model P w) (A.deeper (envOfC qual scope s.heap.objs.size f cd)) (leaving (envOfC qual scope s.heap.objs.size f cd) e) (fun _ s''=>CX outer H s E e s'') (fun e' s''=>CX outer H s E e' s'') s'
theorem yP {sc:Scope}{n:Nat}{x:Str} (h:sc.names.lookup x=some .cell):∃ c,(cellsFrom n sc.names []).lookup x=some c:=by
 have q:=W.cellsFrom_some sc.names n [] (.inl h)
 exact Option.isSome_iff_exists.mp q
theorem uo {CX:CXT}{P:Program}{w:World}{K:W.Frag}{mg:Str->Option Value}{base:Heap}{N ps:List Str}{qual:Str}{scope:Scope}{f:Addr}{cd:Value}{A:Around}{outer:List Env}{s s1:Shared}{H:Hp}{E:XK}{us:List Value}{vs:List V}
  (S:FnScope N ps scope) (hd:A.handled=none) (e0:Env0 P w K mg base A outer s H) (hl:vs.length=ps.length) (r:Vals vs us)
  (x:InCallC s s.heap.objs.size (bindL (envOfC qual scope s.heap.objs.size f cd).kindOf (ps.zip us) fun _=>none) (cellsFrom (s.heap.objs.size+1) scope.names []) (bindC (envOfC qual scope s.heap.objs.size f cd).kindOf (ps.zip us) fun _=>none) s1) :
  Inv (wg CX P w K mg base N qual scope f cd A outer s H E) [] (start N vs) H s1:=by
 have hpl:ps.length<=N.length:=by have:=congrArg List.length S.pre; rw [List.length_take] at this; omega
 obtain⟨h1,tk,rfl,hk⟩:=x.done
 have noA:∀ b:Addr,b∉(wg CX P w K mg base N qual scope f cd A outer s H E).ex:=fun b z=>absurd (show b∈([]:List Addr) from z) (by simp)
 refine⟨⟨e0.mod,S.kind,rfl,rfl,Nat.le_refl _,fun y z c h1 h2=>?_,fun y hy=>?_,fun y c _ h=>?_,fun _=>hd,Around.frames_deeper e0.frames,.inr ⟨rfl,rfl⟩,fun b z=>absurd z (noA b),e0.bs,e0.bsz,fun b _ _=>noA b,fun b z=>absurd z (noA b),e0.mO,e0.frf,fun q z=>nomatch (show q∈([]:List (Addr×Obj×HO)) from z)⟩,
  rfl,e0.bare,Un.kept hk,⟨_,x.toInCall.ns,fun i y v h1 h2 h3=>?_⟩,fun y c h=>⟨_,x.cell y c h⟩,e0.hok.fresh (Nat.le_refl _),fun y c h=>?_,fun p hp=>absurd (show p∈([]:List (Addr×Obj)) from hp) (by simp),e0.hok.kept hk,?_⟩
 ·exact name_of_addr x.apart (PySem.mem_of_lookup h1) (PySem.mem_of_lookup h2)
 ·have hy:scope.names.lookup y=some .cell\/scope.names.lookup y=some .free:=hy
  rcases hy with hy | hy
  ·exact yP hy
  ·exact absurd rfl (S.nofree _ (PySem.mem_of_lookup hy))
 ·exact Nat.le_of_lt (x.above y c (PySem.mem_of_lookup h))
 ·have hi:i<vs.length:=by
   unfold start at h2
   by_cases hi:i<vs.length
   ·exact hi
   ·rw [List.getElem?_append_right (by simpa using hi)] at h2
    rw [List.getElem?_replicate] at h2
    split at h2 <;> cases h2
  have ha:vs[i]?=some v:=by
   unfold start at h2
   rw [List.getElem?_append_left (by simpa using hi),List.getElem?_map] at h2
   cases e:vs[i]? with
   | none=>rw [e] at h2; cases h2
   | some a=>rw [e] at h2; cases h2; rfl
  obtain⟨u,hu,rv⟩:=r.get ha
  have hp:ps[i]?=some y:=by
   rw [← S.pre,List.getElem?_take_of_lt (by omega)]; exact h1
  have ndP:ps.Nodup:=by rw [← S.pre]; exact S.nd.sublist (List.take_sublist _ _)
  refine⟨u,rv,?_⟩
  rcases S.par y (List.mem_of_getElem? hp) with k | k
  ·exact .inl ⟨k,uI ndP hp hu k⟩
  ·obtain⟨c,e⟩:=yP (n:=s.heap.objs.size+1) k
   refine .inr ⟨.inl k,c,e,?_⟩
   have q:=x.cell y c e
   rw [uK ndP hp hu (by show scope.names.lookup y≠_; rw [k]; decide)] at q
   exact q
 ·exact e0.hok.fresh (Nat.le_of_lt (x.above y c (PySem.mem_of_lookup h)))
 ·unfold start
  show _=N.length
  rw [List.length_append,List.length_map,List.length_replicate]
  omega
theorem Og {CX:CXT}{P:Program}{w:World}{K:W.Frag}{mg:Str->Option Value}{base:Heap}{k:Nat}{f:Addr}{name qual:Str}{params:Arguments}{body:List Stmt}{scope:Scope}{dV kV doc pm cdv ct oc:Value}{an od:Option Addr}
  {osl:Array (Option Value)}{N ps:List Str}{sp:Sp} (lk:K.lookup f=some ⟨oc,od,.func (W.fnOf name qual params body scope dV kV doc pm an cdv ct),osl⟩) (hcd:W.codeIn K cdv qual=true) (S:FnScope N ps scope)
  (len:∀ vs H Q E,sp vs H Q E->vs.length=ps.length)
  (hbody:∀ (A:Around) (outer:List Env) (s:Shared) (H:Hp) (vs:List V) (Q:VK) (E:XK),Room k (A.deeper (envOfC qual scope s.heap.objs.size f cdv))->sp vs H Q E ->
   ∃ t,PSs (wg CX P w K mg base N qual scope f cdv A outer s H E) body t/\t { nx:=fun _ H'=>Q .non H',rt:=Q } (start N vs) H) :
  FnOk P w K mg base CX (k+1) f (W.fnOf name qual params body scope dV kV doc pm an cdv ct) ps sp:=by
 refine⟨len,fun A outer s H args us vs Q E hr e0 hb r hsp=>?_⟩
 have hl:=len _ _ _ _ hsp
 have KX:K.In s.heap:=e0.mod.kin.keeps fun b o e=>(e0.bs b o e).1
 have lim:s.heap.NoLimit:=e0.mod.nolimit.keeps fun b o e=>(e0.bs b o e).1
 have hkind:∀ y∈ps.zip us,scope.names.lookup y.1=some .local\/(scope.names.lookup y.1=some .cell/\((cellsFrom (s.heap.objs.size+1) scope.names []).lookup y.1).isSome=true):=fun ⟨n,v⟩ hy=>by
  rcases S.par n (List.of_mem_zip hy).1 with q | q
  ·exact .inl q
  ·exact .inr ⟨q,W.cellsFrom_some _ _ _ (.inl q)⟩
 refine codeAny_call_function hr.depth (KX _ _ lk) rfl S.co S.gen rfl (W.codeRec_of KX hcd) (hb _ _ _ _ ?_)
 refine wpAny_newFunctionEnv_cells S.kind hkind fun env he s1 x=>?_
 subst he
 refine⟨lim.keeps x.toInCall.keep,codeAny_func ?_⟩
 obtain⟨t,ht,hq⟩:=hbody A outer s H vs Q E (hr.deeper _) hsp
 have I:Inv (wg CX P w K mg base N qual scope f cdv A outer s H E) [] (start N vs) H s1:=uo S hr.hd e0 hl r x
 refine wpAny_mono (ht [] s1 (start N vs) H _ I hq) (fun fl s' hs=>?_) fun e s' hs=>hs
 have fin:∀ {σ':St}{H':Hp}{v:V}{u:Value},Inv (wg CX P w K mg base N qual scope f cdv A outer s H E) [] σ' H' s'->RelV v u->Q v H'->CE outer P w H s Q u s' :=
  fun {σ' H' v u} J rv q=>⟨v,H',J.os,J.bare,J.base,J.hok,rv,q⟩
 cases fl with
 | ret u =>
  obtain⟨v,σ',H',J,rv,q⟩:=hs
  exact fin J rv q
 | next =>
  obtain⟨σ',H',J,q⟩:=hs
  exact fin (v:=V.non) (u:=Value.none) J rfl q
 | brk =>
  obtain⟨_,_,_,q⟩:=hs
  exact False.elim q
 | cont =>
  obtain⟨_,_,_,q⟩:=hs
  exact False.elim q
section
variable {X:Cx}{x:Str}{p pos:Pos}{e:Expr}{es:List Expr}{t:TA}{id T:String}{r:List V->Hp->VK->Prop}
def tCB (r:List V->Hp->VK->Prop) (t:TA):TE:=fun σ H Q=>t σ H fun vs H1=>r vs H1 Q
theorem eG (hc:bO X (.builtin id) r) (hg:Gl X x) (hm:X.mg x=none) (hv:bootBuiltins x=some (.builtin id)) (ha:PA X (e::es) t) (hn:x≠"__name__":=by decide) (hdb:(x == ("__debug__":Str))=false:=by decide)
  (he:starEach (e::es) X.env=(false,eval e X.env)::starEach es X.env:=by rfl) (hpl:(backTo pos (starEach es X.env)).any (·.1)=false:=by rfl):PE X (.Call (.Name x p) (e::es) [] pos) (tCB r t):=by
 intro pins s σ H Q I h
 refine wpAny_Call_Name_kw (jt I hg hm hv ?_ hn hdb)
 exact PyProof.Rows.callWith_builtin1 (thn (ha pos pins s σ H _ I h) fun us s1 ⟨vs,H1,I1,r1,q1⟩=>hc pins s1 σ H1 vs us Q I1 r1 q1) he hpl
theorem fJ (hc:bO X (.type T) r) (hg:Gl X x) (hm:X.mg x=none) (hv:bootBuiltins x=some (.type T)) (ha:PA X (e::es) t) (hn:x≠"__name__":=by decide) (hdb:(x == ("__debug__":Str))=false:=by decide)
  (he:starEach (e::es) X.env=(false,eval e X.env)::starEach es X.env:=by rfl) (hpl:(backTo pos (starEach es X.env)).any (·.1)=false:=by rfl):PE X (.Call (.Name x p) (e::es) [] pos) (tCB r t):=by
 intro pins s σ H Q I h
 refine wpAny_Call_Name_kw (jt I hg hm hv ?_ hn hdb)
 exact PyProof.Rows.callWith_type1 (thn (ha pos pins s σ H _ I h) fun us s1 ⟨vs,H1,I1,r1,q1⟩=>hc pins s1 σ H1 vs us Q I1 r1 q1) he hpl
end
end L2
namespace HT
open PySem PyProof.Rows
section
open PySem.SeqAt
open PySem.AutoSeq1 (wpAny_loadPart')
open PySem.MeetsSeq PySem.MeetsSeq2 PySem.MeetsSeq3
end
section
variable {prog:Program}{w:World}{A:Around}{E:Value->Shared->Prop}{s:Shared}
theorem Nm {t b:Addr}{vs ws:List Value}{Q:Value->Shared->Prop} (ht:IsTup s.heap t vs.toArray) (hb:IsTup s.heap b ws.toArray) (hv:vs≠[])
  (h1:ws=[]->Q (.ref t) s) (h2:ws≠[]->Q (.ref s.heap.objs.size) { s with heap:=s.heap.push { cls:=.type "tuple",data:=.seq (vs++ws).toArray } })
  (hsz:vs.length+ws.length<=sizeLine):wpAny (model prog w) A (binaryOp .Add (.ref t) (.ref b)) Q E s:=by
 obtain⟨⟨cls,dd,data,sl⟩,ho,hc,n,hd⟩:=id ht
 obtain⟨⟨cls2,dd2,data2,sl2⟩,ho2,hc2,n2,hd2⟩:=id hb
 simp only at hc hd hc2 hd2
 subst hc hd hc2 hd2
 have e:vs.toArray++ws.toArray=(vs++ws).toArray:=by simp
 by_cases hw:ws=[]
 ·exact concat_meets ⟨_,ho,rfl⟩ ⟨_,ho2,rfl⟩ noFill_tuple_add seq_tuple_add PySem.F.slot_tuple_add PySem.F.entry_tuple_add (PySem.F.args_tuple_add_2 _ _)
   (tuple_addW1 t b vs.toArray ws.toArray n n2 dd dd2 sl sl2 (by simpa using hv) (by simp [hw])) ⟨ho,ho2,h1 hw⟩
 ·refine concat_meets ⟨_,ho,rfl⟩ ⟨_,ho2,rfl⟩ noFill_tuple_add seq_tuple_add PySem.F.slot_tuple_add PySem.F.entry_tuple_add (PySem.F.args_tuple_add_2 _ _)
   (tuple_addW2 t b vs.toArray ws.toArray n n2 dd dd2 sl sl2 (by simpa using hv) (by simpa using hw) (by rw [List.size_toArray,List.size_toArray]; exact hsz)) ⟨ho,ho2,?_⟩
  rw [e]
  exact h2 hw
def sIx (n d:Nat):Option Int->Nat
 | none=>d
 | some v=>if v<0 then (v+(n:Int)).toNat else min v.toNat n
theorem Ce (n d k:Nat):sIx n d (some (k:Int))=min k n:=by
 show (if (k:Int)<0 then ((k:Int)+(n:Int)).toNat else min (k:Int).toNat n)=min k n
 rw [if_neg (by omega),Int.toNat_natCast]
theorem Py (n d:Nat) (hd:d<=n) (o:Option Int):sIx n d o<=n:=by
 cases o with
 | none=>exact hd
 | some v =>
  show (if v<0 then (v+(n:Int)).toNat else min v.toNat n)<=n
  by_cases hv:v<0
  ·rw [if_pos hv]; omega
  ·rw [if_neg hv]; exact Nat.min_le_right _ _
theorem Dz (v:Int) (n d:Nat):(if v<0 then max (v+(n:Int)) 0 else min v (n:Int))=((sIx n d (some v):Nat):Int):=by
 show (if v<0 then max (v+(n:Int)) 0 else min v (n:Int))=(((if v<0 then (v+(n:Int)).toNat else min v.toNat n):Nat):Int)
 by_cases hv:v<0
 ·simp only [if_pos hv]; omega
 ·simp only [if_neg hv]; omega
theorem Bs (lo hi:Option Int) (n:Nat):Builtin.Slice.sliceAdjust lo hi 1 (n:Int)=(((sIx n 0 lo:Nat):Int),((sIx n n hi:Nat):Int)):=by
 have h1:¬ ((1:Int)<0):=by omega
 unfold Builtin.Slice.sliceAdjust
 simp only [h1,if_false]
 refine Prod.ext ?_ ?_
 ·cases lo with
  | none=>rfl
  | some v=>exact Dz v n 0
 ·cases hi with
  | none=>rfl
  | some v=>exact Dz v n n
theorem zH (i j:Nat):Builtin.Slice.slicePlaces (i:Int) (j:Int) 1=j - i:=by
 unfold Builtin.Slice.slicePlaces
 have h1:(1:Int) > 0:=by omega
 simp only [h1,if_true,Int.ediv_one]
 split <;> omega
theorem qC {v:Value}{o:Option Int}{Q:Option Int->Shared->Prop} (p:IsPart v o) (h:Q o s):wpAny (model prog w) A (Builtin.Slice.slicePartIndex v) Q E s:=by
 cases p with
 | none=>exact slicePart_none h
 | int i t=>exact slicePart_int h
theorem nR {sl:Addr}{vl vu:Value}{lo hi:Option Int}{n:Nat}{Q:Int×Int×Nat->Shared->Prop} (hs:s.heap.IsSliceOf sl vl vu .none) (pl:IsPart vl lo) (pu:IsPart vu hi)
  (h:Q (((sIx n 0 lo:Nat):Int),1,sIx n n hi - sIx n 0 lo) s):wpAny (model prog w) A (Builtin.Slice.sliceApplied (.ref sl) (pure (n:Int))) Q E s:=by
 obtain⟨os,hos,hcs,hds⟩:=id hs
 unfold Builtin.Slice.sliceApplied Builtin.Slice.sliceFields
 refine wpAny_bind (wpAny_bind (wpAny_field hos hds (x:=vl) rfl (wpAny_bind (wpAny_field hos hds (x:=vu) rfl (wpAny_bind (wpAny_field hos hds (x:=.none) rfl (wpAny_pure ?_)))))))
 refine wpAny_bind (slicePart_none ?_)
 show wpAny _ _ (if ((1:Int) == 0)=true then _ else _) _ _ s
 rw [if_neg (by decide)]
 refine wpAny_bind (qC pl (wpAny_bind (qC pu (wpAny_bind (wpAny_pure ?_)))))
 show wpAny _ _ (match Builtin.Slice.sliceAdjust lo hi 1 (n:Int) with | (lo,hi)=>pure (lo,(1:Int),Builtin.Slice.slicePlaces lo hi 1)) _ _ s
 rw [Bs lo hi n]
 show wpAny _ _ (pure (((sIx n 0 lo:Nat):Int),(1:Int),Builtin.Slice.slicePlaces ((sIx n 0 lo:Nat):Int) ((sIx n n hi:Nat):Int) 1)) _ _ s
 rw [zH]
 exact wpAny_pure h
theorem Hi (xs:Array Value) (i k:Nat):((List.range k).filterMap fun (m:Nat)=>xs[((i:Int)+(m:Int) * 1).toNat]?).toArray=((xs.toList.drop i).take k).toArray:=by
 have e:(fun (m:Nat)=>xs[((i:Int)+(m:Int) * 1).toNat]?)=fun m=>xs[i+m]?:=by
  funext m
  have:((i:Int)+(m:Int) * 1).toNat=i+m:=by omega
  rw [this]
 rw [e]
 have:=pick_run xs i k
 rw [List.filterMap_map] at this
 have e2:((fun x=>xs[x]?) ∘ fun x=>i+x)=fun m=>xs[i+m]?:=rfl
 rw [e2] at this
 rw [this]
theorem mL {t sl:Addr}{items:Array Value}{vl vu:Value}{lo hi:Option Int}{Q:Value->Shared->Prop} (ht:IsTup s.heap t items) (hs:s.heap.IsSliceOf sl vl vu .none) (pl:IsPart vl lo) (pu:IsPart vu hi)
  (hw:¬ (sIx items.size 0 lo=0/\sIx items.size items.size hi=items.size))
  (h:Q (.ref s.heap.objs.size) { s with heap:=s.heap.push { cls:=.type "tuple",data:=.seq ((items.toList.drop (sIx items.size 0 lo)).take (sIx items.size items.size hi - sIx items.size 0 lo)).toArray } })
  (hsz:items.size<=sizeLine):wpAny (model prog w) A (getItem (.ref t) (.ref sl)) Q E s:=by
 have htake:sizeOk (.seq ((items.toList.drop (sIx items.size 0 lo)).take (sIx items.size items.size hi - sIx items.size 0 lo)).toArray):=by
  show ((items.toList.drop (sIx items.size 0 lo)).take (sIx items.size items.size hi - sIx items.size 0 lo)).toArray.size<=sizeLine
  rw [List.size_toArray,List.length_take,List.length_drop,Array.length_toList]
  omega
 have hj:sIx items.size items.size hi<=items.size:=Py _ _ (Nat.le_refl _) hi
 obtain⟨os,hos,hcs,hds⟩:=id hs
 have hTs:s.TypeIs (.ref sl) "slice":=⟨os,hos,hcs⟩
 unfold getItem
 try with_reducible refine wpAny_holding ?_
 first | refine wpAny_bind (wpAny_pure ?_) | skip
 refine wpAny_bind (wpAny_sequenceKey ht.typeIs (by decide) ?_)
 refine wpAny_bind (wpAny_callSpecial?_slot (name:=Str.ofString "__getitem__") ht.typeIs PyProof.Rows.slot_tuple_getitem
  (wpAny_call_entry PyProof.Rows.slot_tuple_getitem ht.typeIs entry_tuple_getitem ?_ (args_tuple_getitem _ _)))
 show wpAny _ _ (Builtin.Tuple.tupleItemsOf (.ref t) >>= _) _ _ s
 refine wpAny_bind (tupleItemsOf_ ht ?_)
 refine wpAny_bind (wpAny_typeOf hTs ?_)
 rw [if_pos (by decide)]
 refine wpAny_bind (nR hs pl pu ?_)
 have hno:¬ ((((sIx items.size 0 lo:Nat):Int) == 0&&(1:Int) == 1&&(sIx items.size items.size hi - sIx items.size 0 lo) == items.size)=true):=by
  intro q
  rw [Bool.and_eq_true,Bool.and_eq_true] at q
  have q1:((sIx items.size 0 lo:Nat):Int)=0:=eq_of_beq q.1.1
  have q2:sIx items.size items.size hi - sIx items.size 0 lo=items.size:=eq_of_beq q.2
  exact hw ⟨by omega,by omega⟩
 show wpAny _ _ (if (((sIx items.size 0 lo:Nat):Int) == 0&&(1:Int) == 1&&(sIx items.size items.size hi - sIx items.size 0 lo) == items.size)=true then _ else _) _ _ s
 rw [if_neg hno,Hi]
 first
  | exact wpAny_bind (m:=Builtin.Tuple.tupleExact _) (wpAny_newObj_type (wpAny_pure ⟨_,rfl,wpAny_pure h⟩) htake)
  | exact wpAny_bind (m:=Builtin.Tuple.tupleExact _) (wpAny_newObj_type (wpAny_bind (wpAny_pure (wpAny_pure ⟨_,rfl,wpAny_pure h⟩))) htake)
  | exact wpAny_bind (wpAny_bind (m:=Builtin.Tuple.tupleExact _) (wpAny_newObj_type (wpAny_pure (wpAny_pure ⟨_,rfl,wpAny_pure h⟩)) htake))
  | exact wpAny_bind (wpAny_bind (m:=Builtin.Tuple.tupleExact _) (wpAny_newObj_type (wpAny_pure ⟨_,rfl,wpAny_pure h⟩) htake))
end
end HT
namespace L2
open PySem PySem.Spec PyProof.Rows
abbrev TO:=St->Hp->(Option Int->Hp->Prop)->Prop
def PO (X:Cx) (e:Option Expr) (t:TO):Prop :=
 ∀ (pins:List (Addr×Obj)) (s:Shared) (σ:St) (H:Hp) (Q:Option Int->Hp->Prop),Inv X pins σ H s->t σ H Q ->
  wpAny (model X.prog X.w) X.A (evalPart e X.env) (fun u s'=>∃ o H',Inv X pins σ H' s'/\IsPart u o/\Q o H') X.xe s
def Ky:TO:=fun _ H Q=>Q none H
def RJ (t:TE):TO:=fun σ H Q=>t σ H fun x H1=>∃ i,x=.int i/\Q (some i) H1
theorem intsAre_of {ns:List Int}:∀ {us:List Value},Vals (ns.map V.int) us->IntsAre us ns:=by
 induction ns with
 | nil=>intro us r; rw [List.map_nil] at r; cases r; exact .nil
 | cons n ns ih =>
  intro us r
  rw [List.map_cons] at r
  cases r with
  | cons r1 r2 =>
   obtain⟨t,e⟩:=r1
   subst e
   exact .cons n t (ih r2)
section
variable {X:Cx}{e:Expr}{te:TE}{lo hi:Option Expr}{tl th:TO}{pos p2:Pos}
theorem Cw:PO X none Ky:=by
 intro pins s σ H Q I h
 rw [evalPart_none]
 exact wpAny_pure ⟨none,H,I,.none,h⟩
theorem Cv (h:PE X e te):PO X (some e) (RJ te):=by
 intro pins s σ H Q I hw
 rw [evalPart_some]
 refine thn (h pins s σ H _ I hw) fun u s1 ⟨x,H1,I1,r1,q1⟩=>?_
 obtain⟨i,rfl,q⟩:=q1
 obtain⟨t,rfl⟩:=r1
 exact⟨some i,H1,I1,.int i t,q⟩
def SlR (X:Cx) (r:V->Option Int->Option Int->Hp->VK->Prop):Prop :=
 ∀ (pins:List (Addr×Obj)) (s:Shared) (σ:St) (H:Hp) (x:V) (v vl vu:Value) (lo hi:Option Int) (sl:Addr) (Q:VK),Inv X pins σ H s->RelV x v->s.heap.IsSliceOf sl vl vu .none->IsPart vl lo->IsPart vu hi->r x lo hi H Q ->
  ∃ T id,typeLookup (.type T) "__getitem__"=pure (some (.builtin id))/\s.TypeIs v T/\wpAny (model X.prog X.w) X.A (getItem v (.ref sl)) (EP X pins σ Q) X.xe s
theorem SlR.or {r r':V->Option Int->Option Int->Hp->VK->Prop} (h:SlR X r) (h':SlR X r'):SlR X (fun x lo hi H Q=>r x lo hi H Q\/r' x lo hi H Q):=by
 intro pins s σ H x v vl vu lo hi sl Q I rx hs pl pu q
 rcases q with q | q
 ·exact h pins s σ H x v vl vu lo hi sl Q I rx hs pl pu q
 ·exact h' pins s σ H x v vl vu lo hi sl Q I rx hs pl pu q
def tSl (r:V->Option Int->Option Int->Hp->VK->Prop) (te:TE) (tl th:TO):TE:=fun σ H Q=>te σ H fun x H1=>tl σ H1 fun l H2=>th σ H2 fun u H3=>r x l u H3 Q
theorem wZ {r:V->Option Int->Option Int->Hp->VK->Prop} (hr:SlR X r) (he:PE X e te) (hl:PO X lo tl) (hu:PO X hi th):PE X (.Subscript e (.Slice lo hi none p2) pos) (tSl r te tl th):=by
 intro pins s σ H Q I h
 refine Subscript_ (thn (he pins s σ H _ I h) fun v s1 ⟨x,H1,I1,r1,q1⟩=>?_)
 refine wpAny_Slice (thn (hl pins s1 σ H1 _ I1 q1) fun vl s2 ⟨l,H2,I2,pl,q2⟩=>thn (hu pins s2 σ H2 _ I2 q2) fun vu s3 ⟨u,H3,I3,pu,q3⟩=>?_)
 rw [evalPart_none]
 refine wpAny_pure ?_
 have I4:Inv X pins σ H3 { s3 with heap:=s3.heap.push { cls:=.type "slice",data:=.fields #[vl,vu,.none] } }:=I3.kept (t':=s3.toks) fun b ob q=>Heap.get?_push_of_some _ q
 obtain⟨T,id,hT,ht,hg⟩:=hr pins { s3 with heap:=s3.heap.push { cls:=.type "slice",data:=.fields #[vl,vu,.none] } } σ H3 x v vl vu l u s3.heap.objs.size Q I4 r1 (Heap.IsSliceOf.new ..) pl pu q3
 show wpAny (model X.prog X.w) X.A (subscriptTail e (.Slice lo hi none p2) v (.ref s3.heap.objs.size)) (EP X pins σ Q) X.xe { s3 with heap:=s3.heap.push { cls:=.type "slice",data:=.fields #[vl,vu,.none] } }
 exact tail_any (ops:=[.ref s3.heap.objs.size,v]) ht hT hg (by with_unfolding_all rfl)
def rY (xs:List V) (lo hi:Option Int):List V:=(xs.drop (HT.sIx xs.length 0 lo)).take (HT.sIx xs.length xs.length hi - HT.sIx xs.length 0 lo)
theorem pC (xs:List V) (lo hi:Option Int):(rY xs lo hi).length<=xs.length:=by
 unfold rY
 rw [List.length_take,List.length_drop]
 omega
def UW (K:W.Frag):V->Option Int->Option Int->Hp->VK->Prop:=fun x lo hi H Q=>∃ a xs,x=.ref a/\SqT K H a xs /\
 ¬ (HT.sIx xs.length 0 lo=0/\HT.sIx xs.length xs.length hi=xs.length)/\∀ p,H p=none->Q (.ref p) (upd H p (.tup (rY xs lo hi)))
theorem Px:SlR X (UW X.K):=by
 intro pins s σ H x v vl vu lo hi sl Q I rx hs pl pu h
 obtain⟨a,xs,rfl,hx,hw,q⟩:=h
 cases rx
 obtain⟨its,r,ht,hz⟩:=I.tuple hx
 have hlen:its.toArray.size=xs.length:=by rw [List.size_toArray]; exact r.length.symm
 refine⟨"tuple",_,PyProof.Rows.slot_tuple_getitem.lookup,ht.typeIs,?_⟩
 refine HT.mL ht hs pl pu (by rw [hlen]; exact hw) ?_ (by rw [hlen]; exact hz)
 rw [hlen]
 refine⟨.ref s.heap.objs.size,_,I.laid (t':=s.toks) (o:=.tup (rY xs lo hi)) (fun b ob q=>Heap.get?_push_of_some _ q) (Nat.le_refl _) ?_,rfl,q _ (I.hok.fresh (Nat.le_refl _))⟩
 exact⟨Nat.le_trans (pC xs lo hi) hz,_,(r.drop (HT.sIx xs.length 0 lo)).take (HT.sIx xs.length xs.length hi - HT.sIx xs.length 0 lo),IsTup.new _ _⟩
def Sw (K:W.Frag):R2:=fun x y H Q=>∃ a b xs ys,x=.ref a/\y=.ref b/\SqT K H a xs/\SqT K H b ys/\xs≠[]/\xs.length+ys.length<=sizeLine /\
 (ys=[]->Q (.ref a) H)/\(ys≠[]->∀ p,H p=none->Q (.ref p) (upd H p (.tup (xs++ys))))
theorem Vals.vC {xs:List V}{us:List Value} (r:Vals xs us):us=[]↔xs=[]:=by
 cases r with
 | nil=>simp
 | cons _ _=>simp
theorem Lp:OpR X (binaryOp .Add) (Sw X.K):=by
 intro pins s σ H x y v u Q I rx ry h
 obtain⟨a,b,xs,ys,rfl,rfl,ha,hb,hx,hz,q1,q2⟩:=h
 cases rx
 cases ry
 obtain⟨its,r1,p1,_⟩:=I.tuple ha
 obtain⟨its2,r2,p2,_⟩:=I.tuple hb
 refine HT.Nm p1 p2 (fun z=>hx (r1.vC.mp z)) (fun z=>⟨.ref a,H,I,rfl,q1 (r2.vC.mp z)⟩) (fun z=>?_) (by rw [← r1.length,← r2.length]; exact hz)
 refine⟨.ref s.heap.objs.size,_,I.laid (t':=s.toks) (o:=.tup (xs++ys)) (fun b ob q=>Heap.get?_push_of_some _ q) (Nat.le_refl _) ?_,rfl,q2 (fun w=>z (r2.vC.mpr w)) _ (I.hok.fresh (Nat.le_refl _))⟩
 exact⟨by rw [List.length_append]; exact hz,_,r1.append r2,IsTup.new _ _⟩
end
def ixN (n:Nat) (i:Int):Option Nat:=if 0<=i then (if i<n then some i.toNat else none) else if -(n:Int)<=i then some (i+n).toNat else none
def atI {α:Type} (xs:List α) (i:Int):Option α:=(ixN xs.length i).bind fun j=>xs[j]?
theorem vN {n:Nat}{i:Int}{j:Nat} (h:ixN n i=some j):seqIndex? i n=some j/\j<n/\-(n:Int)<=i/\i<n:=by
 unfold ixN at h
 by_cases h0:0<=i
 ·rw [if_pos h0] at h
  by_cases h1:i<n
  ·rw [if_pos h1] at h
   have e:i.toNat=j:=Option.some.inj h
   exact⟨by rw [seqIndex_of h0 h1,e],by omega,by omega,h1⟩
  ·rw [if_neg h1] at h; cases h
 ·rw [if_neg h0] at h
  by_cases h1:-(n:Int)<=i
  ·rw [if_pos h1] at h
   have e:(i+n).toNat=j:=Option.some.inj h
   exact⟨by rw [seqIndex_neg (by omega) h1,e],by omega,h1,by omega⟩
  ·rw [if_neg h1] at h; cases h
theorem DN {α:Type}{xs:List α}{i:Int}{v:α} (h:atI xs i=some v):∃ j,seqIndex? i xs.length=some j/\xs[j]?=some v/\j<xs.length/\-(xs.length:Int)<=i/\i<xs.length:=by
 unfold atI at h
 cases e:ixN xs.length i with
 | none=>rw [e] at h; cases h
 | some j =>
  rw [e] at h
  obtain⟨h1,h2,h3,h4⟩:=vN e
  exact⟨j,h1,h,h2,h3,h4⟩
theorem iQ {α:Type}{xs:List α}{j:Nat}{v:α} (h:xs[j]?=some v):atI xs (j:Int)=some v:=by
 have hj:j<xs.length:=(List.getElem?_eq_some_iff.mp h).1
 have e:ixN xs.length (j:Int)=some j:=by
  unfold ixN
  rw [if_pos (by omega),if_pos (by omega)]; simp
 unfold atI; rw [e]; exact h
def iT (b:Expr):Prop:=∀ o i,subscripted b false o i=operate [o,i] (getItem o i)
def IxR (X:Cx) (r:R2):Prop :=
 ∀ (value slice:Expr) (pins:List (Addr×Obj)) (s:Shared) (σ:St) (H:Hp) (x y:V) (v u:Value) (Q:VK),Inv X pins σ H s->RelV x v->RelV y u->r x y H Q ->
  subscripted slice false v u=operate [v,u] (getItem v u)->wpAny (model X.prog X.w) X.A (subscriptTail value slice v u) (EP X pins σ Q) X.xe s
def MtR (X:Cx) (id:String) (r:V->List V->Hp->VK->Prop):Prop :=
 ∀ (pins:List (Addr×Obj)) (s:Shared) (σ:St) (H:Hp) (x:V) (xs:List V) (v:Value) (us:List Value) (Q:VK),Inv X pins σ H s->RelV x v->Vals xs us->r x xs H Q ->
  wpAny (model X.prog X.w) X.A (call (.builtin id) (v::us)) (EP X pins σ Q) X.xe s
section
variable {X:Cx}{a b:Expr}{ta tb:TE}{pos:Pos}
theorem IxR.or {r r':R2} (h:IxR X r) (h':IxR X r'):IxR X (fun x y H Q=>r x y H Q\/r' x y H Q):=by
 intro value slice pins s σ H x y v u Q I rx ry q hs
 rcases q with q | q
 ·exact h value slice pins s σ H x y v u Q I rx ry q hs
 ·exact h' value slice pins s σ H x y v u Q I rx ry q hs
theorem eZ {r:R2} (hr:IxR X r) (ha:PE X a ta) (hb:PE X b tb) (hs:iT b):PE X (.Subscript a b pos) (tOp r ta tb):=by
 intro pins s σ H Q I h
 exact Subscript_ (Rm ha hb I h fun v u s2 x y H2 I2 rx ry q=>hr a b pins s2 σ H2 x y v u Q I2 rx ry q (hs _ _))
def P0 (K:W.Frag):R2:=fun x y H Q=>∃ p xs i v,x=.ref p/\y=.int i/\SqL K H p xs/\atI xs i=some v/\Q v H
def Sv (K:W.Frag):R2:=fun x y H Q=>∃ p xs i v,x=.ref p/\y=.int i/\SqT K H p xs/\atI xs i=some v/\Q v H
theorem cN:IxR X (P0 X.K):=by
 intro value slice pins s σ H x y v u Q I rx ry h hs
 obtain⟨p,xs,i,z,rfl,rfl,hq,he,q⟩:=h
 cases rx
 obtain⟨t,rfl⟩:=ry
 obtain⟨its,r,pl,hz⟩:=I.list hq
 obtain⟨j,h1,h2,h3,h4,h5⟩:=DN he
 obtain⟨w,ew,rw'⟩:=r.get h2
 have hl:=r.length
 have hn:=rH
 have fin:EP X pins σ Q w s:=⟨z,H,I,rw',q⟩
 by_cases h0:0<=i
 ·have hj:i.toNat=j:=by
   rw [seqIndex_of h0 h5] at h1
   exact Option.some.inj h1
  exact item_listR pl.isList h0 (by omega) (by rw [hj]; simpa using ew) fin hs
 ·have hj:(i+(its.toArray.size:Int)).toNat=j:=by
   rw [seqIndex_neg (by omega) h4] at h1
   rw [List.size_toArray,← hl]
   exact Option.some.inj h1
  exact subscriptTail_builtinR (x:=w) pl.isList.typeIs slot_list_getitem.lookup
   (wpAny_getItem_list_neg (Q:=fun r s'=>r=w/\EP X pins σ Q r s') pl.isList (by omega) (by rw [List.size_toArray] <;> omega) (by omega) (by rw [hj]; simpa using ew) ⟨rfl,fin⟩) hs
theorem Al:IxR X (Sv X.K):=by
 intro value slice pins s σ H x y v u Q I rx ry h hs
 obtain⟨p,xs,i,z,rfl,rfl,hq,he,q⟩:=h
 cases rx
 obtain⟨t,rfl⟩:=ry
 obtain⟨its,r,pl,hz⟩:=I.tuple hq
 obtain⟨j,h1,h2,h3,h4,h5⟩:=DN he
 obtain⟨w,ew,rw'⟩:=r.get h2
 have hl:=r.length
 have hn:=rH
 have fin:EP X pins σ Q w s:=⟨z,H,I,rw',q⟩
 exact subscriptTail_builtinR (x:=w) pl.typeIs slot_tuple_getitem.lookup
  (getItem_tuple (j:=j) (Q:=fun r s'=>r=w/\EP X pins σ Q r s') pl (by omega) (by omega) (by rw [List.size_toArray,← hl]; exact h1) (by simpa using ew) ⟨rfl,fin⟩) hs
theorem Ae (its:List Value) (n j:Nat) (u:Value):Obj.mapSeq (·.setIfInBounds j u) { cls:=.type "list",data:=.seq its.toArray n }={ cls:=.type "list",data:=.seq (its.set j u).toArray n }:=by
 simp [Obj.mapSeq]
theorem Inv.lst {pins:List (Addr×Obj)}{σ:St}{H:Hp}{s:Shared}{p:Addr}{xs:List V} (I:Inv X pins σ H s) (h:H p=some (.lst xs)) :
  ∃ (its:List Value) (n:Nat),Vals xs its/\s.heap.get? p=some { cls:=.type "list",data:=.seq its.toArray n }/\xs.length<=sizeLine:=by
 obtain⟨z,its,n,r,e⟩:=I.hok p _ h
 exact⟨its,n,r,e,z⟩
theorem Inv.QG {pins:List (Addr×Obj)}{σ:St}{H:Hp}{s:Shared}{p:Addr}{xs ys:List V}{its its':List Value}{n n':Nat}{f:Obj->Obj} (I:Inv X pins σ H s) (h:H p=some (.lst xs))
  (ho:s.heap.get? p=some { cls:=.type "list",data:=.seq its.toArray n }) (hf:f { cls:=.type "list",data:=.seq its.toArray n }={ cls:=.type "list",data:=.seq its'.toArray n' }) (r:Vals ys its') (hz:ys.length<=sizeLine) (t:Nat) :
  Inv X pins σ (upd H p (.lst ys)) { s with heap:=s.heap.update p f,toks:=t }:=by
 have e:(s.heap.update p f).get? p=some { cls:=.type "list",data:=.seq its'.toArray n' }:=by
  rw [Heap.get?_update_self f ho (by rw [hf] <;> rfl),hf]
 refine I.write (x:=p) (e:=p) (by rw [h]; trivial) (.inl rfl) (fun b u hb q=>(Heap.get?_update_other _ _ (Ne.symm hb)).trans q) ⟨_,e⟩ ?_
 exact⟨hz,its',n',r,e⟩
def Sq:V->V->V->Hp->(Hp->Prop)->Prop:=fun o i v H Q=>∃ p xs k j,o=.ref p/\i=.int k/\H p=some (.lst xs)/\ixN xs.length k=some j/\Q (upd H p (.lst (xs.set j v)))
theorem set_list:Uh X Sq:=by
 intro pins s σ H o i v ov iv u Q I ro ri rv h
 obtain⟨p,xs,k,j,rfl,rfl,hp,hj,q⟩:=h
 cases ro
 obtain⟨t,rfl⟩:=ri
 obtain⟨its,n,r,ho,hz⟩:=I.lst hp
 obtain⟨h1,h2,h3,h4⟩:=vN hj
 have hl:=r.length
 have hn:=rH
 have I':Inv X pins σ (upd H p (.lst (xs.set j v))) { s with heap:=s.heap.update p (Obj.mapSeq (·.setIfInBounds j u)) } :=
  I.QG hp ho (Ae its n j u) (r.set rv j) (by rw [List.length_set]; exact hz) s.toks
 by_cases h0:0<=k
 ·have hk:k.toNat=j:=by
   rw [seqIndex_of h0 h4] at h1
   exact Option.some.inj h1
  exact W.ki_setAt ho h0 (by omega) (by rw [List.size_toArray,← hl]; exact h4) (by rw [hk]; exact⟨_,I',q⟩)
 ·have hk:(k+(its.toArray.size:Int)).toNat=j:=by
   rw [seqIndex_neg (by omega) h3] at h1
   rw [List.size_toArray,← hl]
   exact Option.some.inj h1
  exact W.ki_setBack ho (by omega) (by rw [List.size_toArray,← hl]; exact h3) (by omega) (by rw [hk]; exact⟨_,I',q⟩)
theorem uU (lo hi:Option Int) (n:Nat):(sliceBounds lo hi none n).1=((HT.sIx n 0 lo:Nat):Int)/\(sliceBounds lo hi none n).2.1=((HT.sIx n n hi:Nat):Int)/\(sliceBounds lo hi none n).2.2=1:=by
 refine⟨?_,?_,rfl⟩
 ·cases lo with
  | none=>simp [sliceBounds,HT.sIx]
  | some i =>
   simp only [sliceBounds,HT.sIx,Option.getD_none,show (1:Int) > 0 by decide,if_true]
   by_cases h:i<0
   ·simp only [h,if_true] <;> omega
   ·simp only [h,if_false] <;> omega
 ·cases hi with
  | none=>simp [sliceBounds,HT.sIx]
  | some i =>
   simp only [sliceBounds,HT.sIx,Option.getD_none,show (1:Int) > 0 by decide,if_true]
   by_cases h:i<0
   ·simp only [h,if_true] <;> omega
   ·simp only [h,if_false] <;> omega
theorem sU (its:List Value) (lo hi:Option Int):slicePick its.toArray lo hi none=((its.drop (HT.sIx its.length 0 lo)).take (HT.sIx its.length its.length hi - HT.sIx its.length 0 lo)).toArray:=by
 obtain⟨h1,h2,h3⟩:=uU lo hi its.toArray.size
 unfold slicePick
 rw [h1,h2,h3]
 simp only [sliceRange_one,pick_run,List.size_toArray] <;> rfl
def U0 (K:W.Frag):V->Option Int->Option Int->Hp->VK->Prop:=fun x lo hi H Q=>∃ a xs,x=.ref a/\SqL K H a xs/\∀ p,H p=none->Q (.ref p) (upd H p (.lst (rY xs lo hi)))
theorem BX:SlR X (U0 X.K):=by
 intro pins s σ H x v vl vu lo hi sl Q I rx hs pl pu h
 obtain⟨a,xs,rfl,hx,q⟩:=h
 cases rx
 obtain⟨its,r,ht,hz⟩:=I.list hx
 have hlen:=r.length
 refine⟨"list",_,slot_list_getitem.lookup,ht.isList.typeIs,?_⟩
 refine wpAny_getItem_list_slice ht.isList hs pl pu .none (by simp) ?_ (by rw [List.size_toArray] <;> omega)
 rw [sU,← hlen]
 refine⟨.ref s.heap.objs.size,_,I.laid (t':=s.toks) (o:=.lst (rY xs lo hi)) (fun b ob q=>Heap.get?_push_of_some _ q) (Nat.le_refl _) ?_,rfl,q _ (I.hok.fresh (Nat.le_refl _))⟩
 exact⟨Nat.le_trans (pC xs lo hi) hz,_,0,(r.drop (HT.sIx xs.length 0 lo)).take (HT.sIx xs.length xs.length hi - HT.sIx xs.length 0 lo),Heap.get?_push_size _ rfl⟩
theorem dR:bO X (.builtin "len") (fun xs H Q=>∃ p ys,xs=[.ref p]/\(SqL X.K H p ys\/SqT X.K H p ys)/\Q (.int ys.length) H):=by
 intro pins s σ H xs us Q I r h
 obtain⟨p,ys,rfl,hq,q⟩:=h
 obtain⟨u,rfl,rx⟩:=vals1 r
 cases rx
 have hn:=rH
 rcases hq with hq | hq
 ·obtain⟨its,r',pl,hz⟩:=I.list hq
  have hlen:=r'.length
  exact Calls.call_len_list pl.isList (by simp only [List.size_toArray] <;> omega) ⟨.int ys.length,H,I.tok _,⟨s.toks+1,by rw [List.size_toArray,hlen]⟩,q⟩
 ·obtain⟨its,r',pl,hz⟩:=I.tuple hq
  have hlen:=r'.length
  exact len_tuple pl (by simp only [List.size_toArray] <;> omega) ⟨.int ys.length,H,I.tok _,⟨s.toks+1,by rw [List.size_toArray,hlen]⟩,q⟩
theorem wz:bO X (.type "list") (fun xs H Q=>∃ p ys,xs=[.ref p]/\(SqL X.K H p ys\/SqT X.K H p ys)/\∀ l,H l=none->Q (.ref l) (upd H l (.lst ys))):=by
 intro pins s σ H xs us Q I r h
 obtain⟨p,ys,rfl,hq,q⟩:=h
 obtain⟨u,rfl,rx⟩:=vals1 r
 cases rx
 have fin:∀ (its:List Value),Vals ys its->ys.length<=sizeLine->∀ (h':Heap) (c':Nat),(∀ b o',s.heap.get? b=some o'->h'.get? b=some o') ->
   h'.get? s.heap.objs.size=some { cls:=.type "list",dict:=none,data:=.seq its.toArray c',slots:=#[] }->EP X pins σ Q (.ref s.heap.objs.size) { s with heap:=h' }:=fun its r' hz h' c' kp e =>
  ⟨.ref s.heap.objs.size,_,I.laid (t':=s.toks) kp (Nat.le_refl _) (show bG X.prog X.w _ h' _ (.lst ys) from ⟨hz,its,c',r',e⟩),rfl,q _ (I.hok.fresh (Nat.le_refl _))⟩
 rcases hq with hq | hq
 ·obtain⟨its,r',pl,hz⟩:=I.list hq
  have hlen:=r'.length
  obtain⟨o,ho,hc,n,hd⟩:=pl.isList
  exact call_list_seq p (.inl rfl) ho hc hd (fun h' c' kp e=>fin its r' hz h' c' kp e) (by simp only [List.size_toArray] <;> omega)
 ·obtain⟨its,r',pl,hz⟩:=I.tuple hq
  have hlen:=r'.length
  obtain⟨o,ho,hc,n,hd⟩:=pl
  exact call_list_seq p (.inr rfl) ho hc hd (fun h' c' kp e=>fin its r' hz h' c' kp e) (by simp only [List.size_toArray] <;> omega)
theorem tu:bO X (.type "tuple") (fun xs H Q=>∃ p ys,xs=[.ref p]/\((SqL X.K H p ys/\∀ l,H l=none->Q (.ref l) (upd H l (.tup ys)))\/(SqT X.K H p ys/\Q (.ref p) H))):=by
 intro pins s σ H xs us Q I r h
 obtain⟨p,ys,rfl,h⟩:=h
 obtain⟨u,rfl,rx⟩:=vals1 r
 cases rx
 rcases h with ⟨hq,q⟩ | ⟨hq,q⟩
 ·obtain⟨its,r',pl,hz⟩:=I.list hq
  have hlen:=r'.length
  refine call_tuple_list pl.isList (fun h' kp=>?_) (by simp only [List.size_toArray] <;> omega)
  have I1:Inv X pins σ H { s with heap:=h' }:=I.kept (t':=s.toks) kp
  have I2:Inv X pins σ (upd H h'.objs.size (.tup ys)) { s with heap:=h'.push { cls:=.type "tuple",data:=.seq its.toArray } } :=
   I1.laid (t':=s.toks) (fun b o e=>Heap.get?_push_of_some _ e) (Nat.le_refl _) (show bG X.prog X.w _ _ _ (.tup ys) from ⟨hz,its,r',IsTup.new _ _⟩)
  exact⟨.ref h'.objs.size,_,I2,rfl,q _ (I1.hok.fresh (Nat.le_refl _))⟩
 ·obtain⟨its,r',pl,hz⟩:=I.tuple hq
  exact call_tuple_same pl ⟨.ref p,H,I,rfl,q⟩
def tyV (K:W.Frag) (T:String) (x:V) (H:Hp):Prop:=match x with
 | .str _=>T="str"
 | .int _=>T="int"
 | .ref p=>(T="list"/\∃ xs,SqL K H p xs)\/(T="tuple"/\∃ o,K.lookup p=some o/\o.cls=.type "tuple"/\o.dict=none) ∨
   (T="dict"/\((∃ kvs,H p=some (.dK kvs))\/∃ kvs,H p=some (.dT kvs)))\/(T="set"/\∃ S n,H p=some (.set S n))
 | _=>False
theorem Gs {pins:List (Addr×Obj)}{σ:St}{H:Hp}{s:Shared}{T:String}{x:V}{v:Value} (I:Inv X pins σ H s) (r:RelV x v) (ty:tyV X.K T x H) :
  s.TypeIs v T/\∀ a,v=.ref a->∃ ob,s.heap.get? a=some ob/\ob.dict=none:=by
 cases x with
 | str z =>
  obtain⟨t,rfl⟩:=r
  cases (show T="str" from ty)
  exact⟨typeIs_str s z t,fun _ e=>nomatch e⟩
 | int i =>
  obtain⟨t,rfl⟩:=r
  cases (show T="int" from ty)
  exact⟨typeIs_int s i t,fun _ e=>nomatch e⟩
 | ref p =>
  cases r
  rcases ty with ⟨rfl,xs,hq⟩ | ⟨rfl,o,hk,hc,hd⟩ | ⟨rfl,hk⟩ | ⟨rfl,S,n,hk⟩
  ·obtain⟨its,_,pl,_⟩:=I.list hq
   refine⟨pl.isList.typeIs,fun a e=>?_⟩
   cases e
   obtain⟨o,n,e,c,hd,_⟩:=pl
   exact⟨o,e,hd⟩
  ·refine⟨⟨o,I.kIn p o hk,hc⟩,fun a e=>?_⟩
   cases e
   exact⟨o,I.kIn _ o hk,hd⟩
  ·have z:∃ o,s.heap.get? p=some o/\o.ExactDict:=by
    rcases hk with ⟨kvs,hk⟩ | ⟨kvs,hk⟩
    ·obtain⟨_,_,_,_,o,_,_,e,ex,_⟩:=I.hok p _ hk
     exact⟨o,e,ex⟩
    ·obtain⟨_,_,_,_,o,_,_,e,ex,_⟩:=I.hok p _ hk
     exact⟨o,e,ex⟩
   obtain⟨o,e,ex⟩:=z
   refine⟨⟨o,e,ex.1⟩,fun a e2=>?_⟩
   cases e2
   exact⟨o,e,ex.2.1⟩
  ·obtain⟨o,_,_,_,e,ex,_⟩:=I.hok p _ hk
   refine⟨⟨o,e,ex.1⟩,fun a e2=>?_⟩
   cases e2
   exact⟨o,e,ex.2.1⟩
 | _=>exact False.elim ty
def Pk (K:W.Frag) (T:String) (r:V->List V->Hp->VK->Prop) (to:TE):TE:=fun σ H Q=>to σ H fun x H1=>tyV K T x H1/\r x [] H1 Q
def tBM (K:W.Frag) (T:String) (r:V->List V->Hp->VK->Prop) (to:TE) (t:TA):TE:=fun σ H Q=>to σ H fun x H1=>tyV K T x H1/\t σ H1 fun xs H2=>r x xs H2 Q
variable {o e:Expr}{es:List Expr}{to:TE}{t:TA}{name:Str}{apos cpos:Pos}{T id:String}{r:V->List V->Hp->VK->Prop}
theorem Hx (pa:PlainAttrs T) (slot:Slot T name id) (hty:typeOf (.builtin id)=pure (.type "method_descriptor")) (hm:MtR X id r) (ho:PE X o to)
  (hbase:attributeBase o name X.env (eval o X.env)=eval o X.env:=by rfl) (hline:(apos.endLine == cpos.line)=true:=by rfl):PE X (.Call (.Attribute o name apos) [] [] cpos) (Pk X.K T r to):=by
 intro pins s σ H Q I h
 refine wpAny_Call_method0_late hbase hline (thn (ho pins s σ H _ I h) fun v s1 ⟨x,H1,I1,r1,ty,q1⟩=>?_)
 obtain⟨h1,h2⟩:=Gs I1 r1 ty
 exact⟨T,id,pa,slot,hty,h1,h2,Calls.callWith_builtin rfl (PySem.evalArgs_none (hm pins s1 σ H1 x [] v [] Q I1 r1 .nil q1))⟩
theorem lK (pa:PlainAttrs T) (slot:Slot T name id) (hty:typeOf (.builtin id)=pure (.type "method_descriptor")) (hm:MtR X id r) (ho:PE X o to) (ha:PA X (e::es) t)
  (hbase:attributeBase o name X.env (eval o X.env)=eval o X.env:=by rfl)
  (hfew:((backTo cpos (starEach (e::es) X.env)).all (fun x=>!x.1)&&(backToKw cpos (keywordEach [] X.env)).all (fun x=>x.1.isSome)
  &&decide ((e::es).length+([]:List Keyword).length+(if ([]:List Keyword).isEmpty then 0 else 1)<30))=true:=by rfl)
  (hline:(apos.endLine == cpos.line)=true:=by rfl) (hs:starEach (e::es) X.env=(false,eval e X.env)::starEach es X.env:=by rfl) (hplain:(backTo cpos (starEach es X.env)).any (·.1)=false:=by rfl) :
  PE X (.Call (.Attribute o name apos) (e::es) [] cpos) (tBM X.K T r to t):=by
 intro pins s σ H Q I h
 refine wpAny_Call_method_late hbase hfew hline rfl (thn (ho pins s σ H _ I h) fun v s1 ⟨x,H1,I1,r1,ty,q1⟩=>?_)
 obtain⟨h1,h2⟩:=Gs I1 r1 ty
 refine⟨T,id,pa,slot,hty,h1,h2,?_⟩
 have hA:=ha cpos pins s1 σ H1 _ I1 q1
 rw [hs] at hA ⊢
 refine Calls.callWith_builtin (by show (false || (backTo cpos (starEach es X.env)).any (·.1))=false; rw [hplain] <;> rfl) (Calls.evalArgs_plain ?_)
 exact thn hA fun us s2 ⟨vs,H2,I2,r2,q2⟩=>hm pins s2 σ H2 x vs v us Q I2 r1 r2 q2
/- xs.append(e),list.index on a module's tuple .. are MtR facts of 06m -/
end
def MtM (X:Cx) (id:String) (r:V->List V->Hp->VK->Prop):Prop :=
 ∀ (pins:List (Addr×Obj)) (s:Shared) (σ:St) (H:Hp) (x:V) (xs:List V) (v:Value) (us:List Value) (Q:VK),Inv X pins σ H s->RelV x v->Vals xs us->r x xs H Q ->
  wpAny (model X.prog X.w) X.A (call (.builtin id) (v::us)) (EP X pins σ Q) X.xe s
theorem Vals.one:∀ {x:V}{us:List Value},Vals [x] us->∃ u,us=[u]/\RelV x u
 | _,_,.cons r .nil=>⟨_,rfl,r⟩
theorem Vals.zero:∀ {us:List Value},Vals [] us->us=[]
 | _,.nil=>rfl
theorem Vals.dropLast {xs:List V}{us:List Value} (h:Vals xs us):Vals xs.dropLast us.dropLast:=by
 induction h with
 | nil=>exact .nil
 | cons r t ih =>
  cases t with
  | nil=>exact .nil
  | cons q t'=>exact .cons r ih
theorem Vals.eraseIdx:∀ {xs:List V}{us:List Value} (i:Nat),Vals xs us->Vals (xs.eraseIdx i) (us.eraseIdx i)
 | _,_,_,.nil=>.nil
 | _,_,0,.cons _ t=>t
 | _,_,i+1,.cons r t=>.cons r (Vals.eraseIdx i t)
theorem Vals.reverse {xs:List V}{us:List Value} (h:Vals xs us):Vals xs.reverse us.reverse:=by
 induction h with
 | nil=>exact .nil
 | cons r t ih=>rw [List.reverse_cons,List.reverse_cons]; exact Vals.append ih (.cons r .nil)
theorem Bc {α:Type} (l:List α):l.eraseIdx (l.length - 1)=l.dropLast:=by
 induction l with
 | nil=>rfl
 | cons a r ih =>
  cases r with
  | nil=>rfl
  | cons b r =>
   have e:(a::b::r).length - 1=((b::r).length - 1)+1:=by
    have h1:(a::b::r).length=r.length+2:=rfl
    have h2:(b::r).length=r.length+1:=rfl
    omega
   rw [e,List.eraseIdx_cons_succ,ih]
   all_goals rfl
theorem oJ {α:Type}:∀ (l:List α) (i:Nat),(l.eraseIdx i).length<=l.length
 | [],_=>Nat.le_refl _
 | _::_,0=>Nat.le_succ _
 | _::r,i+1=>Nat.succ_le_succ (oJ r i)
section
variable {X:Cx}{pins:List (Addr×Obj)}{σ:St}{H:Hp}{s:Shared}{l b:Addr}{xs ys zs:List V}
theorem Inv.IV {its its':List Value}{n:Nat}{f:Array Value->Array Value}{t':Nat} (I:Inv X pins σ H s) (hH:H l=some (.lst xs))
  (e:s.heap.get? l=some { cls:=.type "list",data:=.seq its.toArray n }) (hf:f its.toArray=its'.toArray) (hv:Vals ys its') (hz:ys.length<=sizeLine) :
  Inv X pins σ (upd H l (.lst ys)) { s with heap:=s.heap.update l (Obj.mapSeq f),toks:=t' }:=by
 have q:=PySem.IsL.update e f
 rw [hf] at q
 refine I.write (x:=l) (e:=l) (by rw [hH]; exact trivial) (.inl rfl) (fun b' u hb hu=>(Heap.get?_update_other s.heap (Obj.mapSeq f) (Ne.symm hb)).trans hu) ⟨_,q⟩ ?_
 exact⟨hz,its',_,hv,q⟩
theorem Inv.Va {its:List Value}{t':Nat} (I:Inv X pins σ H s) (hv:Vals ys its) (hz:ys.length<=sizeLine) :
  Inv X pins σ (upd H s.heap.objs.size (.lst ys)) { s with heap:=s.heap.push { cls:=.type "list",data:=.seq its.toArray },toks:=t' } :=
 I.laid (fun _ _ q=>Heap.get?_push_of_some _ q) (Nat.le_refl _) ⟨hz,its,0,hv,Heap.get?_push_size _ rfl⟩
theorem Inv.fresh (I:Inv X pins σ H s):H s.heap.objs.size=none:=I.hok.fresh (Nat.le_refl _)
theorem Inv.xW (I:Inv X pins σ H s) (hH:H l=some (.lst xs)):xs.length<=sizeLine/\∃ (its:List Value) (n:Nat),Vals xs its/\xs.length=its.length/\s.heap.get? l=some { cls:=.type "list",data:=.seq its.toArray n }:=by
 obtain⟨z,its,n,r,e⟩:=I.hok l _ hH
 exact⟨z,its,n,r,r.length,e⟩
theorem Ik {n:Nat} (h:n<=sizeLine):Builtin.List.listTooLong n=false:=by
 unfold Builtin.List.listTooLong
 exact decide_eq_false (by omega)
end
section
variable {X:Cx}
def lH:V->List V->Hp->VK->Prop:=fun x vs H Q=>∃ l xs y,x=.ref l/\vs=[y]/\H l=some (.lst xs)/\xs.length<sizeLine/\Q .non (upd H l (.lst (xs++[y])))
theorem gK:MtM X "list.append" lH:=by
 intro pins s σ H x vs v us Q I rx rv h
 obtain⟨l,xs,y,rfl,rfl,hH,hz,q⟩:=h
 cases rx
 obtain⟨u,rfl,ru⟩:=rv.one
 obtain⟨z,its,n,r,hl,e⟩:=I.xW hH
 refine call_meets F.slot_list_append ⟨_,e,rfl⟩ F.entry_list_append (F.args_list_append_2 _ _) (PySem.list_append l its.toArray n u (by rw [List.size_toArray]; omega)) ⟨e,?_⟩
 refine⟨.non,_,I.IV (its':=its++[u]) hH e (by simp) (r.append (.cons ru .nil)) ?_,rfl,q⟩
 rw [List.length_append,List.length_singleton]
 omega
def uW:V->List V->Hp->VK->Prop:=fun x vs H Q=>∃ l b xs zs,x=.ref l/\vs=[.ref b]/\H l=some (.lst xs)/\H b=some (.lst zs)/\xs.length+zs.length<=sizeLine/\Q .non (upd H l (.lst (xs++zs)))
theorem tZ:MtM X "list.extend" uW:=by
 intro pins s σ H x vs v us Q I rx rv h
 obtain⟨l,b,xs,zs,rfl,rfl,hH,hB,hz,q⟩:=h
 cases rx
 obtain⟨u,rfl,ru⟩:=rv.one
 cases ru
 obtain⟨z,its,n,r,hl,e⟩:=I.xW hH
 obtain⟨z2,its2,n2,r2,hl2,e2⟩:=I.xW hB
 have hsz:its.toArray.size+its2.toArray.size<=sizeLine:=by rw [List.size_toArray,List.size_toArray]; omega
 have hlong:¬ (!its.toArray.isEmpty&&Builtin.List.listTooLong (its.toArray.size+its2.toArray.size))=true:=by
  rw [Ik hsz,Bool.and_false]
  exact Bool.false_ne_true
 refine call_meets F.slot_list_extend ⟨_,e,rfl⟩ F.entry_list_extend (F.args_list_extend_2 _ _)
  (AutoSeq1.list_extend_list_list_0 l its.toArray n b its2.toArray n2 hlong (by rw [List.size_toArray]; omega) (by omega)) ⟨e,e2,?_⟩
 refine⟨.non,_,I.IV (its':=its++its2) hH e (by simp) (r.append r2) ?_,rfl,q⟩
 rw [List.length_append]
 omega
def PX:V->List V->Hp->VK->Prop:=fun x vs H Q=>∃ l xs y,x=.ref l/\vs=[]/\H l=some (.lst xs)/\xs[xs.length - 1]?=some y/\Q y (upd H l (.lst xs.dropLast))
theorem Iz:MtM X "list.pop" PX:=by
 intro pins s σ H x vs v us Q I rx rv h
 obtain⟨l,xs,y,rfl,rfl,hH,hy,q⟩:=h
 cases rx
 have hus:=rv.zero
 subst hus
 obtain⟨z,its,n,r,hl,e⟩:=I.xW hH
 obtain⟨u,hu,ru⟩:=r.get hy
 have hy':its.toArray[its.toArray.size - 1]?=some u:=by
  show its.toArray[its.length - 1]?=some u
  rw [← Array.getElem?_toList,← hl]
  exact hu
 refine call_meets F.slot_list_pop ⟨_,e,rfl⟩ F.entry_list_pop (F.args_list_pop_1 _) (MeetsSeq.list_pop_last l its.toArray n u hy' (by rw [List.size_toArray]; omega)) ⟨e,?_⟩
 refine⟨y,_,I.IV (its':=its.dropLast) hH e ?_ r.dropLast ?_,ru,q⟩
 ·show its.toArray.eraseIdxIfInBounds (its.toArray.size - 1)=its.dropLast.toArray
  rw [List.size_toArray,List.eraseIdxIfInBounds_toArray,Bc]
 ·rw [List.length_dropLast]
  omega
def PN:V->List V->Hp->VK->Prop:=fun x vs H Q=>∃ l xs i k y,x=.ref l/\vs=[.int i]/\H l=some (.lst xs)/\-(2 ^ 63)<=i/\i<2 ^ 63/\seqIndex? i xs.length=some k/\xs[k]?=some y/\Q y (upd H l (.lst (xs.eraseIdx k)))
theorem Iw:MtM X "list.pop" PN:=by
 intro pins s σ H x vs v us Q I rx rv h
 obtain⟨l,xs,i,k,y,rfl,rfl,hH,h1,h2,hk,hy,q⟩:=h
 cases rx
 obtain⟨u,rfl,ru⟩:=rv.one
 obtain⟨t,rfl⟩:=ru
 obtain⟨z,its,n,r,hl,e⟩:=I.xW hH
 obtain⟨w,hw,rw'⟩:=r.get hy
 refine call_meets F.slot_list_pop ⟨_,e,rfl⟩ F.entry_list_pop (F.args_list_pop_2 _ _)
  (MeetsSeq.list_pop_at l its.toArray n i t k w (fitsIndex_both h1 h2) (by rw [List.size_toArray,← hl]; exact hk) (by rw [← Array.getElem?_toList]; exact hw) (by rw [List.size_toArray]; omega)) ⟨e,?_⟩
 refine⟨y,_,I.IV (its':=its.eraseIdx k) hH e ?_ (r.eraseIdx k) ?_,rw',q⟩
 ·show its.toArray.eraseIdxIfInBounds k=(its.eraseIdx k).toArray
  rw [List.eraseIdxIfInBounds_toArray]
 ·have:=oJ xs k
  omega
def Qc:R2:=fun x y H Q=>∃ l b xs zs,x=.ref l/\y=.ref b/\H l=some (.lst xs)/\H b=some (.lst zs)/\xs.length+zs.length<=sizeLine/\∀ p,H p=none->Q (.ref p) (upd H p (.lst (xs++zs)))
theorem zV:OpR X (binaryOp .Add) Qc:=by
 intro pins s σ H x y v u Q I rx ry h
 obtain⟨l,b,xs,zs,rfl,rfl,hH,hB,hz,q⟩:=h
 cases rx
 cases ry
 obtain⟨z,its,n,r,hl,e⟩:=I.xW hH
 obtain⟨z2,its2,n2,r2,hl2,e2⟩:=I.xW hB
 refine PySem.P.add_list e e2 ?_ (by rw [List.size_toArray,List.size_toArray]; omega)
 have ea:its.toArray++its2.toArray=(its++its2).toArray:=by simp
 rw [ea]
 exact⟨.ref _,_,I.Va (t':=s.toks) (r.append r2) (by rw [List.length_append]; omega),rfl,q _ I.fresh⟩
end
section
variable {prog:Program}{w:World}{A:Around}{E:Value->Shared->Prop}{s:Shared}
end
section
variable {X:Cx}
end
end L2
namespace Att
open PySem PySem.W PySem.Calls PyProof.Rows
theorem pL {P:Params}{h:Heap}:∀ (ns:List Int) (vs:List Value),WellAll P h vs (ns.map WData.int)->IntsAre vs ns:=by
 intro ns
 induction ns with
 | nil =>
  intro vs w
  rw [List.map_nil] at w
  cases w
  exact .nil
 | cons n ns ih =>
  intro vs w
  rw [List.map_cons] at w
  cases w with
  | cons a b =>
   cases a
   exact .cons _ _ (ih _ b)
theorem Ef {l:OpenLaw}{n:Nat} (hn:l.most=some n) {P:Params}{h:Heap}{args:List WData}{vals:List Value}
  (hpre:l.row.toRowW.claim.pre args=true) (hwl:WellAll P h vals args) :
  ∃ a vs ns,vals=[Value.ref a]/\args=[WData.list (ns.map WData.int)]/\h.get? a=some { cls:=.type "list",data:=.seq vs.toArray }/\IntsAre vs ns/\ns.length<=n:=by
 have hsh:WShape.hasAll [] args [.list .int]=true:=(pre_splitW hpre).1
 have hc:l.pre.holds [] { args:=args }=true:=(pre_splitW hpre).2
 obtain⟨d,r,rfl,h1,h2⟩:=hasAllW_cons hsh
 obtain rfl:=hasAllW_nil h2
 obtain⟨xs,rfl,h3⟩:=hasW_list h1
 obtain⟨ns,rfl⟩:=items_int h3
 have hlen:ns.length<=n:=by
  unfold OpenLaw.pre at hc
  have h4:(WTm.not (.lt (.lit (.int (n:Int))) (.len (.arg 0)))).holds [] { args:=[.list (ns.map .int)] }=true:=by
   have h4:=(holds_andW hc).1
   rw [hn] at h4
   exact h4
  have h5:=condW_of h4 (w_not (w_lt w_lit (w_len_list (w_arg rfl))))
  rw [List.length_map] at h5
  refine Nat.le_of_not_lt fun q=>?_
  have q':(n:Int)<((ns.length:Nat):Int):=by omega
  first
   | (rw [decide_eq_true q'] at h5; exact absurd h5 (by decide))
   | (simp at h5; omega)
 cases hwl with
 | cons w1 w2 =>
  cases w2
  cases w1 with
  | list ho hall=>exact⟨_,_,ns,rfl,rfl,ho,pL ns _ hall,hlen⟩
theorem Ej (l:OpenLaw) (args:List WData):l.row.toRowW.claim.post args (.bool true) args=true :=
 postW_of (r:=l.row.toRowW) (X:=(true == true))
  (show WShape.has [] (.bool true) .bool=true by first | rfl | decide | simp [WShape.has,WShape.arms,WShape.armsAll])
  (show (WTm.eq .res (.lit (.bool true))).value [] { args:=args,res:=some (.bool true),after:=args }=some (.bool (true == true)) from w_eq_bool (w_res rfl) w_lit) rfl
theorem yU {l:OpenLaw}{n:Nat}{q:Program}{loose:List Str}{XP:(Str->Option Value)->Heap->Prop}{YP:World->Heap->Prop}{d:DefRec}
  (hn:l.most=some n) (hdf:d.params.defaults=[])
  (call:∀ (w:World) (s₀ s₁:Shared) (mg mb:Str->Option Value) (fa:Addr) (o:Obj) (pm cd doc:Value) (a:Addr) (vs:List Value) (ns:List Int),
   Ground q loose [] XP w s₀ mg mb s₁.heap->YP w s₁.heap ->
   s₁.heap.get? fa=some o->o.data=.func (docDef d.name d.params d.body d.scope pm cd doc)->s₁.heap.CodeRec cd d.name->mg d.name=some (.ref fa) ->
   s₁.heap.get? a=some { cls:=.type "list",data:=.seq vs.toArray }->IntsAre vs ns->ns.length<=n->s₁.gens=#[] ->
   codeAny (model l.prog w) callerA (.call (.ref fa) ⟨[.ref a],[]⟩) (fun r s'=>r=.ok (.ret (.bool true))/\OldK s₁.heap s'.heap/\s'.os=s₁.os/\AllBare s'.gens) s₁) :
  WalkO q loose XP YP l.row.toRowW d [] (fun f vs=>PySem.call f vs):=by
 intro w s₀ s₁ mg mb G Y fa o pm cd doc dV kV ho hd hcd hD hmg hg args vals as hpre hlay hrd hwl hlo
 obtain rfl:dV=.none:=Dflts.none hD hdf
 obtain rfl:kV=.none:=Dflts.noKw hD
 obtain⟨a,vs,ns,rfl,rfl,hobj,hints,hlen⟩:=Ef hn hpre hwl
 refine enter_call (codeAny_mono (call w s₀ s₁ mg mb fa o pm cd doc a vs ns G Y ho (fd_plain hd) hcd hmg hobj hints hlen hg) fun r s' hq=>?_)
 obtain⟨rfl,h2,h3,h4⟩:=hq
 exact⟨.inl ⟨.bool true,.bool true,[],rfl,fun _=>rfl,.bool true,Ej l _,fun _=>⟨List.Pairwise.nil,fun _ hm=>(nomatch hm)⟩⟩,h2,h3,h4⟩
section
variable {prog:Program}{w:World}{A:Around}{E:Value->Shared->Prop}{s:Shared}{K:Frag}
def ledger (h:Heap) (L d:Addr):List (Addr×Obj):=(List.range h.objs.size).filterMap fun a=>if a=L\/a=d then none else (h.get? a).map fun o=>(a,o)
end
end Att
namespace L2
open PySem PySem.Spec PyProof.Rows
theorem nM:∀ {vs:List Value}{ns:List Int},IntsAre vs ns->Vals (ns.map V.int) vs
 | _,_,.nil=>.nil
 | _,_,.cons n t h=>.cons ⟨t,rfl⟩ (nM h)
def Only (H:Hp):Prop:=∀ b,H b=none\/∃ o xs,H b=some (.frz o (.lst xs))
theorem Jf {P:Program}{w:World}{K:W.Frag}{mg mb:Str->Option Value}{CX:CXT}{k:Nat}{fa a:Addr}{fd:FuncData}{x:Str}{sp:Sp}{s₁:Shared}{vs:List Value}{ns:List Int}
  (KX:K.In s₁.heap) (hns:s₁.heap.Ns mainGlobals mg) (hb:s₁.heap.Ns builtinsNs mb) (hbb:∀ x:Str,x≠"__name__"->mb x=bootBuiltins x) (hlim:s₁.heap.NoLimit) (hg:s₁.gens=#[])
  (ha:s₁.heap.get? a=some { cls:=.type "list",data:=.seq vs.toArray }) (hi:IntsAre vs ns) (hl:ns.length<=sizeLine) (hr:Room k callerA)
  (F:∀ base:Heap,K.In base->base.Ns mainGlobals mg->FnOk P w K mg base CX k fa fd [x] sp) (hbind:∀ (s:Shared) (u:Value),BindsTo s fd ⟨[u],[]⟩ [(x,u)])
  (hsp:∀ H:Hp,Only H->SqL K H a (ns.map V.int)->sp [.ref a] H (fun v _=>v=.bl true) fun _ _ _=>False)
  (hCX:∀ H e s',CX [] H s₁ (fun _ _ _=>False) e s'->False) :
  codeAny (model P w) callerA (.call (.ref fa) ⟨[.ref a],[]⟩) (fun r s'=>r=.ok (.ret (.bool true))/\OldK s₁.heap s'.heap/\s'.os=s₁.os/\AllBare s'.gens) s₁:=by
 have rv:=nM hi
 have lenV:=hi.length
 -- from an abstract heap in which nothing but the script may be tracked
 have core:∀ H:Hp,Only H->SqL K H a (ns.map V.int)->HOk P w H s₁.heap->(∀ b,H b≠none->b=a)->(H a≠none->K.lookup a=none) ->
   codeAny (model P w) callerA (.call (.ref fa) ⟨[.ref a],[]⟩) (fun r s'=>r=.ok (.ret (.bool true))/\OldK s₁.heap s'.heap/\s'.os=s₁.os/\AllBare s'.gens) s₁:=by
  intro H hO hS hok hA hK
  have base_of:∀ {b:Addr}{o:Obj},s₁.heap.get? b=some o->H b=none->(vO s₁.heap H).get? b=some o:=fun e n=>Jj e n
  have noA:∀ {b:Addr}{o:Obj}{es:Array DictEntry}{ep:Nat},s₁.heap.get? b=some o->o.data=.dict es ep->H b=none:=fun {b o es ep} e d=>by
   cases q:H b with
   | none=>rfl
   | some u =>
    have e':b=a:=hA b (by rw [q]; simp)
    subst e'
    rw [ha] at e; cases e
    have d':Data.seq vs.toArray _=Data.dict es ep:=d
    cases d'
  have nsK:∀ {b:Addr}{m:Str->Option Value},s₁.heap.Ns b m->(vO s₁.heap H).Ns b m:=fun {b m} ⟨o,es,ep,e,d,r⟩=>⟨o,es,ep,base_of e (noA e d),d,r⟩
  have hKb:K.In (vO s₁.heap H):=fun b o e=>base_of (KX b o e) (by
   cases q:H b with
   | none=>rfl
   | some u =>
    have e':b=a:=hA b (by rw [q]; simp)
    subst e'
    rw [hK (by rw [q]; simp)] at e; cases e)
  have hM:Mod K mg (vO s₁.heap H):=⟨hKb,nsK hns,⟨mb,nsK hb,hbb⟩,let ⟨mc,h1,h2⟩:=hlim; ⟨mc,nsK h1,h2⟩⟩
  have e0:Env0 P w K mg (vO s₁.heap H) callerA [] s₁ H:=⟨rfl,hM,fun b o e=>Lz e,Nat.le_of_eq (Fq _ _),trivial,fun b hb=>absurd (show b∈([]:List Addr) from hb) (by simp),hok,.of_eq hg⟩
  refine codeAny_mono ((F _ hKb (nsK hns)).run callerA [] s₁ H ⟨[.ref a],[]⟩ [.ref a] [.ref a] _ _ hr e0 (hbind s₁ (.ref a)) (.cons rfl .nil) (hsp H hO hS)) fun r s' h=>?_
  cases r with
  | error e=>exact (hCX H e s' h).elim
  | ok fl =>
   cases fl with
   | next=>exact False.elim h
   | brk=>exact False.elim h
   | cont=>exact False.elim h
   | ret u =>
    obtain⟨v,H',os,bare,un,hok',r',q⟩:=h
    have q':v=.bl true:=q
    subst q'
    obtain rfl:u=Value.bool true:=r'
    refine⟨rfl,OldK.of_keep fun b o e=>?_,os,bare⟩
    cases q:H b with
    | none=>exact un.keep b o e q (by intro z; exact absurd (show b∈([]:List Addr) from z) (by simp)) (by simp)
    | some u =>
     rcases hO b with z | ⟨ob,xs,z⟩
     ·rw [q] at z; cases z
     ·have z2:=un.frzs b ob _ z
      obtain⟨e1,_⟩:=hok b _ z
      obtain⟨e2,_⟩:=hok' b _ z2
      rw [e] at e1; cases e1
      exact e2
 cases hk:K.lookup a with
 | some o =>
  -- the script is one of the module's own objects
  have e:=KX a o hk
  rw [ha] at e
  cases e
  refine core (fun _=>none) (fun _=>.inl rfl) (.inr ⟨_,vs.toArray,_,hk,rfl,rfl,rfl,by rw [List.size_toArray,lenV]; exact hl,by simpa using rv⟩) (fun b u z=>by have z':(none:Option HO)=some u:=z; cases z') (fun b z=>absurd rfl z) fun z=>absurd rfl z
 | none =>
  refine core (fun b=>if b=a then some (.frz { cls:=.type "list",data:=.seq vs.toArray } (.lst (ns.map V.int))) else none) (fun b=>?_) (.inl (.inr ⟨{ cls:=.type "list",data:=.seq vs.toArray },if_pos rfl⟩)) (fun b u z=>?_) (fun b z=>?_) fun _=>hk
  ·by_cases hb:b=a
   ·exact .inr ⟨_,_,if_pos hb⟩
   ·exact .inl (if_neg hb)
  ·by_cases hb:b=a
   ·have z':=(if_pos hb).symm.trans z
    cases z'
    subst hb
    exact⟨ha,by rw [List.length_map]; exact hl,vs,_,rv,ha⟩
   ·have z':=(if_neg hb).symm.trans z
    cases z'
  ·by_cases hb:b=a
   ·exact hb
   ·exact absurd (if_neg hb) z
theorem Ks {l:W.OpenLaw}{n k:Nat}{q:Program}{loose:List Str}{XP:(Str->Option Value)->Heap->Prop}{YP:World->Heap->Prop}{d:DefRec}{K:Params->W.Frag}{CX:World->CXT}{sp:World->Sp}{x:Str}
  (hn:l.most=some n) (hn2:n<=sizeLine) (hdf:d.params.defaults=[]) (hr:Room k callerA)
  (hY:∀ (w:World) (h:Heap),YP w h->(K w.params).In h)
  (F:∀ (w:World) (mg:Str->Option Value) (fa:Addr) (h:Heap),(K w.params).In h->h.Ns mainGlobals mg->mg d.name=some (.ref fa) ->
   ∃ fd:FuncData,(∀ (s:Shared) (u:Value),BindsTo s fd ⟨[u],[]⟩ [(x,u)]) /\
    ∀ base:Heap,(K w.params).In base->base.Ns mainGlobals mg->FnOk l.prog w (K w.params) mg base (CX w) k fa fd [x] (sp w))
  (hsp:∀ (w:World) (H:Hp) (a:Addr) (ns:List Int),ns.length<=n->Only H->SqL (K w.params) H a (ns.map V.int)->sp w [.ref a] H (fun v _=>v=.bl true) fun _ _ _=>False)
  (hCX:∀ (w:World) (H:Hp) (s:Shared) (e:Value) (s':Shared),CX w [] H s (fun _ _ _=>False) e s'->False) :
  W.WalkO q loose XP YP l.row.toRowW d [] (fun f vs=>PySem.call f vs):=by
 refine Att.yU hn hdf fun w s₀ s₁ mg mb fa o pm cd doc a vs ns G Y ho hd hcd hmg hobj hints hlen hg=>?_
 have KX:=hY w _ Y
 obtain⟨fd,hb,hF⟩:=F w mg fa _ KX G.T.g hmg
 exact Jf KX G.T.g G.T.b G.T.builtins G.T.nolimit hg hobj hints (Nat.le_trans hlen hn2) hr hF hb (fun H hO hS=>hsp w H a ns hlen hO hS) fun H e s'=>hCX w H s₁ e s'
def jP (s:Stmt):Arguments:=match s with
 | .FunctionDef _ a _ _ _ _ _ _ _ _=>a
 | _=>{ posonlyargs:=[],args:=[],vararg:=none,kwonlyargs:=[],kw_defaults:=[],kwarg:=none,defaults:=[] }
def fD (s:Stmt):List Stmt:=match s with
 | .FunctionDef _ _ b _ _ _ _ _ _ _=>b
 | _=>[]
def aq (s:Stmt):Scope:=match s with
 | .FunctionDef _ _ _ _ _ _ sc _ _ _=>sc
 | _=>{ kind:=.function,names:=[],isGenerator:=false,isCoroutine:=false }
abbrev CX0:CXT:=fun _ _ _ _ _ _=>False
abbrev E0:XK:=fun _ _ _=>False
theorem S8 {X:Cx}:Passes CX0 X E0:=fun _ _ _ _ _ _ _ h=>h.elim
structure Fun (K:W.Frag) (x qual:Str) (st:Stmt) (f:Addr) (fd:FuncData):Prop where
 ex:∃ (oc:Value) (od:Option Addr) (kV doc pm:Value) (an:Option Addr) (cdv ct:Value) (osl:Array (Option Value)),
  fd=W.fnOf x qual (jP st) (fD st) (aq st) .none kV doc pm an cdv ct/\K.lookup f=some ⟨oc,od,.func fd,osl⟩/\W.codeIn K cdv qual=true
 kp:W.keepIn K (.ref f)=true
section
variable {P:Program}{w:World}{K:W.Frag}{mg:Str->Option Value}{base:Heap}
theorem Fun.ok {x qual:Str}{st:Stmt}{f:Addr}{fd:FuncData}{N ps:List Str}{k:Nat}{sp:Sp} (F:Fun K x qual st f fd) (S:FnScope N ps (aq st)) (len:∀ vs H Q E,sp vs H Q E->vs.length=ps.length)
  (hbody:∀ (cdv:Value) (A:Around) (outer:List Env) (s:Shared) (H:Hp) (vs:List V) (Q:VK) (E:XK),Room k (A.deeper (envOfC qual (aq st) s.heap.objs.size f cdv))->sp vs H Q E ->
   ∃ t,PSs (wg CX0 P w K mg base N qual (aq st) f cdv A outer s H E).nox (fD st) t/\t { nx:=fun _ H'=>Q .non H',rt:=Q } (start N vs) H):FnOk P w K mg base CX0 (k+1) f fd ps sp:=by
 obtain⟨oc,od,kV,doc,pm,an,cdv,ct,osl,rfl,lk,hcd⟩:=F.ex
 refine Og lk hcd S len fun A outer s H vs Q E hr hsp=>?_
 obtain⟨t,h,q⟩:=hbody cdv A outer s H vs Q E hr hsp
 exact⟨t,h.nox,q⟩
theorem Fun.binds {x qual:Str}{st:Stmt}{f:Addr}{fd:FuncData}{ps:List Str} (F:Fun K x qual st f fd)
  (h:∀ (kV doc pm:Value) (an:Option Addr) (cdv ct:Value) (us:List Value),us.length=ps.length->bindArgs (W.fnOf x qual (jP st) (fD st) (aq st) .none kV doc pm an cdv ct) ⟨us,[]⟩=pure (ps.zip us):=by intro _ _ _ _ _ _ us hl; first | (obtain⟨_,rfl⟩:=Nf.len1 us hl; rfl) | (obtain⟨_,_,rfl⟩:=Nf.len2 us hl; rfl) | (obtain⟨_,_,_,rfl⟩:=Nf.Vb us hl; rfl)):Binds K fd ps []:=by
 obtain⟨oc,od,kV,doc,pm,an,cdv,ct,osl,rfl,lk,hcd⟩:=F.ex
 exact .all (h kV doc pm an cdv ct)
theorem aV {x qual:Str}{st:Stmt}{f:Addr}{oc:Value}{od an:Option Addr}{osl:Array (Option Value)}{kV doc pm cdv ct:Value} (l:K.lookup f=some ⟨oc,od,.func (W.fnOf x qual (jP st) (fD st) (aq st) .none kV doc pm an cdv ct),osl⟩)
  (c:W.codeIn K cdv qual=true) (k:W.keepIn K (.ref f)=true):Fun K x qual st f (W.fnOf x qual (jP st) (fD st) (aq st) .none kV doc pm an cdv ct):=⟨⟨oc,od,kV,doc,pm,an,cdv,ct,osl,rfl,l,c⟩,k⟩
end
section
variable {X:Cx}
theorem pv (i:Nat) {x:Str}{pos:Pos} (hN:X.N[i]?=some x:=by rfl) (hv:Vis X.env.scope x:=by first | exact Or.inl rfl | exact Or.inr (Or.inl rfl) | exact Or.inr (Or.inr rfl)) (hd:(x == ("__debug__":Str))=false:=by decide)
  (hcd:(x == ("__classdict__":Str))=false:=by decide):PE X (.Name x pos) (j7 i):=Qk hN hv hd hcd
end
theorem bR {A B:Prop} (h:B):if false=true then A else B:=by
 rw [if_neg Bool.false_ne_true]
 exact h
theorem bQ {A B:Prop} (h:A):if true=true then A else B:=by
 rw [if_pos rfl]
 exact h
theorem dM {c A B:Prop} [Decidable c] (h1:c->A) (h2:¬ c->B):if c then A else B:=by
 by_cases h:c
 ·rw [if_pos h]
  exact h1 h
 ·rw [if_neg h]
  exact h2 h
def Same (H H':Hp):Prop:=∀ b o,H b=some o->H' b=some o
theorem Same.refl (H:Hp):Same H H:=fun _ _ h=>h
theorem Same.trans {H H1 H2:Hp} (a:Same H H1) (b:Same H1 H2):Same H H2:=fun c o h=>b c o (a c o h)
structure CB where
 cl:List (Str×Addr)
 C:Addr
 s:Shared
 H:Hp
 ex:List Addr
abbrev Cx.bY (X:Cx) (own M:List Str) (scope:Scope) (c:CB):Cx where
 prog:=X.prog
 w:=X.w
 K:=X.K
 mg:=X.mg
 base:=X.base
 A:=X.A
 N:=own++M
 s₀:=c.s
 H₀:=c.H
 env:=compEnvC scope c.cl c.C X.env
 outer:=X.stack
 stack:=X.stack
 ex:=c.ex
 fn:=fun x=>scope.names.lookup x == some .cell
 calm:=X.calm
 pn:=[]
 sf:=X.sf
 xe:=fun _ _=>False
abbrev Cx.comp (X:Cx) (own:List Str) (scope:Scope) (c:CB):Cx:=X.bY own X.N scope c
def dD (cells:List (Str×Addr)):List (Str×NameKind)->List (Str×Addr)->List (Str×Addr)
 | [],acc=>acc
 | (n,k)::r,acc=>if k == .free then dD cells r ((n,(cells.lookup n).getD 0)::acc) else dD cells r acc
theorem iM {env:Env}:∀ (names:List (Str×NameKind)) (acc:List (Str×Addr)),(∀ x∈names,x.2=.free->∃ c,env.cells.lookup x.1=some c) ->
  (forIn names acc fun (p:Str×NameKind) (r:List (Str×Addr))=>match p with
   | (name,kind)=>if (kind == NameKind.free)=true then do let a ← cellOf env name; pure (ForInStep.yield ((name,a)::r)) else pure (ForInStep.yield r):Sem (List (Str×Addr)))=pure (dD env.cells names acc)
 | [],acc,_=>by simp [dD]
 | (n,k)::r,acc,h=>by
  rw [List.forIn_cons]
  by_cases hk:(k == NameKind.free)=true
  ·obtain⟨c,hc⟩:=h (n,k) List.mem_cons_self (by simpa using hk)
   have e:cellOf env n=pure c:=by unfold cellOf; rw [hc]
   have ih:=iM (env:=env) r ((n,c)::acc) fun x hx=>h x (List.mem_cons_of_mem _ hx)
   show ((if (k == NameKind.free)=true then do let a ← cellOf env n; pure (ForInStep.yield ((n,a)::acc)) else pure (ForInStep.yield acc)) >>= _:Sem _)=_
   rw [if_pos hk,e]
   unfold dD
   rw [if_pos hk,hc]
   exact ih
  ·have ih:=iM (env:=env) r acc fun x hx=>h x (List.mem_cons_of_mem _ hx)
   show ((if (k == NameKind.free)=true then do let a ← cellOf env n; pure (ForInStep.yield ((n,a)::acc)) else pure (ForInStep.yield acc)) >>= _:Sem _)=_
   rw [if_neg hk]
   unfold dD
   rw [if_neg hk]
   exact ih
theorem Bp {scope:Scope}{env:Env} (h:∀ x∈scope.names,x.2=.free->∃ c,env.cells.lookup x.1=some c):closureFor scope env=pure (dD env.cells scope.names []):=by
 have e:=iM (env:=env) scope.names [] h
 unfold closureFor
 show (forIn scope.names [] _ >>= fun cs=>pure cs:Sem _)=_
 have e2:(forIn scope.names ([]:List (Str×Addr)) fun (p:Str×NameKind) (r:List (Str×Addr))=>match p with
   | (name,kind)=>if (kind == NameKind.free)=true then do let a ← cellOf env name; pure (ForInStep.yield ((name,a)::r)) else pure (ForInStep.yield r):Sem (List (Str×Addr)))=pure (dD env.cells scope.names []):=e
 rw [e2]
 rfl
theorem nA {cells:List (Str×Addr)}{x:Str}{c:Addr}:∀ {names:List (Str×NameKind)}{acc:List (Str×Addr)},(dD cells names acc).lookup x=some c->acc.lookup x=some c\/((x,NameKind.free)∈names/\c=(cells.lookup x).getD 0)
 | [],acc,h=>.inl h
 | (n,k)::r,acc,h=>by
  unfold dD at h
  by_cases hk:(k == NameKind.free)=true
  ·rw [if_pos hk] at h
   have hk':k=.free:=by simpa using hk
   rcases nA h with q | ⟨q1,q2⟩
   ·rw [List.lookup_cons] at q
    cases hx:x == n with
    | true =>
     rw [hx] at q
     have e:x=n:=by simpa using hx
     subst e hk'
     exact .inr ⟨List.mem_cons_self,(Option.some.inj q).symm⟩
    | false=>rw [hx] at q; exact .inl q
   ·exact .inr ⟨List.mem_cons_of_mem _ q1,q2⟩
  ·rw [if_neg hk] at h
   rcases nA h with q | ⟨q1,q2⟩
   ·exact .inl q
   ·exact .inr ⟨List.mem_cons_of_mem _ q1,q2⟩
theorem sI {cells:List (Str×Addr)}{x:Str}:∀ {names:List (Str×NameKind)}{acc:List (Str×Addr)},(acc.lookup x).isSome=true->((dD cells names acc).lookup x).isSome=true
 | [],_,h=>h
 | (n,k)::r,acc,h=>by
  unfold dD
  split
  ·refine sI ?_
   rw [List.lookup_cons]
   cases hx:x == n <;> simp [h]
  ·exact sI h
theorem jz {cells:List (Str×Addr)}{x:Str}:∀ {names:List (Str×NameKind)}{acc:List (Str×Addr)},(x,NameKind.free)∈names->((dD cells names acc).lookup x).isSome=true
 | (n,k)::r,acc,h=>by
  unfold dD
  rcases List.mem_cons.mp h with e | h
  ·cases e
   rw [if_pos (by rfl)]
   exact sI (by simp [List.lookup_cons])
  ·split
   ·exact jz h
   ·exact jz h
def dh (env:Env) (scope:Scope) (N:List Str):Bool :=
 (scope.kind == .function)&&scope.names.all fun y=>match y.2 with
  | .local=>!(N.contains y.1)&&(scope.names.lookup y.1 == some .local)
  | .cell=>!(N.contains y.1)&&(scope.names.lookup y.1 == some .cell)
  | .free=>(scope.names.lookup y.1 == some .free)&&(env.kindOf y.1 == some .cell || env.kindOf y.1 == some .free)
  | _=>true
theorem dz {env:Env}:∀ {names:List (Str×NameKind)}{x:Str}{q:NameKind},(names.map fun (n,k)=>if (k == NameKind.free&&env.scope.kind == .function&&env.kindOf n == some .cell) then (n,NameKind.cell) else (n,k)).lookup x=some q ->
  ∃ k,(x,k)∈names/\names.lookup x=some k/\(q=k\/(q=.cell/\k=.free))
 | [],_,_,h=>by simp at h
 | (n,k)::r,x,q,h=>by
  have ih:=@dz env r x q
  have h':List.lookup x ((if (k == NameKind.free&&env.scope.kind == .function&&env.kindOf n == some .cell)=true then (n,NameKind.cell) else (n,k))::(r.map fun (n,k)=>if (k == NameKind.free&&env.scope.kind == .function&&env.kindOf n == some .cell) then (n,NameKind.cell) else (n,k)))=some q:=h
  by_cases hc:(k == NameKind.free&&env.scope.kind == .function&&env.kindOf n == some .cell)=true
  ·rw [if_pos hc,List.lookup_cons] at h'
   cases hx:x == n with
   | true =>
    rw [hx] at h'
    have e:x=n:=by simpa using hx
    subst e
    have hk:k=.free:=by simp at hc; exact hc.1.1
    exact⟨k,List.mem_cons_self,by simp [List.lookup_cons],.inr ⟨(Option.some.inj h').symm,hk⟩⟩
   | false =>
    rw [hx] at h'
    obtain⟨k',h1,h2,h3⟩:=ih h'
    exact⟨k',List.mem_cons_of_mem _ h1,by rw [List.lookup_cons,hx]; exact h2,h3⟩
  ·rw [if_neg hc,List.lookup_cons] at h'
   cases hx:x == n with
   | true =>
    rw [hx] at h'
    have e:x=n:=by simpa using hx
    subst e
    exact⟨k,List.mem_cons_self,by simp [List.lookup_cons],.inl (Option.some.inj h').symm⟩
   | false =>
    rw [hx] at h'
    obtain⟨k',h1,h2,h3⟩:=ih h'
    exact⟨k',List.mem_cons_of_mem _ h1,by rw [List.lookup_cons,hx]; exact h2,h3⟩
theorem HOk.track {P:Program}{w:World}{H:Hp}{h:Heap}{a:Addr}{o:HO} (x:HOk P w H h) (hn:H a=none) (new:bG P w (upd H a o) h a o):HOk P w (upd H a o) h:=fun b u e=>by
 by_cases hb:b=a
 ·subst hb; rw [aB] at e; cases e; exact new
 ·rw [au hb] at e
  exact (x b u e).stay (fun c v _ q=>q) (fun c q=>by rw [au (aD q hn)]; exact q) fun c xs q=>by rw [au (aD q hn)]; exact q
theorem FP {prog:Program}{w:World}{A:Around}{s:Shared}{elt target iter:Expr}{ifs:List Expr}{scope:Scope}{pos:Pos}{it acc:Value}{env:Env}{R:Result->Shared->Prop} (I:Nat->Shared->Prop)
  (turn:∀ n s,I n s->wpAny (model prog w) A (pyNext it) (fun r s₁=>match r with
   | none=>R (.ok .next) s₁
   | some v=>wpAny (model prog w) A (letOwnedTupleGo target it v) (fun _ s₀=>wpAny (model prog w) A (assign target env v) (fun _ s₂ =>
     wpAny (model prog w) A (forIn ifs true fun c r=>if r=true then do let ok ← isTrue c env (eval c env); pure (ForInStep.yield ok) else pure (ForInStep.yield r)) (fun ok s₃ =>
      if ok=true then wpAny (model prog w) A (eval elt env) (fun x s₄ =>
       wpAny (model prog w) A (call (.builtin "list.append") [acc,x]) (fun _ s₅=>∃ m,m<n/\I m s₅) (fun _ _=>False) s₄) (fun _ _=>False) s₃
      else ∃ m,m<n/\I m s₃) (fun _ _=>False) s₂) (fun _ _=>False) s₀) (fun _ _=>False) s₁) (fun _ _=>False) s)
  (n:Nat) (h:I n s):codeAny (model prog w) A (.compLoop (.ListComp elt [⟨target,iter,ifs,0⟩] scope pos) 0 it acc env) R s:=by
 refine codeAny_loop rfl I (fun n s hI=>?_) n h
 show wpAny _ A ((compTurn (.ListComp elt [⟨target,iter,ifs,0⟩] scope pos) 0 it acc env).onRaise (fun x=>do noteFrame x env; theTreesLotGoes x)) _ _ s
 refine wpAny_noted ?_
 rw [compTurn_list]
 refine wpAny_bind (wpAny_standAt (wpAny_bind (wpAny_mono (turn n s hI) (fun r s₁ h₁=>?_) fun _ _ h'=>h'.elim)))
 cases r with
 | none=>exact wpAny_pure h₁
 | some v =>
  refine wpAny_bind (wpAny_mono h₁ (fun _ s₀ h₀'=>?_) fun _ _ h'=>h'.elim)
  refine wpAny_bind (wpAny_mono h₀' (fun _ s₂ h₂=>wpAny_bind (wpAny_mono h₂ (fun ok s₃ h₃=>?_) fun _ _ h'=>h'.elim)) fun _ _ h'=>h'.elim)
  cases ok with
  | false=>exact wpAny_pure ⟨rfl,h₃⟩
  | true =>
   exact wpAny_bind (wpAny_bind (wpAny_mono h₃ (fun x s₄ h₄=>wpAny_bind (wpAny_mono h₄ (fun _ s₅ h₅=>wpAny_pure (wpAny_pure ⟨rfl,h₅⟩)) fun _ _ h'=>h'.elim)) fun _ _ h'=>h'.elim))
def PTs (X:Cx) (ifs:List Expr) (t:TT):Prop :=
 ∀ (pins:List (Addr×Obj)) (s:Shared) (σ:St) (H:Hp) (Q:Bool->Hp->Prop),Inv X pins σ H s->t σ H Q ->
  wpAny (model X.prog X.w) X.A (forIn ifs true fun c r=>if r=true then do let ok ← isTrue c X.env (eval c X.env); pure (ForInStep.yield ok) else pure (ForInStep.yield r)) (TP X pins σ Q) X.xe s
theorem Cr {X:Cx}:PTs X [] (fun _ H Q=>Q true H):=fun _ _ _ H _ I h=>wpAny_tests_nil ⟨H,I,h⟩
theorem Cq {X:Cx}{c:Expr}{t:TT} (hc:PT X c t):PTs X [c] t:=fun pins s σ H Q I h=>wpAny_tests_one (hc pins s σ H Q I h)
def Km (J:It) (n:Nat) (g:CB->TG) (tt:CB->TT) (te:CB->TE) (σ:St) (Q:VK) (H:Hp):Prop:=∃ W:Nat->Nat->List V->Hp->Prop,(∃ m,W 0 m [] H)/\∀ (c:CB) i m ys H,W i m ys H ->
 (J.stop i H/\∀ p,H p=none->Q (.ref p) (upd H p (.lst ys))) ∨
 (J.go i H/\ys.length<sizeLine/\∃ N:List V->Hp->Prop,(∀ ys' H',N ys' H'->∃ m',m'<m/\W (i+1) m' ys' H')/\∀ x H',J.yld i H x H'->g c x (List.replicate n none++σ) H' fun σ2 H2=>tt c σ2 H2 fun b H3 =>
  if b=true then te c σ2 H3 fun v H4=>N (ys++[v]) H4 else N ys H3)
def tLC (n:Nat) (wi:TI) (g:CB->TG) (tt:CB->TT) (te:CB->TE):TE:=fun σ H Q=>wi σ H fun J H1=>Km J n g tt te σ Q H1
section
variable {X:Cx}{own:List Str}{scope:Scope}{tg iter elt:Expr}{ifs:List Expr}{pos:Pos}{wi:TI}{g:CB->TG}{tt:CB->TT}{te:CB->TE}
def bK (env:Env) (scope:Scope) (N M:List Str):Bool :=
 dh env scope M&&((N.length == M.length)&&(N.zip M).all fun y=>y.1 == y.2 || ((y.2 == ("":Str))&&scope.names.all fun z=>!(z.1 == ("":Str))))
theorem su {env:Env}{N:List Str} (h:dh env scope N=true):bK env scope N N=true:=by
 unfold bK
 rw [h,Bool.true_and,beq_self_eq_true,Bool.true_and,List.all_eq_true]
 rintro ⟨a,b⟩ hy
 obtain⟨i,hi,e⟩:=List.mem_iff_getElem.mp hy
 rw [List.getElem_zip] at e
 cases e
 simp
variable {M:List Str}
theorem fG (h:bK X.env scope X.N M=true):scope.kind=.function:=by
 unfold bK dh at h
 simp only [Bool.and_eq_true,beq_iff_eq] at h
 exact h.1.1
theorem cG (h:bK X.env scope X.N M=true):∀ y∈scope.names,(y.2=.local->y.1∉M/\scope.names.lookup y.1=some .local)/\(y.2=.cell->y.1∉M/\scope.names.lookup y.1=some .cell)/\(y.2=.free->scope.names.lookup y.1=some .free/\(X.env.kindOf y.1=some .cell\/X.env.kindOf y.1=some .free)):=by
 unfold bK at h
 rw [Bool.and_eq_true] at h
 have h:=h.1
 unfold dh at h
 rw [Bool.and_eq_true,List.all_eq_true] at h
 intro y hy
 have q:=h.2 y hy
 obtain⟨n,k⟩:=y
 cases k with
 | «local»=>simp at q ⊢; exact q
 | cell=>simp at q ⊢; exact q
 | free=>simp at q ⊢; exact q
 | globalExplicit=>simp
 | globalImplicit=>simp
theorem bN:∀ (names:List (Str×NameKind)) (n:Nat) (acc:List (Str×Addr)),cellsFrom n names acc=cellsFrom n names []++acc
 | [],_,_=>rfl
 | (nm,k)::r,n,acc=>by
  show (if (k == NameKind.cell)=true then cellsFrom (n+1) r ((nm,n)::acc) else cellsFrom n r acc)=(if (k == NameKind.cell)=true then cellsFrom (n+1) r [(nm,n)] else cellsFrom n r [])++acc
  split
  ·rw [bN r (n+1) ((nm,n)::acc),bN r (n+1) [(nm,n)],List.append_assoc]
   rfl
  ·exact bN r n acc
theorem fK:∀ (names:List (Str×NameKind)) (n:Nat) (x:Str) (c:Addr),(x,c)∈cellsFrom n names []->(x,NameKind.cell)∈names/\n<=c
 | [],_,_,_,h=>nomatch h
 | (nm,k)::r,n,x,c,h=>by
  have h:(x,c)∈(if (k == NameKind.cell)=true then cellsFrom (n+1) r [(nm,n)] else cellsFrom n r []):=h
  split at h
  ·rename_i hk
   rw [bN] at h
   rcases List.mem_append.mp h with z | z
   ·obtain⟨h1,h2⟩:=fK r (n+1) x c z
    exact⟨List.mem_cons_of_mem _ h1,by omega⟩
   ·have z:(x,c)=(nm,n):=by simpa using z
    cases z
    have hk:k=.cell:=by simpa using hk
    subst hk
    exact⟨List.mem_cons_self,Nat.le_refl _⟩
  ·obtain⟨h1,h2⟩:=fK r n x c h
   exact⟨List.mem_cons_of_mem _ h1,h2⟩
theorem oV:∀ (names:List (Str×NameKind)) (n:Nat) (x y:Str) (c:Addr),(x,c)∈cellsFrom n names []->(y,c)∈cellsFrom n names []->x=y
 | [],_,_,_,_,h,_=>nomatch h
 | (nm,k)::r,n,x,y,c,h,h'=>by
  have h:(x,c)∈(if (k == NameKind.cell)=true then cellsFrom (n+1) r [(nm,n)] else cellsFrom n r []):=h
  have h':(y,c)∈(if (k == NameKind.cell)=true then cellsFrom (n+1) r [(nm,n)] else cellsFrom n r []):=h'
  by_cases hk:(k == NameKind.cell)=true
  ·rw [if_pos hk,bN] at h h'
   rcases List.mem_append.mp h with z | z <;> rcases List.mem_append.mp h' with z' | z'
   ·exact oV r (n+1) x y c z z'
   ·have:=(fK r (n+1) x c z).2
    have z':(y,c)=(nm,n):=by simpa using z'
    cases z'
    exact absurd this (Nat.not_succ_le_self _)
   ·have:=(fK r (n+1) y c z').2
    have z:(x,c)=(nm,n):=by simpa using z
    cases z
    exact absurd this (Nat.not_succ_le_self _)
   ·have z:(x,c)=(nm,n):=by simpa using z
    have z':(y,c)=(nm,n):=by simpa using z'
    cases z
    cases z'
    rfl
  ·rw [if_neg hk] at h h'
   exact oV r n x y c h h'
theorem jE:∀ (names:List (Str×NameKind)) (h:Heap) (b:Addr) (o:Obj),h.get? b=some o->(pushCells h names).get? b=some o
 | [],_,_,_,e=>e
 | (nm,k)::r,h,b,o,e=>by
  show (if (k == NameKind.cell)=true then pushCells (h.push { cls:=Value.type "cell",data:=Data.cell none }) r else pushCells h r).get? b=some o
  split
  ·exact jE r _ b o (Heap.get?_push_of_some _ e)
  ·exact jE r h b o e
theorem nW:∀ (names:List (Str×NameKind)) (h:Heap) (x:Str) (c:Addr),(x,c)∈cellsFrom h.objs.size names []->(pushCells h names).IsCell c none
 | [],_,_,_,e=>nomatch e
 | (nm,k)::r,h,x,c,e=>by
  have e:(x,c)∈(if (k == NameKind.cell)=true then cellsFrom (h.objs.size+1) r [(nm,h.objs.size)] else cellsFrom h.objs.size r []):=e
  show (if (k == NameKind.cell)=true then pushCells (h.push { cls:=Value.type "cell",data:=Data.cell none }) r else pushCells h r).IsCell c none
  by_cases hk:(k == NameKind.cell)=true
  ·rw [if_pos hk,bN] at e
   rw [if_pos hk]
   rcases List.mem_append.mp e with z | z
   ·exact nW r _ x c (by rw [Heap.size_push]; exact z)
   ·have z:(x,c)=(nm,h.objs.size):=by simpa using z
    cases z
    exact⟨_,jE r _ _ _ (Heap.get?_push_size _ rfl),rfl⟩
  ·rw [if_neg hk] at e ⊢
   exact nW r h x c e
theorem Ac {M:Model}{A:Around}{E:Value->Shared->Prop}{s:Shared}{scope:Scope}{globals:Addr}{closure:List (Str×Addr)}{qual:Str}{func:Option Addr}{code:Value}{around:Option Env}{builtins:Addr}{Q:Env->Shared->Prop}
  (h:Q (newEnv scope s.heap.objs.size globals (cellsFrom (s.heap.objs.size+1) scope.names closure) qual func code around builtins) { s with heap:=pushCells (s.heap.push { cls:=Value.type (if around.isSome=true then "dict" else "frame"),data:=Data.dict #[] }) scope.names }) :
  wpAny M A (newFunctionEnv scope globals closure [] qual func code around builtins) Q E s:=by
 unfold newFunctionEnv
 refine wpAny_bind (wpAny_alloc ?_)
 refine wpAny_bind (wpAny_layCells _ (fun _ _ _=>rfl) _ _ _ _ ?_)
 rw [Heap.size_push]
 exact wpAny_bind (wpAny_pure (wpAny_pure h))
theorem Rk {n:Nat}{names:List (Str×NameKind)}{cl:List (Str×Addr)}{x:Str}{c:Addr} (h:(cellsFrom n names cl).lookup x=some c):(x,c)∈cellsFrom n names []\/cl.lookup x=some c:=by
 rw [bN,List.lookup_append] at h
 cases e:(cellsFrom n names []).lookup x with
 | none=>rw [e] at h; exact .inr h
 | some d =>
  rw [e] at h
  cases h
  exact .inl (PySem.mem_of_lookup e)
theorem Ka {n:Nat}{names:List (Str×NameKind)}{cl:List (Str×Addr)}{x:Str} (h:∀ c,(x,c)∈cellsFrom n names []->False):(cellsFrom n names cl).lookup x=cl.lookup x:=by
 rw [bN,List.lookup_append]
 cases e:(cellsFrom n names []).lookup x with
 | none=>rfl
 | some d=>exact (h d (PySem.mem_of_lookup e)).elim
theorem yE (h:bK X.env scope X.N M=true) {n:Nat}{x:Str} (hx:(x,NameKind.free)∈scope.names):∀ c,(x,c)∈cellsFrom n scope.names []->False:=fun c z=>by
 have h1:=((cG h _ hx).2.2 rfl).1
 have h2:=((cG h _ (fK _ _ _ _ z).1).2.1 rfl).2
 rw [h1] at h2
 cases h2
theorem jy (h:bK X.env scope X.N M=true):X.N.length=M.length:=by
 unfold bK at h
 rw [Bool.and_eq_true,Bool.and_eq_true] at h
 exact eq_of_beq h.2.1
theorem uF {i:Nat}{x:Str}{k:NameKind} (h:bK X.env scope X.N M=true) (hx:M[i]?=some x) (_:x∈M) (hn:(x,k)∈scope.names):X.N[i]?=some x:=by
 have hl:=jy h
 unfold bK at h
 rw [Bool.and_eq_true,Bool.and_eq_true,List.all_eq_true] at h
 have hi:i<M.length:=(List.getElem?_eq_some_iff.mp hx).1
 have hx':M[i]=x:=(List.getElem?_eq_some_iff.mp hx).2
 have hi':i<X.N.length:=by omega
 have q:=h.2.2 (X.N[i],M[i]) (by
  refine List.mem_iff_getElem.mpr ⟨i,by rw [List.length_zip]; omega,?_⟩
  rw [List.getElem_zip])
 rw [Bool.or_eq_true] at q
 rcases q with q | q
 ·have q:X.N[i]=M[i]:=eq_of_beq q
  rw [List.getElem?_eq_getElem hi',q,hx']
 ·rw [Bool.and_eq_true,List.all_eq_true] at q
  have e:M[i]=("":Str):=eq_of_beq q.1
  have z:=q.2 (x,k) hn
  rw [← hx',e] at z
  simp at z
theorem Bo {pins:List (Addr×Obj)}{σ:St}{H:Hp}{s:Shared}{fp:List Addr}{h₁:Heap}{tk:Nat} (hk:bK X.env scope X.N M=true) (I:Inv X pins σ H s) (hf:∀ b∈fp,sO X pins H b) (hfo:∀ b∈fp,∃ o,s.heap.get? b=some o)
  (hns:h₁.Ns (s.heap.objs.size+1) fun _=>none) (old:∀ b o,s.heap.get? b=some o->h₁.get? b=some o) (hD:h₁.get? s.heap.objs.size=some { cls:=.type "list",data:=.seq #[] 0 }) (hnc:∀ x c,(x,c)∈cellsFrom (s.heap.objs.size+2) scope.names []->h₁.IsCell c none) :
  Inv (X.bY own M scope ⟨cellsFrom (s.heap.objs.size+2) scope.names (dD X.env.cells scope.names []),s.heap.objs.size+1,s,H,fp⟩) [(s.heap.objs.size,{ cls:=.type "list",data:=.seq #[] 0 })] (List.replicate own.length none++σ) H { s with heap:=h₁,toks:=tk }:=by
 have hkk:=fG hk
 have hka:=cG hk
 have hhas:∀ x,(x,NameKind.free)∈scope.names->∃ c,X.env.cells.lookup x=some c:=fun x hx=>I.ok.has x ((hka _ hx).2.2 rfl).2
 have hcl:∀ x c,(dD X.env.cells scope.names []).lookup x=some c->X.env.cells.lookup x=some c/\(x,NameKind.free)∈scope.names:=fun x c e=>by
  rcases nA e with q | ⟨q1,q2⟩
  ·simp at q
  ·obtain⟨c',e'⟩:=hhas x q1
   rw [e'] at q2
   exact⟨by rw [e',q2]; rfl,q1⟩
 have hcc:∀ x c,(cellsFrom (s.heap.objs.size+2) scope.names (dD X.env.cells scope.names [])).lookup x=some c->(X.env.cells.lookup x=some c/\(x,NameKind.free)∈scope.names/\c<s.heap.objs.size)\/((x,c)∈cellsFrom (s.heap.objs.size+2) scope.names []/\(x,NameKind.cell)∈scope.names/\s.heap.objs.size+2<=c):=fun x c e=>by
  rcases Rk e with z | z
  ·exact .inr ⟨z,fK _ _ _ _ z⟩
  ·obtain⟨h1,h2⟩:=hcl x c z
   obtain⟨v,o,ho,_⟩:=I.cell x c h1
   exact .inl ⟨h1,h2,Heap.lt_size ho⟩
 have hvis:∀ x,(relabel scope X.env).names.lookup x=some .cell\/(relabel scope X.env).names.lookup x=some .free->(x,NameKind.free)∈scope.names\/(x,NameKind.cell)∈scope.names:=fun x hx=>by
  have key:∀ q,(relabel scope X.env).names.lookup x=some q->q=.cell\/q=.free->(x,NameKind.free)∈scope.names\/(x,NameKind.cell)∈scope.names:=fun q hq hq'=>by
   obtain⟨k,h1,h2,h3⟩:=dz (env:=X.env) (names:=scope.names) hq
   rcases h3 with h3 | ⟨_,h3⟩
   ·subst h3
    rcases hq' with z | z
    ·rw [z] at h1; exact .inr h1
    ·rw [z] at h1; exact .inl h1
   ·rw [h3] at h1; exact .inl h1
  rcases hx with hx | hx
  ·exact key _ hx (.inl rfl)
  ·exact key _ hx (.inr rfl)
 have hlt:∀ b o,s.heap.get? b=some o->b<s.heap.objs.size:=fun b o e=>Heap.lt_size e
 refine⟨⟨I.ok.mod,hkk,I.ok.glob,I.ok.blt,Nat.le_succ _,fun x y c h1 h2=>?inj,fun x hx=>?_,fun x c z e=>?cab,I.ok.hd,I.ok.frames,.inl rfl,fun b hb=>⟨?_,fun x c e=>?exf⟩,I.bs,
   Nat.le_trans I.ok.bsz I.sz,fun b o e hb=>?_,fun b hb hs=>?_,I.stack,I.uR,fun q hq=>⟨(I.ok.sof q hq).1,I.base.frzs _ _ _ (I.ok.sof q hq).2.1,(I.ok.sof q hq).2.2⟩⟩,rfl,I.bare,Un.kept old,⟨_,hns,fun i x v h1 h2 h3=>?_⟩,fun x c e=>?_,?_,fun x c e=>?frc,fun p hp=>?_,I.hok.kept old,?_⟩
 case inj =>
  rcases hcc x c h1 with ⟨a1,_,a3⟩ | ⟨a1,_,a3⟩ <;> rcases hcc y c h2 with ⟨b1,_,b3⟩ | ⟨b1,_,b3⟩
  ·exact I.ok.inj x y c a1 b1
  ·exact absurd (Nat.lt_of_lt_of_le a3 (Nat.le_trans (Nat.le_add_right _ 2) b3)) (Nat.lt_irrefl _)
  ·exact absurd (Nat.lt_of_lt_of_le b3 (Nat.le_trans (Nat.le_add_right _ 2) a3)) (Nat.lt_irrefl _)
  ·exact oV _ _ _ _ _ a1 b1
 case cab =>
  show s.heap.objs.size<=c
  rcases hcc x c e with ⟨_,a2,_⟩ | ⟨_,_,a3⟩
  ·have h1:=((hka _ a2).2.2 rfl).1
   have z:(scope.names.lookup x == some NameKind.cell)=true:=z
   rw [h1] at z
   exact absurd z (by decide)
  ·omega
 case exf =>
  rcases hcc x c e with ⟨a1,_,_⟩ | ⟨_,_,a3⟩
  ·exact (hf b hb).2.2.2.2.1 x c a1
  ·obtain⟨o,e⟩:=hfo b hb
   have:=hlt b o e
   intro z
   subst z
   exact absurd (Nat.lt_of_lt_of_le this (Nat.le_trans (Nat.le_add_right _ 2) a3)) (Nat.lt_irrefl _)
 case frc =>
  rcases hcc x c e with ⟨a1,_,_⟩ | ⟨_,_,a3⟩
  ·exact I.freeC x c a1
  ·exact I.hok.fresh (by omega)
 ·have hx':(relabel scope X.env).names.lookup x=some .cell\/(relabel scope X.env).names.lookup x=some .free:=hx
  refine Option.isSome_iff_exists.mp (W.cellsFrom_some _ _ _ ?_)
  rcases hvis x hx' with z | z
  ·exact .inr (jz z)
  ·exact .inl ((hka _ z).2.1 rfl).2
 ·obtain⟨o,e⟩:=hfo b hb
  exact Nat.ne_of_lt (Nat.lt_succ_of_lt (hlt b o e))
 ·have hb':b∈fp:=hb
  rcases (hf b hb').2.2.2.1 with z | z
  ·exact I.ok.noex b o e z
  ·exact absurd (Nat.lt_of_lt_of_le (Heap.lt_size (I.ok.bs b o e).1) z) (Nat.lt_irrefl _)
 ·have hb':b∈fp:=hb
  rcases List.mem_cons.mp (I.uQ b hs) with z | z
  ·exact (hf b hb').2.1 z
  ·exact (hf b hb').2.2.1 z
 ·have hi:own.length<=i:=by
   by_cases hi:i<own.length
   ·rw [List.getElem?_append_left (by simpa using hi),List.getElem?_replicate] at h2
    split at h2 <;> cases h2
   ·omega
  have h1':M[i - own.length]?=some x:=by
   have q:(own++M)[i]?=some x:=h1
   rwa [List.getElem?_append_right hi] at q
  have h2':σ[i - own.length]?=some (some v):=by
   rw [List.getElem?_append_right (by simpa using hi)] at h2
   simpa using h2
  have h3':Vis (relabel scope X.env) x:=h3
  have hfr:(x,NameKind.free)∈scope.names:=by
   rcases h3' with z | z
   ·obtain⟨k,q1,q2,q3⟩:=dz (env:=X.env) (names:=scope.names) z
    rcases q3 with q3 | ⟨q3,_⟩
    ·subst q3
     exact absurd (List.mem_of_getElem? h1') ((hka _ q1).1 rfl).1
    ·cases q3
   ·rcases hvis x z with y | y
    ·exact y
    ·exact absurd (List.mem_of_getElem? h1') ((hka _ y).2.1 rfl).1
  have hkx:=((hka _ hfr).2.2 rfl).2
  obtain⟨m,hm,hl⟩:=I.loc
  obtain⟨u,ru,lu⟩:=hl _ x v (uF hk h1' (List.mem_of_getElem? h1') hfr) h2' (by rcases hkx with z | z; exact .inr (.inl z); exact .inr (.inr z))
  refine⟨u,ru,.inr ⟨?_,?_⟩⟩
  ·rcases h3' with z | z | z
   ·obtain⟨k,q1,q2,q3⟩:=dz (env:=X.env) (names:=scope.names) z
    rcases q3 with q3 | ⟨q3,_⟩
    ·subst q3
     exact absurd (List.mem_of_getElem? h1') ((hka _ q1).1 rfl).1
    ·cases q3
   ·exact .inl z
   ·exact .inr z
  ·rcases lu with ⟨z,_⟩ | ⟨_,c,e,ic⟩
   ·rcases hkx with q | q
    ·rw [q] at z; cases z
    ·rw [q] at z; cases z
   ·obtain⟨c',e'⟩:=Option.isSome_iff_exists.mp (jz (cells:=X.env.cells) (acc:=[]) hfr)
    have e2:=(hcl x c' e').1
    rw [e] at e2
    cases e2
    obtain⟨o,ho,hd⟩:=ic
    exact⟨c,(Ka (yE hk hfr)).trans e',o,old _ _ ho,hd⟩
 ·rcases hcc x c e with ⟨z,_,_⟩ | ⟨z,_,_⟩
  ·obtain⟨v,o,ho,hd⟩:=I.cell x c z
   exact⟨v,o,old _ _ ho,hd⟩
  ·exact⟨none,hnc x c z⟩
 ·exact I.hok.fresh (Nat.le_succ _)
 ·have hp':p=(s.heap.objs.size,{ cls:=.type "list",data:=.seq #[] 0 }):=by simpa using hp
  subst hp'
  refine⟨hD,I.hok.fresh (Nat.le_refl _),Nat.ne_of_lt (Nat.lt_succ_self _),fun z=>?_,fun v z=>nomatch z⟩
  obtain⟨_,o,ho,_⟩:=I.stack.mem z
  exact absurd (Heap.lt_size ho) (Nat.lt_irrefl _)
 ·show (List.replicate own.length none++σ).length=(own++M).length
  rw [List.length_append,List.length_append,List.length_replicate,I.len,jy hk]
theorem Bm {pins pn:List (Addr×Obj)}{σ σ':St}{H H':Hp}{s s':Shared}{fp:List Addr}{cl:List (Str×Addr)}{ys:List V}{us:List Value}{n:Nat} (I:Inv X pins σ H s) (hf:∀ b∈fp,sO X pins H b)
  (J:Inv (X.bY own M scope ⟨cl,s.heap.objs.size+1,s,H,fp⟩) pn σ' H' s') (hp:(s.heap.objs.size,({ cls:=.type "list",data:=.seq us.toArray n }:Obj))∈pn) (hv:Vals ys us) (hz:ys.length<=sizeLine) :
  Inv X pins σ (upd H' s.heap.objs.size (.lst ys)) s'/\H' s.heap.objs.size=none:=by
 obtain⟨hD,hDn,_⟩:=J.pin _ (List.mem_append_right _ hp)
 refine⟨I.call' J.os ⟨fun b o e n hb hx=>J.base.keep b o e n hb hx,fun b o e n hb hx=>J.base.slot b o e n hb hx,fun b o e n hx=>?_,fun b o e hx=>J.base.there b o e hx,fun b xs e=>?_,fun b o u e=>?_,fun b ps e=>?_⟩ ?_ J.bare ?_,hDn⟩
 ·rw [au (Nat.ne_of_lt (Heap.lt_size e))]
  exact J.base.free b o e n hx
 ·have q:=J.base.tups b xs e
  rw [au (aD q hDn)]
  exact q
 ·have q:=J.base.frzs b o u e
  rw [au (aD q hDn)]
  exact q
 ·obtain⟨more,q⟩:=J.base.tbls b ps e
  exact⟨more,by rw [au (aD q hDn)]; exact q⟩
 ·exact J.hok.track hDn ⟨hz,us,n,hv,hD⟩
 ·intro b hb
  exact⟨(hf b hb).2.2.2.1,(hf b hb).2.1,(hf b hb).2.2.2.2.1,(hf b hb).2.2.2.2.2⟩
theorem rZ {pins pn:List (Addr×Obj)}{σ σ':St}{H H':Hp}{s s':Shared}{fp:List Addr}{cl:List (Str×Addr)} (hk:bK X.env scope X.N M=true) (I:Inv X pins σ H s) (hf:∀ b∈fp,sO X pins H b)
  (hcl:∀ x,(x,NameKind.free)∈scope.names->∃ c,cl.lookup x=some c/\X.env.cells.lookup x=some c)
  (J:Inv (X.bY own M scope ⟨cl,s.heap.objs.size+1,s,H,fp⟩) pn σ' H' s'):Inv (X.bY own M scope ⟨cl,s.heap.objs.size+1,s,H,fp⟩) pn (List.replicate own.length none++σ) H' s':=by
 have hka:=cG hk
 refine⟨J.ok,J.os,J.bare,J.base,?_,J.cell,J.free,J.freeC,J.pin,J.hok,?_⟩
 ·obtain⟨mC,hmC,_⟩:=J.loc
  refine⟨mC,hmC,fun i x v h1 h2 h3=>?_⟩
  have hi:own.length<=i:=by
   by_cases hi:i<own.length
   ·rw [List.getElem?_append_left (by simpa using hi),List.getElem?_replicate] at h2
    split at h2 <;> cases h2
   ·omega
  have h1':M[i - own.length]?=some x:=by
   have q:(own++M)[i]?=some x:=h1
   rwa [List.getElem?_append_right hi] at q
  have h2':σ[i - own.length]?=some (some v):=by
   rw [List.getElem?_append_right (by simpa using hi)] at h2
   simpa using h2
  have h3':Vis (relabel scope X.env) x:=h3
  have nloc:¬ (relabel scope X.env).names.lookup x=some .local:=fun z=>by
   obtain⟨k,q1,q2,q3⟩:=dz (env:=X.env) (names:=scope.names) z
   rcases q3 with q3 | ⟨q3,_⟩
   ·subst q3
    exact absurd (List.mem_of_getElem? h1') ((hka _ q1).1 rfl).1
   ·cases q3
  have hkk:(relabel scope X.env).names.lookup x=some .cell\/(relabel scope X.env).names.lookup x=some .free:=by
   rcases h3' with z | z
   ·exact absurd z nloc
   ·exact z
  have hfr:(x,NameKind.free)∈scope.names:=by
   have key:∀ q,(relabel scope X.env).names.lookup x=some q->q=.cell\/q=.free->(x,NameKind.free)∈scope.names:=fun q hq hq'=>by
    obtain⟨k,h1,h2,h3⟩:=dz (env:=X.env) (names:=scope.names) hq
    rcases h3 with h3 | ⟨_,h3⟩
    ·subst h3
     rcases hq' with z | z
     ·rw [z] at h1; exact absurd (List.mem_of_getElem? h1') ((hka _ h1).2.1 rfl).1
     ·rw [z] at h1; exact h1
    ·rw [h3] at h1; exact h1
   rcases hkk with hx | hx
   ·exact key _ hx (.inl rfl)
   ·exact key _ hx (.inr rfl)
  have hkx:=((hka _ hfr).2.2 rfl).2
  obtain⟨m,hm,hl⟩:=I.loc
  obtain⟨u,ru,lu⟩:=hl _ x v (uF hk h1' (List.mem_of_getElem? h1') hfr) h2' (by rcases hkx with z | z; exact .inr (.inl z); exact .inr (.inr z))
  refine⟨u,ru,.inr ⟨hkk,?_⟩⟩
  rcases lu with ⟨z,_⟩ | ⟨_,c,e,ic⟩
  ·rcases hkx with q | q
   ·rw [q] at z; cases z
   ·rw [q] at z; cases z
  ·obtain⟨c',e',e2⟩:=hcl x hfr
   rw [e] at e2
   cases e2
   obtain⟨o,ho,hd⟩:=ic
   obtain⟨sl,q⟩:=J.base.any ho (I.freeC x c e) fun z=>(hf c z).2.2.2.2.1 x c e rfl
   exact⟨c,e',_,q,hd⟩
 ·show (List.replicate own.length none++σ).length=(own++M).length
  rw [List.length_append,List.length_append,List.length_replicate,I.len,jy hk]
theorem uz {pins:List (Addr×Obj)}{σ:St}{H:Hp}{s:Shared}{it:Addr}{fp:List Addr}{tn:Nat->Heap->Prop}{J:It}{W:Nat->Nat->List V->Hp->Prop}{E:Value->Shared->Prop}{RR:Value->Addr->Result->Shared->Prop}{Cm:Cx->Prop} (hc:∀ c,Cm (X.bY own M scope c))
  (hk:bK X.env scope X.N M=true) (hg:∀ c,PG (X.bY own M scope c) tg (g c)) (ht:∀ c,PTs (X.bY own M scope c) ifs (tt c)) (he:∀ c,PE (X.bY own M scope c) elt (te c))
  (I:Inv X pins σ H s) (T:TurnG Cm X.prog X.w X.K tg J fp it tn) (st:tn 0 s.heap) (hf:∀ b∈fp,sO X pins H b) {m0:Nat} (w0:W 0 m0 [] H) {D:List V->Hp->Prop}
  (turn:∀ (c:CB) i m ys H,W i m ys H->(J.stop i H/\D ys H) ∨
   (J.go i H/\ys.length<sizeLine/\∃ N:List V->Hp->Prop,(∀ ys' H',N ys' H'->∃ m',m'<m/\W (i+1) m' ys' H')/\∀ x H',J.yld i H x H'->g c x (List.replicate own.length none++σ) H' fun σ2 H2=>tt c σ2 H2 fun b H3 =>
    if b=true then te c σ2 H3 fun v H4=>N (ys++[v]) H4 else N ys H3))
  (fin:∀ s' m' ys H',(s'.heap.Ns (s.heap.objs.size+1) m')->H' (s.heap.objs.size+1)=none->H' s.heap.objs.size=none->Inv X pins σ (upd H' s.heap.objs.size (.lst ys)) s'->D ys H'->RR (.ref s.heap.objs.size) (s.heap.objs.size+1) (.ok .next) s') :
  wpAny (model X.prog X.w) X.A (newList []) (fun acc s₃=>wpAny (model X.prog X.w) X.A (newFunctionEnv scope X.env.globals (dD X.env.cells scope.names []) [] X.env.qual none .none (some X.env)) (fun cenv s₄ =>
   codeAny (model X.prog X.w) X.A (.compStart (.ListComp elt [⟨tg,iter,ifs,0⟩] scope pos) 0 (.ref it) acc { cenv with scope:=relabel scope X.env }) (RR acc cenv.locals) s₄) E s₃) E s:=by
 have hkk:=fG hk
 have hka:=cG hk
 refine wpAny_newObj_type (Ac ?_)
 dsimp only
 have hC:(s.heap.push { cls:=.type "list",dict:=none,data:=.seq ([]:List Value).toArray }).objs.size=s.heap.objs.size+1:=Heap.size_push ..
 rw [hC]
 generalize hH2:s.heap.push { cls:=.type "list",dict:=none,data:=.seq ([]:List Value).toArray }=H2 at hC ⊢
 generalize hH3:H2.push { cls:=Value.type (if (some X.env:Option Env).isSome=true then "dict" else "frame"),data:=Data.dict #[] }=H3
 generalize hh1:pushCells H3 scope.names=h₁
 have hC3:H3.objs.size=s.heap.objs.size+2:=by rw [← hH3,Heap.size_push,hC]
 have old3:∀ b o,H3.get? b=some o->h₁.get? b=some o:=fun b o e=>hh1 ▸ jE _ _ _ _ e
 have old2:∀ b o,H2.get? b=some o->h₁.get? b=some o:=fun b o e=>old3 b o (hH3 ▸ Heap.get?_push_of_some _ e)
 have old:∀ b o,s.heap.get? b=some o->h₁.get? b=some o:=fun b o e=>old2 b o (hH2 ▸ Heap.get?_push_of_some _ e)
 have hacc:h₁.get? s.heap.objs.size=some { cls:=.type "list",data:=.seq #[] 0 }:=old2 _ _ (hH2 ▸ Heap.get?_push_size _ rfl)
 have hns:h₁.Ns (s.heap.objs.size+1) fun _=>none:=by
  have z:=Heap.Ns.new H2 (Value.type (if (some X.env:Option Env).isSome=true then "dict" else "frame"))
  rw [hC,hH3] at z
  exact z.keeps old3
 have hnc:∀ x c,(x,c)∈cellsFrom (s.heap.objs.size+2) scope.names []->h₁.IsCell c none:=fun x c e=>by
  rw [← hC3] at e
  exact hh1 ▸ nW _ _ _ _ e
 have hfo:∀ b∈fp,∃ o,s.heap.get? b=some o:=fun b hb=>let ⟨o,e,_⟩:=T.obj 0 _ st b hb; ⟨o,e⟩
 have st₁:tn 0 h₁:=T.keep 0 _ _ st fun b _ o e=>old b o e
 have I₁:=Bo (own:=own) (tk:=s.toks) hk I hf hfo hns old hacc hnc
 have loop:∀ s₃:Shared,s₃={ s with heap:=h₁,toks:=s.toks } ->
   codeAny (model X.prog X.w) X.A (.compLoop (.ListComp elt [⟨tg,iter,ifs,0⟩] scope pos) 0 (.ref it) (.ref s.heap.objs.size) (compEnvC scope (cellsFrom (s.heap.objs.size+2) scope.names (dD X.env.cells scope.names [])) (s.heap.objs.size+1) X.env))
    (RR (.ref s.heap.objs.size) (s.heap.objs.size+1)) s₃:=by
  rintro s₃ rfl
  have neD:∀ b∈fp,b≠s.heap.objs.size:=fun b hb=>by
   obtain⟨o,e⟩:=hfo b hb
   exact Nat.ne_of_lt (Heap.lt_size e)
  have stat:∀ {H':Hp}{o:Obj},(∀ b∈fp,H' b=none)->∀ b∈fp,sO (X.bY own M scope ⟨cellsFrom (s.heap.objs.size+2) scope.names (dD X.env.cells scope.names []),s.heap.objs.size+1,s,H,fp⟩) [(s.heap.objs.size,o)] H' b:=fun {H' o} hn b hb =>
   ⟨hn b hb,(I₁.ok.exf b hb).1,I₁.ok.exfs b hb,.inl hb,(I₁.ok.exf b hb).2,fun p hp=>by
    have hp':p=(s.heap.objs.size,o):=by simpa using hp
    subst hp'
    exact Ne.symm (neD b hb)⟩
  refine FP (fun k s'=>∃ i ys us n H',Inv (X.bY own M scope ⟨cellsFrom (s.heap.objs.size+2) scope.names (dD X.env.cells scope.names []),s.heap.objs.size+1,s,H,fp⟩) [(s.heap.objs.size,{ cls:=.type "list",data:=.seq (us:List Value).toArray n })] (List.replicate own.length none++σ) H' s' /\
    Vals ys us/\ys.length<=sizeLine/\tn i s'.heap/\(∀ b∈fp,H' b=none)/\W i k ys H') ?_ m0 ⟨0,[],[],0,H,I₁,.nil,Nat.zero_le _,st₁,fun b hb=>(hf b hb).1,w0⟩
  rintro k s3 ⟨i,ys,us,n,H3,I3,hv,hz,st3,fr3,w3⟩
  rcases turn ⟨cellsFrom (s.heap.objs.size+2) scope.names (dD X.env.cells scope.names []),s.heap.objs.size+1,s,H,fp⟩ i k ys H3 w3 with ⟨stop,d⟩ | ⟨go,hlt,N,hN,step⟩
  ·refine thn (T.done (X.bY own M scope ⟨cellsFrom (s.heap.objs.size+2) scope.names (dD X.env.cells scope.names []),s.heap.objs.size+1,s,H,fp⟩) rfl rfl rfl (hc _) i _ s3 _ H3 _ I3 (stat fr3) st3 stop) fun r s4 ⟨hr,I4⟩=>?_
   subst hr
   obtain⟨m',hm',_⟩:=I4.loc
   obtain⟨J4,hDn⟩:=Bm I hf I4 (List.mem_singleton.mpr rfl) hv hz
   exact fin s4 m' ys H3 hm' I4.free hDn J4 d
  ·refine thn (T.item (X.bY own M scope ⟨cellsFrom (s.heap.objs.size+2) scope.names (dD X.env.cells scope.names []),s.heap.objs.size+1,s,H,fp⟩) rfl rfl rfl (hc _) i _ s3 _ H3 _ I3 (stat fr3) st3 go) fun r s4 ⟨u,hr,h4⟩=>?_
   subst hr
   refine thn h4 fun _ s5 ⟨x,H5,I5,r5,y5,st5,fr5⟩=>?_
   have I5':=I5.pinned (stat fr5) (T.obj _ _ st5)
   refine thn (hg _ _ s5 _ H5 x u _ I5' r5 (step x H5 y5)) fun _ s6 ⟨σ6,H6,I6,q6⟩=>?_
   refine thn (ht _ _ s6 σ6 H6 _ I6 q6) fun b s7 ⟨H7,I7,q7⟩=>?_
   -- the turn's end: the iterator's records stand,the names are forgotten
   have clH:∀ x,(x,NameKind.free)∈scope.names->∃ c,(cellsFrom (s.heap.objs.size+2) scope.names (dD X.env.cells scope.names [])).lookup x=some c/\X.env.cells.lookup x=some c:=fun x hx=>by
    obtain⟨c,e⟩:=I.ok.has x ((hka _ hx).2.2 rfl).2
    obtain⟨c',e'⟩:=Option.isSome_iff_exists.mp (jz (cells:=X.env.cells) (acc:=[]) hx)
    rcases nA e' with q | ⟨_,q⟩
    ·simp at q
    ·rw [e] at q
     exact⟨c',(Ka (yE hk hx)).trans e',by rw [e,q]; rfl⟩
   have keepT:∀ {H':Hp}{σ':St}{s':Shared}{pn:List (Addr×Obj)},(∀ p∈ji fp s5.heap,p∈pn)->Inv (X.bY own M scope ⟨cellsFrom (s.heap.objs.size+2) scope.names (dD X.env.cells scope.names []),s.heap.objs.size+1,s,H,fp⟩) pn σ' H' s'->tn (i+1) s'.heap/\∀ b∈fp,H' b=none:=fun {H' σ' s' pn} hs I' =>
    ⟨T.keep _ _ _ st5 fun b hb o e=>(I'.pin (b,o) (List.mem_append_right _ (hs _ (iz hb e)))).1,fun b hb=>by
     obtain⟨o,e,_⟩:=T.obj _ _ st5 b hb
     exact (I'.pin (b,o) (List.mem_append_right _ (hs _ (iz hb e)))).2.1⟩
   cases b with
   | false =>
    rw [if_neg Bool.false_ne_true]
    rw [if_neg Bool.false_ne_true] at q7
    obtain⟨m',hm',w7⟩:=hN _ _ q7
    obtain⟨t7,f7⟩:=keepT (fun p hp=>List.mem_append_right _ hp) I7
    exact⟨m',hm',i+1,ys,us,n,H7,rZ hk I hf clH I7.kZ,hv,hz,t7,f7,w7⟩
   | true =>
    rw [if_pos rfl]
    rw [if_pos rfl] at q7
    refine thn (he _ _ s7 σ6 H7 _ I7 q7) fun u8 s8 ⟨v8,H8,I8,r8,q8⟩=>?_
    obtain⟨m',hm',w8⟩:=hN _ _ q8
    obtain⟨t8,f8⟩:=keepT (fun p hp=>List.mem_append_right _ hp) I8
    obtain⟨hD8,nD8,lD8,fD8,_⟩:=I8.pin (s.heap.objs.size,{ cls:=.type "list",data:=.seq us.toArray n }) (List.mem_append_right _ (List.mem_append_left _ (List.mem_singleton.mpr rfl)))
    refine append_at (hsz:=by rw [List.size_toArray,← hv.length]; exact Nat.le_of_lt hlt) hD8 fun h9 hs9 hD9=>?_
    have J8:Inv (X.bY own M scope ⟨cellsFrom (s.heap.objs.size+2) scope.names (dD X.env.cells scope.names []),s.heap.objs.size+1,s,H,fp⟩) (ji fp s5.heap) σ6 H8 s8:=I8.pU fun p hp=>I8.pin p (List.mem_append_right _ (List.mem_append_right _ hp))
    have J9:Inv (X.bY own M scope ⟨cellsFrom (s.heap.objs.size+2) scope.names (dD X.env.cells scope.names []),s.heap.objs.size+1,s,H,fp⟩) (ji fp s5.heap) σ6 H8 { s8 with heap:=h9 }:=J8.turned (t':=s8.toks) (it:=s.heap.objs.size) (fun b o hb e=>(hs9.2 b hb).trans e) nD8 lD8 (.inr (Nat.le_refl _))
     (fun x c e z=>by
      obtain⟨v,o,ho,hd⟩:=J8.cell x c e
      rw [z,hD8] at ho
      cases ho
      cases hd)
     (fun p hp=>by
      have hp':p∈ji fp s5.heap:=by simpa using hp
      exact neD _ (tY hp').1)
    obtain⟨t9,f9⟩:=keepT (fun p hp=>hp) J9
    have e9:h9.get? s.heap.objs.size=some { cls:=.type "list",data:=.seq (us++[u8]).toArray (n+1) }:=by
     rw [hD9,List.push_toArray]
    have J9':Inv (X.bY own M scope ⟨cellsFrom (s.heap.objs.size+2) scope.names (dD X.env.cells scope.names []),s.heap.objs.size+1,s,H,fp⟩) [(s.heap.objs.size,{ cls:=.type "list",data:=.seq (us++[u8]).toArray (n+1) })] σ6 H8 { s8 with heap:=h9 }:=J9.pU fun p hp=>by
     have hp':p=(s.heap.objs.size,{ cls:=.type "list",data:=.seq (us++[u8]).toArray (n+1) }):=by simpa using hp
     subst hp'
     exact⟨e9,nD8,lD8,fD8,fun v z=>nomatch z⟩
    exact⟨m',hm',i+1,ys++[v8],us++[u8],n+1,H8,rZ hk I hf clH J9',hv.append (.cons r8 .nil),by rw [List.length_append,List.length_singleton]; exact hlt,t9,f9,w8⟩
 exact codeAny_compStart_list (loop _ rfl) (T.self _ 0 _ _ _ st₁ (loop _ rfl))
theorem uE {pins:List (Addr×Obj)}{σ:St}{H:Hp}{s:Shared} (hk:bK X.env scope X.N M=true) (I:Inv X pins σ H s):closureFor scope X.env=pure (dD X.env.cells scope.names []) :=
 Bp fun x hx hf=>I.ok.has x.1 ((cG hk x hx).2.2 hf).2
theorem uD {pins:List (Addr×Obj)}{σ:St}{H:Hp}{s s':Shared}{C:Addr}{h':Heap}{m:Str->Option Value} (I:Inv X pins σ H s') (hs:X.s₀.heap.objs.size<=C) (hC:C≠X.env.locals) (hcl:∀ x c,X.env.cells.lookup x=some c->c≠C) (hp:∀ p∈X.pn++pins,p.1≠C) (hn:H C=none)
  (hb:Heap.SameBut C s'.heap h'):Inv X pins σ H { s' with heap:=h' }:=I.turned (t':=s'.toks) (fun b o hb' e=>(hb.2 b hb').trans e) hn hC (.inr hs) hcl hp
theorem Hs (own M:List Str) (hc:X.calm=true) (hi:PI X tg iter wi) (hg:∀ c,PG (X.bY own M scope c) tg (g c)) (ht:∀ c,PTs (X.bY own M scope c) ifs (tt c)) (he:∀ c,PE (X.bY own M scope c) elt (te c))
  (hk:bK X.env scope X.N M=true:=by rfl) (hs:∀ x,foldedSetIterable iter X.env x=pure x:=by intro _; rfl) :
  PE X (.ListComp elt [⟨tg,iter,ifs,0⟩] scope pos) (tLC own.length wi g tt te):=by
 intro pins s σ H Q I h
 rw [eval_ListComp]
 have hka:=cG hk
 refine wpAny_comprehension_free (use:=none) rfl hs (uE hk I) (fG hk) (fun x hx hl=>((hka x hx).1 hl).2) (thn (hi pins s σ H _ I h) fun v s1 h1=>thn h1 fun itv s2 h2=>?_)
 obtain⟨it,fp,tn,J,H2,e,I2,T,st2,f2,W,⟨m0,w0⟩,turn⟩:=h2
 subst e
 refine uz (RR:=fun acc C=>compPost (model X.prog X.w) X.A X.xe none (EP X pins σ Q) acc C) (D:=fun ys H=>∀ p,H p=none->Q (.ref p) (upd H p (.lst ys))) (fun _=>hc) hk hg ht he I2 T st2 f2 w0 turn ?_
 intro s' m' ys H' hns hCn hDn J' d
 have lt2:∀ {b:Addr}{o:Obj},s2.heap.get? b=some o->b≠s2.heap.objs.size+1:=fun e=>Nat.ne_of_lt (Nat.lt_succ_of_lt (Heap.lt_size e))
 refine⟨m',hns,fun h' hb=>⟨.ref s2.heap.objs.size,_,uD (m:=m') (s:=s2) J' (Nat.le_trans I2.sz (Nat.le_succ _)) (Ne.symm (Nat.ne_of_lt (Nat.lt_succ_of_lt I2.lt))) (fun x c e=>?_) (fun p hp=>?_) ?_ hb,rfl,d _ hDn⟩⟩
 ·obtain⟨v,o,ho,_⟩:=I2.cell x c e
  exact lt2 ho
 ·exact lt2 (I2.pin p hp).1
 ·rw [au (Nat.ne_of_gt (Nat.lt_succ_self _))]
  exact hCn
theorem Cu {Cm:Cx->Prop} (own M:List Str) {i:Nat}{y:Str}{py spos:Pos} (hc:∀ c,Cm (X.bY own M scope c)) (hN:X.N.Nodup) (hiN:X.N[i]?=some y) (hx:Loc X.env.scope y) (hi:PIG Cm X tg iter wi) (hg:∀ c,PG (X.bY own M scope c) tg (g c)) (ht:∀ c,PTs (X.bY own M scope c) ifs (tt c)) (he:∀ c,PE (X.bY own M scope c) elt (te c))
  (hsw:swapsWith (.ListComp elt [⟨tg,iter,ifs,0⟩] scope pos) (some (.Name y py)) spos.line X.env=pure true:=by rfl)
  (hk:bK X.env scope X.N M=true:=by rfl) (hs:∀ x,foldedSetIterable iter X.env x=pure x:=by intro _; rfl) (hf:X.fn y=true\/X.env.scope.names.lookup y=some .local:=by first | exact .inl rfl | exact .inr rfl | assumption) :
  PS X (.Assign [.Name y py] (.ListComp elt [⟨tg,iter,ifs,0⟩] scope pos) spos) (lg (tLC own.length wi g tt te) (fY i)):=by
 intro pins s σ H D I h
 rw [exec_Assign_Name_used _ _ _ _ hsw]
 have hka:=cG hk
 refine wpAny_bind (wpAny_standAt (wpAny_bind ?_))
 show wpAny _ X.A (do let _ ← comprehension (.ListComp elt [⟨tg,iter,ifs,0⟩] scope pos) scope X.env _ (newList []) false (eval iter X.env) (some (assign (.Name y py) X.env))) _ _ s
 refine wpAny_bind (wpAny_mono (wpAny_comprehension_free (use:=some (assign (.Name y py) X.env)) (Q:=fun _ s'=>SP X pins D .next s') rfl hs (uE hk I) (fG hk) (fun x hx hl=>((hka x hx).1 hl).2)
  (thn (hi pins s σ H _ I h) fun v s1 h1=>thn h1 fun itv s2 h2=>?_)) (fun _ s' hq=>wpAny_pure (wpAny_pure hq)) fun _ _ e=>e)
 obtain⟨it,fp,tn,J,H2,e,I2,T,st2,f2,W,⟨m0,w0⟩,turn⟩:=h2
 subst e
 refine uz (RR:=fun acc C=>compPost (model X.prog X.w) X.A X.xe (some (assign (.Name y py) X.env)) (fun _ s'=>SP X pins D .next s') acc C) (D:=fun ys H=>∀ p,H p=none->fY i (.ref p) σ (upd H p (.lst ys)) D.nx) hc hk hg ht he I2 T st2 f2 w0 turn ?_
 intro s' m' ys H' hns hCn hDn J' d
 have lt2:∀ {b:Addr}{o:Obj},s2.heap.get? b=some o->b≠s2.heap.objs.size+1:=fun e=>Nat.ne_of_lt (Nat.lt_succ_of_lt (Heap.lt_size e))
 show wpAny _ X.A (assign (.Name y py) X.env (.ref s2.heap.objs.size)) _ _ _
 refine wpAny_assign_Name (tM (v:=.ref s2.heap.objs.size) J' (fun j h=>rB hN h hiN) hiN hx rfl (fun s'' J'' ⟨a,hsb,ha⟩=>?_) hf)
 have hLne:X.env.locals≠s2.heap.objs.size+1:=Nat.ne_of_lt (Nat.lt_succ_of_lt I2.lt)
 have hCa:s2.heap.objs.size+1≠a:=by
  rcases ha with ha | ha
  ·rw [ha]; exact Ne.symm hLne
  ·obtain⟨v,o,ho,_⟩:=I2.cell _ _ ha
   exact Ne.symm (lt2 ho)
 refine⟨m',hns.sameBut hsb hCa,fun h' hb=>⟨_,_,uD (m:=m') (s:=s2) J'' (Nat.le_trans I2.sz (Nat.le_succ _)) (Ne.symm hLne) (fun x c e=>?_) (fun p hp=>?_) ?_ hb,d _ hDn⟩⟩
 ·obtain⟨v,o,ho,_⟩:=I2.cell x c e
  exact lt2 ho
 ·exact lt2 (I2.pin p hp).1
 ·rw [au (Nat.ne_of_gt (Nat.lt_succ_self _))]
  exact hCn
theorem Qh (own M:List Str) {i:Nat}{y:Str}{py spos:Pos} (hc:X.calm=true) (hN:X.N.Nodup) (hiN:X.N[i]?=some y) (hx:Loc X.env.scope y) (hi:PI X tg iter wi) (hg:∀ c,PG (X.bY own M scope c) tg (g c)) (ht:∀ c,PTs (X.bY own M scope c) ifs (tt c)) (he:∀ c,PE (X.bY own M scope c) elt (te c))
  (hsw:swapsWith (.ListComp elt [⟨tg,iter,ifs,0⟩] scope pos) (some (.Name y py)) spos.line X.env=pure true:=by rfl)
  (hk:bK X.env scope X.N M=true:=by rfl) (hs:∀ x,foldedSetIterable iter X.env x=pure x:=by intro _; rfl) (hf:X.fn y=true\/X.env.scope.names.lookup y=some .local:=by first | exact .inl rfl | exact .inr rfl | assumption) :
  PS X (.Assign [.Name y py] (.ListComp elt [⟨tg,iter,ifs,0⟩] scope pos) spos) (lg (tLC own.length wi g tt te) (fY i)):=Cu own M (fun _=>hc) hN hiN hx hi hg ht he hsw hk hs hf
theorem Ht (own:List Str) (hc:X.calm=true) (hi:PI X tg iter wi) (hg:∀ c,PG (X.comp own scope c) tg (g c)) (ht:∀ c,PTs (X.comp own scope c) ifs (tt c)) (he:∀ c,PE (X.comp own scope c) elt (te c))
  (hk:dh X.env scope X.N=true:=by rfl) (hs:∀ x,foldedSetIterable iter X.env x=pure x:=by intro _; rfl) :
  PE X (.ListComp elt [⟨tg,iter,ifs,0⟩] scope pos) (tLC own.length wi g tt te):=Hs own X.N hc hi hg ht he (su hk) hs
theorem G8 (own:List Str) {i:Nat}{y:Str}{py spos:Pos} (hc:X.calm=true) (hN:X.N.Nodup) (hiN:X.N[i]?=some y) (hx:Loc X.env.scope y) (hi:PI X tg iter wi) (hg:∀ c,PG (X.comp own scope c) tg (g c)) (ht:∀ c,PTs (X.comp own scope c) ifs (tt c)) (he:∀ c,PE (X.comp own scope c) elt (te c))
  (hsw:swapsWith (.ListComp elt [⟨tg,iter,ifs,0⟩] scope pos) (some (.Name y py)) spos.line X.env=pure true:=by rfl)
  (hk:dh X.env scope X.N=true:=by rfl) (hs:∀ x,foldedSetIterable iter X.env x=pure x:=by intro _; rfl) (hf:X.fn y=true\/X.env.scope.names.lookup y=some .local:=by first | exact .inl rfl | exact .inr rfl | assumption) :
  PS X (.Assign [.Name y py] (.ListComp elt [⟨tg,iter,ifs,0⟩] scope pos) spos) (lg (tLC own.length wi g tt te) (fY i)):=Qh own X.N hc hN hiN hx hi hg ht he hsw (su hk) hs hf
end
section
variable {X:Cx}{tg:Expr}{K:W.Frag}{g:CB->TG}{tt:CB->TT}{te:CB->TE}{σ:St}{H:Hp}{Q:VK}{n:Nat}
def Vd (K:W.Frag) (tl:TE):TI:=fun σ H R=>tl σ H fun x H1=>∃ a,x=.ref a/\(((∃ xs,SqL K H1 a xs)/\R (Itl K a) H1)\/((∃ xs,SqT K H1 a xs)/\R (Itt K a) H1))
theorem Hj {l:Expr}{tl:TE} (hl:PE X l tl):PI X tg l (Vd X.K tl):=by
 intro pins s σ H R I h
 refine thn (hl pins s σ H _ I h) fun v s1 ⟨x,H1,I1,r1,q1⟩=>?_
 obtain⟨a,e,q1⟩:=q1
 subst e
 cases r1
 rcases q1 with ⟨⟨xs,hq⟩,q⟩ | ⟨⟨xs,hq⟩,q⟩
 ·obtain⟨its,rv,p,hz⟩:=I1.list hq
  refine wpAny_pyIter_list p.isList ?_
  refine⟨s1.heap.objs.size,[s1.heap.objs.size],_,_,H1,rfl,I1.kept (t':=s1.toks) fun b o e=>Heap.get?_push_of_some _ e,nP a _,⟨_,Heap.get?_push_size _ rfl,rfl,rfl⟩,fun b hb=>?_,q⟩
  have e:b=s1.heap.objs.size:=by simpa using hb
  subst e
  exact I1.Fv (Nat.le_refl _) (I1.hok.fresh (Nat.le_refl _))
 ·obtain⟨its,rv,p,hz⟩:=I1.tuple hq
  refine wpAny_pyIter_tuple (show s1.heap.IsTuple a its.toArray from p) ?_
  refine⟨s1.heap.objs.size,[s1.heap.objs.size],_,_,H1,rfl,I1.kept (t':=s1.toks) fun b o e=>Heap.get?_push_of_some _ e,zf a _,⟨_,Heap.get?_push_size _ rfl,rfl,rfl⟩,fun b hb=>?_,q⟩
  have e:b=s1.heap.objs.size:=by simpa using hb
  subst e
  exact I1.Fv (Nat.le_refl _) (I1.hok.fresh (Nat.le_refl _))
theorem QL {J:It} (k:Nat) (hk:k<=1000) (Pv:Nat->List V->Hp->Prop) (h0:Pv 0 [] H) (hgo:∀ i ys H,i<k->Pv i ys H->J.go i H) (hst:∀ ys H,Pv k ys H->J.stop k H) (hl:∀ i ys H,Pv i ys H->ys.length<=i)
  (hs:∀ c i x ys H H',i<k->J.yld i H x H'->Pv i ys H->g c x (List.replicate n none++σ) H' fun σ2 H2=>tt c σ2 H2 fun b H3=>if b=true then te c σ2 H3 fun v H4=>Pv (i+1) (ys++[v]) H4 else Pv (i+1) ys H3)
  (hd:∀ ys H,Pv k ys H->∀ p,H p=none->Q (.ref p) (upd H p (.lst ys))):Km J n g tt te σ Q H:=by
 refine⟨fun i m ys H=>m=k - i/\i<=k/\Pv i ys H,⟨k,by simp,Nat.zero_le _,h0⟩,?_⟩
 rintro c i m ys H ⟨rfl,hi,p⟩
 by_cases hlt:i<k
 ·refine .inr ⟨hgo i ys H hlt p,?_,Pv (i+1),fun ys' H' p'=>⟨k - (i+1),by omega,rfl,hlt,p'⟩,fun x H' y=>hs c i x ys H H' hlt y p⟩
  have:=hl i ys H p
  have h24:=sizeLine_eq
  omega
 ·have e:i=k:=by omega
  subst e
  exact .inl ⟨hst ys H p,hd ys H p⟩
theorem QK {lo:Int}{k:Nat} (hk:k<=1000) (Pv:Nat->List V->Hp->Prop) (h0:Pv 0 [] H) (hl:∀ i ys H,Pv i ys H->ys.length<=i)
  (hs:∀ c i ys H,i<k->Pv i ys H->g c (.int (lo+i)) (List.replicate n none++σ) H fun σ2 H2=>tt c σ2 H2 fun b H3=>if b=true then te c σ2 H3 fun v H4=>Pv (i+1) (ys++[v]) H4 else Pv (i+1) ys H3)
  (hd:∀ ys H,Pv k ys H->∀ p,H p=none->Q (.ref p) (upd H p (.lst ys))):Km (Itr lo k) n g tt te σ Q H :=
 QL k hk Pv h0 (fun i ys H hi p=>hi) (fun ys H p=>Nat.le_refl k) hl (fun c i x ys H H' hi y p=>by
  obtain⟨e,y⟩:=y
  subst e y
  exact hs c i ys _ hi p) hd
end
end L2
namespace NfSort
open PySem PySem.W PyProof.Rows
def kwp {α:Type} (n:Nat) (key:Nat->Int):KasT α->(α->Prop)->Prop
 | .ret a,Q=>Q a
 | .ask i j k,Q=>i<n/\j<n/\kwp n key (k (decide (key i<key j))) Q
theorem cQ {α:Type}{n:Nat}{key:Nat->Int}{Q Q':α->Prop} (h:∀ a,Q a->Q' a):∀ {t:KasT α},kwp n key t Q->kwp n key t Q'
 | .ret a,q=>h a q
 | .ask _ _ k,q=>⟨q.1,q.2.1,cQ h q.2.2⟩
theorem gM {α β:Type}{n:Nat}{key:Nat->Int}{f:α->KasT β}{Q:β->Prop}:∀ {t:KasT α},kwp n key t (fun a=>kwp n key (f a) Q)->kwp n key (t.bind f) Q
 | .ret a,q=>q
 | .ask _ _ k,q=>⟨q.1,q.2.1,gM q.2.2⟩
theorem Dc {α:Type}{n:Nat}{key:Nat->Int}{cmp:Nat->Nat->(Bool->Shared->Prop)->Shared->Prop}{s:Shared}{G:α->Shared->Prop} (hc:∀ i j C,i<n->j<n->C (decide (key i<key j)) s->cmp i j C s) :
  ∀ {t:KasT α},kwp n key t (fun a=>G a s)->t.kasWp cmp G s
 | .ret _,q=>q
 | .ask i j k,q=>hc i j _ q.1 q.2.1 (Dc hc q.2.2)
section
variable {n:Nat}{key:Nat->Int}{p:Array Nat}
def Pm (n:Nat) (p:Array Nat):Prop:=p.Perm (List.range n).toArray
def kk (key:Nat->Int) (p:Array Nat) (i:Nat):Int:=key (p.getD i 0)
theorem Pm.size (h:Pm n p):p.size=n:=by
 have:=Array.Perm.size_eq h
 simpa using this
theorem getD_eq (p:Array Nat) (i:Nat):p.getD i 0=(p[i]?).getD 0:=by
 by_cases h:i<p.size <;> simp [Array.getD,h]
theorem Pm.lt (h:Pm n p) {i:Nat} (hi:i<n):p.getD i 0<n:=by
 have hs:=h.size
 have hi':i<p.size:=by omega
 have hm:p[i]∈p.toList:=by
  have:=Array.getElem_mem hi'
  simpa using this
 have hp:p.toList.Perm (List.range n):=by
  have:=Array.perm_iff_toList_perm.mp h
  simpa using this
 have e:p.getD i 0=p[i]:=by simp [Array.getD,hi']
 rw [e]
 exact List.mem_range.mp (hp.mem_iff.mp hm)
theorem Pm.rev (h:Pm n p) (i j:Nat):Pm n (kas_rev p i j):=Array.Perm.trans (mirror_perm _ _ _ _) h
theorem Pm.bub (h:Pm n p) (i j:Nat):Pm n (bubble p i j):=Array.Perm.trans (bubble_perm _ _ _) h
theorem vL (h:Pm n p) {i j:Nat} (hj:j<=n) (t:Nat):kk key (kas_rev p i j) t=if i<=t/\t<j then kk key p (i+j - 1 - t) else kk key p t:=by
 unfold kk kas_rev
 rw [getD_eq,getElem?_mirror_all (by rw [h.size]; exact hj)]
 split
 ·rw [getD_eq]
 ·rw [getD_eq]
theorem QM (h:Pm n p) {k l:Nat} (hk:k<n) (hl:l<=k) (t:Nat):kk key (bubble p k (k - l)) t=if t=l then kk key p k else if l<t/\t<=k then kk key p (t - 1) else kk key p t:=by
 unfold kk
 rw [getD_eq,getElem?_bubble (by rw [h.size]; exact hk) _ (by omega)]
 have e:k - (k - l)=l:=by omega
 rw [e]
 split
 ·rw [getD_eq]
 ·split
  ·rw [getD_eq]
  ·rw [getD_eq]
def Up (key:Nat->Int) (p:Array Nat) (m:Nat):Prop:=∀ i j,i<=j->j<m->kk key p i<=kk key p j
def Dn (key:Nat->Int) (p:Array Nat) (m:Nat):Prop:=∀ i j,i<=j->j<m->kk key p j<=kk key p i
def Rn (key:Nat->Int) (p:Array Nat) (m q:Nat):Prop:=q+1<=m/\∀ t,m<=t+q+1->t<m->kk key p t=kk key p (m - 1)
theorem Up.more {a:Nat} (h:Up key p a) (h1:1<=a) (hx:kk key p (a - 1)<=kk key p a):Up key p (a+1):=fun i j hij hj=>by
 by_cases hja:j<a
 ·exact h i j hij hja
 ·obtain rfl:j=a:=by omega
  by_cases hi:i=j
  ·subst hi; exact Int.le_refl _
  ·exact Int.le_trans (h i (j - 1) (by omega) (by omega)) hx
theorem Dn.more {a:Nat} (h:Dn key p a) (h1:1<=a) (hx:kk key p a<=kk key p (a - 1)):Dn key p (a+1):=fun i j hij hj=>by
 by_cases hja:j<a
 ·exact h i j hij hja
 ·obtain rfl:j=a:=by omega
  by_cases hi:i=j
  ·subst hi; exact Int.le_refl _
  ·exact Int.le_trans hx (h i (j - 1) (by omega) (by omega))
theorem Br (hp:Pm n p):∀ (f a:Nat),1<=a->a+f<=n->Up key p a->kwp n key (kas_asc p f a) (fun m=>a<=m/\m<=a+f/\Up key p m/\(m<a+f->kk key p m<kk key p (m - 1)))
 | 0,a,h1,hf,hu=>⟨Nat.le_refl _,Nat.le_refl _,hu,fun h=>absurd h (by omega)⟩
 | f+1,a,h1,hf,hu=>by
  refine⟨hp.lt (by omega),hp.lt (by omega),?_⟩
  by_cases hc:key (p.getD a 0)<key (p.getD (a - 1) 0)
  ·(rw [decide_eq_true hc]; dsimp only; rw [if_pos rfl])
   exact⟨Nat.le_refl _,by omega,hu,fun _=>hc⟩
  ·(rw [decide_eq_false hc]; dsimp only; rw [if_neg Bool.false_ne_true])
   refine cQ (fun m ⟨a1,a2,a3,a4⟩=>⟨by omega,by omega,a3,fun h=>a4 (by omega)⟩) (Br hp f (a+1) (by omega) (by omega) (hu.more h1 (Int.not_lt.mp hc)))
theorem Ck (hp:Pm n p) {a q:Nat} (ha:a<=n) (hr:Rn key p a q) (t:Nat):kk key (kas_rev p (a - (q+1)) a) t=kk key p t:=by
 rw [vL hp ha]
 split
 ·rename_i h
  rw [hr.2 t (by omega) h.2]
  exact hr.2 _ (by have:=hr.1; omega) (by omega)
 ·rfl
theorem Dn.eq {p':Array Nat}{m:Nat} (h:Dn key p m) (e:∀ t,kk key p' t=kk key p t):Dn key p' m:=fun i j a b=>by rw [e,e]; exact h i j a b
theorem Ds:∀ (f:Nat) (p:Array Nat) (a q:Nat),Pm n p->1<=a->a+f<=n->Dn key p a->Rn key p a q ->
  kwp n key (kas_desc f p a q) (fun r=>Pm n r.1/\a<=r.2.1/\r.2.1<=a+f/\Dn key r.1 r.2.1/\Rn key r.1 r.2.1 r.2.2)
 | 0,p,a,q,hp,h1,hf,hd,hr=>⟨hp,Nat.le_refl _,Nat.le_refl _,hd,hr⟩
 | f+1,p,a,q,hp,h1,hf,hd,hr=>by
  refine⟨hp.lt (by omega),hp.lt (by omega),?_⟩
  have fin:∀ {p':Array Nat}{q':Nat},Pm n p'->Dn key p' (a+1)->Rn key p' (a+1) q'->kwp n key (kas_desc f p' (a+1) q') (fun r=>Pm n r.1/\a<=r.2.1/\r.2.1<=a+(f+1)/\Dn key r.1 r.2.1/\Rn key r.1 r.2.1 r.2.2):=fun x y z =>
   cQ (fun r ⟨a1,a2,a3,a4,a5⟩=>⟨a1,by omega,by omega,a4,a5⟩) (Ds f _ (a+1) _ x (by omega) (by omega) y z)
  have rn0:∀ p':Array Nat,Rn key p' (a+1) 0:=fun p'=>⟨by omega,fun t h1 h2=>by
   have e:t=a+1 - 1:=by omega
   rw [e]⟩
  by_cases hc:key (p.getD a 0)<key (p.getD (a - 1) 0)
  ·(rw [decide_eq_true hc]; dsimp only; rw [if_pos rfl])
   have hc':kk key p a<kk key p (a - 1):=hc
   by_cases hq:q > 0
   ·rw [if_pos hq]
    have e:=Ck (key:=key) hp (by omega) hr
    exact fin (hp.rev _ _) ((hd.more h1 (Int.le_of_lt hc')).eq e) (rn0 _)
   ·rw [if_neg hq]
    exact fin hp (hd.more h1 (Int.le_of_lt hc')) (rn0 _)
  ·(rw [decide_eq_false hc]; dsimp only; rw [if_neg Bool.false_ne_true])
   refine⟨hp.lt (by omega),hp.lt (by omega),?_⟩
   by_cases hc2:key (p.getD (a - 1) 0)<key (p.getD a 0)
   ·(rw [decide_eq_true hc2]; dsimp only; rw [if_pos rfl])
    exact⟨hp,Nat.le_refl _,(by show a<=a+(f+1); omega),hd,hr⟩
   ·(rw [decide_eq_false hc2]; dsimp only; rw [if_neg Bool.false_ne_true])
    have e:kk key p a=kk key p (a - 1):=Int.le_antisymm (Int.not_lt.mp hc2) (Int.not_lt.mp hc)
    refine fin hp (hd.more h1 (Int.le_of_eq e)) ⟨by have:=hr.1; omega,fun t t1 t2=>?_⟩
    show _=kk key p a
    by_cases ht:t=a
    ·rw [ht]
    ·rw [e]
     exact hr.2 t (by omega) (by omega)
theorem wM {a:Nat} (hp:Pm n p) (h1:1<=a) (ha:a<=n) (hd:Dn key p a):kwp n key (kas_tail3 a n p) (fun r=>Pm n r.2/\1<=r.1/\r.1<=n/\Up key r.2 r.1):=by
 unfold kas_tail3
 have hu:Up key (kas_rev p 0 a) a:=fun i j hij hj=>by
  rw [vL hp ha,vL hp ha,if_pos ⟨by omega,by omega⟩,if_pos ⟨by omega,hj⟩]
  exact hd _ _ (by omega) (by omega)
 refine gM (cQ (fun m ⟨a1,a2,a3,_⟩=>?_) (Br (hp.rev 0 a) (n - a) a h1 (by omega) hu))
 exact⟨hp.rev 0 a,by omega,by omega,a3⟩
theorem pB {a:Nat} (hp:Pm n p) (ha:a+1<=n) (hd:Dn key p (a+1)):kwp n key (kas_descPart a n p) (fun r=>Pm n r.2/\1<=r.1/\r.1<=n/\Up key r.2 r.1):=by
 unfold kas_descPart
 refine gM (cQ (fun r ⟨a1,a2,a3,a4,a5⟩=>?_) (Ds (n - (a+1)) p (a+1) 0 hp (by omega) (by omega) hd ⟨by omega,fun t h1 h2=>by
  have e:t=a+1 - 1:=by omega
  rw [e]⟩))
 split
 ·exact wM (a1.rev _ _) (by omega) (by omega) (a4.eq (Ck a1 (by omega) a5))
 ·exact wM a1 (by omega) (by omega) a4
theorem J6 (hp:Pm n p) (h1:1<=n):kwp n key (kas_count n p) (fun r=>Pm n r.2/\1<=r.1/\r.1<=n/\Up key r.2 r.1):=by
 unfold kas_count
 have u1:Up key p 1:=fun i j hij hj=>by
  have e:i=j:=by omega
  rw [e]; exact Int.le_refl _
 refine gM (cQ (fun m ⟨a1,a2,a3,a4⟩=>?_) (Br hp (n - 1) 1 (Nat.le_refl _) (by omega) u1))
 by_cases hm:m=n
 ·rw [if_pos (by simpa using hm)]
  exact⟨hp,by omega,by omega,a3⟩
 ·rw [if_neg (by simpa using hm)]
  have hlt:=a4 (by omega)
  by_cases hm1:m > 1
  ·rw [if_pos hm1]
   refine⟨hp.lt (by omega),hp.lt (by omega),?_⟩
   by_cases hc:key (p.getD 0 0)<key (p.getD (m - 1) 0)
   ·(rw [decide_eq_true hc]; dsimp only; rw [if_pos rfl])
    exact⟨hp,by omega,by omega,a3⟩
   ·(rw [decide_eq_false hc]; dsimp only; rw [if_neg Bool.false_ne_true])
    have hall:∀ t,t<m->kk key p t=kk key p 0:=fun t ht=>by
     have e1:=a3 0 t (by omega) ht
     have e2:=a3 t (m - 1) (by omega) (by omega)
     have e3:kk key p (m - 1)<=kk key p 0:=Int.not_lt.mp hc
     omega
    have e:∀ t,kk key (kas_rev p 0 m) t=kk key p t:=fun t=>by
     rw [vL hp (by omega)]
     split
     ·rename_i h
      rw [hall t h.2,hall _ (by omega)]
     ·rfl
    refine pB (hp.rev 0 m) (by omega) (Dn.eq (p:=p) (Dn.more (fun i j hij hj=>?_) (by omega) (Int.le_of_lt hlt)) e)
    rw [hall i (by omega),hall j hj]
    exact Int.le_refl _
  ·rw [if_neg hm1]
   obtain rfl:m=1:=by omega
   refine pB hp (by omega) (Dn.more (fun i j hij hj=>?_) (by omega) (Int.le_of_lt hlt))
   have e:i=j:=by omega
   rw [e]; exact Int.le_refl _
theorem qP {k:Nat} (hp:Pm n p) (hk:k<n) (hu:Up key p k):∀ (f l r:Nat),l<=r->r<=k->r<=l+f->(∀ t,t<l->kk key p t<=kk key p k)->(∀ t,r<=t->t<k->kk key p k<kk key p t) ->
  kwp n key (kas_place p k f l r) (fun l'=>l'<=k/\(∀ t,t<l'->kk key p t<=kk key p k)/\(∀ t,l'<=t->t<k->kk key p k<kk key p t))
 | 0,l,r,h1,h2,h3,h4,h5=>⟨by omega,h4,fun t a b=>h5 t (by omega) b⟩
 | f+1,l,r,h1,h2,h3,h4,h5=>by
  unfold kas_place
  by_cases hlr:l ≥ r
  ·rw [if_pos hlr]
   exact⟨by omega,h4,fun t a b=>h5 t (by omega) b⟩
  ·rw [if_neg hlr]
   have hm:(l+r) / 2<r:=by omega
   refine⟨hp.lt hk,hp.lt (by omega),?_⟩
   by_cases hc:key (p.getD k 0)<key (p.getD ((l+r) / 2) 0)
   ·(rw [decide_eq_true hc]; dsimp only; rw [if_pos rfl])
    have hc':kk key p k<kk key p ((l+r) / 2):=hc
    exact qP hp hk hu f l _ (by omega) (by omega) (by omega) h4 fun t a b=>Int.lt_of_lt_of_le hc' (hu _ t a b)
   ·(rw [decide_eq_false hc]; dsimp only; rw [if_neg Bool.false_ne_true])
    have hc':kk key p ((l+r) / 2)<=kk key p k:=Int.not_lt.mp hc
    exact qP hp hk hu f _ r (by omega) (by omega) (by omega) (fun t a=>Int.le_trans (hu t _ (by omega) (by omega)) hc') h5
theorem Ke:∀ (f:Nat) (p:Array Nat) (k:Nat),Pm n p->k+f<=n->Up key p k->kwp n key (kas_bin f p k) (fun p'=>Pm n p'/\Up key p' (k+f))
 | 0,p,k,hp,hk,hu=>⟨hp,hu⟩
 | f+1,p,k,hp,hk,hu=>by
  unfold kas_bin
  refine gM (cQ (fun l ⟨a1,a2,a3⟩=>?_) (qP hp (by omega) hu k 0 k (Nat.zero_le _) (Nat.le_refl _) (by omega) (fun t h=>absurd h (by omega)) (fun t h1 h2=>absurd h1 (by omega))))
  have e:=QM (key:=key) hp (k:=k) (by omega) a1
  have hu':Up key (bubble p k (k - l)) (k+1):=fun i j hij hj=>by
   rw [e,e]
   by_cases hi:i=l
   ·rw [if_pos hi]
    by_cases hj':j=l
    ·rw [if_pos hj']; exact Int.le_refl _
    ·rw [if_neg hj',if_pos ⟨by omega,by omega⟩]
     exact Int.le_of_lt (a3 _ (by omega) (by omega))
   ·rw [if_neg hi]
    by_cases hi2:l<i/\i<=k
    ·rw [if_pos hi2,if_neg (by omega),if_pos ⟨by omega,by omega⟩]
     exact hu _ _ (by omega) (by omega)
    ·rw [if_neg hi2]
     by_cases hj':j=l
     ·rw [if_pos hj']
      exact a2 i (by omega)
     ·rw [if_neg hj']
      by_cases hj2:l<j/\j<=k
      ·rw [if_pos hj2]
       exact hu _ _ (by omega) (by omega)
      ·rw [if_neg hj2]
       exact hu _ _ hij (by omega)
  refine cQ (fun p' ⟨b1,b2⟩=>⟨b1,?_⟩) (Ke f _ (k+1) (hp.bub _ _) (by omega) hu')
  have e2:k+(f+1)=k+1+f:=by omega
  rw [e2]; exact b2
theorem KN (h1:1<=n):kwp n key (kas_sort n) (fun p=>Pm n p/\Up key p n):=by
 unfold kas_sort
 refine gM (cQ (fun r ⟨a1,a2,a3,a4⟩=>?_) (J6 (p:=(List.range n).toArray) (Array.Perm.refl _) h1))
 have e:max r.1 1=r.1:=by omega
 rw [e]
 split
 ·refine cQ (fun p' ⟨b1,b2⟩=>⟨b1,?_⟩) (Ke (n - r.1) r.2 r.1 a1 (by omega) a4)
  have e2:r.1+(n - r.1)=n:=by omega
  rw [e2] at b2; exact b2
 ·have e2:r.1=n:=by omega
  rw [e2] at a4
  exact⟨a1,a4⟩
end
end NfSort
namespace L2
open PySem PySem.Spec PyProof.Rows
section
variable {prog:Program}{w:World}{A:Around}{E:Value->Shared->Prop}{s:Shared}
end
section
variable {X:Cx}{pos:Pos}
def MF (K:W.Frag) (n:Nat) (t:TGs):TG:=fun v σ H Q=>∃ a xs,v=.ref a/\SqL K H a xs/\xs.length=n/\t xs σ H Q
end
section
variable {X:Cx}
theorem wA:bO X (.builtin "isinstance") (fun xs H Q=>∃ x c t b,xs=[x,.ty c]/\TyOf X.K H x t/\W.kitOne X.K t (.type c)=some b/\Q (.bl b) H):=by
 intro pins s σ H xs us Q I r h
 obtain⟨x,c,t,b,rfl,ty,e,q⟩:=h
 obtain⟨u,u2,rfl,rx,rc⟩:=vals2 r
 cases rc
 exact Fo I rx ty e fun tk=>⟨.bl b,H,I.tok _,rfl,q⟩
theorem uO:∀ {bs:List Bool}{us:List Value},Vals (bs.map V.bl) us->us=bs.map Value.bool
 | [],_,h=>by cases h; rfl
 | b::bs,_,h=>by
  cases h with
  | cons r t =>
   cases r
   rw [uO t]
   rfl
theorem all_range (bs:List Bool):(List.range bs.length).all (fun i=>bs.getD i true)=bs.all id:=by
 rw [Bool.eq_iff_iff]
 simp only [List.all_eq_true,List.mem_range]
 constructor
 ·intro h x hx
  obtain⟨i,hi,e⟩:=List.mem_iff_getElem.mp hx
  have q:=h i hi
  simp [hi] at q
  rw [← e]; exact q
 ·intro h i hi
  have q:=h bs[i] (List.getElem_mem hi)
  simpa [hi] using q
theorem Gh (hc:X.calm=true):bO X (.builtin "all") (fun xs H Q=>∃ (p:Addr) (bs:List Bool),xs=[.ref p]/\SqL X.K H p (bs.map V.bl)/\Q (.bl (bs.all id)) H):=by
 intro pins s σ H xs us Q I r h
 obtain⟨p,bs,rfl,hp,q⟩:=h
 obtain⟨u,rfl,rx⟩:=vals1 r
 cases rx
 obtain⟨its,rv,pl,hz⟩:=I.list hp
 have e:=uO rv
 subst e
 have hlt:p≠s.heap.objs.size:=by obtain⟨o,ho,_⟩:=pl.isList; exact Nat.ne_of_lt (Heap.lt_size ho)
 refine call_all_walk (wpAny_pyIter_list pl.isList ?_)
 refine⟨_,_,_,_,_,_,fun i=>bs.getD i true,rfl,Walks.list (A:=X.A.in1) (I.ok.hd hc) _ p hlt _,⟨⟨_,Heap.get?_push_size _ rfl,rfl,rfl⟩,pl.isList.push _⟩,?_,fun h' tk hk=>?_⟩
 ·intro i v s Q E hP hQ
  have hP':(bs.map Value.bool)[i]?=some v:=by simpa using hP
  rw [List.getElem?_map] at hP'
  cases hb:bs[i]? with
  | none=>rw [hb] at hP'; cases hP'
  | some b =>
   rw [hb] at hP'
   cases hP'
   refine wpAny_truthy_bool ?_
   have e:bs.getD i true=b:=by rw [List.getD_eq_getElem?_getD,hb]; rfl
   have hQ':Q (bs.getD i true) s:=hQ
   rw [e] at hQ'
   exact hQ'
 ·have e:(List.range (bs.map Value.bool).toArray.size).all (fun i=>bs.getD i true)=bs.all id:=by
   rw [List.size_toArray,List.length_map]
   exact all_range bs
  rw [e]
  refine⟨.bl (bs.all id),H,I.kept fun b o eb=>hk b o ?_ (Heap.get?_push_of_some _ eb),rfl,q⟩
  intro hm
  have:b=s.heap.objs.size:=by simpa using hm
  exact absurd (Heap.lt_size eb) (by rw [this]; exact Nat.lt_irrefl _)
theorem FZ (hc:X.calm=true):bO X (.builtin "min") (fun xs H Q=>∃ p a b,xs=[.ref p]/\SqT X.K H p [.int a,.int b]/\Q (.int (if b<a then b else a)) H):=by
 intro pins s σ H xs us Q I r h
 obtain⟨p,a,b,rfl,hp,q⟩:=h
 obtain⟨u,rfl,rx⟩:=vals1 r
 cases rx
 obtain⟨its,rv,pl,hz⟩:=I.tuple hp
 obtain⟨v1,v2,rfl,⟨t1,rfl⟩,⟨t2,rfl⟩⟩:=vals2 rv
 have pl':s.heap.IsTuple p (intItems #[(a,t1),(b,t2)]):=by
  have z:s.heap.IsTuple p #[Value.int a t1,Value.int b t2]:=pl
  simpa [intItems] using z
 have hlt:p<s.heap.objs.size:=by obtain⟨o,ho,_⟩:=pl; exact Heap.lt_size ho
 refine call_min_walk (wpAny_pyIter_tuple pl' ?_)
 refine⟨_,[s.heap.objs.size,p],[s.heap.objs.size],_,_,_,_,rfl,Walks.tuple (A:=X.A.in1) (I.ok.hd hc) _ p (Nat.ne_of_lt hlt) (intItems #[(a,t1),(b,t2)]),⟨⟨_,Heap.get?_push_size _ rfl,rfl,rfl⟩,pl'.push _⟩,fun c hc=>?_,by simp [intItems],
  CmpOf.ints_lt (numAt #[(a,t1),(b,t2)]) (fun _ _=>intItems_at),fun v h' tk hP hk=>?_⟩
 ·show c<(s.heap.push _).objs.size
  rw [Heap.size_push]
  rcases List.mem_cons.mp hc with rfl | hc
  ·exact Nat.lt_succ_self _
  ·have:c=p:=by simpa using hc
   rw [this]; exact Nat.lt_succ_of_lt hlt
 ·have hv:v=if b<a then Value.int b t2 else Value.int a t1:=by
   have hP':(intItems #[(a,t1),(b,t2)])[argBest (fun i j=>decide (numAt #[(a,t1),(b,t2)] i<numAt #[(a,t1),(b,t2)] j)) 1]?=some v:=by
    have hsz2:(intItems #[(a,t1),(b,t2)]).size - 1=1:=by simp [intItems]
    rw [← hsz2]; exact hP
   by_cases hba:b<a
   ·have e:argBest (fun i j=>decide (numAt #[(a,t1),(b,t2)] i<numAt #[(a,t1),(b,t2)] j)) 1=1:=by simp [argBest,numAt,hba]
    rw [e] at hP'
    simpa [intItems,hba] using hP'.symm
   ·have e:argBest (fun i j=>decide (numAt #[(a,t1),(b,t2)] i<numAt #[(a,t1),(b,t2)] j)) 1=0:=by simp [argBest,numAt,hba]
    rw [e] at hP'
    simpa [intItems,hba] using hP'.symm
  subst hv
  refine⟨.int (if b<a then b else a),H,I.kept fun b o eb=>hk b o ?_ (Heap.get?_push_of_some _ eb),?_,q⟩
  ·intro hm
   have:b=s.heap.objs.size:=by simpa using hm
   exact absurd (Heap.lt_size eb) (by rw [this]; exact Nat.lt_irrefl _)
  ·by_cases hba:b<a
   ·rw [if_pos hba,if_pos hba]; exact⟨_,rfl⟩
   ·rw [if_neg hba,if_neg hba]; exact⟨_,rfl⟩
theorem Gd (hc:X.calm=true):bO X (.builtin "max") (fun xs H Q=>∃ p a b,xs=[.ref p]/\SqT X.K H p [.int a,.int b]/\Q (.int (if b > a then b else a)) H):=by
 intro pins s σ H xs us Q I r h
 obtain⟨p,a,b,rfl,hp,q⟩:=h
 obtain⟨u,rfl,rx⟩:=vals1 r
 cases rx
 obtain⟨its,rv,pl,hz⟩:=I.tuple hp
 obtain⟨v1,v2,rfl,⟨t1,rfl⟩,⟨t2,rfl⟩⟩:=vals2 rv
 have pl':s.heap.IsTuple p (intItems #[(a,t1),(b,t2)]):=by
  have z:s.heap.IsTuple p #[Value.int a t1,Value.int b t2]:=pl
  simpa [intItems] using z
 have hlt:p<s.heap.objs.size:=by obtain⟨o,ho,_⟩:=pl; exact Heap.lt_size ho
 refine call_max_walk (wpAny_pyIter_tuple pl' ?_)
 refine⟨_,[s.heap.objs.size,p],[s.heap.objs.size],_,_,_,_,rfl,Walks.tuple (A:=X.A.in1) (I.ok.hd hc) _ p (Nat.ne_of_lt hlt) (intItems #[(a,t1),(b,t2)]),⟨⟨_,Heap.get?_push_size _ rfl,rfl,rfl⟩,pl'.push _⟩,fun c hc=>?_,by simp [intItems],
  CmpOf.ints_gt (numAt #[(a,t1),(b,t2)]) (fun _ _=>intItems_at),fun v h' tk hP hk=>?_⟩
 ·show c<(s.heap.push _).objs.size
  rw [Heap.size_push]
  rcases List.mem_cons.mp hc with rfl | hc
  ·exact Nat.lt_succ_self _
  ·have:c=p:=by simpa using hc
   rw [this]; exact Nat.lt_succ_of_lt hlt
 ·have hv:v=if b > a then Value.int b t2 else Value.int a t1:=by
   have hP':(intItems #[(a,t1),(b,t2)])[argBest (fun i j=>decide (numAt #[(a,t1),(b,t2)] i > numAt #[(a,t1),(b,t2)] j)) 1]?=some v:=by
    have hsz2:(intItems #[(a,t1),(b,t2)]).size - 1=1:=by simp [intItems]
    rw [← hsz2]; exact hP
   by_cases hba:b > a
   ·have e:argBest (fun i j=>decide (numAt #[(a,t1),(b,t2)] i > numAt #[(a,t1),(b,t2)] j)) 1=1:=by simp [argBest,numAt,hba]
    rw [e] at hP'
    simpa [intItems,hba] using hP'.symm
   ·have e:argBest (fun i j=>decide (numAt #[(a,t1),(b,t2)] i > numAt #[(a,t1),(b,t2)] j)) 1=0:=by simp [argBest,numAt,hba]
    rw [e] at hP'
    simpa [intItems,hba] using hP'.symm
  subst hv
  refine⟨.int (if b > a then b else a),H,I.kept fun b o eb=>hk b o ?_ (Heap.get?_push_of_some _ eb),?_,q⟩
  ·intro hm
   have:b=s.heap.objs.size:=by simpa using hm
   exact absurd (Heap.lt_size eb) (by rw [this]; exact Nat.lt_irrefl _)
  ·by_cases hba:b > a
   ·rw [if_pos hba,if_pos hba]; exact⟨_,rfl⟩
   ·rw [if_neg hba,if_neg hba]; exact⟨_,rfl⟩
theorem uG:bO X (.type "range") (fun xs H Q=>∃ j,xs=[.int j]/\∀ p,H p=none->Q (.ref p) (upd H p (.rng 0 j))):=by
 intro pins s σ H xs us Q I r h
 obtain⟨j,rfl,q⟩:=h
 obtain⟨u,rfl,t,rfl⟩:=vals1 r
 refine call_range_1 ?_
 exact⟨.ref s.heap.objs.size,_,I.laid (o:=.rng 0 j) (fun b o e=>Heap.get?_push_of_some _ e) (Nat.le_refl _) ⟨_,_,_,Heap.get?_push_size _ rfl⟩,rfl,q _ I.fresh⟩
def pF (lo hi:Int):List V:=(List.range (hi - lo).toNat).map fun i=>V.int (lo+(i:Nat))
theorem yZ {lo:Int}:∀ {n:Nat}{us:List Value},us.length=n->(∀ j v,us[j]?=some v->∃ t,v=Value.int (lo+(j:Nat) * 1) t)->Vals ((List.range n).map fun i=>V.int (lo+(i:Nat))) us:=by
 intro n us hl h
 have key:∀ (us:List Value) (k:Nat),(∀ j v,us[j]?=some v->∃ t,v=Value.int (lo+((k+j:Nat):Int)) t)->Vals ((List.range' k us.length).map fun i=>V.int (lo+(i:Nat))) us:=by
  intro us
  induction us with
  | nil=>intro k _; exact .nil
  | cons u us ih =>
   intro k hk
   obtain⟨t,e⟩:=hk 0 u (by simp)
   rw [List.length_cons,List.range'_succ,List.map_cons]
   refine .cons ⟨t,by simpa using e⟩ (ih (k+1) fun j v hv=>?_)
   obtain⟨t,e⟩:=hk (j+1) v (by simpa using hv)
   exact⟨t,by rw [e]; congr 2; omega⟩
 have q:=key us 0 fun j v hv=>by
  obtain⟨t,e⟩:=h j v hv
  exact⟨t,by rw [e]; simp⟩
 rw [hl,← List.range_eq_range'] at q
 exact q
theorem j6 (hc:X.calm=true):bO X (.type "list") (fun xs H Q=>∃ p lo hi,xs=[.ref p]/\H p=some (.rng lo hi)/\(-1000<=lo/\lo<=1000/\-1000<=hi/\hi<=1000)/\∀ l,H l=none->Q (.ref l) (upd H l (.lst (pF lo hi)))):=by
 intro pins s σ H xs us Q I r h
 obtain⟨p,lo,hi,rfl,hp,⟨b1,b2,b3,b4⟩,q⟩:=h
 obtain⟨u,rfl,rx⟩:=vals1 r
 cases rx
 obtain⟨t,u,v,e⟩:=I.hok p _ hp
 have hsz:Builtin.Range.rangeSize lo hi 1=(((hi - lo).toNat:Nat):Int):=by rw [rangeSize_one]; split <;> omega
 refine call_list_range (I.ok.hd hc) (show IsRange s.heap p lo hi 1 t u v from e) (small_one (by omega) (by omega) (by omega) (by omega)) hsz (by omega) fun h' tk acc' c' hk ho ⟨hn,hit⟩=>?_
 have hv:Vals (pF lo hi) acc'.toList:=yZ (by simpa using hn) fun j w hw=>hit j w (by simpa using hw)
 refine⟨.ref s.heap.objs.size,_,I.laid (o:=.lst (pF lo hi)) hk (Nat.le_refl _) ⟨?_,acc'.toList,c',hv,by simpa using ho⟩,rfl,q _ I.fresh⟩
 unfold pF
 rw [List.length_map,List.length_range,sizeLine_eq]
 omega
end
abbrev Tie:=Int×Int
def Pr (H:Hp) (v:V) (t:Tie):Prop:=∃ p,v=.ref p/\H p=some (.tup [.int t.1,.int t.2])
abbrev Prs (H:Hp):List V->List Tie->Prop:=Paired (Pr H)
def bW (t:Tie):Int:=64 * t.1+t.2
def yW (t:Tie):Prop:=0<=t.2/\t.2<64
def jB (h:Heap) (u:Value) (t:Tie):Prop:=∃ a o t1 t2 n,u=.ref a/\h.get? a=some o/\o.cls=.type "tuple"/\o.data=.seq #[.int t.1 t1,.int t.2 t2] n
theorem jB.keep {h h':Heap}{u:Value}{t:Tie} (x:jB h u t) (k:∀ a o,h.get? a=some o->o.cls=.type "tuple"->h'.get? a=some o):jB h' u t:=by
 obtain⟨a,o,t1,t2,n,e,ho,hc,hd⟩:=x
 exact⟨a,o,t1,t2,n,e,k a o ho hc,hc,hd⟩
theorem SM {α β:Type}{F:α->β->Prop}{l₁:List α}{l₂:List β} (h:Paired F l₁ l₂):∀ {i:Nat}{b:β},l₂[i]?=some b->∃ a,l₁[i]?=some a/\F a b:=by
 induction h with
 | nil=>intro i x e; simp at e
 | cons r t ih =>
  intro i x e
  cases i with
  | zero=>simp at e; subst e; exact⟨_,rfl,r⟩
  | succ i =>
   obtain⟨c,e1,f⟩:=ih (by simpa using e)
   exact⟨c,by simpa using e1,f⟩
theorem Hg {α β:Type}{F:α->β->Prop}{l₁:List α}{l₂:List β} (h:Paired F l₁ l₂) (da:α) (db:β):∀ (p:List Nat),(∀ i∈p,i<l₂.length)->Paired F (p.map fun i=>l₁.getD i da) (p.map fun i=>l₂.getD i db)
 | [],_=>.nil
 | i::p,hp=>by
  have hi:i<l₂.length:=hp i List.mem_cons_self
  obtain⟨a,e,f⟩:=SM h (i:=i) (b:=l₂[i]) (by simp [hi])
  refine .cons ?_ (Hg h da db p fun j hj=>hp j (List.mem_cons_of_mem _ hj))
  have e1:l₁.getD i da=a:=by rw [List.getD_eq_getElem?_getD,e]; rfl
  have e2:l₂.getD i db=l₂[i]:=by simp [hi]
  show F (l₁.getD i da) (l₂.getD i db)
  rw [e1,e2]
  exact f
theorem R4 {α:Type}:∀ us:List α,List.map (fun x=>x.snd) (us.zip us)=us
 | []=>rfl
 | u::us=>by rw [List.zip_cons_cons,List.map_cons,R4 us]
theorem jl {α:Type} (l:List α) (d:α):(List.range l.length).map (fun i=>l.getD i d)=l:=by
 apply List.ext_getElem
 ·simp
 ·intro i h1 h2
  simp at h1 ⊢
  simp [h1]
section
variable {X:Cx}{pins:List (Addr×Obj)}{σ:St}{H:Hp}{s:Shared}
theorem Inv.pairs (I:Inv X pins σ H s):∀ {vs:List V}{ts:List Tie}{us:List Value},Prs H vs ts->Vals vs us->Paired (jB s.heap) us ts
 | _,_,_,.nil,r=>by cases r; exact .nil
 | _,_,_,.cons p q,r=>by
  cases r with
  | cons r rr =>
   refine .cons ?_ (I.pairs q rr)
   obtain⟨a,rfl,e⟩:=p
   cases r
   obtain⟨_,its,rv,⟨o,ho,hc,n,hd⟩⟩:=I.hok a _ e
   obtain⟨v1,v2,rfl,⟨t1,rfl⟩,⟨t2,rfl⟩⟩:=vals2 rv
   exact⟨a,o,t1,t2,n,rfl,ho,hc,hd⟩
end
section
variable {prog:Program}{w:World}{A:Around}{E:Value->Shared->Prop}{s:Shared}
theorem IK {x y:Value}{a b:Tie}{Q:Bool->Shared->Prop} (hx:jB s.heap x a) (hy:jB s.heap y b) (na:yW a) (nb:yW b) (h:Q (decide (bW a<bW b)) s):wpAny (model prog w) A (keyLt' (tuples' true) x y) Q E s:=by
 obtain⟨p,o,t1,t2,n,rfl,ho,hc,hd⟩:=hx
 obtain⟨p',o',t1',t2',n',rfl,ho',hc',hd'⟩:=hy
 obtain⟨a1,a2⟩:=a
 obtain⟨b1,b2⟩:=b
 unfold yW at na nb
 simp only at na nb
 refine W.kat_lt ho hd ho' hd' ?_
 refine W.kat_cons (wpAny_eqBool_int ?_)
 by_cases e1:a1=b1
 ·subst e1
  rw [beq_self_eq_true]
  refine W.kat_yes (W.kat_cons (wpAny_eqBool_int ?_))
  by_cases e2:a2=b2
  ·subst e2
   rw [beq_self_eq_true]
   refine W.kat_yes (W.kat_nil ?_)
   have e:decide (bW (a1,a2)<bW (a1,a2))=false:=decide_eq_false (Int.lt_irrefl _)
   rw [e] at h
   exact h
  ·rw [beq_eq_false_iff_ne.mpr e2]
   refine W.kat_no (W.kat_one _ _ (lt_int ?_))
   have e:decide (bW (a1,a2)<bW (a1,b2))=decide (a2<b2):=by
    apply decide_eq_decide.mpr
    unfold bW
    omega
   rw [e] at h
   exact h
 ·rw [beq_eq_false_iff_ne.mpr e1]
  refine W.kat_no (oneLt_int ?_)
  have e:decide (bW (a1,a2)<bW (b1,b2))=decide (a1<b1):=by
   apply decide_eq_decide.mpr
   unfold bW
   simp only
   constructor
   ·intro h; omega
   ·intro h; omega
  rw [e] at h
  exact h
theorem Jg:∀ {us:List Value}{ts:List Tie},Paired (jB s.heap) us ts->∃ fs,W.KatTups s.heap us fs/\fs.length=us.length/\∀ v∈fs,∃ i t,v=Value.int i t
 | _,_,.nil=>⟨[],.nil,rfl,fun _ h=>nomatch h⟩
 | _,_,.cons p q=>by
  obtain⟨a,o,t1,t2,n,rfl,ho,hc,hd⟩:=p
  obtain⟨fs,k,hl,hv⟩:=Jg q
  refine⟨_::fs,.cons ho hc hd (f:=Value.int _ t1) rfl k,by simp [hl],fun v hv'=>?_⟩
  rcases List.mem_cons.mp hv' with rfl | h
  ·exact⟨_,_,rfl⟩
  ·exact hv v h
theorem Ed {a:Addr}{us:List Value}{ts:List Tie}{n:Nat}{P:PySem.Fin->Shared->Prop} (ho:s.heap.get? a=some (seqObj "list" us.toArray n))
  (hp:Paired (jB s.heap) us ts) (hn:∀ t∈ts,yW t) (h64:us.length<64)
  (h:∀ p:List Nat,p.Perm (List.range us.length)->(∀ i j,i<=j->j<us.length->bW (ts.getD (p.getD i 0) (0,0))<=bW (ts.getD (p.getD j 0) (0,0))) ->
   P (.done (.ret .none)) { s with heap:=sortedHeap s.heap a us (p.map fun i=>us.getD i Value.none).toArray }) :
  wpAny (model prog w) A (Builtin.«list.sort» ⟨[.ref a],[]⟩) P E s:=by
 have hlen:=hp.length
 have h24:=sizeLine_eq
 rw [list_sort_plain]
 have ha:a<s.heap.objs.size:=Heap.lt_size ho
 refine wpAny_bind (listItems_at ho rfl ?_)
 refine wpAny_bind (listUpdate_at ho rfl ?_ (by rw [List.size_toArray,sizeLine_eq]; omega) (Nat.zero_le _))
 obtain⟨e1,ho1⟩:∃ e1,(s.heap.update a (Obj.mapSeq fun _=>(#[]:Array Value))).get? a=some (seqObj "list" #[] e1):=⟨_,get?_update_seq ho (fun _=>#[])⟩
 refine wpAny_bind (seqEpoch_at ho1 rfl ?_)
 refine wpAny_bind (wpAny_newTuple ?_ (by show us.length<=_; rw [sizeLine_eq]; omega))
 refine wpAny_bind (wpAny_newList ?_ (Nat.zero_le _))
 refine wpAny_holding ?_
 have ho6:(((s.heap.update a (Obj.mapSeq fun _=>(#[]:Array Value))).push (seqObj "tuple" us.toArray 0)).push (seqObj "list" #[] 0)).get? a=some (seqObj "list" #[] e1):=by
  rw [Heap.get?_push_ne _ _ _ (by rw [size_push',Heap.size_update]; exact Nat.ne_of_lt (Nat.lt_succ_of_lt ha)),Heap.get?_push_ne _ _ _ (by rw [Heap.size_update]; exact Nat.ne_of_lt ha)]
  exact ho1
 have kept:∀ b o,s.heap.get? b=some o->o.cls=.type "tuple"->(((s.heap.update a (Obj.mapSeq fun _=>(#[]:Array Value))).push (seqObj "tuple" us.toArray 0)).push (seqObj "list" #[] 0)).get? b=some o:=fun b o q hc=>by
  have hlt:b<s.heap.objs.size:=Heap.lt_size q
  have hne:b≠a:=fun z=>by
   rw [z,ho] at q
   cases q
   have z2:(Value.type "list")=Value.type "tuple":=hc
   injection z2 with z3
   exact absurd z3 (by decide)
  rw [Heap.get?_push_ne _ _ _ (by rw [size_push',Heap.size_update]; exact Nat.ne_of_lt (Nat.lt_succ_of_lt hlt)),Heap.get?_push_ne _ _ _ (by rw [Heap.size_update]; exact Nat.ne_of_lt hlt),Heap.get?_update_ne _ _ _ _ hne]
  exact q
 show wpAny (model prog w) A _ P E { s with heap:=((s.heap.update a (Obj.mapSeq fun _=>(#[]:Array Value))).push (seqObj "tuple" us.toArray 0)).push (seqObj "list" #[] 0) }
 dsimp only
 have hsz:us.toArray.size=us.length:=by simp
 have hp6:Paired (jB (((s.heap.update a (Obj.mapSeq fun _=>(#[]:Array Value))).push (seqObj "tuple" us.toArray 0)).push (seqObj "list" #[] 0))) us ts:=Paired.Fb hp fun u t x=>x.keep kept
 by_cases h2:us.toArray.size<2
 ·rw [if_pos h2,if_pos h2]
  refine wpAny_bind (wpAny_pure ?_)
  rw [StateT.run_pure]
  refine wpAny_bind (wpAny_pure ?_)
  dsimp only
  have eout:(arrOf (SortSt.mk' general' (us.toArray.zip us.toArray) #[] 7 none)).map (·.2)=((List.range us.length).map fun i=>us.getD i Value.none).toArray:=by
   rw [jl]
   show (us.toArray.zip us.toArray).map (·.2)=us.toArray
   apply Array.toList_inj.mp
   simp
   exact R4 us
  rw [eout]
  refine wpAny_bind (seqEpoch_at ho6 rfl ?_)
  refine wpAny_bind (listUpdate_at ho6 rfl ?_ (Nat.zero_le _) (by rw [List.size_toArray,List.length_map,List.length_range,sizeLine_eq]; omega))
  simp only [bne_self_eq_false,Bool.false_eq_true,if_false]
  refine wpAny_pure (h _ (List.Perm.refl _) fun i j hij hj=>?_)
  have:i=j:=by omega
  subst this
  exact Int.le_refl _
 ·rw [if_neg h2,if_neg h2]
  have h2':2<=us.length:=by omega
  obtain⟨fs,hk,hfl,hfi⟩:=Jg (s:={ s with heap:=((s.heap.update a (Obj.mapSeq fun _=>(#[]:Array Value))).push (seqObj "tuple" us.toArray 0)).push (seqObj "list" #[] 0) }) hp6
  refine wpAny_bind (W.kat_kind (T:=.type "int") hk (by omega) (fun v hv=>by obtain⟨i,t,rfl⟩:=hfi v hv; exact W.Looks.of_pure rfl) rfl ?_)
  have hcmp:∀ i j C,i<us.length->j<us.length->C (decide (bW (ts.getD i (0,0))<bW (ts.getD j (0,0)))) { s with heap:=((s.heap.update a (Obj.mapSeq fun _=>(#[]:Array Value))).push (seqObj "tuple" us.toArray 0)).push (seqObj "list" #[] 0) } ->
    W.kas_cmp prog w A (tuples' true) (us.toArray.zip us.toArray) i j C { s with heap:=((s.heap.update a (Obj.mapSeq fun _=>(#[]:Array Value))).push (seqObj "tuple" us.toArray 0)).push (seqObj "list" #[] 0) }:=fun i j C hi hj hC=>by
   unfold W.kas_cmp
   rw [W.kat_item rfl,W.kat_item rfl]
   have key:∀ k,k<us.length->jB (((s.heap.update a (Obj.mapSeq fun _=>(#[]:Array Value))).push (seqObj "tuple" us.toArray 0)).push (seqObj "list" #[] 0)) (us.getD k Value.none) (ts.getD k (0,0))/\yW (ts.getD k (0,0)):=fun k hk=>by
    have hk':k<ts.length:=by omega
    have ek:ts.getD k (0,0)=ts[k]:=by simp [hk']
    obtain⟨u,eu,pu⟩:=SM hp6 (i:=k) (b:=ts[k]) (by simp [hk'])
    have eu':us.getD k Value.none=u:=by rw [List.getD_eq_getElem?_getD,eu]; rfl
    rw [ek,eu']
    exact⟨pu,hn _ (List.getElem_mem hk')⟩
   exact IK (key i hi).1 (key j hj).1 (key i hi).2 (key j hj).2 hC
  have G:=W.kas_runs (prog:=prog) (w:=w) (A:=A) (E:=E) (κ:=tuples' true) (it:=us.toArray.zip us.toArray) (n:=us.length) (s:={ s with heap:=((s.heap.update a (Obj.mapSeq fun _=>(#[]:Array Value))).push (seqObj "tuple" us.toArray 0)).push (seqObj "list" #[] 0) })
   (Q:=fun _ st' s'=>∃ p:Array Nat,s'={ s with heap:=((s.heap.update a (Obj.mapSeq fun _=>(#[]:Array Value))).push (seqObj "tuple" us.toArray 0)).push (seqObj "list" #[] 0) }/\arrOf st'=p.map (W.kas_item (us.toArray.zip us.toArray))/\failedOf st'=none/\NfSort.Pm us.length p/\NfSort.Up (fun i=>bW (ts.getD i (0,0))) p us.length)
   (G:=fun p s'=>s'={ s with heap:=((s.heap.update a (Obj.mapSeq fun _=>(#[]:Array Value))).push (seqObj "tuple" us.toArray 0)).push (seqObj "list" #[] 0) }/\NfSort.Pm us.length p/\NfSort.Up (fun i=>bW (ts.getD i (0,0))) p us.length) h2' h64 (fun p' st' s' a1 a2 a3 a4=>⟨p',a4.1,a2,a3,a4.2⟩)
   (NfSort.Dc hcmp (NfSort.cQ (fun p hp=>⟨rfl,hp⟩) (NfSort.KN (by omega))))
  have est:SortSt.mk' (tuples' true) (us.toArray.zip us.toArray) #[] 7 none=W.kas_st (tuples' true) (us.toArray.zip us.toArray) (List.toArray (List.range us.length)):=by
   have e:=W.kas_range (us.toArray.zip us.toArray)
   rw [show (us.toArray.zip us.toArray).size=us.length by simp] at e
   show SortSt.mk' (tuples' true) (us.toArray.zip us.toArray) #[] 7 none=SortSt.mk' (tuples' true) ((List.toArray (List.range us.length)).map (W.kas_item (us.toArray.zip us.toArray))) #[] 7 none
   rw [e]
  have eT:tuples' (Value.type "int" != Value.type "tuple")=tuples' true:=rfl
  rw [eT,est]
  refine wpAny_bind (wpAny_mono G ?_ fun _ _ e=>e)
  rintro ⟨⟨⟩,st'⟩ s' ⟨p,rfl,har,hf,hpm,hup⟩
  dsimp only
  have hout:=W.kat_snds (ks:=us) (vs:=us) rfl har
  rw [hout]
  have hsz2:p.size=us.length:=hpm.size
  refine wpAny_bind (seqEpoch_at ho6 rfl ?_)
  refine wpAny_bind (listUpdate_at ho6 rfl ?_ (Nat.zero_le _) (by rw [List.size_toArray,List.length_map,Array.length_toList,hsz2,sizeLine_eq]; omega))
  rw [hf]
  simp only [bne_self_eq_false,Bool.false_eq_true,if_false]
  refine wpAny_pure (h p.toList ?_ fun i j hij hj=>?_)
  ·have:=Array.perm_iff_toList_perm.mp hpm
   simpa using this
  ·have q:=hup i j hij hj
   unfold NfSort.kk at q
   have eg:∀ k,p.toList.getD k 0=p.getD k 0:=fun k=>by
    rw [NfSort.getD_eq,List.getD_eq_getElem?_getD]
    simp
   rw [eg,eg]
   exact q
theorem sG {l:Addr}{vs:List Value}{Q:List Value->Shared->Prop} (hl:IsTup s.heap l vs.toArray)
  (h:Q vs { s with heap:=(s.heap.push (seqObj "list" #[] 0)).update s.heap.objs.size (Obj.mapSeq (·++vs.toArray)) }) (hsz:vs.length<=sizeLine) :
  wpAny (model prog w) A (collect (.ref l)) Q E s:=by
 obtain⟨o,ho,hc,n,hd⟩:=id hl
 unfold collect
 refine wpAny_bind (wpAny_runValue (codeAny_builtin entry_proto_collect' ?_))
 show wpAny _ _ (do again (.builtin "list.__iadd__" ⟨[← newList [],.ref l],[]⟩)) _ _ s
 refine wpAny_bind (wpAny_newList (wpAny_pure ⟨Code.quiet_builtin _ (by decide +kernel),codeAny_builtin entry_list_iadd' ?_⟩))
 show wpAny _ _ (Builtin.List.listExtendWith (.ref s.heap.objs.size) (.ref l) (.ref s.heap.objs.size)) _ _ { s with heap:=s.heap.push (seqObj "list" #[] 0) }
 unfold Builtin.List.listExtendWith
 have ho':(s.heap.push (seqObj "list" #[] 0)).get? l=some o:=Heap.get?_push_of_some _ ho
 refine wpAny_bind (wpAny_typeOf (T:="tuple") ⟨o,ho',hc⟩ ?_)
 have ht:(Value.type "tuple" == Value.type "tuple")=true:=by rfl
 rw [if_pos (by rw [ht]; simp)]
 refine wpAny_bind (listItems_at ho' hd ?_)
 refine wpAny_bind (listItems_at (xs:=#[]) (n:=0) (Heap.get?_push_size _ rfl) rfl ?_)
 rw [if_neg (by simp)]
 refine wpAny_bind (listUpdate_at (xs:=#[]) (n:=0) (Heap.get?_push_size _ rfl) rfl ?_ (Nat.zero_le _) (by show (#[]++vs.toArray).size<=sizeLine+1; simp only [Array.size_append,List.size_toArray,List.length_nil]; omega))
 refine wpAny_pure ?_
 show wpAny (model prog w) A (do
   let o ← load s.heap.objs.size
   match o.data with
   | .seq xs _=>pure xs.toList
   | _=>unsupported "internal:collect") Q E { s with heap:=(s.heap.push (seqObj "list" #[] 0)).update s.heap.objs.size (Obj.mapSeq (·++vs.toArray)) }
 refine wpAny_bind (wpAny_load (get?_update_seq (Heap.get?_push_size _ rfl) _) ?_)
 show wpAny _ _ (pure ((#[]:Array Value)++vs.toArray).toList) Q E _
 rw [show ((#[]:Array Value)++vs.toArray).toList=vs by simp]
 exact wpAny_pure h
theorem uT {l:Addr}{us:List Value}{ts:List Tie}{Q:Value->Shared->Prop} (hl:s.heap.IsList l us.toArray\/IsTup s.heap l us.toArray) (hp:Paired (jB s.heap) us ts) (hn:∀ t∈ts,yW t) (h64:us.length<64)
  (h:∀ p:List Nat,p.Perm (List.range us.length)->(∀ i j,i<=j->j<us.length->bW (ts.getD (p.getD i 0) (0,0))<=bW (ts.getD (p.getD j 0) (0,0))) ->
   Q (.ref (s.heap.objs.size+1)) { s with heap:=sortedAll s.heap us (p.map fun i=>us.getD i Value.none).toArray }) :
  wpAny (model prog w) A (call (.builtin "sorted") [.ref l]) Q E s:=by
 have h24:=sizeLine_eq
 refine Calls.call_function_entry kind_sorted plain_sorted entry_sorted (args_sorted1 _) ?_
 unfold Builtin.«sorted»
 refine wpAny_bind (m:=checkCount "sorted" 1 1 _) (wpAny_pure ?_)
 have hsz:((s.heap.push (seqObj "list" #[] 0)).update s.heap.objs.size (Obj.mapSeq (·++us.toArray))).objs.size=s.heap.objs.size+1:=by
  rw [Heap.size_update,size_push']
 have hoL:(((s.heap.push (seqObj "list" #[] 0)).update s.heap.objs.size (Obj.mapSeq (·++us.toArray))).push (seqObj "list" us.toArray 0)).get? (s.heap.objs.size+1)=some (seqObj "list" us.toArray 0):=by
  rw [← hsz]; exact Heap.get?_push_size _ rfl
 have keep:∀ b o,s.heap.get? b=some o->(((s.heap.push (seqObj "list" #[] 0)).update s.heap.objs.size (Obj.mapSeq (·++us.toArray))).push (seqObj "list" us.toArray 0)).get? b=some o:=fun b o q=>by
  have hlt:b<s.heap.objs.size:=Heap.lt_size q
  rw [Heap.get?_push_ne _ _ _ (by rw [hsz]; exact Nat.ne_of_lt (Nat.lt_succ_of_lt hlt)),Heap.get?_update_ne _ _ _ _ (Nat.ne_of_lt hlt),Heap.get?_push_ne _ _ _ (Nat.ne_of_lt hlt)]
  exact q
 have go:∀ {Q':List Value->Shared->Prop},Q' us { s with heap:=(s.heap.push (seqObj "list" #[] 0)).update s.heap.objs.size (Obj.mapSeq (·++us.toArray)) }->wpAny (model prog w) A.in1 (collect (.ref l)) Q' (fun e s'=>E e s') s:=fun {Q'} hq=>by
  rcases hl with hl | hl
  ·exact collect_list hl hq (by omega)
  ·exact sG hl hq (by omega)
 refine wpAny_bind (go ?_)
 refine wpAny_bind (wpAny_newList ?_ (by omega))
 show wpAny _ _ _ _ _ { s with heap:=((s.heap.push (seqObj "list" #[] 0)).update s.heap.objs.size (Obj.mapSeq (·++us.toArray))).push (seqObj "list" us.toArray 0) }
 rw [hsz]
 refine wpAny_bind (wpAny_holding (wpAny_call_entry slot_list_sort ⟨_,hoL,rfl⟩ entry_list_sort (Ed hoL (Paired.Fb hp fun u t x=>x.keep fun a o e _=>keep a o e) hn h64 fun p a1 a2=>⟨_,rfl,?_⟩) (args_list_sort _)))
 exact wpAny_pure ⟨_,rfl,h p a1 a2⟩
end
section
variable {X:Cx}
theorem wO {ts:List Tie}{p:List Nat} (hp:p.Perm (List.range ts.length)) (h:∀ i j,i<=j->j<ts.length->bW (ts.getD (p.getD i 0) (0,0))<=bW (ts.getD (p.getD j 0) (0,0))) :
  (p.map fun i=>ts.getD i (0,0)).Perm ts/\(p.map fun i=>ts.getD i (0,0)).Pairwise (fun a b=>bW a<=bW b):=by
 refine⟨?_,?_⟩
 ·have q:=hp.map fun i=>ts.getD i (0,0)
  rw [jl] at q
  exact q
 ·have hl:p.length=ts.length:=by simpa using hp.length_eq
  rw [List.pairwise_iff_getElem]
  intro i j hi hj hij
  rw [List.length_map] at hi hj
  have q:=h i j (by omega) (by omega)
  have ei:p.getD i 0=p[i]:=by simp [hi]
  have ej:p.getD j 0=p[j]:=by simp [hj]
  rw [ei,ej] at q
  simpa using q
theorem wj:bO X (.builtin "sorted") (fun xs H Q=>∃ (p:Addr) (vs:List V) (ts:List Tie),xs=[.ref p]/\(SqL X.K H p vs\/SqT X.K H p vs)/\Prs H vs ts/\(∀ t∈ts,yW t)/\ts.length<64 /\
  ∀ l ws us,H l=none->Prs H ws us->us.Perm ts->us.Pairwise (fun a b=>bW a<=bW b)->Q (.ref l) (upd H l (.lst ws))):=by
 intro pins s σ H xs us Q I r h
 obtain⟨p,vs,ts,rfl,hp,hpr,hn,h64,q⟩:=h
 obtain⟨u,rfl,rx⟩:=vals1 r
 cases rx
 have h24:=sizeLine_eq
 have fin:∀ its:List Value,Vals vs its->(s.heap.IsList p its.toArray\/IsTup s.heap p its.toArray)->wpAny (model X.prog X.w) X.A (call (.builtin "sorted") [.ref p]) (EP X pins σ Q) X.xe s:=fun its rv hl=>by
  have hpv:=I.pairs hpr rv
  have hlen:=hpr.length
  have hlen2:=rv.length
  refine uT hl hpv hn (by omega) fun pp hpp hord=>?_
  have eits:its.length=ts.length:=by omega
  rw [eits] at hpp hord
  obtain⟨hperm,hpw⟩:=wO hpp hord
  have hlt:∀ i∈pp,i<ts.length:=fun i hi=>List.mem_range.mp (hpp.mem_iff.mp hi)
  have hw:=Hg hpr V.non (0,0) pp hlt
  have hvv:Vals (pp.map fun i=>vs.getD i V.non) (pp.map fun i=>its.getD i Value.none):=Hg rv V.non Value.none pp fun i hi=>by have:=hlt i hi; omega
  obtain⟨e,he⟩:=sortedAll_at s.heap its (pp.map fun i=>its.getD i Value.none).toArray
  refine⟨.ref (s.heap.objs.size+1),upd H (s.heap.objs.size+1) (.lst (pp.map fun i=>vs.getD i V.non)),I.laid (t':=s.toks) (fun b o eb=>sortedAll_old eb) (Nat.le_succ _) ?_,rfl,q _ _ _ (I.hok.fresh (Nat.le_succ _)) hw hperm hpw⟩
  refine⟨?_,_,e,hvv,he⟩
  have hl3:pp.length=ts.length:=by simpa using hpp.length_eq
  rw [List.length_map]
  omega
 rcases hp with hp | hp
 ·obtain⟨its,rv,pl,hz⟩:=I.list hp
  exact fin its rv (.inl pl.isList)
 ·obtain⟨its,rv,pl,hz⟩:=I.tuple hp
  exact fin its rv (.inr pl)
def pD (t:Tie):PyData:=.tuple [.int t.1,.int t.2]
theorem Je:∀ ts:List Tie,PyData.canLayAll0 (ts.map pD)=true
 | []=>rfl
 | t::ts=>by
  show (PyData.canLay0 (pD t)&&PyData.canLayAll0 (ts.map pD))=true
  rw [Je ts]
  rfl
theorem yK:∀ ts:List Tie,PyData.depthAll (ts.map pD)<=1
 | []=>Nat.zero_le _
 | t::ts=>by
  show max (PyData.depth (pD t)) (PyData.depthAll (ts.map pD))<=1
  have h1:=yK ts
  have h2:PyData.depth (pD t)=1:=rfl
  omega
inductive DatV (K:W.Frag) (H:Hp):V->PyData->Prop
 | lst {a:Addr}{vs:List V}{ts:List Tie}:SqL K H a vs->Prs H vs ts->DatV K H (.ref a) (.list (ts.map pD))
 | tup {a:Addr}{vs:List V}{ts:List Tie}:SqT K H a vs->Prs H vs ts->DatV K H (.ref a) (.tuple (ts.map pD))
 | web {a b:Addr}{n:Int}{vs:List V}{ts:List Tie}:SqT K H a [.int n,.ref b]->SqT K H b vs->Prs H vs ts->DatV K H (.ref a) (.tuple [.int n,.tuple (ts.map pD)])
end
end L2
namespace L2
open PySem PySem.Spec PyProof.Rows HT
section
variable {prog:Program}{w:World}{A:Around}{E:Value->Shared->Prop}{s:Shared}
end
section
variable {X:Cx}{e:Expr}{te:TE}{p1 p2 p3 pos:Pos}
end
end L2
namespace PySem
open Sem (wp)
open AutoSeq1 (wpAny_loadPart')
theorem jk (l:Addr) (items:Array Value) (n:Nat) (dct:Option Addr) (sl:Array (Option Value)) :
  Meets (Builtin.«enumerate.__new__» ⟨[.type "enumerate",.ref l],[]⟩) (fun _ R s=>s.heap.get? l=some { cls:=.type "tuple",dict:=dct,data:=.seq items n,slots:=sl } /\
   R (.ok (.ret (.ref (s.heap.push { cls:=.type "tuple_iterator",data:=.fields #[.ref l,.int 0 0] }).objs.size)))
    { s with heap:=(s.heap.push { cls:=.type "tuple_iterator",data:=.fields #[.ref l,.int 0 0] }).push { cls:=.type "enumerate",data:=.fields #[.none,.bool false,.ref s.heap.objs.size,rawInt 0,.none,.none] } }) :=
 .of_wp fun prog w A R s h=>by
  obtain⟨hp,g,d,tk,os⟩:=s; obtain⟨hl,h⟩:=h
  have hsub:=sub_enumerate
  have hL:Heap.IsTuple (Shared.heap ⟨hp,g,d,tk,os⟩) l items:=⟨_,hl,rfl,n,rfl⟩
  wp_walk using wpAny_loadPart' hl
  refine wpAny_stack_any fun st=>wpAny_pure ?_
  split
  ·rename_i c _ _ _ _ _
   cases (c == Value.type "enumerate")
   ·wp_walk using wpAny_loadPart' hl,wpAny_pyIter_tuple hL
    exact⟨_,rfl,h⟩
   ·wp_walk using wpAny_loadPart' hl,wpAny_pyIter_tuple hL
    exact⟨_,rfl,h⟩
  ·wp_walk using wpAny_loadPart' hl,wpAny_pyIter_tuple hL
   exact⟨_,rfl,h⟩
section
variable {prog:Program}{w:World}{A:Around}{E:Value->Shared->Prop}{s:Shared}
theorem jA {l:Addr}{items:Array Value}{Q:Value->Shared->Prop} (hL:s.heap.IsTuple l items)
  (h:∀ h',IsEnum h' (s.heap.objs.size+1) s.heap.objs.size 0 .none->h'.IsTupleIter s.heap.objs.size l 0->h'.objs.size=s.heap.objs.size+2 ->
   (∀ b o,s.heap.get? b=some o->h'.get? b=some o)->Q (.ref (s.heap.objs.size+1)) { s with heap:=h' }) :
  wpAny (model prog w) A (call (.type "enumerate") [.ref l]) Q E s:=by
 obtain⟨⟨c,dct,dt,sl⟩,hl,hc,n,hd⟩:=hL
 replace hc:c=.type "tuple":=hc
 replace hd:dt=.seq items n:=hd
 subst hc hd
 refine callType_new F.called_enumerate (by decide) (F.typeCall_enumerate_1 _) (F.newCall_enumerate_1 _) (fun obj=>F.args_object_init_2 obj _) F.entry_enumerate_new
  (jk l items n dct sl) ⟨hl,?_⟩
 have hz:(s.heap.push { cls:=.type "tuple_iterator",data:=.fields #[.ref l,.int 0 0] }).objs.size=s.heap.objs.size+1:=Heap.size_push ..
 show _/\_
 rw [hz]
 have he:IsEnum ((s.heap.push { cls:=.type "tuple_iterator",data:=.fields #[.ref l,.int 0 0] }).push
   { cls:=.type "enumerate",data:=.fields #[.none,.bool false,.ref s.heap.objs.size,rawInt 0,.none,.none] }) (s.heap.objs.size+1) s.heap.objs.size 0 .none:=by
  have:=Heap.get?_push_size (s.heap.push { cls:=.type "tuple_iterator",data:=.fields #[.ref l,.int 0 0] })
   (o:={ cls:=.type "enumerate",data:=.fields #[.none,.bool false,.ref s.heap.objs.size,rawInt 0,.none,.none] }) rfl
  rw [hz] at this; exact this
 refine⟨⟨_,he,rfl⟩,h _ he ⟨_,Heap.get?_push_of_some _ (Heap.get?_push_size _ rfl),rfl,rfl⟩ (by rw [Heap.size_push,hz]) fun b o x=>Heap.get?_push_of_some _ (Heap.get?_push_of_some _ x)⟩
theorem lV {it l:Addr}{i:Nat}{items}{x:Value}{Q:Value->Shared->Prop} (hit:s.heap.IsTupleIter it l i)
  (hl:s.heap.IsTuple l items) (hx:items[i]?=some x)
  (hQ:∀ h',h'.IsTupleIter it l (i+1)->Heap.SameBut it s.heap h'->Q x { s with heap:=h' }) :
  wpAny (model prog w) A (Builtin.SmallTypes.nextOf (.ref it)) Q E s:=by
 obtain⟨o,ho,hc,hd⟩:=id hit
 obtain⟨ol,hol,_,nl,hdl⟩:=hl
 unfold Builtin.SmallTypes.nextOf
 refine wpAny_bind (wpAny_callSpecial?_slot (name:=Str.ofString "__next__") hit.typeIs PyProof.Rows.slot_tupleiter_next
  (wpAny_call_entry PyProof.Rows.slot_tupleiter_next hit.typeIs PyProof.Rows.entry_tupleiter_next ?_ (PyProof.Rows.args_tupleiter_next _)))
 show wpAny _ _ (field (.ref it) 0 >>= _) _ _ s
 refine wpAny_bind (wpAny_field ho hd (x:=.ref l) rfl ?_)
 show wpAny _ _ (if (Value.ref l == Value.none)=true then _ else _) _ _ s
 rw [if_neg (show ¬ ((Value.ref l == Value.none)=true) from Bool.false_ne_true)]
 show wpAny _ _ (field (.ref it) 1 >>= _) _ _ s
 refine wpAny_bind (wpAny_field ho hd (x:=.int i 0) rfl ?_)
 show wpAny _ _ (seqItems? (.ref l) >>= _) _ _ s
 refine wpAny_bind (wpAny_seqItems hol hdl ?_)
 simp only [Int.toNat_natCast,hx]
 refine wpAny_bind (wpAny_setField ho hd (by simp) (wpAny_pure ⟨x,rfl,wpAny_pure (hQ _ ?_ (Heap.SameBut.update ..))⟩))
 exact⟨_,Heap.get?_update_self _ ho (Obj.isFreed_of_fields (Obj.data_mapFields hd _)),(Obj.cls_mapFields ..).trans hc,by
  rw [Obj.data_mapFields hd]; simp [rawInt]⟩
theorem gH {it l:Addr}{i:Nat}{items}{Q:Value->Shared->Prop} (hh:A.handled=none)
  (hit:s.heap.IsTupleIter it l i) (hl:s.heap.IsTuple l items) (hx:items[i]?=none)
  (hE:∀ h' e,Heap.ExtBut it s.heap h'->(∃ o,h'.get? e=some o/\o.cls=.type "StopIteration")->E (.ref e) { s with heap:=h' }) :
  wpAny (model prog w) A (Builtin.SmallTypes.nextOf (.ref it)) Q E s:=by
 obtain⟨o,ho,hc,hd⟩:=id hit
 obtain⟨ol,hol,_,nl,hdl⟩:=hl
 unfold Builtin.SmallTypes.nextOf
 refine wpAny_bind (wpAny_callSpecial?_slot (name:=Str.ofString "__next__") hit.typeIs PyProof.Rows.slot_tupleiter_next
  (wpAny_call_entry PyProof.Rows.slot_tupleiter_next hit.typeIs PyProof.Rows.entry_tupleiter_next ?_ (PyProof.Rows.args_tupleiter_next _)))
 show wpAny _ _ (field (.ref it) 0 >>= _) _ _ s
 refine wpAny_bind (wpAny_field ho hd (x:=.ref l) rfl ?_)
 show wpAny _ _ (if (Value.ref l == Value.none)=true then _ else _) _ _ s
 rw [if_neg (show ¬ ((Value.ref l == Value.none)=true) from Bool.false_ne_true)]
 show wpAny _ _ (field (.ref it) 1 >>= _) _ _ s
 refine wpAny_bind (wpAny_field ho hd (x:=.int i 0) rfl ?_)
 show wpAny _ _ (seqItems? (.ref l) >>= _) _ _ s
 refine wpAny_bind (wpAny_seqItems hol hdl ?_)
 simp only [Int.toNat_natCast,hx]
 refine wpAny_bind (wpAny_rule (wpAny_bind (wpAny_setField ho hd (by simp) ?_)))
 show wpAny _ _ (newExc (.type "StopIteration") [] >>= _) _ _ _
 refine wpAny_bind ?_
 simp only [newExc,newTuple]
 refine wpAny_bind (wpAny_newObj_type ?_ (by size_fits))
 refine wpAny_bind (m:=firstArgMember _ _) (wpAny_of_eq (a:=Value.none) (by first | rfl | (simp only [firstArgMember]; rfl)) ?_)
 refine wpAny_newObj_type ?_ (by size_fits)
 simp only [raiseNew]
 refine wpAny_bind (wpAny_handled ?_)
 first | rw [show A.in1.handled=none from hh] | rw [hh]
 refine wpAny_bind (wpAny_pure (wpAny_throw ?_))
 exact hE _ _ (((Heap.SameBut.update ..).extBut.push _).push _) ⟨_,Heap.get?_push_size _ rfl,rfl⟩
end
theorem Draws.tuple {prog:Program}{w:World}{A:Around} (hh:A.handled=none) (it l:Addr) (hne:l≠it) (items:Array Value) :
  Draws prog w A it [it,l] items.size (fun i v=>items[i]?=some v) (fun i h=>h.IsTupleIter it l i/\h.IsTuple l items) where
 live:=fun _ _ st=>let ⟨o,ho,_⟩:=st.1; ⟨o,ho⟩
 frame:=fun _ _ _ st hk=>⟨let ⟨o,ho,r⟩:=st.1; ⟨o,hk it (by simp) o ho,r⟩,let ⟨o,ho,r⟩:=st.2; ⟨o,hk l (by simp) o ho,r⟩⟩
 item:=fun i s Q E hi st hQ=>by
  refine lV st.1 st.2 (x:=items[i]) (by simp [hi]) fun h' hit' hs'=>?_
  exact hQ _ h' s.toks (by simp [hi]) ⟨hit',st.2.extBut hs'.extBut hne⟩ hs'
 done:=fun s Q E st hE=>gH hh st.1 st.2 (by simp) hE
end PySem
namespace L2
open PySem PySem.Spec PyProof.Rows
def Ite (K:W.Frag) (a:Addr):It :=
 ⟨fun i H=>∃ xs x,SqT K H a xs/\xs[i]?=some x,fun i H x H'=>∃ t v,x=.ref t/\H t=none/\H'=upd H t (.tup [.int i,v])/\∀ xs,SqT K H a xs->xs[i]?=some v,fun i H=>∃ xs,SqT K H a xs/\xs.length<=i⟩
theorem DY {P:Program}{w:World}{K:W.Frag}{elts:List Expr}{kk:Nat}{pos:Pos} (a e it:Addr) (hei:e≠it) :
  Turn P w K (.Tuple elts kk pos) (Ite K a) [e,it] e (fun i h=>(∃ old,IsEnum h e it i old)/\h.IsTupleIter it a i) where
 mem:=by simp
 obj:=fun i h st b hb=>by
  obtain⟨⟨old,he⟩,o,ho,hc,hd⟩:=st
  rcases List.mem_cons.mp hb with rfl | hb
  ·exact⟨_,he,fun v z=>nomatch z⟩
  ·have e1:b=it:=by simpa using hb
   subst e1
   exact⟨o,ho,fun v z=>by rw [hd] at z; cases z⟩
 keep:=fun i h h' st k=>by
  obtain⟨⟨old,he⟩,o,ho,r⟩:=st
  exact⟨⟨old,k e (by simp) _ he⟩,o,k it (by simp) _ ho,r⟩
 item:=by
  intro X hP hw hK hc i pins s σ H E I hf st hg
  subst hP hw hK
  obtain⟨xs,x,hq,hx⟩:=hg
  obtain⟨its,rv,p,hz⟩:=I.tuple hq
  obtain⟨u,hu,ru⟩:=rv.get hx
  obtain⟨⟨old,he⟩,hit⟩:=st
  have hai:a≠it:=fun z=>by
   obtain⟨o,ho,hc1,_⟩:=p
   obtain⟨o',ho',hc2,_⟩:=hit
   rw [z,ho'] at ho
   cases ho
   rw [hc2] at hc1
   injection hc1 with z2
   exact absurd z2 (by decide)
  have hae:e≠a:=fun z=>by
   obtain⟨o,ho,hc1,_⟩:=p
   have he':s.heap.get? e=some _:=he
   rw [z,ho] at he'
   cases he'
   have z1:Value.type "enumerate"=Value.type "tuple":=hc1
   injection z1 with z2
   exact absurd z2 (by decide)
  have hlt:i<its.toArray.size:=by have:=(List.getElem?_eq_some_iff.mp hu).1; simpa using this
  obtain⟨e0,e1,e2,e3,e4,e5⟩:=hf e (by simp)
  obtain⟨f0,f1,f2,f3,f4,f5⟩:=hf it (by simp)
  have D:=Draws.tuple (prog:=X.prog) (w:=X.w) (A:=X.A.in1) (I.ok.hd hc) it a hai its.toArray
  refine wpAny_pyNext_enum_itemD D he ⟨hit,show s.heap.IsTuple a its.toArray from p⟩ hlt hei (by simp [hei,hae]) fun x' h' tk hP ho hs' hT hsz hk=>⟨_,rfl,?_⟩
  have ex:x'=u:=by
   have hP':its[i]?=some x':=by simpa using hP
   rw [hu] at hP'
   exact (Option.some.inj hP').symm
  subst ex
  refine wpAny_letOwnedTupleGo_enum ho fun h2 he2 hs2=>?_
  have hTn:H s.heap.objs.size=none:=I.hok.fresh (Nat.le_refl _)
  have keep2:∀ b o,b≠e->b≠it->s.heap.get? b=some o->h2.get? b=some o:=fun b o hb1 hb2 q=>(hs2.2 b hb1).trans (hk b o hb1 hb2 q)
  have hTe:s.heap.objs.size≠e:=Nat.ne_of_gt (Heap.lt_size he)
  have hTup:h2.get? s.heap.objs.size=some { cls:=.type "tuple",data:=.seq #[.int i tk,x'] }:=(hs2.2 _ hTe).trans hT
  have J:Inv X pins σ (upd H s.heap.objs.size (.tup [.int i,x])) { s with heap:=h2,toks:=tk+1 }:=by
   refine I.step (g':=s.gens) (d':=s.drawn) (t':=tk+1) (ch:=[e,it]) (fun b hb=>?_) (fun b o _ _ hcb q _=>keep2 b o (fun z=>hcb (by simp [z])) (fun z=>hcb (by simp [z])) q)
    (fun b o _ _ hcb q _=>⟨o.slots,keep2 b o (fun z=>hcb (by simp [z])) (fun z=>hcb (by simp [z])) q⟩) (fun b o _ q n=>by rw [au (Nat.ne_of_lt (Heap.lt_size q))]; exact n)
    (fun b o hcb q=>⟨o,keep2 b o (fun z=>hcb (by simp [z])) (fun z=>hcb (by simp [z])) q⟩) (fun b ys q=>by rw [au (aD q hTn)]; exact q) (fun b o y q=>by rw [au (aD q hTn)]; exact q)
    (fun b ps q=>⟨#[],by rw [au (aD q hTn),q]; simp⟩) (fun m hm=>?_) ?_ I.bare
   ·rcases List.mem_cons.mp hb with rfl | hb
    ·exact⟨e3,e1,e4,e5⟩
    ·have z:b=it:=by simpa using hb
     subst z
     exact⟨f3,f1,f4,f5⟩
   ·obtain⟨o,es,ep,ho',r⟩:=hm
    exact⟨o,es,ep,keep2 _ o (Ne.symm e1) (Ne.symm f1) ho',r⟩
   ·intro b u' q
    have nT:∀ {c y},H c=some y->c≠e/\c≠it:=fun {c y} z=>⟨fun v=>(by rw [v,e0] at z; exact nomatch z),fun v=>(by rw [v,f0] at z; exact nomatch z)⟩
    by_cases hb:b=s.heap.objs.size
    ·subst hb
     rw [aB] at q
     cases q
     exact⟨(by show 2<=sizeLine; decide),[.int i tk,x'],.cons ⟨_,rfl⟩ (.cons ru .nil),_,hTup,rfl,_,rfl⟩
    ·rw [au hb] at q
     refine (I.hok b u' q).stay (fun c v hcv y=>keep2 c v ?_ ?_ y) (fun c y=>by rw [au (aD y hTn)]; exact y) fun c ys y=>by rw [au (aD y hTn)]; exact y
     ·rcases hcv with rfl | z
      ·exact (nT q).1
      ·exact (nT z).1
     ·rcases hcv with rfl | z
      ·exact (nT q).2
      ·exact (nT z).2
  refine⟨.ref s.heap.objs.size,_,J,rfl,⟨_,x,rfl,hTn,rfl,fun ys hy=>by rw [I.tG hy hq]; exact hx⟩,⟨⟨x',?_⟩,?_⟩,fun b hb=>?_⟩
  ·have he3:IsEnum h2 e it ((i:Int)+1) x':=by simpa using he2
   have ec:((i+1:Nat):Int)=(i:Int)+1:=by omega
   rw [ec]
   exact he3
  ·obtain⟨o,ho2,r⟩:=hs'.1
   exact⟨o,(hs2.2 it (Ne.symm hei)).trans ho2,r⟩
  ·rw [au]
   ·exact (hf b hb).1
   ·rcases List.mem_cons.mp hb with rfl | hb
    ·exact Ne.symm hTe
    ·have z:b=it:=by simpa using hb
     subst z
     obtain⟨o,ho2,_⟩:=hit
     exact Nat.ne_of_lt (Heap.lt_size ho2)
 done:=by
  intro X hP hw hK hc i pins s σ H E I hf st hg
  subst hP hw hK
  obtain⟨xs,hq,hx⟩:=hg
  obtain⟨its,rv,p,hz⟩:=I.tuple hq
  obtain⟨⟨old,he⟩,hit⟩:=st
  obtain⟨f0,f1,f2,f3,f4,f5⟩:=hf it (by simp)
  have hl:=rv.length
  have hT:s.TypeIs (.ref e) "enumerate":=⟨_,he,rfl⟩
  unfold pyNext
  refine wpAny_bind (wpAny_attempt (wpAny_callSpecial?_slot (name:=Str.ofString "__next__") hT PySem.F.slot_enumerate_next
   (wpAny_call_entry PySem.F.slot_enumerate_next hT PySem.F.entry_enumerate_next ?_ (PySem.F.args_enumerate_next_1 _))))
  show wpAny _ _ (field (.ref e) 2 >>= _) _ _ _
  refine wpAny_bind (wpAny_field he rfl (x:=.ref it) rfl ?_)
  refine wpAny_bind (gH (I.ok.hd hc) hit (show s.heap.IsTuple a its.toArray from p) (by simp; omega) fun h' x he' hx'=>?_)
  obtain⟨o,ho,hc'⟩:=hx'
  refine wpAny_bind (wpAny_isInstance (T:="StopIteration") (b:=true) ⟨o,ho,hc'⟩ isSubtype_stop ?_)
  exact wpAny_pure ⟨rfl,I.turned (t':=s.toks) (fun b o hb e=>he' b o hb e) f0 f1 f3 f4 f5⟩
 self:=fun A i s Q E st h=>by
  obtain⟨⟨old,he⟩,_⟩:=st
  have hT:s.TypeIs (.ref e) "enumerate":=⟨_,he,rfl⟩
  refine wpAny_pyIter_slot hT PySem.F.slot_enumerate_iter (wpAny_call_entry PySem.F.slot_enumerate_iter hT PySem.F.entry_enumerate_iter ?_ (PySem.F.args_enumerate_iter_1 _))
  show wpAny _ _ (ret (.ref e)) _ _ s
  exact wpAny_pure ⟨_,rfl,"enumerate",_,hT,PySem.F.slot_enumerate_next.lookup,h⟩
theorem boot_enumerate:bootBuiltins "enumerate"=some (.type "enumerate"):=by decide +kernel
def Tt (K:W.Frag) (ta:TA):TI:=fun σ H R=>ta σ H fun vs H1=>∃ a,vs=[.ref a]/\(∃ xs,SqT K H1 a xs)/\R (Ite K a) H1
theorem Ld {X:Cx}{elts:List Expr}{kk:Nat}{tpos:Pos}{a:Expr}{ta:TA}{p pos:Pos} (hg:Gl X "enumerate") (hm:X.mg "enumerate"=none) (ha:PA X [a] ta) (hs:starEach [a] X.env=[(false,eval a X.env)]:=by rfl):PI X (.Tuple elts kk tpos) (.Call (.Name "enumerate" p) [a] [] pos) (Tt X.K ta):=by
 intro pins s σ H R I h
 refine Call_ (jt I hg hm boot_enumerate (PyProof.Rows.callWith_type1 (thn (ha pos pins s σ H _ I h) fun us s1 ⟨vs,H1,I1,r1,q1⟩=>?_) hs rfl))
 obtain⟨b,e,⟨xs,hq⟩,q⟩:=q1
 subst e
 obtain⟨u,rfl,rx⟩:=vals1 r1
 cases rx
 obtain⟨its,rv,pt,hz⟩:=I1.tuple hq
 refine jA (show s1.heap.IsTuple b its.toArray from pt) fun h' he hit hsz hk=>?_
 have I2:Inv X pins σ H1 { s1 with heap:=h' }:=I1.kept (t':=s1.toks) hk
 have T:Turn X.prog X.w X.K (.Tuple elts kk tpos) (Ite X.K b) [s1.heap.objs.size+1,s1.heap.objs.size] (s1.heap.objs.size+1) (fun i h=>(∃ old,IsEnum h (s1.heap.objs.size+1) s1.heap.objs.size i old)/\h.IsTupleIter s1.heap.objs.size b i):=DY b _ _ (Nat.ne_of_gt (Nat.lt_succ_self _))
 refine T.self _ 0 _ _ _ ⟨⟨_,he⟩,hit⟩ ⟨_,_,_,_,H1,rfl,I2,T,⟨⟨_,he⟩,hit⟩,fun c hc=>?_,q⟩
 rcases List.mem_cons.mp hc with rfl | hc
 ·exact I1.Fv (Nat.le_succ _) (I1.hok.fresh (Nat.le_succ _))
 ·have z:c=s1.heap.objs.size:=by simpa using hc
  subst z
  exact I1.Fv (Nat.le_refl _) (I1.hok.fresh (Nat.le_refl _))
section
variable {κ:Type} [DecidableEq κ]
def nO (kvs:List (κ×V)) (k:κ):Option V:=(kvs.find? fun kv=>decide (kv.1=k)).map (·.2)
def putK (kvs:List (κ×V)) (k:κ) (v:V):List (κ×V) :=
 if (kvs.any fun kv=>decide (kv.1=k))=true then kvs.map (fun kv=>if kv.1=k then (kv.1,v) else kv) else kvs++[(k,v)]
theorem qp {p:κ×V}{r:List (κ×V)}{k:κ} (e:p.1=k):nO (p::r) k=some p.2:=by simp [nO,List.find?_cons,e]
theorem qt {p:κ×V}{r:List (κ×V)}{k:κ} (e:¬ p.1=k):nO (p::r) k=nO r k:=by simp [nO,List.find?_cons,e]
theorem wJ (k:κ):∀ kvs:List (κ×V),(kvs.any fun kv=>decide (kv.1=k))=(nO kvs k).isSome
 | []=>rfl
 | p::r=>by
  rw [List.any_cons]
  by_cases e:p.1=k
  ·simp only [qp e,decide_eq_true e,Bool.true_or,Option.isSome_some]
  ·rw [qt e,decide_eq_false e,Bool.false_or]; exact wJ k r
theorem jq (kvs:List (κ×V)) (k:κ) (v:V):(putK kvs k v).length<=kvs.length+1:=by
 unfold putK
 split
 ·rw [List.length_map]; omega
 ·rw [List.length_append,List.length_cons,List.length_nil]; omega
theorem Bt.oK {o:Option V}{u:Option Value} (r:Bt o u):o.isSome=u.isSome:=by
 cases o with
 | none=>cases u with
  | none=>rfl
  | some _=>exact (show False from r).elim
 | some _=>cases u with
  | none=>exact (show False from r).elim
  | some _=>rfl
theorem KV.val {kvs:List (κ×V)}{vs:List (κ×Value)} (r:KV kvs vs) (k:κ):Bt (nO kvs k) (valueAt vs k):=by
 unfold KV at r
 induction r with
 | nil=>exact True.intro
 | @cons p q ps qs h t ih =>
  obtain⟨h1,h2⟩:=h
  by_cases e:p.1=k
  ·have e':q.1=k:=h1.symm.trans e
   have b:valueAt (q::qs) k=some q.2:=by simp [valueAt,List.find?_cons,e']
   rw [qp e,b]; exact h2
  ·have e':¬ q.1=k:=fun z=>e (h1.trans z)
   have b:valueAt (q::qs) k=valueAt qs k:=by simp [valueAt,List.find?_cons,e']
   rw [qt e,b]; exact ih
theorem KV.any {kvs:List (κ×V)}{vs:List (κ×Value)} (r:KV kvs vs) (k:κ):(kvs.any fun kv=>decide (kv.1=k))=vs.any fun kv=>decide (kv.1=k):=by
 unfold KV at r
 induction r with
 | nil=>rfl
 | cons h t ih=>rw [List.any_cons,List.any_cons,ih,h.1]
theorem KV.repl {kvs:List (κ×V)}{vs:List (κ×Value)} (r:KV kvs vs) (k:κ) {y:V}{u:Value} (ry:RelV y u) :
  KV (kvs.map fun kv=>if kv.1=k then (kv.1,y) else kv) (vs.map fun kv=>if kv.1=k then (kv.1,u) else kv):=by
 unfold KV at r ⊢
 induction r with
 | nil=>exact .nil
 | @cons p q ps qs h t ih =>
  rw [List.map_cons,List.map_cons]
  refine .cons ?_ ih
  obtain⟨h1,h2⟩:=h
  by_cases e:p.1=k
  ·rw [if_pos e,if_pos (h1.symm.trans e)]; exact⟨h1,ry⟩
  ·rw [if_neg e,if_neg (fun z=>e (h1.trans z))]; exact⟨h1,h2⟩
theorem KV.put {kvs:List (κ×V)}{vs:List (κ×Value)} (r:KV kvs vs) (k:κ) {y:V}{u:Value} (ry:RelV y u):KV (putK kvs k y) (stored vs k u):=by
 unfold putK stored
 rw [r.any k]
 by_cases e:(vs.any fun kv=>decide (kv.1=k))=true
 ·rw [if_pos e,if_pos e]; exact r.repl k ry
 ·rw [if_neg e,if_neg e]; exact Paired.snoc r ⟨rfl,ry⟩
theorem KV.keys {kvs:List (κ×V)}{vs:List (κ×Value)} (r:KV kvs vs):kvs.map (·.1)=vs.map (·.1):=by
 unfold KV at r
 induction r with
 | nil=>rfl
 | cons h t ih=>rw [List.map_cons,List.map_cons,ih,h.1]
theorem KV.length {kvs:List (κ×V)}{vs:List (κ×Value)} (r:KV kvs vs):kvs.length=vs.length:=Paired.length r
end
theorem Df {P:Program}{w:World}{k:Key}{u:Value} (r:RelV (kV k) u):(bU P w).is k u=true:=by
 cases k with
 | inl i=>obtain⟨t,e⟩:=(show ∃ t,u=Value.int i t from r); subst e; exact xU P w i t
 | inr x=>obtain⟨t,e⟩:=(show ∃ t,u=Value.str x t from r); subst e; exact xT P w x t
theorem uh {P:Program}{w:World}:∀ {ks:List Key}{us:List Value},Vals (ks.map kV) us->ItemsAre (bU P w) ks us
 | [],_,r=>by rw [List.map_nil] at r; cases r; exact .nil
 | k::ks,_,r=>by
  rw [List.map_cons] at r
  cases r with
  | cons h t=>exact .cons (Df h) (uh t)
abbrev KT (H:Hp):List (List Key×V)->List (List Key×Addr×Value)->Prop:=Paired fun p q=>p.1=q.1/\H q.2.1=some (.tup (p.1.map kV))/\RelV p.2 q.2.2
theorem KT.val {H:Hp}{kvs:List (List Key×V)}{xs:List (List Key×Addr×Value)} (r:KT H kvs xs) (k:List Key):Bt (nO kvs k) ((atKey xs k).map (·.2)):=by
 induction r with
 | nil=>exact True.intro
 | @cons p q ps qs h t ih =>
  obtain⟨h1,_,h2⟩:=h
  by_cases e:p.1=k
  ·have e':q.1=k:=h1.symm.trans e
   have b:atKey (q::qs) k=some q.2:=by simp [atKey,List.find?_cons,e']
   rw [qp e,b]; exact h2
  ·have e':¬ q.1=k:=fun z=>e (h1.trans z)
   have b:atKey (q::qs) k=atKey qs k:=by simp [atKey,List.find?_cons,e']
   rw [qt e,b]; exact ih
theorem KT.repl {H:Hp}{kvs:List (List Key×V)}{xs:List (List Key×Addr×Value)} (r:KT H kvs xs) (k:List Key) {y:V}{u:Value} (ry:RelV y u) :
  KT H (kvs.map fun kv=>if kv.1=k then (kv.1,y) else kv) (xs.map (putAt k u)):=by
 induction r with
 | nil=>exact .nil
 | @cons p q ps qs h t ih =>
  rw [List.map_cons,List.map_cons]
  refine .cons ?_ ih
  obtain⟨h1,h2,h3⟩:=h
  unfold putAt
  by_cases e:p.1=k
  ·rw [if_pos e,if_pos (h1.symm.trans e)]; exact⟨h1,h2,ry⟩
  ·rw [if_neg e,if_neg (fun z=>e (h1.trans z))]; exact⟨h1,h2,h3⟩
theorem KT.put {H:Hp}{kvs:List (List Key×V)}{xs:List (List Key×Addr×Value)} (r:KT H kvs xs) (k:List Key) {b:Addr}{y:V}{u:Value} (hb:H b=some (.tup (k.map kV))) (ry:RelV y u) :
  KT H (putK kvs k y) (storedH xs k b u):=by
 have e:(kvs.any fun kv=>decide (kv.1=k))=(atKey xs k).isSome:=by
  rw [wJ,(r.val k).oK,Option.isSome_map]
 unfold putK storedH
 rw [e]
 by_cases q:(atKey xs k).isSome=true
 ·rw [if_pos q,if_pos q]; exact r.repl k ry
 ·rw [if_neg q,if_neg q]; exact Paired.snoc r ⟨rfl,hb,ry⟩
theorem KT.keeps {H H':Hp}{kvs:List (List Key×V)}{xs:List (List Key×Addr×Value)} (r:KT H kvs xs) (ht:∀ b ys,H b=some (.tup ys)->H' b=some (.tup ys)):KT H' kvs xs :=
 Paired.Fb r fun _ _ z=>⟨z.1,ht _ _ z.2.1,z.2.2⟩
section
variable {P:Program}{w:World}{H:Hp}{h:Heap}{a:Addr}
theorem Nz {u:HO} (ok:HOk P w H h) (e:Rd H a u):bG P w H h a u:=e.ok ok
theorem OD {kvs:List (Key×V)} (ok:HOk P w H h) (e:Rd H a (.dK kvs)):kvs.length<=sizeLine/\(a == sysModules)=false/\∃ vs,KV kvs vs/\h.DictOf (bU P w) a vs :=
 show bG P w H h a (.dK kvs) from Nz ok e
theorem JL {kvs:List (Key×V)} (ok:HOk P w H h) (e:H a=some (.dK kvs)):kvs.length<=sizeLine/\(a == sysModules)=false/\∃ vs,KV kvs vs/\h.DictOf (bU P w) a vs:=OD ok (.inl e)
theorem Ak {ks:List Key} (ok:HOk P w H h) (e:H a=some (.tup (ks.map kV))):(tupleKind (bU P w)).is h ks a:=by
 obtain⟨_,its,r,o,h1,h2,n,h3⟩:=(show bG P w H h a (.tup (ks.map kV)) from ok a _ e)
 exact⟨o,its.toArray,n,h1,h2,h3,by simpa using uh r⟩
theorem Oz {kvs:List (List Key×V)} (ok:HOk P w H h) (e:Rd H a (.dT kvs)):kvs.length<=sizeLine/\(a == sysModules)=false /\
  ∃ xs,KT H kvs xs/\h.DictOfH (tupleKind (bU P w)) a xs:=by
 obtain⟨z,y,xs,r,o,es,ep,h1,h2,h3,h4,h5⟩:=(show bG P w H h a (.dT kvs) from Nz ok e)
 refine⟨z,y,xs,r,o,es,ep,h1,h2,h3,h4,fun x hx=>?_,h5⟩
 have all:∀ {l:List (List Key×V)}{m:List (List Key×Addr×Value)},KT H l m->∀ x∈m,(tupleKind (bU P w)).is h x.1 x.2.1:=by
  intro l m q
  induction q with
  | nil=>intro x hx; exact nomatch hx
  | @cons p q ps qs hq t ih =>
   intro x hx
   rcases List.mem_cons.mp hx with e | hx
   ·subst e
    exact Ak ok (by rw [← hq.1]; exact hq.2.1)
   ·exact ih x hx
 exact all r x hx
theorem T7 {kvs:List (List Key×V)} (ok:HOk P w H h) (e:H a=some (.dT kvs)):kvs.length<=sizeLine/\(a == sysModules)=false /\
  ∃ xs,KT H kvs xs/\h.DictOfH (tupleKind (bU P w)) a xs:=Oz ok (.inl e)
end
def Kq (H:Hp) (a:Addr) (y:V) (r:Option V):Prop :=
 (∃ kvs k,Rd H a (.dK kvs)/\y=kV k/\r=nO kvs k)\/∃ kvs k b,Rd H a (.dT kvs)/\y=.ref b/\H b=some (.tup (k.map kV))/\r=nO kvs k
def Ko (H:Hp) (a:Addr) (y v:V) (H':Hp):Prop :=
 (∃ kvs k,H a=some (.dK kvs)/\y=kV k/\kvs.length<sizeLine/\H'=upd H a (.dK (putK kvs k v))) ∨
 ∃ kvs k b,H a=some (.dT kvs)/\y=.ref b/\H b=some (.tup (k.map kV))/\kvs.length<sizeLine/\H'=upd H a (.dT (putK kvs k v))
theorem Kq.k {H:Hp}{a:Addr}{kvs:List (Key×V)}{k:Key} (e:H a=some (.dK kvs)):Kq H a (kV k) (nO kvs k):=.inl ⟨kvs,k,.inl e,rfl,rfl⟩
theorem Ko.k {H:Hp}{a:Addr}{kvs:List (Key×V)}{k:Key}{v:V} (e:H a=some (.dK kvs)) (hl:kvs.length<sizeLine):Ko H a (kV k) v (upd H a (.dK (putK kvs k v))):=.inl ⟨kvs,k,e,rfl,hl,rfl⟩
section
variable {X:Cx}{pins:List (Addr×Obj)}{σ:St}{H:Hp}{s:Shared}{a:Addr}{y v:V}{u r:Value}{o:Option V}{A:Around}{E:Value->Shared->Prop}
theorem Inv.big (I:Inv X pins σ H s):sysModules<s.heap.objs.size:=by
 have h:mainGlobals<s.heap.objs.size:=(I.mod.glob.keeps I.bk).lt
 exact Nat.lt_trans (by decide) h
theorem Ng {Q:Value->Shared->Prop} (hu:A.units+1<cLine) (I:Inv X pins σ H s) (g:Kq H a y o) (ry:RelV y u) (h:∀ s',Inv X pins σ H s'->Q (.bool (!o.isSome)) s') :
  wpAny (model X.prog X.w) A (compareOp .NotIn u (.ref a)) Q E s:=by
 rcases g with ⟨kvs,k,e,ey,l⟩ | ⟨kvs,k,b,e,ey,eb,l⟩
 ·subst ey
  obtain⟨z,hd,vs,rel,dd⟩:=OD I.hok e
  refine wpAny_notIn_of (Df ry) hd dd.mapOf ?_
  rw [← (rel.val k).oK,← l]
  exact h _ (I.tok _)
 ·subst ey
  cases (show u=Value.ref b from ry)
  obtain⟨z,hd,xs,rel,dd⟩:=Oz I.hok e
  refine wpAny_notIn_heap (tupleKind_room_in1 hu) (Ak I.hok eb) hd dd ?_
  have q:=(rel.val k).oK
  rw [Option.isSome_map] at q
  rw [← q,← l]
  exact h _ (I.tok _)
theorem v9 {h':Heap}{t':Nat}{ob:HO} (I:Inv X pins σ H s) (mu:Mut (H a)) (hs:Heap.SameBut a s.heap h') (he:∃ q,h'.get? a=some q) (new:bG X.prog X.w (upd H a ob) h' a ob) :
  Inv X pins σ (upd H a ob) { s with heap:=h',toks:=t' } :=
 I.write (x:=a) (e:=a) mu (.inl rfl) (fun b q hb z=>(hs.2 b hb).trans z) he new
theorem JM {P:Program}{w:World}{H':Hp}{h':Heap}{kvs:List (Key×V)}{vs:List (Key×Value)} (z:kvs.length<=sizeLine) (hd:(a == sysModules)=false) (rel:KV kvs vs) (dd:h'.DictOf (bU P w) a vs) :
  bG P w H' h' a (.dK kvs):=⟨z,hd,vs,rel,dd⟩
theorem FN {H':Hp}{Q:Unit->Shared->Prop} (hu:A.units+1<cLine) (I:Inv X pins σ H s) (g:Ko H a y v H') (ry:RelV y u) (rv:RelV v r) (h:∀ s',Inv X pins σ H' s'->Q () s') :
  wpAny (model X.prog X.w) A (setItem (.ref a) u r) Q E s:=by
 rcases g with ⟨kvs,k,e,ey,l,eH⟩ | ⟨kvs,k,b,e,ey,eb,l,eH⟩
 ·subst ey eH
  obtain⟨z,hd,vs,rel,dd⟩:=JL I.hok e
  have hz:vs.length<=sizeLine:=by rw [← rel.length]; exact z
  have hl:(putK kvs k v).length<=sizeLine:=by have:=jq kvs k v; omega
  refine wpAny_setItem_pairs (hsz:=hz) (Df ry) dd fun h' dd' hs=>h _ ?_
  have he:∃ q,h'.get? a=some q:=let ⟨q,_,_,hq,_⟩:=dd'; ⟨q,hq⟩
  exact v9 I (by rw [e]; exact True.intro) hs he (JM hl hd (rel.put k rv) dd')
 ·subst ey eH
  cases (show u=Value.ref b from ry)
  obtain⟨z,hd,xs,rel,dd⟩:=T7 I.hok e
  have hz:xs.length<=sizeLine:=by rw [← Paired.length rel]; exact z
  have hl:(putK kvs k v).length<=sizeLine:=by have:=jq kvs k v; omega
  refine wpAny_setItem_heap (hsz:=hz) (tupleKind_room_in1 hu) (Ak I.hok eb) dd fun h' dd' hs=>h _ ?_
  obtain⟨q,es,ep,hq,h2,h3,h4,_,h5⟩:=dd'
  refine v9 I (by rw [e]; exact True.intro) hs ⟨q,hq⟩ ⟨hl,hd,_,(rel.put k eb rv).keeps fun c ys ec=>?_,q,es,ep,hq,h2,h3,h4,h5⟩
  rw [au (Tg ec e (fun z=>nomatch z))]
  exact ec
end
section
variable {X:Cx}{pins:List (Addr×Obj)}{σ:St}{H:Hp}{s:Shared}{a:Addr}{kvs:List (Key×V)}{k:Key}{u:Value}{A:Around}{E:Value->Shared->Prop}
end
def Bx (ty td:TE):TE:=fun σ H Q=>ty σ H fun y H1=>td σ H1 fun x H2=>∃ a o,x=.ref a/\Kq H2 a y o/\Q (.bl (!o.isSome)) H2
def Ny (td ty tv:TE):TS:=fun D σ H=>tv σ H fun v H1=>td σ H1 fun x H2=>ty σ H2 fun y H3=>∃ a H4,x=.ref a/\Ko H3 a y v H4/\D.nx σ H4
section
variable {X:Cx}{o i e value:Expr}{pos pos' tpos:Pos}{td ty tv:TE}
theorem Em (hu:X.A.units+1<cLine) (hi:PE X i ty) (ho:PE X o td):PC X .NotIn i o (Bx ty td):=by
 intro pins s σ H Q I h
 refine thn (hi pins s σ H _ I h) fun iv s1 ⟨y,H1,I1,ry,q1⟩=>thn (ho pins s1 σ H1 _ I1 q1) fun u s2 ⟨x,H2,I2,rx,a,ov,ex,g,q2⟩=>?_
 subst ex
 obtain rfl:u=Value.ref a:=rx
 exact Ng hu I2 g ry fun s3 I3=>⟨.bl (!ov.isSome),H2,I3,rfl,q2⟩
theorem K9 (hu:X.A.units+1<cLine) (ho:PE X o td) (hi:PE X i ty) (hv:PE X value tv) (hs:swapsWith value (some (.Subscript o i pos')) pos.line X.env=pure false) :
  PS X (.Assign [.Subscript o i pos'] value pos) (Ny td ty tv):=by
 intro pins s σ H D I h
 refine wpAny_Assign_Subscript (thn (hv pins s σ H _ I h) fun r s1 ⟨v,H1,I1,rv,q1⟩=>thn (ho pins s1 σ H1 _ I1 q1) fun u s2 ⟨x,H2,I2,rx,q2⟩=>thn (hi pins s2 σ H2 _ I2 q2) fun iv s3 ⟨y,H3,I3,ry,a,H4,ex,g,q3⟩=>?_) hs
 subst ex
 obtain rfl:u=Value.ref a:=rx
 exact FN hu I3 g ry rv fun s4 I4=>⟨σ,H4,I4,q3⟩
end
theorem yJ {P:Program}{w:World}{H:Hp} (h:Heap) (hb:sysModules<h.objs.size):bG P w H (h.push { cls:=.type "dict",data:=.dict #[] }) h.objs.size (.dK []) :=
 ⟨Nat.zero_le _,beq_eq_false_iff_ne.mpr (Ne.symm (Nat.ne_of_lt hb)),[],.nil,Heap.DictOf.new h⟩
def Ph:TE:=fun _ H Q=>∀ p,H p=none->Q (.ref p) (upd H p (.dK []))
section
variable {X:Cx}{pos:Pos}
theorem Hu:PE X (.Dict [] [] pos) Ph:=fun pins s σ H Q I h =>
 wpAny_Dict_empty ⟨.ref s.heap.objs.size,_,I.laid (a:=s.heap.objs.size) (o:=.dK []) (t':=s.toks) (fun _ _ q=>Heap.get?_push_of_some _ q) (Nat.le_refl _) (yJ s.heap I.big),rfl,h _ (I.hok.fresh (Nat.le_refl _))⟩
end
def zq:List (TE×TE)->St->Hp->(List (V×V)->Hp->Prop)->Prop
 | [],_,H,Q=>Q [] H
 | (tk,tv)::r,σ,H,Q=>tk σ H fun x H1=>tv σ H1 fun y H2=>zq r σ H2 fun ps H3=>Q ((x,y)::ps) H3
abbrev VV:List (V×V)->List (Value×Value)->Prop:=Paired fun p q=>RelV p.1 q.1/\RelV p.2 q.2
def PPs (X:Cx) (pos:Pos) (keys:List (Option Expr)) (values:List Expr) (trs:List (TE×TE)):Prop :=
 ∀ (pins:List (Addr×Obj)) (s:Shared) (σ:St) (H:Hp) (Q:List (V×V)->Hp->Prop),Inv X pins σ H s->zq trs σ H Q ->
  wpAny (model X.prog X.w) X.A (evalPairs (pairTrees keys values X.env pos)) (fun vs s'=>∃ ps H',Inv X pins σ H' s'/\VV ps vs/\Q ps H') X.xe s
theorem La {X:Cx}{pos:Pos}:PPs X pos [] [] []:=fun pins s σ H Q I h=>pairTrees_nil_walk ⟨[],H,I,.nil,h⟩
theorem Hf {X:Cx}{pos:Pos}{k v:Expr}{ks:List (Option Expr)}{vs:List Expr}{tk tv:TE}{trs:List (TE×TE)} (hk:PE X k tk) (hv:PE X v tv) (hr:PPs X pos ks vs trs) :
  PPs X pos (some k::ks) (v::vs) ((tk,tv)::trs):=fun pins s σ H Q I h =>
 pairTrees_cons_walk (thn (hk pins s σ H _ I h) fun u s1 ⟨x,H1,I1,rx,q1⟩=>thn (hv pins s1 σ H1 _ I1 q1) fun w2 s2 ⟨y,H2,I2,ry,q2⟩ =>
  thn (hr pins s2 σ H2 _ I2 q2) fun ws s3 ⟨ps,H3,I3,rel,q3⟩=>⟨(x,y)::ps,H3,I3,.cons ⟨rx,ry⟩ rel,q3⟩)
def rF (kvs more:List (Key×V)):List (Key×V):=more.foldl (fun acc kv=>putK acc kv.1 kv.2) kvs
theorem KV.merge:∀ {more:List (Key×V)}{rs:List (Key×Value)}{kvs:List (Key×V)}{vs:List (Key×Value)},KV more rs->KV kvs vs->KV (rF kvs more) (merged vs rs):=by
 intro more rs kvs vs r
 unfold KV at r
 induction r generalizing kvs vs with
 | nil=>intro q; exact q
 | @cons p q ps qs h t ih =>
  intro r0
  have e:KV (putK kvs p.1 p.2) (stored vs q.1 q.2):=by
   have:=r0.put p.1 h.2
   rw [← h.1]; exact this
  exact ih e
theorem j4:∀ (more kvs:List (Key×V)),(rF kvs more).length<=kvs.length+more.length
 | [],kvs=>by show kvs.length<=kvs.length+0; omega
 | p::r,kvs=>by
  have h1:=j4 r (putK kvs p.1 p.2)
  have h2:=jq kvs p.1 p.2
  show (rF (putK kvs p.1 p.2) r).length<=_
  rw [List.length_cons]; omega
theorem sJ {P:Program}{w:World}:∀ {kvs:List (Key×V)}{ws:List (Value×Value)},VV (kvs.map fun kv=>(kV kv.1,kv.2)) ws->∃ rs,Carries (bU P w) ws rs/\KV kvs rs
 | [],_,r=>by rw [List.map_nil] at r; cases r; exact⟨[],True.intro,.nil⟩
 | p::kvs,_,r=>by
  rw [List.map_cons] at r
  cases r with
  | @cons a b as bs h t =>
   obtain⟨rs,c,q⟩:=sJ (P:=P) (w:=w) t
   obtain⟨b1,b2⟩:=b
   exact⟨(p.1,b2)::rs,⟨Df h.1,rfl,c⟩,.cons ⟨rfl,h.2⟩ q⟩
def RT (trs:List (TE×TE)):TE:=fun σ H Q=>∀ p,H p=none->zq trs σ (upd H p (.dK [])) fun ps H2=>H2 p=some (.dK [])/\∃ kvs:List (Key×V),ps=kvs.map (fun kv=>(kV kv.1,kv.2))/\kvs.length<=15/\Q (.ref p) (upd H2 p (.dK (rF [] kvs)))
theorem Lj {X:Cx}{pos:Pos}{keys:List (Option Expr)}{values:List Expr}{trs:List (TE×TE)} (h:PPs X pos keys values trs) (hall:keys.all (·.isSome)=true) (hl:keys.length=values.length) (h0:keys≠[])
  (h15:keys.length<=15):PE X (.Dict keys values pos) (RT trs):=by
 intro pins s σ H Q I q
 have hn:=I.hok.fresh (Nat.le_refl s.heap.objs.size)
 have I1:=I.laid (a:=s.heap.objs.size) (o:=.dK []) (h':=s.heap.push { cls:=.type "dict",data:=.dict #[] }) (t':=s.toks) (fun _ _ q=>Heap.get?_push_of_some _ q) (Nat.le_refl _) (yJ s.heap I.big)
 refine wpAny_Dict_walk (knd:=bU X.prog X.w) hall hl h0 h15 (thn (h pins _ σ _ _ I1 (q _ hn)) fun ws s2 ⟨ps,H2,I2,rel,e,kvs,ep,lk,q2⟩=>?_)
 subst ep
 obtain⟨rs,c,rk⟩:=sJ (P:=X.prog) (w:=X.w) rel
 obtain⟨z,hd,vs0,r0,dd⟩:=JL I2.hok e
 cases r0
 refine⟨rs,c,dd,fun h' dd' hs=>⟨.ref s.heap.objs.size,_,?_,rfl,q2⟩⟩
 have hz:(rF [] kvs).length<=sizeLine:=by
  have h1:=j4 kvs []
  rw [List.length_nil] at h1
  rw [sizeLine_eq]; omega
 have he:∃ q,h'.get? s.heap.objs.size=some q:=let ⟨q,_,_,hq,_⟩:=dd'; ⟨q,hq⟩
 exact v9 I2 (by rw [e]; exact True.intro) hs he (JM hz hd (rk.merge .nil) dd')
structure M1 (X:Cx) (o:Expr) (m:Str) (apos:Pos) (e:Expr) (cpos:Pos):Prop where
 base:attributeBase o m X.env (eval o X.env)=eval o X.env
 few:((backTo cpos (starEach [e] X.env)).all (fun x=>!x.1)&&(backToKw cpos (keywordEach [] X.env)).all (fun x=>x.1.isSome)
 &&decide (([e]:List Expr).length+([]:List Keyword).length+(if ([]:List Keyword).isEmpty then 0 else 1)<30))=true
 line:(apos.endLine == cpos.line)=true
 trees:backTo cpos (starEach [e] X.env)=[(false,eval e X.env)]
structure M2 (X:Cx) (o:Expr) (m:Str) (apos:Pos) (e f:Expr) (cpos:Pos):Prop where
 base:attributeBase o m X.env (eval o X.env)=eval o X.env
 few:((backTo cpos (starEach [e,f] X.env)).all (fun x=>!x.1)&&(backToKw cpos (keywordEach [] X.env)).all (fun x=>x.1.isSome)
 &&decide (([e,f]:List Expr).length+([]:List Keyword).length+(if ([]:List Keyword).isEmpty then 0 else 1)<30))=true
 line:(apos.endLine == cpos.line)=true
 trees:backTo cpos (starEach [e,f] X.env)=[(false,eval e X.env),(false,eval f X.env)]
section
variable {X:Cx}{pins:List (Addr×Obj)}{σ:St}{H:Hp}{s:Shared}{a:Addr}{y d:V}{u r:Value}{o:Option V}{A:Around}{E:Value->Shared->Prop}
end
section
variable {X:Cx}{o e f:Expr}{apos cpos:Pos}{td ty tx:TE}
end
section
variable {X:Cx}{pins:List (Addr×Obj)}{σ:St}{H:Hp}{s:Shared}{a:Addr}{kvs:List (Key×V)}{A:Around}{E:Value->Shared->Prop}
end
section
variable {X:Cx}{pins:List (Addr×Obj)}{σ:St}{H:Hp}{s:Shared}{a:Addr}{y:V}{u:Value}{A:Around}{E:Value->Shared->Prop}
end
section
variable {prog:Program}{w:World}{A:Around}{E:Value->Shared->Prop}{s:Shared}
theorem yN {T:String}{r d:Addr}{n:Nat}{P:Nat->Value->Prop}{OK:Heap->Prop}{R:List Value->Shared->Prop} (K:W.KdlSrc prog w T r d n P OK) (hh:A.handled=none) (hok:OK s.heap) (hn:n<=sizeLine)
  (h:∀ (h':Heap) (tk:Nat) (acc:Array Value),s.heap.objs.size<h'.objs.size->(∀ b o,s.heap.get? b=some o->h'.get? b=some o)->ItemsOf P acc n->R acc.toList { s with heap:=h',toks:=tk }) :
  wpAny (model prog w) A (collect (.ref r)) R E s:=by
 have hlt:=K.there _ hok
 unfold collect
 refine wpAny_bind (wpAny_runValue (codeAny_builtin entry_proto_collect' ?_))
 rw [Around.under_plainId PySem.F.plain_proto_collect _]
 show wpAny _ A.in1 (newList [] >>= fun l=>again (.builtin "list.__iadd__" ⟨[l,.ref r],[]⟩)) _ _ s
 refine wpAny_bind (wpAny_newObj_type ?_)
 refine wpAny_pure ⟨plainId_quiet PySem.F.plain_list_iadd _,codeAny_builtin entry_list_iadd' ?_⟩
 rw [Around.under_plainId PySem.F.plain_list_iadd _]
 have hS₁:(s.heap.push { cls:=.type "list",data:=.seq ([]:List Value).toArray }).get? s.heap.objs.size=some { cls:=.type "list",data:=.seq #[] }:=Heap.get?_push_size _ rfl
 show wpAny _ A.in1 (Builtin.List.listExtendWith (.ref s.heap.objs.size) (.ref r) (.ref s.heap.objs.size)) _ _ _
 have key:=W.kdl_extend (A:=A) (s:={ s with heap:=s.heap.push { cls:=.type "list",data:=.seq ([]:List Value).toArray } }) K
  (R:=fun (q:Result) (s':Shared)=>∃ (h':Heap) (tk:Nat) (acc':Array Value) (c':Nat),q=.ok (.ret (.ref s.heap.objs.size))/\s'={ s with heap:=h',toks:=tk } /\
   (∀ b o,s.heap.get? b=some o->h'.get? b=some o)/\h'.get? s.heap.objs.size=some { cls:=.type "list",dict:=none,data:=.seq acc' c',slots:=#[] }/\ItemsOf P acc' n)
  hh (K.keep _ _ hok fun b _ o e=>Heap.get?_push_of_some _ e) s.heap.objs.size (Nat.ne_of_gt hlt.1) (Nat.ne_of_gt hlt.2) (.ref s.heap.objs.size) 0 hS₁
  (fun h' tk acc' c' hk hS' hacc=>⟨h',tk,acc',c',rfl,rfl,fun b o e=>hk b o (Nat.ne_of_lt (Heap.lt_size e)) (Heap.get?_push_of_some _ e),hS',hacc⟩) hn
 refine wpAny_mono key (fun fin s' x=>?_) fun e s' x=>?_
 ·cases fin with
  | done f =>
   obtain⟨h',tk,acc',c',e,rfl,hk,hS',hacc⟩:=x
   cases e
   show wpAny _ A (load s.heap.objs.size >>= _) _ _ _
   refine wpAny_bind (wpAny_load hS' ?_)
   exact wpAny_pure (h h' tk acc' (Heap.lt_size hS') hk hacc)
  | again c₁ =>
   refine⟨x.1,codeAny_mono x.2 fun q s₂ y=>?_⟩
   obtain⟨h',tk,acc',c',rfl,rfl,hk,hS',hacc⟩:=y
   show wpAny _ A (load s.heap.objs.size >>= _) _ _ _
   refine wpAny_bind (wpAny_load hS' ?_)
   exact wpAny_pure (h h' tk acc' (Heap.lt_size hS') hk hacc)
 ·obtain⟨_,_,_,_,e',_⟩:=x
  cases e'
theorem zy {T:String}{r d:Addr}{n:Nat}{P:Nat->Value->Prop}{OK:Heap->Prop}{Q:Value->Shared->Prop}{ns:List Int} (K:W.KdlSrc prog w T r d n P OK) (hh:A.handled=none) (hok:OK s.heap) (hn:n<64)
  (hP:∀ us:List Value,us.length=n->(∀ j v,us[j]?=some v->P j v)->IntsAre us ns)
  (h:∀ (h':Heap) (tk:Nat) (D:Addr) (e:Nat) (out:Array Value) (ns':List Int),s.heap.objs.size<=D->(∀ b o,s.heap.get? b=some o->h'.get? b=some o)->h'.get? D=some { cls:=.type "list",data:=.seq out e }->IntsAre out.toList ns'->ns'.Perm ns->ns'.Pairwise (·<=·)->Q (.ref D) { s with heap:=h',toks:=tk }) :
  wpAny (model prog w) A (call (.builtin "sorted") [.ref r]) Q E s:=by
 have h24:=sizeLine_eq
 refine Calls.call_function_entry kind_sorted plain_sorted entry_sorted (args_sorted1 _) ?_
 unfold Builtin.«sorted»
 refine wpAny_bind (m:=checkCount "sorted" 1 1 _) (wpAny_pure ?_)
 refine wpAny_bind (yN (A:=A.in1) K hh hok (by omega) fun h1 tk acc hsz hk hacc=>?_)
 have hlen:acc.toList.length=n:=by rw [Array.length_toList]; exact hacc.1
 have hI:IntsAre acc.toList ns:=hP acc.toList hlen fun j v e=>hacc.2 j v (by rw [← Array.getElem?_toList]; exact e)
 have hz:s.heap.objs.size<=h1.objs.size:=Nat.le_of_lt hsz
 refine wpAny_bind (wpAny_newList ?_ (by omega))
 have hoL:(h1.push (seqObj "list" acc.toList.toArray 0)).get? h1.objs.size=some (seqObj "list" acc.toList.toArray 0):=Heap.get?_push_size _ rfl
 refine wpAny_bind (wpAny_holding (wpAny_call_entry slot_list_sort ⟨_,hoL,rfl⟩ entry_list_sort (list_sort_tree hoL hI (by omega) fun out ns' a1 a2 a3=>⟨_,rfl,?_⟩) (args_list_sort _)))
 obtain⟨e,he⟩:=sortedHeap_at (out:=out) hoL
 refine wpAny_pure ⟨_,rfl,h _ tk h1.objs.size e out ns' hz (fun b o q=>?_) he a1 a2 a3⟩
 have q1:=hk b o q
 have hlt:b<h1.objs.size:=Heap.lt_size q1
 rw [sortedHeap_old (Nat.ne_of_lt hlt) (by rw [size_push']; exact Nat.lt_succ_of_lt hlt)]
 exact Heap.get?_push_of_some _ q1
end
section
variable {X:Cx}
theorem Fi {P:Program}{w:World}{vs:List (Key×Value)}{ks:List Int} (hk:vs.map (·.1)=ks.map Sum.inl):∀ us:List Value,us.length=vs.length->(∀ (j:Nat) (v:Value),us[j]?=some v->∃ k x,vs[j]?=some (k,x)/\(bU P w).is k v=true)->IntsAre us ks:=by
 intro us
 induction us generalizing vs ks with
 | nil =>
  intro hl _
  have e:vs=[]:=List.eq_nil_of_length_eq_zero (by simpa using hl.symm)
  subst e
  cases ks with
  | nil=>exact .nil
  | cons k ks=>simp at hk
 | cons u us ih =>
  intro hl h
  cases vs with
  | nil=>simp at hl
  | cons v vs =>
   cases ks with
   | nil=>simp at hk
   | cons k ks =>
    rw [List.map_cons,List.map_cons] at hk
    injection hk with hk1 hk2
    obtain⟨k',x,e,is⟩:=h 0 u (by simp)
    simp at e
    subst e
    simp only at hk1
    subst hk1
    have is':rM (Sum.inl k) u=true:=is
    rcases bM is' with ⟨i,t,e1,e2⟩ | ⟨y,t,e1,e2⟩
    ·injection e1 with e1
     subst e1 e2
     exact .cons _ t (ih hk2 (by simpa using hl) fun j v hj=>by simpa using h (j+1) v (by simpa using hj))
    ·cases e1
theorem wu (hc:X.calm=true):bO X (.builtin "sorted") (fun xs H Q=>∃ (d:Addr) (kvs:List (Key×V)) (ks:List Int),xs=[.ref d]/\H d=some (.dK kvs)/\kvs.map (·.1)=ks.map Sum.inl/\ks.length<64 /\
  ∀ (l:Addr) (out:List Int),H l=none->out.Perm ks->out.Pairwise (·<=·)->Q (.ref l) (upd H l (.lst (out.map V.int)))):=by
 intro pins s σ H xs us Q I r h
 obtain⟨d,kvs,ks,rfl,hd,hks,h64,q⟩:=h
 obtain⟨u,rfl,rx⟩:=vals1 r
 cases rx
 obtain⟨hz,lo,vs,kv,o,es,ep,ho,hx,hda,hk1,hk2,hk3⟩:=JL I.hok hd
 have hm:s.heap.DictAt (bU X.prog X.w) d vs ep:=⟨o,es,ho,hx,hda,hk1,hk2,hk3⟩
 have hkeys:vs.map (·.1)=ks.map Sum.inl:=by rw [← KV.keys kv]; exact hks
 have hlv:vs.length=ks.length:=by have:=congrArg List.length hkeys; simpa using this
 refine zy (ns:=ks) (W.kdl_dict (ep:=ep) lo) (I.ok.hd hc) hm (by omega) (fun us hl h=>Fi hkeys us hl h) fun h' tk D e out ns' hD hk he a1 a2 a3=>?_
 have hv:=nM a1
 have hpl:=a2.length_eq
 have h24:=sizeLine_eq
 refine⟨.ref D,upd H D (.lst (ns'.map V.int)),I.laid (fun b o eb=>hk b o eb) hD ⟨?_,out.toList,e,hv,by simpa using he⟩,rfl,q _ _ (I.hok.fresh hD) a2 a3⟩
 rw [List.length_map]
 omega
end
section
variable {X:Cx}
def iD (l:List Int):PyData:=.list (l.map PyData.int)
theorem Aj:∀ l:List Int,PyData.canLayAll0 (l.map PyData.int)=true
 | []=>rfl
 | t::ts=>by
  show (PyData.canLay0 (PyData.int t)&&PyData.canLayAll0 (ts.map PyData.int))=true
  rw [Aj ts]
  rfl
theorem rT:∀ l:List Int,PyData.depthAll (l.map PyData.int)=0
 | []=>rfl
 | t::ts=>by
  show max (PyData.depth (PyData.int t)) (PyData.depthAll (ts.map PyData.int))=0
  rw [rT ts]
  rfl
theorem JB:∀ ts us:List Int,PyData.eqvAll (ts.map PyData.int) (us.map PyData.int)=decide (ts=us)
 | [],[]=>rfl
 | [],_::_=>rfl
 | _::_,[]=>rfl
 | t::ts,u::us=>by
  show ((t == u)&&PyData.eqvAll (ts.map PyData.int) (us.map PyData.int))=_
  rw [JB ts us,Bool.eq_iff_iff]
  simp
theorem Ai:∀ ls:List (List Int),PyData.canLayAll0 (ls.map iD)=true
 | []=>rfl
 | t::ts=>by
  show (PyData.canLayAll0 (t.map PyData.int)&&PyData.canLayAll0 (ts.map iD))=true
  rw [Ai ts,Aj]
  rfl
theorem rR:∀ ls:List (List Int),PyData.depthAll (ls.map iD)<=1
 | []=>Nat.zero_le _
 | t::ts=>by
  show max (PyData.depthAll (t.map PyData.int)+1) (PyData.depthAll (ts.map iD))<=1
  have h1:=rR ts
  rw [rT]
  omega
theorem Bd:∀ ts us:List (List Int),PyData.eqvAll (ts.map iD) (us.map iD)=decide (ts=us)
 | [],[]=>rfl
 | [],_::_=>rfl
 | _::_,[]=>rfl
 | t::ts,u::us=>by
  show (PyData.eqvAll (t.map PyData.int) (u.map PyData.int)&&PyData.eqvAll (ts.map iD) (us.map iD))=_
  rw [Bd ts us,JB,Bool.eq_iff_iff]
  simp
inductive DatL (K:W.Frag) (H:Hp):V->PyData->Prop
 | flt {a:Addr}{l:List Int}:SqL K H a (l.map V.int)->DatL K H (.ref a) (iD l)
 | lists {a:Addr}{as:List Addr}{ls:List (List Int)}:SqL K H a (as.map V.ref)->Paired (fun (a:Addr) (l:List Int)=>SqL K H a (l.map V.int)) as ls->DatL K H (.ref a) (.list (ls.map iD))
end
end L2
namespace PySem
open PyProof.Rows
def gQ (h:Heap) (e:Addr):Prop:=∃ oe vs,h.get? e=some oe/\oe.data=.fields vs/\vs[2]?=some .none
section
variable {M:Model}{A:Around}{E:Value->Shared->Prop}{s:Shared}{base:Heap}{env:Env}{outer:List Env}{L e:Addr}{Q:Unit->Shared->Prop}
theorem gQ.other {h:Heap}{T:Addr}{f:Obj->Obj} (x:gQ h e) (ne:T≠e):gQ (h.update T f) e:=by
 obtain⟨oe,vs,a,b,c⟩:=x
 exact⟨oe,vs,(Heap.get?_update_other _ _ ne).trans a,b,c⟩
theorem xQ {oe:Obj}{vs:Array Value}{hd a0:Value}{hn:Bool} (fr:A.frames=some (env::outer)) (fl:s.heap.FunFrames base (env::outer)) (ef:env.frame=some L) (ge:s.heap.get? e=some oe) (kb:base.StaysIn s.heap) (bn:base.get? e=none) (da:oe.data=.fields vs) (sz:1<vs.size) (v0:vs[0]?=some a0) (v2:vs[2]?=some .none)
  (q:∀ g,Heap.NotedW base (env::outer) e oe.cls a0 (rawInt L) s.heap g->gQ g e->Q () { s with heap:=g }) :
  wpAny M A (do let a ← frameOf env; let pl ← entryPlaceOf L hn; let b ← EntryCells.newEntry hd a .none (rawInt L) .none pl; setField (.ref e) 1 b) Q E s:=by
 have ne:e∉(env::outer).filterMap (·.frame):=fun z=>by
  obtain⟨_,o,eo,nf⟩:=fl.mem z
  rw [ge] at eo
  cases eo
  exact nf vs da
 refine wpAny_bind (wpAny_frameOf_fun fr fl ef fun g1 s1=>wpAny_bind (wpAny_entryPlaceOf fun pl hp=>?_))
 unfold EntryCells.newEntry newFields
 refine wpAny_bind (wpAny_newObj_type ?_ (hp.sizeOk5 _ _ _ _ _))
 generalize eT:({ cls:=.type "traceback",dict:=none,data:=.fields ([hd,.ref L,.none,rawInt L,.none]++(if pl.isEmpty then List.replicate 6 Value.none else pl)).toArray }:Obj)=oT
 have dT:oT.data=.fields ([hd,.ref L,.none,rawInt L,.none]++(if pl.isEmpty then List.replicate 6 Value.none else pl)).toArray:=by rw [← eT]
 have g1e:g1.get? e=some oe:=(s1.2.1 e ne).trans ge
 have kb1:base.StaysIn g1:=fun b o eb=>(s1.2.1 b fun z=>by rw [(fl.mem z).1] at eb; cases eb).trans (kb b o eb)
 have g2e:(g1.push oT).get? e=some oe:=Heap.get?_push_of_some _ g1e
 refine wpAny_setField g2e da sz ?_
 have nT:g1.objs.size≠e:=Nat.ne_of_gt (Heap.lt_size g1e)
 have d3:=Obj.data_mapFields da (·.setIfInBounds 1 (Value.ref g1.objs.size))
 have e3:=Heap.get?_update_self (Obj.mapFields (·.setIfInBounds 1 (Value.ref g1.objs.size))) g2e (Obj.isFreed_of_fields d3)
 have nfT:oT.isFreed=false:=Obj.isFreed_of_fields dT
 have gT:((g1.push oT).update e (Obj.mapFields (·.setIfInBounds 1 (Value.ref g1.objs.size)))).get? g1.objs.size=some oT:=(Heap.get?_update_other _ _ (Ne.symm nT)).trans (Heap.get?_push_size _ nfT)
 have keep:∀ b o,b≠e->g1.get? b=some o->((g1.push oT).update e (Obj.mapFields (·.setIfInBounds 1 (Value.ref g1.objs.size)))).get? b=some o:=fun b o nb eb=>(Heap.get?_update_other _ _ (Ne.symm nb)).trans (Heap.get?_push_of_some _ eb)
 have rec0:∀ b o,s.heap.get? b=some o->(∀ vs,o.data≠.fields vs)->b≠e:=fun b o eb nf z=>by
  rw [z,ge] at eb
  cases eb
  exact nf vs da
 refine q _ ⟨fun b o eb=>keep b o (fun z=>by rw [z,bn] at eb; cases eb) (kb1 b o eb),fl.of_keeps fun b o eb nf=>?_,⟨_,_,g1.objs.size,oT,_,e3,⟨Obj.cls_mapFields _ _,?_⟩,d3,?_,kb1.fresh,nT,gT,dT,?_⟩,fun b o eb nf=>?_⟩ ⟨_,_,e3,d3,?_⟩
 ·obtain⟨sl,z⟩:=s1.2.2 b o eb
  exact⟨_,keep b _ (rec0 b o eb nf) z,rfl⟩
 ·rw [Array.getElem?_setIfInBounds_ne (by decide)]
  exact v0
 ·simp [sz]
 ·first | (simp; done) | (rcases hp with rfl | ⟨_,_,_,_,_,_,_,rfl⟩ <;> simp)
 ·obtain⟨sl,z⟩:=s1.2.2 b o eb
  exact⟨sl,keep b _ (rec0 b o eb nf) z⟩
 ·rw [Array.getElem?_setIfInBounds_ne (by decide)]
  exact v2
theorem Ir {oe:Obj}{vs:Array Value}{a0:Value} (fr:A.frames=some (env::outer)) (fl:s.heap.FunFrames base (env::outer)) (ef:env.frame=some L) (ge:s.heap.get? e=some oe) (kb:base.StaysIn s.heap) (bn:base.get? e=none) (da:oe.data=.fields vs) (v1:vs[1]?=some .none) (v0:vs[0]?=some a0) (v2:vs[2]?=some .none)
  (q:∀ g,Heap.NotedW base (env::outer) e oe.cls a0 (rawInt L) s.heap g->gQ g e->Q () { s with heap:=g }):wpAny M A (noteFrame (.ref e) env) Q E s:=by
 unfold noteFrame
 simp only [ef]
 refine wpAny_bind (wpAny_field ge da v1 ?_)
 rw [if_neg (by decide)]
 exact xQ fr fl ef ge kb bn da (Array.getElem?_eq_some_iff.mp v1).1 v0 v2 q
theorem CV {cls a0:Value} (fr:A.frames=some (env::outer)) (fl:s.heap.FunFrames base (env::outer)) (ef:env.frame=some L) (tr:s.heap.TracedW base e cls a0) (nc:gQ s.heap e) (kb:base.StaysIn s.heap) (bn:base.get? e=none)
  (q:∀ g,Heap.NotedW base (env::outer) e cls a0 (rawInt L) s.heap g->gQ g e->Q () { s with heap:=g }):wpAny M A (noteFrame (.ref e) env) Q E s:=by
 obtain⟨oe,vs,T,oT,ts,ge,⟨rfl,v0⟩,da,v1,bT,nT,gT,dT,t3⟩:=tr
 obtain⟨oe',vs',ge',da',v2⟩:=nc
 rw [ge] at ge'
 cases ge'
 rw [da] at da'
 cases da'
 unfold noteFrame
 simp only [ef]
 refine wpAny_bind (wpAny_field ge da v1 ?_)
 rw [if_pos (show (Value.ref T != Value.none)=true by simp)]
 refine wpAny_bind (wpAny_field gT dT t3 ?_)
 rw [if_neg (show ¬ ((Value.none == rawInt L)=true) by simp [rawInt])]
 refine wpAny_bind (wpAny_setField gT dT (Array.getElem?_eq_some_iff.mp t3).1 ?_)
 have oth:∀ b,b≠T->(s.heap.update T (Obj.mapFields (·.setIfInBounds 3 Value.none))).get? b=s.heap.get? b:=fun b nb=>Heap.get?_update_other _ _ (Ne.symm nb)
 have rec0:∀ b o,s.heap.get? b=some o->(∀ vs,o.data≠.fields vs)->b≠T:=fun b o eb nf z=>by
  rw [z,gT] at eb
  cases eb
  exact nf ts dT
 refine xQ fr (fl.of_keeps fun b o eb nf=>⟨o,(oth b (rec0 b o eb nf)).trans eb,rfl⟩) ef ((oth e (Ne.symm nT)).trans ge) (fun b o eb=>(oth b fun z=>by rw [z,bT] at eb; cases eb).trans (kb b o eb)) bn da (Array.getElem?_eq_some_iff.mp v1).1 v0 v2 fun g ⟨x1,x2,x3,x4⟩ y=>?_
 exact q g ⟨x1,x2,x3,fun b o eb nf=>x4 b o ((oth b (rec0 b o eb nf)).trans eb) nf⟩ y
theorem jK {l:List Env}{cls a0 fl:Value} (kb:base.StaysIn s.heap) (hl:s.heap.FunFrames base l) (tr:s.heap.TracedAtW base e cls a0 fl) (nc:gQ s.heap e)
  (q:∀ g,base.StaysIn g->g.FunFrames base l->g.TracedW base e cls a0->(∀ b o,s.heap.get? b=some o->(∀ vs,o.data≠.fields vs)->g.get? b=some o)->gQ g e->Q () { s with heap:=g }):wpAny M A (setFlight (.ref e) none) Q E s:=by
 obtain⟨oe,vs,T,oT,ts,ge,hc,da,v1,bT,nT,gT,dT,t3⟩:=tr
 have sz:3<ts.size:=(Array.getElem?_eq_some_iff.mp t3).1
 have oth:∀ b,b≠T->(s.heap.update T (Obj.mapFields (·.setIfInBounds 3 ((none:Option Addr).elim Value.none fun f=>rawInt f)))).get? b=s.heap.get? b:=fun b nb=>Heap.get?_update_other _ _ (Ne.symm nb)
 have rec0:∀ b o,s.heap.get? b=some o->(∀ vs,o.data≠.fields vs)->b≠T:=fun b o eb nf z=>by
  rw [z,gT] at eb
  cases eb
  exact nf ts dT
 unfold setFlight
 refine wpAny_bind (wpAny_field ge da v1 ?_)
 rw [if_pos (show (Value.ref T != Value.none)=true by simp)]
 refine wpAny_setField gT dT sz (q _ (fun b o eb=>(oth b fun z=>by rw [z,bT] at eb; cases eb).trans (kb b o eb)) (hl.of_keeps fun b o eb nf=>⟨o,(oth b (rec0 b o eb nf)).trans eb,rfl⟩) ?_ (fun b o eb nf=>(oth b (rec0 b o eb nf)).trans eb) (nc.other nT))
 exact⟨oe,vs,T,_,_,(oth e (Ne.symm nT)).trans ge,hc,da,v1,bT,nT,Heap.get?_update_self _ gT (Obj.isFreed_of_fields (Obj.data_mapFields dT _)),Obj.data_mapFields dT _,by simp [sz]⟩
theorem Ez {oe:Obj}{vs:Array Value}{a0:Value} (fr:A.frames=some (env::outer)) (fl:s.heap.FunFrames base (env::outer)) (ef:env.frame=some L) (ge:s.heap.get? e=some oe) (kb:base.StaysIn s.heap) (bn:base.get? e=none) (da:oe.data=.fields vs) (v1:vs[1]?=some .none) (v0:vs[0]?=some a0) (v2:vs[2]?=some .none)
  (q:∀ g,Heap.LeftW base (env::outer) e oe.cls a0 s.heap g->gQ g e->Q () { s with heap:=g }):wpAny M A (leaving env (.ref e)) Q E s:=by
 unfold leaving
 refine wpAny_bind (Ir fr fl ef ge kb bn da v1 v0 v2 fun g ⟨x1,x2,x3,x4⟩ y=>jK x1 x2 x3 y fun g2 y1 y2 y3 y4 y5=>q g2 ⟨y1,y2,y3,fun b o eb nf=>?_⟩ y5)
 obtain⟨sl,z⟩:=x4 b o eb nf
 exact⟨sl,y4 b _ z nf⟩
theorem Iu {cls a0:Value} (fr:A.frames=some (env::outer)) (fl:s.heap.FunFrames base (env::outer)) (ef:env.frame=some L) (tr:s.heap.TracedW base e cls a0) (nc:gQ s.heap e) (kb:base.StaysIn s.heap) (bn:base.get? e=none)
  (q:∀ g,Heap.LeftW base (env::outer) e cls a0 s.heap g->gQ g e->Q () { s with heap:=g }):wpAny M A (leaving env (.ref e)) Q E s:=by
 unfold leaving
 refine wpAny_bind (CV fr fl ef tr nc kb bn fun g ⟨x1,x2,x3,x4⟩ y=>jK x1 x2 x3 y fun g2 y1 y2 y3 y4 y5=>q g2 ⟨y1,y2,y3,fun b o eb nf=>?_⟩ y5)
 obtain⟨sl,z⟩:=x4 b o eb nf
 exact⟨sl,y4 b _ z nf⟩
end
end PySem
namespace L2
open PySem PySem.Spec PyProof.Rows
def Vp (base:Heap) (l:List Env) (e:Addr) (cls a0:Value) (h:Heap):Prop:=base.StaysIn h/\base.get? e=none/\h.FunFrames base l/\h.TracedW base e cls a0/\gQ h e
def CX1 (P:Program) (w:World):CXT:=fun outer H s E e s'=>∃ (a:Addr) (cls a0:Value) (H1:Hp) (hb:Heap),e=.ref a/\s'.os=s.os/\AllBare s'.gens/\Un (frs outer) [] H H1 s.heap s'.heap/\HOk P w H1 hb/\Vp hb outer a cls a0 s'.heap /\
 (∀ b o,s.heap.get? b=some o->H b=none->b∉frs outer->hb.get? b=some o)/\(∀ b o,s.heap.get? b=some o->b∉frs outer->∃ o',hb.get? b=some o')/\E cls none H1
structure Lets (X:Cx) (E:XK):Prop where
 xe:∀ e s',wpAny (model X.prog X.w) X.A (leaving X.env e) (fun _ s''=>CX1 X.prog X.w X.outer X.H₀ X.s₀ E e s'') (fun e' s''=>CX1 X.prog X.w X.outer X.H₀ X.s₀ E e' s'') s'->X.xe e s'
 stk:X.stack=X.env::X.outer
 fr:X.env.frame=some X.env.locals
 ex:X.ex=[]
theorem Bw {fs:List Addr}{H H1:Hp}{h h1 h2 hb:Heap} (u:Un fs [] H H1 h h1) (k1:∀ b o,h.get? b=some o->H b=none->b∉fs->hb.get? b=some o) (k4:∀ b o,h.get? b=some o->b∉fs->∃ o',hb.get? b=some o') (st:hb.StaysIn h2)
  (fr:∀ b∈fs,∃ o,h1.get? b=some o/\∀ vs,o.data≠.fields vs) (up:∀ b o,h1.get? b=some o->(∀ vs,o.data≠.fields vs)->∃ sl,h2.get? b=some { o with slots:=sl }):Un fs [] H H1 h h2 where
 keep:=fun b o e n hb' _=>st b o (k1 b o e n hb')
 slot:=fun b o e n hb' hx=>by
  obtain⟨sl,e1⟩:=u.slot b o e n hb' hx
  obtain⟨o1,e2,nf⟩:=fr b hb'
  rw [e1] at e2
  cases e2
  obtain⟨sl2,e3⟩:=up b _ e1 nf
  exact⟨sl2,e3⟩
 free:=u.free
 there:=fun b o e hx=>by
  by_cases hb':b∈fs
  ·obtain⟨o1,e2,nf⟩:=fr b hb'
   obtain⟨sl2,e3⟩:=up b _ e2 nf
   exact⟨_,e3⟩
  ·obtain⟨o',e'⟩:=k4 b o e hb'
   exact⟨o',st b o' e'⟩
 tups:=u.tups
 frzs:=u.frzs
 tbls:=u.tbls
theorem yC {h h' base hb:Heap} (k:∀ b o,h.get? b=some o->h'.get? b=some o):∀ {l:List Env},h.FunFrames base l->(∀ b∈frs l,hb.get? b=none)->h'.FunFrames hb l
 | [],_,_=>trivial
 | env::r,hl,hn=>by
  obtain⟨hk,⟨L,o,hf,hn',ho,hd⟩,hr⟩:=hl
  have hL:L∈frs (env::r):=by unfold frs; rw [List.filterMap_cons,hf]; exact List.mem_cons_self
  exact⟨hk,⟨L,o,hf,hn L hL,k _ _ ho,hd⟩,yC k hr fun b hb'=>hn b (by
   unfold frs; rw [List.filterMap_cons,hf]; exact List.mem_cons_of_mem _ hb')⟩
theorem uq {h hb:Heap}{env:Env}{l:List Env} (x:h.FunFrames hb (env::l)):h.FunFrames hb l:=x.2.2
section
variable {X:Cx}{pins:List (Addr×Obj)}{σ:St}{H H1:Hp}{s:Shared}{E:XK}
theorem Inv.xM (L:Lets X E) (I:Inv X pins σ H s) {b:Addr}{o:Obj} (e:X.s₀.heap.get? b=some o) (h:b∉frs X.outer):b∉frs X.stack:=fun z=>by
 rcases List.mem_cons.mp (I.uQ b z) with z | z
 ·have h1:=Heap.lt_size e
  have h2:=I.ok.above
  rw [z] at h1
  exact absurd (Nat.lt_of_lt_of_le h1 h2) (Nat.lt_irrefl _)
 ·exact h z
theorem CZ {h1 h2 hb:Heap} (L:Lets X E) (I:Inv X pins σ H s) (un:Un (frs X.stack) [] H H1 s.heap h1) (k1:∀ b o,s.heap.get? b=some o->H b=none->b∉frs X.stack->hb.get? b=some o) (k4:∀ b o,s.heap.get? b=some o->b∉frs X.stack->∃ o',hb.get? b=some o')
  (f1:h1.FunFrames hb X.stack) (st:hb.StaysIn h2) (up:∀ b o,h1.get? b=some o->(∀ vs,o.data≠.fields vs)->∃ sl,h2.get? b=some { o with slots:=sl }) :
  Un (frs X.outer) [] X.H₀ H1 X.s₀.heap h2/\(∀ b o,X.s₀.heap.get? b=some o->X.H₀ b=none->b∉frs X.outer->hb.get? b=some o)/\(∀ b o,X.s₀.heap.get? b=some o->b∉frs X.outer->∃ o',hb.get? b=some o'):=by
 have nx:∀ b:Addr,b∉X.ex:=fun b=>by rw [L.ex]; simp
 have sub:∀ b∈frs X.outer,b∈frs X.stack:=fun b hb'=>by
  rw [L.stk]
  unfold frs
  rw [List.filterMap_cons,L.fr]
  exact List.mem_cons_of_mem _ hb'
 have K1:∀ b o,X.s₀.heap.get? b=some o->X.H₀ b=none->b∉frs X.outer->hb.get? b=some o:=fun b o e n hb' =>
  k1 b o (I.base.keep b o e n hb' (nx b)) (I.base.free b o e n (nx b)) (I.xM L e hb')
 have K4:∀ b o,X.s₀.heap.get? b=some o->b∉frs X.outer->∃ o',hb.get? b=some o':=fun b o e hb'=>by
  obtain⟨o',e'⟩:=I.base.there b o e (nx b)
  exact k4 b o' e' (I.xM L e hb')
 refine⟨⟨fun b o e n hb' _=>st b o (K1 b o e n hb'),fun b o e n hb' _=>?_,fun b o e n _=>?_,fun b o e _=>?_,fun b xs q=>un.tups b xs (I.base.tups b xs q),fun b o u q=>un.frzs b o u (I.base.frzs b o u q),fun b ps q=>?_⟩,K1,K4⟩
 ·obtain⟨sl,e1⟩:=I.base.slot b o e n hb' (nx b)
  obtain⟨sl1,e2⟩:=un.slot b _ e1 (I.base.free b o e n (nx b)) (sub b hb') (by simp)
  obtain⟨_,o1,e3,nf⟩:=f1.mem (sub b hb')
  rw [e2] at e3
  cases e3
  obtain⟨sl2,e4⟩:=up b _ e2 nf
  exact⟨sl2,e4⟩
 ·obtain⟨o',e'⟩:=I.base.there b o e (nx b)
  exact un.free b o' e' (I.base.free b o e n (nx b)) (by simp)
 ·by_cases hb':b∈frs X.stack
  ·obtain⟨_,o1,e3,nf⟩:=f1.mem hb'
   obtain⟨sl2,e4⟩:=up b _ e3 nf
   exact⟨_,e4⟩
  ·obtain⟨o',e'⟩:=K4 b o e (fun z=>hb' (sub b z))
   exact⟨o',st b o' e'⟩
 ·obtain⟨m1,e1⟩:=I.base.tbls b ps q
  obtain⟨m2,e2⟩:=un.tbls b _ e1
  exact⟨m1++m2,by rw [e2,Array.append_assoc]⟩
theorem HD (L:Lets X E):Passes (CX1 X.prog X.w) X E:=fun pins σ H s e s' I h=>by
 obtain⟨a,cls,a0,H1,hb,rfl,os,bare,un,hok,⟨st,hn,fs,tr⟩,k1,k4,q⟩:=h
 refine L.xe _ _ (Iu (base:=hb) (by rw [I.ok.frames,L.stk]) (L.stk ▸ fs) L.fr tr.1 tr.2 st hn fun h2 ⟨l1,l2,l3,l4⟩ l5=>?_)
 obtain⟨u,K1,K4⟩:=CZ L I un k1 k4 fs l1 l4
 exact⟨a,cls,a0,H1,hb,rfl,os.trans I.os,bare,u,hok,⟨l1,hn,uq l2,l3,l5⟩,K1,K4,q⟩
theorem Jk (I:Inv X pins σ H s):HOk X.prog X.w H (W.hideAll s.heap (frs X.stack)):=fun b u e=>by
 have nf:∀ {c v},H c=some v->c∉frs X.stack:=fun {c v} q z=>by rw [I.uR c z] at q; cases q
 refine (I.hok b u e).stay (fun c v hcv y=>W.hideAll_get _ y ?_) (fun _ q=>q) fun _ _ q=>q
 rcases hcv with rfl | z
 ·exact nf e
 ·exact nf z
theorem Ei (L:Lets X E) (I:Inv X pins σ H s) {h':Heap}{e:Addr}{cls:Value}{args:List Value} (m:s.heap.MadeExcOf h' e cls args) (q:E cls none H):X.xe (.ref e) { s with heap:=h' }:=by
 obtain⟨k,new,t,he,ht,_⟩:=m
 have hbn:(W.hideAll s.heap (frs X.stack)).get? e=none:=by
  cases z:(W.hideAll s.heap (frs X.stack)).get? e with
  | none=>rfl
  | some o=>rw [W.of_hideAll _ z] at new; cases new
 have st0:(W.hideAll s.heap (frs X.stack)).StaysIn h':=fun b o z=>k b o (W.of_hideAll _ z)
 have f1:h'.FunFrames (W.hideAll s.heap (frs X.stack)) X.stack:=yC k I.stack fun b hb=>W.hideAll_none _ hb
 have k1:∀ b o,s.heap.get? b=some o->H b=none->b∉frs X.stack->(W.hideAll s.heap (frs X.stack)).get? b=some o:=fun b o z _ nb=>W.hideAll_get _ z nb
 have k4:∀ b o,s.heap.get? b=some o->b∉frs X.stack->∃ o',(W.hideAll s.heap (frs X.stack)).get? b=some o':=fun b o z nb=>⟨o,W.hideAll_get _ z nb⟩
 have hok:=Jk I
 generalize W.hideAll s.heap (frs X.stack)=hb at hbn st0 f1 k1 k4 hok
 have f2:h'.FunFrames hb (X.env::X.outer):=by rw [← L.stk]; exact f1
 refine L.xe _ _ (Ez (base:=hb) (a0:=.ref t) (by rw [I.ok.frames,L.stk]) f2 L.fr he st0 hbn rfl rfl rfl rfl fun h2 ⟨l1,l2,l3,l4⟩ l5=>?_)
 obtain⟨u,K1,K4⟩:=CZ (H1:=H) (h1:=h') L I (Un.kept k) k1 k4 f1 l1 l4
 exact⟨e,cls,.ref t,H,hb,rfl,I.os,I.bare,u,hok,⟨l1,hbn,uq l2,l3,l5⟩,K1,K4,q⟩
end
theorem mG {P:Program}{w:World}{K:W.Frag}{mg:Str->Option Value}{base:Heap}{N:List Str}{qual:Str}{scope:Scope}{f:Addr}{cd:Value}{A:Around}{outer:List Env}{s:Shared}{H:Hp}{E:XK}:Lets (wg (CX1 P w) P w K mg base N qual scope f cd A outer s H E) E:=⟨fun _ _ h=>h,rfl,rfl,rfl⟩
theorem Fun.ok1 {P:Program}{w:World}{K:W.Frag}{mg:Str->Option Value}{base:Heap}{x qual:Str}{st:Stmt}{f:Addr}{fd:FuncData}{N ps:List Str}{k:Nat}{sp:Sp} (F:Fun K x qual st f fd) (S:FnScope N ps (aq st)) (len:∀ vs H Q E,sp vs H Q E->vs.length=ps.length)
  (hbody:∀ (cdv:Value) (A:Around) (outer:List Env) (s:Shared) (H:Hp) (vs:List V) (Q:VK) (E:XK),Room k (A.deeper (envOfC qual (aq st) s.heap.objs.size f cdv))->sp vs H Q E ->
   ∃ t,PSs (wg (CX1 P w) P w K mg base N qual (aq st) f cdv A outer s H E) (fD st) t/\t { nx:=fun _ H'=>Q .non H',rt:=Q } (start N vs) H):FnOk P w K mg base (CX1 P w) (k+1) f fd ps sp:=by
 obtain⟨oc,od,kV,doc,pm,an,cdv,ct,osl,rfl,lk,hcd⟩:=F.ex
 refine Og lk hcd S len fun A outer s H vs Q E hr hsp=>?_
 obtain⟨t,h,q⟩:=hbody cdv A outer s H vs Q E hr hsp
 exact⟨t,h,q⟩
structure ExcCls (K:W.Frag) (C:Addr) (newId:String) (bmB:List Value):Prop where
 ex:∃ (nm q:Str) (N:Addr) (bs bm:List Value) (hdct:Bool) (sn:List Str) (sub:List Value) (ab:Bool) (col:Option Bool) (dd:Option Addr) (k0 k1 k2 k3 k5:Option Value),
  K.lookup C=some (excClassObj nm q C N bs bm hdct sn sub ab col dd k0 k1 k2 k3 k5 newId)/\W.tailIn K bmB bm=true/\W.nsOkIn K N=true/\W.nsIn K N "__init__"=some none/\bm.contains (.type "BaseException")=true
section
variable {X:Cx}{E:XK}{x:Str}{C:Addr}{newId Bn initId:String}{bmB:List Value}{e:Expr}{es:List Expr}{t:TA}{np cpos pos:Pos}
def O9 (E:XK) (C:Addr) (t:TA):TS:=fun _ σ H=>t σ H fun vs H1=>vs.length<=sizeLine/\E (.ref C) none H1
theorem G6 (L:Lets X E) (hc:X.calm=true) (hg:Gl X x) (hm:X.mg x=some (.ref C)) (hx:ExcCls X.K C newId bmB) (B:ExcBaseFacts Bn newId initId bmB) (ha:PA X (e::es) t) (hdb:(x == ("__debug__":Str))=false:=by decide)
  (he:starEach (e::es) X.env=(false,eval e X.env)::starEach es X.env:=by rfl) (hpl:(backTo cpos (starEach (e::es) X.env)).any (·.1)=false:=by rfl) (hcons:backTo cpos (starEach (e::es) X.env)=(false,eval e X.env)::backTo cpos (starEach es X.env):=by rfl) :
  PS X (.Raise (some (.Call (.Name x np) (e::es) [] cpos)) none pos) (O9 E C t):=by
 intro pins s σ H D I h
 obtain⟨nm,q,N,bs,bm,hdct,sn,sub,ab,col,dd,k0,k1,k2,k3,k5,lk,tl,nso,nin,bmc⟩:=hx.ex
 have nsb:X.base.Ns N (X.base.nsMap N):=Heap.Ns.of_isNs (W.isNs_of_in I.ok.mod.kin nso)
 refine wpAny_Raise_call_subT (nm:=nm) (q:=q) (N:=N) (bs:=bs) (bm:=bm) (hdct:=hdct) (sn:=sn) (sub:=sub) (ab:=ab) (col:=col) (dd:=dd) (k0:=k0) (k1:=k1) (k2:=k2) (k3:=k3) (k5:=k5) (mN:=X.base.nsMap N) B bmc (I.ok.hd hc) hpl (W.nsMap_none_of_in I.ok.mod.kin nso nin) (jM I hg hm ⟨rfl,?_⟩ hdb)
 rw [hcons]
 refine PySem.Calls.evalArgs_plain ?_
 rw [← hcons]
 refine thn (ha cpos pins s σ H _ I h) fun us s1 ⟨vs,H1,I1,r,hl,q⟩=>⟨rfl,by rw [← r.length]; exact hl,I1.kIn _ _ lk,nsb.keeps I1.bk,W.tail_of_in I1.kIn tl,fun h' a m=>Ei L I1 m q⟩
end
abbrev Cx.handling (X:Cx) (e:Value):Cx:={ X with A:=X.A.mark (some e),calm:=false,xe:=fun _ _=>False,sf:=[] }
section
variable {X:Cx}{pins:List (Addr×Obj)}{σ:St}{H:Hp}{s:Shared}{ev:Value}
theorem Inv.handling (I:Inv X pins σ H s) (ev:Value):Inv (X.handling ev) pins σ H s :=
 ⟨⟨I.ok.mod,I.ok.kind,I.ok.glob,I.ok.blt,I.ok.above,I.ok.inj,I.ok.has,I.ok.cab,(fun h=>nomatch h),I.ok.frames,I.ok.stk,I.ok.exf,I.ok.bs,I.ok.bsz,I.ok.noex,I.ok.exfs,I.ok.mO,I.ok.frf,fun q z=>nomatch z⟩,I.os,I.bare,I.base,I.loc,I.cell,I.free,I.freeC,I.pin,I.hok,I.len⟩
theorem Inv.handled (ok:X.Ok) (I:Inv (X.handling ev) pins σ H s):Inv X pins σ H s:=⟨ok,I.os,I.bare,I.base,I.loc,I.cell,I.free,I.freeC,I.pin,I.hok,I.len⟩
def jC (a:Addr) (cls:Value):Heap->Prop:=fun h=>∃ oe vs,h.get? a=some oe/\oe.cls=cls/\oe.data=.fields vs
def kY (a:Addr) (cls:Value):HO:=.ext (jC a cls)
theorem jC.ok {P:Program}{w:World}{H:Hp}{h:Heap}{a:Addr}{cls:Value} (x:jC a cls h):bG P w H h a (kY a cls) :=
 ⟨x,let ⟨oe,_,e,_⟩:=x; ⟨oe,e⟩,fun h1 h2 ⟨oe,vs,e,c,d⟩ k=>⟨oe,vs,k _ e,c,d⟩⟩
theorem Inv.track {a:Addr}{o:HO} (I:Inv X pins σ H s) (hn:H a=none) (h0:∀ ob,X.s₀.heap.get? a≠some ob) (hL:a≠X.env.locals) (hC:∀ x c,X.env.cells.lookup x=some c->c≠a) (hp:∀ p∈X.pn++pins,p.1≠a)
  (new:bG X.prog X.w (upd H a o) s.heap a o):Inv X pins σ (upd H a o) s:=by
 refine⟨I.ok,I.os,I.bare,⟨I.base.keep,I.base.slot,fun b ob e n hx=>?_,I.base.there,fun b xs e=>?_,fun b ob u e=>?_,fun b ps e=>?_⟩,I.loc,I.cell,?_,fun x c e=>?_,fun p q=>?_,I.hok.track hn new,I.len⟩
 ·rw [au (show b≠a from fun z=>h0 ob (by rw [← z]; exact e))]
  exact I.base.free b ob e n hx
 ·have q:=I.base.tups b xs e
  rw [au (aD q hn)]
  exact q
 ·have q:=I.base.frzs b ob u e
  rw [au (aD q hn)]
  exact q
 ·obtain⟨m,q⟩:=I.base.tbls b ps e
  exact⟨m,by rw [au (aD q hn)]; exact q⟩
 ·rw [au (Ne.symm hL)]
  exact I.free
 ·rw [au (hC x c e)]
  exact I.freeC x c e
 ·obtain⟨q1,q2,q3⟩:=I.pin p q
  exact⟨q1,by rw [au (hp p q)]; exact q2,q3⟩
end
theorem bG.there {P:Program}{w:World}{H:Hp}{h:Heap}{a:Addr}{o:HO} (x:bG P w H h a o):∃ ob,h.get? a=some ob:=by
 cases o with
 | lst xs=>obtain⟨_,_,_,_,e⟩:=x; exact⟨_,e⟩
 | tup xs=>obtain⟨_,_,_,o,e,_⟩:=x; exact⟨_,e⟩
 | dK kvs=>obtain⟨_,_,_,_,o,_,_,e,_⟩:=x; exact⟨_,e⟩
 | dT kvs=>obtain⟨_,_,_,_,o,_,_,e,_⟩:=x; exact⟨_,e⟩
 | set S n=>obtain⟨o,_,_,_,e,_⟩:=x; exact⟨_,e⟩
 | ins C dx fs=>obtain⟨_,_,_,e,_⟩:=x; exact⟨_,e⟩
 | own y=>exact x
 | xd fs=>obtain⟨_,⟨_,_,_,e,_⟩,_⟩:=x; exact⟨_,e⟩
 | rng lo hi=>obtain⟨_,_,_,e⟩:=x; exact⟨_,e⟩
 | frz ob u=>exact⟨_,x.1⟩
 | tbl ps=>exact⟨_,(show h.get? a=some _ from x)⟩
 | met f y=>exact⟨_,(show h.get? a=some _ from x)⟩
 | ext φ=>exact x.2.1
theorem Inv.unbound {X:Cx}{pins:List (Addr×Obj)}{σ:St}{H:Hp}{s:Shared}{j:Nat}{n:Str}{m:Str->Option Value}{v:Option Value}{h':Heap}{tk:Nat} (I:Inv X pins σ H s) (hN:X.N.Nodup) (hj:X.N[j]?=some n) (hm:s.heap.Ns X.env.locals m)
  (hn:h'.Ns X.env.locals fun x=>if x=n then v else m x) (hs:Heap.SameBut X.env.locals s.heap h'):Inv X pins (σ.set j none) H { s with heap:=h',toks:=tk }:=by
 obtain⟨m0,hm0,hl⟩:=id I.loc
 have em:m0=m:=by
  obtain⟨o1,es1,ep1,e1,d1,_,f1⟩:=id hm0
  obtain⟨o2,es2,ep2,e2,d2,_,f2⟩:=id hm
  rw [e1] at e2
  cases e2
  rw [d1] at d2
  cases d2
  funext y
  rw [← f1,← f2]
 subst em
 have neL:∀ b o,X.s₀.heap.get? b=some o->b≠X.env.locals:=fun b o e=>Nat.ne_of_lt (Nat.lt_of_lt_of_le (Heap.lt_size e) I.ok.above)
 have cne:=I.cne
 refine⟨I.ok,I.os,I.bare,⟨fun b o e n' hb hx=>(hs.2 b (neL b o e)).trans (I.base.keep b o e n' hb hx),fun b o e n' hb hx=>?_,I.base.free,fun b o e hx=>?_,I.base.tups,I.base.frzs,I.base.tbls⟩,⟨_,hn,fun i y v' e1 e2 e3=>?_⟩,fun y c e=>?_,I.free,I.freeC,fun p hp=>?_,fun b u e=>?_,by rw [List.length_set]; exact I.len⟩
 ·obtain⟨sl,e1⟩:=I.base.slot b o e n' hb hx
  exact⟨sl,(hs.2 b (neL b o e)).trans e1⟩
 ·obtain⟨o',e1⟩:=I.base.there b o e hx
  exact⟨o',(hs.2 b (neL b o e)).trans e1⟩
 ·by_cases hij:i=j
  ·subst hij
   rw [List.getElem?_set] at e2
   simp at e2
  ·rw [List.getElem?_set_ne (Ne.symm hij)] at e2
   obtain⟨u',r',q⟩:=hl i y v' e1 e2 e3
   refine⟨u',r',?_⟩
   rcases q with ⟨k,e⟩ | ⟨k,c,e,z⟩
   ·refine .inl ⟨k,?_⟩
    have:y≠n:=fun e=>hij (rB hN e1 (e ▸ hj))
    simp [this,e]
   ·exact .inr ⟨k,c,e,z.sameBut hs (cne y c e)⟩
 ·obtain⟨u,z⟩:=I.cell y c e
  exact⟨u,z.sameBut hs (cne y c e)⟩
 ·obtain⟨q1,q2,q3,q4⟩:=I.pin p hp
  exact⟨(hs.2 p.1 q3).trans q1,q2,q3,q4⟩
 ·refine (I.hok b u e).stay (fun c w' hc q=>(hs.2 c ?_).trans q) (fun _ q=>q) fun _ _ q=>q
  intro z
  rcases hc with hc | hc
  ·rw [← hc,z,I.free] at e; cases e
  ·rw [z,I.free] at hc; cases hc
section
variable {X:Cx}{k:Nat}{f CF:Addr}{fd:FuncData}{ps:List Str}{sp:Sp}{E:XK}{x hx n:Str}{p np cpos epos hpos pos:Pos}{e:Expr}{es:List Expr}{t:TA}{b₀:Stmt}{suite:List Stmt}{ts:TS}{j:Nat}
end
end L2
namespace L2
open PySem PySem.W PySem.Spec PyProof.Rows
structure ExcK (K:W.Frag) (C:Addr):Prop where
 ex:∃ (nm q:Str) (N AF:Addr) (bs bmB:List Value) (hdct:Bool) (sn:List Str) (sub:List Value) (ab:Bool) (col:Option Bool) (dd ddF:Option Addr) (k0 k1 k2 k3 k5:Option Value) (newId B:String) (c0:Value) (cd:ClassData) (slF:Array (Option Value)),
  K.lookup C=some (excClassObj nm q C N bs (.ref AF::bmB) hdct sn sub ab col dd k0 k1 k2 k3 k5 newId)/\K.lookup AF=some ⟨c0,ddF,.cls cd,slF⟩/\nsOkIn K cd.ns=true/\(∀ n∈quietNames,nsIn K cd.ns n=some none)/\ExcAttrBase B bmB
 ga:findIn K (.ref C) "__getattribute__"=some (some (.builtin "BaseException.__getattribute__"))
 hook:findIn K (.ref C) "__getattr__"=some none
 cls:findIn K (.ref C) "__class__"=some (some (.builtin "object.__class__"))
 mro:mroIn K C (.type "object")=some true
section
variable {prog:Program}{w:World}{K:W.Frag}{a C:Addr}{A:Around}{E:Value->Shared->Prop}{s:Shared}
theorem vR {M:Model}{h:Heap} (x:jC a (.ref C) h):Looks M h (typeOf (.ref a)) (.ref C):=fun A Q E s k q=>by
 obtain⟨oe,vs,e1,e2,_⟩:=x
 refine wpAny_typeOf_ref (k _ _ e1) ?_
 rw [e2]
 exact q
theorem M6 {tp:Value}{R:Result->Shared->Prop} (X:K.In s.heap) (x:jC a (.ref C) s.heap) (hm:mroIn K C (.type "object")=some true) (h:R (.ok (.ret (.ref C))) s) :
  codeAny (model prog w) A (.call (.builtin "getset_descriptor.__get__") ⟨[.builtin "object.__class__",.ref a,tp],[]⟩) R s:=by
 obtain⟨hh,g,dr,t,os⟩:=s
 have L0:=vR (M:=model prog w) x
 have L1:=looks_mroIn (M:=model prog w) X hm
 refine codeAny_call_builtin KF.slot_gs.plain KF.entry_gs (KF.slot_gs.check _ _ _ _ _ _ _ _ KF.type_class (KF.args_gs _ _ _) ?_)
 show wpAny _ _ (Builtin.Getset_descriptor.descrGet _) _ _ _
 unfold Builtin.Getset_descriptor.descrGet
 rw [dga_obj]
 refine wpAny_bind (wpAny_pure ?_)
 show wpAny _ _ (Builtin.Getset_descriptor.descrCheckInstance (.builtin "object.__class__") (.ref a) >>= _) _ _ _
 have e1:Builtin.Getset_descriptor.descrNameAndClass (.builtin "object.__class__")=pure (Str.ofString "__class__",.type "object"):=by
  show pure (Str.ofString (Builtin.Getset_descriptor.descrOwnerAndName "object.__class__").2,Value.type (Builtin.Getset_descriptor.descrOwnerAndName "object.__class__").1)=_
  rw [KF.owner_class]
 unfold Builtin.Getset_descriptor.descrCheckInstance
 rw [e1]
 refine wpAny_bind (wpAny_bind (wpAny_pure ?_))
 show wpAny _ _ ((do let t ← typeOf (.ref a); isSubtype t (.type "object")) >>= _) _ _ _
 refine wpAny_bind (wpAny_bind (Looks.at L0 (Looks.at L1 ?_)))
 refine wpAny_ite_false rfl (wpAny_pure ?_)
 refine wpAny_pure ⟨Code.quiet_builtin _ (by decide +kernel),codeAny_builtin KF.entry_class ?_⟩
 show wpAny _ _ ((typeOf (.ref a) >>= _) >>= _) _ _ _
 refine wpAny_bind (wpAny_bind (Looks.at L0 ?_))
 exact wpAny_pure (wpAny_pure h)
theorem Fx {h:Heap}{AF:Addr}{bmB:List Value}{c0:Value}{ddF:Option Addr}{cd:ClassData}{slF:Array (Option Value)} (X:K.In h) (lkF:K.lookup AF=some ⟨c0,ddF,.cls cd,slF⟩) (nsF:nsOkIn K cd.ns=true) (qF:∀ n∈quietNames,nsIn K cd.ns n=some none):OwnTailQ h bmB (.ref AF::bmB) :=
 .own (X _ _ lkF) (Heap.Ns.of_isNs (isNs_of_in X nsF)) (fun n hn=>nsMap_none_of_in X nsF (qF n hn)) .base
theorem Fy {tk:Tok}{Q:PySem.Fin->Shared->Prop} (X:K.In s.heap) (k:ExcK K C) (x:jC a (.ref C) s.heap) (h:Q (.done (.ret (.ref C))) s) :
  wpAny (model prog w) A (Builtin.«object.__getattribute__» ⟨[.ref a,.str "__class__" tk],[]⟩) Q E s:=by
 obtain⟨hh,g,dr,t,os⟩:=s
 have L0:=vR (M:=model prog w) x
 have L2:=looks_findIn (M:=model prog w) X k.cls
 have es:slotArgs "__getattribute__" 1 ⟨[.ref a,.str "__class__" tk],[]⟩=pure (.ref a,[.str "__class__" tk]):=rfl
 have en:Builtin.ObjectAttr.attrName (.str "__class__" tk)=pure (Str.ofString "__class__"):=rfl
 unfold Builtin.«object.__getattribute__»
 rw [es]
 refine wpAny_bind (wpAny_pure ?_)
 show wpAny _ _ (Builtin.ObjectAttr.attrName (.str "__class__" tk) >>= _) _ _ _
 rw [en]
 refine wpAny_bind (wpAny_pure ?_)
 refine wpAny_bind (Looks.at L0 ?_)
 refine wpAny_bind ?_
 unfold Builtin.ObjectAttr.find
 refine wpAny_bind (Looks.at L2 ?_)
 refine wpAny_bind (wpAny_specialOf_val F.typeOf_object_class F.slot_gs_get.lookup ?_)
 refine wpAny_bind (wpAny_bind (wpAny_bind (wpAny_specialOf_val F.typeOf_object_class F.slot_gs_set.lookup ?_)))
 refine wpAny_ite_true rfl (wpAny_pure (wpAny_ite_true rfl (wpAny_pure (wpAny_bind (wpAny_rule (wpAny_pure ?_))))))
 show wpAny _ _ (holding _ (call _ _) >>= _) _ _ _
 exact wpAny_bind (wpAny_holding (wpAny_call (M6 X x k.mro (wpAny_pure h))))
theorem Rf {tk:Tok}{Q:Value->Shared->Prop} (X:K.In s.heap) (k:ExcK K C) (x:jC a (.ref C) s.heap) (h:Q (.ref C) s):wpAny (model prog w) A (getAttrBy (.ref a) (.str "__class__" tk) false) Q E s:=by
 obtain⟨nm,q,N,AF,bs,bmB,hdct,sn,sub,ab,col,dd,ddF,k0,k1,k2,k3,k5,newId,B,c0,cd,slF,lk,lkF,nsF,qF,FB⟩:=k.ex
 obtain⟨hh,g,dr,t,os⟩:=s
 obtain⟨oe,vs,e1,e2,e3⟩:=id x
 have L0:=vR (M:=model prog w) x
 have L3:=looks_findIn (M:=model prog w) X k.ga
 have L4:=looks_findIn (M:=model prog w) X k.hook
 refine wpAny_holding (wpAny_bind (Looks.at L0 (wpAny_bind (Looks.at L3 ?_))))
 refine wpAny_ite_false rfl ?_
 refine wpAny_bind (wpAny_ite_true rfl (Looks.at L4 (wpAny_bind (wpAny_attempt (wpAny_holding ?_)))))
 refine wpAny_ite_false rfl ?_
 refine wpAny_bind (wpAny_of_eq (FB.ga.bind (.ref a)) (wpAny_call ?_))
 refine codeAny_call_builtin FB.ga.plain F.entry_bexc_ga (wpAny_check_ga_own FB (X _ _ lk) (Fx X lkF nsF qF) e1 e2 ?_)
 exact Fy X k x (wpAny_pure h)
theorem Rb {Q:Option Value->Shared->Prop} (X:K.In s.heap) (k:ExcK K C) (x:jC a (.ref C) s.heap) (h:Q (some (.ref C)) { s with toks:=s.toks+1 }):wpAny (model prog w) A (getAttr? (.ref a) "__class__") Q E s:=by
 obtain⟨hh,g,dr,t,os⟩:=s
 exact wpAny_bind (wpAny_bind (wpAny_fresh' (wpAny_pure (wpAny_bind (wpAny_attempt (Rf (s:=⟨hh,g,dr,t+1,os⟩) X k x (wpAny_pure h)))))))
theorem Jz (k:ExcK K C):KitX K (.ref a) (.ref C) (jC a (.ref C)) where
 ty:=fun M h _ x=>vR x
 it:=fun M h X x A Q E s kk q=>by
  obtain⟨nm,q',N,AF,bs,bmB,hdct,sn,sub,ab,col,dd,ddF,k0,k1,k2,k3,k5,newId,B,c0,cd,slF,lk,_⟩:=k.ex
  exact wpAny_bind (wpAny_loadPart (kk _ _ (X _ _ lk)) (wpAny_pure q))
 ne:=fun h tp dd its n sl X htp=>by
  obtain⟨nm,q',N,AF,bs,bmB,hdct,sn,sub,ab,col,dd,ddF,k0,k1,k2,k3,k5,newId,B,c0,cd,slF,lk,_⟩:=k.ex
  rw [Bool.eq_false_iff]
  intro z
  have e:C=tp:=Value.ref.inj (beq_iff_eq.mp z)
  rw [← e,X _ _ lk] at htp
  have z:=congrArg Obj.data (Option.some.inj htp)
  cases z
 ca:=fun X x h=>Rb X k x h
end
section
variable {X:Cx}
def NK:R2:=fun x y H Q=>∃ a b xs ys,x=.ref a/\y=.ref b/\H a=some (.tup xs)/\H b=some (.tup ys)/\xs.length+ys.length<=sizeLine/\∀ c H',(∀ d u,H d=some u->H' d=some u)->H' c=some (.tup (xs++ys))->Q (.ref c) H'
theorem CP:OpR X (binaryOp .Add) NK:=by
 intro pins s σ H x y v u Q I rx ry h
 obtain⟨a,b,xs,ys,rfl,rfl,ha,hb,hz,q⟩:=h
 cases rx
 cases ry
 obtain⟨its,r1,p1,_⟩:=I.tuple (SqT.of ha)
 obtain⟨its2,r2,p2,_⟩:=I.tuple (SqT.of hb)
 by_cases hx:xs=[]
 ·subst hx
  cases r1
  obtain⟨m,F⟩:=I.fr
  refine add_tuples (vs:=[]) F Il p1 p2 (fun _=>⟨.ref b,H,I,rfl,q b H (fun _ _ z=>z) (by simpa using hb)⟩) (fun z=>absurd rfl z) (fun z=>absurd rfl z) (by rw [← r2.length]; simpa using hz)
 ·refine Lp pins s σ H (.ref a) (.ref b) (.ref a) (.ref b) Q I rfl rfl ⟨a,b,xs,ys,rfl,rfl,SqT.of ha,SqT.of hb,hx,hz,fun e=>?_,fun _ p hp=>?_⟩
  ·subst e
   exact q a H (fun _ _ z=>z) (by rw [List.append_nil]; exact ha)
  ·exact q p _ (fun d u z=>by rw [au (aD z hp)]; exact z) aB
end
section
variable {K:W.Frag}{C c:Addr}{dd:Option Addr}{cd:ClassData}{sl:Array (Option Value)}
theorem uf (lk:K.lookup c=some ⟨.type "type",dd,.cls cd,sl⟩):kitCls K (.ref C) (.ref c)=mroIn K C (.ref c):=by
 have e1:clsIn K c=some cd:=by unfold clsIn; rw [lk]
 have e2:typeIn K (.ref c)=some (.type "type"):=by
  show Option.map _ (List.lookup c K)=_
  rw [lk]
  rfl
 show (if ((clsIn K c).isSome&&typeIn K (.ref c) == some (.type "type"))=true then subIn K (.ref C) (.ref c) else none)=_
 rw [e1,e2,if_pos (by simp)]
 rfl
theorem cV (lk:K.lookup c=some ⟨.type "type",dd,.cls cd,sl⟩) (m:mroIn K C (.ref c)=some false) (mm:mroIn K C (.ref C)=some true):kitOne K (.ref C) (.ref c)=some false:=by
 have hne:C≠c:=fun z=>by rw [← z,mm] at m; cases m
 unfold kitOne
 rw [if_neg (fun z=>hne (Value.ref.inj (beq_iff_eq.mp z))),uf lk]
 exact m
theorem yq:kitOne K (.ref C) (.ref C)=some true:=by
 unfold kitOne
 rw [if_pos (by simp)]
theorem yp {T:String} (hm:kitMeta T=true) (m:mroIn K C (.type T)=some true):kitOne K (.ref C) (.type T)=some true:=by
 unfold kitOne
 rw [if_neg (fun z=>by have:=beq_iff_eq.mp z; cases this)]
 show (if kitMeta T=true then subIn K (.ref C) (.type T) else none)=_
 rw [if_pos hm]
 exact m
theorem Fw (lk:K.lookup c=some ⟨.type "type",dd,.cls cd,sl⟩) (b:mroIn K c (.type "BaseException")=some true) (m:mroIn K C (.ref c)=some true):exmOne K (.ref C) (.ref c)=some true:=by
 unfold exmOne
 have e:subIn K (.ref c) (.type "BaseException")=some true:=b
 rw [e,if_pos (by decide +kernel),uf lk]
 exact m
theorem CT {N:Addr}{cl:Value}{d:Option Addr}{es:Array DictEntry}{ep:Nat}{s:Array (Option Value)} (lk:K.lookup N=some ⟨cl,d,.dict es ep,s⟩) (h:(es.toList.all fun e=>match e.key with | .str _ _=>true | _=>false)=true):nsOkIn K N=true:=by
 rw [Array.all_toList] at h
 unfold nsOkIn
 rw [lk]
 exact h
theorem Ea {v:Value}{r:List Value}:tailIn K (v::r) (v::r)=true:=by
 rw [tailIn.eq_def]
 simp
theorem Gw {bmB:List Value}{cl:Value} (lk:K.lookup c=some ⟨cl,dd,.cls cd,sl⟩) (ns:nsOkIn K cd.ns=true) (ni:nsIn K cd.ns "__init__"=some none) (hb:tailIn K bmB bmB=true):tailIn K bmB (.ref c::bmB)=true:=by
 rw [tailIn.eq_def]
 simp only [lk,ns,ni,hb]
 simp
end
end L2
namespace Dl
open PySem L2 PyProof.Rows
abbrev D:=PyData
def kD:Key->D
 | .inl i=>.int i
 | .inr x=>.str x
mutual
inductive Rp (ok:Addr->Prop) (H:Hp):V->D->Prop
 | non:Rp ok H .non .none
 | bl (b:Bool):Rp ok H (.bl b) (.bool b)
 | int (i:Int):Rp ok H (.int i) (.int i)
 | str (x:Str):Rp ok H (.str x) (.str x)
 | lst {a:Addr}{vs:List V}{ds:List D} (o:ok a) (h:H a=some (.lst vs)) (r:Rps ok H vs ds):Rp ok H (.ref a) (.list ds)
 | tup {a:Addr}{vs:List V}{ds:List D} (h:H a=some (.tup vs)) (r:Rps ok H vs ds):Rp ok H (.ref a) (.tuple ds)
 | dct {a:Addr}{kvs:List (Key×V)}{ds:List (D×D)} (o:ok a) (h:H a=some (.dK kvs)) (r:Rkv ok H kvs ds):Rp ok H (.ref a) (.dict ds)
inductive Rps (ok:Addr->Prop) (H:Hp):List V->List D->Prop
 | nil:Rps ok H [] []
 | cons {v:V}{d:D}{vs:List V}{ds:List D} (h:Rp ok H v d) (t:Rps ok H vs ds):Rps ok H (v::vs) (d::ds)
inductive Rkv (ok:Addr->Prop) (H:Hp):List (Key×V)->List (D×D)->Prop
 | nil:Rkv ok H [] []
 | cons {k:Key}{v:V}{d:D}{vs:List (Key×V)}{ds:List (D×D)} (h:Rp ok H v d) (t:Rkv ok H vs ds):Rkv ok H ((k,v)::vs) ((kD k,d)::ds)
end
section
variable {ok ok':Addr->Prop}{H H':Hp}
mutual
theorem Rp.mono (f:∀ a,ok a->ok' a) (g:∀ a o,ok a->H a=some o->H' a=some o) (t:∀ a xs,H a=some (.tup xs)->H' a=some (.tup xs)):∀ {v:V}{d:D},Rp ok H v d->Rp ok' H' v d
 | _,_,.non=>.non
 | _,_,.bl b=>.bl b
 | _,_,.int i=>.int i
 | _,_,.str x=>.str x
 | _,_,.lst o h r=>.lst (f _ o) (g _ _ o h) (Rps.mono f g t r)
 | _,_,.tup h r=>.tup (t _ _ h) (Rps.mono f g t r)
 | _,_,.dct o h r=>.dct (f _ o) (g _ _ o h) (Rkv.mono f g t r)
theorem Rps.mono (f:∀ a,ok a->ok' a) (g:∀ a o,ok a->H a=some o->H' a=some o) (t:∀ a xs,H a=some (.tup xs)->H' a=some (.tup xs)):∀ {v:List V}{d:List D},Rps ok H v d->Rps ok' H' v d
 | _,_,.nil=>.nil
 | _,_,.cons h r=>.cons (Rp.mono f g t h) (Rps.mono f g t r)
theorem Rkv.mono (f:∀ a,ok a->ok' a) (g:∀ a o,ok a->H a=some o->H' a=some o) (t:∀ a xs,H a=some (.tup xs)->H' a=some (.tup xs)):∀ {v:List (Key×V)}{d:List (D×D)},Rkv ok H v d->Rkv ok' H' v d
 | _,_,.nil=>.nil
 | _,_,.cons h r=>.cons (Rp.mono f g t h) (Rkv.mono f g t r)
end
theorem Rps.length:∀ {vs:List V}{ds:List D},Rps ok H vs ds->vs.length=ds.length
 | _,_,.nil=>rfl
 | _,_,.cons _ t=>by rw [List.length_cons,List.length_cons,Rps.length t]
theorem Rps.getD:∀ {vs:List V}{ds:List D}{i:Nat}{d:D},Rps ok H vs ds->ds[i]?=some d->∃ v,vs[i]?=some v/\Rp ok H v d
 | _,_,i,v,.nil,e=>by simp at e
 | _,_,0,v,.cons h t,e=>by simp at e; subst e; exact⟨_,rfl,h⟩
 | _,_,i+1,v,.cons h t,e=>by
  obtain⟨d,a,b⟩:=Rps.getD (i:=i) (d:=v) t (by simpa using e)
  exact⟨d,by simpa using a,b⟩
theorem Rps.app:∀ {vs ws:List V}{ds es:List D},Rps ok H vs ds->Rps ok H ws es->Rps ok H (vs++ws) (ds++es)
 | _,_,_,_,.nil,s=>s
 | _,_,_,_,.cons h t,s=>.cons h (Rps.app t s)
theorem Rps.snoc {vs:List V}{ds:List D}{v:V}{d:D} (h:Rps ok H vs ds) (r:Rp ok H v d):Rps ok H (vs++[v]) (ds++[d]):=h.app (.cons r .nil)
theorem Rps.take:∀ {vs:List V}{ds:List D} (n:Nat),Rps ok H vs ds->Rps ok H (vs.take n) (ds.take n)
 | _,_,0,_=>by simp; exact .nil
 | _,_,_+1,.nil=>by simp; exact .nil
 | _,_,n+1,.cons r t=>.cons r (Rps.take n t)
theorem Rps.drop:∀ {vs:List V}{ds:List D} (n:Nat),Rps ok H vs ds->Rps ok H (vs.drop n) (ds.drop n)
 | _,_,0,r=>r
 | _,_,_+1,.nil=>by simp; exact .nil
 | _,_,n+1,.cons _ t=>Rps.drop n t
theorem Rps.ofMap {α:Type}{f:α->V}{g:α->D} (h:∀ x,Rp ok H (f x) (g x)):∀ l:List α,Rps ok H (l.map f) (l.map g)
 | []=>.nil
 | x::l=>.cons (h x) (Rps.ofMap h l)
theorem Rp.int' {v:V}{i:Int} (r:Rp ok H v (.int i)):v=.int i:=by cases r; rfl
theorem Rp.bl' {v:V}{i:Bool} (r:Rp ok H v (.bool i)):v=.bl i:=by cases r; rfl
theorem Rp.str' {v:V}{i:Str} (r:Rp ok H v (.str i)):v=.str i:=by cases r; rfl
theorem Rp.cM {v:V}{ds:List D} (r:Rp ok H v (.list ds)):∃ a vs,v=.ref a/\ok a/\H a=some (.lst vs)/\Rps ok H vs ds:=by
 cases r with
 | lst o h r=>exact⟨_,_,rfl,o,h,r⟩
theorem Rp.dU {v:V}{ds:List D} (r:Rp ok H v (.tuple ds)):∃ a vs,v=.ref a/\H a=some (.tup vs)/\Rps ok H vs ds:=by
 cases r with
 | tup h r=>exact⟨_,_,rfl,h,r⟩
theorem Rps.ints:∀ {vs:List V}{ns:List Int},Rps ok H vs (ns.map PyData.int)->vs=ns.map V.int
 | [],[],_=>rfl
 | _,n::ns,.cons h t=>by
  have e:=h.int'
  subst e
  rw [Rps.ints t]
  rfl
theorem Rps.two {vs:List V}{d e:D} (r:Rps ok H vs [d,e]):∃ v w,vs=[v,w]/\Rp ok H v d/\Rp ok H w e:=by
 cases r with
 | cons h t =>
  cases t with
  | cons h2 t2 =>
   cases t2
   exact⟨_,_,rfl,h,h2⟩
end
mutual
def dZ:D->Bool
 | .none=>true
 | .bool _=>true
 | .int _=>true
 | .str _=>true
 | .list _=>false
 | .tuple ds=>eN ds
 | .dict _=>false
def eN:List D->Bool
 | []=>true
 | d::ds=>dZ d&&eN ds
end
section
variable {ok:Addr->Prop}{H:Hp}
mutual
theorem Rp.imm:∀ {v:V}{d:D},Rp ok H v d->dZ d=true->Rp (fun _=>False) H v d
 | _,_,.non,_=>.non
 | _,_,.bl b,_=>.bl b
 | _,_,.int i,_=>.int i
 | _,_,.str x,_=>.str x
 | _,_,.tup h r,e=>.tup h (Rps.imm r e)
theorem Rps.imm:∀ {v:List V}{d:List D},Rps ok H v d->eN d=true->Rps (fun _=>False) H v d
 | _,_,.nil,_=>.nil
 | _,_,.cons h r,e=>.cons (Rp.imm h (by simp only [eN,Bool.and_eq_true] at e; exact e.1)) (Rps.imm r (by simp only [eN,Bool.and_eq_true] at e; exact e.2))
end
end
structure Pn where
 fp:Addr->Prop
 PI:Hp->Prop
 pv:V
 mono:∀ H H',PI H->(∀ b o,fp b->H b=some o->H' b=some o)->PI H'
 is:∀ H b,PI H->fp b->∃ o,H b=some o/\∀ xs,o≠.tup xs
class Gr where
 G:Pn->Hp->Prop
instance (priority:=low) grT:Gr:=⟨fun _ _=>True⟩
def fj:Pn:=⟨fun _=>False,fun _=>True,.non,fun _ _ _ _=>trivial,fun _ _ _ h=>h.elim⟩
def Kp (p:Pn) (H H':Hp):Prop:=∀ b o,H b=some o->¬ p.fp b->H' b=some o
theorem Kp.refl {p:Pn}{H:Hp}:Kp p H H:=fun _ _ h _=>h
theorem Kp.trans {p:Pn}{H H1 H2:Hp} (a:Kp p H H1) (b:Kp p H1 H2):Kp p H H2:=fun c o h n=>b c o (a c o h n) n
theorem Kp.of {p:Pn}{H H':Hp} (s:Same H H'):Kp p H H':=fun b o h _=>s b o h
inductive Sl where
 | any
 | im (d:D)
 | sh (d:D)
 | sn (d:D)
 | dw (r:Nat) (d:D)
 | pen (C:Pn->Prop)
 | rw (r:Nat) (L:List (List D))
 | tw (r:Nat) (L:List (List D))
 | scr (v:V) (b:Bool)
 | sp (r:Nat) (b:Bool) (ds:List D)
inductive Kd where
 | imm | new | reg (r:Nat) | n0 | snw | shr | wk
 deriving DecidableEq
def Kd.le:Kd->Kd->Bool
 | .imm,_=>true
 | .new,.new=>true
 | .new,.n0=>true
 | .new,.snw=>true
 | .new,.shr=>true
 | .new,.wk=>true
 | .reg r,.reg q=>r == q
 | .reg _,.n0=>true
 | .reg _,.wk=>true
 | .snw,.snw=>true
 | .snw,.n0=>true
 | .snw,.shr=>true
 | .snw,.wk=>true
 | .n0,.n0=>true
 | .n0,.wk=>true
 | .shr,.shr=>true
 | .shr,.wk=>true
 | .wk,.wk=>true
 | _,_=>false
def Kd.join (a b:Kd):Kd:=if a.le b then b else if b.le a then a else if a.le .n0&&b.le .n0 then .n0 else if a.le .shr&&b.le .shr then .shr else .wk
def norm (k:Kd) (d:D):Kd:=match k with
 | .imm=>.imm
 | k=>if dZ d then .imm else k
theorem fX {k:Kd}{d:D} (h:dZ d=true):norm k d=.imm:=by
 cases k <;> first
  | rfl
  | exact if_pos h
theorem lU {k:Kd}{d:D} (h:¬ dZ d=true):norm k d=k:=by
 cases k <;> first
  | rfl
  | exact if_neg h
def okK (p:Pn) (H0:Hp) (own:Addr->Option Nat) (Hb:Hp):Kd->Addr->Prop
 | .imm=>fun _=>False
 | .new=>fun a=>Hb a=none
 | .reg r=>fun a=>own a=some r
 | .n0=>fun a=>H0 a=none/\¬ p.fp a
 | .snw=>fun a=>H0 a=none/\¬ p.fp a/\own a=none
 | .shr=>fun a=>¬ p.fp a/\own a=none
 | .wk=>fun a=>¬ p.fp a
structure At (p:Pn) (H0:Hp) (own:Addr->Option Nat) (Hb H:Hp):Prop where
 k0:∀ b o,H0 b=some o->¬ p.fp b->Hb b=some o
 kp:Kp p Hb H
 penb:p.PI Hb
 pen:p.PI H
 ow:∀ a r,own a=some r->H0 a=none/\¬ p.fp a/\Hb a≠none
section
variable {p:Pn}{H0 Hb H H':Hp}{own:Addr->Option Nat}
theorem At.nfp (A:At p H0 own Hb H) {a:Addr} (h:H a=none):¬ p.fp a:=fun z=>by
 obtain⟨o,e,_⟩:=p.is H a A.pen z
 rw [h] at e
 cases e
theorem At.free (A:At p H0 own Hb H) {a:Addr} (h:H a=none):Hb a=none:=by
 have hn:=A.nfp h
 cases e:Hb a with
 | none=>rfl
 | some o=>rw [A.kp a o e hn] at h; cases h
theorem At.nfb (A:At p H0 own Hb H) {a:Addr} (h:Hb a=none):¬ p.fp a:=fun z=>by
 obtain⟨o,e,_⟩:=p.is Hb a A.penb z
 rw [h] at e
 cases e
theorem At.Qt (A:At p H0 own Hb H) {a:Addr} (h:Hb a=none):own a=none:=by
 cases e:own a with
 | none=>rfl
 | some r=>exact absurd h (A.ow a r e).2.2
theorem At.h0 (A:At p H0 own Hb H) {a:Addr} (h:Hb a=none):H0 a=none:=by
 cases e:H0 a with
 | none=>rfl
 | some o=>rw [A.k0 a o e (A.nfb h)] at h; cases h
theorem cJ (A:At p H0 own Hb H) {j k:Kd} (h:j.le k=true) {a:Addr} (o:okK p H0 own Hb j a):okK p H0 own Hb k a:=by
 cases j with
 | imm=>exact False.elim o
 | new =>
  cases k with
  | imm=>cases h
  | new=>exact o
  | reg r=>cases h
  | n0=>exact⟨A.h0 o,A.nfb o⟩
  | snw=>exact⟨A.h0 o,A.nfb o,A.Qt o⟩
  | shr=>exact⟨A.nfb o,A.Qt o⟩
  | wk=>exact A.nfb o
 | reg r =>
  cases k with
  | reg q =>
   have e:r=q:=by simpa [Kd.le] using h
   subst e
   exact o
  | n0=>exact⟨(A.ow a r o).1,(A.ow a r o).2.1⟩
  | wk=>exact (A.ow a r o).2.1
  | _=>cases h
 | n0 =>
  cases k with
  | n0=>exact o
  | wk=>exact o.2
  | _=>cases h
 | snw =>
  cases k with
  | snw=>exact o
  | n0=>exact⟨o.1,o.2.1⟩
  | shr=>exact o.2
  | wk=>exact o.2.1
  | _=>cases h
 | shr =>
  cases k with
  | shr=>exact o
  | wk=>exact o.1
  | _=>cases h
 | wk =>
  cases k with
  | wk=>exact o
  | _=>cases h
theorem iy (A:At p H0 own Hb H) {k:Kd}{a:Addr} (o:okK p H0 own Hb k a):¬ p.fp a:=by
 have:k.le .wk=true:=by cases k <;> rfl
 exact cJ A this o
theorem iW (A:At p H0 own Hb H) {j k:Kd} (h:j.le k=true) {v:V}{d:D}{H2:Hp} (r:Rp (okK p H0 own Hb j) H2 v d):Rp (okK p H0 own Hb k) H2 v d :=
 r.mono (fun a o=>cJ A h o) (fun _ _ _ e=>e) fun _ _ e=>e
theorem fC (a b:Kd):a.le (a.join b)=true/\b.le (a.join b)=true:=by
 unfold Kd.join
 by_cases h:a.le b=true
 ·rw [if_pos h]; exact⟨h,by cases b <;> simp [Kd.le]⟩
 ·rw [if_neg h]
  by_cases h2:b.le a=true
  ·rw [if_pos h2]; exact⟨by cases a <;> simp [Kd.le],h2⟩
  ·rw [if_neg h2]
   by_cases h3:(a.le .n0&&b.le .n0)=true
   ·rw [if_pos h3]; exact Bool.and_eq_true _ _ ▸ h3
   ·rw [if_neg h3]
    by_cases h4:(a.le .shr&&b.le .shr)=true
    ·rw [if_pos h4]; exact Bool.and_eq_true _ _ ▸ h4
    ·rw [if_neg h4]; exact⟨by cases a <;> rfl,by cases b <;> rfl⟩
theorem bf {k:Kd}{v:V}{d:D}{H2:Hp} (r:Rp (okK p H0 own Hb k) H2 v d):Rp (okK p H0 own Hb (norm k d)) H2 v d:=by
 by_cases h:dZ d=true
 ·rw [fX h]; exact r.imm h
 ·rw [lU h]; exact r
theorem iH (A:At p H0 own Hb H) (k:Kp p H H'):∀ a xs,H a=some (.tup xs)->H' a=some (.tup xs):=fun a xs h=>k a _ h fun z=>by
 obtain⟨o,e,n⟩:=p.is H a A.pen z
 rw [h] at e
 exact n xs (Option.some.inj e).symm
theorem jX (A:At p H0 own Hb H) (k:Kp p H H') {j:Kd}{v:V}{d:D} (r:Rp (okK p H0 own Hb j) H v d):Rp (okK p H0 own Hb j) H' v d :=
 r.mono (fun _ o=>o) (fun a o h e=>k a o e (iy A h)) (iH A k)
theorem cB (A:At p H0 own Hb H) (k:Kp p H H') {j:Kd}{v:List V}{d:List D} (r:Rps (okK p H0 own Hb j) H v d):Rps (okK p H0 own Hb j) H' v d :=
 r.mono (fun _ o=>o) (fun a o h e=>k a o e (iy A h)) (iH A k)
theorem At.go (A:At p H0 own Hb H) (k:Kp p H H') (i:p.PI H'):At p H0 own Hb H':=⟨A.k0,A.kp.trans k,A.penb,i,A.ow⟩
theorem At.base {H1:Hp} (A:At p H0 own Hb H) (B:At p H0 own H H1):At p H0 own Hb H1:=⟨A.k0,A.kp.trans B.kp,A.penb,B.pen,A.ow⟩
theorem Ib (A:At p H0 own Hb H) {k:Kd}{a:Addr} (o:okK p H0 own H k a):okK p H0 own Hb k a:=by
 cases k <;> first
  | exact o
  | exact A.free o
theorem jD (A:At p H0 own Hb H) {k:Kd}{v:V}{d:D}{H2:Hp} (r:Rp (okK p H0 own H k) H2 v d):Rp (okK p H0 own Hb k) H2 v d :=
 r.mono (fun a o=>Ib A o) (fun _ _ _ e=>e) fun _ _ e=>e
theorem At.new (A:At p H0 own Hb H) {a:Addr} (h:H a=none) (o:HO):Kp p H (upd H a o)/\p.PI (upd H a o)/\okK p H0 own Hb .new a :=
 have s:Same H (upd H a o):=fun b u q=>by rw [au (aD q h)]; exact q
 ⟨Kp.of s,p.mono H _ A.pen fun b u _ q=>s b u q,A.free h⟩
end
structure RowsH (own:Addr->Option Nat) (r:Nat) (H:Hp) (st:Addr) (as:List Addr) (L:List (List D)):Prop where
 top:H st=some (.lst (as.map V.ref))
 nd:(st::as).Nodup
 ow:∀ a∈st::as,own a=some r
 len:as.length=L.length
 row:∀ (j:Nat) (a:Addr) (ds:List D),as[j]?=some a->L[j]?=some ds->∃ vs,H a=some (.lst vs)/\Rps (fun _=>False) H vs ds
theorem RowsH.mono {own own':Addr->Option Nat}{r:Nat}{H H':Hp}{st:Addr}{as:List Addr}{L:List (List D)} (h:RowsH own r H st as L) (g:∀ a o,own a=some r->H a=some o->own' a=some r/\H' a=some o) (t:∀ a xs,H a=some (.tup xs)->H' a=some (.tup xs)):RowsH own' r H' st as L:=by
 have live:∀ a∈st::as,∃ o,H a=some o:=fun a ha=>by
  rcases List.mem_cons.mp ha with rfl | ha
  ·exact⟨_,h.top⟩
  ·obtain⟨j,hj⟩:=List.getElem?_of_mem ha
   have hl:=(List.getElem?_eq_some_iff.mp hj).1
   obtain⟨vs,e,_⟩:=h.row j a _ hj (List.getElem?_eq_getElem (by rw [← h.len]; exact hl))
   exact⟨_,e⟩
 refine⟨(g st _ (h.ow st List.mem_cons_self) h.top).2,h.nd,fun a ha=>?_,h.len,fun j a ds e1 e2=>?_⟩
 ·obtain⟨o,e⟩:=live a ha
  exact (g a o (h.ow a ha) e).1
 ·obtain⟨vs,e,r'⟩:=h.row j a ds e1 e2
  exact⟨vs,(g a _ (h.ow a (List.mem_cons_of_mem _ (List.mem_of_getElem? e1))) e).2,r'.mono (fun _ o=>o) (fun _ _ o=>o.elim) t⟩
theorem nU {ok:Addr->Prop}{H:Hp}:∀ (as:List Addr) (L:List (List D)),as.length=L.length->(∀ a∈as,ok a)->(∀ (j:Nat) (a:Addr) (ds:List D),as[j]?=some a->L[j]?=some ds->∃ vs,H a=some (.lst vs)/\Rps (fun _=>False) H vs ds)->Rps ok H (as.map V.ref) (L.map PyData.list)
 | [],[],_,_,_=>.nil
 | a::as,d::L,hl,h,r=>by
  obtain⟨vs,e,rs⟩:=r 0 a d rfl rfl
  exact .cons (.lst (h a List.mem_cons_self) e (rs.mono (fun _ o=>o.elim) (fun _ _ o=>o.elim) fun _ _ e=>e)) (nU as L (by simpa using hl) (fun b hb=>h b (List.mem_cons_of_mem _ hb)) fun j b ds e1 e2=>r (j+1) b ds e1 e2)
 | [],_::_,hl,_,_=>by cases hl
 | _::_,[],hl,_,_=>by cases hl
theorem RowsH.rp {own:Addr->Option Nat}{r:Nat}{H:Hp}{st:Addr}{as:List Addr}{L:List (List D)} (h:RowsH own r H st as L):Rp (fun a=>own a=some r) H (.ref st) (.list (L.map PyData.list)) :=
 .lst (h.ow st List.mem_cons_self) h.top (nU as L h.len (fun a ha=>h.ow a (List.mem_cons_of_mem _ ha)) h.row)
structure RowsT (own:Addr->Option Nat) (r:Nat) (H:Hp) (st:Addr) (as:List Addr) (L:List (List D)):Prop where
 top:H st=some (.tup (as.map V.ref))
 nd:as.Nodup
 ow:∀ a∈as,own a=some r
 len:as.length=L.length
 row:∀ (j:Nat) (a:Addr) (ds:List D),as[j]?=some a->L[j]?=some ds->∃ vs,H a=some (.lst vs)/\Rps (fun _=>False) H vs ds
theorem RowsT.mono {own own':Addr->Option Nat}{r:Nat}{H H':Hp}{st:Addr}{as:List Addr}{L:List (List D)} (h:RowsT own r H st as L) (g:∀ a o,own a=some r->H a=some o->own' a=some r/\H' a=some o) (t:∀ a xs,H a=some (.tup xs)->H' a=some (.tup xs)):RowsT own' r H' st as L:=by
 refine⟨t st _ h.top,h.nd,fun a ha=>?_,h.len,fun j a ds e1 e2=>?_⟩
 ·obtain⟨j,hj⟩:=List.getElem?_of_mem ha
  have hl:=(List.getElem?_eq_some_iff.mp hj).1
  obtain⟨vs,e,_⟩:=h.row j a _ hj (List.getElem?_eq_getElem (by rw [← h.len]; exact hl))
  exact (g a _ (h.ow a ha) e).1
 ·obtain⟨vs,e,r'⟩:=h.row j a ds e1 e2
  exact⟨vs,(g a _ (h.ow a (List.mem_of_getElem? e1)) e).2,r'.mono (fun _ o=>o) (fun _ _ o=>o.elim) t⟩
theorem RowsT.rp {own:Addr->Option Nat}{r:Nat}{H:Hp}{st:Addr}{as:List Addr}{L:List (List D)} (h:RowsT own r H st as L):Rp (fun a=>own a=some r) H (.ref st) (.tuple (L.map PyData.list)) :=
 .tup h.top (nU as L h.len h.ow h.row)
def okS (p:Pn) (H0:Hp) (own:Addr->Option Nat) (b:Bool) (a:Addr):Prop:=(b=true->H0 a=none)/\¬ p.fp a/\own a=none
def iR (p:Pn) (H0:Hp) (own:Addr->Option Nat) (σ:L2.St) (H:Hp) (i:Nat):Sl->Prop
 | .any=>True
 | .im d=>∃ v,σ[i]?=some (some v)/\Rp (fun _=>False) H v d
 | .sh d=>∃ v,σ[i]?=some (some v)/\Rp (fun a=>¬ p.fp a/\own a=none) H v d
 | .sn d=>∃ v,σ[i]?=some (some v)/\Rp (fun a=>H0 a=none/\¬ p.fp a/\own a=none) H v d
 | .dw r d=>∃ v,σ[i]?=some (some v)/\Rp (fun a=>own a=some r) H v d
 | .pen C=>σ[i]?=some (some p.pv)/\C p
 | .rw r L=>∃ st as,σ[i]?=some (some (.ref st))/\RowsH own r H st as L
 | .tw r L=>∃ st as,σ[i]?=some (some (.ref st))/\RowsT own r H st as L
 | .scr v b=>σ[i]?=some (some v)/\(b=true->p=fj)
 | .sp r b ds=>∃ l vs,σ[i]?=some (some (.ref l))/\own l=some r/\H l=some (.lst vs)/\Rps (okS p H0 own b) H vs ds
structure EnvD [Gr] (p:Pn) (H0:Hp) (own:Addr->Option Nat) (σ:L2.St) (H:Hp) (ρ:List Sl):Prop where
 k0:∀ b o,H0 b=some o->¬ p.fp b->H b=some o
 pen:p.PI H
 ow:∀ a r,own a=some r->H0 a=none/\¬ p.fp a/\H a≠none
 slot:∀ i s,ρ[i]?=some s->iR p H0 own σ H i s
 len:ρ.length=σ.length
 gr:Gr.G p H0
variable [Gr]
section
variable {p:Pn}{H0 H H':Hp}{own:Addr->Option Nat}{σ:L2.St}{ρ:List Sl}
theorem EnvD.at (E:EnvD p H0 own σ H ρ):At p H0 own H H:=⟨E.k0,Kp.refl,E.pen,E.pen,E.ow⟩
theorem EnvD.go (E:EnvD p H0 own σ H ρ) (k:Kp p H H') (i:p.PI H'):EnvD p H0 own σ H' ρ:=by
 have A:=E.at
 have tp:=iH A k
 refine⟨fun b o e n=>k b o (E.k0 b o e n) n,i,fun a r e=>?_,fun j s e=>?_,E.len,E.gr⟩
 ·obtain⟨h1,h2,h3⟩:=E.ow a r e
  refine⟨h1,h2,fun z=>?_⟩
  cases q:H a with
  | none=>exact h3 q
  | some o=>rw [k a o q h2] at z; cases z
 ·have q:=E.slot j s e
  cases s with
  | any=>trivial
  | im d=>exact let ⟨v,a,b⟩:=q; ⟨v,a,b.mono (fun _ o=>o) (fun _ _ o=>o.elim) tp⟩
  | sh d=>exact let ⟨v,a,b⟩:=q; ⟨v,a,b.mono (fun _ o=>o) (fun c u o e=>k c u e o.1) tp⟩
  | sn d=>exact let ⟨v,a,b⟩:=q; ⟨v,a,b.mono (fun _ o=>o) (fun c u o e=>k c u e o.2.1) tp⟩
  | dw r d=>exact let ⟨v,a,b⟩:=q; ⟨v,a,b.mono (fun _ o=>o) (fun c u o e=>k c u e (E.ow c r o).2.1) tp⟩
  | pen C=>exact q
  | rw r L=>exact let ⟨st,as,a,b⟩:=q; ⟨st,as,a,b.mono (fun c u o e=>⟨o,k c u e (E.ow c r o).2.1⟩) tp⟩
  | tw r L=>exact let ⟨st,as,a,b⟩:=q; ⟨st,as,a,b.mono (fun c u o e=>⟨o,k c u e (E.ow c r o).2.1⟩) tp⟩
  | scr v b=>exact q
  | sp r b ds=>exact let ⟨l,vs,a,o,h,z⟩:=q; ⟨l,vs,a,o,k l _ h (E.ow l r o).2.1,z.mono (fun _ o=>o) (fun c u o e=>k c u e o.2.1) tp⟩
end
abbrev DK:=Kd->D->Prop
abbrev DE:=List Sl->DK->Prop
def bL (t:DE):TE:=fun σ H Q=>∃ p H0 own ρ P,EnvD p H0 own σ H ρ/\t ρ P/\∀ k d v H',P k d->At p H0 own H H'->Rp (okK p H0 own H k) H' v d->Q v H'
abbrev PD (X:Cx) (e:Expr) (t:DE):Prop:=PE X e (bL t)
abbrev DA:=List Sl->(List (Kd×D)->Prop)->Prop
inductive RpK (p:Pn) (H0:Hp) (own:Addr->Option Nat) (Hb H:Hp):List V->List (Kd×D)->Prop
 | nil:RpK p H0 own Hb H [] []
 | cons {v:V}{kd:Kd×D}{vs:List V}{ks:List (Kd×D)} (h:Rp (okK p H0 own Hb kd.1) H v kd.2) (t:RpK p H0 own Hb H vs ks):RpK p H0 own Hb H (v::vs) (kd::ks)
def jo (t:DA):TA:=fun σ H Q=>∃ p H0 own ρ P,EnvD p H0 own σ H ρ/\t ρ P/\∀ ks vs H',P ks->At p H0 own H H'->RpK p H0 own H H' vs ks->Q vs H'
abbrev PDA (X:Cx) (es:List Expr) (t:DA):Prop:=PA X es (jo t)
abbrev DT:=List Sl->(Bool->Prop)->Prop
def liftT (t:DT):TT:=fun σ H Q=>∃ p H0 own ρ P,EnvD p H0 own σ H ρ/\t ρ P/\∀ b H',P b->At p H0 own H H'->Q b H'
abbrev PDT (X:Cx) (e:Expr) (t:DT):Prop:=PT X e (liftT t)
theorem PE.wk {X:Cx}{e:Expr}{t t':TE} (h:PE X e t) (w:∀ σ H Q,t' σ H Q->t σ H Q):PE X e t':=fun pins s σ H Q I q=>h pins s σ H Q I (w σ H Q q)
theorem PT.wk {X:Cx}{e:Expr}{t t':TT} (h:PT X e t) (w:∀ σ H Q,t' σ H Q->t σ H Q):PT X e t':=fun pins s σ H Q I q=>h pins s σ H Q I (w σ H Q q)
theorem PA.wk {X:Cx}{e:List Expr}{t t':TA} (h:PA X e t) (w:∀ σ H Q,t' σ H Q->t σ H Q):PA X e t':=fun pos pins s σ H Q I q=>h pos pins s σ H Q I (w σ H Q q)
section
variable {X:Cx}{pos:Pos}{a b:Expr}{ta tb:DE}
theorem RpK.go {p:Pn}{H0 Hb H H':Hp}{own:Addr->Option Nat} (A:At p H0 own Hb H) (k:Kp p H H'):∀ {vs:List V}{ks:List (Kd×D)},RpK p H0 own Hb H vs ks->RpK p H0 own Hb H' vs ks
 | _,_,.nil=>.nil
 | _,_,.cons h t=>.cons (jX A k h) (RpK.go A k t)
theorem RpK.base {p:Pn}{H0 Hb H H':Hp}{own:Addr->Option Nat} (A:At p H0 own Hb H):∀ {vs:List V}{ks:List (Kd×D)},RpK p H0 own H H' vs ks->RpK p H0 own Hb H' vs ks
 | _,_,.nil=>.nil
 | _,_,.cons h t=>.cons (jD A h) (RpK.base A t)
def tV (i:Nat):DE:=fun ρ P=>match ρ[i]? with
 | some (.im d)=>P .imm d
 | some (.sh d)=>P .shr d
 | some (.sn d)=>P .snw d
 | some (.dw r d)=>P (.reg r) d
 | some (.rw r L)=>P (.reg r) (.list (L.map PyData.list))
 | some (.tw r L)=>P (.reg r) (.tuple (L.map PyData.list))
 | some (.sp r b ds)=>P (if b=true then .n0 else .wk) (.list ds)
 | _=>False
theorem Qp {i:Nat}{x:Str}{ps:Pos} (h:PE X (.Name x ps) (j7 i)):PD X (.Name x ps) (tV i):=PE.wk h (by
 rintro σ H Q ⟨p,H0,own,ρ,P,E,t,q⟩
 unfold tV at t
 split at t
 ·rename_i d e; obtain⟨v,e1,r⟩:=E.slot i _ e; exact⟨v,e1,q _ _ _ _ t E.at r⟩
 ·rename_i d e; obtain⟨v,e1,r⟩:=E.slot i _ e; exact⟨v,e1,q _ _ _ _ t E.at r⟩
 ·rename_i d e; obtain⟨v,e1,r⟩:=E.slot i _ e; exact⟨v,e1,q _ _ _ _ t E.at r⟩
 ·rename_i d e; obtain⟨v,e1,r⟩:=E.slot i _ e; exact⟨v,e1,q _ _ _ _ t E.at r⟩
 ·rename_i r L e; obtain⟨st,as,e1,h⟩:=E.slot i _ e; exact⟨_,e1,q _ _ _ _ t E.at h.rp⟩
 ·rename_i r L e; obtain⟨st,as,e1,h⟩:=E.slot i _ e; exact⟨_,e1,q _ _ _ _ t E.at h.rp⟩
 ·rename_i r b ds e
  obtain⟨l,vs,e1,o,h,z⟩:=E.slot i _ e
  refine⟨_,e1,q _ _ _ _ t E.at ?_⟩
  cases b with
  | true=>exact .lst ⟨(E.ow l r o).1,(E.ow l r o).2.1⟩ h (z.mono (fun c n=>⟨n.1 rfl,n.2.1⟩) (fun _ _ _ e=>e) fun _ _ e=>e)
  | false=>exact .lst (E.ow l r o).2.1 h (z.mono (fun c n=>n.2.1) (fun _ _ _ e=>e) fun _ _ e=>e)
 ·exact t.elim)
def tK (d:D):DE:=fun _ P=>P .imm d
theorem lQ {e:Expr}{v:V}{d:D} (h:PE X e (tC v)) (r:∀ H,Rp (fun _=>False) H v d):PD X e (tK d):=PE.wk h (by
 rintro σ H Q ⟨p,H0,own,ρ,P,E,t,q⟩
 exact q _ _ _ _ t E.at (r H))
theorem ao {i:Int}{j:Nat}:PD X (.Constant (.int i) j pos) (tK (.int i)):=lQ aU fun _=>.int i
theorem gG {i:Bool}{j:Nat}:PD X (.Constant (.bool i) j pos) (tK (.bool i)):=lQ SQ fun _=>.bl i
theorem qT {j:Nat}:PD X (.Constant .none j pos) (tK .none):=lQ Qn fun _=>.non
theorem aW {x:Str}{j:Nat}:PD X (.Constant (.str x) j pos) (tK (.str x)):=lQ Hr fun _=>.str x
abbrev G2:=Kd->D->Kd->D->DK->Prop
def t2 (g:G2) (ta tb:DE):DE:=fun ρ P=>ta ρ fun k1 d1=>tb ρ fun k2 d2=>g k1 d1 k2 d2 P
def Ok2 (g:G2) (r:R2):Prop:=∀ p H0 own Hb H x y k1 d1 k2 d2 P Q,At p H0 own Hb H->Rp (okK p H0 own Hb k1) H x d1->Rp (okK p H0 own Hb k2) H y d2->g k1 d1 k2 d2 P ->
 (∀ k d v H',P k d->Kp p H H'->p.PI H'->Rp (okK p H0 own Hb k) H' v d->Q v H')->r x y H Q
theorem mD {g:G2}{r:R2} (ok:Ok2 g r):∀ σ H Q,bL (t2 g ta tb) σ H Q->tOp r (bL ta) (bL tb) σ H Q:=by
 rintro σ H Q ⟨p,H0,own,ρ,P,E,t,q⟩
 refine⟨p,H0,own,ρ,_,E,t,fun k1 d1 v1 H1 t1 A1 r1=>?_⟩
 have E1:=E.go A1.kp A1.pen
 refine⟨p,H0,own,ρ,_,E1,t1,fun k2 d2 v2 H2 t2 A2 r2=>?_⟩
 have A:At p H0 own H H2:=A1.base A2
 exact ok p H0 own H H2 v1 v2 k1 d1 k2 d2 P Q A (jX A1 A2.kp r1) (jD A1 r2) t2 fun k d v H' h k3 i3 r3=>q k d v H' h (A.go k3 i3) r3
theorem Cz {op:Operator}{r:R2}{g:G2} (ho:OpR X (binaryOp op) r) (ok:Ok2 g r) (ha:PD X a ta) (hb:PD X b tb):PD X (.BinOp a op b pos) (t2 g ta tb):=PE.wk (bF ho ha hb) (mD ok)
theorem qX {op:CmpOp}{r:R2}{g:G2} (ho:OpR X (compareOp op) r) (ok:Ok2 g r) (ha:PD X a ta) (hb:PD X b tb) (hm:behindInMarks op b=false):PD X (.Compare a [op] [b] pos) (t2 g ta tb):=PE.wk (Lk ho ha hb hm) (mD ok)
def dW (t:DE):DT:=fun ρ P=>t ρ fun _ d=>match d with
 | .bool b=>P b
 | _=>False
theorem jm {t:DE}:∀ σ H Q,liftT (dW t) σ H Q->(bL t) σ H (fun x H'=>∃ k,x=.bl k/\Q k H'):=by
 rintro σ H Q ⟨p,H0,own,ρ,P,E,t,q⟩
 refine⟨p,H0,own,ρ,_,E,t,fun k d v H' h A r=>?_⟩
 cases d with
 | bool b=>exact⟨b,r.bl',q b H' h A⟩
 | _=>exact h.elim
theorem jH {op:CmpOp}{r:R2}{g:G2} (ho:OpR X (compareOp op) r) (ok:Ok2 g r) (ha:PD X a ta) (hb:PD X b tb) (hm:behindInMarks op b=false):PDT X (.Compare a [op] [b] pos) (dW (t2 g ta tb)) :=
 PT.wk (jF ho ha hb hm) fun σ H Q h=>mD ok σ H _ (jm σ H Q h)
theorem bI {e:Expr}{t:DE} (h:PD X e t) (he:∀ whole,isTrue e X.env whole=(do let v ← whole; standAt e.pos; holding [v] (truthy v)):=by intro _; rfl):PDT X e (dW t) :=
 PT.wk (Qe h he) fun σ H Q q=>jm σ H Q q
def Rj (t:DT):DT:=fun ρ P=>t ρ fun b=>P (!b)
theorem cH {t:DT} (ha:PDT X a t):PDT X (.UnaryOp .Not a pos) (Rj t):=PT.wk (Qf ha) (by
 rintro σ H Q ⟨p,H0,own,ρ,P,E,t,q⟩
 exact⟨p,H0,own,ρ,_,E,t,fun b H' h A=>q _ H' h A⟩)
abbrev PDW (X:Cx) (e:Expr) (t:DT):Prop:=PW X e (liftT t)
theorem PW.wk {X:Cx}{e:Expr}{t t':TT} (h:PW X e t) (w:∀ σ H Q,t' σ H Q->t σ H Q):PW X e t':=fun wh pins s σ H Q I q=>h wh pins s σ H Q I (w σ H Q q)
def J2 (t u:DT):DT:=fun ρ P=>t ρ fun b=>if b=true then u ρ P else P false
def dOr (t u:DT):DT:=fun ρ P=>t ρ fun b=>if b=true then P true else u ρ P
section
variable {rest:List Expr}{t u:DT}
theorem cP (ha:PDT X a t):PDW X (.BoolOp .And [a] pos) t:=Cp ha
theorem fB (ha:PDT X a t):PDW X (.BoolOp .Or [a] pos) t:=GR ha
theorem Ja:∀ σ H Q,liftT (J2 t u) σ H Q->R3 (liftT t) (liftT u) σ H Q:=by
 rintro σ H Q ⟨p,H0,own,ρ,P,E,t,q⟩
 refine⟨p,H0,own,ρ,_,E,t,fun b H' h A=>?_⟩
 cases b with
 | true=>exact bQ ⟨p,H0,own,ρ,P,E.go A.kp A.pen,by simpa using h,fun c H2 h2 A2=>q c H2 h2 (A.base A2)⟩
 | false=>exact bR (q false H' (by simpa using h) A)
theorem Mi:∀ σ H Q,liftT (dOr t u) σ H Q->tOr (liftT t) (liftT u) σ H Q:=by
 rintro σ H Q ⟨p,H0,own,ρ,P,E,t,q⟩
 refine⟨p,H0,own,ρ,_,E,t,fun b H' h A=>?_⟩
 cases b with
 | true=>exact bQ (q true H' (by simpa using h) A)
 | false=>exact bR ⟨p,H0,own,ρ,P,E.go A.kp A.pen,by simpa using h,fun c H2 h2 A2=>q c H2 h2 (A.base A2)⟩
theorem dH (ha:PDT X a t) (hb:PDW X (.BoolOp .And (b::rest) pos) u):PDW X (.BoolOp .And (a::b::rest) pos) (J2 t u):=PW.wk (GX ha hb) Ja
theorem fU (ha:PDT X a t) (hb:PDW X (.BoolOp .Or (b::rest) pos) u):PDW X (.BoolOp .Or (a::b::rest) pos) (dOr t u):=PW.wk (NP ha hb) Mi
theorem PDW.pt {e:Expr}{t:DT} (h:PDW X e t):PDT X e t:=PW.pt h
end
end
variable [Gr]
section
variable {X:Cx}{pos:Pos}{a b e:Expr}{es:List Expr}{ta tb te:DE}{t:DA}
def eX:DA:=fun _ P=>P []
def cu (te:DE) (t:DA):DA:=fun ρ P=>te ρ fun k d=>t ρ fun ks=>P ((k,d)::ks)
theorem ak:PDA X [] eX:=PA.wk cC (by
 rintro σ H Q ⟨p,H0,own,ρ,P,E,t,q⟩
 exact q [] [] H t E.at .nil)
theorem aj (ha:PD X e te) (hr:PDA X es t) (hs:zS X e es:=by rfl):PDA X (e::es) (cu te t):=PA.wk (aP ha hr hs) (by
 rintro σ H Q ⟨p,H0,own,ρ,P,E,t,q⟩
 refine⟨p,H0,own,ρ,_,E,t,fun k d v H1 h A r=>?_⟩
 refine⟨p,H0,own,ρ,_,E.go A.kp A.pen,h,fun ks vs H2 h2 A2 r2=>?_⟩
 exact q _ _ H2 h2 (A.base A2) (.cons (jX A A2.kp r) (RpK.base A r2)))
def joins:List (Kd×D)->Kd
 | []=>.imm
 | kd::ks=>kd.1.join (joins ks)
theorem RpK.all {p:Pn}{H0 Hb H H2:Hp}{own:Addr->Option Nat} (A:At p H0 own Hb H):∀ {vs:List V}{ks:List (Kd×D)}{k:Kd},(joins ks).le k=true->RpK p H0 own Hb H2 vs ks->Rps (okK p H0 own Hb (joins ks)) H2 vs (ks.map (·.2))
 | _,_,_,_,.nil=>.nil
 | _,kd::ks,k,e,.cons h t=>by
  have j:=fC kd.1 (joins ks)
  exact .cons (iW A j.1 h) ((RpK.all A (k:=joins ks) (by cases joins ks <;> simp [Kd.le]) t).mono (fun a o=>cJ A j.2 o) (fun _ _ _ e=>e) fun _ _ e=>e)
theorem Kd.le_refl (k:Kd):k.le k=true:=by cases k <;> simp [Kd.le]
theorem RpK.length {p:Pn}{H0 Hb H2:Hp}{own:Addr->Option Nat}:∀ {vs:List V}{ks:List (Kd×D)},RpK p H0 own Hb H2 vs ks->vs.length=ks.length
 | _,_,.nil=>rfl
 | _,_,.cons _ t=>by rw [List.length_cons,List.length_cons,RpK.length t]
def Nu (t:DA):DE:=fun ρ P=>t ρ fun ks=>ks.length<=1000/\P ((joins ks).join .new) (.list (ks.map (·.2)))
def zm (t:DA):DE:=fun ρ P=>t ρ fun ks=>ks.length<=1000/\P (norm (joins ks) (.tuple (ks.map (·.2)))) (.tuple (ks.map (·.2)))
theorem aM (h:PDA X es t):PD X (.List es pos) (Nu t):=PE.wk (n6 h) (by
 rintro σ H Q ⟨p,H0,own,ρ,P,E,t,q⟩
 refine⟨p,H0,own,ρ,_,E,t,fun ks vs H1 h A r=>?_⟩
 have h24:=sizeLine_eq
 have hl:=r.length
 refine⟨by have:=h.1; omega,fun l hl=>?_⟩
 obtain⟨k2,i2,nw⟩:=A.new hl (.lst vs)
 have j:=fC (joins ks) .new
 refine q _ _ _ _ h.2 (A.go k2 i2) (.lst (cJ A j.2 nw) aB ?_)
 exact (cB A k2 (RpK.all A (Kd.le_refl _) r)).mono (fun a o=>cJ A j.1 o) (fun _ _ _ e=>e) fun _ _ e=>e)
theorem aC {x1} (h:PDA X es t):PD X (.Tuple es x1 pos) (zm t):=PE.wk (Hq h) (by
 rintro σ H Q ⟨p,H0,own,ρ,P,E,t,q⟩
 refine⟨p,H0,own,ρ,_,E,t,fun ks vs H1 h A r=>?_⟩
 have h24:=sizeLine_eq
 have hl:=r.length
 refine⟨by have:=h.1; omega,fun l hl=>?_⟩
 obtain⟨k2,i2,nw⟩:=A.new hl (.tup vs)
 exact q _ _ _ _ h.2 (A.go k2 i2) (bf (.tup aB (cB A k2 (RpK.all A (Kd.le_refl _) r)))))
abbrev GC:=List (Kd×D)->DK->Prop
def tCl (g:GC) (t:DA):DE:=fun ρ P=>t ρ fun ks=>g ks P
def OkC (g:GC) (r:List V->Hp->VK->Prop):Prop:=∀ p H0 own Hb H vs ks P Q,At p H0 own Hb H->RpK p H0 own Hb H vs ks->g ks P ->
 (∀ k d v H',P k d->Kp p H H'->p.PI H'->Rp (okK p H0 own Hb k) H' v d->Q v H')->r vs H Q
theorem Ob {g:GC}{r:List V->Hp->VK->Prop} (ok:OkC g r):∀ σ H Q,bL (tCl g t) σ H Q->tCB r (jo t) σ H Q:=by
 rintro σ H Q ⟨p,H0,own,ρ,P,E,t,q⟩
 refine⟨p,H0,own,ρ,_,E,t,fun ks vs H1 h A r=>?_⟩
 exact ok p H0 own H H1 vs ks P Q A r h fun k d v H' h2 k2 i2 r2=>q k d v H' h2 (A.go k2 i2) r2
theorem cZ {r:List V->Hp->VK->Prop}{id:String}{x:Str}{ps:Pos}{g:GC} (hc:bO X (.builtin id) r) (ok:OkC g r) (hg:Gl X x) (hm:X.mg x=none) (hv:bootBuiltins x=some (.builtin id)) (ha:PDA X (e::es) t) (hn:x≠"__name__":=by decide) (hdb:zB x:=by decide)
  (he:zS X e es:=by rfl) (hpl:zP X pos es:=by rfl):PD X (.Call (.Name x ps) (e::es) [] pos) (tCl g t):=PE.wk (eG hc hg hm hv ha hn hdb he hpl) (Ob ok)
theorem w6 {r:List V->Hp->VK->Prop}{id:String}{x:Str}{ps:Pos}{g:GC} (hc:bO X (.type id) r) (ok:OkC g r) (hg:Gl X x) (hm:X.mg x=none) (hv:bootBuiltins x=some (.type id)) (ha:PDA X (e::es) t) (hn:x≠"__name__":=by decide) (hdb:zB x:=by decide)
  (he:zS X e es:=by rfl) (hpl:zP X pos es:=by rfl):PD X (.Call (.Name x ps) (e::es) [] pos) (tCl g t):=PE.wk (fJ hc hg hm hv ha hn hdb he hpl) (Ob ok)
def spD (t:List D->(D->Prop)->Prop):Sp:=fun vs H Q _=>∃ ds P,Rps (fun _=>True) H vs ds/\t ds P/\∀ d v H',P d->Same H H'->Rp (fun a=>H a=none) H' v d->Q v H'
def tFn (f:List D->(D->Prop)->Prop) (t:DA):DE:=fun ρ P=>t ρ fun ks=>f (ks.map (·.2)) fun d=>P (norm .new d) d
theorem RpK.rps {p:Pn}{H0 Hb H H2:Hp}{own:Addr->Option Nat} (A:At p H0 own Hb H):∀ {vs:List V}{ks:List (Kd×D)},RpK p H0 own Hb H2 vs ks->Rps (fun a=>¬ p.fp a) H2 vs (ks.map (·.2))
 | _,_,.nil=>.nil
 | _,_,.cons h t=>.cons (h.mono (fun a o=>iy A o) (fun _ _ _ e=>e) fun _ _ e=>e) (RpK.rps A t)
theorem vI {f:List D->(D->Prop)->Prop}:∀ σ H Q,bL (tFn f t) σ H Q->qw (spD f) [] E0 (jo t) σ H Q:=by
 rintro σ H Q ⟨p,H0,own,ρ,P,E,t,q⟩
 refine⟨p,H0,own,ρ,_,E,t,fun ks vs H1 h A r=>?_⟩
 show spD f (vs++[]) H1 Q E0
 rw [List.append_nil]
 refine⟨ks.map (·.2),_,(RpK.rps A r).mono (fun _ _=>trivial) (fun _ _ _ e=>e) fun _ _ e=>e,h,fun d v H' h2 s r2=>?_⟩
 have k2:Kp p H1 H':=Kp.of s
 refine q _ d v H' h2 (A.go k2 (p.mono H1 H' A.pen fun b o _ e=>s b o e)) (bf ?_)
 exact r2.mono (fun a o=>A.free o) (fun _ _ _ e=>e) fun _ _ e=>e
def KC (C:Pn->Prop) (f:List D->(D->Prop)->Prop) (i:Nat) (t:DA):DE:=fun ρ P=>ρ[i]?=some (.pen C)/\tFn f t ρ P
def gI (C:Int->Int->Prop) (f:Int->Int->D):G2:=fun _ d1 _ d2 P=>match d1,d2 with
 | .int i,.int j=>C i j/\P .imm (f i j)
 | _,_=>False
def gI0 (f:Int->Int->D):G2:=fun _ d1 _ d2 P=>match d1,d2 with
 | .int i,.int j=>P .imm (f i j)
 | _,_=>False
theorem okI {C:Int->Int->Prop}{f:Int->Int->D}{g:Int->Int->V} (h:∀ i j H,Rp (fun _=>False) H (g i j) (f i j)):Ok2 (gI C f) (rI C g):=by
 intro p H0 own Hb H x y k1 d1 k2 d2 P Q A r1 r2 t q
 unfold gI at t
 split at t
 ·rename_i i j
  exact⟨i,j,r1.int',r2.int',t.1,q _ _ _ _ t.2 Kp.refl A.pen (h i j H)⟩
 ·exact t.elim
theorem Ew {f:Int->Int->D}{g:Int->Int->V} (h:∀ i j H,Rp (fun _=>False) H (g i j) (f i j)):Ok2 (gI0 f) (rI0 g):=by
 intro p H0 own Hb H x y k1 d1 k2 d2 P Q A r1 r2 t q
 unfold gI0 at t
 split at t
 ·rename_i i j
  exact⟨i,j,r1.int',r2.int',q _ _ _ _ t Kp.refl A.pen (h i j H)⟩
 ·exact t.elim
theorem dI (ha:PD X a ta) (hb:PD X b tb):PD X (.BinOp a .Sub b pos) (t2 (gI0 fun i j=>.int (i - j)) ta tb):=Cz HJ (Ew fun i j _=>.int _) ha hb
theorem pZ (ha:PD X a ta) (hb:PD X b tb):PD X (.BinOp a .FloorDiv b pos) (t2 (gI Ru fun i j=>.int (i / j)) ta tb):=Cz vg (okI fun i j _=>.int _) ha hb
theorem u6 (ha:PD X a ta) (hb:PD X b tb):PD X (.BinOp a .Mod b pos) (t2 (gI (fun _ j=>0<j) fun i j=>.int (i % j)) ta tb):=Cz gA (okI fun i j _=>.int _) ha hb
theorem S5 (ha:PD X a ta) (hb:PD X b tb):PD X (.Compare a [.Lt] [b] pos) (t2 (gI0 fun i j=>.bool (decide (i<j))) ta tb):=qX xg (Ew fun i j _=>.bl _) ha hb (dg _)
theorem zM (ha:PD X a ta) (hb:PD X b tb):PDT X (.Compare a [.LtE] [b] pos) (dW (t2 (gI0 fun i j=>.bool (decide (i<=j))) ta tb)):=jH NQ (Ew fun i j _=>.bl _) ha hb (dg _)
theorem uZ (ha:PD X a ta) (hb:PD X b tb):PDT X (.Compare a [.Gt] [b] pos) (dW (t2 (gI0 fun i j=>.bool (decide (j<i))) ta tb)):=jH CJ (Ew fun i j _=>.bl _) ha hb (dg _)
def scD:D->D->Option Bool
 | .int i,.int j=>some (decide (i=j))
 | .bool i,.bool j=>some (decide (i=j))
 | .str i,.str j=>some (decide (i=j))
 | _,_=>none
def gEq (neg:Bool):G2:=fun _ d1 _ d2 P=>match scD d1 d2 with
 | some b=>P .imm (.bool (if neg then !b else b))
 | none=>False
theorem Tf:Ok2 (gEq false) rEq:=by
 intro p H0 own Hb H x y k1 d1 k2 d2 P Q A r1 r2 t q
 unfold gEq scD at t
 split at t
 ·rename_i b e
  split at e <;> first | cases e | skip
  ·rw [r1.int',r2.int']
   refine⟨rfl,?_⟩
   have e2:∀ i j:Int,decide (V.int i=V.int j)=decide (i=j):=fun i j=>by simp
   rw [e2]; exact q _ _ _ _ t Kp.refl A.pen (.bl _)
  ·rw [r1.bl',r2.bl']
   refine⟨rfl,?_⟩
   have e2:∀ i j:Bool,decide (V.bl i=V.bl j)=decide (i=j):=fun i j=>by simp
   rw [e2]; exact q _ _ _ _ t Kp.refl A.pen (.bl _)
  ·rw [r1.str',r2.str']
   refine⟨rfl,?_⟩
   have e2:∀ i j:Str,decide (V.str i=V.str j)=decide (i=j):=fun i j=>by simp
   rw [e2]; exact q _ _ _ _ t Kp.refl A.pen (.bl _)
 ·exact t.elim
theorem Td:Ok2 (gEq true) rNe:=by
 intro p H0 own Hb H x y k1 d1 k2 d2 P Q A r1 r2 t q
 unfold gEq scD at t
 split at t
 ·rename_i b e
  split at e <;> first | cases e | skip
  ·rw [r1.int',r2.int']
   refine⟨rfl,?_⟩
   have e2:∀ i j:Int,decide (V.int i=V.int j)=decide (i=j):=fun i j=>by simp
   rw [e2]; exact q _ _ _ _ t Kp.refl A.pen (.bl _)
  ·rw [r1.bl',r2.bl']
   refine⟨rfl,?_⟩
   have e2:∀ i j:Bool,decide (V.bl i=V.bl j)=decide (i=j):=fun i j=>by simp
   rw [e2]; exact q _ _ _ _ t Kp.refl A.pen (.bl _)
  ·rw [r1.str',r2.str']
   refine⟨rfl,?_⟩
   have e2:∀ i j:Str,decide (V.str i=V.str j)=decide (i=j):=fun i j=>by simp
   rw [e2]; exact q _ _ _ _ t Kp.refl A.pen (.bl _)
 ·exact t.elim
theorem S6 (ha:PD X a ta) (hb:PD X b tb):PD X (.Compare a [.Eq] [b] pos) (t2 (gEq false) ta tb):=qX CK Tf ha hb (dg _)
theorem SX (ha:PD X a ta) (hb:PD X b tb):PD X (.Compare a [.NotEq] [b] pos) (t2 (gEq true) ta tb):=qX HS Td ha hb (dg _)
def gIx:G2:=fun k1 d1 _ d2 P=>match d1,d2 with
 | .list ds,.int i=>∃ d,atI ds i=some d/\P (norm k1 d) d
 | .tuple ds,.int i=>∃ d,atI ds i=some d/\P (norm k1 d) d
 | _,_=>False
theorem Rps.atI {ok:Addr->Prop}{H:Hp}{vs:List V}{ds:List D}{i:Int}{d:D} (r:Rps ok H vs ds) (h:L2.atI ds i=some d):∃ v,L2.atI vs i=some v/\Rp ok H v d:=by
 unfold L2.atI at h ⊢
 rw [r.length]
 cases e:ixN ds.length i with
 | none=>rw [e] at h; cases h
 | some j =>
  rw [e] at h
  obtain⟨v,h1,h2⟩:=r.getD (i:=j) (d:=d) h
  exact⟨v,h1,h2⟩
def Q0:G2:=fun k1 d1 _ d2 P=>match d1,d2 with
 | .tuple ds,.int i=>∃ d,atI ds i=some d/\P (norm k1 d) d
 | _,_=>False
theorem oA (ha:PD X a ta) (hb:PD X b tb) (hs:iT b):PD X (.Subscript a b pos) (t2 Q0 ta tb):=PE.wk (eZ Al ha hb hs) (mD (by
 intro p H0 own Hb H x y k1 d1 k2 d2 P Q A r1 r2 t q
 unfold Q0 at t
 split at t
 ·rename_i ds i
  obtain⟨d,hd,t⟩:=t
  obtain⟨c,vs,rfl,hc,rs⟩:=r1.dU
  obtain⟨v,hv,rv⟩:=rs.atI hd
  exact⟨c,vs,i,v,rfl,r2.int',SqT.of hc,hv,q _ _ _ _ t Kp.refl A.pen (bf rv)⟩
 ·exact t.elim))
theorem dG {p:Pn}{H0 Hb H:Hp}{own:Addr->Option Nat}{vs:List V}{kd:Kd×D} (r:RpK p H0 own Hb H vs [kd]):∃ v,vs=[v]/\Rp (okK p H0 own Hb kd.1) H v kd.2:=by
 cases r with
 | cons h t=>cases t; exact⟨_,rfl,h⟩
theorem KY {p:Pn}{H0 Hb H:Hp}{own:Addr->Option Nat}{vs:List V}{kd ke:Kd×D} (r:RpK p H0 own Hb H vs [kd,ke]):∃ v w,vs=[v,w]/\Rp (okK p H0 own Hb kd.1) H v kd.2/\Rp (okK p H0 own Hb ke.1) H w ke.2:=by
 cases r with
 | cons h t =>
  cases t with
  | cons h2 t2=>cases t2; exact⟨_,_,rfl,h,h2⟩
def Ay:GC:=fun ks P=>match ks with
 | [(_,.list ds)]=>P .imm (.int ds.length)
 | [(_,.tuple ds)]=>P .imm (.int ds.length)
 | _=>False
theorem Te {K:W.Frag}:OkC Ay (fun xs H Q=>∃ p ys,xs=[.ref p]/\(SqL K H p ys\/SqT K H p ys)/\Q (.int ys.length) H):=by
 intro p H0 own Hb H vs ks P Q A r t q
 unfold Ay at t
 split at t
 ·obtain⟨v,rfl,r'⟩:=dG r
  obtain⟨c,vs,rfl,o,hc,rs⟩:=r'.cM
  exact⟨c,vs,rfl,.inl (SqL.of hc),by rw [rs.length]; exact q _ _ _ _ t Kp.refl A.pen (.int _)⟩
 ·obtain⟨v,rfl,r'⟩:=dG r
  obtain⟨c,vs,rfl,hc,rs⟩:=r'.dU
  exact⟨c,vs,rfl,.inr (SqT.of hc),by rw [rs.length]; exact q _ _ _ _ t Kp.refl A.pen (.int _)⟩
 ·exact t.elim
theorem dJ {ps:Pos} (hm:X.mg "len"=none) (ha:PDA X [a] t) (hg:Gl X "len":=by rfl) (he:zS X a []:=by rfl) (hpl:zP X pos []:=by rfl):PD X (.Call (.Name "len" ps) [a] [] pos) (tCl Ay t) :=
 cZ dR Te hg hm PySem.boot_len ha (by decide) (by decide) he hpl
end
variable [Gr]
section
variable {ok ok':Addr->Prop}{H H':Hp}
mutual
theorem Rp.cW (f:∀ a o,ok a->H a=some o->ok' a/\H' a=some o) (t:∀ a xs,H a=some (.tup xs)->H' a=some (.tup xs)):∀ {v:V}{d:D},Rp ok H v d->Rp ok' H' v d
 | _,_,.non=>.non
 | _,_,.bl b=>.bl b
 | _,_,.int i=>.int i
 | _,_,.str x=>.str x
 | _,_,.lst o h r=>.lst (f _ _ o h).1 (f _ _ o h).2 (Rps.cW f t r)
 | _,_,.tup h r=>.tup (t _ _ h) (Rps.cW f t r)
 | _,_,.dct o h r=>.dct (f _ _ o h).1 (f _ _ o h).2 (Rkv.cW f t r)
theorem Rps.cW (f:∀ a o,ok a->H a=some o->ok' a/\H' a=some o) (t:∀ a xs,H a=some (.tup xs)->H' a=some (.tup xs)):∀ {v:List V}{d:List D},Rps ok H v d->Rps ok' H' v d
 | _,_,.nil=>.nil
 | _,_,.cons h r=>.cons (Rp.cW f t h) (Rps.cW f t r)
theorem Rkv.cW (f:∀ a o,ok a->H a=some o->ok' a/\H' a=some o) (t:∀ a xs,H a=some (.tup xs)->H' a=some (.tup xs)):∀ {v:List (Key×V)}{d:List (D×D)},Rkv ok H v d->Rkv ok' H' v d
 | _,_,.nil=>.nil
 | _,_,.cons h r=>.cons (Rp.cW f t h) (Rkv.cW f t r)
end
end
structure DEnds where
 nx:List Sl->Prop
 rt:D->Prop
 bk:List Sl->Prop:=fun _=>False
 ct:List Sl->Prop:=fun _=>False
abbrev DS:=DEnds->List Sl->Prop
structure FrS (p:Pn) (own:Addr->Option Nat) (H:Hp) (own':Addr->Option Nat) (H':Hp):Prop where
 keep:∀ b o,H b=some o->¬ p.fp b->own b=none->H' b=some o/\own' b=none
 tup:∀ a xs,H a=some (.tup xs)->H' a=some (.tup xs)
theorem FrS.trans {p:Pn}{o1 o2 o3:Addr->Option Nat}{H1 H2 H3:Hp} (a:FrS p o1 H1 o2 H2) (b:FrS p o2 H2 o3 H3):FrS p o1 H1 o3 H3:=⟨fun c o h n e=>let ⟨x,y⟩:=a.keep c o h n e; b.keep c o x n y,fun c xs e=>b.tup c xs (a.tup c xs e)⟩
theorem FrS.refl {p:Pn}{o1:Addr->Option Nat}{H1:Hp}:FrS p o1 H1 o1 H1:=⟨fun _ _ h _ e=>⟨h,e⟩,fun _ _ e=>e⟩
theorem At.tups {p:Pn}{H0 H H':Hp}{own:Addr->Option Nat} (A:At p H0 own H H'):∀ a xs,H a=some (.tup xs)->H' a=some (.tup xs):=iH (⟨A.k0,Kp.refl,A.penb,A.penb,A.ow⟩:At p H0 own H H) A.kp
structure RPost (p:Pn) (H0 H':Hp) (v:V) (d:D):Prop where
 k0:∀ b o,H0 b=some o->¬ p.fp b->H' b=some o
 pen:p.PI H'
 rp:Rp (fun a=>H0 a=none/\¬ p.fp a) H' v d
structure Wish (p:Pn) (H0:Hp) (own:Addr->Option Nat) (H:Hp) (P:DEnds) (Q:Ends):Prop where
 nx:∀ own' σ' H' ρ',EnvD p H0 own' σ' H' ρ'->FrS p own H own' H'->P.nx ρ'->Q.nx σ' H'
 rt:∀ d v H',P.rt d->RPost p H0 H' v d->Q.rt v H'
 bk:∀ own' σ' H' ρ',EnvD p H0 own' σ' H' ρ'->FrS p own H own' H'->P.bk ρ'->Q.bk σ' H'
 ct:∀ own' σ' H' ρ',EnvD p H0 own' σ' H' ρ'->FrS p own H own' H'->P.ct ρ'->Q.ct σ' H'
theorem Wish.go {p:Pn}{H0 H H':Hp}{own own':Addr->Option Nat}{P:DEnds}{Q:Ends} (w:Wish p H0 own H P Q) (f:FrS p own H own' H'):Wish p H0 own' H' P Q :=
 ⟨fun o s h r e g n=>w.nx o s h r e (f.trans g) n,w.rt,fun o s h r e g n=>w.bk o s h r e (f.trans g) n,fun o s h r e g n=>w.ct o s h r e (f.trans g) n⟩
def rK (t:DS):TS:=fun Q σ H=>∃ p H0 own ρ P,EnvD p H0 own σ H ρ/\t P ρ/\Wish p H0 own H P Q
abbrev PDS (X:Cx) (st:Stmt) (t:DS):Prop:=PS X st (rK t)
abbrev iU (X:Cx) (st:List Stmt) (t:DS):Prop:=PSs X st (rK t)
theorem PSs.wk' {X:Cx}{ss:List Stmt}{t t':TS} (h:PSs X ss t) (w:∀ D σ H,t' D σ H->t D σ H):PSs X ss t':=fun pins s σ H D I q=>h pins s σ H D I (w D σ H q)
theorem PS.wk' {X:Cx}{ss:Stmt}{t t':TS} (h:PS X ss t) (w:∀ D σ H,t' D σ H->t D σ H):PS X ss t':=fun pins s σ H D I q=>h pins s σ H D I (w D σ H q)
theorem At.frs {p:Pn}{H0 H H':Hp}{own:Addr->Option Nat} (A:At p H0 own H H'):FrS p own H own H':=⟨fun b o h n e=>⟨A.kp b o h n,e⟩,A.tups⟩
section
variable {X:Cx}{pos:Pos}{st:Stmt}{rest:List Stmt}{e:Expr}{te:DE}{t u:DS}
def Dw:DS:=fun P ρ=>P.nx ρ
def JR (t u:DS):DS:=fun P ρ=>t { P with nx:=u P } ρ
theorem aN:iU X [] Dw:=PSs.wk' pR (by
 rintro Q σ H ⟨p,H0,own,ρ,P,E,t,w⟩
 exact w.nx own σ H ρ E FrS.refl t)
theorem aA (h1:PDS X st t) (h2:iU X rest u):iU X (st::rest) (JR t u):=PSs.wk' (bH h1 h2) (by
 rintro Q σ H ⟨p,H0,own,ρ,P,E,t,w⟩
 exact⟨p,H0,own,ρ,_,E,t,⟨fun o s h r e g n=>⟨p,H0,o,r,P,e,n,w.go g⟩,w.rt,w.bk,w.ct⟩⟩)
theorem aF (h1:PDS X st t):iU X [st] t:=cU h1
theorem rQ:PDS X st (fun _ _=>False):=PS.wk' G7 (by
 rintro Q σ H ⟨p,H0,own,ρ,P,E,t,w⟩
 exact t)
def JV (te:DE):DS:=fun P ρ=>te ρ fun k d=>k.le .n0=true/\P.rt d
theorem aL (he:PD X e te):PDS X (.Return (some e) pos) (JV te):=PS.wk' (gW he) (by
 rintro Q σ H ⟨p,H0,own,ρ,P,E,t,w⟩
 refine⟨p,H0,own,ρ,_,E,t,fun k d v H' h A r=>w.rt d v H' h.2 ⟨fun b o e n=>A.kp b o (A.k0 b o e n) n,A.pen,?_⟩⟩
 exact iW A h.1 r)
def dIf (c:DT) (t u:DS):DS:=fun P ρ=>c ρ fun b=>if b=true then t P ρ else u P ρ
theorem cR {c:Expr}{a b:List Stmt}{tc:DT} (hc:PDT X c tc) (ha:iU X a t) (hb:iU X b u):PDS X (.If c a b pos) (dIf tc t u):=PS.wk' (tU hc ha hb) (by
 rintro Q σ H ⟨p,H0,own,ρ,P,E,t,w⟩
 refine⟨p,H0,own,ρ,_,E,t,fun b H' h A=>?_⟩
 cases b with
 | true=>exact bQ ⟨p,H0,own,ρ,P,E.go A.kp A.pen,by simpa using h,w.go A.frs⟩
 | false=>exact bR ⟨p,H0,own,ρ,P,E.go A.kp A.pen,by simpa using h,w.go A.frs⟩)
def O2 (te:DE):DS:=fun P ρ=>te ρ fun _ _=>P.nx ρ
theorem qe (he:PD X e te) (hs:swapsWith e none pos.line X.env=pure false:=by rfl):PDS X (.Expr e pos) (O2 te):=PS.wk' (fu he hs) (by
 rintro Q σ H ⟨p,H0,own,ρ,P,E,t,w⟩
 exact⟨p,H0,own,ρ,_,E,t,fun k d v H' h A r=>w.nx own σ H' ρ (E.go A.kp A.pen) A.frs h⟩)
def Sl.region:Sl->Option Nat
 | .dw r _=>some r
 | .rw r _=>some r
 | .tw r _=>some r
 | .sp r _ _=>some r
 | _=>none
def jd (r:Nat) (ρ:List Sl) (i:Nat):Bool:=(ρ.set i .any).all fun s=>s.region != some r
def stK (rg:Option Nat) (ρ:List Sl) (i:Nat) (k:Kd) (d:D):Option Sl:=match k with
 | .imm=>some (.im d)
 | .new=>match rg with
  | some r=>if jd r ρ i=true then some (.dw r d) else none
  | none=>some (.sn d)
 | .reg r=>some (.dw r d)
 | .snw=>some (.sn d)
 | .shr=>some (.sh d)
 | _=>none
def yM (i:Nat) (rg:Option Nat) (te:DE):DS:=fun P ρ=>te ρ fun k d=>match stK rg ρ i (norm k d) d with
 | some s=>P.nx (ρ.set i s)
 | none=>False
section
variable {p:Pn}{H0 H H1:Hp}{own:Addr->Option Nat}{σ:L2.St}{ρ:List Sl}{i:Nat}
theorem EnvD.set {v:V}{s:Sl} (E:EnvD p H0 own σ H ρ) (hs:i<σ.length->iR p H0 own (σ.set i (some v)) H i s):EnvD p H0 own (σ.set i (some v)) H (ρ.set i s):=by
 refine⟨E.k0,E.pen,E.ow,fun j s' e=>?_,by simpa using E.len,E.gr⟩
 by_cases hj:j=i
 ·subst hj
  have hl:j<ρ.length:=by
   have:=(List.getElem?_eq_some_iff.mp e).1
   simpa using this
  rw [List.getElem?_set_self hl] at e
  cases e
  exact hs (by rw [← E.len]; exact hl)
 ·rw [List.getElem?_set_ne (Ne.symm hj)] at e
  have q:=E.slot j s' e
  have eq:(σ.set i (some v))[j]?=σ[j]?:=List.getElem?_set_ne (Ne.symm hj)
  cases s' <;> simp only [iR,eq] at q ⊢ <;> exact q
def cT (r:Nat) (H H1:Hp) (own:Addr->Option Nat):Addr->Option Nat:=fun a=>match H a,H1 a with
 | none,some _=>some r
 | _,_=>own a
theorem cg {r:Nat}{a:Addr}{o:HO} (h:H a=some o):cT r H H1 own a=own a:=by unfold cT; rw [h]
theorem fM {r:Nat}{a:Addr}{o:HO} (h:H a=none) (h1:H1 a=some o):cT r H H1 own a=some r:=by unfold cT; rw [h,h1]
theorem EnvD.adopt (r:Nat) (E:EnvD p H0 own σ H ρ) (A:At p H0 own H H1):EnvD p H0 (cT r H H1 own) σ H1 ρ:=by
 have tp:=iH E.at A.kp
 refine⟨fun b o e n=>A.kp b o (E.k0 b o e n) n,A.pen,fun a q e=>?_,fun j s e=>?_,E.len,E.gr⟩
 ·cases h:H a with
  | some o =>
   rw [cg h] at e
   obtain⟨x,y,z⟩:=E.ow a q e
   refine⟨x,y,by rw [A.kp a o h y]; exact fun z=>nomatch z⟩
  | none =>
   cases h1:H1 a with
   | none =>
    have e':own a=some q:=by rw [← e]; unfold cT; rw [h,h1]
    exact absurd h (E.ow a q e').2.2
   | some o=>exact⟨E.at.h0 h,E.at.nfb h,fun z=>nomatch z⟩
 ·have q:=E.slot j s e
  cases s with
  | any=>trivial
  | im d=>exact let ⟨v,a,b⟩:=q; ⟨v,a,b.mono (fun _ o=>o) (fun _ _ o=>o.elim) tp⟩
  | sh d=>exact let ⟨v,a,b⟩:=q; ⟨v,a,b.cW (fun c o n h=>⟨⟨n.1,by rw [cg h]; exact n.2⟩,A.kp c o h n.1⟩) tp⟩
  | sn d=>exact let ⟨v,a,b⟩:=q; ⟨v,a,b.cW (fun c o n h=>⟨⟨n.1,n.2.1,by rw [cg h]; exact n.2.2⟩,A.kp c o h n.2.1⟩) tp⟩
  | dw r' d=>exact let ⟨v,a,b⟩:=q; ⟨v,a,b.cW (fun c o n h=>⟨by rw [cg h]; exact n,A.kp c o h (E.ow c r' n).2.1⟩) tp⟩
  | pen C=>exact q
  | rw r' L=>exact let ⟨st,as,a,b⟩:=q; ⟨st,as,a,b.mono (fun c o n h=>⟨by rw [cg h]; exact n,A.kp c o h (E.ow c r' n).2.1⟩) tp⟩
  | tw r' L=>exact let ⟨st,as,a,b⟩:=q; ⟨st,as,a,b.mono (fun c o n h=>⟨by rw [cg h]; exact n,A.kp c o h (E.ow c r' n).2.1⟩) tp⟩
  | scr v b=>exact q
  | sp r' b ds=>exact let ⟨l,vs,a,o,h,z⟩:=q; ⟨l,vs,a,by rw [cg h]; exact o,A.kp l _ h (E.ow l r' o).2.1,z.cW (fun c u n e=>⟨⟨n.1,n.2.1,by rw [cg e]; exact n.2.2⟩,A.kp c u e n.2.1⟩) tp⟩
theorem yV {r:Nat}{k:Kd}{v:V}{d:D} (h:k.le .new=true) (A:At p H0 own H H1) (x:Rp (okK p H0 own H k) H1 v d):Rp (fun a=>cT r H H1 own a=some r) H1 v d :=
 (iW A h x).cW (fun a o n e=>⟨fM n e,e⟩) fun _ _ e=>e
theorem fO {r:Nat} (A:At p H0 own H H1):FrS p own H (cT r H H1 own) H1:=⟨fun b o h n e=>⟨A.kp b o h n,by rw [cg h]; exact e⟩,A.tups⟩
theorem EnvD.drop (E:EnvD p H0 own σ H ρ):EnvD p H0 own σ H (ρ.set i .any):=by
 refine⟨E.k0,E.pen,E.ow,fun j s' e=>?_,by simpa using E.len,E.gr⟩
 by_cases hj:j=i
 ·subst hj
  have hl:j<ρ.length:=by
   have:=(List.getElem?_eq_some_iff.mp e).1
   simpa using this
  rw [List.getElem?_set_self hl] at e
  cases e
  trivial
 ·rw [List.getElem?_set_ne (Ne.symm hj)] at e
  exact E.slot j s' e
def aO (r:Nat) (own:Addr->Option Nat):Addr->Option Nat:=fun a=>if own a=some r then none else own a
theorem EnvD.clear {r:Nat} (E:EnvD p H0 own σ H ρ) (h:ρ.all (fun s=>s.region != some r)=true):EnvD p H0 (aO r own) σ H ρ:=by
 refine⟨E.k0,E.pen,fun a q e=>?_,fun j s e=>?_,E.len,E.gr⟩
 ·unfold aO at e
  split at e
  ·cases e
  ·exact E.ow a q e
 ·have q:=E.slot j s e
  have z:=List.all_eq_true.mp h s (List.mem_of_getElem? e)
  have c0:∀ a,own a=none->aO r own a=none:=fun a n=>by unfold aO; rw [n]; simp
  cases s with
  | any=>trivial
  | im d=>exact q
  | sh d=>exact let ⟨v,a,b⟩:=q; ⟨v,a,b.mono (fun c n=>⟨n.1,c0 c n.2⟩) (fun _ _ _ e=>e) fun _ _ e=>e⟩
  | sn d=>exact let ⟨v,a,b⟩:=q; ⟨v,a,b.mono (fun c n=>⟨n.1,n.2.1,c0 c n.2.2⟩) (fun _ _ _ e=>e) fun _ _ e=>e⟩
  | dw r' d =>
   have hne:r'≠r:=by simpa [Sl.region] using z
   exact let ⟨v,a,b⟩:=q; ⟨v,a,b.mono (fun c n=>by unfold aO; rw [n,if_neg (by simpa using hne)]) (fun _ _ _ e=>e) fun _ _ e=>e⟩
  | pen C=>exact q
  | rw r' L =>
   have hne:r'≠r:=by simpa [Sl.region] using z
   exact let ⟨st,as,a,b⟩:=q; ⟨st,as,a,b.mono (fun c o n e=>⟨by unfold aO; rw [n,if_neg (by simpa using hne)],e⟩) fun _ _ e=>e⟩
  | tw r' L =>
   have hne:r'≠r:=by simpa [Sl.region] using z
   exact let ⟨st,as,a,b⟩:=q; ⟨st,as,a,b.mono (fun c o n e=>⟨by unfold aO; rw [n,if_neg (by simpa using hne)],e⟩) fun _ _ e=>e⟩
  | scr v b=>exact q
  | sp r' b ds =>
   have hne:r'≠r:=by simpa [Sl.region] using z
   exact let ⟨l,vs,a,o,h,y⟩:=q; ⟨l,vs,a,by unfold aO; rw [o,if_neg (by simpa using hne)],h,y.mono (fun c n=>⟨n.1,n.2.1,c0 c n.2.2⟩) (fun _ _ _ e=>e) fun _ _ e=>e⟩
theorem cF {r:Nat}:FrS p own H (aO r own) H:=⟨fun b o h n e=>⟨h,by unfold aO; rw [e]; simp⟩,fun _ _ e=>e⟩
end
theorem bD {i:Nat} (rg:Option Nat) (h:PS X st (lg (bL te) (fY i))):PDS X st (yM i rg te):=PS.wk' h (by
 rintro Q σ H ⟨p,H0,own,ρ,P,E,t,w⟩
 refine⟨p,H0,own,ρ,_,E,t,fun k d v H1 h A r=>?_⟩
 have r:=bf r
 generalize norm k d=k' at h r
 show Q.nx (σ.set i (some v)) H1
 have E1:=E.go A.kp A.pen
 have fin:∀ s,iR p H0 own (σ.set i (some v)) H1 i s\/¬ i<σ.length->P.nx (ρ.set i s)->Q.nx (σ.set i (some v)) H1:=fun s hs hn =>
  w.nx own _ H1 _ (E1.set fun hl=>hs.elim id fun z=>absurd hl z) A.frs hn
 have here:i<σ.length->(σ.set i (some v))[i]?=some (some v):=fun hl=>List.getElem?_set_self hl
 by_cases hl:i<σ.length
 ·cases k' with
  | imm=>exact fin (.im d) (.inl ⟨v,here hl,r⟩) h
  | new =>
   cases rg with
   | none=>exact fin (.sn d) (.inl ⟨v,here hl,iW A (k:=.snw) rfl r⟩) h
   | some q =>
    simp only [stK] at h
    by_cases hf:jd q ρ i=true
    ·rw [if_pos hf] at h
     have E2:EnvD p H0 (aO q own) σ H (ρ.set i .any):=(E.drop (i:=i)).clear hf
     have A2:At p H0 (aO q own) H H1:=⟨A.k0,A.kp,A.penb,A.pen,E2.ow⟩
     have E3:=E2.adopt q A2
     have r2:Rp (okK p H0 (aO q own) H .new) H1 v d:=r
     have E4:EnvD p H0 (cT q H H1 (aO q own)) (σ.set i (some v)) H1 ((ρ.set i .any).set i (.dw q d)):=E3.set fun _=>⟨v,here hl,yV (k:=.new) rfl A2 r2⟩
     rw [List.set_set] at E4
     exact w.nx _ _ H1 _ E4 (cF.trans (fO A2)) h
    ·rw [if_neg hf] at h
     exact h.elim
  | reg q=>exact fin (.dw q d) (.inl ⟨v,here hl,r⟩) h
  | n0=>exact h.elim
  | snw=>exact fin (.sn d) (.inl ⟨v,here hl,r⟩) h
  | shr=>exact fin (.sh d) (.inl ⟨v,here hl,r⟩) h
  | wk=>exact h.elim
 ·cases hs:stK rg ρ i k' d with
  | none=>rw [hs] at h; exact h.elim
  | some s=>rw [hs] at h; exact fin s (.inr hl) h)
end
variable [Gr]
section
variable {ok ok':Addr->Prop}{H:Hp}
mutual
theorem Rp.inj:∀ {v:V}{d d':D},Rp ok H v d->Rp ok' H v d'->d=d'
 | _,_,_,.non,.non=>rfl
 | _,_,_,.bl b,.bl _=>rfl
 | _,_,_,.int i,.int _=>rfl
 | _,_,_,.str x,.str _=>rfl
 | _,_,_,.lst o h r,.lst o' h' r'=>by
  rw [h] at h'; cases h'
  rw [Rps.inj r r']
 | _,_,_,.lst o h r,.tup h' r'=>by rw [h] at h'; cases h'
 | _,_,_,.lst o h r,.dct o' h' r'=>by rw [h] at h'; cases h'
 | _,_,_,.tup h r,.lst o' h' r'=>by rw [h] at h'; cases h'
 | _,_,_,.tup h r,.tup h' r'=>by
  rw [h] at h'; cases h'
  rw [Rps.inj r r']
 | _,_,_,.tup h r,.dct o' h' r'=>by rw [h] at h'; cases h'
 | _,_,_,.dct o h r,.lst o' h' r'=>by rw [h] at h'; cases h'
 | _,_,_,.dct o h r,.tup h' r'=>by rw [h] at h'; cases h'
 | _,_,_,.dct o h r,.dct o' h' r'=>by
  rw [h] at h'; cases h'
  rw [Rkv.inj r r']
theorem Rps.inj:∀ {v:List V}{d d':List D},Rps ok H v d->Rps ok' H v d'->d=d'
 | _,_,_,.nil,.nil=>rfl
 | _,_,_,.cons h t,.cons h' t'=>by rw [Rp.inj h h',Rps.inj t t']
theorem Rkv.inj:∀ {v:List (Key×V)}{d d':List (D×D)},Rkv ok H v d->Rkv ok' H v d'->d=d'
 | _,_,_,.nil,.nil=>rfl
 | _,_,_,.cons h t,.cons h' t'=>by rw [Rp.inj h h',Rkv.inj t t']
end
variable {l:Addr}{T:D}
mutual
theorem Rp.avoid (h0:Rp ok' H (.ref l) T):∀ {v:V}{d:D},Rp ok H v d->sizeOf d<sizeOf T->Rp (fun a=>ok a/\a≠l) H v d
 | _,_,.non,_=>.non
 | _,_,.bl b,_=>.bl b
 | _,_,.int i,_=>.int i
 | _,_,.str x,_=>.str x
 | _,_,.lst (ds:=ds) o h r,s=>.lst ⟨o,fun z=>by
   subst z
   have e:=Rp.inj (Rp.lst o h r) h0
   rw [e] at s
   exact absurd s (Nat.lt_irrefl _)⟩ h (Rps.avoid h0 r (by simp only [PyData.list.sizeOf_spec] at s; omega))
 | _,_,.tup (ds:=ds) h r,s=>.tup h (Rps.avoid h0 r (by simp only [PyData.tuple.sizeOf_spec] at s; omega))
 | _,_,.dct (ds:=ds) o h r,s=>.dct ⟨o,fun z=>by
   subst z
   have e:=Rp.inj (Rp.dct o h r) h0
   rw [e] at s
   exact absurd s (Nat.lt_irrefl _)⟩ h (Rkv.avoid h0 r (by simp only [PyData.dict.sizeOf_spec] at s; omega))
theorem Rps.avoid (h0:Rp ok' H (.ref l) T):∀ {v:List V}{d:List D},Rps ok H v d->sizeOf d<sizeOf T->Rps (fun a=>ok a/\a≠l) H v d
 | _,_,.nil,_=>.nil
 | _,_,.cons h t,s=>.cons (Rp.avoid h0 h (by simp only [List.cons.sizeOf_spec] at s; omega)) (Rps.avoid h0 t (by simp only [List.cons.sizeOf_spec] at s; omega))
theorem Rkv.avoid (h0:Rp ok' H (.ref l) T):∀ {v:List (Key×V)}{d:List (D×D)},Rkv ok H v d->sizeOf d<sizeOf T->Rkv (fun a=>ok a/\a≠l) H v d
 | _,_,.nil,_=>.nil
 | _,_,.cons h t,s=>.cons (Rp.avoid h0 h (by simp only [List.cons.sizeOf_spec,Prod.mk.sizeOf_spec] at s; omega)) (Rkv.avoid h0 t (by simp only [List.cons.sizeOf_spec] at s; omega))
end
end
def forget (r:Nat) (ρ:List Sl):List Sl:=ρ.map fun s=>if s.region=some r then .any else s
section
variable {p:Pn}{H0 H H1:Hp}{own:Addr->Option Nat}{σ:L2.St}{ρ:List Sl}{i:Nat}
theorem EnvD.write {r:Nat}{l:Addr}{u o':HO} (E:EnvD p H0 own σ H ρ) (hl:own l=some r) (ho:H l=some u) (hu:∀ xs,u≠.tup xs):EnvD p H0 own σ (upd H l o') (forget r ρ):=by
 have h0:=E.ow l r hl
 have tp:∀ a xs,H a=some (.tup xs)->upd H l o' a=some (.tup xs):=fun a xs e=>by
  rw [au]; exact e
  intro z; subst z; rw [ho] at e; exact hu xs (Option.some.inj e)
 refine⟨fun b o e n=>?_,p.mono H _ E.pen fun b o f e=>?_,fun a q e=>?_,fun j s e=>?_,by unfold forget; rw [List.length_map]; exact E.len,E.gr⟩
 ·rw [au]; exact E.k0 b o e n
  intro z; subst z; rw [h0.1] at e; cases e
 ·rw [au]; exact e
  intro z; subst z; exact h0.2.1 f
 ·obtain⟨x,y,z⟩:=E.ow a q e
  refine⟨x,y,?_⟩
  by_cases hh:a=l
  ·subst hh; rw [aB]; exact fun z=>nomatch z
  ·rw [au hh]; exact z
 ·unfold forget at e
  rw [List.getElem?_map] at e
  cases hr:ρ[j]? with
  | none=>rw [hr] at e; cases e
  | some s0 =>
   rw [hr] at e
   have e:=Option.some.inj e
   have q:=E.slot j s0 hr
   have ne:∀ c,own c≠some r->c≠l:=fun c n z=>by subst z; exact n hl
   cases s0 with
   | any=>simp only [Sl.region] at e; subst e; trivial
   | im d =>
    have e:Sl.im d=s:=e
    subst e
    exact let ⟨v,a,b⟩:=q; ⟨v,a,b.mono (fun _ o=>o) (fun _ _ o=>o.elim) tp⟩
   | sh d =>
    have e:Sl.sh d=s:=e
    subst e
    exact let ⟨v,a,b⟩:=q; ⟨v,a,b.mono (fun _ o=>o) (fun c o n e=>by rw [au (ne c (by rw [n.2]; exact fun z=>nomatch z))]; exact e) tp⟩
   | sn d =>
    have e:Sl.sn d=s:=e
    subst e
    exact let ⟨v,a,b⟩:=q; ⟨v,a,b.mono (fun _ o=>o) (fun c o n e=>by rw [au (ne c (by rw [n.2.2]; exact fun z=>nomatch z))]; exact e) tp⟩
   | dw r' d =>
    by_cases hrr:r'=r
    ·subst hrr
     have e:(if (some r':Option Nat)=some r' then Sl.any else Sl.dw r' d)=s:=e
     rw [if_pos rfl] at e
     subst e
     trivial
    ·have e:(if (some r':Option Nat)=some r then Sl.any else Sl.dw r' d)=s:=e
     rw [if_neg (by simpa using hrr)] at e
     subst e
     exact let ⟨v,a,b⟩:=q; ⟨v,a,b.mono (fun _ o=>o) (fun c o n e=>by rw [au (ne c (by rw [n]; simpa using hrr))]; exact e) tp⟩
   | pen C =>
    have e:Sl.pen C=s:=e
    subst e
    exact q
   | scr v b =>
    have e:Sl.scr v b=s:=e
    subst e
    exact q
   | sp r' b ds =>
    by_cases hrr:r'=r
    ·subst hrr
     have e:(if (some r':Option Nat)=some r' then Sl.any else Sl.sp r' b ds)=s:=e
     rw [if_pos rfl] at e
     subst e
     trivial
    ·have e:(if (some r':Option Nat)=some r then Sl.any else Sl.sp r' b ds)=s:=e
     rw [if_neg (by simpa using hrr)] at e
     subst e
     exact let ⟨l',vs,a,o,h,y⟩:=q; ⟨l',vs,a,o,by rw [au (ne l' (by rw [o]; simpa using hrr))]; exact h,y.mono (fun _ o=>o) (fun c o n e=>by rw [au (ne c (by rw [n.2.2]; exact fun z=>nomatch z))]; exact e) tp⟩
   | rw r' L =>
    by_cases hrr:r'=r
    ·subst hrr
     have e:(if (some r':Option Nat)=some r' then Sl.any else Sl.rw r' L)=s:=e
     rw [if_pos rfl] at e
     subst e
     trivial
    ·have e:(if (some r':Option Nat)=some r then Sl.any else Sl.rw r' L)=s:=e
     rw [if_neg (by simpa using hrr)] at e
     subst e
     exact let ⟨st,as,a,b⟩:=q; ⟨st,as,a,b.mono (fun c o n e=>⟨n,by rw [au (ne c (by rw [n]; simpa using hrr))]; exact e⟩) tp⟩
   | tw r' L =>
    by_cases hrr:r'=r
    ·subst hrr
     have e:(if (some r':Option Nat)=some r' then Sl.any else Sl.tw r' L)=s:=e
     rw [if_pos rfl] at e
     subst e
     trivial
    ·have e:(if (some r':Option Nat)=some r then Sl.any else Sl.tw r' L)=s:=e
     rw [if_neg (by simpa using hrr)] at e
     subst e
     exact let ⟨st,as,a,b⟩:=q; ⟨st,as,a,b.mono (fun c o n e=>⟨n,by rw [au (ne c (by rw [n]; simpa using hrr))]; exact e⟩) tp⟩
theorem gC {r:Nat}{l:Addr}{u o':HO} (hl:own l=some r) (ho:H l=some u) (hu:∀ xs,u≠.tup xs):FrS p own H own (upd H l o'):=by
 refine⟨fun b o h n e=>⟨?_,e⟩,fun a xs e=>?_⟩
 ·rw [au]; exact h
  intro z; subst z; rw [hl] at e; cases e
 ·rw [au]; exact e
  intro z; subst z; rw [ho] at e; exact hu xs (Option.some.inj e)
theorem EnvD.put {v:V}{s:Sl} (E:EnvD p H0 own σ H ρ) (hs:iR p H0 own σ H i s):EnvD p H0 own σ H (ρ.set i s):=by
 refine⟨E.k0,E.pen,E.ow,fun j s' e=>?_,by simpa using E.len,E.gr⟩
 by_cases hj:j=i
 ·subst hj
  have hl:j<ρ.length:=by
   have:=(List.getElem?_eq_some_iff.mp e).1
   simpa using this
  rw [List.getElem?_set_self hl] at e
  cases e
  exact hs
 ·rw [List.getElem?_set_ne (Ne.symm hj)] at e
  exact E.slot j s' e
theorem EnvD.j8 {r:Nat}{l:Addr}{vs vs':List V}{ds ds':List D} (E:EnvD p H0 own σ H ρ) (A:At p H0 own H H1) (hv:σ[i]?=some (some (.ref l))) (hl:own l=some r) (ho:H l=some (.lst vs)) (rs:Rps (fun a=>own a=some r) H vs ds)
  (hs:∀ H2,(∀ {w:V}{d:D},Rp (fun a=>own a=some r) H w d->sizeOf d<sizeOf (PyData.list ds)->Rp (fun a=>cT r H H1 own a=some r) H2 w d)->(∀ {w:V}{d:D},Rp (okK p H0 own H .new) H1 w d->Rp (fun a=>cT r H H1 own a=some r) H2 w d)->Rps (fun a=>cT r H H1 own a=some r) H2 vs' ds') :
  EnvD p H0 (cT r H H1 own) σ (upd H1 l (.lst vs')) ((forget r ρ).set i (.dw r (.list ds')))/\FrS p own H (cT r H H1 own) (upd H1 l (.lst vs')):=by
 have h1:H1 l=some (.lst vs):=A.kp l _ ho (E.ow l r hl).2.1
 have hl':cT r H H1 own l=some r:=by rw [cg ho]; exact hl
 have E1:=(E.adopt r A).write (o':=.lst vs') hl' h1 (fun xs z=>nomatch z)
 have tp:∀ a xs,H1 a=some (.tup xs)->upd H1 l (.lst vs') a=some (.tup xs):=fun a xs e=>by
  rw [au]; exact e
  intro z; subst z; rw [h1] at e; cases e
 refine⟨E1.put (v:=.ref l) ⟨.ref l,hv,.lst hl' aB (hs _ ?_ ?_)⟩,(fO A).trans (gC hl' h1 fun xs z=>nomatch z)⟩
 ·intro w d x sz
  have x1:=Rp.avoid (Rp.lst (ok:=fun a=>own a=some r) hl ho rs) x sz
  exact x1.cW (fun a o n e=>⟨by rw [cg e]; exact n.1,by rw [au n.2]; exact A.kp a o e (E.ow a r n.1).2.1⟩) fun a xs e=>tp a xs (iH E.at A.kp a xs e)
 ·intro w d x
  exact x.cW (fun a o n e=>⟨fM n e,by rw [au (fun z=>by subst z; rw [ho] at n; cases n)]; exact e⟩) tp
end
section
variable {X:Cx}{pos:Pos}{st:Stmt}{e:Expr}{te:DE}{i:Nat}{ta:DA}
theorem fH {d:D}{ds:List D} (h:d∈ds):sizeOf d<sizeOf (PyData.list ds):=by
 have:=List.sizeOf_lt_of_mem h
 simp only [PyData.list.sizeOf_spec]
 omega
theorem gU {ok ok':Addr->Prop}{H H2:Hp}{T:D} (f:∀ {w:V}{d:D},Rp ok H w d->sizeOf d<sizeOf T->Rp ok' H2 w d):∀ {vs:List V}{ds:List D},Rps ok H vs ds->(∀ d∈ds,sizeOf d<sizeOf T)->Rps ok' H2 vs ds
 | _,_,.nil,_=>.nil
 | _,_,.cons h t,s=>.cons (f h (s _ List.mem_cons_self)) (gU f t fun d hd=>s d (List.mem_cons_of_mem _ hd))
def Bl (i:Nat) (te:DE):DS:=fun P ρ=>match ρ[i]? with
 | some (.dw r (.list ds))=>te ρ fun k d=>(norm k d).le .new=true/\ds.length<1000/\P.nx ((forget r ρ).set i (.dw r (.list (ds++[d]))))
 | _=>False
theorem dB (h:PS X st (oW (tBM X.K "list" lH (j7 i) (jo (cu te eX))))):PDS X st (Bl i te):=PS.wk' h (by
 rintro Q σ H ⟨p,H0,own,ρ,P,E,t,w⟩
 unfold Bl at t
 split at t
 ·rename_i r ds hr
  obtain⟨v,hv,x⟩:=E.slot i _ hr
  obtain⟨l,vs,rfl,hl,ho,rs⟩:=x.cM
  refine⟨.ref l,hv,.inl ⟨rfl,vs,SqL.of ho⟩,p,H0,own,ρ,fun ks=>∃ k d,ks=[(k,d)]/\(norm k d).le .new=true/\ds.length<1000/\P.nx ((forget r ρ).set i (.dw r (.list (ds++[d])))),E,?_,?_⟩
  ·show te ρ fun k d=>∃ k' d',[(k,d)]=[(k',d')]/\_
   have e:(fun k d=>∃ k' d',[((k,d):Kd×D)]=[(k',d')]/\(norm k' d').le .new=true/\ds.length<1000/\P.nx ((forget r ρ).set i (.dw r (.list (ds++[d'])))))=fun k d=>(norm k d).le .new=true/\ds.length<1000/\P.nx ((forget r ρ).set i (.dw r (.list (ds++[d])))):=by
    funext k d
    apply propext
    constructor
    ·rintro ⟨k',d',e,h⟩
     cases e
     exact h
    ·exact fun h=>⟨k,d,rfl,h⟩
   rw [e]
   exact t
  ·rintro ks ws H1 ⟨k,d,rfl,hk,hlen,hn⟩ A rk
   obtain⟨y,rfl,ry⟩:=dG rk
   have ry:=iW A hk (bf ry)
   have h1:H1 l=some (.lst vs):=A.kp l _ ho (E.ow l r hl).2.1
   have h24:=sizeLine_eq
   have hln:=rs.length
   refine⟨l,vs,y,rfl,rfl,h1,by omega,?_⟩
   obtain⟨E2,F2⟩:=E.j8 (vs':=vs++[y]) (ds':=ds++[d]) A hv hl ho rs fun H2 f g=>(gU f rs fun d hd=>fH hd).snoc (g ry)
   exact w.nx _ σ _ _ E2 F2 hn
 ·exact t.elim)
end
variable [Gr]
abbrev DG:=Kd->D->List Sl->(List Sl->Prop)->Prop
abbrev DGs:=Kd->List D->List Sl->(List Sl->Prop)->Prop
def Nx (k:Kd) (d:D):Sl:=match k with
 | .imm=>.im d
 | .new=>.sn d
 | .reg r=>.dw r d
 | .snw=>.sn d
 | .shr=>.sh d
 | _=>.any
def okB (p:Pn) (H0:Hp) (own:Addr->Option Nat):Kd->Addr->Prop
 | .imm=>fun _=>False
 | .new=>fun a=>H0 a=none/\¬ p.fp a/\own a=none
 | .reg r=>fun a=>own a=some r
 | .snw=>fun a=>H0 a=none/\¬ p.fp a/\own a=none
 | .shr=>fun a=>¬ p.fp a/\own a=none
 | .n0=>fun _=>True
 | .wk=>fun _=>True
def yd (g:DG):TG:=fun v σ H Q=>∃ p H0 own ρ k d P,EnvD p H0 own σ H ρ/\Rp (okB p H0 own k) H v d/\g k d ρ P/\∀ σ' ρ',EnvD p H0 own σ' H ρ'->P ρ'->Q σ' H
def oG (g:DGs):TGs:=fun vs σ H Q=>∃ p H0 own ρ k ds P,EnvD p H0 own σ H ρ/\Rps (okB p H0 own k) H vs ds/\g k ds ρ P/\∀ σ' ρ',EnvD p H0 own σ' H ρ'->P ρ'->Q σ' H
abbrev PDG (X:Cx) (e:Expr) (g:DG):Prop:=PG X e (yd g)
theorem PG.wk {X:Cx}{e:Expr}{t t':TG} (h:PG X e t) (w:∀ v σ H Q,t' v σ H Q->t v σ H Q):PG X e t':=fun pins s σ H v u Q I r q=>h pins s σ H v u Q I r (w v σ H Q q)
theorem PGs.wk {X:Cx}{e:List Expr}{t t':TGs} (h:PGs X e t) (w:∀ v σ H Q,t' v σ H Q->t v σ H Q):PGs X e t':=fun pins s σ H v u Q I r q=>h pins s σ H v u Q I r (w v σ H Q q)
theorem fQ {p:Pn}{H0 H:Hp}{own:Addr->Option Nat}{k:Kd}{v:V}{d:D} (r:Rp (okB p H0 own k) H v d):Rp (okB p H0 own (norm k d)) H v d:=by
 by_cases h:dZ d=true
 ·rw [fX h]; exact r.imm h
 ·rw [lU h]; exact r
section
variable {X:Cx}{pos:Pos}{e:Expr}{es:List Expr}
def gNm (i:Nat):DG:=fun k d ρ P=>P (ρ.set i (Nx (norm k d) d))
theorem Gy {p:Pn}{H0 H:Hp}{own:Addr->Option Nat}{σ:L2.St}{i:Nat}{k:Kd}{v:V}{d:D} (r:Rp (okB p H0 own k) H v d) (h:σ[i]?=some (some v)):iR p H0 own σ H i (Nx k d):=by
 cases k with
 | imm=>exact⟨v,h,r⟩
 | new=>exact⟨v,h,r⟩
 | reg q=>exact⟨v,h,r⟩
 | n0=>trivial
 | snw=>exact⟨v,h,r⟩
 | shr=>exact⟨v,h,r⟩
 | wk=>trivial
theorem aH {i:Nat}{x:Str} (h:PG X (.Name x pos) (fY i)):PDG X (.Name x pos) (gNm i):=PG.wk h (by
 rintro v σ H Q ⟨p,H0,own,ρ,k,d,P,E,r,t,q⟩
 exact q _ _ (E.set fun hl=>Gy (fQ r) (List.getElem?_set_self hl)) t)
def Od:DGs:=fun _ ds ρ P=>match ds with
 | []=>P ρ
 | _=>False
def Jl (g:DG) (gs:DGs):DGs:=fun k ds ρ P=>match ds with
 | d::r=>g (norm k d) d ρ fun ρ'=>gs k r ρ' P
 | []=>False
theorem nq:PGs X [] (oG Od):=PGs.wk Le (by
 rintro v σ H Q ⟨p,H0,own,ρ,k,ds,P,E,r,t,q⟩
 cases ds with
 | nil=>cases r; exact⟨rfl,q _ _ E t⟩
 | cons d ds=>exact t.elim)
theorem eO {g:DG}{gs:DGs} (h1:PDG X e g) (h2:PGs X es (oG gs)) (hs:(assignEach (e::es) X.env).map (·.2)=assign e X.env::(assignEach es X.env).map (·.2):=by rfl):PGs X (e::es) (oG (Jl g gs)):=PGs.wk (Hl h1 h2 hs) (by
 rintro v σ H Q ⟨p,H0,own,ρ,k,ds,P,E,r,t,q⟩
 cases r with
 | nil=>exact t.elim
 | cons r rs =>
  exact⟨_,_,rfl,p,H0,own,ρ,_,_,_,E,fQ r,t,fun σ' ρ' E' t'=>⟨p,H0,own,ρ',k,_,P,E',rs,t',q⟩⟩)
def gTp (n:Nat) (gs:DGs):DG:=fun k d ρ P=>match d with
 | .tuple ds=>ds.length=n/\gs k ds ρ P
 | _=>False
theorem vZ {gs:DGs}{k n:Nat} (hc:X.calm=true) (h:PGs X es (oG gs)) (hn:(assignEach es X.env).length=n:=by rfl) (hst:(assignEach es X.env).findIdx? (·.1)=none:=by rfl):PDG X (.Tuple es k pos) (gTp n gs):=PG.wk (Qj hc h hn hst) (by
 rintro v σ H Q ⟨p,H0,own,ρ,k,d,P,E,r,t,q⟩
 cases d with
 | tuple ds =>
  obtain⟨a,vs,rfl,ha,rs⟩:=r.dU
  exact⟨a,vs,rfl,SqT.of ha,by rw [rs.length]; exact t.1,p,H0,own,ρ,k,ds,P,E,rs,t.2,q⟩
 | _=>exact t.elim)
end
structure Wlk (Ok:Hp->Prop) (J:It) (ds:List D) (ok:Addr->Prop):Prop where
 go:∀ i H,Ok H->i<ds.length->J.go i H
 stop:∀ H,Ok H->J.stop ds.length H
 yld:∀ i H x H',Ok H->J.yld i H x H'->Same H H'/\∀ d,ds[i]?=some d->Rp ok H' x d
 stab:∀ H H',Ok H->(∀ b o,ok b->H b=some o->H' b=some o)->(∀ a xs,H a=some (.tup xs)->H' a=some (.tup xs))->Ok H'
abbrev DI:=List Sl->(Kd->List D->Prop)->Prop
def okA (p:Pn) (H0:Hp) (own:Addr->Option Nat) (Hb:Hp) (k:Kd) (H:Hp) (a:Addr):Prop:=okK p H0 own Hb k a/\∃ o,H a=some o
def ud (t:DI):TI:=fun σ H R=>∃ p H0 own ρ P,EnvD p H0 own σ H ρ/\t ρ P/\∀ k ds J H1 Ok,P k ds->At p H0 own H H1->Wlk Ok J ds (okA p H0 own H k H1)->Ok H1->R J H1
abbrev PDI (X:Cx) (tg e:Expr) (t:DI):Prop:=PI X tg e (ud t)
theorem PI.wk {X:Cx}{tg e:Expr}{t t':TI} (h:PI X tg e t) (w:∀ σ H R,t' σ H R->t σ H R):PI X tg e t':=fun pins s σ H R I q=>h pins s σ H R I (w σ H R q)
section
variable {X:Cx}{tg l:Expr}{tl:DE}{pos:Pos}{ta:DA}
theorem qm {K:W.Frag}{ok:Addr->Prop}{a:Addr}{ds:List D}:Wlk (fun H=>Rp ok H (.ref a) (.list ds)) (Itl K a) ds ok where
 go:=fun i H r hi=>by
  obtain⟨b,vs,e,o,h,rs⟩:=r.cM
  cases e
  have:i<vs.length:=by rw [rs.length]; exact hi
  exact⟨vs,vs[i],SqL.of h,by simp [this]⟩
 stop:=fun H r=>by
  obtain⟨b,vs,e,o,h,rs⟩:=r.cM
  cases e
  exact⟨vs,SqL.of h,by rw [rs.length]; exact Nat.le_refl _⟩
 yld:=fun i H x H' r y=>by
  obtain⟨rfl,y⟩:=y
  obtain⟨b,vs,e,o,h,rs⟩:=r.cM
  cases e
  refine⟨Same.refl _,fun d hd=>?_⟩
  obtain⟨v,hv,rv⟩:=rs.getD hd
  have:=y vs (SqL.of h)
  rw [hv] at this
  cases this
  exact rv
 stab:=fun H H' r f t=>r.cW (fun a o n e=>⟨n,f a o n e⟩) t
theorem wH {K:W.Frag}{ok:Addr->Prop}{a:Addr}{ds:List D}:Wlk (fun H=>Rp ok H (.ref a) (.tuple ds)) (Itt K a) ds ok where
 go:=fun i H r hi=>by
  obtain⟨b,vs,e,h,rs⟩:=r.dU
  cases e
  have:i<vs.length:=by rw [rs.length]; exact hi
  exact⟨vs,vs[i],SqT.of h,by simp [this]⟩
 stop:=fun H r=>by
  obtain⟨b,vs,e,h,rs⟩:=r.dU
  cases e
  exact⟨vs,SqT.of h,by rw [rs.length]; exact Nat.le_refl _⟩
 yld:=fun i H x H' r y=>by
  obtain⟨rfl,y⟩:=y
  obtain⟨b,vs,e,h,rs⟩:=r.dU
  cases e
  refine⟨Same.refl _,fun d hd=>?_⟩
  obtain⟨v,hv,rv⟩:=rs.getD hd
  have:=y vs (SqT.of h)
  rw [hv] at this
  cases this
  exact rv
 stab:=fun H H' r f t=>r.cW (fun a o n e=>⟨n,f a o n e⟩) t
theorem ql {ok:Addr->Prop}{lo:Int}{n:Nat}:Wlk (fun _=>True) (Itr lo n) ((List.range n).map fun i=>PyData.int (lo+((i:Nat):Int))) ok where
 go:=fun i H r hi=>by
  have h:i<n:=by simpa using hi
  exact h
 stop:=fun H r=>by show n<=_; simp
 yld:=fun i H x H' r y=>by
  obtain⟨rfl,rfl⟩:=y
  refine⟨Same.refl _,fun d hd=>?_⟩
  rw [List.getElem?_map] at hd
  cases h:(List.range n)[i]? with
  | none=>rw [h] at hd; cases hd
  | some j =>
   rw [h] at hd
   have e:=Option.some.inj hd
   have hj:j=i:=by
    have:=List.getElem?_eq_some_iff.mp h
    obtain⟨h1,h2⟩:=this
    simpa using h2.symm
   subst e hj
   exact .int _
 stab:=fun _ _ _ _ _=>trivial
theorem rpA {p:Pn}{H0 Hb H:Hp}{own:Addr->Option Nat}{k:Kd}{v:V}{d:D} (r:Rp (okK p H0 own Hb k) H v d):Rp (okA p H0 own Hb k H) H v d:=r.cW (fun a o n e=>⟨⟨n,o,e⟩,e⟩) fun _ _ e=>e
def iSq (tl:DE):DI:=fun ρ P=>tl ρ fun k d=>match d with
 | .list ds=>P k ds
 | .tuple ds=>P k ds
 | _=>False
theorem cD (hl:PD X l tl):PDI X tg l (iSq tl):=PI.wk (Hj hl) (by
 rintro σ H R ⟨p,H0,own,ρ,P,E,t,q⟩
 refine⟨p,H0,own,ρ,_,E,t,fun k d v H1 h A r=>?_⟩
 cases d with
 | list ds =>
  obtain⟨a,vs,rfl,o,ha,rs⟩:=r.cM
  exact⟨a,rfl,.inl ⟨⟨vs,SqL.of ha⟩,q k ds _ H1 _ h A qm (rpA r)⟩⟩
 | tuple ds =>
  obtain⟨a,vs,rfl,ha,rs⟩:=r.dU
  exact⟨a,rfl,.inr ⟨⟨vs,SqT.of ha⟩,q k ds _ H1 _ h A wH (rpA r)⟩⟩
 | _=>exact h.elim)
def gP (lo:Int) (n:Nat):List D:=(List.range n).map fun i=>PyData.int (lo+((i:Nat):Int))
def iR1 (ta:DA):DI:=fun ρ P=>ta ρ fun ks=>match ks with
 | [(_,.int j)]=>(-(2 ^ 62)<=j/\j<2 ^ 62)/\P .imm (gP 0 j.toNat)
 | _=>False
theorem bZ {a:Expr}{ps:Pos} (hm:X.mg "range"=none) (ha:PDA X [a] ta) (hg:Gl X "range":=by rfl) (hs:starEach [a] X.env=[(false,eval a X.env)]:=by rfl):PDI X tg (.Call (.Name "range" ps) [a] [] pos) (iR1 ta):=PI.wk (nZ hg hm ha hs) (by
 rintro σ H R ⟨p,H0,own,ρ,P,E,t,q⟩
 refine⟨p,H0,own,ρ,_,E,t,fun ks vs H1 h A r=>?_⟩
 split at h
 ·rename_i k j
  obtain⟨v,rfl,r'⟩:=dG r
  exact⟨j,by rw [r'.int'],h.1.1,h.1.2,q _ _ _ H1 _ h.2 A ql trivial⟩
 ·exact h.elim)
def iR2 (ta:DA):DI:=fun ρ P=>ta ρ fun ks=>match ks with
 | [(_,.int i),(_,.int j)]=>(-(2 ^ 62)<=i/\i<2 ^ 62/\-(2 ^ 62)<=j/\j<2 ^ 62)/\P .imm (gP i (j - i).toNat)
 | _=>False
theorem oU {a b:Expr}{ps:Pos} (hm:X.mg "range"=none) (ha:PDA X [a,b] ta) (hg:Gl X "range":=by rfl) (hs:starEach [a,b] X.env=[(false,eval a X.env),(false,eval b X.env)]:=by rfl) (hs2:starEach [b] X.env=[(false,eval b X.env)]:=by rfl):PDI X tg (.Call (.Name "range" ps) [a,b] [] pos) (iR2 ta):=PI.wk (Ek hg hm ha hs hs2) (by
 rintro σ H R ⟨p,H0,own,ρ,P,E,t,q⟩
 refine⟨p,H0,own,ρ,_,E,t,fun ks vs H1 h A r=>?_⟩
 split at h
 ·rename_i k i k' j
  obtain⟨v,w,rfl,r',r2⟩:=KY r
  exact⟨i,j,by rw [r'.int',r2.int'],h.1,q _ _ _ H1 _ h.2 A ql trivial⟩
 ·exact h.elim)
def uy (ds:List D):List D:=ds.zipIdx.map fun x=>PyData.tuple [.int ((x.2:Nat):Int),x.1]
theorem ux {ds:List D}{i:Nat}:(uy ds)[i]?=(ds[i]?).map fun d=>PyData.tuple [.int ((i:Nat):Int),d]:=by
 unfold uy
 rw [List.getElem?_map,List.getElem?_zipIdx]
 cases ds[i]? with
 | none=>rfl
 | some d=>simp
theorem oO {ds:List D}:(uy ds).length=ds.length:=by unfold uy; simp
theorem DW {K:W.Frag}{ok:Addr->Prop}{a:Addr}{ds:List D}:Wlk (fun H=>Rp ok H (.ref a) (.tuple ds)) (Ite K a) (uy ds) ok where
 go:=fun i H r hi=>by
  obtain⟨b,vs,e,h,rs⟩:=r.dU
  cases e
  have:i<vs.length:=by rw [rs.length]; rw [oO] at hi; exact hi
  exact⟨vs,vs[i],SqT.of h,by simp [this]⟩
 stop:=fun H r=>by
  obtain⟨b,vs,e,h,rs⟩:=r.dU
  cases e
  exact⟨vs,SqT.of h,by rw [rs.length,oO]; exact Nat.le_refl _⟩
 yld:=fun i H x H' r y=>by
  obtain⟨t,v,rfl,ht,rfl,y⟩:=y
  have sm:Same H (upd H t (.tup [.int i,v])):=fun b u q=>by rw [au (aD q ht)]; exact q
  refine⟨sm,fun d hd=>?_⟩
  obtain⟨b,vs,e,h,rs⟩:=r.dU
  cases e
  rw [ux] at hd
  cases he:ds[i]? with
  | none=>rw [he] at hd; cases hd
  | some d0 =>
   rw [he] at hd
   have e:=Option.some.inj hd
   subst e
   obtain⟨v',hv,rv⟩:=rs.getD he
   have:=y vs (SqT.of h)
   rw [hv] at this
   cases this
   exact .tup aB (.cons (.int _) (.cons (rv.mono (fun _ o=>o) (fun a o _ e=>sm a o e) fun a xs e=>sm a _ e) .nil))
 stab:=fun H H' r f t=>r.cW (fun a o n e=>⟨n,f a o n e⟩) t
def iEn (ta:DA):DI:=fun ρ P=>ta ρ fun ks=>match ks with
 | [(k,.tuple ds)]=>P k (uy ds)
 | _=>False
theorem vY {elts:List Expr}{kk:Nat}{tpos:Pos}{a:Expr}{ps:Pos} (hm:X.mg "enumerate"=none) (ha:PDA X [a] ta) (hg:Gl X "enumerate":=by rfl) (hs:starEach [a] X.env=[(false,eval a X.env)]:=by rfl):PDI X (.Tuple elts kk tpos) (.Call (.Name "enumerate" ps) [a] [] pos) (iEn ta):=PI.wk (Ld hg hm ha hs) (by
 rintro σ H R ⟨p,H0,own,ρ,P,E,t,q⟩
 refine⟨p,H0,own,ρ,_,E,t,fun ks vs H1 h A r=>?_⟩
 split at h
 ·rename_i k ds
  obtain⟨v,rfl,r'⟩:=dG r
  obtain⟨a,vs,e,ha,rs⟩:=Rp.dU r'
  subst e
  exact⟨a,rfl,⟨vs,SqT.of ha⟩,q k _ _ H1 _ h A DW (rpA r')⟩
 ·exact h.elim)
end
variable [Gr]
def elK:Kd->Kd
 | .new=>.snw
 | k=>k
section
variable {X:Cx}{tg iter:Expr}{pos:Pos}{body:List Stmt}{ti:DI}{g:DG}{tb:DS}
def Nh (ti:DI) (g:DG) (tb:DS):DS:=fun P ρ=>ti ρ fun k ds=>k.le .shr=true/\∃ Iv:Nat->List Sl->Prop,Iv 0 ρ /\
 (∀ i d ρ',ds[i]?=some d->Iv i ρ'->g (norm (elK k) d) d ρ' fun ρ2=>tb { nx:=Iv (i+1),ct:=Iv (i+1),bk:=P.nx,rt:=P.rt } ρ2)/\∀ ρ',Iv ds.length ρ'->P.nx ρ'
theorem N7 {p:Pn}{H0 Hb H1 H':Hp}{own own':Addr->Option Nat}{k:Kd} (hk:k.le .shr=true) (A:At p H0 own Hb H1) (F:FrS p own H1 own' H') {v:V}{d:D}{H2:Hp} (r:Rp (okA p H0 own Hb k H1) H2 v d):Rp (okB p H0 own' (elK k)) H2 v d:=by
 refine r.mono (fun a n=>?_) (fun _ _ _ e=>e) fun _ _ e=>e
 obtain⟨o,u,hu⟩:=n
 have o2:¬ p.fp a/\own a=none:=cJ A (k:=.shr) hk o
 have f:=(F.keep a u hu o2.1 o2.2).2
 cases k with
 | imm=>exact o
 | new=>exact⟨A.h0 o,o2.1,f⟩
 | reg q=>cases hk
 | n0=>cases hk
 | snw=>exact⟨o.1,o2.1,f⟩
 | shr=>exact⟨o2.1,f⟩
 | wk=>cases hk
theorem eV (hp:PassesOwn (model X.prog X.w) X.A X.env X.xe) (hc:X.calm=true) (hi:PDI X tg iter ti) (hg:PDG X tg g) (hb:iU X body tb) (hs:zF X iter:=by intro _; rfl):PDS X (.For tg iter body [] pos) (Nh ti g tb):=PS.wk' (G9 hp hc hi hg hb hs) (by
 rintro Q σ H ⟨p,H0,own,ρ,P,E,t,w⟩
 refine⟨p,H0,own,ρ,_,E,t,fun k ds J H1 Ok h A W o1=>?_⟩
 obtain⟨hk,Iv,i0,step,done⟩:=h
 have w1:=w.go A.frs
 have okS:∀ own' H',FrS p own H1 own' H'->Ok H':=fun own' H' F=>W.stab H1 H' o1 (fun b o n e=>by
  have o2:¬ p.fp b/\own b=none:=cJ A (k:=.shr) hk n.1
  exact (F.keep b o e o2.1 o2.2).1) F.tup
 refine⟨fun i m σ' H'=>m=ds.length - i/\i<=ds.length/\∃ own' ρ',EnvD p H0 own' σ' H' ρ'/\FrS p own H1 own' H'/\Iv i ρ',⟨_,rfl,Nat.zero_le _,own,ρ,E.go A.kp A.pen,FrS.refl,i0⟩,?_⟩
 rintro i m σ' H' ⟨rfl,hi,own',ρ',E',F',iv⟩
 have oH:=okS own' H' F'
 by_cases hlt:i<ds.length
 ·refine .inr ⟨W.go i H' oH hlt,fun σ2 H2=>∃ own' ρ',EnvD p H0 own' σ2 H2 ρ'/\FrS p own H1 own' H2/\Iv (i+1) ρ',fun σ2 H2 h=>⟨_,by omega,rfl,hlt,h⟩,fun x H2 y=>?_⟩
  obtain⟨sm,rx⟩:=W.yld i H' x H2 oH y
  have rx:=rx ds[i] (List.getElem?_eq_getElem hlt)
  have E2:EnvD p H0 own' σ' H2 ρ':=E'.go (Kp.of sm) (p.mono H' H2 E'.pen fun b o _ e=>sm b o e)
  have F2:FrS p own H1 own' H2:=⟨fun b o e n z=>let ⟨x,y⟩:=F'.keep b o e n z; ⟨sm b o x,y⟩,fun a xs e=>sm a _ (F'.tup a xs e)⟩
  refine⟨p,H0,own',ρ',_,_,_,E2,fQ (N7 hk A F2 rx),step i ds[i] ρ' (List.getElem?_eq_getElem hlt) iv,fun σ3 ρ3 E3 t3=>?_⟩
  have nxt:∀ own4 σ4 H4 ρ4,EnvD p H0 own4 σ4 H4 ρ4->FrS p own' H2 own4 H4->Iv (i+1) ρ4->∃ own' ρ',EnvD p H0 own' σ4 H4 ρ'/\FrS p own H1 own' H4/\Iv (i+1) ρ':=fun own4 σ4 H4 ρ4 E4 F4 v4=>⟨own4,ρ4,E4,F2.trans F4,v4⟩
  exact⟨p,H0,own',ρ3,_,E3,t3,⟨nxt,w.rt,fun o s h r e f n=>w1.nx o s h r e (F2.trans f) n,nxt⟩⟩
 ·have e:i=ds.length:=by omega
  subst e
  exact .inl ⟨W.stop H' oH,w1.nx own' σ' H' ρ' E' F' (done ρ' iv)⟩)
def JQ (tc:DT) (tb:DS):DS:=fun P ρ=>∃ Iv:Nat->List Sl->Prop,(∃ m,Iv m ρ)/\∀ m ρ',Iv m ρ'->tc ρ' fun b =>
 if b=true then tb { nx:=fun ρ2=>∃ m',m'<m/\Iv m' ρ2,ct:=fun ρ2=>∃ m',m'<m/\Iv m' ρ2,bk:=P.nx,rt:=P.rt } ρ' else P.nx ρ'
theorem jx {c:Expr}{tc:DT} (hp:PassesOwn (model X.prog X.w) X.A X.env X.xe) (hc:PDT X c tc) (hb:iU X body tb):PDS X (.While c body [] pos) (JQ tc tb):=PS.wk' (G5 hp hc hb) (by
 rintro Q σ H ⟨p,H0,own,ρ,P,E,⟨Iv,⟨m,i0⟩,step⟩,w⟩
 refine⟨fun m σ' H'=>∃ own' ρ',EnvD p H0 own' σ' H' ρ'/\FrS p own H own' H'/\Iv m ρ',⟨m,own,ρ,E,FrS.refl,i0⟩,?_⟩
 rintro m σ1 H1 ⟨own1,ρ1,E1,F1,iv⟩
 refine⟨p,H0,own1,ρ1,_,E1,step m ρ1 iv,fun b H2 h A=>?_⟩
 have F2:=F1.trans A.frs
 cases b with
 | true =>
  refine bQ ⟨fun σ' H'=>∃ m',m'<m/\∃ own' ρ',EnvD p H0 own' σ' H' ρ'/\FrS p own H own' H'/\Iv m' ρ',fun σ' H' h=>h,?_⟩
  have nxt:∀ own4 σ4 H4 ρ4,EnvD p H0 own4 σ4 H4 ρ4->FrS p own1 H2 own4 H4->(∃ m',m'<m/\Iv m' ρ4)->∃ m',m'<m/\∃ own' ρ',EnvD p H0 own' σ4 H4 ρ'/\FrS p own H own' H4/\Iv m' ρ':=fun own4 σ4 H4 ρ4 E4 F4 ⟨m',hm,v4⟩=>⟨m',hm,own4,ρ4,E4,F2.trans F4,v4⟩
  exact⟨p,H0,own1,ρ1,{ nx:=fun ρ2=>∃ m',m'<m/\Iv m' ρ2,ct:=fun ρ2=>∃ m',m'<m/\Iv m' ρ2,bk:=P.nx,rt:=P.rt },E1.go A.kp A.pen,by simpa using h,⟨nxt,w.rt,fun o s h r e f n=>w.nx o s h r e (F2.trans f) n,nxt⟩⟩
 | false=>exact bR (w.nx own1 σ1 H2 ρ1 (E1.go A.kp A.pen) F2 (by simpa using h)))
end
theorem EnvD.comp {p:Pn}{H0 H:Hp}{own:Addr->Option Nat}{σ:L2.St}{ρ:List Sl} (n:Nat) (E:EnvD p H0 own σ H ρ):EnvD p H0 own (List.replicate n none++σ) H (List.replicate n .any++ρ):=by
 refine⟨E.k0,E.pen,E.ow,fun j s e=>?_,by simp [E.len],E.gr⟩
 by_cases hj:j<n
 ·rw [List.getElem?_append_left (by simpa using hj)] at e
  have:s=.any:=by
   rw [List.getElem?_replicate] at e
   rw [if_pos hj] at e
   exact (Option.some.inj e).symm
  subst this
  trivial
 ·have e1:(List.replicate n Sl.any++ρ)[j]?=ρ[j - n]?:=by rw [List.getElem?_append_right (by simpa using hj)]; simp
  have e2:(List.replicate n (none:Option V)++σ)[j]?=σ[j - n]?:=by rw [List.getElem?_append_right (by simpa using hj)]; simp
  rw [e1] at e
  have q:=E.slot _ s e
  cases s <;> simp only [iR,e2] at q ⊢ <;> exact q
abbrev Bu (X:Cx) (es:List Expr) (t:DT):Prop:=PTs X es (liftT t)
theorem dO {X:Cx}:Bu X [] (fun _ P=>P true):=fun pins s σ H Q I h=>by
 obtain⟨p,H0,own,ρ,P,E,t,q⟩:=h
 exact Cr pins s σ H Q I (q true H t E.at)
theorem dN {X:Cx}{c:Expr}{t:DT} (hc:PDT X c t):Bu X [c] t:=Cq hc
def elC (k:Kd):Kd:=elK k
def dLC (n:Nat) (ti:DI) (g:DG) (tt:DT) (te:DE):DE:=fun ρ P=>ti ρ fun k ds=>ds.length<=1000/\∃ (ke:Kd) (Iv:Nat->List D->Prop),Iv 0 [] /\
 (∀ i d ys,ds[i]?=some d->Iv i ys->g (norm (elC k) d) d (List.replicate n .any++ρ) fun ρ'=>tt ρ' fun b=>if b=true then te ρ' fun k' d'=>(norm k' d').le ke=true/\Iv (i+1) (ys++[d']) else Iv (i+1) ys) /\
 ∀ ys,Iv ds.length ys->P (ke.join .new) (.list ys)
theorem Ih {p:Pn}{H0 Hb H1:Hp}{own:Addr->Option Nat}{k:Kd} (A:At p H0 own Hb H1) {v:V}{d:D}{H2:Hp} (r:Rp (okA p H0 own Hb k H1) H2 v d):Rp (okB p H0 own (elC k)) H2 v d:=by
 refine r.mono (fun a n=>?_) (fun _ _ _ e=>e) fun _ _ e=>e
 obtain⟨o,u,hu⟩:=n
 cases k with
 | imm=>exact o
 | new=>exact⟨A.h0 o,A.nfb o,A.Qt o⟩
 | reg q=>exact o
 | n0=>trivial
 | snw=>exact o
 | shr=>exact o
 | wk=>trivial
section
variable {X:Cx}{own:List Str}{scope:Scope}{tg iter elt:Expr}{ifs:List Expr}{pos:Pos}{ti:DI}{g:DG}{tt:DT}{te:DE}
theorem iC {n:Nat}:∀ σ H Q,bL (dLC n ti g tt te) σ H Q->tLC n (ud ti) (fun _=>yd g) (fun _=>liftT tt) (fun _=>bL te) σ H Q:=by
 rintro σ H Q ⟨p,H0,own,ρ,P,E,t,q⟩
 refine⟨p,H0,own,ρ,_,E,t,fun k ds J H1 Ok h A W o1=>?_⟩
 obtain⟨hlen,ke,Iv,i0,step,done⟩:=h
 have okS:∀ H',Kp p H1 H'->p.PI H'->Ok H':=fun H' K i=>W.stab H1 H' o1 (fun b o n e=>K b o e (iy A n.1)) (iH A K)
 refine⟨fun i m ys H'=>m=ds.length - i/\i<=ds.length/\Kp p H1 H'/\p.PI H'/\∃ es,Rps (okK p H0 own H ke) H' ys es/\es.length<=i/\Iv i es,⟨_,rfl,Nat.zero_le _,Kp.refl,A.pen,[],.nil,Nat.le_refl _,i0⟩,?_⟩
 rintro c i m ys H' ⟨rfl,hi,K',I',es,rs,hl,iv⟩
 have oH:=okS H' K' I'
 have A':=A.go K' I'
 have h24:=sizeLine_eq
 by_cases hlt:i<ds.length
 ·refine .inr ⟨W.go i H' oH hlt,by have:=rs.length; omega,fun ys' H2=>Kp p H1 H2/\p.PI H2/\∃ es,Rps (okK p H0 own H ke) H2 ys' es/\es.length<=i+1/\Iv (i+1) es,fun ys' H2 h=>⟨_,by omega,rfl,hlt,h⟩,fun x H2 y=>?_⟩
  obtain⟨sm,rx⟩:=W.yld i H' x H2 oH y
  have rx:=rx ds[i] (List.getElem?_eq_getElem hlt)
  have I2:p.PI H2:=p.mono H' H2 I' fun b o _ e=>sm b o e
  have K2:Kp p H1 H2:=K'.trans (Kp.of sm)
  have A2:=A.go K2 I2
  have E2:EnvD p H0 own σ H2 ρ:=E.go A2.kp A2.pen
  have rs2:=cB A' (Kp.of sm) rs
  refine⟨p,H0,own,_,_,_,_,E2.comp n,fQ (Ih A rx),step i ds[i] es (List.getElem?_eq_getElem hlt) iv,fun σ3 ρ3 E3 t3=>?_⟩
  refine⟨p,H0,own,ρ3,_,E3,t3,fun b H4 h4 A4=>?_⟩
  have A5:At p H0 own H H4:=A2.base A4
  have rs4:=cB A2 A4.kp rs2
  cases b with
  | true =>
   refine bQ ⟨p,H0,own,ρ3,_,E3.go A4.kp A4.pen,by simpa using h4,fun k' d' v H6 h6 A6 r6=>?_⟩
   refine⟨(K2.trans A4.kp).trans A6.kp,A6.pen,es++[d'],(cB A5 A6.kp rs4).snoc (iW (A5.base A6) h6.1 (bf (jD A5 r6))),by simp; omega,h6.2⟩
  | false=>exact bR ⟨K2.trans A4.kp,A4.pen,es,rs4,by omega,by simpa using h4⟩
 ·have e:i=ds.length:=by omega
  subst e
  refine .inl ⟨W.stop H' oH,fun l hl'=>?_⟩
  obtain⟨k7,i7,nw⟩:=A'.new hl' (.lst ys)
  have j:=fC ke .new
  refine q _ _ _ _ (done es iv) (A'.go k7 i7) (.lst (cJ A' j.2 nw) aB ?_)
  exact (cB A' k7 rs).mono (fun a o=>cJ A' j.1 o) (fun _ _ _ e=>e) fun _ _ e=>e
theorem iZ (own:List Str) (hc:X.calm=true) (hi:PDI X tg iter ti) (hg:∀ c,PDG (X.comp own scope c) tg g) (ht:∀ c,Bu (X.comp own scope c) ifs tt) (he:∀ c,PD (X.comp own scope c) elt te)
  (hk:dh X.env scope X.N=true:=by rfl) (hs:zF X iter:=by intro _; rfl) :
  PD X (.ListComp elt [⟨tg,iter,ifs,0⟩] scope pos) (dLC own.length ti g tt te):=PE.wk (Ht own hc hi hg ht he hk hs) iC
theorem Qq (own M:List Str) (hc:X.calm=true) (hi:PDI X tg iter ti) (hg:∀ c,PDG (X.bY own M scope c) tg g) (ht:∀ c,Bu (X.bY own M scope c) ifs tt) (he:∀ c,PD (X.bY own M scope c) elt te)
  (hk:bK X.env scope X.N M=true:=by decide +kernel) (hs:zF X iter:=by intro _; rfl) :
  PD X (.ListComp elt [⟨tg,iter,ifs,0⟩] scope pos) (dLC own.length ti g tt te):=PE.wk (Hs own M hc hi hg ht he hk hs) iC
end
def aZ (d:D):Sl:=if dZ d then .im d else .sh d
theorem uw {p:Pn}{H:Hp}{N:List Str}{vs:List V}{ds:List D} (g:Gr.G p H) (hp:p.PI H) (r:Rps (fun a=>¬ p.fp a) H vs ds):EnvD p H (fun _=>none) (L2.start N vs) H (ds.map aZ++List.replicate (N.length - vs.length) .any):=by
 refine⟨fun _ _ e _=>e,hp,(fun _ _ e=>nomatch e),fun j s e=>?_,by unfold L2.start; simp [r.length],g⟩
 by_cases hj:j<ds.length
 ·rw [List.getElem?_append_left (by simpa using hj),List.getElem?_map] at e
  obtain⟨v,hv,rv⟩:=r.getD (List.getElem?_eq_getElem hj)
  rw [List.getElem?_eq_getElem hj] at e
  have e:=Option.some.inj e
  have hs:(L2.start N vs)[j]?=some (some v):=by
   unfold L2.start
   rw [List.getElem?_append_left (by rw [List.length_map,r.length]; exact hj),List.getElem?_map,hv]
   rfl
  subst e
  unfold aZ
  by_cases hi:dZ ds[j]=true
  ·rw [if_pos hi]; exact⟨v,hs,rv.imm hi⟩
  ·rw [if_neg hi]; exact⟨v,hs,rv.mono (fun _ o=>⟨o,rfl⟩) (fun _ _ _ e=>e) fun _ _ e=>e⟩
 ·rw [List.getElem?_append_right (by simpa using hj),List.getElem?_replicate] at e
  split at e
  ·cases e; trivial
  ·cases e
theorem vU {f:List D->(D->Prop)->Prop}{T:DS}{N:List Str}{vs:List V}{H:Hp}{Q:VK}{E:XK} (h:spD f vs H Q E)
  (body:∀ ds P,f ds P->T { nx:=fun _=>P .none,rt:=P } (ds.map aZ++List.replicate (N.length - ds.length) .any)) (g:Gr.G fj H:=by trivial):rK T { nx:=fun _ H'=>Q .non H',rt:=Q } (L2.start N vs) H:=by
 obtain⟨ds,P,r,t,q⟩:=h
 have E:=uw (p:=fj) (N:=N) g trivial (r.mono (ok':=fun a=>¬ fj.fp a) (fun _ _ z=>z) (fun _ _ _ e=>e) fun _ _ e=>e)
 rw [r.length] at E
 have sm:∀ H',(∀ b o,H b=some o->¬ fj.fp b->H' b=some o)->Same H H':=fun H' k b o e=>k b o e fun z=>z
 refine⟨fj,H,fun _=>none,_,_,E,body ds P t,⟨fun o s h' r' e' _ n=>q _ _ h' n (sm h' e'.k0) .non,fun d v h' n w=>q d v h' n (sm h' w.k0) (w.rp.mono (fun _ o=>o.1) (fun _ _ _ e=>e) fun _ _ e=>e),fun _ _ _ _ _ _ n=>n.elim,fun _ _ _ _ _ _ n=>n.elim⟩⟩
end Dl
namespace PySem
open PyProof.Rows
abbrev nJ (f0:Value) (q:Bool) (TI TO:Addr):Obj:={ cls:=.type "zip",data:=.fields #[f0,.bool q,.bool false,.ref TI,.ref TO] }
section
variable {prog:Program}{w:World}{A:Around}{E:Value->Shared->Prop}{s:Shared}
theorem uM {z TI TO i1 i2 l1 l2 T:Addr}{q:Bool}{k:Nat}{xs ys:Array Value}{x y:Value}{oT:Obj}{Q:Value->Shared->Prop} (n1:i1≠z) (n2:i2≠z) (n12:i1≠i2) (m1:l1≠z) (m2:l2≠z) (m3:l2≠i1)
  (hZ:s.heap.get? z=some (nJ (rawInt T) q TI TO)) (hI:s.heap.get? TI=some { cls:=.type "tuple",data:=.seq #[.ref i1,.ref i2] }) (hT:s.heap.get? T=some oT)
  (j1:s.heap.IsListIter i1 l1 k) (j2:s.heap.IsListIter i2 l2 k) (e1:s.heap.IsList l1 xs) (e2:s.heap.IsList l2 ys) (hx:xs[k]?=some x) (hy:ys[k]?=some y)
  (hQ:∀ h',h'.get? z=some (nJ (rawInt T) true TI TO)->h'.IsListIter i1 l1 (k+1)->h'.IsListIter i2 l2 (k+1)->h'.get? s.heap.objs.size=some { cls:=.type "tuple",data:=.seq #[x,y] } ->
   (∀ c o,c≠z->c≠i1->c≠i2->s.heap.get? c=some o->h'.get? c=some o)->Q (.ref s.heap.objs.size) { s with heap:=h' }) :
  wpAny (model prog w) A (Builtin.«zip.__next__» ⟨[.ref z],[]⟩) (fun fin s'=>∃ v,fin=.done (.ret v)/\Q v s') E s:=by
 have fld:∀ {i:Nat}{v:Value}{R:Value->Shared->Prop},(#[rawInt T,Value.bool q,.bool false,.ref TI,.ref TO]:Array Value)[i]?=some v->R v s->wpAny (model prog w) A (field (.ref z) i) R E s:=fun h r=>wpAny_field hZ rfl h r
 show wpAny _ _ (field (.ref z) 2 >>= _) _ _ _
 refine wpAny_bind (fld (v:=.bool false) rfl ?_)
 show wpAny _ _ (field (.ref z) 3 >>= _) _ _ _
 refine wpAny_bind (fld (v:=.ref TI) rfl ?_)
 refine wpAny_bind (wpAny_seqItems hI rfl ?_)
 show wpAny _ _ (Builtin.SmallTypes.ownedTupleIsFree (.ref z) >>= _) _ _ _
 refine wpAny_bind ?_
 unfold Builtin.SmallTypes.ownedTupleIsFree
 refine wpAny_bind (fld (v:=rawInt T) rfl ?_)
 show wpAny _ _ (loadIfAlive ((T:Int).toNat) >>= _) _ _ _
 rw [Int.toNat_natCast]
 refine wpAny_bind (W.kdx_alive hT ?_)
 simp only [Option.isNone_some,Bool.false_eq_true,if_false]
 refine wpAny_bind (fld (v:=.bool q) rfl ?_)
 refine L2.thn (Q:=fun a s'=>a=false/\∃ h1,s'={ s with heap:=h1 }/\h1.get? z=some (nJ (rawInt T) true TI TO)/\h1.objs.size=s.heap.objs.size/\∀ c o,c≠z->s.heap.get? c=some o->h1.get? c=some o) ?_ ?_
 ·cases q with
  | true=>exact wpAny_pure ⟨rfl,s.heap,rfl,hZ,rfl,fun c o _ e=>e⟩
  | false =>
   rw [if_pos (by decide)]
   refine wpAny_bind (wpAny_setField_rec hZ (by simp) fun h1 z1 b1=>wpAny_pure ⟨rfl,h1,rfl,z1,b1.1,fun c o n e=>b1.extBut _ _ n e⟩)
 rintro a s' ⟨rfl,h1,rfl,z1,sz1,k1⟩
 simp only [Bool.false_eq_true,if_false]
 refine wpAny_bind ?_
 simp only [← Array.forIn_toList,List.forIn_cons,List.forIn_nil]
 have at1:h1.IsListIter i1 l1 k:=j1.at fun o e=>k1 i1 o n1 e
 have at2:h1.IsListIter i2 l2 k:=j2.at fun o e=>k1 i2 o n2 e
 have f1:h1.IsList l1 xs:=e1.at fun o e=>k1 l1 o m1 e
 have f2:h1.IsList l2 ys:=e2.at fun o e=>k1 l2 o m2 e
 refine wpAny_bind (wpAny_bind (wpAny_holding ?_))
 show wpAny _ _ (Builtin.SmallTypes.nextOf (.ref i1) >>= _) _ _ _
 refine wpAny_bind (wpAny_nextOf_list_item at1 f1 hx fun h2 c1 b2=>wpAny_pure (wpAny_pure ?_))
 refine wpAny_bind (wpAny_bind (wpAny_holding ?_))
 show wpAny _ _ (Builtin.SmallTypes.nextOf (.ref i2) >>= _) _ _ _
 refine wpAny_bind (wpAny_nextOf_list_item (at2.extBut b2.extBut n12.symm) (f2.extBut b2.extBut m3) hy fun h3 c2 b3=>wpAny_pure (wpAny_pure (wpAny_pure ?_)))
 have sz3:h3.objs.size=s.heap.objs.size:=by rw [b3.1,b2.1,sz1]
 show wpAny _ _ (newTuple [x,y] >>= _) _ _ _
 refine wpAny_bind (wpAny_newTuple (wpAny_pure ⟨_,rfl,?_⟩))
 show Q (.ref h3.objs.size) _
 rw [sz3]
 have up:∀ c o,c≠i1->c≠i2->h1.get? c=some o->(h3.push { cls:=.type "tuple",data:=.seq #[x,y] }).get? c=some o:=fun c o a b e=>Heap.get?_push_of_some _ (b3.extBut _ _ b (b2.extBut _ _ a e))
 refine hQ _ (up z _ n1.symm n2.symm z1) ((c1.extBut b3.extBut n12).at fun o e=>Heap.get?_push_of_some _ e) (c2.at fun o e=>Heap.get?_push_of_some _ e) ?_ fun c o a b d e=>up c o b d (k1 c o a e)
 rw [← sz3]
 exact Heap.get?_push_size _ rfl
theorem wG {z TI TO i1 i2 l1 l2 T:Addr}{q:Bool}{k:Nat}{xs ys:Array Value}{oT:Obj}{Q:Fin->Shared->Prop} (hh:A.handled=none) (n1:i1≠z) (n2:i2≠z) (n12:i1≠i2) (m1:l1≠z) (m2:l2≠z) (m3:l2≠i1)
  (hZ:s.heap.get? z=some (nJ (rawInt T) q TI TO)) (hI:s.heap.get? TI=some { cls:=.type "tuple",data:=.seq #[.ref i1,.ref i2] }) (hT:s.heap.get? T=some oT)
  (j1:s.heap.IsListIter i1 l1 k) (j2:s.heap.IsListIter i2 l2 k) (e1:s.heap.IsList l1 xs) (e2:s.heap.IsList l2 ys) (hend:xs[k]?=none\/ys[k]?=none)
  (hE:∀ h' e,(∀ c o,c≠z->c≠i1->c≠i2->s.heap.get? c=some o->h'.get? c=some o)->(∃ o,h'.get? e=some o/\o.cls=.type "StopIteration")->E (.ref e) { s with heap:=h' }) :
  wpAny (model prog w) A (Builtin.«zip.__next__» ⟨[.ref z],[]⟩) Q E s:=by
 have fld:∀ {i:Nat}{v:Value}{R:Value->Shared->Prop},(#[rawInt T,Value.bool q,.bool false,.ref TI,.ref TO]:Array Value)[i]?=some v->R v s->wpAny (model prog w) A (field (.ref z) i) R E s:=fun h r=>wpAny_field hZ rfl h r
 show wpAny _ _ (field (.ref z) 2 >>= _) _ _ _
 refine wpAny_bind (fld (v:=.bool false) rfl ?_)
 show wpAny _ _ (field (.ref z) 3 >>= _) _ _ _
 refine wpAny_bind (fld (v:=.ref TI) rfl ?_)
 refine wpAny_bind (wpAny_seqItems hI rfl ?_)
 show wpAny _ _ (Builtin.SmallTypes.ownedTupleIsFree (.ref z) >>= _) _ _ _
 refine wpAny_bind ?_
 unfold Builtin.SmallTypes.ownedTupleIsFree
 refine wpAny_bind (fld (v:=rawInt T) rfl ?_)
 show wpAny _ _ (loadIfAlive ((T:Int).toNat) >>= _) _ _ _
 rw [Int.toNat_natCast]
 refine wpAny_bind (W.kdx_alive hT ?_)
 simp only [Option.isNone_some,Bool.false_eq_true,if_false]
 refine wpAny_bind (fld (v:=.bool q) rfl ?_)
 refine L2.thn (Q:=fun a s'=>a=false/\∃ h1,s'={ s with heap:=h1 }/\h1.get? z=some (nJ (rawInt T) true TI TO)/\h1.objs.size=s.heap.objs.size/\∀ c o,c≠z->s.heap.get? c=some o->h1.get? c=some o) ?_ ?_
 ·cases q with
  | true=>exact wpAny_pure ⟨rfl,s.heap,rfl,hZ,rfl,fun c o _ e=>e⟩
  | false =>
   rw [if_pos (by decide)]
   refine wpAny_bind (wpAny_setField_rec hZ (by simp) fun h1 z1 b1=>wpAny_pure ⟨rfl,h1,rfl,z1,b1.1,fun c o n e=>b1.extBut _ _ n e⟩)
 rintro a s' ⟨rfl,h1,rfl,z1,sz1,k1⟩
 simp only [Bool.false_eq_true,if_false]
 refine wpAny_bind ?_
 simp only [← Array.forIn_toList,List.forIn_cons,List.forIn_nil]
 have at1:h1.IsListIter i1 l1 k:=j1.at fun o e=>k1 i1 o n1 e
 have at2:h1.IsListIter i2 l2 k:=j2.at fun o e=>k1 i2 o n2 e
 have f1:h1.IsList l1 xs:=e1.at fun o e=>k1 l1 o m1 e
 have f2:h1.IsList l2 ys:=e2.at fun o e=>k1 l2 o m2 e
 refine wpAny_bind (wpAny_bind (wpAny_holding ?_))
 show wpAny _ _ (Builtin.SmallTypes.nextOf (.ref i1) >>= _) _ _ _
 cases hx:xs[k]? with
 | none=>exact wpAny_bind (wpAny_nextOf_list_end hh at1 f1 hx fun h2 e b2 he=>hE h2 e (fun c o a b _ x=>b2 c o b (k1 c o a x)) he)
 | some x =>
  have hy:ys[k]?=none:=hend.elim (fun z=>by rw [hx] at z; cases z) id
  refine wpAny_bind (wpAny_nextOf_list_item at1 f1 hx fun h2 c1 b2=>wpAny_pure (wpAny_pure ?_))
  refine wpAny_bind (wpAny_bind (wpAny_holding ?_))
  show wpAny _ _ (Builtin.SmallTypes.nextOf (.ref i2) >>= _) _ _ _
  exact wpAny_bind (wpAny_nextOf_list_end hh (at2.extBut b2.extBut n12.symm) (f2.extBut b2.extBut m3) hy fun h3 e b3 he=>hE h3 e (fun c o a b d x=>b3 c o d (b2.extBut _ _ b (k1 c o a x))) he)
structure ZSt (z TI TO i1 i2 l1 l2:Addr) (xs ys:Array Value) (i:Nat) (h:Heap):Prop where
 zip:(i=0/\h.get? z=some (nJ .none false TI TO))\/∃ (T:Addr) (q:Bool) (oT:Obj),h.get? z=some (nJ (rawInt T) q TI TO)/\h.get? T=some oT/\T≠z/\T≠i1/\T≠i2
 ti:h.get? TI=some { cls:=.type "tuple",data:=.seq #[.ref i1,.ref i2] }
 to:∃ a b,h.get? TO=some { cls:=.type "tuple",data:=.seq #[a,b] }
 j1:h.IsListIter i1 l1 i
 j2:h.IsListIter i2 l2 i
 e1:h.IsList l1 xs
 e2:h.IsList l2 ys
variable {z TI TO i1 i2 l1 l2:Addr}{xs ys:Array Value}
theorem ZSt.keeps {i:Nat}{h h':Heap} (Z:ZSt z TI TO i1 i2 l1 l2 xs ys i h) {S:Addr}{oS:Obj} (hS:h.get? S=some oS) (hc:oS.cls=.type "list") (n1:S≠l1) (n2:S≠l2) (nT:∀ (T:Addr) (q:Bool),h.get? z=some (nJ (rawInt T) q TI TO)->S≠T) (k:∀ b o,b≠S->h.get? b=some o->h'.get? b=some o):ZSt z TI TO i1 i2 l1 l2 xs ys i h':=by
 have ne:∀ {b:Addr}{o:Obj},h.get? b=some o->o.cls≠.type "list"->b≠S:=fun e n z=>by subst z; rw [hS] at e; cases e; exact n hc
 obtain⟨o1,a1,c1,d1⟩:=Z.j1
 obtain⟨o2,a2,c2,d2⟩:=Z.j2
 obtain⟨a,b,ab⟩:=Z.to
 have k1:=k i1 o1 (ne a1 (by rw [c1]; decide)) a1
 have k2:=k i2 o2 (ne a2 (by rw [c2]; decide)) a2
 refine⟨?_,k _ _ (ne Z.ti (show Value.type "tuple"≠_ by decide)) Z.ti,⟨a,b,k _ _ (ne ab (show Value.type "tuple"≠_ by decide)) ab⟩,⟨o1,k1,c1,d1⟩,⟨o2,k2,c2,d2⟩,Z.e1.at fun o e=>k _ o n1.symm e,Z.e2.at fun o e=>k _ o n2.symm e⟩
 rcases Z.zip with ⟨h0,hz⟩ | ⟨T,q,oT,hz,hT,r⟩
 ·exact .inl ⟨h0,k _ _ (ne hz (show Value.type "zip"≠_ by decide)) hz⟩
 ·exact .inr ⟨T,q,oT,k _ _ (ne hz (show Value.type "zip"≠_ by decide)) hz,k _ _ (nT T q hz).symm hT,r⟩
theorem Gn {i:Nat}{x y:Value}{Q:Option Value->Shared->Prop} (D:ZipApart z TI TO i1 i2 l1 l2) (Z:ZSt z TI TO i1 i2 l1 l2 xs ys i s.heap) (hx:xs[i]?=some x) (hy:ys[i]?=some y)
  (hQ:∀ h',ZSt z TI TO i1 i2 l1 l2 xs ys (i+1) h'->h'.get? s.heap.objs.size=some { cls:=.type "tuple",data:=.seq #[x,y] }->(∀ (T:Addr) (q:Bool),h'.get? z=some (nJ (rawInt T) q TI TO)->T=s.heap.objs.size\/∃ q',s.heap.get? z=some (nJ (rawInt T) q' TI TO)) ->
   (∀ c o,c≠z->c≠TO->c≠i1->c≠i2->s.heap.get? c=some o->h'.get? c=some o)->Q (some (.ref s.heap.objs.size)) { s with heap:=h' }):wpAny (model prog w) A (pyNext (.ref z)) Q E s:=by
 obtain⟨a,b,ab⟩:=Z.to
 have lt:∀ {c:Addr}{o:Obj},s.heap.get? c=some o->s.heap.objs.size≠c:=fun e=>Nat.ne_of_gt (Heap.lt_size e)
 obtain⟨o1,a1,_⟩:=id Z.j1
 obtain⟨o2,a2,_⟩:=id Z.j2
 rcases Z.zip with ⟨rfl,hz⟩ | ⟨T,q,oT,hz,hT,t1,t2,t3⟩
 ·refine wpAny_pyNext_zip_item D hz Z.ti ab Z.j1 Z.j2 Z.e1 Z.e2 hx hy fun h' b1 b2 b3 b4 b5 b6 b7=>hQ h' ⟨.inr ⟨_,false,_,b1,b5,lt hz,lt a1,lt a2⟩,b7 _ _ D.TIz D.TITO D.TIi1 D.TIi2 Z.ti,⟨_,_,b2⟩,b3,b4,Z.e1.at fun o e=>b7 _ o D.l1z D.l1TO D.l1i1 D.l1i2 e,Z.e2.at fun o e=>b7 _ o D.l2z D.l2TO D.l2i1 D.l2i2 e⟩ b5 (fun T q e=>?_) b7
  rw [b1] at e
  cases e
  exact .inl rfl
 ·have hTy:s.TypeIs (.ref z) "zip":=⟨_,hz,rfl⟩
  unfold pyNext
  refine wpAny_bind (wpAny_attempt (wpAny_callSpecial?_slot (name:=Str.ofString "__next__") hTy F.slot_zip_next (wpAny_call_entry F.slot_zip_next hTy F.entry_zip_next ?_ (F.args_zip_next_1 _))))
  refine uM D.i1z D.i2z D.i12 D.l1z D.l2z D.l2i1 hz Z.ti hT Z.j1 Z.j2 Z.e1 Z.e2 hx hy fun h' b1 b3 b4 b5 b7=>wpAny_pure (hQ h' ⟨.inr ⟨T,true,oT,b1,b7 _ _ t1 t2 t3 hT,t1,t2,t3⟩,b7 _ _ D.TIz D.TIi1 D.TIi2 Z.ti,⟨a,b,b7 _ _ D.TOz D.TOi1 D.TOi2 ab⟩,b3,b4,Z.e1.at fun o e=>b7 _ o D.l1z D.l1i1 D.l1i2 e,Z.e2.at fun o e=>b7 _ o D.l2z D.l2i1 D.l2i2 e⟩ b5 (fun T' q' e=>?_) fun c o n1 _ n3 n4 e=>b7 c o n1 n3 n4 e)
  rw [b1] at e
  cases e
  exact .inr ⟨_,hz⟩
theorem Kr {i:Nat}{Q:Option Value->Shared->Prop} (hh:A.handled=none) (D:ZipApart z TI TO i1 i2 l1 l2) (Z:ZSt z TI TO i1 i2 l1 l2 xs ys i s.heap) (hend:xs[i]?=none\/ys[i]?=none)
  (hQ:∀ h',(∀ c o,c≠z->c≠TO->c≠i1->c≠i2->s.heap.get? c=some o->h'.get? c=some o)->Q none { s with heap:=h' }):wpAny (model prog w) A (pyNext (.ref z)) Q E s:=by
 obtain⟨a,b,ab⟩:=Z.to
 rcases Z.zip with ⟨rfl,hz⟩ | ⟨T,q,oT,hz,hT,t1,t2,t3⟩
 ·exact wpAny_pyNext_zip_end hh D hz Z.ti ab Z.j1 Z.j2 Z.e1 Z.e2 hend hQ
 ·have hTy:s.TypeIs (.ref z) "zip":=⟨_,hz,rfl⟩
  unfold pyNext
  refine wpAny_bind (wpAny_attempt (wpAny_callSpecial?_slot (name:=Str.ofString "__next__") hTy F.slot_zip_next (wpAny_call_entry F.slot_zip_next hTy F.entry_zip_next ?_ (F.args_zip_next_1 _))))
  refine wG hh D.i1z D.i2z D.i12 D.l1z D.l2z D.l2i1 hz Z.ti hT Z.j1 Z.j2 Z.e1 Z.e2 hend fun h' e k2 he=>?_
  obtain⟨o,ho,hc⟩:=he
  refine wpAny_bind (wpAny_isInstance (T:="StopIteration") (b:=true) ⟨o,ho,hc⟩ isSubtype_stop ?_)
  exact wpAny_pure (hQ _ fun c o n1 _ n3 n4 e=>k2 c o n1 n3 n4 e)
def ItP (h:Heap):List Value->List (Value×Value)->Prop:=Paired fun v p=>∃ T,v=.ref T/\h.get? T=some { cls:=.type "tuple",data:=.seq #[p.1,p.2] }
theorem ItP.snoc {h:Heap}:∀ {vs:List Value}{ps:List (Value×Value)}{v:Value}{p:Value×Value},ItP h vs ps->(∃ T,v=.ref T/\h.get? T=some { cls:=.type "tuple",data:=.seq #[p.1,p.2] })->ItP h (vs++[v]) (ps++[p])
 | _,_,_,_,.nil,r=>.cons r .nil
 | _,_,_,_,.cons a t,r=>.cons a (ItP.snoc t r)
theorem ItP.keeps {h h':Heap}{vs:List Value}{ps:List (Value×Value)} (H:ItP h vs ps) (k:∀ T o,h.get? T=some o->o.cls=.type "tuple"->(∃ v∈vs,v=.ref T)->h'.get? T=some o):ItP h' vs ps:=by
 induction H with
 | nil=>exact .nil
 | cons a t ih =>
  obtain⟨T,e,hT⟩:=a
  exact .cons ⟨T,e,k T _ hT rfl ⟨_,List.mem_cons_self,e⟩⟩ (ih fun T o h c ⟨v,hv,e⟩=>k T o h c ⟨v,List.mem_cons_of_mem _ hv,e⟩)
end
section
variable {prog:Program}{w:World}{A:Around}{z TI TO i1 i2 l1 l2:Addr}{xs ys:Array Value}{R:Result->Shared->Prop}
abbrev Mg (acc:Array Value) (c:Nat):Obj:={ cls:=.type "list",dict:=none,data:=.seq acc c,slots:=#[] }
theorem Gk (hh:A.in1.handled=none) (D:ZipApart z TI TO i1 i2 l1 l2) (hn:min xs.size ys.size<=1000) (S:Addr) (nS:S≠z/\S≠TO/\S≠i1/\S≠i2/\S≠l1/\S≠l2) (res:Value):∀ (m i:Nat) (s:Shared) (acc:Array Value) (c:Nat),min xs.size ys.size - i=m->i<=min xs.size ys.size ->
  ZSt z TI TO i1 i2 l1 l2 xs ys i s.heap->(∀ (T:Addr) (q:Bool),s.heap.get? z=some (nJ (rawInt T) q TI TO)->S≠T)->s.heap.get? S=some (Mg acc c)->ItP s.heap acc.toList ((xs.toList.zip ys.toList).take i)->(∀ v∈acc.toList,∀ T,v=.ref T->T≠z/\T≠TO/\T≠i1/\T≠i2/\T≠S) ->
  (∀ h' acc' c',(∀ b o,b≠S->b≠z->b≠TO->b≠i1->b≠i2->s.heap.get? b=some o->h'.get? b=some o)->h'.get? S=some (Mg acc' c')->ItP h' acc'.toList (xs.toList.zip ys.toList)->(∀ v∈acc'.toList,v∈acc.toList\/∃ T,v=.ref T/\s.heap.objs.size<=T)->R (.ok (.ret res)) { s with heap:=h' }) ->
  codeAny (model prog w) A (.builtin "list.extend.loop" ⟨[.ref S,.ref z,res],[]⟩) R s:=by
 obtain⟨s1,s2,s3,s4,s5,s6⟩:=nS
 intro m
 induction m with
 | zero =>
  intro i s acc c hm hi Z nT hS hP hv hR
  have e:i=min xs.size ys.size:=by omega
  refine codeAny_builtin F.entry_extend_loop ?_
  rw [Around.under_plainId F.plain_extend_loop _]
  show wpAny _ A.in1 (pyNext (.ref z) >>= _) _ _ s
  refine wpAny_bind (Kr hh D Z ?_ fun h' k=>?_)
  ·rcases Nat.le_total xs.size ys.size with h | h
   ·exact .inl (Array.getElem?_eq_none (by omega))
   ·exact .inr (Array.getElem?_eq_none (by omega))
  ·have el:(xs.toList.zip ys.toList).take i=xs.toList.zip ys.toList:=List.take_of_length_le (by simp; omega)
   rw [el] at hP
   exact wpAny_pure (hR h' acc c (fun b o n1 n2 n3 n4 n5 e=>k b o n2 n3 n4 n5 e) (k S _ s1 s2 s3 s4 hS) (hP.keeps fun T o h _ ⟨v,hv',e⟩=>let ⟨a1,a2,a3,a4,_⟩:=hv v hv' T e; k T o a1 a2 a3 a4 h) fun v hv=>.inl hv)
 | succ m ih =>
  intro i s acc c hm hi Z nT hS hP hv hR
  have hx:i<xs.size:=by omega
  have hy:i<ys.size:=by omega
  refine codeAny_builtin F.entry_extend_loop ?_
  rw [Around.under_plainId F.plain_extend_loop _]
  show wpAny _ A.in1 (pyNext (.ref z) >>= _) _ _ s
  refine wpAny_bind (Gn D Z (Array.getElem?_eq_getElem hx) (Array.getElem?_eq_getElem hy) fun h1 Z1 hT hz1 k1=>?_)
  have hS1:=k1 S _ s1 s2 s3 s4 hS
  have lt:∀ {b:Addr}{o:Obj},s.heap.get? b=some o->s.heap.objs.size≠b:=fun e=>Nat.ne_of_gt (Heap.lt_size e)
  have hsz:=hP.length
  have hsz2:acc.size=i:=by
   have:acc.toList.length=i:=by rw [hsz,List.length_take,List.length_zip]; simp; omega
   simpa using this
  show wpAny _ A.in1 (updateSeq S (·.push (.ref s.heap.objs.size)) >>= _) _ _ _
  refine wpAny_bind ?_
  have h24:=sizeLine_eq
  have nT1:∀ (T:Addr) (q:Bool),h1.get? z=some (nJ (rawInt T) q TI TO)->S≠T:=fun T q e=>by
   rcases hz1 T q e with z' | ⟨q',e'⟩
   ·rw [z']; exact (lt hS).symm
   ·exact nT T q' e'
  have oth:∀ b o,b≠S->h1.get? b=some o->(h1.update S (Obj.mapSeq (·.push (Value.ref s.heap.objs.size)))).get? b=some o:=fun b o n e=>(Heap.get?_update_other _ _ (Ne.symm n)).trans e
  obtain⟨o1,a1,_⟩:=Z.j1
  obtain⟨o2,a2,_⟩:=Z.j2
  have az:∃ o,s.heap.get? z=some o:=by
   rcases Z.zip with ⟨_,hz⟩ | ⟨_,_,_,hz,_⟩
   ·exact⟨_,hz⟩
   ·exact⟨_,hz⟩
  obtain⟨oz,az⟩:=az
  obtain⟨ta,tb,at'⟩:=Z.to
  have newT:s.heap.objs.size≠z/\s.heap.objs.size≠TO/\s.heap.objs.size≠i1/\s.heap.objs.size≠i2/\s.heap.objs.size≠S:=⟨lt az,lt at',lt a1,lt a2,lt hS⟩
  obtain⟨c2,hS2⟩:∃ c2,(h1.update S (Obj.mapSeq (·.push (Value.ref s.heap.objs.size)))).get? S=some (Mg (acc.push (.ref s.heap.objs.size)) c2):=⟨_,Heap.get?_update_self _ hS1 rfl⟩
  have tk:(xs.toList.zip ys.toList).take (i+1)=(xs.toList.zip ys.toList).take i++[(xs[i],ys[i])]:=by
   rw [List.take_add_one]
   congr 1
   have:(xs.toList.zip ys.toList)[i]?=some (xs[i],ys[i]):=by
    rw [List.getElem?_zip_eq_some]
    simp [hx,hy]
   rw [this]
   rfl
  refine wpAny_updateSeq hS1 rfl (wpAny_pure ⟨plainId_quiet F.plain_extend_loop _,ih (i+1) { s with heap:=h1.update S (Obj.mapSeq (·.push (Value.ref s.heap.objs.size))) } (acc.push (.ref s.heap.objs.size)) c2 (by omega) (by omega) (Z1.keeps hS1 rfl s5 s6 nT1 oth) (fun T q e=>nT1 T q ?_) hS2 ?_ ?_ ?_⟩) (by rw [hsz2]; omega) (by show (acc.push _).size<=sizeLine+1; rw [Array.size_push,hsz2]; omega)
  ·have zz:z≠S:=Ne.symm s1
   rw [show (h1.update S (Obj.mapSeq (·.push (Value.ref s.heap.objs.size)))).get? z=h1.get? z from Heap.get?_update_other _ _ (Ne.symm zz)] at e
   exact e
  ·rw [tk,Array.toList_push]
   refine ItP.snoc (hP.keeps fun T o h _ ⟨v,hv',e⟩=>?_) ⟨_,rfl,oth _ _ newT.2.2.2.2 hT⟩
   obtain⟨b1,b2,b3,b4,b5⟩:=hv v hv' T e
   exact oth _ _ b5 (k1 T o b1 b2 b3 b4 h)
  ·intro v hv' T e
   rw [Array.toList_push] at hv'
   rcases List.mem_append.mp hv' with q | q
   ·exact hv v q T e
   ·have q':v=.ref s.heap.objs.size:=by simpa using q
    rw [q'] at e
    cases e
    exact newT
  ·intro h' acc' c' kk hS' hP' hn'
   refine hR h' acc' c' (fun b o n1 n2 n3 n4 n5 e=>kk b o n1 n2 n3 n4 n5 (oth b o n1 (k1 b o n2 n3 n4 n5 e))) hS' hP' fun v hv'=>?_
   rcases hn' v hv' with q | ⟨T,e,hT'⟩
   ·rw [Array.toList_push] at q
    rcases List.mem_append.mp q with q | q
    ·exact .inl q
    ·have q':v=.ref s.heap.objs.size:=by simpa using q
     exact .inr ⟨_,q',Nat.le_refl _⟩
   ·exact .inr ⟨T,e,Nat.le_trans (Nat.le_of_lt (Heap.lt_size (oth _ _ newT.2.2.2.2 hT))) hT'⟩
theorem yX:typeLookup (.type "zip") "__len__"=pure none:=by rw [typeLookup_type,builtinLookup_eq_fast]; kernel_rfl
theorem wD:typeLookup (.type "zip") "__length_hint__"=pure none:=by rw [typeLookup_type,builtinLookup_eq_fast]; kernel_rfl
theorem Gm {s:Shared}{E:Value->Shared->Prop}{Q:Value->Shared->Prop} (hh:A.handled=none) (D:ZipApart z TI TO i1 i2 l1 l2) (hn:min xs.size ys.size<=1000) (hz:s.heap.get? z=some (nJ .none false TI TO)) (Z:ZSt z TI TO i1 i2 l1 l2 xs ys 0 s.heap)
  (hQ:∀ h' acc' c',(∀ b o,b≠z->b≠TO->b≠i1->b≠i2->s.heap.get? b=some o->h'.get? b=some o)->h'.get? s.heap.objs.size=some (Mg acc' c')->ItP h' acc'.toList (xs.toList.zip ys.toList)->(∀ v∈acc'.toList,∃ T,v=.ref T/\s.heap.objs.size<T)->Q (.ref s.heap.objs.size) { s with heap:=h' }) :
  wpAny (model prog w) A (call (.type "list") [.ref z]) Q E s:=by
 have lt:∀ {b:Addr}{o:Obj},s.heap.get? b=some o->s.heap.objs.size≠b:=fun e=>Nat.ne_of_gt (Heap.lt_size e)
 obtain⟨o1,a1,_⟩:=id Z.j1
 obtain⟨o2,a2,_⟩:=id Z.j2
 obtain⟨p1,b1,_⟩:=id Z.e1
 obtain⟨p2,b2,_⟩:=id Z.e2
 obtain⟨ta,tb,at'⟩:=id Z.to
 refine callType_codes (Q₁:=fun obj s₁=>obj=.ref s.heap.objs.size/\s₁={ s with heap:=s.heap.push { cls:=.type "list",data:=.seq #[] } }) F.called_list (F.typeCall_list_1 _) F.entry_list_init (code_list_new _ ⟨rfl,rfl⟩) fun obj sx hx=>?_
 obtain⟨rfl,rfl⟩:=hx
 have hS:(s.heap.push { cls:=.type "list",data:=.seq #[] }).get? s.heap.objs.size=some { cls:=.type "list",data:=.seq #[] }:=Heap.get?_push_size _ rfl
 refine⟨⟨_,hS,rfl⟩,F.args_list_init_2 _ _,?_⟩
 show wpAny _ _ (Builtin.List.listItems (.ref s.heap.objs.size) >>= fun old=>Builtin.List.listUpdate (.ref s.heap.objs.size) (fun _=>#[]) >>= fun _=>letGo old.toList.reverse >>= fun _=>Builtin.List.listExtendWith (.ref s.heap.objs.size) (.ref z) .none) _ _ _
 have old:∀ b o,s.heap.get? b=some o->(s.heap.push { cls:=.type "list",data:=.seq #[] }).get? b=some o:=fun b o e=>Heap.get?_push_of_some _ e
 refine wpAny_bind ?_
 unfold Builtin.List.listItems
 refine wpAny_bind (wpAny_seqItems hS rfl (wpAny_pure ?_))
 refine wpAny_bind (m:=updateSeq s.heap.objs.size (fun _=>#[])) (wpAny_updateSeq hS rfl ?_)
 have hS2:=Heap.get?_update_self (Obj.mapSeq (fun _=>(#[]:Array Value))) hS rfl
 refine wpAny_bind (wpAny_letGo ?_)
 generalize hg:(s.heap.push { cls:=.type "list",data:=.seq #[] }).update s.heap.objs.size (Obj.mapSeq fun _=>(#[]:Array Value))=g at hS2
 have kg:∀ b o,s.heap.get? b=some o->g.get? b=some o:=fun b o e=>by rw [← hg]; exact (Heap.get?_update_other _ _ (lt e)).trans (old b o e)
 have sg:g.objs.size=s.heap.objs.size+1:=by rw [← hg,Heap.size_update,Heap.size_push]
 have Zg:∀ {h:Heap},(∀ b o,s.heap.get? b=some o->h.get? b=some o)->ZSt z TI TO i1 i2 l1 l2 xs ys 0 h:=fun {h} k=>⟨.inl ⟨rfl,k _ _ hz⟩,k _ _ Z.ti,⟨ta,tb,k _ _ at'⟩,Z.j1.at fun o e=>k _ o e,Z.j2.at fun o e=>k _ o e,Z.e1.at fun o e=>k _ o e,Z.e2.at fun o e=>k _ o e⟩
 have hT:∀ {h:Heap},(∀ b o,s.heap.get? b=some o->h.get? b=some o)->({ s with heap:=h }:Shared).TypeIs (.ref z) "zip":=fun k=>⟨_,k _ _ hz,rfl⟩
 unfold Builtin.List.listExtendWith
 refine wpAny_bind (wpAny_typeOf (hT kg) ?_)
 have q1:Builtin.List.listSameRef (.ref s.heap.objs.size) (.ref z)=false:=by simp [Builtin.List.listSameRef,lt hz]
 have q2:(Value.type "zip" == Value.type "list")=false:=by decide
 have q3:(Value.type "zip" == Value.type "tuple")=false:=by decide
 simp only [q1,q2,q3,Bool.or_false,Bool.false_eq_true,if_false]
 refine wpAny_bind (wpAny_pyIter_zip (kg _ _ hz) ?_)
 refine wpAny_bind (wpAny_holding ?_)
 unfold Builtin.List.listLengthHint
 refine wpAny_bind (wpAny_specialOf (hT kg) yX ?_)
 show wpAny _ _ (specialOf (Value.ref z) (Str.ofString "__length_hint__") >>= _) _ _ _
 refine wpAny_bind (wpAny_specialOf (hT kg) wD ?_)
 refine wpAny_pure ?_
 show wpAny _ _ (rule "list.extend.makes-room" >>= fun _=>Builtin.List.listTouch (.ref s.heap.objs.size) >>= fun _=>again (.builtin "list.extend.loop" ⟨[.ref s.heap.objs.size,.ref z,.none],[]⟩)) _ _ _
 refine wpAny_bind (wpAny_rule (wpAny_bind ?_))
 show wpAny _ _ (updateSeq s.heap.objs.size (·.push .none) >>= fun _=>updateSeq s.heap.objs.size (·.pop)) _ _ _
 refine wpAny_bind (wpAny_updateSeq hS2 rfl ?_)
 have hS3:=Heap.get?_update_self (Obj.mapSeq (·.push Value.none)) hS2 rfl
 refine wpAny_updateSeq hS3 rfl ?_
 have hS4:=Heap.get?_update_self (Obj.mapSeq (·.pop)) hS3 rfl
 generalize hk:(g.update s.heap.objs.size (Obj.mapSeq (·.push Value.none))).update s.heap.objs.size (Obj.mapSeq (·.pop))=g' at hS4
 have kk:∀ b o,b≠s.heap.objs.size->g.get? b=some o->g'.get? b=some o:=fun b o n e=>by rw [← hk]; exact (Heap.get?_update_other _ _ (Ne.symm n)).trans ((Heap.get?_update_other _ _ (Ne.symm n)).trans e)
 have kk2:∀ b o,s.heap.get? b=some o->g'.get? b=some o:=fun b o e=>kk b o (Ne.symm (lt e)) (kg b o e)
 have sk:g'.objs.size=s.heap.objs.size+1:=by rw [← hk,Heap.size_update,Heap.size_update,sg]
 refine wpAny_pure ⟨plainId_quiet F.plain_extend_loop _,Gk (A:=A.in1) (xs:=xs) (ys:=ys) hh D hn s.heap.objs.size ⟨lt hz,lt at',lt a1,lt a2,lt b1,lt b2⟩ _ _ 0 { s with heap:=g' } #[] _ rfl (Nat.zero_le _) (Zg kk2) (fun T q e=>?_) hS4 .nil (fun v hv=>nomatch hv) fun h' acc' c' k' hS' hP' hn'=>?_⟩
 ·have e':=kk2 _ _ hz
  rw [e] at e'
  cases e'
 ·refine⟨rfl,hQ h' acc' c' (fun b o n1 n2 n3 n4 e=>k' b o (Ne.symm (lt e)) n1 n2 n3 n4 (kk2 b o e)) hS' hP' fun v hv=>?_⟩
  rcases hn' v hv with q | ⟨T,e,hT'⟩
  ·exact nomatch q
  ·refine⟨T,e,?_⟩
   have:g'.objs.size<=T:=hT'
   omega
end
end PySem
namespace L2
open PySem PySem.Spec PyProof.Rows
section
variable {X:Cx}{pins:List (Addr×Obj)}{σ:L2.St}{H:Hp}{s:Shared}
theorem Inv.Gv {a:Addr}{o:HO}{H0:Hp}{s0:Shared}{σ0:L2.St} (I:Inv X pins σ H s) (I0:Inv X pins σ0 H0 s0) (hle:s0.heap.objs.size<=a) (hn:H a=none) (new:bG X.prog X.w (upd H a o) s.heap a o):Inv X pins σ (upd H a o) s:=by
 have lt:∀ {b:Addr}{u:Obj},s0.heap.get? b=some u->b≠a:=fun e z=>absurd (Nat.lt_of_lt_of_le (Heap.lt_size e) hle) (by rw [z]; exact Nat.lt_irrefl _)
 refine I.track hn (fun ob e=>?_) (Ne.symm (Nat.ne_of_lt (Nat.lt_of_lt_of_le I0.lt hle))) (fun x c e=>?_) (fun p hp=>lt (I0.pin p hp).1) new
 ·exact absurd (Nat.lt_of_lt_of_le (Heap.lt_size e) (Nat.le_trans I0.sz hle)) (Nat.lt_irrefl _)
 ·obtain⟨v,u,hu,_⟩:=I0.cell x c e
  exact lt hu
theorem Inv.tuples {H0:Hp}{s0:Shared}{σ0:L2.St} (I0:Inv X pins σ0 H0 s0):∀ (vs:List Value) (ps:List (Value×Value)) (qs:List (V×V)) (H:Hp),Inv X pins σ H s->ItP s.heap vs ps->Paired (fun (q:V×V) (p:Value×Value)=>RelV q.1 p.1/\RelV q.2 p.2) qs ps->(∀ v∈vs,∃ T,v=.ref T/\s0.heap.objs.size<=T)->(∀ T,s0.heap.objs.size<=T->H T=none\/∃ xs,H T=some (.tup xs)) ->
  ∃ (H':Hp) (ws:List V),Inv X pins σ H' s/\Same H H'/\Vals ws vs/\Paired (fun w (q:V×V)=>∃ t,w=.ref t/\H' t=some (.tup [q.1,q.2])) ws qs/\(∀ T,s0.heap.objs.size<=T->H' T=none\/∃ xs,H' T=some (.tup xs))/\(∀ T,(∀ v∈vs,v≠.ref T)->H' T=H T)
 | _,_,_,H,I,.nil,.nil,_,hN=>⟨H,[],I,Same.refl _,.nil,.nil,hN,fun _ _=>rfl⟩
 | _,_,_,H,I,.cons (a:=v) (l₁:=vs) (b:=p) (l₂:=ps) r t,.cons (a:=q) (l₁:=qs) rq tq,hv,hN=>by
  obtain⟨T,e,hT⟩:=r
  subst e
  obtain⟨T',e',hle⟩:=hv _ List.mem_cons_self
  cases e'
  have vq:Vals [q.1,q.2] [p.1,p.2]:=.cons rq.1 (.cons rq.2 .nil)
  have okT:∀ H2:Hp,bG X.prog X.w H2 s.heap T (.tup [q.1,q.2]):=fun H2=>⟨by show 2<=sizeLine; decide,[p.1,p.2],vq,⟨_,hT,rfl,0,rfl⟩⟩
  have key:∃ H1,Inv X pins σ H1 s/\Same H H1/\H1 T=some (.tup [q.1,q.2])/\(∀ U,s0.heap.objs.size<=U->H1 U=none\/∃ xs,H1 U=some (.tup xs))/\∀ U,U≠T->H1 U=H U:=by
   rcases hN T hle with hn | ⟨xs,hx⟩
   ·refine⟨upd H T (.tup [q.1,q.2]),I.Gv I0 hle hn (okT _),fun b u e=>by rw [au (aD e hn)]; exact e,aB,fun U hU=>?_,fun U hU=>au hU⟩
    by_cases z:U=T
    ·subst z; exact .inr ⟨_,aB⟩
    ·rw [au z]; exact hN U hU
   ·refine⟨H,I,Same.refl _,?_,hN,fun _ _=>rfl⟩
    obtain⟨_,its,rv,o,ho,hc,n,hd⟩:=I.hok T _ hx
    rw [hT] at ho
    cases ho
    cases hd
    have:xs=[q.1,q.2]:=Vals.inj (by simpa using rv) vq
    rw [hx,this]
  obtain⟨H1,I1,s1,h1,N1,u1⟩:=key
  obtain⟨H2,ws,I2,s2,v2,p2,N2,u2⟩:=Inv.tuples I0 vs ps qs H1 I1 t tq (fun v hv'=>hv v (List.mem_cons_of_mem _ hv')) N1
  refine⟨H2,.ref T::ws,I2,s1.trans s2,.cons rfl v2,.cons ⟨T,rfl,s2 _ _ h1⟩ p2,N2,fun U hU=>?_⟩
  rw [u2 U fun v hv'=>hU v (List.mem_cons_of_mem _ hv'),u1 U fun z=>hU _ List.mem_cons_self (by rw [z])]
def tLZ (K:W.Frag) (ta:TA):TE:=fun σ H Q=>ta σ H fun vs H1=>∃ p q xs ys,vs=[.ref p,.ref q]/\SqL K H1 p xs/\SqL K H1 q ys/\xs.length<=1000 /\
 ∀ l ws H',Same H1 H'->H1 l=none->H' l=some (.lst ws)->Paired (fun w (q:V×V)=>∃ t,w=.ref t/\H' t=some (.tup [q.1,q.2])) ws (xs.zip ys)->Q (.ref l) H'
theorem wI:∀ {xs ys:List V}{us vs:List Value},Vals xs us->Vals ys vs->Paired (fun (q:V×V) (p:Value×Value)=>RelV q.1 p.1/\RelV q.2 p.2) (xs.zip ys) (us.zip vs)
 | _,_,_,_,.nil,_=>.nil
 | _,_,_,_,.cons _ _,.nil=>.nil
 | _,_,_,_,.cons a b,.cons c d=>.cons ⟨a,c⟩ (wI b d)
theorem zJ {a b:Expr}{ta:TA}{p1 p2 pos1 pos2:Pos} (hc:X.calm=true) (hgl:Gl X "list") (hml:X.mg "list"=none) (hgz:Gl X "zip") (hmz:X.mg "zip"=none) (ha:PA X [a,b] ta)
  (e1:starEach [.Call (.Name "zip" p2) [a,b] [] pos2] X.env=[(false,eval (.Call (.Name "zip" p2) [a,b] [] pos2) X.env)]:=by rfl) (e2:starEach [a,b] X.env=(false,eval a X.env)::starEach [b] X.env:=by rfl) (e3:(backTo pos2 (starEach [b] X.env)).any (·.1)=false:=by rfl) :
  PE X (.Call (.Name "list" p1) [.Call (.Name "zip" p2) [a,b] [] pos2] [] pos1) (tLZ X.K ta):=by
 intro pins s σ H Q I h
 refine wpAny_Call_Name_kw (jt I hgl hml boot_list ?_)
 refine PyProof.Rows.callWith_type1 ?_ e1 rfl
 rw [e1]
 refine Calls.spliced_cons ?_
 refine wpAny_Call_Name_kw (jt I hgz hmz PyProof.Rows.boot_zip ?_)
 refine PyProof.Rows.callWith_type1 (thn (ha pos2 pins s σ H _ I h) fun us s1 ⟨vs,H1,I1,r1,q1⟩=>?_) e2 e3
 obtain⟨p,q,xs,ys,rfl,hp,hq,hlen,k⟩:=q1
 obtain⟨u,u2,rfl,rx,ry⟩:=vals2 r1
 cases rx
 cases ry
 obtain⟨its,rv,pl,_⟩:=I1.list hp
 obtain⟨its2,rv2,pl2,_⟩:=I1.list hq
 refine call_zip_2 pl.isList pl2.isList fun h' hz hTI hTO hi1 hi2 hsz hk=>?_
 refine Calls.spliced_nil ?_
 have lp:p<s1.heap.objs.size:=by obtain⟨o,e,_⟩:=pl.isList; exact Heap.lt_size e
 have lq:q<s1.heap.objs.size:=by obtain⟨o,e,_⟩:=pl2.isList; exact Heap.lt_size e
 have D:=zipApart_new lp lq
 have Z:ZSt (s1.heap.objs.size+4) (s1.heap.objs.size+2) (s1.heap.objs.size+3) s1.heap.objs.size (s1.heap.objs.size+1) p q its.toArray its2.toArray 0 h' :=
  ⟨.inl ⟨rfl,hz⟩,hTI,⟨_,_,hTO⟩,hi1,hi2,pl.isList.at fun o e=>hk _ o e,pl2.isList.at fun o e=>hk _ o e⟩
 have hl1:=rv.length
 refine Gm (s:={ s1 with heap:=h' }) (I1.ok.hd hc) D (by simp; omega) hz Z fun h2 acc c2 k2 hS hP hT=>?_
 have lt:∀ {b:Addr}{o:Obj},s1.heap.get? b=some o->b<s1.heap.objs.size:=fun e=>Heap.lt_size e
 have kept:∀ b o,s1.heap.get? b=some o->h2.get? b=some o:=fun b o e=>by
  have l0:=lt e
  have l1:∀ j,b≠s1.heap.objs.size+j:=fun j=>Nat.ne_of_lt (Nat.lt_of_lt_of_le l0 (Nat.le_add_right _ _))
  exact k2 b o (l1 4) (l1 3) (l1 0) (l1 1) (hk b o e)
 have I2:Inv X pins σ H1 { s1 with heap:=h2 }:=I1.kept (t':=s1.toks) kept
 have hsz':h'.objs.size=s1.heap.objs.size+5:=hsz
 obtain⟨H3,ws,I3,s3,v3,p3,N3,u3⟩:=Inv.tuples I1 acc.toList _ _ H1 I2 hP (wI rv rv2) (fun v hv=>by
  obtain⟨T,e,hT'⟩:=hT v hv
  have hT'':h'.objs.size<T:=hT'
  exact⟨T,e,by omega⟩) fun T hT=>.inl (I1.hok.fresh hT)
 have hSn:H3 h'.objs.size=none:=by
  rw [u3 _ fun v hv z=>?_]
  ·exact I1.hok.fresh (by omega)
  ·obtain⟨T,e,hT'⟩:=hT v hv
   rw [z] at e
   cases e
   exact absurd hT' (Nat.lt_irrefl _)
 have hwl:ws.length<=sizeLine:=by
  have:=v3.length
  have h24:=sizeLine_eq
  have l3:=p3.length
  rw [l3,List.length_zip]
  omega
 have I4:Inv X pins σ (upd H3 h'.objs.size (.lst ws)) { s1 with heap:=h2 }:=I3.Gv I1 (by omega) hSn ⟨hwl,acc.toList,c2,v3,hS⟩
 refine⟨.ref h'.objs.size,_,I4,rfl,k h'.objs.size ws _ (s3.trans fun b u e=>by rw [au (aD e hSn)]; exact e) (I1.hok.fresh (by omega)) aB (Paired.Fb p3 fun w q ⟨t,e,ht⟩=>⟨t,e,by rw [au (aD ht hSn)]; exact ht⟩)⟩
end
end L2
namespace Dl
open PySem L2 PyProof.Rows
variable [Gr]
section
variable {X:Cx}{pos:Pos}{a b c e:Expr}{es:List Expr}{ta tb tc te:DE}{t:DA}
def newP (k:Kd) (ds:List D) (P:Kd->Prop):Prop:=(eN ds=true/\P .new)\/P (k.join .new)
theorem jJ {p:Pn}{H0 Hb H H2:Hp}{own:Addr->Option Nat} (A:At p H0 own Hb H) {k:Kd}{vs:List V}{ds:List D}{P:Kd->Prop}{l:Addr} (r:Rps (okK p H0 own Hb k) H2 vs ds) (nw:okK p H0 own Hb .new l) (hl:H2 l=some (.lst vs)) (h:newP k ds P):∃ k',P k'/\Rp (okK p H0 own Hb k') H2 (.ref l) (.list ds):=by
 rcases h with ⟨i,h⟩ | h
 ·exact⟨_,h,.lst nw hl ((Rps.imm r i).mono (fun _ o=>o.elim) (fun _ _ _ e=>e) fun _ _ e=>e)⟩
 ·exact⟨_,h,.lst (cJ A (fC k .new).2 nw) hl (r.mono (fun a o=>cJ A (fC k .new).1 o) (fun _ _ _ e=>e) fun _ _ e=>e)⟩
theorem ju:∀ l:List Int,eN (l.map PyData.int)=true
 | []=>rfl
 | x::l=>by
  show (dZ (.int x)&&eN (l.map PyData.int))=true
  rw [ju l]
  rfl
theorem oM:∀ l:List Tie,eN (l.map pD)=true
 | []=>rfl
 | x::l=>by
  show (dZ (pD x)&&eN (l.map pD))=true
  rw [oM l]
  rfl
def prD (p:D×D):D:=.tuple [p.1,p.2]
def Tv:GC:=fun ks P=>match ks with
 | [(k1,.list ds),(k2,.list es)]=>ds.length<=1000/\newP (k1.join k2) ((ds.zip es).map prD) fun k=>P k (.list ((ds.zip es).map prD))
 | _=>False
theorem Rps.zip {ok:Addr->Prop}{H H':Hp} (m:∀ {v:V}{d:D},Rp ok H v d->Rp ok H' v d):∀ {xs ys:List V}{ds es:List D}{ws:List V},Rps ok H xs ds->Rps ok H ys es->Paired (fun w (q:V×V)=>∃ t,w=.ref t/\H' t=some (.tup [q.1,q.2])) ws (xs.zip ys)->Rps ok H' ws ((ds.zip es).map prD)
 | _,_,_,_,_,.nil,_,p=>by cases p; exact .nil
 | _,_,_,_,_,.cons _ _,.nil,p=>by cases p; exact .nil
 | _,_,_,_,_,.cons h t,.cons h2 t2,p=>by
  cases p with
  | cons r q =>
   obtain⟨t',rfl,ht⟩:=r
   exact .cons (.tup ht (.cons (m h) (.cons (m h2) .nil))) (Rps.zip m t t2 q)
theorem zO {p1 p2 pos1 pos2:Pos} (hc:X.calm=true) (hml:X.mg "list"=none) (hmz:X.mg "zip"=none) (ha:PDA X [a,b] t) (hgl:Gl X "list":=by rfl) (hgz:Gl X "zip":=by rfl)
  (e1:starEach [.Call (.Name "zip" p2) [a,b] [] pos2] X.env=[(false,eval (.Call (.Name "zip" p2) [a,b] [] pos2) X.env)]:=by rfl) (e2:starEach [a,b] X.env=(false,eval a X.env)::starEach [b] X.env:=by rfl) (e3:(backTo pos2 (starEach [b] X.env)).any (·.1)=false:=by rfl) :
  PD X (.Call (.Name "list" p1) [.Call (.Name "zip" p2) [a,b] [] pos2] [] pos1) (tCl Tv t):=PE.wk (zJ hc hgl hml hgz hmz ha e1 e2 e3) (by
 rintro σ H Q ⟨p,H0,own,ρ,P,E,t,q⟩
 refine⟨p,H0,own,ρ,_,E,t,fun ks vs H1 h A r=>?_⟩
 unfold Tv at h
 split at h
 ·rename_i k1 ds k2 es'
  obtain⟨v,w,rfl,r1,r2⟩:=KY r
  obtain⟨x,xs,e1,o1,h1,rs1⟩:=Rp.cM r1
  obtain⟨y,ys,e2,o2,h2,rs2⟩:=Rp.cM r2
  subst e1 e2
  refine⟨x,y,xs,ys,rfl,SqL.of h1,SqL.of h2,by rw [rs1.length]; exact h.1,fun l ws H' sm hl hl' hp=>?_⟩
  have K:Kp p H1 H':=Kp.of sm
  have i2:p.PI H':=p.mono H1 H' A.pen fun b o _ e=>sm b o e
  have j2:=fC k1 k2
  have m1:∀ {k:Kd},k.le (k1.join k2)=true->∀ {vs ds},Rps (okK p H0 own H k) H1 vs ds->Rps (okK p H0 own H (k1.join k2)) H1 vs ds:=fun hk _ _ z=>z.mono (fun a o=>cJ A hk o) (fun _ _ _ e=>e) fun _ _ e=>e
  obtain⟨k',hk',rk'⟩:=jJ A (Rps.zip (fun z=>jX A K z) (m1 j2.1 rs1) (m1 j2.2 rs2) hp) (A.free hl) hl' h.2
  exact q _ _ _ _ hk' (A.go K i2) rk'
 ·exact h.elim)
def tCh (f g:Int->Int->Bool) (ta tb tc:DE):DE:=fun ρ P=>ta ρ fun _ d1=>tb ρ fun _ d2=>match d1,d2 with
 | .int i,.int j=>if f i j=true then tc ρ fun _ d3=>(match d3 with
   | .int l=>P .imm (.bool (g j l))
   | _=>False) else P .imm (.bool false)
 | _,_=>False
theorem CW {f g:Int->Int->Bool}:∀ σ H Q,bL (tCh f g ta tb tc) σ H Q->qu (rI0 fun i j=>.bl (f i j)) (rI0 fun i j=>.bl (g i j)) (bL ta) (bL tb) (bL tc) σ H Q:=by
 rintro σ H Q ⟨p,H0,own,ρ,P,E,t,q⟩
 refine⟨p,H0,own,ρ,_,E,t,fun k1 d1 v1 H1 t1 A1 r1=>?_⟩
 refine⟨p,H0,own,ρ,_,E.go A1.kp A1.pen,t1,fun k2 d2 v2 H2 t2 A2 r2=>?_⟩
 have A:=A1.base A2
 split at t2
 ·rename_i i j
  refine⟨i,j,r1.int',r2.int',_,rfl,?_⟩
  cases hf:f i j with
  | true =>
   rw [hf,if_pos rfl] at t2
   refine bQ ⟨p,H0,own,ρ,_,(E.go A1.kp A1.pen).go A2.kp A2.pen,t2,fun k3 d3 v3 H3 t3 A3 r3=>?_⟩
   cases d3 with
   | int l=>exact⟨j,l,r2.int',r3.int',q _ _ _ _ t3 (A.base A3) (.bl _)⟩
   | _=>exact t3.elim
  | false =>
   rw [hf,if_neg Bool.false_ne_true] at t2
   exact bR (q _ _ _ _ t2 A (.bl _))
 ·exact t2.elim
theorem CG (ha:PD X a ta) (hb:PD X b tb) (hc:PD X c tc) (hm:lastMarks [.LtE,.Lt] [b,c]=false:=by with_unfolding_all rfl):PD X (.Compare a [.LtE,.Lt] [b,c] pos) (tCh (fun i j=>decide (i<=j)) (fun i j=>decide (i<j)) ta tb tc):=PE.wk (Hv NQ xg ha hb hc hm) CW
theorem ou {op op':CmpOp}{r r':R2}{g:DE} (h:PT X (.Compare a [op,op'] [b,c] pos) (Gx (qu r r' (bL ta) (bL tb) (bL tc)))) (w:∀ σ H Q,bL g σ H Q->qu r r' (bL ta) (bL tb) (bL tc) σ H Q):PDT X (.Compare a [op,op'] [b,c] pos) (dW g) :=
 PT.wk h fun σ H Q q=>w σ H _ (jm σ H Q q)
def Nt (ta:DE):DE:=fun ρ P=>ta ρ fun _ d=>match d with
 | .bool b=>P .imm (.bool (!b))
 | _=>False
theorem u5 (ha:PD X a ta):PD X (.UnaryOp .Not a pos) (Nt ta):=PE.wk (Qm ha) (by
 rintro σ H Q ⟨p,H0,own,ρ,P,E,t,q⟩
 refine⟨p,H0,own,ρ,_,E,t,fun k d v H' h A r=>?_⟩
 cases d with
 | bool b=>exact⟨b,r.bl',q _ _ _ _ h A (.bl _)⟩
 | _=>exact h.elim)
def BJ (ta tb:DE):DE:=fun ρ P=>ta ρ fun _ d=>match d with
 | .bool b=>if b=true then tb ρ P else P .imm (.bool false)
 | _=>False
theorem iu {op} (h:PD X a ta):PD X (.BoolOp op [a] pos) ta:=Ql h
theorem gw {rest:List Expr} (ha:PD X a ta) (hb:PD X (.BoolOp .And (b::rest) pos) tb):PD X (.BoolOp .And (a::b::rest) pos) (BJ ta tb):=PE.wk (Qo ha hb) (by
 rintro σ H Q ⟨p,H0,own,ρ,P,E,t,q⟩
 refine⟨p,H0,own,ρ,_,E,t,fun k d v H' h A r=>?_⟩
 cases d with
 | bool b =>
  refine⟨b,r.bl',?_⟩
  cases b with
  | true=>exact bQ ⟨p,H0,own,ρ,P,E.go A.kp A.pen,by simpa using h,fun k d v H2 h2 A2 r2=>q k d v H2 h2 (A.base A2) (jD A r2)⟩
  | false=>exact bR (q _ _ _ _ (by simpa using h) A (.bl _))
 | _=>exact h.elim)
def tyD:D->String
 | .none=>"NoneType"
 | .bool _=>"bool"
 | .int _=>"int"
 | .str _=>"str"
 | .list _=>"list"
 | .tuple _=>"tuple"
 | .dict _=>"dict"
def isT (c:String) (d:D):Bool:=tyD d == c || (c == "int"&&tyD d == "bool")
def tIs (c:String) (te:DE):DE:=fun ρ P=>te ρ fun _ d=>P .imm (.bool (isT c d))
theorem cO {T:String}{x:Str}{ps pt:Pos} (hk:∀ t:Value,(t=.type "NoneType"\/t=.type "bool"\/t=.type "int"\/t=.type "str"\/t=.type "list"\/t=.type "tuple"\/t=.type "dict")->∃ n,t=.type n/\W.kitOne X.K t (.type T)=some (n == T || (T == "int"&&n == "bool")))
  (hm:X.mg "isinstance"=none) (he:PD X e te) (hT:PE X (.Name x pt) (tC (.ty T))) (hg:Gl X "isinstance":=by rfl) (h1:starEach [e,.Name x pt] X.env=(false,eval e X.env)::starEach [.Name x pt] X.env:=by rfl) (h2:starEach [.Name x pt] X.env=(false,eval (.Name x pt) X.env)::starEach [] X.env:=by rfl) (hpl:(backTo pos (starEach [.Name x pt] X.env)).any (·.1)=false:=by rfl) :
  PD X (.Call (.Name "isinstance" ps) [e,.Name x pt] [] pos) (tIs T te):=PE.wk (eG wA hg hm boot_isinstance (aP he (aP hT cC h2) h1) (by decide) (by decide) h1 hpl) (by
 rintro σ H Q ⟨p,H0,own,ρ,P,E,t,q⟩
 refine⟨p,H0,own,ρ,_,E,t,fun k d v H' h A r=>?_⟩
 have fin:∀ n,TyOf X.K H' v (.type n)->n=tyD d->∃ x' c' t' b,[v,V.ty T]=[x',.ty c']/\TyOf X.K H' x' t'/\W.kitOne X.K t' (.type c')=some b/\Q (.bl b) H':=fun n ty en=>by
  obtain⟨n',e,hk'⟩:=hk (.type n) (by rw [en]; cases d <;> simp [tyD])
  cases e
  refine⟨v,T,.type n,_,rfl,ty,hk',?_⟩
  rw [en]
  exact q _ _ _ _ h A (.bl _)
 show ∃ x' c' t' b,_/\_
 cases r with
 | non=>exact fin _ .non rfl
 | bl b=>exact fin _ (.bl b) rfl
 | int i=>exact fin _ (.int i) rfl
 | str x=>exact fin _ (.str x) rfl
 | lst o hh rr=>exact fin _ (.lst hh) rfl
 | tup hh rr=>exact fin _ (.tup hh) rfl
 | dct o hh rr=>exact fin _ (.dK hh) rfl)
theorem Dd {K:W.Frag}:∀ t:Value,(t=.type "NoneType"\/t=.type "bool"\/t=.type "int"\/t=.type "str"\/t=.type "list"\/t=.type "tuple"\/t=.type "dict")->∃ n,t=.type n/\W.kitOne K t (.type "int")=some (n == "int" || ("int" == "int"&&n == "bool")):=by
 rintro t (rfl | rfl | rfl | rfl | rfl | rfl | rfl) <;> exact⟨_,rfl,rfl⟩
theorem yj {K:W.Frag}:∀ t:Value,(t=.type "NoneType"\/t=.type "bool"\/t=.type "int"\/t=.type "str"\/t=.type "list"\/t=.type "tuple"\/t=.type "dict")->∃ n,t=.type n/\W.kitOne K t (.type "bool")=some (n == "bool" || ("bool" == "int"&&n == "bool")):=by
 rintro t (rfl | rfl | rfl | rfl | rfl | rfl | rfl) <;> exact⟨_,rfl,rfl⟩
theorem yh {K:W.Frag}:∀ t:Value,(t=.type "NoneType"\/t=.type "bool"\/t=.type "int"\/t=.type "str"\/t=.type "list"\/t=.type "tuple"\/t=.type "dict")->∃ n,t=.type n/\W.kitOne K t (.type "list")=some (n == "list" || ("list" == "int"&&n == "bool")):=by
 rintro t (rfl | rfl | rfl | rfl | rfl | rfl | rfl) <;> exact⟨_,rfl,rfl⟩
theorem kit_tuple {K:W.Frag}:∀ t:Value,(t=.type "NoneType"\/t=.type "bool"\/t=.type "int"\/t=.type "str"\/t=.type "list"\/t=.type "tuple"\/t=.type "dict")->∃ n,t=.type n/\W.kitOne K t (.type "tuple")=some (n == "tuple" || ("tuple" == "int"&&n == "bool")):=by
 rintro t (rfl | rfl | rfl | rfl | rfl | rfl | rfl) <;> exact⟨_,rfl,rfl⟩
theorem Mp {K:W.Frag}:∀ t:Value,(t=.type "NoneType"\/t=.type "bool"\/t=.type "int"\/t=.type "str"\/t=.type "list"\/t=.type "tuple"\/t=.type "dict")->∃ n,t=.type n/\W.kitOne K t (.type "str")=some (n == "str" || ("str" == "int"&&n == "bool")):=by
 rintro t (rfl | rfl | rfl | rfl | rfl | rfl | rfl) <;> exact⟨_,rfl,rfl⟩
def TJ:GC:=fun ks P=>match ks with
 | [(_,.list ds)]=>∃ bs:List Bool,ds=bs.map PyData.bool/\P .imm (.bool (bs.all id))
 | _=>False
theorem Rps.bools {ok:Addr->Prop}{H:Hp}:∀ {vs:List V}{bs:List Bool},Rps ok H vs (bs.map PyData.bool)->vs=bs.map V.bl
 | [],[],_=>rfl
 | _,b::bs,.cons h t=>by
  have e:=h.bl'
  subst e
  rw [Rps.bools t]
  rfl
theorem zT {ps:Pos} (hc:X.calm=true) (hm:X.mg "all"=none) (hv:bootBuiltins "all"=some (.builtin "all")) (ha:PDA X [a] t) (hg:Gl X "all":=by rfl) (he:zS X a []:=by rfl) (hpl:zP X pos []:=by rfl):PD X (.Call (.Name "all" ps) [a] [] pos) (tCl TJ t) :=
 cZ (Gh hc) (by
  intro p H0 own Hb H vs ks P Q A r t q
  unfold TJ at t
  split at t
  ·obtain⟨bs,rfl,t⟩:=t
   obtain⟨v,rfl,r'⟩:=dG r
   obtain⟨x,xs,e1,o1,h1,rs1⟩:=Rp.cM r'
   subst e1
   have e2:=Rps.bools rs1
   subst e2
   exact⟨x,bs,rfl,SqL.of h1,q _ _ _ _ t Kp.refl A.pen (.bl _)⟩
  ·exact t.elim) hg hm hv ha (by decide) (by decide) he hpl
def gMM (f:Int->Int->Int):GC:=fun ks P=>match ks with
 | [(_,.int i),(_,.int j)]=>P .imm (.int (f i j))
 | _=>False
theorem lO {ps:Pos} (hc:X.calm=true) (hm:X.mg "max"=none) (ha:PDA X [a,b] t) (hg:Gl X "max":=by rfl) (he:starEach [a,b] X.env=(false,eval a X.env)::starEach [b] X.env:=by rfl) (hpl:(backTo pos (starEach [b] X.env)).any (·.1)=false:=by rfl):PD X (.Call (.Name "max" ps) [a,b] [] pos) (tCl (gMM fun i j=>if j > i then j else i) t) :=
 cZ (Gf hc) (by
  intro p H0 own Hb H vs ks P Q A r t q
  unfold gMM at t
  split at t
  ·rename_i k i k' j
   obtain⟨v,w,rfl,r1,r2⟩:=KY r
   rw [Rp.int' r1,Rp.int' r2]
   exact⟨i,j,rfl,q _ _ _ _ t Kp.refl A.pen (.int _)⟩
  ·exact t.elim) hg hm boot_max ha (by decide) (by decide) he hpl
theorem pY {ps:Pos} (hc:X.calm=true) (hm:X.mg "min"=none) (ha:PDA X [a,b] t) (hg:Gl X "min":=by rfl) (he:starEach [a,b] X.env=(false,eval a X.env)::starEach [b] X.env:=by rfl) (hpl:(backTo pos (starEach [b] X.env)).any (·.1)=false:=by rfl):PD X (.Call (.Name "min" ps) [a,b] [] pos) (tCl (gMM fun i j=>if j<i then j else i) t) :=
 cZ (Gb hc) (by
  intro p H0 own Hb H vs ks P Q A r t q
  unfold gMM at t
  split at t
  ·rename_i k i k' j
   obtain⟨v,w,rfl,r1,r2⟩:=KY r
   rw [Rp.int' r1,Rp.int' r2]
   exact⟨i,j,rfl,q _ _ _ _ t Kp.refl A.pen (.int _)⟩
  ·exact t.elim) hg hm boot_min ha (by decide) (by decide) he hpl
def MF:GC:=fun ks P=>match ks with
 | [(k,.list ds)]=>newP k ds fun k'=>P k' (.list ds)
 | [(k,.tuple ds)]=>newP k ds fun k'=>P k' (.list ds)
 | _=>False
theorem vf {ps:Pos} (hm:X.mg "list"=none) (ha:PDA X [a] t) (hg:Gl X "list":=by rfl) (he:zS X a []:=by rfl) (hpl:zP X pos []:=by rfl):PD X (.Call (.Name "list" ps) [a] [] pos) (tCl MF t) :=
 w6 wz (by
  intro p H0 own Hb H vs ks P Q A r t q
  have fin:∀ {k ds xs},Rps (okK p H0 own Hb k) H xs ds->newP k ds (fun k'=>P k' (.list ds))->∀ l,H l=none->Q (.ref l) (upd H l (.lst xs)):=fun {k ds xs} rs t l hl=>by
   obtain⟨k2,i2,nw⟩:=A.new hl (.lst xs)
   obtain⟨k',hk',rk'⟩:=jJ A (cB A k2 rs) nw aB t
   exact q _ _ _ _ hk' k2 i2 rk'
  unfold MF at t
  split at t
  ·obtain⟨v,rfl,r'⟩:=dG r
   obtain⟨x,xs,e1,o1,h1,rs1⟩:=Rp.cM r'
   subst e1
   exact⟨x,xs,rfl,.inl (SqL.of h1),fin rs1 t⟩
  ·obtain⟨v,rfl,r'⟩:=dG r
   obtain⟨x,xs,e1,h1,rs1⟩:=Rp.dU r'
   subst e1
   exact⟨x,xs,rfl,.inr (SqT.of h1),fin rs1 t⟩
  ·exact t.elim) hg hm boot_list ha (by decide) (by decide) he hpl
def Jm:GC:=fun ks P=>match ks with
 | [(k,.list ds)]=>P (norm k (.tuple ds)) (.tuple ds)
 | [(k,.tuple ds)]=>P (norm k (.tuple ds)) (.tuple ds)
 | _=>False
theorem lN {ps:Pos} (hm:X.mg "tuple"=none) (ha:PDA X [a] t) (hg:Gl X "tuple":=by rfl) (he:zS X a []:=by rfl) (hpl:zP X pos []:=by rfl):PD X (.Call (.Name "tuple" ps) [a] [] pos) (tCl Jm t) :=
 w6 tu (by
  intro p H0 own Hb H vs ks P Q A r t q
  unfold Jm at t
  split at t
  ·rename_i k ds
   obtain⟨v,rfl,r'⟩:=dG r
   obtain⟨x,xs,e1,o1,h1,rs1⟩:=Rp.cM r'
   subst e1
   refine⟨x,xs,rfl,.inl ⟨SqL.of h1,fun l hl=>?_⟩⟩
   obtain⟨k2,i2,nw⟩:=A.new hl (.tup xs)
   exact q _ _ _ _ t k2 i2 (bf (.tup aB (cB A k2 rs1)))
  ·rename_i k ds
   obtain⟨v,rfl,r'⟩:=dG r
   obtain⟨x,xs,e1,h1,rs1⟩:=Rp.dU r'
   subst e1
   exact⟨x,xs,rfl,.inr ⟨SqT.of h1,q _ _ _ _ t Kp.refl A.pen (bf r')⟩⟩
  ·exact t.elim) hg hm boot_tuple ha (by decide) (by decide) he hpl
def Aw:GC:=fun ks P=>match ks with
 | [(_,d)]=>∃ ts:List Tie,(d=.list (ts.map pD)\/d=.tuple (ts.map pD))/\ts.length<64/\(∀ t∈ts,yW t)/\∀ us:List Tie,us.Perm ts->us.Pairwise (fun a b=>bW a<=bW b)->P .new (.list (us.map pD))
 | _=>False
theorem Rps.prs {ok:Addr->Prop}{H:Hp}:∀ {vs:List V}{ts:List Tie},Rps ok H vs (ts.map pD)->Prs H vs ts
 | [],[],_=>.nil
 | _,t::ts,.cons h r=>by
  obtain⟨x,xs,e,hx,rs⟩:=Rp.dU h
  obtain⟨v1,v2,e2,q1,q2⟩:=Rps.two rs
  subst e e2
  rw [q1.int',q2.int'] at hx
  exact .cons ⟨x,rfl,hx⟩ (Rps.prs r)
theorem Prs.rps {ok:Addr->Prop}{H:Hp}:∀ {vs:List V}{ts:List Tie},Prs H vs ts->Rps ok H vs (ts.map pD)
 | _,_,.nil=>.nil
 | _,_,.cons r t=>by
  obtain⟨x,e,hx⟩:=r
  subst e
  exact .cons (.tup hx (.cons (.int _) (.cons (.int _) .nil))) (Prs.rps t)
theorem qQ {ps:Pos} (hm:X.mg "sorted"=none) (ha:PDA X [a] t) (hg:Gl X "sorted":=by rfl) (he:zS X a []:=by rfl) (hpl:zP X pos []:=by rfl):PD X (.Call (.Name "sorted" ps) [a] [] pos) (tCl Aw t) :=
 cZ wj (by
  intro p H0 own Hb H vs ks P Q A r t q
  unfold Aw at t
  split at t
  ·obtain⟨ts,hd,hl,hn,t⟩:=t
   obtain⟨v,rfl,r'⟩:=dG r
   have fin:∀ l ws us,H l=none->Prs H ws us->us.Perm ts->us.Pairwise (fun a b=>bW a<=bW b)->Q (.ref l) (upd H l (.lst ws)):=fun l ws us hl' pr hp hs=>by
    obtain⟨k2,i2,nw⟩:=A.new hl' (.lst ws)
    exact q _ _ _ _ (t us hp hs) k2 i2 (.lst nw aB (cB A k2 (Prs.rps pr)))
   rcases hd with rfl | rfl
   ·obtain⟨x,xs,e1,o1,h1,rs1⟩:=Rp.cM r'
    subst e1
    exact⟨x,xs,ts,rfl,.inl (SqL.of h1),Rps.prs rs1,hn,hl,fin⟩
   ·obtain⟨x,xs,e1,h1,rs1⟩:=Rp.dU r'
    subst e1
    exact⟨x,xs,ts,rfl,.inr (SqT.of h1),Rps.prs rs1,hn,hl,fin⟩
  ·exact t.elim) hg hm boot_sorted ha (by decide) (by decide) he hpl
end
variable [Gr]
section
variable {X:Cx}{pins:List (Addr×Obj)}{σ:L2.St}{H:Hp}{s:Shared}{ok:Addr->Prop}
mutual
theorem Rp.reads (I:Inv X pins σ H s):∀ {v:V}{d:D}{u:Value},Rp ok H v d->RelV v u->d.canLay0=true->∃ as,Reads s.heap u d as
 | _,_,_,.non,r,_=>by cases r; exact⟨_,.none⟩
 | _,_,_,.bl b,r,_=>by cases r; exact⟨_,.bool b⟩
 | _,_,_,.int i,r,_=>by obtain⟨t,rfl⟩:=r; exact⟨_,.int i t⟩
 | _,_,_,.str x,r,_=>by obtain⟨t,rfl⟩:=r; exact⟨_,.str x t⟩
 | _,_,_,.lst o h rs,r,c=>by
  cases r
  obtain⟨its,rv,pl,_⟩:=I.list (SqL.of h)
  obtain⟨as,ra⟩:=Rps.reads I rs rv (by simpa [PyData.canLay0] using c)
  obtain⟨ob,ho,hc,n,hd⟩:=pl.isList
  exact⟨_,.list ho hc hd (by simpa using ra)⟩
 | _,_,_,.tup h rs,r,c=>by
  cases r
  obtain⟨its,rv,pl,_⟩:=I.tuple (SqT.of h)
  obtain⟨as,ra⟩:=Rps.reads I rs rv (by simpa [PyData.canLay0] using c)
  obtain⟨ob,ho,hc,n,hd⟩:=pl
  exact⟨_,.tuple ho hc hd (by simpa using ra)⟩
 | _,_,_,.dct o h rs,r,c=>by simp [PyData.canLay0] at c
theorem Rps.reads (I:Inv X pins σ H s):∀ {v:List V}{d:List D}{u:List Value},Rps ok H v d->Vals v u->PyData.canLayAll0 d=true->∃ as,ReadsAll s.heap u d as
 | _,_,_,.nil,r,_=>by cases r; exact⟨[],.nil⟩
 | _,_,_,.cons h t,r,c=>by
  cases r with
  | cons a b =>
   simp only [PyData.canLayAll0,Bool.and_eq_true] at c
   obtain⟨as,ra⟩:=Rp.reads I h a c.1
   obtain⟨bs,rb⟩:=Rps.reads I t b c.2
   exact⟨_,.cons ra rb⟩
end
end
def okD (d:D):Bool:=d.canLay0&&decide (d.depth<=60)
section
variable {X:Cx}{pos:Pos}{a b e:Expr}{ta tb te:DE}
def GQ (K:W.Frag) (neg:Bool):R2:=fun x y H Q=>∃ ok ok' d e,Rp ok H x d/\Rp ok' H y e/\okD d=true/\okD e=true/\Q (.bl (if neg then !(PyData.eqv d e) else PyData.eqv d e)) H
theorem zU (hu:X.A.units+64<cLine):OpR X (compareOp .Eq) (GQ X.K false):=by
 intro pins s σ H x y v u Q I rx ry h
 obtain⟨ok,ok',d,e,hd,he,cd,ce,q⟩:=h
 simp only [okD,Bool.and_eq_true,decide_eq_true_eq] at cd ce
 obtain⟨as,ra⟩:=hd.reads I rx cd.1
 obtain⟨bs,rb⟩:=he.reads I ry ce.1
 exact SeqAt.compareEq_reads ra rb cd.1 ce.1 (by omega) ⟨.bl _,H,I,rfl,q⟩
theorem HN (hu:X.A.units+64<cLine):OpR X (compareOp .NotEq) (GQ X.K true):=by
 intro pins s σ H x y v u Q I rx ry h
 obtain⟨ok,ok',d,e,hd,he,cd,ce,q⟩:=h
 simp only [okD,Bool.and_eq_true,decide_eq_true_eq] at cd ce
 obtain⟨as,ra⟩:=hd.reads I rx cd.1
 obtain⟨bs,rb⟩:=he.reads I ry ce.1
 exact SeqAt.compareNe_reads ra rb cd.1 ce.1 (by omega) ⟨.bl _,H,I,rfl,q⟩
def Tz (neg:Bool):G2:=fun _ d1 _ d2 P=>okD d1=true/\okD d2=true/\P .imm (.bool (if neg then !(PyData.eqv d1 d2) else PyData.eqv d1 d2))
theorem N5 {K:W.Frag} (neg:Bool):Ok2 (Tz neg) (GQ K neg):=by
 intro p H0 own Hb H x y k1 d1 k2 d2 P Q A r1 r2 t q
 exact⟨_,_,d1,d2,r1,r2,t.1,t.2.1,q _ _ _ _ t.2.2 Kp.refl A.pen (.bl _)⟩
def eqP (x:D) (h:Heap) (u:Value):Bool:=by
 classical
 exact decide (∃ d as,Reads h u d as/\PyData.eqv d x=true)
def Qa (neg:Bool):R2:=fun x y H Q=>∃ ok ok' d es,Rp ok H x d/\(Rp ok' H y (.list es)\/Rp ok' H y (.tuple es))/\okD d=true/\(es.all okD)=true/\Q (.bl (if neg then !(es.any fun e=>PyData.eqv e d) else es.any fun e=>PyData.eqv e d)) H
theorem JC {x:D}{h:Heap}{u:Value}{d:D}{as:List Addr} (r:Reads h u d as):eqP x h u=PyData.eqv d x:=by
 classical
 unfold eqP
 rw [Bool.eq_iff_iff,decide_eq_true_eq]
 constructor
 ·rintro ⟨d',as',r',e⟩
  rw [(r.unique d' as' r').1]
  exact e
 ·exact fun e=>⟨d,as,r,e⟩
theorem nD {x:D}{h:Heap}:∀ {us:List Value}{ds:List D}{as:List Addr},ReadsAll h us ds as->us.any (eqP x h)=ds.any fun e=>PyData.eqv e x
 | _,_,_,.nil=>rfl
 | _,_,_,.cons a b=>by
  rw [List.any_cons,List.any_cons,JC a,nD b]
theorem lY {A:Around}{s:Shared}{x:D}{v:Value}{bs:List Addr} (rx:Reads s.heap v x bs) (cx:okD x=true) (hu:A.units+60<cLine):∀ {us:List Value}{ds:List D}{as:List Addr},ReadsAll s.heap us ds as->ds.all okD=true->∀ u∈us,SeqAt.EqAt A s u v (eqP x s.heap u)
 | _,_,_,.nil,_,u,hu'=>nomatch hu'
 | _,d::ds,_,.cons a b,c,u,hu'=>by
  simp only [List.all_cons,Bool.and_eq_true] at c
  rcases List.mem_cons.mp hu' with rfl | hu'
  ·rw [JC a]
   have c1:=c.1
   simp only [okD,Bool.and_eq_true,decide_eq_true_eq] at c1 cx
   exact SeqAt.eqAt_reads _ _ A s _ _ _ _ a rx c1.1 cx.1 (by omega)
  ·exact lY rx cx hu b c.2 u hu'
theorem mK {A:Around} (hu:A.units+64<cLine):A.in1.units+60<cLine:=by
 have:A.in1.units<=A.units+1:=by first | exact Nat.le_refl _ | exact Nat.le_succ _ | (unfold Around.in1; simp)
 omega
theorem mJ:∀ {es:List D},es.all okD=true->PyData.canLayAll0 es=true
 | [],_=>rfl
 | e::es,h=>by
  simp only [List.all_cons,Bool.and_eq_true,okD] at h
  simp only [PyData.canLayAll0,Bool.and_eq_true]
  exact⟨h.1.1,mJ h.2⟩
theorem HW (hu:X.A.units+64<cLine):OpR X (compareOp .In) (Qa false):=by
 intro pins s σ H x y v u Q I rx ry h
 obtain⟨ok,ok',d,es,hd,hs,cd,ce,q⟩:=h
 have cd':=cd
 simp only [okD,Bool.and_eq_true,decide_eq_true_eq] at cd'
 obtain⟨bs,rb⟩:=hd.reads I rx cd'.1
 rcases hs with hs | hs
 ·obtain⟨c,vs,rfl,o,hc,rs⟩:=hs.cM
  cases ry
  obtain⟨its,r,pl,hz⟩:=I.list (SqL.of hc)
  obtain⟨as,ra⟩:=rs.reads I r (mJ ce)
  refine SeqAt.in_listAt (eqP d s.heap) pl.isList (fun w hw=>lY rb cd (mK hu) ra ce w (by simpa using hw)) ⟨.bl _,H,I,rfl,?_⟩
  rw [show its.toArray.any (eqP d s.heap)=its.any (eqP d s.heap) by simp,nD ra]
  exact q
 ·obtain⟨c,vs,rfl,hc,rs⟩:=hs.dU
  cases ry
  obtain⟨its,r,pl,hz⟩:=I.tuple (SqT.of hc)
  obtain⟨as,ra⟩:=rs.reads I r (mJ ce)
  refine SeqAt.in_tupleAt (eqP d s.heap) pl (fun w hw=>lY rb cd (mK hu) ra ce w (by simpa using hw)) ⟨.bl _,H,I,rfl,?_⟩
  rw [show its.toArray.any (eqP d s.heap)=its.any (eqP d s.heap) by simp,nD ra]
  exact q
theorem Eo (hu:X.A.units+64<cLine):OpR X (compareOp .NotIn) (Qa true):=by
 intro pins s σ H x y v u Q I rx ry h
 obtain⟨ok,ok',d,es,hd,hs,cd,ce,q⟩:=h
 have cd':=cd
 simp only [okD,Bool.and_eq_true,decide_eq_true_eq] at cd'
 obtain⟨bs,rb⟩:=hd.reads I rx cd'.1
 rcases hs with hs | hs
 ·obtain⟨c,vs,rfl,o,hc,rs⟩:=hs.cM
  cases ry
  obtain⟨its,r,pl,hz⟩:=I.list (SqL.of hc)
  obtain⟨as,ra⟩:=rs.reads I r (mJ ce)
  refine SeqAt.notIn_listAt (eqP d s.heap) pl.isList (fun w hw=>lY rb cd (mK hu) ra ce w (by simpa using hw)) ⟨.bl _,H,I,rfl,?_⟩
  rw [show its.toArray.any (eqP d s.heap)=its.any (eqP d s.heap) by simp,nD ra]
  exact q
 ·obtain⟨c,vs,rfl,hc,rs⟩:=hs.dU
  cases ry
  obtain⟨its,r,pl,hz⟩:=I.tuple (SqT.of hc)
  obtain⟨as,ra⟩:=rs.reads I r (mJ ce)
  refine SeqAt.notIn_tupleAt (eqP d s.heap) pl (fun w hw=>lY rb cd (mK hu) ra ce w (by simpa using hw)) ⟨.bl _,H,I,rfl,?_⟩
  rw [show its.toArray.any (eqP d s.heap)=its.any (eqP d s.heap) by simp,nD ra]
  exact q
def gIn (neg:Bool):G2:=fun _ d1 _ d2 P=>match d2 with
 | .list es=>okD d1=true/\es.all okD=true/\P .imm (.bool (if neg then !(es.any fun e=>PyData.eqv e d1) else es.any fun e=>PyData.eqv e d1))
 | .tuple es=>okD d1=true/\es.all okD=true/\P .imm (.bool (if neg then !(es.any fun e=>PyData.eqv e d1) else es.any fun e=>PyData.eqv e d1))
 | _=>False
theorem okIn (neg:Bool):Ok2 (gIn neg) (Qa neg):=by
 intro p H0 own Hb H x y k1 d1 k2 d2 P Q A r1 r2 t q
 cases d2 with
 | list es=>exact⟨_,_,d1,es,r1,.inl r2,t.1,t.2.1,q _ _ _ _ t.2.2 Kp.refl A.pen (.bl _)⟩
 | tuple es=>exact⟨_,_,d1,es,r1,.inr r2,t.1,t.2.1,q _ _ _ _ t.2.2 Kp.refl A.pen (.bl _)⟩
 | _=>exact t.elim
theorem w5 (hu:X.A.units+64<cLine) (ha:PD X a ta) (hb:PD X b tb) (hm:behindInMarks .In b=false:=by rfl):PD X (.Compare a [.In] [b] pos) (t2 (gIn false) ta tb):=qX (HW hu) (okIn false) ha hb hm
theorem g8 (hu:X.A.units+64<cLine) (ha:PD X a ta) (hb:PD X b tb) (hm:behindInMarks .In b=false:=by rfl):PDT X (.Compare a [.In] [b] pos) (dW (t2 (gIn false) ta tb)):=jH (HW hu) (okIn false) ha hb hm
theorem dX (hu:X.A.units+64<cLine) (ha:PD X a ta) (hb:PD X b tb) (hm:behindInMarks .NotIn b=false:=by rfl):PDT X (.Compare a [.NotIn] [b] pos) (dW (t2 (gIn true) ta tb)):=jH (Eo hu) (okIn true) ha hb hm
end
variable [Gr]
section
variable {X:Cx}{pos p2:Pos}{a b c e:Expr}{es:List Expr}{ta tb tc te:DE}{t:DA}{st:Stmt}
abbrev DO:=List Sl->(Option Int->Prop)->Prop
def yc (t:DO):TO:=fun σ H Q=>∃ p H0 own ρ P,EnvD p H0 own σ H ρ/\t ρ P/\∀ o H',P o->At p H0 own H H'->Q o H'
theorem PO.wk {e:Option Expr}{t t':TO} (h:PO X e t) (w:∀ σ H Q,t' σ H Q->t σ H Q):PO X e t':=fun pins s σ H Q I q=>h pins s σ H Q I (w σ H Q q)
def Oa:DO:=fun _ P=>P none
def N8 (te:DE):DO:=fun ρ P=>te ρ fun _ d=>match d with
 | .int i=>P (some i)
 | _=>False
theorem Dr:PO X none (yc Oa):=PO.wk Cw (by
 rintro σ H Q ⟨p,H0,own,ρ,P,E,t,q⟩
 exact q _ _ t E.at)
theorem Dq (h:PD X e te):PO X (some e) (yc (N8 te)):=PO.wk (Cv h) (by
 rintro σ H Q ⟨p,H0,own,ρ,P,E,t,q⟩
 refine⟨p,H0,own,ρ,_,E,t,fun k d v H' h A r=>?_⟩
 cases d with
 | int i=>exact⟨i,r.int',q _ _ h A⟩
 | _=>exact h.elim)
def gb {α:Type} (ds:List α) (lo hi:Option Int):List α:=(ds.drop (HT.sIx ds.length 0 lo)).take (HT.sIx ds.length ds.length hi - HT.sIx ds.length 0 lo)
theorem Rps.cut {ok:Addr->Prop}{H:Hp}{vs:List V}{ds:List D} (r:Rps ok H vs ds) (lo hi:Option Int):Rps ok H (rY vs lo hi) (gb ds lo hi):=by
 unfold rY gb
 rw [r.length]
 exact (r.drop _).take _
def Uo (te:DE) (tl th:DO):DE:=fun ρ P=>te ρ fun k d=>tl ρ fun lo=>th ρ fun hi=>match d with
 | .list ds=>newP k (gb ds lo hi) fun k'=>P k' (.list (gb ds lo hi))
 | _=>False
theorem Hy {lo hi:Option Expr}{tl th:DO} (he:PD X e te) (hl:PO X lo (yc tl)) (hh:PO X hi (yc th)):PD X (.Subscript e (.Slice lo hi none p2) pos) (Uo te tl th):=PE.wk (wZ BX he hl hh) (by
 rintro σ H Q ⟨p,H0,own,ρ,P,E,t,q⟩
 refine⟨p,H0,own,ρ,_,E,t,fun k d v H1 h A r=>?_⟩
 refine⟨p,H0,own,ρ,_,E.go A.kp A.pen,h,fun o1 H2 h2 A2=>?_⟩
 refine⟨p,H0,own,ρ,_,(E.go A.kp A.pen).go A2.kp A2.pen,h2,fun o2 H3 h3 A3=>?_⟩
 have A4:=(A.base A2).base A3
 have r3:=jX (A.base A2) A3.kp (jX A A2.kp r)
 cases d with
 | list ds =>
  obtain⟨x,xs,e1,o,h1,rs⟩:=Rp.cM r3
  subst e1
  refine⟨x,xs,rfl,SqL.of h1,fun l hl=>?_⟩
  obtain⟨k2,i2,nw⟩:=A4.new hl (.lst (rY xs o1 o2))
  obtain⟨k',hk',rk'⟩:=jJ A4 (cB A4 k2 (rs.cut o1 o2)) nw aB h3
  exact q _ _ _ _ hk' (A4.go k2 i2) rk'
 | _=>exact h3.elim)
def Q5:G2:=fun k1 d1 k2 d2 P=>match d1,d2 with
 | .list ds,.list es=>ds.length+es.length<=1000/\newP (k1.join k2) (ds++es) fun k=>P k (.list (ds++es))
 | _,_=>False
theorem N6:Ok2 Q5 Qc:=by
 intro p H0 own Hb H x y k1 d1 k2 d2 P Q A r1 r2 t q
 unfold Q5 at t
 split at t
 ·obtain⟨c1,xs,e1,o1,h1,rs1⟩:=r1.cM
  obtain⟨c2,ys,e2,o2,h2,rs2⟩:=r2.cM
  subst e1 e2
  have h24:=sizeLine_eq
  refine⟨c1,c2,xs,ys,rfl,rfl,h1,h2,by rw [rs1.length,rs2.length]; omega,fun l hl=>?_⟩
  obtain⟨k3,i3,nw⟩:=A.new hl (.lst (xs++ys))
  have j:=fC k1 k2
  have m:∀ {k vs ds},k.le (k1.join k2)=true->Rps (okK p H0 own Hb k) H vs ds->Rps (okK p H0 own Hb (k1.join k2)) H vs ds:=fun hk z=>z.mono (fun a o=>cJ A hk o) (fun _ _ _ e=>e) fun _ _ e=>e
  obtain⟨k',hk',rk'⟩:=jJ A (cB A k3 ((m j.1 rs1).app (m j.2 rs2))) nw aB t.2
  exact q _ _ _ _ hk' k3 i3 rk'
 ·exact t.elim
def Jq:G2:=fun k1 d1 k2 d2 P=>match d1,d2 with
 | .tuple ds,.tuple es=>ds.length+es.length<=1000/\P (norm (k1.join k2) (.tuple (ds++es))) (.tuple (ds++es))
 | _,_=>False
theorem Ig:Ok2 Jq NK:=by
 intro p H0 own Hb H x y k1 d1 k2 d2 P Q A r1 r2 t q
 unfold Jq at t
 split at t
 ·obtain⟨c1,xs,e1,h1,rs1⟩:=r1.dU
  obtain⟨c2,ys,e2,h2,rs2⟩:=r2.dU
  subst e1 e2
  have h24:=sizeLine_eq
  refine⟨c1,c2,xs,ys,rfl,rfl,h1,h2,by rw [rs1.length,rs2.length]; omega,fun l H' sm hl=>?_⟩
  have K:Kp p H H':=Kp.of sm
  have j:=fC k1 k2
  have m:∀ {k vs ds},k.le (k1.join k2)=true->Rps (okK p H0 own Hb k) H vs ds->Rps (okK p H0 own Hb (k1.join k2)) H vs ds:=fun hk z=>z.mono (fun a o=>cJ A hk o) (fun _ _ _ e=>e) fun _ _ e=>e
  exact q _ _ _ _ t.2 K (p.mono H H' A.pen fun b o _ e=>sm b o e) (bf (.tup hl (cB A K ((m j.1 rs1).app (m j.2 rs2)))))
 ·exact t.elim
def Uu (ta:DE):DE:=fun ρ P=>ta ρ fun _ d=>match d with
 | .int i=>P .imm (.int (-i))
 | _=>False
theorem Hz (ha:PD X a ta):PD X (.UnaryOp .USub a pos) (Uu ta):=PE.wk (SN O5 ha) (by
 rintro σ H Q ⟨p,H0,own,ρ,P,E,t,q⟩
 refine⟨p,H0,own,ρ,_,E,t,fun k d v H' h A r=>?_⟩
 cases d with
 | int i=>exact⟨i,r.int',q _ _ _ _ h A (.int _)⟩
 | _=>exact h.elim)
def JZ (i:Nat) (te:DE):DS:=fun P ρ=>match ρ[i]? with
 | some (.dw r (.list ds))=>te ρ fun k d=>match d with
  | .list es=>(k.le .new || eN es)=true/\ds.length+es.length<=1000/\P.nx ((forget r ρ).set i (.dw r (.list (ds++es))))
  | _=>False
 | _=>False
theorem iw {te:DE}{ρ:List Sl}{R:Kd->D->Prop} (t:te ρ R):cu te eX ρ (fun ks=>∃ k d,ks=[(k,d)]/\R k d):=by
 show te ρ fun k d=>∃ k' d',[((k,d):Kd×D)]=[(k',d')]/\R k' d'
 have e:(fun k d=>∃ k' d',[((k,d):Kd×D)]=[(k',d')]/\R k' d')=R:=by
  funext k d
  apply propext
  constructor
  ·rintro ⟨k',d',e,h⟩
   cases e
   exact h
  ·exact fun h=>⟨k,d,rfl,h⟩
 rw [e]
 exact t
theorem qJ {ok ok':Addr->Prop}{H H2:Hp} (f:∀ {w:V}{d:D},Rp ok H w d->Rp ok' H2 w d):∀ {vs:List V}{ds:List D},Rps ok H vs ds->Rps ok' H2 vs ds
 | _,_,.nil=>.nil
 | _,_,.cons h t=>.cons (f h) (qJ f t)
theorem FJ {i:Nat} (h:PS X st (oW (tBM X.K "list" uW (j7 i) (jo (cu te eX))))):PDS X st (JZ i te):=PS.wk' h (by
 rintro Q σ H ⟨p,H0,own,ρ,P,E,t,w⟩
 unfold JZ at t
 split at t
 ·rename_i r ds hr
  obtain⟨v,hv,x⟩:=E.slot i _ hr
  obtain⟨l,vs,rfl,hl,ho,rs⟩:=x.cM
  refine⟨.ref l,hv,.inl ⟨rfl,vs,SqL.of ho⟩,p,H0,own,ρ,_,E,iw t,?_⟩
  rintro ks ws H1 ⟨k,d,rfl,hh⟩ A rk
  cases d with
  | list es =>
   obtain⟨hk,hlen,hn⟩:=hh
   obtain⟨y,rfl,ry⟩:=dG rk
   obtain⟨b,zs,e1,o1,hb,rz⟩:=Rp.cM ry
   subst e1
   have rz2:Rps (okK p H0 own H .new) H1 zs es:=by
    rcases Bool.or_eq_true_iff.mp hk with q | q
    ·exact rz.mono (fun a o=>cJ A q o) (fun _ _ _ e=>e) fun _ _ e=>e
    ·exact (Rps.imm rz q).mono (fun a o=>o.elim) (fun _ _ _ e=>e) fun _ _ e=>e
   have h1:H1 l=some (.lst vs):=A.kp l _ ho (E.ow l r hl).2.1
   have h24:=sizeLine_eq
   have l1:=rs.length
   have l2:=rz.length
   refine⟨l,b,vs,zs,rfl,rfl,h1,hb,by omega,?_⟩
   obtain⟨E2,F2⟩:=E.j8 (vs':=vs++zs) (ds':=ds++es) A hv hl ho rs fun H2 f g=>(gU f rs fun d hd=>fH hd).app (qJ g rz2)
   exact w.nx _ σ _ _ E2 F2 hn
  | _=>exact hh.elim
 ·exact t.elim)
end
variable [Gr]
structure Cal (P:Program) (w:World) (K:W.Frag) (mg:Str->Option Value) (base:Heap) (k:Nat) (x:Str) (ps:List Str) (sp:Sp):Prop where
 ex:∃ f fd,FnOk P w K mg base CX0 k f fd ps sp/\Binds K fd ps []/\W.keepIn K (.ref f)=true/\mg x=some (.ref f)
section
variable {X:Cx}{k j:Nat}{x:Str}{ps:List Str}{e:Expr}{es:List Expr}{t:DA}{p pos pq:Pos}
theorem pcS {sp:Sp}{ta:TA} (C:Cal X.prog X.w X.K X.mg X.base k x ps sp) (hr:Room j X.A) (ha:PA X (e::es) ta) (hk:k<=j) (hg:Gl X x)
  (hdb:zB x) (he:zS X e es) (hpl:zP X pos es) :
  PE X (.Call (.Name x p) (e::es) [] pos) (qw sp [] E0 ta):=by
 obtain⟨f,fd,F,b,kp,m⟩:=C.ex
 exact Cy F (hr.mono hk) hg m kp b .nil S8 ha hdb he hpl
theorem dc {f:List D->(D->Prop)->Prop} (C:Cal X.prog X.w X.K X.mg X.base k x ps (spD f)) (hr:Room j X.A) (ha:PDA X (e::es) t) (hk:k<=j:=by decide) (hg:Gl X x:=by rfl)
  (hdb:zB x:=by decide) (he:zS X e es:=by rfl) (hpl:zP X pos es:=by rfl) :
  PD X (.Call (.Name x p) (e::es) [] pos) (tFn f t):=PE.wk (pcS C hr ha hk hg hdb he hpl) vI
theorem dv (i:Nat) {x:Str}{pos:Pos} (hN:X.N[i]?=some x:=by rfl) (hv:Vis X.env.scope x:=by first | exact Or.inl rfl | exact Or.inr (Or.inl rfl) | exact Or.inr (Or.inr rfl)) (hd:zB x:=by decide)
  (hcd:(x == ("__classdict__":Str))=false:=by decide):PD X (.Name x pos) (tV i):=Qp (pv i hN hv hd hcd)
end
structure Bn (mg:Str->Option Value):Prop where
 isinstance:mg "isinstance"=none
 int:mg "int"=none
 bool:mg "bool"=none
 tuple:mg "tuple"=none
 list:mg "list"=none
 len:mg "len"=none
 all:mg "all"=none
 min:mg "min"=none
 max:mg "max"=none
 sorted:mg "sorted"=none
 range:mg "range"=none
 abs:mg "abs"=none
theorem boot_all:bootBuiltins "all"=some (.builtin "all"):=by decide +kernel
theorem uP {i:Nat}{ρ:List Sl}{d:D}{P:DK} (h:ρ[i]?=some (aZ d)) (q:∀ k,P k d):tV i ρ P:=by
 unfold tV
 rw [h]
 unfold aZ
 by_cases hi:dZ d=true
 ·rw [if_pos hi]; exact q _
 ·rw [if_neg hi]; exact q _
theorem bA {f:List D->(D->Prop)->Prop}{n:Nat} (hn:∀ ds P,f ds P->ds.length=n:=by intro _ _ h; repeat (first | (obtain⟨rfl,_⟩:=h; rfl) | obtain⟨_,h⟩:=h)):∀ vs H Q E,spD f vs H Q E->vs.length=n:=fun vs H Q E h=>by
 obtain⟨ds,P,r,t,_⟩:=h
 rw [r.length]
 exact hn ds P t
theorem cj {f:List D->(D->Prop)->Prop}{T:DS}{N:List Str}{vs:List V}{H:Hp}{Q:VK}{E:XK} (h:spD f vs H Q E)
  (body:∀ ds P,f ds P->∃ ρ,ds.map aZ++List.replicate (N.length - ds.length) .any=ρ/\T { nx:=fun _=>P .none,rt:=P } ρ) (g:Gr.G fj H:=by trivial):rK T { nx:=fun _ H'=>Q .non H',rt:=Q } (L2.start N vs) H :=
 vU h (fun ds P t=>by
  obtain⟨ρ,e,q⟩:=body ds P t
  rw [e]
  exact q) g
def aR (n:Int) (us:List Tie):D:=.tuple [.int n,.tuple (us.map pD)]
theorem p8 (n:Int) (us:List Tie):dZ (aR n us)=true:=by
 show (dZ (.int n)&&(eN (us.map pD)&&true))=true
 rw [oM]
 rfl
theorem bV (n:Int) (us:List Tie):aZ (aR n us)=.im (aR n us):=if_pos (p8 n us)
def isW:D->Bool
 | .int _=>true
 | _=>false
def Jt (ds:List D) (P:D->Prop):Prop:=∃ d,ds=[d]/\P (.bool (isW d))
def cY (m:Int):D->Bool
 | .int i=>decide (0<=i/\i<m)
 | _=>false
def Ba (ds:List D) (P:D->Prop):Prop:=∃ m d,ds=[.int m,d]/\P (.bool (cY m d))
variable [Gr]
theorem MP {α β:Type}{ds:List α}{i:Nat}{d:α} (p:α->Bool) (f:α->β) (h:ds[i]?=some d):((ds.take (i+1)).filter p).map f=((ds.take i).filter p).map f++(if p d=true then [f d] else []):=by
 rw [List.take_add_one,h,List.filter_append,List.map_append]
 congr 1
 by_cases hp:p d=true
 ·simp [hp]
 ·simp [hp]
theorem rG {α β:Type}{ds:List α}{i:Nat}{d:α} (f:α->β) (h:ds[i]?=some d):(ds.take (i+1)).map f=(ds.take i).map f++[f d]:=by
 rw [List.take_add_one,h,List.map_append]
 rfl
theorem iB {α β:Type}{l:List α}{g:α->β}{i:Nat}{d:β} (h:(l.map g)[i]?=some d):∃ x,l[i]?=some x/\g x=d:=by
 rw [List.getElem?_map] at h
 cases e:l[i]? with
 | none=>rw [e] at h; cases h
 | some x=>rw [e] at h; exact⟨x,rfl,Option.some.inj h⟩
theorem take_all {α:Type} (l:List α) {n:Nat} (h:l.length<=n):l.take n=l:=List.take_of_length_le h
theorem d9:∀ l:List Int,(l.map PyData.int).all okD=true
 | []=>rfl
 | x::l=>by
  rw [List.map_cons,List.all_cons,d9 l]
  rfl
theorem any_ints (x:Int):∀ l:List Int,((l.map PyData.int).any fun e=>PyData.eqv e (.int x))=decide (x∈l)
 | []=>rfl
 | y::l=>by
  rw [List.map_cons,List.any_cons,any_ints x l]
  have e:PyData.eqv (.int y) (.int x)=(y == x):=rfl
  rw [e,Bool.eq_iff_iff,Bool.or_eq_true,beq_iff_eq,decide_eq_true_eq,decide_eq_true_eq,List.mem_cons]
  constructor
  ·rintro (h | h)
   ·exact .inl h.symm
   ·exact .inr h
  ·rintro (h | h)
   ·exact .inl h.symm
   ·exact .inr h
theorem NT (l:List Int):okD (.list (l.map PyData.int))=true:=by
 unfold okD
 rw [Bool.and_eq_true,decide_eq_true_eq]
 refine⟨Aj l,?_⟩
 show PyData.depthAll (l.map PyData.int)+1<=60
 rw [rT]
 omega
theorem bC (lo:Int) (n:Nat):(gP lo n).length=n:=by unfold gP; simp
theorem dY {lo:Int}{n i:Nat}{d:D} (h:(gP lo n)[i]?=some d):i<n/\d=.int (lo+((i:Nat):Int)):=by
 unfold gP at h
 obtain⟨x,hx,e⟩:=iB h
 obtain⟨h1,h2⟩:=List.getElem?_eq_some_iff.mp hx
 have h3:i<n:=by simpa using h1
 have h4:x=i:=by simpa using h2.symm
 subst h4
 exact⟨h3,e.symm⟩
variable [Gr]
section
variable {X:Cx}{pos p2:Pos}{a b e:Expr}{ta tb te:DE}
end
theorem lJ (ns:List Int):∀ k,k<=ns.length->PySem.preSum (fun i=>ns.getD i 0) k=(ns.take k).sum
 | 0,_=>rfl
 | k+1,h=>by
  show PySem.preSum _ k+ns.getD k 0=_
  have hk:k<ns.length:=by omega
  have e:ns.take (k+1)=ns.take k++[ns[k]]:=by rw [List.take_add_one,List.getElem?_eq_getElem hk]; rfl
  have e2:ns.getD k 0=ns[k]:=by rw [List.getD_eq_getElem?_getD,List.getElem?_eq_getElem hk]; rfl
  rw [lJ ns k (by omega),e,e2,List.sum_append,List.sum_cons,List.sum_nil,Int.add_zero]
theorem nQ:∀ (ns:List Int) (b:Int),(∀ x∈ns,-b<=x/\x<=b)->-(b * ns.length)<=ns.sum/\ns.sum<=b * ns.length
 | [],b,_=>by simp
 | x::ns,b,h=>by
  obtain⟨h1,h2⟩:=nQ ns b fun y hy=>h y (List.mem_cons_of_mem _ hy)
  have hx:=h x List.mem_cons_self
  have e:b * ((x::ns).length:Int)=b * ns.length+b:=by
   rw [List.length_cons]
   have:(((ns.length+1:Nat)):Int)=(ns.length:Int)+1:=by omega
   rw [this,Int.mul_add,Int.mul_one]
  rw [e,List.sum_cons]
  omega
section
variable {X:Cx}{pos:Pos}{a:Expr}{t:DA}
theorem FW (hc:X.calm=true):bO X (.builtin "sum") (fun xs H Q=>∃ (p:Addr) (ns:List Int),xs=[.ref p]/\SqL X.K H p (ns.map V.int)/\ns.length<=1000/\(∀ x∈ns,-1000000<=x/\x<=1000000)/\Q (.int ns.sum) H):=by
 intro pins s σ H xs us Q I r h
 obtain⟨p,ns,rfl,hp,hl,hs,q⟩:=h
 obtain⟨u,rfl,rx⟩:=vals1 r
 cases rx
 obtain⟨its,rv,pl,hz⟩:=I.list hp
 have hlen:its.length=ns.length:=by have:=rv.length; rw [List.length_map] at this; exact this.symm
 have hlt:p≠s.heap.objs.size:=by obtain⟨o,ho,_⟩:=pl.isList; exact Nat.ne_of_lt (Heap.lt_size ho)
 have hltp:p<s.heap.objs.size:=by obtain⟨o,ho,_⟩:=pl.isList; exact Heap.lt_size ho
 have at':∀ i v,its[i]?=some v->∃ t,v=Value.int (ns.getD i 0) t:=fun i v e=>by
  have hi:i<its.length:=(List.getElem?_eq_some_iff.mp e).1
  have hv:(ns.map V.int)[i]?=some (V.int ns[i]):=by rw [List.getElem?_map,List.getElem?_eq_getElem (show i<ns.length by omega)]; rfl
  obtain⟨u,eu,ru⟩:=rv.get hv
  rw [e] at eu
  cases eu
  obtain⟨t,rfl⟩:=ru
  exact⟨t,by rw [List.getD_eq_getElem?_getD,List.getElem?_eq_getElem (show i<ns.length by omega)]; rfl⟩
 refine call_sum_walk (wpAny_pyIter_list pl.isList ?_)
 refine⟨_,_,_,_,_,_,fun i=>ns.getD i 0,rfl,Walks.list (A:=X.A.in1) (I.ok.hd hc) _ p hlt _,⟨⟨_,Heap.get?_push_size _ rfl,rfl,rfl⟩,pl.isList.push _⟩,?_,fun i v e=>at' i v (by simpa using e),fun j hj=>?_,fun h' tk t' hk=>?_⟩
 ·intro b hb
  show b<(s.heap.push _).objs.size
  rw [Heap.size_push]
  simp at hb
  rcases hb with rfl | rfl
  ·exact Nat.lt_succ_self _
  ·exact Nat.lt_succ_of_lt hltp
 ·have hj:j<ns.length:=by simpa [hlen] using hj
  have e:ns.getD j 0=ns[j]:=by rw [List.getD_eq_getElem?_getD,List.getElem?_eq_getElem hj]; rfl
  have b1:=hs _ (List.getElem_mem hj)
  have b2:=nQ (ns.take (j+1)) 1000000 fun x hx=>hs x (List.mem_of_mem_take hx)
  have b3:(ns.take (j+1)).length<=1000:=by rw [List.length_take]; omega
  rw [lJ ns (j+1) hj]
  refine⟨?_,?_⟩
  ·show -(2 ^ 63)<=ns.getD j 0/\ns.getD j 0<2 ^ 63
   rw [e]
   omega
  ·show -(2 ^ 63)<=(ns.take (j+1)).sum/\(ns.take (j+1)).sum<2 ^ 63
   omega
 ·have e:PySem.preSum (fun i=>ns.getD i 0) its.toArray.size=ns.sum:=by
   rw [List.size_toArray,hlen,lJ ns ns.length (Nat.le_refl _),List.take_length]
  rw [e]
  refine⟨.int ns.sum,H,I.kept fun b o eb=>hk b o ?_ (Heap.get?_push_of_some _ eb),⟨_,rfl⟩,q⟩
  intro hm
  have:b=s.heap.objs.size:=by simpa using hm
  exact absurd (this ▸ Heap.lt_size eb) (Nat.lt_irrefl _)
variable [Gr]
theorem boot_sum:bootBuiltins "sum"=some (.builtin "sum"):=by decide +kernel
end
variable [Gr]
section
variable {X:Cx}{pos:Pos}{a b e:Expr}{ta tb te:DE}
end
variable [Gr]
section
variable {X:Cx}{pos:Pos}{a b e:Expr}{ta tb te:DE}
end
variable [Gr]
section
variable {X:Cx}{pos:Pos}{st:Stmt}
def O1 (i:Nat) (g:DG):DS:=fun P ρ=>∃ (r:Nat) (ds:List D) (d:D),ρ[i]?=some (.dw r (.list (ds++[d])))/\dZ d=true/\g .imm d ((forget r ρ).set i (.dw r (.list ds))) P.nx
theorem vW {i:Nat}{g:DG} (h:PS X st (lg (Pk X.K "list" PX (j7 i)) (yd g))):PDS X st (O1 i g):=PS.wk' h (by
 rintro Q σ H ⟨p,H0,own,ρ,P,E,⟨r,ds,d,hr,im,t⟩,w⟩
 obtain⟨v,hv,x⟩:=E.slot i _ hr
 obtain⟨l,vs,rfl,hl,ho,rs⟩:=x.cM
 have hln:=rs.length
 rw [List.length_append,List.length_singleton] at hln
 obtain⟨y,hy,ry⟩:=rs.getD (i:=ds.length) (d:=d) (by rw [List.getElem?_append_right (Nat.le_refl _),Nat.sub_self]; rfl)
 have ry0:=ry.imm im
 have rt:=rs.take ds.length
 rw [List.take_append_of_le_length (Nat.le_refl _),List.take_length] at rt
 have edl:vs.take ds.length=vs.dropLast:=by rw [List.dropLast_eq_take,hln]; rfl
 rw [edl] at rt
 refine⟨.ref l,hv,.inl ⟨rfl,vs,SqL.of ho⟩,l,vs,y,rfl,rfl,ho,by rw [hln]; exact hy,?_⟩
 obtain⟨E2,F2⟩:=E.j8 (vs':=vs.dropLast) (ds':=ds) E.at hv hl ho rs fun H2 f g=>gU f rt fun d hd=>fH (List.mem_append_left _ hd)
 refine⟨p,H0,_,_,.imm,d,P.nx,E2,?_,t,fun σ' ρ' E' n=>w.nx _ σ' _ ρ' E' F2 n⟩
 exact ry0.mono (fun _ o=>o.elim) (fun _ _ o=>o.elim) fun a xs e=>F2.tup a xs e)
end
@[reducible] def grX (H:Hp):Gr:=⟨fun p H0=>p=fj/\H0=H⟩
abbrev FX:=List D->(D->Prop)->(Value->Prop)->Prop
def spX (f:FX):Sp:=fun vs H Q E=>∃ ds P R,Rps (fun _=>True) H vs ds/\f ds P R/\(∀ d v H',P d->Same H H'->Rp (fun a=>H a=none) H' v d->Q v H')/\∀ c H',R c->Same H H'->E c none H'
def Rz (E:XK) (H:Hp):Value->Prop:=fun c=>∀ H',Same H H'->E c none H'
structure Cal1 (P:Program) (w:World) (K:W.Frag) (mg:Str->Option Value) (base:Heap) (k:Nat) (x:Str) (ps:List Str) (sp:Sp):Prop where
 ex:∃ f fd,FnOk P w K mg base (CX1 P w) k f fd ps sp/\Binds K fd ps []/\W.keepIn K (.ref f)=true/\mg x=some (.ref f)
theorem mH {f:FX}{n:Nat} (hn:∀ ds P R,f ds P R->ds.length=n:=by intro _ _ _ h; repeat (first | (obtain⟨rfl,_⟩:=h; rfl) | obtain⟨_,h⟩:=h)):∀ vs H Q E,spX f vs H Q E->vs.length=n:=fun vs H Q E h=>by
 obtain⟨ds,P,R,r,t,_⟩:=h
 rw [r.length]
 exact hn ds P R t
def EF:XK:=fun _ _ _=>False
theorem S7 {X:Cx}:Passes (CX1 X.prog X.w) X EF:=fun pins σ H s e s' I h=>by
 obtain⟨_,_,_,_,_,_,_,_,_,_,_,_,_,z⟩:=h
 exact z.elim
section
variable {X:Cx}{E:XK}{k j:Nat}{x:Str}{ps:List Str}{e:Expr}{es:List Expr}{p pos:Pos}
theorem pcX {sp:Sp}{ta:TA} (C:Cal1 X.prog X.w X.K X.mg X.base k x ps sp) (hr:Room j X.A) (hx:Passes (CX1 X.prog X.w) X E) (ha:PA X (e::es) ta) (hk:k<=j) (hg:Gl X x)
  (hdb:zB x) (he:zS X e es) (hpl:zP X pos es) :
  PE X (.Call (.Name x p) (e::es) [] pos) (qw sp [] E ta):=by
 obtain⟨f,fd,F,b,kp,m⟩:=C.ex
 exact Cy F (hr.mono hk) hg m kp b .nil hx ha hdb he hpl
def Eb (f:FX) (R:Value->Prop) (t:DA):DE:=fun ρ P=>t ρ fun ks=>f (ks.map (·.2)) (fun d=>P (norm .new d) d) R
theorem IW {f:FX}{Hb:Hp}{t:DA}:∀ σ H Q,@bL (grX Hb) (Eb f (Rz E Hb) t) σ H Q->qw (spX f) [] E (@jo (grX Hb) t) σ H Q:=by
 letI:=grX Hb
 rintro σ H Q ⟨p,H0,own,ρ,P,En,t,q⟩
 obtain⟨rfl,rfl⟩:=En.gr
 refine⟨fj,H0,own,ρ,_,En,t,fun ks vs H1 h A r=>?_⟩
 show spX f (vs++[]) H1 Q E
 rw [List.append_nil]
 have s1:Same H0 H1:=fun b o e=>A.kp b o (A.k0 b o e fun z=>z) fun z=>z
 refine⟨ks.map (·.2),_,_,(RpK.rps A r).mono (fun _ _=>trivial) (fun _ _ _ e=>e) fun _ _ e=>e,h,fun d v H' h2 s r2=>?_,fun c H' hc s=>hc H' (s1.trans s)⟩
 have k2:Kp fj H1 H':=Kp.of s
 refine q _ d v H' h2 (A.go k2 trivial) (bf ?_)
 exact r2.mono (fun a o=>A.free o) (fun _ _ _ e=>e) fun _ _ e=>e
theorem dcX {f:FX}{Hb:Hp}{t:DA} (C:Cal1 X.prog X.w X.K X.mg X.base k x ps (spX f)) (hr:Room j X.A) (hx:Passes (CX1 X.prog X.w) X E) (ha:@PDA (grX Hb) X (e::es) t) (hk:k<=j:=by decide) (hg:Gl X x:=by rfl)
  (hdb:zB x:=by decide) (he:zS X e es:=by rfl) (hpl:zP X pos es:=by rfl) :
  @PD (grX Hb) X (.Call (.Name x p) (e::es) [] pos) (Eb f (Rz E Hb) t):=PE.wk (pcX C hr hx ha hk hg hdb he hpl) IW
theorem I9 [Gr] {f:FX}{t:DA}:∀ σ H Q,bL (Eb f (fun _=>False) t) σ H Q->qw (spX f) [] EF (jo t) σ H Q:=by
 rintro σ H Q ⟨p,H0,own,ρ,P,En,t,q⟩
 refine⟨p,H0,own,ρ,_,En,t,fun ks vs H1 h A r=>?_⟩
 show spX f (vs++[]) H1 Q EF
 rw [List.append_nil]
 refine⟨ks.map (·.2),_,_,(RpK.rps A r).mono (fun _ _=>trivial) (fun _ _ _ e=>e) fun _ _ e=>e,h,fun d v H' h2 s r2=>?_,fun c H' hc s=>hc⟩
 have k2:Kp p H1 H':=Kp.of s
 refine q _ d v H' h2 (A.go k2 (p.mono H1 H' A.pen fun b o _ e=>s b o e)) (bf ?_)
 exact r2.mono (fun a o=>A.free o) (fun _ _ _ e=>e) fun _ _ e=>e
theorem dcF [Gr] {f:FX}{t:DA} (C:Cal1 X.prog X.w X.K X.mg X.base k x ps (spX f)) (hr:Room j X.A) (ha:PDA X (e::es) t) (hk:k<=j:=by decide) (hg:Gl X x:=by rfl)
  (hdb:zB x:=by decide) (he:zS X e es:=by rfl) (hpl:zP X pos es:=by rfl) :
  PD X (.Call (.Name x p) (e::es) [] pos) (Eb f (fun _=>False) t):=PE.wk (pcX C hr S7 ha hk hg hdb he hpl) I9
def Bj (R:Value->Prop) (C:Addr) (t:DA):DS:=fun _ ρ=>t ρ fun ks=>ks.length<=1000/\R (.ref C)
theorem mZ {Hb:Hp}{t:DA}{C:Addr}{newId Bn initId:String}{bmB:List Value}{np cpos:Pos} (L:Lets X E) (hc:X.calm=true) (hg:Gl X x) (hm:X.mg x=some (.ref C)) (hx:ExcCls X.K C newId bmB) (B:ExcBaseFacts Bn newId initId bmB) (ha:@PDA (grX Hb) X (e::es) t) (hdb:zB x:=by decide)
  (he:zS X e es:=by rfl) (hpl:(backTo cpos (starEach (e::es) X.env)).any (·.1)=false:=by rfl) (hcons:backTo cpos (starEach (e::es) X.env)=(false,eval e X.env)::backTo cpos (starEach es X.env):=by rfl) :
  @PDS (grX Hb) X (.Raise (some (.Call (.Name x np) (e::es) [] cpos)) none pos) (Bj (Rz E Hb) C t):=PS.wk' (G6 L hc hg hm hx B ha hdb he hpl hcons) (by
 letI:=grX Hb
 rintro Q σ H ⟨p,H0,own,ρ,P,En,t,w⟩
 obtain⟨rfl,rfl⟩:=En.gr
 refine⟨fj,H0,own,ρ,_,En,t,fun ks vs H1 h A r=>?_⟩
 have h24:=sizeLine_eq
 have hl:vs.length=ks.length:=by
  have:=RpK.rps A r
  rw [this.length,List.length_map]
 exact⟨by have:=h.1; omega,h.2 H1 fun b o e=>A.kp b o (A.k0 b o e fun z=>z) fun z=>z⟩)
end
theorem enterX {f:FX}{T:DS}{N:List Str}{vs:List V}{H:Hp}{Q:VK}{E:XK} (h:spX f vs H Q E)
  (body:∀ ds P,f ds P (Rz E H)->∃ ρ,ds.map aZ++List.replicate (N.length - ds.length) .any=ρ/\T { nx:=fun _=>P .none,rt:=P } ρ) (mono:∀ ds P R R',(∀ c,R c->R' c)->f ds P R->f ds P R'):@rK (grX H) T { nx:=fun _ H'=>Q .non H',rt:=Q } (L2.start N vs) H:=by
 letI:=grX H
 obtain⟨ds,P,R,r,t,q,qE⟩:=h
 have h:spD (fun ds' P'=>ds'=ds/\P'=P) vs H Q E:=⟨ds,P,r,⟨rfl,rfl⟩,q⟩
 refine cj h (fun ds' P' ⟨e1,e2⟩=>?_) ⟨rfl,rfl⟩
 subst e1 e2
 exact body _ _ (mono _ _ R _ (fun c hc H' s=>qE c H' hc s) t)
variable [Gr]
section
variable {X:Cx}{pos:Pos}{a b e:Expr}{ta tb te:DE}{t:DA}
end
end Dl
namespace L2
open PySem PyProof.Rows
theorem yt:∀ {ns:List Int}{us:List Value},Vals (ns.map V.int) us->IntsAre us ns
 | [],_,.nil=>.nil
 | n::ns,_,.cons r t=>by
  obtain⟨k,rfl⟩:=r
  exact .cons n k (yt t)
def once (ns:List Int):List Int:=ns.foldl step_dedup []
theorem Az (ns:List Int) {m:Nat} (hm:m=ns.length):firstMet (fun i=>ns.getD i 0) m=once ns:=by
 subst hm
 unfold firstMet once
 congr 1
 refine List.ext_getElem (by simp) fun i h1 h2=>?_
 simp at h1
 simp [List.getD_eq_getElem?_getD,h1]
section
variable {X:Cx}
theorem yQ (hc:X.calm=true):bO X (.type "set") (fun xs H Q=>∃ p ns,xs=[.ref p]/\SqL X.K H p (ns.map V.int)/\ns.length<=1000/\∀ l S,H l=none->Q (.ref l) (upd H l (.set S (once ns).length))):=by
 intro pins s σ H xs us Q I r h
 obtain⟨p,ns,rfl,hq,hl,q⟩:=h
 obtain⟨u,rfl,rx⟩:=vals1 r
 cases rx
 obtain⟨its,r',pl,hz⟩:=I.list hq
 have hlen:=r'.length
 rw [List.length_map] at hlen
 refine call_set_list (items:=its.toArray) (ns:=ns) (I.ok.hd hc) pl.isList (by simpa using yt r') ?_ fun h' tk st k=>?_
 ·show its.toArray.size+1<scanBound
  rw [List.size_toArray,← hlen]
  exact Nat.lt_of_le_of_lt (Nat.add_le_add_right hl 1) (by decide)
 ·rw [Az ns (by rw [List.size_toArray,← hlen])] at st
  refine⟨.ref s.heap.objs.size,_,I.laid (t':=tk) (fun b o e=>k b o (Heap.lt_size e) e) (Nat.le_refl _) (show bG X.prog X.w _ h' _ (.set _ (once ns).length) from st),rfl,q _ _ (I.hok.fresh (Nat.le_refl _))⟩
theorem tD:bO X (.builtin "len") (fun xs H Q=>∃ p S n,xs=[.ref p]/\H p=some (.set S n)/\n<=1000/\Q (.int (n:Int)) H):=by
 intro pins s σ H xs us Q I r h
 obtain⟨p,S,n,rfl,hq,hl,q⟩:=h
 obtain⟨u,rfl,rx⟩:=vals1 r
 cases rx
 obtain⟨o,es,ep,t,e1,e2,e3,_,_,_,e6,e7⟩:=I.hok p _ hq
 refine call_len_set e1 e2 e3 e6 (by rw [e7]; omega) ?_
 rw [e7]
 exact⟨.int n,H,I.tok _,⟨_,rfl⟩,q⟩
end
theorem jj:∀ (ns acc:List Int),(ns.foldl step_dedup acc).length<=acc.length+ns.length
 | [],acc=>Nat.le_refl _
 | n::ns,acc=>by
  rw [List.foldl_cons]
  have h:=jj ns (step_dedup acc n)
  have:(step_dedup acc n).length<=acc.length+1:=by
   unfold step_dedup
   split
   ·omega
   ·rw [List.length_append]; exact Nat.le_refl _
  rw [List.length_cons]
  omega
theorem xq:∀ (ns acc:List Int),((ns.foldl step_dedup acc).length=acc.length+ns.length)↔(ns.Nodup/\∀ x∈ns,x∉acc)
 | [],acc=>by simp
 | n::ns,acc=>by
  rw [List.foldl_cons,List.length_cons,List.nodup_cons]
  by_cases hn:n∈acc
  ·have e:step_dedup acc n=acc:=by
    unfold step_dedup
    rw [if_pos (List.any_eq_true.mpr ⟨n,hn,by simp⟩)]
   rw [e]
   have:=jj ns acc
   constructor
   ·intro h; omega
   ·rintro ⟨_,h⟩
    exact absurd hn (h n List.mem_cons_self)
  ·have e:step_dedup acc n=acc++[n]:=by
    unfold step_dedup
    rw [if_neg (fun z=>by
     obtain⟨x,hx,ex⟩:=List.any_eq_true.mp z
     have:x=n:=by simpa using ex
     exact hn (this ▸ hx))]
   rw [e]
   have ih:=xq ns (acc++[n])
   rw [List.length_append,List.length_singleton] at ih
   constructor
   ·intro h
    obtain⟨a,b⟩:=ih.mp (by omega)
    refine⟨⟨fun z=>b n z (List.mem_append_right _ (List.mem_singleton.mpr rfl)),a⟩,fun x hx=>?_⟩
    rcases List.mem_cons.mp hx with z | z
    ·rw [z]; exact hn
    ·exact fun y=>b x z (List.mem_append_left _ y)
   ·rintro ⟨⟨a,b⟩,c⟩
    have:=ih.mpr ⟨b,fun x hx z=>by
     rcases List.mem_append.mp z with y | y
     ·exact c x (List.mem_cons_of_mem _ hx) y
     ·rw [List.mem_singleton.mp y] at hx; exact a hx⟩
    omega
theorem qY (ns:List Int):(once ns).length=ns.length↔ns.Nodup:=by
 have:=xq ns []
 simp at this
 exact this
end L2
namespace Dl
open PySem L2 PyProof.Rows
variable [Gr]
section
variable {X:Cx}{pos pos':Pos}{a:Expr}{t:DA}
theorem boot_set:bootBuiltins "set"=some (.type "set"):=by decide +kernel
def MJ:GC:=fun ks P=>∃ k ns,ks=[(k,.list (ns.map PyData.int))]/\ns.length<=1000/\P .imm (.int ((once ns).length:Nat))
theorem El {ps ps':Pos} (hc:X.calm=true) (hs:X.mg "set"=none) (hl:X.mg "len"=none) (ha:PDA X [a] t) (hgs:Gl X "set":=by rfl) (hgl:Gl X "len":=by rfl)
  (he:zS X a []:=by rfl) (hpl:zP X pos []:=by rfl)
  (he':starEach [Expr.Call (.Name "set" ps) [a] [] pos] X.env=(false,eval (Expr.Call (.Name "set" ps) [a] [] pos) X.env)::starEach [] X.env:=by rfl) (hpl':(backTo pos' (starEach [] X.env)).any (·.1)=false:=by rfl) :
  PD X (.Call (.Name "len" ps') [.Call (.Name "set" ps) [a] [] pos] [] pos') (tCl MJ t) :=
 PE.wk (eG tD hgl hl PySem.boot_len (aP (fJ (yQ hc) hgs hs boot_set ha (by decide) (by decide) he hpl) cC he') (by decide) (by decide) he' hpl') (by
  rintro σ H Q ⟨p,H0,own,ρ,P,E,t,q⟩
  refine⟨p,H0,own,ρ,_,E,t,fun ks vs H1 h A r=>?_⟩
  obtain⟨k,ns,rfl,hn,h⟩:=h
  obtain⟨v,rfl,r'⟩:=dG r
  obtain⟨c,ws,rfl,o,hc',rs⟩:=r'.cM
  have ew:=rs.ints
  subst ew
  refine⟨c,ns,rfl,SqL.of hc',hn,fun l S hl'=>?_⟩
  obtain⟨k2,i2,nw⟩:=A.new hl' (.set S (once ns).length)
  have h1:=jj ns []
  exact⟨l,S,_,rfl,aB,by unfold once; simp at h1; omega,q _ _ _ _ h (A.go k2 i2) (.int _)⟩)
end
variable [Gr]
section
variable {X:Cx}{pos p2:Pos}{a b c e:Expr}{es:List Expr}{ta tb tc te:DE}{t:DA}{st:Stmt}
theorem OpR.or {f:Value->Value->Sem Value}{r r':R2} (h:OpR X f r) (h':OpR X f r'):OpR X f (fun x y H Q=>r x y H Q\/r' x y H Q):=by
 intro pins s σ H x y v u Q I rx ry q
 rcases q with q | q
 ·exact h pins s σ H x y v u Q I rx ry q
 ·exact h' pins s σ H x y v u Q I rx ry q
theorem bO.or {f:Value}{r r':List V->Hp->VK->Prop} (h:bO X f r) (h':bO X f r'):bO X f (fun x H Q=>r x H Q\/r' x H Q):=by
 intro pins s σ H x v Q I rx q
 rcases q with q | q
 ·exact h pins s σ H x v Q I rx q
 ·exact h' pins s σ H x v Q I rx q
theorem aX (ha:PD X a ta) (hb:PD X b tb) (hs:iT b:=by exact fun _ _=>rfl):PD X (.Subscript a b pos) (t2 gIx ta tb):=PE.wk (eZ (IxR.or cN Al) ha hb hs) (mD (by
 intro p H0 own Hb H x y k1 d1 k2 d2 P Q A r1 r2 t q
 unfold gIx at t
 split at t
 ·rename_i ds i
  obtain⟨d,hd,t⟩:=t
  obtain⟨c,vs,rfl,o,hc,rs⟩:=r1.cM
  obtain⟨v,hv,rv⟩:=rs.atI hd
  exact .inl ⟨c,vs,i,v,rfl,r2.int',SqL.of hc,hv,q _ _ _ _ t Kp.refl A.pen (bf rv)⟩
 ·rename_i ds i
  obtain⟨d,hd,t⟩:=t
  obtain⟨c,vs,rfl,hc,rs⟩:=r1.dU
  obtain⟨v,hv,rv⟩:=rs.atI hd
  exact .inr ⟨c,vs,i,v,rfl,r2.int',SqT.of hc,hv,q _ _ _ _ t Kp.refl A.pen (bf rv)⟩
 ·exact t.elim))
def Jp:G2:=fun k1 d1 k2 d2 P=>match d1 with
 | .int i=>(match d2 with
  | .int j=>P .imm (.int (i+j))
  | _=>False)
 | .list ds=>Q5 k1 (.list ds) k2 d2 P
 | .tuple ds=>Jq k1 (.tuple ds) k2 d2 P
 | _=>False
theorem cA (ha:PD X a ta) (hb:PD X b tb):PD X (.BinOp a .Add b pos) (t2 Jp ta tb):=Cz (OpR.or fW (OpR.or zV CP)) (by
 intro p H0 own Hb H x y k1 d1 k2 d2 P Q A r1 r2 t q
 cases d1 with
 | int i =>
  cases d2 with
  | int j=>exact .inl ⟨i,j,r1.int',r2.int',q _ _ _ _ t Kp.refl A.pen (.int _)⟩
  | _=>exact t.elim
 | list ds=>exact .inr (.inl (N6 p H0 own Hb H x y k1 _ k2 d2 P Q A r1 r2 t q))
 | tuple ds=>exact .inr (.inr (Ig p H0 own Hb H x y k1 _ k2 d2 P Q A r1 r2 t q))
 | _=>exact t.elim) ha hb
def kO (neg:Bool):G2:=fun k1 d1 k2 d2 P=>match scD d1 d2 with
 | some b=>P .imm (.bool (if neg then !b else b))
 | none=>Tz neg k1 d1 k2 d2 P
theorem Ie {K:W.Frag}:Ok2 (kO false) (fun x y H Q=>rEq x y H Q\/GQ K false x y H Q):=by
 intro p H0 own Hb H x y k1 d1 k2 d2 P Q A r1 r2 t q
 cases e:scD d1 d2 with
 | some b =>
  have t':gEq false k1 d1 k2 d2 P:=by
   unfold kO at t
   unfold gEq
   rw [e] at t ⊢
   exact t
  exact .inl (Tf p H0 own Hb H x y k1 d1 k2 d2 P Q A r1 r2 t' q)
 | none =>
  unfold kO at t
  rw [e] at t
  exact .inr (N5 false p H0 own Hb H x y k1 d1 k2 d2 P Q A r1 r2 t q)
theorem NZ {K:W.Frag}:Ok2 (kO true) (fun x y H Q=>rNe x y H Q\/GQ K true x y H Q):=by
 intro p H0 own Hb H x y k1 d1 k2 d2 P Q A r1 r2 t q
 cases e:scD d1 d2 with
 | some b =>
  have t':gEq true k1 d1 k2 d2 P:=by
   unfold kO at t
   unfold gEq
   rw [e] at t ⊢
   exact t
  exact .inl (Td p H0 own Hb H x y k1 d1 k2 d2 P Q A r1 r2 t' q)
 | none =>
  unfold kO at t
  rw [e] at t
  exact .inr (N5 true p H0 own Hb H x y k1 d1 k2 d2 P Q A r1 r2 t q)
theorem qU (hu:X.A.units+64<cLine) (ha:PD X a ta) (hb:PD X b tb):PD X (.Compare a [.Eq] [b] pos) (t2 (kO false) ta tb):=qX (OpR.or CK (zU hu)) Ie ha hb (dg _)
theorem cI (hu:X.A.units+64<cLine) (ha:PD X a ta) (hb:PD X b tb):PDT X (.Compare a [.Eq] [b] pos) (dW (t2 (kO false) ta tb)):=jH (OpR.or CK (zU hu)) Ie ha hb (dg _)
theorem d8 (hu:X.A.units+64<cLine) (ha:PD X a ta) (hb:PD X b tb):PDT X (.Compare a [.NotEq] [b] pos) (dW (t2 (kO true) ta tb)):=jH (OpR.or HS (HN hu)) NZ ha hb (dg _)
end
section
variable {n:Nat}{g:DG}{tt:DT}{te:DE}{ρ:List Sl}{k:Kd}{ds:List D}{R:Kd->List D->Prop}
theorem Mf {α β:Type} (f:α->β) {l:List α}{i:Nat}{x:α} (h:l[i]?=some x):(l.take (i+1)).map f=(l.take i).map f++[f x]:=by
 rw [List.take_add_one,h]
 simp
theorem Jd {α:Type} (xs:List α) (e f:α->D) (ke:Kd) (hd:ds=xs.map e) (hl:xs.length<=1000)
  (step:∀ x∈xs,∀ (A:D->Prop) (B:Prop),A (f x)->g (norm (elC k) (e x)) (e x) (List.replicate n .any++ρ) fun ρ'=>if true=true then te ρ' fun k' d'=>(norm k' d').le ke=true/\A d' else B)
  (q:R ke (xs.map f)) :
  ds.length<=1000/\∃ (ke:Kd) (Iv:Nat->List D->Prop),Iv 0 [] /\
   (∀ i d ys,ds[i]?=some d->Iv i ys->g (norm (elC k) d) d (List.replicate n .any++ρ) fun ρ'=>if true=true then te ρ' fun k' d'=>(norm k' d').le ke=true/\Iv (i+1) (ys++[d']) else Iv (i+1) ys) /\
   ∀ ys,Iv ds.length ys->R ke ys:=by
 subst hd
 refine⟨by rw [List.length_map]; exact hl,ke,fun i ys=>ys=(xs.take i).map f,rfl,?_,?_⟩
 ·rintro i d ys hd rfl
  rw [List.getElem?_map] at hd
  cases hx:xs[i]? with
  | none=>rw [hx] at hd; cases hd
  | some x =>
   rw [hx] at hd
   have hd:=Option.some.inj hd
   subst hd
   exact step x (List.mem_of_getElem? hx) (fun d'=>(xs.take i).map f++[d']=(xs.take (i+1)).map f) _ (Mf f hx).symm
 ·rintro ys rfl
  rw [List.length_map,List.take_length]
  exact q
theorem pA {α:Type} (xs:List α) (e:α->D) (p:α->Bool) (f:α->D) (ke:Kd) (hd:ds=xs.map e) (hl:xs.length<=1000)
  (step:∀ x∈xs,∀ (A:D->Prop) (B:Prop),(p x=true->A (f x))->(p x=false->B)->g (norm (elC k) (e x)) (e x) (List.replicate n .any++ρ) fun ρ'=>tt ρ' fun b=>if b=true then te ρ' fun k' d'=>(norm k' d').le ke=true/\A d' else B)
  (q:R ke ((xs.filter p).map f)) :
  ds.length<=1000/\∃ (ke:Kd) (Iv:Nat->List D->Prop),Iv 0 [] /\
   (∀ i d ys,ds[i]?=some d->Iv i ys->g (norm (elC k) d) d (List.replicate n .any++ρ) fun ρ'=>tt ρ' fun b=>if b=true then te ρ' fun k' d'=>(norm k' d').le ke=true/\Iv (i+1) (ys++[d']) else Iv (i+1) ys) /\
   ∀ ys,Iv ds.length ys->R ke ys:=by
 subst hd
 refine⟨by rw [List.length_map]; exact hl,ke,fun i ys=>ys=((xs.take i).filter p).map f,rfl,?_,?_⟩
 ·rintro i d ys hd rfl
  rw [List.getElem?_map] at hd
  cases hx:xs[i]? with
  | none=>rw [hx] at hd; cases hd
  | some x =>
   rw [hx] at hd
   have hd:=Option.some.inj hd
   subst hd
   have sn:((xs.take (i+1)).filter p).map f=((xs.take i).filter p).map f++if p x=true then [f x] else []:=by
    rw [List.take_add_one,hx,List.filter_append,List.map_append]
    cases hp:p x <;> simp [hp]
   refine step x (List.mem_of_getElem? hx) (fun d'=>((xs.take i).filter p).map f++[d']=((xs.take (i+1)).filter p).map f) _ (fun h=>?_) (fun h=>?_)
   ·rw [sn,if_pos h]
   ·show _=_
    rw [sn,h,if_neg Bool.false_ne_true,List.append_nil]
 ·rintro ys rfl
  rw [List.length_map,List.take_length]
  exact q
end
section
variable {g:DG}{tb:DS}{k:Kd}{ds:List D}{ρ:List Sl}{P:DEnds}
theorem MN {α:Type} (xs:List α) (e:α->D) (ok:List Sl->Prop) (hd:ds=xs.map e) (hk:k.le .shr=true) (h0:ok ρ)
  (step:∀ x∈xs,∀ ρ',ok ρ'->g (norm (elK k) (e x)) (e x) ρ' fun ρ2=>tb { nx:=ok,ct:=ok,bk:=P.nx,rt:=P.rt } ρ2)
  (q:∀ ρ',ok ρ'->P.nx ρ') :
  k.le .shr=true/\∃ Iv:Nat->List Sl->Prop,Iv 0 ρ /\
   (∀ i d ρ',ds[i]?=some d->Iv i ρ'->g (norm (elK k) d) d ρ' fun ρ2=>tb { nx:=Iv (i+1),ct:=Iv (i+1),bk:=P.nx,rt:=P.rt } ρ2)/\∀ ρ',Iv ds.length ρ'->P.nx ρ':=by
 subst hd
 refine⟨hk,fun _ ρ'=>ok ρ',h0,?_,q⟩
 intro i d ρ' hd h
 rw [List.getElem?_map] at hd
 cases hx:xs[i]? with
 | none=>rw [hx] at hd; cases hd
 | some x =>
  rw [hx] at hd
  have hd:=Option.some.inj hd
  subst hd
  exact step x (List.mem_of_getElem? hx) ρ' h
end
variable [Gr]
section
variable {X:Cx}{scope:Scope}{tg iter elt:Expr}{ifs:List Expr}{pos:Pos}{ti:DI}{g:DG}{tt:DT}{te:DE}
theorem Qi (own:List Str) {i:Nat}{y:Str}{py spos:Pos} (hc:X.calm=true) (hN:X.N.Nodup) (hiN:X.N[i]?=some y) (hx:Loc X.env.scope y) (hi:PDI X tg iter ti) (hg:∀ c,PDG (X.comp own scope c) tg g) (ht:∀ c,Bu (X.comp own scope c) ifs tt) (he:∀ c,PD (X.comp own scope c) elt te)
  (hsw:swapsWith (.ListComp elt [⟨tg,iter,ifs,0⟩] scope pos) (some (.Name y py)) spos.line X.env=pure true:=by rfl)
  (hk:dh X.env scope X.N=true:=by rfl) (hs:zF X iter:=by intro _; rfl) (hf:zL X y:=by first | exact .inl rfl | exact .inr rfl | assumption) :
  PS X (.Assign [.Name y py] (.ListComp elt [⟨tg,iter,ifs,0⟩] scope pos) spos) (lg (bL (dLC own.length ti g tt te)) (fY i)):=PS.wk' (G8 own hc hN hiN hx hi hg ht he hsw hk hs hf) fun D σ H q=>iC σ H _ q
end
section
variable {n:Nat}{g:DG}{tt:DT}{te:DE}{ρ:List Sl}{k:Kd}{ds:List D}{R:Kd->List D->Prop}
end
variable [Gr]
section
variable {X:Cx}{pos:Pos}{st:Stmt}{rest:List Stmt}{te tj:DE}{ti:DI}{t:DS}
def JX (i:Nat) (t:DS):DS:=fun P ρ=>match ρ[i]? with
 | some (.dw r d)=>jd r ρ i=true/\t P (ρ.set i (.sn d))
 | some (.rw r L)=>jd r ρ i=true/\t P (ρ.set i (.sn (.list (L.map PyData.list))))
 | some (.sp r b ds)=>jd r ρ i=true/\t P (ρ.set i (if b=true then .sn (.list ds) else .sh (.list ds)))
 | _=>False
theorem EnvD.freeze {p:Pn}{H0 H:Hp}{own:Addr->Option Nat}{σ:L2.St}{ρ:List Sl}{i r:Nat}{d:D}{v:V} (E:EnvD p H0 own σ H ρ) (hf:jd r ρ i=true) (hv:σ[i]?=some (some v)) (x:Rp (fun a=>own a=some r) H v d) :
  EnvD p H0 (aO r own) σ H (ρ.set i (.sn d)):=by
 have E2:EnvD p H0 (aO r own) σ H (ρ.set i .any):=(E.drop (i:=i)).clear hf
 have E3:=E2.put (v:=v) (i:=i) (s:=.sn d) ⟨v,hv,x.mono (fun a o=>⟨(E.ow a r o).1,(E.ow a r o).2.1,by unfold aO; rw [if_pos o]⟩) (fun _ _ _ e=>e) fun _ _ e=>e⟩
 rw [List.set_set] at E3
 exact E3
theorem Bh (i:Nat) (h:iU X rest t):iU X rest (JX i t):=PSs.wk' h (by
 rintro Q σ H ⟨p,H0,own,ρ,P,E,q,w⟩
 unfold JX at q
 split at q
 ·rename_i r d e
  obtain⟨v,hv,x⟩:=E.slot i _ e
  exact⟨p,H0,_,_,P,E.freeze q.1 hv x,q.2,w.go cF⟩
 ·rename_i r L e
  obtain⟨st,as,hv,x⟩:=E.slot i _ e
  exact⟨p,H0,_,_,P,E.freeze q.1 hv x.rp,q.2,w.go cF⟩
 ·rename_i r b ds e
  obtain⟨l,vs,hv,o,h,z⟩:=E.slot i _ e
  have E2:EnvD p H0 (aO r own) σ H (ρ.set i .any):=(E.drop (i:=i)).clear q.1
  have c0:∀ a,own a=none->aO r own a=none:=fun a n=>by unfold aO; rw [n]; simp
  have cl:aO r own l=none:=by unfold aO; rw [if_pos o]
  have E3:EnvD p H0 (aO r own) σ H ((ρ.set i .any).set i (if b=true then .sn (.list ds) else .sh (.list ds))):=E2.put (v:=.ref l) (by
   cases b with
   | true=>exact⟨_,hv,.lst ⟨(E.ow l r o).1,(E.ow l r o).2.1,cl⟩ h (z.mono (fun c n=>⟨n.1 rfl,n.2.1,c0 c n.2.2⟩) (fun _ _ _ e=>e) fun _ _ e=>e)⟩
   | false=>exact⟨_,hv,.lst ⟨(E.ow l r o).2.1,cl⟩ h (z.mono (fun c n=>⟨n.2.1,c0 c n.2.2⟩) (fun _ _ _ e=>e) fun _ _ e=>e)⟩)
  rw [List.set_set] at E3
  exact⟨p,H0,_,_,P,E3,q.2,w.go cF⟩
 ·exact q.elim)
def dSp (i:Nat) (b:Bool) (t:DS):DS:=fun P ρ=>match ρ[i]? with
 | some (.dw r (.list ds))=>eN ds=true/\t P (ρ.set i (.sp r b ds))
 | _=>False
theorem JH (i:Nat) (b:Bool) (h:iU X rest t):iU X rest (dSp i b t):=PSs.wk' h (by
 rintro Q σ H ⟨p,H0,own,ρ,P,E,q,w⟩
 unfold dSp at q
 split at q
 ·rename_i r ds e
  obtain⟨v,hv,x⟩:=E.slot i _ e
  obtain⟨l,vs,rfl,o,h,z⟩:=x.cM
  exact⟨p,H0,own,_,P,E.put (v:=.ref l) (i:=i) (s:=.sp r b ds) ⟨l,vs,hv,o,h,(z.imm q.1).mono (fun _ o=>o.elim) (fun _ _ o=>o.elim) fun _ _ e=>e⟩,q.2,w⟩
 ·exact q.elim)
def spK (b:Bool):Kd:=if b=true then .snw else .shr
theorem Ab {p:Pn}{H0 Hb H:Hp}{own:Addr->Option Nat}{b:Bool} (A:At p H0 own Hb H) {k:Kd} (hk:k.le (spK b)=true) {v:V}{d:D}{H2:Hp} (r:Rp (okK p H0 own Hb k) H2 v d):Rp (okS p H0 own b) H2 v d:=by
 have r2:=iW A hk r
 cases b with
 | true=>exact r2.mono (fun a o=>⟨fun _=>o.1,o.2.1,o.2.2⟩) (fun _ _ _ e=>e) fun _ _ e=>e
 | false=>exact r2.mono (fun a o=>⟨fun z=>(nomatch z),o.1,o.2⟩) (fun _ _ _ e=>e) fun _ _ e=>e
theorem EnvD.K3 {p:Pn}{H0 H:Hp}{own:Addr->Option Nat}{σ:L2.St}{ρ:List Sl}{i r:Nat}{b:Bool}{l:Addr}{vs vs':List V}{ds':List D} (E:EnvD p H0 own σ H ρ) (hv:σ[i]?=some (some (.ref l))) (o:own l=some r) (h:H l=some (.lst vs)) (z:Rps (okS p H0 own b) H vs' ds') :
  EnvD p H0 own σ (upd H l (.lst vs')) ((forget r ρ).set i (.sp r b ds'))/\FrS p own H own (upd H l (.lst vs')):=by
 refine⟨(E.write (o':=.lst vs') o h fun xs z=>nomatch z).put (v:=.ref l) ⟨l,vs',hv,o,aB,z.mono (fun _ o=>o) (fun c u n e=>?_) fun a xs e=>?_⟩,gC o h fun xs z=>nomatch z⟩
 ·rw [au]; exact e
  intro y; subst y; rw [n.2.2] at o; cases o
 ·rw [au]; exact e
  intro y; subst y; rw [h] at e; cases e
def J1 (i:Nat) (te:DE):DS:=fun P ρ=>match ρ[i]? with
 | some (.sp r b ds)=>te ρ fun k d=>(norm k d).le (spK b)=true/\ds.length<1000/\P.nx ((forget r ρ).set i (.sp r b (ds++[d])))
 | _=>False
theorem nj {i:Nat} (h:PS X st (oW (tBM X.K "list" lH (j7 i) (jo (cu te eX))))):PDS X st (J1 i te):=PS.wk' h (by
 rintro Q σ H ⟨p,H0,own,ρ,P,E,t,w⟩
 unfold J1 at t
 split at t
 ·rename_i r b ds hr
  obtain⟨l,vs,hv,o,ho,rs⟩:=E.slot i _ hr
  refine⟨.ref l,hv,.inl ⟨rfl,vs,SqL.of ho⟩,p,H0,own,ρ,_,E,iw t,?_⟩
  rintro ks ws H1 ⟨k,d,rfl,hk,hlen,hn⟩ A rk
  obtain⟨y,rfl,ry⟩:=dG rk
  have E1:=E.go A.kp A.pen
  have h1:H1 l=some (.lst vs):=A.kp l _ ho (E.ow l r o).2.1
  have rs1:Rps (okS p H0 own b) H1 vs ds:=rs.mono (fun _ o=>o) (fun c u n e=>A.kp c u e n.2.1) A.tups
  have h24:=sizeLine_eq
  have hln:=rs.length
  refine⟨l,vs,y,rfl,rfl,h1,by omega,?_⟩
  obtain⟨E2,F2⟩:=E1.K3 (b:=b) hv o h1 (rs1.snoc (Ab A hk (bf ry)))
  exact w.nx _ σ _ _ E2 (A.frs.trans F2) hn
 ·exact t.elim)
def Vr (i:Nat) (tj te:DE):DS:=fun P ρ=>match ρ[i]? with
 | some (.sp r b ds)=>tj ρ fun _ dj=>te ρ fun k d=>match dj with
  | .int j=>(norm k d).le (spK b)=true/\0<=j/\j.toNat<=ds.length/\ds.length<1000/\P.nx ((forget r ρ).set i (.sp r b (ds.take j.toNat++d::ds.drop j.toNat)))
  | _=>False
 | _=>False
theorem qL:∀ {as bs:List Addr},as.map V.ref=bs.map V.ref->as=bs
 | [],[],_=>rfl
 | a::as,b::bs,e=>by
  rw [List.map_cons,List.map_cons] at e
  injection e with e1 e2
  rw [V.ref.inj e1,qL e2]
 | [],_::_,e=>by cases e
 | _::_,[],e=>by cases e
theorem EnvD.spine {p:Pn}{H0 H H1:Hp}{own:Addr->Option Nat}{σ:L2.St}{ρ:List Sl}{i r:Nat}{b:Bool}{l:Addr}{vs:List V}{ds:List D} (E:EnvD p H0 own σ H ρ) (A:At p H0 own H H1) (hf:jd r ρ i=true) (hl:H1 l=none) (z:Rps (okS p H0 own b) H1 vs ds) :
  ∃ own',EnvD p H0 own' (σ.set i (some (.ref l))) (upd H1 l (.lst vs)) (ρ.set i (.sp r b ds))/\FrS p own H own' (upd H1 l (.lst vs)):=by
 have E2:EnvD p H0 (aO r own) σ H (ρ.set i .any):=(E.drop (i:=i)).clear hf
 have E3:=E2.go A.kp A.pen
 have s1:Same H1 (upd H1 l (.lst vs)):=fun b u q=>by rw [au (aD q hl)]; exact q
 have A8:At p H0 (aO r own) H1 (upd H1 l (.lst vs)):=⟨E3.k0,Kp.of s1,E3.pen,p.mono H1 _ E3.pen fun b u _ q=>s1 b u q,E3.ow⟩
 have E4:=E3.adopt r A8
 have c0:∀ a,own a=none->aO r own a=none:=fun a n=>by unfold aO; rw [n]; simp
 have E5:=E4.set (i:=i) (v:=.ref l) (s:=.sp r b ds) fun hli=>⟨l,vs,List.getElem?_set_self hli,fM hl aB,aB,z.cW (fun c u n e=>⟨⟨n.1,n.2.1,by rw [cg e]; exact c0 c n.2.2⟩,s1 c u e⟩) fun a xs e=>s1 a _ e⟩
 rw [List.set_set] at E5
 exact⟨_,E5,(A.frs.trans cF).trans (fO A8)⟩
theorem RpK.okS {p:Pn}{H0 Hb H:Hp}{own:Addr->Option Nat}{b:Bool} (A:At p H0 own Hb H):∀ {vs:List V}{ks:List (Kd×D)},RpK p H0 own Hb H vs ks->(ks.all fun kd=>(norm kd.1 kd.2).le (spK b))=true->Rps (okS p H0 own b) H vs (ks.map (·.2))
 | _,_,.nil,_=>.nil
 | _,kd::ks,.cons h t,e=>by
  rw [List.all_cons,Bool.and_eq_true] at e
  exact .cons (Ab A e.1 (bf h)) (RpK.okS A t e.2)
def OJ (i r:Nat) (b:Bool) (t:DA):DS:=fun P ρ=>t ρ fun ks=>ks.length<=1000/\(ks.all fun kd=>(norm kd.1 kd.2).le (spK b))=true/\jd r ρ i=true/\P.nx (ρ.set i (.sp r b (ks.map (·.2))))
theorem vV {i:Nat}{t:DA} (r:Nat) (b:Bool) (h:PS X st (lg (Kz (jo t)) (fY i))):PDS X st (OJ i r b t):=PS.wk' h (by
 rintro Q σ H ⟨p,H0,own,ρ,P,E,q,w⟩
 refine⟨p,H0,own,ρ,_,E,q,fun ks vs H1 h A rk=>?_⟩
 have h24:=sizeLine_eq
 have hln:=rk.length
 refine⟨by have:=h.1; omega,fun l hl=>?_⟩
 obtain⟨own',E2,F2⟩:=E.spine A h.2.2.1 hl (RpK.okS A rk h.2.1)
 exact w.nx _ _ _ _ E2 F2 h.2.2.2)
theorem CQ {p:Pn}{H0 Hb H:Hp}{own:Addr->Option Nat}{b:Bool} (A:At p H0 own Hb H) {k:Kd} (hk:k.le (spK b)=true) {H2:Hp}:∀ {vs:List V}{ds:List D},Rps (okK p H0 own Hb k) H2 vs ds->Rps (okS p H0 own b) H2 vs ds
 | _,_,.nil=>.nil
 | _,_,.cons h t=>.cons (Ab A hk h) (CQ A hk t)
def Bk (js:List Nat) (t:DS):DS:=fun P ρ=>t P (js.foldl (fun ρ j=>ρ.set j .any) ρ)
theorem EnvD.drops {p:Pn}{H0 H:Hp}{own:Addr->Option Nat}{σ:L2.St}:∀ (js:List Nat) {ρ:List Sl},EnvD p H0 own σ H ρ->EnvD p H0 own σ H (js.foldl (fun ρ j=>ρ.set j .any) ρ)
 | [],_,E=>E
 | _::js,_,E=>EnvD.drops js E.drop
theorem aY (js:List Nat) (h:iU X rest t):iU X rest (Bk js t):=PSs.wk' h (by
 rintro Q σ H ⟨p,H0,own,ρ,P,E,q,w⟩
 exact⟨p,H0,own,_,P,E.drops js,q,w⟩)
def nu (i:Nat) (tj te:DE):DS:=fun P ρ=>match ρ[i]? with
 | some (.rw r L)=>tj ρ fun _ dj=>match dj with
  | .int j=>∃ n l,ixN L.length j=some n/\L[n]?=some l/\te ρ fun _ d=>dZ d=true/\l.length<1000/\P.nx ((forget r ρ).set i (.rw r (L.set n (l++[d]))))
  | _=>False
 | _=>False
theorem jO {i:Nat} (h:PS X st (oW (tBM X.K "list" lH (tOp (P0 X.K) (j7 i) (bL tj)) (jo (cu te eX))))):PDS X st (nu i tj te):=PS.wk' h (by
 rintro Q σ H ⟨p,H0,own,ρ,P,E,q,w⟩
 unfold nu at q
 split at q
 ·rename_i r L hr
  obtain⟨st,as,hv,R0⟩:=E.slot i _ hr
  refine⟨.ref st,hv,p,H0,own,ρ,_,E,q,fun kj dj vj H1 q1 A1 rj=>?_⟩
  cases dj with
  | int j =>
   have E1:=E.go A1.kp A1.pen
   obtain⟨st',as',hv',R1⟩:=E1.slot i _ hr
   rw [hv] at hv'
   cases hv'
   have ej:=Rp.int' rj
   subst ej
   obtain⟨n,l,hn,hl,q1⟩:=q1
   have hnl:=(List.getElem?_eq_some_iff.mp hl).1
   rw [List.getElem?_eq_getElem hnl] at hl
   cases hl
   have hna:n<as'.length:=by rw [R1.len]; exact hnl
   have eat:atI (as'.map V.ref) j=some (.ref as'[n]):=by
    unfold L2.atI
    rw [List.length_map,R1.len,hn]
    show (as'.map V.ref)[n]?=_
    rw [List.getElem?_map,List.getElem?_eq_getElem hna]
    rfl
   obtain⟨vs,hav,rv⟩:=R1.row n as'[n] L[n] (List.getElem?_eq_getElem hna) (List.getElem?_eq_getElem hnl)
   refine⟨st,_,j,.ref as'[n],rfl,rfl,SqL.of R1.top,eat,.inl ⟨rfl,vs,SqL.of hav⟩,p,H0,own,ρ,_,E1,iw q1,?_⟩
   rintro ks ws H2 ⟨k,d,rfl,im,len,nx⟩ A2 rk
   obtain⟨y,rfl,ry⟩:=dG rk
   have ry:Rp (fun _=>False) H2 y d:=Rp.imm ry im
   have E2:=E1.go A2.kp A2.pen
   obtain⟨st',as2,hv',R2⟩:=E2.slot i _ hr
   rw [hv] at hv'
   cases hv'
   -- the rows are those of before
   have eas:as2=as':=by
    have e1:=A2.kp st _ R1.top (E1.ow st r (R1.ow st List.mem_cons_self)).2.1
    rw [R2.top] at e1
    have e2:=(HO.lst.inj (Option.some.inj e1))
    exact qL e2
   subst eas
   obtain⟨vs2,hav2,rv2⟩:=R2.row n as2[n] L[n] (List.getElem?_eq_getElem hna) (List.getElem?_eq_getElem hnl)
   have oa:=R2.ow as2[n] (List.mem_cons_of_mem _ (List.getElem_mem hna))
   have h24:=sizeLine_eq
   have ln:=rv2.length
   refine⟨as2[n],vs2,y,rfl,rfl,hav2,by omega,?_⟩
   have tp:∀ a xs,H2 a=some (.tup xs)->upd H2 as2[n] (.lst (vs2++[y])) a=some (.tup xs):=fun a xs e=>by
    rw [au]; exact e
    intro z; subst z; rw [hav2] at e; cases e
   have E3:=E2.write (o':=.lst (vs2++[y])) oa hav2 (fun xs z=>nomatch z)
   have nd1:=List.nodup_cons.mp R2.nd
   have E4:=E3.put (v:=.ref st) (i:=i) (s:=.rw r (L.set n (L[n]++[d]))) ⟨st,as2,hv,⟨?_,R2.nd,R2.ow,by rw [List.length_set]; exact R2.len,fun m a ds e1 e2=>?_⟩⟩
   ·exact w.nx _ σ _ _ E4 ((A1.frs.trans A2.frs).trans (gC oa hav2 fun xs z=>nomatch z)) nx
   ·rw [au]; exact R2.top
    intro z
    exact nd1.1 (by rw [z]; exact List.getElem_mem hna)
   ·by_cases em:m=n
    ·subst em
     rw [List.getElem?_set_self hnl] at e2
     rw [List.getElem?_eq_getElem hna] at e1
     cases e1
     cases e2
     exact⟨_,aB,(rv2.mono (fun _ o=>o) (fun _ _ o=>o.elim) tp).snoc (ry.mono (fun _ o=>o) (fun _ _ o=>o.elim) tp)⟩
    ·rw [List.getElem?_set_ne (Ne.symm em)] at e2
     obtain⟨vs3,h3,r3⟩:=R2.row m a ds e1 e2
     refine⟨vs3,?_,r3.mono (fun _ o=>o) (fun _ _ o=>o.elim) tp⟩
     rw [au]; exact h3
     intro z
     have hm:=(List.getElem?_eq_some_iff.mp e1).1
     have hz:as2[m]=as2[n]:=by rw [(List.getElem?_eq_some_iff.mp e1).2]; exact z
     exact em ((List.getElem_inj nd1.2).mp hz)
  | _=>exact q1.elim
 ·exact q.elim)
def JT (i r:Nat) (ti:DI):DS:=fun P ρ=>ti ρ fun k ds=>ds.length<=1000/\jd r ρ i=true/\P.nx (ρ.set i (.rw r (List.replicate ds.length [])))
theorem mY {i n j:Nat} (r:Nat) (h:PS X st (lg (tLC n (ud ti) (fun _=>yd (gNm j)) (fun _=>liftT fun _ P=>P true) (fun _=>Kz Pa)) (fY i))):PDS X st (JT i r ti):=PS.wk' h (by
 rintro Q σ H ⟨p,H0,own,ρ,P,E,q,w⟩
 refine⟨p,H0,own,ρ,_,E,q,fun k ds J H1 Ok h A W o1=>?_⟩
 obtain⟨hlen,hf,nx⟩:=h
 have okS:∀ H',Kp p H1 H'->p.PI H'->Ok H':=fun H' K i=>W.stab H1 H' o1 (fun b o n e=>K b o e (iy A n.1)) (iH A K)
 refine⟨fun i m ys H'=>m=ds.length - i/\i<=ds.length/\Kp p H1 H'/\p.PI H'/\∃ as:List Addr,ys=as.map V.ref/\as.Nodup/\as.length=i/\∀ a∈as,H a=none/\H' a=some (.lst []),⟨_,rfl,Nat.zero_le _,Kp.refl,A.pen,[],rfl,.nil,rfl,fun a ha=>nomatch ha⟩,?_⟩
 rintro c i' m ys H' ⟨rfl,hi,K',I',as,rfl,nd,la,hn⟩
 have oH:=okS H' K' I'
 have A':=A.go K' I'
 have h24:=sizeLine_eq
 by_cases hlt:i'<ds.length
 ·refine .inr ⟨W.go i' H' oH hlt,by rw [List.length_map]; omega,fun ys' H2=>Kp p H1 H2/\p.PI H2/\∃ as:List Addr,ys'=as.map V.ref/\as.Nodup/\as.length=i'+1/\∀ a∈as,H a=none/\H2 a=some (.lst []),fun ys' H2 h=>⟨_,by omega,rfl,hlt,h⟩,fun x H2 y=>?_⟩
  obtain⟨sm,rx⟩:=W.yld i' H' x H2 oH y
  have rx:=rx ds[i'] (List.getElem?_eq_getElem hlt)
  have I2:p.PI H2:=p.mono H' H2 I' fun b o _ e=>sm b o e
  have K2:Kp p H1 H2:=K'.trans (Kp.of sm)
  have A2:=A.go K2 I2
  have E2:EnvD p H0 own σ H2 ρ:=E.go A2.kp A2.pen
  refine⟨p,H0,own,_,_,_,fun _=>True,E2.comp n,fQ (Ih A rx),trivial,fun σ3 ρ3 E3 t3=>?_⟩
  refine⟨p,H0,own,ρ3,fun b=>b=true,E3,rfl,fun b H4 h4 A4=>?_⟩
  subst h4
  refine bQ ⟨(by show 0<=sizeLine; omega),fun l hl=>?_⟩
  have A5:At p H0 own H H4:=A2.base A4
  obtain⟨k7,i7,nw⟩:=A5.new hl (.lst [])
  refine⟨(K2.trans A4.kp).trans k7,i7,as++[l],by rw [List.map_append]; rfl,?_,by rw [List.length_append,la]; rfl,fun a ha=>?_⟩
  ·refine List.nodup_append.mpr ⟨nd,by simp,fun a ha b hb=>?_⟩
   rw [List.mem_singleton.mp hb]
   intro z
   subst z
   have e:=A4.kp a _ (sm a _ (hn a ha).2) (A.nfb (hn a ha).1)
   rw [hl] at e
   cases e
  ·rcases List.mem_append.mp ha with z | z
   ·refine⟨(hn a z).1,?_⟩
    have e:=A4.kp a _ (sm a _ (hn a z).2) (A.nfb (hn a z).1)
    exact k7 a _ e (A.nfb (hn a z).1)
   ·rw [List.mem_singleton.mp z]
    exact⟨nw,aB⟩
 ·have e:i'=ds.length:=by omega
  subst e
  refine .inl ⟨W.stop H' oH,fun l hl=>?_⟩
  obtain⟨k7,i7,nw⟩:=A'.new hl (.lst (as.map V.ref))
  have A7:=A'.go k7 i7
  show Q.nx (σ.set i (some (.ref l))) (upd H' l (.lst (as.map V.ref)))
  have E2:EnvD p H0 (aO r own) σ H (ρ.set i .any):=(E.drop (i:=i)).clear hf
  have A8:At p H0 (aO r own) H (upd H' l (.lst (as.map V.ref))):=⟨A7.k0,A7.kp,A7.penb,A7.pen,E2.ow⟩
  have E3:=E2.adopt r A8
  have lna:l∉as:=fun z=>by rw [(hn l z).2] at hl; cases hl
  have E4:=E3.set (i:=i) (v:=.ref l) (s:=.rw r (List.replicate ds.length [])) fun hli=>⟨l,as,List.getElem?_set_self hli,⟨aB,List.nodup_cons.mpr ⟨lna,nd⟩,fun a ha=>?_,by rw [la,List.length_replicate],fun m a es e1 e2=>?_⟩⟩
  ·rw [List.set_set] at E4
   exact w.nx _ _ _ _ E4 (cF.trans (fO A8)) nx
  ·rcases List.mem_cons.mp ha with rfl | ha
   ·exact fM nw aB
   ·exact fM (hn a ha).1 (by rw [au (fun z:a=l=>lna (by rw [← z]; exact ha))]; exact (hn a ha).2)
  ·have ha:=List.mem_of_getElem? e1
   have ees:es=[]:=by
    have:=List.mem_of_getElem? e2
    exact (List.mem_replicate.mp this).2
   subst ees
   exact⟨[],by rw [au (fun z:a=l=>lna (by rw [← z]; exact ha))]; exact (hn a ha).2,.nil⟩)
theorem p7:PD X (.Dict [] [] pos) (fun _ P=>P .new (.dict [])):=PE.wk Hu (by
 rintro σ H Q ⟨p,H0,own,ρ,P,E,t,q⟩
 have A:=E.at
 exact fun d hd=>let ⟨k2,i2,nw⟩:=A.new hd (.dK []); q _ _ _ _ t (A.go k2 i2) (.dct nw aB .nil))
end
theorem Rd.same {H H':Hp}{a:Addr}{u:HO} (r:Rd H a u) (s:Same H H'):Rd H' a u:=r.elim (fun h=>.inl (s _ _ h)) fun ⟨o,h⟩=>.inr ⟨o,s _ _ h⟩
theorem SqL.same {K:W.Frag}{H H':Hp}{a:Addr}{xs:List V} (h:SqL K H a xs) (s:Same H H'):SqL K H' a xs:=h.elim (fun h=>.inl (Rd.same h s)) .inr
@[reducible] def grL (K:W.Frag) (sc:Addr) (ns:List Int):Gr:=⟨fun p H0=>SqL K H0 sc (ns.map V.int)/\∀ b,p.fp b->H0 b=none⟩
def BL (K:W.Frag):Sp:=fun vs H Q _=>∃ (a:Addr) (ns:List Int),vs=[.ref a]/\SqL K H a (ns.map V.int)/\∀ H',Q (.bl true) H'
section
variable {X:Cx}{k1 k2 j:Nat}{x y z:Str}{ps1 ps2:List Str}{e:Expr}{es1 es2:List Expr}{p1 p2 p3 pos pos1:Pos}{K:W.Frag}{sc:Addr}{ns:List Int}{C:Pn->Prop}{pre:List D->Prop}{g:List D->(D->Prop)->Prop}{i:Nat}
end
theorem Rg {K:W.Frag}{T:DS}{N:List Str}{H:Hp}{Q:VK}{sc:Addr}{ns:List Int} (hS:SqL K H sc (ns.map V.int)) (q:∀ H',Q (.bl true) H') (hN:1<=N.length)
  (body:T { nx:=fun _=>False,rt:=fun d=>d=.bool true } (.scr (.ref sc) true::List.replicate (N.length - 1) .any)):@rK (grL K sc ns) T { nx:=fun _ H'=>Q .non H',rt:=Q } (L2.start N [.ref sc]) H:=by
 letI:=grL K sc ns
 refine⟨fj,H,fun _=>none,_,_,?_,body,⟨fun _ _ _ _ _ _ n=>n.elim,fun d v H' n w=>?_,fun _ _ _ _ _ _ n=>n.elim,fun _ _ _ _ _ _ n=>n.elim⟩⟩
 ·refine⟨fun b o e _=>e,trivial,fun a r e=>(nomatch e),fun j s e=>?_,by unfold L2.start; simp,hS,fun b z=>z.elim⟩
  cases j with
  | zero =>
   have e:=Option.some.inj e
   subst e
   exact⟨rfl,fun _=>rfl⟩
  | succ j =>
   rw [List.getElem?_cons_succ] at e
   have hm:=List.mem_of_getElem? e
   have e2:=(List.mem_replicate.mp hm).2
   subst e2
   trivial
 ·have n:d=.bool true:=n
  subst n
  have r:=w.rp
  cases r
  exact q H'
variable [Gr]
section
variable {X:Cx}{pos pos':Pos}{a b:Expr}{t:DA}
theorem KR {ok:Addr->Prop}{H:Hp} (lo hi:Int):Rps ok H (pF lo hi) (gP lo (hi - lo).toNat):=by
 unfold pF gP
 exact Rps.ofMap (fun x=>.int _) _
theorem M4 {p:Pn}{H0 H H1:Hp}{own:Addr->Option Nat}{P:DK}{Q:VK}{lo hi:Int} (A:At p H0 own H H1) (h:P .new (.list (gP lo (hi - lo).toNat))) (b:-1000<=lo/\lo<=1000/\-1000<=hi/\hi<=1000)
  (q:∀ k d v H',P k d->At p H0 own H H'->Rp (okK p H0 own H k) H' v d->Q v H') (r:Addr) (hr:H1 r=none) :
  ∃ p' lo' hi',[V.ref r]=[.ref p']/\upd H1 r (.rng lo hi) p'=some (.rng lo' hi')/\(-1000<=lo'/\lo'<=1000/\-1000<=hi'/\hi'<=1000)/\∀ l,upd H1 r (.rng lo hi) l=none->Q (.ref l) (upd (upd H1 r (.rng lo hi)) l (.lst (pF lo' hi'))):=by
 refine⟨r,lo,hi,rfl,aB,b,fun l hl=>?_⟩
 obtain⟨k2,i2,_⟩:=A.new hr (.rng lo hi)
 have A2:=A.go k2 i2
 obtain⟨k3,i3,nw⟩:=A2.new hl (.lst (pF lo hi))
 exact q _ _ _ _ h (A2.go k3 i3) (.lst nw aB (KR lo hi))
def RQ (t:DA):DE:=fun ρ P=>t ρ fun ks=>match ks with
 | [(_,.int j)]=>(-1000<=j/\j<=1000)/\P .new (.list (gP 0 (j - 0).toNat))
 | _=>False
theorem j9 {ps ps':Pos} (hc:X.calm=true) (hml:X.mg "list"=none) (hmr:X.mg "range"=none) (ha:PDA X [a] t) (hgl:Gl X "list":=by rfl) (hgr:Gl X "range":=by rfl)
  (he:zS X a []:=by rfl) (hpl:(backTo pos' (starEach [] X.env)).any (·.1)=false:=by rfl)
  (he2:starEach [.Call (.Name "range" ps') [a] [] pos'] X.env=(false,eval (.Call (.Name "range" ps') [a] [] pos') X.env)::starEach [] X.env:=by rfl) (hpl2:zP X pos []:=by rfl) :
  PD X (.Call (.Name "list" ps) [.Call (.Name "range" ps') [a] [] pos'] [] pos) (RQ t):=PE.wk (fJ (j6 hc) hgl hml boot_list (aP (fJ uG hgr hmr boot_range ha (by decide) (by decide) he hpl) cC he2) (by decide) (by decide) he2 hpl2) (by
 rintro σ H Q ⟨p,H0,own,ρ,P,E,t,q⟩
 refine⟨p,H0,own,ρ,_,E,t,fun ks vs H1 h A rk=>?_⟩
 split at h
 ·rename_i k j
  obtain⟨v,rfl,r'⟩:=dG rk
  have e:=Rp.int' r'
  subst e
  exact⟨j,rfl,M4 A h.2 ⟨by omega,by omega,h.1.1,h.1.2⟩ q⟩
 ·exact h.elim)
end
variable [Gr]
mutual
inductive Tm where
 | int (i:Int)
 | neg (i:Int)
 | bl (b:Bool)
 | non
 | str (s:Str)
 | var (i:Nat)
 | lst (ts:Tms)
 | tup (ts:Tms)
 | dct
inductive Tms where
 | nil
 | cons (t:Tm) (ts:Tms)
end
def O4 (sc:Scope) (x:Str):Bool:=sc.names.lookup x == some .local || sc.names.lookup x == some .cell || sc.names.lookup x == some .free
theorem Ku {sc:Scope}{x:Str} (h:O4 sc x=true):Vis sc x:=by
 unfold O4 at h
 rw [Bool.or_eq_true,Bool.or_eq_true,beq_iff_eq,beq_iff_eq,beq_iff_eq] at h
 rcases h with (h | h) | h
 ·exact .inl h
 ·exact .inr (.inl h)
 ·exact .inr (.inr h)
mutual
def okT (N:List Str) (sc:Scope):Tm->Expr->Bool
 | .int i,.Constant (.int j) _ _=>i == j
 | .neg i,.UnaryOp .USub (.Constant (.int j) _ _) _=>i == j
 | .bl b,.Constant (.bool c) _ _=>b == c
 | .non,.Constant .none _ _=>true
 | .str s,.Constant (.str u) _ _=>s == u
 | .var i,.Name x _=>N[i]? == some x&&(O4 sc x&&(!(x == ("__debug__":Str))&&!(x == ("__classdict__":Str))))
 | .lst ts,.List es _=>kE N sc ts es
 | .tup ts,.Tuple es _ _=>kE N sc ts es
 | .dct,.Dict [] [] _=>true
 | _,_=>false
def kE (N:List Str) (sc:Scope):Tms->List Expr->Bool
 | .nil,[]=>true
 | .cons t ts,e::es=>okT N sc t e&&kE N sc ts es
 | _,_=>false
end
mutual
def evT (ρ:List Sl):Tm->Option (Kd×D)
 | .int i=>some (.imm,.int i)
 | .neg i=>some (.imm,.int (-i))
 | .bl b=>some (.imm,.bool b)
 | .non=>some (.imm,.none)
 | .str s=>some (.imm,.str s)
 | .var i=>match ρ[i]? with
  | some (.im d)=>some (.imm,d)
  | some (.sh d)=>some (.shr,d)
  | some (.sn d)=>some (.snw,d)
  | some (.dw r d)=>some (.reg r,d)
  | _=>none
 | .lst ts=>match jw ρ ts with
  | some ks=>some ((joins ks).join .new,.list (ks.map (·.2)))
  | none=>none
 | .tup ts=>match jw ρ ts with
  | some ks=>some (norm (joins ks) (.tuple (ks.map (·.2))),.tuple (ks.map (·.2)))
  | none=>none
 | .dct=>some (.new,.dict [])
def jw (ρ:List Sl):Tms->Option (List (Kd×D))
 | .nil=>some []
 | .cons t ts=>match evT ρ t,jw ρ ts with
  | some k,some ks=>some (k::ks)
  | _,_=>none
end
mutual
def smT:Tm->Bool
 | .lst ts=>jQ 1000 ts
 | .tup ts=>jQ 1000 ts
 | _=>true
def jQ:Nat->Tms->Bool
 | _,.nil=>true
 | n+1,.cons t ts=>smT t&&jQ n ts
 | 0,.cons _ _=>false
end
def Pg (tm:Tm):DE:=fun ρ P=>∃ k d,evT ρ tm=some (k,d)/\P k d
def Vn (ts:Tms):DA:=fun ρ P=>∃ ks,jw ρ ts=some ks/\P ks
section
variable {X:Cx}{e:Expr}{es:List Expr}
theorem PD.wk {t t':DE} (h:PD X e t) (w:∀ ρ P,t' ρ P->t ρ P):PD X e t':=PE.wk h (by
 rintro σ H Q ⟨p,H0,own,ρ,P,E,t,q⟩
 exact⟨p,H0,own,ρ,P,E,w _ _ t,q⟩)
theorem PDA.wk {t t':DA} (h:PDA X es t) (w:∀ ρ P,t' ρ P->t ρ P):PDA X es t':=PA.wk h (by
 rintro σ H Q ⟨p,H0,own,ρ,P,E,t,q⟩
 exact⟨p,H0,own,ρ,P,E,w _ _ t,q⟩)
theorem Bb {ρ:List Sl}:∀ {ts:Tms}{ks:List (Kd×D)}{n:Nat},jQ n ts=true->jw ρ ts=some ks->ks.length<=n
 | .nil,ks,n,_,e=>by
  simp only [jw] at e
  cases e
  exact Nat.zero_le _
 | .cons t ts,ks,0,h,e=>by simp [jQ] at h
 | .cons t ts,ks,n+1,h,e=>by
  simp only [jQ,Bool.and_eq_true] at h
  simp only [jw] at e
  cases e1:evT ρ t with
  | none=>rw [e1] at e; cases e
  | some k =>
   cases e2:jw ρ ts with
   | none=>rw [e1,e2] at e; cases e
   | some ks' =>
    rw [e1,e2] at e
    cases e
    have:=Bb h.2 e2
    rw [List.length_cons]
    omega
theorem BK {N:List Str}{sc:Scope}{t:Tm} (h:okT N sc t e=true):zS X e es:=by
 cases e <;> first
  | rfl
  | (cases t <;> simp [okT] at h)
section
variable {N:List Str}{sc:Scope}
theorem Mw {i:Int} (h:okT N sc (Tm.int i) e=true):∃ k p,e=.Constant (.int i) k p:=by
 generalize ht:(Tm.int i)=t at h
 unfold okT at h
 split at h <;> first
  | exact absurd h Bool.false_ne_true
  | (cases ht; rw [beq_iff_eq] at h; subst h; exact⟨_,_,rfl⟩)
  | cases ht
theorem QX {i:Bool} (h:okT N sc (Tm.bl i) e=true):∃ k p,e=.Constant (.bool i) k p:=by
 generalize ht:(Tm.bl i)=t at h
 unfold okT at h
 split at h <;> first
  | exact absurd h Bool.false_ne_true
  | (cases ht; rw [beq_iff_eq] at h; subst h; exact⟨_,_,rfl⟩)
  | cases ht
theorem Mu (h:okT N sc Tm.non e=true):∃ k p,e=.Constant .none k p:=by
 generalize ht:Tm.non=t at h
 unfold okT at h
 split at h <;> first
  | exact absurd h Bool.false_ne_true
  | (cases ht; exact⟨_,_,rfl⟩)
  | cases ht
theorem Mt {i:Str} (h:okT N sc (Tm.str i) e=true):∃ k p,e=.Constant (.str i) k p:=by
 generalize ht:(Tm.str i)=t at h
 unfold okT at h
 split at h <;> first
  | exact absurd h Bool.false_ne_true
  | (cases ht; rw [beq_iff_eq] at h; subst h; exact⟨_,_,rfl⟩)
  | cases ht
theorem inv_neg {i:Int} (h:okT N sc (Tm.neg i) e=true):∃ k p q,e=.UnaryOp .USub (.Constant (.int i) k p) q:=by
 generalize ht:(Tm.neg i)=t at h
 unfold okT at h
 split at h <;> first
  | exact absurd h Bool.false_ne_true
  | (cases ht; rw [beq_iff_eq] at h; subst h; exact⟨_,_,_,rfl⟩)
  | cases ht
theorem Mq {i:Nat} (h:okT N sc (Tm.var i) e=true):∃ x p,e=.Name x p/\N[i]?=some x/\Vis sc x/\zB x/\(x == ("__classdict__":Str))=false:=by
 generalize ht:(Tm.var i)=t at h
 unfold okT at h
 split at h <;> first
  | exact absurd h Bool.false_ne_true
  | (cases ht; rw [Bool.and_eq_true,Bool.and_eq_true,Bool.and_eq_true,beq_iff_eq,Bool.not_eq_true',Bool.not_eq_true'] at h; exact⟨_,_,rfl,h.1,Ku h.2.1,h.2.2.1,h.2.2.2⟩)
  | cases ht
theorem Mv {ts:Tms} (h:okT N sc (Tm.lst ts) e=true):∃ es p,e=.List es p/\kE N sc ts es=true:=by
 generalize ht:(Tm.lst ts)=t at h
 unfold okT at h
 split at h <;> first
  | exact absurd h Bool.false_ne_true
  | (cases ht; exact⟨_,_,rfl,h⟩)
  | cases ht
theorem Mr {ts:Tms} (h:okT N sc (Tm.tup ts) e=true):∃ es k p,e=.Tuple es k p/\kE N sc ts es=true:=by
 generalize ht:(Tm.tup ts)=t at h
 unfold okT at h
 split at h <;> first
  | exact absurd h Bool.false_ne_true
  | (cases ht; exact⟨_,_,_,rfl,h⟩)
  | cases ht
theorem Mx (h:okT N sc Tm.dct e=true):∃ p,e=.Dict [] [] p:=by
 generalize ht:Tm.dct=t at h
 unfold okT at h
 split at h <;> first
  | exact absurd h Bool.false_ne_true
  | (cases ht; exact⟨_,rfl⟩)
  | cases ht
end
mutual
theorem Ag {N:List Str}{sc:Scope} (hN:X.N=N) (hs:X.env.scope=sc):∀ (t:Tm) (e:Expr),okT N sc t e=true->smT t=true->PD X e (Pg t)
 | .int i,e,h,_=>by
  obtain⟨k,p,rfl⟩:=Mw h
  exact PD.wk ao fun ρ P ⟨k,d,e,q⟩=>by simp only [evT] at e; cases e; exact q
 | .neg i,e,h,_=>by
  obtain⟨k,p,q,rfl⟩:=inv_neg h
  exact PD.wk (Hz ao) fun ρ P ⟨k,d,e,q⟩=>by simp only [evT] at e; cases e; exact q
 | .bl b,e,h,_=>by
  obtain⟨k,p,rfl⟩:=QX h
  exact PD.wk gG fun ρ P ⟨k,d,e,q⟩=>by simp only [evT] at e; cases e; exact q
 | .non,e,h,_=>by
  obtain⟨k,p,rfl⟩:=Mu h
  exact PD.wk qT fun ρ P ⟨k,d,e,q⟩=>by simp only [evT] at e; cases e; exact q
 | .str s,e,h,_=>by
  obtain⟨k,p,rfl⟩:=Mt h
  exact PD.wk aW fun ρ P ⟨k,d,e,q⟩=>by simp only [evT] at e; cases e; exact q
 | .var i,e,h,_=>by
  obtain⟨x,p,rfl,h1,h2,h3,h4⟩:=Mq h
  refine PD.wk (dv i (by rw [hN]; exact h1) (by rw [hs]; exact h2) h3 h4) fun ρ P ⟨k,d,e,q⟩=>?_
  simp only [evT] at e
  unfold tV
  split at e <;> first
   | (cases e; rename_i z; rw [z]; exact q)
   | cases e
 | .lst ts,e,h,s=>by
  obtain⟨es,p,rfl,h1⟩:=Mv h
  have s1:jQ 1000 ts=true:=by simpa only [smT] using s
  refine PD.wk (aM (vH hN hs ts es 1000 h1 s1)) fun ρ P ⟨k,d,e,q⟩=>?_
  simp only [evT] at e
  cases e1:jw ρ ts with
  | none=>rw [e1] at e; cases e
  | some ks =>
   rw [e1] at e
   cases e
   exact⟨ks,e1,Bb s1 e1,q⟩
 | .tup ts,e,h,s=>by
  obtain⟨es,k,p,rfl,h1⟩:=Mr h
  have s1:jQ 1000 ts=true:=by simpa only [smT] using s
  refine PD.wk (aC (vH hN hs ts es 1000 h1 s1)) fun ρ P ⟨k,d,e,q⟩=>?_
  simp only [evT] at e
  cases e1:jw ρ ts with
  | none=>rw [e1] at e; cases e
  | some ks =>
   rw [e1] at e
   cases e
   exact⟨ks,e1,Bb s1 e1,q⟩
 | .dct,e,h,_=>by
  obtain⟨p,rfl⟩:=Mx h
  exact PD.wk p7 fun ρ P ⟨k,d,e,q⟩=>by simp only [evT] at e; cases e; exact q
theorem vH {N:List Str}{sc:Scope} (hN:X.N=N) (hs:X.env.scope=sc):∀ (ts:Tms) (es:List Expr) (n:Nat),kE N sc ts es=true->jQ n ts=true->PDA X es (Vn ts)
 | .nil,es,n,h,_=>by
  cases es with
  | nil=>exact PDA.wk ak fun ρ P ⟨ks,e,q⟩=>by simp only [jw] at e; cases e; exact q
  | cons e es=>simp [kE] at h
 | .cons t ts,es,n,h,s=>by
  cases es with
  | nil=>simp [kE] at h
  | cons e es =>
   simp only [kE,Bool.and_eq_true] at h
   cases n with
   | zero=>simp [jQ] at s
   | succ n =>
    simp only [jQ,Bool.and_eq_true] at s
    refine PDA.wk (aj (Ag hN hs t e h.1 s.1) (vH hN hs ts es n h.2 s.2) (BK h.1)) fun ρ P ⟨ks,e,q⟩=>?_
    simp only [jw] at e
    cases e1:evT ρ t with
    | none=>rw [e1] at e; cases e
    | some k =>
     cases e2:jw ρ ts with
     | none=>rw [e1,e2] at e; cases e
     | some ks' =>
      rw [e1,e2] at e
      cases e
      exact⟨k.1,k.2,e1,ks',e2,q⟩
end
def Ro (ts:Tms) (t:DA):DA:=fun ρ P=>∃ ks,jw ρ ts=some ks/\t ρ fun ks'=>P (ks++ks')
theorem GF {N:List Str}{sc:Scope} (hN:X.N=N) (hs:X.env.scope=sc) {t2:DA}{es2:List Expr} (h2:PDA X es2 t2):∀ (ts:Tms) (es1:List Expr) (n:Nat),kE N sc ts es1=true->jQ n ts=true->PDA X (es1++es2) (Ro ts t2)
 | .nil,es,n,h,_=>by
  cases es with
  | nil=>exact PDA.wk h2 fun ρ P ⟨ks,e,q⟩=>by simp only [jw] at e; cases e; exact q
  | cons e es=>simp [kE] at h
 | .cons t ts,es,n,h,s=>by
  cases es with
  | nil=>simp [kE] at h
  | cons e es =>
   simp only [kE,Bool.and_eq_true] at h
   cases n with
   | zero=>simp [jQ] at s
   | succ n =>
    simp only [jQ,Bool.and_eq_true] at s
    refine PDA.wk (aj (Ag hN hs t e h.1 s.1) (GF hN hs h2 ts es n h.2 s.2) (BK h.1)) fun ρ P ⟨ks,e,q⟩=>?_
    simp only [jw] at e
    cases e1:evT ρ t with
    | none=>rw [e1] at e; cases e
    | some k =>
     cases e2:jw ρ ts with
     | none=>rw [e1,e2] at e; cases e
     | some ks' =>
      rw [e1,e2] at e
      cases e
      exact⟨k.1,k.2,e1,ks',e2,q⟩
theorem zN (N:List Str) (sc:Scope) (tm:Tm) (h:okT N sc tm e=true) (hN:X.N=N:=by rfl) (hs:X.env.scope=sc:=by rfl) (s:smT tm=true:=by decide +kernel):PD X e (Pg tm):=Ag hN hs tm e h s
theorem pW (n:Nat) (N:List Str) (sc:Scope) (ts:Tms) {t2:DA} (h2:PDA X (es.drop n) t2) (h:kE N sc ts (es.take n)=true) (hN:X.N=N:=by rfl) (hs:X.env.scope=sc:=by rfl) (s:jQ 1000 ts=true:=by decide +kernel):PDA X es (Ro ts t2):=by
 have r:=GF hN hs h2 ts (es.take n) 1000 h s
 rw [List.take_append_drop] at r
 exact r
end
end Dl
namespace L2
open PySem PySem.Spec PyProof.Rows HT
section
variable {X:Cx}{e:Expr}{te:TE}{p1 p2 p3 pos:Pos}
def RD (K:W.Frag) (te:TE):TE:=fun σ H Q=>te σ H fun x H1=>∃ a xs,x=.ref a/\SqL K H1 a xs/\∀ p,H1 p=none->Q (.ref p) (upd H1 p (.lst xs.reverse))
theorem Li (he:PE X e te):PE X (.Subscript e (.Slice none none (some (.UnaryOp .USub (.Constant (.int 1) 0 p1) p2)) p3) pos) (RD X.K te):=by
 intro pins s σ H Q I h
 refine Subscript_ (thn (he pins s σ H _ I h) fun v s1 ⟨x,H1,I1,r1,a,xs,ex,hx,q⟩=>?_)
 subst ex
 cases r1
 refine wpAny_Slice ?_
 rw [evalPart_none,evalPart_some]
 refine wpAny_pure (wpAny_pure ?_)
 refine UnaryOp_ (wpAny_Constant_int ?_)
 refine neg_int ?_
 have I2:Inv X pins σ H1 { s1 with toks:=s1.toks+1+1 }:=I1.tok _
 have I4:Inv X pins σ H1 { s1 with heap:=s1.heap.push { cls:=.type "slice",data:=.fields #[.none,.none,.int (-1) (s1.toks+1)] },toks:=s1.toks+1+1 }:=I2.kept fun b ob q=>Heap.get?_push_of_some _ q
 obtain⟨its,r,ht,hz⟩:=I4.list hx
 have hlen:its.toArray.size=xs.length:=by rw [List.size_toArray]; exact r.length.symm
 show wpAny (model X.prog X.w) X.A (subscriptTail e _ (.ref a) (.ref s1.heap.objs.size)) (EP X pins σ Q) X.xe { s1 with heap:=s1.heap.push { cls:=.type "slice",data:=.fields #[.none,.none,.int (-1) (s1.toks+1)] },toks:=s1.toks+1+1 }
 refine tail_any (ops:=[.ref a,.ref s1.heap.objs.size]) ht.isList.typeIs slot_list_getitem.lookup ?_ (by with_unfolding_all rfl)
 refine wpAny_getItem_list_slice ht.isList (Heap.IsSliceOf.new ..) .none .none (.int (-1) _) (by simp) ?_ (by rw [hlen]; exact hz)
 rw [W.krv_pick]
 refine⟨.ref _,_,I4.laid (t':=s1.toks+1+1) (o:=.lst xs.reverse) (fun b ob q=>Heap.get?_push_of_some _ q) (Nat.le_refl _) ?_,rfl,q _ (I4.hok.fresh (Nat.le_refl _))⟩
 refine⟨by rw [List.length_reverse]; exact hz,its.reverse,0,r.reverse,?_⟩
 exact Heap.get?_push_size _ rfl
end
end L2
namespace Dl
open PySem L2 PyProof.Rows
variable [Gr]
section
variable {X:Cx}{pos p1 p2 p3:Pos}{a b e:Expr}{es:List Expr}{ta tb te:DE}{t:DA}
theorem Rps.rev {ok:Addr->Prop}{H:Hp}:∀ {vs:List V}{ds:List D},Rps ok H vs ds->Rps ok H vs.reverse ds.reverse
 | _,_,.nil=>.nil
 | _,_,.cons h t=>by
  rw [List.reverse_cons,List.reverse_cons]
  exact (Rps.rev t).snoc h
def Ry (te:DE):DE:=fun ρ P=>te ρ fun k d=>match d with
 | .list ds=>newP k ds.reverse fun k'=>P k' (.list ds.reverse)
 | _=>False
theorem u0 (he:PD X e te):PD X (.Subscript e (.Slice none none (some (.UnaryOp .USub (.Constant (.int 1) 0 p1) p2)) p3) pos) (Ry te):=PE.wk (Li he) (by
 rintro σ H Q ⟨p,H0,own,ρ,P,E,t,q⟩
 refine⟨p,H0,own,ρ,_,E,t,fun k d v H1 h A r=>?_⟩
 cases d with
 | list ds =>
  obtain⟨x,xs,e1,o,h1,rs⟩:=Rp.cM r
  subst e1
  refine⟨x,xs,rfl,SqL.of h1,fun l hl=>?_⟩
  obtain⟨k2,i2,nw⟩:=A.new hl (.lst xs.reverse)
  obtain⟨k',hk',rk'⟩:=jJ A (cB A k2 rs.rev) nw aB h
  exact q _ _ _ _ hk' (A.go k2 i2) rk'
 | _=>exact h.elim)
def Uq (te:DE) (tl th:DO):DE:=fun ρ P=>te ρ fun k d=>tl ρ fun lo=>th ρ fun hi=>match d with
 | .list ds=>newP k (gb ds lo hi) fun k'=>P k' (.list (gb ds lo hi))
 | .tuple ds=>¬ (HT.sIx ds.length 0 lo=0/\HT.sIx ds.length ds.length hi=ds.length)/\P (norm k (.tuple (gb ds lo hi))) (.tuple (gb ds lo hi))
 | _=>False
end
variable [Gr]
abbrev IM:=List (Int×D)
def kvD (m:IM):List (D×D):=m.map fun p=>(PyData.int p.1,p.2)
def iI (m:IM) (k:Int):Bool:=m.any fun p=>decide (p.1=k)
def jR (m:IM) (k:Int) (d:D):IM:=if iI m k=true then m.map (fun p=>if p.1=k then (p.1,d) else p) else m++[(k,d)]
def pN (m:IM):Bool:=m.all fun p=>dZ p.2
theorem Jh {k:Key}{i:Int} (h:kD k=.int i):k=.inl i:=by
 cases k with
 | inl j=>cases h; rfl
 | inr x=>cases h
theorem Rkv.kv:∀ {ok:Addr->Prop}{H:Hp}{kvs:List (Key×V)}{m:IM},Rkv ok H kvs (kvD m)->∃ vs:List V,kvs=(m.map (·.1)).zipWith (fun i v=>(Sum.inl i,v)) vs/\Rps ok H vs (m.map (·.2))
 | _,_,_,[],h=>by cases h; exact⟨[],rfl,.nil⟩
 | _,_,_,p::m,h=>by
  unfold kvD at h
  rw [List.map_cons] at h
  generalize hk:PyData.int p.1=kk at h
  cases h with
  | cons h t =>
   rename_i k v vs0
   obtain⟨vs,rfl,r⟩:=Rkv.kv (m:=m) t
   have e:=Jh hk.symm
   subst e
   exact⟨v::vs,rfl,.cons h r⟩
theorem vK:∀ {m:IM}{vs:List V} (k:Int),vs.length=m.length->(((m.map (·.1)).zipWith (fun i v=>((Sum.inl i:Key),v)) vs).any fun kv=>decide (kv.1=Sum.inl k))=iI m k
 | [],[],_,_=>rfl
 | p::m,v::vs,k,h=>by
  have ih:=vK (m:=m) (vs:=vs) k (by simpa using h)
  have e:decide ((Sum.inl p.1:Key)=Sum.inl k)=decide (p.1=k):=by
   by_cases c:p.1=k <;> simp [c]
  show (decide ((Sum.inl p.1:Key)=Sum.inl k) || _)=(decide (p.1=k) || _)
  rw [e]
  exact congrArg _ ih
 | [],_::_,_,h=>by cases h
 | _::_,[],_,h=>by cases h
theorem Gp {kvs:List (Key×V)}{k:Key}:(nO kvs k).isSome=kvs.any fun kv=>decide (kv.1=k):=by
 induction kvs with
 | nil=>rfl
 | cons p r ih =>
  unfold nO at ih ⊢
  rw [List.find?_cons,List.any_cons]
  cases h:decide (p.1=k) with
  | true=>rfl
  | false=>exact ih
theorem Ml:∀ {m:IM}{vs:List V}{k:Int}{v:V}{ok:Addr->Prop}{H:Hp}{d:D},Rps ok H vs (m.map (·.2))->Rp ok H v d->Rkv ok H (putK ((m.map (·.1)).zipWith (fun i v=>((Sum.inl i:Key),v)) vs) (Sum.inl k) v) (kvD (jR m k d)):=by
 intro m vs k v ok H d rs rv
 have hl:vs.length=m.length:=by rw [rs.length,List.length_map]
 have all:∀ {m:IM}{vs:List V},Rps ok H vs (m.map (·.2))->Rkv ok H ((m.map (·.1)).zipWith (fun i v=>((Sum.inl i:Key),v)) vs) (kvD m):=by
  intro m
  induction m with
  | nil=>intro vs r; cases r; exact .nil
  | cons p m ih =>
   intro vs r
   cases r with
   | cons h t=>exact .cons (k:=Sum.inl p.1) h (ih t)
 unfold putK jR
 rw [vK k hl]
 by_cases c:iI m k=true
 ·rw [if_pos c,if_pos c]
  clear c hl
  induction m generalizing vs with
  | nil=>cases rs; exact .nil
  | cons p m ih =>
   cases rs with
   | cons h t =>
    have:=ih t
    by_cases cp:p.1=k
    ·have e1:(Sum.inl p.1:Key)=Sum.inl k:=by rw [cp]
     show Rkv ok H ((if (Sum.inl p.1:Key)=Sum.inl k then ((Sum.inl p.1:Key),v) else (Sum.inl p.1,_))::_) (kvD ((if p.1=k then (p.1,d) else p)::_))
     rw [if_pos e1,if_pos cp]
     exact .cons (k:=Sum.inl p.1) rv this
    ·have e1:¬ ((Sum.inl p.1:Key)=Sum.inl k):=fun z=>cp (Sum.inl.inj z)
     show Rkv ok H ((if (Sum.inl p.1:Key)=Sum.inl k then ((Sum.inl p.1:Key),v) else (Sum.inl p.1,_))::_) (kvD ((if p.1=k then (p.1,d) else p)::_))
     rw [if_neg e1,if_neg cp]
     exact .cons (k:=Sum.inl p.1) h this
 ·rw [if_neg c,if_neg c]
  have app:∀ {a b:List (Key×V)}{x y:List (D×D)},Rkv ok H a x->Rkv ok H b y->Rkv ok H (a++b) (x++y):=by
   intro a b x y h1 h2
   induction a generalizing x with
   | nil=>cases h1; exact h2
   | cons p a ih=>cases h1 with | cons h t=>exact .cons h (ih t)
  unfold kvD
  rw [List.map_append]
  exact app (all rs) (.cons (k:=Sum.inl k) rv .nil)
section
variable {X:Cx}{pos pos' p2:Pos}{a b e:Expr}{ta tb te tj tm:DE}{st st2:Stmt}{rest:List Stmt}{ti:DI}{g:DG}{t:DS}
def tD1 (ta tb:DE):DE:=fun ρ P=>ta ρ fun _ d1=>tb ρ fun k2 d2=>match d1 with
 | .int i=>(norm k2 d2).le .new=true/\P .new (.dict (kvD [(i,d2)]))
 | _=>False
theorem qW (ha:PD X a ta) (hb:PD X b tb):PD X (.Dict [some a] [b] pos) (tD1 ta tb):=PE.wk (Lj (Hf ha hb La) rfl rfl (by intro z; cases z) (by show 1<=15; decide)) (by
 rintro σ H Q ⟨p,H0,own,ρ,P,E,t,q⟩
 intro c hc
 have A0:=E.at
 obtain⟨k0,i0,nw⟩:=A0.new hc (.dK [])
 have nf:=A0.nfb hc
 refine⟨p,H0,own,ρ,_,E.go k0 i0,t,fun k1 d1 v1 H1 t1 A1 r1=>?_⟩
 refine⟨p,H0,own,ρ,_,(E.go k0 i0).go A1.kp A1.pen,t1,fun k2 d2 v2 H2 t2 A2 r2=>?_⟩
 have h1:H1 c=some (.dK []):=A1.kp c _ aB nf
 have h2:H2 c=some (.dK []):=A2.kp c _ h1 nf
 refine⟨h2,?_⟩
 cases d1 with
 | int i =>
  have e1:=Rp.int' r1
  subst e1
  refine⟨[(Sum.inl i,v2)],rfl,(by show 1<=15; decide),?_⟩
  show Q (.ref c) (upd H2 c (.dK [(Sum.inl i,v2)]))
  have K:Kp p H (upd H2 c (.dK [(Sum.inl i,v2)])):=fun x o ex nx=>by
   rw [au (aD ex hc)]
   exact A2.kp x o (A1.kp x o (by rw [au (aD ex hc)]; exact ex) nx) nx
  have PIf:p.PI (upd H2 c (.dK [(Sum.inl i,v2)])):=p.mono H2 _ A2.pen fun x o fx ex=>by
   rw [au (fun z:x=c=>nf (by rw [← z]; exact fx))]; exact ex
  refine q _ _ _ _ t2.2 ⟨A0.k0,K,A0.penb,PIf,A0.ow⟩ (.dct nw aB (.cons (k:=Sum.inl i) ?_ .nil))
  have rn:Rp (okK p H0 own H1 .new) H2 v2 d2:=iW A2 t2.1 (bf r2)
  refine rn.cW (fun x o n ex=>⟨?_,?_⟩) fun x xs ex=>?_
  ·have n:H1 x=none:=n
   cases hx:H x with
   | none=>exact hx
   | some u =>
    have:=A1.kp x u (by rw [au (aD hx hc)]; exact hx) (A2.nfb n)
    rw [n] at this
    cases this
  ·have n:H1 x=none:=n
   rw [au (fun z=>by rw [z,h1] at n; cases n)]
   exact ex
  ·rw [au (fun z=>by rw [z,h2] at ex; cases ex)]
   exact ex
 | _=>exact t2.elim)
def MK (neg:Bool):G2:=fun _ d1 _ d2 P=>match d1,d2 with
 | .int k,.dict ds=>∃ m:IM,ds=kvD m/\P .imm (.bool (if neg then !(iI m k) else iI m k))
 | _,_=>False
theorem Rp.Ri {ok:Addr->Prop}{H:Hp}{v:V}{ds:List (D×D)} (r:Rp ok H v (.dict ds)):∃ a kvs,v=.ref a/\ok a/\H a=some (.dK kvs)/\Rkv ok H kvs ds:=by
 cases r with
 | dct o h r=>exact⟨_,_,rfl,o,h,r⟩
theorem xZ:∀ σ H Q,bL (t2 (MK true) ta tb) σ H Q->Bx (bL ta) (bL tb) σ H Q:=by
 rintro σ H Q ⟨p,H0,own,ρ,P,E,t,q⟩
 refine⟨p,H0,own,ρ,_,E,t,fun k1 d1 v1 H1 t1 A1 r1=>?_⟩
 refine⟨p,H0,own,ρ,_,E.go A1.kp A1.pen,t1,fun k2 d2 v2 H2 t2 A2 r2=>?_⟩
 have A:=A1.base A2
 unfold MK at t2
 split at t2
 ·rename_i k ds
  obtain⟨m,rfl,t2⟩:=t2
  have e1:=Rp.int' r1
  subst e1
  obtain⟨c,kvs,rfl,o,hc,rk⟩:=Rp.Ri r2
  obtain⟨vs,rfl,rs⟩:=rk.kv
  refine⟨c,_,rfl,Kq.k (k:=Sum.inl k) hc,?_⟩
  rw [Gp,vK k (by rw [rs.length,List.length_map])]
  exact q _ _ _ _ t2 A (.bl _)
 ·exact t2.elim
theorem hu1 (hu:X.A.units+64<cLine):X.A.units+1<cLine:=by omega
theorem gZ (hu:X.A.units+64<cLine) (ha:PD X a ta) (hb:PD X b tb) (hm:behindInMarks .NotIn b=false:=by rfl):PDT X (.Compare a [.NotIn] [b] pos) (dW (t2 (MK true) ta tb)):=PT.wk (Qg (Em (hu1 hu) ha hb) hm) fun σ H Q q=>xZ σ H _ (by
 obtain⟨p,H0,own,ρ,P,E,t,q⟩:=q
 refine⟨p,H0,own,ρ,_,E,t,fun k d v H' h A r=>?_⟩
 cases d with
 | bool b=>exact⟨b,Rp.bl' r,q b H' h A⟩
 | _=>exact h.elim)
def JW (i:Nat) (tk tv:DE):DS:=fun P ρ=>match ρ[i]? with
 | some (.dw r (.dict ds))=>tv ρ fun _ dv=>tk ρ fun _ dk=>match dk with
  | .int k=>∃ m:IM,ds=kvD m/\dZ dv=true/\pN m=true/\m.length<1000/\P.nx ((forget r ρ).set i (.dw r (.dict (kvD (jR m k dv)))))
  | _=>False
 | _=>False
theorem yu {ok:Addr->Prop}{H:Hp}:∀ {m:IM}{vs:List V},pN m=true->Rps ok H vs (m.map (·.2))->Rps (fun _=>False) H vs (m.map (·.2))
 | [],_,_,.nil=>.nil
 | p::m,_,h,.cons r t=>by
  unfold pN at h
  rw [List.all_cons,Bool.and_eq_true] at h
  exact .cons (r.imm h.1) (yu (m:=m) h.2 t)
theorem qg {i:Nat}{tk tv:DE} (h:PS X st (Ny (j7 i) (bL tk) (bL tv))):PDS X st (JW i tk tv):=PS.wk' h (by
 rintro Q σ H ⟨p,H0,own,ρ,P,E,t,w⟩
 unfold JW at t
 split at t
 ·rename_i r ds hr
  obtain⟨v,hv,_⟩:=E.slot i _ hr
  refine⟨p,H0,own,ρ,_,E,t,fun kv dv vv H1 t1 A1 r1=>?_⟩
  have E1:=E.go A1.kp A1.pen
  refine⟨v,hv,p,H0,own,ρ,_,E1,t1,fun kk dk vk H2 t2 A2 r2=>?_⟩
  have E2:=E1.go A2.kp A2.pen
  cases dk with
  | int k =>
   obtain⟨m,rfl,im,imm,hlen,nx⟩:=t2
   obtain⟨v',hv',x⟩:=E2.slot i _ hr
   rw [hv] at hv'
   cases hv'
   obtain⟨l,kvs,rfl,o,hl,rk⟩:=Rp.Ri x
   obtain⟨vs,rfl,rs⟩:=rk.kv
   have ek:=Rp.int' r2
   subst ek
   have h24:=sizeLine_eq
   have rs0:=yu imm rs
   have rv0:Rp (fun _=>False) H2 vv dv:=(jX A1 A2.kp r1).imm im
   have ln:((m.map (·.1)).zipWith (fun i v=>((Sum.inl i:Key),v)) vs).length=m.length:=by
    rw [List.length_zipWith,List.length_map,rs.length,List.length_map,Nat.min_self]
   refine⟨l,_,rfl,Ko.k (k:=Sum.inl k) hl (by rw [ln]; omega),?_⟩
   have rp:=Ml (k:=k) rs0 rv0
   generalize putK ((m.map (·.1)).zipWith (fun i v=>((Sum.inl i:Key),v)) vs) (Sum.inl k) vv=kvs' at rp
   have tp:∀ a xs,H2 a=some (.tup xs)->upd H2 l (.dK kvs') a=some (.tup xs):=fun a xs e=>by
    rw [au (fun z=>by rw [z,hl] at e; cases e)]; exact e
   have E3:=(E2.write (o':=.dK kvs') o hl fun xs z=>nomatch z).put (v:=.ref l) (i:=i) (s:=.dw r (.dict (kvD (jR m k dv)))) ⟨_,hv,.dct o aB (rp.mono (fun _ o=>o.elim) (fun _ _ o=>o.elim) tp)⟩
   exact w.nx _ σ _ _ E3 ((A1.frs.trans A2.frs).trans (gC o hl fun xs z=>nomatch z)) nx
  | _=>exact t2.elim
 ·exact t.elim)
def Rx (te:DE):DT:=fun ρ P=>te ρ fun _ d=>match d with
 | .list ds=>P (!ds.isEmpty)
 | .tuple ds=>P (!ds.isEmpty)
 | .bool b=>P b
 | _=>False
theorem JF {ok:Addr->Prop}{H:Hp}{vs:List V}{ds:List D} (r:Rps ok H vs ds):(!vs.isEmpty)=!ds.isEmpty:=by
 cases r <;> rfl
theorem uY (h:PD X e te) (he:∀ whole,isTrue e X.env whole=(do let v ← whole; standAt e.pos; holding [v] (truthy v)):=by intro _; rfl):PDT X e (Rx te):=PT.wk (G3 h he) (by
 rintro σ H Q ⟨p,H0,own,ρ,P,E,t,q⟩
 refine⟨p,H0,own,ρ,_,E,t,fun k d v H' h A r=>?_⟩
 cases d with
 | list ds =>
  obtain⟨c,vs,rfl,o,hc,rs⟩:=Rp.cM r
  exact⟨_,.inl ⟨vs,SqL.of hc,rfl⟩,by rw [JF rs]; exact q _ _ h A⟩
 | tuple ds =>
  obtain⟨c,vs,rfl,hc,rs⟩:=Rp.dU r
  exact⟨_,.inr (.inl ⟨vs,SqT.of hc,rfl⟩),by rw [JF rs]; exact q _ _ h A⟩
 | bool b =>
  have e:=Rp.bl' r
  subst e
  exact⟨b,rfl,q _ _ h A⟩
 | _=>exact h.elim)
end
variable [Gr]
section
variable {X:Cx}{te te1 te2 tj tm:DE}{st st2:Stmt}{rest:List Stmt}{t:DS}
end
variable [Gr]
section
variable {X:Cx}{te tj:DE}{st:Stmt}{t:DS}
end
end Dl
namespace L2
open PySem PySem.Spec PyProof.Rows
end L2
namespace Dl
open PySem L2 PyProof.Rows
variable [Gr]
section
variable {X:Cx}{tg:Expr}{pos:Pos}{ta:DA}
end
section
variable {X:Cx}
theorem Ga (hc:X.calm=true):bO X (.builtin "min") (fun xs H Q=>∃ (p:Addr) (ns:List Int),xs=[.ref p]/\SqL X.K H p (ns.map V.int)/\ns≠[]/\∀ M,M∈ns->(∀ a∈ns,M<=a)->Q (.int M) H):=by
 intro pins s σ H xs us Q I r h
 obtain⟨p,ns,rfl,hp,hne,q⟩:=h
 obtain⟨u,rfl,rx⟩:=vals1 r
 cases rx
 obtain⟨its,rv,pl,hz⟩:=I.list hp
 have hi:IntsAre its ns:=intsAre_of rv
 obtain⟨zs,e⟩:=hi.allInts.items
 have hns:ns=zs.toList.map (·.1):=by rw [← hi.numsOf,← nums_intItems,← e]
 have hsz:0<zs.size:=by
  have h3:=List.length_pos_iff.mpr hne
  rw [hns,List.length_map,Array.length_toList] at h3; exact h3
 have hl:=pl.isList
 rw [e] at hl
 refine min_intList (I.ok.hd hc) hl hsz fun v h' tk hv hk=>?_
 obtain⟨t,rfl⟩:=intItems_at hv
 obtain⟨h1,h2⟩:=argBest_lt (numAt zs) (zs.size - 1)
 refine⟨.int _,H,I.kept fun b o eb=>hk b o eb,⟨_,rfl⟩,q _ ?_ fun a ha=>?_⟩
 ·rw [hns,numAt_eq]; refine getD_mem ?_; rw [List.length_map,Array.length_toList]; omega
 ·rw [hns] at ha
  obtain⟨j,hj,rfl⟩:=mem_getD ha
  rw [List.length_map,Array.length_toList] at hj
  have h3:=h2 j (by omega)
  rw [← numAt_eq]; exact h3
theorem Ge (hc:X.calm=true):bO X (.builtin "max") (fun xs H Q=>∃ (p:Addr) (ns:List Int),xs=[.ref p]/\SqL X.K H p (ns.map V.int)/\ns≠[]/\∀ M,M∈ns->(∀ a∈ns,a<=M)->Q (.int M) H):=by
 intro pins s σ H xs us Q I r h
 obtain⟨p,ns,rfl,hp,hne,q⟩:=h
 obtain⟨u,rfl,rx⟩:=vals1 r
 cases rx
 obtain⟨its,rv,pl,hz⟩:=I.list hp
 have hi:IntsAre its ns:=intsAre_of rv
 obtain⟨zs,e⟩:=hi.allInts.items
 have hns:ns=zs.toList.map (·.1):=by rw [← hi.numsOf,← nums_intItems,← e]
 have hsz:0<zs.size:=by
  have h3:=List.length_pos_iff.mpr hne
  rw [hns,List.length_map,Array.length_toList] at h3; exact h3
 have hl:=pl.isList
 rw [e] at hl
 refine max_intList (I.ok.hd hc) hl hsz fun v h' tk hv hk=>?_
 obtain⟨t,rfl⟩:=intItems_at hv
 obtain⟨h1,h2⟩:=argBest_gt (numAt zs) (zs.size - 1)
 refine⟨.int _,H,I.kept fun b o eb=>hk b o eb,⟨_,rfl⟩,q _ ?_ fun a ha=>?_⟩
 ·rw [hns,numAt_eq]; refine getD_mem ?_; rw [List.length_map,Array.length_toList]; omega
 ·rw [hns] at ha
  obtain⟨j,hj,rfl⟩:=mem_getD ha
  rw [List.length_map,Array.length_toList] at hj
  have h3:=h2 j (by omega)
  rw [← numAt_eq]; exact h3
theorem FT (hc:X.calm=true):bO X (.builtin "sum") (fun xs H Q=>∃ (p:Addr) (ns:List Int),xs=[.ref p]/\SqT X.K H p (ns.map V.int)/\ns.length<=1000/\(∀ x∈ns,-1000000<=x/\x<=1000000)/\Q (.int ns.sum) H):=by
 intro pins s σ H xs us Q I r h
 obtain⟨p,ns,rfl,hp,hl,hs,q⟩:=h
 obtain⟨u,rfl,rx⟩:=vals1 r
 cases rx
 obtain⟨its,rv,pl,hz⟩:=I.tuple hp
 have hlen:its.length=ns.length:=by have:=rv.length; rw [List.length_map] at this; exact this.symm
 have hltp:p<s.heap.objs.size:=by obtain⟨o,ho,_⟩:=pl; exact Heap.lt_size ho
 have at':∀ i v,its[i]?=some v->∃ t,v=Value.int (ns.getD i 0) t:=fun i v e=>by
  have hi:i<its.length:=(List.getElem?_eq_some_iff.mp e).1
  have hv:(ns.map V.int)[i]?=some (V.int ns[i]):=by rw [List.getElem?_map,List.getElem?_eq_getElem (show i<ns.length by omega)]; rfl
  obtain⟨u,eu,ru⟩:=rv.get hv
  rw [e] at eu
  cases eu
  obtain⟨t,rfl⟩:=ru
  exact⟨t,by rw [List.getD_eq_getElem?_getD,List.getElem?_eq_getElem (show i<ns.length by omega)]; rfl⟩
 refine call_sum_walk (wpAny_pyIter_tuple pl ?_)
 refine⟨_,_,_,_,_,_,fun i=>ns.getD i 0,rfl,Walks.tuple (A:=X.A.in1) (I.ok.hd hc) _ p (Nat.ne_of_lt hltp) _,⟨⟨_,Heap.get?_push_size _ rfl,rfl,rfl⟩,pl.push _⟩,?_,fun i v e=>at' i v (by simpa using e),fun j hj=>?_,fun h' tk t' hk=>?_⟩
 ·intro b hb
  show b<(s.heap.push _).objs.size
  rw [Heap.size_push]
  simp at hb
  rcases hb with rfl | rfl
  ·exact Nat.lt_succ_self _
  ·exact Nat.lt_succ_of_lt hltp
 ·have hj:j<ns.length:=by simpa [hlen] using hj
  have e:ns.getD j 0=ns[j]:=by rw [List.getD_eq_getElem?_getD,List.getElem?_eq_getElem hj]; rfl
  have b1:=hs _ (List.getElem_mem hj)
  have b2:=nQ (ns.take (j+1)) 1000000 fun x hx=>hs x (List.mem_of_mem_take hx)
  have b3:(ns.take (j+1)).length<=1000:=by rw [List.length_take]; omega
  rw [lJ ns (j+1) hj]
  refine⟨?_,?_⟩
  ·show -(2 ^ 63)<=ns.getD j 0/\ns.getD j 0<2 ^ 63
   rw [e]
   omega
  ·show -(2 ^ 63)<=(ns.take (j+1)).sum/\(ns.take (j+1)).sum<2 ^ 63
   omega
 ·have e:PySem.preSum (fun i=>ns.getD i 0) its.toArray.size=ns.sum:=by
   rw [List.size_toArray,hlen,lJ ns ns.length (Nat.le_refl _),List.take_length]
  rw [e]
  refine⟨.int ns.sum,H,I.kept fun b o eb=>hk b o ?_ (Heap.get?_push_of_some _ eb),⟨_,rfl⟩,q⟩
  intro hm
  have:b=s.heap.objs.size:=by simpa using hm
  exact absurd (this ▸ Heap.lt_size eb) (Nat.lt_irrefl _)
end
section
variable {prog:Program}{w:World}{A:Around}{E:Value->Shared->Prop}
end
section
variable {X:Cx}{pos:Pos}
variable [Gr]
end
section
variable {X:Cx}{pos:Pos}{a:Expr}{t:DA} [Gr]
def Ft (f:Int->Int->Int) (le:Int->Int->Prop):GC:=fun ks P=>match ks with
 | [(_,.tuple [.int i,.int j])]=>P .imm (.int (f i j))
 | [(_,.list ds)]=>∃ ns:List Int,ds=ns.map PyData.int/\ns≠[]/\∀ M,M∈ns->(∀ a∈ns,le M a)->P .imm (.int M)
 | _=>False
theorem u9 {ps:Pos} (hc:X.calm=true) (hm:X.mg "min"=none) (ha:PDA X [a] t) (hg:Gl X "min":=by rfl) (he:zS X a []:=by rfl) (hpl:zP X pos []:=by rfl):PD X (.Call (.Name "min" ps) [a] [] pos) (tCl (Ft (fun i j=>if j<i then j else i) (fun M a=>M<=a)) t) :=
 cZ (bO.or (FZ hc) (Ga hc)) (by
  intro p H0 own Hb H vs ks P Q A r t q
  unfold Ft at t
  split at t
  ·rename_i k i j
   obtain⟨v,rfl,r'⟩:=dG r
   obtain⟨x,xs,e1,h1,rs1⟩:=Rp.dU r'
   obtain⟨v1,v2,e2,q1,q2⟩:=Rps.two rs1
   subst e1 e2
   rw [q1.int',q2.int'] at h1
   exact .inl ⟨x,i,j,rfl,SqT.of h1,q _ _ _ _ t Kp.refl A.pen (.int _)⟩
  ·obtain⟨ns,rfl,hne,t⟩:=t
   obtain⟨v,rfl,r'⟩:=dG r
   obtain⟨x,xs,e1,o1,h1,rs1⟩:=Rp.cM r'
   subst e1
   have e2:=Rps.ints rs1
   subst e2
   exact .inr ⟨x,ns,rfl,SqL.of h1,hne,fun M h1 h2=>q _ _ _ _ (t M h1 h2) Kp.refl A.pen (.int _)⟩
  ·exact t.elim) hg hm boot_min ha (by decide) (by decide) he hpl
theorem vd {ps:Pos} (hc:X.calm=true) (hm:X.mg "max"=none) (ha:PDA X [a] t) (hg:Gl X "max":=by rfl) (he:zS X a []:=by rfl) (hpl:zP X pos []:=by rfl):PD X (.Call (.Name "max" ps) [a] [] pos) (tCl (Ft (fun i j=>if j > i then j else i) (fun M a=>a<=M)) t) :=
 cZ (bO.or (Gd hc) (Ge hc)) (by
  intro p H0 own Hb H vs ks P Q A r t q
  unfold Ft at t
  split at t
  ·rename_i k i j
   obtain⟨v,rfl,r'⟩:=dG r
   obtain⟨x,xs,e1,h1,rs1⟩:=Rp.dU r'
   obtain⟨v1,v2,e2,q1,q2⟩:=Rps.two rs1
   subst e1 e2
   rw [q1.int',q2.int'] at h1
   exact .inl ⟨x,i,j,rfl,SqT.of h1,q _ _ _ _ t Kp.refl A.pen (.int _)⟩
  ·obtain⟨ns,rfl,hne,t⟩:=t
   obtain⟨v,rfl,r'⟩:=dG r
   obtain⟨x,xs,e1,o1,h1,rs1⟩:=Rp.cM r'
   subst e1
   have e2:=Rps.ints rs1
   subst e2
   exact .inr ⟨x,ns,rfl,SqL.of h1,hne,fun M h1 h2=>q _ _ _ _ (t M h1 h2) Kp.refl A.pen (.int _)⟩
  ·exact t.elim) hg hm boot_max ha (by decide) (by decide) he hpl
def Jo:GC:=fun ks P=>match ks with
 | [(_,.list ds)]=>∃ ns:List Int,ds=ns.map PyData.int/\ns.length<=1000/\(∀ x∈ns,-1000000<=x/\x<=1000000)/\P .imm (.int ns.sum)
 | [(_,.tuple ds)]=>∃ ns:List Int,ds=ns.map PyData.int/\ns.length<=1000/\(∀ x∈ns,-1000000<=x/\x<=1000000)/\P .imm (.int ns.sum)
 | _=>False
theorem pX {ps:Pos} (hc:X.calm=true) (hm:X.mg "sum"=none) (ha:PDA X [a] t) (hg:Gl X "sum":=by rfl) (he:zS X a []:=by rfl) (hpl:zP X pos []:=by rfl):PD X (.Call (.Name "sum" ps) [a] [] pos) (tCl Jo t) :=
 cZ (bO.or (FW hc) (FT hc)) (by
  intro p H0 own Hb H vs ks P Q A r t q
  unfold Jo at t
  split at t
  ·obtain⟨ns,rfl,hl,hb,t⟩:=t
   obtain⟨v,rfl,r'⟩:=dG r
   obtain⟨x,xs,e1,o1,h1,rs1⟩:=Rp.cM r'
   subst e1
   have e2:=Rps.ints rs1
   subst e2
   exact .inl ⟨x,ns,rfl,SqL.of h1,hl,hb,q _ _ _ _ t Kp.refl A.pen (.int _)⟩
  ·obtain⟨ns,rfl,hl,hb,t⟩:=t
   obtain⟨v,rfl,r'⟩:=dG r
   obtain⟨x,xs,e1,h1,rs1⟩:=Rp.dU r'
   subst e1
   have e2:=Rps.ints rs1
   subst e2
   exact .inr ⟨x,ns,rfl,SqT.of h1,hl,hb,q _ _ _ _ t Kp.refl A.pen (.int _)⟩
  ·exact t.elim) hg hm boot_sum ha (by decide) (by decide) he hpl
def Ax:GC:=fun ks P=>match ks with
 | [(_,.dict ds)]=>∃ m:IM,ds=kvD m/\m.length<64/\∀ out:List Int,out.Perm (m.map (·.1))->out.Pairwise (·<=·)->P .new (.list (out.map PyData.int))
 | _=>False
theorem wU {ok:Addr->Prop}{H:Hp}:∀ {kvs:List (Key×V)}{ds:List (D×D)}{m:IM},Rkv ok H kvs ds->ds=kvD m->kvs.map (·.1)=(m.map (·.1)).map Sum.inl
 | _,_,[],.nil,_=>rfl
 | _,_,p::m,.cons h t,e=>by
  have e1:kD _=PyData.int p.1:=congrArg Prod.fst (List.cons.inj e).1
  have e2:=Jh e1
  rw [List.map_cons,List.map_cons,List.map_cons,wU (m:=m) t (List.cons.inj e).2,← e2]
 | _,_,[],.cons _ _,e=>nomatch e
 | _,_,_::_,.nil,e=>nomatch e
theorem qR {ps:Pos} (hc:X.calm=true) (hm:X.mg "sorted"=none) (ha:PDA X [a] t) (hg:Gl X "sorted":=by rfl) (he:zS X a []:=by rfl) (hpl:zP X pos []:=by rfl):PD X (.Call (.Name "sorted" ps) [a] [] pos) (tCl Ax t) :=
 cZ (wu hc) (by
  intro p H0 own Hb H vs ks P Q A r t q
  unfold Ax at t
  split at t
  ·obtain⟨m,rfl,hl,t⟩:=t
   obtain⟨v,rfl,r'⟩:=dG r
   obtain⟨x,kvs,e1,o1,h1,rs1⟩:=Rp.Ri r'
   subst e1
   refine⟨x,kvs,m.map (·.1),rfl,h1,wU rs1 rfl,by rw [List.length_map]; exact hl,fun l out hl' hp hs=>?_⟩
   obtain⟨k2,i2,nw⟩:=A.new hl' (.lst (out.map V.int))
   exact q _ _ _ _ (t out hp hs) k2 i2 (.lst nw aB (Rps.ofMap (fun i=>.int i) out))
  ·exact t.elim) hg hm boot_sorted ha (by decide) (by decide) he hpl
variable {b:Expr}{ta tb:DE}
end
section
variable {X:Cx}
theorem Gg (hc:X.calm=true):bO X (.builtin "any") (fun xs H Q=>∃ (p:Addr) (bs:List Bool),xs=[.ref p]/\SqL X.K H p (bs.map V.bl)/\Q (.bl (bs.any id)) H):=by
 intro pins s σ H xs us Q I r h
 obtain⟨p,bs,rfl,hp,q⟩:=h
 obtain⟨u,rfl,rx⟩:=vals1 r
 cases rx
 obtain⟨its,rv,pl,hz⟩:=I.list hp
 have e:=uO rv
 subst e
 have hlt:p≠s.heap.objs.size:=by obtain⟨o,ho,_⟩:=pl.isList; exact Nat.ne_of_lt (Heap.lt_size ho)
 refine call_any_walk (wpAny_pyIter_list pl.isList ?_)
 refine⟨_,_,_,_,_,_,fun i=>bs.getD i false,rfl,Walks.list (A:=X.A.in1) (I.ok.hd hc) _ p hlt _,⟨⟨_,Heap.get?_push_size _ rfl,rfl,rfl⟩,pl.isList.push _⟩,?_,fun h' tk hk=>?_⟩
 ·intro i v s Q E hP hQ
  have hP':(bs.map Value.bool)[i]?=some v:=by simpa using hP
  rw [List.getElem?_map] at hP'
  cases hb:bs[i]? with
  | none=>rw [hb] at hP'; cases hP'
  | some b =>
   rw [hb] at hP'
   cases hP'
   refine wpAny_truthy_bool ?_
   have e:bs.getD i false=b:=by rw [List.getD_eq_getElem?_getD,hb]; rfl
   have hQ':Q (bs.getD i false) s:=hQ
   rw [e] at hQ'
   exact hQ'
 ·have e:(List.range (bs.map Value.bool).toArray.size).any (fun i=>bs.getD i false)=bs.any id:=by
   rw [List.size_toArray,List.length_map,Bool.eq_iff_iff]
   simp only [List.any_eq_true,List.mem_range]
   constructor
   ·rintro ⟨i,hi,h⟩
    simp [hi] at h
    exact⟨bs[i],List.getElem_mem hi,h⟩
   ·rintro ⟨x,hx,h⟩
    obtain⟨i,hi,e⟩:=List.mem_iff_getElem.mp hx
    exact⟨i,hi,by simp [hi,e]; exact h⟩
  rw [e]
  refine⟨.bl (bs.any id),H,I.kept fun b o eb=>hk b o ?_ (Heap.get?_push_of_some _ eb),rfl,q⟩
  intro hm
  have:b=s.heap.objs.size:=by simpa using hm
  exact absurd (Heap.lt_size eb) (by rw [this]; exact Nat.lt_irrefl _)
end
section
variable {X:Cx}{pos:Pos}{a e:Expr}{te ta:DE}{t:DA}{st st2:Stmt}{rest:List Stmt} [Gr]
theorem boot_any:bootBuiltins "any"=some (.builtin "any"):=by decide +kernel
def Q6:GC:=fun ks P=>match ks with
 | [(_,.list ds)]=>∃ bs:List Bool,ds=bs.map PyData.bool/\P .imm (.bool (bs.any id))
 | _=>False
theorem zR {ps:Pos} (hc:X.calm=true) (hm:X.mg "any"=none) (ha:PDA X [a] t) (hg:Gl X "any":=by rfl) (he:zS X a []:=by rfl) (hpl:zP X pos []:=by rfl):PD X (.Call (.Name "any" ps) [a] [] pos) (tCl Q6 t) :=
 cZ (Gg hc) (by
  intro p H0 own Hb H vs ks P Q A r t q
  unfold Q6 at t
  split at t
  ·obtain⟨bs,rfl,t⟩:=t
   obtain⟨v,rfl,r'⟩:=dG r
   obtain⟨x,xs,e1,o1,h1,rs1⟩:=Rp.cM r'
   subst e1
   have e2:=Rps.bools rs1
   subst e2
   exact⟨x,bs,rfl,SqL.of h1,q _ _ _ _ t Kp.refl A.pen (.bl _)⟩
  ·exact t.elim) hg hm boot_any ha (by decide) (by decide) he hpl
end
section
variable {X:Cx}{tg iter c:Expr}{pos pos1:Pos}{ret:Stmt}{ti:DI}{g:DG}{tc:DT} [Gr]
end
end Dl
namespace L2
open PySem PySem.Spec PyProof.Rows
end L2
set_option autoImplicit true
set_option relaxedAutoImplicit true
namespace Wr
open PySem L2 PyProof.Rows Dl
structure WD [Gr] (X:Cx) (e:Expr) (t:DE):Prop where
 h:PD X e t
structure WDT [Gr] (X:Cx) (e:Expr) (t:DT):Prop where
 h:PDT X e t
structure WDW [Gr] (X:Cx) (e:Expr) (t:DT):Prop where
 h:PDW X e t
structure WDA [Gr] (X:Cx) (e:List Expr) (t:DA):Prop where
 h:PDA X e t
structure WDS [Gr] (X:Cx) (e:Stmt) (t:DS):Prop where
 h:PDS X e t
structure WDSs [Gr] (X:Cx) (e:List Stmt) (t:DS):Prop where
 h:iU X e t
structure WDI [Gr] (X:Cx) (tg e:Expr) (t:DI):Prop where
 h:PDI X tg e t
structure WDG [Gr] (X:Cx) (e:Expr) (t:DG):Prop where
 h:PDG X e t
structure WDGs [Gr] (X:Cx) (e:List Expr) (t:DGs):Prop where
 h:PGs X e (oG t)
structure WDTs [Gr] (X:Cx) (e:List Expr) (t:DT):Prop where
 h:Bu X e t
structure WDO [Gr] (X:Cx) (e:Option Expr) (t:DO):Prop where
 h:PO X e (yc t)
structure WV (X:Cx) (e:Expr) (i:Nat):Prop where
 h:PE X e (j7 i)
structure WC (X:Cx) (e:Expr) (v:V):Prop where
 h:PE X e (tC v)
section
variable [Gr]
theorem wv (i:Nat) {x:Str}{pos:Pos} (hN:X.N[i]?=some x:=by rfl) (hv:Vis X.env.scope x:=by first | exact Or.inl rfl | exact Or.inr (Or.inl rfl) | exact Or.inr (Or.inr rfl)) (hd:zB x:=by decide)
  (hcd:(x == ("__classdict__":Str))=false:=by decide):WV X (.Name x pos) i:=⟨pv i hN hv hd hcd⟩
theorem wpt {t:DT} (h:WDW X e t):WDT X e t:=⟨PDW.pt h.h⟩
theorem ou {op op':CmpOp}{f f':Int->Int->Bool} (ho:OpR X (compareOp op) (rI0 fun i j=>.bl (f i j))) (ho':OpR X (compareOp op') (rI0 fun i j=>.bl (f' i j))) (ha:WD X a ta) (hb:WD X b tb) (hc:WD X c tc) (hm:lastMarks [op,op'] [b,c]=false:=by with_unfolding_all rfl):WDT X (.Compare a [op,op'] [b,c] pos) (dW (tCh f f' ta tb tc)):=⟨Dl.ou (G4 ho ho' ha.h hb.h hc.h hm) CW⟩
theorem wty {x:Str}{T:String} (hg:Gl X x) (hm:X.mg x=none) (hv:bootBuiltins x=some (.type T)) (hn:x≠"__name__":=by decide) (hd:zB x:=by decide):WC X (.Name x ps) (.ty T):=⟨jG hg hm hv rfl hn hd⟩
theorem bD {i:Nat}{x:Str}{e:Expr}{te:DE}{pos' pos:Pos} (rg:Option Nat) (hN:X.N.Nodup) (hi:X.N[i]?=some x) (hx:Loc X.env.scope x) (he:WD X e te) (hs:swapsWith e (some (.Name x pos')) pos.line X.env=pure false:=by rfl) (hf:zL X x:=by first | exact .inl rfl | exact .inr rfl | assumption) :
  WDS X (.Assign [.Name x pos'] e pos) (yM i rg te):=⟨Dl.bD rg (cX hN hi hx he.h hs hf)⟩
theorem mX (rg:Option Nat) (own:List Str) {i:Nat}{y:Str}{py spos:Pos} (hc:X.calm=true) (hN:X.N.Nodup) (hiN:X.N[i]?=some y) (hx:Loc X.env.scope y) (hi:WDI X tg iter ti) (hg:∀ c,WDG (X.comp own scope c) tg g) (ht:∀ c,WDTs (X.comp own scope c) ifs tt) (he:∀ c,WD (X.comp own scope c) elt te)
  (hsw:swapsWith (.ListComp elt [⟨tg,iter,ifs,0⟩] scope pos) (some (.Name y py)) spos.line X.env=pure true:=by rfl)
  (hk:dh X.env scope X.N=true:=by rfl) (hs:zF X iter:=by intro _; rfl) (hf:zL X y:=by first | exact .inl rfl | exact .inr rfl | assumption) :
  WDS X (.Assign [.Name y py] (.ListComp elt [⟨tg,iter,ifs,0⟩] scope pos) spos) (yM i rg (dLC own.length ti g tt te)):=⟨Dl.bD rg (Qi own hc hN hiN hx hi.h (fun c=>(hg c).h) (fun c=>(ht c).h) (fun c=>(he c).h) hsw hk hs hf)⟩
theorem mY (r:Nat) (own:List Str) {i j:Nat}{y z:Str}{py spos zp lp:Pos} (hc:X.calm=true) (hN:X.N.Nodup) (hiN:X.N[i]?=some y) (hx:Loc X.env.scope y) (hi:WDI X (.Name z zp) iter ti) (hg:∀ c,WDG (X.comp own scope c) (.Name z zp) (gNm j))
  (hsw:swapsWith (.ListComp (.List [] lp) [⟨.Name z zp,iter,[],0⟩] scope pos) (some (.Name y py)) spos.line X.env=pure true:=by rfl)
  (hk:dh X.env scope X.N=true:=by rfl) (hs:zF X iter:=by intro _; rfl) (hf:zL X y:=by first | exact .inl rfl | exact .inr rfl | assumption) :
  WDS X (.Assign [.Name y py] (.ListComp (.List [] lp) [⟨.Name z zp,iter,[],0⟩] scope pos) spos) (JT i r ti):=⟨Dl.mY r (G8 own hc hN hiN hx hi.h (fun c=>(hg c).h) (fun c=>dO) (fun c=>n6 cC) hsw hk hs hf)⟩
theorem vV {i:Nat}{x:Str}{es:List Expr}{t:DA}{pos' pos lp:Pos} (r:Nat) (b:Bool) (hN:X.N.Nodup) (hi:X.N[i]?=some x) (hx:Loc X.env.scope x) (he:WDA X es t) (hs:swapsWith (.List es lp) (some (.Name x pos')) pos.line X.env=pure false:=by rfl) (hf:zL X x:=by first | exact .inl rfl | exact .inr rfl | assumption) :
  WDS X (.Assign [.Name x pos'] (.List es lp) pos) (OJ i r b t):=⟨Dl.vV r b (cX hN hi hx (n6 he.h) hs hf)⟩
theorem dB {i:Nat}{x:Str}{e:Expr}{es:List Expr}{apos cpos np pos:Pos} (hv:WV X (.Name x np) i) (ha:WDA X (e::es) (cu te eX))
  (hbase:attributeBase (.Name x np) "append" X.env (eval (.Name x np) X.env)=eval (.Name x np) X.env:=by rfl)
  (hfew:zW X cpos (e::es):=by rfl)
  (hline:(apos.endLine == cpos.line)=true:=by rfl) (hst:zS X e es:=by rfl) (hplain:zP X cpos es:=by rfl)
  (hs:swapsWith (.Call (.Attribute (.Name x np) "append" apos) (e::es) [] cpos) none pos.line X.env=pure false:=by rfl) :
  WDS X (.Expr (.Call (.Attribute (.Name x np) "append" apos) (e::es) [] cpos) pos) (Bl i te):=⟨Dl.dB (fu (lK PySem.F.plainAttrs_list PySem.F.slot_list_append PySem.F.type_list_append gK hv.h ha.h hbase hfew hline hst hplain) hs)⟩
theorem nj {i:Nat}{x:Str}{e:Expr}{es:List Expr}{apos cpos np pos:Pos} (hv:WV X (.Name x np) i) (ha:WDA X (e::es) (cu te eX))
  (hbase:attributeBase (.Name x np) "append" X.env (eval (.Name x np) X.env)=eval (.Name x np) X.env:=by rfl)
  (hfew:zW X cpos (e::es):=by rfl)
  (hline:(apos.endLine == cpos.line)=true:=by rfl) (hst:zS X e es:=by rfl) (hplain:zP X cpos es:=by rfl)
  (hs:swapsWith (.Call (.Attribute (.Name x np) "append" apos) (e::es) [] cpos) none pos.line X.env=pure false:=by rfl) :
  WDS X (.Expr (.Call (.Attribute (.Name x np) "append" apos) (e::es) [] cpos) pos) (J1 i te):=⟨Dl.nj (fu (lK PySem.F.plainAttrs_list PySem.F.slot_list_append PySem.F.type_list_append gK hv.h ha.h hbase hfew hline hst hplain) hs)⟩
theorem jO {i:Nat}{x:Str}{e ej:Expr}{es:List Expr}{apos cpos np sp pos:Pos} (hv:WV X (.Name x np) i) (hj:WD X ej tj) (ha:WDA X (e::es) (cu te eX)) (hpx:iT ej:=by exact fun _ _=>rfl)
  (hbase:attributeBase (.Subscript (.Name x np) ej sp) "append" X.env (eval (.Subscript (.Name x np) ej sp) X.env)=eval (.Subscript (.Name x np) ej sp) X.env:=by rfl)
  (hfew:zW X cpos (e::es):=by rfl)
  (hline:(apos.endLine == cpos.line)=true:=by rfl) (hst:zS X e es:=by rfl) (hplain:zP X cpos es:=by rfl)
  (hs:swapsWith (.Call (.Attribute (.Subscript (.Name x np) ej sp) "append" apos) (e::es) [] cpos) none pos.line X.env=pure false:=by rfl) :
  WDS X (.Expr (.Call (.Attribute (.Subscript (.Name x np) ej sp) "append" apos) (e::es) [] cpos) pos) (nu i tj te):=⟨Dl.jO (fu (lK PySem.F.plainAttrs_list PySem.F.slot_list_append PySem.F.type_list_append gK (eZ cN hv.h hj.h hpx) ha.h hbase hfew hline hst hplain) hs)⟩
theorem qg {i:Nat}{x:Str}{ek e:Expr}{np pos' pos:Pos} (hu:X.A.units+64<cLine) (hv:WV X (.Name x np) i) (hk:WD X ek tk) (he:WD X e tv) (hs:swapsWith e (some (.Subscript (.Name x np) ek pos')) pos.line X.env=pure false:=by rfl) :
  WDS X (.Assign [.Subscript (.Name x np) ek pos'] e pos) (JW i tk tv):=⟨Dl.qg (K9 (hu1 hu) hv.h hk.h he.h hs)⟩
theorem vW {i:Nat}{x:Str}{tg:Expr}{g:DG}{apos cpos np pos:Pos} (hv:WV X (.Name x np) i) (hg:WDG X tg g) (hbase:attributeBase (.Name x np) "pop" X.env (eval (.Name x np) X.env)=eval (.Name x np) X.env:=by rfl) (hline:(apos.endLine == cpos.line)=true:=by rfl)
  (hs:swapsWithSole [tg] (.Call (.Attribute (.Name x np) "pop" apos) [] [] cpos) pos.line X.env=pure false:=by rfl) (hw:swappedStores [tg] (.Call (.Attribute (.Name x np) "pop" apos) [] [] cpos) X.env=pure none:=by rfl)
  (h1:(assignEach [tg] X.env).map (·.2)=[assign tg X.env]:=by rfl):WDS X (.Assign [tg] (.Call (.Attribute (.Name x np) "pop" apos) [] [] cpos) pos) (O1 i g):=⟨Dl.vW (zG (Hx PySem.F.plainAttrs_list PySem.F.slot_list_pop PySem.F.type_list_pop Iz hv.h hbase hline) hg.h hs hw h1)⟩
theorem aH {i:Nat}{x:Str} (hN:X.N.Nodup) (hi:X.N[i]?=some x) (hx:Loc X.env.scope x) (hf:zL X x:=by first | exact .inl rfl | exact .inr rfl | assumption):WDG X (.Name x pos) (gNm i):=⟨Dl.aH (gY hN hi hx hf)⟩
theorem ao {i:Int}{j:Nat}:WD X (.Constant (.int i) j pos) (tK (.int i)):=⟨Dl.ao ⟩
theorem gG {i:Bool}{j:Nat}:WD X (.Constant (.bool i) j pos) (tK (.bool i)):=⟨Dl.gG ⟩
theorem qT {j:Nat}:WD X (.Constant .none j pos) (tK .none):=⟨Dl.qT ⟩
theorem aW {x:Str}{j:Nat}:WD X (.Constant (.str x) j pos) (tK (.str x)):=⟨Dl.aW ⟩
theorem bI {e:Expr}{t:DE} (h:WD X e t) (he:∀ whole,isTrue e X.env whole=(do let v ← whole; standAt e.pos; holding [v] (truthy v)):=by intro _; rfl):WDT X e (dW t):=⟨Dl.bI (h:=h.h) (he:=he)⟩
theorem cH {t:DT} (ha:WDT X a t):WDT X (.UnaryOp .Not a pos) (Rj t):=⟨Dl.cH (ha:=ha.h)⟩
theorem cP (ha:WDT X a t):WDW X (.BoolOp .And [a] pos) t:=⟨Dl.cP (ha:=ha.h)⟩
theorem fB (ha:WDT X a t):WDW X (.BoolOp .Or [a] pos) t:=⟨Dl.fB (ha:=ha.h)⟩
theorem dH {rest:List Expr} (ha:WDT X a t) (hb:WDW X (.BoolOp .And (b::rest) pos) u):WDW X (.BoolOp .And (a::b::rest) pos) (J2 t u):=⟨Dl.dH (ha:=ha.h) (hb:=hb.h)⟩
theorem fU {rest:List Expr} (ha:WDT X a t) (hb:WDW X (.BoolOp .Or (b::rest) pos) u):WDW X (.BoolOp .Or (a::b::rest) pos) (dOr t u):=⟨Dl.fU (ha:=ha.h) (hb:=hb.h)⟩
theorem ak :WDA X [] eX:=⟨Dl.ak ⟩
theorem aj (ha:WD X e te) (hr:WDA X es t) (hs:zS X e es:=by rfl):WDA X (e::es) (cu te t):=⟨Dl.aj (ha:=ha.h) (hr:=hr.h) (hs:=hs)⟩
theorem aM (h:WDA X es t):WD X (.List es pos) (Nu t):=⟨Dl.aM (h:=h.h)⟩
theorem aC {x1} (h:WDA X es t):WD X (.Tuple es x1 pos) (zm t):=⟨Dl.aC (h:=h.h)⟩
theorem dI (ha:WD X a ta) (hb:WD X b tb):WD X (.BinOp a .Sub b pos) (t2 (gI0 fun i j=>.int (i - j)) ta tb):=⟨Dl.dI (ha:=ha.h) (hb:=hb.h)⟩
theorem pZ (ha:WD X a ta) (hb:WD X b tb):WD X (.BinOp a .FloorDiv b pos) (t2 (gI Ru fun i j=>.int (i / j)) ta tb):=⟨Dl.pZ (ha:=ha.h) (hb:=hb.h)⟩
theorem u6 (ha:WD X a ta) (hb:WD X b tb):WD X (.BinOp a .Mod b pos) (t2 (gI (fun _ j=>0<j) fun i j=>.int (i % j)) ta tb):=⟨Dl.u6 (ha:=ha.h) (hb:=hb.h)⟩
theorem zM (ha:WD X a ta) (hb:WD X b tb):WDT X (.Compare a [.LtE] [b] pos) (dW (t2 (gI0 fun i j=>.bool (decide (i<=j))) ta tb)):=⟨Dl.zM (ha:=ha.h) (hb:=hb.h)⟩
theorem uZ (ha:WD X a ta) (hb:WD X b tb):WDT X (.Compare a [.Gt] [b] pos) (dW (t2 (gI0 fun i j=>.bool (decide (j<i))) ta tb)):=⟨Dl.uZ (ha:=ha.h) (hb:=hb.h)⟩
theorem dJ {ps:Pos} (hm:X.mg "len"=none) (ha:WDA X [a] t) (hg:Gl X "len":=by rfl) (he:zS X a []:=by rfl) (hpl:zP X pos []:=by rfl):WD X (.Call (.Name "len" ps) [a] [] pos) (tCl Ay t):=⟨Dl.dJ (hm:=hm) (ha:=ha.h) (hg:=hg) (he:=he) (hpl:=hpl)⟩
theorem aN :WDSs X [] Dw:=⟨Dl.aN ⟩
theorem aA {st:Stmt}{rest:List Stmt} (h1:WDS X st t) (h2:WDSs X rest u):WDSs X (st::rest) (JR t u):=⟨Dl.aA (h1:=h1.h) (h2:=h2.h)⟩
theorem aF {st:Stmt} (h1:WDS X st t):WDSs X [st] t:=⟨Dl.aF (h1:=h1.h)⟩
theorem rQ {st:Stmt}:WDS X st (fun _ _=>False):=⟨Dl.rQ ⟩
theorem aL (he:WD X e te):WDS X (.Return (some e) pos) (JV te):=⟨Dl.aL (he:=he.h)⟩
theorem cR {c:Expr}{a b:List Stmt}{tc:DT} (hc:WDT X c tc) (ha:WDSs X a t) (hb:WDSs X b u):WDS X (.If c a b pos) (dIf tc t u):=⟨Dl.cR (hc:=hc.h) (ha:=ha.h) (hb:=hb.h)⟩
theorem qe (he:WD X e te) (hs:swapsWith e none pos.line X.env=pure false:=by rfl):WDS X (.Expr e pos) (O2 te):=⟨Dl.qe (he:=he.h) (hs:=hs)⟩
theorem nq :WDGs X [] Od:=⟨Dl.nq ⟩
theorem eO {g:DG}{gs:DGs} (h1:WDG X e g) (h2:WDGs X es gs) (hs:(assignEach (e::es) X.env).map (·.2)=assign e X.env::(assignEach es X.env).map (·.2):=by rfl):WDGs X (e::es) (Jl g gs):=⟨Dl.eO (h1:=h1.h) (h2:=h2.h) (hs:=hs)⟩
theorem vZ {gs:DGs}{k n:Nat} (hc:X.calm=true) (h:WDGs X es gs) (hn:(assignEach es X.env).length=n:=by rfl) (hst:(assignEach es X.env).findIdx? (·.1)=none:=by rfl):WDG X (.Tuple es k pos) (gTp n gs):=⟨Dl.vZ (hc:=hc) (h:=h.h) (hn:=hn) (hst:=hst)⟩
theorem cD (hl:WD X l tl):WDI X tg l (iSq tl):=⟨Dl.cD (hl:=hl.h)⟩
theorem bZ {a:Expr}{ps:Pos} (hm:X.mg "range"=none) (ha:WDA X [a] ta) (hg:Gl X "range":=by rfl) (hs:starEach [a] X.env=[(false,eval a X.env)]:=by rfl):WDI X tg (.Call (.Name "range" ps) [a] [] pos) (iR1 ta):=⟨Dl.bZ (hm:=hm) (ha:=ha.h) (hg:=hg) (hs:=hs)⟩
theorem oU {a b:Expr}{ps:Pos} (hm:X.mg "range"=none) (ha:WDA X [a,b] ta) (hg:Gl X "range":=by rfl) (hs:starEach [a,b] X.env=[(false,eval a X.env),(false,eval b X.env)]:=by rfl) (hs2:starEach [b] X.env=[(false,eval b X.env)]:=by rfl):WDI X tg (.Call (.Name "range" ps) [a,b] [] pos) (iR2 ta):=⟨Dl.oU (hm:=hm) (ha:=ha.h) (hg:=hg) (hs:=hs) (hs2:=hs2)⟩
theorem vY {elts:List Expr}{kk:Nat}{tpos:Pos}{a:Expr}{ps:Pos} (hm:X.mg "enumerate"=none) (ha:WDA X [a] ta) (hg:Gl X "enumerate":=by rfl) (hs:starEach [a] X.env=[(false,eval a X.env)]:=by rfl):WDI X (.Tuple elts kk tpos) (.Call (.Name "enumerate" ps) [a] [] pos) (iEn ta):=⟨Dl.vY (hm:=hm) (ha:=ha.h) (hg:=hg) (hs:=hs)⟩
theorem eV {body:List Stmt} (hp:PassesOwn (model X.prog X.w) X.A X.env X.xe) (hc:X.calm=true) (hi:WDI X tg iter ti) (hg:WDG X tg g) (hb:WDSs X body tb) (hs:zF X iter:=by intro _; rfl):WDS X (.For tg iter body [] pos) (Nh ti g tb):=⟨Dl.eV (hp:=hp) (hc:=hc) (hi:=hi.h) (hg:=hg.h) (hb:=hb.h) (hs:=hs)⟩
theorem jx {body:List Stmt}{c:Expr}{tc:DT} (hp:PassesOwn (model X.prog X.w) X.A X.env X.xe) (hc:WDT X c tc) (hb:WDSs X body tb):WDS X (.While c body [] pos) (JQ tc tb):=⟨Dl.jx (hp:=hp) (hc:=hc.h) (hb:=hb.h)⟩
theorem dO {X:Cx}:WDTs X [] (fun _ P=>P true):=⟨Dl.dO ⟩
theorem dN {X:Cx}{c:Expr}{t:DT} (hc:WDT X c t):WDTs X [c] t:=⟨Dl.dN (hc:=hc.h)⟩
theorem iZ (own:List Str) (hc:X.calm=true) (hi:WDI X tg iter ti) (hg:∀ c,WDG (X.comp own scope c) tg g) (ht:∀ c,WDTs (X.comp own scope c) ifs tt) (he:∀ c,WD (X.comp own scope c) elt te) (hk:dh X.env scope X.N=true:=by rfl) (hs:zF X iter:=by intro _; rfl):WD X (.ListComp elt [⟨tg,iter,ifs,0⟩] scope pos) (dLC own.length ti g tt te):=⟨Dl.iZ (own:=own) (hc:=hc) (hi:=hi.h) (hg:=fun c=>(hg c).h) (ht:=fun c=>(ht c).h) (he:=fun c=>(he c).h) (hk:=hk) (hs:=hs)⟩
theorem u5 (ha:WD X a ta):WD X (.UnaryOp .Not a pos) (Nt ta):=⟨Dl.u5 (ha:=ha.h)⟩
theorem iu {op} (h:WD X a ta):WD X (.BoolOp op [a] pos) ta:=⟨Dl.iu (h:=h.h)⟩
theorem gw {rest:List Expr} (ha:WD X a ta) (hb:WD X (.BoolOp .And (b::rest) pos) tb):WD X (.BoolOp .And (a::b::rest) pos) (BJ ta tb):=⟨Dl.gw (ha:=ha.h) (hb:=hb.h)⟩
theorem lO {ps:Pos} (hc:X.calm=true) (hm:X.mg "max"=none) (ha:WDA X [a,b] t) (hg:Gl X "max":=by rfl) (he:starEach [a,b] X.env=(false,eval a X.env)::starEach [b] X.env:=by rfl) (hpl:(backTo pos (starEach [b] X.env)).any (·.1)=false:=by rfl):WD X (.Call (.Name "max" ps) [a,b] [] pos) (tCl (gMM fun i j=>if j > i then j else i) t):=⟨Dl.lO (hc:=hc) (hm:=hm) (ha:=ha.h) (hg:=hg) (he:=he) (hpl:=hpl)⟩
theorem pY {ps:Pos} (hc:X.calm=true) (hm:X.mg "min"=none) (ha:WDA X [a,b] t) (hg:Gl X "min":=by rfl) (he:starEach [a,b] X.env=(false,eval a X.env)::starEach [b] X.env:=by rfl) (hpl:(backTo pos (starEach [b] X.env)).any (·.1)=false:=by rfl):WD X (.Call (.Name "min" ps) [a,b] [] pos) (tCl (gMM fun i j=>if j<i then j else i) t):=⟨Dl.pY (hc:=hc) (hm:=hm) (ha:=ha.h) (hg:=hg) (he:=he) (hpl:=hpl)⟩
theorem vf {ps:Pos} (hm:X.mg "list"=none) (ha:WDA X [a] t) (hg:Gl X "list":=by rfl) (he:zS X a []:=by rfl) (hpl:zP X pos []:=by rfl):WD X (.Call (.Name "list" ps) [a] [] pos) (tCl MF t):=⟨Dl.vf (hm:=hm) (ha:=ha.h) (hg:=hg) (he:=he) (hpl:=hpl)⟩
theorem lN {ps:Pos} (hm:X.mg "tuple"=none) (ha:WDA X [a] t) (hg:Gl X "tuple":=by rfl) (he:zS X a []:=by rfl) (hpl:zP X pos []:=by rfl):WD X (.Call (.Name "tuple" ps) [a] [] pos) (tCl Jm t):=⟨Dl.lN (hm:=hm) (ha:=ha.h) (hg:=hg) (he:=he) (hpl:=hpl)⟩
theorem qQ {ps:Pos} (hm:X.mg "sorted"=none) (ha:WDA X [a] t) (hg:Gl X "sorted":=by rfl) (he:zS X a []:=by rfl) (hpl:zP X pos []:=by rfl):WD X (.Call (.Name "sorted" ps) [a] [] pos) (tCl Aw t):=⟨Dl.qQ (hm:=hm) (ha:=ha.h) (hg:=hg) (he:=he) (hpl:=hpl)⟩
theorem w5 (hu:X.A.units+64<cLine) (ha:WD X a ta) (hb:WD X b tb) (hm:behindInMarks .In b=false:=by rfl):WD X (.Compare a [.In] [b] pos) (t2 (gIn false) ta tb):=⟨Dl.w5 (hu:=hu) (ha:=ha.h) (hb:=hb.h) (hm:=hm)⟩
theorem g8 (hu:X.A.units+64<cLine) (ha:WD X a ta) (hb:WD X b tb) (hm:behindInMarks .In b=false:=by rfl):WDT X (.Compare a [.In] [b] pos) (dW (t2 (gIn false) ta tb)):=⟨Dl.g8 (hu:=hu) (ha:=ha.h) (hb:=hb.h) (hm:=hm)⟩
theorem dX (hu:X.A.units+64<cLine) (ha:WD X a ta) (hb:WD X b tb) (hm:behindInMarks .NotIn b=false:=by rfl):WDT X (.Compare a [.NotIn] [b] pos) (dW (t2 (gIn true) ta tb)):=⟨Dl.dX (hu:=hu) (ha:=ha.h) (hb:=hb.h) (hm:=hm)⟩
theorem dc {f:List D->(D->Prop)->Prop} (C:Cal X.prog X.w X.K X.mg X.base k x ps (spD f)) (hr:Room j X.A) (ha:WDA X (e::es) t) (hk:k<=j:=by decide) (hg:Gl X x:=by rfl) (hdb:zB x:=by decide) (he:zS X e es:=by rfl) (hpl:zP X pos es:=by rfl):WD X (.Call (.Name x p) (e::es) [] pos) (tFn f t):=⟨Dl.dc (C:=C) (hr:=hr) (ha:=ha.h) (hk:=hk) (hg:=hg) (hdb:=hdb) (he:=he) (hpl:=hpl)⟩
theorem dv (i:Nat) {x:Str}{pos:Pos} (hN:X.N[i]?=some x:=by rfl) (hv:Vis X.env.scope x:=by first | exact Or.inl rfl | exact Or.inr (Or.inl rfl) | exact Or.inr (Or.inr rfl)) (hd:zB x:=by decide) (hcd:(x == ("__classdict__":Str))=false:=by decide):WD X (.Name x pos) (tV i):=⟨Dl.dv (i:=i) (hN:=hN) (hv:=hv) (hd:=hd) (hcd:=hcd)⟩
theorem dcF [Gr] {f:FX}{t:DA} (C:Cal1 X.prog X.w X.K X.mg X.base k x ps (spX f)) (hr:Room j X.A) (ha:WDA X (e::es) t) (hk:k<=j:=by decide) (hg:Gl X x:=by rfl) (hdb:zB x:=by decide) (he:zS X e es:=by rfl) (hpl:zP X pos es:=by rfl):WD X (.Call (.Name x p) (e::es) [] pos) (Eb f (fun _=>False) t):=⟨Dl.dcF (C:=C) (hr:=hr) (ha:=ha.h) (hk:=hk) (hg:=hg) (hdb:=hdb) (he:=he) (hpl:=hpl)⟩
theorem aX (ha:WD X a ta) (hb:WD X b tb) (hs:iT b:=by exact fun _ _=>rfl):WD X (.Subscript a b pos) (t2 gIx ta tb):=⟨Dl.aX (ha:=ha.h) (hb:=hb.h) (hs:=hs)⟩
theorem cA (ha:WD X a ta) (hb:WD X b tb):WD X (.BinOp a .Add b pos) (t2 Jp ta tb):=⟨Dl.cA (ha:=ha.h) (hb:=hb.h)⟩
theorem qU (hu:X.A.units+64<cLine) (ha:WD X a ta) (hb:WD X b tb):WD X (.Compare a [.Eq] [b] pos) (t2 (kO false) ta tb):=⟨Dl.qU (hu:=hu) (ha:=ha.h) (hb:=hb.h)⟩
theorem cI (hu:X.A.units+64<cLine) (ha:WD X a ta) (hb:WD X b tb):WDT X (.Compare a [.Eq] [b] pos) (dW (t2 (kO false) ta tb)):=⟨Dl.cI (hu:=hu) (ha:=ha.h) (hb:=hb.h)⟩
theorem d8 (hu:X.A.units+64<cLine) (ha:WD X a ta) (hb:WD X b tb):WDT X (.Compare a [.NotEq] [b] pos) (dW (t2 (kO true) ta tb)):=⟨Dl.d8 (hu:=hu) (ha:=ha.h) (hb:=hb.h)⟩
theorem Bh {rest:List Stmt} (i:Nat) (h:WDSs X rest t):WDSs X rest (JX i t):=⟨Dl.Bh (i:=i) (h:=h.h)⟩
theorem JH {rest:List Stmt} (i:Nat) (b:Bool) (h:WDSs X rest t):WDSs X rest (dSp i b t):=⟨Dl.JH (i:=i) (b:=b) (h:=h.h)⟩
theorem aY {rest:List Stmt} (js:List Nat) (h:WDSs X rest t):WDSs X rest (Bk js t):=⟨Dl.aY (js:=js) (h:=h.h)⟩
theorem p7 :WD X (.Dict [] [] pos) (fun _ P=>P .new (.dict [])):=⟨Dl.p7 ⟩
theorem j9 {ps ps':Pos} (hc:X.calm=true) (hml:X.mg "list"=none) (hmr:X.mg "range"=none) (ha:WDA X [a] t) (hgl:Gl X "list":=by rfl) (hgr:Gl X "range":=by rfl) (he:zS X a []:=by rfl) (hpl:(backTo pos' (starEach [] X.env)).any (·.1)=false:=by rfl) (he2:starEach [.Call (.Name "range" ps') [a] [] pos'] X.env=(false,eval (.Call (.Name "range" ps') [a] [] pos') X.env)::starEach [] X.env:=by rfl) (hpl2:zP X pos []:=by rfl):WD X (.Call (.Name "list" ps) [.Call (.Name "range" ps') [a] [] pos'] [] pos) (RQ t):=⟨Dl.j9 (hc:=hc) (hml:=hml) (hmr:=hmr) (ha:=ha.h) (hgl:=hgl) (hgr:=hgr) (he:=he) (hpl:=hpl) (he2:=he2) (hpl2:=hpl2)⟩
theorem zN (N:List Str) (sc:Scope) (tm:Tm) (h:okT N sc tm e=true) (hN:X.N=N:=by rfl) (hs:X.env.scope=sc:=by rfl) (s:smT tm=true:=by decide +kernel):WD X e (Pg tm):=⟨Dl.zN (N:=N) (sc:=sc) (tm:=tm) (h:=h) (hN:=hN) (hs:=hs) (s:=s)⟩
theorem pW (n:Nat) (N:List Str) (sc:Scope) (ts:Tms) {t2:DA} (h2:WDA X (es.drop n) t2) (h:kE N sc ts (es.take n)=true) (hN:X.N=N:=by rfl) (hs:X.env.scope=sc:=by rfl) (s:jQ 1000 ts=true:=by decide +kernel):WDA X es (Ro ts t2):=⟨Dl.pW (n:=n) (N:=N) (sc:=sc) (ts:=ts) (h2:=h2.h) (h:=h) (hN:=hN) (hs:=hs) (s:=s)⟩
theorem u0 (he:WD X e te):WD X (.Subscript e (.Slice none none (some (.UnaryOp .USub (.Constant (.int 1) 0 p1) p2)) p3) pos) (Ry te):=⟨Dl.u0 (he:=he.h)⟩
theorem qW (ha:WD X a ta) (hb:WD X b tb):WD X (.Dict [some a] [b] pos) (tD1 ta tb):=⟨Dl.qW (ha:=ha.h) (hb:=hb.h)⟩
theorem gZ (hu:X.A.units+64<cLine) (ha:WD X a ta) (hb:WD X b tb) (hm:behindInMarks .NotIn b=false:=by rfl):WDT X (.Compare a [.NotIn] [b] pos) (dW (t2 (MK true) ta tb)):=⟨Dl.gZ (hu:=hu) (ha:=ha.h) (hb:=hb.h) (hm:=hm)⟩
theorem uY (h:WD X e te) (he:∀ whole,isTrue e X.env whole=(do let v ← whole; standAt e.pos; holding [v] (truthy v)):=by intro _; rfl):WDT X e (Rx te):=⟨Dl.uY (h:=h.h) (he:=he)⟩
theorem u9 {ps:Pos} (hc:X.calm=true) (hm:X.mg "min"=none) (ha:WDA X [a] t) (hg:Gl X "min":=by rfl) (he:zS X a []:=by rfl) (hpl:zP X pos []:=by rfl):WD X (.Call (.Name "min" ps) [a] [] pos) (tCl (Ft (fun i j=>if j<i then j else i) (fun M a=>M<=a)) t):=⟨Dl.u9 (hc:=hc) (hm:=hm) (ha:=ha.h) (hg:=hg) (he:=he) (hpl:=hpl)⟩
theorem vd {ps:Pos} (hc:X.calm=true) (hm:X.mg "max"=none) (ha:WDA X [a] t) (hg:Gl X "max":=by rfl) (he:zS X a []:=by rfl) (hpl:zP X pos []:=by rfl):WD X (.Call (.Name "max" ps) [a] [] pos) (tCl (Ft (fun i j=>if j > i then j else i) (fun M a=>a<=M)) t):=⟨Dl.vd (hc:=hc) (hm:=hm) (ha:=ha.h) (hg:=hg) (he:=he) (hpl:=hpl)⟩
theorem pX {ps:Pos} (hc:X.calm=true) (hm:X.mg "sum"=none) (ha:WDA X [a] t) (hg:Gl X "sum":=by rfl) (he:zS X a []:=by rfl) (hpl:zP X pos []:=by rfl):WD X (.Call (.Name "sum" ps) [a] [] pos) (tCl Jo t):=⟨Dl.pX (hc:=hc) (hm:=hm) (ha:=ha.h) (hg:=hg) (he:=he) (hpl:=hpl)⟩
theorem qR {ps:Pos} (hc:X.calm=true) (hm:X.mg "sorted"=none) (ha:WDA X [a] t) (hg:Gl X "sorted":=by rfl) (he:zS X a []:=by rfl) (hpl:zP X pos []:=by rfl):WD X (.Call (.Name "sorted" ps) [a] [] pos) (tCl Ax t):=⟨Dl.qR (hc:=hc) (hm:=hm) (ha:=ha.h) (hg:=hg) (he:=he) (hpl:=hpl)⟩
theorem zR {ps:Pos} (hc:X.calm=true) (hm:X.mg "any"=none) (ha:WDA X [a] t) (hg:Gl X "any":=by rfl) (he:zS X a []:=by rfl) (hpl:zP X pos []:=by rfl):WD X (.Call (.Name "any" ps) [a] [] pos) (tCl Q6 t):=⟨Dl.zR (hc:=hc) (hm:=hm) (ha:=ha.h) (hg:=hg) (he:=he) (hpl:=hpl)⟩
end
section
theorem dcX {f:FX}{Hb:Hp}{t:DA}{E:XK}{x:Str}{p pos:Pos}{e:Expr}{es:List Expr} (C:Cal1 X.prog X.w X.K X.mg X.base k x ps (spX f)) (hr:Room j X.A) (hx:Passes (CX1 X.prog X.w) X E) (ha:@WDA (grX Hb) X (e::es) t) (hk:k<=j:=by decide) (hg:Gl X x:=by rfl)
  (hdb:zB x:=by decide) (he:zS X e es:=by rfl) (hpl:zP X pos es:=by rfl) :
  @WD (grX Hb) X (.Call (.Name x p) (e::es) [] pos) (Eb f (Rz E Hb) t):=@WD.mk (grX Hb) _ _ _ (Dl.dcX C hr hx (@WDA.h (grX Hb) _ _ _ ha) hk hg hdb he hpl)
theorem mZ {Hb:Hp}{t:DA}{C:Addr}{E:XK}{x:Str}{pos:Pos}{e:Expr}{es:List Expr}{newId Bn initId:String}{bmB:List Value}{np cpos:Pos} (L:Lets X E) (hc:X.calm=true) (hg:Gl X x) (hm:X.mg x=some (.ref C)) (hx:ExcCls X.K C newId bmB) (B:ExcBaseFacts Bn newId initId bmB) (ha:@WDA (grX Hb) X (e::es) t) (hdb:zB x:=by decide)
  (he:zS X e es:=by rfl) (hpl:(backTo cpos (starEach (e::es) X.env)).any (·.1)=false:=by rfl) (hcons:backTo cpos (starEach (e::es) X.env)=(false,eval e X.env)::backTo cpos (starEach es X.env):=by rfl) :
  @WDS (grX Hb) X (.Raise (some (.Call (.Name x np) (e::es) [] cpos)) none pos) (Bj (Rz E Hb) C t):=@WDS.mk (grX Hb) _ _ _ (Dl.mZ L hc hg hm hx B (@WDA.h (grX Hb) _ _ _ ha) hdb he hpl hcons)
theorem cO [Gr] {T:String}{x:Str}{e:Expr}{te:DE}{ps pt pos:Pos} (hk:∀ t:Value,(t=.type "NoneType"\/t=.type "bool"\/t=.type "int"\/t=.type "str"\/t=.type "list"\/t=.type "tuple"\/t=.type "dict")->∃ n,t=.type n/\W.kitOne X.K t (.type T)=some (n == T || (T == "int"&&n == "bool")))
  (hm:X.mg "isinstance"=none) (he:WD X e te) (hT:WC X (.Name x pt) (.ty T)) (hg:Gl X "isinstance":=by rfl) (h1:starEach [e,.Name x pt] X.env=(false,eval e X.env)::starEach [.Name x pt] X.env:=by rfl) (h2:starEach [.Name x pt] X.env=(false,eval (.Name x pt) X.env)::starEach [] X.env:=by rfl) (hpl:(backTo pos (starEach [.Name x pt] X.env)).any (·.1)=false:=by rfl) :
  WD X (.Call (.Name "isinstance" ps) [e,.Name x pt] [] pos) (tIs T te):=⟨Dl.cO hk hm he.h hT.h hg h1 h2 hpl⟩
end
end Wr
set_option autoImplicit false
set_option autoImplicit true
namespace Wr
open PySem L2 PyProof.Rows Dl
section
variable [Gr] {X:Cx}{tj te:DE}
end
section
variable [Gr] {X:Cx}{tj te te1 te2 ta:DE}{t:DS}
end
end Wr
namespace Dl
open PySem L2 PyProof.Rows
section
variable {X:Cx}{pins:List (Addr×Obj)}{σ:L2.St}{H:Hp}{s:Shared}{ok ok':Addr->Prop}
end
section
variable {X:Cx}{pos:Pos}{a e:Expr}{te:DE}{t:DA} [Gr]
end
section
variable [Gr]
abbrev DR:=(D->Prop)->List Sl->Prop
structure WishR (p:Pn) (own:Addr->Option Nat) (H:Hp) (P:D->Prop) (Q:Ends):Prop where
 rt:∀ d v H',P d->p.PI H'->(∀ b o,H b=some o->¬ p.fp b->own b=none->H' b=some o)->Rp (fun a=>¬ p.fp a) H' v d->Q.rt v H'
def Ti (t:DR):TS:=fun Q σ H=>∃ p H0 own ρ P,EnvD p H0 own σ H ρ/\t P ρ/\WishR p own H P Q
structure WR (X:Cx) (ss:List Stmt) (t:DR):Prop where
 h:PSs X ss (Ti t)
def K5 (te:DE):DR:=fun P ρ=>te ρ fun _ d=>P d
variable {X:Cx}{pos:Pos}{e:Expr}{te:DE}{st:Stmt}{rest:List Stmt}{t:DS}{u:DR}
variable {k j:Nat}{x:Str}{ps:List Str}{es:List Expr}{ta:DA}{p:Pos}
end
end Dl
namespace Wr
open PySem L2 PyProof.Rows Dl
variable [Gr] {X:Cx}{pos:Pos}{a:Expr}{t:DA}
end Wr
namespace L2
open PySem PySem.Spec PyProof.Rows
end L2
namespace Dl
open PySem L2 PyProof.Rows
variable [Gr]
section
variable {X:Cx}{tg:Expr}{pos:Pos}{ta:DA}
end
end Dl
namespace Wr
open PySem L2 PyProof.Rows Dl
variable [Gr] {X:Cx}{pos:Pos}{ta:DA}
end Wr
namespace Dl
open PySem L2 PyProof.Rows
variable [Gr]
section
variable {X:Cx}{pos:Pos}{st:Stmt}{rest:List Stmt}{t u:DS}{te tj t1 t2:DE}
end
end Dl
namespace Wr
open PySem L2 PyProof.Rows Dl
section
variable [Gr] {X:Cx}{tj te t1 t2:DE}{t u:DS}
end
end Wr
set_option autoImplicit false
namespace L2
open PySem PySem.Spec PyProof.Rows
def Ue (X:Cx) (hs:List ExceptHandler) (pins:List (Addr×Obj)) (D:Ends):Value->Shared->Prop:=fun e s₁=>wpAny (model X.prog X.w) X.A (noteFrame e X.env) (fun _ s₂=>wpAny (model X.prog X.w) X.A (setFlight e none) (fun _ s₃=>wpAny (model X.prog X.w) X.A (handleBy e X.env hs) (SP X pins D) X.xe s₃) X.xe s₂) X.xe s₁
def PB (X:Cx) (hs:List ExceptHandler) (st:List Stmt) (t:TS):Prop:=∀ (pins:List (Addr×Obj)) (s:Shared) (σ:St) (H:Hp) (D:Ends),Inv X pins σ H s->t D σ H->∀ Q:Flow->Shared->Prop,(∀ s' σ' H',Inv X pins σ' H' s'->D.nx σ' H'->Q .next s')->wpAny (model X.prog X.w) X.A (execs st X.env) Q (Ue X hs pins D) s
section
variable {X:Cx}{k:Nat}{f CF:Addr}{fd:FuncData}{ps:List Str}{sp:Sp}{E:XK}{x hx n:Str}{p np cpos epos hpos pos:Pos}{e:Expr}{es:List Expr}{t:TA}{b₀:Stmt}{suite:List Stmt}{ts:TS}{j:Nat}
theorem K7 {body:List Stmt}{h₀:ExceptHandler}{hs:List ExceptHandler}{t:TS} (h:PB X (h₀::hs) body t):PS X (.Try body (h₀::hs) [] [] pos) t:=fun pins s σ H D I q=>wpAny_Try_except (h pins s σ H D I q _ fun s' σ' H' I' q'=>wpAny_execs_nil ⟨σ',H',I',q'⟩)
end
section
variable {X:Cx}{k:Nat}{f CF:Addr}{fd:FuncData}{ps:List Str}{sp:Sp}{E:XK}{x hx n:Str}{p np cpos epos hpos pos:Pos}{e:Expr}{es:List Expr}{t:TA}{b₀:Stmt}{suite:List Stmt}{ts:TS}{j:Nat}
end
end L2
namespace Dl
open PySem L2 PyProof.Rows
section
variable [Gr] {X:Cx}{pos:Pos}{a:Expr}{t:DA}
theorem boot_str:bootBuiltins "str"=some (.type "str"):=by decide +kernel
end
end Dl
namespace Wr
open PySem L2 PyProof.Rows Dl
section
variable [Gr] {X:Cx}{pos:Pos}{a:Expr}{t:DA}
end
end Wr
namespace Dl
open PySem L2 PyProof.Rows
structure Ext (p q:Pn):Prop where
 pv:q.pv=p.pv
 fp:∀ a,p.fp a->q.fp a
 pi:∀ H,q.PI H->p.PI H
 go:∀ H H',q.PI H->Kp p H H'->p.PI H'->q.PI H'
def CE (C:Pn->Prop) (q:Pn):Prop:=∃ p,C p/\Ext p q
section
variable [Gr]
theorem Dp {C:Pn->Prop}{p:Pn}{H:Hp}{N:List Str}{vs':List V}{ds:List D} (g:Gr.G p H) (c:C p) (pi:p.PI H) (r:Rps (fun a=>¬ p.fp a) H vs' ds):EnvD p H (fun _=>none) (L2.start N (p.pv::vs')) H (.pen C::(ds.map aZ++List.replicate (N.length - (ds.length+1)) .any)):=by
 have E0:=uw (p:=p) (N:=N.drop 1) g pi r
 refine⟨fun _ _ e _=>e,pi,(fun _ _ e=>nomatch e),fun j s e=>?_,by unfold L2.start; simp [r.length],g⟩
 cases j with
 | zero =>
  have e:=Option.some.inj e
  subst e
  exact⟨rfl,c⟩
 | succ j =>
  rw [List.getElem?_cons_succ] at e
  have hl:N.length - (ds.length+1)=(N.drop 1).length - vs'.length:=by rw [r.length,List.length_drop]; omega
  rw [hl] at e
  have q:=E0.slot j s e
  have es:(L2.start N (p.pv::vs'))[j+1]?=(L2.start (N.drop 1) vs')[j]?:=by
   unfold L2.start
   have:N.length - (p.pv::vs').length=(N.drop 1).length - vs'.length:=by rw [List.length_drop,List.length_cons]; omega
   rw [this]
   simp
  cases s <;> simp only [iR,es] at q ⊢ <;> exact q
variable {X:Cx}{pos:Pos}{c:Expr}{a rest:List Stmt}{tc:DT}{t u:DR}
variable {k j i:Nat}{x y:Str}{ps:List Str}{es:List Expr}{ta:DA}{pp py:Pos}
end
end Dl
namespace L2
open PySem PySem.Spec PyProof.Rows Builtin
section
variable {X:Cx}
end
end L2
namespace Dl
open PySem L2 PyProof.Rows
section
variable [Gr]
variable {X:Cx}{pos:Pos}{a b e:Expr}{ta tb te:DE}{p1 p2 p3:Pos}
end
end Dl
namespace Wr
open PySem L2 PyProof.Rows Dl
section
variable [Gr] {X:Cx}{pos:Pos}{a b e:Expr}{ta tb te:DE}{p1 p2 p3:Pos}
end
end Wr
namespace L2
open PySem PySem.Spec PyProof.Rows Builtin
section
variable {X:Cx}
end
end L2
namespace Dl
open PySem L2 PyProof.Rows
section
variable [Gr] {X:Cx}{pos p2:Pos}{a b e:Expr}{t:DA}{ta tb te:DE}
end
end Dl
namespace Wr
open PySem L2 PyProof.Rows Dl
section
variable [Gr] {X:Cx}{pos p2:Pos}{a b e:Expr}{t:DA}{ta tb te:DE}
end
end Wr
namespace Dl
open PySem L2 PyProof.Rows
variable [Gr]
section
variable {X:Cx}{st st2:Stmt}{rest:List Stmt}{te1 te2:DE}{tt:DT}{tr:TS}{t:DS}
end
section
variable {X:Cx}{own:List Str}{scope:Scope}{tg iter elt:Expr}{ifs:List Expr}{pos:Pos}{g:DG}{tt:DT}{te:DE}
end
end Dl
namespace Wr
open PySem L2 PyProof.Rows Dl
variable [Gr]
section
variable {X:Cx}{te1 te2:DE}{tt:DT}{tr:TS}{t:DS}
end
end Wr
namespace PySem
open PySem.W PyProof.Rows PySem.Spec
section
variable {prog:Program}{w:World}{A:Around}{E:Value->Shared->Prop}{s:Shared}{it l:Addr}{items:Array Value}
end
end PySem
namespace L2
open PySem PySem.Spec PyProof.Rows
section
variable {X:Cx}
end
end L2
namespace Dl
open PySem L2 PyProof.Rows
section
variable [Gr] {X:Cx}{a:Expr}{t:DA}
end
end Dl
namespace Wr
open PySem L2 PyProof.Rows Dl
section
variable [Gr] {X:Cx}{a:Expr}{t:DA}
end
end Wr
set_option autoImplicit true
namespace Dl
open PySem L2 PyProof.Rows
def aG (a:Addr) (n:Nat):Pn where
 fp:=fun b=>b=a
 PI:=fun H=>∃ x y c:Int,H a=some (.lst [.int x,.int y,.int c])/\0<=c/\c+(n:Int)<=1152921504606846976
 pv:=.ref a
 mono:=fun H H' ⟨x,y,c,h,r⟩ k=>⟨x,y,c,k _ _ rfl h,r⟩
 is:=fun H b ⟨x,y,z,h,_⟩ hb=>by
  subst hb
  exact⟨_,h,fun xs z=>nomatch z⟩
theorem aK {a:Addr}{n m:Nat}{H:Hp} (h:(aG a n).PI H) (hm:m<=n):(aG a m).PI H:=by
 obtain⟨x,y,c,h,c0,c1⟩:=h
 exact⟨x,y,c,h,c0,by omega⟩
theorem Lh {a:Addr}{n:Nat}:aG a n≠fj:=fun h=>by
 have:=congrFun (congrArg Pn.fp h) a
 have h2:(a=a)=False:=this
 exact cast h2 rfl
def TP:Pn->Prop:=fun _=>True
def Pq:Sl->Sl
 | .pen _=>.pen TP
 | s=>s
def stp (ρ:List Sl):List Sl:=ρ.map Pq
theorem zu (ρ:List Sl):stp (stp ρ)=stp ρ:=by
 unfold stp
 rw [List.map_map]
 refine List.map_congr_left fun s _=>?_
 cases s <;> rfl
variable {X:Cx}{a:Addr}{n m m1 m2 m3:Nat}{H0 Hb H H1 H':Hp}{own:Addr->Option Nat}{σ:L2.St}{ρ:List Sl}
theorem EnvD.lv (E:EnvD (aG a n) H0 own σ H ρ) (h:(aG a m).PI H):EnvD (aG a m) H0 own σ H (stp ρ):=by
 refine⟨E.k0,h,E.ow,fun j s e=>?_,by simp [stp,E.len],trivial⟩
 unfold stp at e
 rw [List.getElem?_map] at e
 cases e1:ρ[j]? with
 | none=>rw [e1] at e; cases e
 | some s1 =>
  rw [e1] at e
  have e:=Option.some.inj e
  subst e
  have q:=E.slot j s1 e1
  cases s1 with
  | pen C=>exact⟨q.1,trivial⟩
  | scr v b=>exact⟨q.1,fun hb=>absurd (q.2 hb) Lh⟩
  | _=>exact q
theorem At.lv (A:At (aG a n) H0 own Hb H) (h:m<=n):At (aG a m) H0 own Hb H:=⟨A.k0,A.kp,aK A.penb h,aK A.pen h,A.ow⟩
theorem Qz {k:Kd}:okK (aG a n) H0 own Hb k=okK (aG a m) H0 own Hb k:=by cases k <;> rfl
theorem Ci {k:Kd}{v:V}{d:D} (r:Rp (okK (aG a n) H0 own Hb k) H v d):Rp (okK (aG a m) H0 own Hb k) H v d:=by
 rw [Qz (m:=m)] at r
 exact r
structure EnvB (a:Addr) (n m:Nat) (H0:Hp) (own:Addr->Option Nat) (σ:L2.St) (H:Hp) (ρ:List Sl):Prop where
 st:stp ρ=ρ
 pi:(aG a (n+m)).PI H
 env:EnvD (aG a n) H0 own σ H ρ
theorem EnvB.up (E:EnvB a n m H0 own σ H ρ) (hm:m1+m2<=m):EnvB a (n+m2) m1 H0 own σ H ρ:=⟨E.st,aK E.pi (by omega),by
 have:=E.env.lv (m:=n+m2) (aK E.pi (by omega))
 rw [E.st] at this
 exact this⟩
theorem EnvB.first (E:EnvB a n (m1+m2) H0 own σ H ρ):EnvB a (n+m2) m1 H0 own σ H ρ:=E.up (Nat.le_refl _)
theorem EnvB.next (E:EnvB a n m H0 own σ H ρ) (A:At (aG a (n+m2)) H0 own H H1):EnvB a n m2 H0 own σ H1 ρ:=⟨E.st,A.pen,E.env.go A.kp (aK A.pen (by omega))⟩
theorem EnvB.low (E:EnvB a n m H0 own σ H ρ) (h:m1<=m):EnvB a n m1 H0 own σ H ρ:=⟨E.st,aK E.pi (by omega),E.env⟩
def iG (m:Nat) (t:DE):TE:=fun σ H Q=>∃ a n H0 own ρ P,EnvB a n m H0 own σ H ρ/\t ρ P/\∀ k d v H',P k d->At (aG a n) H0 own H H'->Rp (okK (aG a n) H0 own H k) H' v d->Q v H'
def vJ (m:Nat) (t:DA):TA:=fun σ H Q=>∃ a n H0 own ρ P,EnvB a n m H0 own σ H ρ/\t ρ P/\∀ ks vs H',P ks->At (aG a n) H0 own H H'->RpK (aG a n) H0 own H H' vs ks->Q vs H'
def rJ (m:Nat) (t:DT):TT:=fun σ H Q=>∃ a n H0 own ρ P,EnvB a n m H0 own σ H ρ/\t ρ P/\∀ b H',P b->At (aG a n) H0 own H H'->Q b H'
def Jc (m:Nat) (t:DI):TI:=fun σ H R=>∃ a n H0 own ρ P,EnvB a n m H0 own σ H ρ/\t ρ P/\∀ k ds J H1 Ok,P k ds->At (aG a n) H0 own H H1->Wlk Ok J ds (okA (aG a n) H0 own H k H1)->Ok H1->R J H1
def Ah (m:Nat) (t:DS):TS:=fun Q σ H=>∃ a n H0 own ρ P,EnvB a n m H0 own σ H ρ/\t P ρ/\Wish (aG a n) H0 own H P Q
end Dl
namespace Wb
open PySem L2 PyProof.Rows Dl Wr
structure BE (X:Cx) (m:Nat) (e:Expr) (t:DE):Prop where
 h:PE X e (iG m t)
structure BA (X:Cx) (m:Nat) (e:List Expr) (t:DA):Prop where
 h:PA X e (vJ m t)
structure BT (X:Cx) (m:Nat) (e:Expr) (t:DT):Prop where
 h:PT X e (rJ m t)
structure BW (X:Cx) (m:Nat) (e:Expr) (t:DT):Prop where
 h:PW X e (rJ m t)
structure BTs (X:Cx) (m:Nat) (e:List Expr) (t:DT):Prop where
 h:PTs X e (rJ m t)
structure BI (X:Cx) (m:Nat) (tg e:Expr) (t:DI):Prop where
 h:PI X tg e (Jc m t)
structure BS (X:Cx) (m:Nat) (s:Stmt) (t:DS):Prop where
 h:PS X s (Ah m t)
structure BSs (X:Cx) (m:Nat) (s:List Stmt) (t:DS):Prop where
 h:PSs X s (Ah m t)
variable {X:Cx}{n m m1 m2 m3:Nat}{H0 Hb H H1 H':Hp}{own:Addr->Option Nat}{σ:L2.St}{ρ:List Sl}{pos:Pos}{a b e:Expr}{es:List Expr}{ta tb te:DE}{t:DA}
theorem e0 (h:WD X e te):BE X 0 e te:=⟨PE.wk h.h (by
 rintro σ H Q ⟨a,n,H0,own,ρ,P,E,t,q⟩
 exact⟨aG a n,H0,own,ρ,P,E.env,t,q⟩)⟩
theorem a0 (h:WDA X es t):BA X 0 es t:=⟨PA.wk h.h (by
 rintro σ H Q ⟨a,n,H0,own,ρ,P,E,t,q⟩
 exact⟨aG a n,H0,own,ρ,P,E.env,t,q⟩)⟩
theorem t0 {t:DT} (h:WDT X e t):BT X 0 e t:=⟨PT.wk h.h (by
 rintro σ H Q ⟨a,n,H0,own,ρ,P,E,t,q⟩
 exact⟨aG a n,H0,own,ρ,P,E.env,t,q⟩)⟩
theorem i0 {t:DI}{tg:Expr} (h:WDI X tg e t):BI X 0 tg e t:=⟨PI.wk h.h (by
 rintro σ H Q ⟨a,n,H0,own,ρ,P,E,t,q⟩
 exact⟨aG a n,H0,own,ρ,P,E.env,t,q⟩)⟩
theorem s0 {t:DS}{s:Stmt} (h:WDS X s t):BS X 0 s t:=⟨PS.wk' h.h (by
 rintro Q σ H ⟨a,n,H0,own,ρ,P,E,t,w⟩
 exact⟨aG a n,H0,own,ρ,P,E.env,t,w⟩)⟩
theorem ss0 {t:DS}{s:List Stmt} (h:WDSs X s t):BSs X 0 s t:=⟨PSs.wk' h.h (by
 rintro Q σ H ⟨a,n,H0,own,ρ,P,E,t,w⟩
 exact⟨aG a n,H0,own,ρ,P,E.env,t,w⟩)⟩
theorem ts0 {t:DT} (h:WDTs X es t):BTs X 0 es t:=⟨fun pins s σ H Q I q=>h.h pins s σ H Q I (by
 obtain⟨a,n,H0,own,ρ,P,E,t,q⟩:=q
 exact⟨aG a n,H0,own,ρ,P,E.env,t,q⟩)⟩
theorem ts1 {t:DT} (h:BT X m e t):BTs X m [e] t:=⟨Cq h.h⟩
theorem gB (ha:BE X m1 e te) (hr:BA X m2 es t) (hs:zS X e es:=by rfl):BA X (m1+m2) (e::es) (cu te t):=⟨PA.wk (aP ha.h hr.h hs) (by
 rintro σ H Q ⟨a,n,H0,own,ρ,P,E,t,q⟩
 refine⟨a,n+m2,H0,own,ρ,_,E.first,t,fun k d v H1 h A r=>?_⟩
 refine⟨a,n,H0,own,ρ,_,E.next A,h,fun ks vs H2 h2 A2 r2=>?_⟩
 have A':=A.lv (m:=n) (by omega)
 exact q _ _ H2 h2 (A'.base A2) (.cons (jX A' A2.kp (Ci r)) (RpK.base A' r2)))⟩
theorem tup {x1:Nat} (h:BA X m es t):BE X m (.Tuple es x1 pos) (zm t):=⟨PE.wk (Hq h.h) (by
 rintro σ H Q ⟨a,n,H0,own,ρ,P,E,t,q⟩
 refine⟨a,n,H0,own,ρ,_,E,t,fun ks vs H1 h A r=>?_⟩
 have h24:=sizeLine_eq
 have hl:=r.length
 refine⟨by have:=h.1; omega,fun l hl=>?_⟩
 obtain⟨k2,i2,nw⟩:=A.new hl (.tup vs)
 exact q _ _ _ _ h.2 (A.go k2 i2) (bf (.tup aB (cB A k2 (RpK.all A (Kd.le_refl _) r)))))⟩
theorem mD {g:G2}{r:R2} (ok:Ok2 g r):∀ σ H Q,iG (m1+m2) (t2 g ta tb) σ H Q->tOp r (iG m1 ta) (iG m2 tb) σ H Q:=by
 rintro σ H Q ⟨a,n,H0,own,ρ,P,E,t,q⟩
 refine⟨a,n+m2,H0,own,ρ,_,E.first,t,fun k1 d1 v1 H1 t1 A1 r1=>?_⟩
 refine⟨a,n,H0,own,ρ,_,E.next A1,t1,fun k2 d2 v2 H2 t2 A2 r2=>?_⟩
 have A1':=A1.lv (m:=n) (by omega)
 have A:At (aG a n) H0 own H H2:=A1'.base A2
 exact ok (aG a n) H0 own H H2 v1 v2 k1 d1 k2 d2 P Q A (jX A1' A2.kp (Ci r1)) (jD A1' r2) t2 fun k d v H' h k3 i3 r3=>q k d v H' h (A.go k3 i3) r3
theorem op {o:Operator}{r:R2}{g:G2} (ho:OpR X (binaryOp o) r) (ok:Ok2 g r) (ha:BE X m1 a ta) (hb:BE X m2 b tb):BE X (m1+m2) (.BinOp a o b pos) (t2 g ta tb):=⟨PE.wk (bF ho ha.h hb.h) (mD ok)⟩
theorem jm {t:DE}:∀ σ H Q,rJ m (dW t) σ H Q->(iG m t) σ H (fun x H'=>∃ k,x=.bl k/\Q k H'):=by
 rintro σ H Q ⟨a,n,H0,own,ρ,P,E,t,q⟩
 refine⟨a,n,H0,own,ρ,_,E,t,fun k d v H' h A r=>?_⟩
 cases d with
 | bool b=>exact⟨b,r.bl',q b H' h A⟩
 | _=>exact h.elim
theorem O7 {o:CmpOp}{r:R2}{g:G2} (ho:OpR X (compareOp o) r) (ok:Ok2 g r) (ha:BE X m1 a ta) (hb:BE X m2 b tb) (hm:behindInMarks o b=false):BT X (m1+m2) (.Compare a [o] [b] pos) (dW (t2 g ta tb)) :=
 ⟨PT.wk (jF ho ha.h hb.h hm) fun σ H Q h=>mD ok σ H _ (jm σ H Q h)⟩
section
variable {rest:List Expr}{t u:DT}
theorem Ud (ha:BT X m a t):BW X m (.BoolOp .And [a] pos) t:=⟨Cp ha.h⟩
theorem or1 (ha:BT X m a t):BW X m (.BoolOp .Or [a] pos) t:=⟨GR ha.h⟩
theorem Uc (ha:BT X m1 a t) (hb:BW X m2 (.BoolOp .And (b::rest) pos) u):BW X (m1+m2) (.BoolOp .And (a::b::rest) pos) (J2 t u):=⟨PW.wk (GX ha.h hb.h) (by
 rintro σ H Q ⟨a,n,H0,own,ρ,P,E,t,q⟩
 refine⟨a,n+m2,H0,own,ρ,_,E.first,t,fun b H' h A=>?_⟩
 have A':=A.lv (m:=n) (by omega)
 cases b with
 | true=>exact bQ ⟨a,n,H0,own,ρ,P,E.next A,by simpa using h,fun c H2 h2 A2=>q c H2 h2 (A'.base A2)⟩
 | false=>exact bR (q false H' (by simpa using h) A'))⟩
theorem or2 (ha:BT X m1 a t) (hb:BW X m2 (.BoolOp .Or (b::rest) pos) u):BW X (m1+m2) (.BoolOp .Or (a::b::rest) pos) (dOr t u):=⟨PW.wk (NP ha.h hb.h) (by
 rintro σ H Q ⟨a,n,H0,own,ρ,P,E,t,q⟩
 refine⟨a,n+m2,H0,own,ρ,_,E.first,t,fun b H' h A=>?_⟩
 have A':=A.lv (m:=n) (by omega)
 cases b with
 | true=>exact bQ (q true H' (by simpa using h) A')
 | false=>exact bR ⟨a,n,H0,own,ρ,P,E.next A,by simpa using h,fun c H2 h2 A2=>q c H2 h2 (A'.base A2)⟩)⟩
theorem wt (h:BW X m e t):BT X m e t:=⟨PW.pt h.h⟩
end
theorem vI {f:List D->(D->Prop)->Prop}{t:DA}:∀ σ H Q,iG m (tFn f t) σ H Q->qw (spD f) [] E0 (vJ m t) σ H Q:=by
 rintro σ H Q ⟨a,n,H0,own,ρ,P,E,t,q⟩
 refine⟨a,n,H0,own,ρ,_,E,t,fun ks vs H1 h A r=>?_⟩
 show spD f (vs++[]) H1 Q E0
 rw [List.append_nil]
 refine⟨ks.map (·.2),_,(RpK.rps A r).mono (fun _ _=>trivial) (fun _ _ _ e=>e) fun _ _ e=>e,h,fun d v H' h2 s r2=>?_⟩
 have k2:Kp (aG a n) H1 H':=Kp.of s
 refine q _ d v H' h2 (A.go k2 ((aG a n).mono H1 H' A.pen fun b o _ e=>s b o e)) (bf ?_)
 exact r2.mono (fun a o=>A.free o) (fun _ _ _ e=>e) fun _ _ e=>e
end Wb
namespace Dl
open PySem L2 PyProof.Rows
def je (m:Nat) (f:List D->(D->Prop)->Prop):Sp:=fun vs H Q _=>∃ (a:Addr) (n:Nat) (vs':List V) (ds:List D) (P:D->Prop),vs=.ref a::vs'/\(aG a (n+m)).PI H/\Rps (fun b=>¬ (aG a n).fp b) H vs' ds/\f ds P/\∀ d v H',P d->Kp (aG a n) H H'->(aG a n).PI H'->Rp (fun b=>H b=none) H' v d->Q v H'
theorem jr {m:Nat}{f:List D->(D->Prop)->Prop}{n:Nat} (hn:∀ ds P,f ds P->ds.length=n:=by intro _ _ h; repeat (first | (obtain⟨rfl,_⟩:=h; rfl) | obtain⟨_,h⟩:=h)):∀ vs H Q E,je m f vs H Q E->vs.length=n+1:=fun vs H Q E h=>by
 obtain⟨p,_,vs',ds,P,rfl,_,r,t,_⟩:=h
 rw [List.length_cons,r.length,hn ds P t]
end Dl
namespace Wb
open PySem L2 PyProof.Rows Dl Wr
theorem dc {f:List D->(D->Prop)->Prop}{t:DA}{ps:List Str}{x:Str}{pp:Pos}{k j:Nat} (C:Cal X.prog X.w X.K X.mg X.base k x ps (spD f)) (hr:Room j X.A) (ha:BA X m (e::es) t) (hk:k<=j:=by decide) (hg:Gl X x:=by rfl) (hdb:zB x:=by decide) (he:zS X e es:=by rfl) (hpl:zP X pos es:=by rfl):BE X m (.Call (.Name x pp) (e::es) [] pos) (tFn f t):=⟨PE.wk (pcS C hr ha.h hk hg hdb he hpl) vI⟩
theorem dcP {f:List D->(D->Prop)->Prop}{t:DA}{ps:List Str}{x y:Str}{pp py:Pos}{k j i:Nat} (C:Cal X.prog X.w X.K X.mg X.base k x ps (je m f)) (hr:Room j X.A) (hi:WV X (.Name y py) i) (ha:BA X m1 es t) (hk:k<=j:=by decide) (hg:Gl X x:=by rfl) (hdb:zB x:=by decide) (he:starEach (.Name y py::es) X.env=(false,eval (.Name y py) X.env)::starEach es X.env:=by rfl) (hpl:zP X pos es:=by rfl):BE X (m1+m) (.Call (.Name x pp) (.Name y py::es) [] pos) (KC TP f i t):=⟨PE.wk (pcS C hr (aP hi.h ha.h) hk hg hdb he hpl) (by
 rintro σ H Q ⟨a,n,H0,own,ρ,P,E,⟨hp,t⟩,q⟩
 obtain⟨hs,_⟩:=E.env.slot i _ hp
 refine⟨.ref a,hs,a,n+m,H0,own,ρ,_,E.first,t,fun ks vs H1 h A r=>?_⟩
 show je m f ((.ref a::vs)++[]) H1 Q E0
 rw [List.append_nil]
 have A':=A.lv (m:=n) (by omega)
 have rr:Rps (fun b=>¬ (aG a n).fp b) H1 vs (ks.map (·.2)):=(RpK.rps A r).mono (fun _ o=>o) (fun _ _ _ e=>e) fun _ _ e=>e
 refine⟨a,n,vs,ks.map (·.2),_,rfl,A.pen,rr,h,fun d v H' h2 k2 i2 r2=>?_⟩
 exact q _ d v H' h2 (A'.go k2 i2) (bf (r2.mono (fun a o=>A'.free o) (fun _ _ _ e=>e) fun _ _ e=>e)))⟩
theorem PL {tg:Expr}{ta:DA}{ps:Pos} (hm:X.mg "range"=none) (ha:BA X m [a] ta) (hg:Gl X "range":=by rfl) (hs:starEach [a] X.env=[(false,eval a X.env)]:=by rfl):BI X m tg (.Call (.Name "range" ps) [a] [] pos) (iR1 ta):=⟨PI.wk (nZ hg hm ha.h hs) (by
 rintro σ H R ⟨a,n,H0,own,ρ,P,E,t,q⟩
 refine⟨a,n,H0,own,ρ,_,E,t,fun ks vs H1 h A r=>?_⟩
 split at h
 ·rename_i k j
  obtain⟨v,rfl,r'⟩:=dG r
  exact⟨j,by rw [r'.int'],h.1.1,h.1.2,q _ _ _ H1 _ h.2 A ql trivial⟩
 ·exact h.elim)⟩
def sT (t:DT):DT:=fun ρ P=>t (stp ρ) P
def sE (t:DE):DE:=fun ρ P=>t (stp ρ) P
theorem xR {l i M:Nat} (h:i<l):(l - i) * M=(l - (i+1)) * M+M:=by
 have:l - i=(l - (i+1))+1:=by omega
 rw [this,Nat.add_mul,Nat.one_mul]
theorem iC {k0 mi mt me:Nat}{ti:DI}{g:DG}{tt:DT}{te:DE}:∀ σ H Q,iG (mi+1000 * (mt+me)) (dLC k0 ti g (sT tt) (sE te)) σ H Q->tLC k0 (Jc mi ti) (fun _=>yd g) (fun _=>rJ mt tt) (fun _=>iG me te) σ H Q:=by
 rintro σ H Q ⟨a,n,H0,own,ρ,P,E,t,q⟩
 refine⟨a,n+1000 * (mt+me),H0,own,ρ,_,E.first,t,fun k ds J H1 Ok h A W o1=>?_⟩
 obtain⟨hlen,ke,Iv,i0,step,done⟩:=h
 have A0:At (aG a n) H0 own H H1:=A.lv (by omega)
 have okS:∀ H',Kp (aG a n) H1 H'->Ok H':=fun H' K=>W.stab H1 H' o1 (fun b o n e=>K b o e (iy A n.1)) (iH A0 K)
 refine⟨fun i m ys H'=>m=ds.length - i/\i<=ds.length/\Kp (aG a n) H1 H'/\(aG a (n+(ds.length - i) * (mt+me))).PI H'/\∃ es,Rps (okK (aG a n) H0 own H ke) H' ys es/\es.length<=i/\Iv i es,⟨_,rfl,Nat.zero_le _,Kp.refl,aK A.pen (Nat.add_le_add_left (Nat.mul_le_mul_right _ (by omega)) _),[],.nil,Nat.le_refl _,i0⟩,?_⟩
 rintro c i m ys H' ⟨rfl,hi,K',I',es,rs,hl,iv⟩
 have oH:=okS H' K'
 have A':At (aG a n) H0 own H H':=A0.go K' (aK I' (by omega))
 have h24:=sizeLine_eq
 by_cases hlt:i<ds.length
 ·rw [xR hlt] at I'
  refine .inr ⟨W.go i H' oH hlt,by have:=rs.length; omega,fun ys' H2=>Kp (aG a n) H1 H2/\(aG a (n+(ds.length - (i+1)) * (mt+me))).PI H2/\∃ es,Rps (okK (aG a n) H0 own H ke) H2 ys' es/\es.length<=i+1/\Iv (i+1) es,fun ys' H2 h=>⟨_,by omega,rfl,hlt,h⟩,fun x H2 y=>?_⟩
  generalize hN:n+(ds.length - (i+1)) * (mt+me)=N at *
  obtain⟨sm,rx⟩:=W.yld i H' x H2 oH y
  have rx:=rx ds[i] (List.getElem?_eq_getElem hlt)
  have I2:(aG a (N+(mt+me))).PI H2:=(aG a (N+(mt+me))).mono H' H2 (by rw [← hN,Nat.add_assoc]; exact I') fun b o _ e=>sm b o e
  have K2:Kp (aG a n) H1 H2:=K'.trans (Kp.of sm)
  have A2:At (aG a n) H0 own H H2:=A0.go K2 (aK I2 (by omega))
  have E2:EnvD (aG a n) H0 own σ H2 ρ:=E.env.go A2.kp A2.pen
  have rs2:=cB A' (Kp.of sm) rs
  have rxc:Rp (okB (aG a n) H0 own (elC k)) H2 x ds[i]:=Ih A rx
  refine⟨aG a n,H0,own,_,_,_,_,E2.comp k0,fQ rxc,step i ds[i] es (List.getElem?_eq_getElem hlt) iv,fun σ3 ρ3 E3 t3=>?_⟩
  have B3:EnvB a (N+me) mt H0 own σ3 H2 (stp ρ3):=⟨zu _,by rw [show N+me+mt=N+(mt+me) by omega]; exact I2,E3.lv (aK I2 (by omega))⟩
  refine⟨a,N+me,H0,own,stp ρ3,_,B3,t3,fun b H4 h4 A4=>?_⟩
  have A4':At (aG a n) H0 own H2 H4:=A4.lv (by omega)
  have A5:At (aG a n) H0 own H H4:=A2.base A4'
  have rs4:=cB A2 A4'.kp rs2
  cases b with
  | true =>
   have E4:EnvD (aG a N) H0 own σ3 H2 (stp ρ3):=E3.lv (aK I2 (by omega))
   refine bQ ⟨a,N,H0,own,stp ρ3,_,⟨zu _,A4.pen,E4.go A4.kp (aK A4.pen (by omega))⟩,(show sE te ρ3 _ by simpa using h4),fun k' d' v H6 h6 A6 r6=>?_⟩
   have A6':At (aG a n) H0 own H4 H6:=A6.lv (by omega)
   refine⟨(K2.trans A4'.kp).trans A6'.kp,A6.pen,es++[d'],(cB A5 A6'.kp rs4).snoc (iW (A5.base A6') h6.1 (bf (jD A5 (Ci r6)))),by simp; omega,h6.2⟩
  | false=>exact bR ⟨K2.trans A4'.kp,aK A4.pen (by omega),es,rs4,by omega,by simpa using h4⟩
 ·have e:i=ds.length:=by omega
  subst e
  refine .inl ⟨W.stop H' oH,fun l hl'=>?_⟩
  obtain⟨k7,i7,nw⟩:=A'.new hl' (.lst ys)
  have j:=fC ke .new
  refine q _ _ _ _ (done es iv) (A'.go k7 i7) (.lst (cJ A' j.2 nw) aB ?_)
  exact (cB A' k7 rs).mono (fun a o=>cJ A' j.1 o) (fun _ _ _ e=>e) fun _ _ e=>e
theorem lc {mi mt me:Nat}{tg iter elt:Expr}{ifs:List Expr}{scope:Scope}{ti:DI}{g:DG}{tt:DT} (own:List Str) (hc:X.calm=true) (hi:BI X mi tg iter ti) (hg:∀ c,WDG (X.comp own scope c) tg g) (ht:∀ c,BTs (X.comp own scope c) mt ifs tt) (he:∀ c,BE (X.comp own scope c) me elt te)
  (hk:dh X.env scope X.N=true:=by rfl) (hs:zF X iter:=by intro _; rfl) :
  BE X (mi+1000 * (mt+me)) (.ListComp elt [⟨tg,iter,ifs,0⟩] scope pos) (dLC own.length ti g (sT tt) (sE te)):=⟨PE.wk (Ht own hc hi.h (fun c=>(hg c).h) (fun c=>(ht c).h) (fun c=>(he c).h) hk hs) iC⟩
variable {X:Cx}{n m m1 m2 m3:Nat}{H0 Hb H H1 H':Hp}{own:Addr->Option Nat}{σ:L2.St}{ρ:List Sl}{pos:Pos}{a b e:Expr}{es:List Expr}{ta tb te:DE}
theorem U3 {K:W.Frag}:Ok2 gIx (fun x y H Q=>P0 K x y H Q\/Sv K x y H Q):=by
 intro p H0 own Hb H x y k1 d1 k2 d2 P Q A r1 r2 t q
 unfold gIx at t
 split at t
 ·rename_i ds i
  obtain⟨d,hd,t⟩:=t
  obtain⟨c,vs,rfl,o,hc,rs⟩:=r1.cM
  obtain⟨v,hv,rv⟩:=rs.atI hd
  exact .inl ⟨c,vs,i,v,rfl,r2.int',SqL.of hc,hv,q _ _ _ _ t Kp.refl A.pen (bf rv)⟩
 ·rename_i ds i
  obtain⟨d,hd,t⟩:=t
  obtain⟨c,vs,rfl,hc,rs⟩:=r1.dU
  obtain⟨v,hv,rv⟩:=rs.atI hd
  exact .inr ⟨c,vs,i,v,rfl,r2.int',SqT.of hc,hv,q _ _ _ _ t Kp.refl A.pen (bf rv)⟩
 ·exact t.elim
theorem ix (ha:BE X m1 a ta) (hb:BE X m2 b tb) (hs:iT b:=by exact fun _ _=>rfl):BE X (m1+m2) (.Subscript a b pos) (t2 gIx ta tb):=⟨PE.wk (eZ (IxR.or cN Al) ha.h hb.h hs) (mD U3)⟩
theorem plus (ha:BE X m1 a ta) (hb:BE X m2 b tb):BE X (m1+m2) (.BinOp a .Add b pos) (t2 Jp ta tb):=op (Dl.OpR.or fW (Dl.OpR.or zV CP)) (by
 intro p H0 own Hb H x y k1 d1 k2 d2 P Q A r1 r2 t q
 cases d1 with
 | int i =>
  cases d2 with
  | int j=>exact .inl ⟨i,j,r1.int',r2.int',q _ _ _ _ t Kp.refl A.pen (.int _)⟩
  | _=>exact t.elim
 | list ds=>exact .inr (.inl (N6 p H0 own Hb H x y k1 _ k2 d2 P Q A r1 r2 t q))
 | tuple ds=>exact .inr (.inr (Ig p H0 own Hb H x y k1 _ k2 d2 P Q A r1 r2 t q))
 | _=>exact t.elim) ha hb
theorem sub (ha:BE X m1 a ta) (hb:BE X m2 b tb):BE X (m1+m2) (.BinOp a .Sub b pos) (t2 (gI0 fun i j=>.int (i - j)) ta tb):=op HJ (Ew fun i j _=>.int _) ha hb
theorem tgt (ha:BE X m1 a ta) (hb:BE X m2 b tb):BT X (m1+m2) (.Compare a [.Gt] [b] pos) (dW (t2 (gI0 fun i j=>.bool (decide (j<i))) ta tb)):=O7 CJ (Ew fun i j _=>.bl _) ha hb (dg _)
theorem teq (hu:X.A.units+64<cLine) (ha:BE X m1 a ta) (hb:BE X m2 b tb):BT X (m1+m2) (.Compare a [.Eq] [b] pos) (dW (t2 (kO false) ta tb)):=O7 (Dl.OpR.or CK (zU hu)) Ie ha hb (dg _)
theorem tne (hu:X.A.units+64<cLine) (ha:BE X m1 a ta) (hb:BE X m2 b tb):BT X (m1+m2) (.Compare a [.NotEq] [b] pos) (dW (t2 (kO true) ta tb)):=O7 (Dl.OpR.or HS (HN hu)) NZ ha hb (dg _)
def sEn (P:DEnds):DEnds:={ nx:=fun r=>P.nx (stp r),rt:=P.rt,bk:=fun r=>P.bk (stp r),ct:=fun r=>P.ct (stp r) }
def sS (t:DS):DS:=fun P ρ=>t (sEn P) (stp ρ)
def Ve (ti:DI):DI:=fun ρ P=>ti ρ fun k ds=>ds.length<=1000/\P k ds
theorem iJ {A:Addr}{o1 o2:Addr->Option Nat}{H H':Hp} (f:FrS (aG A n) o1 H o2 H'):FrS (aG A m) o1 H o2 H':=⟨f.keep,f.tup⟩
theorem qK {A:Addr}{v:V}{d:D} (r:RPost (aG A n) H0 H v d) (h:m<=n):RPost (aG A m) H0 H v d:=⟨r.k0,aK r.pen h,r.rp⟩
def JR (t u:DS):DS:=fun P ρ=>t { nx:=fun r=>u P (stp r),rt:=P.rt,bk:=fun r=>P.bk (stp r),ct:=fun r=>P.ct (stp r) } ρ
section
variable {st:Stmt}{rest:List Stmt}{t u:DS}
theorem cons (h1:BS X m1 st t) (h2:BSs X m2 rest u):BSs X (m1+m2) (st::rest) (JR t u):=⟨PSs.wk' (bH h1.h h2.h) (by
 rintro Q σ H ⟨a,n,H0,own,ρ,P,E,t,w⟩
 refine⟨a,n+m2,H0,own,ρ,_,E.first,t,⟨fun o s h r e g nn=>⟨a,n,H0,o,stp r,P,⟨zu _,e.pen,e.lv (aK e.pen (by omega))⟩,nn,w.go (iJ g)⟩,fun d v H' h r=>w.rt d v H' h (qK r (by omega)),
  fun o s h r e g nn=>w.bk o s h (stp r) (e.lv (aK e.pen (by omega))) (iJ g) nn,fun o s h r e g nn=>w.ct o s h (stp r) (e.lv (aK e.pen (by omega))) (iJ g) nn⟩⟩)⟩
def T8 (t u:DS):DS:=fun P ρ=>∃ Mid:List Sl->Prop,t { nx:=fun r=>Mid (stp r),rt:=P.rt,bk:=fun r=>P.bk (stp r),ct:=fun r=>P.ct (stp r) } ρ/\∀ ρ',Mid ρ'->u P ρ'
theorem j5 (h1:BS X m1 st t) (h2:BSs X m2 rest u):BSs X (m1+m2) (st::rest) (T8 t u):=⟨PSs.wk' (bH h1.h h2.h) (by
 rintro Q σ H ⟨a,n,H0,own,ρ,P,E,⟨Mid,t,k⟩,w⟩
 refine⟨a,n+m2,H0,own,ρ,_,E.first,t,⟨fun o s h r e g nn=>⟨a,n,H0,o,stp r,P,⟨zu _,e.pen,e.lv (aK e.pen (by omega))⟩,k _ nn,w.go (iJ g)⟩,fun d v H' h r=>w.rt d v H' h (qK r (by omega)),
  fun o s h r e g nn=>w.bk o s h (stp r) (e.lv (aK e.pen (by omega))) (iJ g) nn,fun o s h r e g nn=>w.ct o s h (stp r) (e.lv (aK e.pen (by omega))) (iJ g) nn⟩⟩)⟩
theorem one (h1:BS X m st t):BSs X m [st] t:=⟨cU h1.h⟩
theorem lA {j:Nat}{s:Sl} (h:stp ρ=ρ) (hs:Pq s=s):stp (ρ.set j s)=ρ.set j s:=by
 unfold stp at h ⊢
 rw [List.map_set,h,hs]
theorem tL:∀ (js:List Nat) {ρ:List Sl},stp ρ=ρ->stp (js.foldl (fun ρ j=>ρ.set j .any) ρ)=js.foldl (fun ρ j=>ρ.set j .any) ρ
 | [],_,h=>h
 | _::js,_,h=>tL js (lA h rfl)
theorem drops (js:List Nat) (h:BSs X m rest t):BSs X m rest (Bk js t):=⟨PSs.wk' h.h (by
 rintro Q σ H ⟨a,n,H0,own,ρ,P,E,q,w⟩
 exact⟨a,n,H0,own,_,P,⟨tL js E.st,E.pi,E.env.drops js⟩,q,w⟩)⟩
theorem ret (he:BE X m e te):BS X m (.Return (some e) pos) (JV te):=⟨PS.wk' (gW he.h) (by
 rintro Q σ H ⟨a,n,H0,own,ρ,P,E,t,w⟩
 refine⟨a,n,H0,own,ρ,_,E,t,fun k d v H' h A r=>w.rt d v H' h.2 ⟨fun b o e n=>A.kp b o (A.k0 b o e n) n,A.pen,?_⟩⟩
 exact iW A h.1 r)⟩
theorem if_ {c:Expr}{a b:List Stmt}{tc:DT}{mc:Nat} (hc:BT X mc c tc) (ha:BSs X m1 a t) (hb:BSs X m2 b u):BS X (mc+(m1+m2)) (.If c a b pos) (dIf tc t u):=⟨PS.wk' (tU hc.h ha.h hb.h) (by
 rintro Q σ H ⟨a,n,H0,own,ρ,P,E,t,w⟩
 refine⟨a,n+(m1+m2),H0,own,ρ,_,E.first,t,fun b H' h A=>?_⟩
 have A':=A.lv (m:=n) (by omega)
 have E1:=E.next A
 cases b with
 | true=>exact bQ ⟨a,n,H0,own,ρ,P,E1.low (by omega),by simpa using h,w.go A'.frs⟩
 | false=>exact bR ⟨a,n,H0,own,ρ,P,E1.low (by omega),by simpa using h,w.go A'.frs⟩)⟩
theorem R6 {i:Nat} (rg:Option Nat) (h:PS X st (lg (iG m te) (fY i))):BS X m st (yM i rg te):=⟨PS.wk' h (by
 rintro Q σ H ⟨a,n,H0,own,ρ,P,EB,t,w⟩
 have E:=EB.env
 refine⟨a,n,H0,own,ρ,_,EB,t,fun k d v H1 h A r=>?_⟩
 generalize aG a n=p at *
 have r:=bf r
 generalize norm k d=k' at h r
 show Q.nx (σ.set i (some v)) H1
 have E1:=E.go A.kp A.pen
 have fin:∀ s,iR p H0 own (σ.set i (some v)) H1 i s\/¬ i<σ.length->P.nx (ρ.set i s)->Q.nx (σ.set i (some v)) H1:=fun s hs hn =>
  w.nx own _ H1 _ (E1.set fun hl=>hs.elim id fun z=>absurd hl z) A.frs hn
 have here:i<σ.length->(σ.set i (some v))[i]?=some (some v):=fun hl=>List.getElem?_set_self hl
 by_cases hl:i<σ.length
 ·cases k' with
  | imm=>exact fin (.im d) (.inl ⟨v,here hl,r⟩) h
  | new =>
   cases rg with
   | none=>exact fin (.sn d) (.inl ⟨v,here hl,iW A (k:=.snw) rfl r⟩) h
   | some q =>
    simp only [Dl.stK] at h
    by_cases hf:jd q ρ i=true
    ·rw [if_pos hf] at h
     have E2:EnvD p H0 (aO q own) σ H (ρ.set i .any):=(E.drop (i:=i)).clear hf
     have A2:At p H0 (aO q own) H H1:=⟨A.k0,A.kp,A.penb,A.pen,E2.ow⟩
     have E3:=E2.adopt q A2
     have r2:Rp (okK p H0 (aO q own) H .new) H1 v d:=r
     have E4:EnvD p H0 (cT q H H1 (aO q own)) (σ.set i (some v)) H1 ((ρ.set i .any).set i (.dw q d)):=E3.set fun _=>⟨v,here hl,yV (k:=.new) rfl A2 r2⟩
     rw [List.set_set] at E4
     exact w.nx _ _ H1 _ E4 (cF.trans (fO A2)) h
    ·rw [if_neg hf] at h
     exact h.elim
  | reg q=>exact fin (.dw q d) (.inl ⟨v,here hl,r⟩) h
  | n0=>exact h.elim
  | snw=>exact fin (.sn d) (.inl ⟨v,here hl,r⟩) h
  | shr=>exact fin (.sh d) (.inl ⟨v,here hl,r⟩) h
  | wk=>exact h.elim
 ·cases hs:stK rg ρ i k' d with
  | none=>rw [hs] at h; exact h.elim
  | some s=>rw [hs] at h; exact fin s (.inr hl) h)⟩
theorem set {i:Nat}{x:Str}{pos':Pos} (rg:Option Nat) (hN:X.N.Nodup) (hi:X.N[i]?=some x) (hx:Loc X.env.scope x) (he:BE X m e te) (hs:swapsWith e (some (.Name x pos')) pos.line X.env=pure false:=by rfl) (hf:zL X x:=by first | exact .inl rfl | exact .inr rfl | assumption) :
  BS X m (.Assign [.Name x pos'] e pos) (yM i rg te):=R6 rg (cX hN hi hx he.h hs hf)
theorem R5 {mi mt me:Nat}{tg iter elt:Expr}{ifs:List Expr}{scope:Scope}{ti:DI}{g:DG}{tt:DT} (rg:Option Nat) (own:List Str) {i:Nat}{y:Str}{py spos:Pos} (hc:X.calm=true) (hN:X.N.Nodup) (hiN:X.N[i]?=some y) (hx:Loc X.env.scope y) (hi:BI X mi tg iter ti) (hg:∀ c,WDG (X.comp own scope c) tg g) (ht:∀ c,BTs (X.comp own scope c) mt ifs tt) (he:∀ c,BE (X.comp own scope c) me elt te)
  (hsw:swapsWith (.ListComp elt [⟨tg,iter,ifs,0⟩] scope pos) (some (.Name y py)) spos.line X.env=pure true:=by rfl)
  (hk:dh X.env scope X.N=true:=by rfl) (hs:zF X iter:=by intro _; rfl) (hf:zL X y:=by first | exact .inl rfl | exact .inr rfl | assumption) :
  BS X (mi+1000 * (mt+me)) (.Assign [.Name y py] (.ListComp elt [⟨tg,iter,ifs,0⟩] scope pos) spos) (yM i rg (dLC own.length ti g (sT tt) (sE te))):=R6 rg (PS.wk' (G8 own hc hN hiN hx hi.h (fun c=>(hg c).h) (fun c=>(ht c).h) (fun c=>(he c).h) hsw hk hs hf) fun D σ H q=>iC σ H _ q)
theorem Vk {i:Nat} (h:PS X st (oW (tBM X.K "list" lH (j7 i) (vJ m (cu te eX))))):BS X m st (Bl i te):=⟨PS.wk' h (by
 rintro Q σ H ⟨a,n,H0,own,ρ,P,EB,t,w⟩
 have E:=EB.env
 unfold Bl at t
 split at t
 ·rename_i r ds hr
  obtain⟨v,hv,x⟩:=E.slot i _ hr
  obtain⟨l,vs,rfl,hl,ho,rs⟩:=x.cM
  refine⟨.ref l,hv,.inl ⟨rfl,vs,SqL.of ho⟩,a,n,H0,own,ρ,_,EB,iw t,?_⟩
  rintro ks ws H1 ⟨k,d,rfl,hk,hlen,hn⟩ A rk
  obtain⟨y,rfl,ry⟩:=dG rk
  have ry:=iW A hk (bf ry)
  have h1:H1 l=some (.lst vs):=A.kp l _ ho (E.ow l r hl).2.1
  have h24:=sizeLine_eq
  have hln:=rs.length
  refine⟨l,vs,y,rfl,rfl,h1,by omega,?_⟩
  obtain⟨E2,F2⟩:=E.j8 (vs':=vs++[y]) (ds':=ds++[d]) A hv hl ho rs fun H2 f g=>(gU f rs fun d hd=>fH hd).snoc (g ry)
  exact w.nx _ σ _ _ E2 F2 hn
 ·exact t.elim)⟩
theorem append {i:Nat}{x:Str}{apos cpos np:Pos} (hv:WV X (.Name x np) i) (ha:BA X m (e::es) (cu te eX))
  (hbase:attributeBase (.Name x np) "append" X.env (eval (.Name x np) X.env)=eval (.Name x np) X.env:=by rfl)
  (hfew:zW X cpos (e::es):=by rfl)
  (hline:(apos.endLine == cpos.line)=true:=by rfl) (hst:zS X e es:=by rfl) (hplain:zP X cpos es:=by rfl)
  (hs:swapsWith (.Call (.Attribute (.Name x np) "append" apos) (e::es) [] cpos) none pos.line X.env=pure false:=by rfl) :
  BS X m (.Expr (.Call (.Attribute (.Name x np) "append" apos) (e::es) [] cpos) pos) (Bl i te):=Vk (fu (lK PySem.F.plainAttrs_list PySem.F.slot_list_append PySem.F.type_list_append gK hv.h ha.h hbase hfew hline hst hplain) hs)
theorem Vh {i:Nat} (h:PS X st (oW (tBM X.K "list" uW (j7 i) (vJ m (cu te eX))))):BS X m st (JZ i te):=⟨PS.wk' h (by
 rintro Q σ H ⟨a,n,H0,own,ρ,P,EB,t,w⟩
 have E:=EB.env
 unfold JZ at t
 split at t
 ·rename_i r ds hr
  obtain⟨v,hv,x⟩:=E.slot i _ hr
  obtain⟨l,vs,rfl,hl,ho,rs⟩:=x.cM
  refine⟨.ref l,hv,.inl ⟨rfl,vs,SqL.of ho⟩,a,n,H0,own,ρ,_,EB,iw t,?_⟩
  rintro ks ws H1 ⟨k,d,rfl,hh⟩ A rk
  cases d with
  | list es =>
   obtain⟨hk,hlen,hn⟩:=hh
   obtain⟨y,rfl,ry⟩:=dG rk
   obtain⟨b,zs,e1,o1,hb,rz⟩:=Rp.cM ry
   subst e1
   have rz2:Rps (okK (aG a n) H0 own H .new) H1 zs es:=by
    rcases Bool.or_eq_true_iff.mp hk with q | q
    ·exact rz.mono (fun a o=>cJ A q o) (fun _ _ _ e=>e) fun _ _ e=>e
    ·exact (Rps.imm rz q).mono (fun a o=>o.elim) (fun _ _ _ e=>e) fun _ _ e=>e
   have h1:H1 l=some (.lst vs):=A.kp l _ ho (E.ow l r hl).2.1
   have h24:=sizeLine_eq
   have l1:=rs.length
   have l2:=rz.length
   refine⟨l,b,vs,zs,rfl,rfl,h1,hb,by omega,?_⟩
   obtain⟨E2,F2⟩:=E.j8 (vs':=vs++zs) (ds':=ds++es) A hv hl ho rs fun H2 f g=>(gU f rs fun d hd=>fH hd).app (qJ g rz2)
   exact w.nx _ σ _ _ E2 F2 hn
  | _=>exact hh.elim
 ·exact t.elim)⟩
theorem extend {i:Nat}{x:Str}{apos cpos np:Pos} (hv:WV X (.Name x np) i) (ha:BA X m (e::es) (cu te eX))
  (hbase:attributeBase (.Name x np) "extend" X.env (eval (.Name x np) X.env)=eval (.Name x np) X.env:=by rfl)
  (hfew:zW X cpos (e::es):=by rfl)
  (hline:(apos.endLine == cpos.line)=true:=by rfl) (hst:zS X e es:=by rfl) (hplain:zP X cpos es:=by rfl)
  (hs:swapsWith (.Call (.Attribute (.Name x np) "extend" apos) (e::es) [] cpos) none pos.line X.env=pure false:=by rfl) :
  BS X m (.Expr (.Call (.Attribute (.Name x np) "extend" apos) (e::es) [] cpos) pos) (JZ i te):=Vh (fu (lK PySem.F.plainAttrs_list PySem.F.slot_list_extend PySem.F.type_list_extend tZ hv.h ha.h hbase hfew hline hst hplain) hs)
theorem QB {A:Addr}{k:Kd}:okB (aG A n) H0 own k=okB (aG A m) H0 own k:=by cases k <;> rfl
theorem for_ {tg iter:Expr}{body:List Stmt}{ti:DI}{g:DG}{tb:DS}{mi mb:Nat} (hp:PassesOwn (model X.prog X.w) X.A X.env X.xe) (hc:X.calm=true) (hi:BI X mi tg iter ti) (hg:WDG X tg g) (hb:BSs X mb body tb) (hs:zF X iter:=by intro _; rfl):BS X (mi+1000 * mb) (.For tg iter body [] pos) (Nh (Ve ti) g (sS tb)):=⟨PS.wk' (G9 hp hc hi.h hg.h hb.h hs) (by
 rintro Q σ H ⟨a,n,H0,own,ρ,P,E,t,w⟩
 refine⟨a,n+1000 * mb,H0,own,ρ,_,E.first,t,fun k ds J H1 Ok h A W o1=>?_⟩
 obtain⟨hlen,hk,Iv,i0,step,done⟩:=h
 have A0:At (aG a n) H0 own H H1:=A.lv (by omega)
 have w1:=w.go A0.frs
 have okS:∀ own' H',FrS (aG a n) own H1 own' H'->Ok H':=fun own' H' F=>W.stab H1 H' o1 (fun b o n e=>by
  have o2:=cJ A (k:=.shr) hk n.1
  exact (F.keep b o e o2.1 o2.2).1) F.tup
 refine⟨fun i m σ' H'=>m=ds.length - i/\i<=ds.length/\∃ own' ρ',stp ρ'=ρ'/\(aG a (n+(ds.length - i) * mb)).PI H'/\EnvD (aG a n) H0 own' σ' H' ρ'/\FrS (aG a n) own H1 own' H'/\Iv i ρ',⟨_,rfl,Nat.zero_le _,own,ρ,E.st,aK A.pen (Nat.add_le_add_left (Nat.mul_le_mul_right _ (by omega)) _),E.env.go A0.kp A0.pen,FrS.refl,i0⟩,?_⟩
 rintro i m σ' H' ⟨rfl,hi,own',ρ',hst,I',E',F',iv⟩
 have oH:=okS own' H' F'
 by_cases hlt:i<ds.length
 ·rw [xR hlt] at I'
  refine .inr ⟨W.go i H' oH hlt,fun σ2 H2=>∃ own' ρ',stp ρ'=ρ'/\(aG a (n+(ds.length - (i+1)) * mb)).PI H2/\EnvD (aG a n) H0 own' σ2 H2 ρ'/\FrS (aG a n) own H1 own' H2/\Iv (i+1) ρ',fun σ2 H2 h=>⟨_,by omega,rfl,hlt,h⟩,fun x H2 y=>?_⟩
  generalize hN:n+(ds.length - (i+1)) * mb=N at *
  have nN:n<=N:=by omega
  obtain⟨sm,rx⟩:=W.yld i H' x H2 oH y
  have rx:=rx ds[i] (List.getElem?_eq_getElem hlt)
  have I2:(aG a (N+mb)).PI H2:=(aG a (N+mb)).mono H' H2 (by rw [← hN,Nat.add_assoc]; exact I') fun b o _ e=>sm b o e
  have E2:EnvD (aG a n) H0 own' σ' H2 ρ':=E'.go (Kp.of sm) (aK I2 (by omega))
  have F2:FrS (aG a n) own H1 own' H2:=⟨fun b o e n z=>let ⟨x,y⟩:=F'.keep b o e n z; ⟨sm b o x,y⟩,fun a xs e=>sm a _ (F'.tup a xs e)⟩
  have rb:Rp (okB (aG a n) H0 own' (elK k)) H2 x ds[i]:=by
   have:=N7 hk A (iJ F2) rx
   rw [QB (m:=n)] at this
   exact this
  refine⟨aG a n,H0,own',ρ',_,_,_,E2,fQ rb,step i ds[i] ρ' (List.getElem?_eq_getElem hlt) iv,fun σ3 ρ3 E3 t3=>?_⟩
  have nxt:∀ own4 σ4 H4 ρ4,EnvD (aG a N) H0 own4 σ4 H4 ρ4->FrS (aG a N) own' H2 own4 H4->Iv (i+1) (stp ρ4)->∃ own' ρ',stp ρ'=ρ'/\(aG a N).PI H4/\EnvD (aG a n) H0 own' σ4 H4 ρ'/\FrS (aG a n) own H1 own' H4/\Iv (i+1) ρ':=fun own4 σ4 H4 ρ4 E4 F4 v4=>⟨own4,stp ρ4,zu _,E4.pen,E4.lv (aK E4.pen nN),F2.trans (iJ F4),v4⟩
  exact⟨a,N,H0,own',stp ρ3,_,⟨zu _,I2,E3.lv (aK I2 (by omega))⟩,t3,⟨nxt,fun d v H' h r=>w.rt d v H' h (qK r nN),fun o s h r e f nn=>w1.nx o s h (stp r) (e.lv (aK e.pen nN)) (F2.trans (iJ f)) nn,nxt⟩⟩
 ·have e:i=ds.length:=by omega
  subst e
  exact .inl ⟨W.stop H' oH,w1.nx own' σ' H' ρ' E' F' (done ρ' iv)⟩)⟩
end
theorem wN:∀ (ds:List D) (k:Nat),stp (ds.map aZ++List.replicate k .any)=ds.map aZ++List.replicate k .any:=fun ds k=>by
 unfold stp
 rw [List.map_append,List.map_replicate,List.map_map]
 congr 1
 refine List.map_congr_left fun d _=>?_
 show Pq (aZ d)=aZ d
 unfold aZ
 split <;> rfl
theorem Bf {f:List D->(D->Prop)->Prop}{T:DS}{N:List Str}{vs:List V}{H:Hp}{Q:VK}{E:XK}{M M':Nat} (h:je M' f vs H Q E) (hm:Nat.ble M M'=true)
  (body:∀ ds P,f ds P->∃ ρ,ds.map aZ++List.replicate (N.length - (ds.length+1)) .any=ρ/\T { nx:=fun _=>P .none,rt:=P } (.pen TP::ρ)):Ah M T { nx:=fun _ H'=>Q .non H',rt:=Q } (L2.start N vs) H:=by
 have hm:=Nat.le_of_ble_eq_true hm
 obtain⟨a,n,vs',ds,P,rfl,pi,r,t,k⟩:=h
 obtain⟨ρ,e,b⟩:=body ds P t
 have E:=Dp (C:=TP) (p:=aG a n) (N:=N) trivial trivial (aK pi (by omega)) r
 rw [e] at E
 have st:stp (.pen TP::ρ)=.pen TP::ρ:=by
  rw [← e]
  exact congrArg (List.cons (Sl.pen TP)) (wN ds _)
 exact⟨a,n,H,fun _=>none,_,_,⟨st,aK pi (by omega),E⟩,b,⟨fun o s h' r' e' _ nn=>k _ _ h' nn e'.k0 e'.pen .non,fun d v h' nn w=>k d v h' nn w.k0 w.pen (w.rp.mono (fun _ o=>o.1) (fun _ _ _ e=>e) fun _ _ e=>e),fun _ _ _ _ _ _ n=>n.elim,fun _ _ _ _ _ _ n=>n.elim⟩⟩
def KJ (K:W.Frag) (pre:List D->Prop):Sp:=fun vs H Q _=>∃ (sc:Addr) (ns:List Int) (vs':List V) (ds:List D),vs=.ref sc::vs'/\SqL K H sc (ns.map V.int)/\Rps (fun _=>True) H vs' ds/\pre ds /\
 ∀ a H',(aG a 1152921504606846976).PI H'->Same H H'->H a=none->Q (.ref a) H'
theorem M7 {G:Gr}{p:Pn}{H0 H:Hp}{own:Addr->Option Nat}{σ:L2.St}{ρ:List Sl} (E:@EnvD G p H0 own σ H ρ):@EnvD grT p H0 own σ H ρ:=@EnvD.mk grT _ _ _ _ _ _ E.k0 E.pen E.ow E.slot E.len trivial
theorem JD {G:Gr}{p:Pn}{H0 H:Hp}{own:Addr->Option Nat}{σ:L2.St}{ρ:List Sl} (g:G.G p H0) (E:@EnvD grT p H0 own σ H ρ):@EnvD G p H0 own σ H ρ:=@EnvD.mk G _ _ _ _ _ _ (@EnvD.k0 grT _ _ _ _ _ _ E) (@EnvD.pen grT _ _ _ _ _ _ E) (@EnvD.ow grT _ _ _ _ _ _ E) (@EnvD.slot grT _ _ _ _ _ _ E) (@EnvD.len grT _ _ _ _ _ _ E) g
variable {X:Cx}{K:W.Frag}{sc:Addr}{ns:List Int}{pre:List D->Prop}
theorem anyI {G:Gr}{tg e:Expr}{t:DI} (h:@WDI grT X tg e t):@PDI G X tg e t:=PI.wk (@WDI.h grT _ _ _ _ h) (by
 rintro σ H Q ⟨p,H0,own,ρ,P,E,t,q⟩
 exact⟨p,H0,own,ρ,P,M7 E,t,q⟩)
theorem Vl {G:Gr}{e:Expr}{g:DG} (h:@WDG grT X e g):@PDG G X e g:=PG.wk (@WDG.h grT _ _ _ h) (by
 rintro v σ H Q ⟨p,H0,own,ρ,k,d,P,E,r,t,q⟩
 exact⟨p,H0,own,ρ,k,d,P,M7 E,r,t,fun σ' ρ' E' h=>q σ' ρ' (JD E.gr E') h⟩)
theorem Ub {G:Gr}{ss:List Stmt}{t:DS} (h:@WDSs grT X ss t):@iU G X ss t:=PSs.wk' (@WDSs.h grT _ _ _ h) (by
 rintro Q σ H ⟨p,H0,own,ρ,P,E,t,w⟩
 exact⟨p,H0,own,ρ,P,M7 E,t,@Wish.mk grT _ _ _ _ _ _ (fun o s h r e f n=>w.nx o s h r (JD E.gr e) f n) w.rt (fun o s h r e f n=>w.bk o s h r (JD E.gr e) f n) (fun o s h r e f n=>w.ct o s h r (JD E.gr e) f n)⟩)
def vM:Sl->Sl
 | .im d=>.im d
 | .scr v _=>.scr v false
 | _=>.any
def Qu (sc:Addr) (ρ:List Sl):List Sl:=.scr (.ref sc) false::List.replicate (ρ.length - 1) .any
def Vj (sc:Addr) (pre:List D->Prop) (i:Nat) (t1:DA) (t:DS):DS:=fun P ρ=>(∃ b,ρ[0]?=some (.scr (.ref sc) b))/\i<ρ.length/\t1 ρ fun ks=>pre (ks.map (·.2))/\t { nx:=fun r=>(∃ b,r[0]?=some (.scr (.ref sc) b))/\r.length=ρ.length/\P.nx (Qu sc ρ),rt:=P.rt } ((ρ.map vM).set i (.pen TP))
theorem Lg {m i k j:Nat}{x y z:Str}{ps:List Str}{es:List Expr}{pos' spos p2 p3 pos1:Pos}{rest:List Stmt}{t1:DA}{t:DS} (C:Cal X.prog X.w X.K X.mg X.base k y ps (KJ K pre)) (hr:Room j X.A) (hv:WV X (.Name z p3) 0) (ha:WDA X es t1) (hN:X.N.Nodup) (hi:X.N[i]?=some x) (hx:Loc X.env.scope x) (hb:BSs X m rest t) (hm:Nat.ble m 1152921504606846976=true)
  (hk:k<=j:=by decide) (hg:Gl X y:=by rfl) (hdb:zB y:=by decide) (he:starEach (.Name z p3::es) X.env=(false,eval (.Name z p3) X.env)::starEach es X.env:=by rfl) (hpl:zP X pos1 es:=by rfl)
  (hs:swapsWith (.Call (.Name y p2) (.Name z p3::es) [] pos1) (some (.Name x pos')) spos.line X.env=pure false:=by rfl) (hf:zL X x:=by first | exact .inl rfl | exact .inr rfl | assumption) :
  @iU (grL K sc ns) X (.Assign [.Name x pos'] (.Call (.Name y p2) (.Name z p3::es) [] pos1) spos::rest) (Vj sc pre i t1 t):=PSs.wk' (bH (cX hN hi hx (pcS C hr (aP hv.h ha.h he) hk hg hdb he hpl) hs hf) hb.h) (by
 rintro Q σ H ⟨p,H0,own,ρ,P,E,⟨⟨b0,h0⟩,hil,t⟩,w⟩
 have hm:=Nat.le_of_ble_eq_true hm
 have gr:=@EnvD.gr (grL K sc ns) _ _ _ _ _ _ E
 replace E:=M7 E
 have wnx:∀ own' σ' H' ρ',EnvD p H0 own' σ' H' ρ'->FrS p own H own' H'->P.nx ρ'->Q.nx σ' H':=fun o s h r e f n=>@Wish.nx (grL K sc ns) _ _ _ _ _ _ w o s h r (JD gr e) f n
 have wrt:∀ d v H',P.rt d->RPost p H0 H' v d->Q.rt v H':=@Wish.rt (grL K sc ns) _ _ _ _ _ _ w
 obtain⟨hs0,_⟩:=E.slot 0 _ h0
 refine⟨.ref sc,hs0,p,H0,own,ρ,_,E,t,fun ks vs H1 h1 A1 r1=>?_⟩
 show KJ K pre ((.ref sc::vs)++[]) H1 _ E0
 rw [List.append_nil]
 have s01:Same H0 H1:=fun b o e=>by
  have nb:¬ p.fp b:=fun z=>by rw [gr.2 b z] at e; cases e
  exact A1.kp b o (E.k0 b o e nb) nb
 refine⟨sc,ns,vs,ks.map (·.2),rfl,SqL.same gr.1 s01,(RpK.rps A1 r1).mono (fun _ _=>trivial) (fun _ _ _ e=>e) fun _ _ e=>e,h1.1,fun a H2 pi2 s12 fr=>?_⟩
 have nfa:¬ p.fp a:=fun z=>by
  obtain⟨o,e,_⟩:=p.is H1 a A1.pen z
  rw [fr] at e
  cases e
 have hil2:i<σ.length:=by rw [← E.len]; exact hil
 have tp:∀ b xs,H b=some (.tup xs)->H2 b=some (.tup xs):=fun b xs e=>s12 b _ (A1.tups b xs e)
 have E2:EnvD (aG a (1152921504606846976 - m)) H2 (fun _=>none) (σ.set i (some (.ref a))) H2 ((ρ.map vM).set i (.pen TP)):=by
  refine⟨fun _ _ e _=>e,aK pi2 (by omega),fun _ _ e=>(nomatch e),fun q s e=>?_,by simp [E.len],trivial⟩
  by_cases hq:q=i
  ·subst hq
   rw [List.getElem?_set_self (by simpa using hil)] at e
   cases e
   exact⟨List.getElem?_set_self hil2,trivial⟩
  ·rw [List.getElem?_set_ne (Ne.symm hq),List.getElem?_map] at e
   have eq:(σ.set i (some (V.ref a)))[q]?=σ[q]?:=List.getElem?_set_ne (Ne.symm hq)
   cases e1:ρ[q]? with
   | none=>rw [e1] at e; cases e
   | some s1 =>
    rw [e1] at e
    have e:=Option.some.inj e
    subst e
    have hq1:=E.slot q s1 e1
    cases s1 with
    | im d =>
     obtain⟨v,ev,rv⟩:=hq1
     exact⟨v,by rw [eq]; exact ev,rv.mono (fun _ o=>o) (fun _ _ o=>o.elim) tp⟩
    | scr v b=>exact⟨by rw [eq]; exact hq1.1,fun z=>nomatch z⟩
    | _=>trivial
 have st:stp ((ρ.map vM).set i (.pen TP))=(ρ.map vM).set i (.pen TP):=by
  refine lA ?_ rfl
  unfold stp
  rw [List.map_map]
  refine List.map_congr_left fun s _=>?_
  cases s <;> rfl
 have keep:∀ b o,H b=some o->¬ p.fp b->H2 b=some o/\b≠a:=fun b o e n=>⟨s12 b o (A1.kp b o e n),fun z=>by subst z; rw [A1.kp b o e n] at fr; cases fr⟩
 have pp:∀ H':Hp,(∀ b o,H2 b=some o->¬ (aG a (1152921504606846976 - m)).fp b->H' b=some o)->p.PI H':=fun H' k=>p.mono H2 H' (p.mono H1 H2 A1.pen fun b o _ e=>s12 b o e) fun b o z e=>k b o e fun y=>nfa ((show b=a from y) ▸ z)
 have k0:∀ H':Hp,(∀ b o,H2 b=some o->¬ (aG a (1152921504606846976 - m)).fp b->H' b=some o)->∀ b o,H0 b=some o->¬ p.fp b->H' b=some o:=fun H' k b o e n=>by
  have:=keep b o (E.k0 b o e n) n
  exact k b o this.1 this.2
 refine⟨a,1152921504606846976 - m,H2,fun _=>none,_,_,⟨st,by rw [show 1152921504606846976 - m+m=1152921504606846976 by omega]; exact pi2,E2⟩,h1.2,⟨fun o s h r e g nn=>?_,fun d v h nn r=>?_,fun _ _ _ _ _ _ n=>n.elim,fun _ _ _ _ _ _ n=>n.elim⟩⟩
 ·obtain⟨⟨b,hb0⟩,hlen,hP⟩:=nn
  refine wnx own s h _ ?_ ⟨fun b o eb n z=>?_,fun c xs e=>g.tup c xs (tp c xs e)⟩ hP
  ·refine⟨k0 h e.k0,pp h e.k0,fun c q oc=>?_,fun q sl eq=>?_,?_,trivial⟩
   ·obtain⟨h1',h2',h3'⟩:=E.ow c q oc
    refine⟨h1',h2',fun z=>?_⟩
    cases hc:H c with
    | none=>exact h3' hc
    | some o =>
     have:=keep c o hc h2'
     rw [e.k0 c o this.1 this.2] at z
     cases z
   ·unfold Qu at eq
    cases q with
    | zero =>
     have eq:=Option.some.inj eq
     subst eq
     exact⟨(e.slot 0 _ hb0).1,fun z=>nomatch z⟩
    | succ q =>
     rw [List.getElem?_cons_succ] at eq
     have:=(List.mem_replicate.mp (List.mem_of_getElem? eq)).2
     subst this
     trivial
   ·unfold Qu
    have:=e.len
    rw [List.length_cons,List.length_replicate]
    omega
  ·have:=keep b o eb n
   exact⟨e.k0 b o this.1 this.2,z⟩
 ·refine wrt d v h nn ⟨k0 h r.k0,pp h r.k0,r.rp.mono (fun b o=>?_) (fun _ _ _ e=>e) fun _ _ e=>e⟩
  have hb:H b=none:=by
   cases hb:H b with
   | none=>rfl
   | some u =>
    by_cases hf:p.fp b
    ·obtain⟨u1,e1,_⟩:=p.is H1 b A1.pen hf
     rw [s12 b u1 e1] at o
     cases o.1
    ·rw [(keep b u hb hf).1] at o
     cases o.1
  have nf:¬ p.fp b:=fun z=>by
   obtain⟨u1,e1,_⟩:=p.is H b E.pen z
   rw [hb] at e1
   cases e1
  refine⟨?_,nf⟩
  cases e0:H0 b with
  | none=>rfl
  | some u=>rw [E.k0 b u e0 nf] at hb; cases hb)
theorem Uk {tg iter:Expr}{body after:List Stmt}{pos:Pos}{ti:DI}{g:DG}{tb u:DS} (hp:PassesOwn (model X.prog X.w) X.A X.env X.xe) (hc:X.calm=true) (hi:WDI X tg iter ti) (hg:WDG X tg g) (hb:@iU (grL K sc ns) X body tb) (ha:WDSs X after u) (hs:zF X iter:=by intro _; rfl):@iU (grL K sc ns) X (.For tg iter body [] pos::after) (Dl.JR (Nh ti g tb) u):=by
 letI:=grL K sc ns
 exact Dl.aA (Dl.eV hp hc (anyI hi) (Vl hg) hb hs) (Ub ha)
end Wb
namespace Wr
open PySem L2 PyProof.Rows Dl
variable [Gr] {X:Cx}{pos:Pos}{a b:Expr}{ta tb:DE}
end Wr
namespace Dl
open PySem L2 PyProof.Rows
@[reducible] def grE (a CN:Addr):Gr:=⟨fun p H0=>p=fj/\H0 a=some (kY a (.ref CN))⟩
variable {X:Cx}{pos:Pos}
structure RefK (K:W.Frag) (mg:Str->Option Value) (xN:Str) (xs:List Str) (CN CF c1 c2 c3 c4 c5 c6 c7 c8 c9:Addr):Prop where
 mF:mg "FallError"=some (.ref CF)
 mN:mg xN=some (.ref CN)
 m1:mg (xs.getD 0 "")=some (.ref c1)
 m2:mg (xs.getD 1 "")=some (.ref c2)
 m3:mg (xs.getD 2 "")=some (.ref c3)
 m4:mg (xs.getD 3 "")=some (.ref c4)
 m5:mg (xs.getD 4 "")=some (.ref c5)
 m6:mg (xs.getD 5 "")=some (.ref c6)
 m7:mg (xs.getD 6 "")=some (.ref c7)
 m8:mg (xs.getD 7 "")=some (.ref c8)
 m9:mg (xs.getD 8 "")=some (.ref c9)
 mV:mg "ValueError"=none
 exm:W.exmOne K (.ref CN) (.ref CF)=some true
 kx:ExcK K CN
 no:∀ c∈[Value.ref c1,.ref c2,.ref c3,.ref c4,.ref c5,.ref c6,.ref c7,.ref c8,.ref c9],W.kitOne K (.ref CN) c=some false
 one:W.kitOne K (.ref CN) (.ref CN)=some true
 val:W.kitOne K (.ref CN) (.type "ValueError")=some true
theorem tE:bootBuiltins "ValueError"=some (.type "ValueError"):=by decide +kernel
end Dl
namespace L2
open PySem PySem.Spec PyProof.Rows
variable {X:Cx}{k:Nat}{f CF:Addr}{fd:FuncData}{ps:List Str}{sp:Sp}{x hx n:Str}{p np cpos epos hpos:Pos}{e:Expr}{es:List Expr}{t:TA}{b₀:Stmt}{suite:List Stmt}{ts:TS}{j:Nat}
def Ss:V->List V->Hp->VK->Prop:=fun x vs H Q=>∃ (l:Addr) (ns:List Int) (k:Int) (j:Nat),x=.ref l/\vs=[.int k]/\H l=some (.lst (ns.map V.int))/\ns[j]?=some k/\(∀ m,m<j->ns[m]?≠some k)/\Q .non (upd H l (.lst ((ns.eraseIdx j).map V.int)))
def isK (k:Int):Value->Bool
 | .int a _=>a == k
 | _=>false
theorem xV {α β:Type} (g:α->β):∀ (l:List α) (i:Nat),(l.map g).eraseIdx i=(l.eraseIdx i).map g
 | [],_=>rfl
 | _::_,0=>rfl
 | x::l,i+1=>congrArg (g x::·) (xV g l i)
theorem EY {X:Cx}:MtM X "list.remove" Ss:=by
 intro pins s σ H x vs v us Q I rx rv h
 obtain⟨l,ns,k,j,rfl,rfl,hH,hj,hno,q⟩:=h
 cases rx
 obtain⟨u,rfl,ru⟩:=rv.one
 obtain⟨t,rfl⟩:=ru
 obtain⟨z,its,n,r,hl,e⟩:=I.xW hH
 have at':∀ (m:Nat) (a:Int),ns[m]?=some a->∃ t',its[m]?=some (Value.int a t'):=fun m a hm=>by
  obtain⟨u,hu,ru⟩:=r.get (i:=m) (x:=V.int a) (by rw [List.getElem?_map,hm]; rfl)
  obtain⟨t',rfl⟩:=ru
  exact⟨t',hu⟩
 have hlen:its.length=ns.length:=by rw [← hl,List.length_map]
 obtain⟨t',ht'⟩:=at' j k hj
 have hjl:j<its.length:=(List.getElem?_eq_some_iff.mp ht').1
 refine call_meets F.slot_list_remove ⟨_,e,rfl⟩ F.entry_list_remove (F.args_list_remove_2 _ _)
  (MeetsSeq.list_remove l its.toArray n (.int k t) (isK k) (fun y hy=>?_) j (by rw [List.size_toArray]; exact hjl) ?_ (fun m hm hmj=>?_) (by rw [List.size_toArray]; omega)) ⟨e,?_⟩
 ·have hy:y∈its:=by simpa using hy
  obtain⟨m,hm⟩:=List.getElem?_of_mem hy
  have hml:m<ns.length:=by rw [← hlen]; exact (List.getElem?_eq_some_iff.mp hm).1
  obtain⟨t2,h2⟩:=at' m _ (List.getElem?_eq_getElem hml)
  rw [hm] at h2
  cases h2
  exact MeetsSeq.EqGives.int _ _ _ _
 ·show isK k its.toArray[j]=true
  have:its.toArray[j]=Value.int k t':=by
   rw [List.getElem_toArray]
   exact (List.getElem?_eq_some_iff.mp ht').2
  rw [this]
  exact beq_self_eq_true k
 ·have hml:m<its.length:=by rw [List.size_toArray] at hm; exact hm
  obtain⟨t2,h2⟩:=at' m _ (List.getElem?_eq_getElem (by rw [← hlen]; exact hml))
  have e2:its.toArray[m]=Value.int ns[m] t2:=by
   rw [List.getElem_toArray]
   exact (List.getElem?_eq_some_iff.mp h2).2
  rw [e2]
  have:=hno m hmj
  rw [List.getElem?_eq_getElem (by rw [← hlen]; exact hml)] at this
  exact beq_false_of_ne fun z=>this (by rw [z])
 refine⟨.non,_,I.IV (its':=its.eraseIdx j) hH e ?_ (ys:=(ns.eraseIdx j).map V.int) ?_ ?_,rfl,q⟩
 ·show its.toArray.eraseIdxIfInBounds j=(its.eraseIdx j).toArray
  rw [List.eraseIdxIfInBounds_toArray]
 ·have:=r.eraseIdx j
  rw [xV] at this
  exact this
 ·have:=oJ ns j
  rw [List.length_map]
  omega
end L2
namespace Dl
open PySem L2 PyProof.Rows
theorem yI {k:Int}:∀ {ns:List Int},k∈ns->∃ j:Nat,ns[j]?=some k/\(∀ m,m<j->ns[m]?≠some k)/\ns.eraseIdx j=ns.erase k
 | x::ns,h=>by
  by_cases e:x=k
  ·subst e
   exact⟨0,rfl,fun m hm=>absurd hm (Nat.not_lt_zero _),by rw [List.erase_cons_head]; rfl⟩
  ·have h':k∈ns:=(List.mem_cons.mp h).resolve_left fun z=>e z.symm
   obtain⟨j,a,b,c⟩:=yI h'
   refine⟨j+1,a,fun m hm=>?_,by rw [List.eraseIdx_cons_succ,c,List.erase_cons_tail (by simpa using e)]⟩
   cases m with
   | zero=>exact fun z=>e (Option.some.inj z)
   | succ m=>exact b m (by omega)
variable [Gr] {X:Cx}{st:Stmt}{tj:DE}
def T9 (i:Nat) (tj:DE):DS:=fun P ρ=>∃ (r:Nat) (ns:List Int),ρ[i]?=some (.dw r (.list (ns.map PyData.int)))/\tj ρ fun _ dj=>match dj with
 | .int k=>k∈ns/\P.nx ((forget r ρ).set i (.dw r (.list ((ns.erase k).map PyData.int))))
 | _=>False
theorem oR {i:Nat} (h:PS X st (oW (tBM X.K "list" Ss (j7 i) (jo (cu tj eX))))):PDS X st (T9 i tj):=PS.wk' h (by
 rintro Q σ H ⟨p,H0,own,ρ,P,E,⟨r,ns,hr,t⟩,w⟩
 obtain⟨v,hv,x⟩:=E.slot i _ hr
 obtain⟨l,vs,rfl,hl,ho,rs⟩:=x.cM
 refine⟨.ref l,hv,.inl ⟨rfl,vs,SqL.of ho⟩,p,H0,own,ρ,_,E,iw t,?_⟩
 rintro ks ws H1 ⟨k,dj,rfl,hh⟩ A rk
 obtain⟨y,rfl,ry⟩:=dG rk
 cases dj with
 | int a =>
  obtain⟨hm,hn⟩:=hh
  have ej:=Rp.int' ry
  have h1:H1 l=some (.lst vs):=A.kp l _ ho (E.ow l r hl).2.1
  have ev:=Rps.ints rs
  subst ev
  obtain⟨j,hj,hno,he⟩:=yI hm
  refine⟨l,ns,a,j,rfl,by rw [ej],h1,hj,hno,?_⟩
  rw [he]
  obtain⟨E2,F2⟩:=E.j8 (vs':=(ns.erase a).map V.int) (ds':=(ns.erase a).map PyData.int) A hv hl ho rs fun H2 f g=>Rps.ofMap (fun i=>.int i) _
  exact w.nx _ σ _ _ E2 F2 hn
 | _=>exact hh.elim)
def Ua (j i q:Nat):DS:=fun P ρ=>∃ (r:Nat) (ds:List D) (d:D),ρ[i]?=some (.dw r (.list (ds++[d])))/\dZ d=true/\jd q ((forget r ρ).set i (.dw r (.list ds))) j=true/\P.nx (((forget r ρ).set i (.dw r (.list ds))).set j (.dw q (.list [d])))
theorem Bg {i j:Nat} (q:Nat) (h:PS X st (lg (Kz (Nv (Pk X.K "list" PX (j7 i)) Pa)) (fY j))):PDS X st (Ua j i q):=PS.wk' h (by
 rintro Q σ H ⟨p,H0,own,ρ,P,E,⟨r,ds,d,hr,im,hf,t⟩,w⟩
 obtain⟨v,hv,x⟩:=E.slot i _ hr
 obtain⟨l,vs,rfl,hl,ho,rs⟩:=x.cM
 have hln:=rs.length
 rw [List.length_append,List.length_singleton] at hln
 obtain⟨y,hy,ry⟩:=rs.getD (i:=ds.length) (d:=d) (by rw [List.getElem?_append_right (Nat.le_refl _),Nat.sub_self]; rfl)
 have ry0:=ry.imm im
 have rt:=rs.take ds.length
 rw [List.take_append_of_le_length (Nat.le_refl _),List.take_length] at rt
 have edl:vs.take ds.length=vs.dropLast:=by rw [List.dropLast_eq_take,hln]; rfl
 rw [edl] at rt
 refine⟨.ref l,hv,.inl ⟨rfl,vs,SqL.of ho⟩,l,vs,y,rfl,rfl,ho,by rw [hln]; exact hy,by show 1<=sizeLine; decide,fun l2 hl2=>?_⟩
 obtain⟨E2,F2⟩:=E.j8 (vs':=vs.dropLast) (ds':=ds) E.at hv hl ho rs fun H2 f g=>gU f rt fun d hd=>fH (List.mem_append_left _ hd)
 obtain⟨k2,i2,nw⟩:=E2.at.new hl2 (.lst [y])
 have A:=E2.at.go k2 i2
 have E3:=(E2.drop (i:=j)).clear hf
 have A3:At p H0 (aO q (cT r H H own)) (upd H l (.lst vs.dropLast)) (upd (upd H l (.lst vs.dropLast)) l2 (.lst [y])):=⟨A.k0,A.kp,A.penb,A.pen,E3.ow⟩
 have E4:=E3.adopt q A3
 have ry2:Rp (fun _=>False) (upd (upd H l (.lst vs.dropLast)) l2 (.lst [y])) y d:=ry0.mono (fun _ o=>o.elim) (fun _ _ o=>o.elim) fun a xs e=>A3.tups a xs (F2.tup a xs e)
 have E5:=E4.set (i:=j) (v:=.ref l2) (s:=.dw q (.list [d])) fun hl=>⟨.ref l2,List.getElem?_set_self hl,.lst (fM hl2 aB) aB (.cons (ry2.mono (fun _ o=>o.elim) (fun _ _ o=>o.elim) fun _ _ e=>e) .nil)⟩
 rw [List.set_set] at E5
 exact w.nx _ _ _ _ E5 (F2.trans (cF.trans (fO A3))) t)
end Dl
namespace Wr
open PySem L2 PyProof.Rows Dl
variable [Gr] {X:Cx}{pos:Pos}
theorem oR {i:Nat}{x:Str}{e:Expr}{es:List Expr}{tj:DE}{apos cpos np:Pos} (hv:WV X (.Name x np) i) (ha:WDA X (e::es) (cu tj eX))
  (hbase:attributeBase (.Name x np) "remove" X.env (eval (.Name x np) X.env)=eval (.Name x np) X.env:=by rfl)
  (hfew:zW X cpos (e::es):=by rfl)
  (hline:(apos.endLine == cpos.line)=true:=by rfl) (hst:zS X e es:=by rfl) (hplain:zP X cpos es:=by rfl)
  (hs:swapsWith (.Call (.Attribute (.Name x np) "remove" apos) (e::es) [] cpos) none pos.line X.env=pure false:=by rfl) :
  WDS X (.Expr (.Call (.Attribute (.Name x np) "remove" apos) (e::es) [] cpos) pos) (T9 i tj):=⟨Dl.oR (fu (lK PySem.F.plainAttrs_list PySem.F.slot_list_remove PySem.F.type_list_remove EY hv.h ha.h hbase hfew hline hst hplain) hs)⟩
theorem Bg (q:Nat) {i j:Nat}{x y:Str}{apos cpos np lp pos':Pos} (hv:WV X (.Name x np) i) (hN:X.N.Nodup) (hj:X.N[j]?=some y) (hx:Loc X.env.scope y)
  (hbase:attributeBase (.Name x np) "pop" X.env (eval (.Name x np) X.env)=eval (.Name x np) X.env:=by rfl) (hline:(apos.endLine == cpos.line)=true:=by rfl)
  (hst:starEach [.Call (.Attribute (.Name x np) "pop" apos) [] [] cpos] X.env=(false,eval (.Call (.Attribute (.Name x np) "pop" apos) [] [] cpos) X.env)::starEach [] X.env:=by rfl)
  (hs:swapsWith (.List [.Call (.Attribute (.Name x np) "pop" apos) [] [] cpos] lp) (some (.Name y pos')) pos.line X.env=pure false:=by rfl) (hf:zL X y:=by first | exact .inl rfl | exact .inr rfl | assumption) :
  WDS X (.Assign [.Name y pos'] (.List [.Call (.Attribute (.Name x np) "pop" apos) [] [] cpos] lp) pos) (Ua j i q):=⟨Dl.Bg q (cX hN hj hx (n6 (aP (Hx PySem.F.plainAttrs_list PySem.F.slot_list_pop PySem.F.type_list_pop Iz hv.h hbase hline) cC hst)) hs hf)⟩
end Wr
namespace Wb
open PySem L2 PyProof.Rows Dl Wr
variable {X:Cx}{m1 m2:Nat}{pos:Pos}{te tj:DE}{st:Stmt}
end Wb
namespace Dl
open PySem L2 PyProof.Rows
section
variable [Gr] {X:Cx}{st:Stmt}{te:DE}
end
end Dl
namespace Wr
open PySem L2 PyProof.Rows Dl
variable [Gr] {X:Cx}{te:DE}{pos p1:Pos}
end Wr
namespace PySem
open PyProof.Rows
section
variable {prog:Program}{w:World}{A:Around}{E:Value->Shared->Prop}{s:Shared}
theorem oN:entryFor table "proto.unchain"=some Builtin.«proto.unchain»:=entryFor_of_tree (by kernel_rfl)
theorem Ar {e h:Value}{a:Addr}{oh:Obj}{ws:Array Value}{Q:Value->Shared->Prop} (hH:s.heap.get? a=some oh) (hD:oh.data=.fields ws) (hc:ws[2]?=some .none) (q:Q .none s) :
  wpAny (model prog w) A (runValue (.builtin "proto.unchain" ⟨[e,.ref a,h,.bool false],[]⟩)) Q E s:=by
 refine wpAny_runValue (codeAny_builtin oN ?_)
 unfold Builtin.«proto.unchain»
 refine wpAny_bind (wpAny_field hH hD hc ?_)
 rw [if_pos (show (Value.none == Value.none)=true from rfl)]
 exact wpAny_pure q
theorem yw {α:Type}{e h:Addr}{oe:Obj}{vs:Array Value}{Q:α->Shared->Prop} (hh:A.handled=some (.ref h)) (ne:h≠e) (he:s.heap.get? e=some oe) (hd:oe.data=.fields vs) (hs:2<vs.size) (nc:gQ s.heap h)
  (q:E (.ref e) { s with heap:=s.heap.update e (Obj.mapFields (·.setIfInBounds 2 (.ref h))) }):wpAny (model prog w) A (raiseNew (.ref e):Sem α) Q E s:=by
 obtain⟨oh,ws,hH,hD,hc⟩:=nc
 unfold raiseNew
 refine wpAny_bind (wpAny_handled ?_)
 rw [hh]
 dsimp only
 rw [if_pos (show (Value.ref h != Value.ref e)=true from by simpa using ne)]
 refine wpAny_bind (wpAny_holding (Ar hH hD hc (wpAny_bind ?_)))
 unfold updateField
 refine wpAny_bind (wpAny_load he ?_)
 rw [hd]
 dsimp only
 rw [if_pos hs]
 exact wpAny_update he (wpAny_throw q)
theorem Dg {α:Type}{h:Addr}{Q:α->Shared->Prop} (hh:A.handled=some (.ref h)) (nc:gQ s.heap h)
  (q:∀ (e:Addr) (g:Heap),(∀ b o,s.heap.get? b=some o->g.get? b=some o)->(∃ oe,g.get? e=some oe/\oe.cls=.type "StopIteration")->E (.ref e) { s with heap:=g }) :
  wpAny (model prog w) A (newExc (.type "StopIteration") [] >>= fun e=>(raiseNew e:Sem α)) Q E s:=by
 refine wpAny_bind ?_
 simp only [newExc,newTuple]
 refine wpAny_bind (wpAny_newObj_type ?_ (by size_fits))
 refine wpAny_bind (m:=firstArgMember _ _) (wpAny_of_eq (a:=Value.none) (by simp only [firstArgMember]; rfl) ?_)
 refine wpAny_newObj_type ?_ (by size_fits)
 have hlt:h<s.heap.objs.size:=by obtain⟨_,_,e,_⟩:=nc; exact Heap.lt_size e
 refine yw hh (Nat.ne_of_lt (by rw [Heap.size_push]; exact Nat.lt_succ_of_lt hlt)) (Heap.get?_push_size _ rfl) rfl (by simp; omega) ?_ (q _ _ (fun b o eb=>?_) ⟨_,Heap.get?_update_self _ (Heap.get?_push_size _ rfl) (Obj.isFreed_of_fields (Obj.data_mapFields rfl _)),Obj.cls_mapFields _ _⟩)
 ·obtain⟨oh,ws,a,b,c⟩:=nc
  exact⟨oh,ws,Heap.get?_push_of_some _ (Heap.get?_push_of_some _ a),b,c⟩
 ·refine (Heap.get?_update_other _ _ (Nat.ne_of_gt ?_)).trans (Heap.get?_push_of_some _ (Heap.get?_push_of_some _ eb))
  rw [Heap.size_push]
  exact Nat.lt_succ_of_lt (Heap.lt_size eb)
theorem yx {it l h:Addr}{i:Nat}{items:Array Value}{Q:Option Value->Shared->Prop} (hh:A.handled=some (.ref h)) (nc:gQ s.heap h) (ne:h≠it) (hit:s.heap.IsListIter it l i) (hl:s.heap.IsList l items) (hx:items[i]?=none)
  (q:∀ g,Heap.ExtBut it s.heap g->Q none { s with heap:=g }):wpAny (model prog w) A (pyNext (.ref it)) Q E s:=by
 obtain⟨o,ho,hc,hd⟩:=id hit
 obtain⟨ol,hol,_,nl,hdl⟩:=hl
 unfold pyNext
 refine wpAny_bind (wpAny_attempt (wpAny_callSpecial?_slot (name:=Str.ofString "__next__") hit.typeIs slot_listiter_next (wpAny_call_entry slot_listiter_next hit.typeIs entry_listiter_next ?_ (args_listiter_next _))))
 refine wpAny_bind (m:=field (.ref it) 0) (wpAny_field ho hd (x:=.ref l) rfl ?_)
 rw [if_neg (show ¬ ((Value.ref l == Value.none)=true) by exact Bool.false_ne_true)]
 refine wpAny_bind (m:=field (.ref it) 1) (wpAny_field ho hd (x:=.int i 0) rfl ?_)
 refine wpAny_bind (m:=seqItems? (.ref l)) (wpAny_seqItems hol hdl ?_)
 simp only [Int.toNat_natCast,hx]
 refine wpAny_bind (wpAny_rule (wpAny_bind (wpAny_setField ho hd (by simp) ?_)))
 refine Dg (A:=A.in1) hh (nc.other (Ne.symm ne)) fun e g k ⟨oe,ge,ce⟩=>?_
 refine wpAny_bind (wpAny_isInstance (T:="StopIteration") (b:=true) ⟨oe,ge,ce⟩ isSubtype_stop ?_)
 exact wpAny_pure (q _ fun b o nb eb=>k b o ((Heap.get?_update_other _ _ (Ne.symm nb)).trans eb))
theorem vP {it t h:Addr}{i:Nat}{items:Array Value}{Q:Option Value->Shared->Prop} (hh:A.handled=some (.ref h)) (nc:gQ s.heap h) (ne:h≠it) (hit:IsTupIter s.heap it t i) (ht:IsTup s.heap t items) (hx:items[i]?=none)
  (q:∀ g,Heap.ExtBut it s.heap g->Q none { s with heap:=g }):wpAny (model prog w) A (pyNext (.ref it)) Q E s:=by
 obtain⟨o,ho,hc,hd⟩:=id hit
 obtain⟨ol,hol,_,nl,hdl⟩:=ht
 unfold pyNext
 refine wpAny_bind (wpAny_attempt (wpAny_callSpecial?_slot (name:=Str.ofString "__next__") hit.typeIs slot_tupleiter_next (wpAny_call_entry slot_tupleiter_next hit.typeIs entry_tupleiter_next ?_ (args_tupleiter_next _))))
 refine wpAny_bind (m:=field (.ref it) 0) (wpAny_field ho hd (x:=.ref t) rfl ?_)
 rw [if_neg (show ¬ ((Value.ref t == Value.none)=true) by exact Bool.false_ne_true)]
 refine wpAny_bind (m:=field (.ref it) 1) (wpAny_field ho hd (x:=.int i 0) rfl ?_)
 refine wpAny_bind (m:=seqItems? (.ref t)) (wpAny_seqItems hol hdl ?_)
 simp only [Int.toNat_natCast,hx]
 refine wpAny_bind (wpAny_rule (wpAny_bind (wpAny_setField ho hd (by simp) ?_)))
 refine Dg (A:=A.in1) hh (nc.other (Ne.symm ne)) fun e g k ⟨oe,ge,ce⟩=>?_
 refine wpAny_bind (wpAny_isInstance (T:="StopIteration") (b:=true) ⟨oe,ge,ce⟩ isSubtype_stop ?_)
 exact wpAny_pure (q _ fun b o nb eb=>k b o ((Heap.get?_update_other _ _ (Ne.symm nb)).trans eb))
theorem pO {env:Env}{elts:List Expr}{x1:Nat}{pos:Pos}{t h:Addr}{items:Array Value}{Q:Unit->Shared->Prop} (hh:A.handled=some (.ref h)) (nc:gQ s.heap h) (ht:IsTup s.heap t items) (hn:(assignEach elts env).length=items.size) (hstar:(assignEach elts env).findIdx? (·.1)=none)
  (q:∀ g,Heap.ExtBut s.heap.objs.size s.heap g->wpAny (model prog w) A (assignInOrder ((assignEach elts env).map (·.2)) items.toList) Q E { s with heap:=g }):wpAny (model prog w) A (assign (.Tuple elts x1 pos) env (.ref t)) Q E s:=by
 have nt:t≠s.heap.objs.size:=by obtain⟨o,ho,_⟩:=ht; exact Nat.ne_of_lt (Heap.lt_size ho)
 have nh:h≠s.heap.objs.size:=by obtain⟨_,_,e,_⟩:=nc; exact Nat.ne_of_lt (Heap.lt_size e)
 rw [assign_Tuple]
 refine wpAny_bind (wpAny_standAt ?_)
 unfold unpack
 rw [hn,hstar]
 refine wpAny_bind (wpAny_holding ?_)
 unfold unpackItems
 refine wpAny_bind ?_
 unfold notIterableAtAll
 refine wpAny_bind (wpAny_specialOf ht.typeIs slot_tuple_iter.lookup (wpAny_pure ?_))
 simp only [Bool.false_eq_true,if_false]
 refine wpAny_bind (wpAny_holding (iter_tuple ht (wpAny_bind (wpAny_holding (draw_tuple nt items.size 0 _ _ ⟨_,Heap.get?_push_size _ rfl,rfl,rfl⟩ (ht.push _) (by omega) fun g1 it1 s1=>?_)))))
 have all:List.take items.size (List.drop 0 items.toList)=items.toList:=by
  rw [List.drop_zero]
  exact List.take_of_length_le (by simp)
 rw [all,if_neg (by simp)]
 have nc1:gQ g1 h:=by
  obtain⟨oh,ws,a,b,c⟩:=nc
  exact⟨oh,ws,s1.extBut _ _ nh (Heap.get?_push_of_some _ a),b,c⟩
 refine wpAny_bind (wpAny_holding (vP hh nc1 nh it1 ((ht.push _).extBut s1.extBut nt) (by simp) fun g2 e2=>?_))
 simp only [Option.isSome_none,Bool.false_eq_true,if_false]
 exact wpAny_pure (q g2 fun b o nb eb=>e2 b o nb (s1.extBut b o nb (Heap.get?_push_of_some _ eb)))
end
end PySem
namespace L2
open PySem PySem.Spec PyProof.Rows
def SC (X:Cx):Prop:=∃ q,q∈X.sf
def NoC (o:Obj):Prop:=∃ ws,o.data=.fields ws/\ws[2]?=some .none
theorem SC.at {X:Cx}{pins:List (Addr×Obj)}{σ:St}{H:Hp}{s:Shared} (S:SC X) (I:Inv X pins σ H s):∃ e,X.A.handled=some (.ref e)/\gQ s.heap e/\∃ u,H e=some u:=by
 obtain⟨q,hq⟩:=S
 obtain⟨a,b,ws,c,d⟩:=I.ok.sof q hq
 have z:=I.base.frzs _ _ _ b
 exact⟨q.1,a,⟨q.2.1,ws,(I.hok _ _ z).1,c,d⟩,_,z⟩
theorem DX {P:Program}{w:World}{K:W.Frag}{tg:Expr} (a it:Addr):TurnG SC P w K tg (Itl K a) [it] it (fun i h=>h.IsListIter it a i) where
 mem:=by simp
 obj:=(nP (P:=P) (w:=w) (K:=K) (tg:=tg) a it).obj
 keep:=(nP (P:=P) (w:=w) (K:=K) (tg:=tg) a it).keep
 item:=by
  rintro X rfl rfl rfl hc i pins s σ H E I hf st ⟨xs,x,hq,hx⟩
  obtain⟨its,rv,p,hz⟩:=I.list hq
  obtain⟨u,hu,ru⟩:=rv.get hx
  obtain⟨f0,f1,f2,f3,f4,f5⟩:=hf it (by simp)
  refine wpAny_pyNext_list_item st p.isList (x:=u) (by simpa using hu) fun g st' sb=>?_
  obtain⟨o,e,c,d⟩:=id st'
  exact⟨u,rfl,Dh (s:={ s with heap:=g }) e c d (by decide) ⟨x,H,I.turned (t':=s.toks) (fun b o hb e=>(sb.2 b hb).trans e) f0 f1 f3 f4 f5,ru,⟨rfl,fun ys hy=>by rw [I.xY hy hq]; exact hx⟩,st',fun b hb=>(hf b hb).1⟩⟩
 done:=by
  rintro X rfl rfl rfl hc i pins s σ H E I hf st ⟨xs,hq,hx⟩
  obtain⟨its,rv,p,hz⟩:=I.list hq
  obtain⟨f0,f1,f2,f3,f4,f5⟩:=hf it (by simp)
  have hl:=rv.length
  obtain⟨e,hh,nc,u,eu⟩:=hc.at I
  exact yx hh nc (fun z=>by rw [z,f0] at eu; cases eu) st p.isList (by simp; omega) fun g eb=>⟨rfl,I.turned (t':=s.toks) (fun b o hb e=>eb b o hb e) f0 f1 f3 f4 f5⟩
 self:=fun _ _ _ _ _ st h=>wpAny_pyIter_listiter st h
section
variable {X:Cx}{tg:Expr}
theorem Lb {l:Expr}{tl:TE} (hl:PE X l tl):PIG SC X tg l (Tr X.K tl):=by
 intro pins s σ H R I h
 refine thn (hl pins s σ H _ I h) fun v s1 ⟨x,H1,I1,r1,a,e,⟨xs,hq⟩,q⟩=>?_
 subst e
 cases r1
 obtain⟨its,rv,p,hz⟩:=I1.list hq
 refine wpAny_pyIter_list p.isList ⟨s1.heap.objs.size,[s1.heap.objs.size],_,_,H1,rfl,I1.kept (t':=s1.toks) fun b o e=>Heap.get?_push_of_some _ e,DX a _,⟨_,Heap.get?_push_size _ rfl,rfl,rfl⟩,fun b hb=>?_,q⟩
 rw [List.mem_singleton.mp hb]
 exact I1.Fv (Nat.le_refl _) (I1.hok.fresh (Nat.le_refl _))
theorem Lf {es:List Expr}{k:Nat}{t:TGs}{n:Nat}{pos:Pos} (hc:SC X) (h:PGs X es t) (hn:(assignEach es X.env).length=n:=by rfl) (hst:(assignEach es X.env).findIdx? (·.1)=none:=by rfl):PG X (.Tuple es k pos) (Tw X.K n t):=by
 rintro pins s σ H v u Q I r ⟨a,xs,rfl,hq,hl,hw⟩
 cases r
 obtain⟨its,rv,ht,hz⟩:=I.tuple hq
 obtain⟨e,hh,nc,_⟩:=hc.at I
 refine pO hh nc ht (by simp [hn,← hl,rv.length]) hst fun g hx=>?_
 exact h pins _ σ H xs _ Q (I.kept (t':=s.toks) fun b o e=>hx b o (Nat.ne_of_lt (Heap.lt_size e)) e) (by simpa using rv) hw
end
structure RoomD (k:Nat) (A:Around):Prop where
 dp:A.depth+3 * k+5<recursionLimit
 un:A.units+16 * k+200<cLine
theorem RoomD.units {k:Nat}{A:Around} (r:RoomD k A):A.units+64<cLine:=by have:=r.un; omega
abbrev cxH (P:Program) (w:World) (K:W.Frag) (mg:Str->Option Value) (base:Heap) (N:List Str) (qual:Str) (scope:Scope) (f:Addr) (cd:Value) (A:Around) (outer:List Env) (s:Shared) (H:Hp) (q:Addr×Obj×HO):Cx :=
 { wg CX0 P w K mg base N qual scope f cd A outer s H E0 with calm:=false,xe:=fun _ _=>False,sf:=[q] }
structure FnOkH (P:Program) (w:World) (K:W.Frag) (mg:Str->Option Value) (base:Heap) (k:Nat) (f:Addr) (fd:FuncData) (ps:List Str) (sp:Addr×Obj×HO->Sp):Prop where
 len:∀ q vs H Q E,sp q vs H Q E->vs.length=ps.length
 run:∀ (A:Around) (outer:List Env) (s:Shared) (H:Hp) (args:Args) (us:List Value) (vs:List V) (Q:VK) (q:Addr×Obj×HO),A.handled=some (.ref q.1)->H q.1=some (.frz q.2.1 q.2.2)->NoC q.2.1->RoomD k A->Env0 P w K mg base A outer s H->BindsTo s fd args (ps.zip us)->Vals vs us->sp q vs H Q E0 ->
  codeAny (model P w) A (.call (.ref f) args) (CR CX0 outer P w H s Q E0) s
theorem Ao {P:Program}{w:World}{K:W.Frag}{mg:Str->Option Value}{base:Heap}{N ps:List Str}{qual:Str}{scope:Scope}{f:Addr}{cd:Value}{A:Around}{outer:List Env}{s s1:Shared}{H:Hp}{us:List Value}{vs:List V}{q:Addr×Obj×HO}
  (S:FnScope N ps scope) (hd:A.handled=some (.ref q.1)) (hz:H q.1=some (.frz q.2.1 q.2.2)) (nc:NoC q.2.1) (e0:Env0 P w K mg base A outer s H) (hl:vs.length=ps.length) (r:Vals vs us)
  (x:InCallC s s.heap.objs.size (bindL (envOfC qual scope s.heap.objs.size f cd).kindOf (ps.zip us) fun _=>none) (cellsFrom (s.heap.objs.size+1) scope.names []) (bindC (envOfC qual scope s.heap.objs.size f cd).kindOf (ps.zip us) fun _=>none) s1) :
  Inv (cxH P w K mg base N qual scope f cd A outer s H q) [] (start N vs) H s1:=by
 have i:=uo (CX:=CX0) (A:={ A with handled:=none }) (E:=E0) S rfl ⟨e0.frames,e0.mod,e0.bs,e0.bsz,e0.mO,e0.frf,e0.hok,e0.bare⟩ hl r x
 exact⟨⟨i.ok.mod,i.ok.kind,i.ok.glob,i.ok.blt,i.ok.above,i.ok.inj,i.ok.has,i.ok.cab,(fun h=>nomatch h),Around.frames_deeper e0.frames,i.ok.stk,i.ok.exf,i.ok.bs,i.ok.bsz,i.ok.noex,i.ok.exfs,i.ok.mO,i.ok.frf,fun y hy=>by
  rw [List.mem_singleton.mp hy]
  exact⟨hd,hz,nc⟩⟩,i.os,i.bare,i.base,i.loc,i.cell,i.free,i.freeC,i.pin,i.hok,i.len⟩
theorem Fun.okH {P:Program}{w:World}{K:W.Frag}{mg:Str->Option Value}{base:Heap}{x qual:Str}{st:Stmt}{f:Addr}{fd:FuncData}{N ps:List Str}{k:Nat}{sp:Addr×Obj×HO->Sp} (F:Fun K x qual st f fd) (S:FnScope N ps (aq st)) (len:∀ q vs H Q E,sp q vs H Q E->vs.length=ps.length)
  (hbody:∀ (cdv:Value) (A:Around) (outer:List Env) (s:Shared) (H:Hp) (vs:List V) (Q:VK) (q:Addr×Obj×HO),RoomD k (A.deeper (envOfC qual (aq st) s.heap.objs.size f cdv))->H q.1=some (.frz q.2.1 q.2.2)->sp q vs H Q E0 ->
   ∃ t,PSs (cxH P w K mg base N qual (aq st) f cdv A outer s H q) (fD st) t/\t { nx:=fun _ H'=>Q .non H',rt:=Q } (start N vs) H):FnOkH P w K mg base (k+1) f fd ps sp:=by
 obtain⟨oc,od,kV,doc,pm,an,cdv,ct,osl,rfl,lk,hcd⟩:=F.ex
 refine⟨len,fun A outer s H args us vs Q q hd hz nc hr e0 hb r hsp=>?_⟩
 have hl:=len _ _ _ _ _ hsp
 have KX:K.In s.heap:=e0.mod.kin.keeps fun b o e=>(e0.bs b o e).1
 have lim:s.heap.NoLimit:=e0.mod.nolimit.keeps fun b o e=>(e0.bs b o e).1
 have hkind:∀ y∈ps.zip us,(aq st).names.lookup y.1=some .local\/((aq st).names.lookup y.1=some .cell/\((cellsFrom (s.heap.objs.size+1) (aq st).names []).lookup y.1).isSome=true):=fun ⟨n,v⟩ hy=>by
  rcases S.par n (List.of_mem_zip hy).1 with q | q
  ·exact .inl q
  ·exact .inr ⟨q,W.cellsFrom_some _ _ _ (.inl q)⟩
 have hdp:A.depth<recursionLimit:=by have:=hr.dp; omega
 refine codeAny_call_function hdp (KX _ _ lk) rfl S.co S.gen rfl (W.codeRec_of KX hcd) (hb _ _ _ _ ?_)
 refine wpAny_newFunctionEnv_cells S.kind hkind fun env he s1 x=>?_
 subst he
 refine⟨lim.keeps x.toInCall.keep,codeAny_func ?_⟩
 obtain⟨t,ht,hq⟩:=hbody cdv A outer s H vs Q q ⟨by have:=hr.dp; show A.depth+1+3 * k+5<_; omega,by have:=hr.un; show A.units+3+16 * k+200<_; omega⟩ hz hsp
 have I:=Ao (f:=f) (cd:=cdv) (qual:=qual) S hd hz nc e0 hl r x
 refine wpAny_mono (ht [] s1 (start N vs) H _ I hq) (fun fl s' hs=>?_) fun e s' hs=>False.elim hs
 cases fl with
 | ret u =>
  obtain⟨v,σ',H',J,rv,q⟩:=hs
  exact⟨v,H',J.os,J.bare,J.base,J.hok,rv,q⟩
 | next =>
  obtain⟨σ',H',J,q⟩:=hs
  exact⟨.non,H',J.os,J.bare,J.base,J.hok,rfl,q⟩
 | brk =>
  obtain⟨_,_,_,q⟩:=hs
  exact False.elim q
 | cont =>
  obtain⟨_,_,_,q⟩:=hs
  exact False.elim q
structure CalH (P:Program) (w:World) (K:W.Frag) (mg:Str->Option Value) (base:Heap) (k:Nat) (x:Str) (ps:List Str) (sp:Addr×Obj×HO->Sp):Prop where
 ex:∃ f fd,FnOkH P w K mg base k f fd ps sp/\Binds K fd ps []/\W.keepIn K (.ref f)=true/\mg x=some (.ref f)
def Pj (a:Addr) (sp:Addr×Obj×HO->Sp) (t:TA):TE:=fun σ H Q=>t σ H fun vs H1=>∃ oe u,H1 a=some (.frz oe u)/\NoC oe/\sp (a,oe,u) vs H1 Q E0
theorem Hw {X:Cx}{a:Addr}{k j:Nat}{x:Str}{ps:List Str}{sp:Addr×Obj×HO->Sp}{e:Expr}{es:List Expr}{t:TA}{p pos:Pos} (C:CalH X.prog X.w X.K X.mg X.base k x ps sp) (hr:Room j X.A) (ha:PA (X.handling (.ref a)) (e::es) t) (hk:k<=j) (hg:Gl X x) (hdb:zB x) (he:zS X e es) (hpl:zP X pos es) :
  PE (X.handling (.ref a)) (.Call (.Name x p) (e::es) [] pos) (Pj a sp t):=by
 intro pins s σ H Q I h
 obtain⟨f,fd,F,hb,kp,hm⟩:=C.ex
 refine wpAny_Call_Name_kw (jM I hg hm ?_ hdb)
 refine W.callWith_K (h₀:=X.base) I.ok.mod.kin kp (thn (ha pos pins s σ H _ I h) fun us s1 ⟨vs,H1,I1,r,oe,u,hz,nc,q⟩=>⟨I1.kIn,?_⟩) he hpl
 have hl:us.length=ps.length:=by rw [← r.length]; exact F.len _ _ _ _ _ q
 have hb1:=hb s1 us I1.kIn (by rw [List.append_nil]; exact hl)
 rw [List.append_nil] at hb1
 refine wpAny_call (codeAny_mono (F.run (X.handling (.ref a)).A X.stack s1 H1 ⟨us,[]⟩ us vs Q (a,oe,u) rfl hz nc ⟨by have:=hr.dp; show X.A.depth+3 * k+5<_; omega,by have:=hr.un; show X.A.units+16 * k+200<_; omega⟩ I1.env0 hb1 r q) fun rr s' hq=>?_)
 cases rr with
 | error e=>exact False.elim hq
 | ok fl =>
  cases fl with
  | ret u=>exact I1.after hq
  | next=>exact False.elim hq
  | brk=>exact False.elim hq
  | cont=>exact False.elim hq
section
variable {X:Cx}{k:Nat}{f CF:Addr}{fd:FuncData}{ps:List Str}{sp:Sp}{x hx n:Str}{p np cpos epos hpos pos:Pos}{e:Expr}{es:List Expr}{t:TA}{b₀:Stmt}{suite:List Stmt}{ts:Addr->TS}{j:Nat}
def Rw (K:W.Frag) (CF:Addr) (sp:Sp) (t:TA) (ts:Addr->TS) (j:Nat):TS:=fun D σ H=>∃ E:XK,(∀ cls H',E cls none H'->W.exmOne K cls (.ref CF)=some true)/\t σ H fun vs H1=>sp vs H1 (fun _ H2=>D.nx σ H2) E/\∀ cls H2 a oe,E cls none H2->H2 a=none->NoC oe ->
 ts a { nx:=fun σ3 H3=>D.nx (σ3.set j none) H3,rt:=D.rt } (σ.set j (some (.ref a))) (upd H2 a (.frz oe (kY a cls)))
theorem caught {pins:List (Addr×Obj)}{σ:St}{H1:Hp}{s1 s':Shared}{E:XK}{er:Value}{D:Ends} (hstk:X.stack=X.env::X.outer) (hfr:X.env.frame=some X.env.locals) (hgF:Gl X hx) (hmF:X.mg hx=some (.ref CF)) (hN:X.N.Nodup) (hj:X.N[j]?=some n) (hloc:X.env.kindOf n=some .local) (hsu:∀ a,PSs (X.handling (.ref a)) (b₀::suite) (ts a)) (hdF:zB hx) (hex:X.ex=[])
  (hE:∀ cls H',E cls none H'->W.exmOne X.K cls (.ref CF)=some true) (I1:Inv X pins σ H1 s1) (hq:CX1 X.prog X.w X.stack H1 s1 E er s')
  (qE:∀ cls H2 a oe,E cls none H2->H2 a=none->NoC oe->ts a { nx:=fun σ3 H3=>D.nx (σ3.set j none) H3,rt:=D.rt } (σ.set j (some (.ref a))) (upd H2 a (.frz oe (kY a cls)))) :
  Ue X [.ExceptHandler (some (.Name hx np)) (some n) (b₀::suite) hpos] pins D er s':=by
 obtain⟨a,cls,a0,H2,hb,rfl,os,bare,un,hok,⟨st,hn,fs,tr,nc⟩,k1,k4,hq⟩:=hq
 have hmem:∀ b∈frs X.stack,∃ o,s'.heap.get? b=some o/\∀ vs,o.data≠.fields vs:=fun b z=>(fs.mem z).2
 refine CV (base:=hb) (by rw [I1.ok.frames,hstk]) (hstk ▸ fs) hfr tr nc st hn fun h2 ⟨n1,n2,n3,n4⟩ c2=>?_
 refine jK (base:=hb) (l:=X.env::X.outer) n1 n2 n3 c2 fun h3 m1 m2 m3 m4 c3=>?_
 have up3:∀ b o,s'.heap.get? b=some o->(∀ vs,o.data≠.fields vs)->∃ sl,h3.get? b=some { o with slots:=sl }:=fun b o e nf=>let ⟨sl,z⟩:=n4 b o e nf; ⟨sl,m4 b _ z nf⟩
 have I3:Inv X pins σ H2 { s' with heap:=h3 }:=I1.call' (s':={ s' with heap:=h3 }) os (Bw un k1 k4 m1 hmem up3) (hok.kept m1) bare (fun b z=>absurd z (by simp))
 have hH2:H2 a=none:=by
  cases z:H2 a with
  | none=>rfl
  | some u=>obtain⟨ob,e⟩:=(hok a u z).there; rw [hn] at e; cases e
 obtain⟨oe',vs',T',oT',ts',tr1,_,tr3,_⟩:=id tr
 have newA:∀ ob,s1.heap.get? a≠some ob:=fun ob e=>by
  by_cases hf:a∈frs X.stack
  ·obtain⟨o,e2,nf⟩:=hmem a hf
   rw [tr1] at e2
   cases e2
   exact nf _ tr3
  ·obtain⟨o',e'⟩:=k4 a ob e hf
   rw [hn] at e'
   cases e'
 have look:W.Looks (model X.prog X.w) h3 (typeOf (.ref a)) cls:=fun A Q E' s k q=>by
  obtain⟨oe,vs,_,_,_,e1,⟨e2,_⟩,_⟩:=m3
  refine wpAny_typeOf_ref (k _ _ e1) ?_
  rw [e2]
  exact q
 refine wpAny_handleBy_cons (codeAny_handlers_test (jM (X:=X.handling (.ref a)) (I3.handling _) hgF hmF ?_ hdF)) (by intro z; cases z)
 refine W.exm_one (K:=X.K) I3.kIn look (hE cls H2 hq) _ _ _ _ (fun _ _ z=>z) (codeAny_handlers_suite_as ?_)
 refine jK (base:=hb) (l:=X.env::X.outer) m1 m2 m3 c3 fun h4 p1 p2 p3 p4 c4=>?_
 have I4:Inv X pins σ H2 { s' with heap:=h4 }:=I1.call' (s':={ s' with heap:=h4 }) os (Bw un k1 k4 p1 hmem fun b o e nf=>let ⟨sl,z⟩:=up3 b o e nf; ⟨sl,p4 b _ z nf⟩) (hok.kept p1) bare (fun b z=>absurd z (by simp))
 obtain⟨oe,vs,_,_,_,e1,⟨e2,_⟩,e3,_⟩:=p3
 obtain⟨oe2,vs2,g1,g2,g3⟩:=c4
 rw [e1] at g1
 cases g1
 have isE:jC a cls h4:=⟨oe,vs,e1,e2,e3⟩
 have J4:Inv X pins σ (upd H2 a (.frz oe (kY a cls))) { s' with heap:=h4 }:=I4.track hH2 (fun ob e=>by
   obtain⟨o',e'⟩:=I1.base.there a ob e (by rw [hex]; simp)
   exact newA o' e') (fun z=>by
   obtain⟨m,⟨o,_,_,e,_⟩,_⟩:=I1.loc
   exact newA o (by rw [z]; exact e)) (fun y c e z=>by
   obtain⟨v,o,eo,_⟩:=I1.cell y c e
   exact newA o (by rw [← z]; exact eo)) (fun p hp z=>newA p.2 (by rw [← z]; exact (I1.pin p hp).1)) ⟨e1,isE.ok⟩
 refine qy (X:=X.handling (.ref a)) (v:=.ref a) (J4.handling _) hN hj (Or.inl hloc) rfl (fun s5 J5=>?_) (.inr hloc)
 refine wpAny_mono (hsu a pins s5 _ _ _ J5 (qE cls H2 a oe hq hH2 ⟨vs2,g2,g3⟩)) (fun fl s6 sp6=>?_) fun _ _ z=>False.elim z
 have hknd:(X.env.scope.kind == .class || (X.env.scope.kind == .module&&X.env.locals != X.env.globals))=false:=by rw [I1.ok.kind]; rfl
 cases fl with
 | next =>
  obtain⟨σ6,H6,I6,q6⟩:=sp6
  have I6:=I6.handled I1.ok
  obtain⟨m,hm6,_⟩:=id I6.loc
  exact wpAny_nameGoes_keeps hloc hm6 hknd fun h7 v hns hsb=>⟨_,H6,I6.unbound hN hj hm6 hns hsb,q6⟩
 | ret u =>
  obtain⟨v6,σ6,H6,I6,r6,q6⟩:=sp6
  have I6:=I6.handled I1.ok
  obtain⟨m,hm6,_⟩:=id I6.loc
  exact wpAny_nameGoes_keeps hloc hm6 hknd fun h7 v hns hsb=>⟨v6,_,H6,I6.unbound hN hj hm6 hns hsb,r6,q6⟩
 | brk =>
  obtain⟨_,_,_,q6⟩:=sp6
  exact False.elim q6
 | cont =>
  obtain⟨_,_,_,q6⟩:=sp6
  exact False.elim q6
theorem HB (hstk:X.stack=X.env::X.outer) (hfr:X.env.frame=some X.env.locals) (F:FnOk X.prog X.w X.K X.mg X.base (CX1 X.prog X.w) k f fd ps sp) (hr:Room k X.A) (hg:Gl X x) (hm:X.mg x=some (.ref f)) (hk:W.keepIn X.K (.ref f)=true) (hb:Binds X.K fd ps [])
  (ha:PA X.nox (e::es) t) (hgF:Gl X hx) (hmF:X.mg hx=some (.ref CF)) (hN:X.N.Nodup) (hj:X.N[j]?=some n) (hloc:X.env.kindOf n=some .local) (hsu:∀ a,PSs (X.handling (.ref a)) (b₀::suite) (ts a))
  (hdb:zB x:=by decide) (hdF:zB hx:=by decide) (he:zS X e es:=by rfl) (hpl:zP X cpos es:=by rfl)
  (hs:swapsWith (.Call (.Name x p) (e::es) [] cpos) none epos.line X.env=pure false:=by rfl) (hex:X.ex=[]:=by rfl) :
  PB X [.ExceptHandler (some (.Name hx np)) (some n) (b₀::suite) hpos] [.Expr (.Call (.Name x p) (e::es) [] cpos) epos] (Rw X.K CF sp t ts j):=by
 rintro pins s σ H D I ⟨E,hE,h⟩ Q hQ
 refine wpAny_execs_cons (wpAny_Expr_any (wpAny_Call_Name_kw (jM I hg hm ?_ hdb)) I.quiet hs)
 refine W.callWith_K (h₀:=X.base) I.ok.mod.kin hk (wpAny_mono (ha cpos pins s σ H _ (I.wish _) h) (fun us s1 ⟨vs,H1,I1,r,q,qE⟩=>⟨I1.kIn,?_⟩) fun _ _ z=>False.elim z) he hpl
 have I1:=I1.gR
 have hb1:=hb s1 us I1.kIn (by rw [List.append_nil,← r.length]; exact F.len _ _ _ _ q)
 rw [List.append_nil] at hb1
 refine wpAny_call (codeAny_mono (F.run X.A X.stack s1 H1 ⟨us,[]⟩ us vs _ E hr I1.env0 hb1 r q) fun rr s' hq=>?_)
 cases rr with
 | ok fl =>
  cases fl with
  | ret u =>
   obtain⟨v,H',I',r',q'⟩:=I1.after hq
   exact wpAny_execs_nil (hQ _ σ H' I' q')
  | next=>exact False.elim hq
  | brk=>exact False.elim hq
  | cont=>exact False.elim hq
 | error er=>exact caught hstk hfr hgF hmF hN hj hloc hsu hdF hex hE I1 hq qE
end
end L2
namespace Dl
open PySem L2 PyProof.Rows
@[reducible] def grH (q:Addr×Obj×HO):Gr:=⟨fun p H0=>p=fj/\H0 q.1=some (.frz q.2.1 q.2.2)⟩
section
variable {X:Cx}{pos:Pos}
theorem Kc {a:Addr}{oe:Obj}:bO X (.builtin "isinstance") (fun xs H Q=>∃ (C:Addr) (c:V) (cv:Value) (b:Bool),xs=[.ref a,c]/\H a=some (.frz oe (kY a (.ref C)))/\ExcK X.K C/\W.kitOne X.K (.ref C) cv=some b/\(∀ u,RelV c u->u=cv)/\Q (.bl b) H):=by
 rintro pins s σ H xs us Q I r ⟨C,c,cv,b,rfl,ha,k,e,hu,q⟩
 obtain⟨u,u2,rfl,rx,rc⟩:=vals2 r
 cases rx
 obtain rfl:=hu u2 rc
 have z:bG X.prog X.w H s.heap a (.frz oe (kY a (.ref C))):=I.hok a _ ha
 exact W.kia_one (Jz k) I.kIn (show jC a (.ref C) s.heap from z.2.1) e (fun z=>nomatch z) fun tk=>⟨.bl b,H,I.tok _,rfl,q⟩
def Uv (i:Nat) (a:Addr) (b:Bool):DE:=fun ρ P=>ρ[i]?=some (.scr (.ref a) false)/\P .imm (.bool b)
theorem fV {i:Nat}{a CN:Addr}{oe:Obj}{b:Bool}{c:V}{cv:Value}{x y:Str}{ps px py:Pos} (hm:X.mg "isinstance"=none) (hk:ExcK X.K CN) (hi:Wr.WV X (.Name y py) i) (hc:PE X (.Name x px) (tC c)) (e:W.kitOne X.K (.ref CN) cv=some b) (hu:∀ u,RelV c u->u=cv) (hg:Gl X "isinstance":=by rfl)
  (h1:starEach [.Name y py,.Name x px] X.env=(false,eval (.Name y py) X.env)::starEach [.Name x px] X.env:=by rfl) (h2:starEach [.Name x px] X.env=(false,eval (.Name x px) X.env)::starEach [] X.env:=by rfl) (hpl:(backTo pos (starEach [.Name x px] X.env)).any (·.1)=false:=by rfl) :
  @Wr.WD (grH (a,oe,kY a (.ref CN))) X (.Call (.Name "isinstance" ps) [.Name y py,.Name x px] [] pos) (Uv i a b):=@Wr.WD.mk (grH (a,oe,kY a (.ref CN))) _ _ _ (PE.wk (eG (Kc (a:=a) (oe:=oe)) hg hm boot_isinstance (aP hi.h (aP hc cC h2) h1) (by decide) (by decide) h1 hpl) (by
 letI:=grH (a,oe,kY a (.ref CN))
 rintro σ H Q ⟨p,H0,own,ρ,P,E,⟨hs,t⟩,q⟩
 obtain⟨rfl,g⟩:=E.gr
 obtain⟨e1,_⟩:=E.slot i _ hs
 exact⟨.ref a,e1,CN,c,cv,b,rfl,E.k0 a _ g (fun z=>z),hk,e,hu,q _ _ _ _ t E.at (.bl b)⟩))
def BP (CN:Addr) (w:Str):Addr×Obj×HO->Sp:=fun q vs H Q _=>vs=[.ref q.1]/\q.2.2=kY q.1 (.ref CN)/\∀ H',Same H H'->Q (.str w) H'
theorem Rh {T:DS}{N:List Str}{H:Hp}{Q:VK}{q0:Addr×Obj×HO}{w:Str} (ha:H q0.1=some (.frz q0.2.1 q0.2.2)) (q:∀ H',Same H H'->Q (.str w) H') (hN:1<=N.length)
  (body:T { nx:=fun _=>False,rt:=fun d=>d=.str w } (.scr (.ref q0.1) false::List.replicate (N.length - 1) .any)):@rK (grH q0) T { nx:=fun _ H'=>Q .non H',rt:=Q } (L2.start N [.ref q0.1]) H:=by
 letI:=grH q0
 refine⟨fj,H,fun _=>none,_,_,?_,body,⟨fun _ _ _ _ _ _ n=>n.elim,fun d v H' n r=>?_,fun _ _ _ _ _ _ n=>n.elim,fun _ _ _ _ _ _ n=>n.elim⟩⟩
 ·refine⟨fun b o e _=>e,trivial,fun a r e=>(nomatch e),fun j s e=>?_,by unfold L2.start; simp,rfl,ha⟩
  cases j with
  | zero =>
   have e:=Option.some.inj e
   subst e
   exact⟨rfl,fun z=>nomatch z⟩
  | succ j =>
   rw [List.getElem?_cons_succ] at e
   have e2:=(List.mem_replicate.mp (List.mem_of_getElem? e)).2
   subst e2
   trivial
 ·have n:d=.str w:=n
  subst n
  have e:=r.rp
  cases e
  exact q H' fun b o e=>r.k0 b o e fun z=>z
end
section
variable [Gr] {X:Cx}{tg l iter elt:Expr}{ifs:List Expr}{scope:Scope}{pos:Pos}{tl:DE}{ti:DI}{g:DG}{tt:DT}{te:DE}{es:List Expr}
def Tn (tl:DE):DI:=fun ρ P=>tl ρ fun k d=>match d with
 | .list ds=>P k ds
 | _=>False
theorem vX (hl:PD X l tl):PIG SC X tg l (ud (Tn tl)):=fun pins s σ H R I h=>Lb hl pins s σ H R I (by
 obtain⟨p,H0,own,ρ,P,E,t,q⟩:=h
 refine⟨p,H0,own,ρ,_,E,t,fun k d v H1 h A r=>?_⟩
 cases d with
 | list ds =>
  obtain⟨a,vs,rfl,o,ha,rs⟩:=r.cM
  exact⟨a,rfl,⟨vs,SqL.of ha⟩,q k ds _ H1 _ h A qm (rpA r)⟩
 | _=>exact h.elim)
theorem v7 {gs:DGs}{k n:Nat} (hc:SC X) (h:PGs X es (oG gs)) (hn:(assignEach es X.env).length=n:=by rfl) (hst:(assignEach es X.env).findIdx? (·.1)=none:=by rfl):PDG X (.Tuple es k pos) (gTp n gs):=PG.wk (Lf hc h hn hst) (by
 rintro v σ H Q ⟨p,H0,own,ρ,k,d,P,E,r,t,q⟩
 cases d with
 | tuple ds =>
  obtain⟨a,vs,rfl,ha,rs⟩:=r.dU
  exact⟨a,vs,rfl,SqT.of ha,by rw [rs.length]; exact t.1,p,H0,own,ρ,k,ds,P,E,rs,t.2,q⟩
 | _=>exact t.elim)
theorem K8 (own:List Str) {i:Nat}{y:Str}{py spos:Pos} (hc:SC X) (hN:X.N.Nodup) (hiN:X.N[i]?=some y) (hx:Loc X.env.scope y) (hi:PIG SC X tg iter (ud ti)) (hg:∀ c,PDG (X.comp own scope c) tg g) (ht:∀ c,Bu (X.comp own scope c) ifs tt) (he:∀ c,PD (X.comp own scope c) elt te)
  (hsw:swapsWith (.ListComp elt [⟨tg,iter,ifs,0⟩] scope pos) (some (.Name y py)) spos.line X.env=pure true) (hk:dh X.env scope X.N=true) (hs:zF X iter) (hf:zL X y) :
  PS X (.Assign [.Name y py] (.ListComp elt [⟨tg,iter,ifs,0⟩] scope pos) spos) (lg (bL (dLC own.length ti g tt te)) (fY i)):=PS.wk' (Cu (Cm:=SC) own X.N (fun _=>hc) hN hiN hx hi hg ht he hsw (su hk) hs hf) fun D σ H q=>iC σ H _ q
end
end Dl
namespace Wr
open PySem L2 PyProof.Rows Dl
section
variable [Gr] {X:Cx}{tg l iter elt:Expr}{ifs:List Expr}{scope:Scope}{pos:Pos}{tl:DE}{ti:DI}{g:DG}{tt:DT}{te:DE}{es:List Expr}
structure WDIH (X:Cx) (tg e:Expr) (t:DI):Prop where
 h:PIG SC X tg e (ud t)
theorem vX (hl:WD X l tl):WDIH X tg l (Tn tl):=⟨Dl.vX hl.h⟩
theorem v7 {gs:DGs}{k n:Nat} (hc:SC X) (h:WDGs X es gs) (hn:(assignEach es X.env).length=n:=by rfl) (hst:(assignEach es X.env).findIdx? (·.1)=none:=by rfl):WDG X (.Tuple es k pos) (gTp n gs):=⟨Dl.v7 hc h.h hn hst⟩
theorem Fz (rg:Option Nat) (own:List Str) {i:Nat}{y:Str}{py spos:Pos} (hc:SC X) (hN:X.N.Nodup) (hiN:X.N[i]?=some y) (hx:Loc X.env.scope y) (hi:WDIH X tg iter ti) (hg:∀ c,WDG (X.comp own scope c) tg g) (ht:∀ c,WDTs (X.comp own scope c) ifs tt) (he:∀ c,WD (X.comp own scope c) elt te)
  (hsw:swapsWith (.ListComp elt [⟨tg,iter,ifs,0⟩] scope pos) (some (.Name y py)) spos.line X.env=pure true:=by rfl)
  (hk:dh X.env scope X.N=true:=by rfl) (hs:zF X iter:=by intro _; rfl) (hf:zL X y:=by first | exact .inl rfl | exact .inr rfl | assumption) :
  WDS X (.Assign [.Name y py] (.ListComp elt [⟨tg,iter,ifs,0⟩] scope pos) spos) (yM i rg (dLC own.length ti g tt te)):=⟨Dl.bD rg (K8 own hc hN hiN hx hi.h (fun c=>(hg c).h) (fun c=>(ht c).h) (fun c=>(he c).h) hsw hk hs hf)⟩
end
end Wr
namespace Dl
open PySem L2 PyProof.Rows
def tO (m:Nat) (f:List D->(D->Prop)->Prop):Sp:=fun vs H Q _=>∃ (a:Addr) (n:Nat) (vs':List V) (ds:List D) (P:D->Prop),vs=.ref a::vs'/\(aG a (n+m)).PI H/\Rps (fun b=>¬ (aG a n).fp b) H vs' ds/\f ds P/\∀ d v H',P d->Kp (aG a n) H H'->(aG a n).PI H'->Rp (fun b=>¬ (aG a n).fp b) H' v d->Q v H'
theorem Fg {m:Nat}{f:List D->(D->Prop)->Prop}{n:Nat} (hn:∀ ds P,f ds P->ds.length=n:=by intro _ _ h; repeat (first | (obtain⟨rfl,_⟩:=h; rfl) | obtain⟨_,h⟩:=h)):∀ vs H Q E,tO m f vs H Q E->vs.length=n+1:=fun vs H Q E h=>by
 obtain⟨p,_,vs',ds,P,rfl,_,r,t,_⟩:=h
 rw [List.length_cons,r.length,hn ds P t]
def Jb (m:Nat) (t:DR):TS:=fun Q σ H=>∃ a n H0 own ρ P,EnvB a n m H0 own σ H ρ/\t P ρ/\WishR (aG a n) own H P Q
def gF (t:DS) (u:DR):DR:=fun P ρ=>t { nx:=fun r=>u P (stp r),rt:=fun _=>False,bk:=fun _=>False,ct:=fun _=>False } ρ
def Uy (f:List D->(D->Prop)->Prop) (i:Nat) (t:DA):DE:=fun ρ P=>ρ[i]?=some (.pen TP)/\t ρ fun ks=>f (ks.map (·.2)) fun d=>P .wk d
end Dl
namespace Wb
open PySem L2 PyProof.Rows Dl Wr
variable {X:Cx}{n m m1 m2 m3:Nat}{pos:Pos}{e:Expr}{es:List Expr}{te:DE}{st:Stmt}{rest:List Stmt}{t:DS}{u:DR}
structure BR (X:Cx) (m:Nat) (ss:List Stmt) (t:DR):Prop where
 h:PSs X ss (Jb m t)
theorem qM (h1:BS X m1 st t) (h2:BR X m2 rest u):BR X (m1+m2) (st::rest) (gF t u):=⟨PSs.wk' (bH h1.h h2.h) (by
 rintro Q σ H ⟨a,n,H0,own,ρ,P,E,t,w⟩
 refine⟨a,n+m2,H0,own,ρ,_,E.first,t,⟨fun o s h r e g nn=>⟨a,n,H0,o,stp r,P,⟨zu _,e.pen,e.lv (aK e.pen (by omega))⟩,nn,⟨fun d v H' hP hI hk rp=>w.rt d v H' hP hI (fun b ob e1 n1 o1=>?_) rp⟩⟩,fun _ _ _ n=>n.elim,fun _ _ _ _ _ _ n=>n.elim,fun _ _ _ _ _ _ n=>n.elim⟩⟩
 obtain⟨e2,o2⟩:=g.keep b ob e1 n1 o1
 exact hk b ob e2 n1 o2)⟩
theorem UL (he:BE X m e te):BR X m [.Return (some e) pos] (K5 te):=⟨PSs.wk' (cU (gW he.h)) (by
 rintro Q σ H ⟨a,n,H0,own,ρ,P,E,t,w⟩
 exact⟨a,n,H0,own,ρ,_,E,t,fun k d v H' h A r=>w.rt d v H' h A.pen (fun b o e n _=>A.kp b o e n) (r.mono (fun a o=>iy A o) (fun _ _ _ e=>e) fun _ _ e=>e)⟩)⟩
theorem M8 {f:List D->(D->Prop)->Prop}{T:DR}{N:List Str}{vs:List V}{H:Hp}{Q:VK}{E:XK}{M M':Nat} (h:tO M' f vs H Q E) (hm:Nat.ble M M'=true)
  (body:∀ ds P,f ds P->∃ ρ,ds.map aZ++List.replicate (N.length - (ds.length+1)) .any=ρ/\T P (.pen TP::ρ)):Jb M T { nx:=fun _ H'=>Q .non H',rt:=Q } (L2.start N vs) H:=by
 have hm:=Nat.le_of_ble_eq_true hm
 obtain⟨a,n,vs',ds,P,rfl,pi,r,t,k⟩:=h
 obtain⟨ρ,e,b⟩:=body ds P t
 have E:=Dp (C:=TP) (p:=aG a n) (N:=N) trivial trivial (aK pi (by omega)) r
 rw [e] at E
 have st:stp (.pen TP::ρ)=.pen TP::ρ:=by
  rw [← e]
  exact congrArg (List.cons (Sl.pen TP)) (wN ds _)
 exact⟨a,n,H,fun _=>none,_,_,⟨st,aK pi (by omega),E⟩,b,⟨fun d v H' hP hI hk rp=>k d v H' hP (fun b o e n=>hk b o e n rfl) hI rp⟩⟩
theorem Vi {f:List D->(D->Prop)->Prop}{t:DA}{ps:List Str}{x y:Str}{pp py:Pos}{k j i:Nat} (C:Cal X.prog X.w X.K X.mg X.base k x ps (tO m f)) (hr:Room j X.A) (hi:WV X (.Name y py) i) (ha:BA X m1 es t) (hk:k<=j:=by decide) (hg:Gl X x:=by rfl) (hdb:zB x:=by decide) (he:starEach (.Name y py::es) X.env=(false,eval (.Name y py) X.env)::starEach es X.env:=by rfl) (hpl:zP X pos es:=by rfl):BE X (m1+m) (.Call (.Name x pp) (.Name y py::es) [] pos) (Uy f i t):=⟨PE.wk (pcS C hr (aP hi.h ha.h) hk hg hdb he hpl) (by
 rintro σ H Q ⟨a,n,H0,own,ρ,P,E,⟨hp,t⟩,q⟩
 obtain⟨hs,_⟩:=E.env.slot i _ hp
 refine⟨.ref a,hs,a,n+m,H0,own,ρ,_,E.first,t,fun ks vs H1 h A r=>?_⟩
 show tO m f ((.ref a::vs)++[]) H1 Q E0
 rw [List.append_nil]
 have A':=A.lv (m:=n) (by omega)
 have rr:Rps (fun b=>¬ (aG a n).fp b) H1 vs (ks.map (·.2)):=(RpK.rps A r).mono (fun _ o=>o) (fun _ _ _ e=>e) fun _ _ e=>e
 exact⟨a,n,vs,ks.map (·.2),_,rfl,A.pen,rr,h,fun d v H' h2 k2 i2 r2=>q .wk d v H' h2 (A'.go k2 i2) r2⟩)⟩
end Wb
namespace Dl
open PySem L2 PyProof.Rows
section
variable [Gr] {X:Cx}{st:Stmt}{te:DE}
def J0 (i:Nat) (te:DE):DS:=fun P ρ=>match ρ[i]? with
 | some (.sp r b ds)=>te ρ fun k d=>match d with
  | .list es=>k.le (spK b)=true/\ds.length+es.length<=1000/\jd r ρ i=true/\P.nx (ρ.set i (.sp r b (ds++es)))
  | _=>False
 | _=>False
theorem JK {i:Nat} (h:PS X st (lg (tOp Qc (j7 i) (bL te)) (fY i))):PDS X st (J0 i te):=PS.wk' h (by
 rintro Q σ H ⟨p,H0,own,ρ,P,E,t,w⟩
 unfold J0 at t
 split at t
 ·rename_i r b ds hr
  obtain⟨l,vs,hv,o,ho,rs⟩:=E.slot i _ hr
  refine⟨.ref l,hv,p,H0,own,ρ,_,E,t,fun k d v2 H1 h A r2=>?_⟩
  cases d with
  | list es =>
   obtain⟨hk,hlen,hf,hn⟩:=h
   obtain⟨l2,ys,rfl,o2,h2,rs2⟩:=Rp.cM r2
   have h1:H1 l=some (.lst vs):=A.kp l _ ho (E.ow l r o).2.1
   have rs1:Rps (okS p H0 own b) H1 vs ds:=rs.mono (fun _ o=>o) (fun c u n e=>A.kp c u e n.2.1) A.tups
   have h24:=sizeLine_eq
   refine⟨l,l2,vs,ys,rfl,rfl,h1,h2,by rw [rs.length,rs2.length]; omega,fun l3 hl3=>?_⟩
   obtain⟨own',E2,F2⟩:=E.spine A hf hl3 (rs1.app (CQ A hk rs2))
   exact w.nx _ _ _ _ E2 F2 hn
  | _=>exact h.elim
 ·exact t.elim)
end
end Dl
namespace Wr
open PySem L2 PyProof.Rows Dl
theorem qj [Gr] {X:Cx}{te:DE}{pos p1:Pos}{i:Nat}{x:Str}{e:Expr}{np pos':Pos} (hN:X.N.Nodup) (hi:X.N[i]?=some x) (hx:Loc X.env.scope x) (hv:WV X (.Name x np) i) (he:WD X e te) (hs:swapsWith (.BinOp (.Name x np) .Add e p1) (some (.Name x pos')) pos.line X.env=pure false:=by rfl) (hf:zL X x:=by first | exact .inl rfl | exact .inr rfl | assumption) :
  WDS X (.Assign [.Name x pos'] (.BinOp (.Name x np) .Add e p1) pos) (J0 i te):=⟨Dl.JK (cX hN hi hx (bF zV hv.h he.h) hs hf)⟩
end Wr
namespace Wb
open PySem L2 PyProof.Rows Dl Wr
variable {X:Cx}{n m m1 m2 m3:Nat}{pos p2:Pos}
theorem PK {mj:Nat}{tj te:DE}{i:Nat}{x:Str}{e ej:Expr}{es:List Expr}{apos cpos np sp pos:Pos} (hv:WV X (.Name x np) i) (hj:BE X mj ej tj) (ha:WDA X (e::es) (cu te eX)) (hpx:iT ej:=by exact fun _ _=>rfl)
  (hbase:attributeBase (.Subscript (.Name x np) ej sp) "append" X.env (eval (.Subscript (.Name x np) ej sp) X.env)=eval (.Subscript (.Name x np) ej sp) X.env:=by rfl)
  (hfew:zW X cpos (e::es):=by rfl)
  (hline:(apos.endLine == cpos.line)=true:=by rfl) (hst:zS X e es:=by rfl) (hplain:zP X cpos es:=by rfl)
  (hs:swapsWith (.Call (.Attribute (.Subscript (.Name x np) ej sp) "append" apos) (e::es) [] cpos) none pos.line X.env=pure false:=by rfl) :
  BS X mj (.Expr (.Call (.Attribute (.Subscript (.Name x np) ej sp) "append" apos) (e::es) [] cpos) pos) (nu i tj te):=⟨PS.wk' (fu (lK PySem.F.plainAttrs_list PySem.F.slot_list_append PySem.F.type_list_append gK (eZ cN hv.h hj.h hpx) ha.h hbase hfew hline hst hplain) hs) (by
 rintro Q σ H ⟨a0,n0,H0,own,ρ,P,E,q,w⟩
 unfold nu at q
 split at q
 ·rename_i r L hr
  obtain⟨st,as,hv,R0⟩:=E.env.slot i _ hr
  refine⟨.ref st,hv,a0,n0,H0,own,ρ,_,E,q,fun kj dj vj H1 q1 A1 rj=>?_⟩
  cases dj with
  | int j =>
   have E1:=E.env.go A1.kp A1.pen
   obtain⟨st',as',hv',R1⟩:=E1.slot i _ hr
   rw [hv] at hv'
   cases hv'
   have ej:=Rp.int' rj
   subst ej
   obtain⟨n,l,hn,hl,q1⟩:=q1
   have hnl:=(List.getElem?_eq_some_iff.mp hl).1
   rw [List.getElem?_eq_getElem hnl] at hl
   cases hl
   have hna:n<as'.length:=by rw [R1.len]; exact hnl
   have eat:atI (as'.map V.ref) j=some (.ref as'[n]):=by
    unfold L2.atI
    rw [List.length_map,R1.len,hn]
    show (as'.map V.ref)[n]?=_
    rw [List.getElem?_map,List.getElem?_eq_getElem hna]
    rfl
   obtain⟨vs,hav,rv⟩:=R1.row n as'[n] L[n] (List.getElem?_eq_getElem hna) (List.getElem?_eq_getElem hnl)
   refine⟨st,_,j,.ref as'[n],rfl,rfl,SqL.of R1.top,eat,.inl ⟨rfl,vs,SqL.of hav⟩,aG a0 n0,H0,own,ρ,_,E1,iw q1,?_⟩
   rintro ks ws H2 ⟨k,d,rfl,im,len,nx⟩ A2 rk
   obtain⟨y,rfl,ry⟩:=dG rk
   have ry:Rp (fun _=>False) H2 y d:=Rp.imm ry im
   have E2:=E1.go A2.kp A2.pen
   obtain⟨st',as2,hv',R2⟩:=E2.slot i _ hr
   rw [hv] at hv'
   cases hv'
   -- the rows are those of before
   have eas:as2=as':=by
    have e1:=A2.kp st _ R1.top (E1.ow st r (R1.ow st List.mem_cons_self)).2.1
    rw [R2.top] at e1
    have e2:=(HO.lst.inj (Option.some.inj e1))
    exact qL e2
   subst eas
   obtain⟨vs2,hav2,rv2⟩:=R2.row n as2[n] L[n] (List.getElem?_eq_getElem hna) (List.getElem?_eq_getElem hnl)
   have oa:=R2.ow as2[n] (List.mem_cons_of_mem _ (List.getElem_mem hna))
   have h24:=sizeLine_eq
   have ln:=rv2.length
   refine⟨as2[n],vs2,y,rfl,rfl,hav2,by omega,?_⟩
   have tp:∀ a xs,H2 a=some (.tup xs)->upd H2 as2[n] (.lst (vs2++[y])) a=some (.tup xs):=fun a xs e=>by
    rw [au]; exact e
    intro z; subst z; rw [hav2] at e; cases e
   have E3:=E2.write (o':=.lst (vs2++[y])) oa hav2 (fun xs z=>nomatch z)
   have nd1:=List.nodup_cons.mp R2.nd
   have E4:=E3.put (v:=.ref st) (i:=i) (s:=.rw r (L.set n (L[n]++[d]))) ⟨st,as2,hv,⟨?_,R2.nd,R2.ow,by rw [List.length_set]; exact R2.len,fun m a ds e1 e2=>?_⟩⟩
   ·exact w.nx _ σ _ _ E4 ((A1.frs.trans A2.frs).trans (gC oa hav2 fun xs z=>nomatch z)) nx
   ·rw [au]; exact R2.top
    intro z
    exact nd1.1 (by rw [z]; exact List.getElem_mem hna)
   ·by_cases em:m=n
    ·subst em
     rw [List.getElem?_set_self hnl] at e2
     rw [List.getElem?_eq_getElem hna] at e1
     cases e1
     cases e2
     exact⟨_,aB,(rv2.mono (fun _ o=>o) (fun _ _ o=>o.elim) tp).snoc (ry.mono (fun _ o=>o) (fun _ _ o=>o.elim) tp)⟩
    ·rw [List.getElem?_set_ne (Ne.symm em)] at e2
     obtain⟨vs3,h3,r3⟩:=R2.row m a ds e1 e2
     refine⟨vs3,?_,r3.mono (fun _ o=>o) (fun _ _ o=>o.elim) tp⟩
     rw [au]; exact h3
     intro z
     have hm:=(List.getElem?_eq_some_iff.mp e1).1
     have hz:as2[m]=as2[n]:=by rw [(List.getElem?_eq_some_iff.mp e1).2]; exact z
     exact em ((List.getElem_inj nd1.2).mp hz)
  | _=>exact q1.elim
 ·exact q.elim)⟩
theorem frz {rest:List Stmt}{t:DS} (i:Nat) (h:BSs X m rest t):BSs X m rest (JX i t):=⟨PSs.wk' h.h (by
 rintro Q σ H ⟨a,n,H0,own,ρ,P,E,q,w⟩
 unfold JX at q
 split at q
 ·rename_i r d e
  obtain⟨v,hv,x⟩:=E.env.slot i _ e
  exact⟨a,n,H0,_,_,P,⟨lA E.st rfl,E.pi,E.env.freeze q.1 hv x⟩,q.2,w.go cF⟩
 ·rename_i r L e
  obtain⟨st,as,hv,x⟩:=E.env.slot i _ e
  exact⟨a,n,H0,_,_,P,⟨lA E.st rfl,E.pi,E.env.freeze q.1 hv x.rp⟩,q.2,w.go cF⟩
 ·rename_i r b ds e
  obtain⟨l,vs,hv,o,h,z⟩:=E.env.slot i _ e
  have E2:EnvD (aG a n) H0 (aO r own) σ H (ρ.set i .any):=(E.env.drop (i:=i)).clear q.1
  have c0:∀ a,own a=none->aO r own a=none:=fun a n=>by unfold aO; rw [n]; simp
  have cl:aO r own l=none:=by unfold aO; rw [if_pos o]
  have E3:EnvD (aG a n) H0 (aO r own) σ H ((ρ.set i .any).set i (if b=true then .sn (.list ds) else .sh (.list ds))):=E2.put (v:=.ref l) (by
   cases b with
   | true=>exact⟨_,hv,.lst ⟨(E.env.ow l r o).1,(E.env.ow l r o).2.1,cl⟩ h (z.mono (fun c n=>⟨n.1 rfl,n.2.1,c0 c n.2.2⟩) (fun _ _ _ e=>e) fun _ _ e=>e)⟩
   | false=>exact⟨_,hv,.lst ⟨(E.env.ow l r o).2.1,cl⟩ h (z.mono (fun c n=>⟨n.2.1,c0 c n.2.2⟩) (fun _ _ _ e=>e) fun _ _ e=>e)⟩)
  rw [List.set_set] at E3
  exact⟨a,n,H0,_,_,P,⟨lA E.st (by cases b <;> rfl),E.pi,E3⟩,q.2,w.go cF⟩
 ·exact q.elim)⟩
theorem seq {tg l:Expr}{tl:DE} (h:BE X m l tl):BI X m tg l (iSq tl):=⟨PI.wk (Hj h.h) (by
 rintro σ H R ⟨a,n,H0,own,ρ,P,E,t,q⟩
 refine⟨a,n,H0,own,ρ,_,E,t,fun k d v H1 h A r=>?_⟩
 cases d with
 | list ds =>
  obtain⟨c,vs,rfl,o,ha,rs⟩:=r.cM
  exact⟨c,rfl,.inl ⟨⟨vs,SqL.of ha⟩,q k ds _ H1 _ h A qm (rpA r)⟩⟩
 | tuple ds =>
  obtain⟨c,vs,rfl,ha,rs⟩:=r.dU
  exact⟨c,rfl,.inr ⟨⟨vs,SqT.of ha⟩,q k ds _ H1 _ h A wH (rpA r)⟩⟩
 | _=>exact h.elim)⟩
theorem from_ {e lo:Expr}{te tl:DE} (he:WD X e te) (hl:BE X m lo tl):BE X m (.Subscript e (.Slice (some lo) none none p2) pos) (Uq te (N8 tl) Oa):=⟨PE.wk (wZ (SlR.or BX Px) he.h (Cv hl.h) Cw) (by
 rintro σ H Q ⟨a,n,H0,own,ρ,P,E,t,q⟩
 refine⟨aG a (n+m),H0,own,ρ,_,(E.up (m1:=0) (m2:=m) (by omega)).env,t,fun k d v H1 h A r=>?_⟩
 refine⟨a,n,H0,own,ρ,_,E.next A,h,fun k1 d1 v1 H2 h2 A2 r1=>?_⟩
 have A1:=A.lv (m:=n) (by omega)
 have A4:=A1.base A2
 have r3:=jX A1 A2.kp (Ci r)
 cases d1 with
 | int j =>
  refine⟨j,r1.int',?_⟩
  have h3:=h2
  cases d with
  | list ds =>
   obtain⟨x,xs,e1,o,h1,rs⟩:=Rp.cM r3
   subst e1
   refine .inl ⟨x,xs,rfl,SqL.of h1,fun l hl=>?_⟩
   obtain⟨k2,i2,nw⟩:=A4.new hl (.lst (rY xs (some j) none))
   have h3:newP k (gb ds (some j) none) fun k'=>P k' (.list (gb ds (some j) none)):=h3
   obtain⟨k',hk',rk'⟩:=jJ A4 (cB A4 k2 (rs.cut (some j) none)) nw aB h3
   exact q _ _ _ _ hk' (A4.go k2 i2) rk'
  | tuple ds =>
   obtain⟨x,xs,e1,h1,rs⟩:=Rp.dU r3
   subst e1
   have h3:¬ (HT.sIx ds.length 0 (some j)=0/\HT.sIx ds.length ds.length none=ds.length)/\P (norm k (.tuple (gb ds (some j) none))) (.tuple (gb ds (some j) none)):=h3
   refine .inr ⟨x,xs,rfl,SqT.of h1,by rw [rs.length]; exact h3.1,fun l hl=>?_⟩
   obtain⟨k2,i2,nw⟩:=A4.new hl (.tup (rY xs (some j) none))
   exact q _ _ _ _ h3.2 (A4.go k2 i2) (bf (.tup aB (cB A4 k2 (rs.cut (some j) none))))
  | _=>exact h3.elim
 | _=>exact h2.elim)⟩
end Wb
namespace Nf
open PySem PySem.W PyProof.Rows
def pP (tb:String->Option Builtin) (p:Program) (w:World) (m:Nat) (ann:Option Value):Nat->SharedT->Thread->Option SharedT
 | 0,_,_=>none
 | n+1,s,t=>match through t with
  | true=>some s
  | false=>match stepOk m ann t with
   | false=>none
   | true=>match stepT (denote tb) p w s t with
    | none=>none
    | some r=>pP tb p w m ann n r.1 r.2
theorem tH {tb:String->Option Builtin}{p:Program}{w:World}{m:Nat}{ann:Option Value}:∀ {n:Nat}{s s':SharedT}{t:Thread},pP tb p w m ann n s t=some s'->topRun tb p w m ann n s.abs t=some s'.abs
 | 0,_,_,_,h=>by cases h
 | n+1,s,s',t,h=>by
  unfold pP at h
  unfold topRun
  cases he:through t with
  | true=>rw [he] at h; cases h; rfl
  | false =>
   rw [he] at h
   cases hk:stepOk m ann t with
   | false=>rw [hk] at h; cases h
   | true =>
    rw [hk] at h
    cases hs:stepT (denote tb) p w s t with
    | none=>rw [hs] at h; cases h
    | some r=>obtain⟨s2,t2⟩:=r; rw [hs] at h; rw [stepT_spec hs]; exact tH h
def yR (P:Params):BT:=((((((((((BT.nil.ins 0 (boot_o_0 P)).ins 1 (boot_o_1 P)).ins 2 (boot_o_2 P)).ins 3 (boot_o_3 P)).ins 4 (boot_o_4 P)).ins 5 (boot_o_5 P)).ins 6 (boot_o_6 P)).ins 7 (boot_o_7 P)).ins 8 (boot_o_8 P)).ins 9 (boot_o_9 P)).ins 10 (boot_o_10 P)
def Oc:Life:={}
theorem Gi (P:Params):absHeap (yR P) 11 Oc=boot_heap P:=by kernel_rfl
def zx (w:World) (os:OsState):SharedT:=⟨yR w.params,11,Oc,#[],boot_drawn,boot_toks,os⟩
theorem Ec (w:World) (os:OsState):(zx w os).abs=⟨boot_heap w.params,#[],boot_drawn,boot_toks,os⟩:=by
 unfold zx SharedT.abs
 dsimp only
 rw [Gi]
def BZ (P:Params):=((boot_heap P).isNs mainGlobals,(boot_heap P).objs.size,(boot_heap P).nsMap mainGlobals "__annotations__")
theorem zA:BZ=BZ:=rfl
end Nf
name_quick sizeQ for Nf.BZ by Nf.zA
namespace Nf
open PySem PySem.W PyProof.Rows
theorem Gj (w:World):((boot_heap w.params).isNs mainGlobals,(boot_heap w.params).objs.size,(boot_heap w.params).nsMap mainGlobals "__annotations__")=(true,11,some (.ref 6)):=by
 show BZ w.params=_
 rw [W.Fast.sizeQ_eq]
 kernel_rfl
def Eh (p:Program) (N:Nat) (w:World) (os:OsState):=pP treeTable p w 11 (some (.ref 6)) N (zx w os) (topStub p)
def Gz (p q:Program) (Xt:Shared->Bool) (w:World) (s:Shared) :=
 (staticsOk (importedModules p.main.body) (boot_heap w.params) s.heap&&namesBound p s.heap&&gensDone s&&laidKept (boot_heap w.params) s.heap,openSeen q [] (importedModules p.main.body) Xt true s)
theorem Mj {p q:Program}{Xt:Shared->Bool}{β:Type}{Yf:Shared->List β}{Ya:World->List β}{N:Nat} (k:Nat)
  (open_:∀ w:World,(fencedOpening treeTable p w N).map (fun s=>(s.heap,s.gens,s.drawn,s.toks))=some (boot_heap w.params,Array.mk [],boot_drawn,boot_toks))
  (look:∀ (w:World) (os:OsState),(Eh p N w os).map (fun s=>Gz p q Xt w s.abs)=some (true,openGood q []))
  (front:∀ (w:World) (os:OsState),(Eh p N w os).map (fun s=>(Yf s.abs).take k)=some ((Ya w).take k))
  (back:∀ (w:World) (os:OsState),(Eh p N w os).map (fun s=>(Yf s.abs).drop k)=some ((Ya w).drop k)):LeftO p q [] Xt Yf Ya N:=fun w=>by
 obtain⟨⟨h,gs,d,j,os⟩,e,e'⟩:=Option.map_eq_some_iff.mp (open_ w)
 obtain⟨rfl,rfl,rfl,rfl⟩:h=boot_heap w.params/\gs=#[]/\d=boot_drawn/\j=boot_toks:=by simpa using e'
 obtain⟨z1,z2,z3⟩:_/\_/\_:=by simpa only [Prod.mk.injEq] using Gj w
 obtain⟨s,hs,l⟩:=Option.map_eq_some_iff.mp (look w os)
 have l4:(Yf s.abs).take k=(Ya w).take k:=by
  have:=front w os
  rw [hs] at this
  exact Option.some.inj this
 have l5:(Yf s.abs).drop k=(Ya w).drop k:=by
  have:=back w os
  rw [hs] at this
  exact Option.some.inj this
 have l3:Yf s.abs=Ya w:=by rw [← List.take_append_drop k (Yf s.abs),l4,l5,List.take_append_drop]
 unfold Gz at l
 obtain⟨l1,l2⟩:=Prod.mk.inj l
 have r:=tH hs
 rw [Ec] at r
 have t:topFrom treeTable p w N ⟨boot_heap w.params,#[],boot_drawn,boot_toks,os⟩=some s.abs:=by
  unfold topFrom
  dsimp only
  rw [z1,z2,z3,r]
  show (match staticsOk (importedModules p.main.body) (boot_heap w.params) s.abs.heap&&namesBound p s.abs.heap&&gensDone s.abs&&laidKept (boot_heap w.params) s.abs.heap with | true=>_ | false=>_)=_
  rw [l1]
 unfold openEnds
 rw [e]
 show (topFrom treeTable p w N _).map _=_
 rw [t]
 exact congrArg some (Prod.ext l2 l3)
end Nf
namespace Nf
open PySem L2 PyProof.Rows Dl
def top (i:Nat):Stmt:=PySem.Challenge.pw_nofall_k33_place_bounds.main.body.getD i (.Pass ⟨0,0,0,0⟩)
structure Proper (n:Int) (l:List Int):Prop where
 one:1<=l.length
 few:(l.length:Int)<n
 rng:∀ x∈l,0<=x/\x<n
 rise:l.Pairwise (·<·)
 n16:n<=16
def Ou (ds:List D) (P:D->Prop):Prop:=∃ l:List Int,ds=[.list (l.map PyData.int)]/\l.length<=400/\P (.list ((l.dropLast.zip (l.drop 1)).map pD))
def toI:D->Int
 | .int i=>i
 | _=>0
def lG (l:List Int):Bool:=(l.dropLast.zip (l.drop 1)).all fun t=>decide (t.1<t.2)
def KZ (m:Int):D->Bool
 | .list es=>es.all (cY m)&&lG (es.map toI)
 | _=>false
def Tj (n:Int):D->Bool
 | .list es=>decide ((1:Int)<=(es.length:Nat))&&decide (((es.length:Nat):Int)<n)
 | _=>false
def bx (n:Int) (d:D):Bool:=KZ n d&&Tj n d
def Few (d:D):Prop:=∀ es,d=.list es->es.length<=400
def Dj (ds:List D) (P:D->Prop):Prop:=∃ m d,ds=[.int m,d]/\Few d/\P (.bool (KZ m d))
def qd (ds:List D) (P:D->Prop):Prop:=∃ n d,ds=[.int n,d]/\Few d/\P (.bool (bx n d))
def lv (l:List Int) (t:Tie):Bool:=decide (t.1∈l) != decide (t.2∈l)
theorem Fp {l:List Int} (h:l.Pairwise (·<·)):∀ t∈l.dropLast.zip (l.drop 1),t.1<t.2:=by
 intro t ht
 obtain⟨i,hi,e⟩:=List.mem_iff_getElem.mp ht
 have h1:i<l.length - 1:=by
  rw [List.length_zip,List.length_dropLast,List.length_drop] at hi
  omega
 rw [List.getElem_zip] at e
 have e1:l.dropLast[i]'(by rw [List.length_dropLast]; exact h1)=l[i]:=List.getElem_dropLast _
 have e2:(l.drop 1)[i]'(by rw [List.length_drop]; exact h1)=l[1+i]:=List.getElem_drop
 rw [← e]
 simp only [e1,e2]
 exact (List.pairwise_iff_getElem.mp h) i (1+i) (by omega) (by omega) (by omega)
theorem uL {n:Int}{d:D} (h:cY n d=true):∃ i:Int,d=.int i:=by
 cases d with
 | int i=>exact⟨i,rfl⟩
 | _=>cases h
theorem eF (d:D):aZ d=.im d\/aZ d=.sh d:=by
 unfold aZ
 by_cases h:dZ d=true
 ·rw [if_pos h]; exact .inl rfl
 ·rw [if_neg h]; exact .inr rfl
theorem ints_of {n:Int}:∀ {es:List D},es.all (cY n)=true->es=(es.map toI).map PyData.int
 | [],_=>rfl
 | d::es,h=>by
  rw [List.all_cons,Bool.and_eq_true] at h
  obtain⟨i,rfl⟩:=uL h.1
  have:=ints_of h.2
  rw [List.map_cons,List.map_cons,← this]
  rfl
theorem pQ (l:List Int):(l.map PyData.int).map toI=l:=by rw [List.map_map]; exact List.map_id' l
theorem qO {n:Int}{l:List Int} (h:Proper n l):bx n (.list (l.map PyData.int))=true:=by
 have h1:=h.one
 have h2:=h.few
 have e1:(l.map PyData.int).all (cY n)=true:=List.all_eq_true.mpr fun d hd=>by
  obtain⟨x,hx,rfl⟩:=List.mem_map.mp hd
  exact decide_eq_true (h.rng x hx)
 have e2:lG l=true:=List.all_eq_true.mpr fun t ht=>decide_eq_true (Fp h.rise t ht)
 show (((l.map PyData.int).all (cY n)&&lG ((l.map PyData.int).map toI))&&(decide ((1:Int)<=((l.map PyData.int).length:Nat))&&decide ((((l.map PyData.int).length:Nat):Int)<n)))=true
 rw [e1,pQ,e2,List.length_map,decide_eq_true (show (1:Int)<=(l.length:Nat) by omega),decide_eq_true h2]
 rfl
theorem yG {l:List Int} (h:l.length<=400):Few (.list (l.map PyData.int)):=fun es e=>by
 injection e with e
 rw [← e,List.length_map]
 exact h
theorem gn {α:Type} (l:List α):gb l none (some (-1))=l.dropLast:=by
 unfold gb
 have e1:HT.sIx l.length 0 none=0:=rfl
 have e2:HT.sIx l.length l.length (some (-1))=l.length - 1:=by
  have e:HT.sIx l.length l.length (some (-1))=((-1:Int)+(l.length:Int)).toNat:=rfl
  rw [e]
  omega
 rw [e1,e2,List.drop_zero,Nat.sub_zero,List.dropLast_eq_take]
theorem rW {α:Type} (l:List α):gb l (some 1) none=l.drop 1:=by
 unfold gb
 have e1:HT.sIx l.length l.length none=l.length:=rfl
 have e2:HT.sIx l.length 0 (some 1)=min 1 l.length:=HT.Ce l.length 0 1
 rw [e1,e2]
 rw [List.take_of_length_le (by rw [List.length_drop]; omega)]
 by_cases h:1<=l.length
 ·rw [Nat.min_eq_left h]
 ·have:l=[]:=List.length_eq_zero_iff.mp (by omega)
  subst this
  rfl
theorem wF (a b:List Int):((a.map PyData.int).zip (b.map PyData.int)).map prD=(a.zip b).map pD:=by
 rw [List.zip_map,List.map_map]
 rfl
section
variable {P:Program}{w:World}{K:W.Frag}{mg:Str->Option Value}{base:Heap}{f:Addr}{fd:FuncData}
theorem sc4:FnScope ["thing"] ["thing"] (aq (top 13)):=zC
theorem HX (F:Fun K "is_whole" "is_whole" (top 13) f fd) (B:Dl.Bn mg):FnOk P w K mg base CX0 1 f fd ["thing"] (spD Jt):=by
 refine F.ok sc4 bA (fun cdv A outer s H vs Q E hr h=>?_)
 refine⟨_,aF (aL (gw (cO Dd B.isinstance (dv 0) (jG (v:=.ty "int") rfl B.int boot_int rfl)) (iu (u5 (cO yj B.isinstance (dv 0) (jG (v:=.ty "bool") rfl B.bool boot_bool rfl)))))),vU h ?_⟩
 rintro ds P ⟨d,rfl,q⟩
 unfold JV BJ tIs
 refine uP (d:=d) rfl fun k=>?_
 cases d <;> exact⟨rfl,q⟩
theorem sc5:FnScope ["limit","thing"] ["limit","thing"] (aq (top 14)):=zC
theorem Ia (F:Fun K "is_below" "is_below" (top 14) f fd) (W:Dl.Cal P w K mg base 1 "is_whole" ["thing"] (spD Jt)):FnOk P w K mg base CX0 2 f fd ["limit","thing"] (spD Ba):=by
 refine F.ok sc5 bA (fun cdv A outer s H vs Q E hr h=>?_)
 refine⟨_,aF (aL (gw (dc W hr (aj (dv 1) ak)) (iu (CG ao (dv 1) (dv 0))))),vU h ?_⟩
 rintro ds P ⟨m,d,rfl,q⟩
 unfold JV BJ tFn cu
 refine uP (d:=d) rfl fun k=>⟨d,rfl,?_⟩
 cases d with
 | int i =>
  have e:P (.bool (decide (0<=i/\i<m))):=q
  by_cases h0:(0:Int)<=i
  ·show if decide ((0:Int)<=i)=true then _ else _
   rw [decide_eq_true h0]
   refine bQ (B:=True) ⟨rfl,?_⟩
   have e2:decide (0<=i/\i<m)=decide (i<m):=by simp [h0]
   rw [e2] at e
   exact e
  ·show if decide ((0:Int)<=i)=true then _ else _
   rw [decide_eq_false h0]
   refine bR (A:=True) ⟨rfl,?_⟩
   have e2:decide (0<=i/\i<m)=false:=by simp [h0]
   rw [e2] at e
   exact e
 | _=>exact⟨rfl,q⟩
theorem sc7:FnScope ["places"] ["places"] (aq (top 22)):=zC
theorem Lx (F:Fun K "hops" "hops" (top 22) f fd) (B:Dl.Bn mg) (mz:mg "zip"=none):FnOk P w K mg base CX0 1 f fd ["places"] (spD Ou):=by
 refine F.ok sc7 bA (fun cdv A outer s H vs Q E hr h=>?_)
 refine⟨_,aF (aL (zO rfl B.list mz (aj (Hy (dv 0) Dr (Dq (Hz ao))) (aj (Hy (dv 0) (Dq ao) Dr) ak)))),vU h ?_⟩
 rintro ds P ⟨l,rfl,hl,q⟩
 refine .inl ⟨?_,.inl ⟨?_,?_,.inl ⟨?_,rfl,?_⟩⟩⟩
 ·show eN (gb (l.map PyData.int) none (some (-1)))=true
  rw [gn,← List.map_dropLast]
  exact ju _
 ·show eN (gb (l.map PyData.int) (some 1) none)=true
  rw [rW,← List.map_drop]
  exact ju _
 ·show (gb (l.map PyData.int) none (some (-1))).length<=1000
  rw [gn,List.length_dropLast,List.length_map]
  omega
 ·show eN _=true
  rw [gn,rW,← List.map_dropLast,← List.map_drop,wF]
  exact oM _
 ·show P _
  rw [gn,rW,← List.map_dropLast,← List.map_drop,wF]
  exact q
end
def nd1 (fa:Int) (m:Nat):Int:=if 0 > fa+1 - (m:Int) then 0 else fa+1 - (m:Int)
def zE (CN:Addr) (n:Int) (d:D) (T:List Int->D->Prop) (P:D->Prop) (R:Value->Prop):Prop:=Few d/\n<=16/\((bx n d=false/\R (.ref CN))\/∃ l,d=.list (l.map PyData.int)/\Proper n l/\∀ r,T l r->P r)
theorem zE.mono {CN:Addr}{n:Int}{d:D}{T:List Int->D->Prop}{P:D->Prop}{R R':Value->Prop} (h:∀ c,R c->R' c) (x:zE CN n d T P R):zE CN n d T P R' :=
 ⟨x.1,x.2.1,x.2.2.elim (fun ⟨a,b⟩=>.inl ⟨a,h _ b⟩) .inr⟩
def Dk (CN:Addr):FX:=fun ds P R=>∃ n us d,ds=[aR n us,d]/\zE CN n d (fun _ r=>r=.none) P R
def Oi (CN:Addr):FX:=fun ds P R=>∃ n us d,ds=[aR n us,d]/\us.length<=100/\zE CN n d (fun l r=>r=.list ((us.filter (lv l)).map pD)) P R
def fLv (ds:List D) (P:D->Prop):Prop:=∃ t l,ds=[pD t,.list (l.map PyData.int)]/\P (.bool (lv l t))
section
variable {P:Program}{w:World}{K:W.Frag}{mg:Str->Option Value}{base:Heap}{f:Addr}{fd:FuncData}
theorem sc9:FnScope ["limit","thing"] ["limit","thing"] (aq (top 26)):=zC
theorem U8:(["number","limit","thing"]:List Str).Nodup:=by decide +kernel
theorem U7:(["hop","limit","thing"]:List Str).Nodup:=by decide +kernel
theorem Er (F:Fun K "is_rising" "is_rising" (top 26) f fd) (B:Dl.Bn mg) (W:Dl.Cal P w K mg base 2 "is_below" ["limit","thing"] (spD Ba)) (HO:Dl.Cal P w K mg base 1 "hops" ["places"] (spD Ou)):FnOk P w K mg base CX0 3 f fd ["limit","thing"] (spD Dj):=by
 refine F.ok sc9 bA (fun cdv A outer s H vs Q E hr h=>?_)
 refine⟨_,aA (cR (PDW.pt (fU (cH (bI (cO yh B.isinstance (dv 1) (jG (v:=.ty "list") rfl B.list boot_list rfl)))) (fB (cH (bI (zT rfl B.all Dl.boot_all (aj (iZ ["number"] rfl (cD (dv 1)) (fun c=>aH (gY (i:=0) U8 rfl (Or.inl rfl))) (fun c=>dO) (fun c=>dc W hr (aj (dv 1) (aj (dv 0) ak)))) ak))))))) (aF (aL gG)) aN)
  (aF (aL (zT rfl B.all Dl.boot_all (aj (iZ ["hop"] rfl (cD (dc HO hr (aj (dv 1) ak))) (fun c=>aH (gY (i:=0) U7 rfl (Or.inl rfl))) (fun c=>dO) (fun c=>S5 (oA (dv 0) ao (fun _ _=>rfl)) (oA (dv 0) ao (fun _ _=>rfl)))) ak)))),cj h ?_⟩
 rintro ds P ⟨n,d,rfl,hf,q⟩
 refine⟨[.im (.int n),aZ d],rfl,?_⟩
 cases d with
 | list es =>
  have hl:=hf es rfl
  have q:P (.bool (es.all (cY n)&&lG (es.map toI))):=q
  refine bR (A:=True) ⟨by omega,.imm,fun i ys=>ys=(es.take i).map fun d=>PyData.bool (cY n d),rfl,fun i d ys hd hy=>?_,fun ys hy=>?_⟩
  ·subst hy
   by_cases hi:dZ d=true
   ·have en:∀ k,norm k d=.imm:=fun k=>fX hi
    unfold gNm
    simp only [en]
    exact bQ (B:=True) ⟨n,d,rfl,rfl,(rG _ hd).symm⟩
   ·have en:∀ k,norm k d=k:=fun k=>lU hi
    unfold gNm
    simp only [en]
    exact bQ (B:=True) ⟨n,d,rfl,rfl,(rG _ hd).symm⟩
  ·dsimp only at hy
   rw [List.take_length] at hy
   refine⟨es.map (cY n),by rw [hy,List.map_map]; rfl,?_⟩
   rw [List.all_map]
   show if (!es.all (cY n))=true then _ else _
   cases ha:es.all (cY n) with
   | false =>
    rw [ha] at q
    exact⟨rfl,q⟩
   | true =>
    rw [ha] at q
    have q:P (.bool (lG (es.map toI))):=q
    have ei:=ints_of ha
    generalize hm:es.map toI=l at q ei
    have hll:l.length<=400:=by rw [← hm,List.length_map]; exact hl
    subst ei
    -- rising
    refine⟨l,rfl,hll,?_,.imm,fun i ys=>ys=((l.dropLast.zip (l.drop 1)).take i).map fun t=>PyData.bool (decide (t.1<t.2)),rfl,?_,?_⟩
    ·rw [List.length_map,List.length_zip,List.length_dropLast]
     omega
    ·rintro i d ys hd rfl
     obtain⟨t,ht,rfl⟩:=iB hd
     exact bQ (B:=True) ⟨.int t.1,rfl,.int t.2,rfl,rfl,(rG _ ht).symm⟩
    rintro ys rfl
    refine⟨(l.dropLast.zip (l.drop 1)).map fun t=>decide (t.1<t.2),?_,rfl,?_⟩
    ·rw [List.length_map,List.take_length,List.map_map]
     rfl
    ·rw [List.all_map]
     rw [pQ] at q
     exact q
 | tuple es=>rcases eF (.tuple es) with e | e <;> rw [e] <;> exact bQ (B:=True) ⟨rfl,q⟩
 | _=>exact bQ (B:=True) ⟨rfl,q⟩
theorem Uz:FnScope ["n","thing"] ["n","thing"] (aq (top 27)):=zC
theorem Es (F:Fun K "is_proper_set" "is_proper_set" (top 27) f fd) (B:Dl.Bn mg) (R:Dl.Cal P w K mg base 3 "is_rising" ["limit","thing"] (spD Dj)):FnOk P w K mg base CX0 4 f fd ["n","thing"] (spD qd):=by
 refine F.ok Uz bA (fun cdv A outer s H vs Q E hr h=>?_)
 refine⟨_,aF (aL (gw (dc R hr (aj (dv 0) (aj (dv 1) ak))) (iu (CG ao (dJ B.len (aj (dv 1) ak)) (dv 0))))),cj h ?_⟩
 rintro ds P ⟨n,d,rfl,hf,q⟩
 refine⟨[.im (.int n),aZ d],rfl,?_⟩
 have q:P (.bool (KZ n d&&Tj n d)):=q
 cases d with
 | list es =>
  refine⟨n,.list es,rfl,hf,dM (fun c=>?_) (fun c=>?_)⟩
  ·rw [c] at q
   have q:P (.bool (decide ((1:Int)<=(es.length:Nat))&&decide (((es.length:Nat):Int)<n))):=q
   show if decide ((1:Int)<=(es.length:Nat))=true then _ else _
   refine dM (fun c1=>⟨rfl,?_⟩) (fun c1=>⟨rfl,?_⟩)
   ·rw [c1] at q
    exact q
   ·have c1:decide ((1:Int)<=(es.length:Nat))=false:=by simpa using c1
    rw [c1] at q
    exact q
  ·have c:KZ n (.list es)=false:=by simpa using c
   rw [c] at q
   exact⟨rfl,q⟩
 | tuple es=>rcases eF (.tuple es) with e | e <;> rw [e] <;> exact⟨n,.tuple es,rfl,hf,bR (A:=True) ⟨rfl,q⟩⟩
 | _=>exact⟨n,_,rfl,hf,bR (A:=True) ⟨rfl,q⟩⟩
theorem Sg:FnScope ["tie","some"] ["tie","some"] (aq (top 29)):=zC
theorem Et (F:Fun K "leaves" "leaves" (top 29) f fd):FnOk P w K mg base CX0 1 f fd ["tie","some"] (spD fLv):=by
 refine F.ok Sg bA (fun cdv A outer s H vs Q E hr h=>?_)
 refine⟨_,aF (aL (SX (w5 hr.units (oA (dv 0) ao (fun _ _=>rfl)) (dv 1)) (w5 hr.units (oA (dv 0) ao (fun _ _=>rfl)) (dv 1)))),cj h ?_⟩
 rintro ds P ⟨t,l,rfl,q⟩
 refine⟨[.im (pD t),.sh (.list (l.map PyData.int))],rfl,?_⟩
 refine⟨.int t.1,rfl,rfl,d9 l,.int t.2,rfl,rfl,d9 l,rfl,?_⟩
 show P (.bool (!decide ((((l.map PyData.int).any fun e=>PyData.eqv e (.int t.1)):Bool)=((l.map PyData.int).any fun e=>PyData.eqv e (.int t.2)))))
 rw [Dl.any_ints,Dl.any_ints]
 have e:(!decide ((decide (t.1∈l):Bool)=decide (t.2∈l)))=lv l t:=by
  unfold lv
  cases decide (t.1∈l) <;> cases decide (t.2∈l) <;> rfl
 rw [e]
 exact q
theorem UJ:FnScope ["web","thing"] ["web","thing"] (aq (top 28)):=zC
variable {CN:Addr}
theorem Eu {newId Bn0 initId:String}{bmB:List Value} (F:Fun K "check_set" "check_set" (top 28) f fd) (PS:Dl.Cal P w K mg base 4 "is_proper_set" ["n","thing"] (spD qd)) (mN:mg "NoSet"=some (.ref CN)) (XC:ExcCls K CN newId bmB) (XB:ExcBaseFacts Bn0 newId initId bmB):FnOk P w K mg base (CX1 P w) 5 f fd ["web","thing"] (spX (Dk CN)):=by
 refine F.ok1 UJ mH (fun cdv A outer s H vs Q E hr h=>?_)
 letI:=grX H
 refine⟨_,aF (cR (cH (bI (dc PS hr (aj (oA (dv 0) ao (fun _ _=>rfl)) (aj (dv 1) ak))))) (aF (mZ (E:=E) mG rfl rfl mN XC XB (aj aW ak))) aN),enterX h ?_ fun ds P R R' hR ⟨n,us,d,e,x⟩=>⟨n,us,d,e,x.mono hR⟩⟩
 rintro ds P ⟨n,us,d,rfl,hf,n16,x⟩
 refine⟨[.im (aR n us),aZ d],?_,?_⟩
 ·show [aZ (aR n us),aZ d]=_
  rw [bV]
 have main:∀ (z:Str) (s:Sl),(∀ Q:DK,(∀ k,Q k d)->tV 1 [.im (aR n us),s] Q)->dIf (Rj (dW (tFn qd (cu (t2 Q0 (tV 0) (tK (.int 0))) (cu (tV 1) eX))))) (Bj (Rz E H) CN (cu (tK (.str z)) eX)) Dw { nx:=fun _=>P .none,rt:=P } [.im (aR n us),s]:=fun z s hs=>by
  refine⟨.int n,rfl,hs _ fun k=>⟨n,d,rfl,hf,?_⟩⟩
  show if (!bx n d)=true then _ else _
  rcases x with ⟨e,r⟩ | ⟨l,rfl,hP,t⟩
  ·rw [e]
   exact bQ ⟨zK,r⟩
  ·rw [qO hP]
   exact bR (t _ rfl)
 exact main _ (aZ d) fun Q q=>uP rfl q
theorem UG:FnScope ["web","some"] ["web","some"] (aq (top 30)):=zC
theorem U9:(["tie","web","some"]:List Str).Nodup:=by decide +kernel
theorem Lr (F:Fun K "ties_that_leave" "ties_that_leave" (top 30) f fd) (CH:Dl.Cal1 P w K mg base 5 "check_set" ["web","thing"] (spX (Dk CN))) (LV:Dl.Cal P w K mg base 1 "leaves" ["tie","some"] (spD fLv)):FnOk P w K mg base (CX1 P w) 6 f fd ["web","some"] (spX (Oi CN)):=by
 refine F.ok1 UG mH (fun cdv A outer s H vs Q E hr h=>?_)
 letI:=grX H
 refine⟨_,aA (qe (dcX (E:=E) CH hr (HD mG) (aj (dv 0) (aj (dv 1) ak)))) (aF (aL (iZ ["tie"] rfl (cD (oA (dv 0) ao (fun _ _=>rfl))) (fun c=>aH (gY (i:=0) U9 rfl (Or.inl rfl)))
  (fun c=>dN (bI (dc LV hr (aj (dv 0) (aj (dv 2) ak))))) (fun c=>dv 0)))),enterX h ?_ fun ds P R R' hR ⟨n,us,d,e,hl,x⟩=>⟨n,us,d,e,hl,x.mono hR⟩⟩
 rintro ds P ⟨n,us,d,rfl,hl,hf,n16,x⟩
 refine⟨[.im (aR n us),aZ d],?_,?_⟩
 ·show [aZ (aR n us),aZ d]=_
  rw [bV]
 rcases x with ⟨e,r⟩ | ⟨l,rfl,hP,t⟩
 ·rcases eF d with e2 | e2 <;> rw [e2] <;> exact⟨n,us,d,rfl,hf,n16,.inl ⟨e,r⟩⟩
 ·refine⟨n,us,_,rfl,hf,n16,.inr ⟨l,rfl,hP,fun r hr0=>?_⟩⟩
  refine⟨.tuple (us.map pD),rfl,by rw [List.length_map]; omega,.imm,fun i ys=>ys=((us.take i).filter (lv l)).map pD,rfl,?_,?_⟩
  ·rintro i d ys hd rfl
   obtain⟨t,ht,rfl⟩:=iB hd
   refine⟨t,l,rfl,?_⟩
   show if lv l t=true then _ else _
   have sn:=MP (lv l) pD ht
   cases hb:lv l t with
   | true =>
    rw [hb,if_pos rfl] at sn
    exact bQ (B:=True) ⟨rfl,sn.symm⟩
   | false =>
    rw [hb,if_neg Bool.false_ne_true,List.append_nil] at sn
    exact bR (A:=True) sn.symm
  ·rintro ys rfl
   refine⟨rfl,?_⟩
   rw [take_all us (by rw [List.length_map]; exact Nat.le_refl _)]
   exact t _ rfl
end
end Nf
set_option maxHeartbeats 4000000
namespace Nf
open PySem L2 PyProof.Rows Dl
def OkT (n:Int) (t:Tie):Prop:=(0<=t.1/\t.1<n)/\(0<=t.2/\t.2<n)/\t.1≠t.2
def OkN (n:Int) (us:List Tie):Prop:=∀ t∈us,OkT n t
def vA (l:List Int):Bool:=decide ((once l).length=l.length)
def Jy (ds:List D) (P:D->Prop):Prop:=∃ n us d,ds=[aR n us,d]/\P (.bool (cY n d))
def T6 (ds:List D) (P:D->Prop):Prop:=∃ n us i,ds=[aR n us,.int i]/\0<=i/\i<n/\P .none
theorem Dm (xs:List D):PyData.eqv (.list xs) (.list [])=xs.isEmpty:=by cases xs <;> rfl
section
variable {P:Program}{w:World}{K:W.Frag}{mg:Str->Option Value}{base:Heap}{f:Addr}{fd:FuncData}{CN:Addr}
theorem o8:FnScope ["web","thing"] ["web","thing"] (aq (top 15)):=zC
theorem xJ (F:Fun K "is_place" "is_place" (top 15) f fd) (B:Dl.Bn mg) (C_is_below:Dl.Cal P w K mg base 2 "is_below" ["limit","thing"] (spD Ba)):FnOk P w K mg base CX0 3 f fd ["web","thing"] (spD Jy):=by
 refine F.ok o8 bA (fun cdv A outer s H vs Q E hr h=>?_)
 have nd:=o8.nd
 refine⟨_,Wr.WDSs.h (Wr.aF (Wr.aL (Wr.dc C_is_below hr (Wr.aj (Wr.aX (Wr.dv 0) Wr.ao) (Wr.aj (Wr.dv 1) Wr.ak))))),cj h ?_⟩
 rintro ds P ⟨n,us,d,rfl,q⟩
 refine⟨[.im (aR n us),aZ d],by show [aZ (aR n us),aZ d]=_; rw [bV],?_⟩
 refine⟨.int n,rfl,?_⟩
 refine uP rfl fun k=>⟨n,d,rfl,?_⟩
 exact⟨rfl,q⟩
theorem jg:FnScope ["web","thing"] ["web","thing"] (aq (top 16)):=zC
theorem q9 (F:Fun K "check_place" "check_place" (top 16) f fd) (B:Dl.Bn mg) (C_is_place:Dl.Cal P w K mg base 3 "is_place" ["web","thing"] (spD Jy)):FnOk P w K mg base CX0 4 f fd ["web","thing"] (spD T6):=by
 refine F.ok jg bA (fun cdv A outer s H vs Q E hr h=>?_)
 have nd:=jg.nd
 refine⟨_,Wr.WDSs.h (Wr.aF (Wr.cR (Wr.cH (Wr.bI (Wr.dc C_is_place hr (Wr.aj (Wr.dv 0) (Wr.aj (Wr.dv 1) Wr.ak))))) (Wr.aF Wr.rQ) Wr.aN)),cj h ?_⟩
 rintro ds P ⟨n,us,i,rfl,h0,h1,q⟩
 refine⟨[.im (aR n us),.im (.int i)],by show [aZ (aR n us),.im (.int i)]=_; rw [bV],?_⟩
 refine⟨n,us,.int i,rfl,?_⟩
 show if (!decide (0<=i/\i<n))=true then _ else _
 rw [decide_eq_true ⟨h0,h1⟩]
 exact bR (A:=True) q
end
inductive Rt (us:List Tie):Int->Int->Prop
 | refl (a:Int):Rt us a a
 | step {a b c:Int} (h:Rt us a b) (t:(b,c)∈us):Rt us a c
theorem Rt.trans {us:List Tie}{a b c:Int} (h:Rt us a b) (k:Rt us b c):Rt us a c:=by
 induction k with
 | refl=>exact h
 | step _ t ih=>exact .step ih t
theorem KQ {us vs:List Tie} (h:∀ a b,(a,b)∈us->(b,a)∈vs) {a b:Int} (r:Rt us a b):Rt vs b a:=by
 induction r with
 | refl=>exact .refl _
 | step _ t ih=>exact (Rt.step (.refl _) (h _ _ t)).trans ih
theorem Rt.sym {us:List Tie} (h:∀ a b,(a,b)∈us->(b,a)∈us) {a b:Int} (r:Rt us a b):Rt us b a:=KQ h r
theorem Rt.rng {us:List Tie}{n:Nat} (ok:∀ t∈us,0<=t.2/\t.2<n) {a b:Int} (h:0<=a/\a<n) (r:Rt us a b):0<=b/\b<n:=by
 cases r with
 | refl=>exact h
 | step _ t=>exact ok _ t
open Classical in
def RZ (us:List Tie) (a b:Int):Bool:=decide (Rt us a b)
theorem Kl {us:List Tie}{a b:Int}:RZ us a b=true↔Rt us a b:=by
 classical
 unfold RZ
 exact decide_eq_true_iff
def RB (us:List Tie) (a b:Nat):Bool:=RZ us ((a:Nat):Int) ((b:Nat):Int)
theorem eY {us:List Tie}{a b:Nat}:RB us a b=true↔Rt us ((a:Nat):Int) ((b:Nat):Int):=Kl
theorem nH (us:List Tie) (a:Nat):RB us a a=true:=eY.mpr (.refl _)
def jZ (R:Nat->Nat->Bool) (n a:Nat):List Nat:=(List.range n).filter fun b=>R a b&&R b a
def jc (R:Nat->Nat->Bool) (n a:Nat):Bool:=decide ((jZ R n a).head?=some a)
def zI (l:List Nat):List Int:=l.map fun i:Nat=>0+((i:Nat):Int)
def sH (R:Nat->Nat->Bool) (n k:Nat):List (List Int):=(((List.range n).take k).filter (jc R n)).map fun a=>zI (jZ R n a)
theorem Dy (R:Nat->Nat->Bool) (n k:Nat):(sH R n k).length<=n:=by
 unfold sH
 rw [List.length_map]
 have h1:=List.length_filter_le (jc R n) ((List.range n).take k)
 rw [List.length_take,List.length_range] at h1
 omega
theorem J7 (R:Nat->Nat->Bool) {n k:Nat} (h:k<n):sH R n (k+1)=sH R n k++if jc R n k=true then [zI (jZ R n k)] else []:=by
 unfold sH
 have e:(List.range n).take (k+1)=(List.range n).take k++[k]:=by
  rw [List.take_add_one,List.getElem?_range h]
  rfl
 rw [e,List.filter_append,List.map_append]
 cases hf:jc R n k <;> simp [hf]
theorem vG {l:List Nat}{x:Int}:x∈zI l↔0<=x/\x.toNat∈l:=by
 unfold zI
 rw [List.mem_map]
 constructor
 ·rintro ⟨i,hi,rfl⟩
  rw [show ((0+((i:Nat):Int)).toNat)=i by omega]
  exact⟨by omega,hi⟩
 ·intro h
  exact⟨x.toNat,h.2,by omega⟩
theorem QF {n:Nat}{x:Int}:x∈zI (List.range n)↔0<=x/\x<n:=by
 rw [vG,List.mem_range]
 omega
theorem uN {l:List Nat} (h:l.Pairwise (·<·)):(zI l).Pairwise (·<·):=by
 unfold zI
 rw [List.pairwise_map]
 exact h.imp fun h=>by omega
def rsI (vs:List Tie) (n:Nat) (a:Int):List Int:=(zI (List.range n)).filter (RZ vs a)
theorem Ad {vs:List Tie}{n:Nat}{a x:Int}:x∈rsI vs n a↔(0<=x/\x<n)/\Rt vs a x:=by
 unfold rsI
 rw [List.mem_filter,QF,Kl]
theorem Cg {vs:List Tie}{n:Nat}{a:Int}:(rsI vs n a).Pairwise (·<·):=(uN List.pairwise_lt_range).filter _
theorem PJ (vs:List Tie) (n:Nat) (a:Int):(rsI vs n a).length<=n:=by
 unfold rsI
 have:=List.length_filter_le (RZ vs a) (zI (List.range n))
 unfold zI at this
 rw [List.length_map,List.length_range] at this
 exact this
theorem uV {l:List Int} (h:l.Pairwise (·<·)):l.Nodup:=h.imp fun h=>by omega
theorem tR {out ks l:List Int} (hp:out.Perm ks) (hs:out.Pairwise (·<=·)) (hn:ks.Nodup) (hl:l.Pairwise (·<·)) (hk:∀ q,q∈ks↔q∈l):out=l :=
 W.ksm_same (hp.trans ((List.perm_ext_iff_of_nodup hn (uV hl)).mpr hk)) hs (hl.imp fun h=>by omega)
theorem GK {l k:List Int} (hl:l.Pairwise (·<·)) (hk:k.Pairwise (·<·)) (h:∀ q,q∈l↔q∈k):l=k:=tR (List.Perm.refl _) (hl.imp fun h=>by omega) (uV hl) hk h
theorem Sh {vs:List Tie}{n:Nat}{a:Int}{out ks:List Int} (hp:out.Perm ks) (hs:out.Pairwise (·<=·)) (hn:ks.Nodup) (hk:∀ q,q∈ks↔Rt vs a q) (hr:∀ q,Rt vs a q->0<=q/\q<n):out=rsI vs n a :=
 tR hp hs hn Cg fun q=>by
  rw [Ad,hk]
  exact⟨fun h=>⟨hr q h,h⟩,fun h=>h.2⟩
def adj (us:List Tie) (F B:List Int):List Tie:=us.zipIdx.flatMap fun p=>if ((p.2:Nat):Int)∈F then [] else [p.1,(p.1.2,p.1.1)].filter fun t=>decide (t.2∉B)
theorem lZ {us:List Tie}{F B:List Int}{x y:Int}:(x,y)∈adj us F B↔∃ k:Nat,(us[k]?=some (x,y)\/us[k]?=some (y,x))/\((k:Nat):Int)∉F/\y∉B:=by
 unfold adj
 rw [List.mem_flatMap]
 constructor
 ·rintro ⟨⟨t,k⟩,hk,h⟩
  have hk:=List.mem_zipIdx_iff_getElem?.mp hk
  by_cases hF:((k:Nat):Int)∈F
  ·rw [if_pos hF] at h; cases h
  ·rw [if_neg hF,List.mem_filter] at h
   obtain⟨h,hB⟩:=h
   refine⟨k,?_,hF,of_decide_eq_true hB⟩
   rcases List.mem_cons.mp h with e | e
   ·left; rw [e]; exact hk
   ·right
    have e:=List.mem_singleton.mp e
    have e1:x=t.2:=congrArg Prod.fst e
    have e2:y=t.1:=congrArg Prod.snd e
    rw [e1,e2]; exact hk
 ·rintro ⟨k,h,hF,hB⟩
  rcases h with h | h
  ·refine⟨((x,y),k),List.mem_zipIdx_iff_getElem?.mpr h,?_⟩
   rw [if_neg hF,List.mem_filter]
   exact⟨List.mem_cons_self,decide_eq_true hB⟩
  ·refine⟨((y,x),k),List.mem_zipIdx_iff_getElem?.mpr h,?_⟩
   rw [if_neg hF,List.mem_filter]
   exact⟨List.mem_cons_of_mem _ (List.mem_singleton.mpr rfl),decide_eq_true hB⟩
theorem DQ {us:List Tie}{F B:List Int}{n:Int} (ok:OkN n us) (n0:0<=n):∀ t∈adj us F B,(0<=t.1/\t.1<(n.toNat:Nat))/\0<=t.2/\t.2<(n.toNat:Nat):=by
 rintro ⟨x,y⟩ h
 obtain⟨k,e,_⟩:=lZ.mp h
 have en:((n.toNat:Nat):Int)=n:=by omega
 rcases e with e | e
 ·have o:=ok _ (List.mem_of_getElem? e)
  exact⟨by rw [en]; exact o.1,by rw [en]; exact o.2.1⟩
 ·have o:=ok _ (List.mem_of_getElem? e)
  exact⟨by rw [en]; exact o.2.1,by rw [en]; exact o.1⟩
theorem DP {us:List Tie}{F:List Int}:∀ a b,(a,b)∈adj us F []->(b,a)∈adj us F []:=fun a b h=>by
 obtain⟨k,e,hF,_⟩:=lZ.mp h
 exact lZ.mpr ⟨k,e.symm,hF,fun z=>nomatch z⟩
theorem Kg (x a b:Int):([PyData.int a,.int b].any fun e=>PyData.eqv e (.int x))=decide (x=a\/x=b):=by
 show (a == x || (b == x || false))=_
 rw [Bool.eq_iff_iff]
 simp
 omega
theorem xO {n:Nat}{l:List Int} (nd:l.Nodup) (h:∀ x∈l,0<=x/\x<n):l.length<=n:=by
 induction n generalizing l with
 | zero=>cases l with
  | nil=>exact Nat.le_refl _
  | cons x l=>have:=h x (List.mem_cons_self ..); omega
 | succ n ih =>
  by_cases e:((n:Nat):Int)∈l
  ·have z:=ih (nd.erase ((n:Nat):Int)) fun x hx=>by
    have:=h x (List.mem_of_mem_erase hx)
    have:x≠((n:Nat):Int):=(nd.mem_erase_iff.mp hx).1
    omega
   rw [List.length_erase_of_mem e] at z
   omega
  ·have z:=ih nd fun x hx=>by
    have:=h x hx
    have:x≠((n:Nat):Int):=fun w=>e (w ▸ hx)
    omega
   omega
structure Fd (n:Nat) (es:List Tie) (a:Int) (l:List Int) (at':Nat):Prop where
 nd:l.Nodup
 rng:∀ x∈l,0<=x/\x<n
 st:a∈l
 rt:∀ x∈l,Rt es a x
 cl:∀ (j:Nat) (x:Int),j<at'->l[j]?=some x->∀ y,(x,y)∈es->y∈l
section
variable {P:Program}{w:World}{K:W.Frag}{mg:Str->Option Value}{base:Heap}{f:Addr}{fd:FuncData}
end
structure StepsOk (n:Nat) (es:List Tie) (S:List (List Tie)):Prop where
 len:S.length=n
 rng:∀ ts∈S,∀ t∈ts,0<=t.1/\t.1<n
 few:∀ ts∈S,ts.length<=200
 is:∀ (a:Nat) (ts:List Tie),S[a]?=some ts->∀ b,(∃ t∈ts,t.1=b)↔(((a:Nat):Int),b)∈es
def stD (S:List (List Tie)):D:=.list (S.map fun ts=>.list (ts.map pD))
def rP (S:List (List Tie)):List (List D):=S.map fun ts=>ts.map pD
theorem Pu (S:List (List Tie)):PyData.list ((rP S).map PyData.list)=stD S:=by
 unfold rP stD
 rw [List.map_map]
 rfl
theorem GP (S:List (List Tie)) (k:Nat) (l:List Tie) (u:Tie):(rP S).set k (l.map pD++[pD u])=rP (S.set k (l++[u])):=by
 unfold rP
 rw [List.map_set,List.map_append]
 rfl
structure StepsTo (n:Nat) (us:List Tie) (k:Nat) (S:List (List Tie)):Prop where
 len:S.length=n
 rng:∀ ts∈S,∀ t∈ts,0<=t.1/\t.1<n
 few:∀ ts∈S,ts.length<=2 * k
 is:∀ (a:Nat) (ts:List Tie),S[a]?=some ts->∀ b,(∃ t∈ts,t.1=b)↔((((a:Nat):Int),b)∈us.take k\/(b,((a:Nat):Int))∈us.take k)
theorem wW {S:List (List Tie)}{p:Nat}{l:List Tie} (hl:S[p]?=some l) (q:Int) (x:Int) (a:Nat) (ts:List Tie) (h:(S.set p (l++[(q,x)]))[a]?=some ts):∃ ts0,S[a]?=some ts0/\∀ b,(∃ t∈ts,t.1=b)↔((∃ t∈ts0,t.1=b)\/(a=p/\b=q)):=by
 have hlt:=(List.getElem?_eq_some_iff.mp hl).1
 by_cases e:p=a
 ·subst e
  rw [List.getElem?_set_self hlt] at h
  cases h
  refine⟨l,hl,fun b=>?_⟩
  constructor
  ·rintro ⟨u,hu,e⟩
   rcases List.mem_append.mp hu with z | z
   ·exact .inl ⟨u,z,e⟩
   ·rw [List.mem_singleton.mp z] at e
    exact .inr ⟨rfl,e.symm⟩
  ·rintro (⟨u,hu,e⟩ | ⟨_,rfl⟩)
   ·exact⟨u,List.mem_append_left _ hu,e⟩
   ·exact⟨(b,x),List.mem_append_right _ (List.mem_singleton.mpr rfl),rfl⟩
 ·rw [List.getElem?_set_ne e] at h
  exact⟨ts,h,fun b=>⟨.inl,fun z=>z.elim id fun z=>absurd z.1.symm e⟩⟩
theorem StepsTo.next {n:Nat}{us:List Tie}{k:Nat}{S:List (List Tie)} (h:StepsTo n us k S) {t:Tie} (ht:us[k]?=some t) (ok:(0<=t.1/\t.1<n)/\0<=t.2/\t.2<n) {l l':List Tie} (x:Int) (hl:S[t.1.toNat]?=some l) (hl':(S.set t.1.toNat (l++[(t.2,x)]))[t.2.toNat]?=some l'):StepsTo n us (k+1) ((S.set t.1.toNat (l++[(t.2,x)])).set t.2.toNat (l'++[(t.1,x)])):=by
 have hm:=List.mem_of_getElem? hl
 have tk:us.take (k+1)=us.take k++[t]:=by rw [List.take_add_one,ht]; rfl
 have g1:∀ ts∈S.set t.1.toNat (l++[(t.2,x)]),(∀ t∈ts,0<=t.1/\t.1<n)/\ts.length<=2 * k+1:=fun ts hts=>by
  rcases List.mem_or_eq_of_mem_set hts with z | rfl
  ·exact⟨h.rng ts z,by have:=h.few ts z; omega⟩
  ·refine⟨fun u hu=>?_,by rw [List.length_append,List.length_singleton]; have:=h.few l hm; omega⟩
   rcases List.mem_append.mp hu with z | z
   ·exact h.rng l hm u z
   ·rw [List.mem_singleton.mp z]; exact ok.2
 have g2:=g1 l' (List.mem_of_getElem? hl')
 refine⟨by rw [List.length_set,List.length_set]; exact h.len,fun ts hts=>?_,fun ts hts=>?_,fun a ts ha b=>?_⟩
 ·rcases List.mem_or_eq_of_mem_set hts with z | rfl
  ·exact (g1 ts z).1
  ·intro u hu
   rcases List.mem_append.mp hu with z | z
   ·exact g2.1 u z
   ·rw [List.mem_singleton.mp z]; exact ok.1
 ·rcases List.mem_or_eq_of_mem_set hts with z | rfl
  ·have:=(g1 ts z).2; omega
  ·rw [List.length_append,List.length_singleton]; omega
 ·obtain⟨t1,h1,i1⟩:=wW hl' _ _ a ts ha
  obtain⟨t0,h0,i0⟩:=wW hl _ _ a t1 h1
  rw [i1,i0,h.is a t0 h0 b,tk,List.mem_append,List.mem_append,List.mem_singleton,List.mem_singleton]
  have e1:(a=t.1.toNat/\b=t.2)↔(((a:Nat):Int),b)=t:=by
   constructor
   ·rintro ⟨rfl,rfl⟩; rw [Int.toNat_of_nonneg ok.1.1]
   ·intro e
    have z1:((a:Nat):Int)=t.1:=congrArg Prod.fst e
    exact⟨by omega,congrArg Prod.snd e⟩
  have e2:(a=t.2.toNat/\b=t.1)↔(b,((a:Nat):Int))=t:=by
   constructor
   ·rintro ⟨rfl,rfl⟩; rw [Int.toNat_of_nonneg ok.2.1]
   ·intro e
    have z1:((a:Nat):Int)=t.2:=congrArg Prod.snd e
    exact⟨by omega,congrArg Prod.fst e⟩
  rw [e1,e2]
  constructor
  ·rintro (((z | z) | z) | z)
   ·exact .inl (.inl z)
   ·exact .inr (.inl z)
   ·exact .inl (.inr z)
   ·exact .inr (.inr z)
  ·rintro ((z | z) | (z | z))
   ·exact .inl (.inl (.inl z))
   ·exact .inl (.inr z)
   ·exact .inl (.inl (.inr z))
   ·exact .inr z
theorem nG {us:List Tie}{x y:Int}:(x,y)∈adj us [] []↔((x,y)∈us\/(y,x)∈us):=by
 rw [lZ]
 constructor
 ·rintro ⟨k,e | e,_⟩
  ·exact .inl (List.mem_of_getElem? e)
  ·exact .inr (List.mem_of_getElem? e)
 ·rintro (e | e)
  ·obtain⟨k,hk⟩:=List.getElem?_of_mem e
   exact⟨k,.inl hk,List.not_mem_nil,List.not_mem_nil⟩
  ·obtain⟨k,hk⟩:=List.getElem?_of_mem e
   exact⟨k,.inr hk,List.not_mem_nil,List.not_mem_nil⟩
def aQ (m:IM):List Int:=m.map (·.1)
theorem gk {m:IM}{k:Int}:iI m k=true↔k∈aQ m:=by
 unfold iI aQ
 rw [List.any_eq_true,List.mem_map]
 constructor
 ·rintro ⟨p,hp,e⟩; exact⟨p,hp,of_decide_eq_true e⟩
 ·rintro ⟨p,hp,e⟩; exact⟨p,hp,decide_eq_true e⟩
theorem QZ {m:IM}{k:Int} (h:iI m k=false):k∉aQ m:=fun z=>by rw [gk.mpr z] at h; cases h
theorem uX {m:IM}{k:Int}{d:D} (h:iI m k=false):jR m k d=m++[(k,d)]:=by
 unfold jR
 rw [h]
 rfl
structure Sr (n:Nat) (us:List Tie) (a:Int) (m:IM) (open':Int->Prop):Prop where
 im:pN m=true
 nd:(aQ m).Nodup
 rng:∀ x∈aQ m,0<=x/\x<n
 st:a∈aQ m
 rt:∀ x∈aQ m,Rt us a x
 cl:∀ x∈aQ m,open' x\/∀ b,(x,b)∈us->b∈aQ m
theorem Sr.few {n:Nat}{us:List Tie}{a:Int}{m:IM}{o:Int->Prop} (h:Sr n us a m o):m.length<=n:=by
 have:=xO h.nd h.rng
 unfold aQ at this
 rwa [List.length_map] at this
theorem Sr.all {n:Nat}{us:List Tie}{a:Int}{m:IM} (h:Sr n us a m fun _=>False):∀ x,iI m x=true↔Rt us a x:=fun x=>by
 rw [gk]
 refine⟨h.rt x,fun r=>?_⟩
 induction r with
 | refl=>exact h.st
 | step r t ih=>exact (h.cl _ ih).elim False.elim fun z=>z _ t
theorem Sr.add {n:Nat}{us:List Tie}{a x c:Int}{m:IM}{o o':Int->Prop} (h:Sr n us a m o) (hx:x∈aQ m) (t:(x,c)∈us) (hc:0<=c/\c<n) (nw:iI m c=false) {d:D} (hd:dZ d=true) (oo:∀ y,o y->o' y) (oc:o' c):Sr n us a (jR m c d) o':=by
 have kk:aQ (m++[(c,d)])=aQ m++[c]:=by unfold aQ; rw [List.map_append]; rfl
 rw [uX nw]
 refine⟨?_,?_,?_,?_,?_,?_⟩
 ·have:=h.im
  unfold pN at this ⊢
  rw [List.all_append,this]
  show (true&&(dZ d&&true))=true
  rw [hd]; rfl
 ·rw [kk]
  exact List.nodup_append.mpr ⟨h.nd,by simp,fun y hy z hz=>by rw [List.mem_singleton.mp hz]; rintro rfl; exact QZ nw hy⟩
 ·rw [kk]
  intro y hy
  rcases List.mem_append.mp hy with z | z
  ·exact h.rng y z
  ·rw [List.mem_singleton.mp z]; exact hc
 ·rw [kk]; exact List.mem_append_left _ h.st
 ·rw [kk]
  intro y hy
  rcases List.mem_append.mp hy with z | z
  ·exact h.rt y z
  ·rw [List.mem_singleton.mp z]; exact .step (h.rt x hx) t
 ·rw [kk]
  intro y hy
  rcases List.mem_append.mp hy with z | z
  ·exact (h.cl y z).imp (oo y) fun q b hb=>List.mem_append_left _ (q b hb)
  ·rw [List.mem_singleton.mp z]; exact .inl oc
theorem Sr.wk {n:Nat}{us:List Tie}{a:Int}{m:IM}{o o':Int->Prop} (h:Sr n us a m o) (f:∀ x∈aQ m,o x->o' x\/∀ b,(x,b)∈us->b∈aQ m):Sr n us a m o' :=
 ⟨h.im,h.nd,h.rng,h.st,h.rt,fun x hx=>(h.cl x hx).elim (f x hx) .inr⟩
def Ju (ds:List D) (P:D->Prop):Prop:=∃ n us,ds=[aR n us]/\0<=n/\n<=100/\us.length<=100/\OkN n us/\∀ S,StepsOk n.toNat (adj us [] []) S->P (stD S)
def Di (ds:List D) (P:D->Prop):Prop:=∃ n us S a,ds=[stD S,.int a]/\n<=100/\StepsOk n us S/\0<=a/\a<n/\∀ m:IM,pN m=true->(aQ m).Nodup->m.length<=n->(∀ x,iI m x=true↔Rt us a x)->P (.dict (kvD m))
def Ol (ds:List D) (P:D->Prop):Prop:=∃ n us a,ds=[aR n us,.int a]/\0<=n/\n<=60/\us.length<=100/\OkN n us/\0<=a/\a<n/\P (iD (rsI (adj us [] []) n.toNat a))
def Jw (ds:List D) (P:D->Prop):Prop:=∃ n us,ds=[aR n us]/\0<=n/\n<=60/\us.length<=100/\OkN n us/\P (.list ((sH (RB (adj us [] [])) n.toNat n.toNat).map iD))
section
variable {P:Program}{w:World}{K:W.Frag}{mg:Str->Option Value}{base:Heap}{f:Addr}{fd:FuncData}
theorem iV:FnScope ["web","steps","number","tie"] ["web"] (aq (top 18)):=zC
theorem lW:(["place","web","steps","number","tie"]:List Str).Nodup:=by decide +kernel
theorem pG (F:Fun K "steps_of_web" "steps_of_web" (top 18) f fd) (B:Dl.Bn mg) (m_enumerate:mg "enumerate"=none):FnOk P w K mg base CX0 1 f fd ["web"] (spD Ju):=by
 refine F.ok iV bA (fun cdv A outer s H vs Q E hr h=>?_)
 have nd:=iV.nd
 refine⟨_,Wr.WDSs.h (Wr.aA (Wr.mY 0 ["place"] (i:=1) rfl nd rfl zQ (Wr.bZ B.range (Wr.aj (Wr.aX (Wr.dv 0) Wr.ao) Wr.ak)) (fun c=>(Wr.aH (i:=0) lW rfl zQ)))
  (Wr.aA (Wr.eV PassesOwn.never rfl (Wr.vY m_enumerate (Wr.aj (Wr.aX (Wr.dv 0) Wr.ao) Wr.ak)) (Wr.vZ (n:=2) rfl (Wr.eO (Wr.aH (i:=2) nd rfl zQ) (Wr.eO (Wr.aH (i:=3) nd rfl zQ) Wr.nq))) (Wr.aA (Wr.jO (Wr.wv 1) (Wr.aX (Wr.dv 3) Wr.ao) (Wr.aj (Wr.aC (Wr.aj (Wr.aX (Wr.dv 3) Wr.ao) (Wr.aj (Wr.dv 2) Wr.ak))) Wr.ak))
  (Wr.aA (Wr.jO (Wr.wv 1) (Wr.aX (Wr.dv 3) Wr.ao) (Wr.aj (Wr.aC (Wr.aj (Wr.aX (Wr.dv 3) Wr.ao) (Wr.aj (Wr.dv 2) Wr.ak))) Wr.ak)) (Wr.aY [2,3] Wr.aN))))
  (Wr.aY [2,3] (Wr.aF (Wr.aL (Wr.dv 1)))))),cj h ?_⟩
 rintro ds P ⟨n,us,rfl,n1,n16,lu,ok,q⟩
 refine⟨[.im (aR n us),.any,.any,.any],?_,?_⟩
 ·show [aZ (aR n us),.any,.any,.any]=_
  rw [bV]
 refine⟨.int n,rfl,⟨by omega,by omega⟩,by rw [bC]; omega,rfl,?_⟩
 rw [bC]
 refine⟨.tuple (us.map pD),rfl,rfl,fun (i:Nat) ρ=>∃ S,ρ=[.im (aR n us),.rw 0 (rP S),.any,.any]/\StepsTo n.toNat us i S,?_,?_,?_⟩
 ·refine⟨List.replicate n.toNat [],?_,List.length_replicate ..,fun ts h=>?_,fun ts h=>?_,fun a ts h b=>?_⟩
  ·unfold rP
   rw [List.map_replicate]
   rfl
  ·rw [(List.mem_replicate.mp h).2]; exact fun t ht=>nomatch ht
  ·rw [(List.mem_replicate.mp h).2]; exact Nat.le_refl _
  ·rw [(List.mem_replicate.mp (List.mem_of_getElem? h)).2]
   exact⟨fun ⟨t,ht,_⟩=>(nomatch ht),fun z=>z.elim (fun z=>nomatch z) fun z=>nomatch z⟩
 ·rintro i d ρ hd ⟨S,rfl,T⟩
  rw [ux,List.getElem?_map] at hd
  obtain⟨t,ht,rfl⟩:∃ t,us[i]?=some t/\PyData.tuple [.int ((i:Nat):Int),pD t]=d:=by
   cases e:us[i]? with
   | none=>rw [e] at hd; cases hd
   | some t=>rw [e] at hd; exact⟨t,rfl,Option.some.inj hd⟩
  obtain⟨⟨o1,o2⟩,⟨o3,o4⟩,o5⟩:=ok t (List.mem_of_getElem? ht)
  have hi:=(List.getElem?_eq_some_iff.mp ht).1
  have hlt:t.1.toNat<S.length:=by rw [T.len]; omega
  have hl:=List.getElem?_eq_getElem hlt
  generalize S[t.1.toNat]=l at hl
  have fl:=T.few l (List.mem_of_getElem? hl)
  have e1:=GP S t.1.toNat l (t.2,((i:Nat):Int))
  have hlt2:t.2.toNat<(S.set t.1.toNat (l++[(t.2,((i:Nat):Int))])).length:=by rw [List.length_set,T.len]; omega
  have hl2:=List.getElem?_eq_getElem hlt2
  have ne:t.1.toNat≠t.2.toNat:=by omega
  have hl2s:S[t.2.toNat]?=some (S.set t.1.toNat (l++[(t.2,((i:Nat):Int))]))[t.2.toNat]:=by rw [← hl2,List.getElem?_set_ne ne]
  have TN:=T.next ht ⟨⟨o1,by omega⟩,o3,by omega⟩ ((i:Nat):Int) hl hl2
  generalize (S.set t.1.toNat (l++[(t.2,((i:Nat):Int))]))[t.2.toNat]=l' at hl2 hl2s TN
  have fl':=T.few l' (List.mem_of_getElem? hl2s)
  refine⟨rfl,.int t.1,rfl,t.1.toNat,l.map pD,?_,by unfold rP; rw [List.getElem?_map,hl]; rfl,.int t.2,rfl,zK,rfl,by rw [List.length_map]; omega,.int t.2,rfl,?_⟩
  ·unfold ixN rP
   rw [if_pos o1,if_pos (by rw [List.length_map,T.len]; omega)]
  refine⟨t.2.toNat,l'.map pD,?_,?_,.int t.1,rfl,zK,rfl,by rw [List.length_map]; omega,_,?_,TN⟩
  ·unfold ixN rP
   rw [if_pos o3,if_pos (by rw [List.length_set,List.length_map,T.len]; omega)]
  ·rw [List.getElem?_set_ne ne]
   unfold rP
   rw [List.getElem?_map,hl2s]; rfl
  ·have e:=GP (S.set t.1.toNat (l++[(t.2,((i:Nat):Int))])) t.2.toNat l' (t.1,((i:Nat):Int))
   rw [← e,← e1]
   rfl
 ·rintro ρ ⟨S,rfl,T⟩
  rw [oO,List.length_map] at T
  refine⟨rfl,?_⟩
  show P (.list ((rP S).map PyData.list))
  rw [Pu]
  refine q S ⟨T.len,T.rng,fun ts h=>by have:=T.few ts h; omega,fun a ts h b=>?_⟩
  have z:=T.is a ts h b
  rw [List.take_length] at z
  rw [z,nG]
theorem tQ:FnScope ["steps","start","came","row","later","place","step"] ["steps","start"] (aq (top 19)):=zC
theorem Ep (F:Fun K "search" "search" (top 19) f fd) (B:Dl.Bn mg):FnOk P w K mg base CX0 1 f fd ["steps","start"] (spD Di):=by
 refine F.ok tQ bA (fun cdv A outer s H vs Q E hr h=>?_)
 have nd:=tQ.nd
 refine⟨_,Wr.WDSs.h (Wr.aA (Wr.bD (some 0) (i:=2) nd rfl zQ (Wr.qW (Wr.dv 1) Wr.qT))
  (Wr.aA (Wr.bD none (i:=3) nd rfl zQ (Wr.aM (Wr.aj (Wr.dv 1) Wr.ak)))
  (Wr.aA (Wr.jx PassesOwn.never (Wr.uY (Wr.dv 3)) (Wr.aA (Wr.bD (some 1) (i:=4) nd rfl zQ (Wr.aM Wr.ak))
  (Wr.aA (Wr.eV PassesOwn.never rfl (Wr.cD (Wr.dv 3)) (Wr.aH (i:=5) nd rfl zQ) (Wr.aA (Wr.eV PassesOwn.never rfl (Wr.cD (Wr.aX (Wr.dv 0) (Wr.dv 5))) (Wr.aH (i:=6) nd rfl zQ) (Wr.aA (Wr.cR (Wr.gZ hr.units (Wr.aX (Wr.dv 6) Wr.ao) (Wr.dv 2)) (Wr.aA (Wr.qg hr.units (Wr.wv 2) (Wr.aX (Wr.dv 6) Wr.ao) (Wr.aC (Wr.aj (Wr.dv 5) (Wr.aj (Wr.aX (Wr.dv 6) Wr.ao) Wr.ak))))
  (Wr.aF (Wr.dB (Wr.wv 4) (Wr.aj (Wr.aX (Wr.dv 6) Wr.ao) Wr.ak)))) Wr.aN) (Wr.aY [6] Wr.aN))) (Wr.aY [5,6] Wr.aN)))
  (Wr.aY [5,6] (Wr.Bh 4 (Wr.aA (Wr.bD none (i:=3) nd rfl zQ (Wr.dv 4)) (Wr.aY [4,5,6] Wr.aN)))))))
  (Wr.aY [3,4,5,6] (Wr.aF (Wr.aL (Wr.dv 2))))))),cj h ?_⟩
 rintro ds P ⟨n,us,S,a,rfl,n16,ok,a0,a1,q⟩
 refine⟨[.sh (stD S),.im (.int a),.any,.any,.any,.any,.any],rfl,?_⟩
 refine⟨rfl,zK,?_⟩
 refine⟨fun mm ρ=>∃ (m:IM) (row:List Int),ρ=[.sh (stD S),.im (.int a),.dw 0 (.dict (kvD m)),.sn (iD row),.any,.any,.any]/\Sr n us a m (·∈row)/\(∀ x∈row,x∈aQ m)/\mm=2 * (n - m.length)+(if row=[] then 0 else 1),⟨_,[(a,.none)],[a],rfl,?_,?_,rfl⟩,?_⟩
 ·refine⟨rfl,by simp [aQ],fun x hx=>?_,by simp [aQ],fun x hx=>?_,fun x hx=>.inl ?_⟩
  ·have e:x=a:=by simpa [aQ] using hx
   omega
  ·have e:x=a:=by simpa [aQ] using hx
   rw [e]; exact .refl _
  ·have e:x=a:=by simpa [aQ] using hx
   rw [e]; exact List.mem_singleton.mpr rfl
 ·intro x hx
  rw [List.mem_singleton.mp hx]
  simp [aQ]
 rintro mm ρ ⟨m,R,rfl,h,hr,rfl⟩
 show if (!(R.map PyData.int).isEmpty)=true then _ else _
 cases hR:R with
 | nil =>
  refine bR (A:=True) ⟨rfl,q m h.im h.nd h.few (Sr.all (h.wk fun x _ hx=>?_))⟩
  rw [hR] at hx
  cases hx
 | cons x0 R0 =>
  refine bQ (B:=True) ?_
  rw [← hR]
  refine⟨by decide,rfl,fun (i:Nat) ρ=>∃ (m':IM) (la:List Int),ρ=[.sh (stD S),.im (.int a),.dw 0 (.dict (kvD m')),.sn (iD R),.dw 1 (iD la),.any,.any]/\Sr n us a m' (fun y=>y∈la\/y∈R.drop i)/\(∀ y∈R,y∈aQ m')/\(∀ y∈la,y∈aQ m')/\m'.length=m.length+la.length,⟨m,[],rfl,h.wk fun x _ hx=>.inl (.inr hx),hr,fun y hy=>(nomatch hy),rfl⟩,?_,?_⟩
  ·rintro i d ρ hd ⟨m',la,rfl,h',hr',hla,hlen⟩
   obtain⟨y,hy,rfl⟩:=iB hd
   have yk:=hr' y (List.mem_of_getElem? hy)
   have yr:=h'.rng y yk
   have hlt:y.toNat<S.length:=by rw [ok.len]; omega
   have hl:=List.getElem?_eq_getElem hlt
   generalize S[y.toNat]=ts at hl
   have fl:=ok.few ts (List.mem_of_getElem? hl)
   have iS:=ok.is _ ts hl
   rw [show ((y.toNat:Nat):Int)=y by omega] at iS
   have dr:R.drop i=y::R.drop (i+1):=by
    have hi:=(List.getElem?_eq_some_iff.mp hy).1
    rw [List.drop_eq_getElem_cons hi,(List.getElem?_eq_some_iff.mp hy).2]
   have eat:atI (S.map fun ts=>PyData.list (ts.map pD)) y=some (.list (ts.map pD)):=by
    have:=iQ (xs:=S.map fun ts=>PyData.list (ts.map pD)) (j:=y.toNat) (v:=.list (ts.map pD)) (by rw [List.getElem?_map,hl]; rfl)
    rwa [show ((y.toNat:Nat):Int)=y by omega] at this
   refine⟨.list (ts.map pD),eat,rfl,fun (j:Nat) ρ=>∃ (m2:IM) (la:List Int),ρ=[.sh (stD S),.im (.int a),.dw 0 (.dict (kvD m2)),.sn (iD R),.dw 1 (iD la),.im (.int y),.any]/\Sr n us a m2 (fun z=>(z∈la\/z∈R.drop (i+1))\/z=y)/\(∀ y∈R,y∈aQ m2)/\(∀ y∈la,y∈aQ m2)/\m2.length=m.length+la.length/\∀ t∈ts.take j,t.1∈aQ m2,⟨m',la,rfl,h'.wk fun z _ hz=>.inl ?_,hr',hla,hlen,fun t ht=>(nomatch ht)⟩,?_,?_⟩
   ·rcases hz with hz | hz
    ·exact .inl (.inl hz)
    ·rw [dr] at hz
     rcases List.mem_cons.mp hz with e | e
     ·exact .inr e
     ·exact .inl (.inr e)
   ·rintro j d ρ hd ⟨m2,la,rfl,h2,hr2,hla2,hlen2,hts⟩
    obtain⟨t,ht,rfl⟩:=iB hd
    have tk:ts.take (j+1)=ts.take j++[t]:=by rw [List.take_add_one,ht]; rfl
    have tm:=List.mem_of_getElem? ht
    have tr:=ok.rng ts (List.mem_of_getElem? hl) t tm
    have few2:=h2.few
    refine⟨.int t.1,rfl,m2,rfl,?_⟩
    show if (!iI m2 t.1)=true then _ else _
    cases hb:iI m2 t.1 with
    | true =>
     refine bR (A:=True) ⟨m2,la,rfl,h2,hr2,hla2,hlen2,fun u hu=>?_⟩
     rw [tk] at hu
     rcases List.mem_append.mp hu with z | z
     ·exact hts u z
     ·rw [List.mem_singleton.mp z]; exact gk.mp hb
    | false =>
     have kk:aQ (jR m2 t.1 (.tuple [.int y,.int t.2]))=aQ m2++[t.1]:=by
      rw [uX hb]; unfold aQ; rw [List.map_append]; rfl
     have ll:(la.map PyData.int).length=la.length:=List.length_map ..
     refine bQ (B:=True) ⟨.int t.2,rfl,zK,.int t.1,rfl,m2,rfl,rfl,h2.im,by omega,.int t.1,rfl,rfl,by omega,jR m2 t.1 (.tuple [.int y,.int t.2]),la++[t.1],?_,h2.add (x:=y) (hr2 y (List.mem_of_getElem? hy)) ((iS t.1).mp ⟨t,tm,rfl⟩) tr hb rfl (fun z hz=>?_) (.inl (.inl (List.mem_append_right _ (List.mem_singleton.mpr rfl)))),fun z hz=>?_,fun z hz=>?_,?_,fun u hu=>?_⟩
     ·unfold iD
      rw [List.map_append]
      rfl
     ·rcases hz with (z | z) | z
      ·exact .inl (.inl (List.mem_append_left _ z))
      ·exact .inl (.inr z)
      ·exact .inr z
     ·rw [kk]; exact List.mem_append_left _ (hr2 z hz)
     ·rw [kk]
      rcases List.mem_append.mp hz with z | z
      ·exact List.mem_append_left _ (hla2 _ z)
      ·rw [List.mem_singleton.mp z]; exact List.mem_append_right _ (List.mem_singleton.mpr rfl)
     ·rw [uX hb,List.length_append,List.length_append,hlen2]
      show m.length+la.length+1=m.length+(la.length+1)
      omega
     ·rw [kk]
      rw [tk] at hu
      rcases List.mem_append.mp hu with z | z
      ·exact List.mem_append_left _ (hts u z)
      ·rw [List.mem_singleton.mp z]; exact List.mem_append_right _ (List.mem_singleton.mpr rfl)
   ·rintro ρ ⟨m2,la,rfl,h2,hr2,hla2,hlen2,hts⟩
    rw [List.length_map,List.take_length] at hts
    refine⟨m2,la,rfl,h2.wk fun z hz hz'=>?_,hr2,hla2,hlen2⟩
    rcases hz' with z' | z'
    ·exact .inl z'
    ·right
     intro b hb
     rw [z'] at hb
     obtain⟨t,ht,e⟩:=(iS b).mpr hb
     rw [← e]
     exact hts t ht
  ·rintro ρ ⟨m',la,rfl,h',hr',hla,hlen⟩
   rw [List.length_map] at h'
   have few':=h'.few
   refine⟨rfl,2 * (n - m'.length)+(if la=[] then 0 else 1),?_,m',la,rfl,h'.wk fun x _ hx=>.inl ?_,hla,rfl⟩
   ·rw [if_neg (show ¬ R=[] by rw [hR]; exact fun z=>nomatch z)]
    by_cases e:la=[]
    ·subst e
     rw [if_pos rfl]
     have hlen:m'.length=m.length+0:=hlen
     omega
    ·rw [if_neg e]
     have:=List.length_pos_iff.mpr e
     omega
   ·rcases hx with hx | hx
    ·exact hx
    ·rw [List.drop_length] at hx
     cases hx
end
theorem vQ {R:Nat->Nat->Bool}{n i:Nat} (hi:i<n) (hs:R i i=true):jc R n i=true↔∀ b,b<i->(R i b&&R b i)=false:=by
 unfold jc jZ
 rw [decide_eq_true_iff,List.head?_filter,List.find?_range_eq_some]
 constructor
 ·intro h b hb
  have:=h.2.2 b hb
  rwa [Bool.not_eq_true'] at this
 ·intro h
  refine⟨by rw [hs]; rfl,List.mem_range.mpr hi,fun j hj=>?_⟩
  rw [h j hj]; rfl
theorem Ma {es:List Tie} (sy:∀ a b,(a,b)∈es->(b,a)∈es) (n i:Nat):rsI es n ((i:Nat):Int)=zI (jZ (RB es) n i):=by
 refine GK Cg (uN (List.pairwise_lt_range.filter _)) fun q=>?_
 rw [Ad,vG]
 unfold jZ
 rw [List.mem_filter,List.mem_range,Bool.and_eq_true,eY,eY]
 constructor
 ·rintro ⟨⟨h0,h1⟩,r⟩
  rw [Int.toNat_of_nonneg h0]
  exact⟨h0,by omega,r,r.sym sy⟩
 ·rintro ⟨h0,h1,r,_⟩
  rw [Int.toNat_of_nonneg h0] at r
  exact⟨⟨h0,by omega⟩,r⟩
structure Seen (n:Nat) (es:List Tie) (i:Nat) (m:IM):Prop where
 im:pN m=true
 nd:(aQ m).Nodup
 rng:∀ x∈aQ m,0<=x/\x<n
 is:∀ x,x∈aQ m↔∃ p:Nat,p<i/\Rt es ((p:Nat):Int) x
theorem GZ {m:IM} (k:Int) (d:D):∀ x,x∈aQ (jR m k d)↔x∈aQ m\/x=k:=fun x=>by
 unfold jR
 by_cases h:iI m k=true
 ·rw [if_pos h]
  have e:aQ (m.map fun p=>if p.1=k then (p.1,d) else p)=aQ m:=by
   unfold aQ
   rw [List.map_map]
   refine List.map_congr_left fun p _=>?_
   show (if p.1=k then (p.1,d) else p).1=p.1
   split <;> rfl
  rw [e]
  exact⟨.inl,fun z=>z.elim id fun z=>z ▸ gk.mp h⟩
 ·rw [if_neg h]
  unfold aQ
  rw [List.map_append,List.mem_append]
  exact Iff.rfl.trans ⟨fun z=>z.imp id List.mem_singleton.mp,fun z=>z.imp id fun z=>List.mem_singleton.mpr z⟩
theorem K6 {m:IM} (k:Int) (d:D) (h:pN m=true) (hd:dZ d=true):pN (jR m k d)=true:=by
 unfold jR
 split
 ·unfold pN at *
  rw [List.all_map,List.all_eq_true]
  intro p hp
  show dZ (if p.1=k then (p.1,d) else p).2=true
  split
  ·exact hd
  ·exact List.all_eq_true.mp h p hp
 ·unfold pN at *
  rw [List.all_append,h]
  show (true&&(dZ d&&true))=true
  rw [hd]; rfl
theorem Qd {m:IM} (k:Int) (d:D) (h:(aQ m).Nodup):(aQ (jR m k d)).Nodup:=by
 unfold jR
 by_cases hh:iI m k=true
 ·rw [if_pos hh]
  have e:aQ (m.map fun p=>if p.1=k then (p.1,d) else p)=aQ m:=by
   unfold aQ
   rw [List.map_map]
   refine List.map_congr_left fun p _=>?_
   show (if p.1=k then (p.1,d) else p).1=p.1
   split <;> rfl
  rw [e]; exact h
 ·rw [if_neg hh]
  unfold aQ at *
  rw [List.map_append]
  refine List.nodup_append.mpr ⟨h,by simp,fun y hy z hz=>?_⟩
  have hz:=List.mem_singleton.mp hz
  rw [hz]
  rintro rfl
  exact hh (gk.mpr hy)
section
variable {P:Program}{w:World}{K:W.Frag}{mg:Str->Option Value}{base:Heap}{f:Addr}{fd:FuncData}
theorem qD:FnScope ["web","place"] ["web","place"] (aq (top 20)):=zC
theorem zX (F:Fun K "part_of" "part_of" (top 20) f fd) (B:Dl.Bn mg) (C_search:Dl.Cal P w K mg base 1 "search" ["steps","start"] (spD Di)) (C_steps_of_web:Dl.Cal P w K mg base 1 "steps_of_web" ["web"] (spD Ju)):FnOk P w K mg base CX0 2 f fd ["web","place"] (spD Ol):=by
 refine F.ok qD bA (fun cdv A outer s H vs Q E hr h=>?_)
 have nd:=qD.nd
 refine⟨_,Wr.WDSs.h (Wr.aF (Wr.aL (Wr.qR rfl B.sorted (Wr.aj (Wr.dc C_search hr (Wr.aj (Wr.dc C_steps_of_web hr (Wr.aj (Wr.dv 0) Wr.ak)) (Wr.aj (Wr.dv 1) Wr.ak))) Wr.ak)))),cj h ?_⟩
 rintro ds P ⟨n,us,a,rfl,n1,n16,lu,ok,a0,a1,q⟩
 refine⟨[.im (aR n us),.im (.int a)],?_,?_⟩
 ·show [aZ (aR n us),.im (.int a)]=_
  rw [bV]
 have an:=DQ (F:=[]) (B:=[]) ok (by omega)
 refine⟨n,us,rfl,by omega,by omega,lu,ok,fun S hS=>⟨n.toNat,_,S,a,rfl,by omega,hS,a0,by omega,fun m im nd few all=>⟨m,rfl,by omega,fun out hp hs=>⟨rfl,?_⟩⟩⟩⟩
 have e:=Sh (vs:=adj us [] []) (n:=n.toNat) (a:=a) hp hs nd (fun x=>by rw [← all,gk]; rfl) fun x r=>r.rng (fun t ht=>(an t ht).2) ⟨a0,by omega⟩
 rw [e]
 exact q
theorem wQ:FnScope ["web","told","seen","place","part","member"] ["web"] (aq (top 21)):=zC
theorem HY (F:Fun K "parts" "parts" (top 21) f fd) (B:Dl.Bn mg) (C_part_of:Dl.Cal P w K mg base 2 "part_of" ["web","place"] (spD Ol)):FnOk P w K mg base CX0 3 f fd ["web"] (spD Jw):=by
 refine F.ok wQ bA (fun cdv A outer s H vs Q E hr h=>?_)
 have nd:=wQ.nd
 refine⟨_,Wr.WDSs.h (Wr.aA (Wr.bD (some 0) (i:=1) nd rfl zQ (Wr.aM Wr.ak))
  (Wr.JH 1 true (Wr.aA (Wr.bD (some 1) (i:=2) nd rfl zQ Wr.p7)
  (Wr.aA (Wr.eV PassesOwn.never rfl (Wr.bZ B.range (Wr.aj (Wr.aX (Wr.dv 0) Wr.ao) Wr.ak)) (Wr.aH (i:=3) nd rfl zQ) (Wr.aA (Wr.cR (Wr.gZ hr.units (Wr.dv 3) (Wr.dv 2)) (Wr.aA (Wr.bD none (i:=4) nd rfl zQ (Wr.dc C_part_of hr (Wr.aj (Wr.dv 0) (Wr.aj (Wr.dv 3) Wr.ak))))
  (Wr.aA (Wr.nj (Wr.wv 1) (Wr.aj (Wr.dv 4) Wr.ak))
  (Wr.aA (Wr.eV PassesOwn.never rfl (Wr.cD (Wr.dv 4)) (Wr.aH (i:=5) nd rfl zQ) (Wr.aA (Wr.qg hr.units (Wr.wv 2) (Wr.dv 5) Wr.gG) (Wr.aY [5] Wr.aN))) (Wr.aY [5] Wr.aN)))) Wr.aN) (Wr.aY [3,4,5] Wr.aN)))
  (Wr.aY [3,4,5] (Wr.aF (Wr.aL (Wr.dv 1)))))))),cj h ?_⟩
 rintro ds P ⟨n,us,rfl,n1,n16,lu,ok,q⟩
 refine⟨[.im (aR n us),.any,.any,.any,.any,.any],?_,?_⟩
 ·show [aZ (aR n us),.any,.any,.any,.any,.any]=_
  rw [bV]
 have an:=DQ (F:=[]) (B:=[]) ok (by omega)
 have sy:=DP (us:=us) (F:=[])
 generalize hes:adj us [] []=es at an sy q
 refine⟨zK,rfl,.int n,rfl,⟨by omega,by omega⟩,rfl,fun (i:Nat) ρ=>∃ m,ρ=[.im (aR n us),.sp 0 true ((sH (RB es) n.toNat i).map iD),.dw 1 (.dict (kvD m)),.any,.any,.any]/\Seen n.toNat es i m,⟨[],rfl,rfl,by simp [aQ],fun x hx=>(nomatch hx),fun x=>⟨fun z=>(nomatch z),fun ⟨p,hp,_⟩=>absurd hp (Nat.not_lt_zero _)⟩⟩,?_,?_⟩
 ·rintro i d ρ hd ⟨m,rfl,h⟩
  obtain⟨hi,rfl⟩:=dY hd
  have ec:=J7 (RB es) hi
  have hl:=Dy (RB es) n.toNat i
  refine⟨m,rfl,?_⟩
  show if (!iI m (0+((i:Nat):Int)))=true then _ else _
  rw [Int.zero_add]
  have hf:jc (RB es) n.toNat i=!iI m ((i:Nat):Int):=by
   rw [Bool.eq_iff_iff,vQ hi (nH es i),Bool.not_eq_true',← Bool.not_eq_true,gk,h.is]
   constructor
   ·rintro z ⟨p,hp,r⟩
    have:=z p hp
    rw [eY.mpr r,eY.mpr (r.sym sy)] at this
    cases this
   ·intro z b hb
    rw [Bool.and_eq_false_iff,← Bool.not_eq_true,← Bool.not_eq_true,eY,eY]
    exact .inr fun r=>z ⟨b,hb,r⟩
  cases hb:iI m ((i:Nat):Int) with
  | true =>
   rw [hf,hb,if_neg (by decide),List.append_nil] at ec
   refine bR (A:=True) ⟨m,?_,h.im,h.nd,h.rng,fun x=>?_⟩
   ·rw [ec]
    rfl
   ·rw [h.is]
    constructor
    ·rintro ⟨p,hp,r⟩
     exact⟨p,by omega,r⟩
    ·rintro ⟨p,hp,r⟩
     by_cases e:p=i
     ·subst e
      obtain⟨p',hp',r'⟩:=(h.is _).mp (gk.mp hb)
      exact⟨p',hp',r'.trans r⟩
     ·exact⟨p,by omega,r⟩
  | false =>
   rw [hf,hb,if_pos (by decide)] at ec
   refine bQ (B:=True) ⟨n,us,_,rfl,by omega,by omega,lu,ok,by omega,by omega,?_⟩
   rw [hes]
   have pm:∀ x,x∈rsI es n.toNat ((i:Nat):Int)↔Rt es ((i:Nat):Int) x:=fun x=>by
    rw [Ad]
    exact⟨fun z=>z.2,fun r=>⟨r.rng (fun t ht=>(an t ht).2) ⟨by omega,by omega⟩,r⟩⟩
   rw [← Ma sy] at ec
   have pl:=PJ es n.toNat ((i:Nat):Int)
   generalize rsI es n.toNat ((i:Nat):Int)=pt at ec pm pl
   refine⟨rfl,by rw [List.length_map]; omega,?_⟩
   refine⟨rfl,fun (j:Nat) ρ=>∃ m',ρ=[.im (aR n us),.sp 0 true ((sH (RB es) n.toNat (i+1)).map iD),.dw 1 (.dict (kvD m')),.im (.int ((i:Nat):Int)),.sn (iD pt),.any]/\pN m'=true/\(aQ m').Nodup/\∀ x,x∈aQ m'↔x∈aQ m\/x∈pt.take j,⟨m,?_,h.im,h.nd,fun x=>⟨.inl,fun z=>z.elim id fun z=>nomatch z⟩⟩,?_,?_⟩
   ·rw [ec,List.map_append]
    rfl
   ·rintro j d ρ hd ⟨m',rfl,im',nd',is'⟩
    obtain⟨x,hx,rfl⟩:=iB hd
    have xr:=(pm x).mp (List.mem_of_getElem? hx)
    have tk:pt.take (j+1)=pt.take j++[x]:=by rw [List.take_add_one,hx]; rfl
    have ln:=xO nd' fun y hy=>show 0<=y/\y<n.toNat from by
     rcases (is' y).mp hy with z | z
     ·exact h.rng y z
     ·exact ((pm y).mp (List.mem_of_mem_take z)).rng (fun t ht=>(an t ht).2) ⟨by omega,by omega⟩
    unfold aQ at ln
    rw [List.length_map] at ln
    refine⟨m',rfl,rfl,im',by omega,jR m' x (.bool true),rfl,K6 _ _ im' rfl,Qd _ _ nd',fun y=>?_⟩
    rw [GZ,is',tk,List.mem_append,List.mem_singleton,or_assoc]
   ·rintro ρ ⟨m',rfl,im',nd',is'⟩
    rw [List.length_map,List.take_length] at is'
    refine⟨m',rfl,im',nd',fun y hy=>?_,fun x=>?_⟩
    ·rcases (is' y).mp hy with z | z
     ·exact h.rng y z
     ·exact ((pm y).mp z).rng (fun t ht=>(an t ht).2) ⟨by omega,by omega⟩
    ·rw [is',h.is,pm]
     constructor
     ·rintro (⟨p,hp,r⟩ | r)
      ·exact⟨p,by omega,r⟩
      ·exact⟨i,by omega,r⟩
     ·rintro ⟨p,hp,r⟩
      by_cases e:p=i
      ·subst e; exact .inr r
      ·exact .inl ⟨p,by omega,r⟩
 ·rintro ρ ⟨m,rfl,h⟩
  rw [bC]
  exact⟨rfl,q⟩
end
theorem Nb {P:DEnds}{ρ:List Sl}{rg:Option Nat}{i:Nat}{k:Kd}{d:D}{s:Sl} (e:stK rg ρ i (norm k d) d=some s) (h:P.nx (ρ.set i s)):(match stK rg ρ i (norm k d) d with
 | some s=>P.nx (ρ.set i s)
 | none=>False):=by
 rw [e]
 exact h
def noV (us:List Tie) (v:Int):List Tie:=us.filter fun t=>!decide (v=t.1\/v=t.2)
def RV (us:List Tie) (v:Nat):Nat->Nat->Bool:=RB (adj (noV us ((v:Nat):Int)) [] [])
def pwI (n:Nat) (us:List Tie) (v:Nat):List (List Int):=(((List.range n).filter (jc (RV us v) n)).filter fun a=>decide (a≠v)).map fun a=>zI (jZ (RV us v) n a)
theorem QD {n:Int}{us:List Tie} (ok:OkN n us) (v:Int):OkN n (noV us v):=fun t ht=>ok t ((List.mem_filter.mp ht).1)
theorem LQ (us:List Tie) (v:Int):(noV us v).length<=us.length:=List.length_filter_le _ _
theorem vB {us:List Tie}{v x y:Int}:(x,y)∈adj (noV us v) [] []↔(x,y)∈adj us [] []/\x≠v/\y≠v:=by
 have key:∀ (ws:List Tie),(x,y)∈adj ws [] []↔(x,y)∈ws\/(y,x)∈ws:=fun ws=>by
  rw [lZ]
  constructor
  ·rintro ⟨k,e | e,_⟩
   ·exact .inl (List.mem_of_getElem? e)
   ·exact .inr (List.mem_of_getElem? e)
  ·rintro (e | e)
   ·obtain⟨k,hk⟩:=List.getElem?_of_mem e
    exact⟨k,.inl hk,List.not_mem_nil,List.not_mem_nil⟩
   ·obtain⟨k,hk⟩:=List.getElem?_of_mem e
    exact⟨k,.inr hk,List.not_mem_nil,List.not_mem_nil⟩
 have fl:∀ a b:Int,((a,b):Tie)∈noV us v↔(a,b)∈us/\a≠v/\b≠v:=fun a b=>by
  unfold noV
  rw [List.mem_filter]
  simp only [Bool.not_eq_true',decide_eq_false_iff_not,not_or]
  constructor
  ·rintro ⟨h,h1,h2⟩
   exact⟨h,fun z=>h1 z.symm,fun z=>h2 z.symm⟩
  ·rintro ⟨h,h1,h2⟩
   exact⟨h,fun z=>h1 z.symm,fun z=>h2 z.symm⟩
 rw [key,key,fl,fl]
 constructor
 ·rintro (⟨h,a,b⟩ | ⟨h,a,b⟩)
  ·exact⟨.inl h,a,b⟩
  ·exact⟨.inr h,b,a⟩
 ·rintro ⟨h | h,a,b⟩
  ·exact .inl ⟨h,a,b⟩
  ·exact .inr ⟨h,b,a⟩
theorem Ey {us:List Tie}{v a:Int} (r:Rt (adj (noV us v) [] []) a v):a=v:=by
 cases r with
 | refl=>rfl
 | step r t=>exact absurd rfl (vB.mp t).2.2
theorem Sx {n:Nat}{us:List Tie}{v:Nat} (hv:v<n):(sH (RV us v) n n).filter (fun l=>!decide (((v:Nat):Int)∈l))=pwI n us v:=by
 unfold sH pwI
 rw [List.take_of_length_le (by rw [List.length_range]; exact Nat.le_refl _),List.filter_map]
 congr 1
 refine List.filter_congr fun a ha=>?_
 show (!decide (((v:Nat):Int)∈zI (jZ (RV us v) n a)))=decide (a≠v)
 have h:((v:Nat):Int)∈zI (jZ (RV us v) n a)↔a=v:=by
  rw [vG]
  unfold jZ
  rw [List.mem_filter,Bool.and_eq_true]
  show 0<=((v:Nat):Int)/\v∈List.range n/\RV us v a v=true/\RV us v v a=true↔_
  constructor
  ·rintro ⟨_,_,h,_⟩
   have:=Ey (eY.mp h)
   omega
  ·rintro rfl
   exact⟨by omega,List.mem_range.mpr hv,nH _ _,nH _ _⟩
 by_cases e:a=v
 ·rw [decide_eq_true (h.mpr e),decide_eq_false (fun z=>z e)]; rfl
 ·rw [decide_eq_false (fun z=>e (h.mp z)),decide_eq_true e]; rfl
def fPW (ds:List D) (P:D->Prop):Prop:=∃ (n:Int) (us:List Tie) (v:Nat),ds=[aR n us,.int ((v:Nat):Int)]/\1<=n/\n<=60/\us.length<=100/\OkN n us/\v<n.toNat/\P (.list ((pwI n.toNat us v).map iD))
section
variable {P:Program}{w:World}{K:W.Frag}{mg:Str->Option Value}{base:Heap}{f:Addr}{fd:FuncData}{CN:Addr}
theorem gD:FnScope ["web","v","left"] ["web","v"] (aq (top 24)):=zC
theorem kJ:(["tie","web","v","left"]:List Str).Nodup:=by decide +kernel
theorem kI:(["part","web","v","left"]:List Str).Nodup:=by decide +kernel
theorem oE (F:Fun K "parts_without" "parts_without" (top 24) f fd) (B:Dl.Bn mg) (C_check_place:Dl.Cal P w K mg base 4 "check_place" ["web","thing"] (spD T6)) (C_parts:Dl.Cal P w K mg base 3 "parts" ["web"] (spD Jw)):FnOk P w K mg base CX0 5 f fd ["web","v"] (spD fPW):=by
 refine F.ok gD bA (fun cdv A outer s H vs Q E hr h=>?_)
 have nd:=gD.nd
 refine⟨_,Wr.WDSs.h (Wr.aA (Wr.qe (Wr.dc C_check_place hr (Wr.aj (Wr.dv 0) (Wr.aj (Wr.dv 1) Wr.ak))))
  (Wr.aA (Wr.bD none (i:=2) nd rfl zQ (Wr.aC (Wr.aj (Wr.aX (Wr.dv 0) Wr.ao) (Wr.aj (Wr.lN B.tuple (Wr.aj (Wr.iZ ["tie"] rfl (Wr.cD (Wr.aX (Wr.dv 0) Wr.ao)) (fun c=>(Wr.aH (i:=0) kJ rfl zQ)) (fun c=>(Wr.dN (Wr.dX hr.units (Wr.dv 2) (Wr.dv 0)))) (fun c=>(Wr.dv 0))) Wr.ak)) Wr.ak))))
  (Wr.aF (Wr.aL (Wr.iZ ["part"] rfl (Wr.cD (Wr.dc C_parts hr (Wr.aj (Wr.dv 2) Wr.ak))) (fun c=>(Wr.aH (i:=0) kI rfl zQ)) (fun c=>(Wr.dN (Wr.dX hr.units (Wr.dv 2) (Wr.dv 0)))) (fun c=>(Wr.dv 0))))))),cj h ?_⟩
 rintro ds P ⟨n,us,v,rfl,n1,n60,lu,ok,hv,q⟩
 refine⟨[.im (aR n us),.im (.int ((v:Nat):Int)),.any],?_,?_⟩
 ·show [aZ (aR n us),.im (.int ((v:Nat):Int)),.any]=_
  rw [bV]
 refine⟨n,us,_,rfl,by omega,by omega,?_⟩
 refine⟨.int n,rfl,.tuple (us.map pD),rfl,pA us pD (fun t=>!decide (((v:Nat):Int)=t.1\/((v:Nat):Int)=t.2)) pD .imm rfl (by omega) (fun t ht A B hA hB=>?_) ?_⟩
 ·refine⟨rfl,rfl,?_⟩
  show if (!([PyData.int t.1,.int t.2].any fun e=>PyData.eqv e (.int ((v:Nat):Int))))=true then _ else _
  rw [Kg]
  cases h1:decide (((v:Nat):Int)=t.1\/((v:Nat):Int)=t.2) with
  | true=>exact bR (A:=True) (hB (by rw [h1]; rfl))
  | false=>exact bQ (B:=True) ⟨rfl,hA (by rw [h1]; rfl)⟩
 refine⟨zK,Nb (s:=.im (aR n (noV us ((v:Nat):Int)))) (by
  show stK none _ 2 (norm _ (aR n (noV us ((v:Nat):Int)))) (aR n (noV us ((v:Nat):Int)))=some (.im (aR n (noV us ((v:Nat):Int))))
  rw [fX (p8 n _)]; rfl) ?_⟩
 have cl:=Dy (RV us v) n.toNat n.toNat
 refine⟨n,noV us ((v:Nat):Int),rfl,by omega,n60,by have:=LQ us ((v:Nat):Int); omega,QD ok _,pA (sH (RV us v) n.toNat n.toNat) iD (fun l=>!decide (((v:Nat):Int)∈l)) iD .snw rfl (by omega) (fun l hl A B hA hB=>?_) ?_⟩
 ·refine⟨rfl,d9 l,?_⟩
  show if (!((l.map PyData.int).any fun e=>PyData.eqv e (.int ((v:Nat):Int))))=true then _ else _
  rw [Dl.any_ints]
  cases h1:decide (((v:Nat):Int)∈l) with
  | true=>exact bR (A:=True) (hB (by rw [h1]; rfl))
  | false=>exact bQ (B:=True) ⟨rfl,hA (by rw [h1]; rfl)⟩
 ·rw [Sx hv]
  exact⟨rfl,q⟩
end
def mW (ds:List D) (P:D->Prop):Prop:=∃ m:Int,ds=[.int m]/\0<m/\m<1073741824/\∀ r:Int,0<=r->r<m->P (.int r)
theorem uc {x m:Int} (hm:0<m) (hb:m<=2 ^ 32):-(2 ^ 64)<x % m/\x % m<2 ^ 64:=by
 have h1:=Int.emod_nonneg x (b:=m) (by omega)
 have h2:=Int.emod_lt_of_pos x hm
 omega
theorem PSs.wk {X:Cx}{ss:List Stmt}{t t':TS} (h:PSs X ss t) (w:∀ D σ H,t' D σ H->t D σ H):PSs X ss t':=fun pins s σ H D I q=>h pins s σ H D I (w D σ H q)
def tDr (p:Addr):TS:=fun D σ H=>∃ (a2 a3:Option V) (m a b c:Int),σ=[some (.ref p),some (.int m),a2,a3]/\0<m/\H p=some (.lst [.int a,.int b,.int c])/\0<=c/\c<=1152921504606846976/\∀ r':Int,0<=r'->r'<m->D.rt (.int r') H
theorem M9 {i:Int}{ns:List Int} (h:(0:Int)<((ns.map V.int).length:Nat)):∃ v:Int,atI (ns.map V.int) (i % (((ns.map V.int).length:Nat):Int))=some (.int v):=by
 rw [List.length_map] at h ⊢
 have h1:=Int.emod_nonneg i (b:=(ns.length:Int)) (by omega)
 have h2:=Int.emod_lt_of_pos i h
 have hk:(i % (ns.length:Int)).toNat<ns.length:=by omega
 have ek:i % (ns.length:Int)=(((i % (ns.length:Int)).toNat:Nat):Int):=by omega
 have q:atI (ns.map V.int) (((i % (ns.length:Int)).toNat:Nat):Int)=some (.int ns[(i % (ns.length:Int)).toNat]):=iQ (by rw [List.getElem?_map,List.getElem?_eq_getElem hk]; rfl)
 rw [← ek] at q
 exact⟨_,q⟩
theorem Ul {k:Int}{ns:List Int} (h0:0<=k) (h:k<((ns.map V.int).length:Nat)):∃ v:Int,atI (ns.map V.int) k=some (.int v):=by
 rw [List.length_map] at h
 have hk:k.toNat<ns.length:=by omega
 have ek:k=((k.toNat:Nat):Int):=by omega
 have q:atI (ns.map V.int) ((k.toNat:Nat):Int)=some (.int ns[k.toNat]):=iQ (by rw [List.getElem?_map,List.getElem?_eq_getElem hk]; rfl)
 rw [← ek] at q
 exact⟨_,q⟩
def RG:TS:=fun D σ H=>∃ (a0:Option V) (k cell:Int),σ=[a0,some (.int k),some (.int cell)]/\∀ l a b,H l=none->D.rt (.ref l) (upd H l (.lst [.int a,.int b,.int 0]))
def Sy (ds:List D):Prop:=∃ k:Int,ds=[.int k]/\0<=k/\k<1000
structure IsOrd (n:Int) (l:List Int):Prop where
 len:(l.length:Int)=n
 rng:∀ x∈l,0<=x/\x<n
 nd:l.Nodup
def Jx (ds:List D) (P:D->Prop):Prop:=∃ n:Int,ds=[.int n]/\1<=n/\n<=16/\∀ l,IsOrd n l->P (.list (l.map PyData.int))
theorem jh {H:Hp}{a:Addr} (h:H a=none) (o:HO):Same H (upd H a o):=fun b u q=>by rw [au (aD q h)]; exact q
theorem GJ (n:Int):pF 0 n=((List.range n.toNat).map fun i=>((i:Nat):Int)).map V.int:=by
 unfold pF
 rw [List.map_map,Int.sub_zero]
 exact List.map_congr_left fun i _=>by simp
theorem R7 {r:Int}{k:Nat} (h0:0<=r) (h1:r<k):seqIndex? r k=some r.toNat:=(vN (n:=k) (i:=r) (j:=r.toNat) (by unfold ixN; rw [if_pos h0,if_pos h1])).1
theorem mq {α β:Type} (g:α->β):∀ (l:List α) (i:Nat),(l.map g).eraseIdx i=(l.eraseIdx i).map g
 | [],_=>by simp
 | _::_,0=>by simp
 | x::l,i+1=>by simp [mq g l i]
theorem wY {α:Type}:∀ (l:List α) (i:Nat) (x:α),l[i]?=some x->(x::l.eraseIdx i).Perm l
 | y::l,0,x,h=>by
  cases h
  exact .refl _
 | y::l,i+1,x,h=>by
  rw [List.eraseIdx_cons_succ]
  exact (List.Perm.swap _ _ _).trans ((wY l i x h).cons y)
section
variable {P:Program}{w:World}{K:W.Frag}{mg:Str->Option Value}{base:Heap}{f:Addr}{fd:FuncData}
theorem Cd:FnScope ["_law_pen_here","_law_many_here","_law_found","_law_number"] ["_law_pen_here","_law_many_here"] (aq (top 43)):=zC
theorem Ly (F:Fun K "_law_draw" "_law_draw" (top 43) f fd) (B:Dl.Bn mg):FnOk P w K mg base CX0 1 f fd ["_law_pen_here","_law_many_here"] (je 1 mW):=by
 refine F.ok Cd jr (fun cdv A outer s H vs Q E hr h=>?_)
 obtain⟨p,n,vs',ds,P,rfl,⟨a,b,c,hp,c0,c1⟩,rp,⟨m,rfl,m0,m30,hP⟩,q⟩:=h
 obtain rfl:vs'=[.int m]:=by
  cases rp with
  | cons h1 t=>cases h1; cases t; rfl
 have nd:=Cd.nd
 have c1:c+1+(n:Int)<=1152921504606846976:=by omega
 refine⟨_,bH (tU (jF CJ (eZ cN (pv 0) aU (fun _ _=>rfl)) aU (dg _))
   (bH (cX (i:=2) nd rfl (Or.inl rfl) (bF gA (eZ cN (pv 0) aU (fun _ _=>rfl)) (pv 1)))
   (bH (zG (bF vg (eZ cN (pv 0) aU (fun _ _=>rfl)) (pv 1)) (Ho (pv 0) aU set_list))
   (cU (gW (pv 2))))) pR)
  (bH (zG (bF fW (eZ cN (pv 0) aU (fun _ _=>rfl)) aU) (Ho (pv 0) aU set_list))
  (PSs.wk (t':=tDr p) (bH (cX (i:=3) nd rfl (Or.inl rfl) (bF gA (bF fW (bF fW (bF eU (eZ cN (pv 0) aU (fun _ _=>rfl)) aU) (bF eU (bF eU aU (eZ cN (pv 0) aU (fun _ _=>rfl))) (eZ cN (pv 0) aU (fun _ _=>rfl)))) aU) aU))
  (bH (cX (i:=3) nd rfl (Or.inl rfl) (bF gA (bF eU (pv 3) (bF fW (bF gA (pv 3) aU) (eZ cN (pv 0) aU (fun _ _=>rfl)))) aU))
  (cU (gW (bF gA (bF vg (bF gA (bF fW (bF eU (pv 3) (pv 3)) (bF eU aU (eZ cN (pv 0) aU (fun _ _=>rfl)))) aU) aU) (pv 1)))))) ?dr)),?_⟩
 case dr =>
  rintro D σ H' ⟨a2,a3,m,a,b,c,rfl,m0,hp,c0,c1,hq⟩
  have md:∀ x:Int,0<=x % m/\x % m<m:=fun x=>⟨Int.emod_nonneg _ (by omega),Int.emod_lt_of_pos _ m0⟩
  have cs:-(2 ^ 64)<c/\c<2 ^ 64:=⟨by omega,by omega⟩
  refine⟨_,rfl,p,_,_,_,rfl,rfl,SqL.of hp,rfl,_,_,rfl,rfl,.inr ⟨by decide,by decide⟩,_,rfl,p,_,_,_,rfl,rfl,SqL.of hp,rfl,_,_,rfl,rfl,.inl ⟨by decide,by decide⟩,_,rfl,p,_,_,_,rfl,rfl,SqL.of hp,rfl,_,_,rfl,rfl,.inr cs,_,_,rfl,rfl,_,_,rfl,rfl,_,_,rfl,rfl,(by show (0:Int)<2147483647; decide),?_⟩
  refine⟨_,rfl,_,rfl,_,_,rfl,rfl,(by show (0:Int)<65521; decide),_,rfl,p,_,_,_,rfl,rfl,SqL.of hp,rfl,_,_,rfl,rfl,_,_,rfl,rfl,.inl (uc (by decide) (by decide)),_,_,rfl,rfl,(by show (0:Int)<2147483629; decide),?_⟩
  refine⟨_,rfl,_,rfl,_,_,rfl,rfl,.inl (uc (by decide) (by decide)),_,rfl,p,_,_,_,rfl,rfl,SqL.of hp,rfl,_,_,rfl,rfl,.inl ⟨by decide,by decide⟩,_,_,rfl,rfl,_,_,rfl,rfl,(by show (0:Int)<2147483587; decide),_,_,rfl,rfl,⟨by decide,by decide⟩,_,rfl,_,_,rfl,rfl,m0,hq _ (md _).1 (md _).2⟩
 have md:∀ x:Int,0<=x % m/\x % m<m:=fun x=>⟨Int.emod_nonneg _ (by omega),Int.emod_lt_of_pos _ m0⟩
 have fin:∀ (H':Hp) (r x:Int) (c':Int),0<=r->r<m->(∀ b o,H b=some o->b≠p->H' b=some o)->H' p=some (.lst [.int x,.int b,.int c'])->0<=c'->c'+(n:Int)<=1152921504606846976->Q (.int r) H':=fun H' r x c' h1 h2 k e e0 e1 =>
  q _ _ _ (hP r h1 h2) (fun b o e n=>k b o e fun z=>n z) ⟨x,b,c',e,e0,e1⟩ (.int r)
 have kU:∀ (H1:Hp) (o:HO),(∀ b o,H b=some o->b≠p->H1 b=some o)->∀ b u,H b=some u->b≠p->upd H1 p o b=some u:=fun H1 o k b u e n=>by rw [au n]; exact k b u e n
 refine⟨_,rfl,p,_,_,_,rfl,rfl,SqL.of hp,rfl,_,_,rfl,rfl,_,rfl,dM (fun z=>?_) (fun z=>?_)⟩
 ·exact⟨_,rfl,p,_,_,_,rfl,rfl,SqL.of hp,rfl,_,rfl,_,_,rfl,rfl,m0,_,rfl,p,_,_,_,rfl,rfl,SqL.of hp,rfl,_,rfl,_,_,rfl,rfl,⟨m0,m30⟩,_,rfl,p,_,_,_,rfl,rfl,hp,rfl,_,rfl,fin _ _ _ c (md _).1 (md _).2 (kU _ _ fun b o e _=>e) aB c0 (by omega)⟩
 ·refine⟨_,rfl,p,_,_,_,rfl,rfl,SqL.of hp,rfl,_,_,rfl,rfl,_,rfl,p,_,_,_,rfl,rfl,hp,rfl,?_⟩
  exact⟨_,_,m,a,b,c+1,rfl,m0,aB,by omega,by omega,fun r' h1 h2=>fin _ _ _ (c+1) h1 h2 (kU _ _ fun b o e _=>e) aB (by omega) c1⟩
theorem R9:FnScope ["_law_script","_law_k","_law_cell"] ["_law_script","_law_k"] (aq (top 42)):=zC
theorem Qw (F:Fun K "_law_pen" "_law_pen" (top 42) f fd) (B:Dl.Bn mg):FnOk P w K mg base CX0 1 f fd ["_law_script","_law_k"] (Wb.KJ K Sy):=by
 refine F.ok R9 (fun vs H Q E h=>?_) (fun cdv A outer s H vs Q E hr h=>?_)
 ·obtain⟨sc,ns,vs',ds,rfl,_,rs,⟨k,rfl,_⟩,_⟩:=h
  rw [List.length_cons,rs.length]
  rfl
 obtain⟨sc,ns,vs',ds,rfl,hS,rs,⟨k,rfl,k0,k9⟩,q⟩:=h
 have e:vs'=[.int k]:=Rps.ints (ns:=[k]) rs
 subst e
 have nd:=R9.nd
 refine⟨_,bH (cX (i:=2) nd rfl (Or.inl rfl) (bF fW (bF fW (bF eU (bF eU aU (pv 1)) (pv 1)) (bF eU aU (pv 1))) aU))
  (bH (tU (jF xg (pv 1) (eG dR rfl B.len PySem.boot_len (aP (pv 0) cC)) (dg _))
   (cU (cX (i:=2) nd rfl (Or.inl rfl) (eZ cN (pv 0) (pv 1) (fun _ _=>rfl))))
   (cU (tU (jF CJ (eG dR rfl B.len PySem.boot_len (aP (pv 0) cC)) aU (dg _))
    (cU (cX (i:=2) nd rfl (Or.inl rfl) (bF fW (bF eU (bF gA (eZ cN (pv 0) (bF gA (pv 1) (eG dR rfl B.len PySem.boot_len (aP (pv 0) cC))) (fun _ _=>rfl)) aU) aU) (bF eU aU (pv 1))))) pR)))
  (PSs.wk (t':=RG) (bH (tU (jF S9 (pv 2) (bF Qv aU aU) (dg _))
   (cU (gW (n6 (aP (pv 2) (aP aU (aP aU cC)))))) pR)
  (cU (gW (n6 (aP aU (aP (bF fW (bF gA (pv 2) aU) (bF eU aU (pv 1))) (aP aU cC))))))) ?pen)),?_⟩
 case pen =>
  rintro D σ H' ⟨a0,k,cell,rfl,hq⟩
  refine⟨_,rfl,_,_,rfl,rfl,⟨by decide,by decide,by decide⟩,_,_,rfl,rfl,_,rfl,dM (fun c1=>?_) (fun c1=>?_)⟩
  ·exact⟨_,rfl,by show 3<=sizeLine; decide,fun l hl=>hq l _ _ hl⟩
  ·exact⟨_,rfl,_,_,rfl,rfl,(by show (0:Int)<2147483587; decide),_,rfl,_,_,rfl,rfl,.inl ⟨by decide,by decide⟩,_,_,rfl,rfl,by show 3<=sizeLine; decide,fun l hl=>hq l _ _ hl⟩
 have fin:∀ cell:Int,RG { nx:=fun _ H'=>Q .non H',rt:=Q } [some (.ref sc),some (.int k),some (.int cell)] H:=fun cell=>⟨_,k,cell,rfl,fun l a b hl=>q l _ ⟨a,b,0,aB,by decide,by decide⟩ (jh hl _) hl⟩
 refine⟨_,rfl,_,_,rfl,rfl,.inl ⟨by decide,by decide⟩,_,rfl,_,_,rfl,rfl,.inr ⟨by omega,by omega⟩,_,rfl,_,_,rfl,rfl,.inl ⟨by decide,by decide⟩,_,_,rfl,rfl,_,_,rfl,rfl,?_⟩
 refine⟨_,rfl,_,rfl,sc,_,rfl,.inl hS,_,_,rfl,rfl,_,rfl,dM (fun c1=>?_) (fun c1=>?_)⟩
 ·obtain⟨v,hv⟩:=Ul k0 (of_decide_eq_true c1)
  exact⟨_,rfl,_,rfl,sc,_,_,_,rfl,rfl,hS,hv,fin v⟩
 ·refine⟨_,rfl,sc,_,rfl,.inl hS,_,_,rfl,rfl,_,rfl,dM (fun c2=>?_) (fun c2=>fin _)⟩
  have c2:=of_decide_eq_true c2
  obtain⟨v,hv⟩:=M9 (i:=k) c2
  exact⟨_,rfl,_,rfl,_,rfl,sc,_,rfl,.inl hS,_,_,rfl,rfl,c2,sc,_,_,_,rfl,rfl,hS,hv,_,_,rfl,rfl,(by show (0:Int)<2147483629; decide),_,_,rfl,rfl,.inr ⟨by decide,by decide⟩,_,rfl,_,_,rfl,rfl,.inl ⟨by decide,by decide⟩,_,_,rfl,rfl,fin _⟩
theorem wR:FnScope ["_law_pen_here","_law_n","_law_left"] ["_law_pen_here","_law_n"] (aq (top 45)):=zC
theorem Im:(["_law_k","_law_pen_here","_law_n","_law_left"]:List Str).Nodup:=by decide +kernel
theorem H9 (F:Fun K "_law_turned" "_law_turned" (top 45) f fd) (B:Dl.Bn mg) (T:Dl.Cal P w K mg base 1 "_law_draw" ["_law_pen_here","_law_many_here"] (je 1 mW)):FnOk P w K mg base CX0 2 f fd ["_law_pen_here","_law_n"] (je 16 Jx):=by
 refine F.ok wR jr (fun cdv A outer s H vs Q E hr h=>?_)
 obtain⟨pa,n0,vs',ds,P,rfl,pi0,rp,⟨n,rfl,n1,n16,hP⟩,q0⟩:=h
 have pi:(aG pa n0).PI H:=aK pi0 (by omega)
 obtain rfl:vs'=[.int n]:=by
  cases rp with
  | cons h1 t=>cases h1; cases t; rfl
 have nd:=wR.nd
 refine⟨_,bH (cX (i:=2) nd rfl (Or.inr rfl) (fJ (j6 rfl) rfl B.list boot_list (aP (fJ uG rfl B.range boot_range (aP (pv 1) cC)) cC)))
  (cU (gW (Ht ["_law_k"] rfl (nZ rfl B.range (aP (pv 1) cC)) (fun c=>gY (i:=0) Im rfl (Or.inl rfl)) (fun c=>Cr)
   (fun c=>lK PySem.F.plainAttrs_list PySem.F.slot_list_pop PySem.F.type_list_pop Iw (pv 3) (aP (pcS T hr (aP (pv 1) (aP (eG dR rfl B.len PySem.boot_len (aP (pv 3) cC)) cC)) (by decide) rfl (by decide) rfl rfl) cC))))),?_⟩
 refine⟨_,rfl,n,rfl,fun r hr1=>?_⟩
 refine⟨r,0,n,rfl,aB,⟨by omega,by omega,by omega,by omega⟩,fun L hL=>?_⟩
 have a1:=jh hr1 (.rng 0 n)
 have a2:=jh hL (.lst (pF 0 n))
 have a12:Same H (upd (upd H r (.rng 0 n)) L (.lst (pF 0 n))):=fun b o e=>a2 b o (a1 b o e)
 have hHL:H L=none:=by
  cases e:H L with
  | none=>rfl
  | some o=>rw [a1 _ _ e] at hL; cases hL
 have nfp:∀ a,H a=none->¬ (aG pa n0).fp a:=fun a ha z=>by
  obtain⟨o,e,_⟩:=(aG pa n0).is H a pi z
  rw [ha] at e; cases e
 have hLp:=nfp L hHL
 refine⟨_,rfl,n,rfl,by omega,by omega,QK (lo:=0) (k:=n.toNat) (by omega) (fun i ys H'=>∃ out rem:List Int,ys=out.map V.int/\H' L=some (.lst (rem.map V.int))/\(out++rem).Perm ((List.range n.toNat).map fun i=>((i:Nat):Int))/\out.length=i/\Dl.Kp (aG pa n0) H H'/\(aG pa (n0+(n.toNat - i))).PI H')
  ⟨[],_,rfl,by rw [aB,GJ],List.Perm.refl _,rfl,fun b o e _=>a12 b o e,(aG pa (n0+(n.toNat - 0))).mono H _ (aK pi0 (by omega)) fun b o _ e=>a12 b o e⟩ ?_ ?_ ?_⟩
 ·rintro i ys H' ⟨out,rem,rfl,_,_,e,_⟩
  rw [List.length_map,e]
  exact Nat.le_refl _
 ·rintro c i ys H' hi ⟨out,rem,rfl,hL',hperm,ho,k,pi'⟩
  have hlen:out.length+rem.length=n.toNat:=by have:=hperm.length_eq; simpa using this
  have hm:((rem.map V.int).length:Int)=rem.length:=by rw [List.length_map]
  refine bQ (B:=True) ⟨_,rfl,.inl ⟨rfl,_,SqL.of hL'⟩,_,rfl,_,rfl,L,_,rfl,.inl (SqL.of hL'),pa,n0+(n.toNat - (i+1)),_,[.int ((rem.map V.int).length:Nat)],(fun d=>∃ y:Int,0<=y/\y<((rem.map V.int).length:Nat)/\d=.int y),rfl,aK pi' (by omega),.cons (.int _) .nil,⟨_,rfl,by rw [hm]; omega,by rw [hm]; omega,fun x x0 x1=>⟨x,x0,x1,rfl⟩⟩,?_⟩
  rintro d v H2 ⟨x,x0,x1,rfl⟩ k2 pi2 rv
  have ev:=Rp.int' rv
  subst ev
  rw [hm] at x1
  have hL2:H2 L=some (.lst (rem.map V.int)):=k2 _ _ hL' hLp
  have hx:x.toNat<rem.length:=by omega
  refine⟨L,_,x,x.toNat,.int rem[x.toNat],rfl,rfl,hL2,by omega,by omega,by rw [List.length_map]; exact R7 x0 x1,by rw [List.getElem?_map,List.getElem?_eq_getElem hx]; rfl,?_⟩
  refine⟨out++[rem[x.toNat]],rem.eraseIdx x.toNat,by rw [List.map_append]; rfl,by rw [aB,mq],?_,by rw [List.length_append,ho]; rfl,fun b o e nb=>?_,(aG pa (n0+(n.toNat - (i+1)))).mono H2 _ pi2 fun b o z e=>?_⟩
  ·rw [List.append_assoc]
   exact ((wY rem x.toNat _ (List.getElem?_eq_getElem hx)).append_left out).trans hperm
  ·rw [au (fun z=>by rw [z,hHL] at e; cases e)]
   exact k2 b o (k b o e nb) nb
  ·rw [au (show b≠L from fun y=>hLp (y ▸ z))]
   exact e
 ·rintro ys H' ⟨out,rem,rfl,hL',hperm,ho,k,pi'⟩ a ha
  have hlen:out.length+rem.length=n.toNat:=by have:=hperm.length_eq; simpa using this
  have hrem:rem=[]:=List.eq_nil_of_length_eq_zero (by omega)
  subst hrem
  rw [List.append_nil] at hperm
  have nfa:¬ (aG pa n0).fp a:=fun z=>by
   obtain⟨o,e,_⟩:=(aG pa n0).is H' a (aK pi' (by omega)) z
   rw [ha] at e; cases e
  have hHa:H a=none:=by
   cases e:H a with
   | none=>rfl
   | some o=>rw [k a o e nfa] at ha; cases ha
  have sm:=jh ha (.lst (out.map V.int))
  refine q0 _ _ _ (hP out ⟨by omega,fun x hx=>?_,?_⟩) (fun b o e nb=>sm b o (k b o e nb)) ((aG pa n0).mono H' _ (aK pi' (by omega)) fun b o _ e=>sm b o e) (.lst hHa aB (Rps.ofMap (fun i=>.int i) out))
  ·have:=hperm.mem_iff.mp hx
   obtain⟨i,hi,rfl⟩:=List.mem_map.mp this
   have:=List.mem_range.mp hi
   omega
  ·refine hperm.nodup_iff.mpr ?_
   exact (List.nodup_range (n:=n.toNat)).map (fun i=>((i:Nat):Int)) fun i j hij h=>hij (by omega)
end
def OkB (n:Int) (us:List Tie):Prop:=∀ t∈us,0<=t.1/\t.1<t.2/\t.2<n
theorem OkB.app {n:Int}{us vs:List Tie} (a:OkB n us) (b:OkB n vs):OkB n (us++vs):=fun t ht=>(List.mem_append.mp ht).elim (a t) (b t)
theorem OkB.one {n:Int}{t:Tie} (h:0<=t.1/\t.1<t.2/\t.2<n):OkB n [t]:=fun u hu=>by
 rw [List.mem_singleton.mp hu]
 exact h
def Jv (ds:List D) (P:D->Prop):Prop:=∃ n pick:Int,ds=[.int n,.int pick]/\1<=n/\n<=8/\∀ us:List Tie,us.length<=49->OkB n us->P (.list (us.map pD))
theorem Gu {i:Nat} (h:i<=7):i * (i+1)<=56:=Nat.le_trans (Nat.mul_le_mul h (Nat.add_le_add_right h 1)) (by decide)
theorem Rv (i:Nat):(i+1) * (i+1+1)=i * (i+1)+2 * (i+1):=by
 have:=Nat.mul_add (i+1) i 2
 rw [Nat.mul_comm i (i+1),Nat.mul_comm 2 (i+1)]
 exact this
def RP (n pick ring:Int) (us:List Tie) (s5 s6:Sl):List Sl:=[.pen TP,.im (.int n),.im (.int pick),.dw 0 (.list (us.map pD)),.im (.int ring),s5,s6]
def Tot (t:DT) (ρ:List Sl):Prop:=∀ R:Bool->Prop,(∀ b,R b)->t ρ R
theorem Tot.and {t u:DT}{ρ:List Sl} (a:Tot t ρ) (b:Tot u ρ):Tot (J2 t u) ρ:=fun R h=>a _ fun c=>by
 cases c with
 | true=>exact bQ (b R h)
 | false=>exact bR (h false)
theorem Tot.or {t u:DT}{ρ:List Sl} (a:Tot t ρ) (b:Tot u ρ):Tot (dOr t u) ρ:=fun R h=>a _ fun c=>by
 cases c with
 | true=>exact bQ (h true)
 | false=>exact bR (b R h)
theorem Aq {tc:DT}{te:DE}{E:DEnds}{n pick ring v x:Int}{vs:List Tie}{t:Tie} (htc:Tot tc (RP n pick ring vs (.im (.int v)) (.im (.int x)))) (hte:∀ R:DK,R .imm (pD t)->te (RP n pick ring vs (.im (.int v)) (.im (.int x))) R) (hl:vs.length<1000)
  (h0:E.nx (RP n pick ring vs (.im (.int v)) (.im (.int x)))) (h1:E.nx (RP n pick ring (vs++[t]) (.im (.int v)) (.im (.int x)))):dIf tc (Bl 3 te) Dw E (RP n pick ring vs (.im (.int v)) (.im (.int x))):=htc _ fun b=>by
 cases b with
 | true =>
  refine bQ (hte _ ⟨rfl,by rw [List.length_map]; exact hl,?_⟩)
  show E.nx [.pen TP,.im (.int n),.im (.int pick),.dw 0 (.list (vs.map pD++[pD t])),.im (.int ring),.im (.int v),.im (.int x)]
  unfold RP at h1
  rw [List.map_append] at h1
  exact h1
 | false=>exact bR h0
def OkV (n:Int) (us:List Tie):Prop:=∀ t∈us,0<=t.1/\t.1<n/\0<=t.2/\t.2<n
theorem OkV.app {n:Int}{us vs:List Tie} (a:OkV n us) (b:OkV n vs):OkV n (us++vs):=fun t ht=>(List.mem_append.mp ht).elim (a t) (b t)
theorem OkV.one {n:Int}{t:Tie} (h:0<=t.1/\t.1<n/\0<=t.2/\t.2<n):OkV n [t]:=fun u hu=>by
 rw [List.mem_singleton.mp hu]
 exact h
def RW (m n:Int) (us:List Tie) (s4:Sl):List Sl:=[.pen TP,.im (.int m),.im (.int n),.dw 0 (.list (us.map pD)),s4,.any,.any]
def TX (ds:List D) (P:D->Prop):Prop:=∃ m:Int,ds=[.int m]/\1<=m/\m<=8/\∀ n us,1<=n->n<=m->us.length<=52->OkB n us->us.Pairwise (fun a b=>bW a<=bW b)->P (aR n us)
theorem Nq {j:Int} (j0:0<=j) (j1:j<4):∃ c:Int,atI [PyData.int 0,.int 0,.int 1,.int 2] j=some (.int c)/\0<=c/\c<=2:=by
 have:j=0\/j=1\/j=2\/j=3:=by omega
 rcases this with rfl | rfl | rfl | rfl
 ·exact⟨0,rfl,by decide,by decide⟩
 ·exact⟨0,rfl,by decide,by decide⟩
 ·exact⟨1,rfl,by decide,by decide⟩
 ·exact⟨2,rfl,by decide,by decide⟩
theorem dF {P:DEnds}{ρ:List Sl}{i:Nat}{k:Kd}{L:List D} (hk:k=.new\/k=.snw) (h:P.nx (ρ.set i (.sn (.list L)))):(match stK none ρ i (norm k (.list L)) (.list L) with
 | some s=>P.nx (ρ.set i s)
 | none=>False):=by
 rcases hk with rfl | rfl <;> exact h
theorem JG {P:DEnds}{ρ:List Sl}{rg:Option Nat}{i:Nat}{k:Kd}{d:D}{s:Sl} (e:stK rg ρ i (norm k d) d=some s) (h:P.nx (ρ.set i s)):(match stK rg ρ i (norm k d) d with
 | some s=>P.nx (ρ.set i s)
 | none=>False):=by
 rw [e]
 exact h
theorem tW (ts:List Tie):okD (.list (ts.map pD))=true:=by
 have h1:=Je ts
 have h2:PyData.depthAll (ts.map pD)+1<=60:=by have:=yK ts; omega
 show (PyData.canLayAll0 (ts.map pD)&&decide (PyData.depthAll (ts.map pD)+1<=60))=true
 rw [h1,decide_eq_true h2]
 rfl
theorem Kf {us:List Tie}{z:Int} (z0:0<=z) (z1:z<(us.map pD).length):∃ t∈us,atI (us.map pD) z=some (pD t):=by
 rw [List.length_map] at z1
 have hk:z.toNat<us.length:=by omega
 have ek:z=((z.toNat:Nat):Int):=by omega
 have q:atI (us.map pD) ((z.toNat:Nat):Int)=some (pD us[z.toNat]):=iQ (by rw [List.getElem?_map,List.getElem?_eq_getElem hk]; rfl)
 rw [← ek] at q
 exact⟨_,List.getElem_mem hk,q⟩
def gO (o:List Int) (x:Int):Int:=o.getD x.toNat 0
theorem IsOrd.at {n:Int}{l:List Int} (h:IsOrd n l) {a:Int} (h0:0<=a) (h1:a<n):atI (l.map PyData.int) a=some (.int (gO l a))/\0<=gO l a/\gO l a<n:=by
 have hl:=h.len
 have hk:a.toNat<l.length:=by omega
 have ek:a=((a.toNat:Nat):Int):=by omega
 have z:atI (l.map PyData.int) ((a.toNat:Nat):Int)=some (.int l[a.toNat]):=iQ (by rw [List.getElem?_map,List.getElem?_eq_getElem hk]; rfl)
 rw [← ek] at z
 have e:gO l a=l[a.toNat]:=by
  unfold gO
  rw [List.getD_eq_getElem?_getD,List.getElem?_eq_getElem hk]
  rfl
 rw [e]
 exact⟨z,h.rng _ (List.getElem_mem hk)⟩
theorem IsOrd.inj {n:Int}{l:List Int} (h:IsOrd n l) {a b:Int} (a0:0<=a) (a1:a<n) (b0:0<=b) (b1:b<n) (e:gO l a=gO l b):a=b:=by
 have hl:=h.len
 have ha:a.toNat<l.length:=by omega
 have hb:b.toNat<l.length:=by omega
 unfold gO at e
 rw [List.getD_eq_getElem?_getD,List.getElem?_eq_getElem ha,List.getD_eq_getElem?_getD,List.getElem?_eq_getElem hb] at e
 have e:l[a.toNat]=l[b.toNat]:=e
 have pw:=List.pairwise_iff_getElem.mp h.nd
 rcases Nat.lt_trichotomy a.toNat b.toNat with z | z | z
 ·exact absurd e (pw _ _ ha hb z)
 ·omega
 ·exact absurd e.symm (pw _ _ hb ha z)
def mm (t:Tie):Tie:=(if t.2<t.1 then t.2 else t.1,if t.2 > t.1 then t.2 else t.1)
def turnT (o:List Int) (us:List Tie):List Tie:=(us.filter fun t=>!decide (t.1=t.2)).map fun t=>(gO o t.1,gO o t.2)
theorem Kw {n:Int}{o:List Int}{us:List Tie} (ho:IsOrd n o) (ok:OkV n us):OkB n ((turnT o us).map mm):=fun t ht=>by
 obtain⟨u,hu,rfl⟩:=List.mem_map.mp ht
 obtain⟨v,hv,rfl⟩:=List.mem_map.mp hu
 obtain⟨hv,hne⟩:=List.mem_filter.mp hv
 obtain⟨a0,a1,b0,b1⟩:=ok v hv
 obtain⟨_,x0,x1⟩:=ho.at a0 a1
 obtain⟨_,y0,y1⟩:=ho.at b0 b1
 have ne:gO o v.1≠gO o v.2:=fun e=>by
  have:=ho.inj a0 a1 b0 b1 e
  rw [decide_eq_true this] at hne
  cases hne
 unfold mm
 show 0<=(if gO o v.2<gO o v.1 then gO o v.2 else gO o v.1)/\(if gO o v.2<gO o v.1 then gO o v.2 else gO o v.1)<(if gO o v.2 > gO o v.1 then gO o v.2 else gO o v.1)/\(if gO o v.2 > gO o v.1 then gO o v.2 else gO o v.1)<n
 by_cases h:gO o v.2<gO o v.1
 ·rw [if_pos h,if_neg (by omega)]
  exact⟨y0,h,x1⟩
 ·rw [if_neg h,if_pos (by omega)]
  exact⟨x0,by omega,y1⟩
section
variable {P:Program}{w:World}{K:W.Frag}{mg:Str->Option Value}{base:Heap}{f:Addr}{fd:FuncData}
theorem lD:FnScope ["_law_pen_here","_law_n","_law_pick","_law_ties","_law_ring","_law_v","_law_drawn"] ["_law_pen_here","_law_n","_law_pick"] (aq (top 44)):=zC
theorem rC:(["_law_a","_law_pen_here","_law_n","_law_pick","_law_ties","_law_ring","_law_v","_law_drawn"]:List Str).Nodup:=by decide +kernel
theorem vo (F:Fun K "_law_plain" "_law_plain" (top 44) f fd) (B:Dl.Bn mg) (C__law_draw:Dl.Cal P w K mg base 1 "_law_draw" ["_law_pen_here","_law_many_here"] (je 1 mW)):FnOk P w K mg base CX0 2 f fd ["_law_pen_here","_law_n","_law_pick"] (je 2000000 Jv):=by
 refine F.ok lD jr (fun cdv A outer s H vs Q E hr h=>?_)
 have nd:=lD.nd
 refine⟨_,Wb.BSs.h (Wb.cons (Wb.s0 (Wr.bD (some 0) (i:=3) nd rfl zQ (Wr.aM Wr.ak)))
  (Wb.cons (Wb.set none (i:=4) nd rfl zQ (Wb.plus (Wb.e0 Wr.ao) (Wb.dcP C__law_draw hr (Wr.wv 0) (Wb.a0 (Wr.aj Wr.ao Wr.ak)))))
  (Wb.j5 (Wb.for_ PassesOwn.never rfl (Wb.i0 (Wr.oU B.range (Wr.aj Wr.ao (Wr.aj (Wr.dv 1) Wr.ak)))) (Wr.aH (i:=5) nd rfl zQ) (Wb.cons (Wb.set none (i:=6) nd rfl zQ (Wb.dcP C__law_draw hr (Wr.wv 0) (Wb.a0 (Wr.aj (Wr.dv 5) Wr.ak))))
  (Wb.j5 (Wb.if_ (Wb.wt (Wb.or2 (Wb.t0 (Wr.cI hr.units (Wr.dv 2) Wr.ao)) (Wb.or2 (Wb.wt (Wb.Uc (Wb.t0 (Wr.cI hr.units (Wr.dv 2) Wr.ao)) (Wb.Ud (Wb.tgt (Wb.dcP C__law_draw hr (Wr.wv 0) (Wb.a0 (Wr.aj Wr.ao Wr.ak))) (Wb.e0 Wr.ao))))) (Wb.or1 (Wb.t0 (Wr.wpt (Wr.dH (Wr.cI hr.units (Wr.dv 2) Wr.ao) (Wr.cP (Wr.uZ (Wr.dv 5) (Wr.dv 4)))))))))) (Wb.ss0 (Wr.aF (Wr.dB (Wr.wv 3) (Wr.aj (Wr.aC (Wr.aj (Wr.dv 6) (Wr.aj (Wr.dv 5) Wr.ak))) Wr.ak)))) (Wb.ss0 Wr.aN))
  (Wb.j5 (Wb.s0 (Wr.cR (Wr.wpt (Wr.fU (Wr.g8 hr.units (Wr.dv 2) (Wr.aC (Wr.aj Wr.ao (Wr.aj Wr.ao Wr.ak)))) (Wr.fU (Wr.wpt (Wr.dH (Wr.cI hr.units (Wr.dv 2) Wr.ao) (Wr.cP (Wr.zM (Wr.dv 5) (Wr.dv 4))))) (Wr.fB (Wr.wpt (Wr.dH (Wr.cI hr.units (Wr.dv 2) Wr.ao) (Wr.cP (Wr.cI hr.units (Wr.u6 (Wr.dv 5) Wr.ao) Wr.ao)))))))) (Wr.aF (Wr.dB (Wr.wv 3) (Wr.aj (Wr.aC (Wr.aj (Wr.dI (Wr.dv 5) Wr.ao) (Wr.aj (Wr.dv 5) Wr.ak))) Wr.ak))) Wr.aN))
  (Wb.j5 (Wb.s0 (Wr.cR (Wr.wpt (Wr.fU (Wr.g8 hr.units (Wr.dv 2) (Wr.aC (Wr.aj Wr.ao (Wr.aj Wr.ao Wr.ak)))) (Wr.fU (Wr.wpt (Wr.dH (Wr.cI hr.units (Wr.dv 2) Wr.ao) (Wr.cP (Wr.cI hr.units (Wr.dv 5) (Wr.dv 4))))) (Wr.fB (Wr.wpt (Wr.dH (Wr.cI hr.units (Wr.dv 2) Wr.ao) (Wr.cP (Wr.cI hr.units (Wr.dv 5) (Wr.dI (Wr.dv 1) Wr.ao))))))))) (Wr.aF (Wr.dB (Wr.wv 3) (Wr.aj (Wr.aC (Wr.aj Wr.ao (Wr.aj (Wr.dv 5) Wr.ak))) Wr.ak))) Wr.aN))
  (Wb.cons (Wb.if_ (Wb.t0 (Wr.cI hr.units (Wr.dv 2) Wr.ao)) (Wb.one (Wb.extend (Wr.wv 3) (Wb.gB (Wb.lc ["_law_a"] rfl (Wb.i0 (Wr.bZ B.range (Wr.aj (Wr.dv 5) Wr.ak))) (fun c=>(Wr.aH (i:=0) rC rfl zQ)) (fun c=>(Wb.ts1 (Wb.tgt (Wb.dcP C__law_draw hr (Wr.wv 1) (Wb.a0 (Wr.aj Wr.ao Wr.ak))) (Wb.e0 Wr.ao)))) (fun c=>(Wb.e0 (Wr.aC (Wr.aj (Wr.dv 0) (Wr.aj (Wr.dv 6) Wr.ak)))))) (Wb.a0 Wr.ak)))) (Wb.ss0 Wr.aN)) (Wb.drops [5,6] (Wb.ss0 Wr.aN))))))))
  (Wb.drops [5,6] (Wb.ss0 (Wr.aF (Wr.aL (Wr.dv 3)))))))),Wb.Bf h rfl ?_⟩
 rintro ds P ⟨n,pick,rfl,n1,n8,q⟩
 refine⟨[.im (.int n),.im (.int pick),.any,.any,.any,.any],rfl,?_⟩
 refine⟨by decide,rfl,4,rfl,by decide,by decide,fun r r0 r1=>?_⟩
 refine⟨fun ρ=>∃ (us:List Tie) (s5 s6:Sl),us.length<=49/\OkB n us/\ρ=RP n pick (2+r) us s5 s6,?_,fun ρ ⟨us,s5,s6,hl,ok,e⟩=>?_⟩
 rotate_left
 ·subst e
  exact⟨rfl,q us hl ok⟩
 refine⟨⟨by decide,by decide,by omega,by omega⟩,by rw [bC]; omega,rfl,fun (i:Nat) ρ=>∃ us:List Tie,2 * us.length<=6 * i+i * (i+1)/\OkB n us/\ρ=RP n pick (2+r) us .any .any,⟨[],by decide,(fun t ht=>nomatch ht),rfl⟩,?_,?_⟩
 ·rintro i d ρ hd ⟨us,hl,ok,rfl⟩
  obtain⟨hi,rfl⟩:=dY hd
  refine⟨rfl,1+((i:Nat):Int),rfl,by omega,by omega,fun x x0 x1=>?_⟩
  let S:=fun (k:Nat) (ρ:List Sl)=>∃ vs:List Tie,vs.length<=us.length+k/\OkB n vs/\ρ=RP n pick (2+r) vs (.im (.int (1+((i:Nat):Int)))) (.im (.int x))
  have S0:S 0 (RP n pick (2+r) us (.im (.int (1+((i:Nat):Int)))) (.im (.int x))):=⟨us,Nat.le_refl _,ok,rfl⟩
  have eqT:∀ (c:Int) (vs:List Tie),Tot (dW (t2 (kO false) (tV 2) (tK (.int c)))) (RP n pick (2+r) vs (.im (.int (1+((i:Nat):Int)))) (.im (.int x))):=fun c vs R h=>h _
  have us49:us.length<=49:=by
   have:=Gu (i:=i) (by omega)
   omega
  refine⟨S 1,?_,fun ρ h1=>?_⟩
  ·refine Aq (t:=(x,1+((i:Nat):Int))) (vs:=us) ((eqT 0 us).or (((eqT 5 us).and fun R h=>⟨rfl,3,rfl,by decide,by decide,fun y _ _=>h _⟩).or ((eqT 3 us).and fun R h=>h _))) (fun R h=>⟨zK,h⟩) (by omega) ⟨us,by omega,ok,rfl⟩ ⟨us++[_],by rw [List.length_append]; simp,ok.app (OkB.one ⟨by omega,by omega,by omega⟩),rfl⟩
  obtain⟨v1,l1,ok1,rfl⟩:=h1
  refine⟨S 2,?_,fun ρ h1=>?_⟩
  ·refine Aq (t:=(1+((i:Nat):Int) - 1,1+((i:Nat):Int))) (vs:=v1) (Tot.or (fun R h=>⟨zK,rfl,rfl,h _⟩) (((eqT 3 v1).and fun R h=>h _).or ((eqT 4 v1).and fun R h=>⟨(show (0:Int)<2 by decide),h _⟩))) (fun R h=>⟨zK,h⟩) (by omega) ⟨v1,by omega,ok1,rfl⟩ ⟨v1++[_],by rw [List.length_append]; simp; omega,ok1.app (OkB.one ⟨by omega,by omega,by omega⟩),rfl⟩
  obtain⟨v2,l2,ok2,rfl⟩:=h1
  refine⟨S 3,?_,fun ρ h1=>?_⟩
  ·refine Aq (t:=(0,1+((i:Nat):Int))) (vs:=v2) (Tot.or (fun R h=>⟨zK,rfl,rfl,h _⟩) (((eqT 3 v2).and fun R h=>h _).or ((eqT 7 v2).and fun R h=>h _))) (fun R h=>⟨zK,h⟩) (by omega) ⟨v2,by omega,ok2,rfl⟩ ⟨v2++[_],by rw [List.length_append]; simp; omega,ok2.app (OkB.one ⟨by omega,by omega,by omega⟩),rfl⟩
  obtain⟨v3,l3,ok3,rfl⟩:=h1
  have ts:=Rv i
  show if decide (pick=6)=true then _ else _
  refine dM (fun c=>?_) (fun c=>⟨v3,by omega,ok3,rfl⟩)
  ·refine⟨⟨by omega,by omega⟩,by rw [bC]; omega,.imm,fun j ys=>∃ ws:List Tie,ys=ws.map pD/\ws.length<=j/\OkB n ws,⟨[],rfl,Nat.le_refl _,(fun t ht=>nomatch ht)⟩,?_,?_⟩
   ·rintro j d ys hd ⟨ws,rfl,hw,okw⟩
    obtain⟨hj,rfl⟩:=dY hd
    refine⟨rfl,3,rfl,by decide,by decide,fun y _ _=>dM (fun c=>⟨zK,rfl,ws++[(0+((j:Nat):Int),1+((i:Nat):Int))],?_,?_,okw.app (OkB.one ⟨?_,?_,?_⟩)⟩) (fun c=>⟨ws,rfl,by omega,okw⟩)⟩
    ·rw [List.map_append]
     rfl
    ·rw [List.length_append]
     simp
     omega
    ·show 0<=0+((j:Nat):Int)
     omega
    ·show 0+((j:Nat):Int)<1+((i:Nat):Int)
     omega
    ·show 1+((i:Nat):Int)<n
     omega
   ·rintro ys ⟨ws,rfl,hw,okw⟩
    rw [bC] at hw
    refine⟨rfl,by rw [List.length_map,List.length_map]; omega,v3++ws,by rw [List.length_append]; omega,ok3.app okw,?_⟩
    show [Sl.pen TP,.im (.int n),.im (.int pick),.dw 0 (.list (v3.map pD++ws.map pD)),.im (.int (2+r)),.any,.any]=_
    rw [← List.map_append]
    rfl
 ·rintro ρ ⟨us,hl,ok,rfl⟩
  rw [bC] at hl
  have:=Gu (i:=(n - 1).toNat) (by omega)
  exact⟨us,.any,.any,by omega,ok,rfl⟩
theorem qG:FnScope ["_law_pen_here","_law_most","_law_n","_law_ties","_law_k","_law_turned_here","_law_pairs"] ["_law_pen_here","_law_most"] (aq (top 46)):=zC
theorem lX:(["_law_a","_law_b","_law_pen_here","_law_most","_law_n","_law_ties","_law_k","_law_turned_here","_law_pairs"]:List Str).Nodup:=by decide +kernel
theorem vD:(["_law_pair","_law_pen_here","_law_most","_law_n","_law_ties","_law_k","_law_turned_here","_law_pairs"]:List Str).Nodup:=by decide +kernel
theorem zY (F:Fun K "_law_web" "_law_web" (top 46) f fd) (B:Dl.Bn mg) (C__law_draw:Dl.Cal P w K mg base 1 "_law_draw" ["_law_pen_here","_law_many_here"] (je 1 mW)) (C__law_plain:Dl.Cal P w K mg base 2 "_law_plain" ["_law_pen_here","_law_n","_law_pick"] (je 2000000 Jv)) (C__law_turned:Dl.Cal P w K mg base 2 "_law_turned" ["_law_pen_here","_law_n"] (je 16 Jx)):FnOk P w K mg base CX0 3 f fd ["_law_pen_here","_law_most"] (je 4000000 TX):=by
 refine F.ok qG jr (fun cdv A outer s H vs Q E hr h=>?_)
 have nd:=qG.nd
 refine⟨_,Wb.BSs.h (Wb.cons (Wb.set none (i:=2) nd rfl zQ (Wb.plus (Wb.e0 Wr.ao) (Wb.dcP C__law_draw hr (Wr.wv 0) (Wb.a0 (Wr.aj (Wr.dv 1) Wr.ak)))))
  (Wb.cons (Wb.set (some 0) (i:=3) nd rfl zQ (Wb.dcP C__law_plain hr (Wr.wv 0) (Wb.gB (Wb.e0 (Wr.dv 2)) (Wb.gB (Wb.dcP C__law_draw hr (Wr.wv 0) (Wb.a0 (Wr.aj Wr.ao Wr.ak))) (Wb.a0 Wr.ak)))))
  (Wb.j5 (Wb.for_ PassesOwn.never rfl (Wb.PL B.range (Wb.gB (Wb.ix (Wb.e0 (Wr.aM (Wr.aj Wr.ao (Wr.aj Wr.ao (Wr.aj Wr.ao (Wr.aj Wr.ao Wr.ak)))))) (Wb.dcP C__law_draw hr (Wr.wv 0) (Wb.a0 (Wr.aj Wr.ao Wr.ak)))) (Wb.a0 Wr.ak))) (Wr.aH (i:=4) nd rfl zQ) (Wb.cons (Wb.append (Wr.wv 3) (Wb.gB (Wb.tup (Wb.gB (Wb.dcP C__law_draw hr (Wr.wv 0) (Wb.a0 (Wr.aj (Wr.dv 2) Wr.ak))) (Wb.gB (Wb.dcP C__law_draw hr (Wr.wv 0) (Wb.a0 (Wr.aj (Wr.dv 2) Wr.ak))) (Wb.a0 Wr.ak)))) (Wb.a0 Wr.ak))) (Wb.drops [4] (Wb.ss0 Wr.aN))))
  (Wb.drops [4] (Wb.j5 (Wb.if_ (Wb.wt (Wb.Uc (Wb.t0 (Wr.d8 hr.units (Wr.dv 3) (Wr.aM Wr.ak))) (Wb.Ud (Wb.teq hr.units (Wb.dcP C__law_draw hr (Wr.wv 0) (Wb.a0 (Wr.aj Wr.ao Wr.ak))) (Wb.e0 Wr.ao))))) (Wb.one (Wb.append (Wr.wv 3) (Wb.gB (Wb.ix (Wb.e0 (Wr.dv 3)) (Wb.dcP C__law_draw hr (Wr.wv 0) (Wb.a0 (Wr.aj (Wr.dJ B.len (Wr.aj (Wr.dv 3) Wr.ak)) Wr.ak)))) (Wb.a0 Wr.ak)))) (Wb.ss0 Wr.aN))
  (Wb.cons (Wb.set none (i:=5) nd rfl zQ (Wb.dcP C__law_turned hr (Wr.wv 0) (Wb.a0 (Wr.aj (Wr.dv 2) Wr.ak))))
  (Wb.ss0 (Wr.aA (Wr.mX none ["_law_a","_law_b"] (i:=6) rfl nd rfl zQ (Wr.cD (Wr.dv 3)) (fun c=>(Wr.vZ (n:=2) rfl (Wr.eO (Wr.aH (i:=0) lX rfl zQ) (Wr.eO (Wr.aH (i:=1) lX rfl zQ) Wr.nq)))) (fun c=>(Wr.dN (Wr.d8 hr.units (Wr.dv 0) (Wr.dv 1)))) (fun c=>(Wr.aC (Wr.aj (Wr.aX (Wr.dv 7) (Wr.dv 0)) (Wr.aj (Wr.aX (Wr.dv 7) (Wr.dv 1)) Wr.ak)))))
  (Wr.aF (Wr.aL (Wr.aC (Wr.aj (Wr.dv 2) (Wr.aj (Wr.lN B.tuple (Wr.aj (Wr.qQ B.sorted (Wr.aj (Wr.iZ ["_law_pair"] rfl (Wr.cD (Wr.dv 6)) (fun c=>(Wr.aH (i:=0) vD rfl zQ)) (fun c=>Wr.dO) (fun c=>(Wr.aC (Wr.aj (Wr.u9 rfl B.min (Wr.aj (Wr.dv 0) Wr.ak)) (Wr.aj (Wr.vd rfl B.max (Wr.aj (Wr.dv 0) Wr.ak)) Wr.ak))))) Wr.ak)) Wr.ak)) Wr.ak))))))))))))),Wb.Bf h rfl ?_⟩
 rintro ds P ⟨m,rfl,m1,m8,q⟩
 refine⟨[.im (.int m),.any,.any,.any,.any,.any],rfl,?_⟩
 refine⟨rfl,m,rfl,by omega,by omega,fun r r0 r1=>?_⟩
 refine⟨rfl,rfl,9,rfl,by decide,by decide,fun pk p0 p1=>⟨1+r,pk,rfl,by omega,by omega,fun us lu ok=>?_⟩⟩
 have okw:OkV (1+r) us:=fun t ht=>by
  have:=ok t ht
  omega
 refine⟨fun ρ=>∃ us:List Tie,us.length<=51/\OkV (1+r) us/\ρ=RW m (1+r) us .any,?_,fun ρ h=>?_⟩
 ·refine⟨zK,rfl,4,rfl,by decide,by decide,fun j j0 j1=>?_⟩
  obtain⟨c,hc,c0,c1⟩:=Nq j0 j1
  refine⟨.int c,hc,⟨by omega,by omega⟩,by rw [bC]; omega,rfl,fun (i:Nat) ρ=>∃ us:List Tie,us.length<=49+i/\OkV (1+r) us/\ρ=RW m (1+r) us .any,⟨us,by omega,okw,rfl⟩,?_,?_⟩
  ·rintro i d ρ hd ⟨vs,hl,ok',rfl⟩
   obtain⟨hi,rfl⟩:=dY hd
   refine⟨rfl,1+r,rfl,by omega,by omega,fun a a0 a1=>⟨rfl,1+r,rfl,by omega,by omega,fun b b0 b1=>⟨zK,rfl,by rw [List.length_map]; omega,vs++[(a,b)],by rw [List.length_append]; simp; omega,ok'.app (OkV.one ⟨a0,a1,b0,b1⟩),?_⟩⟩⟩
   show [Sl.pen TP,.im (.int m),.im (.int (1+r)),.dw 0 (.list (vs.map pD++[pD (a,b)])),.any,.any,.any]=_
   unfold RW
   rw [List.map_append]
   rfl
  ·rintro ρ ⟨vs,hl,ok',rfl⟩
   rw [bC] at hl
   exact⟨vs,by omega,ok',rfl⟩
 obtain⟨v1,l1,ok1,rfl⟩:=h
 refine⟨fun ρ=>∃ us:List Tie,us.length<=52/\OkV (1+r) us/\ρ=RW m (1+r) us .any,?_,fun ρ h=>?_⟩
 ·refine⟨zK,tW v1,rfl,?_⟩
  show if (!PyData.eqv (.list (v1.map pD)) (.list []))=true then _ else _
  refine dM (fun c=>?_) (fun c=>bR ⟨v1,by omega,ok1,rfl⟩)
  have ne:v1≠[]:=fun z=>by
   subst z
   exact absurd c (by decide)
  have pos:0<v1.length:=List.length_pos_iff.mpr ne
  have lm:(v1.map pD).length=v1.length:=List.length_map ..
  refine⟨rfl,4,rfl,by decide,by decide,fun y _ _=>dM (fun c2=>?_) (fun c2=>⟨v1,by omega,ok1,rfl⟩)⟩
  refine⟨rfl,_,rfl,by omega,by omega,fun z z0 z1=>?_⟩
  obtain⟨t,ht,hz⟩:=Kf z0 z1
  refine⟨pD t,hz,rfl,by omega,v1++[t],by rw [List.length_append,List.length_singleton]; omega,ok1.app (OkV.one (ok1 t ht)),?_⟩
  show [Sl.pen TP,.im (.int m),.im (.int (1+r)),.dw 0 (.list (v1.map pD++[pD t])),.any,.any,.any]=_
  unfold RW
  rw [List.map_append]
  rfl
 obtain⟨v2,l2,ok2,rfl⟩:=h
 refine⟨rfl,1+r,rfl,by omega,by omega,fun o ho=>?_⟩
 refine dF (.inl rfl) ?_
 refine pA v2 pD (fun t=>!decide (t.1=t.2)) (fun t=>pD (gO o t.1,gO o t.2)) .imm rfl (by omega) (fun t ht A B hA hB=>?_) ?_
 ·obtain⟨a0,a1,b0,b1⟩:=ok2 t ht
  refine⟨rfl,?_⟩
  show if (!decide (t.1=t.2))=true then _ else _
  refine dM (fun c=>?_) (fun c=>hB (by simpa using c))
  exact⟨_,(ho.at a0 a1).1,_,(ho.at b0 b1).1,zK,rfl,hA c⟩
 have e:((v2.filter fun t=>!decide (t.1=t.2)).map fun t=>pD (gO o t.1,gO o t.2))=(turnT o v2).map pD:=by
  unfold turnT
  rw [List.map_map]
  rfl
 rw [e]
 have lt:(turnT o v2).length<=52:=by
  unfold turnT
  rw [List.length_map]
  exact Nat.le_trans (List.length_filter_le _ _) l2
 have okt:=Kw ho ok2
 refine dF (.inl rfl) ?_
 refine Jd (turnT o v2) pD (fun t=>pD (mm t)) .imm rfl (by omega) (fun t ht A B hA=>bQ (B:=True) ⟨zK,rfl,hA⟩) ?_
 have e2:(turnT o v2).map (fun t=>pD (mm t))=((turnT o v2).map mm).map pD:=by rw [List.map_map]; rfl
 rw [e2]
 refine⟨(turnT o v2).map mm,.inl rfl,by rw [List.length_map]; omega,fun t ht=>?_,fun us' hp hs=>⟨zK,?_,q (1+r) us' (by omega) (by omega) (by rw [hp.length_eq,List.length_map]; omega) (fun t ht=>okt t (hp.mem_iff.mp ht)) hs⟩⟩
 ·have:=okt t ht
  exact⟨by omega,by omega⟩
 have e:=p8 (1+r) us'
 show (norm _ (aR (1+r) us')).le .n0=true
 rw [fX e]
 rfl
end
def Q7 (es:List Tie) (n:Nat) (x:Int):Bool:=jc (RB es) n x.toNat
def jT (es:List Tie) (n:Nat) (L:List Int):Nat:=(L.filter (Q7 es n)).length
theorem yO {es:List Tie}{n:Nat}{L M:List Int} (h:L.Perm M):jT es n L=jT es n M:=(h.filter _).length_eq
theorem Nj (es:List Tie) (n:Nat) (L M:List Int):jT es n (L++M)=jT es n L+jT es n M:=by
 unfold jT
 rw [List.filter_append,List.length_append]
theorem QJ {Q:Nat->Prop}:∀ k,Q k->∃ m,m<=k/\Q m/\∀ b,b<m->¬ Q b:=by
 intro k
 induction k using Nat.strongRecOn with
 | _ k ih =>
  intro h
  by_cases e:∃ b,b<k/\Q b
  ·obtain⟨b,hb,hq⟩:=e
   obtain⟨m,h1,h2,h3⟩:=ih b hb hq
   exact⟨m,by omega,h2,h3⟩
  ·exact⟨k,Nat.le_refl _,h,fun b hb hq=>e ⟨b,hb,hq⟩⟩
theorem len_one {l:List Int}{f:Int} (nd:l.Nodup) (hf:f∈l) (h:∀ x∈l,x=f):l.length=1:=by
 match l,nd,hf,h with
 | [x],_,_,_=>rfl
 | x::y::l,nd,_,h =>
  have h1:=h x List.mem_cons_self
  have h2:=h y (List.mem_cons_of_mem _ List.mem_cons_self)
  have:=(List.nodup_cons.mp nd).1
  exact absurd (by rw [h1,h2]; exact List.mem_cons_self) this
theorem FQ {es:List Tie}{n:Nat}{C:List Int}{s:Int} (sy:∀ a b,(a,b)∈es->(b,a)∈es) (nd:C.Nodup) (rng:∀ x∈C,0<=x/\x<n) (hs:s∈C) (h:∀ x,x∈C↔Rt es s x):jT es n C=1:=by
 have s0:=rng s hs
 obtain⟨m,_,hm,hl⟩:=QJ (Q:=fun k=>Rt es s ((k:Nat):Int)) s.toNat (by rw [show ((s.toNat:Nat):Int)=s by omega]; exact .refl _)
 have mc:((m:Nat):Int)∈C:=(h _).mpr hm
 have m0:=rng _ mc
 refine len_one (f:=((m:Nat):Int)) (nd.filter _) (List.mem_filter.mpr ⟨mc,?_⟩) fun x hx=>?_
 ·show jc (RB es) n ((m:Nat):Int).toNat=true
  rw [show ((m:Nat):Int).toNat=m by omega,vQ (by omega) (nH es m)]
  intro b hb
  rw [Bool.eq_false_iff]
  intro z
  rw [Bool.and_eq_true,eY,eY] at z
  exact hl b hb (hm.trans z.1)
 ·obtain⟨xc,xf⟩:=List.mem_filter.mp hx
  have x0:=rng x xc
  have xf:jc (RB es) n x.toNat=true:=xf
  rw [vQ (by omega) (nH es _)] at xf
  have rx:=(h x).mp xc
  rcases Nat.lt_trichotomy m x.toNat with z | z | z
  ·have:=xf m z
   rw [Bool.eq_false_iff] at this
   refine absurd ?_ this
   rw [Bool.and_eq_true,eY,eY,show ((x.toNat:Nat):Int)=x by omega]
   exact⟨(rx.sym sy).trans hm,(hm.sym sy).trans rx⟩
  ·omega
  ·exact absurd (by rw [show ((x.toNat:Nat):Int)=x by omega]; exact rx) (hl x.toNat z)
structure Clo (us es:List Tie) (n:Nat) (L:List Int):Prop where
 nd:L.Nodup
 rng:∀ x∈L,0<=x/\x<n
 cl:∀ x y,x∈L->(x,y)∈es->y∈L
 ed:∀ x y,x∈L->y∈L->((x,y)∈es↔(x,y)∈us\/(y,x)∈us)
structure Flo (es:List Tie) (L:List Int) (s:Int) (left:List Int) (op:Int->Prop):Prop where
 sub:∀ x∈left,x∈L
 nd:left.Nodup
 s0:s∈L/\s∉left
 her:∀ x,op x->x∈L/\x∉left
 rch:∀ x∈L,x∉left->Rt es s x
 cls:∀ x∈L,x∉left->¬ op x->∀ y,(x,y)∈es->y∉left
theorem Flo.start {us es:List Tie}{n:Nat}{l:List Int}{s:Int} (h:Clo us es n (l++[s])):Flo es (l++[s]) s l fun x=>x=s:=by
 obtain⟨n1,n2,n3⟩:=List.nodup_append.mp h.nd
 have sl:s∉l:=fun z=>n3 s z s (List.mem_singleton.mpr rfl) rfl
 have only:∀ x∈l++[s],x∉l->x=s:=fun x hx nx=>(List.mem_append.mp hx).elim (fun z=>absurd z nx) List.mem_singleton.mp
 exact⟨fun x hx=>List.mem_append_left _ hx,n1,⟨List.mem_append_right _ (List.mem_singleton.mpr rfl),sl⟩,fun x e=>by rw [show x=s from e]; exact⟨List.mem_append_right _ (List.mem_singleton.mpr rfl),sl⟩,
  fun x hx nx=>by rw [only x hx nx]; exact .refl _,fun x hx nx no=>absurd (only x hx nx) no⟩
theorem Flo.take {us es:List Tie}{n:Nat}{L left:List Int}{s x y:Int}{op:Int->Prop} (c:Clo us es n L) (h:Flo es L s left op) (hx:x∈L/\x∉left) (t:(x,y)∈es) (hy:y∈left):Flo es L s (left.erase y) fun z=>op z\/z=y:=by
 have er:∀ z,z∈left.erase y↔z≠y/\z∈left:=fun z=>h.nd.mem_erase_iff
 refine⟨fun z hz=>h.sub z ((er z).mp hz).2,h.nd.erase _,⟨h.s0.1,fun z=>h.s0.2 ((er s).mp z).2⟩,fun z hz=>?_,fun z hz nz=>?_,fun z hz nz no w tw hw=>?_⟩
 ·rcases hz with hz | rfl
  ·exact⟨(h.her z hz).1,fun q=>(h.her z hz).2 ((er z).mp q).2⟩
  ·exact⟨h.sub z hy,fun q=>((er z).mp q).1 rfl⟩
 ·by_cases e:z=y
  ·subst e
   exact .step (h.rch x hx.1 hx.2) t
  ·exact h.rch z hz fun q=>nz ((er z).mpr ⟨e,q⟩)
 ·by_cases e:z=y
  ·exact no (.inr e)
  ·exact h.cls z hz (fun q=>nz ((er z).mpr ⟨e,q⟩)) (fun q=>no (.inl q)) w tw ((er w).mp hw).2
theorem Flo.wk {es:List Tie}{L left:List Int}{s:Int}{op op':Int->Prop} (h:Flo es L s left op) (h1:∀ x,op' x->op x) (h2:∀ x,op x->¬ op' x->∀ y,(x,y)∈es->y∉left):Flo es L s left op' :=
 ⟨h.sub,h.nd,h.s0,fun x o=>h.her x (h1 x o),h.rch,fun x hx nx no y t=>by
  by_cases o:op x
  ·exact h2 x o no y t
  ·exact h.cls x hx nx o y t⟩
theorem Flo.done {us es:List Tie}{n:Nat}{L left:List Int}{s:Int}{op:Int->Prop} (sy:∀ a b,(a,b)∈es->(b,a)∈es) (c:Clo us es n L) (h:Flo es L s left op) (no:∀ x,¬ op x):Clo us es n left/\jT es n L=jT es n left+1:=by
 have rt:∀ x,(x∈L/\x∉left)↔Rt es s x:=fun x=>by
  refine⟨fun z=>h.rch x z.1 z.2,fun r=>?_⟩
  induction r with
  | refl=>exact h.s0
  | step r t ih=>exact⟨c.cl _ _ ih.1 t,h.cls _ ih.1 ih.2 (no _) _ t⟩
 refine⟨⟨h.nd,fun x hx=>c.rng x (h.sub x hx),fun x y hx t=>?_,fun x y hx hy=>c.ed x y (h.sub x hx) (h.sub y hy)⟩,?_⟩
 ·have yL:=c.cl x y (h.sub x hx) t
  by_cases z:y∈left
  ·exact z
  ·have r:=(rt y).mp ⟨yL,z⟩
   exact absurd hx ((rt x).mpr (.step r (sy _ _ t))).2
 ·have p1:L.Perm (L.filter (fun x=>decide (x∈left))++L.filter (fun x=>!decide (x∈left))):=(List.filter_append_perm _ L).symm
  have p2:(L.filter (fun x=>decide (x∈left))).Perm left:=by
   refine (List.perm_ext_iff_of_nodup (c.nd.filter _) h.nd).mpr fun x=>?_
   rw [List.mem_filter,decide_eq_true_iff]
   exact⟨fun z=>z.2,fun z=>⟨h.sub x z,z⟩⟩
  rw [yO p1,Nj,yO p2]
  congr 1
  have mem:∀ x,x∈L.filter (fun x=>!decide (x∈left))↔x∈L/\x∉left:=fun x=>by
   rw [List.mem_filter,Bool.not_eq_true',decide_eq_false_iff_not]
  exact FQ sy (c.nd.filter _) (fun x hx=>c.rng x ((mem x).mp hx).1) ((mem s).mpr h.s0) fun x=>(mem x).trans (rt x)
def nF (n:Int) (G:List Int):List Int:=zI ((List.range n.toNat).filter fun i=>!decide ((0+((i:Nat):Int))∈G))
def Ot (ds:List D) (P:D->Prop):Prop:=∃ n us G es,ds=[aR n us,iD G]/\0<=n/\n<=16/\us.length<=100/\OkN n us/\(∀ a b,(a,b)∈es->(b,a)∈es)/\Clo us es n.toNat (nF n G)/\P (.int ((jT es n.toNat (nF n G):Nat):Int))
def RM (n:Int) (us:List Tie) (G left:List Int) (k:Int) (s4 s5:Sl):List Sl:=[.im (aR n us),.sh (iD G),.dw 0 (iD left),.im (.int k),s4,s5,.any,.any]
theorem qz {l:List Int} (h:l≠[]):∃ l' x,l=l'++[x]:=⟨l.dropLast,l.getLast h,(List.dropLast_concat_getLast h).symm⟩
theorem all_le (n:Int) (G:List Int):(nF n G).length<=n.toNat:=by
 unfold nF zI
 rw [List.length_map]
 refine Nat.le_trans (List.length_filter_le _ _) ?_
 rw [List.length_range]
 exact Nat.le_refl _
section
variable {P:Program}{w:World}{K:W.Frag}{mg:Str->Option Value}{base:Heap}{f:Addr}{fd:FuncData}{CN:Addr}
theorem oY:FnScope ["_law_web_here","_law_gone","_law_left","_law_many_here","_law_here","_law_at","_law_tie","_law_other"] ["_law_web_here","_law_gone"] (aq (top 51)):=zC
theorem sZ:(["_law_place","_law_web_here","_law_gone","_law_left","_law_many_here","_law_here","_law_at","_law_tie","_law_other"]:List Str).Nodup:=by decide +kernel
theorem xG (F:Fun K "_law_many" "_law_many" (top 51) f fd) (B:Dl.Bn mg):FnOk P w K mg base CX0 1 f fd ["_law_web_here","_law_gone"] (spD Ot):=by
 refine F.ok oY bA (fun cdv A outer s H vs Q E hr h=>?_)
 have nd:=oY.nd
 refine⟨_,Wr.WDSs.h (Wr.aA (Wr.mX (some 0) ["_law_place"] (i:=2) rfl nd rfl zQ (Wr.bZ B.range (Wr.aj (Wr.aX (Wr.dv 0) Wr.ao) Wr.ak)) (fun c=>(Wr.aH (i:=0) sZ rfl zQ)) (fun c=>(Wr.dN (Wr.dX hr.units (Wr.dv 0) (Wr.dv 2)))) (fun c=>(Wr.dv 0)))
  (Wr.aA (Wr.bD none (i:=3) nd rfl zQ Wr.ao)
  (Wr.aA (Wr.jx PassesOwn.never (Wr.d8 hr.units (Wr.dv 2) (Wr.aM Wr.ak)) (Wr.aA (Wr.Bg 1 (Wr.wv 2) nd (j:=4) rfl zQ)
  (Wr.aA (Wr.bD none (i:=3) nd rfl zQ (Wr.cA (Wr.dv 3) Wr.ao))
  (Wr.aA (Wr.jx PassesOwn.never (Wr.d8 hr.units (Wr.dv 4) (Wr.aM Wr.ak)) (Wr.aA (Wr.vW (Wr.wv 4) (Wr.aH (i:=5) nd rfl zQ))
  (Wr.aA (Wr.eV PassesOwn.never rfl (Wr.cD (Wr.aX (Wr.dv 0) Wr.ao)) (Wr.aH (i:=6) nd rfl zQ) (Wr.aA (Wr.bD none (i:=7) nd rfl zQ (Wr.dI (Wr.cA (Wr.aX (Wr.dv 6) Wr.ao) (Wr.aX (Wr.dv 6) Wr.ao)) (Wr.dv 5)))
  (Wr.aA (Wr.cR (Wr.wpt (Wr.dH (Wr.g8 hr.units (Wr.dv 5) (Wr.dv 6)) (Wr.cP (Wr.g8 hr.units (Wr.dv 7) (Wr.dv 2))))) (Wr.aA (Wr.oR (Wr.wv 2) (Wr.aj (Wr.dv 7) Wr.ak))
  (Wr.aF (Wr.dB (Wr.wv 4) (Wr.aj (Wr.dv 7) Wr.ak)))) Wr.aN) (Wr.aY [6,7] Wr.aN)))) (Wr.aY [5,6,7] Wr.aN)))) (Wr.aY [4,5,6,7] Wr.aN)))))
  (Wr.aY [4,5,6,7] (Wr.aF (Wr.aL (Wr.dv 3))))))),cj h ?_⟩
 rintro ds P ⟨n,us,G,es,rfl,n0,n16,lu,ok,sy,cl,q⟩
 refine⟨[.im (aR n us),.sh (iD G),.any,.any,.any,.any,.any,.any],?_,?_⟩
 ·show [aZ (aR n us),aZ (iD G),.any,.any,.any,.any,.any,.any]=_
  rw [bV]
  rfl
 refine⟨.int n,rfl,⟨by omega,by omega⟩,pA (List.range n.toNat) (fun v=>PyData.int (0+((v:Nat):Int))) (fun v=>!decide ((0+((v:Nat):Int))∈G)) (fun v=>PyData.int (0+((v:Nat):Int))) .imm rfl (by rw [List.length_range]; omega) (fun v hv A B hA hB=>?_) ?_⟩
 ·refine⟨rfl,d9 G,?_⟩
  show if (!((G.map PyData.int).any fun e=>PyData.eqv e (.int (0+((v:Nat):Int)))))=true then _ else _
  rw [Dl.any_ints]
  exact dM (fun c=>⟨rfl,hA c⟩) (fun c=>hB (by simpa using c))
 have e:((List.range n.toNat).filter fun v=>!decide ((0+((v:Nat):Int))∈G)).map (fun v=>PyData.int (0+((v:Nat):Int)))=(nF n G).map PyData.int:=by
  unfold nF zI
  rw [List.map_map]
  rfl
 rw [e]
 have la:=all_le n G
 generalize nF n G=L0 at cl q la
 refine⟨fun m ρ=>∃ (L:List Int) (k:Nat),Clo us es n.toNat L/\k+jT es n.toNat L=jT es n.toNat L0/\L.length<=n.toNat/\m=L.length/\ρ=RM n us G L ((k:Nat):Int) .any .any,⟨_,L0,0,cl,Nat.zero_add _,la,rfl,rfl⟩,?_⟩
 rintro m ρ ⟨L,k,cL,hk,lL,rfl,rfl⟩
 refine⟨zK,NT L,rfl,?_⟩
 show if (!PyData.eqv (.list (L.map PyData.int)) (.list []))=true then _ else _
 rw [Dm]
 refine dM (fun c=>?_) (fun c=>?_)
 ·have ne:L≠[]:=fun z=>by subst z; exact absurd c (by decide)
  obtain⟨l,s,rfl⟩:=qz ne
  have lL':l.length+1<=n.toNat:=by rw [List.length_append,List.length_singleton] at lL; exact lL
  refine⟨0,l.map PyData.int,.int s,?_,rfl,rfl,?_⟩
  ·show some (Sl.dw 0 (.list ((l++[s]).map PyData.int)))=_
   rw [List.map_append]
   rfl
  refine⟨fun m ρ=>∃ left here:List Int,Flo es (l++[s]) s left (fun x=>x∈here)/\left.length+here.length<=n.toNat/\left.length<=l.length/\m=2 * left.length+here.length/\ρ=RM n us G left (((k:Nat):Int)+1) (.dw 1 (iD here)) .any,⟨_,l,[s],?_,lL',Nat.le_refl _,rfl,rfl⟩,?_⟩
  ·exact (Flo.start cL).wk (fun x hx=>List.mem_singleton.mp hx) fun x hx nx=>absurd (List.mem_singleton.mpr hx) nx
  rintro m ρ ⟨left,here,fl,ll,lle,rfl,rfl⟩
  refine⟨zK,NT here,rfl,?_⟩
  show if (!PyData.eqv (.list (here.map PyData.int)) (.list []))=true then _ else _
  rw [Dm]
  refine dM (fun c=>?_) (fun c=>?_)
  ·have ne:here≠[]:=fun z=>by subst z; exact absurd c (by decide)
   obtain⟨h',at',rfl⟩:=qz ne
   rw [List.length_append,List.length_singleton] at ll
   refine⟨1,h'.map PyData.int,.int at',?_,rfl,?_⟩
   ·show some (Sl.dw 1 (.list ((h'++[at']).map PyData.int)))=_
    rw [List.map_append]
    rfl
   have ha:=fl.her at' (List.mem_append_right _ (List.mem_singleton.mpr rfl))
   refine⟨.tuple (us.map pD),rfl,rfl,fun (j:Nat) ρ=>∃ lf hr:List Int,Flo es (l++[s]) s lf (fun x=>x∈hr\/x=at')/\(∀ (i:Nat) (t:Tie),i<j->us[i]?=some t->(t.1=at'->t.2∉lf)/\(t.2=at'->t.1∉lf))/\2 * lf.length+hr.length<=2 * left.length+h'.length/\lf.length+hr.length<=n.toNat/\lf.length<=left.length/\ρ=RM n us G lf (((k:Nat):Int)+1) (.dw 1 (iD hr)) (.im (.int at')),⟨left,h',?_,fun i t z=>absurd z (Nat.not_lt_zero _),Nat.le_refl _,by omega,Nat.le_refl _,rfl⟩,?_,?_⟩
   ·exact fl.wk (fun x hx=>hx.elim (List.mem_append_left _) fun z=>by rw [z]; exact List.mem_append_right _ (List.mem_singleton.mpr rfl)) fun x hx nx=>absurd ((List.mem_append.mp hx).elim Or.inl fun z=>.inr (List.mem_singleton.mp z)) nx
   ·rintro j d ρ hd ⟨lf,hr,ff,dn,m1,m2,m3,rfl⟩
    obtain⟨t,ht,rfl⟩:=iB hd
    obtain⟨t1,t2,tn⟩:=ok t (List.mem_of_getElem? ht)
    have ha2:=ff.her at' (.inr rfl)
    have next:∀ lf' hr':List Int,(∀ x∈lf',x∈lf)->((t.1=at'->t.2∉lf')/\(t.2=at'->t.1∉lf'))->∀ (i:Nat) (u:Tie),i<j+1->us[i]?=some u->(u.1=at'->u.2∉lf')/\(u.2=at'->u.1∉lf'):=fun lf' hr' sb hj i u hi hu=>by
     by_cases e:i<j
     ·have:=dn i u e hu
      exact⟨fun z y=>this.1 z (sb _ y),fun z y=>this.2 z (sb _ y)⟩
     ·have e:i=j:=by omega
      subst e
      rw [ht] at hu
      cases hu
      exact hj
    refine⟨.int t.1,rfl,.int t.2,rfl,?_⟩
    refine⟨rfl,rfl,?_⟩
    show if (([t.1,t.2].map PyData.int).any fun e=>PyData.eqv e (.int at'))=true then _ else _
    rw [Dl.any_ints]
    refine dM (fun c=>?_) (fun c=>bR ⟨lf,hr,ff,next lf hr (fun _ z=>z) ⟨fun z=>absurd (decide_eq_true (by rw [z]; exact List.mem_cons_self)) c,fun z=>absurd (decide_eq_true (by rw [z]; exact List.mem_cons_of_mem _ (List.mem_singleton.mpr rfl))) c⟩,m1,m2,m3,rfl⟩)
    have c:=of_decide_eq_true c
    refine⟨rfl,d9 lf,?_⟩
    show if ((lf.map PyData.int).any fun e=>PyData.eqv e (.int (t.1+t.2 - at')))=true then _ else _
    rw [Dl.any_ints]
    have oth:(t.1=at'->t.2=t.1+t.2 - at')/\(t.2=at'->t.1=t.1+t.2 - at'):=⟨fun z=>by omega,fun z=>by omega⟩
    refine dM (fun c2=>?_) (fun c2=>⟨lf,hr,ff,next lf hr (fun _ z=>z) ⟨fun z y=>c2 (decide_eq_true (by rw [← oth.1 z]; exact y)),fun z y=>c2 (decide_eq_true (by rw [← oth.2 z]; exact y))⟩,m1,m2,m3,rfl⟩)
    have c2:=of_decide_eq_true c2
    have edge:(at',t.1+t.2 - at')∈es:=by
     refine (cL.ed _ _ ha2.1 (ff.sub _ c2)).mpr ?_
     have tm:=List.mem_of_getElem? ht
     rcases List.mem_cons.mp c with z | z
     ·left
      rw [← oth.1 z.symm,z]
      exact tm
     ·right
      have z:=List.mem_singleton.mp z
      rw [← oth.2 z.symm,z]
      exact tm
    have le:(lf.erase (t.1+t.2 - at')).length+1=lf.length:=by
     rw [List.length_erase_of_mem c2]
     have:=List.length_pos_of_mem c2
     omega
    refine⟨0,lf,rfl,c2,rfl,by rw [List.length_map]; omega,lf.erase (t.1+t.2 - at'),hr++[t.1+t.2 - at'],?_,next _ hr (fun x hx=>List.mem_of_mem_erase hx) ?_,by rw [List.length_append,List.length_singleton]; omega,by rw [List.length_append,List.length_singleton]; omega,by omega,?_⟩
    ·exact (ff.take cL ha2 edge c2).wk (fun x hx=>hx.elim (fun z=>(List.mem_append.mp z).elim (fun z=>.inl (.inl z)) fun z=>.inr (List.mem_singleton.mp z)) fun z=>.inl (.inr z)) fun x hx nx=>absurd (hx.elim (fun z=>z.elim (fun z=>Or.inl (List.mem_append_left _ z)) Or.inr) fun z=>.inl (List.mem_append_right _ (List.mem_singleton.mpr z))) nx
    ·have er:∀ z,z∈lf.erase (t.1+t.2 - at')↔z≠(t.1+t.2 - at')/\z∈lf:=fun z=>ff.nd.mem_erase_iff
     exact⟨fun z y=>((er _).mp y).1 (oth.1 z),fun z y=>((er _).mp y).1 (oth.2 z)⟩
    ·show [Sl.im (aR n us),.sh (iD G),.dw 0 (iD (lf.erase (t.1+t.2 - at'))),.im (.int (((k:Nat):Int)+1)),.dw 1 (.list (hr.map PyData.int++[.int (t.1+t.2 - at')])),.im (.int at'),.any,.any]=_
     unfold RM
     have:iD (hr++[t.1+t.2 - at'])=.list (hr.map PyData.int++[.int (t.1+t.2 - at')]):=by unfold iD; rw [List.map_append]; rfl
     rw [this]
   ·rintro ρ ⟨lf,hr,ff,dn,m1,m2,m3,rfl⟩
    rw [List.length_append,List.length_singleton]
    refine⟨2 * lf.length+hr.length,by omega,lf,hr,ff.wk (fun x hx=>.inl hx) fun x hx nx y ty=>?_,m2,by omega,rfl,rfl⟩
    have e:x=at':=hx.resolve_left nx
    subst e
    have hx2:=ff.her x (.inr rfl)
    rcases (cL.ed x y hx2.1 (cL.cl x y hx2.1 ty)).mp ty with z | z
    ·obtain⟨i,hi⟩:=List.getElem?_of_mem z
     exact (dn i _ (by rw [List.length_map]; exact (List.getElem?_eq_some_iff.mp hi).1) hi).1 rfl
    ·obtain⟨i,hi⟩:=List.getElem?_of_mem z
     exact (dn i _ (by rw [List.length_map]; exact (List.getElem?_eq_some_iff.mp hi).1) hi).2 rfl
  ·have he:here=[]:=by
    cases here with
    | nil=>rfl
    | cons a b=>exact absurd rfl c
   subst he
   obtain⟨c1,c2⟩:=fl.done sy cL fun x hx=>nomatch hx
   rw [List.length_append,List.length_singleton]
   exact⟨left.length,by omega,left,k+1,c1,by omega,by omega,rfl,rfl⟩
 ·have he:L=[]:=by
   cases L with
   | nil=>rfl
   | cons a b=>exact absurd rfl c
  subst he
  have:jT es n.toNat []=0:=rfl
  rw [show jT es n.toNat L0=k by omega] at q
  exact⟨rfl,q⟩
end
def gq:D->List Int
 | .list es=>es.map toI
 | _=>[]
def yH (n:Int):D->Bool
 | .list es=>es.all (bx n)&&vA (es.flatMap gq)
 | _=>false
def Bv (d:D):Prop:=∀ es,d=.list es->es.length<=60/\∀ e∈es,Few e
def T4 (ds:List D) (P:D->Prop):Prop:=∃ n d,ds=[.int n,d]/\Bv d/\n<=16/\P (.bool (yH n d))
theorem wX {n:Int}{d:D} (n16:n<=16) (h:bx n d=true):∃ l:List Int,d=.list (l.map PyData.int)/\gq d=l/\l.length<=15:=by
 unfold bx at h
 rw [Bool.and_eq_true] at h
 cases d with
 | list es =>
  have h1:(es.all (cY n)&&lG (es.map toI))=true:=h.1
  rw [Bool.and_eq_true] at h1
  have h2:(decide ((1:Int)<=(es.length:Nat))&&decide (((es.length:Nat):Int)<n))=true:=h.2
  rw [Bool.and_eq_true,decide_eq_true_eq,decide_eq_true_eq] at h2
  exact⟨es.map toI,congrArg _ (ints_of h1.1),rfl,by rw [List.length_map]; omega⟩
 | _=>cases h.1
section
variable {P:Program}{w:World}{K:W.Frag}{mg:Str->Option Value}{base:Heap}{f:Addr}{fd:FuncData}
theorem Sd:FnScope ["n","thing","places","some"] ["n","thing"] (aq (top 32)):=zC
theorem U6:(["some","n","thing","places",""]:List Str).Nodup:=by decide +kernel
theorem Qy (F:Fun K "is_family" "is_family" (top 32) f fd) (B:Dl.Bn mg) (ms:mg "set"=none) (PS:Dl.Cal P w K mg base 4 "is_proper_set" ["n","thing"] (spD qd)):FnOk P w K mg base CX0 5 f fd ["n","thing"] (spD T4):=by
 refine F.ok Sd bA (fun cdv A outer s H vs Q E hr h=>?_)
 have nd:=Sd.nd
 refine⟨_,aA (cR (PDW.pt (fU (cH (bI (cO yh B.isinstance (dv 1) (jG (v:=.ty "list") rfl B.list boot_list rfl)))) (fB (cH (bI (zT rfl B.all Dl.boot_all (aj (Qq ["some"] ["n","thing","places",""] rfl (cD (dv 1)) (fun c=>aH (gY (i:=0) U6 rfl (Or.inl rfl))) (fun c=>dO) (fun c=>dc PS hr (aj (dv 1) (aj (dv 0) ak))) (hk:=rfl)) ak))))))) (aF (aL gG)) aN)
  (aA (bD (some 0) (cX (i:=2) nd rfl (Or.inl rfl) (aM ak)))
  (aA (eV PassesOwn.never rfl (cD (dv 1)) (aH (gY (i:=3) nd rfl (Or.inl rfl)))
   (aF (FJ (i:=2) (fu (lK PySem.F.plainAttrs_list PySem.F.slot_list_extend PySem.F.type_list_extend tZ (pv 2) (aj (dv 3) ak))))))
  (aF (aL (S6 (El rfl ms B.len (aj (dv 2) ak)) (dJ B.len (aj (dv 2) ak))))))),cj h ?_⟩
 rintro ds P ⟨n,d,rfl,hf,n16,q⟩
 refine⟨[.im (.int n),aZ d,.any,.any],rfl,?_⟩
 cases d with
 | list es =>
  obtain⟨hl,hfe⟩:=hf es rfl
  have q:P (.bool (es.all (bx n)&&vA (es.flatMap gq))):=q
  refine bR (A:=True) ⟨by omega,.imm,fun i ys=>ys=(es.take i).map fun d=>PyData.bool (bx n d),rfl,fun i d ys hd hy=>?_,fun ys hy=>?_⟩
  ·subst hy
   have hfd:=hfe d (List.mem_of_getElem? hd)
   by_cases hi:dZ d=true
   ·have en:∀ k,norm k d=.imm:=fun k=>fX hi
    unfold gNm
    simp only [en]
    exact bQ (B:=True) ⟨n,d,rfl,hfd,rfl,(rG _ hd).symm⟩
   ·have en:∀ k,norm k d=k:=fun k=>lU hi
    unfold gNm
    simp only [en]
    exact bQ (B:=True) ⟨n,d,rfl,hfd,rfl,(rG _ hd).symm⟩
  ·dsimp only at hy
   rw [List.take_length] at hy
   refine⟨es.map (bx n),by rw [hy,List.map_map]; rfl,?_⟩
   rw [List.all_map]
   show if (!es.all (bx n))=true then _ else _
   cases ha:es.all (bx n) with
   | false =>
    rw [ha] at q
    exact⟨rfl,q⟩
   | true =>
    rw [ha] at q
    have q:P (.bool (vA (es.flatMap gq))):=q
    have pr:∀ e∈es,∃ l:List Int,e=.list (l.map PyData.int)/\gq e=l/\l.length<=15:=fun e he=>wX n16 (List.all_eq_true.mp ha e he)
    refine bR (A:=True) ⟨by decide,rfl,fun (i:Nat) ρ=>∃ (l:List Int) (s3:Sl),s3.region=none/\ρ=[.im (.int n),.sh (.list es),.dw 0 (.list (l.map PyData.int)),s3]/\l=(es.take i).flatMap gq/\l.length<=15 * i,⟨[],.any,rfl,rfl,rfl,Nat.le_refl _⟩,?_,?_⟩
    ·rintro i d ρ hd ⟨l,s3,h3,rfl,rfl,hl2⟩
     obtain⟨m,rfl,em,hm⟩:=pr d (List.mem_of_getElem? hd)
     have hi:=(List.getElem?_eq_some_iff.mp hd).1
     have lm:(((es.take i).flatMap gq).map PyData.int).length=((es.take i).flatMap gq).length:=List.length_map ..
     have lm2:(m.map PyData.int).length=m.length:=List.length_map ..
     refine⟨by show (_ || eN (m.map PyData.int))=true; rw [ju,Bool.or_true],by omega,(es.take i).flatMap gq++m,.sh (.list (m.map PyData.int)),rfl,?_,?_,?_⟩
     ·rw [List.map_append]
      rfl
     ·rw [List.take_add_one,hd,List.flatMap_append]
      show _=_++([PyData.list (m.map PyData.int)].flatMap gq)
      rw [List.flatMap_cons,List.flatMap_nil,List.append_nil,em]
     ·rw [List.length_append]; omega
    ·rintro ρ ⟨l,s3,h3,rfl,rfl,hl2⟩
     rw [List.take_length] at hl2 ⊢
     refine⟨_,_,rfl,by omega,rfl,?_⟩
     show P (.bool (decide ((((once (es.flatMap gq)).length:Nat):Int)=(((es.flatMap gq).map PyData.int).length:Nat))))
     have e:decide ((((once (es.flatMap gq)).length:Nat):Int)=(((es.flatMap gq).map PyData.int).length:Nat))=vA (es.flatMap gq):=by
      unfold vA
      rw [List.length_map,Bool.eq_iff_iff,decide_eq_true_eq,decide_eq_true_eq]
      omega
     rw [e]
     exact q
 | tuple es=>rcases eF (.tuple es) with e | e <;> rw [e] <;> exact bQ (B:=True) ⟨rfl,q⟩
 | _=>exact bQ (B:=True) ⟨rfl,q⟩
end
theorem Q8 (p:Int->Bool) (l:List Nat):((zI l).filter p).length=(l.filter fun i=>p (0+((i:Nat):Int))).length:=by
 unfold zI
 rw [List.filter_map,List.length_map]
 rfl
theorem Jr (es:List Tie) (n i:Nat):Q7 es n (0+((i:Nat):Int))=jc (RB es) n i:=by
 unfold Q7
 rw [show (0+((i:Nat):Int)).toNat=i by omega]
theorem Ni (us:List Tie) (n:Int) (v:Nat):jT (adj (noV us ((v:Nat):Int)) [] []) n.toNat (nF n [((v:Nat):Int)])=(pwI n.toNat us v).length:=by
 unfold jT nF pwI RV
 rw [Q8,List.length_map,List.filter_filter,List.filter_filter]
 congr 1
 refine List.filter_congr fun i hi=>?_
 rw [Jr,Bool.and_comm]
 congr 1
 by_cases h:i=v
 ·subst h
  simp
 ·have h2:¬ ((i:Nat):Int)=((v:Nat):Int):=by omega
  simp [h]
  exact h2
theorem jL {n:Int}{G:List Int}{x:Int}:x∈nF n G↔(0<=x/\x<n)/\x∉G:=by
 unfold nF
 rw [vG,List.mem_filter,List.mem_range,Bool.not_eq_true',decide_eq_false_iff_not]
 constructor
 ·rintro ⟨h0,h1,h2⟩
  rw [show 0+((x.toNat:Nat):Int)=x by omega] at h2
  exact⟨⟨h0,by omega⟩,h2⟩
 ·rintro ⟨⟨h0,h1⟩,h2⟩
  refine⟨h0,by omega,?_⟩
  rw [show 0+((x.toNat:Nat):Int)=x by omega]
  exact h2
theorem Kh (n:Int) (G:List Int):(nF n G).Nodup:=uV (uN (List.pairwise_lt_range.filter _))
theorem Uj {us:List Tie}{n:Int} (ok:OkN n us):Clo us (adj us [] []) n.toNat (nF n []):=by
 refine⟨Kh n [],fun x hx=>?_,fun x y hx t=>?_,fun x y _ _=>nG⟩
 ·have:=(jL.mp hx).1
  omega
 ·refine jL.mpr ⟨?_,fun z=>nomatch z⟩
  rcases nG.mp t with z | z
  ·exact (ok _ z).2.1
  ·exact (ok _ z).1
theorem Nk {us:List Tie}{n:Int} (ok:OkN n us) (v:Int):Clo us (adj (noV us v) [] []) n.toNat (nF n [v]):=by
 refine⟨Kh n [v],fun x hx=>?_,fun x y hx t=>?_,fun x y hx hy=>?_⟩
 ·have:=(jL.mp hx).1
  omega
 ·obtain⟨t,h1,h2⟩:=vB.mp t
  refine jL.mpr ⟨?_,fun z=>h2 (List.mem_singleton.mp z)⟩
  rcases nG.mp t with z | z
  ·exact (ok _ z).2.1
  ·exact (ok _ z).1
 ·have h1:x≠v:=fun z=>(jL.mp hx).2 (List.mem_singleton.mpr z)
  have h2:y≠v:=fun z=>(jL.mp hy).2 (List.mem_singleton.mpr z)
  rw [vB,nG]
  exact⟨fun z=>z.1,fun z=>⟨z,h1,h2⟩⟩
theorem tX (L:List (List Int)):okD (.list (L.map iD))=true:=by
 have h1:=Ai L
 have h2:PyData.depthAll (L.map iD)+1<=60:=by have:=rR L; omega
 show (PyData.canLayAll0 (L.map iD)&&decide (PyData.depthAll (L.map iD)+1<=60))=true
 rw [h1,decide_eq_true h2]
 rfl
theorem OkB.okN {n:Int}{us:List Tie} (h:OkB n us):OkN n us:=fun t ht=>by
 have:=h t ht
 exact⟨⟨by omega,by omega⟩,⟨by omega,by omega⟩,by omega⟩
def meets (v:Int) (t:Tie):Bool:=decide (v∈[t.1,t.2])
def gJ (us:List Tie) (l:List Int) (v:Int):Bool:=!decide (v∈l)&&(us.filter (lv l)).any (meets v)
def upto (n:Int):List Int:=(List.range n.toNat).map fun i=>0+((i:Nat):Int)
def fZ (n:Int) (us:List Tie) (l:List Int):List Int:=(upto n).filter (gJ us l)
def pnI (n ll near:Int):Int:=if (if (0:Int) > 2 - near then 0 else 2 - near)<n - ll - near then (if (0:Int) > 2 - near then 0 else 2 - near) else n - ll - near
def iY (n:Int) (us:List Tie) (l:List Int):Int:=pnI n ((l.map PyData.int).length:Nat) (((fZ n us l).map PyData.int).length:Nat)
def Oo (CN:Addr):FX:=fun ds P R=>∃ n us d,ds=[aR n us,d]/\us.length<=100/\zE CN n d (fun l r=>r=iD (fZ n us l)) P R
def T3 (CN:Addr):FX:=fun ds P R=>∃ n us d,ds=[aR n us,d]/\us.length<=100/\zE CN n d (fun l r=>r=.int (iY n us l)) P R
section
variable {P:Program}{w:World}{K:W.Frag}{mg:Str->Option Value}{base:Heap}{f:Addr}{fd:FuncData}{CN:Addr}
theorem jV:FnScope ["web","some","outward"] ["web","some"] (aq (top 37)):=zC
theorem pI:(["v","web","some","outward"]:List Str).Nodup:=by decide +kernel
theorem pH:(["tie","v","web","some","outward"]:List Str).Nodup:=by decide +kernel
theorem sW (F:Fun K "neighbours" "neighbours" (top 37) f fd) (B:Dl.Bn mg) (m_any:mg "any"=none) (C_ties_that_leave:Dl.Cal1 P w K mg base 6 "ties_that_leave" ["web","some"] (spX (Oi CN))):FnOk P w K mg base (CX1 P w) 7 f fd ["web","some"] (spX (Oo CN)):=by
 refine F.ok1 jV mH (fun cdv A outer s H vs Q E hr h=>?_)
 have nd:=jV.nd
 letI:=grX H
 refine⟨_,Wr.WDSs.h (Wr.aA (Wr.bD none (i:=2) nd rfl zQ (Wr.dcX (E:=E) C_ties_that_leave hr (HD mG) (Wr.aj (Wr.dv 0) (Wr.aj (Wr.dv 1) Wr.ak))))
  (Wr.aF (Wr.aL (Wr.iZ ["v"] rfl (Wr.bZ B.range (Wr.aj (Wr.aX (Wr.dv 0) Wr.ao) Wr.ak)) (fun c=>(Wr.aH (i:=0) pI rfl zQ)) (fun c=>(Wr.dN (Wr.wpt (Wr.dH (Wr.dX hr.units (Wr.dv 0) (Wr.dv 2)) (Wr.cP (Wr.bI (Wr.zR rfl m_any (Wr.aj (Wr.iZ ["tie"] rfl (Wr.cD (Wr.dv 3)) (fun c=>(Wr.aH (i:=0) pH rfl zQ)) (fun c=>Wr.dO) (fun c=>(Wr.w5 hr.units (Wr.dv 1) (Wr.dv 0)))) Wr.ak)))))))) (fun c=>(Wr.dv 0)))))),enterX h ?_ ?mono⟩
 case mono=>exact fun ds P R R' hR ⟨n,us,d,e,hl,x⟩=>⟨n,us,d,e,hl,x.mono hR⟩
 rintro ds P ⟨n,us,d,rfl,hl,hf,n16,x⟩
 refine⟨[.im (aR n us),aZ d,.any],?_,?_⟩
 ·show [aZ (aR n us),aZ d,.any]=_
  rw [bV]
 rcases x with ⟨e,r⟩ | ⟨l,rfl,hP,t⟩
 ·rcases eF d with e2 | e2 <;> rw [e2] <;> exact⟨n,us,d,rfl,hl,hf,n16,.inl ⟨e,r⟩⟩
 refine⟨n,us,_,rfl,hl,hf,n16,.inr ⟨l,rfl,hP,fun r hr0=>?_⟩⟩
 subst hr0
 refine dF (.inl rfl) ?_
 have lf:(us.filter (lv l)).length<=us.length:=List.length_filter_le _ _
 have n1:1<n:=by
  have:=hP.one
  have:=hP.few
  omega
 refine⟨.int n,rfl,⟨by omega,by omega⟩,pA (List.range n.toNat) (fun v=>PyData.int (0+((v:Nat):Int))) (fun v=>gJ us l (0+((v:Nat):Int))) (fun v=>PyData.int (0+((v:Nat):Int))) .imm rfl (by rw [List.length_range]; omega) (fun v hv A B hA hB=>?_) ?_⟩
 ·refine⟨rfl,d9 l,?_⟩
  show if (!((l.map PyData.int).any fun e=>PyData.eqv e (.int (0+((v:Nat):Int)))))=true then _ else _
  rw [Dl.any_ints]
  refine dM (fun c=>?_) (fun c=>bR (hB ?_))
  ·refine Jd (us.filter (lv l)) pD (fun t=>.bool (meets (0+((v:Nat):Int)) t)) .imm rfl (by omega) (fun t ht A' B' h=>bQ (B:=True) ⟨rfl,rfl,rfl,?_⟩) ?_
   ·show A' (.bool (([t.1,t.2].map PyData.int).any fun e=>PyData.eqv e (.int (0+((v:Nat):Int)))))
    rw [Dl.any_ints]
    exact h
   refine⟨(us.filter (lv l)).map (meets (0+((v:Nat):Int))),by rw [List.map_map]; rfl,?_⟩
   have e:gJ us l (0+((v:Nat):Int))=((us.filter (lv l)).map (meets (0+((v:Nat):Int)))).any id:=by
    unfold gJ
    rw [c,Bool.true_and,List.any_map]
    rfl
   show if (((us.filter (lv l)).map (meets (0+((v:Nat):Int)))).any id)=true then _ else _
   rw [← e]
   exact dM (fun c2=>⟨rfl,hA c2⟩) (fun c2=>hB (by simpa using c2))
  ·unfold gJ
   have c:(!decide ((0+((v:Nat):Int))∈l))=false:=by simpa using c
   rw [c,Bool.false_and]
 have e:((List.range n.toNat).filter fun v=>gJ us l (0+((v:Nat):Int))).map (fun v=>PyData.int (0+((v:Nat):Int)))=(fZ n us l).map PyData.int:=by
  unfold fZ upto
  rw [List.filter_map,List.map_map]
  rfl
 rw [e]
 exact⟨rfl,t _ rfl⟩
theorem jU:FnScope ["web","some","near","room"] ["web","some"] (aq (top 38)):=zC
theorem sV (F:Fun K "place_need" "place_need" (top 38) f fd) (B:Dl.Bn mg) (C_neighbours:Dl.Cal1 P w K mg base 7 "neighbours" ["web","some"] (spX (Oo CN))):FnOk P w K mg base (CX1 P w) 8 f fd ["web","some"] (spX (T3 CN)):=by
 refine F.ok1 jU mH (fun cdv A outer s H vs Q E hr h=>?_)
 have nd:=jU.nd
 letI:=grX H
 refine⟨_,Wr.WDSs.h (Wr.aA (Wr.bD none (i:=2) nd rfl zQ (Wr.dJ B.len (Wr.aj (Wr.dcX (E:=E) C_neighbours hr (HD mG) (Wr.aj (Wr.dv 0) (Wr.aj (Wr.dv 1) Wr.ak))) Wr.ak)))
  (Wr.aA (Wr.bD none (i:=3) nd rfl zQ (Wr.dI (Wr.dI (Wr.aX (Wr.dv 0) Wr.ao) (Wr.dJ B.len (Wr.aj (Wr.dv 1) Wr.ak))) (Wr.dv 2)))
  (Wr.aF (Wr.aL (Wr.pY rfl B.min (Wr.aj (Wr.dv 3) (Wr.aj (Wr.lO rfl B.max (Wr.aj (Wr.dI Wr.ao (Wr.dv 2)) (Wr.aj Wr.ao Wr.ak))) Wr.ak))))))),enterX h ?_ ?mono⟩
 case mono=>exact fun ds P R R' hR ⟨n,us,d,e,hl,x⟩=>⟨n,us,d,e,hl,x.mono hR⟩
 rintro ds P ⟨n,us,d,rfl,hl,hf,n16,x⟩
 refine⟨[.im (aR n us),aZ d,.any,.any],?_,?_⟩
 ·show [aZ (aR n us),aZ d,.any,.any]=_
  rw [bV]
 rcases x with ⟨e,r⟩ | ⟨l,rfl,hP,t⟩
 ·rcases eF d with e2 | e2 <;> rw [e2] <;> exact⟨n,us,d,rfl,hl,hf,n16,.inl ⟨e,r⟩⟩
 refine⟨n,us,_,rfl,hl,hf,n16,.inr ⟨l,rfl,hP,fun r hr0=>?_⟩⟩
 subst hr0
 exact⟨.int n,rfl,rfl,t _ rfl⟩
end
section
variable {P:Program}{w:World}{K:W.Frag}{mg:Str->Option Value}{base:Heap}{f:Addr}{fd:FuncData}{CN:Addr}
theorem oZ:FnScope ["_law_e","_law_some","_law_found"] ["_law_e"] (aq (top 47)):=zC
theorem jY:(["_law_word","_law_one","_law_e","_law_some","_law_found"]:List Str).Nodup:=by decide +kernel
theorem xH {CF c1 c2 c3 c4 c5 c6 c7 c8 c9:Addr} (F:Fun K "_law_kind" "_law_kind" (top 47) f fd) (B:Dl.Bn mg) (R:Dl.RefK K mg "NoSet" ["NoBack","NoOffers","NoOrder","NoPlace","NoRow","NoText","NoTie","NoWeb","TooMany"] CN CF c1 c2 c3 c4 c5 c6 c7 c8 c9):FnOkH P w K mg base 1 f fd ["_law_e"] (BP CN "set"):=by
 refine F.okH oZ (fun q vs H Q E h=>by rw [h.1]; rfl) (fun cdv A outer s H vs Q q hr hz h=>?_)
 obtain⟨a,oe,u⟩:=q
 obtain⟨rfl,hu,q⟩:=h
 have hu:u=kY a (.ref CN):=hu
 subst hu
 have nd:=oZ.nd
 letI:=grH (a,oe,kY a (.ref CN))
 refine⟨_,Wr.WDSs.h (Wr.aA (Wr.bD none (i:=1) nd rfl zQ (Wr.aM (Wr.aj (Wr.aC (Wr.aj Wr.aW (Wr.aj (Dl.fV (a:=a) (oe:=oe) (CN:=CN) B.isinstance R.kx (Wr.wv 0) (d7 (v:=.ref CN) rfl R.mN rfl) R.one (fun u z=>z)) Wr.ak))) (Wr.aj (Wr.aC (Wr.aj Wr.aW (Wr.aj (Dl.fV (a:=a) (oe:=oe) (CN:=CN) B.isinstance R.kx (Wr.wv 0) (d7 (v:=.ref c2) rfl R.m2 rfl) (R.no (.ref c2) (by simp)) (fun u z=>z)) Wr.ak))) (Wr.aj (Wr.aC (Wr.aj Wr.aW (Wr.aj (Dl.fV (a:=a) (oe:=oe) (CN:=CN) B.isinstance R.kx (Wr.wv 0) (d7 (v:=.ref c8) rfl R.m8 rfl) (R.no (.ref c8) (by simp)) (fun u z=>z)) Wr.ak))) Wr.ak)))))
  (Wr.aA (Wr.bD none (i:=1) nd rfl zQ (Wr.cA (Wr.dv 1) (Wr.aM (Wr.aj (Wr.aC (Wr.aj Wr.aW (Wr.aj (Dl.fV (a:=a) (oe:=oe) (CN:=CN) B.isinstance R.kx (Wr.wv 0) (d7 (v:=.ref c4) rfl R.m4 rfl) (R.no (.ref c4) (by simp)) (fun u z=>z)) Wr.ak))) (Wr.aj (Wr.aC (Wr.aj Wr.aW (Wr.aj (Dl.fV (a:=a) (oe:=oe) (CN:=CN) B.isinstance R.kx (Wr.wv 0) (d7 (v:=.ref c7) rfl R.m7 rfl) (R.no (.ref c7) (by simp)) (fun u z=>z)) Wr.ak))) (Wr.aj (Wr.aC (Wr.aj Wr.aW (Wr.aj (Dl.fV (a:=a) (oe:=oe) (CN:=CN) B.isinstance R.kx (Wr.wv 0) (d7 (v:=.ref c9) rfl R.m9 rfl) (R.no (.ref c9) (by simp)) (fun u z=>z)) Wr.ak))) Wr.ak))))))
  (Wr.aA (Wr.bD none (i:=1) nd rfl zQ (Wr.cA (Wr.dv 1) (Wr.aM (Wr.aj (Wr.aC (Wr.aj Wr.aW (Wr.aj (Dl.fV (a:=a) (oe:=oe) (CN:=CN) B.isinstance R.kx (Wr.wv 0) (d7 (v:=.ref c1) rfl R.m1 rfl) (R.no (.ref c1) (by simp)) (fun u z=>z)) Wr.ak))) (Wr.aj (Wr.aC (Wr.aj Wr.aW (Wr.aj (Dl.fV (a:=a) (oe:=oe) (CN:=CN) B.isinstance R.kx (Wr.wv 0) (d7 (v:=.ref c3) rfl R.m3 rfl) (R.no (.ref c3) (by simp)) (fun u z=>z)) Wr.ak))) (Wr.aj (Wr.aC (Wr.aj Wr.aW (Wr.aj (Dl.fV (a:=a) (oe:=oe) (CN:=CN) B.isinstance R.kx (Wr.wv 0) (d7 (v:=.ref c6) rfl R.m6 rfl) (R.no (.ref c6) (by simp)) (fun u z=>z)) Wr.ak))) Wr.ak))))))
  (Wr.aA (Wr.Fz none ["_law_word","_law_one"] (i:=2) ⟨_,.head _⟩ nd rfl zQ (Wr.vX (Wr.cA (Wr.dv 1) (Wr.aM (Wr.aj (Wr.aC (Wr.aj Wr.aW (Wr.aj (Dl.fV (a:=a) (oe:=oe) (CN:=CN) B.isinstance R.kx (Wr.wv 0) (d7 (v:=.ref c5) rfl R.m5 rfl) (R.no (.ref c5) (by simp)) (fun u z=>z)) Wr.ak))) Wr.ak)))) (fun c=>(Wr.v7 (n:=2) ⟨_,.head _⟩ (Wr.eO (Wr.aH (i:=0) jY rfl zQ) (Wr.eO (Wr.aH (i:=1) jY rfl zQ) Wr.nq)))) (fun c=>(Wr.dN (Wr.bI (Wr.dv 1)))) (fun c=>(Wr.dv 0)))
  (Wr.aA (Wr.cR (Wr.wpt (Wr.fU (Wr.d8 hr.units (Wr.dJ B.len (Wr.aj (Wr.dv 2) Wr.ak)) Wr.ao) (Wr.fB (Wr.cH (Wr.bI (Dl.fV (a:=a) (oe:=oe) (CN:=CN) B.isinstance R.kx (Wr.wv 0) (jG (v:=.ty "ValueError") rfl R.mV tE rfl) R.val (fun u z=>z))))))) (Wr.aF (Wr.aL Wr.aW)) Wr.aN)
  (Wr.aF (Wr.aL (Wr.aX (Wr.dv 2) Wr.ao)))))))),Rh hz q (by decide) ?_⟩
 refine⟨rfl,zK,rfl,zK,rfl,zK,zK,?_⟩
 refine dF (.inl rfl) ?_
 refine⟨rfl,zK,rfl,zK,rfl,zK,zK,?_⟩
 refine⟨zK,.inl ⟨rfl,?_⟩⟩
 refine dF (.inl rfl) ?_
 refine⟨rfl,zK,rfl,zK,rfl,zK,zK,?_⟩
 refine⟨zK,.inl ⟨rfl,?_⟩⟩
 refine dF (.inl rfl) ?_
 refine⟨rfl,zK,zK,zK,.inl ⟨rfl,?_⟩⟩
 refine pA [(("set":Str),true),("offers",false),("web",false),("place",false),("tie",false),("many",false),("back",false),("order",false),("text",false),("row",false)] (fun x=>PyData.tuple [.str x.1,.bool x.2]) (fun x=>x.2) (fun x=>PyData.str x.1) .imm rfl (by decide) (fun x hx A B hA hB=>⟨rfl,?_⟩) ?_
 ·show if x.2=true then _ else _
  exact dM (fun c=>⟨rfl,hA c⟩) (fun c=>hB (by simpa using c))
 show yM 2 none (fun _ P=>P .new (.list [.str "set"])) _ _
 refine dF (.inl rfl) ?_
 refine bR (A:=True) ⟨rfl,bR (A:=True) ⟨.str "set",rfl,rfl,rfl⟩⟩
end
theorem Io:∀ (n:Nat) (l:List Int),l.Nodup->(∀ x∈l,0<=x/\x<n)->l.length<=n
 | 0,l,_,h=>by
  cases l with
  | nil=>exact Nat.le_refl _
  | cons x l=>have:=h x List.mem_cons_self; omega
 | n+1,l,hn,h=>by
  have ih:=Io n (l.erase ((n:Nat):Int)) (hn.erase _) fun x hx=>by
   have hx:=hn.mem_erase_iff.mp hx
   have:=h x hx.2
   have:=hx.1
   omega
  rw [List.length_erase] at ih
  split at ih <;> omega
def TV (ds:List D) (P:D->Prop):Prop:=∃ i:Int,ds=[.int i]/\P (.bool true)
def Oq (ds:List D) (P:D->Prop):Prop:=∃ n us l,ds=[aR n us,iD l]/\Proper n l/\us.length<=100/\P (iD (fZ n us l))
def T5 (ds:List D) (P:D->Prop):Prop:=∃ n us l,ds=[aR n us,iD l]/\Proper n l/\us.length<=100/\P (.int (iY n us l))
def nrT (l:List Int) (v:Int) (t:Tie):Bool:=meets v t&&(decide (t.1∈l) || decide (t.2∈l))
theorem LR (us:List Tie) (l:List Int) (v:Int):(!decide (v∈l)&&!(us.filter (nrT l v)).isEmpty)=gJ us l v:=by
 unfold gJ
 by_cases hv:v∈l
 ·rw [decide_eq_true hv]
  rfl
 rw [decide_eq_false hv]
 show (!(us.filter (nrT l v)).isEmpty)=(us.filter (lv l)).any (meets v)
 rw [Bool.eq_iff_iff,Bool.not_eq_true',List.any_eq_true]
 constructor
 ·intro h
  obtain⟨t,ht⟩:=List.exists_mem_of_ne_nil (us.filter (nrT l v)) (fun z=>by rw [z] at h; cases h)
  obtain⟨hu,hm⟩:=List.mem_filter.mp ht
  unfold nrT meets at hm
  rw [Bool.and_eq_true,decide_eq_true_iff,Bool.or_eq_true,decide_eq_true_iff,decide_eq_true_iff] at hm
  refine⟨t,List.mem_filter.mpr ⟨hu,?_⟩,decide_eq_true hm.1⟩
  unfold lv
  rcases List.mem_cons.mp hm.1 with z | z
  ·have h1:¬ t.1∈l:=z ▸ hv
   rw [decide_eq_false h1,decide_eq_true (hm.2.resolve_left h1)]
   rfl
  ·have z:=List.mem_singleton.mp z
   have h1:¬ t.2∈l:=z ▸ hv
   rw [decide_eq_false h1,decide_eq_true (hm.2.resolve_right h1)]
   rfl
 ·rintro ⟨t,ht,hm⟩
  obtain⟨hu,hl⟩:=List.mem_filter.mp ht
  have:t∈us.filter (nrT l v):=List.mem_filter.mpr ⟨hu,by
   unfold nrT
   rw [hm,Bool.true_and]
   unfold lv at hl
   cases h1:decide (t.1∈l) <;> cases h2:decide (t.2∈l) <;> rw [h1,h2] at hl <;> first | rfl | cases hl⟩
  cases h:us.filter (nrT l v) with
  | nil=>rw [h] at this; cases this
  | cons _ _=>rfl
theorem Gq {n:Int}{i:Nat} (h:i<n.toNat):(upto n)[i]?=some (0+((i:Nat):Int)):=by
 unfold upto
 rw [List.getElem?_map,List.getElem?_range h]
 rfl
theorem wK (n:Int):(upto n).length=n.toNat:=by
 unfold upto
 rw [List.length_map,List.length_range]
theorem Kv (n:Int):(upto n).Nodup:=by
 unfold upto
 exact (List.nodup_range (n:=n.toNat)).map _ fun i j hij h=>hij (by omega)
theorem xP {n:Int}{us:List Tie}{l:List Int} (hP:Proper n l):(l.length:Int)+((fZ n us l).length:Int)<=n:=by
 have n1:1<n:=by
  have:=hP.one
  have:=hP.few
  omega
 have h:=Io n.toNat (l++fZ n us l) (List.nodup_append.mpr ⟨hP.rise.imp (fun h=>by omega),(Kv n).filter _,fun a ha b hb e=>?_⟩) fun x hx=>?_
 ·rw [List.length_append] at h
  omega
 ·subst e
  have:=(List.mem_filter.mp hb).2
  unfold gJ at this
  rw [decide_eq_true ha] at this
  cases this
 ·rw [show ((n.toNat:Nat):Int)=n by omega]
  rcases List.mem_append.mp hx with z | z
  ·exact hP.rng x z
  ·obtain⟨i,hi,rfl⟩:=List.mem_map.mp (List.mem_filter.mp z).1
   have:=List.mem_range.mp hi
   omega
theorem ne_nil (ts:List Tie):(!PyData.eqv (.list (ts.map pD)) (.list []))=!ts.isEmpty:=by
 cases ts <;> rfl
def RN (n:Int) (us:List Tie) (l:List Int) (i:Nat):List Sl:=[.im (aR n us),.sh (iD l),.dw 0 (iD (((upto n).take i).filter (gJ us l))),.any,.any]
section
variable {P:Program}{w:World}{K:W.Frag}{mg:Str->Option Value}{base:Heap}{f:Addr}{fd:FuncData}{CN:Addr}
theorem lB:FnScope ["_law_thing"] ["_law_thing"] (aq (top 48)):=zC
theorem vh (F:Fun K "_law_whole" "_law_whole" (top 48) f fd) (B:Dl.Bn mg):FnOk P w K mg base CX0 1 f fd ["_law_thing"] (spD TV):=by
 refine F.ok lB bA (fun cdv A outer s H vs Q E hr h=>?_)
 have nd:=lB.nd
 refine⟨_,Wr.WDSs.h (Wr.aF (Wr.aL (Wr.gw (Wr.cO Dd B.isinstance (Wr.dv 0) (Wr.wty rfl B.int boot_int)) (Wr.iu (Wr.u5 (Wr.cO yj B.isinstance (Wr.dv 0) (Wr.wty rfl B.bool boot_bool))))))),cj h ?_⟩
 rintro ds P ⟨i,rfl,q⟩
 refine⟨[.im (.int i)],rfl,?_⟩
 exact bQ (B:=True) ⟨rfl,q⟩
theorem oX:FnScope ["_law_web_here","_law_some","_law_found","_law_place","_law_met"] ["_law_web_here","_law_some"] (aq (top 49)):=zC
theorem sY:(["_law_tie","_law_web_here","_law_some","_law_found","_law_place","_law_met"]:List Str).Nodup:=by decide +kernel
theorem xu (F:Fun K "_law_near" "_law_near" (top 49) f fd) (B:Dl.Bn mg):FnOk P w K mg base CX0 1 f fd ["_law_web_here","_law_some"] (spD Oq):=by
 refine F.ok oX bA (fun cdv A outer s H vs Q E hr h=>?_)
 have nd:=oX.nd
 refine⟨_,Wr.WDSs.h (Wr.aA (Wr.bD (some 0) (i:=2) nd rfl zQ (Wr.aM Wr.ak))
  (Wr.aA (Wr.eV PassesOwn.never rfl (Wr.bZ B.range (Wr.aj (Wr.aX (Wr.dv 0) Wr.ao) Wr.ak)) (Wr.aH (i:=3) nd rfl zQ) (Wr.aA (Wr.mX none ["_law_tie"] (i:=4) rfl nd rfl zQ (Wr.cD (Wr.aX (Wr.dv 0) Wr.ao)) (fun c=>(Wr.aH (i:=0) sY rfl zQ)) (fun c=>(Wr.dN (Wr.wpt (Wr.dH (Wr.g8 hr.units (Wr.dv 4) (Wr.dv 0)) (Wr.cP (Wr.wpt (Wr.fU (Wr.g8 hr.units (Wr.aX (Wr.dv 0) Wr.ao) (Wr.dv 2)) (Wr.fB (Wr.g8 hr.units (Wr.aX (Wr.dv 0) Wr.ao) (Wr.dv 2)))))))))) (fun c=>(Wr.dv 0)))
  (Wr.aA (Wr.cR (Wr.wpt (Wr.dH (Wr.dX hr.units (Wr.dv 3) (Wr.dv 1)) (Wr.cP (Wr.d8 hr.units (Wr.dv 4) (Wr.aM Wr.ak))))) (Wr.aF (Wr.dB (Wr.wv 2) (Wr.aj (Wr.dv 3) Wr.ak))) Wr.aN) (Wr.aY [3,4] Wr.aN))))
  (Wr.aY [3,4] (Wr.aF (Wr.aL (Wr.dv 2)))))),cj h ?_⟩
 rintro ds P ⟨n,us,l,rfl,hP,hl,q⟩
 have n1:1<n:=by
  have:=hP.one
  have:=hP.few
  omega
 have n16:=hP.n16
 refine⟨[.im (aR n us),.sh (iD l),.any,.any,.any],?_,?_⟩
 ·show [aZ (aR n us),aZ (iD l),.any,.any,.any]=_
  rw [bV]
  rfl
 refine⟨by decide,.int n,rfl,⟨by omega,by omega⟩,rfl,fun (i:Nat) ρ=>ρ=RN n us l i,?_,?_,?_⟩
 ·show _=RN n us l 0
  rfl
 ·rintro i d ρ hd rfl
  obtain⟨hi,rfl⟩:=dY hd
  refine⟨.tuple (us.map pD),rfl,?_⟩
  refine pA us pD (nrT l (0+((i:Nat):Int))) pD .imm rfl (by omega) (fun t ht A B hA hB=>?_) ?_
  ·refine⟨rfl,rfl,?_⟩
   show if (([t.1,t.2].map PyData.int).any fun e=>PyData.eqv e (.int (0+((i:Nat):Int))))=true then _ else _
   rw [Dl.any_ints]
   have en:nrT l (0+((i:Nat):Int)) t=(decide ((0+((i:Nat):Int))∈[t.1,t.2])&&(decide (t.1∈l) || decide (t.2∈l))):=rfl
   refine dM (fun c=>?_) (fun c=>bR (hB ?_))
   ·rw [c,Bool.true_and] at en
    refine⟨.int t.1,rfl,rfl,d9 l,?_⟩
    show if ((l.map PyData.int).any fun e=>PyData.eqv e (.int t.1))=true then _ else _
    rw [Dl.any_ints]
    refine dM (fun c1=>bQ ⟨rfl,hA (by rw [en,c1]; rfl)⟩) (fun c1=>?_)
    refine⟨.int t.2,rfl,rfl,d9 l,?_⟩
    show if ((l.map PyData.int).any fun e=>PyData.eqv e (.int t.2))=true then _ else _
    rw [Dl.any_ints]
    have c1:decide (t.1∈l)=false:=by simpa using c1
    exact dM (fun c2=>⟨rfl,hA (by rw [en,c2,Bool.or_true])⟩) (fun c2=>hB (by
     have c2:decide (t.2∈l)=false:=by simpa using c2
     rw [en,c1,c2]
     rfl))
   ·have c:decide ((0+((i:Nat):Int))∈[t.1,t.2])=false:=Bool.eq_false_iff.mpr c
    rw [en,c]
    rfl
  refine dF (.inl rfl) ?_
  have tk:=List.take_add_one (l:=upto n) (i:=i)
  rw [Gq hi] at tk
  have ne:=LR us l (0+((i:Nat):Int))
  have lf:((upto n).take i |>.filter (gJ us l)).length<=16:=by
   have h1:=List.length_filter_le (gJ us l) ((upto n).take i)
   have h2:=List.length_take_le' i (upto n)
   rw [wK] at h2
   omega
  have no:gJ us l (0+((i:Nat):Int))=false->[Sl.im (aR n us),.sh (iD l),.dw 0 (iD (((upto n).take i).filter (gJ us l))),.any,.any]=RN n us l (i+1):=fun h=>by
   unfold RN
   rw [tk,List.filter_append]
   show _=[Sl.im (aR n us),.sh (iD l),.dw 0 (iD (((upto n).take i).filter (gJ us l)++([0+((i:Nat):Int)].filter (gJ us l)))),.any,.any]
   rw [List.filter_cons_of_neg (by rw [h]; exact Bool.false_ne_true),List.filter_nil,List.append_nil]
  have yes:gJ us l (0+((i:Nat):Int))=true->[Sl.im (aR n us),.sh (iD l),.dw 0 (.list ((((upto n).take i).filter (gJ us l)).map PyData.int++[.int (0+((i:Nat):Int))])),.any,.any]=RN n us l (i+1):=fun h=>by
   unfold RN
   rw [tk,List.filter_append]
   show _=[Sl.im (aR n us),.sh (iD l),.dw 0 (iD (((upto n).take i).filter (gJ us l)++([0+((i:Nat):Int)].filter (gJ us l)))),.any,.any]
   rw [List.filter_cons_of_pos h,List.filter_nil]
   unfold iD
   rw [List.map_append]
   rfl
  refine⟨rfl,d9 l,?_⟩
  show if (!((l.map PyData.int).any fun e=>PyData.eqv e (.int (0+((i:Nat):Int)))))=true then _ else _
  rw [Dl.any_ints]
  refine dM (fun c=>?_) (fun c=>bR (no ?_))
  ·refine⟨zK,tW _,rfl,?_⟩
   show if (!PyData.eqv (.list ((us.filter (nrT l (0+((i:Nat):Int)))).map pD)) (.list []))=true then _ else _
   rw [ne_nil]
   rw [c,Bool.true_and] at ne
   rw [ne]
   exact dM (fun c2=>⟨rfl,by rw [List.length_map]; omega,yes c2⟩) (fun c2=>no (by simpa using c2))
  ·rw [← ne]
   have c:(!decide ((0+((i:Nat):Int))∈l))=false:=by simpa using c
   rw [c]
   rfl
 ·rintro ρ rfl
  rw [bC]
  have e:(upto n).take n.toNat=upto n:=List.take_of_length_le (by rw [wK]; exact Nat.le_refl _)
  unfold RN
  rw [e]
  exact⟨rfl,q⟩
theorem qI:FnScope ["_law_web_here","_law_some","_law_near_here"] ["_law_web_here","_law_some"] (aq (top 50)):=zC
theorem Aa (F:Fun K "_law_due" "_law_due" (top 50) f fd) (B:Dl.Bn mg) (C__law_near:Dl.Cal P w K mg base 1 "_law_near" ["_law_web_here","_law_some"] (spD Oq)):FnOk P w K mg base CX0 2 f fd ["_law_web_here","_law_some"] (spD T5):=by
 refine F.ok qI bA (fun cdv A outer s H vs Q E hr h=>?_)
 have nd:=qI.nd
 refine⟨_,Wr.WDSs.h (Wr.aA (Wr.bD none (i:=2) nd rfl zQ (Wr.dJ B.len (Wr.aj (Wr.dc C__law_near hr (Wr.aj (Wr.dv 0) (Wr.aj (Wr.dv 1) Wr.ak))) Wr.ak)))
  (Wr.aA (Wr.cR (Wr.uZ (Wr.dv 2) Wr.ao) (Wr.aF (Wr.aL Wr.ao)) Wr.aN)
  (Wr.aF (Wr.aL (Wr.pY rfl B.min (Wr.aj (Wr.dI (Wr.dI (Wr.aX (Wr.dv 0) Wr.ao) (Wr.dJ B.len (Wr.aj (Wr.dv 1) Wr.ak))) (Wr.dv 2)) (Wr.aj (Wr.dI Wr.ao (Wr.dv 2)) Wr.ak))))))),cj h ?_⟩
 rintro ds P ⟨n,us,l,rfl,hP,hl,q⟩
 refine⟨[.im (aR n us),.sh (iD l),.any],?_,?_⟩
 ·show [aZ (aR n us),aZ (iD l),.any]=_
  rw [bV]
  rfl
 have rm:=xP (us:=us) hP
 refine⟨n,us,l,rfl,hP,hl,?_⟩
 unfold iY at q
 have l1:((l.map PyData.int).length:Int)=l.length:=by rw [List.length_map]
 have l2:(((fZ n us l).map PyData.int).length:Int)=(fZ n us l).length:=by rw [List.length_map]
 refine dM (fun c=>?_) (fun c=>?_)
 ·have c:(1:Int)<(((fZ n us l).map PyData.int).length:Nat):=of_decide_eq_true c
  have e:pnI n ((l.map PyData.int).length:Nat) (((fZ n us l).map PyData.int).length:Nat)=0:=by
   unfold pnI
   split <;> split <;> omega
  rw [e] at q
  exact⟨rfl,q⟩
 ·have c:¬ (1:Int)<(((fZ n us l).map PyData.int).length:Nat):=fun z=>c (decide_eq_true z)
  refine⟨.int n,rfl,rfl,?_⟩
  have e:pnI n ((l.map PyData.int).length:Nat) (((fZ n us l).map PyData.int).length:Nat)=if 2 - ((((fZ n us l).map PyData.int).length:Nat):Int)<n - (((l.map PyData.int).length:Nat):Int) - ((((fZ n us l).map PyData.int).length:Nat):Int) then 2 - ((((fZ n us l).map PyData.int).length:Nat):Int) else n - (((l.map PyData.int).length:Nat):Int) - ((((fZ n us l).map PyData.int).length:Nat):Int):=by
   have h0:(if (0:Int) > 2 - ((((fZ n us l).map PyData.int).length:Nat):Int) then 0 else 2 - ((((fZ n us l).map PyData.int).length:Nat):Int))=2 - ((((fZ n us l).map PyData.int).length:Nat):Int):=if_neg (by omega)
   unfold pnI
   rw [h0]
  rw [e] at q
  exact q
end
def KH (w:Str):D->Bool
 | .str x=>decide (x=w)
 | _=>false
def mR (w:Str) (c:Int):D->Bool
 | .tuple (e::es)=>decide ((((e::es).length:Nat):Int)=c)&&KH w e
 | _=>false
def Ow (ds:List D) (P:D->Prop):Prop:=∃ d w c,ds=[d,.str w,.int c]/\1<=c/\P (.bool (mR w c d))
def Ov (ds:List D) (P:D->Prop):Prop:=∃ t:Int,ds=[.int t]/\P (.int ((t+1) / 2))
theorem Oe {w:Str}{d:D} (h:mR w 2 d=true):∃ b,d=.tuple [.str w,b]:=by
 cases d with
 | tuple es =>
  match es,h with
  | x::r,h =>
   have h:(decide ((((x::r).length:Nat):Int)=2)&&KH w x)=true:=h
   rw [Bool.and_eq_true,decide_eq_true_eq] at h
   obtain⟨h1,h2⟩:=h
   have e:∃ b,r=[b]:=by
    match r,h1 with
    | [],h1=>exact absurd h1 (show ¬ (1:Int)=2 by decide)
    | [b],_=>exact⟨b,rfl⟩
    | _::_::r,h1=>exact absurd h1 (by simp only [List.length_cons]; omega)
   obtain⟨b,rfl⟩:=e
   cases x with
   | str s =>
    have:s=w:=of_decide_eq_true h2
    subst this
    exact⟨b,rfl⟩
   | _=>cases h2
 | _=>cases h
theorem mQ (w:Str) (b:D):mR w 2 (.tuple [.str w,b])=true:=by
 show (decide (((2:Nat):Int)=2)&&decide (w=w))=true
 rw [decide_eq_true (rfl:w=w)]
 rfl
theorem qb {w w':Str} (h:w≠w') (b:D):mR w' 2 (.tuple [.str w,b])=false:=by
 show (decide (((2:Nat):Int)=2)&&decide (w=w'))=false
 rw [decide_eq_false h]
 rfl
theorem Js:("place":Str)≠"family":=by decide +kernel
def ppB (n:Int) (d:D):Bool:=if mR "family" 2 d=true then (match d with | .tuple [_,b]=>yH n b | _=>false) else (mR "place" 2 d&&(match d with | .tuple [_,b]=>cY n b | _=>false))
def wC (d:D):Prop:=∀ a b,d=.tuple [a,b]->Bv b
def fPP (ds:List D) (P:D->Prop):Prop:=∃ n us d,ds=[aR n us,d]/\n<=16/\wC d/\P (.bool (ppB n d))
def pbF (n:Int) (us:List Tie) (L:List (List Int)):Int:=((L.map (iY n us)).sum+1) / 2
def pbV (n:Int) (us:List Tie) (v:Nat):Int:=if (0:Int) > ((((pwI n.toNat us v).map iD).length:Nat):Int) - 1 then 0 else ((((pwI n.toNat us v).map iD).length:Nat):Int) - 1
def Ra (CN:Addr):FX:=fun ds P R=>∃ n us d,ds=[aR n us,d]/\1<=n/\n<=16/\us.length<=100/\OkN n us/\wC d/\((ppB n d=false/\R (.ref CN))\/(∃ L:List (List Int),d=.tuple [.str "family",.list (L.map iD)]/\yH n (.list (L.map iD))=true/\(∀ l∈L,Proper n l)/\P (.int (pbF n us L)))\/∃ v:Nat,d=.tuple [.str "place",.int ((v:Nat):Int)]/\v<n.toNat/\P (.int (pbV n us v)))
theorem Hh {n:Int}{us:List Tie}{l:List Int} (h:Proper n l):0<=iY n us l/\iY n us l<=2:=by
 have rm:=xP (us:=us) h
 have l1:((l.map PyData.int).length:Int)=l.length:=by rw [List.length_map]
 have l2:(((fZ n us l).map PyData.int).length:Int)=(fZ n us l).length:=by rw [List.length_map]
 unfold iY pnI
 split <;> split <;> omega
theorem at0 {x:D}{r:List D}:atI (x::r) 0=some x:=by
 have:atI (x::r) ((0:Nat):Int)=some x:=iQ rfl
 exact this
section
variable {P:Program}{w:World}{K:W.Frag}{mg:Str->Option Value}{base:Heap}{f:Addr}{fd:FuncData}{CN:Addr}
theorem fP:FnScope ["total"] ["total"] (aq (top 33)):=zC
theorem kh (F:Fun K "half_made_whole" "half_made_whole" (top 33) f fd) (B:Dl.Bn mg):FnOk P w K mg base CX0 1 f fd ["total"] (spD Ov):=by
 refine F.ok fP bA (fun cdv A outer s H vs Q E hr h=>?_)
 have nd:=fP.nd
 refine⟨_,Wr.WDSs.h (Wr.aF (Wr.aL (Wr.pZ (Wr.cA (Wr.dv 0) Wr.ao) Wr.ao))),cj h ?_⟩
 rintro ds P ⟨t,rfl,q⟩
 refine⟨[.im (.int t)],rfl,?_⟩
 exact⟨⟨by decide,by decide⟩,rfl,q⟩
theorem o9:FnScope ["thing","word","count"] ["thing","word","count"] (aq (top 35)):=zC
theorem xK (F:Fun K "has_form" "has_form" (top 35) f fd) (B:Dl.Bn mg) (m_str:mg "str"=none):FnOk P w K mg base CX0 1 f fd ["thing","word","count"] (spD Ow):=by
 refine F.ok o9 bA (fun cdv A outer s H vs Q E hr h=>?_)
 have nd:=o9.nd
 refine⟨_,Wr.WDSs.h (Wr.aA (Wr.cR (Wr.wpt (Wr.fU (Wr.cH (Wr.bI (Wr.cO kit_tuple B.isinstance (Wr.dv 0) (Wr.wty rfl B.tuple boot_tuple)))) (Wr.fB (Wr.d8 hr.units (Wr.dJ B.len (Wr.aj (Wr.dv 0) Wr.ak)) (Wr.dv 2))))) (Wr.aF (Wr.aL Wr.gG)) Wr.aN)
  (Wr.aF (Wr.aL (Wr.gw (Wr.cO Mp B.isinstance (Wr.aX (Wr.dv 0) Wr.ao) (Wr.wty rfl m_str Dl.boot_str)) (Wr.iu (Wr.qU hr.units (Wr.aX (Wr.dv 0) Wr.ao) (Wr.dv 1))))))),cj h ?_⟩
 rintro ds P ⟨d,w,c,rfl,c1,q⟩
 refine⟨[aZ d,.im (.str w),.im (.int c)],rfl,?_⟩
 cases d with
 | tuple es =>
  rcases eF (.tuple es) with e | e
  all_goals
   rw [e]
   show if (!decide (((es.length:Nat):Int)=c))=true then _ else _
   by_cases h:((es.length:Nat):Int)=c
   ·rw [decide_eq_true h]
    refine bR ?_
    match es,h,q with
    | [],h,q=>exact absurd h (by show ¬ (0:Int)=c; omega)
    | x::r,h,q =>
     have a0:=at0 (x:=x) (r:=r)
     have q:P (.bool (decide ((((x::r).length:Nat):Int)=c)&&KH w x)):=q
     rw [decide_eq_true h,Bool.true_and] at q
     refine⟨x,a0,?_⟩
     cases x with
     | str s=>exact bQ (B:=True) ⟨.str s,a0,rfl,q⟩
     | _=>exact bR (A:=True) ⟨rfl,q⟩
   ·rw [decide_eq_false h]
    refine bQ ⟨rfl,?_⟩
    match es,h,q with
    | [],h,q=>exact q
    | x::r,h,q =>
     have q:P (.bool (decide ((((x::r).length:Nat):Int)=c)&&KH w x)):=q
     rw [decide_eq_false h,Bool.false_and] at q
     exact q
 | _=>exact bQ (B:=True) ⟨rfl,q⟩
theorem gj:FnScope ["web","thing"] ["web","thing"] (aq (top 39)):=zC
theorem lR (F:Fun K "is_place_paper" "is_place_paper" (top 39) f fd) (B:Dl.Bn mg) (C_has_form:Dl.Cal P w K mg base 1 "has_form" ["thing","word","count"] (spD Ow)) (C_is_family:Dl.Cal P w K mg base 5 "is_family" ["n","thing"] (spD T4)) (C_is_place:Dl.Cal P w K mg base 3 "is_place" ["web","thing"] (spD Jy)):FnOk P w K mg base CX0 6 f fd ["web","thing"] (spD fPP):=by
 refine F.ok gj bA (fun cdv A outer s H vs Q E hr h=>?_)
 have nd:=gj.nd
 refine⟨_,Wr.WDSs.h (Wr.aA (Wr.cR (Wr.bI (Wr.dc C_has_form hr (Wr.aj (Wr.dv 1) (Wr.aj Wr.aW (Wr.aj Wr.ao Wr.ak))))) (Wr.aF (Wr.aL (Wr.dc C_is_family hr (Wr.aj (Wr.aX (Wr.dv 0) Wr.ao) (Wr.aj (Wr.aX (Wr.dv 1) Wr.ao) Wr.ak))))) Wr.aN)
  (Wr.aF (Wr.aL (Wr.gw (Wr.dc C_has_form hr (Wr.aj (Wr.dv 1) (Wr.aj Wr.aW (Wr.aj Wr.ao Wr.ak)))) (Wr.iu (Wr.dc C_is_place hr (Wr.aj (Wr.dv 0) (Wr.aj (Wr.aX (Wr.dv 1) Wr.ao) Wr.ak)))))))),cj h ?_⟩
 rintro ds P ⟨n,us,d,rfl,n16,few,q⟩
 refine⟨[.im (aR n us),aZ d],?_,?_⟩
 ·show [aZ (aR n us),aZ d]=_
  rw [bV]
 unfold ppB at q
 rcases eF d with e | e
 all_goals
  rw [e]
  refine⟨d,"family",2,rfl,by decide,?_⟩
  show if mR "family" 2 d=true then _ else _
  refine dM (fun c=>?_) (fun c=>?_)
  ·rw [if_pos c] at q
   obtain⟨b,rfl⟩:=Oe c
   exact⟨.int n,rfl,b,rfl,n,b,rfl,few _ _ rfl,n16,rfl,q⟩
  ·rw [if_neg c] at q
   refine⟨d,"place",2,rfl,by decide,?_⟩
   show if mR "place" 2 d=true then _ else _
   refine dM (fun c2=>?_) (fun c2=>?_)
   ·rw [c2,Bool.true_and] at q
    obtain⟨b,rfl⟩:=Oe c2
    exact⟨b,rfl,n,us,b,rfl,rfl,q⟩
   ·have c2:mR "place" 2 d=false:=by simpa using c2
    rw [c2,Bool.false_and] at q
    exact⟨rfl,q⟩
theorem jf:FnScope ["web","paper"] ["web","paper"] (aq (top 40)):=zC
theorem oF:(["some","web","paper"]:List Str).Nodup:=by decide +kernel
theorem qZ {newId Bn0 initId:String}{bmB:List Value} (F:Fun K "place_bound" "place_bound" (top 40) f fd) (B:Dl.Bn mg) (m_sum:mg "sum"=none) (mX_NoSet:mg "NoSet"=some (.ref CN)) (XC_NoSet:ExcCls K CN newId bmB) (XB:ExcBaseFacts Bn0 newId initId bmB) (C_is_place_paper:Dl.Cal P w K mg base 6 "is_place_paper" ["web","thing"] (spD fPP)) (C_half_made_whole:Dl.Cal P w K mg base 1 "half_made_whole" ["total"] (spD Ov)) (C_place_need:Dl.Cal1 P w K mg base 8 "place_need" ["web","some"] (spX (T3 CN))) (C_parts_without:Dl.Cal P w K mg base 5 "parts_without" ["web","v"] (spD fPW)):FnOk P w K mg base (CX1 P w) 9 f fd ["web","paper"] (spX (Ra CN)):=by
 refine F.ok1 jf mH (fun cdv A outer s H vs Q E hr h=>?_)
 have nd:=jf.nd
 letI:=grX H
 refine⟨_,Wr.WDSs.h (Wr.aA (Wr.cR (Wr.cH (Wr.bI (Wr.dc C_is_place_paper hr (Wr.aj (Wr.dv 0) (Wr.aj (Wr.dv 1) Wr.ak))))) (Wr.aF (Wr.mZ (E:=E) mG rfl rfl mX_NoSet XC_NoSet XB (Wr.aj Wr.aW Wr.ak))) Wr.aN)
  (Wr.aA (Wr.cR (Wr.cI hr.units (Wr.aX (Wr.dv 1) Wr.ao) Wr.aW) (Wr.aF (Wr.aL (Wr.dc C_half_made_whole hr (Wr.aj (Wr.pX rfl m_sum (Wr.aj (Wr.iZ ["some"] rfl (Wr.cD (Wr.aX (Wr.dv 1) Wr.ao)) (fun c=>(Wr.aH (i:=0) oF rfl zQ)) (fun c=>Wr.dO) (fun c=>(Wr.dcF C_place_need hr (Wr.aj (Wr.dv 1) (Wr.aj (Wr.dv 0) Wr.ak))))) Wr.ak)) Wr.ak)))) Wr.aN)
  (Wr.aF (Wr.aL (Wr.lO rfl B.max (Wr.aj (Wr.dI (Wr.dJ B.len (Wr.aj (Wr.dc C_parts_without hr (Wr.aj (Wr.dv 0) (Wr.aj (Wr.aX (Wr.dv 1) Wr.ao) Wr.ak))) Wr.ak)) Wr.ao) (Wr.aj Wr.ao Wr.ak))))))),enterX h ?_ ?mono⟩
 case mono=>exact fun ds P R R' hR ⟨n,us,d,e,n1,n16,hl,ok,hf,x⟩=>⟨n,us,d,e,n1,n16,hl,ok,hf,x.imp (fun z=>⟨z.1,hR _ z.2⟩) id⟩
 rintro ds P ⟨n,us,d,rfl,n1,n16,hl,ok,hf,x⟩
 refine⟨[.im (aR n us),aZ d],?_,?_⟩
 ·show [aZ (aR n us),aZ d]=_
  rw [bV]
 rcases x with ⟨e,r⟩ | ⟨L,rfl,e,hL,t⟩ | ⟨v,rfl,hv,t⟩
 ·rcases eF d with e2 | e2
  all_goals
   rw [e2]
   refine⟨n,us,d,rfl,n16,hf,?_⟩
   show if (!ppB n d)=true then _ else _
   rw [e]
   exact bQ (B:=True) ⟨by decide,r⟩
 ·have e2:aZ (.tuple [.str "family",.list (L.map iD)])=.sh (.tuple [.str "family",.list (L.map iD)]):=rfl
  rw [e2]
  refine⟨n,us,_,rfl,n16,hf,?_⟩
  have e3:ppB n (.tuple [.str "family",.list (L.map iD)])=true:=by
   unfold ppB
   rw [if_pos (mQ _ _)]
   exact e
  show if (!ppB n (.tuple [.str "family",.list (L.map iD)]))=true then _ else _
  rw [e3]
  refine bR (A:=True) ?_
  refine⟨.str "family",rfl,?_⟩
  refine bQ (B:=True) ?_
  have few:=hf _ _ rfl _ rfl
  rw [List.length_map] at few
  refine⟨.list (L.map iD),rfl,Jd L iD (fun l=>.int (iY n us l)) .imm rfl (by omega) (fun l hl' A B hA=>?_) ?_⟩
  ·refine bQ (B:=B) ⟨n,us,iD l,rfl,hl,few.2 _ (List.mem_map.mpr ⟨l,hl',rfl⟩),n16,.inr ⟨l,rfl,hL l hl',fun r hr=>?_⟩⟩
   subst hr
   exact⟨rfl,hA⟩
  ·refine⟨L.map (iY n us),by rw [List.map_map]; rfl,by rw [List.length_map]; omega,fun x hx=>?_,?_⟩
   ·obtain⟨l,hl',rfl⟩:=List.mem_map.mp hx
    have:=Hh (us:=us) (hL l hl')
    omega
   ·exact⟨_,rfl,rfl,t⟩
 ·have e2:aZ (.tuple [.str "place",.int ((v:Nat):Int)])=.im (.tuple [.str "place",.int ((v:Nat):Int)]):=rfl
  rw [e2]
  refine⟨n,us,_,rfl,n16,hf,?_⟩
  have e3:ppB n (.tuple [.str "place",.int ((v:Nat):Int)])=true:=by
   unfold ppB
   rw [if_neg (by rw [qb Js]; exact Bool.false_ne_true),mQ,Bool.true_and]
   show decide (0<=((v:Nat):Int)/\((v:Nat):Int)<n)=true
   exact decide_eq_true (by omega)
  show if (!ppB n (.tuple [.str "place",.int ((v:Nat):Int)]))=true then _ else _
  rw [e3]
  refine bR (A:=True) ?_
  refine⟨.str "place",rfl,?_⟩
  refine bR (A:=True) ?_
  exact⟨.int ((v:Nat):Int),rfl,n,us,v,rfl,n1,by omega,hl,ok,hv,rfl,t⟩
end
def rD (Ls:List (List Int)):List (List D):=Ls.map fun l=>l.map PyData.int
theorem yg:∀ {l:List Int}{lo hi:Int},l.Pairwise (·<·)->(∀ x∈l,lo<=x/\x<hi)->lo<=hi->l.length<=(hi - lo).toNat
 | [],_,_,_,_,_=>Nat.zero_le _
 | a::l,lo,hi,h,r,hh=>by
  have ha:=r a List.mem_cons_self
  have h:=List.pairwise_cons.mp h
  have:=yg (lo:=a+1) (hi:=hi) h.2 (fun x hx=>⟨by have:=h.1 x hx; omega,(r x (List.mem_cons_of_mem _ hx)).2⟩) (by omega)
  rw [List.length_cons]
  omega
structure Rws (i:Int) (m:Nat) (Ls:List (List Int)):Prop where
 len:Ls.length=m
 srt:∀ l∈Ls,l.Pairwise (·<·)
 rng:∀ l∈Ls,∀ x∈l,0<=x/\x<i
 nd:Ls.flatten.Nodup
theorem yF:∀ {Ls:List (List Int)}{j:Nat}{l:List Int} (x:Int),Ls[j]?=some l->(Ls.set j (l++[x])).flatten.Perm (x::Ls.flatten)
 | [],_,_,_,h=>by cases h
 | a::Ls,0,l,x,h=>by
  cases h
  rw [List.set_cons_zero,List.flatten_cons,List.flatten_cons,List.append_assoc]
  exact List.perm_middle
 | a::Ls,j+1,l,x,h=>by
  rw [List.set_cons_succ,List.flatten_cons,List.flatten_cons]
  exact ((yF x (by simpa using h)).append_left a).trans List.perm_middle
theorem Rws.put {i:Nat}{m:Nat}{Ls:List (List Int)} (h:Rws i m Ls) {j:Nat}{l:List Int} (hj:Ls[j]?=some l):Rws ((i+1:Nat):Int) m (Ls.set j (l++[((i:Nat):Int)])):=by
 have hl:=List.mem_of_getElem? hj
 refine⟨by rw [List.length_set]; exact h.len,fun a ha=>?_,fun a ha x hx=>?_,?_⟩
 ·rcases List.mem_or_eq_of_mem_set ha with z | rfl
  ·exact h.srt a z
  ·refine List.pairwise_append.mpr ⟨h.srt l hl,by simp,fun x hx y hy=>?_⟩
   rw [List.mem_singleton.mp hy]
   exact (h.rng l hl x hx).2
 ·rcases List.mem_or_eq_of_mem_set ha with z | rfl
  ·have:=h.rng a z x hx
   omega
  ·rcases List.mem_append.mp hx with z | z
   ·have:=h.rng l hl x z
    omega
   ·rw [List.mem_singleton.mp z]
    omega
 ·refine (yF _ hj).symm.nodup ?_
  refine List.nodup_cons.mpr ⟨fun z=>?_,h.nd⟩
  obtain⟨a,ha,hx⟩:=List.mem_flatten.mp z
  have:=(h.rng a ha _ hx).2
  omega
theorem qx:∀ {A B:List (List Int)},A.Sublist B->A.flatten.Sublist B.flatten
 | _,_,.slnil=>.slnil
 | _,_,.cons b h=>by
  rw [List.flatten_cons]
  exact (qx h).trans (List.sublist_append_right _ _)
 | _,_,.cons₂ b h=>by
  rw [List.flatten_cons,List.flatten_cons]
  exact (List.Sublist.refl b).append (qx h)
structure IsFam (n:Int) (L:List (List Int)):Prop where
 pr:∀ l∈L,Proper n l
 nd:L.flatten.Nodup
 few:L.length<=60
theorem wL:∀ l:List Int,(l.map PyData.int).map toI=l
 | []=>rfl
 | x::l=>by rw [List.map_cons,List.map_cons,wL l]; rfl
theorem ur:∀ L:List (List Int),(L.map iD).flatMap gq=L.flatten
 | []=>rfl
 | l::L=>by
  rw [List.map_cons,List.flatMap_cons,ur L,List.flatten_cons]
  congr 1
  exact wL l
theorem IsFam.yes {n:Int}{L:List (List Int)} (h:IsFam n L):yH n (.list (L.map iD))=true:=by
 show ((L.map iD).all (bx n)&&vA ((L.map iD).flatMap gq))=true
 rw [ur,Bool.and_eq_true]
 refine⟨List.all_eq_true.mpr fun d hd=>?_,decide_eq_true ((qY _).mpr h.nd)⟩
 obtain⟨l,hl,rfl⟩:=List.mem_map.mp hd
 exact qO (h.pr l hl)
theorem IsFam.TQ {n:Int}{L:List (List Int)} (h:IsFam n L) (n16:n<=16):Bv (.list (L.map iD)):=fun es e=>by
 cases e
 refine⟨by rw [List.length_map]; exact h.few,fun d hd=>?_⟩
 obtain⟨l,hl,rfl⟩:=List.mem_map.mp hd
 have:=(h.pr l hl).few
 exact yG (by omega)
theorem J3 {α:Type} (l:List α) (m:Nat):gb l (some (m:Int)) none=l.drop m:=by
 unfold gb
 have e1:HT.sIx l.length 0 (some (m:Int))=min m l.length:=HT.Ce _ _ m
 have e2:HT.sIx l.length l.length none=l.length:=rfl
 rw [e1,e2]
 by_cases h:m<=l.length
 ·rw [Nat.min_eq_left h,List.take_of_length_le (by rw [List.length_drop]; exact Nat.le_refl _)]
 ·rw [Nat.min_eq_right (by omega),List.drop_eq_nil_of_le (Nat.le_refl _),List.drop_eq_nil_of_le (by omega),List.take_nil]
def Ox (ds:List D) (P:D->Prop):Prop:=∃ n:Int,ds=[.int n]/\1<=n/\n<=8/\∀ L:List (List Int),IsFam n L->L.length<=9->P (.list (L.map iD))
section
variable {P:Program}{w:World}{K:W.Frag}{mg:Str->Option Value}{base:Heap}{f:Addr}{fd:FuncData}{CN:Addr}
theorem jW:FnScope ["_law_pen_here","_law_n","_law_groups","_law_many_here","_law_v","_law_found"] ["_law_pen_here","_law_n"] (aq (top 52)):=zC
theorem pK:(["_law_k","_law_pen_here","_law_n","_law_groups","_law_many_here","_law_v","_law_found"]:List Str).Nodup:=by decide +kernel
theorem pJ:(["_law_some","_law_pen_here","_law_n","_law_groups","_law_many_here","_law_v","_law_found"]:List Str).Nodup:=by decide +kernel
theorem sX (F:Fun K "_law_family" "_law_family" (top 52) f fd) (B:Dl.Bn mg) (C__law_draw:Dl.Cal P w K mg base 1 "_law_draw" ["_law_pen_here","_law_many_here"] (je 1 mW)):FnOk P w K mg base CX0 2 f fd ["_law_pen_here","_law_n"] (je 1100 Ox):=by
 refine F.ok jW jr (fun cdv A outer s H vs Q E hr h=>?_)
 have nd:=jW.nd
 refine⟨_,Wb.BSs.h (Wb.cons (Wb.s0 (Wr.mY 0 ["_law_k"] (i:=2) rfl nd rfl zQ (Wr.bZ B.range (Wr.aj (Wr.cA (Wr.dv 1) Wr.ao) Wr.ak)) (fun c=>(Wr.aH (i:=0) pK rfl zQ))))
  (Wb.cons (Wb.set none (i:=3) nd rfl zQ (Wb.plus (Wb.e0 Wr.ao) (Wb.dcP C__law_draw hr (Wr.wv 0) (Wb.a0 (Wr.aj (Wr.cA (Wr.dv 1) Wr.ao) Wr.ak)))))
  (Wb.j5 (Wb.for_ PassesOwn.never rfl (Wb.i0 (Wr.bZ B.range (Wr.aj (Wr.dv 1) Wr.ak))) (Wr.aH (i:=4) nd rfl zQ) (Wb.cons (Wb.PK (Wr.wv 2) (Wb.dcP C__law_draw hr (Wr.wv 0) (Wb.a0 (Wr.aj (Wr.dv 3) Wr.ak))) (Wr.aj (Wr.dv 4) Wr.ak)) (Wb.drops [4] (Wb.ss0 Wr.aN))))
  (Wb.drops [4] (Wb.frz 2 (Wb.cons (Wb.R5 none ["_law_some"] (i:=5) rfl nd rfl zQ (Wb.seq (Wb.from_ (Wr.dv 2) (Wb.sub (Wb.e0 Wr.ao) (Wb.dcP C__law_draw hr (Wr.wv 0) (Wb.a0 (Wr.aj Wr.ao Wr.ak)))))) (fun c=>(Wr.aH (i:=0) pJ rfl zQ)) (fun c=>(Wb.ts0 (Wr.dN (Wr.ou xg xg Wr.ao (Wr.dJ B.len (Wr.aj (Wr.dv 0) Wr.ak)) (Wr.dv 2))))) (fun c=>(Wb.e0 (Wr.dv 0))))
  (Wb.one (Wb.ret (Wb.ix (Wb.e0 (Wr.aM (Wr.aj (Wr.dv 5) (Wr.aj (Wr.u0 (Wr.dv 5)) Wr.ak)))) (Wb.dcP C__law_draw hr (Wr.wv 0) (Wb.a0 (Wr.aj Wr.ao Wr.ak)))))))))))),Wb.Bf h rfl ?_⟩
 rintro ds P ⟨n,rfl,n1,n8,q⟩
 refine⟨[.im (.int n),.any,.any,.any,.any],rfl,?_⟩
 refine⟨⟨by omega,by omega⟩,by rw [bC]; omega,rfl,?_⟩
 rw [bC]
 have hm:2<=(n+1).toNat/\(n+1).toNat<=9:=by omega
 have hmn:(((n+1).toNat:Nat):Int)=n+1:=by omega
 generalize (n+1).toNat=m at hm hmn
 refine⟨rfl,n+1,rfl,by omega,by omega,fun r r0 r1=>?_⟩
 refine⟨fun ρ=>∃ Ls:List (List Int),ρ=[.pen TP,.im (.int n),.rw 0 (rD Ls),.im (.int (1+r)),.any,.any]/\Rws n m Ls,?_,?_⟩
 ·refine⟨⟨by omega,by omega⟩,by rw [bC]; omega,rfl,fun (i:Nat) ρ=>∃ Ls:List (List Int),ρ=[.pen TP,.im (.int n),.rw 0 (rD Ls),.im (.int (1+r)),.any,.any]/\Rws i m Ls,?_,?_,?_⟩
  ·refine⟨List.replicate m [],?_,List.length_replicate ..,fun l hl=>?_,fun l hl x hx=>?_,?_⟩
   ·unfold rD
    rw [List.map_replicate]
    rfl
   ·rw [(List.mem_replicate.mp hl).2]; exact .nil
   ·rw [(List.mem_replicate.mp hl).2] at hx; cases hx
   ·simp
  ·rintro i d ρ hd ⟨Ls,rfl,R⟩
   obtain⟨hi,rfl⟩:=dY hd
   have lr:((rD Ls).map PyData.list).length=m:=by unfold rD; rw [List.length_map,List.length_map]; exact R.len
   refine⟨rfl,_,rfl,by omega,by omega,fun j j0 j1=>?_⟩
   have hj:j.toNat<Ls.length:=by rw [R.len]; omega
   have h1:=List.getElem?_eq_getElem hj
   generalize Ls[j.toNat]=l at h1
   have hl:=List.mem_of_getElem? h1
   have ll:l.length<=8:=by
    have:=yg (R.srt l hl) (R.rng l hl) (by omega)
    omega
   refine⟨j.toNat,l.map PyData.int,?_,by unfold rD; rw [List.getElem?_map,h1]; rfl,rfl,by rw [List.length_map]; omega,Ls.set j.toNat (l++[((i:Nat):Int)]),?_,R.put h1⟩
   ·unfold ixN
    unfold rD
    rw [if_pos j0,if_pos (by rw [List.length_map,R.len]; omega)]
   ·have e:(rD Ls).set j.toNat (l.map PyData.int++[PyData.int (0+((i:Nat):Int))])=rD (Ls.set j.toNat (l++[((i:Nat):Int)])):=by
     unfold rD
     rw [List.map_set,List.map_append,Int.zero_add]
     rfl
    rw [← e]
    rfl
  ·rintro ρ ⟨Ls,rfl,R⟩
   rw [bC] at R
   have e:((n.toNat:Nat):Int)=n:=by omega
   rw [e] at R
   exact⟨Ls,rfl,R⟩
 rintro ρ ⟨Ls,rfl,R⟩
 have eD:(rD Ls).map PyData.list=Ls.map iD:=by unfold rD; rw [List.map_map]; rfl
 refine⟨rfl,?_⟩
 rw [eD]
 refine⟨rfl,2,rfl,by decide,by decide,fun y y0 y1=>?_⟩
 have ec:gb (Ls.map iD) (some (1 - y)) none=(Ls.drop (1 - y).toNat).map iD:=by
  rw [show (1 - y:Int)=(((1 - y).toNat:Nat):Int) by omega,J3,List.map_drop]
  rfl
 have sb:(Ls.drop (1 - y).toNat).Sublist Ls:=List.drop_sublist _ _
 generalize (Ls.drop (1 - y).toNat)=Ms at ec sb
 have lM:Ms.length<=9:=by have:=sb.length_le; rw [R.len] at this; omega
 refine .inr ?_
 rw [ec]
 have gd:∀ l:List Int,((l.map PyData.int).length:Int)=l.length:=fun l=>by rw [List.length_map]
 refine pA Ms iD (fun l=>decide ((0:Int)<l.length/\(l.length:Int)<n)) iD .snw rfl (by omega) (fun l hl A B hA hB=>?_) ?_
 ·have gl:=gd l
  refine dM (fun c1=>?_) (fun c1=>bR (A:=True) (hB ?_))
  ·have c1:(0:Int)<((l.map PyData.int).length:Nat):=of_decide_eq_true c1
   refine dM (fun c2=>?_) (fun c2=>hB ?_)
   ·have c2:(((l.map PyData.int).length:Nat):Int)<n:=of_decide_eq_true c2
    exact⟨rfl,hA (decide_eq_true ⟨by omega,by omega⟩)⟩
   ·exact decide_eq_false fun z=>c2 (decide_eq_true (by omega))
  ·exact decide_eq_false fun z=>c1 (decide_eq_true (by omega))
 refine dF (.inr rfl) ?_
 have fam:IsFam n (Ms.filter fun l=>decide ((0:Int)<l.length/\(l.length:Int)<n)):=by
  have s2:=(List.filter_sublist (p:=fun l:List Int=>decide ((0:Int)<l.length/\(l.length:Int)<n)) (l:=Ms)).trans sb
  refine⟨fun l hl=>?_,R.nd.sublist (qx s2),by have:=s2.length_le; rw [R.len] at this; omega⟩
  have hc:=of_decide_eq_true (List.mem_filter.mp hl).2
  have hm:=s2.subset hl
  exact⟨by omega,hc.2,R.rng l hm,R.srt l hm,by omega⟩
 have lF:(Ms.filter fun l=>decide ((0:Int)<l.length/\(l.length:Int)<n)).length<=9:=Nat.le_trans (List.length_filter_le _ _) lM
 generalize (Ms.filter fun l=>decide ((0:Int)<l.length/\(l.length:Int)<n))=F at fam lF
 refine .inr ⟨zK,rfl,2,rfl,by decide,by decide,fun z z0 z1=>?_⟩
 have:z=0\/z=1:=by omega
 rcases this with rfl | rfl
 ·exact⟨_,rfl,rfl,q F fam lF⟩
 ·refine⟨_,rfl,rfl,?_⟩
  rw [← List.map_reverse]
  exact q F.reverse ⟨fun l hl=>fam.pr l (List.mem_reverse.mp hl),(List.reverse_perm F).flatten.symm.nodup fam.nd,by rw [List.length_reverse]; exact fam.few⟩ (by rw [List.length_reverse]; exact lF)
end
def Pap (n:Int) (us:List Tie) (d:D) (x:Int):Prop:=(∃ L:List (List Int),d=.tuple [.str "family",.list (L.map iD)]/\IsFam n L/\x=pbF n us L)\/∃ v:Nat,d=.tuple [.str "place",.int ((v:Nat):Int)]/\v<n.toNat/\x=pbV n us v
def fBd (ds:List D) (P:D->Prop):Prop:=∃ n us d x,ds=[aR n us,d]/\1<=n/\n<=16/\us.length<=100/\OkN n us/\Pap n us d x/\P (.int x)
def TY (ds:List D) (P:D->Prop):Prop:=∃ n us d x,ds=[aR n us,d,d]/\1<=n/\n<=16/\us.length<=100/\OkN n us/\Pap n us d x/\P (.bool true)
theorem Qs {n:Int}{us:List Tie}{d:D}{x:Int} (h:Pap n us d x):okD d=true/\PyData.eqv d d=true:=by
 rcases h with ⟨L,rfl,fam,_⟩ | ⟨v,rfl,_,_⟩
 ·have h1:=Ai L
  have h2:=rR L
  have h3:PyData.canLay0 (.str "family")=true:=by decide +kernel
  have h4:("family":Str) == "family":=by decide +kernel
  refine⟨?_,?_⟩
  ·show ((PyData.canLay0 (.str "family")&&(PyData.canLayAll0 (L.map iD)&&true))&&decide (PyData.depth (.tuple [.str "family",.list (L.map iD)])<=60))=true
   rw [h3,h1]
   refine decide_eq_true ?_
   show max 0 (max (PyData.depthAll (L.map iD)+1) 0)+1<=60
   omega
  ·show ((("family":Str) == "family")&&(PyData.eqvAll (L.map iD) (L.map iD)&&true))=true
   rw [Bd,decide_eq_true rfl,h4]
   rfl
 ·have h3:PyData.canLay0 (.str "place")=true:=by decide +kernel
  have h4:("place":Str) == "place":=by decide +kernel
  refine⟨?_,?_⟩
  ·show ((PyData.canLay0 (.str "place")&&true)&&true)=true
   rw [h3]
   rfl
  ·show ((("place":Str) == "place")&&((((v:Nat):Int) == ((v:Nat):Int))&&true))=true
   rw [h4,beq_self_eq_true]
   rfl
theorem Ln {n:Int}{us:List Tie}{d:D}{x:Int} (n16:n<=16) (h:Pap n us d x):wC d:=by
 rcases h with ⟨L,rfl,fam,_⟩ | ⟨v,rfl,_,_⟩
 ·rintro a b e
  cases e
  exact fam.TQ n16
 ·rintro a b e
  cases e
  exact fun es e=>nomatch e
section
variable {P:Program}{w:World}{K:W.Frag}{mg:Str->Option Value}{base:Heap}{f:Addr}{fd:FuncData}{CN:Addr}
theorem lE:FnScope ["_law_web_here","_law_paper","_law_needs"] ["_law_web_here","_law_paper"] (aq (top 53)):=zC
theorem rE:(["_law_some","_law_web_here","_law_paper","_law_needs"]:List Str).Nodup:=by decide +kernel
theorem vp (F:Fun K "_law_bound" "_law_bound" (top 53) f fd) (B:Dl.Bn mg) (m_sum:mg "sum"=none) (C__law_many:Dl.Cal P w K mg base 1 "_law_many" ["_law_web_here","_law_gone"] (spD Ot)) (C__law_due:Dl.Cal P w K mg base 2 "_law_due" ["_law_web_here","_law_some"] (spD T5)):FnOk P w K mg base CX0 3 f fd ["_law_web_here","_law_paper"] (spD fBd):=by
 refine F.ok lE bA (fun cdv A outer s H vs Q E hr h=>?_)
 have nd:=lE.nd
 refine⟨_,Wr.WDSs.h (Wr.aA (Wr.cR (Wr.cI hr.units (Wr.aX (Wr.dv 1) Wr.ao) Wr.aW) (Wr.aF (Wr.aL (Wr.lO rfl B.max (Wr.aj Wr.ao (Wr.aj (Wr.dI (Wr.dc C__law_many hr (Wr.aj (Wr.dv 0) (Wr.aj (Wr.aM (Wr.aj (Wr.aX (Wr.dv 1) Wr.ao) Wr.ak)) Wr.ak))) Wr.ao) Wr.ak))))) Wr.aN)
  (Wr.aA (Wr.bD none (i:=2) nd rfl zQ (Wr.pX rfl m_sum (Wr.aj (Wr.iZ ["_law_some"] rfl (Wr.cD (Wr.aX (Wr.dv 1) Wr.ao)) (fun c=>(Wr.aH (i:=0) rE rfl zQ)) (fun c=>Wr.dO) (fun c=>(Wr.dc C__law_due hr (Wr.aj (Wr.dv 1) (Wr.aj (Wr.dv 0) Wr.ak))))) Wr.ak)))
  (Wr.aF (Wr.aL (Wr.cA (Wr.pZ (Wr.dv 2) Wr.ao) (Wr.u6 (Wr.dv 2) Wr.ao)))))),cj h ?_⟩
 rintro ds P ⟨n,us,d,x,rfl,n1,n16,hl,ok,pap,q⟩
 rcases pap with ⟨L,rfl,fam,rfl⟩ | ⟨v,rfl,hv,rfl⟩
 ·refine⟨[.im (aR n us),.sh (.tuple [.str "family",.list (L.map iD)]),.any],?_,?_⟩
  ·show [aZ (aR n us),_,.any]=_
   rw [bV]
   rfl
  refine⟨.str "family",rfl,?_⟩
  refine bR (A:=True) ?_
  have fw:=fam.few
  refine⟨.list (L.map iD),rfl,Jd L iD (fun l=>.int (iY n us l)) .imm rfl (by omega) (fun l hl' A B hA=>bQ (B:=B) ⟨n,us,l,rfl,fam.pr l hl',hl,rfl,hA⟩) ?_⟩
  refine⟨L.map (iY n us),by rw [List.map_map]; rfl,by rw [List.length_map]; omega,fun x hx=>?_,?_⟩
  ·obtain⟨l,hl',rfl⟩:=List.mem_map.mp hx
   have:=Hh (us:=us) (fam.pr l hl')
   omega
  unfold pbF at q
  generalize (L.map (iY n us)).sum=s at q
  refine⟨⟨by decide,by decide⟩,(show (0:Int)<2 by decide),rfl,?_⟩
  show P (.int (s / 2+s % 2))
  rw [show s / 2+s % 2=(s+1) / 2 by omega]
  exact q
 ·refine⟨[.im (aR n us),.im (.tuple [.str "place",.int ((v:Nat):Int)]),.any],?_,?_⟩
  ·show [aZ (aR n us),_,.any]=_
   rw [bV]
   rfl
  refine⟨.str "place",rfl,?_⟩
  refine bQ (B:=True) ?_
  refine⟨.int ((v:Nat):Int),rfl,zK,n,us,[((v:Nat):Int)],adj (noV us ((v:Nat):Int)) [] [],rfl,by omega,by omega,hl,ok,DP,Nk ok _,?_⟩
  rw [Ni]
  refine⟨rfl,?_⟩
  unfold pbV at q
  rw [List.length_map] at q
  show P (.int (if ((((pwI n.toNat us v).length:Nat):Int) - 1) > 0 then ((((pwI n.toNat us v).length:Nat):Int) - 1) else 0))
  generalize (((pwI n.toNat us v).length:Nat):Int)=c at q
  by_cases h:c - 1 > 0
  ·rw [if_pos h]
   rw [if_neg (by omega)] at q
   exact q
  ·rw [if_neg h]
   by_cases h2:(0:Int) > c - 1
   ·rw [if_pos h2] at q
    exact q
   ·rw [if_neg h2] at q
    rw [show (0:Int)=c - 1 by omega]
    exact q
theorem lC:FnScope ["_law_web_here","_law_paper","_law_kept","_law_found"] ["_law_web_here","_law_paper","_law_kept"] (aq (top 54)):=zC
theorem vm (F:Fun K "_law_right" "_law_right" (top 54) f fd) (B:Dl.Bn mg) (C_place_bound:Dl.Cal1 P w K mg base 9 "place_bound" ["web","paper"] (spX (Ra CN))) (C__law_bound:Dl.Cal P w K mg base 3 "_law_bound" ["_law_web_here","_law_paper"] (spD fBd)) (C__law_whole:Dl.Cal P w K mg base 1 "_law_whole" ["_law_thing"] (spD TV)):FnOk P w K mg base CX0 10 f fd ["_law_web_here","_law_paper","_law_kept"] (spD TY):=by
 refine F.ok lC bA (fun cdv A outer s H vs Q E hr h=>?_)
 have nd:=lC.nd
 refine⟨_,Wr.WDSs.h (Wr.aA (Wr.bD none (i:=3) nd rfl zQ (Wr.dcF C_place_bound hr (Wr.aj (Wr.dv 0) (Wr.aj (Wr.dv 1) Wr.ak))))
  (Wr.aF (Wr.aL (Wr.gw (Wr.dc C__law_whole hr (Wr.aj (Wr.dv 3) Wr.ak)) (Wr.gw (Wr.qU hr.units (Wr.dv 3) (Wr.dc C__law_bound hr (Wr.aj (Wr.dv 0) (Wr.aj (Wr.dv 2) Wr.ak)))) (Wr.iu (Wr.qU hr.units (Wr.dv 1) (Wr.dv 2)))))))),cj h ?_⟩
 rintro ds P ⟨n,us,d,x,rfl,n1,n16,hl,ok,pap,q⟩
 have pap0:=pap
 have ob:=Qs pap
 have fw:=Ln n16 pap
 have pb:(∃ L:List (List Int),d=.tuple [.str "family",.list (L.map iD)]/\yH n (.list (L.map iD))=true/\(∀ l∈L,Proper n l)/\x=pbF n us L)\/∃ v:Nat,d=.tuple [.str "place",.int ((v:Nat):Int)]/\v<n.toNat/\x=pbV n us v:=pap.imp (fun ⟨L,e,fam,ex⟩=>⟨L,e,fam.yes,fam.pr,ex⟩) id
 refine⟨[.im (aR n us),aZ d,aZ d,.any],?_,?_⟩
 ·show [aZ (aR n us),aZ d,aZ d,.any]=_
  rw [bV]
 rcases eF d with e | e
 all_goals
  rw [e]
  refine⟨n,us,d,rfl,n1,n16,hl,ok,fw,.inr (pb.imp (fun ⟨L,e,f1,f2,ex⟩=>⟨L,e,f1,f2,?_⟩) (fun ⟨v,e,hv,ex⟩=>⟨v,e,hv,?_⟩))⟩
  all_goals
   rw [← ex]
   refine⟨x,rfl,?_⟩
   refine bQ (B:=True) ?_
   refine⟨n,us,d,x,rfl,n1,n16,hl,ok,pap0,?_⟩
   show if decide (x=x)=true then _ else _
   rw [decide_eq_true rfl]
   refine bQ (B:=True) ?_
   subst e
   refine⟨ob.1,ob.1,?_⟩
   rw [ob.2]
   exact⟨rfl,q⟩
end
def Oj (ds:List D) (P:D->Prop):Prop:=∃ n us d,ds=[aR n us,d]/\1<=n/\n<=16/\us.length<=100/\OkN n us/\wC d/\ppB n d=false/\P (.str "set")
section
variable {P:Program}{w:World}{K:W.Frag}{mg:Str->Option Value}{base:Heap}{f:Addr}{fd:FuncData}{CN:Addr}
theorem Ca:FnScope ["_law_web_here","_law_thing","_law_word","_law_e"] ["_law_web_here","_law_thing"] (aq (top 56)):=zC
theorem Lw {xs:List Str}{CF c1 c2 c3 c4 c5 c6 c7 c8 c9:Addr} (F:Fun K "_law_refused" "_law_refused" (top 56) f fd) (R:Dl.RefK K mg "NoSet" xs CN CF c1 c2 c3 c4 c5 c6 c7 c8 c9) (PB:Dl.Cal1 P w K mg base 9 "place_bound" ["web","paper"] (spX (Ra CN))) (KD:L2.CalH P w K mg base 1 "_law_kind" ["_law_e"] (BP CN "set")):FnOk P w K mg base CX0 10 f fd ["_law_web_here","_law_thing"] (spD Oj):=by
 refine F.ok Ca bA (fun cdv A outer s H vs Q E hr h=>?_)
 obtain⟨ds,P',rs,⟨n,us,d,rfl,n1,n16,hl,ok,few,hno,hP⟩,q⟩:=h
 obtain⟨v0,v1,rfl⟩:∃ v0 v1,vs=[v0,v1]:=by
  have:=rs.length
  match vs,this with
  | [a,b],_=>exact⟨a,b,rfl⟩
 have nd:=Ca.nd
 obtain⟨f2,fd2,F2,b2,kp2,m2⟩:=PB.ex
 refine⟨_,bH (cX (i:=2) nd rfl (Or.inl rfl) Hr)
  (bH (K7 (HB (j:=3) rfl rfl F2 (hr.mono (by decide)) rfl m2 kp2 b2 (aP (pv 0) (aP (pv 1) cC)) rfl R.mF nd rfl rfl (fun a=>cU (cX (i:=2) nd rfl (Or.inl rfl) (Hw KD hr (aP (pv 3) cC) (by decide) (by rfl) (by decide) (by rfl) (by rfl))))))
  (cU (gW (pv 2)))),?_⟩
 refine⟨fun cls _ H2=>cls=.ref CN/\Same H H2,fun cls H' z=>by rw [z.1]; exact R.exm,_,rfl,_,rfl,⟨_,fun _=>False,fun c=>c=.ref CN,rs,⟨n,us,d,rfl,n1,n16,hl,ok,few,.inl ⟨hno,rfl⟩⟩,fun d v H' z=>z.elim,fun c H' hc sm=>⟨hc,sm⟩⟩,?_⟩
 rintro cls H2 a oe ⟨rfl,s2⟩ ha nc
 have b1:=jh ha (.frz oe (kY a (.ref CN)))
 refine⟨_,rfl,oe,kY a (.ref CN),aB,nc,rfl,rfl,fun H4 s4=>?_⟩
 exact⟨_,rfl,q _ _ _ hP (s2.trans (b1.trans s4)) (.str _)⟩
end
theorem Nr {p:D->Prop}{xs ys:List D} (h1:∀ x∈xs,p x) (h2:∀ x∈ys,p x):∀ x∈xs++ys,p x:=fun x hx=>(List.mem_append.mp hx).elim (h1 x) (h2 x)
theorem Oh {es:List D} (h:es.length<=400):Few (.list es):=fun xs e=>by
 injection e with e
 rw [← e]
 exact h
theorem Q9 {d:D} (h:∀ es,d≠.list es):Few d:=fun es e=>(h es e).elim
theorem Cj:∀ {l:List Int},lG l=true->l.Pairwise (·<·)
 | [],_=>.nil
 | [a],_=>by simp
 | a::b::r,h=>by
  have h:(decide (a<b)&&lG (b::r))=true:=h
  rw [Bool.and_eq_true,decide_eq_true_eq] at h
  have ih:=Cj h.2
  refine List.pairwise_cons.mpr ⟨fun x hx=>?_,ih⟩
  rcases List.mem_cons.mp hx with rfl | hx
  ·exact h.1
  ·have:=(List.pairwise_cons.mp ih).1 x hx
   omega
theorem SJ {n:Int}{d:D} (n16:n<=16) (h:bx n d=true):∃ l:List Int,d=iD l/\Proper n l:=by
 unfold bx at h
 rw [Bool.and_eq_true] at h
 cases d with
 | list es =>
  have h1:(es.all (cY n)&&lG (es.map toI))=true:=h.1
  rw [Bool.and_eq_true] at h1
  have h2:(decide ((1:Int)<=(es.length:Nat))&&decide (((es.length:Nat):Int)<n))=true:=h.2
  rw [Bool.and_eq_true,decide_eq_true_eq,decide_eq_true_eq] at h2
  have ei:=ints_of h1.1
  refine⟨es.map toI,congrArg _ ei,by rw [List.length_map]; omega,by rw [List.length_map]; omega,fun x hx=>?_,Cj h1.2,n16⟩
  obtain⟨e,he,rfl⟩:=List.mem_map.mp hx
  have hb:=List.all_eq_true.mp h1.1 e he
  obtain⟨i,rfl⟩:=uL hb
  exact of_decide_eq_true hb
 | _=>cases h.1
theorem Ji {a b:List Int} (h:iD a=iD b):a=b:=by
 have e:PyData.list (a.map PyData.int)=.list (b.map .int):=h
 injection e with e
 have:=congrArg (List.map toI) e
 rwa [pQ,pQ] at this
theorem np {n:Int}{d:D} (n16:n<=16) (h:∀ l',d=iD l'->Proper n l'->False):bx n d=false:=by
 cases hb:bx n d with
 | false=>rfl
 | true=>obtain⟨l',e,p⟩:=SJ n16 hb; exact (h l' e p).elim
theorem QC {n:Int}{es:List D}{e:D} (n16:n<=16) (he:e∈es) (hb:∀ i:Int,e=.int i->¬ (0<=i/\i<n)):bx n (.list es)=false:=np n16 fun l' e' p=>by
 have e':PyData.list es=.list (l'.map PyData.int):=e'
 injection e' with e'
 rw [e'] at he
 obtain⟨i,hi,e2⟩:=List.mem_map.mp he
 exact hb i e2.symm (p.rng i hi)
theorem Ij {n:Int}{a:List Int} (n16:n<=16) (h:¬ a.Pairwise (·<·)):bx n (.list (a.map PyData.int))=false:=np n16 fun l' e p=>h (Ji (a:=a) e ▸ p.rise)
theorem LK {n:Int}{es:List D} (n16:n<=16) (h:n<=(es.length:Nat)):bx n (.list es)=false:=np n16 fun l' e' p=>by
 have e':PyData.list es=.list (l'.map PyData.int):=e'
 injection e' with e'
 rw [e',List.length_map] at h
 have:=p.few
 omega
theorem mU {n:Int}{es:List D}{e:D} (he:e∈es) (h:bx n e=false):yH n (.list es)=false:=by
 have:es.all (bx n)=false:=by
  rw [← Bool.not_eq_true,List.all_eq_true]
  intro z
  rw [z e he] at h
  cases h
 show (es.all (bx n)&&vA (es.flatMap gq))=false
 rw [this]
 rfl
theorem M5 {n:Int}{es:List D} (h:¬ (es.flatMap gq).Nodup):yH n (.list es)=false:=by
 show (es.all (bx n)&&vA (es.flatMap gq))=false
 have:vA (es.flatMap gq)=false:=decide_eq_false fun z=>h ((qY _).mp z)
 rw [this,Bool.and_false]
def fam (d:D):D:=.tuple [.str "family",d]
def plc (d:D):D:=.tuple [.str "place",d]
theorem iK {n:Int}{d:D} (h:yH n d=false):ppB n (fam d)=false:=by
 unfold ppB fam
 rw [if_pos (mQ _ _)]
 exact h
theorem nY {n:Int}{d:D} (h:cY n d=false):ppB n (plc d)=false:=by
 unfold ppB plc
 rw [if_neg (by rw [qb Js]; exact Bool.false_ne_true),mQ,Bool.true_and]
 exact h
theorem HF {n:Int}{d:D}{s:Str} (h1:s≠"family") (h2:s≠"place"):ppB n (.tuple [.str s,d])=false:=by
 unfold ppB
 rw [if_neg (by rw [qb h1]; exact Bool.false_ne_true),qb h2]
 rfl
theorem jN {d:D} (h:∀ a b,d≠.tuple [a,b]):wC d:=fun a b e=>(h a b e).elim
theorem bJ {a b:D} (h:Bv b):wC (.tuple [a,b]):=fun x y e=>by
 cases e
 exact h
theorem eE {d:D} (h:∀ es,d≠.list es):Bv d:=fun es e=>(h es e).elim
theorem kW {es:List D} (h1:es.length<=60) (h2:∀ e∈es,Few e):Bv (.list es):=fun xs e=>by
 cases e
 exact⟨h1,h2⟩
def o1 (n:Int) (L:List (List Int)):List D:=[.none,.tuple [],.tuple [.str "family"],.tuple [.str "family",.list (L.map iD),.int 0],.list [.str "family",.list (L.map iD)],.tuple [.str "families",.list (L.map iD)],.tuple [.str "place",.int n]]
def o2 (L:List (List Int)):List D:=[.tuple [.str "place",.int (-1)],.tuple [.str "place",.bool true],.tuple [.str "place",.none],.tuple [.str "place",.list [.int 0]],.tuple [.str "family",.tuple (L.map iD)]]
def o3:List D:=[.tuple [.str "family",.none]]
def o4 (n:Int) (L:List (List Int)):List D:=[.tuple [.str "family",.list (L.map iD++[.list []])],.tuple [.str "family",.list (L.map iD++[.list (gP 0 (n - 0).toNat)])],.tuple [.str "family",.list (L.map iD++[.list [.int 0],.list [.int 0]])]]
def o5 (L:List (List Int)):List D:=[.tuple [.int 0,.list (L.map iD)]]
def o6:List D:=[.tuple [.str "family",.list [.list [.int 0,.int 0]]],.tuple [.str "family",.int 0],.tuple [.str "",.int 0],.tuple [.str "place",.str "0"],.tuple [.tuple [.str "place"],.int 0],.str "place"]
def o7 (n:Int) (L:List (List Int)):List D:=[.tuple [.str "family",.list ([.list [.int n]]++L.map iD)],.tuple [.str "family",.list ([.list [.int (n - 1),.int 0]]++L.map iD)]]
def Ii (n:Int) (L:List (List Int)):List D:=((((((o1 n L++o2 L)++o3)++o4 n L)++o5 L)++o6)++o7 n L)
theorem LC {n:Int}{L:List (List Int)} (n1:1<=n) (n8:n<=8) (h:IsFam n L) (l9:L.length<=9):∀ d∈Ii n L,ppB n d=false/\wC d:=by
 have n16:n<=16:=by omega
 have lm:(L.map iD).length=L.length:=List.length_map ..
 have fL:∀ e∈L.map iD,Few e:=fun e he=>by
  obtain⟨l,hl,rfl⟩:=List.mem_map.mp he
  have:=(h.pr l hl).few
  exact yG (by omega)
 have fF:Bv (.list (L.map iD)):=h.TQ n16
 have lr:(gP 0 (n - 0).toNat).length=(n - 0).toNat:=bC ..
 have app:∀ {p:D->Prop}{xs ys:List D},(∀ x∈xs,p x)->(∀ x∈ys,p x)->∀ x∈xs++ys,p x:=fun a b=>Nr a b
 have one:∀ {p:D->Prop}{x:D},p x->∀ y∈[x],p y:=fun hx y hy=>by rw [List.mem_singleton.mp hy]; exact hx
 have cns:∀ {p:D->Prop}{x:D}{xs:List D},p x->(∀ y∈xs,p y)->∀ y∈x::xs,p y:=fun hx hs y hy=>(List.mem_cons.mp hy).elim (fun z=>z ▸ hx) (hs y)
 have nn:∀ {p:D->Prop},∀ y∈([]:List D),p y:=fun y hy=>nomatch hy
 have sm:∀ {es:List D},es.length<=2->Few (.list es):=fun z=>Oh (by omega)
 unfold Ii o1 o2 o3 o4 o5 o6 o7
 refine app (app (app (app (app (app ?_ ?_) ?_) ?_) ?_) ?_) ?_
 ·refine cns ⟨rfl,jN fun _ _ e=>nomatch e⟩ (cns ⟨rfl,jN fun _ _ e=>nomatch e⟩ (cns ⟨rfl,jN fun _ _ e=>nomatch e⟩ (cns ⟨rfl,jN fun _ _ e=>nomatch e⟩ (cns ⟨rfl,jN fun _ _ e=>nomatch e⟩ (cns ⟨HF (by decide +kernel) (by decide +kernel),bJ fF⟩ (one ⟨nY (decide_eq_false (by omega)),bJ (eE fun _ e=>nomatch e)⟩))))))
 ·refine cns ⟨nY (decide_eq_false (p:=(0:Int)<=-1/\(-1:Int)<n) (by omega)),bJ (eE fun _ e=>nomatch e)⟩ (cns ⟨nY rfl,bJ (eE fun _ e=>nomatch e)⟩ (cns ⟨nY rfl,bJ (eE fun _ e=>nomatch e)⟩ (cns ⟨nY rfl,bJ (kW (by decide) (one (Q9 fun _ e=>nomatch e)))⟩ (one ⟨iK rfl,bJ (eE fun _ e=>nomatch e)⟩))))
 ·exact one ⟨iK rfl,bJ (eE fun _ e=>nomatch e)⟩
 ·refine cns ⟨iK (mU (e:=.list []) (List.mem_append_right _ List.mem_cons_self) (np n16 fun l' e p=>?_)),bJ (kW (by rw [List.length_append,List.length_singleton]; omega) (app fL (one (sm (Nat.zero_le _)))))⟩ (cns ⟨iK (mU (e:=.list (gP 0 (n - 0).toNat)) (List.mem_append_right _ List.mem_cons_self) (LK n16 (by rw [lr]; omega))),bJ (kW (by rw [List.length_append,List.length_singleton]; omega) (app fL (one (Oh (by rw [lr]; omega)))))⟩
   (one ⟨iK (M5 fun z=>?_),bJ (kW (by rw [List.length_append]; show (L.map iD).length+2<=60; omega) (app fL (cns (sm (show 1<=2 by decide)) (one (sm (show 1<=2 by decide))))))⟩))
  ·have:=p.one
   rw [← Ji (a:=[]) e] at this
   exact absurd this (by decide)
  ·rw [List.flatMap_append] at z
   have z2:=(List.nodup_append.mp z).2.1
   exact absurd z2 (by decide)
 ·exact one ⟨rfl,bJ fF⟩
 ·refine cns ⟨iK (mU (e:=.list [.int 0,.int 0]) List.mem_cons_self (Ij (a:=[0,0]) n16 (by decide))),bJ (kW (by decide) (one (sm (show 2<=2 by decide))))⟩ (cns ⟨iK rfl,bJ (eE fun _ e=>nomatch e)⟩ (cns ⟨HF (by decide +kernel) (by decide +kernel),bJ (eE fun _ e=>nomatch e)⟩ (cns ⟨nY rfl,bJ (eE fun _ e=>nomatch e)⟩ (cns ⟨rfl,bJ (eE fun _ e=>nomatch e)⟩ (one ⟨rfl,jN fun _ _ e=>nomatch e⟩)))))
 ·refine cns ⟨iK (mU (e:=.list [.int n]) (List.mem_append_left _ List.mem_cons_self) (QC n16 List.mem_cons_self fun i e=>by cases e; omega)),bJ (kW (by rw [List.length_append,List.length_singleton]; omega) (app (one (sm (show 1<=2 by decide))) fL))⟩ (one ⟨iK (mU (e:=.list [.int (n - 1),.int 0]) (List.mem_append_left _ List.mem_cons_self) (Ij (a:=[n - 1,0]) n16 fun z=>?_)),bJ (kW (by rw [List.length_append,List.length_singleton]; omega) (app (one (sm (show 2<=2 by decide))) fL))⟩)
  have:=(List.pairwise_cons.mp z).1 0 List.mem_cons_self
  omega
def Om (ds:List D) (P:D->Prop):Prop:=∃ (n:Int) (L:List (List Int)),ds=[.int n,.list (L.map iD)]/\1<=n/\n<=8/\IsFam n L/\L.length<=9/\∀ d,ppB n d=false->wC d->P d
section
variable {P:Program}{w:World}{K:W.Frag}{mg:Str->Option Value}{base:Heap}{f:Addr}{fd:FuncData}{CN:Addr}
theorem qH:FnScope ["_law_pen_here","_law_n","_law_some","_law_odd_here"] ["_law_pen_here","_law_n","_law_some"] (aq (top 55)):=zC
theorem zZ (F:Fun K "_law_odd" "_law_odd" (top 55) f fd) (B:Dl.Bn mg) (C__law_draw:Dl.Cal P w K mg base 1 "_law_draw" ["_law_pen_here","_law_many_here"] (je 1 mW)):FnOk P w K mg base CX0 2 f fd ["_law_pen_here","_law_n","_law_some"] (tO 1 Om):=by
 refine F.ok qH Fg (fun cdv A outer s H vs Q E hr h=>?_)
 have nd:=qH.nd
 refine⟨_,Wb.BR.h (Wb.qM (Wb.s0 (Wr.vV 0 false (i:=3) nd rfl zQ (Wr.pW 7 ["_law_pen_here","_law_n","_law_some","_law_odd_here"] (aq (top 55)) (.cons .non (.cons (.tup .nil) (.cons (.tup (.cons (.str "family") .nil)) (.cons (.tup (.cons (.str "family") (.cons (.var 2) (.cons (.int 0) .nil)))) (.cons (.lst (.cons (.str "family") (.cons (.var 2) .nil))) (.cons (.tup (.cons (.str "families") (.cons (.var 2) .nil))) (.cons (.tup (.cons (.str "place") (.cons (.var 1) .nil))) .nil))))))) Wr.ak (by decide +kernel))))
  (Wb.qM (Wb.s0 (Wr.qj (i:=3) nd rfl zQ (Wr.wv 3) (Wr.aM (Wr.pW 4 ["_law_pen_here","_law_n","_law_some","_law_odd_here"] (aq (top 55)) (.cons (.tup (.cons (.str "place") (.cons (.neg 1) .nil))) (.cons (.tup (.cons (.str "place") (.cons (.bl true) .nil))) (.cons (.tup (.cons (.str "place") (.cons .non .nil))) (.cons (.tup (.cons (.str "place") (.cons (.lst (.cons (.int 0) .nil)) .nil))) .nil)))) (Wr.aj (Wr.aC (Wr.aj Wr.aW (Wr.aj (Wr.lN B.tuple (Wr.aj (Wr.dv 2) Wr.ak)) Wr.ak))) Wr.ak) (by decide +kernel)))))
  (Wb.qM (Wb.s0 (Wr.nj (Wr.wv 3) (Wr.aj (Wr.aC (Wr.aj Wr.aW (Wr.aj Wr.qT Wr.ak))) Wr.ak)))
  (Wb.qM (Wb.s0 (Wr.qj (i:=3) nd rfl zQ (Wr.wv 3) (Wr.aM (Wr.aj (Wr.aC (Wr.aj Wr.aW (Wr.aj (Wr.cA (Wr.dv 2) (Wr.aM (Wr.aj (Wr.aM Wr.ak) Wr.ak))) Wr.ak))) (Wr.aj (Wr.aC (Wr.aj Wr.aW (Wr.aj (Wr.cA (Wr.dv 2) (Wr.aM (Wr.aj (Wr.j9 rfl B.list B.range (Wr.aj (Wr.dv 1) Wr.ak)) Wr.ak))) Wr.ak))) (Wr.aj (Wr.aC (Wr.aj Wr.aW (Wr.aj (Wr.cA (Wr.dv 2) (Wr.aM (Wr.aj (Wr.aM (Wr.aj Wr.ao Wr.ak)) (Wr.aj (Wr.aM (Wr.aj Wr.ao Wr.ak)) Wr.ak)))) Wr.ak))) Wr.ak))))))
  (Wb.qM (Wb.s0 (Wr.nj (Wr.wv 3) (Wr.aj (Wr.aC (Wr.aj Wr.ao (Wr.aj (Wr.dv 2) Wr.ak))) Wr.ak)))
  (Wb.qM (Wb.s0 (Wr.qj (i:=3) nd rfl zQ (Wr.wv 3) (Wr.zN ["_law_pen_here","_law_n","_law_some","_law_odd_here"] (aq (top 55)) (.lst (.cons (.tup (.cons (.str "family") (.cons (.lst (.cons (.lst (.cons (.int 0) (.cons (.int 0) .nil))) .nil)) .nil))) (.cons (.tup (.cons (.str "family") (.cons (.int 0) .nil))) (.cons (.tup (.cons (.str "") (.cons (.int 0) .nil))) (.cons (.tup (.cons (.str "place") (.cons (.str "0") .nil))) (.cons (.tup (.cons (.tup (.cons (.str "place") .nil)) (.cons (.int 0) .nil))) (.cons (.str "place") .nil))))))) (by decide +kernel))))
  (Wb.qM (Wb.s0 (Wr.qj (i:=3) nd rfl zQ (Wr.wv 3) (Wr.aM (Wr.aj (Wr.aC (Wr.aj Wr.aW (Wr.aj (Wr.cA (Wr.aM (Wr.aj (Wr.aM (Wr.aj (Wr.dv 1) Wr.ak)) Wr.ak)) (Wr.dv 2)) Wr.ak))) (Wr.aj (Wr.aC (Wr.aj Wr.aW (Wr.aj (Wr.cA (Wr.aM (Wr.aj (Wr.aM (Wr.aj (Wr.dI (Wr.dv 1) Wr.ao) (Wr.aj Wr.ao Wr.ak))) Wr.ak)) (Wr.dv 2)) Wr.ak))) Wr.ak)))))
  (Wb.UL (Wb.ix (Wb.e0 (Wr.dv 3)) (Wb.dcP C__law_draw hr (Wr.wv 0) (Wb.a0 (Wr.aj (Wr.dJ B.len (Wr.aj (Wr.dv 3) Wr.ak)) Wr.ak)))))))))))),Wb.M8 h rfl ?_⟩
 rintro ds P ⟨n,L,rfl,n1,n8,hL,l9,q⟩
 refine⟨[.im (.int n),.sh (.list (L.map iD)),.any],rfl,?_⟩
 have lm:(L.map iD).length=L.length:=List.length_map ..
 have h0:=LC n1 n8 hL l9
 have fin:∀ X:List D,(∀ d∈X,ppB n d=false/\wC d)->0<X.length->X.length<=100->K5 (t2 gIx (tV 3) (KC Dl.TP mW 0 (cu (tCl Ay (cu (tV 3) eX)) eX))) P [.pen TP,.im (.int n),.sh (.list (L.map iD)),.sp 0 false X]:=fun X hX l0 l1=>by
  refine⟨rfl,_,rfl,by omega,by omega,fun z z0 z1=>?_⟩
  have hk:z.toNat<X.length:=by omega
  have hz:atI X z=some X[z.toNat]:=by
   have:atI X ((z.toNat:Nat):Int)=some X[z.toNat]:=iQ (List.getElem?_eq_getElem hk)
   rw [show ((z.toNat:Nat):Int)=z by omega] at this
   exact this
  obtain⟨h1,h2⟩:=hX _ (List.getElem_mem hk)
  exact⟨_,hz,q _ h1 h2⟩
 have lo:(Ii n L).length=25:=rfl
 replace fin:=fin _ h0 (by omega) (by omega)
 have b1:∀ k:Nat,k<=10->(L.map iD).length+k<=1000:=fun k hk=>by omega
 have b2:1+(L.map iD).length<=1000:=by omega
 have r1:-1000<=n/\n<=1000:=⟨by omega,by omega⟩
 clear h0 q lm lo hL
 revert fin b1 b2
 cases L with
 | nil =>
  intro fin b1 b2
  refine⟨_,rfl,zK,rfl,rfl,?_⟩
  show gF _ _ P [.pen TP,.im (.int n),.sh (.list (([]:List (List Int)).map iD)),.sp 0 false (o1 n [])]
  refine⟨_,rfl,zK,zK,rfl,zK,rfl,?_⟩
  show gF _ _ P [.pen TP,.im (.int n),.sh (.list (([]:List (List Int)).map iD)),.sp 0 false (o1 n []++o2 [])]
  refine⟨zK,rfl,(show 12<1000 by decide),?_⟩
  show gF _ _ P [.pen TP,.im (.int n),.sh (.list (([]:List (List Int)).map iD)),.sp 0 false (o1 n []++o2 []++o3)]
  refine⟨zK,zK,b1 1 (by decide),.inr ⟨zK,?_⟩⟩
  refine⟨r1,zK,b1 1 (by decide),.inr ⟨zK,?_⟩⟩
  refine⟨zK,zK,zK,b1 2 (by decide),.inr ⟨zK,?_⟩⟩
  refine⟨zK,rfl,zK,rfl,?_⟩
  show gF _ _ P [.pen TP,.im (.int n),.sh (.list (([]:List (List Int)).map iD)),.sp 0 false (o1 n []++o2 []++o3++o4 n [])]
  refine⟨zK,rfl,(show 16<1000 by decide),?_⟩
  show gF _ _ P [.pen TP,.im (.int n),.sh (.list (([]:List (List Int)).map iD)),.sp 0 false (o1 n []++o2 []++o3++o4 n []++o5 [])]
  refine⟨_,_,rfl,rfl,zK,rfl,?_⟩
  show gF _ _ P [.pen TP,.im (.int n),.sh (.list (([]:List (List Int)).map iD)),.sp 0 false (o1 n []++o2 []++o3++o4 n []++o5 []++o6)]
  refine⟨zK,zK,b2,.inr ⟨zK,?_⟩⟩
  refine⟨zK,zK,b2,.inr ⟨zK,?_⟩⟩
  refine⟨zK,rfl,zK,rfl,?_⟩
  show K5 (t2 gIx (tV 3) (KC Dl.TP mW 0 (cu (tCl Ay (cu (tV 3) eX)) eX))) P [.pen TP,.im (.int n),.sh (.list (([]:List (List Int)).map iD)),.sp 0 false (Ii n [])]
  exact fin
 | cons l L =>
  intro fin b1 b2
  refine⟨_,rfl,zK,rfl,rfl,?_⟩
  show gF _ _ P [.pen TP,.im (.int n),.sh (.list (((l::L):List (List Int)).map iD)),.sp 0 false (o1 n (l::L))]
  refine⟨_,rfl,zK,zK,rfl,zK,rfl,?_⟩
  show gF _ _ P [.pen TP,.im (.int n),.sh (.list (((l::L):List (List Int)).map iD)),.sp 0 false (o1 n (l::L)++o2 (l::L))]
  refine⟨zK,rfl,(show 12<1000 by decide),?_⟩
  show gF _ _ P [.pen TP,.im (.int n),.sh (.list (((l::L):List (List Int)).map iD)),.sp 0 false (o1 n (l::L)++o2 (l::L)++o3)]
  refine⟨zK,zK,b1 1 (by decide),.inr ⟨zK,?_⟩⟩
  refine⟨r1,zK,b1 1 (by decide),.inr ⟨zK,?_⟩⟩
  refine⟨zK,zK,zK,b1 2 (by decide),.inr ⟨zK,?_⟩⟩
  refine⟨zK,rfl,zK,rfl,?_⟩
  show gF _ _ P [.pen TP,.im (.int n),.sh (.list (((l::L):List (List Int)).map iD)),.sp 0 false (o1 n (l::L)++o2 (l::L)++o3++o4 n (l::L))]
  refine⟨zK,rfl,(show 16<1000 by decide),?_⟩
  show gF _ _ P [.pen TP,.im (.int n),.sh (.list (((l::L):List (List Int)).map iD)),.sp 0 false (o1 n (l::L)++o2 (l::L)++o3++o4 n (l::L)++o5 (l::L))]
  refine⟨_,_,rfl,rfl,zK,rfl,?_⟩
  show gF _ _ P [.pen TP,.im (.int n),.sh (.list (((l::L):List (List Int)).map iD)),.sp 0 false (o1 n (l::L)++o2 (l::L)++o3++o4 n (l::L)++o5 (l::L)++o6)]
  refine⟨zK,zK,b2,.inr ⟨zK,?_⟩⟩
  refine⟨zK,zK,b2,.inr ⟨zK,?_⟩⟩
  refine⟨zK,rfl,zK,rfl,?_⟩
  show K5 (t2 gIx (tV 3) (KC Dl.TP mW 0 (cu (tCl Ay (cu (tV 3) eX)) eX))) P [.pen TP,.im (.int n),.sh (.list (((l::L):List (List Int)).map iD)),.sp 0 false (Ii n (l::L))]
  exact fin
end
def RY3 (sc:Addr) (i:Nat) (n:Int) (us:List Tie) (L:List (List Int)):List Sl:=[.scr (.ref sc) false,.im (.int (0+((i:Nat):Int))),.pen TP,.im (aR n us),.sn (.list (L.map iD)),.sn (.list (L.map iD)),.any]
section
variable {P:Program}{w:World}{K:W.Frag}{mg:Str->Option Value}{base:Heap}{f:Addr}{fd:FuncData}{CN:Addr}
theorem GD:FnScope ["_law_script","_law_k","_law_pen_here","_law_web_here","_law_some","_law_kept","_law_v"] ["_law_script"] (aq (top 57)):=zC
theorem Ip:(["_law_one","_law_script","_law_k","_law_pen_here","_law_web_here","_law_some","_law_kept","_law_v"]:List Str).Nodup:=by decide +kernel
theorem Qx (F:Fun K "law" "law" (top 57) f fd) (B:Dl.Bn mg) (C__law_pen:Dl.Cal P w K mg base 1 "_law_pen" ["_law_script","_law_k"] (Wb.KJ K Sy)) (C__law_web:Dl.Cal P w K mg base 3 "_law_web" ["_law_pen_here","_law_most"] (je 4000000 TX)) (C__law_family:Dl.Cal P w K mg base 2 "_law_family" ["_law_pen_here","_law_n"] (je 1100 Ox)) (C__law_right:Dl.Cal P w K mg base 10 "_law_right" ["_law_web_here","_law_paper","_law_kept"] (spD TY)) (C__law_refused:Dl.Cal P w K mg base 10 "_law_refused" ["_law_web_here","_law_thing"] (spD Oj)) (C__law_odd:Dl.Cal P w K mg base 2 "_law_odd" ["_law_pen_here","_law_n","_law_some"] (tO 1 Om)):FnOk P w K mg base CX0 11 f fd ["_law_script"] (BL K):=by
 refine F.ok GD (fun vs H Q E h=>by obtain⟨a,ns,rfl,_⟩:=h; rfl) (fun cdv A outer s H vs Q E hr h=>?_)
 obtain⟨sc,ns,rfl,hS,q⟩:=h
 have nd:=GD.nd
 refine⟨_,(Wb.Uk (K:=K) (sc:=sc) (ns:=ns) PassesOwn.never rfl (Wr.bZ B.range (Wr.aj Wr.ao Wr.ak)) (Wr.aH (i:=1) nd rfl zQ) (Wb.Lg C__law_pen hr (Wr.wv 0) (Wr.aj (Wr.dv 1) Wr.ak) nd (i:=2) rfl zQ
  (Wb.cons (Wb.set none (i:=3) nd rfl zQ (Wb.dcP C__law_web hr (Wr.wv 2) (Wb.a0 (Wr.aj Wr.ao Wr.ak))))
  (Wb.cons (Wb.set none (i:=4) nd rfl zQ (Wb.dcP C__law_family hr (Wr.wv 2) (Wb.a0 (Wr.aj (Wr.aX (Wr.dv 3) Wr.ao) Wr.ak))))
  (Wb.cons (Wb.s0 (Wr.mX none ["_law_one"] (i:=5) rfl nd rfl zQ (Wr.cD (Wr.dv 4)) (fun c=>(Wr.aH (i:=0) Ip rfl zQ)) (fun c=>Wr.dO) (fun c=>(Wr.vf B.list (Wr.aj (Wr.dv 0) Wr.ak)))))
  (Wb.j5 (Wb.s0 (Wr.cR (Wr.cH (Wr.bI (Wr.dc C__law_right hr (Wr.aj (Wr.dv 3) (Wr.aj (Wr.aC (Wr.aj Wr.aW (Wr.aj (Wr.dv 4) Wr.ak))) (Wr.aj (Wr.aC (Wr.aj Wr.aW (Wr.aj (Wr.dv 5) Wr.ak))) Wr.ak)))))) (Wr.aF (Wr.aL Wr.gG)) Wr.aN))
  (Wb.j5 (Wb.s0 (Wr.cR (Wr.cH (Wr.bI (Wr.dc C__law_right hr (Wr.aj (Wr.dv 3) (Wr.aj (Wr.aC (Wr.aj Wr.aW (Wr.aj (Wr.aM Wr.ak) Wr.ak))) (Wr.aj (Wr.aC (Wr.aj Wr.aW (Wr.aj (Wr.aM Wr.ak) Wr.ak))) Wr.ak)))))) (Wr.aF (Wr.aL Wr.gG)) Wr.aN))
  (Wb.j5 (Wb.if_ (Wb.wt (Wb.or2 (Wb.tne hr.units (Wb.dc C__law_refused hr (Wb.gB (Wb.e0 (Wr.dv 3)) (Wb.gB (Wb.Vi C__law_odd hr (Wr.wv 2) (Wb.a0 (Wr.aj (Wr.aX (Wr.dv 3) Wr.ao) (Wr.aj (Wr.dv 4) Wr.ak)))) (Wb.a0 Wr.ak)))) (Wb.e0 Wr.aW)) (Wb.or1 (Wb.t0 (Wr.d8 hr.units (Wr.dv 4) (Wr.dv 5)))))) (Wb.ss0 (Wr.aF (Wr.aL Wr.gG))) (Wb.ss0 Wr.aN))
  (Wb.ss0 (Wr.aA (Wr.eV PassesOwn.never rfl (Wr.bZ B.range (Wr.aj (Wr.aX (Wr.dv 3) Wr.ao) Wr.ak)) (Wr.aH (i:=6) nd rfl zQ) (Wr.aA (Wr.cR (Wr.cH (Wr.bI (Wr.dc C__law_right hr (Wr.aj (Wr.dv 3) (Wr.aj (Wr.aC (Wr.aj Wr.aW (Wr.aj (Wr.dv 6) Wr.ak))) (Wr.aj (Wr.aC (Wr.aj Wr.aW (Wr.aj (Wr.dv 6) Wr.ak))) Wr.ak)))))) (Wr.aF (Wr.aL Wr.gG)) Wr.aN) (Wr.aY [6] Wr.aN)))
  (Wr.aY [6] (Wr.aA (Wr.cR (Wr.cH (Wr.bI (Wr.dc C__law_right hr (Wr.aj (Wr.dv 3) (Wr.aj (Wr.aC (Wr.aj Wr.aW (Wr.aj (Wr.dv 4) Wr.ak))) (Wr.aj (Wr.aC (Wr.aj Wr.aW (Wr.aj (Wr.dv 5) Wr.ak))) Wr.ak)))))) (Wr.aF (Wr.aL Wr.gG)) Wr.aN) (Wr.aY [1,3,4,5,6] Wr.aN))))))))))) rfl)
  (Wr.aF (Wr.aL Wr.gG))),Rg hS q (by decide) ?_⟩
 refine⟨⟨by decide,by decide⟩,rfl,fun (i:Nat) ρ=>∃ b,ρ=[.scr (.ref sc) b,.any,.any,.any,.any,.any,.any],⟨true,rfl⟩,?_,?_⟩
 rotate_left
 ·rintro ρ ⟨b,rfl⟩
  exact⟨rfl,rfl⟩
 rintro i d ρ hd ⟨b,rfl⟩
 obtain⟨hi,rfl⟩:=dY hd
 refine⟨⟨b,rfl⟩,(show 2<7 by decide),⟨_,rfl,by omega,by omega⟩,?_⟩
 refine⟨rfl,8,rfl,by decide,by decide,fun n us n1 n8 lu ok srt=>?_⟩
 refine JG (s:=.im (aR n us)) (by rw [fX (p8 n us)]; rfl) ?_
 have okn:=ok.okN
 refine⟨rfl,.int n,rfl,n,rfl,n1,n8,fun L fam l9=>?_⟩
 refine dF (.inl rfl) ?_
 refine Jd L iD iD .new rfl (by omega) (fun l hl A B hA=>bQ (B:=B) (.inl ⟨ju l,rfl,hA⟩)) ?_
 refine dF (.inl rfl) ?_
 refine⟨fun ρ=>ρ=RY3 sc i n us L,?_,?_⟩
 ·exact⟨zK,zK,n,us,_,pbF n us L,rfl,n1,by omega,by omega,okn,.inl ⟨L,rfl,fam,rfl⟩,bR (A:=True) rfl⟩
 rintro ρ rfl
 refine⟨fun ρ=>ρ=RY3 sc i n us L,?_,?_⟩
 ·exact⟨zK,zK,zK,zK,n,us,_,pbF n us [],rfl,n1,by omega,by omega,okn,.inl ⟨[],rfl,⟨(fun l hl=>nomatch hl),by simp,by decide⟩,rfl⟩,bR (A:=True) rfl⟩
 rintro ρ rfl
 refine⟨fun ρ=>ρ=RY3 sc i n us L,?_,?_⟩
 ·refine⟨rfl,.int n,rfl,n,L,rfl,n1,n8,fam,l9,fun d no few=>?_⟩
  refine⟨n,us,d,rfl,n1,by omega,by omega,okn,few,no,?_⟩
  refine bR (A:=True) ⟨tX L,tX L,?_⟩
  show if (!PyData.eqvAll (L.map iD) (L.map iD))=true then _ else _
  rw [Bd,decide_eq_true rfl]
  exact bR (A:=True) rfl
 rintro ρ rfl
 refine⟨.int n,rfl,⟨by omega,by omega⟩,MN (List.range n.toNat) (fun i:Nat=>.int (0+((i:Nat):Int))) (fun ρ=>ρ=RY3 sc i n us L) rfl rfl rfl ?_ ?_⟩
 ·rintro v hv ρ rfl
  have hv:=List.mem_range.mp hv
  exact⟨zK,zK,n,us,_,pbV n us v,rfl,n1,by omega,by omega,okn,.inr ⟨v,by rw [Int.zero_add]; rfl,hv,rfl⟩,bR (A:=True) rfl⟩
 rintro ρ rfl
 exact⟨zK,zK,n,us,_,pbF n us L,rfl,n1,by omega,by omega,okn,.inl ⟨L,rfl,fam,rfl⟩,bR (A:=True) ⟨⟨_,rfl⟩,rfl,⟨_,rfl⟩⟩⟩
end
theorem len1 {α:Type}:∀ us:List α,us.length=1->∃ a,us=[a]
 | [a],_=>⟨a,rfl⟩
theorem len2 {α:Type}:∀ us:List α,us.length=2->∃ a b,us=[a,b]
 | [a,b],_=>⟨a,b,rfl⟩
theorem Vb {α:Type}:∀ us:List α,us.length=3->∃ a b c,us=[a,b,c]
 | [a,b,c],_=>⟨a,b,c,rfl⟩
theorem aJ {K:W.Frag}{f:Addr}{oc:Value}{od:Option Addr}{fd:FuncData}{sl:Array (Option Value)} (l:K.lookup f=some ⟨oc,od,.func fd,sl⟩):W.keepIn K (.ref f)=true:=by
 unfold W.keepIn
 simp only [l]
theorem bw {P:Program}{w:World}{K:W.Frag}{mg:Str->Option Value}{base:Heap}{k:Nat}{x:Str}{st:Stmt}{f:Addr}{fd:FuncData}{ps:List Str}{sp:Sp} (F:Fun K x x st f fd) (b:Binds K fd ps []) (m:mg x=some (.ref f)) (h:FnOk P w K mg base CX0 k f fd ps sp) :
  Dl.Cal P w K mg base k x ps sp:=⟨f,fd,h,b,F.kp,m⟩
theorem nC {P:Program}{w:World}{K:W.Frag}{mg:Str->Option Value}{base:Heap}{k:Nat}{x:Str}{st:Stmt}{f:Addr}{fd:FuncData}{ps:List Str}{sp:Sp} (F:Fun K x x st f fd) (b:Binds K fd ps []) (m:mg x=some (.ref f)) (h:FnOk P w K mg base (CX1 P w) k f fd ps sp) :
  Dl.Cal1 P w K mg base k x ps sp:=⟨f,fd,h,b,F.kp,m⟩
theorem Np {P:Program}{w:World}{K:W.Frag}{mg:Str->Option Value}{base:Heap}{k:Nat}{x:Str}{st:Stmt}{f:Addr}{fd:FuncData}{ps:List Str}{sp:Addr×Obj×HO->Sp} (F:Fun K x x st f fd) (b:Binds K fd ps []) (m:mg x=some (.ref f)) (h:FnOkH P w K mg base k f fd ps sp) :
  L2.CalH P w K mg base k x ps sp:=⟨f,fd,h,b,F.kp,m⟩
abbrev zl (K:W.Frag) (f:Addr) (x:Str) (st:Stmt) (oc:Value) (od:Option Addr) (kV dc pm:Value) (an:Option Addr) (cd ct:Value) (sl:Array (Option Value)):Prop:=K.lookup f=some ⟨oc,od,.func (W.fnOf x x (jP st) (fD st) (aq st) .none kV dc pm an cd ct),sl⟩
abbrev za (K:W.Frag) (x:Str) (f:Addr):Prop:=W.nsIn K mainGlobals x=some (some (.ref f))
abbrev zc (K:W.Frag) (x:Str) (cd:Value):Prop:=W.codeIn K cd x=true
abbrev zn (K:W.Frag) (x:Str):Prop:=W.nsIn K mainGlobals x=some none
theorem all_mk {l:W.OpenLaw}{w:World}{K:W.Frag}{h:Heap}{mg:Str->Option Value}{fa f0 f1 f2 f3 f4 f5 f6 f7 f8 f9 f10 f11 f12 f13 f14 f15 f16 f17 f18 f19 f20 f21 f22 f23 f24 f25 f26 f27 f28 f29 f30 f31 f32 f33 f34 f35 f36 f37:Addr} (X:K.In h) (G:h.Ns mainGlobals mg) (hfa:mg "law"=some (.ref fa))
  {od0 an0 od1 an1 od2 an2 od3 an3 od4 an4 od5 an5 od6 an6 od7 an7 od8 an8 od9 an9 od10 an10 od11 an11 od12 an12 od13 an13 od14 an14 od15 an15 od16 an16 od17 an17 od18 an18 od19 an19 od20 an20 od21 an21 od22 an22 od23 an23 od24 an24 od25 an25 od26 an26 od27 an27 od28 an28 od29 an29 od30 an30 od31 an31 od32 an32 od33 an33 od34 an34 od35 an35 od36 an36 od37 an37:Option Addr}{sl0 sl1 sl2 sl3 sl4 sl5 sl6 sl7 sl8 sl9 sl10 sl11 sl12 sl13 sl14 sl15 sl16 sl17 sl18 sl19 sl20 sl21 sl22 sl23 sl24 sl25 sl26 sl27 sl28 sl29 sl30 sl31 sl32 sl33 sl34 sl35 sl36 sl37:Array (Option Value)}{oc0 kV0 dc0 pm0 cd0 ct0 oc1 kV1 dc1 pm1 cd1 ct1 oc2 kV2 dc2 pm2 cd2 ct2 oc3 kV3 dc3 pm3 cd3 ct3 oc4 kV4 dc4 pm4 cd4 ct4 oc5 kV5 dc5 pm5 cd5 ct5 oc6 kV6 dc6 pm6 cd6 ct6 oc7 kV7 dc7 pm7 cd7 ct7 oc8 kV8 dc8 pm8 cd8 ct8 oc9 kV9 dc9 pm9 cd9 ct9 oc10 kV10 dc10 pm10 cd10 ct10 oc11 kV11 dc11 pm11 cd11 ct11 oc12 kV12 dc12 pm12 cd12 ct12 oc13 kV13 dc13 pm13 cd13 ct13 oc14 kV14 dc14 pm14 cd14 ct14 oc15 kV15 dc15 pm15 cd15 ct15 oc16 kV16 dc16 pm16 cd16 ct16 oc17 kV17 dc17 pm17 cd17 ct17 oc18 kV18 dc18 pm18 cd18 ct18 oc19 kV19 dc19 pm19 cd19 ct19 oc20 kV20 dc20 pm20 cd20 ct20 oc21 kV21 dc21 pm21 cd21 ct21 oc22 kV22 dc22 pm22 cd22 ct22 oc23 kV23 dc23 pm23 cd23 ct23 oc24 kV24 dc24 pm24 cd24 ct24 oc25 kV25 dc25 pm25 cd25 ct25 oc26 kV26 dc26 pm26 cd26 ct26 oc27 kV27 dc27 pm27 cd27 ct27 oc28 kV28 dc28 pm28 cd28 ct28 oc29 kV29 dc29 pm29 cd29 ct29 oc30 kV30 dc30 pm30 cd30 ct30 oc31 kV31 dc31 pm31 cd31 ct31 oc32 kV32 dc32 pm32 cd32 ct32 oc33 kV33 dc33 pm33 cd33 ct33 oc34 kV34 dc34 pm34 cd34 ct34 oc35 kV35 dc35 pm35 cd35 ct35 oc36 kV36 dc36 pm36 cd36 ct36 oc37 kV37 dc37 pm37 cd37 ct37:Value}{CF CN ec1 ec2 ec3 ec4 ec5 ec6 ec7 ec8 ec9 NN:Addr}{nmN qN:Str}{bsN subN:List Value}{hdN abN:Bool}{snN:List Str}{colN:Option Bool}{ddN ddF:Option Addr}{q0 q1 q2 q3 q5:Option Value}{cdF:ClassData}{slF:Array (Option Value)}{cNN cNF:Value}{dNN dNF:Option Addr}{esN esF:Array DictEntry}{epN epF:Nat}{sNN sNF:Array (Option Value)}{ed1 ed2 ed3 ed4 ed5 ed6 ed7 ed8 ed9:Option Addr}{ek1 ek2 ek3 ek4 ek5 ek6 ek7 ek8 ek9:ClassData}{es1 es2 es3 es4 es5 es6 es7 es8 es9:Array (Option Value)}
  (a0:za K "is_whole" f0) (l0:zl K f0 "is_whole" (top 13) oc0 od0 kV0 dc0 pm0 an0 cd0 ct0 sl0) (c0:zc K "is_whole" cd0)
  (a1:za K "is_below" f1) (l1:zl K f1 "is_below" (top 14) oc1 od1 kV1 dc1 pm1 an1 cd1 ct1 sl1) (c1:zc K "is_below" cd1)
  (a2:za K "is_place" f2) (l2:zl K f2 "is_place" (top 15) oc2 od2 kV2 dc2 pm2 an2 cd2 ct2 sl2) (c2:zc K "is_place" cd2)
  (a3:za K "check_place" f3) (l3:zl K f3 "check_place" (top 16) oc3 od3 kV3 dc3 pm3 an3 cd3 ct3 sl3) (c3:zc K "check_place" cd3)
  (a4:za K "steps_of_web" f4) (l4:zl K f4 "steps_of_web" (top 18) oc4 od4 kV4 dc4 pm4 an4 cd4 ct4 sl4) (c4:zc K "steps_of_web" cd4)
  (a5:za K "search" f5) (l5:zl K f5 "search" (top 19) oc5 od5 kV5 dc5 pm5 an5 cd5 ct5 sl5) (c5:zc K "search" cd5)
  (a6:za K "part_of" f6) (l6:zl K f6 "part_of" (top 20) oc6 od6 kV6 dc6 pm6 an6 cd6 ct6 sl6) (c6:zc K "part_of" cd6)
  (a7:za K "parts" f7) (l7:zl K f7 "parts" (top 21) oc7 od7 kV7 dc7 pm7 an7 cd7 ct7 sl7) (c7:zc K "parts" cd7)
  (a8:za K "hops" f8) (l8:zl K f8 "hops" (top 22) oc8 od8 kV8 dc8 pm8 an8 cd8 ct8 sl8) (c8:zc K "hops" cd8)
  (a9:za K "parts_without" f9) (l9:zl K f9 "parts_without" (top 24) oc9 od9 kV9 dc9 pm9 an9 cd9 ct9 sl9) (c9:zc K "parts_without" cd9)
  (a10:za K "is_rising" f10) (l10:zl K f10 "is_rising" (top 26) oc10 od10 kV10 dc10 pm10 an10 cd10 ct10 sl10) (c10:zc K "is_rising" cd10)
  (a11:za K "is_proper_set" f11) (l11:zl K f11 "is_proper_set" (top 27) oc11 od11 kV11 dc11 pm11 an11 cd11 ct11 sl11) (c11:zc K "is_proper_set" cd11)
  (a12:za K "check_set" f12) (l12:zl K f12 "check_set" (top 28) oc12 od12 kV12 dc12 pm12 an12 cd12 ct12 sl12) (c12:zc K "check_set" cd12)
  (a13:za K "leaves" f13) (l13:zl K f13 "leaves" (top 29) oc13 od13 kV13 dc13 pm13 an13 cd13 ct13 sl13) (c13:zc K "leaves" cd13)
  (a14:za K "ties_that_leave" f14) (l14:zl K f14 "ties_that_leave" (top 30) oc14 od14 kV14 dc14 pm14 an14 cd14 ct14 sl14) (c14:zc K "ties_that_leave" cd14)
  (a15:za K "is_family" f15) (l15:zl K f15 "is_family" (top 32) oc15 od15 kV15 dc15 pm15 an15 cd15 ct15 sl15) (c15:zc K "is_family" cd15)
  (a16:za K "half_made_whole" f16) (l16:zl K f16 "half_made_whole" (top 33) oc16 od16 kV16 dc16 pm16 an16 cd16 ct16 sl16) (c16:zc K "half_made_whole" cd16)
  (a17:za K "has_form" f17) (l17:zl K f17 "has_form" (top 35) oc17 od17 kV17 dc17 pm17 an17 cd17 ct17 sl17) (c17:zc K "has_form" cd17)
  (a18:za K "neighbours" f18) (l18:zl K f18 "neighbours" (top 37) oc18 od18 kV18 dc18 pm18 an18 cd18 ct18 sl18) (c18:zc K "neighbours" cd18)
  (a19:za K "place_need" f19) (l19:zl K f19 "place_need" (top 38) oc19 od19 kV19 dc19 pm19 an19 cd19 ct19 sl19) (c19:zc K "place_need" cd19)
  (a20:za K "is_place_paper" f20) (l20:zl K f20 "is_place_paper" (top 39) oc20 od20 kV20 dc20 pm20 an20 cd20 ct20 sl20) (c20:zc K "is_place_paper" cd20)
  (a21:za K "place_bound" f21) (l21:zl K f21 "place_bound" (top 40) oc21 od21 kV21 dc21 pm21 an21 cd21 ct21 sl21) (c21:zc K "place_bound" cd21)
  (a22:za K "_law_pen" f22) (l22:zl K f22 "_law_pen" (top 42) oc22 od22 kV22 dc22 pm22 an22 cd22 ct22 sl22) (c22:zc K "_law_pen" cd22)
  (a23:za K "_law_draw" f23) (l23:zl K f23 "_law_draw" (top 43) oc23 od23 kV23 dc23 pm23 an23 cd23 ct23 sl23) (c23:zc K "_law_draw" cd23)
  (a24:za K "_law_plain" f24) (l24:zl K f24 "_law_plain" (top 44) oc24 od24 kV24 dc24 pm24 an24 cd24 ct24 sl24) (c24:zc K "_law_plain" cd24)
  (a25:za K "_law_turned" f25) (l25:zl K f25 "_law_turned" (top 45) oc25 od25 kV25 dc25 pm25 an25 cd25 ct25 sl25) (c25:zc K "_law_turned" cd25)
  (a26:za K "_law_web" f26) (l26:zl K f26 "_law_web" (top 46) oc26 od26 kV26 dc26 pm26 an26 cd26 ct26 sl26) (c26:zc K "_law_web" cd26)
  (a27:za K "_law_kind" f27) (l27:zl K f27 "_law_kind" (top 47) oc27 od27 kV27 dc27 pm27 an27 cd27 ct27 sl27) (c27:zc K "_law_kind" cd27)
  (a28:za K "_law_whole" f28) (l28:zl K f28 "_law_whole" (top 48) oc28 od28 kV28 dc28 pm28 an28 cd28 ct28 sl28) (c28:zc K "_law_whole" cd28)
  (a29:za K "_law_near" f29) (l29:zl K f29 "_law_near" (top 49) oc29 od29 kV29 dc29 pm29 an29 cd29 ct29 sl29) (c29:zc K "_law_near" cd29)
  (a30:za K "_law_due" f30) (l30:zl K f30 "_law_due" (top 50) oc30 od30 kV30 dc30 pm30 an30 cd30 ct30 sl30) (c30:zc K "_law_due" cd30)
  (a31:za K "_law_many" f31) (l31:zl K f31 "_law_many" (top 51) oc31 od31 kV31 dc31 pm31 an31 cd31 ct31 sl31) (c31:zc K "_law_many" cd31)
  (a32:za K "_law_family" f32) (l32:zl K f32 "_law_family" (top 52) oc32 od32 kV32 dc32 pm32 an32 cd32 ct32 sl32) (c32:zc K "_law_family" cd32)
  (a33:za K "_law_bound" f33) (l33:zl K f33 "_law_bound" (top 53) oc33 od33 kV33 dc33 pm33 an33 cd33 ct33 sl33) (c33:zc K "_law_bound" cd33)
  (a34:za K "_law_right" f34) (l34:zl K f34 "_law_right" (top 54) oc34 od34 kV34 dc34 pm34 an34 cd34 ct34 sl34) (c34:zc K "_law_right" cd34)
  (a35:za K "_law_odd" f35) (l35:zl K f35 "_law_odd" (top 55) oc35 od35 kV35 dc35 pm35 an35 cd35 ct35 sl35) (c35:zc K "_law_odd" cd35)
  (a36:za K "_law_refused" f36) (l36:zl K f36 "_law_refused" (top 56) oc36 od36 kV36 dc36 pm36 an36 cd36 ct36 sl36) (c36:zc K "_law_refused" cd36)
  (a37:za K "law" f37) (l37:zl K f37 "law" (top 57) oc37 od37 kV37 dc37 pm37 an37 cd37 ct37 sl37) (c37:zc K "law" cd37)
  (xF:za K "FallError" CF)
  (xN:za K "NoSet" CN)
  (x1:za K "NoBack" ec1)
  (x2:za K "NoOffers" ec2)
  (x3:za K "NoOrder" ec3)
  (x4:za K "NoPlace" ec4)
  (x5:za K "NoRow" ec5)
  (x6:za K "NoText" ec6)
  (x7:za K "NoTie" ec7)
  (x8:za K "NoWeb" ec8)
  (x9:za K "TooMany" ec9)
  (lkN:K.lookup CN=some (excClassObj nmN qN CN NN bsN (.ref CF::[.type "ValueError",.type "Exception",.type "BaseException",.type "object"]) hdN snN subN abN colN ddN q0 q1 q2 q3 q5 "ValueError.__new__"))
  (lkF:K.lookup CF=some ⟨.type "type",ddF,.cls cdF,slF⟩)
  (lkNN:K.lookup NN=some ⟨cNN,dNN,.dict esN epN,sNN⟩)
  (niN:W.nsIn K NN "__init__"=some none)
  (lkNF:K.lookup cdF.ns=some ⟨cNF,dNF,.dict esF epF,sNF⟩)
  (ff1:W.nsIn K cdF.ns "__init__"=some none)
  (ff2:W.nsIn K cdF.ns "__getattribute__"=some none)
  (ff3:W.nsIn K cdF.ns "__getattr__"=some none)
  (ff4:W.nsIn K cdF.ns "args"=some none)
  (ga:W.findIn K (.ref CN) "__getattribute__"=some (some (.builtin "BaseException.__getattribute__")))
  (hook:W.findIn K (.ref CN) "__getattr__"=some none)
  (clsN:W.findIn K (.ref CN) "__class__"=some (some (.builtin "object.__class__")))
  (mroN:W.mroIn K CN (.type "object")=some true)
  (mNN:W.mroIn K CN (.ref CN)=some true)
  (mNF:W.mroIn K CN (.ref CF)=some true)
  (mFB:W.mroIn K CF (.type "BaseException")=some true)
  (mNV:W.mroIn K CN (.type "ValueError")=some true)
  (lkc1:K.lookup ec1=some ⟨.type "type",ed1,.cls ek1,es1⟩)
  (mc1:W.mroIn K CN (.ref ec1)=some false)
  (lkc2:K.lookup ec2=some ⟨.type "type",ed2,.cls ek2,es2⟩)
  (mc2:W.mroIn K CN (.ref ec2)=some false)
  (lkc3:K.lookup ec3=some ⟨.type "type",ed3,.cls ek3,es3⟩)
  (mc3:W.mroIn K CN (.ref ec3)=some false)
  (lkc4:K.lookup ec4=some ⟨.type "type",ed4,.cls ek4,es4⟩)
  (mc4:W.mroIn K CN (.ref ec4)=some false)
  (lkc5:K.lookup ec5=some ⟨.type "type",ed5,.cls ek5,es5⟩)
  (mc5:W.mroIn K CN (.ref ec5)=some false)
  (lkc6:K.lookup ec6=some ⟨.type "type",ed6,.cls ek6,es6⟩)
  (mc6:W.mroIn K CN (.ref ec6)=some false)
  (lkc7:K.lookup ec7=some ⟨.type "type",ed7,.cls ek7,es7⟩)
  (mc7:W.mroIn K CN (.ref ec7)=some false)
  (lkc8:K.lookup ec8=some ⟨.type "type",ed8,.cls ek8,es8⟩)
  (mc8:W.mroIn K CN (.ref ec8)=some false)
  (lkc9:K.lookup ec9=some ⟨.type "type",ed9,.cls ek9,es9⟩)
  (mc9:W.mroIn K CN (.ref ec9)=some false)
  (okN:(esN.toList.all (fun e=>match e.key with | .str _ _=>true | _=>false))=true)
  (okF:(esF.toList.all (fun e=>match e.key with | .str _ _=>true | _=>false))=true)
  (z0:zn K "isinstance")
  (z1:zn K "int")
  (z2:zn K "bool")
  (z3:zn K "tuple")
  (z4:zn K "list")
  (z5:zn K "len")
  (z6:zn K "all")
  (z7:zn K "min")
  (z8:zn K "max")
  (z9:zn K "sorted")
  (z10:zn K "range")
  (z11:zn K "abs")
  (z12:zn K "enumerate")
  (z13:zn K "zip")
  (z14:zn K "set")
  (z15:zn K "str")
  (z16:zn K "any")
  (z17:zn K "sum")
  (z18:zn K "ValueError")
  :
  ∃ fd:FuncData,(∀ (s:Shared) (v:Value),BindsTo s fd ⟨[v],[]⟩ [("_law_script",v)])/\∀ base:Heap,K.In base->base.Ns mainGlobals mg->FnOk l.prog w K mg base CX0 11 fa fd ["_law_script"] (BL K):=by
 have e:=hfa.symm.trans (W.mg_of X G a37)
 cases e
 have F0:=aV (st:=top 13) l0 c0 (aJ l0)
 have b0:=F0.binds (ps:=["thing"])
 have m0:=W.mg_of X G a0
 have F1:=aV (st:=top 14) l1 c1 (aJ l1)
 have b1:=F1.binds (ps:=["limit","thing"])
 have m1:=W.mg_of X G a1
 have F2:=aV (st:=top 15) l2 c2 (aJ l2)
 have b2:=F2.binds (ps:=["web","thing"])
 have m2:=W.mg_of X G a2
 have F3:=aV (st:=top 16) l3 c3 (aJ l3)
 have b3:=F3.binds (ps:=["web","thing"])
 have m3:=W.mg_of X G a3
 have F4:=aV (st:=top 18) l4 c4 (aJ l4)
 have b4:=F4.binds (ps:=["web"])
 have m4:=W.mg_of X G a4
 have F5:=aV (st:=top 19) l5 c5 (aJ l5)
 have b5:=F5.binds (ps:=["steps","start"])
 have m5:=W.mg_of X G a5
 have F6:=aV (st:=top 20) l6 c6 (aJ l6)
 have b6:=F6.binds (ps:=["web","place"])
 have m6:=W.mg_of X G a6
 have F7:=aV (st:=top 21) l7 c7 (aJ l7)
 have b7:=F7.binds (ps:=["web"])
 have m7:=W.mg_of X G a7
 have F8:=aV (st:=top 22) l8 c8 (aJ l8)
 have b8:=F8.binds (ps:=["places"])
 have m8:=W.mg_of X G a8
 have F9:=aV (st:=top 24) l9 c9 (aJ l9)
 have b9:=F9.binds (ps:=["web","v"])
 have m9:=W.mg_of X G a9
 have F10:=aV (st:=top 26) l10 c10 (aJ l10)
 have b10:=F10.binds (ps:=["limit","thing"])
 have m10:=W.mg_of X G a10
 have F11:=aV (st:=top 27) l11 c11 (aJ l11)
 have b11:=F11.binds (ps:=["n","thing"])
 have m11:=W.mg_of X G a11
 have F12:=aV (st:=top 28) l12 c12 (aJ l12)
 have b12:=F12.binds (ps:=["web","thing"])
 have m12:=W.mg_of X G a12
 have F13:=aV (st:=top 29) l13 c13 (aJ l13)
 have b13:=F13.binds (ps:=["tie","some"])
 have m13:=W.mg_of X G a13
 have F14:=aV (st:=top 30) l14 c14 (aJ l14)
 have b14:=F14.binds (ps:=["web","some"])
 have m14:=W.mg_of X G a14
 have F15:=aV (st:=top 32) l15 c15 (aJ l15)
 have b15:=F15.binds (ps:=["n","thing"])
 have m15:=W.mg_of X G a15
 have F16:=aV (st:=top 33) l16 c16 (aJ l16)
 have b16:=F16.binds (ps:=["total"])
 have m16:=W.mg_of X G a16
 have F17:=aV (st:=top 35) l17 c17 (aJ l17)
 have b17:=F17.binds (ps:=["thing","word","count"])
 have m17:=W.mg_of X G a17
 have F18:=aV (st:=top 37) l18 c18 (aJ l18)
 have b18:=F18.binds (ps:=["web","some"])
 have m18:=W.mg_of X G a18
 have F19:=aV (st:=top 38) l19 c19 (aJ l19)
 have b19:=F19.binds (ps:=["web","some"])
 have m19:=W.mg_of X G a19
 have F20:=aV (st:=top 39) l20 c20 (aJ l20)
 have b20:=F20.binds (ps:=["web","thing"])
 have m20:=W.mg_of X G a20
 have F21:=aV (st:=top 40) l21 c21 (aJ l21)
 have b21:=F21.binds (ps:=["web","paper"])
 have m21:=W.mg_of X G a21
 have F22:=aV (st:=top 42) l22 c22 (aJ l22)
 have b22:=F22.binds (ps:=["_law_script","_law_k"])
 have m22:=W.mg_of X G a22
 have F23:=aV (st:=top 43) l23 c23 (aJ l23)
 have b23:=F23.binds (ps:=["_law_pen_here","_law_many_here"])
 have m23:=W.mg_of X G a23
 have F24:=aV (st:=top 44) l24 c24 (aJ l24)
 have b24:=F24.binds (ps:=["_law_pen_here","_law_n","_law_pick"])
 have m24:=W.mg_of X G a24
 have F25:=aV (st:=top 45) l25 c25 (aJ l25)
 have b25:=F25.binds (ps:=["_law_pen_here","_law_n"])
 have m25:=W.mg_of X G a25
 have F26:=aV (st:=top 46) l26 c26 (aJ l26)
 have b26:=F26.binds (ps:=["_law_pen_here","_law_most"])
 have m26:=W.mg_of X G a26
 have F27:=aV (st:=top 47) l27 c27 (aJ l27)
 have b27:=F27.binds (ps:=["_law_e"])
 have m27:=W.mg_of X G a27
 have F28:=aV (st:=top 48) l28 c28 (aJ l28)
 have b28:=F28.binds (ps:=["_law_thing"])
 have m28:=W.mg_of X G a28
 have F29:=aV (st:=top 49) l29 c29 (aJ l29)
 have b29:=F29.binds (ps:=["_law_web_here","_law_some"])
 have m29:=W.mg_of X G a29
 have F30:=aV (st:=top 50) l30 c30 (aJ l30)
 have b30:=F30.binds (ps:=["_law_web_here","_law_some"])
 have m30:=W.mg_of X G a30
 have F31:=aV (st:=top 51) l31 c31 (aJ l31)
 have b31:=F31.binds (ps:=["_law_web_here","_law_gone"])
 have m31:=W.mg_of X G a31
 have F32:=aV (st:=top 52) l32 c32 (aJ l32)
 have b32:=F32.binds (ps:=["_law_pen_here","_law_n"])
 have m32:=W.mg_of X G a32
 have F33:=aV (st:=top 53) l33 c33 (aJ l33)
 have b33:=F33.binds (ps:=["_law_web_here","_law_paper"])
 have m33:=W.mg_of X G a33
 have F34:=aV (st:=top 54) l34 c34 (aJ l34)
 have b34:=F34.binds (ps:=["_law_web_here","_law_paper","_law_kept"])
 have m34:=W.mg_of X G a34
 have F35:=aV (st:=top 55) l35 c35 (aJ l35)
 have b35:=F35.binds (ps:=["_law_pen_here","_law_n","_law_some"])
 have m35:=W.mg_of X G a35
 have F36:=aV (st:=top 56) l36 c36 (aJ l36)
 have b36:=F36.binds (ps:=["_law_web_here","_law_thing"])
 have m36:=W.mg_of X G a36
 have F37:=aV (st:=top 57) l37 c37 (aJ l37)
 have B:Dl.Bn mg:=⟨W.mg_none_of X G z0,W.mg_none_of X G z1,W.mg_none_of X G z2,W.mg_none_of X G z3,W.mg_none_of X G z4,W.mg_none_of X G z5,W.mg_none_of X G z6,W.mg_none_of X G z7,W.mg_none_of X G z8,W.mg_none_of X G z9,W.mg_none_of X G z10,W.mg_none_of X G z11⟩
 have N12:=W.mg_none_of X G z12
 have N13:=W.mg_none_of X G z13
 have N14:=W.mg_none_of X G z14
 have N15:=W.mg_none_of X G z15
 have N16:=W.mg_none_of X G z16
 have N17:=W.mg_none_of X G z17
 have N18:=W.mg_none_of X G z18
 refine⟨W.fnOf "law" "law" (jP (top 57)) (fD (top 57)) (aq (top 57)) .none kV37 dc37 pm37 an37 cd37 ct37,fun s v=>.of_eq rfl,fun base _ _=>?_⟩
 have nsN:=CT lkNN okN
 have nsF:=CT lkNF okF
 have tlN:W.tailIn K [.type "ValueError",.type "Exception",.type "BaseException",.type "object"] (.ref CF::[.type "ValueError",.type "Exception",.type "BaseException",.type "object"])=true:=Gw lkF nsF ff1 Ea
 have XC:ExcCls K CN "ValueError.__new__" [.type "ValueError",.type "Exception",.type "BaseException",.type "object"]:=⟨⟨nmN,qN,NN,bsN,_,hdN,snN,subN,abN,colN,ddN,q0,q1,q2,q3,q5,lkN,tlN,nsN,niN,rfl⟩⟩
 have XKN:ExcK K CN:=⟨⟨nmN,qN,NN,CF,bsN,[.type "ValueError",.type "Exception",.type "BaseException",.type "object"],hdN,snN,subN,abN,colN,ddN,ddF,q0,q1,q2,q3,q5,"ValueError.__new__","ValueError",.type "type",cdF,slF,lkN,lkF,nsF,fun n hn=>by
  simp only [quietNames,List.mem_cons,List.not_mem_nil,or_false] at hn
  rcases hn with rfl | rfl | rfl | rfl
  ·exact ff1
  ·exact ff2
  ·exact ff3
  ·exact ff4,PySem.F.attrBase_ValueError⟩,ga,hook,clsN,mroN⟩
 have R:Dl.RefK K mg "NoSet" ["NoBack","NoOffers","NoOrder","NoPlace","NoRow","NoText","NoTie","NoWeb","TooMany"] CN CF ec1 ec2 ec3 ec4 ec5 ec6 ec7 ec8 ec9:=⟨W.mg_of X G xF,W.mg_of X G xN,W.mg_of X G x1,W.mg_of X G x2,W.mg_of X G x3,W.mg_of X G x4,W.mg_of X G x5,W.mg_of X G x6,W.mg_of X G x7,W.mg_of X G x8,W.mg_of X G x9,N18,Fw lkF mFB mNF,XKN,(fun c hc=>by
  simp only [List.mem_cons,List.not_mem_nil,or_false] at hc
  rcases hc with rfl | rfl | rfl | rfl | rfl | rfl | rfl | rfl | rfl
  ·exact cV lkc1 mc1 mNN
  ·exact cV lkc2 mc2 mNN
  ·exact cV lkc3 mc3 mNN
  ·exact cV lkc4 mc4 mNN
  ·exact cV lkc5 mc5 mNN
  ·exact cV lkc6 mc6 mNN
  ·exact cV lkc7 mc7 mNN
  ·exact cV lkc8 mc8 mNN
  ·exact cV lkc9 mc9 mNN
  ),yq,yp (by decide +kernel) mNV⟩
 have C0:=bw F0 b0 m0 (HX (P:=l.prog) (w:=w) (base:=base) F0 B)
 have C1:=bw F1 b1 m1 (Ia (P:=l.prog) (w:=w) (base:=base) F1 C0)
 have C2:=bw F2 b2 m2 (xJ (P:=l.prog) (w:=w) (base:=base) F2 B C1)
 have C3:=bw F3 b3 m3 (q9 (P:=l.prog) (w:=w) (base:=base) F3 B C2)
 have C4:=bw F4 b4 m4 (pG (P:=l.prog) (w:=w) (base:=base) F4 B N12)
 have C5:=bw F5 b5 m5 (Ep (P:=l.prog) (w:=w) (base:=base) F5 B)
 have C6:=bw F6 b6 m6 (zX (P:=l.prog) (w:=w) (base:=base) F6 B C5 C4)
 have C7:=bw F7 b7 m7 (HY (P:=l.prog) (w:=w) (base:=base) F7 B C6)
 have C8:=bw F8 b8 m8 (Lx (P:=l.prog) (w:=w) (base:=base) F8 B N13)
 have C9:=bw F9 b9 m9 (oE (P:=l.prog) (w:=w) (base:=base) F9 B C3 C7)
 have C10:=bw F10 b10 m10 (Er (P:=l.prog) (w:=w) (base:=base) F10 B C1 C8)
 have C11:=bw F11 b11 m11 (Es (P:=l.prog) (w:=w) (base:=base) F11 B C10)
 have C12:=nC F12 b12 m12 (Eu (P:=l.prog) (w:=w) (base:=base) F12 C11 R.mN XC PySem.F.excBase_ValueError)
 have C13:=bw F13 b13 m13 (Et (P:=l.prog) (w:=w) (base:=base) F13 )
 have C14:=nC F14 b14 m14 (Lr (P:=l.prog) (w:=w) (base:=base) F14 C12 C13)
 have C15:=bw F15 b15 m15 (Qy (P:=l.prog) (w:=w) (base:=base) F15 B N14 C11)
 have C16:=bw F16 b16 m16 (kh (P:=l.prog) (w:=w) (base:=base) F16 B)
 have C17:=bw F17 b17 m17 (xK (P:=l.prog) (w:=w) (base:=base) F17 B N15)
 have C18:=nC F18 b18 m18 (sW (P:=l.prog) (w:=w) (base:=base) F18 B N16 C14)
 have C19:=nC F19 b19 m19 (sV (P:=l.prog) (w:=w) (base:=base) F19 B C18)
 have C20:=bw F20 b20 m20 (lR (P:=l.prog) (w:=w) (base:=base) F20 B C17 C15 C2)
 have C21:=nC F21 b21 m21 (qZ (P:=l.prog) (w:=w) (base:=base) F21 B N17 R.mN XC PySem.F.excBase_ValueError C20 C16 C19 C9)
 have C22:=bw F22 b22 m22 (Qw (P:=l.prog) (w:=w) (base:=base) F22 B)
 have C23:=bw F23 b23 m23 (Ly (P:=l.prog) (w:=w) (base:=base) F23 B)
 have C24:=bw F24 b24 m24 (vo (P:=l.prog) (w:=w) (base:=base) F24 B C23)
 have C25:=bw F25 b25 m25 (H9 (P:=l.prog) (w:=w) (base:=base) F25 B C23)
 have C26:=bw F26 b26 m26 (zY (P:=l.prog) (w:=w) (base:=base) F26 B C23 C24 C25)
 have C27:=Np F27 b27 m27 (xH (P:=l.prog) (w:=w) (base:=base) F27 B R)
 have C28:=bw F28 b28 m28 (vh (P:=l.prog) (w:=w) (base:=base) F28 B)
 have C29:=bw F29 b29 m29 (xu (P:=l.prog) (w:=w) (base:=base) F29 B)
 have C30:=bw F30 b30 m30 (Aa (P:=l.prog) (w:=w) (base:=base) F30 B C29)
 have C31:=bw F31 b31 m31 (xG (P:=l.prog) (w:=w) (base:=base) F31 B)
 have C32:=bw F32 b32 m32 (sX (P:=l.prog) (w:=w) (base:=base) F32 B C23)
 have C33:=bw F33 b33 m33 (vp (P:=l.prog) (w:=w) (base:=base) F33 B N17 C31 C30)
 have C34:=bw F34 b34 m34 (vm (P:=l.prog) (w:=w) (base:=base) F34 B C21 C33 C28)
 have C35:=bw F35 b35 m35 (zZ (P:=l.prog) (w:=w) (base:=base) F35 B C23)
 have C36:=bw F36 b36 m36 (Lw (P:=l.prog) (w:=w) (base:=base) F36 R C21 C27)
 exact Qx F37 B C22 C26 C32 C34 C36 C35
theorem walk {l:W.OpenLaw}{q:Program}{loose:List Str}{XP:(Str->Option Value)->Heap->Prop}{YP:World->Heap->Prop}{d:DefRec}{K:Params->W.Frag} (hn:l.most=some 63) (hdf:d.params.defaults=[])
  (hY:∀ (w:World) (h:Heap),YP w h->(K w.params).In h)
  (F:∀ (w:World) (mg:Str->Option Value) (fa:Addr) (h:Heap),(K w.params).In h->h.Ns mainGlobals mg->mg d.name=some (.ref fa) ->
   ∃ fd:FuncData,(∀ (s:Shared) (u:Value),BindsTo s fd ⟨[u],[]⟩ [("_law_script",u)])/\∀ base:Heap,(K w.params).In base->base.Ns mainGlobals mg->FnOk l.prog w (K w.params) mg base CX0 11 fa fd ["_law_script"] (BL (K w.params))) :
  W.WalkO q loose XP YP l.row.toRowW d [] (fun f vs=>PySem.call f vs) :=
 L2.Ks (n:=63) (k:=11) (x:="_law_script") (CX:=fun _=>CX0) (sp:=fun w=>BL (K w.params)) hn (by decide) hdf ⟨rfl,by decide,by decide,rfl⟩ hY F (fun _ _ a ns hl hO hS=>⟨a,ns,rfl,hS,fun _=>rfl⟩) fun _ _ _ _ _ z=>z
end Nf
namespace Nf
open PySem PySem.W PyProof.Rows
def ug:List Nat:=[1,2,3,4,5,6,7,8,9,10,11,13,14,15,16,18,19,20,21,22,24,26,27,28,29,30,32,33,35,37,38,39,40,42,43,44,45,46,47,48,49,50,51,52,53,54,55,56,57]
def xX (p:Program) (w:World) (os:OsState):=(Eh p 7172 w os).map (fun s=>Gz p (view p ug) (fun s=>xlAt (view p ug) [] s&&recOk [] s) w s.abs)
def goodW (p:Program):=some (true,openGood (view p ug) [])
def frF (fr:Frag) (k:Nat):=some ((fr.map fun p=>some p.2).take k)
def frB (fr:Frag) (k:Nat):=some ((fr.map fun p=>some p.2).drop k)
def rO (p:Program) (w:World) (os:OsState) (as:List Addr) (k:Nat):=(Eh p 7172 w os).map (fun s=>(as.map s.abs.heap.get?).take k)
def yS (p:Program) (w:World) (os:OsState) (as:List Addr) (k:Nat):=(Eh p 7172 w os).map (fun s=>(as.map s.abs.heap.get?).drop k)
theorem Af:xX=xX:=rfl
theorem Av:goodW=goodW:=rfl
theorem yD:rO=rO:=rfl
theorem Bq:yS=yS:=rfl
end Nf
lay_quick Nf.xX Nf.goodW Nf.rO Nf.yS
name_quick lookQ for Nf.xX by Nf.Af
name_quick goodQ for Nf.goodW by Nf.Av
name_quick frontQ for Nf.rO by Nf.yD
name_quick backQ for Nf.yS by Nf.Bq
set_option maxHeartbeats 0 in
theorem Nf.Mh (w:PySem.World) (os:PySem.OsState):Nf.xX PySem.Challenge.pw_nofall_k33_place_bounds w os=Nf.goodW PySem.Challenge.pw_nofall_k33_place_bounds:=by
 rw [PySem.W.Fast.lookQ_eq,PySem.W.Fast.goodQ_eq]
 kernel_rfl
open PySem PySem.W PyProof.Rows
local macro_rules
 | `(tactic| k_qdec)=>`(tactic| fail)
local macro_rules
 | `(tactic| o_head (kHook $k $a $e))=>`(tactic| (
  refine holds_open (q:=view PySem.Challenge.pw_nofall_k33_place_bounds Nf.ug) (loose:=[]) (Xt:=fun s=>xlAt (view PySem.Challenge.pw_nofall_k33_place_bounds Nf.ug) [] s&&recOk [] s) (XP:=XL (view PySem.Challenge.pw_nofall_k33_place_bounds Nf.ug) []) (Yf:=Hook.obs (kHook $k $a $e)) (Ya:=Hook.val (kHook $k $a $e)) (YP:=Hook.says (kHook $k $a $e)) (N:=7172) ?hl (Hook.of (kHook $k $a $e)) (Hook.keeps (kHook $k $a $e)) (fun s e=>xl_of s (Bool.and_eq_true_iff.mp e).1) XL.keeps (by rfl) (by rfl) (by rfl) (fun s e=>recFacts_of (Bool.and_eq_true_iff.mp e).2) (by rfl) (by first | assumption | decide +kernel) (by decide +kernel) ⟨rfl,rfl,rfl,rfl,rfl,by decide +kernel⟩ ?hw ?hc))
theorem Nf.well:PySem.Challenge.rw_nofall_k33_place_bounds.wellSaid=true:=by kernel_rfl
set_option maxRecDepth 100000 in
set_option maxHeartbeats 0 in
theorem PySem.Challenge.cw_nofall_k33_place_bounds_holds : PySem.Challenge.rw_nofall_k33_place_bounds.Holds := by
 w_on; refine PySem.W.holds_law Nf.well fun said=>?_; k_head
 ·refine Nf.Mj 90 (boot_open (by kernel_rfl) rfl (fun s=>by kernel_rfl)) Nf.Mh (fun w os=>?_) (fun w os=>?_)
  ·show Nf.rO PySem.Challenge.pw_nofall_k33_place_bounds w os _ 90=Nf.frF _ 90
   rw [PySem.W.Fast.frontQ_eq]
   kernel_rfl
  ·show Nf.yS PySem.Challenge.pw_nofall_k33_place_bounds w os _ 90=Nf.frB _ 90
   rw [PySem.W.Fast.backQ_eq]
   kernel_rfl
 ·w_witness2
 k_fill
 refine Nf.walk (l:=PySem.Challenge.rw_nofall_k33_place_bounds) rfl rfl (fun w h Y=>PySem.W.kIn_of Y) ?F
 case F =>
  intro w mg fa h KX G hmg
  refine' Nf.all_mk KX G hmg ?a0 ?l0 ?c0 ?a1 ?l1 ?c1 ?a2 ?l2 ?c2 ?a3 ?l3 ?c3 ?a4 ?l4 ?c4 ?a5 ?l5 ?c5 ?a6 ?l6 ?c6 ?a7 ?l7 ?c7 ?a8 ?l8 ?c8 ?a9 ?l9 ?c9 ?a10 ?l10 ?c10 ?a11 ?l11 ?c11 ?a12 ?l12 ?c12 ?a13 ?l13 ?c13 ?a14 ?l14 ?c14 ?a15 ?l15 ?c15 ?a16 ?l16 ?c16 ?a17 ?l17 ?c17 ?a18 ?l18 ?c18 ?a19 ?l19 ?c19 ?a20 ?l20 ?c20 ?a21 ?l21 ?c21 ?a22 ?l22 ?c22 ?a23 ?l23 ?c23 ?a24 ?l24 ?c24 ?a25 ?l25 ?c25 ?a26 ?l26 ?c26 ?a27 ?l27 ?c27 ?a28 ?l28 ?c28 ?a29 ?l29 ?c29 ?a30 ?l30 ?c30 ?a31 ?l31 ?c31 ?a32 ?l32 ?c32 ?a33 ?l33 ?c33 ?a34 ?l34 ?c34 ?a35 ?l35 ?c35 ?a36 ?l36 ?c36 ?a37 ?l37 ?c37 ?xF ?xN ?x1 ?x2 ?x3 ?x4 ?x5 ?x6 ?x7 ?x8 ?x9 ?lkN ?lkF ?lkNN ?niN ?lkNF ?ff1 ?ff2 ?ff3 ?ff4 ?ga ?hook ?clsN ?mroN ?mNN ?mNF ?mFB ?mNV ?lkc1 ?mc1 ?lkc2 ?mc2 ?lkc3 ?mc3 ?lkc4 ?mc4 ?lkc5 ?mc5 ?lkc6 ?mc6 ?lkc7 ?mc7 ?lkc8 ?mc8 ?lkc9 ?mc9 ?okN ?okF ?z0 ?z1 ?z2 ?z3 ?z4 ?z5 ?z6 ?z7 ?z8 ?z9 ?z10 ?z11 ?z12 ?z13 ?z14 ?z15 ?z16 ?z17 ?z18
  any_goals (show _=_; k_is)
  any_goals rfl
end
