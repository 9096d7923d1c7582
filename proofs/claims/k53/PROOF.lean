import PyProof.Rows.All
import Wide.All
import OpenK.AllK
import Wide.FinOn
import Lean
import PyProof.EqAt
import PyProof.EqKinds
import PyProof.TupleCall
import PySem.Challenge.RW_nofall_k53_ways_not_let_by
set_option genSizeOf false
set_option genSizeOfSpec false
set_option Elab.async false
set_option linter.all false
set_option maxRecDepth 100000
open List renaming length_map → Á,length_append → Å,mem_singleton → È,getElem?_eq_getElem → É,replicate → Ì,mem_cons_self → Í,mem_cons_of_mem → Î,size_toArray → Ï,mem_append → Ð,mem_of_getElem? → Ò,getElem?_eq_some_iff → Ó,mem_append_right → Õ,getD_eq_getElem?_getD → Û,length_cons → Ý,mem_cons → á,map_append → å,getElem?_map → æ,range → è,map_cons → ê,mem_map → ë,flatten_cons → ï,mem_append_left → ô,sum_cons → ö,all_eq_true → ø,getElem?_append_right → ù,take_length → û,map_map → ü,length_drop → ý,append_assoc → þ,getElem?_append_left → Ć,append_nil → ć,take_append_drop → Č,not_mem_nil → ĕ,mem_flatten → Ė,length_take → ğ,getElem?_set_self → Ġ,take_add_one → ĩ,replicate_succ → Ī,mem_filter → Ĭ,lookup_cons → į,mem_range → ĳ,mem_iff_getElem → Ĵ,filter_cons_of_pos → ķ,filter_cons_of_neg → ĸ,take_of_length_le → Ļ,pairwise_cons → ŀ,countP_append → Ł,drop_eq_getElem_cons → Ň,toArray → ň,reverse_reverse → Ŋ,getElem?_set_ne → ŋ,reverse_append → ő,map_congr_left → Œ,getElem_mem → œ,getElem?_replicate → Ŕ,getElem?_cons_succ → ŕ,all_cons → ş,length_singleton → š,nodup_append → Ť,length_range → ť,length_dropLast → Ū,take → ū,map_reverse → Ŭ,extract_eq_drop_take → Ů,getElem_of_mem → Ű,map_drop → Ŷ,nodup_cons → ŷ,filter_append → Ÿ,drop → Ź,reverse_perm → ž
open PySem.PyData renaming int → Ã,list → ì,eqv → ñ,tuple → Ņ,canLayAll0 → ņ
open PySem renaming wpAny_bind → Ä,wpAny_pure → Ø,sizeLine_eq → í,wpAny_holding → ĥ,mem_of_lookup → Ĺ,wpAny_truthy_bool → ŏ,wpAny_mono → Ŗ
open Bool renaming false_ne_true → Æ,and_eq_true → Ê,eq_iff_iff → Ď,false_eq_true → Ĥ
open Nat renaming le_refl → Ë,ne_of_lt → ä,lt_of_lt_of_le → é,zero_le → Ă,lt_irrefl → Ą,lt_succ_of_lt → Ĉ,le_trans → ĉ,le_succ → Ō
open PyProof.Rows renaming wpS_bind → Ñ,wpS_pure → Ù,wpS_forRange → Ĕ,wpS_modify → ļ,wpS_mono → Ő,callWith_type1 → ř,step_dedup → ŵ,listUpdate_at → ż
open PySem.Heap renaming lt_size → Ô,get?_push_of_some → Ö,get?_push_size → ç,size_update → ď,get?_push_ne → đ,get?_update_other → Ĩ,get?_update_self → Š,size_push → ũ
open PySem.W renaming Frag → Þ,mg_of → Đ,mg_none_of → Ĝ,boot_heap → Ŏ,kitOne → ŭ,kia_one → ų,boot_o_0 → Ŵ
open PySem.Obj renaming mapSeq → â
open Option.some renaming inj → ã
open PySem.Challenge renaming pw_nofall_k53_ways_not_let_by → ð
open PySem.Value renaming none → ò,type → ą,ref → ń
open PySem.NameKind renaming free → ó,cell → Ā
open Int renaming le_refl → ÿ,le_of_lt → ā,le_trans → ē,toNat_natCast → Ě,not_lt → ł
open Array renaming toList_append → ă,length_toList → č,getElem?_toList → ė,size_extract → ģ,toList_push → Ķ,perm_iff_toList_perm → Ũ
open ForInStep renaming yield → ě
open Classical renaming byContradiction → Ğ
open PySem.PassesOwn renaming never → ġ
open Ne renaming symm → ī
open PySem.Builtin.SmallTypes renaming ownedTupleIsFree → Į,nextOf → ŗ
open PySem.F renaming plainAttrs_list → Ĳ
open Or renaming inl → ĵ
open PySem.Builtin.List renaming listExtendWith → Ř,listTooLong → ŧ
open False renaming elim → Ŝ
open PySem.Builtin.Slice renaming slicePlaces → Ş
open PySem.Builtin.Tuple renaming tupleExact → ţ
open Option renaming isSome_iff_exists → ů
open List.cons renaming sizeOf_spec → ź
noncomputable section
namespace L2
open PySem PySem.Spec PyProof.Rows
theorem zK{n:Nat}(h:Nat.ble n 1000=true:=by rfl):n<=1000:=Nat.le_of_ble_eq_true h
abbrev Key:=Sum Int Str
def JX:Key->Value->Bool
 |.inl k,v=>Value.isInt k v
 |.inr x,v=>Value.isStrOf x v
def Rm(w:World):Key->Int
 |.inl k=>hashInt k
 |.inr x=>hashStr w x
theorem bf:∀{k:Key}{v:Value},JX k v=true->(∃i t,k=Sum.inl i/\v=Value.int i t)\/(∃x t,k=Sum.inr x/\v=Value.str x t)
 |.inl i,v,h=>by
  obtain⟨t,e⟩:=Value.isInt_shape (k:=i) (v:=v) h
  exact .inl ⟨i,t,rfl,e⟩
 |.inr x,v,h=>by
  obtain⟨t,e⟩:=Value.isStrOf_shape (x:=x) (v:=v) h
  exact .inr ⟨x,t,rfl,e⟩
theorem Mp(a b:Int):decide ((Sum.inl a:Key)=Sum.inl b)=(a == b):=by
 by_cases e:a=b
 ·subst e;simp
 ·have h:¬(Sum.inl a:Key)=Sum.inl b:=λq=>e (Sum.inl.inj q)
  rw[decide_eq_false h]
  exact(beq_eq_false_iff_ne.mpr e).symm
theorem Mi(a b:Str):decide ((Sum.inr a:Key)=Sum.inr b)=decide (a=b):=by
 by_cases e:a=b
 ·subst e;simp
 ·have h:¬(Sum.inr a:Key)=Sum.inr b:=λq=>e (Sum.inr.inj q)
  rw[decide_eq_false h,decide_eq_false e]
theorem Ml(a:Int)(b:Str):decide ((Sum.inl a:Key)=Sum.inr b)=false:=decide_eq_false (λq=>nomatch q)
theorem Mj(a:Str)(b:Int):decide ((Sum.inr a:Key)=Sum.inl b)=false:=decide_eq_false (λq=>nomatch q)
def Ad(prog:Program)(w:World):PySem.KeyKind prog w Key where
 is:=JX
 hash:=Rm w
 inj:=λv a b ha hb=>by
  rcases bf ha with ⟨i,t,rfl,rfl⟩|⟨x,t,rfl,rfl⟩
  ·rcases bf hb with ⟨j,u,rfl,e⟩|⟨y,u,rfl,e⟩
   ·injection e with e1 _;rw[e1]
   ·exact nomatch e
  ·rcases bf hb with ⟨j,u,rfl,e⟩|⟨y,u,rfl,e⟩
   ·exact nomatch e
   ·injection e with e1 _;rw[e1]
 byValue:=λk v h=>by
  rcases bf h with ⟨i,t,rfl,rfl⟩|⟨x,t,rfl,rfl⟩ <;> rfl
 pyHash:=λhv h=>by
  rcases bf hv with ⟨i,t,rfl,rfl⟩|⟨x,t,rfl,rfl⟩
  ·exact wpAny_pyHash_int h
  ·exact wpAny_pyHash_str h
 eqBool:=λhu hv h=>by
  rcases bf hu with ⟨i,t,rfl,rfl⟩|⟨x,t,rfl,rfl⟩
  ·rcases bf hv with ⟨j,u,rfl,rfl⟩|⟨y,u,rfl,rfl⟩
   ·rw[Mp] at h;exact wpAny_eqBool_int h
   ·rw[Ml] at h;exact SeqAt.EqAt.int_str i t y u _ _ _ _ h
  ·rcases bf hv with ⟨j,u,rfl,rfl⟩|⟨y,u,rfl,rfl⟩
   ·rw[Mj] at h;exact SeqAt.EqAt.str_int x t j u _ _ _ _ h
   ·rw[Mi] at h;exact wpAny_eqBool_str h
 «strs»:=λk x t v h=>by
  rcases bf h with ⟨i,u,rfl,e⟩|⟨y,u,rfl,e⟩
  ·exact nomatch e
  ·injection e with e1 _
   subst e1
   cases v <;> rfl
inductive V where
 |non|bl (b:Bool)|int (i:Int)|str (x:Str)|byt (b:Array UInt8)|flt (b:UInt64)|ref (a:Addr)|ty (n:String)
 deriving DecidableEq
def RelV:V->Value->Prop
 |.non,u=>u=ò
 |.bl b,u=>u=Value.bool b
 |.int i,u=>∃t,u=Value.int i t
 |.str x,u=>∃t,u=Value.str x t
 |.byt b,u=>∃t,u=Value.bytes b t
 |.flt b,u=>∃t,u=Value.float b t
 |.ref a,u=>u=ń a
 |.ty n,u=>u=ą n
abbrev Vals:List V->List Value->Prop:=Paired RelV
theorem Vals.length{xs:List V}{us:List Value}(r:Vals xs us):xs.length=us.length:=Paired.length r
theorem Vals.get:∀{xs:List V}{us:List Value}{i:Nat}{x:V},Vals xs us->xs[i]?=some x->∃u,us[i]?=some u/\RelV x u
 |_,_,_,_,.nil,e=>by simp at e
 |_,_,0,_,.cons r _,e=>by simp at e;subst e;exact⟨_,rfl,r⟩
 |_,_,i+1,x,.cons _ t,e=>by
  obtain⟨u,h1,h2⟩:=Vals.get (i:=i) (x:=x) t (by simpa using e)
  exact⟨u,by simpa using h1,h2⟩
theorem Vals.set{x:V}{u:Value}(r:RelV x u):∀{xs:List V}{us:List Value} (i:Nat),Vals xs us->Vals (xs.set i x) (us.set i u)
 |_,_,_,.nil=>.nil
 |_,_,0,.cons _ t=>.cons r t
 |_,_,i+1,.cons q t=>.cons q (Vals.set r i t)
theorem Vals.append:∀{xs ys:List V}{us ws:List Value},Vals xs us->Vals ys ws->Vals (xs++ys) (us++ws)
 |_,_,_,_,.nil,s=>s
 |_,_,_,_,.cons r t,s=>.cons r (Vals.append t s)
theorem Vals.take:∀{xs:List V}{us:List Value} (n:Nat),Vals xs us->Vals (xs.take n) (us.take n)
 |_,_,0,_=>.nil
 |_,_,_+1,.nil=>.nil
 |_,_,n+1,.cons r t=>.cons r (Vals.take n t)
theorem Vals.drop:∀{xs:List V}{us:List Value} (n:Nat),Vals xs us->Vals (xs.drop n) (us.drop n)
 |_,_,0,r=>r
 |_,_,_+1,.nil=>.nil
 |_,_,n+1,.cons _ t=>Vals.drop n t
def Np:Option V->Option Value->Prop
 |some v,some u=>RelV v u
 |none,none=>True
 |_,_=>False
def KV{κ:Type}:List (κ×V)->List (κ×Value)->Prop:=Paired λ(p:κ×V) (q:κ×Value)=>p.1=q.1/\RelV p.2 q.2
def kV:Key->V
 |.inl i=>.int i
 |.inr x=>.str x
inductive HO where
 |lst (xs:List V)
 |tup (xs:List V)
 |dK (kvs:List (Key×V))|dT (kvs:List (List Key×V))
 |set (S:Int->Bool) (n:Nat)
 |ins (C dx:Addr) (fs:List (Str×V))
 |own (x:Addr)
 |xd (fs:List (Str×V))
 |met (f x:Addr)
 |rng (lo hi:Int)
 |frz (o:Obj) (u:HO)
 |tbl (ps:Array Value)
 |ext (φ:Heap->Prop)
abbrev Hp:=Addr->Option HO
def upd(H:Hp)(a:Addr)(o:HO):Hp:=λb=>if b=a then some o else H b
theorem aq{H:Hp}{a:Addr}{o:HO}:upd H a o a=some o:=by unfold upd;rw[if_pos rfl]
theorem ao{H:Hp}{a b:Addr}{o:HO}(h:b≠a):upd H a o b=H b:=by unfold upd;rw[if_neg h]
theorem aD{H:Hp}{a b:Addr}{o:HO}(h:H a=some o)(h':H b=none):a≠b:=by
 intro e;subst e;rw[h] at h';cases h'
section
variable (P:Program) (w:World)
def bO(H:Hp)(h:Heap)(a:Addr):HO->Prop
 |.lst xs=>xs.length<=sizeLine/\∃(its:List Value) (n:Nat),Vals xs its/\h.get? a=some { cls:=.type "list",data:=.seq its.toArray n }
 |.tup xs=>xs.length<=sizeLine/\∃its:List Value,Vals xs its/\IsTup h a its.toArray
 |.dK kvs=>kvs.length<=sizeLine/\(a == sysModules)=false/\∃vs,KV kvs vs/\h.DictOf (Ad P w) a vs
 |.dT kvs=>kvs.length<=sizeLine/\(a == sysModules)=false/\∃xs:List (List Key×Addr×Value),
   Paired (λ(p:List Key×V) (q:List Key×Addr×Value)=>p.1=q.1/\H q.2.1=some (.tup (p.1.map kV))/\RelV p.2 q.2.2) kvs xs /\
   ∃o es ep,h.get? a=some o/\o.ExactDict/\o.data=.dict es ep/\es.toList=xs.map (entryOfKey (tupleKind (Ad P w)))/\(xs.map (·.1)).Nodup
 |.set S n=>h.SetOf (intKind P w) a S n
 |.ins C dx fs=>H dx=some (.own a)/\fs.length<=1000/\dx≠a/\h.get? a=some (W.instObj C dx) /\
   ∃mA,h.Ns1 dx mA/\(∀f,Np (fs.lookup f) (mA f))/\PySem.Within mA (fs.map (·.1))
 |.own _=>∃o,h.get? a=some o
 |.xd fs=>∃mA,h.Ns1 a mA/\∀f,Np (fs.lookup f) (mA f)
 |.rng lo hi=>∃t u v,h.get? a=some { cls:=.type "range",data:=.fields #[.int lo t,.int hi u,.int 1 v] }
 |.frz o u=>h.get? a=some o/\bO H h a u
 |.tbl ps=>h.get? a=some { cls:=.none,data:=.fields ps }
 |.met f x=>h.get? a=some (W.methodObj (.ref f) (.ref x))
 |.ext φ=>φ h/\(∃o,h.get? a=some o)/\∀h1 h2:Heap,φ h1->(∀o,h1.get? a=some o->h2.get? a=some o)->φ h2
def HOk(H:Hp)(h:Heap):Prop:=∀a o,H a=some o->bO P w H h a o
end
section
variable {P:Program}{w:World}{H H':Hp}{h h':Heap}{a:Addr}{o:HO}
theorem bO.lt(x:bO P w H h a o):a<h.objs.size:=by
 cases o with
 |lst xs=>obtain⟨_,_,_,_,e⟩:=x;exact Ô e
 |tup xs=>obtain⟨_,_,_,p⟩:=x;exact p.lt
 |dK kvs=>obtain⟨_,_,_,_,o,_,_,e,_⟩:=x;exact Ô e
 |dT kvs=>obtain⟨_,_,_,_,o,_,_,e,_⟩:=x;exact Ô e
 |set S n=>obtain⟨o,_,_,_,e,_⟩:=x;exact Ô e
 |ins C dx fs=>obtain⟨_,_,_,e,_⟩:=x;exact Ô e
 |own y=>obtain⟨_,e⟩:=x;exact Ô e
 |xd fs=>obtain⟨_,⟨_,_,_,e,_⟩,_⟩:=x;exact Ô e
 |rng lo hi=>obtain⟨_,_,_,e⟩:=x;exact Ô e
 |frz ob u=>obtain⟨e,_⟩:=x;exact Ô e
 |tbl ps=>exact Ô (show h.get? a=some _ from x)
 |met f y=>exact Ô (show h.get? a=some _ from x)
 |ext φ=>obtain⟨_,⟨_,e⟩,_⟩:=x;exact Ô e
theorem Paired.yC{α β:Type}{F G:α->β->Prop}:∀{l₁:List α}{l₂:List β},Paired F l₁ l₂->(∀a b,F a b->G a b)->Paired G l₁ l₂
 |_,_,.nil,_=>.nil
 |_,_,.cons r t,f=>.cons (f _ _ r) (Paired.yC t f)
theorem bO.stay(x:bO P w H h a o)(k:∀b u,(b=a\/H b=some (.own a))->h.get? b=some u->h'.get? b=some u)(ho:∀b,H b=some (.own a)->H' b=some (.own a))(ht:∀b xs,H b=some (.tup xs)->H' b=some (.tup xs)):bO P w H' h' a o:=by
 induction o with
 |lst xs=>obtain⟨z,its,n,r,e⟩:=x;exact⟨z,its,n,r,k _ _ (.inl rfl) e⟩
 |tup xs=>obtain⟨z,its,r,ob,e,c⟩:=x;exact⟨z,its,r,ob,k _ _ (.inl rfl) e,c⟩
 |dK kvs=>obtain⟨z,y,vs,r,ob,es,ep,e,c⟩:=x;exact⟨z,y,vs,r,ob,es,ep,k _ _ (.inl rfl) e,c⟩
 |dT kvs =>
  obtain⟨z,y,xs,r,ob,es,ep,e,c⟩:=x
  exact⟨z,y,xs,Paired.yC r λp q z=>⟨z.1,ht _ _ z.2.1,z.2.2⟩,ob,es,ep,k _ _ (.inl rfl) e,c⟩
 |set S n=>obtain⟨ob,es,ep,t,e,c⟩:=x;exact⟨ob,es,ep,t,k _ _ (.inl rfl) e,c⟩
 |ins C dx fs =>
  obtain⟨d,z,ne,e,mA,⟨od,es,ep,e2,c⟩,r⟩:=x
  exact⟨ho _ d,z,ne,k _ _ (.inl rfl) e,mA,⟨od,es,ep,k _ _ (.inr d) e2,c⟩,r⟩
 |own y=>obtain⟨ob,e⟩:=x;exact⟨ob,k _ _ (.inl rfl) e⟩
 |xd fs=>obtain⟨mA,⟨od,es,ep,e,c⟩,r⟩:=x;exact⟨mA,⟨od,es,ep,k _ _ (.inl rfl) e,c⟩,r⟩
 |rng lo hi=>obtain⟨t,u,v,e⟩:=x;exact⟨t,u,v,k _ _ (.inl rfl) e⟩
 |frz ob u ih=>obtain⟨e,q⟩:=x;exact⟨k _ _ (.inl rfl) e,ih q⟩
 |tbl ps =>
  have e:h.get? a=some { cls:=.none,data:=.fields ps }:=x
  show h'.get? a=some { cls:=.none,data:=.fields ps }
  exact k a _ (.inl rfl) e
 |met f y =>
  have e:h.get? a=some (W.methodObj (.ref f) (.ref y)):=x
  show h'.get? a=some (W.methodObj (.ref f) (.ref y))
  exact k a _ (.inl rfl) e
 |ext φ=>obtain⟨p,⟨o,e⟩,st⟩:=x;exact⟨st _ _ p λo q=>k _ _ (.inl rfl) q,⟨o,k _ _ (.inl rfl) e⟩,st⟩
theorem HOk.lt(x:HOk P w H h)(e:H a=some o):a<h.objs.size:=(x a o e).lt
theorem HOk.fresh(x:HOk P w H h)(e:h.objs.size<=a):H a=none:=by
 cases q:H a with
 |none=>rfl
 |some u=>exact absurd (é (x.lt q) e) (Ą _)
theorem HOk.kept(x:HOk P w H h)(k:∀b u,h.get? b=some u->h'.get? b=some u):HOk P w H h':=λa o e =>
 (x a o e).stay (λb u _ q=>k b u q) (λ_ q=>q) λ_ _ q=>q
theorem HOk.laid(x:HOk P w H h)(k:∀b u,h.get? b=some u->h'.get? b=some u)(hp:h.objs.size<=a)(new:bO P w (upd H a o) h' a o):HOk P w (upd H a o) h':=λb u e=>by
 have hn:=x.fresh hp
 by_cases hb:b=a
 ·subst hb;rw[aq] at e;cases e;exact new
 ·rw[ao hb] at e
  exact(x b u e).stay (λc v _ q=>k c v q) (λc q=>by rw[ao (aD q hn)];exact q) λc xs q=>by rw[ao (aD q hn)];exact q
end
def Rd(H:Hp)(a:Addr)(u:HO):Prop:=H a=some u\/∃o,H a=some (.frz o u)
theorem Rd.ok{P:Program}{w:World}{H:Hp}{h:Heap}{a:Addr}{u:HO}(r:Rd H a u)(x:HOk P w H h):bO P w H h a u:=by
 rcases r with r|⟨o,r⟩
 ·exact x a u r
 ·obtain⟨_,q⟩:=x a _ r
  exact q
def Mut:Option HO->Prop
 |some (.lst _)=>True
 |some (.dK _)=>True
 |some (.dT _)=>True
 |some (.set _ _)=>True
 |some (.ins _ _ _)=>True
 |some (.ext _)=>True
 |_=>False
section
variable {P:Program}{w:World}{H:Hp}{h h':Heap}{x e:Addr}{o':HO}
theorem HOk.write(ok:HOk P w H h)(mu:Mut (H x))(he:e=x\/H e=some (.own x))(k:∀b u,b≠e->h.get? b=some u->h'.get? b=some u)(heo:∃u,h'.get? e=some u)(new:bO P w (upd H x o') h' x o'):HOk P w (upd H x o') h':=λb u q=>by
 have nown:∀c y,H c=some (.own y)->c≠x:=λc y r z=>by subst z;rw[r] at mu;exact mu
 have ntup:∀c xs,H c=some (.tup xs)->c≠x:=λc xs r z=>by subst z;rw[r] at mu;exact mu
 by_cases hb:b=x
 ·subst hb;rw[aq] at q;cases q;exact new
 ·rw[ao hb] at q
  by_cases hbe:b=e
  ·have q':H b=some (.own x):=by
    rcases he with z|z
    ·exact absurd (hbe.trans z) hb
    ·rw[hbe];exact z
   rw[q] at q';cases q'
   obtain⟨v,hv⟩:=heo
   exact⟨v,by rw[hbe];exact hv⟩
  ·refine(ok b u q).stay (λc v hc r=>k c v ?_ r) (λc r=>by rw[ao (nown c b r)];exact r) λc xs r=>by rw[ao (ntup c xs r)];exact r
   rcases hc with rfl|hc
   ·exact hbe
   ·rintro rfl
    rcases he with z|z
    ·exact nown c b hc z
    ·rw[hc] at z;cases z;exact hb rfl
end
structure Un(fs ex:List Addr)(H H':Hp)(h h':Heap):Prop where
 keep:∀b o,h.get? b=some o->H b=none->b∉fs->b∉ex->h'.get? b=some o
 slot:∀b o,h.get? b=some o->H b=none->b∈fs->b∉ex->∃sl,h'.get? b=some { o with slots:=sl }
 free:∀b o,h.get? b=some o->H b=none->b∉ex->H' b=none
 there:∀b o,h.get? b=some o->b∉ex->∃o',h'.get? b=some o'
 tups:∀b xs,H b=some (.tup xs)->H' b=some (.tup xs)
 frzs:∀b o u,H b=some (.frz o u)->H' b=some (.frz o u)
 tbls:∀b ps,H b=some (.tbl ps)->∃more,H' b=some (.tbl (ps++more))
section
variable {fs fs' ex ex':List Addr}{H H1 H2:Hp}{h h1 h2 h':Heap}{a x e:Addr}{o:HO}
theorem Un.any(u:Un fs ex H H1 h h1){b:Addr}{ob:Obj}(q:h.get? b=some ob)(n:H b=none)(hx:b∉ex):∃sl,h1.get? b=some { ob with slots:=sl }:=by
 by_cases hb:b∈fs
 ·exact u.slot b ob q n hb hx
 ·exact⟨ob.slots,u.keep b ob q n hb hx⟩
theorem Un.kept(k:∀b u,h.get? b=some u->h'.get? b=some u):Un fs ex H H h h' :=
 ⟨λb ob q _ _ _=>k b ob q,λb ob q _ _ _=>⟨ob.slots,k b ob q⟩,λ_ _ _ n _=>n,λb ob q _=>⟨ob,k b ob q⟩,λ_ _ q=>q,λ_ _ _ q=>q,λ_ ps q=>⟨#[],by rw[q];simp⟩⟩
theorem Un.refl:Un fs ex H H h h:=Un.kept λ_ _ q=>q
theorem Un.laid(k:∀b u,h.get? b=some u->h'.get? b=some u)(hp:h.objs.size<=a)(hn:H a=none):Un fs ex H (upd H a o) h h' where
 keep:=λb u q _ _ _=>k b u q
 slot:=λb u q _ _ _=>⟨u.slots,k b u q⟩
 free:=λb u q n _=>by rw[ao (ä (é (Ô q) hp))];exact n
 there:=λb u q _=>⟨u,k b u q⟩
 tups:=λb xs q=>by rw[ao (aD q hn)];exact q
 frzs:=λb u xs q=>by rw[ao (aD q hn)];exact q
 tbls:=λb ps q=>⟨#[],by rw[ao (aD q hn),q];simp⟩
theorem Un.write(mu:Mut (H x))(he:e=x\/H e=some (.own x))(k:∀b u,b≠e->h.get? b=some u->h'.get? b=some u)(heo:∃u,h'.get? e=some u):Un fs ex H (upd H x o) h h':=by
 have hx:∀b,H b=none->b≠x:=λb n z=>by subst z;rw[n] at mu;exact mu
 have hb:∀b,H b=none->b≠e:=λb n z=>by
  subst z
  rcases he with r|r
  ·exact hx b n r
  ·rw[n] at r;cases r
 have hm:∀b u,H b=some u->¬Mut (some u)->b≠x:=λb u q nm z=>by subst z;rw[q] at mu;exact nm mu
 refine⟨λb u q n _ _=>k b u (hb b n) q,λb u q n _ _=>⟨u.slots,k b u (hb b n) q⟩,λb u q n _=>by rw[ao (hx b n)];exact n,λb u q _=>?_,
  λb xs q=>by rw[ao (hm b _ q λz=>z)];exact q,λb u xs q=>by rw[ao (hm b _ q λz=>z)];exact q,λb ps q=>⟨#[],by rw[ao (hm b _ q λz=>z),q];simp⟩⟩
 by_cases hbe:b=e
 ·subst hbe;exact heo
 ·exact⟨u,k b u hbe q⟩
end
def trk(h:Heap)(H:Hp):List Addr:=(è h.objs.size).filter λa=>(H a).isSome
def uQ(h:Heap)(H:Hp):Heap:=W.hideAll h (trk h H)
theorem Cd(h:Heap)(H:Hp):(uQ h H).objs.size=h.objs.size:=W.hideAll_size _ _
theorem Fy{h:Heap}{H:Hp}{b:Addr}{o:Obj}(e:h.get? b=some o)(n:H b=none):(uQ h H).get? b=some o :=
 W.hideAll_get _ e λhm=>by
  have q:(H b).isSome=true:=(Ĭ.mp hm).2
  rw[n] at q;simp at q
theorem HY{h:Heap}{H:Hp}{b:Addr}{o:Obj}(e:(uQ h H).get? b=some o):h.get? b=some o/\H b=none:=by
 have e':h.get? b=some o:=W.of_hideAll (trk h H) e
 refine⟨e',?_⟩
 cases q:H b with
 |none=>rfl
 |some x =>
  have hm:b∈trk h H:=Ĭ.mpr ⟨ĳ.mpr (Ô e'),by simp[q]⟩
  have z:(uQ h H).get? b=none:=W.hideAll_none (trk h H) hm
  rw[z] at e;cases e
def vh(g h:Heap)(L:Addr):List (Addr×Obj):=(è h.objs.size).filterMap λa=>if a=L\/(g.get? a).isSome=true then none else (h.get? a).map λo=>(a,o)
theorem qm{g h:Heap}{L:Addr}{p:Addr×Obj}(hp:p∈vh g h L):p.1≠L/\g.get? p.1=none/\h.get? p.1=some p.2:=by
 obtain⟨b,_,e⟩:=List.mem_filterMap.mp hp
 split at e
 ·cases e
 ·rename_i hn
  cases q:h.get? b with
  |none=>rw[q] at e;simp at e
  |some u =>
   rw[q] at e
   simp only[Option.map_some,Option.some.injEq] at e
   subst e
   refine⟨λz=>hn (.inl z),?_,q⟩
   show g.get? b=none
   cases r:g.get? b with
   |none=>rfl
   |some v=>exact(hn (.inr (by simp[r]))).elim
def rest(g h:Heap)(L d:Addr):List (Addr×Obj):=(vh g h L).filter λp=>decide (p.1≠d)
theorem EY{g h:Heap}{L:Addr}:News g L h (vh g h L):=λp hp=>let ⟨a,b,c⟩:=qm hp;⟨c,a,b⟩
structure Mod(K:Þ)(mg:Str->Option Value)(base:Heap):Prop where
 kin:K.In base
 glob:base.Ns mainGlobals mg
 blt:∃mb,base.Ns builtinsNs mb/\∀x:Str,x≠"__name__"->mb x=bootBuiltins x
 nolimit:base.NoLimit
structure Cx where
 prog:Program
 w:World
 K:Þ
 mg:Str->Option Value
 base:Heap
 A:Around
 N:List Str
 s₀:Shared
 H₀:Hp
 env:Env
 outer:List Env
 stack:List Env
 ex:List Addr
 fn:Str->Bool
 calm:Bool
 pn:List (Addr×Obj)
 xe:Value->Shared->Prop
 sf:List (Addr×Obj×HO):=[]
def frs(l:List Env):List Addr:=l.filterMap (·.frame)
abbrev Cx.fs(X:Cx):List Addr:=frs X.outer
def Vis(sc:Scope)(x:Str):Prop:=sc.names.lookup x=some .local\/sc.names.lookup x=some .cell\/sc.names.lookup x=some .free
def Loc(sc:Scope)(x:Str):Prop:=sc.names.lookup x=some .local\/sc.names.lookup x=some .cell
def Look(env:Env)(h:Heap)(m:Str->Option Value)(x:Str)(u:Value):Prop :=
 (env.kindOf x=some .local/\m x=some u)\/((env.kindOf x=some .cell\/env.kindOf x=some .free)/\∃c,env.cells.lookup x=some c/\h.IsCell c (some u))
abbrev zS(X:Cx)(e:Expr)(es:List Expr):Prop:=starEach (e::es) X.env=(false,eval e X.env)::starEach es X.env
abbrev zP(X:Cx)(p:Pos)(es:List Expr):Prop:=(backTo p (starEach es X.env)).any (·.1)=false
abbrev zB(x:Str):Prop:=(x == ("__debug__":Str))=false
abbrev zF(X:Cx)(e:Expr):Prop:=∀x,foldedSetIterable e X.env x=pure x
abbrev zL(X:Cx)(x:Str):Prop:=X.fn x=true\/X.env.scope.names.lookup x=some .local
abbrev zW(X:Cx)(p:Pos)(es:List Expr):Prop:=((backTo p (starEach es X.env)).all (λx=>!x.1)&&(backToKw p (keywordEach [] X.env)).all (λx=>x.1.isSome)&&decide (es.length+([]:List Keyword).length+(if ([]:List Keyword).isEmpty then 0 else 1)<30))=true
theorem zQ{sc:Scope}{x:Str}(h:(sc.names.lookup x == some .local||sc.names.lookup x == some .cell)=true:=by rfl):Loc sc x:=(Bool.or_eq_true_iff.mp h).imp (λz=>eq_of_beq z) λz=>eq_of_beq z
structure Cx.Ok(X:Cx):Prop where
 mod:Mod X.K X.mg X.base
 kind:X.env.scope.kind=.function
 glob:X.env.globals=mainGlobals
 blt:X.env.builtins=builtinsNs
 above:X.s₀.heap.objs.size<=X.env.locals
 inj:∀x y c,X.env.cells.lookup x=some c->X.env.cells.lookup y=some c->x=y
 has:∀x,(X.env.kindOf x=some .cell\/X.env.kindOf x=some .free)->∃c,X.env.cells.lookup x=some c
 cab:∀x c,X.fn x=true->X.env.cells.lookup x=some c->X.s₀.heap.objs.size<=c
 hd:X.calm=true->X.A.handled=none
 frames:X.A.frames=some X.stack
 stk:X.stack=X.outer\/(X.stack=X.env::X.outer/\X.env.frame=some X.env.locals)
 exf:∀b∈X.ex,b≠X.env.locals/\∀x c,X.env.cells.lookup x=some c->c≠b
 bs:∀b o,X.base.get? b=some o->X.s₀.heap.get? b=some o/\X.H₀ b=none
 bsz:X.base.objs.size<=X.s₀.heap.objs.size
 noex:∀b o,X.base.get? b=some o->b∉X.ex
 exfs:∀b∈X.ex,b∉X.fs
 qI:X.s₀.heap.FunFrames X.base X.outer
 frf:∀b∈X.fs,X.H₀ b=none
 sof:∀q∈X.sf,X.A.handled=some (.ref q.1)/\X.H₀ q.1=some (.frz q.2.1 q.2.2)/\∃ws,q.2.1.data=.fields ws/\ws[2]?=some .none
structure Inv(X:Cx)(pins:List (Addr×Obj))(σ:List (Option V))(H:Hp)(s:Shared):Prop where
 ok:X.Ok
 os:s.os=X.s₀.os
 bare:AllBare s.gens
 base:Un X.fs X.ex X.H₀ H X.s₀.heap s.heap
 loc:∃m,s.heap.Ns X.env.locals m/\∀(i:Nat) (x:Str) (v:V),X.N[i]?=some x->σ[i]?=some (some v)->Vis X.env.scope x->∃u,RelV v u/\Look X.env s.heap m x u
 cell:∀x c,X.env.cells.lookup x=some c->∃v,s.heap.IsCell c v
 free:H X.env.locals=none
 freeC:∀x c,X.env.cells.lookup x=some c->H c=none
 pin:∀p∈X.pn++pins,s.heap.get? p.1=some p.2/\H p.1=none/\p.1≠X.env.locals/\p.1∉X.fs/\∀v,p.2.data≠.cell v
 hok:HOk X.prog X.w H s.heap
 len:σ.length=X.N.length
section
variable {X:Cx}{pins:List (Addr×Obj)}{σ:List (Option V)}{H H':Hp}{s:Shared}{h':Heap}
theorem Cx.Ok.Ra(ok:X.Ok){b:Addr}{o:Obj}(e:X.base.get? b=some o):b∉X.fs:=λhb=>by
 have:=(ok.qI.mem hb).1
 rw[e] at this;cases this
theorem Inv.bs(I:Inv X pins σ H s):∀b o,X.base.get? b=some o->s.heap.get? b=some o/\H b=none:=λb o e =>
 ⟨I.base.keep b o (I.ok.bs b o e).1 (I.ok.bs b o e).2 (I.ok.Ra e) (I.ok.noex b o e),I.base.free b o (I.ok.bs b o e).1 (I.ok.bs b o e).2 (I.ok.noex b o e)⟩
theorem Inv.bk(I:Inv X pins σ H s):∀b o,X.base.get? b=some o->s.heap.get? b=some o:=λb o e=>(I.bs b o e).1
theorem Inv.mod(I:Inv X pins σ H s):Mod X.K X.mg X.base:=I.ok.mod
theorem Inv.kIn(I:Inv X pins σ H s):X.K.In s.heap:=I.ok.mod.kin.keeps I.bk
theorem Inv.fr(I:Inv X pins σ H s):∃m,Fr X.base X.env.locals s.heap m :=
 let ⟨m,hn,_⟩:=I.loc
 ⟨m,hn,I.bk,ĉ I.ok.bsz I.ok.above⟩
theorem Inv.lt(I:Inv X pins σ H s):X.env.locals<s.heap.objs.size:=let ⟨_,hn,_⟩:=I.loc;hn.lt
theorem Inv.sz(I:Inv X pins σ H s):X.s₀.heap.objs.size<=s.heap.objs.size:=ĉ I.ok.above (Nat.le_of_lt I.lt)
theorem Inv.Q9(I:Inv X pins σ H s){a:Addr}(h:s.heap.objs.size<=a):a∉X.fs:=λhb=>by
 obtain⟨_,o,ho,_⟩:=I.ok.qI.mem hb
 exact absurd (é (Ô ho) (ĉ I.sz h)) (Ą _)
theorem Inv.cne(I:Inv X pins σ H s):∀x c,X.env.cells.lookup x=some c->c≠X.env.locals:=λx c e z=>by
 obtain⟨v,o,ho,hd⟩:=I.cell x c e
 obtain⟨m,⟨o',es,ep,ho',hd',_⟩,_⟩:=I.loc
 rw[z,ho'] at ho;cases ho;rw[hd'] at hd;cases hd
theorem Inv.qI(I:Inv X pins σ H s):s.heap.FunFrames X.base X.outer:=by
 have all:∀(l:List Env),(∀b∈frs l,b∈X.fs)->X.s₀.heap.FunFrames X.base l->s.heap.FunFrames X.base l:=by
  intro l
  induction l with
  |nil=>intro _ _;trivial
  |cons env r ih =>
   intro hs hl
   obtain⟨hk,⟨L,o,hf,hn,ho,hd⟩,hr⟩:=hl
   have hL:L∈X.fs:=hs L (by unfold frs;rw[List.filterMap_cons,hf];exact Í)
   obtain⟨sl,e⟩:=I.base.slot L o ho (I.ok.frf L hL) hL λz=>I.ok.exfs L z hL
   exact⟨hk,⟨L,_,hf,hn,e,hd⟩,ih (λb hb=>hs b (by unfold frs;rw[List.filterMap_cons,hf];exact Î _ hb)) hr⟩
 exact all X.outer (λ_ hb=>hb) I.ok.qI
theorem Inv.stack(I:Inv X pins σ H s):s.heap.FunFrames X.base X.stack:=by
 rcases I.ok.stk with e|⟨e,hf⟩
 ·rw[e];exact I.qI
 ·rw[e]
  obtain⟨m,hn,_⟩:=I.loc
  refine .cons (by rw[I.ok.kind];decide) hf hn ?_ I.qI
  exact Heap.get?_none_of_le (ĉ I.ok.bsz I.ok.above)
theorem Inv.xO(I:Inv X pins σ H s):∀b∈frs X.stack,b∈X.env.locals::X.fs:=λb hb=>by
 rcases I.ok.stk with e|⟨e,hf⟩
 ·rw[e] at hb;exact Î _ hb
 ·rw[e] at hb
  unfold frs at hb
  rw[List.filterMap_cons,hf] at hb
  exact hb
theorem Inv.zE(I:Inv X pins σ H s):∀b∈frs X.stack,H b=none:=λb hb=>by
 rcases á.mp (I.xO b hb) with e|hb
 ·rw[e];exact I.free
 ·obtain⟨_,o,ho,_⟩:=I.ok.qI.mem hb
  exact I.base.free b o ho (I.ok.frf b hb) λz=>I.ok.exfs b z hb
theorem Inv.step{g':Array GenState}{t':Nat}{d':Drawn}{ch:List Addr}(I:Inv X pins σ H s)(hch:∀b∈ch,(b∈X.ex\/X.s₀.heap.objs.size<=b)/\b≠X.env.locals/\(∀x c,X.env.cells.lookup x=some c->c≠b)/\∀p∈X.pn++pins,p.1≠b)(keep:∀b o,b≠X.env.locals->b∉X.fs->b∉ch->s.heap.get? b=some o->H b=none->h'.get? b=some o)(slot:∀b o,b≠X.env.locals->b∈X.fs->b∉ch->s.heap.get? b=some o->H b=none->∃sl,h'.get? b=some { o with slots:=sl })(free:∀b o,b∉ch->s.heap.get? b=some o->H b=none->H' b=none)(there:∀b o,b∉ch->s.heap.get? b=some o->∃o',h'.get? b=some o')(tups:∀b xs,H b=some (.tup xs)->H' b=some (.tup xs))(frzs:∀b o u,H b=some (.frz o u)->H' b=some (.frz o u))(tbls:∀b ps,H b=some (.tbl ps)->∃more,H' b=some (.tbl (ps++more)))(ns:∀m,s.heap.Ns X.env.locals m->h'.Ns X.env.locals m)(hok:HOk X.prog X.w H' h')(hg:AllBare g') :
  Inv X pins σ H' { s with heap:=h',gens:=g',drawn:=d',toks:=t' }:=by
 have neL:∀b o,X.s₀.heap.get? b=some o->b≠X.env.locals:=λb o e=>ä (é (Ô e) I.ok.above)
 have neC:∀b o,X.s₀.heap.get? b=some o->b∉X.ex->b∉ch:=λb o e hx hb=>by
  rcases(hch b hb).1 with z|z
  ·exact hx z
  ·exact absurd (é (Ô e) z) (Ą _)
 have cellK:∀x c,X.env.cells.lookup x=some c->∀v,s.heap.IsCell c v->h'.IsCell c v:=λx c e v ⟨o,ho,hd⟩=>by
  have nch:c∉ch:=λz=>(hch c z).2.2.1 x c e rfl
  by_cases hc:c∈X.fs
  ·obtain⟨sl,q⟩:=slot c o (I.cne x c e) hc nch ho (I.freeC x c e)
   exact⟨_,q,hd⟩
  ·exact⟨o,keep c o (I.cne x c e) hc nch ho (I.freeC x c e),hd⟩
 refine⟨I.ok,I.os,hg,⟨λb o e n hb hx=>?_,λb o e n hb hx=>?_,λb o e n hx=>?_,λb o e hx=>?_,λb xs e=>tups b xs (I.base.tups b xs e),λb o xs e=>frzs b o xs (I.base.frzs b o xs e),λb ps e=>?_⟩,?_,λx c e=>?_,?_,λx c e=>?_,λp hp=>?_,hok,I.len⟩
 ·exact keep b o (neL b o e) hb (neC b o e hx) (I.base.keep b o e n hb hx) (I.base.free b o e n hx)
 ·obtain⟨sl,e1⟩:=I.base.slot b o e n hb hx
  obtain⟨sl',e2⟩:=slot b _ (neL b o e) hb (neC b o e hx) e1 (I.base.free b o e n hx)
  exact⟨sl',e2⟩
 ·obtain⟨o',e1⟩:=I.base.there b o e hx
  exact free b o' (neC b o e hx) e1 (I.base.free b o e n hx)
 ·obtain⟨o',e1⟩:=I.base.there b o e hx
  exact there b o' (neC b o e hx) e1
 ·obtain⟨m1,e1⟩:=I.base.tbls b ps e
  obtain⟨m2,e2⟩:=tbls b _ e1
  exact⟨m1++m2,by rw[e2,Array.append_assoc]⟩
 ·obtain⟨m,hn,hl⟩:=I.loc
  refine⟨m,ns m hn,λi x v e1 e2 e3=>?_⟩
  obtain⟨u,r,l⟩:=hl i x v e1 e2 e3
  refine⟨u,r,?_⟩
  rcases l with l|⟨k,c,e,z⟩
  ·exact .inl l
  ·exact .inr ⟨k,c,e,cellK x c e _ z⟩
 ·obtain⟨v,z⟩:=I.cell x c e
  exact⟨v,cellK x c e v z⟩
 ·obtain⟨m,⟨o,_,_,ho,_⟩,_⟩:=I.loc
  exact free _ o (λz=>(hch _ z).2.1 rfl) ho I.free
 ·obtain⟨v,o,ho,hd⟩:=I.cell x c e
  exact free c o (λz=>(hch c z).2.2.1 x c e rfl) ho (I.freeC x c e)
 ·obtain⟨e,n,ne,nf,d⟩:=I.pin p hp
  have nch:p.1∉ch:=λz=>(hch p.1 z).2.2.2 p hp rfl
  exact⟨keep p.1 p.2 ne nf nch e n,free p.1 p.2 nch e n,ne,nf,d⟩
theorem Inv.un{t':Nat}(I:Inv X pins σ H s)(u:Un X.fs [] H H' s.heap h')(hok:HOk X.prog X.w H' h'):Inv X pins σ H' { s with heap:=h',toks:=t' }:=by
 obtain⟨m,⟨o,es,ep,ho,r⟩,_⟩:=id I.loc
 obtain⟨sl,hL⟩:=u.any ho I.free (by simp)
 exact I.step (g':=s.gens) (d':=s.drawn) (ch:=[]) (λ_ z=>nomatch z) (λb o _ hb _ e n=>u.keep b o e n hb (by simp)) (λb o _ hb _ e n=>u.slot b o e n hb (by simp)) (λb o _ e n=>u.free b o e n (by simp)) (λb o _ e=>u.there b o e (by simp)) u.tups u.frzs u.tbls (λm' hm=>by
  obtain⟨o',es',ep',ho',r'⟩:=hm
  rw[ho] at ho';cases ho'
  exact⟨_,es',ep',hL,r'⟩) hok I.bare
theorem Inv.call{g':Array GenState}{t':Nat}{d':Drawn}{ch:List Addr}(I:Inv X pins σ H s)(u:Un (frs X.stack) ch H H' s.heap h')(hok:HOk X.prog X.w H' h')(hg:AllBare g')(hch:∀b∈ch,(b∈X.ex\/X.s₀.heap.objs.size<=b)/\b≠X.env.locals/\(∀x c,X.env.cells.lookup x=some c->c≠b)/\∀p∈X.pn++pins,p.1≠b) :
  Inv X pins σ H' { s with heap:=h',gens:=g',drawn:=d',toks:=t' }:=by
 obtain⟨m,⟨o,es,ep,ho,r⟩,_⟩:=id I.loc
 obtain⟨sl,hL⟩:=u.any ho I.free λz=>(hch _ z).2.1 rfl
 exact I.step (ch:=ch) hch (λb o hL hb hc e n=>u.keep b o e n (λz=>(á.mp (I.xO b z)).elim hL hb) hc) (λb o _ _ hc e n=>u.any e n hc) (λb o hc e n=>u.free b o e n hc) (λb o hc e=>u.there b o e hc) u.tups u.frzs u.tbls (λm' hm=>by
  obtain⟨o',es',ep',ho',r'⟩:=hm
  rw[ho] at ho';cases ho'
  exact⟨_,es',ep',hL,r'⟩) hok hg
theorem Inv.turned{t':Nat}{it:Addr}(I:Inv X pins σ H s)(k:∀b o,b≠it->s.heap.get? b=some o->h'.get? b=some o)(hn:H it=none)(hL:it≠X.env.locals)(h1:it∈X.ex\/X.s₀.heap.objs.size<=it)(h2:∀x c,X.env.cells.lookup x=some c->c≠it)(h3:∀p∈X.pn++pins,p.1≠it):Inv X pins σ H { s with heap:=h',toks:=t' }:=by
 have nit:∀b u,H b=some u->b≠it:=λb u e z=>by rw[z,hn] at e;cases e
 refine I.step (g':=s.gens) (d':=s.drawn) (ch:=[it]) (λb hb=>?_) (λb o _ _ hc e _=>k b o (λz=>hc (by simp[z])) e) (λb o _ _ hc e _=>⟨o.slots,k b o (λz=>hc (by simp[z])) e⟩) (λ_ _ _ _ n=>n)
  (λb o hc e=>⟨o,k b o (λz=>hc (by simp[z])) e⟩) (λ_ _ e=>e) (λ_ _ _ e=>e) (λb ps e=>⟨#[],by rw[e];simp⟩) (λm hm=>?_) (λb u e=>?_) I.bare
 ·have e:b=it:=by simpa using hb
  subst e
  exact⟨h1,hL,h2,h3⟩
 ·obtain⟨o,es,ep,ho,r⟩:=hm
  exact⟨o,es,ep,k _ o (ī hL) ho,r⟩
 ·refine(I.hok b u e).stay (λc v hc q=>k c v ?_ q) (λ_ q=>q) λ_ _ q=>q
  rcases hc with z|z
  ·rw[z];exact nit b u e
  ·exact nit c _ z
theorem Inv.tok(I:Inv X pins σ H s)(t:Nat):Inv X pins σ H { s with toks:=t }:=I.un (h':=s.heap) (t':=t) Un.refl I.hok
theorem Inv.kept{t':Nat}(I:Inv X pins σ H s)(k:∀b u,s.heap.get? b=some u->h'.get? b=some u):Inv X pins σ H { s with heap:=h',toks:=t' }:=I.un (Un.kept k) (I.hok.kept k)
theorem Inv.laid{a:Addr}{o:HO}{t':Nat}(I:Inv X pins σ H s)(k:∀b u,s.heap.get? b=some u->h'.get? b=some u)(hp:s.heap.objs.size<=a)(new:bO X.prog X.w (upd H a o) h' a o) :
  Inv X pins σ (upd H a o) { s with heap:=h',toks:=t' }:=I.un (Un.laid k hp (I.hok.fresh hp)) (I.hok.laid k hp new)
theorem Inv.write{x e:Addr}{o:HO}{t':Nat}(I:Inv X pins σ H s)(mu:Mut (H x))(he:e=x\/H e=some (.own x))(k:∀b u,b≠e->s.heap.get? b=some u->h'.get? b=some u)(heo:∃u,h'.get? e=some u)(new:bO X.prog X.w (upd H x o) h' x o):Inv X pins σ (upd H x o) { s with heap:=h',toks:=t' }:=I.un (Un.write mu he k heo) (I.hok.write mu he k heo new)
theorem Inv.oY{pins':List (Addr×Obj)}(I:Inv X pins σ H s)(h:∀p∈pins',s.heap.get? p.1=some p.2/\H p.1=none/\p.1≠X.env.locals/\p.1∉X.fs/\∀v,p.2.data≠.cell v):Inv X pins' σ H s :=
 ⟨I.ok,I.os,I.bare,I.base,I.loc,I.cell,I.free,I.freeC,λp hp=>(Ð.mp hp).elim (λz=>I.pin p (ô _ z)) (h p),I.hok,I.len⟩
theorem wz{N:List Str}(hN:N.Nodup){i j:Nat}{x:Str}(a:N[i]?=some x)(b:N[j]?=some x):i=j:=by
 obtain⟨h1,e1⟩:=Ó.mp a
 obtain⟨h2,e2⟩:=Ó.mp b
 exact(List.getElem_inj hN).mp (e1.trans e2.symm)
theorem rN{M:Model}{A:Around}{E:Value->Shared->Prop}{i:Nat}{x:Str}{v:V}{u:Value}{Q:Unit->Shared->Prop}(I:Inv X pins σ H s)(hU:∀j,X.N[j]?=some x->j=i)(hi:X.N[i]?=some x)(hx:Loc X.env.scope x)(r:RelV v u)(h:∀s',Inv X pins (σ.set i (some v)) H s'->(∃a,Heap.SameBut a s.heap s'.heap/\(a=X.env.locals\/X.env.cells.lookup x=some a))->Q () s')(hf:X.fn x=true\/X.env.scope.names.lookup x=some .local:=by first|exact .inl rfl|exact .inr rfl|assumption):wpAny M A (storeName X.env x u) Q E s:=by
 obtain⟨m,hn,hl⟩:=id I.loc
 have hcls:(X.env.scope.kind == .class || (X.env.scope.kind == .module&&X.env.locals != X.env.globals))=false:=by rw[I.ok.kind];rfl
 have hiσ:i<σ.length:=by rw[I.len];exact(Ó.mp hi).1
 have cne:=I.cne
 have tracked:∀{a:Addr}{h':Heap},(∃o,s.heap.get? a=some o/\H a=none)->Heap.SameBut a s.heap h'->HOk X.prog X.w H h':=λ{a h'} ha hs b ob e=>by
  obtain⟨_,_,hfree⟩:=ha
  refine(I.hok b ob e).stay (λc w' hc q=>(hs.2 c ?_).trans q) (λ_ q=>q) λ_ _ q=>q
  rintro rfl
  rcases hc with rfl|hc
  ·rw[hfree] at e;cases e
  ·rw[hfree] at hc;cases hc
 rcases hx with hk|hk
 ·refine wpAny_storeName_local hk hn (λh' hn' hs=>?_) hcls
  obtain⟨oL,_,_,hoL,_⟩:=id hn
  refine h _ ⟨I.ok,I.os,I.bare,⟨λb o e n hb hx=>?_,λb o e n hb hx=>?_,I.base.free,λb o e hx=>?_,I.base.tups,I.base.frzs,I.base.tbls⟩,⟨_,hn',λj y v' e1 e2 e3=>?_⟩,λy c e=>?_,I.free,I.freeC,λp hp=>?_,tracked ⟨oL,hoL,I.free⟩ hs,by simpa using I.len⟩ ⟨_,hs,.inl rfl⟩
  ·exact(hs.2 b (ä (é (Ô e) I.ok.above))).trans (I.base.keep b o e n hb hx)
  ·obtain⟨sl,e1⟩:=I.base.slot b o e n hb hx
   exact⟨sl,(hs.2 b (ä (é (Ô e) I.ok.above))).trans e1⟩
  ·obtain⟨o',e1⟩:=I.base.there b o e hx
   exact⟨o',(hs.2 b (ä (é (Ô e) I.ok.above))).trans e1⟩
  ·by_cases hj:j=i
   ·subst hj
    rw[hi] at e1;cases e1
    rw[Ġ hiσ] at e2
    cases e2
    exact⟨u,r,.inl ⟨hk,by simp⟩⟩
   ·rw[ŋ (ī hj)] at e2
    obtain⟨u',r',q⟩:=hl j y v' e1 e2 e3
    refine⟨u',r',?_⟩
    rcases q with ⟨k,e⟩|⟨k,c,e,z⟩
    ·refine .inl ⟨k,?_⟩
     have:y≠x:=λe=>hj (hU _ (e ▸ e1))
     simp[this,e]
    ·exact .inr ⟨k,c,e,z.sameBut hs (cne y c e)⟩
  ·obtain⟨w',z⟩:=I.cell y c e
   exact⟨w',z.sameBut hs (cne y c e)⟩
  ·obtain⟨e,n,ne,nf,d⟩:=I.pin p hp
   exact⟨(hs.2 p.1 ne).trans e,n,ne,nf,d⟩
 ·have hfn:X.fn x=true:=by
   rcases hf with z|z
   ·exact z
   ·rw[z] at hk;cases hk
  obtain⟨c,hc⟩:=I.ok.has x (.inl hk)
  obtain⟨w',z⟩:=I.cell x c hc
  refine wpAny_storeName_cell I.ok.kind hk hc z (λh' hc' hs=>?_)
  obtain⟨oc,hoc,hocd⟩:=id z
  refine h { s with heap:=h' } ⟨I.ok,I.os,I.bare,⟨λb o e n hb hx=>?_,λb o e n hb hx=>?_,I.base.free,λb o e hx=>?_,I.base.tups,I.base.frzs,I.base.tbls⟩,⟨m,hn.sameBut hs (ī (cne x c hc)),λj y v' e1 e2 e3=>?_⟩,λy c' e=>?_,I.free,I.freeC,λp hp=>?_,tracked ⟨oc,hoc,I.freeC x c hc⟩ hs,by simpa using I.len⟩ ⟨c,hs,.inr hc⟩
  ·exact(hs.2 b (ä (é (Ô e) (I.ok.cab x c hfn hc)))).trans (I.base.keep b o e n hb hx)
  ·obtain⟨sl,e1⟩:=I.base.slot b o e n hb hx
   exact⟨sl,(hs.2 b (ä (é (Ô e) (I.ok.cab x c hfn hc)))).trans e1⟩
  ·obtain⟨o',e1⟩:=I.base.there b o e hx
   exact⟨o',(hs.2 b (ä (é (Ô e) (I.ok.cab x c hfn hc)))).trans e1⟩
  ·by_cases hj:j=i
   ·subst hj
    rw[hi] at e1;cases e1
    rw[Ġ hiσ] at e2
    cases e2
    exact⟨u,r,.inr ⟨.inl hk,c,hc,hc'⟩⟩
   ·rw[ŋ (ī hj)] at e2
    obtain⟨u',r',q⟩:=hl j y v' e1 e2 e3
    refine⟨u',r',?_⟩
    rcases q with q|⟨k,c',e,z'⟩
    ·exact .inl q
    ·refine .inr ⟨k,c',e,z'.sameBut hs ?_⟩
     rintro rfl
     exact hj (hU _ (I.ok.inj _ _ _ e hc ▸ e1))
  ·by_cases hcc:c'=c
   ·subst hcc;exact⟨_,hc'⟩
   ·obtain⟨w2,z2⟩:=I.cell y c' e
    exact⟨w2,z2.sameBut hs hcc⟩
  ·obtain⟨e,n,ne,nf,d⟩:=I.pin p hp
   refine⟨(hs.2 p.1 ?_).trans e,n,ne,nf,d⟩
   intro q
   rw[q,hoc] at e
   have q':oc=p.2:=ã e
   exact d w' (by rw[←q'];exact hocd)
theorem vI{M:Model}{A:Around}{E:Value->Shared->Prop}{i:Nat}{x:Str}{v:V}{u:Value}{Q:Unit->Shared->Prop}(I:Inv X pins σ H s)(hN:X.N.Nodup)(hi:X.N[i]?=some x)(hx:Loc X.env.scope x)(r:RelV v u)(h:∀s',Inv X pins (σ.set i (some v)) H s'->Q () s')(hf:X.fn x=true\/X.env.scope.names.lookup x=some .local:=by first|exact .inl rfl|exact .inr rfl|assumption):wpAny M A (storeName X.env x u) Q E s :=
 rN I (λj h=>wz hN h hi) hi hx r (λs' I' _=>h s' I') hf
theorem Inv.call'{s':Shared}{ch:List Addr}(I:Inv X pins σ H s)(ho:s'.os=s.os)(u:Un (frs X.stack) ch H H' s.heap s'.heap)(hok:HOk X.prog X.w H' s'.heap)(hg:AllBare s'.gens)(hch:∀b∈ch,(b∈X.ex\/X.s₀.heap.objs.size<=b)/\b≠X.env.locals/\(∀x c,X.env.cells.lookup x=some c->c≠b)/\∀p∈X.pn++pins,p.1≠b):Inv X pins σ H' s':=by
 obtain⟨h',g',d',t',o'⟩:=s'
 have e:o'=s.os:=ho
 subst e
 exact I.call (g':=g') (t':=t') (d':=d') u hok hg hch
end
abbrev XK:=Value->Option Addr->Hp->Prop
abbrev St:=List (Option V)
abbrev VK:=V->Hp->Prop
abbrev TE:=St->Hp->VK->Prop
abbrev TT:=St->Hp->(Bool->Hp->Prop)->Prop
abbrev TA:=St->Hp->(List V->Hp->Prop)->Prop
structure Ends where
 nx:St->Hp->Prop
 rt:VK
 bk:St->Hp->Prop:=λ_ _=>False
 ct:St->Hp->Prop:=λ_ _=>False
abbrev TS:=Ends->St->Hp->Prop
def EP(X:Cx)(pins:List (Addr×Obj))(σ:St)(Q:VK)(u:Value)(s':Shared):Prop:=∃v H',Inv X pins σ H' s'/\RelV v u/\Q v H'
def TP(X:Cx)(pins:List (Addr×Obj))(σ:St)(Q:Bool->Hp->Prop)(b:Bool)(s':Shared):Prop:=∃H',Inv X pins σ H' s'/\Q b H'
def AP(X:Cx)(pins:List (Addr×Obj))(σ:St)(Q:List V->Hp->Prop)(us:List Value)(s':Shared):Prop:=∃vs H',Inv X pins σ H' s'/\Vals vs us/\Q vs H'
def SP(X:Cx)(pins:List (Addr×Obj))(D:Ends)(f:Flow)(s':Shared):Prop :=
 match f with
 |.next=>∃σ' H',Inv X pins σ' H' s'/\D.nx σ' H'
 |.brk=>∃σ' H',Inv X pins σ' H' s'/\D.bk σ' H'
 |.cont=>∃σ' H',Inv X pins σ' H' s'/\D.ct σ' H'
 |.ret u=>∃v σ' H',Inv X pins σ' H' s'/\RelV v u/\D.rt v H'
def PE(X:Cx)(e:Expr)(t:TE):Prop :=
 ∀(pins:List (Addr×Obj)) (s:Shared) (σ:St) (H:Hp) (Q:VK),Inv X pins σ H s->t σ H Q->wpAny (model X.prog X.w) X.A (eval e X.env) (EP X pins σ Q) X.xe s
def PT(X:Cx)(e:Expr)(t:TT):Prop :=
 ∀(pins:List (Addr×Obj)) (s:Shared) (σ:St) (H:Hp) (Q:Bool->Hp->Prop),Inv X pins σ H s->t σ H Q->wpAny (model X.prog X.w) X.A (isTrue e X.env (eval e X.env)) (TP X pins σ Q) X.xe s
def PW(X:Cx)(e:Expr)(t:TT):Prop :=
 ∀(whole:Sem Value) (pins:List (Addr×Obj)) (s:Shared) (σ:St) (H:Hp) (Q:Bool->Hp->Prop),Inv X pins σ H s->t σ H Q->wpAny (model X.prog X.w) X.A (isTrue e X.env whole) (TP X pins σ Q) X.xe s
theorem PW.pt{X:Cx}{e:Expr}{t:TT}(h:PW X e t):PT X e t:=h _
def PA(X:Cx)(es:List Expr)(t:TA):Prop :=
 ∀(pos:Pos) (pins:List (Addr×Obj)) (s:Shared) (σ:St) (H:Hp) (Q:List V->Hp->Prop),Inv X pins σ H s->t σ H Q->wpAny (model X.prog X.w) X.A (spliced (backTo pos (starEach es X.env))) (AP X pins σ Q) X.xe s
def PS(X:Cx)(st:Stmt)(t:TS):Prop :=
 ∀(pins:List (Addr×Obj)) (s:Shared) (σ:St) (H:Hp) (D:Ends),Inv X pins σ H s->t D σ H->wpAny (model X.prog X.w) X.A (exec st X.env) (SP X pins D) X.xe s
def PSs(X:Cx)(st:List Stmt)(t:TS):Prop :=
 ∀(pins:List (Addr×Obj)) (s:Shared) (σ:St) (H:Hp) (D:Ends),Inv X pins σ H s->t D σ H->wpAny (model X.prog X.w) X.A (execs st X.env) (SP X pins D) X.xe s
theorem thn{α:Type}{t:Sem α}{Q Q':α->Shared->Prop}{M:Model}{A:Around}{E:Value->Shared->Prop}{s:Shared}(h:wpAny M A t Q E s)(hQ:∀a s,Q a s->Q' a s):wpAny M A t Q' E s:=Ŗ h hQ λ_ _ x=>x
section
variable {X:Cx}
theorem bin{a b:Expr}{ta tb:TE}(ha:PE X a ta)(hb:PE X b tb){pins:List (Addr×Obj)}{s:Shared}{σ:St}{H:Hp}{R:V->V->Hp->Prop}(I:Inv X pins σ H s)(h:ta σ H λx H1=>tb σ H1 λy H2=>R x y H2){α:Type}{Q:α->Shared->Prop}{f:Value->Value->Sem α}(hf:∀v u s2 x y H2,Inv X pins σ H2 s2->RelV x v->RelV y u->R x y H2->wpAny (model X.prog X.w) X.A (f v u) Q X.xe s2) :
  wpAny (model X.prog X.w) X.A (eval a X.env) (λv s₁=>wpAny (model X.prog X.w) X.A (eval b X.env) (λu s₂=>wpAny (model X.prog X.w) X.A (f v u) Q X.xe s₂) X.xe s₁) X.xe s:=by
 refine thn (ha pins s σ H _ I h) λv s1 ⟨x,H1,I1,r1,q1⟩=>?_
 refine thn (hb pins s1 σ H1 _ I1 q1) λu s2 ⟨y,H2,I2,r2,q2⟩=>?_
 exact hf v u s2 x y H2 I2 r1 r2 q2
def pK(i:Nat):TE:=λσ H Q=>∃v,σ[i]?=some (some v)/\Q v H
def tC(v:V):TE:=λ_ H Q=>Q v H
theorem KZ{i:Nat}{x:Str}{pos:Pos}(hN:X.N[i]?=some x)(hv:Vis X.env.scope x)(hd:(x == ("__debug__":Str))=false:=by decide)(hcd:(x == ("__classdict__":Str))=false:=by decide):PE X (.Name x pos) (pK i):=by
 intro pins s σ H Q I h
 obtain⟨v,e,h⟩:=h
 obtain⟨m,hn,hl⟩:=I.loc
 obtain⟨u,r,l⟩:=hl i x v hN e hv
 have fin:EP X pins σ Q u s:=⟨v,H,I,r,h⟩
 rcases l with ⟨hk,hm⟩|⟨hk,c,hc,hcell⟩
 ·exact wpAny_Name (wpAny_loadName_local I.ok.kind hk hn hm fin) hd
 ·rcases hk with hk|hk
  ·exact wpAny_Name (wpAny_loadName_cell I.ok.kind hk hc hcell fin) hd
  ·exact wpAny_Name (wpAny_loadName_free I.ok.kind hk hc hcell fin hcd) hd
theorem DW{i j pos}:PE X (.Constant (.int i) j pos) (tC (.int i)):=λ_ _ _ H _ I h=>wpAny_Constant_int ⟨.int i,H,I.tok _,⟨_,rfl⟩,h⟩
theorem O2{b j pos}:PE X (.Constant (.bool b) j pos) (tC (.bl b)):=λ_ _ _ H _ I h=>Constant_bool ⟨.bl b,H,I,rfl,h⟩
theorem K9{j pos}:PE X (.Constant .none j pos) (tC .non):=λ_ _ _ H _ I h=>Constant_none ⟨.non,H,I,rfl,h⟩
theorem K6{x j pos}:PE X (.Constant (.str x) j pos) (tC (.str x)):=λ_ _ _ H _ I h=>Calls.Constant_str ⟨.str x,H,I.tok _,⟨_,rfl⟩,h⟩
def Gl(X:Cx)(x:Str):Prop:=X.env.kindOf x=some .globalImplicit
theorem Io{E:Value->Shared->Prop}{pins:List (Addr×Obj)}{s:Shared}{σ:St}{H:Hp}{x:Str}{u:Value}{pos:Pos}{Q:Value->Shared->Prop}(I:Inv X pins σ H s)(hg:Gl X x)(hm:X.mg x=some u)(h:Q u s)(hd:(x == ("__debug__":Str))=false:=by decide):wpAny (model X.prog X.w) X.A (eval (.Name x pos) X.env) Q E s :=
 Calls.Name_function_global I.ok.kind hg (Calls.loadGlobal_global (by rw[I.ok.glob];exact I.mod.glob.keeps I.bk) hm h) hd
theorem nA{E:Value->Shared->Prop}{pins:List (Addr×Obj)}{s:Shared}{σ:St}{H:Hp}{x:Str}{u:Value}{pos:Pos}{Q:Value->Shared->Prop}(I:Inv X pins σ H s)(hg:Gl X x)(hm:X.mg x=none)(hv:bootBuiltins x=some u)(h:Q u s)(hn:x≠"__name__":=by decide)(hd:(x == ("__debug__":Str))=false:=by decide):wpAny (model X.prog X.w) X.A (eval (.Name x pos) X.env) Q E s:=by
 obtain⟨mb,h1,h2⟩:=I.mod.blt
 exact Calls.Name_function_global I.ok.kind hg (Calls.loadGlobal_builtin (by rw[I.ok.glob];exact I.mod.glob.keeps I.bk) hm (by rw[I.ok.blt];exact h1.keeps I.bk) ((h2 x hn).trans hv) h) hd
theorem kh{x:Str}{v:V}{u:Value}{pos:Pos}(hg:Gl X x)(hm:X.mg x=none)(hv:bootBuiltins x=some u)(r:RelV v u)(hn:x≠"__name__":=by decide)(hd:(x == ("__debug__":Str))=false:=by decide):PE X (.Name x pos) (tC v) :=
 λ_ _ _ H _ I h=>nA I hg hm hv ⟨v,H,I,r,h⟩ hn hd
variable {a b:Expr}{ta tb:TE}{pos:Pos}
def PC(X:Cx)(op:CmpOp)(a b:Expr)(t:TE):Prop :=
 ∀(pins:List (Addr×Obj)) (s:Shared) (σ:St) (H:Hp) (Q:VK),Inv X pins σ H s->t σ H Q ->
  wpAny (model X.prog X.w) X.A (eval a X.env) (λv s₁=>wpAny (model X.prog X.w) X.A (eval b X.env) (λu s₂=>wpAny (model X.prog X.w) X.A (compareOp op v u) (EP X pins σ Q) X.xe s₂) X.xe s₁) X.xe s
def tB(t:TE):TT:=λσ H Q=>t σ H λx H1=>∃c,x=.bl c/\Q c H1
theorem Q7{op:CmpOp}{t:TE}(h:PC X op a b t)(h1:behindInMarks op b=false:=by first|exact nobehind _ (by decide) (by decide)|rfl):PT X (.Compare a [op] [b] pos) (tB t):=by
 intro pins s σ H Q I hw
 refine wpAny_isTrue_Compare1 (thn (h pins s σ H _ I hw) λv s1 h1=>thn h1 λu s2 h2=>thn h2 λc s3 ⟨x,H1,I1,r1,q1⟩=>?_) h1
 obtain⟨d,rfl,q⟩:=q1
 cases r1
 exact ŏ ⟨H1,I1,q⟩
theorem KC{e:Expr}{t:TE}(h:PE X e t)(he:∀whole,isTrue e X.env whole=(do let v ←whole;standAt e.pos;holding [v] (truthy v)):=by intro _;rfl):PT X e (tB t):=by
 intro pins s σ H Q I hw
 refine isTrue_plain (thn (h pins s σ H _ I hw) λv s1 ⟨x,H1,I1,r1,q1⟩=>?_) (he _)
 obtain⟨d,rfl,q⟩:=q1
 cases r1
 exact ŏ ⟨H1,I1,q⟩
variable {tA tB':TT}{rest:List Expr}
def Oe(t u:TT):TT:=λσ H Q=>t σ H λc H1=>if c=true then u σ H1 Q else Q false H1
def tOr(t u:TT):TT:=λσ H Q=>t σ H λc H1=>if c=true then Q true H1 else u σ H1 Q
def QB(t:TT):TT:=λσ H Q=>t σ H λc H1=>Q (!c) H1
theorem Ho(ha:PT X a tA):PW X (.BoolOp .And [a] pos) tA:=by
 intro wh pins s σ H Q I h
 refine isTrue_and (thn (ha pins s σ H Q I h) λc s1 e=>?_)
 cases c with
 |true=>exact isTrue_and_nil e
 |false=>exact e
theorem Kw(ha:PT X a tA):PW X (.BoolOp .Or [a] pos) tA:=by
 intro wh pins s σ H Q I h
 refine isTrue_or (thn (ha pins s σ H Q I h) λc s1 e=>?_)
 cases c with
 |false=>exact isTrue_or_nil e
 |true=>exact e
theorem Ky(ha:PT X a tA)(hb:PW X (.BoolOp .And (b::rest) pos) tB'):PW X (.BoolOp .And (a::b::rest) pos) (Oe tA tB'):=by
 intro wh pins s σ H Q I h
 refine isTrue_and (thn (ha pins s σ H _ I h) λc s1 ⟨H1,I1,q1⟩=>?_)
 cases c with
 |true=>exact hb wh pins s1 σ H1 Q I1 q1
 |false=>exact⟨H1,I1,q1⟩
theorem OD(ha:PT X a tA)(hb:PW X (.BoolOp .Or (b::rest) pos) tB'):PW X (.BoolOp .Or (a::b::rest) pos) (tOr tA tB'):=by
 intro wh pins s σ H Q I h
 refine isTrue_or (thn (ha pins s σ H _ I h) λc s1 ⟨H1,I1,q1⟩=>?_)
 cases c with
 |true=>exact⟨H1,I1,q1⟩
 |false=>exact hb wh pins s1 σ H1 Q I1 q1
theorem KD(ha:PT X a tA):PT X (.UnaryOp .Not a pos) (QB tA):=by
 intro pins s σ H Q I h
 exact isTrue_not (ha pins s σ H (λc H1=>Q (!c) H1) I h)
def Od(ta tb:TE):TE:=λσ H Q=>ta σ H λx H1=>∃c,x=.bl c/\if c=true then tb σ H1 Q else Q (.bl false) H1
def N6(ta:TE):TE:=λσ H Q=>ta σ H λx H1=>∃c,x=.bl c/\Q (.bl (!c)) H1
theorem K7{op}{t:TE}(h:PE X a t):PE X (.BoolOp op [a] pos) t:=λpins s σ H Q I hw=>BoolOp_one (h pins s σ H Q I hw)
theorem La(ha:PE X a ta)(hb:PE X (.BoolOp .And (b::rest) pos) tb):PE X (.BoolOp .And (a::b::rest) pos) (Od ta tb):=by
 intro pins s σ H Q I h
 refine BoolOp_and (thn (ha pins s σ H _ I h) λv s1 ⟨x,H1,I1,r1,q1⟩=>?_)
 obtain⟨c,rfl,q1⟩:=q1
 cases r1
 refine ŏ ?_
 cases c with
 |true=>exact hb pins s1 σ H1 Q I1 q1
 |false=>exact⟨.bl false,H1,I1,rfl,q1⟩
theorem K8(ha:PE X a ta):PE X (.UnaryOp .Not a pos) (N6 ta):=by
 intro pins s σ H Q I h
 refine UnaryOp_ (thn (ha pins s σ H _ I h) λv s1 ⟨x,H1,I1,r1,q1⟩=>?_)
 obtain⟨c,rfl,q1⟩:=q1
 cases r1
 exact not_of (ŏ ⟨.bl (!c),H1,I1,rfl,q1⟩)
def tIf(t:TT)(ta tb:TE):TE:=λσ H Q=>t σ H λc H1=>if c=true then ta σ H1 Q else tb σ H1 Q
theorem DX{c:Expr}(hc:PT X c tA)(ha:PE X a ta)(hb:PE X b tb):PE X (.IfExp c a b pos) (tIf tA ta tb):=by
 intro pins s σ H Q I h
 refine wpAny_IfExp (thn (hc pins s σ H _ I h) λd s1 ⟨H1,I1,q1⟩=>?_)
 cases d with
 |true=>exact ha pins s1 σ H1 Q I1 q1
 |false=>exact hb pins s1 σ H1 Q I1 q1
end
def SqL(K:Þ)(H:Hp)(a:Addr)(xs:List V):Prop :=
 Rd H a (.lst xs) ∨
  ∃(o:Obj) (its:Array Value) (n:Nat),K.lookup a=some o/\o.cls=.type "list"/\o.dict=none/\o.data=.seq its n/\its.size<=sizeLine/\Vals xs its.toList
def SqT(K:Þ)(H:Hp)(a:Addr)(xs:List V):Prop :=
 Rd H a (.tup xs) ∨
  ∃(o:Obj) (its:Array Value) (n:Nat),K.lookup a=some o/\o.cls=.type "tuple"/\o.data=.seq its n/\its.size<=sizeLine/\Vals xs its.toList
def Rw:Value->Option V
 |.none=>some .non
 |.bool b=>some (.bl b)
 |.int i _=>some (.int i)
 |.str x _=>some (.str x)
 |.bytes b _=>some (.byt b)
 |.float b _=>some (.flt b)
 |.ref a=>some (.ref a)
 |.type n=>some (.ty n)
 |_=>none
theorem RelV.abs{x:V}{u:Value}(r:RelV x u):Rw u=some x:=by
 cases x with
 |non=>cases r;rfl
 |bl _=>cases r;rfl
 |int _=>obtain⟨t,rfl⟩:=r;rfl
 |str _=>obtain⟨t,rfl⟩:=r;rfl
 |byt _=>obtain⟨t,rfl⟩:=r;rfl
 |flt _=>obtain⟨t,rfl⟩:=r;rfl
 |ref _=>cases r;rfl
 |ty _=>cases r;rfl
theorem RelV.inj{x y:V}{u:Value}(r:RelV x u)(q:RelV y u):x=y:=ã (r.abs.symm.trans q.abs)
theorem Vals.inj:∀{xs ys:List V}{us:List Value},Vals xs us->Vals ys us->xs=ys
 |_,_,_,.nil,.nil=>rfl
 |_,_,_,.cons r t,.cons r' t'=>by rw[r.inj r',Vals.inj t t']
section
variable {X:Cx}{pins:List (Addr×Obj)}{σ:St}{H:Hp}{s:Shared}{a:Addr}{xs ys:List V}
theorem SqL.of{K:Þ}(h:H a=some (.lst xs)):SqL K H a xs:=.inl (.inl h)
theorem SqT.of{K:Þ}(h:H a=some (.tup xs)):SqT K H a xs:=.inl (.inl h)
theorem Inv.list(I:Inv X pins σ H s)(h:SqL X.K H a xs):∃its:List Value,Vals xs its/\PlainL s.heap a its.toArray/\xs.length<=sizeLine:=by
 rcases h with h|⟨o,its,n,hk,hc,hd,hs,hz,r⟩
 ·obtain⟨z,its,n,r,e⟩:=h.ok I.hok
  exact⟨its,r,⟨_,n,e,rfl,rfl,rfl⟩,z⟩
 ·refine⟨its.toList,r,⟨o,n,I.kIn a o hk,hc,hd,by simpa using hs⟩,?_⟩
  have e:=r.length
  simp only[č] at e
  omega
theorem Inv.tuple(I:Inv X pins σ H s)(h:SqT X.K H a xs):∃its:List Value,Vals xs its/\IsTup s.heap a its.toArray/\xs.length<=sizeLine:=by
 rcases h with h|⟨o,its,n,hk,hc,hs,hz,r⟩
 ·obtain⟨z,its,r,p⟩:=h.ok I.hok
  exact⟨its,r,p,z⟩
 ·refine⟨its.toList,r,⟨o,I.kIn a o hk,hc,n,by simpa using hs⟩,?_⟩
  have e:=r.length
  simp only[č] at e
  omega
theorem Inv.Fg(I:Inv X pins σ H s)(h:SqL X.K H a xs)(h':SqL X.K H a ys):xs=ys:=by
 obtain⟨its,r,⟨o,n,e,_,_,d⟩,_⟩:=I.list h
 obtain⟨its',r',⟨o',n',e',_,_,d'⟩,_⟩:=I.list h'
 rw[e] at e';cases e'
 rw[d] at d'
 injection d' with d1 _
 have:its=its':=by simpa using congrArg Array.toList d1
 subst this
 exact r.inj r'
theorem Inv.Bf(I:Inv X pins σ H s)(h:SqT X.K H a xs)(h':SqT X.K H a ys):xs=ys:=by
 obtain⟨its,r,⟨o,e,_,n,d⟩,_⟩:=I.tuple h
 obtain⟨its',r',⟨o',e',_,n',d'⟩,_⟩:=I.tuple h'
 rw[e] at e';cases e'
 rw[d] at d'
 injection d' with d1 _
 have:its=its':=by simpa using congrArg Array.toList d1
 subst this
 exact r.inj r'
end
abbrev Cx.wish(X:Cx)(E:Value->Shared->Prop):Cx:={ X with xe:=E }
abbrev Cx.nox(X:Cx):Cx:=X.wish λ_ _=>False
theorem Cx.Ok.wish{X:Cx}(ok:X.Ok)(E:Value->Shared->Prop):(X.wish E).Ok :=
 ⟨ok.mod,ok.kind,ok.glob,ok.blt,ok.above,ok.inj,ok.has,ok.cab,ok.hd,ok.frames,ok.stk,ok.exf,ok.bs,ok.bsz,ok.noex,ok.exfs,ok.qI,ok.frf,ok.sof⟩
theorem Cx.Ok.g8{X:Cx}{E:Value->Shared->Prop}(ok:(X.wish E).Ok):X.Ok :=
 ⟨ok.mod,ok.kind,ok.glob,ok.blt,ok.above,ok.inj,ok.has,ok.cab,ok.hd,ok.frames,ok.stk,ok.exf,ok.bs,ok.bsz,ok.noex,ok.exfs,ok.qI,ok.frf,ok.sof⟩
section
variable {X:Cx}{pins:List (Addr×Obj)}{σ:St}{H:Hp}{s:Shared}{E:Value->Shared->Prop}
theorem Inv.wish(I:Inv X pins σ H s)(E:Value->Shared->Prop):Inv (X.wish E) pins σ H s:=⟨I.ok.wish E,I.os,I.bare,I.base,I.loc,I.cell,I.free,I.freeC,I.pin,I.hok,I.len⟩
theorem Inv.g8(I:Inv (X.wish E) pins σ H s):Inv X pins σ H s:=⟨I.ok.g8,I.os,I.bare,I.base,I.loc,I.cell,I.free,I.freeC,I.pin,I.hok,I.len⟩
theorem SP.g8{D:Ends}{f:Flow}{s':Shared}(h:SP (X.wish E) pins D f s'):SP X pins D f s':=by
 cases f with
 |next=>obtain⟨σ',H',I,q⟩:=h;exact⟨σ',H',I.g8,q⟩
 |brk=>obtain⟨σ',H',I,q⟩:=h;exact⟨σ',H',I.g8,q⟩
 |cont=>obtain⟨σ',H',I,q⟩:=h;exact⟨σ',H',I.g8,q⟩
 |ret u=>obtain⟨v,σ',H',I,r,q⟩:=h;exact⟨v,σ',H',I.g8,r,q⟩
theorem PSs.nox{st:List Stmt}{t:TS}(h:PSs X.nox st t):PSs X st t:=λpins s σ H D I hw =>
 Ŗ (h pins s σ H D (I.wish _) hw) (λ_ _ q=>q.g8) λ_ _ z=>Ŝ z
end
section
variable {X:Cx}{st:Stmt}{rest:List Stmt}{t u:TS}{e:Expr}{te:TE}{pos:Pos}
def N8:TS:=λD σ H=>D.nx σ H
def Qy(t u:TS):TS:=λD σ H=>t { D with nx:=u D } σ H
theorem oV:PSs X [] N8:=λ_ _ σ H _ I h=>wpAny_execs_nil ⟨σ,H,I,h⟩
theorem bN(h1:PS X st t)(h2:PSs X rest u):PSs X (st::rest) (Qy t u):=by
 intro pins s σ H D I h
 refine wpAny_execs_cons (thn (h1 pins s σ H { D with nx:=u D } I h) λf s1 q=>?_)
 cases f with
 |next =>
  obtain⟨σ',H',I',q⟩:=q
  exact h2 pins s1 σ' H' D I' q
 |ret v=>exact q
 |brk=>exact q
 |cont=>exact q
theorem cZ(h1:PS X st t):PSs X [st] t:=by
 intro pins s σ H D I h
 refine wpAny_execs_cons (thn (h1 pins s σ H D I h) λf s1 q=>?_)
 cases f with
 |next=>exact wpAny_execs_nil q
 |ret v=>exact q
 |brk=>exact q
 |cont=>exact q
theorem Inv.quiet{pins:List (Addr×Obj)}{σ:St}{H:Hp}{s:Shared}(I:Inv X pins σ H s):interactive X.env=false:=by simp[interactive,I.ok.kind]
def rG(te:TE):TS:=λD σ H=>te σ H λ_ H1=>D.nx σ H1
theorem fY(he:PE X e te)(hs:swapsWith e none pos.line X.env=pure false:=by rfl):PS X (.Expr e pos) (rG te):=by
 intro pins s σ H D I h
 exact wpAny_Expr_any (thn (he pins s σ H _ I h) λv s1 ⟨x,H1,I1,r1,q1⟩=>⟨σ,H1,I1,q1⟩) I.quiet hs
def Qz(te:TE):TS:=λD σ H=>te σ H D.rt
theorem jH(he:PE X e te):PS X (.Return (some e) pos) (Qz te):=by
 intro pins s σ H D I h
 exact wpAny_Return_some (thn (he pins s σ H _ I h) λv s1 ⟨x,H1,I1,r1,q1⟩=>⟨x,σ,H1,I1,r1,q1⟩)
def QD(c:TT)(t u:TS):TS:=λD σ H=>c σ H λb H1=>if b=true then t D σ H1 else u D σ H1
theorem vR{c:Expr}{a b:List Stmt}{tc:TT}(hc:PT X c tc)(ha:PSs X a t)(hb:PSs X b u):PS X (.If c a b pos) (QD tc t u):=by
 intro pins s σ H D I h
 refine wpAny_If (thn (hc pins s σ H _ I h) λd s1 ⟨H1,I1,q1⟩=>?_)
 cases d with
 |true=>exact ha pins s1 σ H1 D I1 q1
 |false=>exact hb pins s1 σ H1 D I1 q1
def Kg:TS:=λ_ _ _=>False
theorem Dw:PS X st Kg:=λ_ _ _ _ _ _ h=>h.elim
end
abbrev TG:=V->St->Hp->(St->Hp->Prop)->Prop
abbrev TGs:=List V->St->Hp->(St->Hp->Prop)->Prop
def PG(X:Cx)(target:Expr)(t:TG):Prop :=
 ∀(pins:List (Addr×Obj)) (s:Shared) (σ:St) (H:Hp) (v:V) (u:Value) (Q:St->Hp->Prop),Inv X pins σ H s->RelV v u->t v σ H Q ->
  wpAny (model X.prog X.w) X.A (assign target X.env u) (λ_ s'=>∃σ' H',Inv X pins σ' H' s'/\Q σ' H') X.xe s
def PGs(X:Cx)(ts:List Expr)(t:TGs):Prop :=
 ∀(pins:List (Addr×Obj)) (s:Shared) (σ:St) (H:Hp) (vs:List V) (us:List Value) (Q:St->Hp->Prop),Inv X pins σ H s->Vals vs us->t vs σ H Q ->
  wpAny (model X.prog X.w) X.A (assignInOrder ((assignEach ts X.env).map (·.2)) us) (λ_ s'=>∃σ' H',Inv X pins σ' H' s'/\Q σ' H') X.xe s
abbrev Nm:=V->V->V->Hp->(Hp->Prop)->Prop
def Qq(X:Cx)(t:Nm):Prop :=
 ∀(pins:List (Addr×Obj)) (s:Shared) (σ:St) (H:Hp) (o i v:V) (ov iv u:Value) (Q:Hp->Prop),Inv X pins σ H s->RelV o ov->RelV i iv->RelV v u->t o i v H Q ->
  wpAny (model X.prog X.w) X.A (setItem ov iv u) (λ_ s'=>∃H',Inv X pins σ H' s'/\Q H') X.xe s
section
variable {X:Cx}{pos:Pos}
def gY(i:Nat):TG:=λv σ H Q=>Q (σ.set i (some v)) H
theorem cg{i:Nat}{x:Str}(hN:X.N.Nodup)(hi:X.N[i]?=some x)(hx:Loc X.env.scope x)(hf:X.fn x=true\/X.env.scope.names.lookup x=some .local:=by first|exact .inl rfl|exact .inr rfl|assumption):PG X (.Name x pos) (gY i):=by
 intro pins s σ H v u Q I r h
 exact wpAny_assign_Name (vI I hN hi hx r (λs' I'=>⟨_,H,I',h⟩) hf)
def Rt:TGs:=λvs σ H Q=>vs=[]/\Q σ H
def Qa(t:TG)(u:TGs):TGs:=λvs σ H Q=>∃v r,vs=v::r/\t v σ H λσ' H'=>u r σ' H' Q
theorem Hu:PGs X [] Rt:=by
 intro pins s σ H vs us Q I r h
 obtain⟨e,h⟩:=h
 subst e
 cases r
 exact assignInOrder_nil ⟨σ,H,I,h⟩
theorem DP{e:Expr}{es:List Expr}{t:TG}{u:TGs}(h1:PG X e t)(h2:PGs X es u)(hs:(assignEach (e::es) X.env).map (·.2)=assign e X.env::(assignEach es X.env).map (·.2):=by rfl):PGs X (e::es) (Qa t u):=by
 intro pins s σ H vs us Q I r h
 obtain⟨v,vr,e1,h⟩:=h
 subst e1
 cases r with
 |cons r rr =>
  rw[hs]
  refine assignInOrder_cons (thn (h1 pins s σ H _ _ _ I r h) λ_ s1 ⟨σ1,H1,I1,q1⟩=>?_)
  exact h2 pins s1 σ1 H1 _ _ Q I1 rr q1
def Rq(K:Þ)(n:Nat)(t:TGs):TG:=λv σ H Q=>∃a xs,v=.ref a/\SqT K H a xs/\xs.length=n/\t xs σ H Q
theorem KY{es:List Expr}{k:Nat}{t:TGs}{n:Nat}(hc:X.calm=true)(h:PGs X es t)(hn:(assignEach es X.env).length=n:=by rfl)(hst:(assignEach es X.env).findIdx? (·.1)=none:=by rfl):PG X (.Tuple es k pos) (Rq X.K n t):=by
 intro pins s σ H v u Q I r hw
 obtain⟨a,xs,e1,hq,hl,hw⟩:=hw
 subst e1
 cases r
 obtain⟨its,rv,ht,hz⟩:=I.tuple hq
 refine assign_Tuple_tuple (I.ok.hd hc) ht (by simp[hn,←hl,rv.length]) hst λh' hx=>?_
 have I1:Inv X pins σ H { s with heap:=h' }:=I.kept (t':=s.toks) λb o e=>hx b o (ä (Ô e)) e
 exact h pins _ σ H xs _ Q I1 (by simpa using rv) hw
def Rr(to ti:TE)(t:Nm):TG:=λv σ H Q=>to σ H λo H1=>ti σ H1 λi H2=>t o i v H2 λH3=>Q σ H3
theorem xW{o i:Expr}{to ti:TE}{t:Nm}(ho:PE X o to)(hi:PE X i ti)(hs:Qq X t)(ha:∀v,assign (.Subscript o i pos) X.env v=(do
   let ov ←holding [v] (eval o X.env)
   let iv ←holding [v,ov] (eval i X.env)
   standAt pos
   holding [v,ov,iv] (setItem ov iv v)
   release [v,ov,iv] []):=by intro _;rfl):PG X (.Subscript o i pos) (Rr to ti t):=by
 intro pins s σ H v u Q I r h
 rw[ha]
 refine Ä (ĥ (thn (ho pins s σ H _ I h) λov s1 ⟨x,H1,I1,r1,q1⟩=>?_))
 refine Ä (ĥ (thn (hi pins s1 σ H1 _ I1 q1) λiv s2 ⟨y,H2,I2,r2,q2⟩=>?_))
 refine Ä (wpAny_standAt (Ä (ĥ (thn (hs pins s2 σ H2 x y v ov iv u _ I2 r1 r2 r q2) λ_ s3 ⟨H3,I3,q3⟩=>?_))))
 exact wpAny_release ⟨σ,H3,I3,q3⟩
def pN(te:TE)(g:TG):TS:=λD σ H=>te σ H λx H1=>g x σ H1 D.nx
theorem uc{tg e:Expr}{te:TE}{g:TG}(he:PE X e te)(hg:PG X tg g)(hs:swapsWithSole [tg] e pos.line X.env=pure false:=by rfl)(hw:swappedStores [tg] e X.env=pure none:=by rfl)(h1:(assignEach [tg] X.env).map (·.2)=[assign tg X.env]:=by rfl):PS X (.Assign [tg] e pos) (pN te g):=by
 intro pins s σ H D I h
 refine wpAny_Assign_stores (thn (he pins s σ H _ I h) λv s1 ⟨x,H1,I1,r1,q1⟩=>?_) hs hw
 rw[h1]
 exact thn (hg pins s1 σ H1 x v _ I1 r1 q1) λ_ s2 q=>q
theorem cU{i:Nat}{x:Str}{e:Expr}{te:TE}{pos':Pos}(hN:X.N.Nodup)(hi:X.N[i]?=some x)(hx:Loc X.env.scope x)(he:PE X e te)(hs:swapsWith e (some (.Name x pos')) pos.line X.env=pure false:=by rfl)(hf:X.fn x=true\/X.env.scope.names.lookup x=some .local:=by first|exact .inl rfl|exact .inr rfl|assumption) :
  PS X (.Assign [.Name x pos'] e pos) (pN te (gY i)):=by
 intro pins s σ H D I h
 refine wpAny_Assign_Name (thn (he pins s σ H _ I h) λv s1 ⟨y,H1,I1,r1,q1⟩=>?_) hs
 exact vI I1 hN hi hx r1 (λs2 I2=>⟨_,H1,I2,q1⟩) hf
end
section
variable {X:Cx}{pos:Pos}
end
structure It where
 go:Nat->Hp->Prop
 yld:Nat->Hp->V->Hp->Prop
 stop:Nat->Hp->Prop
def qR(X:Cx)(pins:List (Addr×Obj))(H:Hp)(b:Addr):Prop :=
 H b=none/\b≠X.env.locals/\b∉X.fs/\(b∈X.ex\/X.s₀.heap.objs.size<=b)/\(∀x c,X.env.cells.lookup x=some c->c≠b)/\∀p∈X.pn++pins,p.1≠b
theorem Inv.MF{X:Cx}{pins:List (Addr×Obj)}{σ:St}{H H':Hp}{s:Shared}{b:Addr}(I:Inv X pins σ H s)(hb:s.heap.objs.size<=b)(hn:H' b=none):qR X pins H' b:=by
 refine⟨hn,Nat.ne_of_gt (é I.lt hb),I.Q9 hb,.inr (ĉ I.sz hb),λx c e z=>?_,λp hp z=>?_⟩
 ·obtain⟨v,q⟩:=I.cell x c e
  exact absurd (é q.lt (by rw[z];exact hb)) (Ą _)
 ·exact absurd (é (Ô (I.pin p hp).1) (by rw[z];exact hb)) (Ą _)
structure TurnG(Cm:Cx->Prop)(P:Program)(w:World)(K:Þ)(tg:Expr)(J:It)(fp:List Addr)(it:Addr)(tn:Nat->Heap->Prop):Prop where
 mem:it∈fp
 obj:∀i h,tn i h->∀b∈fp,∃o,h.get? b=some o/\∀v,o.data≠.cell v
 keep:∀i h h',tn i h->(∀b∈fp,∀o,h.get? b=some o->h'.get? b=some o)->tn i h'
 item:∀(X:Cx),X.prog=P->X.w=w->X.K=K->Cm X->∀(i:Nat) (pins:List (Addr×Obj)) (s:Shared) (σ:St) (H:Hp) (E:Value->Shared->Prop),Inv X pins σ H s->(∀b∈fp,qR X pins H b)->tn i s.heap->J.go i H ->
  wpAny (model P w) X.A (pyNext (.ref it)) (λr s1=>∃u,r=some u /\
   wpAny (model P w) X.A (letOwnedTupleGo tg (.ref it) u) (λ_ s2=>∃x H',Inv X pins σ H' s2/\RelV x u/\J.yld i H x H'/\tn (i+1) s2.heap/\∀b∈fp,H' b=none) E s1) E s
 done:∀(X:Cx),X.prog=P->X.w=w->X.K=K->Cm X->∀(i:Nat) (pins:List (Addr×Obj)) (s:Shared) (σ:St) (H:Hp) (E:Value->Shared->Prop),Inv X pins σ H s->(∀b∈fp,qR X pins H b)->tn i s.heap->J.stop i H ->
  wpAny (model P w) X.A (pyNext (.ref it)) (λr s1=>r=none/\Inv X pins σ H s1) E s
 self:∀(A:Around) (i:Nat) (s:Shared) (Q:Value->Shared->Prop) (E:Value->Shared->Prop),tn i s.heap->Q (.ref it) s->wpAny (model P w) A (pyIter (.ref it)) Q E s
abbrev Turn(P:Program)(w:World)(K:Þ)(tg:Expr)(J:It)(fp:List Addr)(it:Addr)(tn:Nat->Heap->Prop):Prop:=TurnG (λX=>X.calm=true) P w K tg J fp it tn
abbrev TI:=St->Hp->(It->Hp->Prop)->Prop
def Qs(Cm:Cx->Prop)(X:Cx)(pins:List (Addr×Obj))(σ:St)(tg:Expr)(R:It->Hp->Prop)(itv:Value)(s2:Shared):Prop :=
 ∃(it:Addr) (fp:List Addr) (tn:Nat->Heap->Prop) (J:It) (H':Hp),itv=.ref it/\Inv X pins σ H' s2/\TurnG Cm X.prog X.w X.K tg J fp it tn/\tn 0 s2.heap/\(∀b∈fp,qR X pins H' b)/\R J H'
def PIG(Cm:Cx->Prop)(X:Cx)(tg iter:Expr)(wi:TI):Prop :=
 ∀(pins:List (Addr×Obj)) (s:Shared) (σ:St) (H:Hp) (R:It->Hp->Prop),Inv X pins σ H s->wi σ H R ->
  wpAny (model X.prog X.w) X.A (eval iter X.env) (λv s1=>wpAny (model X.prog X.w) X.A (pyIter v) (Qs Cm X pins σ tg R) X.xe s1) X.xe s
abbrev PIE(X:Cx):=Qs (λX=>X.calm=true) X
abbrev PI(X:Cx):=PIG (λX=>X.calm=true) X
theorem FN{M:Model}{A:Around}{E:Value->Shared->Prop}{s:Shared}{tg:Expr}{it:Addr}{u:Value}{o:Obj}{n:String}{vs:Array Value}{Q:Unit->Shared->Prop}(ho:s.heap.get? it=some o)(hc:o.cls=.type n)(hd:o.data=.fields vs)(hn:["enumerate","zip","dict_itemiterator","dict_reverseitemiterator","odict_iterator","itertools.zip_longest","itertools.pairwise"].contains n=false)(hQ:Q () s):wpAny M A (letOwnedTupleGo tg (.ref it) u) Q E s:=by
 unfold letOwnedTupleGo
 cases tg <;> first
  |exact Ø hQ
  | (cases u <;> first
    |exact Ø hQ
    | (refine Ä (wpAny_load ho ?_)
       rw[hc,hd]
       show wpAny M A (if (["enumerate","zip","dict_itemiterator","dict_reverseitemiterator","odict_iterator","itertools.zip_longest","itertools.pairwise"].contains n&&vs[0]? == some (rawInt _))=true then _ else _) Q E s
       rw[if_neg (by intro h;rw[hn,Bool.false_and] at h;cases h)]
       exact Ø hQ))
def Itl(K:Þ)(a:Addr):It :=
 ⟨λi H=>∃xs x,SqL K H a xs/\xs[i]?=some x,λi H x H'=>H'=H/\∀xs,SqL K H a xs->xs[i]?=some x,λi H=>∃xs,SqL K H a xs/\xs.length<=i⟩
def Itt(K:Þ)(a:Addr):It :=
 ⟨λi H=>∃xs x,SqT K H a xs/\xs[i]?=some x,λi H x H'=>H'=H/\∀xs,SqT K H a xs->xs[i]?=some x,λi H=>∃xs,SqT K H a xs/\xs.length<=i⟩
def Itr(lo:Int)(n:Nat):It:=⟨λi _=>i<n,λi H x H'=>H'=H/\x=.int (lo+i),λi _=>n<=i⟩
theorem Bd{P:Program}{w:World}{K:Þ}{tg:Expr}(a it:Addr):Turn P w K tg (Itl K a) [it] it (λi h=>h.IsListIter it a i) where
 mem:=by simp
 obj:=λi h st b hb=>by
  have e:b=it:=by simpa using hb
  subst e
  obtain⟨o,e,c,d⟩:=st
  exact⟨o,e,λv z=>by rw[d] at z;cases z⟩
 keep:=λi h h' st k=>st.at λo e=>k it (by simp) o e
 item:=by
  intro X hP hw hK hc i pins s σ H E I hf st hg
  subst hP hw hK
  obtain⟨xs,x,hq,hx⟩:=hg
  obtain⟨its,rv,p,hz⟩:=I.list hq
  obtain⟨u,hu,ru⟩:=rv.get hx
  obtain⟨f0,f1,f2,f3,f4,f5⟩:=hf it (by simp)
  refine wpAny_pyNext_list_item st p.isList (x:=u) (by simpa using hu) λh' st' sb=>?_
  have I1:Inv X pins σ H { s with heap:=h' }:=I.turned (t':=s.toks) (λb o hb e=>(sb.2 b hb).trans e) f0 f1 f3 f4 f5
  obtain⟨o,e,c,d⟩:=id st'
  exact⟨u,rfl,FN (s:={ s with heap:=h' }) e c d (by decide) ⟨x,H,I1,ru,⟨rfl,λys hy=>by rw[I.Fg hy hq];exact hx⟩,st',λb hb=>(hf b hb).1⟩⟩
 done:=by
  intro X hP hw hK hc i pins s σ H E I hf st hg
  subst hP hw hK
  obtain⟨xs,hq,hx⟩:=hg
  obtain⟨its,rv,p,hz⟩:=I.list hq
  obtain⟨f0,f1,f2,f3,f4,f5⟩:=hf it (by simp)
  have hl:=rv.length
  exact wpAny_pyNext_list_end (I.ok.hd hc) st p.isList (by simp;omega) λh' eb=>⟨rfl,I.turned (t':=s.toks) (λb o hb e=>eb b o hb e) f0 f1 f3 f4 f5⟩
 self:=λ_ _ _ _ _ st h=>wpAny_pyIter_listiter st h
theorem xK{P:Program}{w:World}{K:Þ}{tg:Expr}(a it:Addr):Turn P w K tg (Itt K a) [it] it (λi h=>h.IsTupleIter it a i) where
 mem:=by simp
 obj:=λi h st b hb=>by
  have e:b=it:=by simpa using hb
  subst e
  obtain⟨o,e,c,d⟩:=st
  exact⟨o,e,λv z=>by rw[d] at z;cases z⟩
 keep:=λi h h' st k=>st.at λo e=>k it (by simp) o e
 item:=by
  intro X hP hw hK hc i pins s σ H E I hf st hg
  subst hP hw hK
  obtain⟨xs,x,hq,hx⟩:=hg
  obtain⟨its,rv,p,hz⟩:=I.tuple hq
  obtain⟨u,hu,ru⟩:=rv.get hx
  obtain⟨f0,f1,f2,f3,f4,f5⟩:=hf it (by simp)
  refine wpAny_pyNext_tuple_item st (show s.heap.IsTuple a its.toArray from p) (x:=u) (by simpa using hu) λh' st' sb=>?_
  have I1:Inv X pins σ H { s with heap:=h' }:=I.turned (t':=s.toks) (λb o hb e=>(sb.2 b hb).trans e) f0 f1 f3 f4 f5
  obtain⟨o,e,c,d⟩:=id st'
  exact⟨u,rfl,FN (s:={ s with heap:=h' }) e c d (by decide) ⟨x,H,I1,ru,⟨rfl,λys hy=>by rw[I.Bf hy hq];exact hx⟩,st',λb hb=>(hf b hb).1⟩⟩
 done:=by
  intro X hP hw hK hc i pins s σ H E I hf st hg
  subst hP hw hK
  obtain⟨xs,hq,hx⟩:=hg
  obtain⟨its,rv,p,hz⟩:=I.tuple hq
  obtain⟨f0,f1,f2,f3,f4,f5⟩:=hf it (by simp)
  have hl:=rv.length
  exact wpAny_pyNext_tuple_end (I.ok.hd hc) st (show s.heap.IsTuple a its.toArray from p) (by simp;omega) λh' eb=>⟨rfl,I.turned (t':=s.toks) (λb o hb e=>eb b o hb e) f0 f1 f3 f4 f5⟩
 self:=λ_ _ _ _ _ st h=>wpAny_pyIter_tupleiter st h
theorem xM{P:Program}{w:World}{K:Þ}{tg:Expr}(it:Addr)(lo:Int)(n:Nat):Turn P w K tg (Itr lo n) [it] it (λi h=>IsRangeIter h it (lo+(i:Nat) * 1) ((n:Int) - (i:Nat)) 1) where
 mem:=by simp
 obj:=λi h st b hb=>by
  have e:b=it:=by simpa using hb
  subst e
  exact⟨_,st,λv z=>by
   have z':Data.fields _=Data.cell v:=z
   cases z'⟩
 keep:=λi h h' st k=>k it (by simp) _ st
 item:=by
  intro X hP hw hK hc i pins s σ H E I hf st hg
  subst hP hw hK
  obtain⟨f0,f1,f2,f3,f4,f5⟩:=hf it (by simp)
  have W:=Walks.range (prog:=X.prog) (w:=X.w) (I.ok.hd hc) it lo 1 n
  refine W.item i s _ _ hg st λv h' tk hv st' kk=>?_
  obtain⟨t,rfl⟩:=hv
  have I1:Inv X pins σ H { s with heap:=h',toks:=tk }:=I.turned (λb o hb e=>kk b o (by simpa using hb) e) f0 f1 f3 f4 f5
  refine⟨_,rfl,FN (s:={ s with heap:=h',toks:=tk }) (n:="range_iterator") st' rfl rfl (by decide) ⟨.int (lo+i),H,I1,⟨t,?_⟩,⟨rfl,rfl⟩,st',λb hb=>(hf b hb).1⟩⟩
  rw[Int.mul_one]
 done:=by
  intro X hP hw hK hc i pins s σ H E I hf st hg
  subst hP hw hK
  obtain⟨f0,f1,f2,f3,f4,f5⟩:=hf it (by simp)
  exact wpAny_pyNext_range_end (I.ok.hd hc) st (by have:n<=i:=hg;omega) λh' eb=>⟨rfl,I.turned (t':=s.toks) (λb o hb e=>eb b o hb e) f0 f1 f3 f4 f5⟩
 self:=λ_ _ _ _ _ st h=>wpAny_pyIter_rangeiter st h
section
variable {X:Cx}{tg:Expr}
theorem Du{pins:List (Addr×Obj)}{σ:St}{H:Hp}{s:Shared}{R:It->Hp->Prop}{E:Value->Shared->Prop}{lo hi:Int}{t u v:Tok}{tk:Nat}(I:Inv X pins σ H s)(h1:-(2 ^ 62)<=lo)(h2:lo<2 ^ 62)(h3:-(2 ^ 62)<=hi)(h4:hi<2 ^ 62)(q:R (Itr lo (hi - lo).toNat) H):wpAny (model X.prog X.w) X.A (pyIter (.ref s.heap.objs.size)) (PIE X pins σ tg R) E { s with heap:=s.heap.push { cls:=.type "range",data:=.fields #[.int lo t,.int hi u,.int 1 v] },toks:=tk }:=by
 refine wpAny_pyIter_range (IsRange.new ..) (small_one h1 h2 h3 h4) ?_
 have I1:Inv X pins σ H { s with heap:=s.heap.push { cls:=.type "range",data:=.fields #[.int lo t,.int hi u,.int 1 v] },toks:=tk }:=I.kept λb o e=>Ö _ e
 refine⟨(s.heap.push { cls:=.type "range",data:=.fields #[.int lo t,.int hi u,.int 1 v] }).objs.size,[(s.heap.push { cls:=.type "range",data:=.fields #[.int lo t,.int hi u,.int 1 v] }).objs.size],_,_,H,rfl,
  I1.kept (t':=tk) λb o e=>Ö _ e,xM _ lo (hi - lo).toNat,?_,λb hb=>?_,q⟩
 ·have e1:lo+((0:Nat):Int) * 1=lo:=by simp
  have e2:(((hi - lo).toNat:Nat):Int) - ((0:Nat):Int)=Builtin.Range.rangeSize lo hi 1:=by rw[rangeSize_one];split <;> omega
  show IsRangeIter _ _ (lo+((0:Nat):Int) * 1) ((((hi - lo).toNat:Nat):Int) - ((0:Nat):Int)) 1
  rw[e1,e2]
  exact ç _ rfl
 ·have e:b=(s.heap.push { cls:=.type "range",data:=.fields #[.int lo t,.int hi u,.int 1 v] }).objs.size:=by simpa using hb
  subst e
  exact I1.MF (Ë _) (I1.hok.fresh (Ë _))
def PK(ta:TA):TI:=λσ H R=>ta σ H λvs H1=>∃j:Int,vs=[.int j]/\-(2 ^ 62)<=j/\j<2 ^ 62/\R (Itr 0 j.toNat) H1
theorem rP{a:Expr}{ta:TA}{p pos:Pos}(hg:Gl X "range")(hm:X.mg "range"=none)(ha:PA X [a] ta)(hs:starEach [a] X.env=[(false,eval a X.env)]:=by rfl):PI X tg (.Call (.Name "range" p) [a] [] pos) (PK ta):=by
 intro pins s σ H R I h
 refine Call_ (nA I hg hm boot_range (ř (thn (ha pos pins s σ H _ I h) λus s1 ⟨vs,H1,I1,r1,q1⟩=>?_) hs rfl))
 obtain⟨j,e,q1,q2,q⟩:=q1
 subst e
 cases r1 with
 |cons r rr =>
  cases rr
  obtain⟨t,rfl⟩:=r
  exact call_range_1 (Du I1 (by omega) (by omega) q1 q2 (by simpa using q))
def QG(wi:TI)(g:TG)(tb:TS):TS:=λD σ H=>wi σ H λJ H1=>∃W:Nat->Nat->St->Hp->Prop,(∃m,W 0 m σ H1)/\∀i m σ H,W i m σ H ->
 (J.stop i H/\D.nx σ H)\/(J.go i H/\∃N:St->Hp->Prop,(∀σ' H',N σ' H'->∃m',m'<m/\W (i+1) m' σ' H')/\∀x H',J.yld i H x H'->g x σ H' λσ2 H2=>tb { D with nx:=N,ct:=N,bk:=D.nx } σ2 H2)
def iy(fp:List Addr)(h:Heap):List (Addr×Obj):=fp.filterMap λb=>(h.get? b).map λo=>(b,o)
theorem gF{fp:List Addr}{h:Heap}{b:Addr}{o:Obj}(hb:b∈fp)(e:h.get? b=some o):(b,o)∈iy fp h:=List.mem_filterMap.mpr ⟨b,hb,by rw[e];rfl⟩
theorem rW{fp:List Addr}{h:Heap}{p:Addr×Obj}(hp:p∈iy fp h):p.1∈fp/\h.get? p.1=some p.2:=by
 obtain⟨b,hb,e⟩:=List.mem_filterMap.mp hp
 cases q:h.get? b with
 |none=>rw[q] at e;cases e
 |some o =>
  rw[q] at e
  have e':(b,o)=p:=ã e
  subst e'
  exact⟨hb,q⟩
theorem Inv.pinned{pins:List (Addr×Obj)}{σ:St}{H:Hp}{s:Shared}{fp:List Addr}(I:Inv X pins σ H s)(hf:∀b∈fp,qR X pins H b)(ho:∀b∈fp,∃o,s.heap.get? b=some o/\∀v,o.data≠.cell v):Inv X (pins++iy fp s.heap) σ H s :=
 I.oY λp hp=>(Ð.mp hp).elim (λz=>I.pin p (Õ _ z)) λz=>by
  obtain⟨hb,e⟩:=rW z
  obtain⟨f0,f1,f2,_⟩:=hf p.1 hb
  obtain⟨o,e',d⟩:=ho p.1 hb
  rw[e] at e';cases e'
  exact⟨e,f0,f1,f2,d⟩
theorem Inv.jO{pins pl:List (Addr×Obj)}{σ:St}{H:Hp}{s:Shared}(I:Inv X (pins++pl) σ H s):Inv X pins σ H s:=I.oY λp hp=>I.pin p (Õ _ (ô _ hp))
theorem KN{iter:Expr}{body:List Stmt}{wi:TI}{g:TG}{tb:TS}{pos:Pos}(hp:PassesOwn (model X.prog X.w) X.A X.env X.xe)(hc:X.calm=true)(hi:PI X tg iter wi)(hg:PG X tg g)(hb:PSs X body tb)(hs:∀x,foldedSetIterable iter X.env x=pure x:=by intro _;rfl):PS X (.For tg iter body [] pos) (QG wi g tb):=by
 intro pins s σ H D I h
 refine wpAny_For (thn (hi pins s σ H _ I h) λv s1 h1=>thn h1 λitv s2 h2=>?_) hs
 obtain⟨it,fp,tn,J,H2,e,I2,T,st2,f2,W,⟨m0,w0⟩,turn⟩:=h2
 subst e
 -- what stays true of the iterator's objects through the loop
 have stat:∀{H':Hp},(∀b∈fp,H' b=none)->∀b∈fp,qR X pins H' b:=λhn b hb=>⟨hn b hb,(f2 b hb).2⟩
 refine codeAny_forLoop_any (λn s'=>∃i σ' H',Inv X pins σ' H' s'/\tn i s'.heap/\(∀b∈fp,H' b=none)/\W i n σ' H') ?_ m0 ⟨0,σ,H2,I2,st2,λb hb=>(f2 b hb).1,w0⟩
 rintro n s3 ⟨i,σ3,H3,I3,st3,fr3,w3⟩
 rcases turn i n σ3 H3 w3 with ⟨stop,qn⟩|⟨go,N,hN,step⟩
 ·refine wpAny_passesOwn hp (thn (T.done X rfl rfl rfl hc i pins s3 σ3 H3 X.xe I3 (stat fr3) st3 stop) λr s4 ⟨hr,I4⟩=>?_)
  subst hr
  exact wpAny_execs_nil ⟨σ3,H3,I4,qn⟩
 ·refine wpAny_passesOwn hp (thn (T.item X rfl rfl rfl hc i pins s3 σ3 H3 X.xe I3 (stat fr3) st3 go) λr s4 ⟨u,hr,h4⟩=>?_)
  subst hr
  refine wpAny_passesOwn hp (thn h4 λ_ s5 ⟨x,H5,I5,r5,y5,st5,fr5⟩=>?_)
  have I5':=I5.pinned (stat fr5) (T.obj _ _ st5)
  refine wpAny_passesOwn hp (thn (hg _ s5 σ3 H5 x u _ I5' r5 (step x H5 y5)) λ_ s6 ⟨σ6,H6,I6,q6⟩=>?_)
  refine wpAny_passesOwn hp (thn (hb _ s6 σ6 H6 _ I6 q6) λf s7 q7=>?_)
  have again:∀{σ7:St}{H7:Hp},Inv X (pins++iy fp s5.heap) σ7 H7 s7->N σ7 H7->∃m,m<n/\∃i σ' H',Inv X pins σ' H' s7/\tn i s7.heap/\(∀b∈fp,H' b=none)/\W i m σ' H':=λ{σ7 H7} I7 n7=>by
   obtain⟨m',hm,w7⟩:=hN σ7 H7 n7
   refine⟨m',hm,i+1,σ7,H7,I7.jO,T.keep _ _ _ st5 λb hb o e=>(I7.pin (b,o) (Õ _ (Õ _ (gF hb e)))).1,λb hb=>?_,w7⟩
   obtain⟨o,e,d⟩:=T.obj _ _ st5 b hb
   exact(I7.pin (b,o) (Õ _ (Õ _ (gF hb e)))).2.1
  cases f with
  |next=>obtain⟨σ7,H7,I7,n7⟩:=q7;exact again I7 n7
  |cont=>obtain⟨σ7,H7,I7,n7⟩:=q7;exact again I7 n7
  |brk=>obtain⟨σ7,H7,I7,q7⟩:=q7;exact⟨σ7,H7,I7.jO,q7⟩
  |ret v=>obtain⟨x7,σ7,H7,I7,r7,q7⟩:=q7;exact⟨x7,σ7,H7,I7.jO,r7,q7⟩
end
abbrev R2:=V->V->Hp->VK->Prop
def OpR(X:Cx)(f:Value->Value->Sem Value)(r:R2):Prop :=
 ∀(pins:List (Addr×Obj)) (s:Shared) (σ:St) (H:Hp) (x y:V) (v u:Value) (Q:VK),Inv X pins σ H s->RelV x v->RelV y u->r x y H Q ->
  wpAny (model X.prog X.w) X.A (f v u) (EP X pins σ Q) X.xe s
def UnR(X:Cx)(f:Value->Sem Value)(r:V->Hp->VK->Prop):Prop :=
 ∀(pins:List (Addr×Obj)) (s:Shared) (σ:St) (H:Hp) (x:V) (v:Value) (Q:VK),Inv X pins σ H s->RelV x v->r x H Q ->
  wpAny (model X.prog X.w) X.A (f v) (EP X pins σ Q) X.xe s
def bD(X:Cx)(f:Value)(r:List V->Hp->VK->Prop):Prop :=
 ∀(pins:List (Addr×Obj)) (s:Shared) (σ:St) (H:Hp) (xs:List V) (us:List Value) (Q:VK),Inv X pins σ H s->Vals xs us->r xs H Q ->
  wpAny (model X.prog X.w) X.A (call f us) (EP X pins σ Q) X.xe s
def tOp(r:R2)(ta tb:TE):TE:=λσ H Q=>ta σ H λx H1=>tb σ H1 λy H2=>r x y H2 Q
def tUn(r:V->Hp->VK->Prop)(ta:TE):TE:=λσ H Q=>ta σ H λx H1=>r x H1 Q
def rI(C:Int->Int->Prop)(g:Int->Int->V):R2:=λx y H Q=>∃i j,x=.int i/\y=.int j/\C i j/\Q (g i j) H
def rI0(g:Int->Int->V):R2:=λx y H Q=>∃i j,x=.int i/\y=.int j/\Q (g i j) H
def rU(g:Int->V):V->Hp->VK->Prop:=λx H Q=>∃i,x=.int i/\Q (g i) H
section
variable {X:Cx}{a b c:Expr}{ta tb tc:TE}{pos:Pos}
theorem Ni(ha:PE X a ta)(hb:PE X b tb){pins:List (Addr×Obj)}{s:Shared}{σ:St}{H:Hp}{R:V->V->Hp->Prop}(I:Inv X pins σ H s)(h:ta σ H λx H1=>tb σ H1 λy H2=>R x y H2){Q:Value->Shared->Prop}{f:Value->Value->Sem Value}(hf:∀v u s2 x y H2,Inv X pins σ H2 s2->RelV x v->RelV y u->R x y H2->wpAny (model X.prog X.w) X.A (f v u) Q X.xe s2) :
  wpAny (model X.prog X.w) X.A (eval a X.env) (λv s₁=>wpAny (model X.prog X.w) X.A (eval b X.env) (λu s₂=>wpAny (model X.prog X.w) X.A (f v u) Q X.xe s₂) X.xe s₁) X.xe s:=by
 refine thn (ha pins s σ H _ I h) λv s1 ⟨x,H1,I1,r1,q1⟩=>?_
 refine thn (hb pins s1 σ H1 _ I1 q1) λu s2 ⟨y,H2,I2,r2,q2⟩=>?_
 exact hf v u s2 x y H2 I2 r1 r2 q2
theorem bG{op:Operator}{r:R2}(ho:OpR X (binaryOp op) r)(ha:PE X a ta)(hb:PE X b tb):PE X (.BinOp a op b pos) (tOp r ta tb):=by
 intro pins s σ H Q I h
 exact wpAny_BinOp (Ni ha hb I h λv u s2 x y H2 I2 rx ry q=>ho pins s2 σ H2 x y v u Q I2 rx ry q)
theorem O1{op:UnaryOp}{r:V->Hp->VK->Prop}(ho:UnR X (unaryOp op) r)(ha:PE X a ta):PE X (.UnaryOp op a pos) (tUn r ta):=by
 intro pins s σ H Q I h
 exact UnaryOp_ (thn (ha pins s σ H _ I h) λv s1 ⟨x,H1,I1,r1,q1⟩=>ho pins s1 σ H1 x v Q I1 r1 q1)
theorem opI{f:Value->Value->Sem Value}{C:Int->Int->Prop}{g:Int->Int->Int}(rule:∀(i j:Int) (t u:Tok) (s:Shared) (Q:Value->Shared->Prop) (E:Value->Shared->Prop),C i j->Q (.int (g i j) s.toks) { s with toks:=s.toks+1 }->wpAny (model X.prog X.w) X.A (f (.int i t) (.int j u)) Q E s) :
  OpR X f (rI C λi j=>.int (g i j)):=by
 intro pins s σ H x y v u Q I rx ry h
 obtain⟨i,j,rfl,rfl,hc,q⟩:=h
 obtain⟨t,rfl⟩:=rx
 obtain⟨t',rfl⟩:=ry
 exact rule i j t t' s _ _ hc ⟨.int (g i j),H,I.tok _,⟨_,rfl⟩,q⟩
theorem O8{f:Value->Value->Sem Value}{g:Int->Int->Int}(rule:∀(i j:Int) (t u:Tok) (s:Shared) (Q:Value->Shared->Prop) (E:Value->Shared->Prop),Q (.int (g i j) s.toks) { s with toks:=s.toks+1 }->wpAny (model X.prog X.w) X.A (f (.int i t) (.int j u)) Q E s) :
  OpR X f (rI0 λi j=>.int (g i j)):=by
 intro pins s σ H x y v u Q I rx ry h
 obtain⟨i,j,rfl,rfl,q⟩:=h
 obtain⟨t,rfl⟩:=rx
 obtain⟨t',rfl⟩:=ry
 exact rule i j t t' s _ _ ⟨.int (g i j),H,I.tok _,⟨_,rfl⟩,q⟩
theorem HN{f:Value->Value->Sem Value}{g:Int->Int->Bool}(rule:∀(i j:Int) (t u:Tok) (s:Shared) (Q:Value->Shared->Prop) (E:Value->Shared->Prop),Q (.bool (g i j)) s->wpAny (model X.prog X.w) X.A (f (.int i t) (.int j u)) Q E s) :
  OpR X f (rI0 λi j=>.bl (g i j)):=by
 intro pins s σ H x y v u Q I rx ry h
 obtain⟨i,j,rfl,rfl,q⟩:=h
 obtain⟨t,rfl⟩:=rx
 obtain⟨t',rfl⟩:=ry
 exact rule i j t t' s _ _ ⟨.bl (g i j),H,I,rfl,q⟩
def Nt(i j:Int):Prop:=0<j/\j<1073741824
def Nq(i j:Int):Prop:=0<=j/\j<=1000000/\i.natAbs<2 ^ 64
def Js(i j:Int):Prop:=(-(2 ^ 64)<i/\i<2 ^ 64)\/(-(2 ^ 64)<j/\j<2 ^ 64)
theorem Js.ok{i j:Int}(h:Js i j):IntMulOk i j:=by
 rcases h with ⟨h1,h2⟩|⟨h1,h2⟩
 ·exact .of_left (intBits_le_64 h1 h2)
 ·exact .of_right (intBits_le_64 h1 h2)
theorem gC:OpR X (binaryOp .Add) (rI0 λi j=>.int (i+j)):=O8 λ_ _ _ _ _ _ _ q=>add_int q
theorem Lg:OpR X (binaryOp .Sub) (rI0 λi j=>.int (i - j)):=O8 λ_ _ _ _ _ _ _ q=>sub_int q
theorem ni:OpR X (binaryOp .Mult) (rI Js λi j=>.int (i * j)):=opI λ_ _ _ _ _ _ _ hc q=>mul_int q hc.ok
theorem ux:OpR X (binaryOp .FloorDiv) (rI Nt λi j=>.int (i / j)):=opI λi j _ _ _ _ _ hc q=>by
 have h1:(0:Int)<j:=hc.1
 have h2:j<1073741824:=hc.2
 exact floordiv_int (by omega) (by rw[Int.fdiv_eq_ediv_of_nonneg i (by omega)];exact q) (.inl (PyProof.noPylong_small (by omega)))
theorem iJ:OpR X (binaryOp .Mod) (rI (λ_ j=>0<j) λi j=>.int (i % j)):=opI λi j _ _ _ _ _ hc q=>by
 have h1:(0:Int)<j:=hc
 exact mod_int' (by omega) (by rw[Int.fmod_eq_emod_of_nonneg i (by omega)];exact q)
theorem yg:OpR X (binaryOp .Pow) (rI Nq λi j=>.int (i ^ j.toNat)):=opI λ_ _ _ _ _ _ _ hc q=>pow_int_small hc.1 hc.2.1 hc.2.2 q
theorem unI{f:Value->Sem Value}{g:Int->Int}(rule:∀(i:Int) (t:Tok) (s:Shared) (Q:Value->Shared->Prop) (E:Value->Shared->Prop),Q (.int (g i) s.toks) { s with toks:=s.toks+1 }->wpAny (model X.prog X.w) X.A (f (.int i t)) Q E s) :
  UnR X f (rU λi=>.int (g i)):=by
 intro pins s σ H x v Q I rx h
 obtain⟨i,rfl,q⟩:=h
 obtain⟨t,rfl⟩:=rx
 exact rule i t s _ _ ⟨.int (g i),H,I.tok _,⟨_,rfl⟩,q⟩
theorem Kc:UnR X (unaryOp .USub) (rU λi=>.int (-i)):=unI λ_ _ _ _ _ q=>neg_int q
end
def Oh:V->V->Bool
 |.non,.non=>true|.non,.int _=>true|.int _,.non=>true|.non,.bl _=>true|.bl _,.non=>true|.non,.str _=>true|.str _,.non=>true
 |.int _,.int _=>true|.bl _,.bl _=>true|.str _,.str _=>true|.byt _,.byt _=>true
 |.int _,.str _=>true|.str _,.int _=>true|.bl _,.str _=>true|.str _,.bl _=>true
 |_,_=>false
def rEq:R2:=λx y H Q=>Oh x y=true/\Q (.bl (decide (x=y))) H
def rNe:R2:=λx y H Q=>Oh x y=true/\Q (.bl (!decide (x=y))) H
theorem Av{i j:Int}:decide (V.int i=V.int j)=(i == j):=by
 rw[Ď]
 simp
theorem Gn{i j:Bool}:decide (V.bl i=V.bl j)=(i == j):=by
 rw[Ď]
 simp
theorem Ar{i j:Str}:decide (V.str i=V.str j)=(i == j):=by
 rw[Ď]
 simp
theorem Aw{i j:Array UInt8}:decide (V.byt i=V.byt j)=(i.toList == j.toList):=by
 rw[Ď]
 cases i
 cases j
 simp
section
variable {X:Cx}{a b c:Expr}{ta tb tc:TE}{pos:Pos}
theorem aN{pins:List (Addr×Obj)}{σ:St}{H:Hp}{s:Shared}{Q:VK}{k k':Bool}(I:Inv X pins σ H s)(q:Q (.bl k) H)(e:k=k'):EP X pins σ Q (.bool k') s:=by
 subst e
 exact⟨.bl k,H,I,rfl,q⟩
theorem vZ:OpR X (compareOp .Eq) rEq:=by
 intro pins s σ H x y v u Q I rx ry h
 obtain⟨hs,q⟩:=h
 cases x with
 |non =>
  cases rx
  cases y with
  |non=>cases ry;exact PySem.EqNone.eq_none_none (aN I q (by simp))
  |bl j=>cases ry;exact PySem.EqNone.eq_none_bool (aN I q (by simp))
  |int j=>obtain⟨t',rfl⟩:=ry;exact PySem.EqNone.eq_none_int (aN I q (by simp))
  |str j=>obtain⟨t',rfl⟩:=ry;exact PySem.EqNone.eq_none_str (aN I q (by simp))
  |_=>exact absurd (show false=true from hs) Æ
 |bl i =>
  cases rx
  cases y with
  |non=>cases ry;exact PySem.EqNone.eq_bool_none (aN I q (by simp))
  |bl j=>cases ry;exact eq_bool (aN I q Gn)
  |str j=>obtain⟨t',rfl⟩:=ry;exact PySem.EqMixed.eq_bool_str (aN I q (by simp))
  |_=>exact absurd (show false=true from hs) Æ
 |int i =>
  obtain⟨t,rfl⟩:=rx
  cases y with
  |non=>cases ry;exact PySem.EqNone.eq_int_none (aN I q (by simp))
  |int j=>obtain⟨t',rfl⟩:=ry;exact eq_int (aN I q Av)
  |str j=>obtain⟨t',rfl⟩:=ry;exact PySem.EqMixed.eq_int_str (aN I q (by simp))
  |_=>exact absurd (show false=true from hs) Æ
 |str i =>
  obtain⟨t,rfl⟩:=rx
  cases y with
  |non=>cases ry;exact PySem.EqNone.eq_str_none (aN I q (by simp))
  |bl j=>cases ry;exact PySem.EqMixed.eq_str_bool (aN I q (by simp))
  |int j=>obtain⟨t',rfl⟩:=ry;exact PySem.EqMixed.eq_str_int (aN I q (by simp))
  |str j=>obtain⟨t',rfl⟩:=ry;exact eq_str (aN I q Ar)
  |_=>exact absurd (show false=true from hs) Æ
 |byt i =>
  obtain⟨t,rfl⟩:=rx
  cases y with
  |byt j=>obtain⟨t',rfl⟩:=ry;exact W.eq_bytes (aN I q Aw)
  |_=>exact absurd (show false=true from hs) Æ
 |_=>cases y <;> exact absurd (show false=true from hs) Æ
theorem Em:OpR X (compareOp .NotEq) rNe:=by
 intro pins s σ H x y v u Q I rx ry h
 obtain⟨hs,q⟩:=h
 cases x with
 |non =>
  cases rx
  cases y with
  |non=>cases ry;exact PySem.EqNone.ne_none_none (aN I q (by simp))
  |bl j=>cases ry;exact PySem.EqNone.ne_none_bool (aN I q (by simp))
  |int j=>obtain⟨t',rfl⟩:=ry;exact PySem.EqNone.ne_none_int (aN I q (by simp))
  |str j=>obtain⟨t',rfl⟩:=ry;exact PySem.EqNone.ne_none_str (aN I q (by simp))
  |_=>exact absurd (show false=true from hs) Æ
 |bl i =>
  cases rx
  cases y with
  |non=>cases ry;exact PySem.EqNone.ne_bool_none (aN I q (by simp))
  |bl j=>cases ry;exact ne_bool (aN I q (congrArg not Gn))
  |str j=>obtain⟨t',rfl⟩:=ry;exact PySem.EqMixed.ne_bool_str (aN I q (by simp))
  |_=>exact absurd (show false=true from hs) Æ
 |int i =>
  obtain⟨t,rfl⟩:=rx
  cases y with
  |non=>cases ry;exact PySem.EqNone.ne_int_none (aN I q (by simp))
  |int j=>obtain⟨t',rfl⟩:=ry;exact ne_int (aN I q (congrArg not Av))
  |str j=>obtain⟨t',rfl⟩:=ry;exact PySem.EqMixed.ne_int_str (aN I q (by simp))
  |_=>exact absurd (show false=true from hs) Æ
 |str i =>
  obtain⟨t,rfl⟩:=rx
  cases y with
  |non=>cases ry;exact PySem.EqNone.ne_str_none (aN I q (by simp))
  |bl j=>cases ry;exact PySem.EqMixed.ne_str_bool (aN I q (by simp))
  |int j=>obtain⟨t',rfl⟩:=ry;exact PySem.EqMixed.ne_str_int (aN I q (by simp))
  |str j=>obtain⟨t',rfl⟩:=ry;exact ne_str (aN I q (congrArg not Ar))
  |_=>exact absurd (show false=true from hs) Æ
 |byt i =>
  obtain⟨t,rfl⟩:=rx
  cases y with
  |byt j=>obtain⟨t',rfl⟩:=ry;exact W.ne_bytes (aN I q (congrArg not Aw))
  |_=>exact absurd (show false=true from hs) Æ
 |_=>cases y <;> exact absurd (show false=true from hs) Æ
theorem Eo:OpR X (compareOp .Lt) (rI0 λi j=>.bl (decide (i<j))):=HN λ_ _ _ _ _ _ _ q=>lt_int q
theorem JD:OpR X (compareOp .LtE) (rI0 λi j=>.bl (decide (i<=j))):=HN λ_ _ _ _ _ _ _ q=>le_int q
theorem JF:OpR X (compareOp .Gt) (rI0 λi j=>.bl (decide (j<i))):=HN λ_ _ _ _ _ _ _ q=>gt_int q
theorem JG:OpR X (compareOp .GtE) (rI0 λi j=>.bl (decide (j<=i))):=HN λ_ _ _ _ _ _ _ q=>ge_int q
theorem bT(b:Expr){op:CmpOp}(h:op≠.In:=by decide)(h2:op≠.NotIn:=by decide):behindInMarks op b=false:=by
 have e1:(op == CmpOp.In)=false:=by cases op <;> first|rfl|exact absurd rfl h
 have e2:(op == CmpOp.NotIn)=false:=by cases op <;> first|rfl|exact absurd rfl h2
 cases b <;> simp[behindInMarks,e1,e2]
theorem Hx{op:CmpOp}{r:R2}(ho:OpR X (compareOp op) r)(ha:PE X a ta)(hb:PE X b tb)(hm:behindInMarks op b=false):PE X (.Compare a [op] [b] pos) (tOp r ta tb):=by
 intro pins s σ H Q I h
 exact wpAny_Compare1 (Ni ha hb I h λv u s2 x y H2 I2 rx ry q=>ho pins s2 σ H2 x y v u Q I2 rx ry q) hm
def NK(t:TE):TT:=λσ H Q=>t σ H λx H'=>∃k,x=.bl k/\Q k H'
theorem j8{op:CmpOp}{r:R2}(ho:OpR X (compareOp op) r)(ha:PE X a ta)(hb:PE X b tb)(hm:behindInMarks op b=false):PT X (.Compare a [op] [b] pos) (NK (tOp r ta tb)):=by
 intro pins s σ H Q I h
 refine wpAny_isTrue_Compare1 (thn (ha pins s σ H _ I h) λv s1 ⟨x,H1,I1,r1,q1⟩=>thn (hb pins s1 σ H1 _ I1 q1) λu s2 ⟨y,H2,I2,r2,q2⟩ =>
  thn (ho pins s2 σ H2 x y v u _ I2 r1 r2 q2) λc s3 ⟨z,H3,I3,r3,k,e,q3⟩=>?_) hm
 subst e
 cases r3
 exact ŏ ⟨H3,I3,q3⟩
def Di(r r':R2)(ta tb tc:TE):TE:=λσ H Q=>ta σ H λx H1=>tb σ H1 λy H2=>r x y H2 λz H3=>∃k,z=.bl k /\
 (if k=true then tc σ H3 λw' H4=>r' y w' H4 Q else Q (.bl false) H3)
theorem Ea{op op':CmpOp}{r r':R2}(ho:OpR X (compareOp op) r)(ho':OpR X (compareOp op') r')(ha:PE X a ta)(hb:PE X b tb)(hc:PE X c tc)(hm:lastMarks [op,op'] [b,c]=false:=by with_unfolding_all rfl):PE X (.Compare a [op,op'] [b,c] pos) (Di r r' ta tb tc):=by
 intro pins s σ H Q I h
 refine Compare_chain (thn (ha pins s σ H _ I h) λv s1 ⟨x,H1,I1,r1,q1⟩=>chain_link (thn (hb pins s1 σ H1 _ I1 q1) λu s2 ⟨y,H2,I2,r2,q2⟩ =>
  thn (ho pins s2 σ H2 x y v u _ I2 r1 r2 q2) λd s3 ⟨z,H3,I3,r3,k,e,q3⟩=>?_)) hm
 subst e
 cases r3
 refine ŏ ?_
 cases k with
 |false=>exact ite_ff ⟨.bl false,H3,I3,rfl,q3⟩
 |true=>exact ite_tt (chain_last (thn (hc pins s3 σ H3 _ I3 q3) λw' s4 ⟨z',H4,I4,r4,q4⟩=>ho' pins s4 σ H4 y z' u w' Q I4 r2 r4 q4))
theorem uL:(sizeLine:Nat)<2 ^ 63:=by rw[í];decide
theorem vals1{x:V}{us:List Value}(r:Vals [x] us):∃u,us=[u]/\RelV x u:=by
 cases r with
 |cons r1 r2=>cases r2;exact⟨_,rfl,r1⟩
theorem vals2{x y:V}{us:List Value}(r:Vals [x,y] us):∃u w',us=[u,w']/\RelV x u/\RelV y w':=by
 cases r with
 |cons r1 r2 =>
  cases r2 with
  |cons r3 r4=>cases r4;exact⟨_,_,rfl,r1,r3⟩
theorem w6:bD X (.builtin "abs") (λxs H Q=>∃i,xs=[.int i]/\Q (.int (if i<0 then -i else i)) H):=by
 intro pins s σ H xs us Q I r h
 obtain⟨i,rfl,q⟩:=h
 obtain⟨u,rfl,t,rfl⟩:=vals1 r
 exact call_abs_int λu tk=>⟨.int (if i<0 then -i else i),H,I.tok _,⟨_,rfl⟩,q⟩
theorem Cr(hc:X.calm=true):bD X (.builtin "max") (λxs H Q=>∃i j,xs=[.int i,.int j]/\Q (.int (if j > i then j else i)) H):=by
 intro pins s σ H xs us Q I r h
 obtain⟨i,j,rfl,q⟩:=h
 obtain⟨u,w',rfl,⟨t,rfl⟩,⟨t',rfl⟩⟩:=vals2 r
 refine max_two_ints (I.ok.hd hc) λh' tk k=>⟨_,H,I.kept k,?_,q⟩
 by_cases hj:j > i
 ·rw[if_pos hj,if_pos hj];exact⟨_,rfl⟩
 ·rw[if_neg hj,if_neg hj];exact⟨_,rfl⟩
theorem Cq(hc:X.calm=true):bD X (.builtin "min") (λxs H Q=>∃i j,xs=[.int i,.int j]/\Q (.int (if j<i then j else i)) H):=by
 intro pins s σ H xs us Q I r h
 obtain⟨i,j,rfl,q⟩:=h
 obtain⟨u,w',rfl,⟨t,rfl⟩,⟨t',rfl⟩⟩:=vals2 r
 refine min_two_ints (I.ok.hd hc) λh' tk k=>⟨_,H,I.kept k,?_,q⟩
 by_cases hj:j<i
 ·rw[if_pos hj,if_pos hj];exact⟨_,rfl⟩
 ·rw[if_neg hj,if_neg hj];exact⟨_,rfl⟩
theorem Cu:bD X (.type "int") (λxs H Q=>(∃i,xs=[.int i]/\Q (.int i) H)\/∃k,xs=[.bl k]/\Q (.int (if k then 1 else 0)) H):=by
 intro pins s σ H xs us Q I r h
 rcases h with ⟨i,rfl,q⟩|⟨k,rfl,q⟩
 ·obtain⟨u,rfl,t,rfl⟩:=vals1 r
  exact call_int_int ⟨.int i,H,I,⟨_,rfl⟩,q⟩
 ·obtain⟨u,rfl,r1⟩:=vals1 r
  cases r1
  exact call_int_bool ⟨.int (if k then 1 else 0),H,I.tok _,⟨_,rfl⟩,q⟩
theorem u6:bD X (.type "str") (λxs H Q=>∃i,xs=[.int i]/\i.natAbs.log2<1920/\Q (.str (toString i)) H):=by
 intro pins s σ H xs us Q I r h
 obtain⟨i,rfl,hz,q⟩:=h
 obtain⟨u,rfl,t,rfl⟩:=vals1 r
 exact PySem.P.str_of_int hz ⟨.str _,H,I.tok _,⟨_,rfl⟩,q⟩
end
structure ObjM(h:Heap)(x dx C:Addr)(mA:Str->Option Value):Prop where
 obj:h.get? x=some (W.instObj C dx)
 ns:h.Ns1 dx mA
 ne:dx≠x
theorem BP{h:Heap}{dx:Addr}{mA:Str->Option Value}(n:h.Ns1 dx mA):∃od,h.get? dx=some od/\∀name,W.lookIn name od=some (mA name):=by
 obtain⟨o,es,ep,ho,hd,hk,_,hm⟩:=n
 refine⟨o,ho,λname=>?_⟩
 have e:=hm name
 unfold nsFind findBy at e
 rw[←Array.find?_toList] at e
 unfold W.lookIn
 rw[hd]
 dsimp only
 split
 ·rename_i y q
  rw[q] at e
  exact congrArg some e
 ·rename_i q
  rw[q] at e
  have a:es.toList.any (·.refKey)=false:=by
   rw[List.any_eq_false]
   intro y hy
   obtain⟨z,t,hkey⟩:=hk y (Array.mem_toList_iff.mp hy)
   simp[DictEntry.refKey,hkey]
  have a':¬es.toList.any (·.refKey)=true:=by rw[a];exact Æ
  rw[if_neg a']
  exact congrArg some e
theorem ObjM.look{h:Heap}{x dx C:Addr}{mA:Str->Option Value}(I:ObjM h x dx C mA):∃od,W.InstAt h x (W.instObj C dx) C (some od)/\∀name,W.lookIn name od=some (mA name) :=
 let ⟨od,ho,hl⟩:=BP I.ns
 ⟨od,⟨I.obj,rfl,rfl,ho⟩,hl⟩
section
variable {prog:Program}{w:World}{A:Around}{E:Value->Shared->Prop}{s:Shared}{K:Þ}{x dx C f:Addr}{mA:Str->Option Value}{name:Str}{v:Value}
end
section
variable {P:Program}{w:World}{H H':Hp}{h h':Heap}{a C dx:Addr}{fs fs':List (Str×V)}
theorem Ja(hok:HOk P w H h)(e:H a=some (.ins C dx fs)):∃mA,ObjM h a dx C mA/\(∀f,Np (fs.lookup f) (mA f))/\PySem.Within mA (fs.map (·.1))/\fs.length<=1000/\H dx=some (.own a):=by
 obtain⟨d,z,ne,ob,mA,n,r,q⟩:=(show bO P w H h a (.ins C dx fs) from hok a _ e)
 exact⟨mA,⟨ob,n,ne⟩,r,q,z,d⟩
end
structure Cls(K:Þ)(C:Addr):Prop where
 pg:W.plainGet K C Str.empty=true
 hd:W.hasDictIn K C=true
 po:W.plainOver K C=true
 sa:W.findIn K (.ref C) "__setattr__"=some (some (.builtin "object.__setattr__"))
theorem Cls.get{K:Þ}{C:Addr}(c:Cls K C)(f:Str):W.plainGet K C f=true:=c.pg
structure Con(K:Þ)(C:Addr)(f:Str)(v:V)(u:Value):Prop where
 at_:W.findIn K (.ref C) f=some (some u)
 rel:RelV v u
 get:W.specialIn K u "__get__"=some none
 cp:W.copiedNames.contains f=false
structure Meth(K:Þ)(C:Addr)(m:Str)(f:Addr):Prop where
 at_:W.findIn K (.ref C) m=some (some (.ref f))
 fn:W.isFn K (.ref f)=true
 kp:W.keepIn K (.ref f)=true
section
variable {X:Cx}{pins:List (Addr×Obj)}{σ:St}{H:Hp}{s:Shared}{a C dx:Addr}{fs:List (Str×V)}{f:Str}{v:V}{A:Around}{E:Value->Shared->Prop}
end
section
variable {X:Cx}{o e value:Expr}{f:Str}{pos pos' tpos:Pos}{ta tv:TE}
end
section
variable {X:Cx}{pins:List (Addr×Obj)}{σ:St}{H:Hp}{s:Shared}{A:Around}{E:Value->Shared->Prop}{Q:Value->Shared->Prop}{c:Value}{b:Bool}
inductive TyOf(K:Þ)(H:Hp):V->Value->Prop where
 |non:TyOf K H .non (.type "NoneType")
 |bl (x:Bool):TyOf K H (.bl x) (.type "bool")
 |int (i:Int):TyOf K H (.int i) (.type "int")
 |str (x:Str):TyOf K H (.str x) (.type "str")
 |flt (x:UInt64):TyOf K H (.flt x) (.type "float")
 |lst {a:Addr}{xs:List V} (e:H a=some (.lst xs)):TyOf K H (.ref a) (.type "list")
 |frz {a:Addr}{o:Obj}{xs:List V} (e:H a=some (.frz o (.lst xs))):TyOf K H (.ref a) (.type "list")
 |tup {a:Addr}{xs:List V} (e:H a=some (.tup xs)):TyOf K H (.ref a) (.type "tuple")
 |dK {a:Addr}{kvs:List (Key×V)} (e:H a=some (.dK kvs)):TyOf K H (.ref a) (.type "dict")
 |dT {a:Addr}{kvs:List (List Key×V)} (e:H a=some (.dT kvs)):TyOf K H (.ref a) (.type "dict")
 |ins {a C dx:Addr}{fs:List (Str×V)} (e:H a=some (.ins C dx fs)) (cl:Cls K C) (ha:W.findIn K (.ref C) "__class__"=some (some (.builtin "object.__class__")))
   (hn:W.specialIn K (.builtin "object.__class__") "__get__"=some (some (.builtin "getset_descriptor.__get__"))) (htk:W.takesIn K (.builtin "object.__class__")=some true)
   (hm:W.mroIn K C (.type "object")=some true):TyOf K H (.ref a) (.ref C)
theorem BX{x:V}{u t:Value}(I:Inv X pins σ H s)(rx:RelV x u)(ty:TyOf X.K H x t)(e:ŭ X.K t c=some b)(h:∀tk,Q (.bool b) { s with toks:=tk }) :
  wpAny (model X.prog X.w) A (call (.builtin "isinstance") [u,c]) Q E s:=by
 cases ty with
 |non=>cases (show u=ò from rx);exact ų W.kitx_none I.kIn True.intro e (λz=>nomatch z) h
 |bl y=>cases (show u=Value.bool y from rx);exact ų W.kitx_bool I.kIn True.intro e (λz=>nomatch z) h
 |int i=>obtain⟨t,q⟩:=(show ∃t,u=Value.int i t from rx);cases q;exact ų W.kitx_int I.kIn True.intro e (λz=>nomatch z) h
 |str y=>obtain⟨t,q⟩:=(show ∃t,u=Value.str y t from rx);cases q;exact ų W.kitx_str I.kIn True.intro e (λz=>nomatch z) h
 |flt y=>obtain⟨t,q⟩:=(show ∃t,u=Value.float y t from rx);cases q;exact ų W.kitx_float I.kIn True.intro e (λz=>nomatch z) h
 |@lst a xs ea =>
  cases (show u=ń a from rx)
  obtain⟨_,_,n,_,h1⟩:=(show bO X.prog X.w H s.heap a (.lst xs) from I.hok a _ ea)
  exact ų W.kitx_list I.kIn ⟨_,h1,rfl⟩ e (λz=>nomatch z) h
 |@frz a ob xs ea =>
  cases (show u=ń a from rx)
  obtain⟨_,_,_,n,_,h1⟩:=(show bO X.prog X.w H s.heap a (.frz ob (.lst xs)) from I.hok a _ ea)
  exact ų W.kitx_list I.kIn ⟨_,h1,rfl⟩ e (λz=>nomatch z) h
 |@tup a xs ea =>
  cases (show u=ń a from rx)
  obtain⟨_,_,_,p⟩:=(show bO X.prog X.w H s.heap a (.tup xs) from I.hok a _ ea)
  obtain⟨o,h1,h2,_⟩:=p
  exact ų W.kitx_tuple I.kIn ⟨o,h1,h2⟩ e (λz=>nomatch z) h
 |@dK a kvs ea =>
  cases (show u=ń a from rx)
  obtain⟨_,_,vs,_,p⟩:=(show bO X.prog X.w H s.heap a (.dK kvs) from I.hok a _ ea)
  obtain⟨o,es,ep,h1,h2,_⟩:=p
  exact ų W.kitx_dict I.kIn ⟨o,h1,h2.1⟩ e (λz=>nomatch z) h
 |@dT a kvs ea =>
  cases (show u=ń a from rx)
  obtain⟨_,_,xs,_,o,es,ep,h1,h2,_⟩:=(show bO X.prog X.w H s.heap a (.dT kvs) from I.hok a _ ea)
  exact ų W.kitx_dict I.kIn ⟨o,h1,h2.1⟩ e (λz=>nomatch z) h
 |@ins a C dx fs ea cl ha hn htk hm =>
  cases (show u=ń a from rx)
  obtain⟨mA,O,_⟩:=Ja I.hok ea
  obtain⟨od,J,_⟩:=O.look
  exact ų (W.kitx_own (cl.get _) cl.hd ha hn htk hm) I.kIn J e (λz=>nomatch z) h
end
structure Room(k:Nat)(A:Around):Prop where
 hd:A.handled=none
 dp:A.depth+3 * k+5<recursionLimit
 un:A.units+16 * k+200<cLine
 gd:A.guards=some []
theorem Room.mono{j k:Nat}{A:Around}(r:Room k A)(h:j<=k):Room j A:=⟨r.hd,by have:=r.dp;omega,by have:=r.un;omega,r.gd⟩
theorem Room.deeper{k:Nat}{A:Around}(r:Room (k+1) A)(env:Env):Room k (A.deeper env) :=
 ⟨r.hd,by have:=r.dp;show A.depth+1+3 * k+5<_;omega,by have:=r.un;show A.units+3+16 * k+200<_;omega,r.gd⟩
theorem Room.depth{k:Nat}{A:Around}(r:Room k A):A.depth<recursionLimit:=by have:=r.dp;omega
theorem Room.units{k:Nat}{A:Around}(r:Room k A):A.units+64<cLine:=by have:=r.un;omega
def QC:TA:=λ_ H Q=>Q [] H
def Jw(ta:TE)(tr:TA):TA:=λσ H Q=>ta σ H λx H1=>tr σ H1 λxs H2=>Q (x::xs) H2
section
variable {X:Cx}{e:Expr}{es:List Expr}{te:TE}{t:TA}{pos:Pos}
theorem cB:PA X [] QC:=λ_ _ _ _ H Q I h=>Calls.spliced_nil ⟨[],H,I,.nil,h⟩
theorem eX(ha:PE X e te)(hr:PA X es t)(hs:starEach (e::es) X.env=(false,eval e X.env)::starEach es X.env:=by rfl):PA X (e::es) (Jw te t):=by
 intro pos pins s σ H Q I h
 rw[hs]
 show wpAny _ _ (spliced ((false,eval e X.env)::backTo pos (starEach es X.env))) _ _ s
 refine Calls.spliced_cons (thn (ha pins s σ H _ I h) λu s1 ⟨x,H1,I1,r1,q1⟩=>?_)
 exact thn (hr pos pins s1 σ H1 _ I1 q1) λus s2 ⟨xs,H2,I2,r2,q2⟩=>⟨x::xs,H2,I2,.cons r1 r2,q2⟩
def Qw(t:TA):TE:=λσ H Q=>t σ H λxs H1=>xs.length<=sizeLine/\∀p,H1 p=none->Q (.ref p) (upd H1 p (.tup xs))
def Ob(t:TA):TE:=λσ H Q=>t σ H λxs H1=>xs.length<=sizeLine/\∀p,H1 p=none->Q (.ref p) (upd H1 p (.lst xs))
theorem K1{x1}(h:PA X es t):PE X (.Tuple es x1 pos) (Qw t):=by
 intro pins s σ H Q I hq
 refine wpAny_Tuple_spliced (thn (h pos pins s σ H _ I hq) λus s1 ⟨xs,H1,I1,r,z,q⟩=>⟨by rw[←r.length];exact z,?_⟩)
 have hf:H1 s1.heap.objs.size=none:=I1.hok.fresh (Ë _)
 refine⟨.ref s1.heap.objs.size,upd H1 s1.heap.objs.size (.tup xs),I1.laid (t':=s1.toks) (λb u e=>Ö _ e) (Ë _) ?_,rfl,q _ hf⟩
 exact⟨z,us,r,⟨_,ç _ rfl,rfl,_,rfl⟩⟩
theorem ug(h:PA X es t):PE X (.List es pos) (Ob t):=by
 intro pins s σ H Q I hq
 refine wpAny_List_spliced (thn (h pos pins s σ H _ I hq) λus s1 ⟨xs,H1,I1,r,z,q⟩=>⟨by rw[←r.length];exact z,?_⟩)
 have hf:H1 s1.heap.objs.size=none:=I1.hok.fresh (Ë _)
 refine⟨.ref s1.heap.objs.size,upd H1 s1.heap.objs.size (.lst xs),I1.laid (t':=s1.toks) (λb u e=>Ö _ e) (Ë _) ?_,rfl,q _ hf⟩
 exact⟨z,us,0,r,ç _ rfl⟩
end
abbrev Sp:=List V->Hp->VK->XK->Prop
abbrev CXT:=List Env->Hp->Shared->XK->Value->Shared->Prop
structure Env0(P:Program)(w:World)(K:Þ)(mg:Str->Option Value)(base:Heap)(A:Around)(outer:List Env)(s:Shared)(H:Hp):Prop where
 frames:A.frames=some outer
 mod:Mod K mg base
 bs:∀b o,base.get? b=some o->s.heap.get? b=some o/\H b=none
 bsz:base.objs.size<=s.heap.objs.size
 qI:s.heap.FunFrames base outer
 frf:∀b∈frs outer,H b=none
 hok:HOk P w H s.heap
 bare:AllBare s.gens
def CE(outer:List Env)(P:Program)(w:World)(H:Hp)(s:Shared)(Q:VK)(u:Value)(s':Shared):Prop :=
 ∃v H',s'.os=s.os/\AllBare s'.gens/\Un (frs outer) [] H H' s.heap s'.heap/\HOk P w H' s'.heap/\RelV v u/\Q v H'
def CR(CX:CXT)(outer:List Env)(P:Program)(w:World)(H:Hp)(s:Shared)(Q:VK)(E:XK)(r:Result)(s':Shared):Prop :=
 match r with
 |.ok (.ret u)=>CE outer P w H s Q u s'
 |.ok _=>False
 |.error e=>CX outer H s E e s'
structure FnOk(P:Program)(w:World)(K:Þ)(mg:Str->Option Value)(base:Heap)(CX:CXT)(k:Nat)(f:Addr)(fd:FuncData)(ps:List Str)(sp:Sp):Prop where
 len:∀vs H Q E,sp vs H Q E->vs.length=ps.length
 run:∀(A:Around) (outer:List Env) (s:Shared) (H:Hp) (args:Args) (us:List Value) (vs:List V) (Q:VK) (E:XK),Room k A->Env0 P w K mg base A outer s H->BindsTo s fd args (ps.zip us)->Vals vs us->sp vs H Q E ->
  codeAny (model P w) A (.call (.ref f) args) (CR CX outer P w H s Q E) s
section
variable {X:Cx}{pins:List (Addr×Obj)}{σ:St}{H:Hp}{s s':Shared}
theorem Inv.env0(I:Inv X pins σ H s):Env0 X.prog X.w X.K X.mg X.base X.A X.stack s H :=
 ⟨I.ok.frames,I.ok.mod,I.bs,ĉ I.ok.bsz I.sz,I.stack,I.zE,I.hok,I.bare⟩
theorem Inv.after{Q:VK}{u:Value}(I:Inv X pins σ H s)(h:CE X.stack X.prog X.w H s Q u s'):EP X pins σ Q u s':=by
 obtain⟨v,H',os,bare,un,hok,r,q⟩:=h
 obtain⟨hh,g,d,t,os'⟩:=s'
 obtain rfl:os'=s.os:=os
 exact⟨v,H',I.call (h':=hh) (g':=g) (d':=d) (t':=t) (ch:=[]) un hok bare (λb z=>absurd z (by simp)),r,q⟩
end
def zy(sp:Sp)(dvs:List V)(E:XK)(t:TA):TE:=λσ H Q=>t σ H λvs H1=>sp (vs++dvs) H1 Q E
def Binds(K:Þ)(fd:FuncData)(ps:List Str)(ds:List Value):Prop :=
 ∀(s:Shared) (us:List Value),K.In s.heap->(us++ds).length=ps.length->BindsTo s fd ⟨us,[]⟩ (ps.zip (us++ds))
theorem Binds.all{K:Þ}{fd:FuncData}{ps:List Str}(h:∀us:List Value,us.length=ps.length->bindArgs fd ⟨us,[]⟩=pure (ps.zip us)):Binds K fd ps []:=λs us _ hl=>by
 rw[ć] at hl ⊢
 exact .of_eq (h us hl)
def Passes(CX:CXT)(X:Cx)(E:XK):Prop:=∀(pins:List (Addr×Obj)) (σ:St) (H:Hp) (s:Shared) (e:Value) (s':Shared),Inv X pins σ H s->CX X.stack H s E e s'->X.xe e s'
section
variable {X:Cx}{CX:CXT}{k:Nat}{f C:Addr}{fd:FuncData}{ps:List Str}{sp:Sp}{dvs:List V}{ds:List Value}{E:XK}{x m:Str}{p pos apos:Pos}{e o:Expr}{es:List Expr}{ta:TE}{t:TA}
theorem Kr{pins:List (Addr×Obj)}{σ:St}{H:Hp}{s:Shared}{Q:VK}{us:List Value}{vs:List V}(F:FnOk X.prog X.w X.K X.mg X.base CX k f fd ps sp)(hr:Room k X.A)(hb:Binds X.K fd ps ds)(hd:Vals dvs ds)(hx:Passes CX X E)(I:Inv X pins σ H s)(r:Vals vs us)(h:sp (vs++dvs) H Q E):wpAny (model X.prog X.w) X.A (call (.ref f) us) (EP X pins σ Q) X.xe s:=by
 have r2:Vals (vs++dvs) (us++ds):=r.append hd
 have hl:(us++ds).length=ps.length:=by rw[←r2.length];exact F.len _ _ _ _ h
 refine wpAny_call (codeAny_mono (F.run X.A X.stack s H ⟨us,[]⟩ (us++ds) (vs++dvs) Q E hr I.env0 (hb s us I.kIn hl) r2 h) λr s' hq=>?_)
 cases r with
 |error e=>exact hx pins σ H s e s' I hq
 |ok fl =>
  cases fl with
  |ret u=>exact I.after hq
  |next=>exact Ŝ hq
  |brk=>exact Ŝ hq
  |cont=>exact Ŝ hq
theorem Hy(F:FnOk X.prog X.w X.K X.mg X.base CX k f fd ps sp)(hr:Room k X.A)(hg:Gl X x)(hm:X.mg x=some (.ref f))(hk:W.keepIn X.K (.ref f)=true)(hb:Binds X.K fd ps ds)(hd:Vals dvs ds)(hx:Passes CX X E)(ha:PA X (e::es) t)(hdb:(x == ("__debug__":Str))=false:=by decide)(he:starEach (e::es) X.env=(false,eval e X.env)::starEach es X.env:=by rfl)(hpl:(backTo pos (starEach es X.env)).any (·.1)=false:=by rfl) :
  PE X (.Call (.Name x p) (e::es) [] pos) (zy sp dvs E t):=by
 intro pins s σ H Q I h
 refine wpAny_Call_Name_kw (Io I hg hm ?_ hdb)
 refine W.callWith_K (h₀:=X.base) I.ok.mod.kin hk (thn (ha pos pins s σ H _ I h) λus s1 ⟨vs,H1,I1,r,q⟩=>⟨I1.kIn,?_⟩) he hpl
 exact Kr F hr hb hd hx I1 r q
structure Mk(K:Þ)(C f:Addr):Prop where
 makes:W.makesIn K C=true
 init:W.findIn K (.ref C) "__init__"=some (some (.ref f))
 fn:W.isFn K (.ref f)=true
 kp:W.keepIn K (.ref C)=true
end
section
variable {X:Cx}{CX:CXT}{k:Nat}{f C:Addr}{fd:FuncData}{ps ks:List Str}{sp:Sp}{E:XK}{x m:Str}{p pos apos kpos:Pos}{e o:Expr}{es:List Expr}{kws:List Keyword}{te ta:TE}{t tk:TA}{nm:Option Str}
structure KBinds(K:Þ)(fd:FuncData)(ps ks:List Str)(g:List Value->List Value->List Value)(gV:List V->List V->List V):Prop where
 to:∀(s:Shared) (us ws:List Value),K.In s.heap->(g us ws).length=ps.length->BindsTo s fd ⟨us,ks.zip ws⟩ (ps.zip (g us ws))
 rel:∀{vs:List V}{us:List Value}{zs:List V}{ws:List Value},Vals vs us->Vals zs ws->Vals (gV vs zs) (g us ws)
variable {g:List Value->List Value->List Value}{gV:List V->List V->List V}
end
structure FnScope(N P:List Str)(sc:Scope):Prop where
 kind:sc.kind=.function
 co:sc.isCoroutine=false
 gen:sc.isGenerator=false
 nd:N.Nodup
 pre:N.take P.length=P
 par:∀x∈P,sc.names.lookup x=some .local\/sc.names.lookup x=some .cell
 nofree:∀y∈sc.names,y.2≠.free
theorem zC{N P:List Str}{sc:Scope}(a:sc.kind=.function:=by rfl)(b:sc.isCoroutine=false:=by rfl)(c:sc.isGenerator=false:=by rfl)(d:N.Nodup:=by decide +kernel)(e:N.take P.length=P:=by rfl)(f:∀x∈P,sc.names.lookup x=some .local\/sc.names.lookup x=some .cell:=by decide +kernel)(g:∀y∈sc.names,y.2≠.free:=by decide +kernel):FnScope N P sc:=⟨a,b,c,d,e,f,g⟩
theorem sZ{kindOf:Str->Option NameKind}{x:Str}:∀{binds:List (Str×Value)}{m:Str->Option Value},(∀v,(x,v)∉binds)->bindL kindOf binds m x=m x
 |[],_,_=>rfl
 |(n,v)::r,m,h=>by
  unfold bindL
  rw[sZ λw hw=>h w (Î _ hw)]
  split
  ·have:x≠n:=by rintro rfl;exact h v Í
   simp[this]
  ·rfl
theorem tD{kindOf:Str->Option NameKind}{x:Str}:∀{binds:List (Str×Value)}{m:Str->Option Value},(∀v,(x,v)∉binds)->bindC kindOf binds m x=m x
 |[],_,_=>rfl
 |(n,v)::r,m,h=>by
  unfold bindC
  rw[tD λw hw=>h w (Î _ hw)]
  split
  ·rfl
  ·have:x≠n:=by rintro rfl;exact h v Í
   simp[this]
theorem tu{kindOf:Str->Option NameKind}{x:Str}{v:Value}:∀{P:List Str}{vs:List Value}{i:Nat}{m:Str->Option Value},P.Nodup->P[i]?=some x->vs[i]?=some v->kindOf x=some .local ->
  bindL kindOf (P.zip vs) m x=some v
 |[],_,_,_,_,h,_,_=>by simp at h
 |_::_,[],_,_,_,_,h,_=>by simp at h
 |p::P,w::vs,0,m,nd,h1,h2,hk=>by
  simp at h1 h2;subst h1;subst h2
  show bindL kindOf ((p,w)::P.zip vs) m p=_
  unfold bindL
  rw[sZ λv hv=>(ŷ.mp nd).1 (List.of_mem_zip hv).1,if_pos hk]
  simp
 |p::P,w::vs,i+1,m,nd,h1,h2,hk=>by
  show bindL kindOf ((p,w)::P.zip vs) m x=_
  unfold bindL
  exact tu (i:=i) (ŷ.mp nd).2 (by simpa using h1) (by simpa using h2) hk
theorem tE{kindOf:Str->Option NameKind}{x:Str}{v:Value}:∀{P:List Str}{vs:List Value}{i:Nat}{m:Str->Option Value},P.Nodup->P[i]?=some x->vs[i]?=some v->kindOf x≠some .local ->
  bindC kindOf (P.zip vs) m x=some v
 |[],_,_,_,_,h,_,_=>by simp at h
 |_::_,[],_,_,_,_,h,_=>by simp at h
 |p::P,w::vs,0,m,nd,h1,h2,hk=>by
  simp at h1 h2;subst h1;subst h2
  show bindC kindOf ((p,w)::P.zip vs) m p=_
  unfold bindC
  rw[tD λv hv=>(ŷ.mp nd).1 (List.of_mem_zip hv).1,if_neg hk]
  simp
 |p::P,w::vs,i+1,m,nd,h1,h2,hk=>by
  show bindC kindOf ((p,w)::P.zip vs) m x=_
  unfold bindC
  exact tE (i:=i) (ŷ.mp nd).2 (by simpa using h1) (by simpa using h2) hk
def start(N:List Str)(vs:List V):St:=vs.map some++Ì (N.length - vs.length) none
def Cg(CX:CXT)(P:Program)(w:World)(K:Þ)(mg:Str->Option Value)(base:Heap)(N:List Str)(qual:Str)(scope:Scope)(f:Addr)(cd:Value)(A:Around)(outer:List Env)(s:Shared)(H:Hp)(E:XK):Cx where
 prog:=P
 w:=w
 K:=K
 mg:=mg
 base:=base
 A:=A.deeper (envOfC qual scope s.heap.objs.size f cd)
 N:=N
 s₀:=s
 H₀:=H
 env:=envOfC qual scope s.heap.objs.size f cd
 outer:=outer
 stack:=envOfC qual scope s.heap.objs.size f cd::outer
 ex:=[]
 calm:=true
 fn:=λ_=>true
 pn:=[]
 xe:=λe s'=>wpAny (model P w) (A.deeper (envOfC qual scope s.heap.objs.size f cd)) (leaving (envOfC qual scope s.heap.objs.size f cd) e) (λ_ s''=>CX outer H s E e s'') (λe' s''=>CX outer H s E e' s'') s'
theorem wZ{sc:Scope}{n:Nat}{x:Str}(h:sc.names.lookup x=some .cell):∃c,(cellsFrom n sc.names []).lookup x=some c:=by
 have q:=W.cellsFrom_some sc.names n [] (.inl h)
 exact ů.mp q
theorem BZ{CX:CXT}{P:Program}{w:World}{K:Þ}{mg:Str->Option Value}{base:Heap}{N ps:List Str}{qual:Str}{scope:Scope}{f:Addr}{cd:Value}{A:Around}{outer:List Env}{s s1:Shared}{H:Hp}{E:XK}{us:List Value}{vs:List V}(S:FnScope N ps scope)(hd:A.handled=none)(e0:Env0 P w K mg base A outer s H)(hl:vs.length=ps.length)(r:Vals vs us)(x:InCallC s s.heap.objs.size (bindL (envOfC qual scope s.heap.objs.size f cd).kindOf (ps.zip us) λ_=>none) (cellsFrom (s.heap.objs.size+1) scope.names []) (bindC (envOfC qual scope s.heap.objs.size f cd).kindOf (ps.zip us) λ_=>none) s1) :
  Inv (Cg CX P w K mg base N qual scope f cd A outer s H E) [] (start N vs) H s1:=by
 have hpl:ps.length<=N.length:=by have:=congrArg List.length S.pre;rw[ğ] at this;omega
 obtain⟨h1,tk,rfl,hk⟩:=x.done
 have noA:∀b:Addr,b∉(Cg CX P w K mg base N qual scope f cd A outer s H E).ex:=λb z=>absurd (show b∈([]:List Addr) from z) (by simp)
 refine⟨⟨e0.mod,S.kind,rfl,rfl,Ë _,λy z c h1 h2=>?_,λy hy=>?_,λy c _ h=>?_,λ_=>hd,Around.frames_deeper e0.frames,.inr ⟨rfl,rfl⟩,λb z=>absurd z (noA b),e0.bs,e0.bsz,λb _ _=>noA b,λb z=>absurd z (noA b),e0.qI,e0.frf,λq z=>nomatch (show q∈([]:List (Addr×Obj×HO)) from z)⟩,
  rfl,e0.bare,Un.kept hk,⟨_,x.toInCall.ns,λi y v h1 h2 h3=>?_⟩,λy c h=>⟨_,x.cell y c h⟩,e0.hok.fresh (Ë _),λy c h=>?_,λp hp=>absurd (show p∈([]:List (Addr×Obj)) from hp) (by simp),e0.hok.kept hk,?_⟩
 ·exact name_of_addr x.apart (Ĺ h1) (Ĺ h2)
 ·have hy:scope.names.lookup y=some .cell\/scope.names.lookup y=some .free:=hy
  rcases hy with hy|hy
  ·exact wZ hy
  ·exact absurd rfl (S.nofree _ (Ĺ hy))
 ·exact Nat.le_of_lt (x.above y c (Ĺ h))
 ·have hi:i<vs.length:=by
   unfold start at h2
   by_cases hi:i<vs.length
   ·exact hi
   ·rw[ù (by simpa using hi)] at h2
    rw[Ŕ] at h2
    split at h2 <;> cases h2
  have ha:vs[i]?=some v:=by
   unfold start at h2
   rw[Ć (by simpa using hi),æ] at h2
   cases e:vs[i]? with
   |none=>rw[e] at h2;cases h2
   |some a=>rw[e] at h2;cases h2;rfl
  obtain⟨u,hu,rv⟩:=r.get ha
  have hp:ps[i]?=some y:=by
   rw[←S.pre,List.getElem?_take_of_lt (by omega)];exact h1
  have ndP:ps.Nodup:=by rw[←S.pre];exact S.nd.sublist (List.take_sublist _ _)
  refine⟨u,rv,?_⟩
  rcases S.par y (Ò hp) with k|k
  ·exact .inl ⟨k,tu ndP hp hu k⟩
  ·obtain⟨c,e⟩:=wZ (n:=s.heap.objs.size+1) k
   refine .inr ⟨.inl k,c,e,?_⟩
   have q:=x.cell y c e
   rw[tE ndP hp hu (by show scope.names.lookup y≠_;rw[k];decide)] at q
   exact q
 ·exact e0.hok.fresh (Nat.le_of_lt (x.above y c (Ĺ h)))
 ·unfold start
  show _=N.length
  rw[Å,Á,List.length_replicate]
  omega
theorem Qc{CX:CXT}{P:Program}{w:World}{K:Þ}{mg:Str->Option Value}{base:Heap}{k:Nat}{f:Addr}{name qual:Str}{params:Arguments}{body:List Stmt}{scope:Scope}{dV kV doc pm cdv ct oc:Value}{an od:Option Addr}{osl:Array (Option Value)}{N ps:List Str}{sp:Sp}(lk:K.lookup f=some ⟨oc,od,.func (W.fnOf name qual params body scope dV kV doc pm an cdv ct),osl⟩)(hcd:W.codeIn K cdv qual=true)(S:FnScope N ps scope)(len:∀vs H Q E,sp vs H Q E->vs.length=ps.length)(hbody:∀(A:Around) (outer:List Env) (s:Shared) (H:Hp) (vs:List V) (Q:VK) (E:XK),Room k (A.deeper (envOfC qual scope s.heap.objs.size f cdv))->sp vs H Q E ->
   ∃t,PSs (Cg CX P w K mg base N qual scope f cdv A outer s H E) body t/\t { nx:=λ_ H'=>Q .non H',rt:=Q } (start N vs) H) :
  FnOk P w K mg base CX (k+1) f (W.fnOf name qual params body scope dV kV doc pm an cdv ct) ps sp:=by
 refine⟨len,λA outer s H args us vs Q E hr e0 hb r hsp=>?_⟩
 have hl:=len _ _ _ _ hsp
 have KX:K.In s.heap:=e0.mod.kin.keeps λb o e=>(e0.bs b o e).1
 have lim:s.heap.NoLimit:=e0.mod.nolimit.keeps λb o e=>(e0.bs b o e).1
 have hkind:∀y∈ps.zip us,scope.names.lookup y.1=some .local\/(scope.names.lookup y.1=some .cell/\((cellsFrom (s.heap.objs.size+1) scope.names []).lookup y.1).isSome=true):=λ⟨n,v⟩ hy=>by
  rcases S.par n (List.of_mem_zip hy).1 with q|q
  ·exact .inl q
  ·exact .inr ⟨q,W.cellsFrom_some _ _ _ (.inl q)⟩
 refine codeAny_call_function hr.depth (KX _ _ lk) rfl S.co S.gen rfl (W.codeRec_of KX hcd) (hb _ _ _ _ ?_)
 refine wpAny_newFunctionEnv_cells S.kind hkind λenv he s1 x=>?_
 subst he
 refine⟨lim.keeps x.toInCall.keep,codeAny_func ?_⟩
 obtain⟨t,ht,hq⟩:=hbody A outer s H vs Q E (hr.deeper _) hsp
 have I:Inv (Cg CX P w K mg base N qual scope f cdv A outer s H E) [] (start N vs) H s1:=BZ S hr.hd e0 hl r x
 refine Ŗ (ht [] s1 (start N vs) H _ I hq) (λfl s' hs=>?_) λe s' hs=>hs
 have fin:∀{σ':St}{H':Hp}{v:V}{u:Value},Inv (Cg CX P w K mg base N qual scope f cdv A outer s H E) [] σ' H' s'->RelV v u->Q v H'->CE outer P w H s Q u s' :=
  λ{σ' H' v u} J rv q=>⟨v,H',J.os,J.bare,J.base,J.hok,rv,q⟩
 cases fl with
 |ret u =>
  obtain⟨v,σ',H',J,rv,q⟩:=hs
  exact fin J rv q
 |next =>
  obtain⟨σ',H',J,q⟩:=hs
  exact fin (v:=V.non) (u:=ò) J rfl q
 |brk =>
  obtain⟨_,_,_,q⟩:=hs
  exact Ŝ q
 |cont =>
  obtain⟨_,_,_,q⟩:=hs
  exact Ŝ q
section
variable {X:Cx}{x:Str}{p pos:Pos}{e:Expr}{es:List Expr}{t:TA}{id T:String}{r:List V->Hp->VK->Prop}
def tCB(r:List V->Hp->VK->Prop)(t:TA):TE:=λσ H Q=>t σ H λvs H1=>r vs H1 Q
theorem cN(hc:bD X (.builtin id) r)(hg:Gl X x)(hm:X.mg x=none)(hv:bootBuiltins x=some (.builtin id))(ha:PA X (e::es) t)(hn:x≠"__name__":=by decide)(hdb:(x == ("__debug__":Str))=false:=by decide)(he:starEach (e::es) X.env=(false,eval e X.env)::starEach es X.env:=by rfl)(hpl:(backTo pos (starEach es X.env)).any (·.1)=false:=by rfl):PE X (.Call (.Name x p) (e::es) [] pos) (tCB r t):=by
 intro pins s σ H Q I h
 refine wpAny_Call_Name_kw (nA I hg hm hv ?_ hn hdb)
 exact PyProof.Rows.callWith_builtin1 (thn (ha pos pins s σ H _ I h) λus s1 ⟨vs,H1,I1,r1,q1⟩=>hc pins s1 σ H1 vs us Q I1 r1 q1) he hpl
theorem jj(hc:bD X (.type T) r)(hg:Gl X x)(hm:X.mg x=none)(hv:bootBuiltins x=some (.type T))(ha:PA X (e::es) t)(hn:x≠"__name__":=by decide)(hdb:(x == ("__debug__":Str))=false:=by decide)(he:starEach (e::es) X.env=(false,eval e X.env)::starEach es X.env:=by rfl)(hpl:(backTo pos (starEach es X.env)).any (·.1)=false:=by rfl):PE X (.Call (.Name x p) (e::es) [] pos) (tCB r t):=by
 intro pins s σ H Q I h
 refine wpAny_Call_Name_kw (nA I hg hm hv ?_ hn hdb)
 exact ř (thn (ha pos pins s σ H _ I h) λus s1 ⟨vs,H1,I1,r1,q1⟩=>hc pins s1 σ H1 vs us Q I1 r1 q1) he hpl
end
end L2
namespace HT
open PySem PyProof.Rows
section
open PySem.SeqAt
open PySem.AutoSeq1 (wpAny_loadPart')
open PySem.MeetsSeq PySem.MeetsSeq2 PySem.MeetsSeq3
end
section
variable {prog:Program}{w:World}{A:Around}{E:Value->Shared->Prop}{s:Shared}
theorem Jr{t b:Addr}{vs ws:List Value}{Q:Value->Shared->Prop}(ht:IsTup s.heap t vs.toArray)(hb:IsTup s.heap b ws.toArray)(hv:vs≠[])(h1:ws=[]->Q (.ref t) s)(h2:ws≠[]->Q (.ref s.heap.objs.size) { s with heap:=s.heap.push { cls:=.type "tuple",data:=.seq (vs++ws).toArray } })(hsz:vs.length+ws.length<=sizeLine):wpAny (model prog w) A (binaryOp .Add (.ref t) (.ref b)) Q E s:=by
 obtain⟨⟨cls,dd,data,sl⟩,ho,hc,n,hd⟩:=id ht
 obtain⟨⟨cls2,dd2,data2,sl2⟩,ho2,hc2,n2,hd2⟩:=id hb
 simp only at hc hd hc2 hd2
 subst hc hd hc2 hd2
 have e:vs.toArray++ws.toArray=(vs++ws).toArray:=by simp
 by_cases hw:ws=[]
 ·exact concat_meets ⟨_,ho,rfl⟩ ⟨_,ho2,rfl⟩ noFill_tuple_add seq_tuple_add PySem.F.slot_tuple_add PySem.F.entry_tuple_add (PySem.F.args_tuple_add_2 _ _)
   (tuple_addW1 t b vs.toArray ws.toArray n n2 dd dd2 sl sl2 (by simpa using hv) (by simp[hw])) ⟨ho,ho2,h1 hw⟩
 ·refine concat_meets ⟨_,ho,rfl⟩ ⟨_,ho2,rfl⟩ noFill_tuple_add seq_tuple_add PySem.F.slot_tuple_add PySem.F.entry_tuple_add (PySem.F.args_tuple_add_2 _ _)
   (tuple_addW2 t b vs.toArray ws.toArray n n2 dd dd2 sl sl2 (by simpa using hv) (by simpa using hw) (by rw[Ï,Ï];exact hsz)) ⟨ho,ho2,?_⟩
  rw[e]
  exact h2 hw
def sIx(n d:Nat):Option Int->Nat
 |none=>d
 |some v=>if v<0 then (v+(n:Int)).toNat else min v.toNat n
theorem oO(n d k:Nat):sIx n d (some (k:Int))=min k n:=by
 show(if (k:Int)<0 then ((k:Int)+(n:Int)).toNat else min (k:Int).toNat n)=min k n
 rw[if_neg (by omega),Ě]
theorem Kq(n d:Nat)(hd:d<=n)(o:Option Int):sIx n d o<=n:=by
 cases o with
 |none=>exact hd
 |some v =>
  show(if v<0 then (v+(n:Int)).toNat else min v.toNat n)<=n
  by_cases hv:v<0
  ·rw[if_pos hv];omega
  ·rw[if_neg hv];exact Nat.min_le_right _ _
theorem Az(v:Int)(n d:Nat):(if v<0 then max (v+(n:Int)) 0 else min v (n:Int))=((sIx n d (some v):Nat):Int):=by
 show(if v<0 then max (v+(n:Int)) 0 else min v (n:Int))=(((if v<0 then (v+(n:Int)).toNat else min v.toNat n):Nat):Int)
 by_cases hv:v<0
 ·simp only[if_pos hv];omega
 ·simp only[if_neg hv];omega
theorem zj(lo hi:Option Int)(n:Nat):Builtin.Slice.sliceAdjust lo hi 1 (n:Int)=(((sIx n 0 lo:Nat):Int),((sIx n n hi:Nat):Int)):=by
 have h1:¬((1:Int)<0):=by omega
 unfold Builtin.Slice.sliceAdjust
 simp only[h1,if_false]
 refine Prod.ext ?_ ?_
 ·cases lo with
  |none=>rfl
  |some v=>exact Az v n 0
 ·cases hi with
  |none=>rfl
  |some v=>exact Az v n n
theorem xV(i j:Nat):Ş (i:Int) (j:Int) 1=j - i:=by
 unfold Ş
 have h1:(1:Int) > 0:=by omega
 simp only[h1,if_true,Int.ediv_one]
 split <;> omega
theorem pQ{v:Value}{o:Option Int}{Q:Option Int->Shared->Prop}(p:IsPart v o)(h:Q o s):wpAny (model prog w) A (Builtin.Slice.slicePartIndex v) Q E s:=by
 cases p with
 |none=>exact slicePart_none h
 |int i t=>exact slicePart_int h
theorem mL{sl:Addr}{vl vu:Value}{lo hi:Option Int}{n:Nat}{Q:Int×Int×Nat->Shared->Prop}(hs:s.heap.IsSliceOf sl vl vu .none)(pl:IsPart vl lo)(pu:IsPart vu hi)(h:Q (((sIx n 0 lo:Nat):Int),1,sIx n n hi - sIx n 0 lo) s):wpAny (model prog w) A (Builtin.Slice.sliceApplied (.ref sl) (pure (n:Int))) Q E s:=by
 obtain⟨os,hos,hcs,hds⟩:=id hs
 unfold Builtin.Slice.sliceApplied Builtin.Slice.sliceFields
 refine Ä (Ä (wpAny_field hos hds (x:=vl) rfl (Ä (wpAny_field hos hds (x:=vu) rfl (Ä (wpAny_field hos hds (x:=.none) rfl (Ø ?_)))))))
 refine Ä (slicePart_none ?_)
 show wpAny _ _ (if ((1:Int) == 0)=true then _ else _) _ _ s
 rw[if_neg (by decide)]
 refine Ä (pQ pl (Ä (pQ pu (Ä (Ø ?_)))))
 show wpAny _ _ (match Builtin.Slice.sliceAdjust lo hi 1 (n:Int) with|(lo,hi)=>pure (lo,(1:Int),Ş lo hi 1)) _ _ s
 rw[zj lo hi n]
 show wpAny _ _ (pure (((sIx n 0 lo:Nat):Int),(1:Int),Ş ((sIx n 0 lo:Nat):Int) ((sIx n n hi:Nat):Int) 1)) _ _ s
 rw[xV]
 exact Ø h
theorem DN(xs:Array Value)(i k:Nat):((è k).filterMap λ(m:Nat)=>xs[((i:Int)+(m:Int) * 1).toNat]?).toArray=((xs.toList.drop i).take k).toArray:=by
 have e:(λ(m:Nat)=>xs[((i:Int)+(m:Int) * 1).toNat]?)=λm=>xs[i+m]?:=by
  funext m
  have:((i:Int)+(m:Int) * 1).toNat=i+m:=by omega
  rw[this]
 rw[e]
 have:=pick_run xs i k
 rw[List.filterMap_map] at this
 have e2:((λx=>xs[x]?) ∘ λx=>i+x)=λm=>xs[i+m]?:=rfl
 rw[e2] at this
 rw[this]
theorem lK{t sl:Addr}{items:Array Value}{vl vu:Value}{lo hi:Option Int}{Q:Value->Shared->Prop}(ht:IsTup s.heap t items)(hs:s.heap.IsSliceOf sl vl vu .none)(pl:IsPart vl lo)(pu:IsPart vu hi)(hw:¬(sIx items.size 0 lo=0/\sIx items.size items.size hi=items.size))(h:Q (.ref s.heap.objs.size) { s with heap:=s.heap.push { cls:=.type "tuple",data:=.seq ((items.toList.drop (sIx items.size 0 lo)).take (sIx items.size items.size hi - sIx items.size 0 lo)).toArray } })(hsz:items.size<=sizeLine):wpAny (model prog w) A (getItem (.ref t) (.ref sl)) Q E s:=by
 have htake:sizeOk (.seq ((items.toList.drop (sIx items.size 0 lo)).take (sIx items.size items.size hi - sIx items.size 0 lo)).toArray):=by
  show((items.toList.drop (sIx items.size 0 lo)).take (sIx items.size items.size hi - sIx items.size 0 lo)).toArray.size<=sizeLine
  rw[Ï,ğ,ý,č]
  omega
 have hj:sIx items.size items.size hi<=items.size:=Kq _ _ (Ë _) hi
 obtain⟨os,hos,hcs,hds⟩:=id hs
 have hTs:s.TypeIs (.ref sl) "slice":=⟨os,hos,hcs⟩
 unfold getItem
 try with_reducible refine ĥ ?_
 first|refine Ä (Ø ?_)|skip
 refine Ä (wpAny_sequenceKey ht.typeIs (by decide) ?_)
 refine Ä (wpAny_callSpecial?_slot (name:=Str.ofString "__getitem__") ht.typeIs PyProof.Rows.slot_tuple_getitem
  (wpAny_call_entry PyProof.Rows.slot_tuple_getitem ht.typeIs entry_tuple_getitem ?_ (args_tuple_getitem _ _)))
 show wpAny _ _ (Builtin.Tuple.tupleItemsOf (.ref t) >>= _) _ _ s
 refine Ä (tupleItemsOf_ ht ?_)
 refine Ä (wpAny_typeOf hTs ?_)
 rw[if_pos (by decide)]
 refine Ä (mL hs pl pu ?_)
 have hno:¬((((sIx items.size 0 lo:Nat):Int) == 0&&(1:Int) == 1&&(sIx items.size items.size hi - sIx items.size 0 lo) == items.size)=true):=by
  intro q
  rw[Ê,Ê] at q
  have q1:((sIx items.size 0 lo:Nat):Int)=0:=eq_of_beq q.1.1
  have q2:sIx items.size items.size hi - sIx items.size 0 lo=items.size:=eq_of_beq q.2
  exact hw ⟨by omega,by omega⟩
 show wpAny _ _ (if (((sIx items.size 0 lo:Nat):Int) == 0&&(1:Int) == 1&&(sIx items.size items.size hi - sIx items.size 0 lo) == items.size)=true then _ else _) _ _ s
 rw[if_neg hno,DN]
 first
  |exact Ä (m:=ţ _) (wpAny_newObj_type (Ø ⟨_,rfl,Ø h⟩) htake)
  |exact Ä (m:=ţ _) (wpAny_newObj_type (Ä (Ø (Ø ⟨_,rfl,Ø h⟩))) htake)
  |exact Ä (Ä (m:=ţ _) (wpAny_newObj_type (Ø (Ø ⟨_,rfl,Ø h⟩)) htake))
  |exact Ä (Ä (m:=ţ _) (wpAny_newObj_type (Ø ⟨_,rfl,Ø h⟩) htake))
end
end HT
namespace L2
open PySem PySem.Spec PyProof.Rows
abbrev TO:=St->Hp->(Option Int->Hp->Prop)->Prop
def PO(X:Cx)(e:Option Expr)(t:TO):Prop :=
 ∀(pins:List (Addr×Obj)) (s:Shared) (σ:St) (H:Hp) (Q:Option Int->Hp->Prop),Inv X pins σ H s->t σ H Q ->
  wpAny (model X.prog X.w) X.A (evalPart e X.env) (λu s'=>∃o H',Inv X pins σ H' s'/\IsPart u o/\Q o H') X.xe s
def G4:TO:=λ_ H Q=>Q none H
def N5(t:TE):TO:=λσ H Q=>t σ H λx H1=>∃i,x=.int i/\Q (some i) H1
theorem intsAre_of{ns:List Int}:∀{us:List Value},Vals (ns.map V.int) us->IntsAre us ns:=by
 induction ns with
 |nil=>intro us r;rw[List.map_nil] at r;cases r;exact .nil
 |cons n ns ih =>
  intro us r
  rw[ê] at r
  cases r with
  |cons r1 r2 =>
   obtain⟨t,e⟩:=r1
   subst e
   exact .cons n t (ih r2)
section
variable {X:Cx}{e:Expr}{te:TE}{lo hi:Option Expr}{tl th:TO}{pos p2:Pos}
theorem Ht:PO X none G4:=by
 intro pins s σ H Q I h
 rw[evalPart_none]
 exact Ø ⟨none,H,I,.none,h⟩
theorem Hs(h:PE X e te):PO X (some e) (N5 te):=by
 intro pins s σ H Q I hw
 rw[evalPart_some]
 refine thn (h pins s σ H _ I hw) λu s1 ⟨x,H1,I1,r1,q1⟩=>?_
 obtain⟨i,rfl,q⟩:=q1
 obtain⟨t,rfl⟩:=r1
 exact⟨some i,H1,I1,.int i t,q⟩
def SlR(X:Cx)(r:V->Option Int->Option Int->Hp->VK->Prop):Prop :=
 ∀(pins:List (Addr×Obj)) (s:Shared) (σ:St) (H:Hp) (x:V) (v vl vu:Value) (lo hi:Option Int) (sl:Addr) (Q:VK),Inv X pins σ H s->RelV x v->s.heap.IsSliceOf sl vl vu .none->IsPart vl lo->IsPart vu hi->r x lo hi H Q ->
  ∃T id,typeLookup (.type T) "__getitem__"=pure (some (.builtin id))/\s.TypeIs v T/\wpAny (model X.prog X.w) X.A (getItem v (.ref sl)) (EP X pins σ Q) X.xe s
theorem SlR.or{r r':V->Option Int->Option Int->Hp->VK->Prop}(h:SlR X r)(h':SlR X r'):SlR X (λx lo hi H Q=>r x lo hi H Q\/r' x lo hi H Q):=by
 intro pins s σ H x v vl vu lo hi sl Q I rx hs pl pu q
 rcases q with q|q
 ·exact h pins s σ H x v vl vu lo hi sl Q I rx hs pl pu q
 ·exact h' pins s σ H x v vl vu lo hi sl Q I rx hs pl pu q
def tSl(r:V->Option Int->Option Int->Hp->VK->Prop)(te:TE)(tl th:TO):TE:=λσ H Q=>te σ H λx H1=>tl σ H1 λl H2=>th σ H2 λu H3=>r x l u H3 Q
theorem vW{r:V->Option Int->Option Int->Hp->VK->Prop}(hr:SlR X r)(he:PE X e te)(hl:PO X lo tl)(hu:PO X hi th):PE X (.Subscript e (.Slice lo hi none p2) pos) (tSl r te tl th):=by
 intro pins s σ H Q I h
 refine Subscript_ (thn (he pins s σ H _ I h) λv s1 ⟨x,H1,I1,r1,q1⟩=>?_)
 refine wpAny_Slice (thn (hl pins s1 σ H1 _ I1 q1) λvl s2 ⟨l,H2,I2,pl,q2⟩=>thn (hu pins s2 σ H2 _ I2 q2) λvu s3 ⟨u,H3,I3,pu,q3⟩=>?_)
 rw[evalPart_none]
 refine Ø ?_
 have I4:Inv X pins σ H3 { s3 with heap:=s3.heap.push { cls:=.type "slice",data:=.fields #[vl,vu,.none] } }:=I3.kept (t':=s3.toks) λb ob q=>Ö _ q
 obtain⟨T,id,hT,ht,hg⟩:=hr pins { s3 with heap:=s3.heap.push { cls:=.type "slice",data:=.fields #[vl,vu,.none] } } σ H3 x v vl vu l u s3.heap.objs.size Q I4 r1 (Heap.IsSliceOf.new ..) pl pu q3
 show wpAny (model X.prog X.w) X.A (subscriptTail e (.Slice lo hi none p2) v (.ref s3.heap.objs.size)) (EP X pins σ Q) X.xe { s3 with heap:=s3.heap.push { cls:=.type "slice",data:=.fields #[vl,vu,.none] } }
 exact tail_any (ops:=[.ref s3.heap.objs.size,v]) ht hT hg (by with_unfolding_all rfl)
def qO(xs:List V)(lo hi:Option Int):List V:=(xs.drop (HT.sIx xs.length 0 lo)).take (HT.sIx xs.length xs.length hi - HT.sIx xs.length 0 lo)
theorem oA(xs:List V)(lo hi:Option Int):(qO xs lo hi).length<=xs.length:=by
 unfold qO
 rw[ğ,ý]
 omega
def QZ(K:Þ):V->Option Int->Option Int->Hp->VK->Prop:=λx lo hi H Q=>∃a xs,x=.ref a/\SqT K H a xs /\
 ¬(HT.sIx xs.length 0 lo=0/\HT.sIx xs.length xs.length hi=xs.length)/\∀p,H p=none->Q (.ref p) (upd H p (.tup (qO xs lo hi)))
theorem Ko:SlR X (QZ X.K):=by
 intro pins s σ H x v vl vu lo hi sl Q I rx hs pl pu h
 obtain⟨a,xs,rfl,hx,hw,q⟩:=h
 cases rx
 obtain⟨its,r,ht,hz⟩:=I.tuple hx
 have hlen:its.toArray.size=xs.length:=by rw[Ï];exact r.length.symm
 refine⟨"tuple",_,PyProof.Rows.slot_tuple_getitem.lookup,ht.typeIs,?_⟩
 refine HT.lK ht hs pl pu (by rw[hlen];exact hw) ?_ (by rw[hlen];exact hz)
 rw[hlen]
 refine⟨.ref s.heap.objs.size,_,I.laid (t':=s.toks) (o:=.tup (qO xs lo hi)) (λb ob q=>Ö _ q) (Ë _) ?_,rfl,q _ (I.hok.fresh (Ë _))⟩
 exact⟨ĉ (oA xs lo hi) hz,_,(r.drop (HT.sIx xs.length 0 lo)).take (HT.sIx xs.length xs.length hi - HT.sIx xs.length 0 lo),IsTup.new _ _⟩
def Oz(K:Þ):R2:=λx y H Q=>∃a b xs ys,x=.ref a/\y=.ref b/\SqT K H a xs/\SqT K H b ys/\xs≠[]/\xs.length+ys.length<=sizeLine /\
 (ys=[]->Q (.ref a) H)/\(ys≠[]->∀p,H p=none->Q (.ref p) (upd H p (.tup (xs++ys))))
theorem Vals.uJ{xs:List V}{us:List Value}(r:Vals xs us):us=[]↔xs=[]:=by
 cases r with
 |nil=>simp
 |cons _ _=>simp
theorem HF:OpR X (binaryOp .Add) (Oz X.K):=by
 intro pins s σ H x y v u Q I rx ry h
 obtain⟨a,b,xs,ys,rfl,rfl,ha,hb,hx,hz,q1,q2⟩:=h
 cases rx
 cases ry
 obtain⟨its,r1,p1,_⟩:=I.tuple ha
 obtain⟨its2,r2,p2,_⟩:=I.tuple hb
 refine HT.Jr p1 p2 (λz=>hx (r1.uJ.mp z)) (λz=>⟨.ref a,H,I,rfl,q1 (r2.uJ.mp z)⟩) (λz=>?_) (by rw[←r1.length,←r2.length];exact hz)
 refine⟨.ref s.heap.objs.size,_,I.laid (t':=s.toks) (o:=.tup (xs++ys)) (λb ob q=>Ö _ q) (Ë _) ?_,rfl,q2 (λw=>z (r2.uJ.mpr w)) _ (I.hok.fresh (Ë _))⟩
 exact⟨by rw[Å];exact hz,_,r1.append r2,IsTup.new _ _⟩
end
def ixN(n:Nat)(i:Int):Option Nat:=if 0<=i then (if i<n then some i.toNat else none) else if -(n:Int)<=i then some (i+n).toNat else none
def atI{α:Type}(xs:List α)(i:Int):Option α:=(ixN xs.length i).bind λj=>xs[j]?
theorem Ai{n:Nat}{i:Int}{j:Nat}(h:ixN n i=some j):seqIndex? i n=some j/\j<n/\-(n:Int)<=i/\i<n:=by
 unfold ixN at h
 by_cases h0:0<=i
 ·rw[if_pos h0] at h
  by_cases h1:i<n
  ·rw[if_pos h1] at h
   have e:i.toNat=j:=ã h
   exact⟨by rw[seqIndex_of h0 h1,e],by omega,by omega,h1⟩
  ·rw[if_neg h1] at h;cases h
 ·rw[if_neg h0] at h
  by_cases h1:-(n:Int)<=i
  ·rw[if_pos h1] at h
   have e:(i+n).toNat=j:=ã h
   exact⟨by rw[seqIndex_neg (by omega) h1,e],by omega,h1,by omega⟩
  ·rw[if_neg h1] at h;cases h
theorem Ba{α:Type}{xs:List α}{i:Int}{v:α}(h:atI xs i=some v):∃j,seqIndex? i xs.length=some j/\xs[j]?=some v/\j<xs.length/\-(xs.length:Int)<=i/\i<xs.length:=by
 unfold atI at h
 cases e:ixN xs.length i with
 |none=>rw[e] at h;cases h
 |some j =>
  rw[e] at h
  obtain⟨h1,h2,h3,h4⟩:=Ai e
  exact⟨j,h1,h,h2,h3,h4⟩
theorem gP{α:Type}{xs:List α}{j:Nat}{v:α}(h:xs[j]?=some v):atI xs (j:Int)=some v:=by
 have hj:j<xs.length:=(Ó.mp h).1
 have e:ixN xs.length (j:Int)=some j:=by
  unfold ixN
  rw[if_pos (by omega),if_pos (by omega)];simp
 unfold atI;rw[e];exact h
theorem Gy{α:Type}(xs:List α)(v:α):atI (xs++[v]) (-1)=some v:=by
 have hl:(xs++[v]).length=xs.length+1:=by simp
 have e:ixN (xs++[v]).length (-1)=some xs.length:=by
  unfold ixN
  rw[hl,if_neg (by decide),if_pos (by omega)]
  congr 1
  omega
 unfold atI
 rw[e]
 show(xs++[v])[xs.length]?=some v
 simp
def pI(b:Expr):Prop:=∀o i,subscripted b false o i=operate [o,i] (getItem o i)
def IxR(X:Cx)(r:R2):Prop :=
 ∀(value slice:Expr) (pins:List (Addr×Obj)) (s:Shared) (σ:St) (H:Hp) (x y:V) (v u:Value) (Q:VK),Inv X pins σ H s->RelV x v->RelV y u->r x y H Q ->
  subscripted slice false v u=operate [v,u] (getItem v u)->wpAny (model X.prog X.w) X.A (subscriptTail value slice v u) (EP X pins σ Q) X.xe s
def MtR(X:Cx)(id:String)(r:V->List V->Hp->VK->Prop):Prop :=
 ∀(pins:List (Addr×Obj)) (s:Shared) (σ:St) (H:Hp) (x:V) (xs:List V) (v:Value) (us:List Value) (Q:VK),Inv X pins σ H s->RelV x v->Vals xs us->r x xs H Q ->
  wpAny (model X.prog X.w) X.A (call (.builtin id) (v::us)) (EP X pins σ Q) X.xe s
section
variable {X:Cx}{a b:Expr}{ta tb:TE}{pos:Pos}
theorem IxR.or{r r':R2}(h:IxR X r)(h':IxR X r'):IxR X (λx y H Q=>r x y H Q\/r' x y H Q):=by
 intro value slice pins s σ H x y v u Q I rx ry q hs
 rcases q with q|q
 ·exact h value slice pins s σ H x y v u Q I rx ry q hs
 ·exact h' value slice pins s σ H x y v u Q I rx ry q hs
theorem iz{r:R2}(hr:IxR X r)(ha:PE X a ta)(hb:PE X b tb)(hs:pI b):PE X (.Subscript a b pos) (tOp r ta tb):=by
 intro pins s σ H Q I h
 exact Subscript_ (Ni ha hb I h λv u s2 x y H2 I2 rx ry q=>hr a b pins s2 σ H2 x y v u Q I2 rx ry q (hs _ _))
def Q6(K:Þ):R2:=λx y H Q=>∃p xs i v,x=.ref p/\y=.int i/\SqL K H p xs/\atI xs i=some v/\Q v H
def Q5(K:Þ):R2:=λx y H Q=>∃p xs i v,x=.ref p/\y=.int i/\SqT K H p xs/\atI xs i=some v/\Q v H
theorem dg:IxR X (Q6 X.K):=by
 intro value slice pins s σ H x y v u Q I rx ry h hs
 obtain⟨p,xs,i,z,rfl,rfl,hq,he,q⟩:=h
 cases rx
 obtain⟨t,rfl⟩:=ry
 obtain⟨its,r,pl,hz⟩:=I.list hq
 obtain⟨j,h1,h2,h3,h4,h5⟩:=Ba he
 obtain⟨w,ew,rw'⟩:=r.get h2
 have hl:=r.length
 have hn:=uL
 have fin:EP X pins σ Q w s:=⟨z,H,I,rw',q⟩
 by_cases h0:0<=i
 ·have hj:i.toNat=j:=by
   rw[seqIndex_of h0 h5] at h1
   exact ã h1
  exact item_listR pl.isList h0 (by omega) (by rw[hj];simpa using ew) fin hs
 ·have hj:(i+(its.toArray.size:Int)).toNat=j:=by
   rw[seqIndex_neg (by omega) h4] at h1
   rw[Ï,←hl]
   exact ã h1
  exact subscriptTail_builtinR (x:=w) pl.isList.typeIs slot_list_getitem.lookup
   (wpAny_getItem_list_neg (Q:=λr s'=>r=w/\EP X pins σ Q r s') pl.isList (by omega) (by rw[Ï] <;> omega) (by omega) (by rw[hj];simpa using ew) ⟨rfl,fin⟩) hs
theorem Fw:IxR X (Q5 X.K):=by
 intro value slice pins s σ H x y v u Q I rx ry h hs
 obtain⟨p,xs,i,z,rfl,rfl,hq,he,q⟩:=h
 cases rx
 obtain⟨t,rfl⟩:=ry
 obtain⟨its,r,pl,hz⟩:=I.tuple hq
 obtain⟨j,h1,h2,h3,h4,h5⟩:=Ba he
 obtain⟨w,ew,rw'⟩:=r.get h2
 have hl:=r.length
 have hn:=uL
 have fin:EP X pins σ Q w s:=⟨z,H,I,rw',q⟩
 exact subscriptTail_builtinR (x:=w) pl.typeIs slot_tuple_getitem.lookup
  (getItem_tuple (j:=j) (Q:=λr s'=>r=w/\EP X pins σ Q r s') pl (by omega) (by omega) (by rw[Ï,←hl];exact h1) (by simpa using ew) ⟨rfl,fin⟩) hs
theorem yx(its:List Value)(n j:Nat)(u:Value):â (·.setIfInBounds j u) { cls:=.type "list",data:=.seq its.toArray n }={ cls:=.type "list",data:=.seq (its.set j u).toArray n }:=by
 simp[â]
theorem Inv.lst{pins:List (Addr×Obj)}{σ:St}{H:Hp}{s:Shared}{p:Addr}{xs:List V}(I:Inv X pins σ H s)(h:H p=some (.lst xs)) :
  ∃(its:List Value) (n:Nat),Vals xs its/\s.heap.get? p=some { cls:=.type "list",data:=.seq its.toArray n }/\xs.length<=sizeLine:=by
 obtain⟨z,its,n,r,e⟩:=I.hok p _ h
 exact⟨its,n,r,e,z⟩
theorem Inv.LC{pins:List (Addr×Obj)}{σ:St}{H:Hp}{s:Shared}{p:Addr}{xs ys:List V}{its its':List Value}{n n':Nat}{f:Obj->Obj}(I:Inv X pins σ H s)(h:H p=some (.lst xs))(ho:s.heap.get? p=some { cls:=.type "list",data:=.seq its.toArray n })(hf:f { cls:=.type "list",data:=.seq its.toArray n }={ cls:=.type "list",data:=.seq its'.toArray n' })(r:Vals ys its')(hz:ys.length<=sizeLine)(t:Nat) :
  Inv X pins σ (upd H p (.lst ys)) { s with heap:=s.heap.update p f,toks:=t }:=by
 have e:(s.heap.update p f).get? p=some { cls:=.type "list",data:=.seq its'.toArray n' }:=by
  rw[Š f ho (by rw[hf] <;> rfl),hf]
 refine I.write (x:=p) (e:=p) (by rw[h];trivial) (.inl rfl) (λb u hb q=>(Ĩ _ _ (ī hb)).trans q) ⟨_,e⟩ ?_
 exact⟨hz,its',n',r,e⟩
def Ou:V->V->V->Hp->(Hp->Prop)->Prop:=λo i v H Q=>∃p xs k j,o=.ref p/\i=.int k/\H p=some (.lst xs)/\ixN xs.length k=some j/\Q (upd H p (.lst (xs.set j v)))
theorem set_list:Qq X Ou:=by
 intro pins s σ H o i v ov iv u Q I ro ri rv h
 obtain⟨p,xs,k,j,rfl,rfl,hp,hj,q⟩:=h
 cases ro
 obtain⟨t,rfl⟩:=ri
 obtain⟨its,n,r,ho,hz⟩:=I.lst hp
 obtain⟨h1,h2,h3,h4⟩:=Ai hj
 have hl:=r.length
 have hn:=uL
 have I':Inv X pins σ (upd H p (.lst (xs.set j v))) { s with heap:=s.heap.update p (â (·.setIfInBounds j u)) } :=
  I.LC hp ho (yx its n j u) (r.set rv j) (by rw[List.length_set];exact hz) s.toks
 by_cases h0:0<=k
 ·have hk:k.toNat=j:=by
   rw[seqIndex_of h0 h4] at h1
   exact ã h1
  exact W.ki_setAt ho h0 (by omega) (by rw[Ï,←hl];exact h4) (by rw[hk];exact⟨_,I',q⟩)
 ·have hk:(k+(its.toArray.size:Int)).toNat=j:=by
   rw[seqIndex_neg (by omega) h3] at h1
   rw[Ï,←hl]
   exact ã h1
  exact W.ki_setBack ho (by omega) (by rw[Ï,←hl];exact h3) (by omega) (by rw[hk];exact⟨_,I',q⟩)
theorem tR(lo hi:Option Int)(n:Nat):(sliceBounds lo hi none n).1=((HT.sIx n 0 lo:Nat):Int)/\(sliceBounds lo hi none n).2.1=((HT.sIx n n hi:Nat):Int)/\(sliceBounds lo hi none n).2.2=1:=by
 refine⟨?_,?_,rfl⟩
 ·cases lo with
  |none=>simp[sliceBounds,HT.sIx]
  |some i =>
   simp only[sliceBounds,HT.sIx,Option.getD_none,show(1:Int) > 0 by decide,if_true]
   by_cases h:i<0
   ·simp only[h,if_true] <;> omega
   ·simp only[h,if_false] <;> omega
 ·cases hi with
  |none=>simp[sliceBounds,HT.sIx]
  |some i =>
   simp only[sliceBounds,HT.sIx,Option.getD_none,show(1:Int) > 0 by decide,if_true]
   by_cases h:i<0
   ·simp only[h,if_true] <;> omega
   ·simp only[h,if_false] <;> omega
theorem qU(its:List Value)(lo hi:Option Int):slicePick its.toArray lo hi none=((its.drop (HT.sIx its.length 0 lo)).take (HT.sIx its.length its.length hi - HT.sIx its.length 0 lo)).toArray:=by
 obtain⟨h1,h2,h3⟩:=tR lo hi its.toArray.size
 unfold slicePick
 rw[h1,h2,h3]
 simp only[sliceRange_one,pick_run,Ï] <;> rfl
def Q0(K:Þ):V->Option Int->Option Int->Hp->VK->Prop:=λx lo hi H Q=>∃a xs,x=.ref a/\SqL K H a xs/\∀p,H p=none->Q (.ref p) (upd H p (.lst (qO xs lo hi)))
theorem zJ:SlR X (Q0 X.K):=by
 intro pins s σ H x v vl vu lo hi sl Q I rx hs pl pu h
 obtain⟨a,xs,rfl,hx,q⟩:=h
 cases rx
 obtain⟨its,r,ht,hz⟩:=I.list hx
 have hlen:=r.length
 refine⟨"list",_,slot_list_getitem.lookup,ht.isList.typeIs,?_⟩
 refine wpAny_getItem_list_slice ht.isList hs pl pu .none (by simp) ?_ (by rw[Ï] <;> omega)
 rw[qU,←hlen]
 refine⟨.ref s.heap.objs.size,_,I.laid (t':=s.toks) (o:=.lst (qO xs lo hi)) (λb ob q=>Ö _ q) (Ë _) ?_,rfl,q _ (I.hok.fresh (Ë _))⟩
 exact⟨ĉ (oA xs lo hi) hz,_,0,(r.drop (HT.sIx xs.length 0 lo)).take (HT.sIx xs.length xs.length hi - HT.sIx xs.length 0 lo),ç _ rfl⟩
theorem dW:bD X (.builtin "len") (λxs H Q=>∃p ys,xs=[.ref p]/\(SqL X.K H p ys\/SqT X.K H p ys)/\Q (.int ys.length) H):=by
 intro pins s σ H xs us Q I r h
 obtain⟨p,ys,rfl,hq,q⟩:=h
 obtain⟨u,rfl,rx⟩:=vals1 r
 cases rx
 have hn:=uL
 rcases hq with hq|hq
 ·obtain⟨its,r',pl,hz⟩:=I.list hq
  have hlen:=r'.length
  exact Calls.call_len_list pl.isList (by simp only[Ï] <;> omega) ⟨.int ys.length,H,I.tok _,⟨s.toks+1,by rw[Ï,hlen]⟩,q⟩
 ·obtain⟨its,r',pl,hz⟩:=I.tuple hq
  have hlen:=r'.length
  exact len_tuple pl (by simp only[Ï] <;> omega) ⟨.int ys.length,H,I.tok _,⟨s.toks+1,by rw[Ï,hlen]⟩,q⟩
theorem q9:bD X (.type "tuple") (λxs H Q=>∃p ys,xs=[.ref p]/\((SqL X.K H p ys/\∀l,H l=none->Q (.ref l) (upd H l (.tup ys)))\/(SqT X.K H p ys/\Q (.ref p) H))):=by
 intro pins s σ H xs us Q I r h
 obtain⟨p,ys,rfl,h⟩:=h
 obtain⟨u,rfl,rx⟩:=vals1 r
 cases rx
 rcases h with ⟨hq,q⟩|⟨hq,q⟩
 ·obtain⟨its,r',pl,hz⟩:=I.list hq
  have hlen:=r'.length
  refine call_tuple_list pl.isList (λh' kp=>?_) (by simp only[Ï] <;> omega)
  have I1:Inv X pins σ H { s with heap:=h' }:=I.kept (t':=s.toks) kp
  have I2:Inv X pins σ (upd H h'.objs.size (.tup ys)) { s with heap:=h'.push { cls:=.type "tuple",data:=.seq its.toArray } } :=
   I1.laid (t':=s.toks) (λb o e=>Ö _ e) (Ë _) (show bO X.prog X.w _ _ _ (.tup ys) from⟨hz,its,r',IsTup.new _ _⟩)
  exact⟨.ref h'.objs.size,_,I2,rfl,q _ (I1.hok.fresh (Ë _))⟩
 ·obtain⟨its,r',pl,hz⟩:=I.tuple hq
  exact call_tuple_same pl ⟨.ref p,H,I,rfl,q⟩
def tyV(K:Þ)(T:String)(x:V)(H:Hp):Prop:=match x with
 |.str _=>T="str"
 |.int _=>T="int"
 |.ref p=>(T="list"/\∃xs,SqL K H p xs)\/(T="tuple"/\∃o,K.lookup p=some o/\o.cls=.type "tuple"/\o.dict=none) ∨
   (T="dict"/\((∃kvs,H p=some (.dK kvs))\/∃kvs,H p=some (.dT kvs)))\/(T="set"/\∃S n,H p=some (.set S n))
 |_=>False
theorem Ke{pins:List (Addr×Obj)}{σ:St}{H:Hp}{s:Shared}{T:String}{x:V}{v:Value}(I:Inv X pins σ H s)(r:RelV x v)(ty:tyV X.K T x H) :
  s.TypeIs v T/\∀a,v=.ref a->∃ob,s.heap.get? a=some ob/\ob.dict=none:=by
 cases x with
 |str z =>
  obtain⟨t,rfl⟩:=r
  cases (show T="str" from ty)
  exact⟨typeIs_str s z t,λ_ e=>nomatch e⟩
 |int i =>
  obtain⟨t,rfl⟩:=r
  cases (show T="int" from ty)
  exact⟨typeIs_int s i t,λ_ e=>nomatch e⟩
 |ref p =>
  cases r
  rcases ty with ⟨rfl,xs,hq⟩|⟨rfl,o,hk,hc,hd⟩|⟨rfl,hk⟩|⟨rfl,S,n,hk⟩
  ·obtain⟨its,_,pl,_⟩:=I.list hq
   refine⟨pl.isList.typeIs,λa e=>?_⟩
   cases e
   obtain⟨o,n,e,c,hd,_⟩:=pl
   exact⟨o,e,hd⟩
  ·refine⟨⟨o,I.kIn p o hk,hc⟩,λa e=>?_⟩
   cases e
   exact⟨o,I.kIn _ o hk,hd⟩
  ·have z:∃o,s.heap.get? p=some o/\o.ExactDict:=by
    rcases hk with ⟨kvs,hk⟩|⟨kvs,hk⟩
    ·obtain⟨_,_,_,_,o,_,_,e,ex,_⟩:=I.hok p _ hk
     exact⟨o,e,ex⟩
    ·obtain⟨_,_,_,_,o,_,_,e,ex,_⟩:=I.hok p _ hk
     exact⟨o,e,ex⟩
   obtain⟨o,e,ex⟩:=z
   refine⟨⟨o,e,ex.1⟩,λa e2=>?_⟩
   cases e2
   exact⟨o,e,ex.2.1⟩
  ·obtain⟨o,_,_,_,e,ex,_⟩:=I.hok p _ hk
   refine⟨⟨o,e,ex.1⟩,λa e2=>?_⟩
   cases e2
   exact⟨o,e,ex.2.1⟩
 |_=>exact Ŝ ty
def tBM(K:Þ)(T:String)(r:V->List V->Hp->VK->Prop)(to:TE)(t:TA):TE:=λσ H Q=>to σ H λx H1=>tyV K T x H1/\t σ H1 λxs H2=>r x xs H2 Q
variable {o e:Expr}{es:List Expr}{to:TE}{t:TA}{name:Str}{apos cpos:Pos}{T id:String}{r:V->List V->Hp->VK->Prop}
theorem rQ(pa:PlainAttrs T)(slot:Slot T name id)(hty:typeOf (.builtin id)=pure (.type "method_descriptor"))(hm:MtR X id r)(ho:PE X o to)(ha:PA X (e::es) t)(hbase:attributeBase o name X.env (eval o X.env)=eval o X.env:=by rfl)(hfew:((backTo cpos (starEach (e::es) X.env)).all (λx=>!x.1)&&(backToKw cpos (keywordEach [] X.env)).all (λx=>x.1.isSome)
  &&decide ((e::es).length+([]:List Keyword).length+(if ([]:List Keyword).isEmpty then 0 else 1)<30))=true:=by rfl)(hline:(apos.endLine == cpos.line)=true:=by rfl)(hs:starEach (e::es) X.env=(false,eval e X.env)::starEach es X.env:=by rfl)(hplain:(backTo cpos (starEach es X.env)).any (·.1)=false:=by rfl) :
  PE X (.Call (.Attribute o name apos) (e::es) [] cpos) (tBM X.K T r to t):=by
 intro pins s σ H Q I h
 refine wpAny_Call_method_late hbase hfew hline rfl (thn (ho pins s σ H _ I h) λv s1 ⟨x,H1,I1,r1,ty,q1⟩=>?_)
 obtain⟨h1,h2⟩:=Ke I1 r1 ty
 refine⟨T,id,pa,slot,hty,h1,h2,?_⟩
 have hA:=ha cpos pins s1 σ H1 _ I1 q1
 rw[hs] at hA ⊢
 refine Calls.callWith_builtin (by show(false || (backTo cpos (starEach es X.env)).any (·.1))=false;rw[hplain] <;> rfl) (Calls.evalArgs_plain ?_)
 exact thn hA λus s2 ⟨vs,H2,I2,r2,q2⟩=>hm pins s2 σ H2 x vs v us Q I2 r1 r2 q2
/- xs.append(e),list.index on a module's tuple .. are MtR facts of 06m -/
end
def MtM(X:Cx)(id:String)(r:V->List V->Hp->VK->Prop):Prop :=
 ∀(pins:List (Addr×Obj)) (s:Shared) (σ:St) (H:Hp) (x:V) (xs:List V) (v:Value) (us:List Value) (Q:VK),Inv X pins σ H s->RelV x v->Vals xs us->r x xs H Q ->
  wpAny (model X.prog X.w) X.A (call (.builtin id) (v::us)) (EP X pins σ Q) X.xe s
theorem Vals.one:∀{x:V}{us:List Value},Vals [x] us->∃u,us=[u]/\RelV x u
 |_,_,.cons r .nil=>⟨_,rfl,r⟩
theorem Vals.two:∀{x y:V}{us:List Value},Vals [x,y] us->∃u v,us=[u,v]/\RelV x u/\RelV y v
 |_,_,_,.cons r (.cons q .nil)=>⟨_,_,rfl,r,q⟩
theorem Vals.reverse{xs:List V}{us:List Value}(h:Vals xs us):Vals xs.reverse us.reverse:=by
 induction h with
 |nil=>exact .nil
 |cons r t ih=>rw[List.reverse_cons,List.reverse_cons];exact Vals.append ih (.cons r .nil)
theorem Vals.rep{xs:List V}{us:List Value}(h:Vals xs us):∀k:Nat,Vals (Ì k xs).flatten (Ì k us).flatten
 |0=>.nil
 |k+1=>by
  rw[Ī,Ī,ï,ï]
  exact Vals.append h (Vals.rep h k)
theorem foldl_rep(its:List Value):∀(k:Nat) (acc:List Value),
  List.foldl (λx1 x2=>x1++x2) acc.toArray (Ì k its.toArray)=(acc++(Ì k its).flatten).toArray
 |0,acc=>by simp
 |k+1,acc=>by
  have e:acc.toArray++its.toArray=(acc++its).toArray:=by simp
  have e2:(acc++its)++(Ì k its).flatten=acc++(Ì (k+1) its).flatten:=by
   rw[Ī,ï,þ]
  rw[←e2,←foldl_rep its k (acc++its),←e,Ī,List.foldl_cons]
section
variable {X:Cx}{pins:List (Addr×Obj)}{σ:St}{H:Hp}{s:Shared}{l b:Addr}{xs ys zs:List V}
theorem Inv.LK{its its':List Value}{n:Nat}{f:Array Value->Array Value}{t':Nat}(I:Inv X pins σ H s)(hH:H l=some (.lst xs))(e:s.heap.get? l=some { cls:=.type "list",data:=.seq its.toArray n })(hf:f its.toArray=its'.toArray)(hv:Vals ys its')(hz:ys.length<=sizeLine) :
  Inv X pins σ (upd H l (.lst ys)) { s with heap:=s.heap.update l (â f),toks:=t' }:=by
 have q:=PySem.IsL.update e f
 rw[hf] at q
 refine I.write (x:=l) (e:=l) (by rw[hH];exact trivial) (.inl rfl) (λb' u hb hu=>(Ĩ s.heap (â f) (ī hb)).trans hu) ⟨_,q⟩ ?_
 exact⟨hz,its',_,hv,q⟩
theorem Inv.Pz{its:List Value}{t':Nat}(I:Inv X pins σ H s)(hv:Vals ys its)(hz:ys.length<=sizeLine) :
  Inv X pins σ (upd H s.heap.objs.size (.lst ys)) { s with heap:=s.heap.push { cls:=.type "list",data:=.seq its.toArray },toks:=t' } :=
 I.laid (λ_ _ q=>Ö _ q) (Ë _) ⟨hz,its,0,hv,ç _ rfl⟩
theorem Inv.fresh(I:Inv X pins σ H s):H s.heap.objs.size=none:=I.hok.fresh (Ë _)
theorem Inv.yE(I:Inv X pins σ H s)(hH:H l=some (.lst xs)):xs.length<=sizeLine/\∃(its:List Value) (n:Nat),Vals xs its/\xs.length=its.length/\s.heap.get? l=some { cls:=.type "list",data:=.seq its.toArray n }:=by
 obtain⟨z,its,n,r,e⟩:=I.hok l _ hH
 exact⟨z,its,n,r,r.length,e⟩
theorem wu{n:Nat}(h:n<=sizeLine):ŧ n=false:=by
 unfold ŧ
 exact decide_eq_false (by omega)
end
section
variable {X:Cx}
def tY:V->List V->Hp->VK->Prop:=λx vs H Q=>∃l xs y,x=.ref l/\vs=[y]/\H l=some (.lst xs)/\xs.length<sizeLine/\Q .non (upd H l (.lst (xs++[y])))
theorem rY:MtM X "list.append" tY:=by
 intro pins s σ H x vs v us Q I rx rv h
 obtain⟨l,xs,y,rfl,rfl,hH,hz,q⟩:=h
 cases rx
 obtain⟨u,rfl,ru⟩:=rv.one
 obtain⟨z,its,n,r,hl,e⟩:=I.yE hH
 refine call_meets F.slot_list_append ⟨_,e,rfl⟩ F.entry_list_append (F.args_list_append_2 _ _) (PySem.list_append l its.toArray n u (by rw[Ï];omega)) ⟨e,?_⟩
 refine⟨.non,_,I.LK (its':=its++[u]) hH e (by simp) (r.append (.cons ru .nil)) ?_,rfl,q⟩
 rw[Å,š]
 omega
def tX:V->List V->Hp->VK->Prop:=λx vs H Q=>∃l b xs zs,x=.ref l/\vs=[.ref b]/\H l=some (.lst xs)/\H b=some (.lst zs)/\xs.length+zs.length<=sizeLine/\Q .non (upd H l (.lst (xs++zs)))
theorem nq:MtM X "list.extend" tX:=by
 intro pins s σ H x vs v us Q I rx rv h
 obtain⟨l,b,xs,zs,rfl,rfl,hH,hB,hz,q⟩:=h
 cases rx
 obtain⟨u,rfl,ru⟩:=rv.one
 cases ru
 obtain⟨z,its,n,r,hl,e⟩:=I.yE hH
 obtain⟨z2,its2,n2,r2,hl2,e2⟩:=I.yE hB
 have hsz:its.toArray.size+its2.toArray.size<=sizeLine:=by rw[Ï,Ï];omega
 have hlong:¬(!its.toArray.isEmpty&&ŧ (its.toArray.size+its2.toArray.size))=true:=by
  rw[wu hsz,Bool.and_false]
  exact Æ
 refine call_meets F.slot_list_extend ⟨_,e,rfl⟩ F.entry_list_extend (F.args_list_extend_2 _ _)
  (AutoSeq1.list_extend_list_list_0 l its.toArray n b its2.toArray n2 hlong (by rw[Ï];omega) (by omega)) ⟨e,e2,?_⟩
 refine⟨.non,_,I.LK (its':=its++its2) hH e (by simp) (r.append r2) ?_,rfl,q⟩
 rw[Å]
 omega
def Kv:R2:=λx y H Q=>∃l b xs zs,x=.ref l/\y=.ref b/\H l=some (.lst xs)/\H b=some (.lst zs)/\xs.length+zs.length<=sizeLine/\∀p,H p=none->Q (.ref p) (upd H p (.lst (xs++zs)))
theorem yh:OpR X (binaryOp .Add) Kv:=by
 intro pins s σ H x y v u Q I rx ry h
 obtain⟨l,b,xs,zs,rfl,rfl,hH,hB,hz,q⟩:=h
 cases rx
 cases ry
 obtain⟨z,its,n,r,hl,e⟩:=I.yE hH
 obtain⟨z2,its2,n2,r2,hl2,e2⟩:=I.yE hB
 refine PySem.P.add_list e e2 ?_ (by rw[Ï,Ï];omega)
 have ea:its.toArray++its2.toArray=(its++its2).toArray:=by simp
 rw[ea]
 exact⟨.ref _,_,I.Pz (t':=s.toks) (r.append r2) (by rw[Å];omega),rfl,q _ I.fresh⟩
def Ow:R2:=λx y H Q=>∃l k xs,x=.ref l/\y=.int k/\H l=some (.lst xs)/\-(2 ^ 63)<=k/\k<2 ^ 63/\xs.length * k.toNat<=sizeLine /\
 ∀p,H p=none->Q (.ref p) (upd H p (.lst (Ì k.toNat xs).flatten))
theorem len_rep{α:Type}(xs:List α)(k:Nat):(Ì k xs).flatten.length=k * xs.length:=by
 induction k with
 |zero=>simp
 |succ k ih=>rw[Ī,ï,Å,ih,Nat.succ_mul,Nat.add_comm]
theorem Lh:OpR X (binaryOp .Mult) Ow:=by
 intro pins s σ H x y v u Q I rx ry h
 obtain⟨l,k,xs,rfl,rfl,hH,h1,h2,hz,q⟩:=h
 cases rx
 obtain⟨t,rfl⟩:=ry
 obtain⟨z,its,n,r,hl,e⟩:=I.yE hH
 have hlen:its.toArray.size * k.toNat<=sizeLine:=by rw[Ï,←hl];exact hz
 have hcap:¬its.toArray.size * k.toNat > (2 ^ 63 - 1) / 8:=by
  have:(sizeLine:Nat)<=(2 ^ 63 - 1) / 8:=by decide
  omega
 have hfit:¬(!Builtin.List.listFitsIndex k)=true:=by
  rw[fitsIndex_both h1 h2]
  exact Æ
 have hlong:¬ŧ (its.toArray.size * k.toNat)=true:=by
  rw[wu hlen]
  exact Æ
 have hnew:List.foldl (λx1 x2=>x1++x2) #[] (Ì (if its.toArray.isEmpty=true then 0 else k.toNat) its.toArray)=(Ì k.toNat its).flatten.toArray:=by
  have f0:∀m:Nat,List.foldl (λx1 x2=>x1++x2) #[] (Ì m its.toArray)=(Ì m its).flatten.toArray:=λm=>by
   have:=foldl_rep its m []
   rw[List.nil_append] at this
   exact this
  rw[f0]
  cases its with
  |nil=>simp
  |cons a r'=>rw[if_neg (by simp)]
 refine wpAny_binaryOp_repeat_ref (T:="list") (U:="int") (by decide) ⟨_,e,rfl⟩ (λs'=>typeIs_int s' k t) noFill_list_mul F.fills_int_mul F.slot_int_rmul repeat_list F.slot_int_index.lookup
  (call_meets F.slot_int_rmul (typeIs_int s k t) F.entry_int_rmul (F.args_int_rmul_2 _ _) (int___rmul___int_list k t l its.toArray n)
   ⟨e,rfl,⟨_,e,rfl⟩,call_meets F.slot_list_mul ⟨_,e,rfl⟩ F.entry_list_mul (F.args_list_mul_2 _ _) (AutoListH.list___mul___list_int_3 l its.toArray n k t hfit hcap hlong) ⟨e,?_⟩⟩)
 rw[hnew]
 exact⟨.ref _,_,I.Pz (t':=s.toks) (r.rep k.toNat) (by rw[len_rep,Nat.mul_comm];exact hz),rfl,q _ I.fresh⟩
end
section
variable {prog:Program}{w:World}{A:Around}{E:Value->Shared->Prop}{s:Shared}
end
section
variable {X:Cx}
end
end L2
namespace Att
open PySem PySem.W PySem.Calls PyProof.Rows
theorem oG{P:Params}{h:Heap}:∀(ns:List Int) (vs:List Value),WellAll P h vs (ns.map WData.int)->IntsAre vs ns:=by
 intro ns
 induction ns with
 |nil =>
  intro vs w
  rw[List.map_nil] at w
  cases w
  exact .nil
 |cons n ns ih =>
  intro vs w
  rw[ê] at w
  cases w with
  |cons a b =>
   cases a
   exact .cons _ _ (ih _ b)
theorem Bl{l:OpenLaw}{n:Nat}(hn:l.most=some n){P:Params}{h:Heap}{args:List WData}{vals:List Value}(hpre:l.row.toRowW.claim.pre args=true)(hwl:WellAll P h vals args) :
  ∃a vs ns,vals=[ń a]/\args=[WData.list (ns.map WData.int)]/\h.get? a=some { cls:=.type "list",data:=.seq vs.toArray }/\IntsAre vs ns/\ns.length<=n:=by
 have hsh:WShape.hasAll [] args [.list .int]=true:=(pre_splitW hpre).1
 have hc:l.pre.holds [] { args:=args }=true:=(pre_splitW hpre).2
 obtain⟨d,r,rfl,h1,h2⟩:=hasAllW_cons hsh
 obtain rfl:=hasAllW_nil h2
 obtain⟨xs,rfl,h3⟩:=hasW_list h1
 obtain⟨ns,rfl⟩:=items_int h3
 have hlen:ns.length<=n:=by
  unfold OpenLaw.pre at hc
  have h4:(WTm.not (.lt (.lit (.int (n:Int))) (.len (.arg 0)))).holds [] { args:=[.list (ns.map .int)] }=true:=by
   have h4:=(holds_andW hc).1
   rw[hn] at h4
   exact h4
  have h5:=condW_of h4 (w_not (w_lt w_lit (w_len_list (w_arg rfl))))
  rw[Á] at h5
  refine Nat.le_of_not_lt λq=>?_
  have q':(n:Int)<((ns.length:Nat):Int):=by omega
  first
   |(rw[decide_eq_true q'] at h5;exact absurd h5 (by decide))
   |(simp at h5;omega)
 cases hwl with
 |cons w1 w2 =>
  cases w2
  cases w1 with
  |list ho hall=>exact⟨_,_,ns,rfl,rfl,ho,oG ns _ hall,hlen⟩
theorem Bp(l:OpenLaw)(args:List WData):l.row.toRowW.claim.post args (.bool true) args=true :=
 postW_of (r:=l.row.toRowW) (X:=(true == true))
  (show WShape.has [] (.bool true) .bool=true by first|rfl|decide|simp[WShape.has,WShape.arms,WShape.armsAll])
  (show(WTm.eq .res (.lit (.bool true))).value [] { args:=args,res:=some (.bool true),after:=args }=some (.bool (true == true)) from w_eq_bool (w_res rfl) w_lit) rfl
theorem xu{l:OpenLaw}{n:Nat}{q:Program}{loose:List Str}{XP:(Str->Option Value)->Heap->Prop}{YP:World->Heap->Prop}{d:DefRec}(hn:l.most=some n)(hdf:d.params.defaults=[])(call:∀(w:World) (s₀ s₁:Shared) (mg mb:Str->Option Value) (fa:Addr) (o:Obj) (pm cd doc:Value) (a:Addr) (vs:List Value) (ns:List Int),
   Ground q loose [] XP w s₀ mg mb s₁.heap->YP w s₁.heap ->
   s₁.heap.get? fa=some o->o.data=.func (docDef d.name d.params d.body d.scope pm cd doc)->s₁.heap.CodeRec cd d.name->mg d.name=some (.ref fa) ->
   s₁.heap.get? a=some { cls:=.type "list",data:=.seq vs.toArray }->IntsAre vs ns->ns.length<=n->s₁.gens=#[] ->
   codeAny (model l.prog w) callerA (.call (.ref fa) ⟨[.ref a],[]⟩) (λr s'=>r=.ok (.ret (.bool true))/\OldK s₁.heap s'.heap/\s'.os=s₁.os/\AllBare s'.gens) s₁) :
  WalkO q loose XP YP l.row.toRowW d [] (λf vs=>PySem.call f vs):=by
 intro w s₀ s₁ mg mb G Y fa o pm cd doc dV kV ho hd hcd hD hmg hg args vals as hpre hlay hrd hwl hlo
 obtain rfl:dV=.none:=Dflts.none hD hdf
 obtain rfl:kV=.none:=Dflts.noKw hD
 obtain⟨a,vs,ns,rfl,rfl,hobj,hints,hlen⟩:=Bl hn hpre hwl
 refine enter_call (codeAny_mono (call w s₀ s₁ mg mb fa o pm cd doc a vs ns G Y ho (fd_plain hd) hcd hmg hobj hints hlen hg) λr s' hq=>?_)
 obtain⟨rfl,h2,h3,h4⟩:=hq
 exact⟨.inl ⟨.bool true,.bool true,[],rfl,λ_=>rfl,.bool true,Bp l _,λ_=>⟨List.Pairwise.nil,λ_ hm=>(nomatch hm)⟩⟩,h2,h3,h4⟩
section
variable {prog:Program}{w:World}{A:Around}{E:Value->Shared->Prop}{s:Shared}{K:Frag}
def ledger(h:Heap)(L d:Addr):List (Addr×Obj):=(è h.objs.size).filterMap λa=>if a=L\/a=d then none else (h.get? a).map λo=>(a,o)
end
end Att
namespace L2
open PySem PySem.Spec PyProof.Rows
theorem mD:∀{vs:List Value}{ns:List Int},IntsAre vs ns->Vals (ns.map V.int) vs
 |_,_,.nil=>.nil
 |_,_,.cons n t h=>.cons ⟨t,rfl⟩ (mD h)
def Only(H:Hp):Prop:=∀b,H b=none\/∃o xs,H b=some (.frz o (.lst xs))
theorem Fv{P:Program}{w:World}{K:Þ}{mg mb:Str->Option Value}{CX:CXT}{k:Nat}{fa a:Addr}{fd:FuncData}{x:Str}{sp:Sp}{s₁:Shared}{vs:List Value}{ns:List Int}(KX:K.In s₁.heap)(hns:s₁.heap.Ns mainGlobals mg)(hb:s₁.heap.Ns builtinsNs mb)(hbb:∀x:Str,x≠"__name__"->mb x=bootBuiltins x)(hlim:s₁.heap.NoLimit)(hg:s₁.gens=#[])(ha:s₁.heap.get? a=some { cls:=.type "list",data:=.seq vs.toArray })(hi:IntsAre vs ns)(hl:ns.length<=sizeLine)(hr:Room k callerA)(F:∀base:Heap,K.In base->base.Ns mainGlobals mg->FnOk P w K mg base CX k fa fd [x] sp)(hbind:∀(s:Shared) (u:Value),BindsTo s fd ⟨[u],[]⟩ [(x,u)])(hsp:∀H:Hp,Only H->SqL K H a (ns.map V.int)->sp [.ref a] H (λv _=>v=.bl true) λ_ _ _=>False)(hCX:∀H e s',CX [] H s₁ (λ_ _ _=>False) e s'->False) :
  codeAny (model P w) callerA (.call (.ref fa) ⟨[.ref a],[]⟩) (λr s'=>r=.ok (.ret (.bool true))/\OldK s₁.heap s'.heap/\s'.os=s₁.os/\AllBare s'.gens) s₁:=by
 have rv:=mD hi
 have lenV:=hi.length
 -- from an abstract heap in which nothing but the script may be tracked
 have core:∀H:Hp,Only H->SqL K H a (ns.map V.int)->HOk P w H s₁.heap->(∀b,H b≠none->b=a)->(H a≠none->K.lookup a=none) ->
   codeAny (model P w) callerA (.call (.ref fa) ⟨[.ref a],[]⟩) (λr s'=>r=.ok (.ret (.bool true))/\OldK s₁.heap s'.heap/\s'.os=s₁.os/\AllBare s'.gens) s₁:=by
  intro H hO hS hok hA hK
  have base_of:∀{b:Addr}{o:Obj},s₁.heap.get? b=some o->H b=none->(uQ s₁.heap H).get? b=some o:=λe n=>Fy e n
  have noA:∀{b:Addr}{o:Obj}{es:Array DictEntry}{ep:Nat},s₁.heap.get? b=some o->o.data=.dict es ep->H b=none:=λ{b o es ep} e d=>by
   cases q:H b with
   |none=>rfl
   |some u =>
    have e':b=a:=hA b (by rw[q];simp)
    subst e'
    rw[ha] at e;cases e
    have d':Data.seq vs.toArray _=Data.dict es ep:=d
    cases d'
  have nsK:∀{b:Addr}{m:Str->Option Value},s₁.heap.Ns b m->(uQ s₁.heap H).Ns b m:=λ{b m} ⟨o,es,ep,e,d,r⟩=>⟨o,es,ep,base_of e (noA e d),d,r⟩
  have hKb:K.In (uQ s₁.heap H):=λb o e=>base_of (KX b o e) (by
   cases q:H b with
   |none=>rfl
   |some u =>
    have e':b=a:=hA b (by rw[q];simp)
    subst e'
    rw[hK (by rw[q];simp)] at e;cases e)
  have hM:Mod K mg (uQ s₁.heap H):=⟨hKb,nsK hns,⟨mb,nsK hb,hbb⟩,let ⟨mc,h1,h2⟩:=hlim;⟨mc,nsK h1,h2⟩⟩
  have e0:Env0 P w K mg (uQ s₁.heap H) callerA [] s₁ H:=⟨rfl,hM,λb o e=>HY e,Nat.le_of_eq (Cd _ _),trivial,λb hb=>absurd (show b∈([]:List Addr) from hb) (by simp),hok,.of_eq hg⟩
  refine codeAny_mono ((F _ hKb (nsK hns)).run callerA [] s₁ H ⟨[.ref a],[]⟩ [.ref a] [.ref a] _ _ hr e0 (hbind s₁ (.ref a)) (.cons rfl .nil) (hsp H hO hS)) λr s' h=>?_
  cases r with
  |error e=>exact(hCX H e s' h).elim
  |ok fl =>
   cases fl with
   |next=>exact Ŝ h
   |brk=>exact Ŝ h
   |cont=>exact Ŝ h
   |ret u =>
    obtain⟨v,H',os,bare,un,hok',r',q⟩:=h
    have q':v=.bl true:=q
    subst q'
    obtain rfl:u=Value.bool true:=r'
    refine⟨rfl,OldK.of_keep λb o e=>?_,os,bare⟩
    cases q:H b with
    |none=>exact un.keep b o e q (by intro z;exact absurd (show b∈([]:List Addr) from z) (by simp)) (by simp)
    |some u =>
     rcases hO b with z|⟨ob,xs,z⟩
     ·rw[q] at z;cases z
     ·have z2:=un.frzs b ob _ z
      obtain⟨e1,_⟩:=hok b _ z
      obtain⟨e2,_⟩:=hok' b _ z2
      rw[e] at e1;cases e1
      exact e2
 cases hk:K.lookup a with
 |some o =>
  -- the script is one of the module's own objects
  have e:=KX a o hk
  rw[ha] at e
  cases e
  refine core (λ_=>none) (λ_=>.inl rfl) (.inr ⟨_,vs.toArray,_,hk,rfl,rfl,rfl,by rw[Ï,lenV];exact hl,by simpa using rv⟩) (λb u z=>by have z':(none:Option HO)=some u:=z;cases z') (λb z=>absurd rfl z) λz=>absurd rfl z
 |none =>
  refine core (λb=>if b=a then some (.frz { cls:=.type "list",data:=.seq vs.toArray } (.lst (ns.map V.int))) else none) (λb=>?_) (.inl (.inr ⟨{ cls:=.type "list",data:=.seq vs.toArray },if_pos rfl⟩)) (λb u z=>?_) (λb z=>?_) λ_=>hk
  ·by_cases hb:b=a
   ·exact .inr ⟨_,_,if_pos hb⟩
   ·exact .inl (if_neg hb)
  ·by_cases hb:b=a
   ·have z':=(if_pos hb).symm.trans z
    cases z'
    subst hb
    exact⟨ha,by rw[Á];exact hl,vs,_,rv,ha⟩
   ·have z':=(if_neg hb).symm.trans z
    cases z'
  ·by_cases hb:b=a
   ·exact hb
   ·exact absurd (if_neg hb) z
theorem GQ{l:W.OpenLaw}{n k:Nat}{q:Program}{loose:List Str}{XP:(Str->Option Value)->Heap->Prop}{YP:World->Heap->Prop}{d:DefRec}{K:Params->Þ}{CX:World->CXT}{sp:World->Sp}{x:Str}(hn:l.most=some n)(hn2:n<=sizeLine)(hdf:d.params.defaults=[])(hr:Room k callerA)(hY:∀(w:World) (h:Heap),YP w h->(K w.params).In h)(F:∀(w:World) (mg:Str->Option Value) (fa:Addr) (h:Heap),(K w.params).In h->h.Ns mainGlobals mg->mg d.name=some (.ref fa) ->
   ∃fd:FuncData,(∀(s:Shared) (u:Value),BindsTo s fd ⟨[u],[]⟩ [(x,u)]) /\
    ∀base:Heap,(K w.params).In base->base.Ns mainGlobals mg->FnOk l.prog w (K w.params) mg base (CX w) k fa fd [x] (sp w))(hsp:∀(w:World) (H:Hp) (a:Addr) (ns:List Int),ns.length<=n->Only H->SqL (K w.params) H a (ns.map V.int)->sp w [.ref a] H (λv _=>v=.bl true) λ_ _ _=>False)(hCX:∀(w:World) (H:Hp) (s:Shared) (e:Value) (s':Shared),CX w [] H s (λ_ _ _=>False) e s'->False) :
  W.WalkO q loose XP YP l.row.toRowW d [] (λf vs=>PySem.call f vs):=by
 refine Att.xu hn hdf λw s₀ s₁ mg mb fa o pm cd doc a vs ns G Y ho hd hcd hmg hobj hints hlen hg=>?_
 have KX:=hY w _ Y
 obtain⟨fd,hb,hF⟩:=F w mg fa _ KX G.T.g hmg
 exact Fv KX G.T.g G.T.b G.T.builtins G.T.nolimit hg hobj hints (ĉ hlen hn2) hr hF hb (λH hO hS=>hsp w H a ns hlen hO hS) λH e s'=>hCX w H s₁ e s'
def jt(s:Stmt):Arguments:=match s with
 |.FunctionDef _ a _ _ _ _ _ _ _ _=>a
 |_=>{ posonlyargs:=[],args:=[],vararg:=none,kwonlyargs:=[],kw_defaults:=[],kwarg:=none,defaults:=[] }
def gM(s:Stmt):List Stmt:=match s with
 |.FunctionDef _ _ b _ _ _ _ _ _ _=>b
 |_=>[]
def aj(s:Stmt):Scope:=match s with
 |.FunctionDef _ _ _ _ _ _ sc _ _ _=>sc
 |_=>{ kind:=.function,names:=[],isGenerator:=false,isCoroutine:=false }
abbrev CX0:CXT:=λ_ _ _ _ _ _=>False
abbrev E0:XK:=λ_ _ _=>False
theorem O7{X:Cx}:Passes CX0 X E0:=λ_ _ _ _ _ _ _ h=>h.elim
structure Fun(K:Þ)(x qual:Str)(st:Stmt)(f:Addr)(fd:FuncData):Prop where
 ex:∃(oc:Value) (od:Option Addr) (kV doc pm:Value) (an:Option Addr) (cdv ct:Value) (osl:Array (Option Value)),
  fd=W.fnOf x qual (jt st) (gM st) (aj st) .none kV doc pm an cdv ct/\K.lookup f=some ⟨oc,od,.func fd,osl⟩/\W.codeIn K cdv qual=true
 kp:W.keepIn K (.ref f)=true
section
variable {P:Program}{w:World}{K:Þ}{mg:Str->Option Value}{base:Heap}
theorem Fun.ok{x qual:Str}{st:Stmt}{f:Addr}{fd:FuncData}{N ps:List Str}{k:Nat}{sp:Sp}(F:Fun K x qual st f fd)(S:FnScope N ps (aj st))(len:∀vs H Q E,sp vs H Q E->vs.length=ps.length)(hbody:∀(cdv:Value) (A:Around) (outer:List Env) (s:Shared) (H:Hp) (vs:List V) (Q:VK) (E:XK),Room k (A.deeper (envOfC qual (aj st) s.heap.objs.size f cdv))->sp vs H Q E ->
   ∃t,PSs (Cg CX0 P w K mg base N qual (aj st) f cdv A outer s H E).nox (gM st) t/\t { nx:=λ_ H'=>Q .non H',rt:=Q } (start N vs) H):FnOk P w K mg base CX0 (k+1) f fd ps sp:=by
 obtain⟨oc,od,kV,doc,pm,an,cdv,ct,osl,rfl,lk,hcd⟩:=F.ex
 refine Qc lk hcd S len λA outer s H vs Q E hr hsp=>?_
 obtain⟨t,h,q⟩:=hbody cdv A outer s H vs Q E hr hsp
 exact⟨t,h.nox,q⟩
theorem Fun.binds{x qual:Str}{st:Stmt}{f:Addr}{fd:FuncData}{ps:List Str}(F:Fun K x qual st f fd)(h:∀(kV doc pm:Value) (an:Option Addr) (cdv ct:Value) (us:List Value),us.length=ps.length->bindArgs (W.fnOf x qual (jt st) (gM st) (aj st) .none kV doc pm an cdv ct) ⟨us,[]⟩=pure (ps.zip us):=by intro _ _ _ _ _ _ us hl;first|(obtain⟨_,rfl⟩:=Nf.len1 us hl;rfl)|(obtain⟨_,_,rfl⟩:=Nf.len2 us hl;rfl)|(obtain⟨_,_,_,rfl⟩:=Nf.Rk us hl;rfl)):Binds K fd ps []:=by
 obtain⟨oc,od,kV,doc,pm,an,cdv,ct,osl,rfl,lk,hcd⟩:=F.ex
 exact .all (h kV doc pm an cdv ct)
theorem Mz{x qual:Str}{st:Stmt}{f:Addr}{oc:Value}{od an:Option Addr}{osl:Array (Option Value)}{kV doc pm cdv ct:Value}(l:K.lookup f=some ⟨oc,od,.func (W.fnOf x qual (jt st) (gM st) (aj st) .none kV doc pm an cdv ct),osl⟩)(c:W.codeIn K cdv qual=true)(k:W.keepIn K (.ref f)=true):Fun K x qual st f (W.fnOf x qual (jt st) (gM st) (aj st) .none kV doc pm an cdv ct):=⟨⟨oc,od,kV,doc,pm,an,cdv,ct,osl,rfl,l,c⟩,k⟩
end
section
variable {X:Cx}
theorem pv(i:Nat){x:Str}{pos:Pos}(hN:X.N[i]?=some x:=by rfl)(hv:Vis X.env.scope x:=by first|exact ĵ rfl|exact Or.inr (ĵ rfl)|exact Or.inr (Or.inr rfl))(hd:(x == ("__debug__":Str))=false:=by decide)(hcd:(x == ("__classdict__":Str))=false:=by decide):PE X (.Name x pos) (pK i):=KZ hN hv hd hcd
end
theorem bF{A B:Prop}(h:B):if false=true then A else B:=by
 rw[if_neg Æ]
 exact h
theorem aL{A B:Prop}(h:A):if true=true then A else B:=by
 rw[if_pos rfl]
 exact h
theorem jx{c A B:Prop}[Decidable c](h1:c->A)(h2:¬c->B):if c then A else B:=by
 by_cases h:c
 ·rw[if_pos h]
  exact h1 h
 ·rw[if_neg h]
  exact h2 h
def Same(H H':Hp):Prop:=∀b o,H b=some o->H' b=some o
theorem Same.refl(H:Hp):Same H H:=λ_ _ h=>h
theorem Same.trans{H H1 H2:Hp}(a:Same H H1)(b:Same H1 H2):Same H H2:=λc o h=>b c o (a c o h)
structure CB where
 cl:List (Str×Addr)
 C:Addr
 s:Shared
 H:Hp
 ex:List Addr
abbrev Cx.aR(X:Cx)(own M:List Str)(scope:Scope)(c:CB):Cx where
 prog:=X.prog
 w:=X.w
 K:=X.K
 mg:=X.mg
 base:=X.base
 A:=X.A
 N:=own++M
 s₀:=c.s
 H₀:=c.H
 env:=compEnvC scope c.cl c.C X.env
 outer:=X.stack
 stack:=X.stack
 ex:=c.ex
 fn:=λx=>scope.names.lookup x == some .cell
 calm:=X.calm
 pn:=[]
 sf:=X.sf
 xe:=λ_ _=>False
abbrev Cx.comp(X:Cx)(own:List Str)(scope:Scope)(c:CB):Cx:=X.aR own X.N scope c
def cM(cells:List (Str×Addr)):List (Str×NameKind)->List (Str×Addr)->List (Str×Addr)
 |[],acc=>acc
 |(n,k)::r,acc=>if k == .free then cM cells r ((n,(cells.lookup n).getD 0)::acc) else cM cells r acc
theorem gO{env:Env}:∀(names:List (Str×NameKind)) (acc:List (Str×Addr)),(∀x∈names,x.2=.free->∃c,env.cells.lookup x.1=some c) ->
  (forIn names acc λ(p:Str×NameKind) (r:List (Str×Addr))=>match p with
   |(name,kind)=>if (kind == ó)=true then do let a ←cellOf env name;pure (ě ((name,a)::r)) else pure (ě r):Sem (List (Str×Addr)))=pure (cM env.cells names acc)
 |[],acc,_=>by simp[cM]
 |(n,k)::r,acc,h=>by
  rw[List.forIn_cons]
  by_cases hk:(k == ó)=true
  ·obtain⟨c,hc⟩:=h (n,k) Í (by simpa using hk)
   have e:cellOf env n=pure c:=by unfold cellOf;rw[hc]
   have ih:=gO (env:=env) r ((n,c)::acc) λx hx=>h x (Î _ hx)
   show((if (k == ó)=true then do let a ←cellOf env n;pure (ě ((n,a)::acc)) else pure (ě acc)) >>= _:Sem _)=_
   rw[if_pos hk,e]
   unfold cM
   rw[if_pos hk,hc]
   exact ih
  ·have ih:=gO (env:=env) r acc λx hx=>h x (Î _ hx)
   show((if (k == ó)=true then do let a ←cellOf env n;pure (ě ((n,a)::acc)) else pure (ě acc)) >>= _:Sem _)=_
   rw[if_neg hk]
   unfold cM
   rw[if_neg hk]
   exact ih
theorem yX{scope:Scope}{env:Env}(h:∀x∈scope.names,x.2=.free->∃c,env.cells.lookup x.1=some c):closureFor scope env=pure (cM env.cells scope.names []):=by
 have e:=gO (env:=env) scope.names [] h
 unfold closureFor
 show(forIn scope.names [] _ >>= λcs=>pure cs:Sem _)=_
 have e2:(forIn scope.names ([]:List (Str×Addr)) λ(p:Str×NameKind) (r:List (Str×Addr))=>match p with
   |(name,kind)=>if (kind == ó)=true then do let a ←cellOf env name;pure (ě ((name,a)::r)) else pure (ě r):Sem (List (Str×Addr)))=pure (cM env.cells scope.names []):=e
 rw[e2]
 rfl
theorem lY{cells:List (Str×Addr)}{x:Str}{c:Addr}:∀{names:List (Str×NameKind)}{acc:List (Str×Addr)},(cM cells names acc).lookup x=some c->acc.lookup x=some c\/((x,ó)∈names/\c=(cells.lookup x).getD 0)
 |[],acc,h=>.inl h
 |(n,k)::r,acc,h=>by
  unfold cM at h
  by_cases hk:(k == ó)=true
  ·rw[if_pos hk] at h
   have hk':k=.free:=by simpa using hk
   rcases lY h with q|⟨q1,q2⟩
   ·rw[į] at q
    cases hx:x == n with
    |true =>
     rw[hx] at q
     have e:x=n:=by simpa using hx
     subst e hk'
     exact .inr ⟨Í,(ã q).symm⟩
    |false=>rw[hx] at q;exact .inl q
   ·exact .inr ⟨Î _ q1,q2⟩
  ·rw[if_neg hk] at h
   rcases lY h with q|⟨q1,q2⟩
   ·exact .inl q
   ·exact .inr ⟨Î _ q1,q2⟩
theorem qQ{cells:List (Str×Addr)}{x:Str}:∀{names:List (Str×NameKind)}{acc:List (Str×Addr)},(acc.lookup x).isSome=true->((cM cells names acc).lookup x).isSome=true
 |[],_,h=>h
 |(n,k)::r,acc,h=>by
  unfold cM
  split
  ·refine qQ ?_
   rw[į]
   cases hx:x == n <;> simp[h]
  ·exact qQ h
theorem jf{cells:List (Str×Addr)}{x:Str}:∀{names:List (Str×NameKind)}{acc:List (Str×Addr)},(x,ó)∈names->((cM cells names acc).lookup x).isSome=true
 |(n,k)::r,acc,h=>by
  unfold cM
  rcases á.mp h with e|h
  ·cases e
   rw[if_pos (by rfl)]
   exact qQ (by simp[į])
  ·split
   ·exact jf h
   ·exact jf h
def dG(env:Env)(scope:Scope)(N:List Str):Bool :=
 (scope.kind == .function)&&scope.names.all λy=>match y.2 with
  |.local=>!(N.contains y.1)&&(scope.names.lookup y.1 == some .local)
  |.cell=>!(N.contains y.1)&&(scope.names.lookup y.1 == some .cell)
  |.free=>(scope.names.lookup y.1 == some .free)&&(env.kindOf y.1 == some .cell || env.kindOf y.1 == some .free)
  |_=>true
theorem cD{env:Env}:∀{names:List (Str×NameKind)}{x:Str}{q:NameKind},(names.map λ(n,k)=>if (k == ó&&env.scope.kind == .function&&env.kindOf n == some .cell) then (n,Ā) else (n,k)).lookup x=some q ->
  ∃k,(x,k)∈names/\names.lookup x=some k/\(q=k\/(q=.cell/\k=.free))
 |[],_,_,h=>by simp at h
 |(n,k)::r,x,q,h=>by
  have ih:=@cD env r x q
  have h':List.lookup x ((if (k == ó&&env.scope.kind == .function&&env.kindOf n == some .cell)=true then (n,Ā) else (n,k))::(r.map λ(n,k)=>if (k == ó&&env.scope.kind == .function&&env.kindOf n == some .cell) then (n,Ā) else (n,k)))=some q:=h
  by_cases hc:(k == ó&&env.scope.kind == .function&&env.kindOf n == some .cell)=true
  ·rw[if_pos hc,į] at h'
   cases hx:x == n with
   |true =>
    rw[hx] at h'
    have e:x=n:=by simpa using hx
    subst e
    have hk:k=.free:=by simp at hc;exact hc.1.1
    exact⟨k,Í,by simp[į],.inr ⟨(ã h').symm,hk⟩⟩
   |false =>
    rw[hx] at h'
    obtain⟨k',h1,h2,h3⟩:=ih h'
    exact⟨k',Î _ h1,by rw[į,hx];exact h2,h3⟩
  ·rw[if_neg hc,į] at h'
   cases hx:x == n with
   |true =>
    rw[hx] at h'
    have e:x=n:=by simpa using hx
    subst e
    exact⟨k,Í,by simp[į],.inl (ã h').symm⟩
   |false =>
    rw[hx] at h'
    obtain⟨k',h1,h2,h3⟩:=ih h'
    exact⟨k',Î _ h1,by rw[į,hx];exact h2,h3⟩
theorem HOk.track{P:Program}{w:World}{H:Hp}{h:Heap}{a:Addr}{o:HO}(x:HOk P w H h)(hn:H a=none)(new:bO P w (upd H a o) h a o):HOk P w (upd H a o) h:=λb u e=>by
 by_cases hb:b=a
 ·subst hb;rw[aq] at e;cases e;exact new
 ·rw[ao hb] at e
  exact(x b u e).stay (λc v _ q=>q) (λc q=>by rw[ao (aD q hn)];exact q) λc xs q=>by rw[ao (aD q hn)];exact q
theorem Ci{prog:Program}{w:World}{A:Around}{s:Shared}{elt target iter:Expr}{ifs:List Expr}{scope:Scope}{pos:Pos}{it acc:Value}{env:Env}{R:Result->Shared->Prop}(I:Nat->Shared->Prop)(turn:∀n s,I n s->wpAny (model prog w) A (pyNext it) (λr s₁=>match r with
   |none=>R (.ok .next) s₁
   |some v=>wpAny (model prog w) A (letOwnedTupleGo target it v) (λ_ s₀=>wpAny (model prog w) A (assign target env v) (λ_ s₂ =>
     wpAny (model prog w) A (forIn ifs true λc r=>if r=true then do let ok ←isTrue c env (eval c env);pure (ě ok) else pure (ě r)) (λok s₃ =>
      if ok=true then wpAny (model prog w) A (eval elt env) (λx s₄ =>
       wpAny (model prog w) A (call (.builtin "list.append") [acc,x]) (λ_ s₅=>∃m,m<n/\I m s₅) (λ_ _=>False) s₄) (λ_ _=>False) s₃
      else ∃m,m<n/\I m s₃) (λ_ _=>False) s₂) (λ_ _=>False) s₀) (λ_ _=>False) s₁) (λ_ _=>False) s)(n:Nat)(h:I n s):codeAny (model prog w) A (.compLoop (.ListComp elt [⟨target,iter,ifs,0⟩] scope pos) 0 it acc env) R s:=by
 refine codeAny_loop rfl I (λn s hI=>?_) n h
 show wpAny _ A ((compTurn (.ListComp elt [⟨target,iter,ifs,0⟩] scope pos) 0 it acc env).onRaise (λx=>do noteFrame x env;theTreesLotGoes x)) _ _ s
 refine wpAny_noted ?_
 rw[compTurn_list]
 refine Ä (wpAny_standAt (Ä (Ŗ (turn n s hI) (λr s₁ h₁=>?_) λ_ _ h'=>h'.elim)))
 cases r with
 |none=>exact Ø h₁
 |some v =>
  refine Ä (Ŗ h₁ (λ_ s₀ h₀'=>?_) λ_ _ h'=>h'.elim)
  refine Ä (Ŗ h₀' (λ_ s₂ h₂=>Ä (Ŗ h₂ (λok s₃ h₃=>?_) λ_ _ h'=>h'.elim)) λ_ _ h'=>h'.elim)
  cases ok with
  |false=>exact Ø ⟨rfl,h₃⟩
  |true =>
   exact Ä (Ä (Ŗ h₃ (λx s₄ h₄=>Ä (Ŗ h₄ (λ_ s₅ h₅=>Ø (Ø ⟨rfl,h₅⟩)) λ_ _ h'=>h'.elim)) λ_ _ h'=>h'.elim))
def PTs(X:Cx)(ifs:List Expr)(t:TT):Prop :=
 ∀(pins:List (Addr×Obj)) (s:Shared) (σ:St) (H:Hp) (Q:Bool->Hp->Prop),Inv X pins σ H s->t σ H Q ->
  wpAny (model X.prog X.w) X.A (forIn ifs true λc r=>if r=true then do let ok ←isTrue c X.env (eval c X.env);pure (ě ok) else pure (ě r)) (TP X pins σ Q) X.xe s
theorem zZ{X:Cx}:PTs X [] (λ_ H Q=>Q true H):=λ_ _ _ H _ I h=>wpAny_tests_nil ⟨H,I,h⟩
theorem Hq{X:Cx}{c:Expr}{t:TT}(hc:PT X c t):PTs X [c] t:=λpins s σ H Q I h=>wpAny_tests_one (hc pins s σ H Q I h)
def GF(J:It)(n:Nat)(g:CB->TG)(tt:CB->TT)(te:CB->TE)(σ:St)(Q:VK)(H:Hp):Prop:=∃W:Nat->Nat->List V->Hp->Prop,(∃m,W 0 m [] H)/\∀(c:CB) i m ys H,W i m ys H ->
 (J.stop i H/\∀p,H p=none->Q (.ref p) (upd H p (.lst ys))) ∨
 (J.go i H/\ys.length<sizeLine/\∃N:List V->Hp->Prop,(∀ys' H',N ys' H'->∃m',m'<m/\W (i+1) m' ys' H')/\∀x H',J.yld i H x H'->g c x (Ì n none++σ) H' λσ2 H2=>tt c σ2 H2 λb H3 =>
  if b=true then te c σ2 H3 λv H4=>N (ys++[v]) H4 else N ys H3)
def tLC(n:Nat)(wi:TI)(g:CB->TG)(tt:CB->TT)(te:CB->TE):TE:=λσ H Q=>wi σ H λJ H1=>GF J n g tt te σ Q H1
section
variable {X:Cx}{own:List Str}{scope:Scope}{tg iter elt:Expr}{ifs:List Expr}{pos:Pos}{wi:TI}{g:CB->TG}{tt:CB->TT}{te:CB->TE}
def aO(env:Env)(scope:Scope)(N M:List Str):Bool :=
 dG env scope M&&((N.length == M.length)&&(N.zip M).all λy=>y.1 == y.2 || ((y.2 == ("":Str))&&scope.names.all λz=>!(z.1 == ("":Str))))
theorem wY{env:Env}{N:List Str}(h:dG env scope N=true):aO env scope N N=true:=by
 unfold aO
 rw[h,Bool.true_and,beq_self_eq_true,Bool.true_and,ø]
 rintro⟨a,b⟩ hy
 obtain⟨i,hi,e⟩:=Ĵ.mp hy
 rw[List.getElem_zip] at e
 cases e
 simp
variable {M:List Str}
theorem dU(h:aO X.env scope X.N M=true):scope.kind=.function:=by
 unfold aO dG at h
 simp only[Ê,beq_iff_eq] at h
 exact h.1.1
theorem bH(h:aO X.env scope X.N M=true):∀y∈scope.names,(y.2=.local->y.1∉M/\scope.names.lookup y.1=some .local)/\(y.2=.cell->y.1∉M/\scope.names.lookup y.1=some .cell)/\(y.2=.free->scope.names.lookup y.1=some .free/\(X.env.kindOf y.1=some .cell\/X.env.kindOf y.1=some .free)):=by
 unfold aO at h
 rw[Ê] at h
 have h:=h.1
 unfold dG at h
 rw[Ê,ø] at h
 intro y hy
 have q:=h.2 y hy
 obtain⟨n,k⟩:=y
 cases k with
 |«local»=>simp at q ⊢;exact q
 |cell=>simp at q ⊢;exact q
 |free=>simp at q ⊢;exact q
 |globalExplicit=>simp
 |globalImplicit=>simp
theorem aV:∀(names:List (Str×NameKind)) (n:Nat) (acc:List (Str×Addr)),cellsFrom n names acc=cellsFrom n names []++acc
 |[],_,_=>rfl
 |(nm,k)::r,n,acc=>by
  show(if (k == Ā)=true then cellsFrom (n+1) r ((nm,n)::acc) else cellsFrom n r acc)=(if (k == Ā)=true then cellsFrom (n+1) r [(nm,n)] else cellsFrom n r [])++acc
  split
  ·rw[aV r (n+1) ((nm,n)::acc),aV r (n+1) [(nm,n)],þ]
   rfl
  ·exact aV r n acc
theorem dY:∀(names:List (Str×NameKind)) (n:Nat) (x:Str) (c:Addr),(x,c)∈cellsFrom n names []->(x,Ā)∈names/\n<=c
 |[],_,_,_,h=>nomatch h
 |(nm,k)::r,n,x,c,h=>by
  have h:(x,c)∈(if (k == Ā)=true then cellsFrom (n+1) r [(nm,n)] else cellsFrom n r []):=h
  split at h
  ·rename_i hk
   rw[aV] at h
   rcases Ð.mp h with z|z
   ·obtain⟨h1,h2⟩:=dY r (n+1) x c z
    exact⟨Î _ h1,by omega⟩
   ·have z:(x,c)=(nm,n):=by simpa using z
    cases z
    have hk:k=.cell:=by simpa using hk
    subst hk
    exact⟨Í,Ë _⟩
  ·obtain⟨h1,h2⟩:=dY r n x c h
   exact⟨Î _ h1,h2⟩
theorem nJ:∀(names:List (Str×NameKind)) (n:Nat) (x y:Str) (c:Addr),(x,c)∈cellsFrom n names []->(y,c)∈cellsFrom n names []->x=y
 |[],_,_,_,_,h,_=>nomatch h
 |(nm,k)::r,n,x,y,c,h,h'=>by
  have h:(x,c)∈(if (k == Ā)=true then cellsFrom (n+1) r [(nm,n)] else cellsFrom n r []):=h
  have h':(y,c)∈(if (k == Ā)=true then cellsFrom (n+1) r [(nm,n)] else cellsFrom n r []):=h'
  by_cases hk:(k == Ā)=true
  ·rw[if_pos hk,aV] at h h'
   rcases Ð.mp h with z|z <;> rcases Ð.mp h' with z'|z'
   ·exact nJ r (n+1) x y c z z'
   ·have:=(dY r (n+1) x c z).2
    have z':(y,c)=(nm,n):=by simpa using z'
    cases z'
    exact absurd this (Nat.not_succ_le_self _)
   ·have:=(dY r (n+1) y c z').2
    have z:(x,c)=(nm,n):=by simpa using z
    cases z
    exact absurd this (Nat.not_succ_le_self _)
   ·have z:(x,c)=(nm,n):=by simpa using z
    have z':(y,c)=(nm,n):=by simpa using z'
    cases z
    cases z'
    rfl
  ·rw[if_neg hk] at h h'
   exact nJ r n x y c h h'
theorem ji:∀(names:List (Str×NameKind)) (h:Heap) (b:Addr) (o:Obj),h.get? b=some o->(pushCells h names).get? b=some o
 |[],_,_,_,e=>e
 |(nm,k)::r,h,b,o,e=>by
  show(if (k == Ā)=true then pushCells (h.push { cls:=ą "cell",data:=Data.cell none }) r else pushCells h r).get? b=some o
  split
  ·exact ji r _ b o (Ö _ e)
  ·exact ji r h b o e
theorem mR:∀(names:List (Str×NameKind)) (h:Heap) (x:Str) (c:Addr),(x,c)∈cellsFrom h.objs.size names []->(pushCells h names).IsCell c none
 |[],_,_,_,e=>nomatch e
 |(nm,k)::r,h,x,c,e=>by
  have e:(x,c)∈(if (k == Ā)=true then cellsFrom (h.objs.size+1) r [(nm,h.objs.size)] else cellsFrom h.objs.size r []):=e
  show(if (k == Ā)=true then pushCells (h.push { cls:=ą "cell",data:=Data.cell none }) r else pushCells h r).IsCell c none
  by_cases hk:(k == Ā)=true
  ·rw[if_pos hk,aV] at e
   rw[if_pos hk]
   rcases Ð.mp e with z|z
   ·exact mR r _ x c (by rw[ũ];exact z)
   ·have z:(x,c)=(nm,h.objs.size):=by simpa using z
    cases z
    exact⟨_,ji r _ _ _ (ç _ rfl),rfl⟩
  ·rw[if_neg hk] at e ⊢
   exact mR r h x c e
theorem yu{M:Model}{A:Around}{E:Value->Shared->Prop}{s:Shared}{scope:Scope}{globals:Addr}{closure:List (Str×Addr)}{qual:Str}{func:Option Addr}{code:Value}{around:Option Env}{builtins:Addr}{Q:Env->Shared->Prop}(h:Q (newEnv scope s.heap.objs.size globals (cellsFrom (s.heap.objs.size+1) scope.names closure) qual func code around builtins) { s with heap:=pushCells (s.heap.push { cls:=ą (if around.isSome=true then "dict" else "frame"),data:=Data.dict #[] }) scope.names }) :
  wpAny M A (newFunctionEnv scope globals closure [] qual func code around builtins) Q E s:=by
 unfold newFunctionEnv
 refine Ä (wpAny_alloc ?_)
 refine Ä (wpAny_layCells _ (λ_ _ _=>rfl) _ _ _ _ ?_)
 rw[ũ]
 exact Ä (Ø (Ø h))
theorem Ng{n:Nat}{names:List (Str×NameKind)}{cl:List (Str×Addr)}{x:Str}{c:Addr}(h:(cellsFrom n names cl).lookup x=some c):(x,c)∈cellsFrom n names []\/cl.lookup x=some c:=by
 rw[aV,List.lookup_append] at h
 cases e:(cellsFrom n names []).lookup x with
 |none=>rw[e] at h;exact .inr h
 |some d =>
  rw[e] at h
  cases h
  exact .inl (Ĺ e)
theorem Gu{n:Nat}{names:List (Str×NameKind)}{cl:List (Str×Addr)}{x:Str}(h:∀c,(x,c)∈cellsFrom n names []->False):(cellsFrom n names cl).lookup x=cl.lookup x:=by
 rw[aV,List.lookup_append]
 cases e:(cellsFrom n names []).lookup x with
 |none=>rfl
 |some d=>exact(h d (Ĺ e)).elim
theorem wN(h:aO X.env scope X.N M=true){n:Nat}{x:Str}(hx:(x,ó)∈scope.names):∀c,(x,c)∈cellsFrom n scope.names []->False:=λc z=>by
 have h1:=((bH h _ hx).2.2 rfl).1
 have h2:=((bH h _ (dY _ _ _ _ z).1).2.1 rfl).2
 rw[h1] at h2
 cases h2
theorem jd(h:aO X.env scope X.N M=true):X.N.length=M.length:=by
 unfold aO at h
 rw[Ê,Ê] at h
 exact eq_of_beq h.2.1
theorem sV{i:Nat}{x:Str}{k:NameKind}(h:aO X.env scope X.N M=true)(hx:M[i]?=some x)(_:x∈M)(hn:(x,k)∈scope.names):X.N[i]?=some x:=by
 have hl:=jd h
 unfold aO at h
 rw[Ê,Ê,ø] at h
 have hi:i<M.length:=(Ó.mp hx).1
 have hx':M[i]=x:=(Ó.mp hx).2
 have hi':i<X.N.length:=by omega
 have q:=h.2.2 (X.N[i],M[i]) (by
  refine List.mem_iff_getElem.mpr ⟨i,by rw[List.length_zip];omega,?_⟩
  rw[List.getElem_zip])
 rw[Bool.or_eq_true] at q
 rcases q with q|q
 ·have q:X.N[i]=M[i]:=eq_of_beq q
  rw[É hi',q,hx']
 ·rw[Ê,ø] at q
  have e:M[i]=("":Str):=eq_of_beq q.1
  have z:=q.2 (x,k) hn
  rw[←hx',e] at z
  simp at z
theorem yW{pins:List (Addr×Obj)}{σ:St}{H:Hp}{s:Shared}{fp:List Addr}{h₁:Heap}{tk:Nat}(hk:aO X.env scope X.N M=true)(I:Inv X pins σ H s)(hf:∀b∈fp,qR X pins H b)(hfo:∀b∈fp,∃o,s.heap.get? b=some o)(hns:h₁.Ns (s.heap.objs.size+1) λ_=>none)(old:∀b o,s.heap.get? b=some o->h₁.get? b=some o)(hD:h₁.get? s.heap.objs.size=some { cls:=.type "list",data:=.seq #[] 0 })(hnc:∀x c,(x,c)∈cellsFrom (s.heap.objs.size+2) scope.names []->h₁.IsCell c none) :
  Inv (X.aR own M scope ⟨cellsFrom (s.heap.objs.size+2) scope.names (cM X.env.cells scope.names []),s.heap.objs.size+1,s,H,fp⟩) [(s.heap.objs.size,{ cls:=.type "list",data:=.seq #[] 0 })] (Ì own.length none++σ) H { s with heap:=h₁,toks:=tk }:=by
 have hkk:=dU hk
 have hka:=bH hk
 have hhas:∀x,(x,ó)∈scope.names->∃c,X.env.cells.lookup x=some c:=λx hx=>I.ok.has x ((hka _ hx).2.2 rfl).2
 have hcl:∀x c,(cM X.env.cells scope.names []).lookup x=some c->X.env.cells.lookup x=some c/\(x,ó)∈scope.names:=λx c e=>by
  rcases lY e with q|⟨q1,q2⟩
  ·simp at q
  ·obtain⟨c',e'⟩:=hhas x q1
   rw[e'] at q2
   exact⟨by rw[e',q2];rfl,q1⟩
 have hcc:∀x c,(cellsFrom (s.heap.objs.size+2) scope.names (cM X.env.cells scope.names [])).lookup x=some c->(X.env.cells.lookup x=some c/\(x,ó)∈scope.names/\c<s.heap.objs.size)\/((x,c)∈cellsFrom (s.heap.objs.size+2) scope.names []/\(x,Ā)∈scope.names/\s.heap.objs.size+2<=c):=λx c e=>by
  rcases Ng e with z|z
  ·exact .inr ⟨z,dY _ _ _ _ z⟩
  ·obtain⟨h1,h2⟩:=hcl x c z
   obtain⟨v,o,ho,_⟩:=I.cell x c h1
   exact .inl ⟨h1,h2,Ô ho⟩
 have hvis:∀x,(relabel scope X.env).names.lookup x=some .cell\/(relabel scope X.env).names.lookup x=some .free->(x,ó)∈scope.names\/(x,Ā)∈scope.names:=λx hx=>by
  have key:∀q,(relabel scope X.env).names.lookup x=some q->q=.cell\/q=.free->(x,ó)∈scope.names\/(x,Ā)∈scope.names:=λq hq hq'=>by
   obtain⟨k,h1,h2,h3⟩:=cD (env:=X.env) (names:=scope.names) hq
   rcases h3 with h3|⟨_,h3⟩
   ·subst h3
    rcases hq' with z|z
    ·rw[z] at h1;exact .inr h1
    ·rw[z] at h1;exact .inl h1
   ·rw[h3] at h1;exact .inl h1
  rcases hx with hx|hx
  ·exact key _ hx (.inl rfl)
  ·exact key _ hx (.inr rfl)
 have hlt:∀b o,s.heap.get? b=some o->b<s.heap.objs.size:=λb o e=>Ô e
 refine⟨⟨I.ok.mod,hkk,I.ok.glob,I.ok.blt,Ō _,λx y c h1 h2=>?inj,λx hx=>?_,λx c z e=>?cab,I.ok.hd,I.ok.frames,.inl rfl,λb hb=>⟨?_,λx c e=>?exf⟩,I.bs,
   ĉ I.ok.bsz I.sz,λb o e hb=>?_,λb hb hs=>?_,I.stack,I.zE,λq hq=>⟨(I.ok.sof q hq).1,I.base.frzs _ _ _ (I.ok.sof q hq).2.1,(I.ok.sof q hq).2.2⟩⟩,rfl,I.bare,Un.kept old,⟨_,hns,λi x v h1 h2 h3=>?_⟩,λx c e=>?_,?_,λx c e=>?frc,λp hp=>?_,I.hok.kept old,?_⟩
 case inj =>
  rcases hcc x c h1 with ⟨a1,_,a3⟩|⟨a1,_,a3⟩ <;> rcases hcc y c h2 with ⟨b1,_,b3⟩|⟨b1,_,b3⟩
  ·exact I.ok.inj x y c a1 b1
  ·exact absurd (é a3 (ĉ (Nat.le_add_right _ 2) b3)) (Ą _)
  ·exact absurd (é b3 (ĉ (Nat.le_add_right _ 2) a3)) (Ą _)
  ·exact nJ _ _ _ _ _ a1 b1
 case cab =>
  show s.heap.objs.size<=c
  rcases hcc x c e with ⟨_,a2,_⟩|⟨_,_,a3⟩
  ·have h1:=((hka _ a2).2.2 rfl).1
   have z:(scope.names.lookup x == some Ā)=true:=z
   rw[h1] at z
   exact absurd z (by decide)
  ·omega
 case exf =>
  rcases hcc x c e with ⟨a1,_,_⟩|⟨_,_,a3⟩
  ·exact(hf b hb).2.2.2.2.1 x c a1
  ·obtain⟨o,e⟩:=hfo b hb
   have:=hlt b o e
   intro z
   subst z
   exact absurd (é this (ĉ (Nat.le_add_right _ 2) a3)) (Ą _)
 case frc =>
  rcases hcc x c e with ⟨a1,_,_⟩|⟨_,_,a3⟩
  ·exact I.freeC x c a1
  ·exact I.hok.fresh (by omega)
 ·have hx':(relabel scope X.env).names.lookup x=some .cell\/(relabel scope X.env).names.lookup x=some .free:=hx
  refine ů.mp (W.cellsFrom_some _ _ _ ?_)
  rcases hvis x hx' with z|z
  ·exact .inr (jf z)
  ·exact .inl ((hka _ z).2.1 rfl).2
 ·obtain⟨o,e⟩:=hfo b hb
  exact ä (Ĉ (hlt b o e))
 ·have hb':b∈fp:=hb
  rcases(hf b hb').2.2.2.1 with z|z
  ·exact I.ok.noex b o e z
  ·exact absurd (é (Ô (I.ok.bs b o e).1) z) (Ą _)
 ·have hb':b∈fp:=hb
  rcases á.mp (I.xO b hs) with z|z
  ·exact(hf b hb').2.1 z
  ·exact(hf b hb').2.2.1 z
 ·have hi:own.length<=i:=by
   by_cases hi:i<own.length
   ·rw[Ć (by simpa using hi),Ŕ] at h2
    split at h2 <;> cases h2
   ·omega
  have h1':M[i - own.length]?=some x:=by
   have q:(own++M)[i]?=some x:=h1
   rwa [ù hi] at q
  have h2':σ[i - own.length]?=some (some v):=by
   rw[ù (by simpa using hi)] at h2
   simpa using h2
  have h3':Vis (relabel scope X.env) x:=h3
  have hfr:(x,ó)∈scope.names:=by
   rcases h3' with z|z
   ·obtain⟨k,q1,q2,q3⟩:=cD (env:=X.env) (names:=scope.names) z
    rcases q3 with q3|⟨q3,_⟩
    ·subst q3
     exact absurd (Ò h1') ((hka _ q1).1 rfl).1
    ·cases q3
   ·rcases hvis x z with y|y
    ·exact y
    ·exact absurd (Ò h1') ((hka _ y).2.1 rfl).1
  have hkx:=((hka _ hfr).2.2 rfl).2
  obtain⟨m,hm,hl⟩:=I.loc
  obtain⟨u,ru,lu⟩:=hl _ x v (sV hk h1' (Ò h1') hfr) h2' (by rcases hkx with z|z;exact .inr (.inl z);exact .inr (.inr z))
  refine⟨u,ru,.inr ⟨?_,?_⟩⟩
  ·rcases h3' with z|z|z
   ·obtain⟨k,q1,q2,q3⟩:=cD (env:=X.env) (names:=scope.names) z
    rcases q3 with q3|⟨q3,_⟩
    ·subst q3
     exact absurd (Ò h1') ((hka _ q1).1 rfl).1
    ·cases q3
   ·exact .inl z
   ·exact .inr z
  ·rcases lu with ⟨z,_⟩|⟨_,c,e,ic⟩
   ·rcases hkx with q|q
    ·rw[q] at z;cases z
    ·rw[q] at z;cases z
   ·obtain⟨c',e'⟩:=ů.mp (jf (cells:=X.env.cells) (acc:=[]) hfr)
    have e2:=(hcl x c' e').1
    rw[e] at e2
    cases e2
    obtain⟨o,ho,hd⟩:=ic
    exact⟨c,(Gu (wN hk hfr)).trans e',o,old _ _ ho,hd⟩
 ·rcases hcc x c e with ⟨z,_,_⟩|⟨z,_,_⟩
  ·obtain⟨v,o,ho,hd⟩:=I.cell x c z
   exact⟨v,o,old _ _ ho,hd⟩
  ·exact⟨none,hnc x c z⟩
 ·exact I.hok.fresh (Ō _)
 ·have hp':p=(s.heap.objs.size,{ cls:=.type "list",data:=.seq #[] 0 }):=by simpa using hp
  subst hp'
  refine⟨hD,I.hok.fresh (Ë _),ä (Nat.lt_succ_self _),λz=>?_,λv z=>nomatch z⟩
  obtain⟨_,o,ho,_⟩:=I.stack.mem z
  exact absurd (Ô ho) (Ą _)
 ·show(Ì own.length none++σ).length=(own++M).length
  rw[Å,Å,List.length_replicate,I.len,jd hk]
theorem yV{pins pn:List (Addr×Obj)}{σ σ':St}{H H':Hp}{s s':Shared}{fp:List Addr}{cl:List (Str×Addr)}{ys:List V}{us:List Value}{n:Nat}(I:Inv X pins σ H s)(hf:∀b∈fp,qR X pins H b)(J:Inv (X.aR own M scope ⟨cl,s.heap.objs.size+1,s,H,fp⟩) pn σ' H' s')(hp:(s.heap.objs.size,({ cls:=.type "list",data:=.seq us.toArray n }:Obj))∈pn)(hv:Vals ys us)(hz:ys.length<=sizeLine) :
  Inv X pins σ (upd H' s.heap.objs.size (.lst ys)) s'/\H' s.heap.objs.size=none:=by
 obtain⟨hD,hDn,_⟩:=J.pin _ (Õ _ hp)
 refine⟨I.call' J.os ⟨λb o e n hb hx=>J.base.keep b o e n hb hx,λb o e n hb hx=>J.base.slot b o e n hb hx,λb o e n hx=>?_,λb o e hx=>J.base.there b o e hx,λb xs e=>?_,λb o u e=>?_,λb ps e=>?_⟩ ?_ J.bare ?_,hDn⟩
 ·rw[ao (ä (Ô e))]
  exact J.base.free b o e n hx
 ·have q:=J.base.tups b xs e
  rw[ao (aD q hDn)]
  exact q
 ·have q:=J.base.frzs b o u e
  rw[ao (aD q hDn)]
  exact q
 ·obtain⟨more,q⟩:=J.base.tbls b ps e
  exact⟨more,by rw[ao (aD q hDn)];exact q⟩
 ·exact J.hok.track hDn ⟨hz,us,n,hv,hD⟩
 ·intro b hb
  exact⟨(hf b hb).2.2.2.1,(hf b hb).2.1,(hf b hb).2.2.2.2.1,(hf b hb).2.2.2.2.2⟩
theorem qP{pins pn:List (Addr×Obj)}{σ σ':St}{H H':Hp}{s s':Shared}{fp:List Addr}{cl:List (Str×Addr)}(hk:aO X.env scope X.N M=true)(I:Inv X pins σ H s)(hf:∀b∈fp,qR X pins H b)(hcl:∀x,(x,ó)∈scope.names->∃c,cl.lookup x=some c/\X.env.cells.lookup x=some c)(J:Inv (X.aR own M scope ⟨cl,s.heap.objs.size+1,s,H,fp⟩) pn σ' H' s'):Inv (X.aR own M scope ⟨cl,s.heap.objs.size+1,s,H,fp⟩) pn (Ì own.length none++σ) H' s':=by
 have hka:=bH hk
 refine⟨J.ok,J.os,J.bare,J.base,?_,J.cell,J.free,J.freeC,J.pin,J.hok,?_⟩
 ·obtain⟨mC,hmC,_⟩:=J.loc
  refine⟨mC,hmC,λi x v h1 h2 h3=>?_⟩
  have hi:own.length<=i:=by
   by_cases hi:i<own.length
   ·rw[Ć (by simpa using hi),Ŕ] at h2
    split at h2 <;> cases h2
   ·omega
  have h1':M[i - own.length]?=some x:=by
   have q:(own++M)[i]?=some x:=h1
   rwa [ù hi] at q
  have h2':σ[i - own.length]?=some (some v):=by
   rw[ù (by simpa using hi)] at h2
   simpa using h2
  have h3':Vis (relabel scope X.env) x:=h3
  have nloc:¬(relabel scope X.env).names.lookup x=some .local:=λz=>by
   obtain⟨k,q1,q2,q3⟩:=cD (env:=X.env) (names:=scope.names) z
   rcases q3 with q3|⟨q3,_⟩
   ·subst q3
    exact absurd (Ò h1') ((hka _ q1).1 rfl).1
   ·cases q3
  have hkk:(relabel scope X.env).names.lookup x=some .cell\/(relabel scope X.env).names.lookup x=some .free:=by
   rcases h3' with z|z
   ·exact absurd z nloc
   ·exact z
  have hfr:(x,ó)∈scope.names:=by
   have key:∀q,(relabel scope X.env).names.lookup x=some q->q=.cell\/q=.free->(x,ó)∈scope.names:=λq hq hq'=>by
    obtain⟨k,h1,h2,h3⟩:=cD (env:=X.env) (names:=scope.names) hq
    rcases h3 with h3|⟨_,h3⟩
    ·subst h3
     rcases hq' with z|z
     ·rw[z] at h1;exact absurd (Ò h1') ((hka _ h1).2.1 rfl).1
     ·rw[z] at h1;exact h1
    ·rw[h3] at h1;exact h1
   rcases hkk with hx|hx
   ·exact key _ hx (.inl rfl)
   ·exact key _ hx (.inr rfl)
  have hkx:=((hka _ hfr).2.2 rfl).2
  obtain⟨m,hm,hl⟩:=I.loc
  obtain⟨u,ru,lu⟩:=hl _ x v (sV hk h1' (Ò h1') hfr) h2' (by rcases hkx with z|z;exact .inr (.inl z);exact .inr (.inr z))
  refine⟨u,ru,.inr ⟨hkk,?_⟩⟩
  rcases lu with ⟨z,_⟩|⟨_,c,e,ic⟩
  ·rcases hkx with q|q
   ·rw[q] at z;cases z
   ·rw[q] at z;cases z
  ·obtain⟨c',e',e2⟩:=hcl x hfr
   rw[e] at e2
   cases e2
   obtain⟨o,ho,hd⟩:=ic
   obtain⟨sl,q⟩:=J.base.any ho (I.freeC x c e) λz=>(hf c z).2.2.2.2.1 x c e rfl
   exact⟨c,e',_,q,hd⟩
 ·show(Ì own.length none++σ).length=(own++M).length
  rw[Å,Å,List.length_replicate,I.len,jd hk]
theorem sO{pins:List (Addr×Obj)}{σ:St}{H:Hp}{s:Shared}{it:Addr}{fp:List Addr}{tn:Nat->Heap->Prop}{J:It}{W:Nat->Nat->List V->Hp->Prop}{E:Value->Shared->Prop}{RR:Value->Addr->Result->Shared->Prop}{Cm:Cx->Prop}(hc:∀c,Cm (X.aR own M scope c))(hk:aO X.env scope X.N M=true)(hg:∀c,PG (X.aR own M scope c) tg (g c))(ht:∀c,PTs (X.aR own M scope c) ifs (tt c))(he:∀c,PE (X.aR own M scope c) elt (te c))(I:Inv X pins σ H s)(T:TurnG Cm X.prog X.w X.K tg J fp it tn)(st:tn 0 s.heap)(hf:∀b∈fp,qR X pins H b){m0:Nat}(w0:W 0 m0 [] H){D:List V->Hp->Prop}(turn:∀(c:CB) i m ys H,W i m ys H->(J.stop i H/\D ys H) ∨
   (J.go i H/\ys.length<sizeLine/\∃N:List V->Hp->Prop,(∀ys' H',N ys' H'->∃m',m'<m/\W (i+1) m' ys' H')/\∀x H',J.yld i H x H'->g c x (Ì own.length none++σ) H' λσ2 H2=>tt c σ2 H2 λb H3 =>
    if b=true then te c σ2 H3 λv H4=>N (ys++[v]) H4 else N ys H3))(fin:∀s' m' ys H',(s'.heap.Ns (s.heap.objs.size+1) m')->H' (s.heap.objs.size+1)=none->H' s.heap.objs.size=none->Inv X pins σ (upd H' s.heap.objs.size (.lst ys)) s'->D ys H'->RR (.ref s.heap.objs.size) (s.heap.objs.size+1) (.ok .next) s') :
  wpAny (model X.prog X.w) X.A (newList []) (λacc s₃=>wpAny (model X.prog X.w) X.A (newFunctionEnv scope X.env.globals (cM X.env.cells scope.names []) [] X.env.qual none .none (some X.env)) (λcenv s₄ =>
   codeAny (model X.prog X.w) X.A (.compStart (.ListComp elt [⟨tg,iter,ifs,0⟩] scope pos) 0 (.ref it) acc { cenv with scope:=relabel scope X.env }) (RR acc cenv.locals) s₄) E s₃) E s:=by
 have hkk:=dU hk
 have hka:=bH hk
 refine wpAny_newObj_type (yu ?_)
 dsimp only
 have hC:(s.heap.push { cls:=.type "list",dict:=none,data:=.seq ([]:List Value).toArray }).objs.size=s.heap.objs.size+1:=ũ ..
 rw[hC]
 generalize hH2:s.heap.push { cls:=.type "list",dict:=none,data:=.seq ([]:List Value).toArray }=H2 at hC ⊢
 generalize hH3:H2.push { cls:=ą (if (some X.env:Option Env).isSome=true then "dict" else "frame"),data:=Data.dict #[] }=H3
 generalize hh1:pushCells H3 scope.names=h₁
 have hC3:H3.objs.size=s.heap.objs.size+2:=by rw[←hH3,ũ,hC]
 have old3:∀b o,H3.get? b=some o->h₁.get? b=some o:=λb o e=>hh1 ▸ ji _ _ _ _ e
 have old2:∀b o,H2.get? b=some o->h₁.get? b=some o:=λb o e=>old3 b o (hH3 ▸ Ö _ e)
 have old:∀b o,s.heap.get? b=some o->h₁.get? b=some o:=λb o e=>old2 b o (hH2 ▸ Ö _ e)
 have hacc:h₁.get? s.heap.objs.size=some { cls:=.type "list",data:=.seq #[] 0 }:=old2 _ _ (hH2 ▸ ç _ rfl)
 have hns:h₁.Ns (s.heap.objs.size+1) λ_=>none:=by
  have z:=Heap.Ns.new H2 (ą (if (some X.env:Option Env).isSome=true then "dict" else "frame"))
  rw[hC,hH3] at z
  exact z.keeps old3
 have hnc:∀x c,(x,c)∈cellsFrom (s.heap.objs.size+2) scope.names []->h₁.IsCell c none:=λx c e=>by
  rw[←hC3] at e
  exact hh1 ▸ mR _ _ _ _ e
 have hfo:∀b∈fp,∃o,s.heap.get? b=some o:=λb hb=>let ⟨o,e,_⟩:=T.obj 0 _ st b hb;⟨o,e⟩
 have st₁:tn 0 h₁:=T.keep 0 _ _ st λb _ o e=>old b o e
 have I₁:=yW (own:=own) (tk:=s.toks) hk I hf hfo hns old hacc hnc
 have loop:∀s₃:Shared,s₃={ s with heap:=h₁,toks:=s.toks } ->
   codeAny (model X.prog X.w) X.A (.compLoop (.ListComp elt [⟨tg,iter,ifs,0⟩] scope pos) 0 (.ref it) (.ref s.heap.objs.size) (compEnvC scope (cellsFrom (s.heap.objs.size+2) scope.names (cM X.env.cells scope.names [])) (s.heap.objs.size+1) X.env))
    (RR (.ref s.heap.objs.size) (s.heap.objs.size+1)) s₃:=by
  rintro s₃ rfl
  have neD:∀b∈fp,b≠s.heap.objs.size:=λb hb=>by
   obtain⟨o,e⟩:=hfo b hb
   exact ä (Ô e)
  have stat:∀{H':Hp}{o:Obj},(∀b∈fp,H' b=none)->∀b∈fp,qR (X.aR own M scope ⟨cellsFrom (s.heap.objs.size+2) scope.names (cM X.env.cells scope.names []),s.heap.objs.size+1,s,H,fp⟩) [(s.heap.objs.size,o)] H' b:=λ{H' o} hn b hb =>
   ⟨hn b hb,(I₁.ok.exf b hb).1,I₁.ok.exfs b hb,.inl hb,(I₁.ok.exf b hb).2,λp hp=>by
    have hp':p=(s.heap.objs.size,o):=by simpa using hp
    subst hp'
    exact ī (neD b hb)⟩
  refine Ci (λk s'=>∃i ys us n H',Inv (X.aR own M scope ⟨cellsFrom (s.heap.objs.size+2) scope.names (cM X.env.cells scope.names []),s.heap.objs.size+1,s,H,fp⟩) [(s.heap.objs.size,{ cls:=.type "list",data:=.seq (us:List Value).toArray n })] (Ì own.length none++σ) H' s' /\
    Vals ys us/\ys.length<=sizeLine/\tn i s'.heap/\(∀b∈fp,H' b=none)/\W i k ys H') ?_ m0 ⟨0,[],[],0,H,I₁,.nil,Ă _,st₁,λb hb=>(hf b hb).1,w0⟩
  rintro k s3 ⟨i,ys,us,n,H3,I3,hv,hz,st3,fr3,w3⟩
  rcases turn ⟨cellsFrom (s.heap.objs.size+2) scope.names (cM X.env.cells scope.names []),s.heap.objs.size+1,s,H,fp⟩ i k ys H3 w3 with ⟨stop,d⟩|⟨go,hlt,N,hN,step⟩
  ·refine thn (T.done (X.aR own M scope ⟨cellsFrom (s.heap.objs.size+2) scope.names (cM X.env.cells scope.names []),s.heap.objs.size+1,s,H,fp⟩) rfl rfl rfl (hc _) i _ s3 _ H3 _ I3 (stat fr3) st3 stop) λr s4 ⟨hr,I4⟩=>?_
   subst hr
   obtain⟨m',hm',_⟩:=I4.loc
   obtain⟨J4,hDn⟩:=yV I hf I4 (È.mpr rfl) hv hz
   exact fin s4 m' ys H3 hm' I4.free hDn J4 d
  ·refine thn (T.item (X.aR own M scope ⟨cellsFrom (s.heap.objs.size+2) scope.names (cM X.env.cells scope.names []),s.heap.objs.size+1,s,H,fp⟩) rfl rfl rfl (hc _) i _ s3 _ H3 _ I3 (stat fr3) st3 go) λr s4 ⟨u,hr,h4⟩=>?_
   subst hr
   refine thn h4 λ_ s5 ⟨x,H5,I5,r5,y5,st5,fr5⟩=>?_
   have I5':=I5.pinned (stat fr5) (T.obj _ _ st5)
   refine thn (hg _ _ s5 _ H5 x u _ I5' r5 (step x H5 y5)) λ_ s6 ⟨σ6,H6,I6,q6⟩=>?_
   refine thn (ht _ _ s6 σ6 H6 _ I6 q6) λb s7 ⟨H7,I7,q7⟩=>?_
   -- the turn's end: the iterator's records stand,the names are forgotten
   have clH:∀x,(x,ó)∈scope.names->∃c,(cellsFrom (s.heap.objs.size+2) scope.names (cM X.env.cells scope.names [])).lookup x=some c/\X.env.cells.lookup x=some c:=λx hx=>by
    obtain⟨c,e⟩:=I.ok.has x ((hka _ hx).2.2 rfl).2
    obtain⟨c',e'⟩:=ů.mp (jf (cells:=X.env.cells) (acc:=[]) hx)
    rcases lY e' with q|⟨_,q⟩
    ·simp at q
    ·rw[e] at q
     exact⟨c',(Gu (wN hk hx)).trans e',by rw[e,q];rfl⟩
   have keepT:∀{H':Hp}{σ':St}{s':Shared}{pn:List (Addr×Obj)},(∀p∈iy fp s5.heap,p∈pn)->Inv (X.aR own M scope ⟨cellsFrom (s.heap.objs.size+2) scope.names (cM X.env.cells scope.names []),s.heap.objs.size+1,s,H,fp⟩) pn σ' H' s'->tn (i+1) s'.heap/\∀b∈fp,H' b=none:=λ{H' σ' s' pn} hs I' =>
    ⟨T.keep _ _ _ st5 λb hb o e=>(I'.pin (b,o) (Õ _ (hs _ (gF hb e)))).1,λb hb=>by
     obtain⟨o,e,_⟩:=T.obj _ _ st5 b hb
     exact(I'.pin (b,o) (Õ _ (hs _ (gF hb e)))).2.1⟩
   cases b with
   |false =>
    rw[if_neg Æ]
    rw[if_neg Æ] at q7
    obtain⟨m',hm',w7⟩:=hN _ _ q7
    obtain⟨t7,f7⟩:=keepT (λp hp=>Õ _ hp) I7
    exact⟨m',hm',i+1,ys,us,n,H7,qP hk I hf clH I7.jO,hv,hz,t7,f7,w7⟩
   |true =>
    rw[if_pos rfl]
    rw[if_pos rfl] at q7
    refine thn (he _ _ s7 σ6 H7 _ I7 q7) λu8 s8 ⟨v8,H8,I8,r8,q8⟩=>?_
    obtain⟨m',hm',w8⟩:=hN _ _ q8
    obtain⟨t8,f8⟩:=keepT (λp hp=>Õ _ hp) I8
    obtain⟨hD8,nD8,lD8,fD8,_⟩:=I8.pin (s.heap.objs.size,{ cls:=.type "list",data:=.seq us.toArray n }) (Õ _ (ô _ (È.mpr rfl)))
    refine append_at (hsz:=by rw[Ï,←hv.length];exact Nat.le_of_lt hlt) hD8 λh9 hs9 hD9=>?_
    have J8:Inv (X.aR own M scope ⟨cellsFrom (s.heap.objs.size+2) scope.names (cM X.env.cells scope.names []),s.heap.objs.size+1,s,H,fp⟩) (iy fp s5.heap) σ6 H8 s8:=I8.oY λp hp=>I8.pin p (Õ _ (Õ _ hp))
    have J9:Inv (X.aR own M scope ⟨cellsFrom (s.heap.objs.size+2) scope.names (cM X.env.cells scope.names []),s.heap.objs.size+1,s,H,fp⟩) (iy fp s5.heap) σ6 H8 { s8 with heap:=h9 }:=J8.turned (t':=s8.toks) (it:=s.heap.objs.size) (λb o hb e=>(hs9.2 b hb).trans e) nD8 lD8 (.inr (Ë _))
     (λx c e z=>by
      obtain⟨v,o,ho,hd⟩:=J8.cell x c e
      rw[z,hD8] at ho
      cases ho
      cases hd)
     (λp hp=>by
      have hp':p∈iy fp s5.heap:=by simpa using hp
      exact neD _ (rW hp').1)
    obtain⟨t9,f9⟩:=keepT (λp hp=>hp) J9
    have e9:h9.get? s.heap.objs.size=some { cls:=.type "list",data:=.seq (us++[u8]).toArray (n+1) }:=by
     rw[hD9,List.push_toArray]
    have J9':Inv (X.aR own M scope ⟨cellsFrom (s.heap.objs.size+2) scope.names (cM X.env.cells scope.names []),s.heap.objs.size+1,s,H,fp⟩) [(s.heap.objs.size,{ cls:=.type "list",data:=.seq (us++[u8]).toArray (n+1) })] σ6 H8 { s8 with heap:=h9 }:=J9.oY λp hp=>by
     have hp':p=(s.heap.objs.size,{ cls:=.type "list",data:=.seq (us++[u8]).toArray (n+1) }):=by simpa using hp
     subst hp'
     exact⟨e9,nD8,lD8,fD8,λv z=>nomatch z⟩
    exact⟨m',hm',i+1,ys++[v8],us++[u8],n+1,H8,qP hk I hf clH J9',hv.append (.cons r8 .nil),by rw[Å,š];exact hlt,t9,f9,w8⟩
 exact codeAny_compStart_list (loop _ rfl) (T.self _ 0 _ _ _ st₁ (loop _ rfl))
theorem sU{pins:List (Addr×Obj)}{σ:St}{H:Hp}{s:Shared}(hk:aO X.env scope X.N M=true)(I:Inv X pins σ H s):closureFor scope X.env=pure (cM X.env.cells scope.names []) :=
 yX λx hx hf=>I.ok.has x.1 ((bH hk x hx).2.2 hf).2
theorem sS{pins:List (Addr×Obj)}{σ:St}{H:Hp}{s s':Shared}{C:Addr}{h':Heap}{m:Str->Option Value}(I:Inv X pins σ H s')(hs:X.s₀.heap.objs.size<=C)(hC:C≠X.env.locals)(hcl:∀x c,X.env.cells.lookup x=some c->c≠C)(hp:∀p∈X.pn++pins,p.1≠C)(hn:H C=none)(hb:Heap.SameBut C s'.heap h'):Inv X pins σ H { s' with heap:=h' }:=I.turned (t':=s'.toks) (λb o hb' e=>(hb.2 b hb').trans e) hn hC (.inr hs) hcl hp
theorem DQ(own M:List Str)(hc:X.calm=true)(hi:PI X tg iter wi)(hg:∀c,PG (X.aR own M scope c) tg (g c))(ht:∀c,PTs (X.aR own M scope c) ifs (tt c))(he:∀c,PE (X.aR own M scope c) elt (te c))(hk:aO X.env scope X.N M=true:=by rfl)(hs:∀x,foldedSetIterable iter X.env x=pure x:=by intro _;rfl) :
  PE X (.ListComp elt [⟨tg,iter,ifs,0⟩] scope pos) (tLC own.length wi g tt te):=by
 intro pins s σ H Q I h
 rw[eval_ListComp]
 have hka:=bH hk
 refine wpAny_comprehension_free (use:=none) rfl hs (sU hk I) (dU hk) (λx hx hl=>((hka x hx).1 hl).2) (thn (hi pins s σ H _ I h) λv s1 h1=>thn h1 λitv s2 h2=>?_)
 obtain⟨it,fp,tn,J,H2,e,I2,T,st2,f2,W,⟨m0,w0⟩,turn⟩:=h2
 subst e
 refine sO (RR:=λacc C=>compPost (model X.prog X.w) X.A X.xe none (EP X pins σ Q) acc C) (D:=λys H=>∀p,H p=none->Q (.ref p) (upd H p (.lst ys))) (λ_=>hc) hk hg ht he I2 T st2 f2 w0 turn ?_
 intro s' m' ys H' hns hCn hDn J' d
 have lt2:∀{b:Addr}{o:Obj},s2.heap.get? b=some o->b≠s2.heap.objs.size+1:=λe=>ä (Ĉ (Ô e))
 refine⟨m',hns,λh' hb=>⟨.ref s2.heap.objs.size,_,sS (m:=m') (s:=s2) J' (ĉ I2.sz (Ō _)) (ī (ä (Ĉ I2.lt))) (λx c e=>?_) (λp hp=>?_) ?_ hb,rfl,d _ hDn⟩⟩
 ·obtain⟨v,o,ho,_⟩:=I2.cell x c e
  exact lt2 ho
 ·exact lt2 (I2.pin p hp).1
 ·rw[ao (Nat.ne_of_gt (Nat.lt_succ_self _))]
  exact hCn
theorem Hr{Cm:Cx->Prop}(own M:List Str){i:Nat}{y:Str}{py spos:Pos}(hc:∀c,Cm (X.aR own M scope c))(hN:X.N.Nodup)(hiN:X.N[i]?=some y)(hx:Loc X.env.scope y)(hi:PIG Cm X tg iter wi)(hg:∀c,PG (X.aR own M scope c) tg (g c))(ht:∀c,PTs (X.aR own M scope c) ifs (tt c))(he:∀c,PE (X.aR own M scope c) elt (te c))(hsw:swapsWith (.ListComp elt [⟨tg,iter,ifs,0⟩] scope pos) (some (.Name y py)) spos.line X.env=pure true:=by rfl)(hk:aO X.env scope X.N M=true:=by rfl)(hs:∀x,foldedSetIterable iter X.env x=pure x:=by intro _;rfl)(hf:X.fn y=true\/X.env.scope.names.lookup y=some .local:=by first|exact .inl rfl|exact .inr rfl|assumption) :
  PS X (.Assign [.Name y py] (.ListComp elt [⟨tg,iter,ifs,0⟩] scope pos) spos) (pN (tLC own.length wi g tt te) (gY i)):=by
 intro pins s σ H D I h
 rw[exec_Assign_Name_used _ _ _ _ hsw]
 have hka:=bH hk
 refine Ä (wpAny_standAt (Ä ?_))
 show wpAny _ X.A (do let _ ←comprehension (.ListComp elt [⟨tg,iter,ifs,0⟩] scope pos) scope X.env _ (newList []) false (eval iter X.env) (some (assign (.Name y py) X.env))) _ _ s
 refine Ä (Ŗ (wpAny_comprehension_free (use:=some (assign (.Name y py) X.env)) (Q:=λ_ s'=>SP X pins D .next s') rfl hs (sU hk I) (dU hk) (λx hx hl=>((hka x hx).1 hl).2)
  (thn (hi pins s σ H _ I h) λv s1 h1=>thn h1 λitv s2 h2=>?_)) (λ_ s' hq=>Ø (Ø hq)) λ_ _ e=>e)
 obtain⟨it,fp,tn,J,H2,e,I2,T,st2,f2,W,⟨m0,w0⟩,turn⟩:=h2
 subst e
 refine sO (RR:=λacc C=>compPost (model X.prog X.w) X.A X.xe (some (assign (.Name y py) X.env)) (λ_ s'=>SP X pins D .next s') acc C) (D:=λys H=>∀p,H p=none->gY i (.ref p) σ (upd H p (.lst ys)) D.nx) hc hk hg ht he I2 T st2 f2 w0 turn ?_
 intro s' m' ys H' hns hCn hDn J' d
 have lt2:∀{b:Addr}{o:Obj},s2.heap.get? b=some o->b≠s2.heap.objs.size+1:=λe=>ä (Ĉ (Ô e))
 show wpAny _ X.A (assign (.Name y py) X.env (.ref s2.heap.objs.size)) _ _ _
 refine wpAny_assign_Name (rN (v:=.ref s2.heap.objs.size) J' (λj h=>wz hN h hiN) hiN hx rfl (λs'' J'' ⟨a,hsb,ha⟩=>?_) hf)
 have hLne:X.env.locals≠s2.heap.objs.size+1:=ä (Ĉ I2.lt)
 have hCa:s2.heap.objs.size+1≠a:=by
  rcases ha with ha|ha
  ·rw[ha];exact ī hLne
  ·obtain⟨v,o,ho,_⟩:=I2.cell _ _ ha
   exact ī (lt2 ho)
 refine⟨m',hns.sameBut hsb hCa,λh' hb=>⟨_,_,sS (m:=m') (s:=s2) J'' (ĉ I2.sz (Ō _)) (ī hLne) (λx c e=>?_) (λp hp=>?_) ?_ hb,d _ hDn⟩⟩
 ·obtain⟨v,o,ho,_⟩:=I2.cell x c e
  exact lt2 ho
 ·exact lt2 (I2.pin p hp).1
 ·rw[ao (Nat.ne_of_gt (Nat.lt_succ_self _))]
  exact hCn
theorem KH(own M:List Str){i:Nat}{y:Str}{py spos:Pos}(hc:X.calm=true)(hN:X.N.Nodup)(hiN:X.N[i]?=some y)(hx:Loc X.env.scope y)(hi:PI X tg iter wi)(hg:∀c,PG (X.aR own M scope c) tg (g c))(ht:∀c,PTs (X.aR own M scope c) ifs (tt c))(he:∀c,PE (X.aR own M scope c) elt (te c))(hsw:swapsWith (.ListComp elt [⟨tg,iter,ifs,0⟩] scope pos) (some (.Name y py)) spos.line X.env=pure true:=by rfl)(hk:aO X.env scope X.N M=true:=by rfl)(hs:∀x,foldedSetIterable iter X.env x=pure x:=by intro _;rfl)(hf:X.fn y=true\/X.env.scope.names.lookup y=some .local:=by first|exact .inl rfl|exact .inr rfl|assumption) :
  PS X (.Assign [.Name y py] (.ListComp elt [⟨tg,iter,ifs,0⟩] scope pos) spos) (pN (tLC own.length wi g tt te) (gY i)):=Hr own M (λ_=>hc) hN hiN hx hi hg ht he hsw hk hs hf
theorem JC(own:List Str)(hc:X.calm=true)(hi:PI X tg iter wi)(hg:∀c,PG (X.comp own scope c) tg (g c))(ht:∀c,PTs (X.comp own scope c) ifs (tt c))(he:∀c,PE (X.comp own scope c) elt (te c))(hk:dG X.env scope X.N=true:=by rfl)(hs:∀x,foldedSetIterable iter X.env x=pure x:=by intro _;rfl) :
  PE X (.ListComp elt [⟨tg,iter,ifs,0⟩] scope pos) (tLC own.length wi g tt te):=DQ own X.N hc hi hg ht he (wY hk) hs
theorem JB(own:List Str){i:Nat}{y:Str}{py spos:Pos}(hc:X.calm=true)(hN:X.N.Nodup)(hiN:X.N[i]?=some y)(hx:Loc X.env.scope y)(hi:PI X tg iter wi)(hg:∀c,PG (X.comp own scope c) tg (g c))(ht:∀c,PTs (X.comp own scope c) ifs (tt c))(he:∀c,PE (X.comp own scope c) elt (te c))(hsw:swapsWith (.ListComp elt [⟨tg,iter,ifs,0⟩] scope pos) (some (.Name y py)) spos.line X.env=pure true:=by rfl)(hk:dG X.env scope X.N=true:=by rfl)(hs:∀x,foldedSetIterable iter X.env x=pure x:=by intro _;rfl)(hf:X.fn y=true\/X.env.scope.names.lookup y=some .local:=by first|exact .inl rfl|exact .inr rfl|assumption) :
  PS X (.Assign [.Name y py] (.ListComp elt [⟨tg,iter,ifs,0⟩] scope pos) spos) (pN (tLC own.length wi g tt te) (gY i)):=KH own X.N hc hN hiN hx hi hg ht he hsw (wY hk) hs hf
end
section
variable {X:Cx}{tg:Expr}{K:Þ}{g:CB->TG}{tt:CB->TT}{te:CB->TE}{σ:St}{H:Hp}{Q:VK}{n:Nat}
def Ro(K:Þ)(tl:TE):TI:=λσ H R=>tl σ H λx H1=>∃a,x=.ref a/\(((∃xs,SqL K H1 a xs)/\R (Itl K a) H1)\/((∃xs,SqT K H1 a xs)/\R (Itt K a) H1))
theorem KQ{l:Expr}{tl:TE}(hl:PE X l tl):PI X tg l (Ro X.K tl):=by
 intro pins s σ H R I h
 refine thn (hl pins s σ H _ I h) λv s1 ⟨x,H1,I1,r1,q1⟩=>?_
 obtain⟨a,e,q1⟩:=q1
 subst e
 cases r1
 rcases q1 with ⟨⟨xs,hq⟩,q⟩|⟨⟨xs,hq⟩,q⟩
 ·obtain⟨its,rv,p,hz⟩:=I1.list hq
  refine wpAny_pyIter_list p.isList ?_
  refine⟨s1.heap.objs.size,[s1.heap.objs.size],_,_,H1,rfl,I1.kept (t':=s1.toks) λb o e=>Ö _ e,Bd a _,⟨_,ç _ rfl,rfl,rfl⟩,λb hb=>?_,q⟩
  have e:b=s1.heap.objs.size:=by simpa using hb
  subst e
  exact I1.MF (Ë _) (I1.hok.fresh (Ë _))
 ·obtain⟨its,rv,p,hz⟩:=I1.tuple hq
  refine wpAny_pyIter_tuple (show s1.heap.IsTuple a its.toArray from p) ?_
  refine⟨s1.heap.objs.size,[s1.heap.objs.size],_,_,H1,rfl,I1.kept (t':=s1.toks) λb o e=>Ö _ e,xK a _,⟨_,ç _ rfl,rfl,rfl⟩,λb hb=>?_,q⟩
  have e:b=s1.heap.objs.size:=by simpa using hb
  subst e
  exact I1.MF (Ë _) (I1.hok.fresh (Ë _))
theorem Mg{J:It}(k:Nat)(hk:k<=1000)(Pv:Nat->List V->Hp->Prop)(h0:Pv 0 [] H)(hgo:∀i ys H,i<k->Pv i ys H->J.go i H)(hst:∀ys H,Pv k ys H->J.stop k H)(hl:∀i ys H,Pv i ys H->ys.length<=i)(hs:∀c i x ys H H',i<k->J.yld i H x H'->Pv i ys H->g c x (Ì n none++σ) H' λσ2 H2=>tt c σ2 H2 λb H3=>if b=true then te c σ2 H3 λv H4=>Pv (i+1) (ys++[v]) H4 else Pv (i+1) ys H3)(hd:∀ys H,Pv k ys H->∀p,H p=none->Q (.ref p) (upd H p (.lst ys))):GF J n g tt te σ Q H:=by
 refine⟨λi m ys H=>m=k - i/\i<=k/\Pv i ys H,⟨k,by simp,Ă _,h0⟩,?_⟩
 rintro c i m ys H ⟨rfl,hi,p⟩
 by_cases hlt:i<k
 ·refine .inr ⟨hgo i ys H hlt p,?_,Pv (i+1),λys' H' p'=>⟨k - (i+1),by omega,rfl,hlt,p'⟩,λx H' y=>hs c i x ys H H' hlt y p⟩
  have:=hl i ys H p
  have h24:=í
  omega
 ·have e:i=k:=by omega
  subst e
  exact .inl ⟨hst ys H p,hd ys H p⟩
theorem Mf{lo:Int}{k:Nat}(hk:k<=1000)(Pv:Nat->List V->Hp->Prop)(h0:Pv 0 [] H)(hl:∀i ys H,Pv i ys H->ys.length<=i)(hs:∀c i ys H,i<k->Pv i ys H->g c (.int (lo+i)) (Ì n none++σ) H λσ2 H2=>tt c σ2 H2 λb H3=>if b=true then te c σ2 H3 λv H4=>Pv (i+1) (ys++[v]) H4 else Pv (i+1) ys H3)(hd:∀ys H,Pv k ys H->∀p,H p=none->Q (.ref p) (upd H p (.lst ys))):GF (Itr lo k) n g tt te σ Q H :=
 Mg k hk Pv h0 (λi ys H hi p=>hi) (λys H p=>Ë k) hl (λc i x ys H H' hi y p=>by
  obtain⟨e,y⟩:=y
  subst e y
  exact hs c i ys _ hi p) hd
end
end L2
namespace NfSort
open PySem PySem.W PyProof.Rows
def kwp{α:Type}(n:Nat)(key:Nat->Int):KasT α->(α->Prop)->Prop
 |.ret a,Q=>Q a
 |.ask i j k,Q=>i<n/\j<n/\kwp n key (k (decide (key i<key j))) Q
theorem bB{α:Type}{n:Nat}{key:Nat->Int}{Q Q':α->Prop}(h:∀a,Q a->Q' a):∀{t:KasT α},kwp n key t Q->kwp n key t Q'
 |.ret a,q=>h a q
 |.ask _ _ k,q=>⟨q.1,q.2.1,bB h q.2.2⟩
theorem d9{α β:Type}{n:Nat}{key:Nat->Int}{f:α->KasT β}{Q:β->Prop}:∀{t:KasT α},kwp n key t (λa=>kwp n key (f a) Q)->kwp n key (t.bind f) Q
 |.ret a,q=>q
 |.ask _ _ k,q=>⟨q.1,q.2.1,d9 q.2.2⟩
theorem uO{α:Type}{n:Nat}{key:Nat->Int}{cmp:Nat->Nat->(Bool->Shared->Prop)->Shared->Prop}{s:Shared}{G:α->Shared->Prop}(hc:∀i j C,i<n->j<n->C (decide (key i<key j)) s->cmp i j C s) :
  ∀{t:KasT α},kwp n key t (λa=>G a s)->t.kasWp cmp G s
 |.ret _,q=>q
 |.ask i j k,q=>hc i j _ q.1 q.2.1 (uO hc q.2.2)
section
variable {n:Nat}{key:Nat->Int}{p:Array Nat}
def Pm(n:Nat)(p:Array Nat):Prop:=p.Perm (è n).toArray
def kk(key:Nat->Int)(p:Array Nat)(i:Nat):Int:=key (p.getD i 0)
theorem Pm.size(h:Pm n p):p.size=n:=by
 have:=Array.Perm.size_eq h
 simpa using this
theorem getD_eq(p:Array Nat)(i:Nat):p.getD i 0=(p[i]?).getD 0:=by
 by_cases h:i<p.size <;> simp[Array.getD,h]
theorem Pm.lt(h:Pm n p){i:Nat}(hi:i<n):p.getD i 0<n:=by
 have hs:=h.size
 have hi':i<p.size:=by omega
 have hm:p[i]∈p.toList:=by
  have:=Array.getElem_mem hi'
  simpa using this
 have hp:p.toList.Perm (è n):=by
  have:=Ũ.mp h
  simpa using this
 have e:p.getD i 0=p[i]:=by simp[Array.getD,hi']
 rw[e]
 exact ĳ.mp (hp.mem_iff.mp hm)
theorem Pm.rev(h:Pm n p)(i j:Nat):Pm n (kas_rev p i j):=Array.Perm.trans (mirror_perm _ _ _ _) h
theorem Pm.bub(h:Pm n p)(i j:Nat):Pm n (bubble p i j):=Array.Perm.trans (bubble_perm _ _ _) h
theorem uP(h:Pm n p){i j:Nat}(hj:j<=n)(t:Nat):kk key (kas_rev p i j) t=if i<=t/\t<j then kk key p (i+j - 1 - t) else kk key p t:=by
 unfold kk kas_rev
 rw[getD_eq,getElem?_mirror_all (by rw[h.size];exact hj)]
 split
 ·rw[getD_eq]
 ·rw[getD_eq]
theorem Mh(h:Pm n p){k l:Nat}(hk:k<n)(hl:l<=k)(t:Nat):kk key (bubble p k (k - l)) t=if t=l then kk key p k else if l<t/\t<=k then kk key p (t - 1) else kk key p t:=by
 unfold kk
 rw[getD_eq,getElem?_bubble (by rw[h.size];exact hk) _ (by omega)]
 have e:k - (k - l)=l:=by omega
 rw[e]
 split
 ·rw[getD_eq]
 ·split
  ·rw[getD_eq]
  ·rw[getD_eq]
def Up(key:Nat->Int)(p:Array Nat)(m:Nat):Prop:=∀i j,i<=j->j<m->kk key p i<=kk key p j
def Dn(key:Nat->Int)(p:Array Nat)(m:Nat):Prop:=∀i j,i<=j->j<m->kk key p j<=kk key p i
def Rn(key:Nat->Int)(p:Array Nat)(m q:Nat):Prop:=q+1<=m/\∀t,m<=t+q+1->t<m->kk key p t=kk key p (m - 1)
theorem Up.more{a:Nat}(h:Up key p a)(h1:1<=a)(hx:kk key p (a - 1)<=kk key p a):Up key p (a+1):=λi j hij hj=>by
 by_cases hja:j<a
 ·exact h i j hij hja
 ·obtain rfl:j=a:=by omega
  by_cases hi:i=j
  ·subst hi;exact ÿ _
  ·exact ē (h i (j - 1) (by omega) (by omega)) hx
theorem Dn.more{a:Nat}(h:Dn key p a)(h1:1<=a)(hx:kk key p a<=kk key p (a - 1)):Dn key p (a+1):=λi j hij hj=>by
 by_cases hja:j<a
 ·exact h i j hij hja
 ·obtain rfl:j=a:=by omega
  by_cases hi:i=j
  ·subst hi;exact ÿ _
  ·exact ē hx (h i (j - 1) (by omega) (by omega))
theorem zf(hp:Pm n p):∀(f a:Nat),1<=a->a+f<=n->Up key p a->kwp n key (kas_asc p f a) (λm=>a<=m/\m<=a+f/\Up key p m/\(m<a+f->kk key p m<kk key p (m - 1)))
 |0,a,h1,hf,hu=>⟨Ë _,Ë _,hu,λh=>absurd h (by omega)⟩
 |f+1,a,h1,hf,hu=>by
  refine⟨hp.lt (by omega),hp.lt (by omega),?_⟩
  by_cases hc:key (p.getD a 0)<key (p.getD (a - 1) 0)
  ·(rw[decide_eq_true hc];dsimp only;rw[if_pos rfl])
   exact⟨Ë _,by omega,hu,λ_=>hc⟩
  ·(rw[decide_eq_false hc];dsimp only;rw[if_neg Æ])
   refine bB (λm ⟨a1,a2,a3,a4⟩=>⟨by omega,by omega,a3,λh=>a4 (by omega)⟩) (zf hp f (a+1) (by omega) (by omega) (hu.more h1 (ł.mp hc)))
theorem zU(hp:Pm n p){a q:Nat}(ha:a<=n)(hr:Rn key p a q)(t:Nat):kk key (kas_rev p (a - (q+1)) a) t=kk key p t:=by
 rw[uP hp ha]
 split
 ·rename_i h
  rw[hr.2 t (by omega) h.2]
  exact hr.2 _ (by have:=hr.1;omega) (by omega)
 ·rfl
theorem Dn.eq{p':Array Nat}{m:Nat}(h:Dn key p m)(e:∀t,kk key p' t=kk key p t):Dn key p' m:=λi j a b=>by rw[e,e];exact h i j a b
theorem Aq:∀(f:Nat) (p:Array Nat) (a q:Nat),Pm n p->1<=a->a+f<=n->Dn key p a->Rn key p a q ->
  kwp n key (kas_desc f p a q) (λr=>Pm n r.1/\a<=r.2.1/\r.2.1<=a+f/\Dn key r.1 r.2.1/\Rn key r.1 r.2.1 r.2.2)
 |0,p,a,q,hp,h1,hf,hd,hr=>⟨hp,Ë _,Ë _,hd,hr⟩
 |f+1,p,a,q,hp,h1,hf,hd,hr=>by
  refine⟨hp.lt (by omega),hp.lt (by omega),?_⟩
  have fin:∀{p':Array Nat}{q':Nat},Pm n p'->Dn key p' (a+1)->Rn key p' (a+1) q'->kwp n key (kas_desc f p' (a+1) q') (λr=>Pm n r.1/\a<=r.2.1/\r.2.1<=a+(f+1)/\Dn key r.1 r.2.1/\Rn key r.1 r.2.1 r.2.2):=λx y z =>
   bB (λr ⟨a1,a2,a3,a4,a5⟩=>⟨a1,by omega,by omega,a4,a5⟩) (Aq f _ (a+1) _ x (by omega) (by omega) y z)
  have rn0:∀p':Array Nat,Rn key p' (a+1) 0:=λp'=>⟨by omega,λt h1 h2=>by
   have e:t=a+1 - 1:=by omega
   rw[e]⟩
  by_cases hc:key (p.getD a 0)<key (p.getD (a - 1) 0)
  ·(rw[decide_eq_true hc];dsimp only;rw[if_pos rfl])
   have hc':kk key p a<kk key p (a - 1):=hc
   by_cases hq:q > 0
   ·rw[if_pos hq]
    have e:=zU (key:=key) hp (by omega) hr
    exact fin (hp.rev _ _) ((hd.more h1 (ā hc')).eq e) (rn0 _)
   ·rw[if_neg hq]
    exact fin hp (hd.more h1 (ā hc')) (rn0 _)
  ·(rw[decide_eq_false hc];dsimp only;rw[if_neg Æ])
   refine⟨hp.lt (by omega),hp.lt (by omega),?_⟩
   by_cases hc2:key (p.getD (a - 1) 0)<key (p.getD a 0)
   ·(rw[decide_eq_true hc2];dsimp only;rw[if_pos rfl])
    exact⟨hp,Ë _,(by show a<=a+(f+1);omega),hd,hr⟩
   ·(rw[decide_eq_false hc2];dsimp only;rw[if_neg Æ])
    have e:kk key p a=kk key p (a - 1):=Int.le_antisymm (ł.mp hc2) (ł.mp hc)
    refine fin hp (hd.more h1 (Int.le_of_eq e)) ⟨by have:=hr.1;omega,λt t1 t2=>?_⟩
    show _=kk key p a
    by_cases ht:t=a
    ·rw[ht]
    ·rw[e]
     exact hr.2 t (by omega) (by omega)
theorem vG{a:Nat}(hp:Pm n p)(h1:1<=a)(ha:a<=n)(hd:Dn key p a):kwp n key (kas_tail3 a n p) (λr=>Pm n r.2/\1<=r.1/\r.1<=n/\Up key r.2 r.1):=by
 unfold kas_tail3
 have hu:Up key (kas_rev p 0 a) a:=λi j hij hj=>by
  rw[uP hp ha,uP hp ha,if_pos ⟨by omega,by omega⟩,if_pos ⟨by omega,hj⟩]
  exact hd _ _ (by omega) (by omega)
 refine d9 (bB (λm ⟨a1,a2,a3,_⟩=>?_) (zf (hp.rev 0 a) (n - a) a h1 (by omega) hu))
 exact⟨hp.rev 0 a,by omega,by omega,a3⟩
theorem ou{a:Nat}(hp:Pm n p)(ha:a+1<=n)(hd:Dn key p (a+1)):kwp n key (kas_descPart a n p) (λr=>Pm n r.2/\1<=r.1/\r.1<=n/\Up key r.2 r.1):=by
 unfold kas_descPart
 refine d9 (bB (λr ⟨a1,a2,a3,a4,a5⟩=>?_) (Aq (n - (a+1)) p (a+1) 0 hp (by omega) (by omega) hd ⟨by omega,λt h1 h2=>by
  have e:t=a+1 - 1:=by omega
  rw[e]⟩))
 split
 ·exact vG (a1.rev _ _) (by omega) (by omega) (a4.eq (zU a1 (by omega) a5))
 ·exact vG a1 (by omega) (by omega) a4
theorem Gq(hp:Pm n p)(h1:1<=n):kwp n key (kas_count n p) (λr=>Pm n r.2/\1<=r.1/\r.1<=n/\Up key r.2 r.1):=by
 unfold kas_count
 have u1:Up key p 1:=λi j hij hj=>by
  have e:i=j:=by omega
  rw[e];exact ÿ _
 refine d9 (bB (λm ⟨a1,a2,a3,a4⟩=>?_) (zf hp (n - 1) 1 (Ë _) (by omega) u1))
 by_cases hm:m=n
 ·rw[if_pos (by simpa using hm)]
  exact⟨hp,by omega,by omega,a3⟩
 ·rw[if_neg (by simpa using hm)]
  have hlt:=a4 (by omega)
  by_cases hm1:m > 1
  ·rw[if_pos hm1]
   refine⟨hp.lt (by omega),hp.lt (by omega),?_⟩
   by_cases hc:key (p.getD 0 0)<key (p.getD (m - 1) 0)
   ·(rw[decide_eq_true hc];dsimp only;rw[if_pos rfl])
    exact⟨hp,by omega,by omega,a3⟩
   ·(rw[decide_eq_false hc];dsimp only;rw[if_neg Æ])
    have hall:∀t,t<m->kk key p t=kk key p 0:=λt ht=>by
     have e1:=a3 0 t (by omega) ht
     have e2:=a3 t (m - 1) (by omega) (by omega)
     have e3:kk key p (m - 1)<=kk key p 0:=ł.mp hc
     omega
    have e:∀t,kk key (kas_rev p 0 m) t=kk key p t:=λt=>by
     rw[uP hp (by omega)]
     split
     ·rename_i h
      rw[hall t h.2,hall _ (by omega)]
     ·rfl
    refine ou (hp.rev 0 m) (by omega) (Dn.eq (p:=p) (Dn.more (λi j hij hj=>?_) (by omega) (ā hlt)) e)
    rw[hall i (by omega),hall j hj]
    exact ÿ _
  ·rw[if_neg hm1]
   obtain rfl:m=1:=by omega
   refine ou hp (by omega) (Dn.more (λi j hij hj=>?_) (by omega) (ā hlt))
   have e:i=j:=by omega
   rw[e];exact ÿ _
theorem pZ{k:Nat}(hp:Pm n p)(hk:k<n)(hu:Up key p k):∀(f l r:Nat),l<=r->r<=k->r<=l+f->(∀t,t<l->kk key p t<=kk key p k)->(∀t,r<=t->t<k->kk key p k<kk key p t) ->
  kwp n key (kas_place p k f l r) (λl'=>l'<=k/\(∀t,t<l'->kk key p t<=kk key p k)/\(∀t,l'<=t->t<k->kk key p k<kk key p t))
 |0,l,r,h1,h2,h3,h4,h5=>⟨by omega,h4,λt a b=>h5 t (by omega) b⟩
 |f+1,l,r,h1,h2,h3,h4,h5=>by
  unfold kas_place
  by_cases hlr:l ≥ r
  ·rw[if_pos hlr]
   exact⟨by omega,h4,λt a b=>h5 t (by omega) b⟩
  ·rw[if_neg hlr]
   have hm:(l+r) / 2<r:=by omega
   refine⟨hp.lt hk,hp.lt (by omega),?_⟩
   by_cases hc:key (p.getD k 0)<key (p.getD ((l+r) / 2) 0)
   ·(rw[decide_eq_true hc];dsimp only;rw[if_pos rfl])
    have hc':kk key p k<kk key p ((l+r) / 2):=hc
    exact pZ hp hk hu f l _ (by omega) (by omega) (by omega) h4 λt a b=>Int.lt_of_lt_of_le hc' (hu _ t a b)
   ·(rw[decide_eq_false hc];dsimp only;rw[if_neg Æ])
    have hc':kk key p ((l+r) / 2)<=kk key p k:=ł.mp hc
    exact pZ hp hk hu f _ r (by omega) (by omega) (by omega) (λt a=>ē (hu t _ (by omega) (by omega)) hc') h5
theorem Gx:∀(f:Nat) (p:Array Nat) (k:Nat),Pm n p->k+f<=n->Up key p k->kwp n key (kas_bin f p k) (λp'=>Pm n p'/\Up key p' (k+f))
 |0,p,k,hp,hk,hu=>⟨hp,hu⟩
 |f+1,p,k,hp,hk,hu=>by
  unfold kas_bin
  refine d9 (bB (λl ⟨a1,a2,a3⟩=>?_) (pZ hp (by omega) hu k 0 k (Ă _) (Ë _) (by omega) (λt h=>absurd h (by omega)) (λt h1 h2=>absurd h1 (by omega))))
  have e:=Mh (key:=key) hp (k:=k) (by omega) a1
  have hu':Up key (bubble p k (k - l)) (k+1):=λi j hij hj=>by
   rw[e,e]
   by_cases hi:i=l
   ·rw[if_pos hi]
    by_cases hj':j=l
    ·rw[if_pos hj'];exact ÿ _
    ·rw[if_neg hj',if_pos ⟨by omega,by omega⟩]
     exact ā (a3 _ (by omega) (by omega))
   ·rw[if_neg hi]
    by_cases hi2:l<i/\i<=k
    ·rw[if_pos hi2,if_neg (by omega),if_pos ⟨by omega,by omega⟩]
     exact hu _ _ (by omega) (by omega)
    ·rw[if_neg hi2]
     by_cases hj':j=l
     ·rw[if_pos hj']
      exact a2 i (by omega)
     ·rw[if_neg hj']
      by_cases hj2:l<j/\j<=k
      ·rw[if_pos hj2]
       exact hu _ _ (by omega) (by omega)
      ·rw[if_neg hj2]
       exact hu _ _ hij (by omega)
  refine bB (λp' ⟨b1,b2⟩=>⟨b1,?_⟩) (Gx f _ (k+1) (hp.bub _ _) (by omega) hu')
  have e2:k+(f+1)=k+1+f:=by omega
  rw[e2];exact b2
theorem G7(h1:1<=n):kwp n key (kas_sort n) (λp=>Pm n p/\Up key p n):=by
 unfold kas_sort
 refine d9 (bB (λr ⟨a1,a2,a3,a4⟩=>?_) (Gq (p:=(è n).toArray) (Array.Perm.refl _) h1))
 have e:max r.1 1=r.1:=by omega
 rw[e]
 split
 ·refine bB (λp' ⟨b1,b2⟩=>⟨b1,?_⟩) (Gx (n - r.1) r.2 r.1 a1 (by omega) a4)
  have e2:r.1+(n - r.1)=n:=by omega
  rw[e2] at b2;exact b2
 ·have e2:r.1=n:=by omega
  rw[e2] at a4
  exact⟨a1,a4⟩
end
end NfSort
namespace L2
open PySem PySem.Spec PyProof.Rows
section
variable {prog:Program}{w:World}{A:Around}{E:Value->Shared->Prop}{s:Shared}
end
section
variable {X:Cx}{pos:Pos}
def Ru(K:Þ)(n:Nat)(t:TGs):TG:=λv σ H Q=>∃a xs,v=.ref a/\SqL K H a xs/\xs.length=n/\t xs σ H Q
end
section
variable {X:Cx}
theorem vg:bD X (.builtin "isinstance") (λxs H Q=>∃x c t b,xs=[x,.ty c]/\TyOf X.K H x t/\ŭ X.K t (.type c)=some b/\Q (.bl b) H):=by
 intro pins s σ H xs us Q I r h
 obtain⟨x,c,t,b,rfl,ty,e,q⟩:=h
 obtain⟨u,u2,rfl,rx,rc⟩:=vals2 r
 cases rc
 exact BX I rx ty e λtk=>⟨.bl b,H,I.tok _,rfl,q⟩
theorem Ep:OpR X (compareOp .Is) (λx y H Q=>∃a b,x=.bl a/\y=.bl b/\Q (.bl (decide (a=b))) H):=by
 intro pins s σ H x y v u Q I rx ry h
 obtain⟨a,b,rfl,rfl,q⟩:=h
 cases rx
 cases ry
 refine Ø ?_
 refine⟨.bl (decide (a=b)),H,I,?_,q⟩
 cases a <;> cases b <;> rfl
theorem vY:OpR X (compareOp .IsNot) (λx y H Q=>∃a b,x=.bl a/\y=.bl b/\Q (.bl (!decide (a=b))) H):=by
 intro pins s σ H x y v u Q I rx ry h
 obtain⟨a,b,rfl,rfl,q⟩:=h
 cases rx
 cases ry
 refine Ø ?_
 refine⟨.bl (!decide (a=b)),H,I,?_,q⟩
 cases a <;> cases b <;> rfl
theorem zu:∀{bs:List Bool}{us:List Value},Vals (bs.map V.bl) us->us=bs.map Value.bool
 |[],_,h=>by cases h;rfl
 |b::bs,_,h=>by
  cases h with
  |cons r t =>
   cases r
   rw[zu t]
   rfl
theorem all_range(bs:List Bool):(è bs.length).all (λi=>bs.getD i true)=bs.all id:=by
 rw[Ď]
 simp only[ø,List.mem_range]
 constructor
 ·intro h x hx
  obtain⟨i,hi,e⟩:=Ĵ.mp hx
  have q:=h i hi
  simp[hi] at q
  rw[←e];exact q
 ·intro h i hi
  have q:=h bs[i] (œ hi)
  simpa[hi] using q
theorem sW(hc:X.calm=true):bD X (.builtin "all") (λxs H Q=>∃(p:Addr) (bs:List Bool),xs=[.ref p]/\SqL X.K H p (bs.map V.bl)/\Q (.bl (bs.all id)) H):=by
 intro pins s σ H xs us Q I r h
 obtain⟨p,bs,rfl,hp,q⟩:=h
 obtain⟨u,rfl,rx⟩:=vals1 r
 cases rx
 obtain⟨its,rv,pl,hz⟩:=I.list hp
 have e:=zu rv
 subst e
 have hlt:p≠s.heap.objs.size:=by obtain⟨o,ho,_⟩:=pl.isList;exact ä (Ô ho)
 refine call_all_walk (wpAny_pyIter_list pl.isList ?_)
 refine⟨_,_,_,_,_,_,λi=>bs.getD i true,rfl,Walks.list (A:=X.A.in1) (I.ok.hd hc) _ p hlt _,⟨⟨_,ç _ rfl,rfl,rfl⟩,pl.isList.push _⟩,?_,λh' tk hk=>?_⟩
 ·intro i v s Q E hP hQ
  have hP':(bs.map Value.bool)[i]?=some v:=by simpa using hP
  rw[æ] at hP'
  cases hb:bs[i]? with
  |none=>rw[hb] at hP';cases hP'
  |some b =>
   rw[hb] at hP'
   cases hP'
   refine ŏ ?_
   have e:bs.getD i true=b:=by rw[Û,hb];rfl
   have hQ':Q (bs.getD i true) s:=hQ
   rw[e] at hQ'
   exact hQ'
 ·have e:(è (bs.map Value.bool).toArray.size).all (λi=>bs.getD i true)=bs.all id:=by
   rw[Ï,Á]
   exact all_range bs
  rw[e]
  refine⟨.bl (bs.all id),H,I.kept λb o eb=>hk b o ?_ (Ö _ eb),rfl,q⟩
  intro hm
  have:b=s.heap.objs.size:=by simpa using hm
  exact absurd (Ô eb) (by rw[this];exact Ą _)
theorem Ms{prog:Program}{w:World}{A:Around}{E:Value->Shared->Prop}{s:Shared}{l:Addr}{n:Nat}{x:Int}{t:Tok}{u:Value}{Q:Value->Shared->Prop}{its:List Value}(ho:s.heap.get? l=some { cls:=.type "list",data:=.seq its.toArray n })(hfit:¬(!Builtin.List.listFitsIndex x)=true)(hsz:its.toArray.size<=sizeLine)(h:Q .none { s with heap:=s.heap.update l (â λxs=>(xs.extract 0 (if x<0 then (x+(xs.size:Int)).toNat else min x.toNat xs.size)).push u++xs.extract (if x<0 then (x+(xs.size:Int)).toNat else min x.toNat xs.size)),toks:=s.toks }) :
  wpAny (model prog w) A (call (.builtin "list.insert") [.ref l,.int x t,u]) Q E s:=by
 generalize its.toArray=ia at ho hsz
 exact call_meets PySem.F.slot_list_insert ⟨_,ho,rfl⟩ PySem.F.entry_list_insert (PySem.F.args_list_insert_3 _ _ _) (PySem.AutoSeq1.list_insert_list_int_val_1 l ia n x t u hfit hsz) ⟨ho,h⟩
def zY:V->List V->Hp->VK->Prop:=λx vs H Q=>∃l xs k y,x=.ref l/\vs=[.int (k:Nat),y]/\H l=some (.lst xs)/\k<=xs.length/\xs.length<sizeLine/\Q .non (upd H l (.lst (xs.take k++y::xs.drop k)))
theorem BJ:MtM X "list.insert" zY:=by
 intro pins s σ H x vs v us Q I rx rv h
 obtain⟨l,xs,k,y,rfl,rfl,hH,hk,hz,q⟩:=h
 cases rx
 obtain⟨u1,u,rfl,⟨t,rfl⟩,ru⟩:=rv.two
 obtain⟨z,its,n,r,hl,e⟩:=I.yE hH
 have h24:(sizeLine:Nat)=16777216:=í
 have hfit:¬(!Builtin.List.listFitsIndex (k:Int))=true:=by
  have q1:decide (-(2 ^ 63:Int)<=(k:Int))=true:=decide_eq_true (by omega)
  have q2:decide ((k:Int)<2 ^ 63)=true:=decide_eq_true (by omega)
  unfold Builtin.List.listFitsIndex
  rw[q1,q2]
  exact Æ
 have hsz:its.toArray.size<=sizeLine:=by
  have e1:its.toArray.size=xs.length:=(Ï ..).trans hl.symm
  rw[e1]
  exact z
 have hx0:¬((k:Int)<0):=by omega
 have hxk:(k:Int).toNat=k:=Ě k
 generalize hx:(k:Int)=x at hfit hx0 hxk
 refine Ms (its:=its) e hfit hsz ?_
 refine⟨.non,_,I.LK (its':=its.take k++u::its.drop k) hH e ?_ ?_ ?_,rfl,q⟩
 ·have hm:min k its.length=k:=by omega
  have e2:=W.kl_ins_eq its k u
  simp only[hx0,if_false,hxk,Ï,hm]
  exact e2
 ·exact(r.take k).append (.cons ru (r.drop k))
 ·rw[Å,Ý,ğ,ý]
  omega
theorem Cp:bD X (.type "range") (λxs H Q=>∃j,xs=[.int j]/\∀p,H p=none->Q (.ref p) (upd H p (.rng 0 j))):=by
 intro pins s σ H xs us Q I r h
 obtain⟨j,rfl,q⟩:=h
 obtain⟨u,rfl,t,rfl⟩:=vals1 r
 refine call_range_1 ?_
 exact⟨.ref s.heap.objs.size,_,I.laid (o:=.rng 0 j) (λb o e=>Ö _ e) (Ë _) ⟨_,_,_,ç _ rfl⟩,rfl,q _ I.fresh⟩
def vP(lo hi:Int):List V:=(è (hi - lo).toNat).map λi=>V.int (lo+(i:Nat))
theorem xJ{lo:Int}:∀{n:Nat}{us:List Value},us.length=n->(∀j v,us[j]?=some v->∃t,v=Value.int (lo+(j:Nat) * 1) t)->Vals ((è n).map λi=>V.int (lo+(i:Nat))) us:=by
 intro n us hl h
 have key:∀(us:List Value) (k:Nat),(∀j v,us[j]?=some v->∃t,v=Value.int (lo+((k+j:Nat):Int)) t)->Vals ((List.range' k us.length).map λi=>V.int (lo+(i:Nat))) us:=by
  intro us
  induction us with
  |nil=>intro k _;exact .nil
  |cons u us ih =>
   intro k hk
   obtain⟨t,e⟩:=hk 0 u (by simp)
   rw[Ý,List.range'_succ,ê]
   refine .cons ⟨t,by simpa using e⟩ (ih (k+1) λj v hv=>?_)
   obtain⟨t,e⟩:=hk (j+1) v (by simpa using hv)
   exact⟨t,by rw[e];congr 2;omega⟩
 have q:=key us 0 λj v hv=>by
  obtain⟨t,e⟩:=h j v hv
  exact⟨t,by rw[e];simp⟩
 rw[hl,←List.range_eq_range'] at q
 exact q
theorem rm(hc:X.calm=true):bD X (.type "list") (λxs H Q=>∃p lo hi,xs=[.ref p]/\H p=some (.rng lo hi)/\(-1000<=lo/\lo<=1000/\-1000<=hi/\hi<=1000)/\∀l,H l=none->Q (.ref l) (upd H l (.lst (vP lo hi)))):=by
 intro pins s σ H xs us Q I r h
 obtain⟨p,lo,hi,rfl,hp,⟨b1,b2,b3,b4⟩,q⟩:=h
 obtain⟨u,rfl,rx⟩:=vals1 r
 cases rx
 obtain⟨t,u,v,e⟩:=I.hok p _ hp
 have hsz:Builtin.Range.rangeSize lo hi 1=(((hi - lo).toNat:Nat):Int):=by rw[rangeSize_one];split <;> omega
 refine call_list_range (I.ok.hd hc) (show IsRange s.heap p lo hi 1 t u v from e) (small_one (by omega) (by omega) (by omega) (by omega)) hsz (by omega) λh' tk acc' c' hk ho ⟨hn,hit⟩=>?_
 have hv:Vals (vP lo hi) acc'.toList:=xJ (by simpa using hn) λj w hw=>hit j w (by simpa using hw)
 refine⟨.ref s.heap.objs.size,_,I.laid (o:=.lst (vP lo hi)) hk (Ë _) ⟨?_,acc'.toList,c',hv,by simpa using ho⟩,rfl,q _ I.fresh⟩
 unfold vP
 rw[Á,ť,í]
 omega
end
abbrev Tie:=Int×Int
def Pr(H:Hp)(v:V)(t:Tie):Prop:=∃p,v=.ref p/\H p=some (.tup [.int t.1,.int t.2])
abbrev Prs(H:Hp):List V->List Tie->Prop:=Paired (Pr H)
def aB(t:Tie):Int:=64 * t.1+t.2
def eG(t:Tie):Prop:=0<=t.2/\t.2<64
theorem code_inj{a b:Tie}(ha:eG a)(hb:eG b)(h:aB a=aB b):a=b:=by
 obtain⟨a1,a2⟩:=a
 obtain⟨b1,b2⟩:=b
 unfold eG aB at *
 simp only at *
 have e:a1=b1:=by omega
 have e2:a2=b2:=by omega
 rw[e,e2]
def bY(h:Heap)(u:Value)(t:Tie):Prop:=∃a o t1 t2 n,u=.ref a/\h.get? a=some o/\o.cls=.type "tuple"/\o.data=.seq #[.int t.1 t1,.int t.2 t2] n
theorem bY.keep{h h':Heap}{u:Value}{t:Tie}(x:bY h u t)(k:∀a o,h.get? a=some o->o.cls=.type "tuple"->h'.get? a=some o):bY h' u t:=by
 obtain⟨a,o,t1,t2,n,e,ho,hc,hd⟩:=x
 exact⟨a,o,t1,t2,n,e,k a o ho hc,hc,hd⟩
theorem KR{α β:Type}{F:α->β->Prop}{l₁:List α}{l₂:List β}(h:Paired F l₁ l₂):∀{i:Nat}{b:β},l₂[i]?=some b->∃a,l₁[i]?=some a/\F a b:=by
 induction h with
 |nil=>intro i x e;simp at e
 |cons r t ih =>
  intro i x e
  cases i with
  |zero=>simp at e;subst e;exact⟨_,rfl,r⟩
  |succ i =>
   obtain⟨c,e1,f⟩:=ih (by simpa using e)
   exact⟨c,by simpa using e1,f⟩
theorem vV{α β:Type}{F:α->β->Prop}{l₁:List α}{l₂:List β}(h:Paired F l₁ l₂)(da:α)(db:β):∀(p:List Nat),(∀i∈p,i<l₂.length)->Paired F (p.map λi=>l₁.getD i da) (p.map λi=>l₂.getD i db)
 |[],_=>.nil
 |i::p,hp=>by
  have hi:i<l₂.length:=hp i Í
  obtain⟨a,e,f⟩:=KR h (i:=i) (b:=l₂[i]) (by simp[hi])
  refine .cons ?_ (vV h da db p λj hj=>hp j (Î _ hj))
  have e1:l₁.getD i da=a:=by rw[Û,e];rfl
  have e2:l₂.getD i db=l₂[i]:=by simp[hi]
  show F (l₁.getD i da) (l₂.getD i db)
  rw[e1,e2]
  exact f
theorem Km{α:Type}:∀us:List α,List.map (λx=>x.snd) (us.zip us)=us
 |[]=>rfl
 |u::us=>by rw[List.zip_cons_cons,ê,Km us]
theorem bU{α:Type}(l:List α)(d:α):(è l.length).map (λi=>l.getD i d)=l:=by
 apply List.ext_getElem
 ·simp
 ·intro i h1 h2
  simp at h1 ⊢
  simp[h1]
section
variable {X:Cx}{pins:List (Addr×Obj)}{σ:St}{H:Hp}{s:Shared}
theorem Inv.pairs(I:Inv X pins σ H s):∀{vs:List V}{ts:List Tie}{us:List Value},Prs H vs ts->Vals vs us->Paired (bY s.heap) us ts
 |_,_,_,.nil,r=>by cases r;exact .nil
 |_,_,_,.cons p q,r=>by
  cases r with
  |cons r rr =>
   refine .cons ?_ (I.pairs q rr)
   obtain⟨a,rfl,e⟩:=p
   cases r
   obtain⟨_,its,rv,⟨o,ho,hc,n,hd⟩⟩:=I.hok a _ e
   obtain⟨v1,v2,rfl,⟨t1,rfl⟩,⟨t2,rfl⟩⟩:=vals2 rv
   exact⟨a,o,t1,t2,n,rfl,ho,hc,hd⟩
end
section
variable {prog:Program}{w:World}{A:Around}{E:Value->Shared->Prop}{s:Shared}
theorem wA{x y:Value}{a b:Tie}{Q:Bool->Shared->Prop}(hx:bY s.heap x a)(hy:bY s.heap y b)(na:eG a)(nb:eG b)(h:Q (decide (aB a<aB b)) s):wpAny (model prog w) A (keyLt' (tuples' true) x y) Q E s:=by
 obtain⟨p,o,t1,t2,n,rfl,ho,hc,hd⟩:=hx
 obtain⟨p',o',t1',t2',n',rfl,ho',hc',hd'⟩:=hy
 obtain⟨a1,a2⟩:=a
 obtain⟨b1,b2⟩:=b
 unfold eG at na nb
 simp only at na nb
 refine W.kat_lt ho hd ho' hd' ?_
 refine W.kat_cons (wpAny_eqBool_int ?_)
 by_cases e1:a1=b1
 ·subst e1
  rw[beq_self_eq_true]
  refine W.kat_yes (W.kat_cons (wpAny_eqBool_int ?_))
  by_cases e2:a2=b2
  ·subst e2
   rw[beq_self_eq_true]
   refine W.kat_yes (W.kat_nil ?_)
   have e:decide (aB (a1,a2)<aB (a1,a2))=false:=decide_eq_false (Int.lt_irrefl _)
   rw[e] at h
   exact h
  ·rw[beq_eq_false_iff_ne.mpr e2]
   refine W.kat_no (W.kat_one _ _ (lt_int ?_))
   have e:decide (aB (a1,a2)<aB (a1,b2))=decide (a2<b2):=by
    apply decide_eq_decide.mpr
    unfold aB
    omega
   rw[e] at h
   exact h
 ·rw[beq_eq_false_iff_ne.mpr e1]
  refine W.kat_no (oneLt_int ?_)
  have e:decide (aB (a1,a2)<aB (b1,b2))=decide (a1<b1):=by
   apply decide_eq_decide.mpr
   unfold aB
   simp only
   constructor
   ·intro h;omega
   ·intro h;omega
  rw[e] at h
  exact h
theorem yI:∀{us:List Value}{ts:List Tie},Paired (bY s.heap) us ts->∃fs,W.KatTups s.heap us fs/\fs.length=us.length/\∀v∈fs,∃i t,v=Value.int i t
 |_,_,.nil=>⟨[],.nil,rfl,λ_ h=>nomatch h⟩
 |_,_,.cons p q=>by
  obtain⟨a,o,t1,t2,n,rfl,ho,hc,hd⟩:=p
  obtain⟨fs,k,hl,hv⟩:=yI q
  refine⟨_::fs,.cons ho hc hd (f:=Value.int _ t1) rfl k,by simp[hl],λv hv'=>?_⟩
  rcases á.mp hv' with rfl|h
  ·exact⟨_,_,rfl⟩
  ·exact hv v h
theorem Ny{n:Nat}{key:Nat->Int}{p:Array Nat}(hp:NfSort.Pm n p)(h1:1<=n)(hs:NfSort.Up key p n):NfSort.kwp n key (W.kas_count n p) (λr=>r.1=n/\r.2=p):=by
 unfold W.kas_count
 have go:∀(f a:Nat),1<=a->a+f=n->NfSort.kwp n key (W.kas_asc p f a) (λm=>m=n):=by
  intro f
  induction f with
  |zero=>intro a _ h;exact h
  |succ f ih =>
   intro a ha h
   refine⟨hp.lt (by omega),hp.lt (by omega),?_⟩
   have hc:¬key (p.getD a 0)<key (p.getD (a - 1) 0):=Int.not_lt.mpr (hs (a - 1) a (by omega) (by omega))
   rw[decide_eq_false hc]
   exact ih (a+1) (by omega) (by omega)
 refine NfSort.d9 (NfSort.bB (λm e=>?_) (go (n - 1) 1 (Ë _) (by omega)))
 rw[if_pos (by simpa using e)]
 exact⟨e,rfl⟩
open PySem.W in
theorem Hf{prog:Program}{w:World}{A:Around}{E:Value->Shared->Prop}{κ:SortKind}{it:Array Keyed}{n:Nat}{Q:Unit->SortSt->Shared->Prop}{G:Array Nat->Shared->Prop}{s:Shared}(h2:2<=n)(hmr:minRun' n n 0<=n)(hG:∀p' st' s',p'.size=n->arrOf st'=p'.map (kas_item it)->failedOf st'=none->G p' s'->Q () st' s')(h:(kas_count n (ň (è n))).kasWp (kas_cmp prog w A κ it) (λr s'=>r.1=n/\G r.2 s') s) :
  kasC (model prog w) A E sortRuns' Q (kas_st κ it (ň (è n))) s:=by
 obtain⟨r,rfl⟩:∃r,n=r+2:=⟨n - 2,by omega⟩
 have hrs:(ň (è (r+2))).size=r+2:=by simp
 rw[sortRuns'_eq]
 refine kasC_bind (kasC_get ?_)
 dsimp only
 have hsz:(arrOf (kas_st κ it (ň (è (r+2))))).size=r+2:=by
  show((ň (è (r+2))).map (kas_item it)).size=_
  rw[Array.size_map,hrs]
 simp only[hsz]
 refine kasC_bind (kasC_range ?_)
 show kasC _ _ _ (forIn (0::1::List.range' 2 r) _ _) _ _ _
 refine kasC_cons ?_
 dsimp only
 rw[if_neg (by omega)]
 simp only[Nat.sub_zero,Nat.zero_add]
 refine kasC_bind (kas_count_ (by omega) (by rw[hrs];exact Ë _) (λm p' s' hm1 hm2 hp hg=>?_) h)
 have hps:p'.size=r+2:=hp.trans hrs
 obtain⟨e,hg⟩:=hg
 have e':m=r+2:=e
 subst e'
 dsimp only
 rw[if_neg (by omega)]
 refine kasC_bind (kasC_get ?_)
 rw[show(pendingOf (kas_st κ it p')).back?=none from rfl]
 dsimp only
 refine kasC_bind (kasC_modify (kasC_pure ?_))
 show kasC _ _ _ (forIn (1::List.range' 2 r) _ _) _ _ _
 refine kasC_cons ?_
 dsimp only
 rw[if_pos (Ë _)]
 refine kasC_pure ?_
 dsimp only
 refine kasC_bind (kasC_range ?_)
 show kasC _ _ _ (forIn (0::1::List.range' 2 r) _ _) _ _ _
 refine kasC_cons ?_
 refine kasC_bind (kasC_get ?_)
 rw[if_pos (show(pendingOf (setPending (kas_st κ it p') ((pendingOf (kas_st κ it p')).push (0,r+2,0)))).size<=1 from Ë 1)]
 refine kasC_pure ?_
 dsimp only
 exact kasC_pure (hG p' _ _ hps rfl rfl hg)
def Srt(ts:List Tie):Prop:=ts.length<64\/ts.length=300/\∀i j,i<=j->j<ts.length->aB (ts.getD i (0,0))<=aB (ts.getD j (0,0))
theorem Srt.lt{ts:List Tie}:Srt ts->ts.length<512
 |.inl h=>by omega
 |.inr h=>by omega
theorem Bj{a:Addr}{us:List Value}{ts:List Tie}{n:Nat}{P:PySem.Fin->Shared->Prop}(ho:s.heap.get? a=some (seqObj "list" us.toArray n))(hp:Paired (bY s.heap) us ts)(hn:∀t∈ts,eG t)(h64:Srt ts)(h:∀p:List Nat,p.Perm (è us.length)->(∀i j,i<=j->j<us.length->aB (ts.getD (p.getD i 0) (0,0))<=aB (ts.getD (p.getD j 0) (0,0))) ->
   P (.done (.ret .none)) { s with heap:=sortedHeap s.heap a us (p.map λi=>us.getD i ò).toArray }) :
  wpAny (model prog w) A (Builtin.«list.sort» ⟨[.ref a],[]⟩) P E s:=by
 have hlen:=hp.length
 have hbig:=h64.lt
 have h24:=í
 rw[list_sort_plain]
 have ha:a<s.heap.objs.size:=Ô ho
 refine Ä (listItems_at ho rfl ?_)
 refine Ä (ż ho rfl ?_ (by rw[Ï,í];omega) (Ă _))
 obtain⟨e1,ho1⟩:∃e1,(s.heap.update a (â λ_=>(#[]:Array Value))).get? a=some (seqObj "list" #[] e1):=⟨_,get?_update_seq ho (λ_=>#[])⟩
 refine Ä (seqEpoch_at ho1 rfl ?_)
 refine Ä (wpAny_newTuple ?_ (by show us.length<=_;rw[í];omega))
 refine Ä (wpAny_newList ?_ (Ă _))
 refine ĥ ?_
 have ho6:(((s.heap.update a (â λ_=>(#[]:Array Value))).push (seqObj "tuple" us.toArray 0)).push (seqObj "list" #[] 0)).get? a=some (seqObj "list" #[] e1):=by
  rw[đ _ _ _ (by rw[size_push',ď];exact ä (Ĉ ha)),đ _ _ _ (by rw[ď];exact ä ha)]
  exact ho1
 have kept:∀b o,s.heap.get? b=some o->o.cls=.type "tuple"->(((s.heap.update a (â λ_=>(#[]:Array Value))).push (seqObj "tuple" us.toArray 0)).push (seqObj "list" #[] 0)).get? b=some o:=λb o q hc=>by
  have hlt:b<s.heap.objs.size:=Ô q
  have hne:b≠a:=λz=>by
   rw[z,ho] at q
   cases q
   have z2:(ą "list")=ą "tuple":=hc
   injection z2 with z3
   exact absurd z3 (by decide)
  rw[đ _ _ _ (by rw[size_push',ď];exact ä (Ĉ hlt)),đ _ _ _ (by rw[ď];exact ä hlt),Heap.get?_update_ne _ _ _ _ hne]
  exact q
 show wpAny (model prog w) A _ P E { s with heap:=((s.heap.update a (â λ_=>(#[]:Array Value))).push (seqObj "tuple" us.toArray 0)).push (seqObj "list" #[] 0) }
 dsimp only
 have hsz:us.toArray.size=us.length:=by simp
 have hp6:Paired (bY (((s.heap.update a (â λ_=>(#[]:Array Value))).push (seqObj "tuple" us.toArray 0)).push (seqObj "list" #[] 0))) us ts:=Paired.yC hp λu t x=>x.keep kept
 by_cases h2:us.toArray.size<2
 ·rw[if_pos h2,if_pos h2]
  refine Ä (Ø ?_)
  rw[StateT.run_pure]
  refine Ä (Ø ?_)
  dsimp only
  have eout:(arrOf (SortSt.mk' general' (us.toArray.zip us.toArray) #[] 7 none)).map (·.2)=((è us.length).map λi=>us.getD i ò).toArray:=by
   rw[bU]
   show(us.toArray.zip us.toArray).map (·.2)=us.toArray
   apply Array.toList_inj.mp
   simp
   exact Km us
  rw[eout]
  refine Ä (seqEpoch_at ho6 rfl ?_)
  refine Ä (ż ho6 rfl ?_ (Ă _) (by rw[Ï,Á,ť,í];omega))
  simp only[bne_self_eq_false,Ĥ,if_false]
  refine Ø (h _ (List.Perm.refl _) λi j hij hj=>?_)
  have:i=j:=by omega
  subst this
  exact ÿ _
 ·rw[if_neg h2,if_neg h2]
  have h2':2<=us.length:=by omega
  obtain⟨fs,hk,hfl,hfi⟩:=yI (s:={ s with heap:=((s.heap.update a (â λ_=>(#[]:Array Value))).push (seqObj "tuple" us.toArray 0)).push (seqObj "list" #[] 0) }) hp6
  refine Ä (W.kat_kind (T:=.type "int") hk (by omega) (λv hv=>by obtain⟨i,t,rfl⟩:=hfi v hv;exact W.Looks.of_pure rfl) rfl ?_)
  have hcmp:∀i j C,i<us.length->j<us.length->C (decide (aB (ts.getD i (0,0))<aB (ts.getD j (0,0)))) { s with heap:=((s.heap.update a (â λ_=>(#[]:Array Value))).push (seqObj "tuple" us.toArray 0)).push (seqObj "list" #[] 0) } ->
    W.kas_cmp prog w A (tuples' true) (us.toArray.zip us.toArray) i j C { s with heap:=((s.heap.update a (â λ_=>(#[]:Array Value))).push (seqObj "tuple" us.toArray 0)).push (seqObj "list" #[] 0) }:=λi j C hi hj hC=>by
   unfold W.kas_cmp
   rw[W.kat_item rfl,W.kat_item rfl]
   have key:∀k,k<us.length->bY (((s.heap.update a (â λ_=>(#[]:Array Value))).push (seqObj "tuple" us.toArray 0)).push (seqObj "list" #[] 0)) (us.getD k ò) (ts.getD k (0,0))/\eG (ts.getD k (0,0)):=λk hk=>by
    have hk':k<ts.length:=by omega
    have ek:ts.getD k (0,0)=ts[k]:=by simp[hk']
    obtain⟨u,eu,pu⟩:=KR hp6 (i:=k) (b:=ts[k]) (by simp[hk'])
    have eu':us.getD k ò=u:=by rw[Û,eu];rfl
    rw[ek,eu']
    exact⟨pu,hn _ (œ hk')⟩
   exact wA (key i hi).1 (key j hj).1 (key i hi).2 (key j hj).2 hC
  have G:W.kasC (model prog w) A E sortRuns' (λ_ st' s'=>∃p:Array Nat,s'={ s with heap:=((s.heap.update a (â λ_=>(#[]:Array Value))).push (seqObj "tuple" us.toArray 0)).push (seqObj "list" #[] 0) }/\arrOf st'=p.map (W.kas_item (us.toArray.zip us.toArray))/\failedOf st'=none/\NfSort.Pm us.length p/\NfSort.Up (λi=>aB (ts.getD i (0,0))) p us.length) (W.kas_st (tuples' true) (us.toArray.zip us.toArray) (ň (è us.length))) { s with heap:=((s.heap.update a (â λ_=>(#[]:Array Value))).push (seqObj "tuple" us.toArray 0)).push (seqObj "list" #[] 0) }:=by
   rcases h64 with h64|⟨h64,hs⟩
   ·exact W.kas_runs (G:=λp s'=>s'={ s with heap:=((s.heap.update a (â λ_=>(#[]:Array Value))).push (seqObj "tuple" us.toArray 0)).push (seqObj "list" #[] 0) }/\NfSort.Pm us.length p/\NfSort.Up (λi=>aB (ts.getD i (0,0))) p us.length) h2' (by omega) (λp' st' s' a1 a2 a3 a4=>⟨p',a4.1,a2,a3,a4.2⟩)
     (NfSort.uO hcmp (NfSort.bB (λp hp=>⟨rfl,hp⟩) (NfSort.G7 (by omega))))
   ·have hu:NfSort.Up (λi=>aB (ts.getD i (0,0))) (ň (è us.length)) us.length:=λi j hij hj=>by
     unfold NfSort.kk
     have eg:∀k,k<us.length->(ň (è us.length)).getD k 0=k:=λk hk=>by simp[Array.getD,hk]
     rw[eg i (by omega),eg j hj]
     exact hs i j hij (by omega)
    exact Hf (G:=λp s'=>s'={ s with heap:=((s.heap.update a (â λ_=>(#[]:Array Value))).push (seqObj "tuple" us.toArray 0)).push (seqObj "list" #[] 0) }/\NfSort.Pm us.length p/\NfSort.Up (λi=>aB (ts.getD i (0,0))) p us.length) h2' (by rw[hlen,h64];decide +kernel) (λp' st' s' a1 a2 a3 a4=>⟨p',a4.1,a2,a3,a4.2⟩)
     (NfSort.uO (G:=λr s'=>r.1=us.length/\s'={ s with heap:=((s.heap.update a (â λ_=>(#[]:Array Value))).push (seqObj "tuple" us.toArray 0)).push (seqObj "list" #[] 0) }/\NfSort.Pm us.length r.2/\NfSort.Up (λi=>aB (ts.getD i (0,0))) r.2 us.length) hcmp (NfSort.bB (λr ⟨e1,e2⟩=>⟨e1,rfl,by rw[e2];exact⟨Array.Perm.refl _,hu⟩⟩) (Ny (Array.Perm.refl _) (by omega) hu)))
  have est:SortSt.mk' (tuples' true) (us.toArray.zip us.toArray) #[] 7 none=W.kas_st (tuples' true) (us.toArray.zip us.toArray) (ň (è us.length)):=by
   have e:=W.kas_range (us.toArray.zip us.toArray)
   rw[show(us.toArray.zip us.toArray).size=us.length by simp] at e
   show SortSt.mk' (tuples' true) (us.toArray.zip us.toArray) #[] 7 none=SortSt.mk' (tuples' true) ((ň (è us.length)).map (W.kas_item (us.toArray.zip us.toArray))) #[] 7 none
   rw[e]
  have eT:tuples' (ą "int" != ą "tuple")=tuples' true:=rfl
  rw[eT,est]
  refine Ä (Ŗ G ?_ λ_ _ e=>e)
  rintro⟨⟨⟩,st'⟩ s' ⟨p,rfl,har,hf,hpm,hup⟩
  dsimp only
  have hout:=W.kat_snds (ks:=us) (vs:=us) rfl har
  rw[hout]
  have hsz2:p.size=us.length:=hpm.size
  refine Ä (seqEpoch_at ho6 rfl ?_)
  refine Ä (ż ho6 rfl ?_ (Ă _) (by rw[Ï,Á,č,hsz2,í];omega))
  rw[hf]
  simp only[bne_self_eq_false,Ĥ,if_false]
  refine Ø (h p.toList ?_ λi j hij hj=>?_)
  ·have:=Ũ.mp hpm
   simpa using this
  ·have q:=hup i j hij hj
   unfold NfSort.kk at q
   have eg:∀k,p.toList.getD k 0=p.getD k 0:=λk=>by
    rw[NfSort.getD_eq,Û]
    simp
   rw[eg,eg]
   exact q
theorem je{l:Addr}{vs:List Value}{Q:List Value->Shared->Prop}(hl:IsTup s.heap l vs.toArray)(h:Q vs { s with heap:=(s.heap.push (seqObj "list" #[] 0)).update s.heap.objs.size (â (·++vs.toArray)) })(hsz:vs.length<=sizeLine) :
  wpAny (model prog w) A (collect (.ref l)) Q E s:=by
 obtain⟨o,ho,hc,n,hd⟩:=id hl
 unfold collect
 refine Ä (wpAny_runValue (codeAny_builtin entry_proto_collect' ?_))
 show wpAny _ _ (do again (.builtin "list.__iadd__" ⟨[←newList [],.ref l],[]⟩)) _ _ s
 refine Ä (wpAny_newList (Ø ⟨Code.quiet_builtin _ (by decide +kernel),codeAny_builtin entry_list_iadd' ?_⟩))
 show wpAny _ _ (Ř (.ref s.heap.objs.size) (.ref l) (.ref s.heap.objs.size)) _ _ { s with heap:=s.heap.push (seqObj "list" #[] 0) }
 unfold Ř
 have ho':(s.heap.push (seqObj "list" #[] 0)).get? l=some o:=Ö _ ho
 refine Ä (wpAny_typeOf (T:="tuple") ⟨o,ho',hc⟩ ?_)
 have ht:(ą "tuple" == ą "tuple")=true:=by rfl
 rw[if_pos (by rw[ht];simp)]
 refine Ä (listItems_at ho' hd ?_)
 refine Ä (listItems_at (xs:=#[]) (n:=0) (ç _ rfl) rfl ?_)
 rw[if_neg (by simp)]
 refine Ä (ż (xs:=#[]) (n:=0) (ç _ rfl) rfl ?_ (Ă _) (by show(#[]++vs.toArray).size<=sizeLine+1;simp only[Array.size_append,Ï,List.length_nil];omega))
 refine Ø ?_
 show wpAny (model prog w) A (do
   let o ←load s.heap.objs.size
   match o.data with
   |.seq xs _=>pure xs.toList
   |_=>unsupported "internal:collect") Q E { s with heap:=(s.heap.push (seqObj "list" #[] 0)).update s.heap.objs.size (â (·++vs.toArray)) }
 refine Ä (wpAny_load (get?_update_seq (ç _ rfl) _) ?_)
 show wpAny _ _ (pure ((#[]:Array Value)++vs.toArray).toList) Q E _
 rw[show((#[]:Array Value)++vs.toArray).toList=vs by simp]
 exact Ø h
theorem tQ{l:Addr}{us:List Value}{ts:List Tie}{Q:Value->Shared->Prop}(hl:s.heap.IsList l us.toArray\/IsTup s.heap l us.toArray)(hp:Paired (bY s.heap) us ts)(hn:∀t∈ts,eG t)(h64:Srt ts)(h:∀p:List Nat,p.Perm (è us.length)->(∀i j,i<=j->j<us.length->aB (ts.getD (p.getD i 0) (0,0))<=aB (ts.getD (p.getD j 0) (0,0))) ->
   Q (.ref (s.heap.objs.size+1)) { s with heap:=sortedAll s.heap us (p.map λi=>us.getD i ò).toArray }) :
  wpAny (model prog w) A (call (.builtin "sorted") [.ref l]) Q E s:=by
 have h24:=í
 have hlen:=hp.length
 have hbig:=h64.lt
 refine Calls.call_function_entry kind_sorted plain_sorted entry_sorted (args_sorted1 _) ?_
 unfold Builtin.«sorted»
 refine Ä (m:=checkCount "sorted" 1 1 _) (Ø ?_)
 have hsz:((s.heap.push (seqObj "list" #[] 0)).update s.heap.objs.size (â (·++us.toArray))).objs.size=s.heap.objs.size+1:=by
  rw[ď,size_push']
 have hoL:(((s.heap.push (seqObj "list" #[] 0)).update s.heap.objs.size (â (·++us.toArray))).push (seqObj "list" us.toArray 0)).get? (s.heap.objs.size+1)=some (seqObj "list" us.toArray 0):=by
  rw[←hsz];exact ç _ rfl
 have keep:∀b o,s.heap.get? b=some o->(((s.heap.push (seqObj "list" #[] 0)).update s.heap.objs.size (â (·++us.toArray))).push (seqObj "list" us.toArray 0)).get? b=some o:=λb o q=>by
  have hlt:b<s.heap.objs.size:=Ô q
  rw[đ _ _ _ (by rw[hsz];exact ä (Ĉ hlt)),Heap.get?_update_ne _ _ _ _ (ä hlt),đ _ _ _ (ä hlt)]
  exact q
 have go:∀{Q':List Value->Shared->Prop},Q' us { s with heap:=(s.heap.push (seqObj "list" #[] 0)).update s.heap.objs.size (â (·++us.toArray)) }->wpAny (model prog w) A.in1 (collect (.ref l)) Q' (λe s'=>E e s') s:=λ{Q'} hq=>by
  rcases hl with hl|hl
  ·exact collect_list hl hq (by omega)
  ·exact je hl hq (by omega)
 refine Ä (go ?_)
 refine Ä (wpAny_newList ?_ (by omega))
 show wpAny _ _ _ _ _ { s with heap:=((s.heap.push (seqObj "list" #[] 0)).update s.heap.objs.size (â (·++us.toArray))).push (seqObj "list" us.toArray 0) }
 rw[hsz]
 refine Ä (ĥ (wpAny_call_entry slot_list_sort ⟨_,hoL,rfl⟩ entry_list_sort (Bj hoL (Paired.yC hp λu t x=>x.keep λa o e _=>keep a o e) hn h64 λp a1 a2=>⟨_,rfl,?_⟩) (args_list_sort _)))
 exact Ø ⟨_,rfl,h p a1 a2⟩
end
section
variable {X:Cx}
theorem nU{ts:List Tie}{p:List Nat}(hp:p.Perm (è ts.length))(h:∀i j,i<=j->j<ts.length->aB (ts.getD (p.getD i 0) (0,0))<=aB (ts.getD (p.getD j 0) (0,0))) :
  (p.map λi=>ts.getD i (0,0)).Perm ts/\(p.map λi=>ts.getD i (0,0)).Pairwise (λa b=>aB a<=aB b):=by
 refine⟨?_,?_⟩
 ·have q:=hp.map λi=>ts.getD i (0,0)
  rw[bU] at q
  exact q
 ·have hl:p.length=ts.length:=by simpa using hp.length_eq
  rw[List.pairwise_iff_getElem]
  intro i j hi hj hij
  rw[Á] at hi hj
  have q:=h i j (by omega) (by omega)
  have ei:p.getD i 0=p[i]:=by simp[hi]
  have ej:p.getD j 0=p[j]:=by simp[hj]
  rw[ei,ej] at q
  simpa using q
theorem vd:bD X (.builtin "sorted") (λxs H Q=>∃(p:Addr) (vs:List V) (ts:List Tie),xs=[.ref p]/\(SqL X.K H p vs\/SqT X.K H p vs)/\Prs H vs ts/\(∀t∈ts,eG t)/\Srt ts /\
  ∀l ws us,H l=none->Prs H ws us->us.Perm ts->us.Pairwise (λa b=>aB a<=aB b)->Q (.ref l) (upd H l (.lst ws))):=by
 intro pins s σ H xs us Q I r h
 obtain⟨p,vs,ts,rfl,hp,hpr,hn,h64,q⟩:=h
 obtain⟨u,rfl,rx⟩:=vals1 r
 cases rx
 have h24:=í
 have fin:∀its:List Value,Vals vs its->(s.heap.IsList p its.toArray\/IsTup s.heap p its.toArray)->wpAny (model X.prog X.w) X.A (call (.builtin "sorted") [.ref p]) (EP X pins σ Q) X.xe s:=λits rv hl=>by
  have hpv:=I.pairs hpr rv
  have hlen:=hpr.length
  have hlen2:=rv.length
  have hbig:=h64.lt
  refine tQ hl hpv hn h64 λpp hpp hord=>?_
  have eits:its.length=ts.length:=by omega
  rw[eits] at hpp hord
  obtain⟨hperm,hpw⟩:=nU hpp hord
  have hlt:∀i∈pp,i<ts.length:=λi hi=>ĳ.mp (hpp.mem_iff.mp hi)
  have hw:=vV hpr V.non (0,0) pp hlt
  have hvv:Vals (pp.map λi=>vs.getD i V.non) (pp.map λi=>its.getD i ò):=vV rv V.non ò pp λi hi=>by have:=hlt i hi;omega
  obtain⟨e,he⟩:=sortedAll_at s.heap its (pp.map λi=>its.getD i ò).toArray
  refine⟨.ref (s.heap.objs.size+1),upd H (s.heap.objs.size+1) (.lst (pp.map λi=>vs.getD i V.non)),I.laid (t':=s.toks) (λb o eb=>sortedAll_old eb) (Ō _) ?_,rfl,q _ _ _ (I.hok.fresh (Ō _)) hw hperm hpw⟩
  refine⟨?_,_,e,hvv,he⟩
  have hl3:pp.length=ts.length:=by simpa using hpp.length_eq
  rw[Á]
  omega
 rcases hp with hp|hp
 ·obtain⟨its,rv,pl,hz⟩:=I.list hp
  exact fin its rv (.inl pl.isList)
 ·obtain⟨its,rv,pl,hz⟩:=I.tuple hp
  exact fin its rv (.inr pl)
def pD(t:Tie):PyData:=.tuple [.int t.1,.int t.2]
theorem Ft:∀ts:List Tie,ņ (ts.map pD)=true
 |[]=>rfl
 |t::ts=>by
  show(PyData.canLay0 (pD t)&&ņ (ts.map pD))=true
  rw[Ft ts]
  rfl
theorem wU:∀ts:List Tie,PyData.depthAll (ts.map pD)<=1
 |[]=>Ă _
 |t::ts=>by
  show max (PyData.depth (pD t)) (PyData.depthAll (ts.map pD))<=1
  have h1:=wU ts
  have h2:PyData.depth (pD t)=1:=rfl
  omega
theorem Gj:∀ts us:List Tie,PyData.eqvAll (ts.map pD) (us.map pD)=decide (ts=us)
 |[],[]=>rfl
 |[],_::_=>rfl
 |_::_,[]=>rfl
 |t::ts,u::us=>by
  show(ñ (pD t) (pD u)&&PyData.eqvAll (ts.map pD) (us.map pD))=_
  rw[Gj ts us]
  have e:ñ (pD t) (pD u)=decide (t=u):=by
   show((t.1 == u.1)&&((t.2 == u.2)&&true))=_
   rw[Bool.and_true,Ď]
   simp[Prod.ext_iff]
  rw[e,Ď]
  simp
inductive DatV(K:Þ)(H:Hp):V->PyData->Prop
 |lst {a:Addr}{vs:List V}{ts:List Tie}:SqL K H a vs->Prs H vs ts->DatV K H (.ref a) (.list (ts.map pD))
 |tup {a:Addr}{vs:List V}{ts:List Tie}:SqT K H a vs->Prs H vs ts->DatV K H (.ref a) (.tuple (ts.map pD))
 |web {a b:Addr}{n:Int}{vs:List V}{ts:List Tie}:SqT K H a [.int n,.ref b]->SqT K H b vs->Prs H vs ts->DatV K H (.ref a) (.tuple [.int n,.tuple (ts.map pD)])
theorem Ao(ts us:List Tie):ñ (.list (ts.map pD)) (.list (us.map pD))=decide (ts=us):=Gj ts us
end
end L2
namespace L2
open PySem PySem.Spec PyProof.Rows HT
section
variable {prog:Program}{w:World}{A:Around}{E:Value->Shared->Prop}{s:Shared}
end
section
variable {X:Cx}{e:Expr}{te:TE}{p1 p2 p3 pos:Pos}
end
end L2
namespace PySem
open Sem (wp)
open AutoSeq1 (wpAny_loadPart')
section
variable {prog:Program}{w:World}{A:Around}{E:Value->Shared->Prop}{s:Shared}
end
end PySem
namespace L2
open PySem PySem.Spec PyProof.Rows
section
variable {κ:Type} [DecidableEq κ]
end
section
variable {P:Program}{w:World}{H:Hp}{h:Heap}{a:Addr}
end
section
variable {X:Cx}{pins:List (Addr×Obj)}{σ:St}{H:Hp}{s:Shared}{a:Addr}{y v:V}{u r:Value}{o:Option V}{A:Around}{E:Value->Shared->Prop}
theorem Inv.big(I:Inv X pins σ H s):sysModules<s.heap.objs.size:=by
 have h:mainGlobals<s.heap.objs.size:=(I.mod.glob.keeps I.bk).lt
 exact Nat.lt_trans (by decide) h
end
section
variable {X:Cx}{pins:List (Addr×Obj)}{σ:St}{H:Hp}{s:Shared}{a:Addr}{kvs:List (Key×V)}{k:Key}{u:Value}{A:Around}{E:Value->Shared->Prop}
end
section
variable {X:Cx}{o i e value:Expr}{pos pos' tpos:Pos}{td ty tv:TE}
end
theorem Gm{P:Program}{w:World}{H:Hp}(h:Heap)(hb:sysModules<h.objs.size):bO P w H (h.push { cls:=.type "dict",data:=.dict #[] }) h.objs.size (.dK []) :=
 ⟨Ă _,beq_eq_false_iff_ne.mpr (ī (ä hb)),[],.nil,Heap.DictOf.new h⟩
def Kl:TE:=λ_ H Q=>∀p,H p=none->Q (.ref p) (upd H p (.dK []))
section
variable {X:Cx}{pos:Pos}
theorem DY:PE X (.Dict [] [] pos) Kl:=λpins s σ H Q I h =>
 wpAny_Dict_empty ⟨.ref s.heap.objs.size,_,I.laid (a:=s.heap.objs.size) (o:=.dK []) (t':=s.toks) (λ_ _ q=>Ö _ q) (Ë _) (Gm s.heap I.big),rfl,h _ (I.hok.fresh (Ë _))⟩
end
structure M1(X:Cx)(o:Expr)(m:Str)(apos:Pos)(e:Expr)(cpos:Pos):Prop where
 base:attributeBase o m X.env (eval o X.env)=eval o X.env
 few:((backTo cpos (starEach [e] X.env)).all (λx=>!x.1)&&(backToKw cpos (keywordEach [] X.env)).all (λx=>x.1.isSome)
 &&decide (([e]:List Expr).length+([]:List Keyword).length+(if ([]:List Keyword).isEmpty then 0 else 1)<30))=true
 line:(apos.endLine == cpos.line)=true
 trees:backTo cpos (starEach [e] X.env)=[(false,eval e X.env)]
structure M2(X:Cx)(o:Expr)(m:Str)(apos:Pos)(e f:Expr)(cpos:Pos):Prop where
 base:attributeBase o m X.env (eval o X.env)=eval o X.env
 few:((backTo cpos (starEach [e,f] X.env)).all (λx=>!x.1)&&(backToKw cpos (keywordEach [] X.env)).all (λx=>x.1.isSome)
 &&decide (([e,f]:List Expr).length+([]:List Keyword).length+(if ([]:List Keyword).isEmpty then 0 else 1)<30))=true
 line:(apos.endLine == cpos.line)=true
 trees:backTo cpos (starEach [e,f] X.env)=[(false,eval e X.env),(false,eval f X.env)]
section
variable {X:Cx}{pins:List (Addr×Obj)}{σ:St}{H:Hp}{s:Shared}{a:Addr}{y d:V}{u r:Value}{o:Option V}{A:Around}{E:Value->Shared->Prop}
end
section
variable {X:Cx}{o e f:Expr}{apos cpos:Pos}{td ty tx:TE}
end
section
variable {X:Cx}{pins:List (Addr×Obj)}{σ:St}{H:Hp}{s:Shared}{a:Addr}{kvs:List (Key×V)}{A:Around}{E:Value->Shared->Prop}
end
section
variable {X:Cx}{pins:List (Addr×Obj)}{σ:St}{H:Hp}{s:Shared}{a:Addr}{y:V}{u:Value}{A:Around}{E:Value->Shared->Prop}
end
section
variable {prog:Program}{w:World}{A:Around}{E:Value->Shared->Prop}{s:Shared}
end
section
variable {X:Cx}
theorem vf:bD X (.builtin "sorted") (λxs H Q=>∃(p:Addr) (ns:List Int),xs=[.ref p]/\SqL X.K H p (ns.map V.int)/\ns.length<64 /\
  ∀(l:Addr) (out:List Int),H l=none->out.Perm ns->out.Pairwise (·<=·)->Q (.ref l) (upd H l (.lst (out.map V.int)))):=by
 intro pins s σ H xs us Q I r h
 obtain⟨p,ns,rfl,hp,h64,q⟩:=h
 obtain⟨u,rfl,rx⟩:=vals1 r
 cases rx
 obtain⟨its,rv,pl,hz⟩:=I.list hp
 have hI:IntsAre its ns:=intsAre_of rv
 have hl:=rv.length
 rw[Á] at hl
 refine sorted_ints (vs:=its) (ns:=ns) pl.isList hI (by omega) λout ns' a1 a2 a3=>?_
 obtain⟨e,he⟩:=sortedAll_at s.heap its out
 have hv:=mD a1
 have hlo:=hv.length
 rw[Á] at hlo
 have hpl:=a2.length_eq
 have h24:=í
 refine⟨.ref (s.heap.objs.size+1),upd H (s.heap.objs.size+1) (.lst (ns'.map V.int)),I.laid (t':=s.toks) (λb o eb=>sortedAll_old eb) (Ō _) ⟨?_,out.toList,e,hv,by simpa using he⟩,rfl,q _ _ (I.hok.fresh (Ō _)) a2 a3⟩
 rw[Á]
 omega
end
section
variable {X:Cx}
def iD(l:List Int):PyData:=.list (l.map Ã)
inductive DatL(K:Þ)(H:Hp):V->PyData->Prop
 |flt {a:Addr}{l:List Int}:SqL K H a (l.map V.int)->DatL K H (.ref a) (iD l)
 |lists {a:Addr}{as:List Addr}{ls:List (List Int)}:SqL K H a (as.map V.ref)->Paired (λ(a:Addr) (l:List Int)=>SqL K H a (l.map V.int)) as ls->DatL K H (.ref a) (.list (ls.map iD))
end
end L2
namespace PySem
open PyProof.Rows
def Ry(h:Heap)(e:Addr):Prop:=∃oe vs,h.get? e=some oe/\oe.data=.fields vs/\vs[2]?=some .none
section
variable {M:Model}{A:Around}{E:Value->Shared->Prop}{s:Shared}{base:Heap}{env:Env}{outer:List Env}{L e:Addr}{Q:Unit->Shared->Prop}
end
end PySem
namespace L2
open PySem PySem.Spec PyProof.Rows
def Rz(base:Heap)(l:List Env)(e:Addr)(cls a0:Value)(h:Heap):Prop:=base.StaysIn h/\base.get? e=none/\h.FunFrames base l/\h.TracedW base e cls a0/\Ry h e
def CX1(P:Program)(w:World):CXT:=λouter H s E e s'=>∃(a:Addr) (cls a0:Value) (H1:Hp) (hb:Heap),e=.ref a/\s'.os=s.os/\AllBare s'.gens/\Un (frs outer) [] H H1 s.heap s'.heap/\HOk P w H1 hb/\Rz hb outer a cls a0 s'.heap /\
 (∀b o,s.heap.get? b=some o->H b=none->b∉frs outer->hb.get? b=some o)/\(∀b o,s.heap.get? b=some o->b∉frs outer->∃o',hb.get? b=some o')/\E cls none H1
structure Lets(X:Cx)(E:XK):Prop where
 xe:∀e s',wpAny (model X.prog X.w) X.A (leaving X.env e) (λ_ s''=>CX1 X.prog X.w X.outer X.H₀ X.s₀ E e s'') (λe' s''=>CX1 X.prog X.w X.outer X.H₀ X.s₀ E e' s'') s'->X.xe e s'
 stk:X.stack=X.env::X.outer
 fr:X.env.frame=some X.env.locals
 ex:X.ex=[]
section
variable {X:Cx}{pins:List (Addr×Obj)}{σ:St}{H H1:Hp}{s:Shared}{E:XK}
end
structure ExcCls(K:Þ)(C:Addr)(newId:String)(bmB:List Value):Prop where
 ex:∃(nm q:Str) (N:Addr) (bs bm:List Value) (hdct:Bool) (sn:List Str) (sub:List Value) (ab:Bool) (col:Option Bool) (dd:Option Addr) (k0 k1 k2 k3 k5:Option Value),
  K.lookup C=some (excClassObj nm q C N bs bm hdct sn sub ab col dd k0 k1 k2 k3 k5 newId)/\W.tailIn K bmB bm=true/\W.nsOkIn K N=true/\W.nsIn K N "__init__"=some none/\bm.contains (.type "BaseException")=true
section
variable {X:Cx}{E:XK}{x:Str}{C:Addr}{newId Bn initId:String}{bmB:List Value}{e:Expr}{es:List Expr}{t:TA}{np cpos pos:Pos}
end
section
variable {X:Cx}{pins:List (Addr×Obj)}{σ:St}{H:Hp}{s:Shared}{ev:Value}
def Qu(a:Addr)(cls:Value):Heap->Prop:=λh=>∃oe vs,h.get? a=some oe/\oe.cls=cls/\oe.data=.fields vs
def Rv(a:Addr)(cls:Value):HO:=.ext (Qu a cls)
theorem Inv.track{a:Addr}{o:HO}(I:Inv X pins σ H s)(hn:H a=none)(h0:∀ob,X.s₀.heap.get? a≠some ob)(hL:a≠X.env.locals)(hC:∀x c,X.env.cells.lookup x=some c->c≠a)(hp:∀p∈X.pn++pins,p.1≠a)(new:bO X.prog X.w (upd H a o) s.heap a o):Inv X pins σ (upd H a o) s:=by
 refine⟨I.ok,I.os,I.bare,⟨I.base.keep,I.base.slot,λb ob e n hx=>?_,I.base.there,λb xs e=>?_,λb ob u e=>?_,λb ps e=>?_⟩,I.loc,I.cell,?_,λx c e=>?_,λp q=>?_,I.hok.track hn new,I.len⟩
 ·rw[ao (show b≠a from λz=>h0 ob (by rw[←z];exact e))]
  exact I.base.free b ob e n hx
 ·have q:=I.base.tups b xs e
  rw[ao (aD q hn)]
  exact q
 ·have q:=I.base.frzs b ob u e
  rw[ao (aD q hn)]
  exact q
 ·obtain⟨m,q⟩:=I.base.tbls b ps e
  exact⟨m,by rw[ao (aD q hn)];exact q⟩
 ·rw[ao (ī hL)]
  exact I.free
 ·rw[ao (hC x c e)]
  exact I.freeC x c e
 ·obtain⟨q1,q2,q3⟩:=I.pin p q
  exact⟨q1,by rw[ao (hp p q)];exact q2,q3⟩
end
section
variable {X:Cx}{k:Nat}{f CF:Addr}{fd:FuncData}{ps:List Str}{sp:Sp}{E:XK}{x hx n:Str}{p np cpos epos hpos pos:Pos}{e:Expr}{es:List Expr}{t:TA}{b₀:Stmt}{suite:List Stmt}{ts:TS}{j:Nat}
end
end L2
namespace L2
open PySem PySem.W PySem.Spec PyProof.Rows
structure ExcK(K:Þ)(C:Addr):Prop where
 ex:∃(nm q:Str) (N AF:Addr) (bs bmB:List Value) (hdct:Bool) (sn:List Str) (sub:List Value) (ab:Bool) (col:Option Bool) (dd ddF:Option Addr) (k0 k1 k2 k3 k5:Option Value) (newId B:String) (c0:Value) (cd:ClassData) (slF:Array (Option Value)),
  K.lookup C=some (excClassObj nm q C N bs (.ref AF::bmB) hdct sn sub ab col dd k0 k1 k2 k3 k5 newId)/\K.lookup AF=some ⟨c0,ddF,.cls cd,slF⟩/\nsOkIn K cd.ns=true/\(∀n∈quietNames,nsIn K cd.ns n=some none)/\ExcAttrBase B bmB
 ga:findIn K (.ref C) "__getattribute__"=some (some (.builtin "BaseException.__getattribute__"))
 hook:findIn K (.ref C) "__getattr__"=some none
 cls:findIn K (.ref C) "__class__"=some (some (.builtin "object.__class__"))
 mro:mroIn K C (.type "object")=some true
section
variable {prog:Program}{w:World}{K:Þ}{a C:Addr}{A:Around}{E:Value->Shared->Prop}{s:Shared}
end
section
variable {X:Cx}
def Jz:R2:=λx y H Q=>∃a b xs ys,x=.ref a/\y=.ref b/\H a=some (.tup xs)/\H b=some (.tup ys)/\xs.length+ys.length<=sizeLine/\∀c H',(∀d u,H d=some u->H' d=some u)->H' c=some (.tup (xs++ys))->Q (.ref c) H'
theorem HJ:OpR X (binaryOp .Add) Jz:=by
 intro pins s σ H x y v u Q I rx ry h
 obtain⟨a,b,xs,ys,rfl,rfl,ha,hb,hz,q⟩:=h
 cases rx
 cases ry
 obtain⟨its,r1,p1,_⟩:=I.tuple (SqT.of ha)
 obtain⟨its2,r2,p2,_⟩:=I.tuple (SqT.of hb)
 by_cases hx:xs=[]
 ·subst hx
  cases r1
  obtain⟨m,F⟩:=I.fr
  refine add_tuples (vs:=[]) F EY p1 p2 (λ_=>⟨.ref b,H,I,rfl,q b H (λ_ _ z=>z) (by simpa using hb)⟩) (λz=>absurd rfl z) (λz=>absurd rfl z) (by rw[←r2.length];simpa using hz)
 ·refine HF pins s σ H (.ref a) (.ref b) (.ref a) (.ref b) Q I rfl rfl ⟨a,b,xs,ys,rfl,rfl,SqT.of ha,SqT.of hb,hx,hz,λe=>?_,λ_ p hp=>?_⟩
  ·subst e
   exact q a H (λ_ _ z=>z) (by rw[ć];exact ha)
  ·exact q p _ (λd u z=>by rw[ao (aD z hp)];exact z) aq
end
section
variable {K:Þ}{C c:Addr}{dd:Option Addr}{cd:ClassData}{sl:Array (Option Value)}
end
end L2
namespace Dl
open PySem L2 PyProof.Rows
abbrev D:=PyData
def kD:Key->D
 |.inl i=>.int i
 |.inr x=>.str x
mutual
inductive Rp(ok:Addr->Prop)(H:Hp):V->D->Prop
 |non:Rp ok H .non .none
 |bl (b:Bool):Rp ok H (.bl b) (.bool b)
 |int (i:Int):Rp ok H (.int i) (.int i)
 |str (x:Str):Rp ok H (.str x) (.str x)
 |lst {a:Addr}{vs:List V}{ds:List D} (o:ok a) (h:H a=some (.lst vs)) (r:Rps ok H vs ds):Rp ok H (.ref a) (.list ds)
 |tup {a:Addr}{vs:List V}{ds:List D} (h:H a=some (.tup vs)) (r:Rps ok H vs ds):Rp ok H (.ref a) (.tuple ds)
 |dct {a:Addr}{kvs:List (Key×V)}{ds:List (D×D)} (o:ok a) (h:H a=some (.dK kvs)) (r:Rkv ok H kvs ds):Rp ok H (.ref a) (.dict ds)
inductive Rps(ok:Addr->Prop)(H:Hp):List V->List D->Prop
 |nil:Rps ok H [] []
 |cons {v:V}{d:D}{vs:List V}{ds:List D} (h:Rp ok H v d) (t:Rps ok H vs ds):Rps ok H (v::vs) (d::ds)
inductive Rkv(ok:Addr->Prop)(H:Hp):List (Key×V)->List (D×D)->Prop
 |nil:Rkv ok H [] []
 |cons {k:Key}{v:V}{d:D}{vs:List (Key×V)}{ds:List (D×D)} (h:Rp ok H v d) (t:Rkv ok H vs ds):Rkv ok H ((k,v)::vs) ((kD k,d)::ds)
end
section
variable {ok ok':Addr->Prop}{H H':Hp}
mutual
theorem Rp.mono(f:∀a,ok a->ok' a)(g:∀a o,ok a->H a=some o->H' a=some o)(t:∀a xs,H a=some (.tup xs)->H' a=some (.tup xs)):∀{v:V}{d:D},Rp ok H v d->Rp ok' H' v d
 |_,_,.non=>.non
 |_,_,.bl b=>.bl b
 |_,_,.int i=>.int i
 |_,_,.str x=>.str x
 |_,_,.lst o h r=>.lst (f _ o) (g _ _ o h) (Rps.mono f g t r)
 |_,_,.tup h r=>.tup (t _ _ h) (Rps.mono f g t r)
 |_,_,.dct o h r=>.dct (f _ o) (g _ _ o h) (Rkv.mono f g t r)
theorem Rps.mono(f:∀a,ok a->ok' a)(g:∀a o,ok a->H a=some o->H' a=some o)(t:∀a xs,H a=some (.tup xs)->H' a=some (.tup xs)):∀{v:List V}{d:List D},Rps ok H v d->Rps ok' H' v d
 |_,_,.nil=>.nil
 |_,_,.cons h r=>.cons (Rp.mono f g t h) (Rps.mono f g t r)
theorem Rkv.mono(f:∀a,ok a->ok' a)(g:∀a o,ok a->H a=some o->H' a=some o)(t:∀a xs,H a=some (.tup xs)->H' a=some (.tup xs)):∀{v:List (Key×V)}{d:List (D×D)},Rkv ok H v d->Rkv ok' H' v d
 |_,_,.nil=>.nil
 |_,_,.cons h r=>.cons (Rp.mono f g t h) (Rkv.mono f g t r)
end
theorem Rps.length:∀{vs:List V}{ds:List D},Rps ok H vs ds->vs.length=ds.length
 |_,_,.nil=>rfl
 |_,_,.cons _ t=>by rw[Ý,Ý,Rps.length t]
theorem Rps.getD:∀{vs:List V}{ds:List D}{i:Nat}{d:D},Rps ok H vs ds->ds[i]?=some d->∃v,vs[i]?=some v/\Rp ok H v d
 |_,_,i,v,.nil,e=>by simp at e
 |_,_,0,v,.cons h t,e=>by simp at e;subst e;exact⟨_,rfl,h⟩
 |_,_,i+1,v,.cons h t,e=>by
  obtain⟨d,a,b⟩:=Rps.getD (i:=i) (d:=v) t (by simpa using e)
  exact⟨d,by simpa using a,b⟩
theorem Rps.app:∀{vs ws:List V}{ds es:List D},Rps ok H vs ds->Rps ok H ws es->Rps ok H (vs++ws) (ds++es)
 |_,_,_,_,.nil,s=>s
 |_,_,_,_,.cons h t,s=>.cons h (Rps.app t s)
theorem Rps.snoc{vs:List V}{ds:List D}{v:V}{d:D}(h:Rps ok H vs ds)(r:Rp ok H v d):Rps ok H (vs++[v]) (ds++[d]):=h.app (.cons r .nil)
theorem Rps.take:∀{vs:List V}{ds:List D} (n:Nat),Rps ok H vs ds->Rps ok H (vs.take n) (ds.take n)
 |_,_,0,_=>by simp;exact .nil
 |_,_,_+1,.nil=>by simp;exact .nil
 |_,_,n+1,.cons r t=>.cons r (Rps.take n t)
theorem Rps.drop:∀{vs:List V}{ds:List D} (n:Nat),Rps ok H vs ds->Rps ok H (vs.drop n) (ds.drop n)
 |_,_,0,r=>r
 |_,_,_+1,.nil=>by simp;exact .nil
 |_,_,n+1,.cons _ t=>Rps.drop n t
theorem Rps.ofMap{α:Type}{f:α->V}{g:α->D}(h:∀x,Rp ok H (f x) (g x)):∀l:List α,Rps ok H (l.map f) (l.map g)
 |[]=>.nil
 |x::l=>.cons (h x) (Rps.ofMap h l)
theorem Rp.int'{v:V}{i:Int}(r:Rp ok H v (.int i)):v=.int i:=by cases r;rfl
theorem Rp.bl'{v:V}{i:Bool}(r:Rp ok H v (.bool i)):v=.bl i:=by cases r;rfl
theorem Rp.str'{v:V}{i:Str}(r:Rp ok H v (.str i)):v=.str i:=by cases r;rfl
theorem Rp.cL{v:V}{ds:List D}(r:Rp ok H v (.list ds)):∃a vs,v=.ref a/\ok a/\H a=some (.lst vs)/\Rps ok H vs ds:=by
 cases r with
 |lst o h r=>exact⟨_,_,rfl,o,h,r⟩
theorem Rp.gZ{v:V}{ds:List D}(r:Rp ok H v (.tuple ds)):∃a vs,v=.ref a/\H a=some (.tup vs)/\Rps ok H vs ds:=by
 cases r with
 |tup h r=>exact⟨_,_,rfl,h,r⟩
theorem Rps.ints:∀{vs:List V}{ns:List Int},Rps ok H vs (ns.map Ã)->vs=ns.map V.int
 |[],[],_=>rfl
 |_,n::ns,.cons h t=>by
  have e:=h.int'
  subst e
  rw[Rps.ints t]
  rfl
theorem Rps.two{vs:List V}{d e:D}(r:Rps ok H vs [d,e]):∃v w,vs=[v,w]/\Rp ok H v d/\Rp ok H w e:=by
 cases r with
 |cons h t =>
  cases t with
  |cons h2 t2 =>
   cases t2
   exact⟨_,_,rfl,h,h2⟩
end
mutual
def bK:D->Bool
 |.none=>true
 |.bool _=>true
 |.int _=>true
 |.str _=>true
 |.list _=>false
 |.tuple ds=>cT ds
 |.dict _=>false
def cT:List D->Bool
 |[]=>true
 |d::ds=>bK d&&cT ds
end
section
variable {ok:Addr->Prop}{H:Hp}
mutual
theorem Rp.imm:∀{v:V}{d:D},Rp ok H v d->bK d=true->Rp (λ_=>False) H v d
 |_,_,.non,_=>.non
 |_,_,.bl b,_=>.bl b
 |_,_,.int i,_=>.int i
 |_,_,.str x,_=>.str x
 |_,_,.tup h r,e=>.tup h (Rps.imm r e)
theorem Rps.imm:∀{v:List V}{d:List D},Rps ok H v d->cT d=true->Rps (λ_=>False) H v d
 |_,_,.nil,_=>.nil
 |_,_,.cons h r,e=>.cons (Rp.imm h (by simp only[cT,Ê] at e;exact e.1)) (Rps.imm r (by simp only[cT,Ê] at e;exact e.2))
end
end
def Fxd(o:HO):Prop:=∃x φ,o=.frz x (.ext φ)
structure Pn where
 fp:Addr->Prop
 PI:Hp->Prop
 pv:V
 mono:∀H H',PI H->(∀b o,(fp b\/Fxd o)->H b=some o->H' b=some o)->PI H'
 is:∀H b,PI H->fp b->∃o,H b=some o/\(∀xs,o≠.tup xs)/\¬Fxd o
class Gr where
 G:Pn->Hp->Prop
instance (priority:=low) grT:Gr:=⟨λ_ _=>True⟩
def jC:Pn:=⟨λ_=>False,λ_=>True,.non,λ_ _ _ _=>trivial,λ_ _ _ h=>h.elim⟩
def Kp(p:Pn)(H H':Hp):Prop:=∀b o,H b=some o->¬p.fp b->H' b=some o
theorem Kp.refl{p:Pn}{H:Hp}:Kp p H H:=λ_ _ h _=>h
theorem Kp.trans{p:Pn}{H H1 H2:Hp}(a:Kp p H H1)(b:Kp p H1 H2):Kp p H H2:=λc o h n=>b c o (a c o h n) n
theorem Kp.of{p:Pn}{H H':Hp}(s:Same H H'):Kp p H H':=λb o h _=>s b o h
inductive Sl where
 |any
 |im (d:D)
 |sh (d:D)
 |sn (d:D)
 |dw (r:Nat) (d:D)
 |pen (C:Pn->Prop)
 |rw (r:Nat) (L:List (List D))
 |tw (r:Nat) (L:List (List D))
 |scr (v:V) (b:Bool)
 |sp (r:Nat) (b:Bool) (ds:List D)
inductive Kd where
 |imm|new|reg (r:Nat)|n0|snw|shr|wk
 deriving DecidableEq
def Kd.le:Kd->Kd->Bool
 |.imm,_=>true
 |.new,.new=>true
 |.new,.n0=>true
 |.new,.snw=>true
 |.new,.shr=>true
 |.new,.wk=>true
 |.reg r,.reg q=>r == q
 |.reg _,.n0=>true
 |.reg _,.wk=>true
 |.snw,.snw=>true
 |.snw,.n0=>true
 |.snw,.shr=>true
 |.snw,.wk=>true
 |.n0,.n0=>true
 |.n0,.wk=>true
 |.shr,.shr=>true
 |.shr,.wk=>true
 |.wk,.wk=>true
 |_,_=>false
def Kd.join(a b:Kd):Kd:=if a.le b then b else if b.le a then a else if a.le .n0&&b.le .n0 then .n0 else if a.le .shr&&b.le .shr then .shr else .wk
def norm(k:Kd)(d:D):Kd:=match k with
 |.imm=>.imm
 |k=>if bK d then .imm else k
theorem qt{k:Kd}{d:D}(h:bK d=true):norm k d=.imm:=by
 cases k <;> first
  |rfl
  |exact if_pos h
theorem qu{k:Kd}{d:D}(h:¬bK d=true):norm k d=k:=by
 cases k <;> first
  |rfl
  |exact if_neg h
def okK(p:Pn)(H0:Hp)(own:Addr->Option Nat)(Hb:Hp):Kd->Addr->Prop
 |.imm=>λ_=>False
 |.new=>λa=>Hb a=none
 |.reg r=>λa=>own a=some r
 |.n0=>λa=>H0 a=none/\¬p.fp a
 |.snw=>λa=>H0 a=none/\¬p.fp a/\own a=none
 |.shr=>λa=>¬p.fp a/\own a=none
 |.wk=>λa=>¬p.fp a
structure At(p:Pn)(H0:Hp)(own:Addr->Option Nat)(Hb H:Hp):Prop where
 k0:∀b o,H0 b=some o->¬p.fp b->Hb b=some o
 kp:Kp p Hb H
 penb:p.PI Hb
 pen:p.PI H
 ow:∀a r,own a=some r->H0 a=none/\¬p.fp a/\Hb a≠none
section
variable {p:Pn}{H0 Hb H H':Hp}{own:Addr->Option Nat}
theorem At.nfp(A:At p H0 own Hb H){a:Addr}(h:H a=none):¬p.fp a:=λz=>by
 obtain⟨o,e,_⟩:=p.is H a A.pen z
 rw[h] at e
 cases e
theorem At.free(A:At p H0 own Hb H){a:Addr}(h:H a=none):Hb a=none:=by
 have hn:=A.nfp h
 cases e:Hb a with
 |none=>rfl
 |some o=>rw[A.kp a o e hn] at h;cases h
theorem At.nfb(A:At p H0 own Hb H){a:Addr}(h:Hb a=none):¬p.fp a:=λz=>by
 obtain⟨o,e,_⟩:=p.is Hb a A.penb z
 rw[h] at e
 cases e
theorem At.Hz(A:At p H0 own Hb H){a:Addr}(h:Hb a=none):own a=none:=by
 cases e:own a with
 |none=>rfl
 |some r=>exact absurd h (A.ow a r e).2.2
theorem At.h0(A:At p H0 own Hb H){a:Addr}(h:Hb a=none):H0 a=none:=by
 cases e:H0 a with
 |none=>rfl
 |some o=>rw[A.k0 a o e (A.nfb h)] at h;cases h
theorem bZ(A:At p H0 own Hb H){j k:Kd}(h:j.le k=true){a:Addr}(o:okK p H0 own Hb j a):okK p H0 own Hb k a:=by
 cases j with
 |imm=>exact Ŝ o
 |new =>
  cases k with
  |imm=>cases h
  |new=>exact o
  |reg r=>cases h
  |n0=>exact⟨A.h0 o,A.nfb o⟩
  |snw=>exact⟨A.h0 o,A.nfb o,A.Hz o⟩
  |shr=>exact⟨A.nfb o,A.Hz o⟩
  |wk=>exact A.nfb o
 |reg r =>
  cases k with
  |reg q =>
   have e:r=q:=by simpa[Kd.le] using h
   subst e
   exact o
  |n0=>exact⟨(A.ow a r o).1,(A.ow a r o).2.1⟩
  |wk=>exact(A.ow a r o).2.1
  |_=>cases h
 |n0 =>
  cases k with
  |n0=>exact o
  |wk=>exact o.2
  |_=>cases h
 |snw =>
  cases k with
  |snw=>exact o
  |n0=>exact⟨o.1,o.2.1⟩
  |shr=>exact o.2
  |wk=>exact o.2.1
  |_=>cases h
 |shr =>
  cases k with
  |shr=>exact o
  |wk=>exact o.1
  |_=>cases h
 |wk =>
  cases k with
  |wk=>exact o
  |_=>cases h
theorem gD(A:At p H0 own Hb H){k:Kd}{a:Addr}(o:okK p H0 own Hb k a):¬p.fp a:=by
 have:k.le .wk=true:=by cases k <;> rfl
 exact bZ A this o
theorem jA(A:At p H0 own Hb H){j k:Kd}(h:j.le k=true){v:V}{d:D}{H2:Hp}(r:Rp (okK p H0 own Hb j) H2 v d):Rp (okK p H0 own Hb k) H2 v d :=
 r.mono (λa o=>bZ A h o) (λ_ _ _ e=>e) λ_ _ e=>e
theorem fj(a b:Kd):a.le (a.join b)=true/\b.le (a.join b)=true:=by
 unfold Kd.join
 by_cases h:a.le b=true
 ·rw[if_pos h];exact⟨h,by cases b <;> simp[Kd.le]⟩
 ·rw[if_neg h]
  by_cases h2:b.le a=true
  ·rw[if_pos h2];exact⟨by cases a <;> simp[Kd.le],h2⟩
  ·rw[if_neg h2]
   by_cases h3:(a.le .n0&&b.le .n0)=true
   ·rw[if_pos h3];exact Ê _ _ ▸ h3
   ·rw[if_neg h3]
    by_cases h4:(a.le .shr&&b.le .shr)=true
    ·rw[if_pos h4];exact Ê _ _ ▸ h4
    ·rw[if_neg h4];exact⟨by cases a <;> rfl,by cases b <;> rfl⟩
theorem aW{k:Kd}{v:V}{d:D}{H2:Hp}(r:Rp (okK p H0 own Hb k) H2 v d):Rp (okK p H0 own Hb (norm k d)) H2 v d:=by
 by_cases h:bK d=true
 ·rw[qt h];exact r.imm h
 ·rw[qu h];exact r
theorem iV(A:At p H0 own Hb H)(k:Kp p H H'):∀a xs,H a=some (.tup xs)->H' a=some (.tup xs):=λa xs h=>k a _ h λz=>by
 obtain⟨o,e,n⟩:=p.is H a A.pen z
 rw[h] at e
 exact n.1 xs (ã e).symm
theorem j7(A:At p H0 own Hb H)(k:Kp p H H'){j:Kd}{v:V}{d:D}(r:Rp (okK p H0 own Hb j) H v d):Rp (okK p H0 own Hb j) H' v d :=
 r.mono (λ_ o=>o) (λa o h e=>k a o e (gD A h)) (iV A k)
theorem bI(A:At p H0 own Hb H)(k:Kp p H H'){j:Kd}{v:List V}{d:List D}(r:Rps (okK p H0 own Hb j) H v d):Rps (okK p H0 own Hb j) H' v d :=
 r.mono (λ_ o=>o) (λa o h e=>k a o e (gD A h)) (iV A k)
theorem At.go(A:At p H0 own Hb H)(k:Kp p H H')(i:p.PI H'):At p H0 own Hb H':=⟨A.k0,A.kp.trans k,A.penb,i,A.ow⟩
theorem At.base{H1:Hp}(A:At p H0 own Hb H)(B:At p H0 own H H1):At p H0 own Hb H1:=⟨A.k0,A.kp.trans B.kp,A.penb,B.pen,A.ow⟩
theorem Ey(A:At p H0 own Hb H){k:Kd}{a:Addr}(o:okK p H0 own H k a):okK p H0 own Hb k a:=by
 cases k <;> first
  |exact o
  |exact A.free o
theorem fX(A:At p H0 own Hb H){k:Kd}{v:V}{d:D}{H2:Hp}(r:Rp (okK p H0 own H k) H2 v d):Rp (okK p H0 own Hb k) H2 v d :=
 r.mono (λa o=>Ey A o) (λ_ _ _ e=>e) λ_ _ e=>e
theorem At.new(A:At p H0 own Hb H){a:Addr}(h:H a=none)(o:HO):Kp p H (upd H a o)/\p.PI (upd H a o)/\okK p H0 own Hb .new a :=
 have s:Same H (upd H a o):=λb u q=>by rw[ao (aD q h)];exact q
 ⟨Kp.of s,p.mono H _ A.pen λb u _ q=>s b u q,A.free h⟩
end
structure RowsH(own:Addr->Option Nat)(r:Nat)(H:Hp)(st:Addr)(as:List Addr)(L:List (List D)):Prop where
 top:H st=some (.lst (as.map V.ref))
 nd:(st::as).Nodup
 ow:∀a∈st::as,own a=some r
 len:as.length=L.length
 row:∀(j:Nat) (a:Addr) (ds:List D),as[j]?=some a->L[j]?=some ds->∃vs,H a=some (.lst vs)/\Rps (λ_=>False) H vs ds
theorem RowsH.mono{own own':Addr->Option Nat}{r:Nat}{H H':Hp}{st:Addr}{as:List Addr}{L:List (List D)}(h:RowsH own r H st as L)(g:∀a o,own a=some r->H a=some o->own' a=some r/\H' a=some o)(t:∀a xs,H a=some (.tup xs)->H' a=some (.tup xs)):RowsH own' r H' st as L:=by
 have live:∀a∈st::as,∃o,H a=some o:=λa ha=>by
  rcases á.mp ha with rfl|ha
  ·exact⟨_,h.top⟩
  ·obtain⟨j,hj⟩:=List.getElem?_of_mem ha
   have hl:=(Ó.mp hj).1
   obtain⟨vs,e,_⟩:=h.row j a _ hj (É (by rw[←h.len];exact hl))
   exact⟨_,e⟩
 refine⟨(g st _ (h.ow st Í) h.top).2,h.nd,λa ha=>?_,h.len,λj a ds e1 e2=>?_⟩
 ·obtain⟨o,e⟩:=live a ha
  exact(g a o (h.ow a ha) e).1
 ·obtain⟨vs,e,r'⟩:=h.row j a ds e1 e2
  exact⟨vs,(g a _ (h.ow a (Î _ (Ò e1))) e).2,r'.mono (λ_ o=>o) (λ_ _ o=>o.elim) t⟩
theorem mQ{ok:Addr->Prop}{H:Hp}:∀(as:List Addr) (L:List (List D)),as.length=L.length->(∀a∈as,ok a)->(∀(j:Nat) (a:Addr) (ds:List D),as[j]?=some a->L[j]?=some ds->∃vs,H a=some (.lst vs)/\Rps (λ_=>False) H vs ds)->Rps ok H (as.map V.ref) (L.map ì)
 |[],[],_,_,_=>.nil
 |a::as,d::L,hl,h,r=>by
  obtain⟨vs,e,rs⟩:=r 0 a d rfl rfl
  exact .cons (.lst (h a Í) e (rs.mono (λ_ o=>o.elim) (λ_ _ o=>o.elim) λ_ _ e=>e)) (mQ as L (by simpa using hl) (λb hb=>h b (Î _ hb)) λj b ds e1 e2=>r (j+1) b ds e1 e2)
 |[],_::_,hl,_,_=>by cases hl
 |_::_,[],hl,_,_=>by cases hl
theorem RowsH.rp{own:Addr->Option Nat}{r:Nat}{H:Hp}{st:Addr}{as:List Addr}{L:List (List D)}(h:RowsH own r H st as L):Rp (λa=>own a=some r) H (.ref st) (.list (L.map ì)) :=
 .lst (h.ow st Í) h.top (mQ as L h.len (λa ha=>h.ow a (Î _ ha)) h.row)
structure RowsT(own:Addr->Option Nat)(r:Nat)(H:Hp)(st:Addr)(as:List Addr)(L:List (List D)):Prop where
 top:H st=some (.tup (as.map V.ref))
 nd:as.Nodup
 ow:∀a∈as,own a=some r
 len:as.length=L.length
 row:∀(j:Nat) (a:Addr) (ds:List D),as[j]?=some a->L[j]?=some ds->∃vs,H a=some (.lst vs)/\Rps (λ_=>False) H vs ds
theorem RowsT.mono{own own':Addr->Option Nat}{r:Nat}{H H':Hp}{st:Addr}{as:List Addr}{L:List (List D)}(h:RowsT own r H st as L)(g:∀a o,own a=some r->H a=some o->own' a=some r/\H' a=some o)(t:∀a xs,H a=some (.tup xs)->H' a=some (.tup xs)):RowsT own' r H' st as L:=by
 refine⟨t st _ h.top,h.nd,λa ha=>?_,h.len,λj a ds e1 e2=>?_⟩
 ·obtain⟨j,hj⟩:=List.getElem?_of_mem ha
  have hl:=(Ó.mp hj).1
  obtain⟨vs,e,_⟩:=h.row j a _ hj (É (by rw[←h.len];exact hl))
  exact(g a _ (h.ow a ha) e).1
 ·obtain⟨vs,e,r'⟩:=h.row j a ds e1 e2
  exact⟨vs,(g a _ (h.ow a (Ò e1)) e).2,r'.mono (λ_ o=>o) (λ_ _ o=>o.elim) t⟩
theorem RowsT.rp{own:Addr->Option Nat}{r:Nat}{H:Hp}{st:Addr}{as:List Addr}{L:List (List D)}(h:RowsT own r H st as L):Rp (λa=>own a=some r) H (.ref st) (.tuple (L.map ì)) :=
 .tup h.top (mQ as L h.len h.ow h.row)
def okS(p:Pn)(H0:Hp)(own:Addr->Option Nat)(b:Bool)(a:Addr):Prop:=(b=true->H0 a=none)/\¬p.fp a/\own a=none
def gQ(p:Pn)(H0:Hp)(own:Addr->Option Nat)(σ:L2.St)(H:Hp)(i:Nat):Sl->Prop
 |.any=>True
 |.im d=>∃v,σ[i]?=some (some v)/\Rp (λ_=>False) H v d
 |.sh d=>∃v,σ[i]?=some (some v)/\Rp (λa=>¬p.fp a/\own a=none) H v d
 |.sn d=>∃v,σ[i]?=some (some v)/\Rp (λa=>H0 a=none/\¬p.fp a/\own a=none) H v d
 |.dw r d=>∃v,σ[i]?=some (some v)/\Rp (λa=>own a=some r) H v d
 |.pen C=>σ[i]?=some (some p.pv)/\C p
 |.rw r L=>∃st as,σ[i]?=some (some (.ref st))/\RowsH own r H st as L
 |.tw r L=>∃st as,σ[i]?=some (some (.ref st))/\RowsT own r H st as L
 |.scr v b=>σ[i]?=some (some v)/\(b=true->p=jC)
 |.sp r b ds=>∃l vs,σ[i]?=some (some (.ref l))/\own l=some r/\H l=some (.lst vs)/\Rps (okS p H0 own b) H vs ds
structure EnvD[Gr](p:Pn)(H0:Hp)(own:Addr->Option Nat)(σ:L2.St)(H:Hp)(ρ:List Sl):Prop where
 k0:∀b o,H0 b=some o->¬p.fp b->H b=some o
 pen:p.PI H
 ow:∀a r,own a=some r->H0 a=none/\¬p.fp a/\H a≠none
 slot:∀i s,ρ[i]?=some s->gQ p H0 own σ H i s
 len:ρ.length=σ.length
 gr:Gr.G p H0
variable [Gr]
section
variable {p:Pn}{H0 H H':Hp}{own:Addr->Option Nat}{σ:L2.St}{ρ:List Sl}
theorem EnvD.at(E:EnvD p H0 own σ H ρ):At p H0 own H H:=⟨E.k0,Kp.refl,E.pen,E.pen,E.ow⟩
theorem EnvD.go(E:EnvD p H0 own σ H ρ)(k:Kp p H H')(i:p.PI H'):EnvD p H0 own σ H' ρ:=by
 have A:=E.at
 have tp:=iV A k
 refine⟨λb o e n=>k b o (E.k0 b o e n) n,i,λa r e=>?_,λj s e=>?_,E.len,E.gr⟩
 ·obtain⟨h1,h2,h3⟩:=E.ow a r e
  refine⟨h1,h2,λz=>?_⟩
  cases q:H a with
  |none=>exact h3 q
  |some o=>rw[k a o q h2] at z;cases z
 ·have q:=E.slot j s e
  cases s with
  |any=>trivial
  |im d=>exact let ⟨v,a,b⟩:=q;⟨v,a,b.mono (λ_ o=>o) (λ_ _ o=>o.elim) tp⟩
  |sh d=>exact let ⟨v,a,b⟩:=q;⟨v,a,b.mono (λ_ o=>o) (λc u o e=>k c u e o.1) tp⟩
  |sn d=>exact let ⟨v,a,b⟩:=q;⟨v,a,b.mono (λ_ o=>o) (λc u o e=>k c u e o.2.1) tp⟩
  |dw r d=>exact let ⟨v,a,b⟩:=q;⟨v,a,b.mono (λ_ o=>o) (λc u o e=>k c u e (E.ow c r o).2.1) tp⟩
  |pen C=>exact q
  |rw r L=>exact let ⟨st,as,a,b⟩:=q;⟨st,as,a,b.mono (λc u o e=>⟨o,k c u e (E.ow c r o).2.1⟩) tp⟩
  |tw r L=>exact let ⟨st,as,a,b⟩:=q;⟨st,as,a,b.mono (λc u o e=>⟨o,k c u e (E.ow c r o).2.1⟩) tp⟩
  |scr v b=>exact q
  |sp r b ds=>exact let ⟨l,vs,a,o,h,z⟩:=q;⟨l,vs,a,o,k l _ h (E.ow l r o).2.1,z.mono (λ_ o=>o) (λc u o e=>k c u e o.2.1) tp⟩
end
abbrev DK:=Kd->D->Prop
abbrev DE:=List Sl->DK->Prop
def cH(t:DE):TE:=λσ H Q=>∃p H0 own ρ P,EnvD p H0 own σ H ρ/\t ρ P/\∀k d v H',P k d->At p H0 own H H'->Rp (okK p H0 own H k) H' v d->Q v H'
abbrev PD(X:Cx)(e:Expr)(t:DE):Prop:=PE X e (cH t)
abbrev DA:=List Sl->(List (Kd×D)->Prop)->Prop
inductive RpK(p:Pn)(H0:Hp)(own:Addr->Option Nat)(Hb H:Hp):List V->List (Kd×D)->Prop
 |nil:RpK p H0 own Hb H [] []
 |cons {v:V}{kd:Kd×D}{vs:List V}{ks:List (Kd×D)} (h:Rp (okK p H0 own Hb kd.1) H v kd.2) (t:RpK p H0 own Hb H vs ks):RpK p H0 own Hb H (v::vs) (kd::ks)
def jF(t:DA):TA:=λσ H Q=>∃p H0 own ρ P,EnvD p H0 own σ H ρ/\t ρ P/\∀ks vs H',P ks->At p H0 own H H'->RpK p H0 own H H' vs ks->Q vs H'
abbrev PDA(X:Cx)(es:List Expr)(t:DA):Prop:=PA X es (jF t)
abbrev DT:=List Sl->(Bool->Prop)->Prop
def liftT(t:DT):TT:=λσ H Q=>∃p H0 own ρ P,EnvD p H0 own σ H ρ/\t ρ P/\∀b H',P b->At p H0 own H H'->Q b H'
abbrev PDT(X:Cx)(e:Expr)(t:DT):Prop:=PT X e (liftT t)
theorem PE.wk{X:Cx}{e:Expr}{t t':TE}(h:PE X e t)(w:∀σ H Q,t' σ H Q->t σ H Q):PE X e t':=λpins s σ H Q I q=>h pins s σ H Q I (w σ H Q q)
theorem PT.wk{X:Cx}{e:Expr}{t t':TT}(h:PT X e t)(w:∀σ H Q,t' σ H Q->t σ H Q):PT X e t':=λpins s σ H Q I q=>h pins s σ H Q I (w σ H Q q)
theorem PA.wk{X:Cx}{e:List Expr}{t t':TA}(h:PA X e t)(w:∀σ H Q,t' σ H Q->t σ H Q):PA X e t':=λpos pins s σ H Q I q=>h pos pins s σ H Q I (w σ H Q q)
section
variable {X:Cx}{pos:Pos}{a b:Expr}{ta tb:DE}
theorem RpK.go{p:Pn}{H0 Hb H H':Hp}{own:Addr->Option Nat}(A:At p H0 own Hb H)(k:Kp p H H'):∀{vs:List V}{ks:List (Kd×D)},RpK p H0 own Hb H vs ks->RpK p H0 own Hb H' vs ks
 |_,_,.nil=>.nil
 |_,_,.cons h t=>.cons (j7 A k h) (RpK.go A k t)
theorem RpK.base{p:Pn}{H0 Hb H H':Hp}{own:Addr->Option Nat}(A:At p H0 own Hb H):∀{vs:List V}{ks:List (Kd×D)},RpK p H0 own H H' vs ks->RpK p H0 own Hb H' vs ks
 |_,_,.nil=>.nil
 |_,_,.cons h t=>.cons (fX A h) (RpK.base A t)
def tV(i:Nat):DE:=λρ P=>match ρ[i]? with
 |some (.im d)=>P .imm d
 |some (.sh d)=>P .shr d
 |some (.sn d)=>P .snw d
 |some (.dw r d)=>P (.reg r) d
 |some (.rw r L)=>P (.reg r) (.list (L.map ì))
 |some (.tw r L)=>P (.reg r) (.tuple (L.map ì))
 |some (.sp r b ds)=>P (if b=true then .n0 else .wk) (.list ds)
 |_=>False
theorem Ld{i:Nat}{x:Str}{ps:Pos}(h:PE X (.Name x ps) (pK i)):PD X (.Name x ps) (tV i):=PE.wk h (by
 rintro σ H Q ⟨p,H0,own,ρ,P,E,t,q⟩
 unfold tV at t
 split at t
 ·rename_i d e;obtain⟨v,e1,r⟩:=E.slot i _ e;exact⟨v,e1,q _ _ _ _ t E.at r⟩
 ·rename_i d e;obtain⟨v,e1,r⟩:=E.slot i _ e;exact⟨v,e1,q _ _ _ _ t E.at r⟩
 ·rename_i d e;obtain⟨v,e1,r⟩:=E.slot i _ e;exact⟨v,e1,q _ _ _ _ t E.at r⟩
 ·rename_i d e;obtain⟨v,e1,r⟩:=E.slot i _ e;exact⟨v,e1,q _ _ _ _ t E.at r⟩
 ·rename_i r L e;obtain⟨st,as,e1,h⟩:=E.slot i _ e;exact⟨_,e1,q _ _ _ _ t E.at h.rp⟩
 ·rename_i r L e;obtain⟨st,as,e1,h⟩:=E.slot i _ e;exact⟨_,e1,q _ _ _ _ t E.at h.rp⟩
 ·rename_i r b ds e
  obtain⟨l,vs,e1,o,h,z⟩:=E.slot i _ e
  refine⟨_,e1,q _ _ _ _ t E.at ?_⟩
  cases b with
  |true=>exact .lst ⟨(E.ow l r o).1,(E.ow l r o).2.1⟩ h (z.mono (λc n=>⟨n.1 rfl,n.2.1⟩) (λ_ _ _ e=>e) λ_ _ e=>e)
  |false=>exact .lst (E.ow l r o).2.1 h (z.mono (λc n=>n.2.1) (λ_ _ _ e=>e) λ_ _ e=>e)
 ·exact t.elim)
def tK(d:D):DE:=λ_ P=>P .imm d
theorem kZ{e:Expr}{v:V}{d:D}(h:PE X e (tC v))(r:∀H,Rp (λ_=>False) H v d):PD X e (tK d):=PE.wk h (by
 rintro σ H Q ⟨p,H0,own,ρ,P,E,t,q⟩
 exact q _ _ _ _ t E.at (r H))
theorem bA{i:Int}{j:Nat}:PD X (.Constant (.int i) j pos) (tK (.int i)):=kZ DW λ_=>.int i
theorem rR{i:Bool}{j:Nat}:PD X (.Constant (.bool i) j pos) (tK (.bool i)):=kZ O2 λ_=>.bl i
theorem iC{j:Nat}:PD X (.Constant .none j pos) (tK .none):=kZ K9 λ_=>.non
theorem p8{x:Str}{j:Nat}:PD X (.Constant (.str x) j pos) (tK (.str x)):=kZ K6 λ_=>.str x
abbrev G2:=Kd->D->Kd->D->DK->Prop
def t2(g:G2)(ta tb:DE):DE:=λρ P=>ta ρ λk1 d1=>tb ρ λk2 d2=>g k1 d1 k2 d2 P
def Ok2(g:G2)(r:R2):Prop:=∀p H0 own Hb H x y k1 d1 k2 d2 P Q,At p H0 own Hb H->Rp (okK p H0 own Hb k1) H x d1->Rp (okK p H0 own Hb k2) H y d2->g k1 d1 k2 d2 P ->
 (∀k d v H',P k d->Kp p H H'->p.PI H'->Rp (okK p H0 own Hb k) H' v d->Q v H')->r x y H Q
theorem wD{g:G2}{r:R2}(ok:Ok2 g r):∀σ H Q,cH (t2 g ta tb) σ H Q->tOp r (cH ta) (cH tb) σ H Q:=by
 rintro σ H Q ⟨p,H0,own,ρ,P,E,t,q⟩
 refine⟨p,H0,own,ρ,_,E,t,λk1 d1 v1 H1 t1 A1 r1=>?_⟩
 have E1:=E.go A1.kp A1.pen
 refine⟨p,H0,own,ρ,_,E1,t1,λk2 d2 v2 H2 t2 A2 r2=>?_⟩
 have A:At p H0 own H H2:=A1.base A2
 exact ok p H0 own H H2 v1 v2 k1 d1 k2 d2 P Q A (j7 A1 A2.kp r1) (fX A1 r2) t2 λk d v H' h k3 i3 r3=>q k d v H' h (A.go k3 i3) r3
theorem qd{op:Operator}{r:R2}{g:G2}(ho:OpR X (binaryOp op) r)(ok:Ok2 g r)(ha:PD X a ta)(hb:PD X b tb):PD X (.BinOp a op b pos) (t2 g ta tb):=PE.wk (bG ho ha hb) (wD ok)
theorem gB{op:CmpOp}{r:R2}{g:G2}(ho:OpR X (compareOp op) r)(ok:Ok2 g r)(ha:PD X a ta)(hb:PD X b tb)(hm:behindInMarks op b=false):PD X (.Compare a [op] [b] pos) (t2 g ta tb):=PE.wk (Hx ho ha hb hm) (wD ok)
def fJ(t:DE):DT:=λρ P=>t ρ λ_ d=>match d with
 |.bool b=>P b
 |_=>False
theorem wC{t:DE}:∀σ H Q,liftT (fJ t) σ H Q->(cH t) σ H (λx H'=>∃k,x=.bl k/\Q k H'):=by
 rintro σ H Q ⟨p,H0,own,ρ,P,E,t,q⟩
 refine⟨p,H0,own,ρ,_,E,t,λk d v H' h A r=>?_⟩
 cases d with
 |bool b=>exact⟨b,r.bl',q b H' h A⟩
 |_=>exact h.elim
theorem gj{op:CmpOp}{r:R2}{g:G2}(ho:OpR X (compareOp op) r)(ok:Ok2 g r)(ha:PD X a ta)(hb:PD X b tb)(hm:behindInMarks op b=false):PDT X (.Compare a [op] [b] pos) (fJ (t2 g ta tb)) :=
 PT.wk (j8 ho ha hb hm) λσ H Q h=>wD ok σ H _ (wC σ H Q h)
theorem bx{e:Expr}{t:DE}(h:PD X e t)(he:∀whole,isTrue e X.env whole=(do let v ←whole;standAt e.pos;holding [v] (truthy v)):=by intro _;rfl):PDT X e (fJ t) :=
 PT.wk (KC h he) λσ H Q q=>wC σ H Q q
def Qm(t:DT):DT:=λρ P=>t ρ λb=>P (!b)
theorem bJ{t:DT}(ha:PDT X a t):PDT X (.UnaryOp .Not a pos) (Qm t):=PT.wk (KD ha) (by
 rintro σ H Q ⟨p,H0,own,ρ,P,E,t,q⟩
 exact⟨p,H0,own,ρ,_,E,t,λb H' h A=>q _ H' h A⟩)
abbrev PDW(X:Cx)(e:Expr)(t:DT):Prop:=PW X e (liftT t)
theorem PW.wk{X:Cx}{e:Expr}{t t':TT}(h:PW X e t)(w:∀σ H Q,t' σ H Q->t σ H Q):PW X e t':=λwh pins s σ H Q I q=>h wh pins s σ H Q I (w σ H Q q)
def Nb(t u:DT):DT:=λρ P=>t ρ λb=>if b=true then u ρ P else P false
def dOr(t u:DT):DT:=λρ P=>t ρ λb=>if b=true then P true else u ρ P
section
variable {rest:List Expr}{t u:DT}
theorem kj(ha:PDT X a t):PDW X (.BoolOp .And [a] pos) t:=Ho ha
theorem dH(ha:PDT X a t):PDW X (.BoolOp .Or [a] pos) t:=Kw ha
theorem Fj:∀σ H Q,liftT (Nb t u) σ H Q->Oe (liftT t) (liftT u) σ H Q:=by
 rintro σ H Q ⟨p,H0,own,ρ,P,E,t,q⟩
 refine⟨p,H0,own,ρ,_,E,t,λb H' h A=>?_⟩
 cases b with
 |true=>exact aL ⟨p,H0,own,ρ,P,E.go A.kp A.pen,by simpa using h,λc H2 h2 A2=>q c H2 h2 (A.base A2)⟩
 |false=>exact bF (q false H' (by simpa using h) A)
theorem Ii:∀σ H Q,liftT (dOr t u) σ H Q->tOr (liftT t) (liftT u) σ H Q:=by
 rintro σ H Q ⟨p,H0,own,ρ,P,E,t,q⟩
 refine⟨p,H0,own,ρ,_,E,t,λb H' h A=>?_⟩
 cases b with
 |true=>exact aL (q true H' (by simpa using h) A)
 |false=>exact bF ⟨p,H0,own,ρ,P,E.go A.kp A.pen,by simpa using h,λc H2 h2 A2=>q c H2 h2 (A.base A2)⟩
theorem oZ(ha:PDT X a t)(hb:PDW X (.BoolOp .And (b::rest) pos) u):PDW X (.BoolOp .And (a::b::rest) pos) (Nb t u):=PW.wk (Ky ha hb) Fj
theorem fC(ha:PDT X a t)(hb:PDW X (.BoolOp .Or (b::rest) pos) u):PDW X (.BoolOp .Or (a::b::rest) pos) (dOr t u):=PW.wk (OD ha hb) Ii
theorem PDW.pt{e:Expr}{t:DT}(h:PDW X e t):PDT X e t:=PW.pt h
end
end
variable [Gr]
section
variable {X:Cx}{pos:Pos}{a b e:Expr}{es:List Expr}{ta tb te:DE}{t:DA}
def eN:DA:=λ_ P=>P []
def aF(te:DE)(t:DA):DA:=λρ P=>te ρ λk d=>t ρ λks=>P ((k,d)::ks)
theorem aA:PDA X [] eN:=PA.wk cB (by
 rintro σ H Q ⟨p,H0,own,ρ,P,E,t,q⟩
 exact q [] [] H t E.at .nil)
theorem ak(ha:PD X e te)(hr:PDA X es t)(hs:zS X e es:=by rfl):PDA X (e::es) (aF te t):=PA.wk (eX ha hr hs) (by
 rintro σ H Q ⟨p,H0,own,ρ,P,E,t,q⟩
 refine⟨p,H0,own,ρ,_,E,t,λk d v H1 h A r=>?_⟩
 refine⟨p,H0,own,ρ,_,E.go A.kp A.pen,h,λks vs H2 h2 A2 r2=>?_⟩
 exact q _ _ H2 h2 (A.base A2) (.cons (j7 A A2.kp r) (RpK.base A r2)))
def joins:List (Kd×D)->Kd
 |[]=>.imm
 |kd::ks=>kd.1.join (joins ks)
theorem RpK.all{p:Pn}{H0 Hb H H2:Hp}{own:Addr->Option Nat}(A:At p H0 own Hb H):∀{vs:List V}{ks:List (Kd×D)}{k:Kd},(joins ks).le k=true->RpK p H0 own Hb H2 vs ks->Rps (okK p H0 own Hb (joins ks)) H2 vs (ks.map (·.2))
 |_,_,_,_,.nil=>.nil
 |_,kd::ks,k,e,.cons h t=>by
  have j:=fj kd.1 (joins ks)
  exact .cons (jA A j.1 h) ((RpK.all A (k:=joins ks) (by cases joins ks <;> simp[Kd.le]) t).mono (λa o=>bZ A j.2 o) (λ_ _ _ e=>e) λ_ _ e=>e)
theorem Kd.le_refl(k:Kd):k.le k=true:=by cases k <;> simp[Kd.le]
theorem RpK.length{p:Pn}{H0 Hb H2:Hp}{own:Addr->Option Nat}:∀{vs:List V}{ks:List (Kd×D)},RpK p H0 own Hb H2 vs ks->vs.length=ks.length
 |_,_,.nil=>rfl
 |_,_,.cons _ t=>by rw[Ý,Ý,RpK.length t]
def Ju(t:DA):DE:=λρ P=>t ρ λks=>ks.length<=1000/\P ((joins ks).join .new) (.list (ks.map (·.2)))
def pL(t:DA):DE:=λρ P=>t ρ λks=>ks.length<=1000/\P (norm (joins ks) (.tuple (ks.map (·.2)))) (.tuple (ks.map (·.2)))
theorem dI(h:PDA X es t):PD X (.List es pos) (Ju t):=PE.wk (ug h) (by
 rintro σ H Q ⟨p,H0,own,ρ,P,E,t,q⟩
 refine⟨p,H0,own,ρ,_,E,t,λks vs H1 h A r=>?_⟩
 have h24:=í
 have hl:=r.length
 refine⟨by have:=h.1;omega,λl hl=>?_⟩
 obtain⟨k2,i2,nw⟩:=A.new hl (.lst vs)
 have j:=fj (joins ks) .new
 refine q _ _ _ _ h.2 (A.go k2 i2) (.lst (bZ A j.2 nw) aq ?_)
 exact(bI A k2 (RpK.all A (Kd.le_refl _) r)).mono (λa o=>bZ A j.1 o) (λ_ _ _ e=>e) λ_ _ e=>e)
theorem kJ{x1}(h:PDA X es t):PD X (.Tuple es x1 pos) (pL t):=PE.wk (K1 h) (by
 rintro σ H Q ⟨p,H0,own,ρ,P,E,t,q⟩
 refine⟨p,H0,own,ρ,_,E,t,λks vs H1 h A r=>?_⟩
 have h24:=í
 have hl:=r.length
 refine⟨by have:=h.1;omega,λl hl=>?_⟩
 obtain⟨k2,i2,nw⟩:=A.new hl (.tup vs)
 exact q _ _ _ _ h.2 (A.go k2 i2) (aW (.tup aq (bI A k2 (RpK.all A (Kd.le_refl _) r)))))
abbrev GC:=List (Kd×D)->DK->Prop
def tCl(g:GC)(t:DA):DE:=λρ P=>t ρ λks=>g ks P
def OkC(g:GC)(r:List V->Hp->VK->Prop):Prop:=∀p H0 own Hb H vs ks P Q,At p H0 own Hb H->RpK p H0 own Hb H vs ks->g ks P ->
 (∀k d v H',P k d->Kp p H H'->p.PI H'->Rp (okK p H0 own Hb k) H' v d->Q v H')->r vs H Q
theorem JV{g:GC}{r:List V->Hp->VK->Prop}(ok:OkC g r):∀σ H Q,cH (tCl g t) σ H Q->tCB r (jF t) σ H Q:=by
 rintro σ H Q ⟨p,H0,own,ρ,P,E,t,q⟩
 refine⟨p,H0,own,ρ,_,E,t,λks vs H1 h A r=>?_⟩
 exact ok p H0 own H H1 vs ks P Q A r h λk d v H' h2 k2 i2 r2=>q k d v H' h2 (A.go k2 i2) r2
theorem dh{r:List V->Hp->VK->Prop}{id:String}{x:Str}{ps:Pos}{g:GC}(hc:bD X (.builtin id) r)(ok:OkC g r)(hg:Gl X x)(hm:X.mg x=none)(hv:bootBuiltins x=some (.builtin id))(ha:PDA X (e::es) t)(hn:x≠"__name__":=by decide)(hdb:zB x:=by decide)(he:zS X e es:=by rfl)(hpl:zP X pos es:=by rfl):PD X (.Call (.Name x ps) (e::es) [] pos) (tCl g t):=PE.wk (cN hc hg hm hv ha hn hdb he hpl) (JV ok)
theorem qe{r:List V->Hp->VK->Prop}{id:String}{x:Str}{ps:Pos}{g:GC}(hc:bD X (.type id) r)(ok:OkC g r)(hg:Gl X x)(hm:X.mg x=none)(hv:bootBuiltins x=some (.type id))(ha:PDA X (e::es) t)(hn:x≠"__name__":=by decide)(hdb:zB x:=by decide)(he:zS X e es:=by rfl)(hpl:zP X pos es:=by rfl):PD X (.Call (.Name x ps) (e::es) [] pos) (tCl g t):=PE.wk (jj hc hg hm hv ha hn hdb he hpl) (JV ok)
def spD(t:List D->(D->Prop)->Prop):Sp:=λvs H Q _=>∃ds P,Rps (λ_=>True) H vs ds/\t ds P/\∀d v H',P d->Same H H'->Rp (λa=>H a=none) H' v d->Q v H'
def spP(C:Pn->Prop)(t:List D->(D->Prop)->Prop):Sp:=λvs H Q _=>∃p vs' ds P,C p/\vs=p.pv::vs'/\p.PI H/\Rps (λa=>¬p.fp a) H vs' ds/\t ds P/\∀d v H',P d->Kp p H H'->p.PI H'->Rp (λa=>H a=none) H' v d->Q v H'
def tFn(f:List D->(D->Prop)->Prop)(t:DA):DE:=λρ P=>t ρ λks=>f (ks.map (·.2)) λd=>P (norm .new d) d
theorem RpK.rps{p:Pn}{H0 Hb H H2:Hp}{own:Addr->Option Nat}(A:At p H0 own Hb H):∀{vs:List V}{ks:List (Kd×D)},RpK p H0 own Hb H2 vs ks->Rps (λa=>¬p.fp a) H2 vs (ks.map (·.2))
 |_,_,.nil=>.nil
 |_,_,.cons h t=>.cons (h.mono (λa o=>gD A o) (λ_ _ _ e=>e) λ_ _ e=>e) (RpK.rps A t)
theorem Ij{f:List D->(D->Prop)->Prop}:∀σ H Q,cH (tFn f t) σ H Q->zy (spD f) [] E0 (jF t) σ H Q:=by
 rintro σ H Q ⟨p,H0,own,ρ,P,E,t,q⟩
 refine⟨p,H0,own,ρ,_,E,t,λks vs H1 h A r=>?_⟩
 show spD f (vs++[]) H1 Q E0
 rw[ć]
 refine⟨ks.map (·.2),_,(RpK.rps A r).mono (λ_ _=>trivial) (λ_ _ _ e=>e) λ_ _ e=>e,h,λd v H' h2 s r2=>?_⟩
 have k2:Kp p H1 H':=Kp.of s
 refine q _ d v H' h2 (A.go k2 (p.mono H1 H' A.pen λb o _ e=>s b o e)) (aW ?_)
 exact r2.mono (λa o=>A.free o) (λ_ _ _ e=>e) λ_ _ e=>e
def G5(C:Pn->Prop)(f:List D->(D->Prop)->Prop)(i:Nat)(t:DA):DE:=λρ P=>ρ[i]?=some (.pen C)/\tFn f t ρ P
theorem Fi{C:Pn->Prop}{f:List D->(D->Prop)->Prop}{i:Nat}:∀σ H Q,cH (G5 C f i t) σ H Q->zy (spP C f) [] E0 (Jw (pK i) (jF t)) σ H Q:=by
 rintro σ H Q ⟨p,H0,own,ρ,P,E,⟨hp,t⟩,q⟩
 obtain⟨hs,c⟩:=E.slot i _ hp
 refine⟨p.pv,hs,p,H0,own,ρ,_,E,t,λks vs H1 h A r=>?_⟩
 show spP C f ((p.pv::vs)++[]) H1 Q E0
 rw[ć]
 refine⟨p,vs,ks.map (·.2),_,c,rfl,A.pen,RpK.rps A r,h,λd v H' h2 k2 i2 r2=>?_⟩
 exact q _ d v H' h2 (A.go k2 i2) (aW (r2.mono (λa o=>A.free o) (λ_ _ _ e=>e) λ_ _ e=>e))
def gI(C:Int->Int->Prop)(f:Int->Int->D):G2:=λ_ d1 _ d2 P=>match d1,d2 with
 |.int i,.int j=>C i j/\P .imm (f i j)
 |_,_=>False
def gI0(f:Int->Int->D):G2:=λ_ d1 _ d2 P=>match d1,d2 with
 |.int i,.int j=>P .imm (f i j)
 |_,_=>False
theorem okI{C:Int->Int->Prop}{f:Int->Int->D}{g:Int->Int->V}(h:∀i j H,Rp (λ_=>False) H (g i j) (f i j)):Ok2 (gI C f) (rI C g):=by
 intro p H0 own Hb H x y k1 d1 k2 d2 P Q A r1 r2 t q
 unfold gI at t
 split at t
 ·rename_i i j
  exact⟨i,j,r1.int',r2.int',t.1,q _ _ _ _ t.2 Kp.refl A.pen (h i j H)⟩
 ·exact t.elim
theorem Bx{f:Int->Int->D}{g:Int->Int->V}(h:∀i j H,Rp (λ_=>False) H (g i j) (f i j)):Ok2 (gI0 f) (rI0 g):=by
 intro p H0 own Hb H x y k1 d1 k2 d2 P Q A r1 r2 t q
 unfold gI0 at t
 split at t
 ·rename_i i j
  exact⟨i,j,r1.int',r2.int',q _ _ _ _ t Kp.refl A.pen (h i j H)⟩
 ·exact t.elim
theorem Ej(ha:PD X a ta)(hb:PD X b tb):PD X (.BinOp a .Add b pos) (t2 (gI0 λi j=>.int (i+j)) ta tb):=qd gC (Bx λi j _=>.int _) ha hb
theorem gn(ha:PD X a ta)(hb:PD X b tb):PD X (.BinOp a .Sub b pos) (t2 (gI0 λi j=>.int (i - j)) ta tb):=qd Lg (Bx λi j _=>.int _) ha hb
theorem ur(ha:PD X a ta)(hb:PD X b tb):PD X (.BinOp a .FloorDiv b pos) (t2 (gI Nt λi j=>.int (i / j)) ta tb):=qd ux (okI λi j _=>.int _) ha hb
theorem xY(ha:PD X a ta)(hb:PD X b tb):PD X (.BinOp a .Pow b pos) (t2 (gI Nq λi j=>.int (i ^ j.toNat)) ta tb):=qd yg (okI λi j _=>.int _) ha hb
theorem O5(ha:PD X a ta)(hb:PD X b tb):PD X (.Compare a [.Lt] [b] pos) (t2 (gI0 λi j=>.bool (decide (i<j))) ta tb):=gB Eo (Bx λi j _=>.bl _) ha hb (bT _)
theorem Ec(ha:PD X a ta)(hb:PD X b tb):PD X (.Compare a [.LtE] [b] pos) (t2 (gI0 λi j=>.bool (decide (i<=j))) ta tb):=gB JD (Bx λi j _=>.bl _) ha hb (bT _)
theorem Eh(ha:PD X a ta)(hb:PD X b tb):PD X (.Compare a [.GtE] [b] pos) (t2 (gI0 λi j=>.bool (decide (j<=i))) ta tb):=gB JG (Bx λi j _=>.bl _) ha hb (bT _)
theorem p7(ha:PD X a ta)(hb:PD X b tb):PDT X (.Compare a [.Gt] [b] pos) (fJ (t2 (gI0 λi j=>.bool (decide (j<i))) ta tb)):=gj JF (Bx λi j _=>.bl _) ha hb (bT _)
def scD:D->D->Option Bool
 |.int i,.int j=>some (decide (i=j))
 |.bool i,.bool j=>some (decide (i=j))
 |.str i,.str j=>some (decide (i=j))
 |_,_=>none
def gEq(neg:Bool):G2:=λ_ d1 _ d2 P=>match scD d1 d2 with
 |some b=>P .imm (.bool (if neg then !b else b))
 |none=>False
theorem Lr:Ok2 (gEq false) rEq:=by
 intro p H0 own Hb H x y k1 d1 k2 d2 P Q A r1 r2 t q
 unfold gEq scD at t
 split at t
 ·rename_i b e
  split at e <;> first|cases e|skip
  ·rw[r1.int',r2.int']
   refine⟨rfl,?_⟩
   have e2:∀i j:Int,decide (V.int i=V.int j)=decide (i=j):=λi j=>by simp
   rw[e2];exact q _ _ _ _ t Kp.refl A.pen (.bl _)
  ·rw[r1.bl',r2.bl']
   refine⟨rfl,?_⟩
   have e2:∀i j:Bool,decide (V.bl i=V.bl j)=decide (i=j):=λi j=>by simp
   rw[e2];exact q _ _ _ _ t Kp.refl A.pen (.bl _)
  ·rw[r1.str',r2.str']
   refine⟨rfl,?_⟩
   have e2:∀i j:Str,decide (V.str i=V.str j)=decide (i=j):=λi j=>by simp
   rw[e2];exact q _ _ _ _ t Kp.refl A.pen (.bl _)
 ·exact t.elim
theorem Ph:Ok2 (gEq true) rNe:=by
 intro p H0 own Hb H x y k1 d1 k2 d2 P Q A r1 r2 t q
 unfold gEq scD at t
 split at t
 ·rename_i b e
  split at e <;> first|cases e|skip
  ·rw[r1.int',r2.int']
   refine⟨rfl,?_⟩
   have e2:∀i j:Int,decide (V.int i=V.int j)=decide (i=j):=λi j=>by simp
   rw[e2];exact q _ _ _ _ t Kp.refl A.pen (.bl _)
  ·rw[r1.bl',r2.bl']
   refine⟨rfl,?_⟩
   have e2:∀i j:Bool,decide (V.bl i=V.bl j)=decide (i=j):=λi j=>by simp
   rw[e2];exact q _ _ _ _ t Kp.refl A.pen (.bl _)
  ·rw[r1.str',r2.str']
   refine⟨rfl,?_⟩
   have e2:∀i j:Str,decide (V.str i=V.str j)=decide (i=j):=λi j=>by simp
   rw[e2];exact q _ _ _ _ t Kp.refl A.pen (.bl _)
 ·exact t.elim
theorem O6(ha:PD X a ta)(hb:PD X b tb):PD X (.Compare a [.Eq] [b] pos) (t2 (gEq false) ta tb):=gB vZ Lr ha hb (bT _)
theorem O4(ha:PD X a ta)(hb:PD X b tb):PD X (.Compare a [.NotEq] [b] pos) (t2 (gEq true) ta tb):=gB Em Ph ha hb (bT _)
theorem Lb(ha:PD X a ta)(hb:PD X b tb):PDT X (.Compare a [.Eq] [b] pos) (fJ (t2 (gEq false) ta tb)):=gj vZ Lr ha hb (bT _)
def gIx:G2:=λk1 d1 _ d2 P=>match d1,d2 with
 |.list ds,.int i=>∃d,atI ds i=some d/\P (norm k1 d) d
 |.tuple ds,.int i=>∃d,atI ds i=some d/\P (norm k1 d) d
 |_,_=>False
theorem Rps.atI{ok:Addr->Prop}{H:Hp}{vs:List V}{ds:List D}{i:Int}{d:D}(r:Rps ok H vs ds)(h:L2.atI ds i=some d):∃v,L2.atI vs i=some v/\Rp ok H v d:=by
 unfold L2.atI at h ⊢
 rw[r.length]
 cases e:ixN ds.length i with
 |none=>rw[e] at h;cases h
 |some j =>
  rw[e] at h
  obtain⟨v,h1,h2⟩:=r.getD (i:=j) (d:=d) h
  exact⟨v,h1,h2⟩
def PX:G2:=λk1 d1 _ d2 P=>match d1,d2 with
 |.tuple ds,.int i=>∃d,atI ds i=some d/\P (norm k1 d) d
 |_,_=>False
theorem iH(ha:PD X a ta)(hb:PD X b tb)(hs:pI b):PD X (.Subscript a b pos) (t2 PX ta tb):=PE.wk (iz Fw ha hb hs) (wD (by
 intro p H0 own Hb H x y k1 d1 k2 d2 P Q A r1 r2 t q
 unfold PX at t
 split at t
 ·rename_i ds i
  obtain⟨d,hd,t⟩:=t
  obtain⟨c,vs,rfl,hc,rs⟩:=r1.gZ
  obtain⟨v,hv,rv⟩:=rs.atI hd
  exact⟨c,vs,i,v,rfl,r2.int',SqT.of hc,hv,q _ _ _ _ t Kp.refl A.pen (aW rv)⟩
 ·exact t.elim))
theorem fM{p:Pn}{H0 Hb H:Hp}{own:Addr->Option Nat}{vs:List V}{kd:Kd×D}(r:RpK p H0 own Hb H vs [kd]):∃v,vs=[v]/\Rp (okK p H0 own Hb kd.1) H v kd.2:=by
 cases r with
 |cons h t=>cases t;exact⟨_,rfl,h⟩
theorem Hj{p:Pn}{H0 Hb H:Hp}{own:Addr->Option Nat}{vs:List V}{kd ke:Kd×D}(r:RpK p H0 own Hb H vs [kd,ke]):∃v w,vs=[v,w]/\Rp (okK p H0 own Hb kd.1) H v kd.2/\Rp (okK p H0 own Hb ke.1) H w ke.2:=by
 cases r with
 |cons h t =>
  cases t with
  |cons h2 t2=>cases t2;exact⟨_,_,rfl,h,h2⟩
def Jd:GC:=λks P=>match ks with
 |[(_,.list ds)]=>P .imm (.int ds.length)
 |[(_,.tuple ds)]=>P .imm (.int ds.length)
 |_=>False
theorem Pj{K:Þ}:OkC Jd (λxs H Q=>∃p ys,xs=[.ref p]/\(SqL K H p ys\/SqT K H p ys)/\Q (.int ys.length) H):=by
 intro p H0 own Hb H vs ks P Q A r t q
 unfold Jd at t
 split at t
 ·obtain⟨v,rfl,r'⟩:=fM r
  obtain⟨c,vs,rfl,o,hc,rs⟩:=r'.cL
  exact⟨c,vs,rfl,.inl (SqL.of hc),by rw[rs.length];exact q _ _ _ _ t Kp.refl A.pen (.int _)⟩
 ·obtain⟨v,rfl,r'⟩:=fM r
  obtain⟨c,vs,rfl,hc,rs⟩:=r'.gZ
  exact⟨c,vs,rfl,.inr (SqT.of hc),by rw[rs.length];exact q _ _ _ _ t Kp.refl A.pen (.int _)⟩
 ·exact t.elim
theorem jJ{ps:Pos}(hm:X.mg "len"=none)(ha:PDA X [a] t)(hg:Gl X "len":=by rfl)(he:zS X a []:=by rfl)(hpl:zP X pos []:=by rfl):PD X (.Call (.Name "len" ps) [a] [] pos) (tCl Jd t) :=
 dh dW Pj hg hm PySem.boot_len ha (by decide) (by decide) he hpl
def Mw:GC:=λks P=>match ks with
 |[(_,.int i)]=>P .imm (.int i)
 |[(_,.bool b)]=>P .imm (.int (if b then 1 else 0))
 |_=>False
theorem uq{ps:Pos}(hm:X.mg "int"=none)(hv:bootBuiltins "int"=some (.type "int"))(ha:PDA X [a] t)(hg:Gl X "int":=by rfl)(he:zS X a []:=by rfl)(hpl:zP X pos []:=by rfl):PD X (.Call (.Name "int" ps) [a] [] pos) (tCl Mw t) :=
 qe Cu (by
  intro p H0 own Hb H vs ks P Q A r t q
  unfold Mw at t
  split at t
  ·rename_i k i
   obtain⟨v,rfl,r'⟩:=fM r
   rw[r'.int']
   exact .inl ⟨i,rfl,q _ _ _ _ t Kp.refl A.pen (.int _)⟩
  ·rename_i k i
   obtain⟨v,rfl,r'⟩:=fM r
   rw[r'.bl']
   exact .inr ⟨i,rfl,q _ _ _ _ t Kp.refl A.pen (.int _)⟩
  ·exact t.elim) hg hm hv ha (by decide) (by decide) he hpl
end
variable [Gr]
section
variable {ok ok':Addr->Prop}{H H':Hp}
mutual
theorem Rp.cG(f:∀a o,ok a->H a=some o->ok' a/\H' a=some o)(t:∀a xs,H a=some (.tup xs)->H' a=some (.tup xs)):∀{v:V}{d:D},Rp ok H v d->Rp ok' H' v d
 |_,_,.non=>.non
 |_,_,.bl b=>.bl b
 |_,_,.int i=>.int i
 |_,_,.str x=>.str x
 |_,_,.lst o h r=>.lst (f _ _ o h).1 (f _ _ o h).2 (Rps.cG f t r)
 |_,_,.tup h r=>.tup (t _ _ h) (Rps.cG f t r)
 |_,_,.dct o h r=>.dct (f _ _ o h).1 (f _ _ o h).2 (Rkv.cG f t r)
theorem Rps.cG(f:∀a o,ok a->H a=some o->ok' a/\H' a=some o)(t:∀a xs,H a=some (.tup xs)->H' a=some (.tup xs)):∀{v:List V}{d:List D},Rps ok H v d->Rps ok' H' v d
 |_,_,.nil=>.nil
 |_,_,.cons h r=>.cons (Rp.cG f t h) (Rps.cG f t r)
theorem Rkv.cG(f:∀a o,ok a->H a=some o->ok' a/\H' a=some o)(t:∀a xs,H a=some (.tup xs)->H' a=some (.tup xs)):∀{v:List (Key×V)}{d:List (D×D)},Rkv ok H v d->Rkv ok' H' v d
 |_,_,.nil=>.nil
 |_,_,.cons h r=>.cons (Rp.cG f t h) (Rkv.cG f t r)
end
end
structure DEnds where
 nx:List Sl->Prop
 rt:D->Prop
 bk:List Sl->Prop:=λ_=>False
 ct:List Sl->Prop:=λ_=>False
abbrev DS:=DEnds->List Sl->Prop
structure FrS(p:Pn)(own:Addr->Option Nat)(H:Hp)(own':Addr->Option Nat)(H':Hp):Prop where
 keep:∀b o,H b=some o->¬p.fp b->own b=none->H' b=some o/\own' b=none
 tup:∀a xs,H a=some (.tup xs)->H' a=some (.tup xs)
theorem FrS.trans{p:Pn}{o1 o2 o3:Addr->Option Nat}{H1 H2 H3:Hp}(a:FrS p o1 H1 o2 H2)(b:FrS p o2 H2 o3 H3):FrS p o1 H1 o3 H3:=⟨λc o h n e=>let ⟨x,y⟩:=a.keep c o h n e;b.keep c o x n y,λc xs e=>b.tup c xs (a.tup c xs e)⟩
theorem FrS.refl{p:Pn}{o1:Addr->Option Nat}{H1:Hp}:FrS p o1 H1 o1 H1:=⟨λ_ _ h _ e=>⟨h,e⟩,λ_ _ e=>e⟩
theorem At.tups{p:Pn}{H0 H H':Hp}{own:Addr->Option Nat}(A:At p H0 own H H'):∀a xs,H a=some (.tup xs)->H' a=some (.tup xs):=iV (⟨A.k0,Kp.refl,A.penb,A.penb,A.ow⟩:At p H0 own H H) A.kp
structure RPost(p:Pn)(H0 H':Hp)(v:V)(d:D):Prop where
 k0:∀b o,H0 b=some o->¬p.fp b->H' b=some o
 pen:p.PI H'
 rp:Rp (λa=>H0 a=none/\¬p.fp a) H' v d
structure Wish(p:Pn)(H0:Hp)(own:Addr->Option Nat)(H:Hp)(P:DEnds)(Q:Ends):Prop where
 nx:∀own' σ' H' ρ',EnvD p H0 own' σ' H' ρ'->FrS p own H own' H'->P.nx ρ'->Q.nx σ' H'
 rt:∀d v H',P.rt d->RPost p H0 H' v d->Q.rt v H'
 bk:∀own' σ' H' ρ',EnvD p H0 own' σ' H' ρ'->FrS p own H own' H'->P.bk ρ'->Q.bk σ' H'
 ct:∀own' σ' H' ρ',EnvD p H0 own' σ' H' ρ'->FrS p own H own' H'->P.ct ρ'->Q.ct σ' H'
theorem Wish.go{p:Pn}{H0 H H':Hp}{own own':Addr->Option Nat}{P:DEnds}{Q:Ends}(w:Wish p H0 own H P Q)(f:FrS p own H own' H'):Wish p H0 own' H' P Q :=
 ⟨λo s h r e g n=>w.nx o s h r e (f.trans g) n,w.rt,λo s h r e g n=>w.bk o s h r e (f.trans g) n,λo s h r e g n=>w.ct o s h r e (f.trans g) n⟩
def qC(t:DS):TS:=λQ σ H=>∃p H0 own ρ P,EnvD p H0 own σ H ρ/\t P ρ/\Wish p H0 own H P Q
abbrev PDS(X:Cx)(st:Stmt)(t:DS):Prop:=PS X st (qC t)
abbrev oJ(X:Cx)(st:List Stmt)(t:DS):Prop:=PSs X st (qC t)
theorem PSs.wk'{X:Cx}{ss:List Stmt}{t t':TS}(h:PSs X ss t)(w:∀D σ H,t' D σ H->t D σ H):PSs X ss t':=λpins s σ H D I q=>h pins s σ H D I (w D σ H q)
theorem PS.wk'{X:Cx}{ss:Stmt}{t t':TS}(h:PS X ss t)(w:∀D σ H,t' D σ H->t D σ H):PS X ss t':=λpins s σ H D I q=>h pins s σ H D I (w D σ H q)
theorem At.frs{p:Pn}{H0 H H':Hp}{own:Addr->Option Nat}(A:At p H0 own H H'):FrS p own H own H':=⟨λb o h n e=>⟨A.kp b o h n,e⟩,A.tups⟩
section
variable {X:Cx}{pos:Pos}{st:Stmt}{rest:List Stmt}{e:Expr}{te:DE}{t u:DS}
def sI:DS:=λP ρ=>P.nx ρ
def eH(t u:DS):DS:=λP ρ=>t { P with nx:=u P } ρ
theorem nG:oJ X [] sI:=PSs.wk' oV (by
 rintro Q σ H ⟨p,H0,own,ρ,P,E,t,w⟩
 exact w.nx own σ H ρ E FrS.refl t)
theorem cj(h1:PDS X st t)(h2:oJ X rest u):oJ X (st::rest) (eH t u):=PSs.wk' (bN h1 h2) (by
 rintro Q σ H ⟨p,H0,own,ρ,P,E,t,w⟩
 exact⟨p,H0,own,ρ,_,E,t,⟨λo s h r e g n=>⟨p,H0,o,r,P,e,n,w.go g⟩,w.rt,w.bk,w.ct⟩⟩)
theorem aU(h1:PDS X st t):oJ X [st] t:=cZ h1
theorem lU:PDS X st (λ_ _=>False):=PS.wk' Dw (by
 rintro Q σ H ⟨p,H0,own,ρ,P,E,t,w⟩
 exact t)
def u0(te:DE):DS:=λP ρ=>te ρ λk d=>k.le .n0=true/\P.rt d
theorem bL(he:PD X e te):PDS X (.Return (some e) pos) (u0 te):=PS.wk' (jH he) (by
 rintro Q σ H ⟨p,H0,own,ρ,P,E,t,w⟩
 refine⟨p,H0,own,ρ,_,E,t,λk d v H' h A r=>w.rt d v H' h.2 ⟨λb o e n=>A.kp b o (A.k0 b o e n) n,A.pen,?_⟩⟩
 exact jA A h.1 r)
def dIf(c:DT)(t u:DS):DS:=λP ρ=>c ρ λb=>if b=true then t P ρ else u P ρ
theorem sG{c:Expr}{a b:List Stmt}{tc:DT}(hc:PDT X c tc)(ha:oJ X a t)(hb:oJ X b u):PDS X (.If c a b pos) (dIf tc t u):=PS.wk' (vR hc ha hb) (by
 rintro Q σ H ⟨p,H0,own,ρ,P,E,t,w⟩
 refine⟨p,H0,own,ρ,_,E,t,λb H' h A=>?_⟩
 cases b with
 |true=>exact aL ⟨p,H0,own,ρ,P,E.go A.kp A.pen,by simpa using h,w.go A.frs⟩
 |false=>exact bF ⟨p,H0,own,ρ,P,E.go A.kp A.pen,by simpa using h,w.go A.frs⟩)
def J6(te:DE):DS:=λP ρ=>te ρ λ_ _=>P.nx ρ
theorem pG(he:PD X e te)(hs:swapsWith e none pos.line X.env=pure false:=by rfl):PDS X (.Expr e pos) (J6 te):=PS.wk' (fY he hs) (by
 rintro Q σ H ⟨p,H0,own,ρ,P,E,t,w⟩
 exact⟨p,H0,own,ρ,_,E,t,λk d v H' h A r=>w.nx own σ H' ρ (E.go A.kp A.pen) A.frs h⟩)
def Sl.region:Sl->Option Nat
 |.dw r _=>some r
 |.rw r _=>some r
 |.tw r _=>some r
 |.sp r _ _=>some r
 |_=>none
def iW(r:Nat)(ρ:List Sl)(i:Nat):Bool:=(ρ.set i .any).all λs=>s.region != some r
def stK(rg:Option Nat)(ρ:List Sl)(i:Nat)(k:Kd)(d:D):Option Sl:=match k with
 |.imm=>some (.im d)
 |.new=>match rg with
  |some r=>if iW r ρ i=true then some (.dw r d) else none
  |none=>some (.sn d)
 |.reg r=>some (.dw r d)
 |.snw=>some (.sn d)
 |.shr=>some (.sh d)
 |_=>none
def M6(i:Nat)(rg:Option Nat)(te:DE):DS:=λP ρ=>te ρ λk d=>match stK rg ρ i (norm k d) d with
 |some s=>P.nx (ρ.set i s)
 |none=>False
section
variable {p:Pn}{H0 H H1:Hp}{own:Addr->Option Nat}{σ:L2.St}{ρ:List Sl}{i:Nat}
theorem EnvD.set{v:V}{s:Sl}(E:EnvD p H0 own σ H ρ)(hs:i<σ.length->gQ p H0 own (σ.set i (some v)) H i s):EnvD p H0 own (σ.set i (some v)) H (ρ.set i s):=by
 refine⟨E.k0,E.pen,E.ow,λj s' e=>?_,by simpa using E.len,E.gr⟩
 by_cases hj:j=i
 ·subst hj
  have hl:j<ρ.length:=by
   have:=(Ó.mp e).1
   simpa using this
  rw[Ġ hl] at e
  cases e
  exact hs (by rw[←E.len];exact hl)
 ·rw[ŋ (ī hj)] at e
  have q:=E.slot j s' e
  have eq:(σ.set i (some v))[j]?=σ[j]?:=ŋ (ī hj)
  cases s' <;> simp only[gQ,eq] at q ⊢ <;> exact q
def cC(r:Nat)(H H1:Hp)(own:Addr->Option Nat):Addr->Option Nat:=λa=>match H a,H1 a with
 |none,some _=>some r
 |_,_=>own a
theorem aZ{r:Nat}{a:Addr}{o:HO}(h:H a=some o):cC r H H1 own a=own a:=by unfold cC;rw[h]
theorem nO{r:Nat}{a:Addr}{o:HO}(h:H a=none)(h1:H1 a=some o):cC r H H1 own a=some r:=by unfold cC;rw[h,h1]
theorem EnvD.adopt(r:Nat)(E:EnvD p H0 own σ H ρ)(A:At p H0 own H H1):EnvD p H0 (cC r H H1 own) σ H1 ρ:=by
 have tp:=iV E.at A.kp
 refine⟨λb o e n=>A.kp b o (E.k0 b o e n) n,A.pen,λa q e=>?_,λj s e=>?_,E.len,E.gr⟩
 ·cases h:H a with
  |some o =>
   rw[aZ h] at e
   obtain⟨x,y,z⟩:=E.ow a q e
   refine⟨x,y,by rw[A.kp a o h y];exact λz=>nomatch z⟩
  |none =>
   cases h1:H1 a with
   |none =>
    have e':own a=some q:=by rw[←e];unfold cC;rw[h,h1]
    exact absurd h (E.ow a q e').2.2
   |some o=>exact⟨E.at.h0 h,E.at.nfb h,λz=>nomatch z⟩
 ·have q:=E.slot j s e
  cases s with
  |any=>trivial
  |im d=>exact let ⟨v,a,b⟩:=q;⟨v,a,b.mono (λ_ o=>o) (λ_ _ o=>o.elim) tp⟩
  |sh d=>exact let ⟨v,a,b⟩:=q;⟨v,a,b.cG (λc o n h=>⟨⟨n.1,by rw[aZ h];exact n.2⟩,A.kp c o h n.1⟩) tp⟩
  |sn d=>exact let ⟨v,a,b⟩:=q;⟨v,a,b.cG (λc o n h=>⟨⟨n.1,n.2.1,by rw[aZ h];exact n.2.2⟩,A.kp c o h n.2.1⟩) tp⟩
  |dw r' d=>exact let ⟨v,a,b⟩:=q;⟨v,a,b.cG (λc o n h=>⟨by rw[aZ h];exact n,A.kp c o h (E.ow c r' n).2.1⟩) tp⟩
  |pen C=>exact q
  |rw r' L=>exact let ⟨st,as,a,b⟩:=q;⟨st,as,a,b.mono (λc o n h=>⟨by rw[aZ h];exact n,A.kp c o h (E.ow c r' n).2.1⟩) tp⟩
  |tw r' L=>exact let ⟨st,as,a,b⟩:=q;⟨st,as,a,b.mono (λc o n h=>⟨by rw[aZ h];exact n,A.kp c o h (E.ow c r' n).2.1⟩) tp⟩
  |scr v b=>exact q
  |sp r' b ds=>exact let ⟨l,vs,a,o,h,z⟩:=q;⟨l,vs,a,by rw[aZ h];exact o,A.kp l _ h (E.ow l r' o).2.1,z.cG (λc u n e=>⟨⟨n.1,n.2.1,by rw[aZ e];exact n.2.2⟩,A.kp c u e n.2.1⟩) tp⟩
theorem Gz{r:Nat}{k:Kd}{v:V}{d:D}(h:k.le .new=true)(A:At p H0 own H H1)(x:Rp (okK p H0 own H k) H1 v d):Rp (λa=>cC r H H1 own a=some r) H1 v d :=
 (jA A h x).cG (λa o n e=>⟨nO n e,e⟩) λ_ _ e=>e
theorem nP{r:Nat}(A:At p H0 own H H1):FrS p own H (cC r H H1 own) H1:=⟨λb o h n e=>⟨A.kp b o h n,by rw[aZ h];exact e⟩,A.tups⟩
theorem EnvD.drop(E:EnvD p H0 own σ H ρ):EnvD p H0 own σ H (ρ.set i .any):=by
 refine⟨E.k0,E.pen,E.ow,λj s' e=>?_,by simpa using E.len,E.gr⟩
 by_cases hj:j=i
 ·subst hj
  have hl:j<ρ.length:=by
   have:=(Ó.mp e).1
   simpa using this
  rw[Ġ hl] at e
  cases e
  trivial
 ·rw[ŋ (ī hj)] at e
  exact E.slot j s' e
def aK(r:Nat)(own:Addr->Option Nat):Addr->Option Nat:=λa=>if own a=some r then none else own a
theorem EnvD.clear{r:Nat}(E:EnvD p H0 own σ H ρ)(h:ρ.all (λs=>s.region != some r)=true):EnvD p H0 (aK r own) σ H ρ:=by
 refine⟨E.k0,E.pen,λa q e=>?_,λj s e=>?_,E.len,E.gr⟩
 ·unfold aK at e
  split at e
  ·cases e
  ·exact E.ow a q e
 ·have q:=E.slot j s e
  have z:=ø.mp h s (Ò e)
  have c0:∀a,own a=none->aK r own a=none:=λa n=>by unfold aK;rw[n];simp
  cases s with
  |any=>trivial
  |im d=>exact q
  |sh d=>exact let ⟨v,a,b⟩:=q;⟨v,a,b.mono (λc n=>⟨n.1,c0 c n.2⟩) (λ_ _ _ e=>e) λ_ _ e=>e⟩
  |sn d=>exact let ⟨v,a,b⟩:=q;⟨v,a,b.mono (λc n=>⟨n.1,n.2.1,c0 c n.2.2⟩) (λ_ _ _ e=>e) λ_ _ e=>e⟩
  |dw r' d =>
   have hne:r'≠r:=by simpa[Sl.region] using z
   exact let ⟨v,a,b⟩:=q;⟨v,a,b.mono (λc n=>by unfold aK;rw[n,if_neg (by simpa using hne)]) (λ_ _ _ e=>e) λ_ _ e=>e⟩
  |pen C=>exact q
  |rw r' L =>
   have hne:r'≠r:=by simpa[Sl.region] using z
   exact let ⟨st,as,a,b⟩:=q;⟨st,as,a,b.mono (λc o n e=>⟨by unfold aK;rw[n,if_neg (by simpa using hne)],e⟩) λ_ _ e=>e⟩
  |tw r' L =>
   have hne:r'≠r:=by simpa[Sl.region] using z
   exact let ⟨st,as,a,b⟩:=q;⟨st,as,a,b.mono (λc o n e=>⟨by unfold aK;rw[n,if_neg (by simpa using hne)],e⟩) λ_ _ e=>e⟩
  |scr v b=>exact q
  |sp r' b ds =>
   have hne:r'≠r:=by simpa[Sl.region] using z
   exact let ⟨l,vs,a,o,h,y⟩:=q;⟨l,vs,a,by unfold aK;rw[o,if_neg (by simpa using hne)],h,y.mono (λc n=>⟨n.1,n.2.1,c0 c n.2.2⟩) (λ_ _ _ e=>e) λ_ _ e=>e⟩
theorem fW{r:Nat}:FrS p own H (aK r own) H:=⟨λb o h n e=>⟨h,by unfold aK;rw[e];simp⟩,λ_ _ e=>e⟩
end
theorem iZ{i:Nat}(rg:Option Nat)(h:PS X st (pN (cH te) (gY i))):PDS X st (M6 i rg te):=PS.wk' h (by
 rintro Q σ H ⟨p,H0,own,ρ,P,E,t,w⟩
 refine⟨p,H0,own,ρ,_,E,t,λk d v H1 h A r=>?_⟩
 have r:=aW r
 generalize norm k d=k' at h r
 show Q.nx (σ.set i (some v)) H1
 have E1:=E.go A.kp A.pen
 have fin:∀s,gQ p H0 own (σ.set i (some v)) H1 i s\/¬i<σ.length->P.nx (ρ.set i s)->Q.nx (σ.set i (some v)) H1:=λs hs hn =>
  w.nx own _ H1 _ (E1.set λhl=>hs.elim id λz=>absurd hl z) A.frs hn
 have here:i<σ.length->(σ.set i (some v))[i]?=some (some v):=λhl=>Ġ hl
 by_cases hl:i<σ.length
 ·cases k' with
  |imm=>exact fin (.im d) (.inl ⟨v,here hl,r⟩) h
  |new =>
   cases rg with
   |none=>exact fin (.sn d) (.inl ⟨v,here hl,jA A (k:=.snw) rfl r⟩) h
   |some q =>
    simp only[stK] at h
    by_cases hf:iW q ρ i=true
    ·rw[if_pos hf] at h
     have E2:EnvD p H0 (aK q own) σ H (ρ.set i .any):=(E.drop (i:=i)).clear hf
     have A2:At p H0 (aK q own) H H1:=⟨A.k0,A.kp,A.penb,A.pen,E2.ow⟩
     have E3:=E2.adopt q A2
     have r2:Rp (okK p H0 (aK q own) H .new) H1 v d:=r
     have E4:EnvD p H0 (cC q H H1 (aK q own)) (σ.set i (some v)) H1 ((ρ.set i .any).set i (.dw q d)):=E3.set λ_=>⟨v,here hl,Gz (k:=.new) rfl A2 r2⟩
     rw[List.set_set] at E4
     exact w.nx _ _ H1 _ E4 (fW.trans (nP A2)) h
    ·rw[if_neg hf] at h
     exact h.elim
  |reg q=>exact fin (.dw q d) (.inl ⟨v,here hl,r⟩) h
  |n0=>exact h.elim
  |snw=>exact fin (.sn d) (.inl ⟨v,here hl,r⟩) h
  |shr=>exact fin (.sh d) (.inl ⟨v,here hl,r⟩) h
  |wk=>exact h.elim
 ·cases hs:stK rg ρ i k' d with
  |none=>rw[hs] at h;exact h.elim
  |some s=>rw[hs] at h;exact fin s (.inr hl) h)
end
variable [Gr]
section
variable {ok ok':Addr->Prop}{H:Hp}
mutual
theorem Rp.inj:∀{v:V}{d d':D},Rp ok H v d->Rp ok' H v d'->d=d'
 |_,_,_,.non,.non=>rfl
 |_,_,_,.bl b,.bl _=>rfl
 |_,_,_,.int i,.int _=>rfl
 |_,_,_,.str x,.str _=>rfl
 |_,_,_,.lst o h r,.lst o' h' r'=>by
  rw[h] at h';cases h'
  rw[Rps.inj r r']
 |_,_,_,.lst o h r,.tup h' r'=>by rw[h] at h';cases h'
 |_,_,_,.lst o h r,.dct o' h' r'=>by rw[h] at h';cases h'
 |_,_,_,.tup h r,.lst o' h' r'=>by rw[h] at h';cases h'
 |_,_,_,.tup h r,.tup h' r'=>by
  rw[h] at h';cases h'
  rw[Rps.inj r r']
 |_,_,_,.tup h r,.dct o' h' r'=>by rw[h] at h';cases h'
 |_,_,_,.dct o h r,.lst o' h' r'=>by rw[h] at h';cases h'
 |_,_,_,.dct o h r,.tup h' r'=>by rw[h] at h';cases h'
 |_,_,_,.dct o h r,.dct o' h' r'=>by
  rw[h] at h';cases h'
  rw[Rkv.inj r r']
theorem Rps.inj:∀{v:List V}{d d':List D},Rps ok H v d->Rps ok' H v d'->d=d'
 |_,_,_,.nil,.nil=>rfl
 |_,_,_,.cons h t,.cons h' t'=>by rw[Rp.inj h h',Rps.inj t t']
theorem Rkv.inj:∀{v:List (Key×V)}{d d':List (D×D)},Rkv ok H v d->Rkv ok' H v d'->d=d'
 |_,_,_,.nil,.nil=>rfl
 |_,_,_,.cons h t,.cons h' t'=>by rw[Rp.inj h h',Rkv.inj t t']
end
variable {l:Addr}{T:D}
mutual
theorem Rp.avoid(h0:Rp ok' H (.ref l) T):∀{v:V}{d:D},Rp ok H v d->sizeOf d<sizeOf T->Rp (λa=>ok a/\a≠l) H v d
 |_,_,.non,_=>.non
 |_,_,.bl b,_=>.bl b
 |_,_,.int i,_=>.int i
 |_,_,.str x,_=>.str x
 |_,_,.lst (ds:=ds) o h r,s=>.lst ⟨o,λz=>by
   subst z
   have e:=Rp.inj (Rp.lst o h r) h0
   rw[e] at s
   exact absurd s (Ą _)⟩ h (Rps.avoid h0 r (by simp only[PyData.list.sizeOf_spec] at s;omega))
 |_,_,.tup (ds:=ds) h r,s=>.tup h (Rps.avoid h0 r (by simp only[PyData.tuple.sizeOf_spec] at s;omega))
 |_,_,.dct (ds:=ds) o h r,s=>.dct ⟨o,λz=>by
   subst z
   have e:=Rp.inj (Rp.dct o h r) h0
   rw[e] at s
   exact absurd s (Ą _)⟩ h (Rkv.avoid h0 r (by simp only[PyData.dict.sizeOf_spec] at s;omega))
theorem Rps.avoid(h0:Rp ok' H (.ref l) T):∀{v:List V}{d:List D},Rps ok H v d->sizeOf d<sizeOf T->Rps (λa=>ok a/\a≠l) H v d
 |_,_,.nil,_=>.nil
 |_,_,.cons h t,s=>.cons (Rp.avoid h0 h (by simp only[ź] at s;omega)) (Rps.avoid h0 t (by simp only[ź] at s;omega))
theorem Rkv.avoid(h0:Rp ok' H (.ref l) T):∀{v:List (Key×V)}{d:List (D×D)},Rkv ok H v d->sizeOf d<sizeOf T->Rkv (λa=>ok a/\a≠l) H v d
 |_,_,.nil,_=>.nil
 |_,_,.cons h t,s=>.cons (Rp.avoid h0 h (by simp only[ź,Prod.mk.sizeOf_spec] at s;omega)) (Rkv.avoid h0 t (by simp only[ź] at s;omega))
end
end
def forget(r:Nat)(ρ:List Sl):List Sl:=ρ.map λs=>if s.region=some r then .any else s
section
variable {p:Pn}{H0 H H1:Hp}{own:Addr->Option Nat}{σ:L2.St}{ρ:List Sl}{i:Nat}
theorem EnvD.write{r:Nat}{l:Addr}{u o':HO}(E:EnvD p H0 own σ H ρ)(hl:own l=some r)(ho:H l=some u)(hu:∀xs,u≠.tup xs)(hc:¬Fxd u:=by rintro⟨_,_,z⟩;cases z):EnvD p H0 own σ (upd H l o') (forget r ρ):=by
 have h0:=E.ow l r hl
 have tp:∀a xs,H a=some (.tup xs)->upd H l o' a=some (.tup xs):=λa xs e=>by
  rw[ao];exact e
  intro z;subst z;rw[ho] at e;exact hu xs (ã e)
 refine⟨λb o e n=>?_,p.mono H _ E.pen λb o f e=>?_,λa q e=>?_,λj s e=>?_,by unfold forget;rw[Á];exact E.len,E.gr⟩
 ·rw[ao];exact E.k0 b o e n
  intro z;subst z;rw[h0.1] at e;cases e
 ·rw[ao];exact e
  intro z;subst z;exact f.elim h0.2.1 λc=>hc (by rw[ho] at e;cases e;exact c)
 ·obtain⟨x,y,z⟩:=E.ow a q e
  refine⟨x,y,?_⟩
  by_cases hh:a=l
  ·subst hh;rw[aq];exact λz=>nomatch z
  ·rw[ao hh];exact z
 ·unfold forget at e
  rw[æ] at e
  cases hr:ρ[j]? with
  |none=>rw[hr] at e;cases e
  |some s0 =>
   rw[hr] at e
   have e:=ã e
   have q:=E.slot j s0 hr
   have ne:∀c,own c≠some r->c≠l:=λc n z=>by subst z;exact n hl
   cases s0 with
   |any=>simp only[Sl.region] at e;subst e;trivial
   |im d =>
    have e:Sl.im d=s:=e
    subst e
    exact let ⟨v,a,b⟩:=q;⟨v,a,b.mono (λ_ o=>o) (λ_ _ o=>o.elim) tp⟩
   |sh d =>
    have e:Sl.sh d=s:=e
    subst e
    exact let ⟨v,a,b⟩:=q;⟨v,a,b.mono (λ_ o=>o) (λc o n e=>by rw[ao (ne c (by rw[n.2];exact λz=>nomatch z))];exact e) tp⟩
   |sn d =>
    have e:Sl.sn d=s:=e
    subst e
    exact let ⟨v,a,b⟩:=q;⟨v,a,b.mono (λ_ o=>o) (λc o n e=>by rw[ao (ne c (by rw[n.2.2];exact λz=>nomatch z))];exact e) tp⟩
   |dw r' d =>
    by_cases hrr:r'=r
    ·subst hrr
     have e:(if (some r':Option Nat)=some r' then Sl.any else Sl.dw r' d)=s:=e
     rw[if_pos rfl] at e
     subst e
     trivial
    ·have e:(if (some r':Option Nat)=some r then Sl.any else Sl.dw r' d)=s:=e
     rw[if_neg (by simpa using hrr)] at e
     subst e
     exact let ⟨v,a,b⟩:=q;⟨v,a,b.mono (λ_ o=>o) (λc o n e=>by rw[ao (ne c (by rw[n];simpa using hrr))];exact e) tp⟩
   |pen C =>
    have e:Sl.pen C=s:=e
    subst e
    exact q
   |scr v b =>
    have e:Sl.scr v b=s:=e
    subst e
    exact q
   |sp r' b ds =>
    by_cases hrr:r'=r
    ·subst hrr
     have e:(if (some r':Option Nat)=some r' then Sl.any else Sl.sp r' b ds)=s:=e
     rw[if_pos rfl] at e
     subst e
     trivial
    ·have e:(if (some r':Option Nat)=some r then Sl.any else Sl.sp r' b ds)=s:=e
     rw[if_neg (by simpa using hrr)] at e
     subst e
     exact let ⟨l',vs,a,o,h,y⟩:=q;⟨l',vs,a,o,by rw[ao (ne l' (by rw[o];simpa using hrr))];exact h,y.mono (λ_ o=>o) (λc o n e=>by rw[ao (ne c (by rw[n.2.2];exact λz=>nomatch z))];exact e) tp⟩
   |rw r' L =>
    by_cases hrr:r'=r
    ·subst hrr
     have e:(if (some r':Option Nat)=some r' then Sl.any else Sl.rw r' L)=s:=e
     rw[if_pos rfl] at e
     subst e
     trivial
    ·have e:(if (some r':Option Nat)=some r then Sl.any else Sl.rw r' L)=s:=e
     rw[if_neg (by simpa using hrr)] at e
     subst e
     exact let ⟨st,as,a,b⟩:=q;⟨st,as,a,b.mono (λc o n e=>⟨n,by rw[ao (ne c (by rw[n];simpa using hrr))];exact e⟩) tp⟩
   |tw r' L =>
    by_cases hrr:r'=r
    ·subst hrr
     have e:(if (some r':Option Nat)=some r' then Sl.any else Sl.tw r' L)=s:=e
     rw[if_pos rfl] at e
     subst e
     trivial
    ·have e:(if (some r':Option Nat)=some r then Sl.any else Sl.tw r' L)=s:=e
     rw[if_neg (by simpa using hrr)] at e
     subst e
     exact let ⟨st,as,a,b⟩:=q;⟨st,as,a,b.mono (λc o n e=>⟨n,by rw[ao (ne c (by rw[n];simpa using hrr))];exact e⟩) tp⟩
theorem rE{r:Nat}{l:Addr}{u o':HO}(hl:own l=some r)(ho:H l=some u)(hu:∀xs,u≠.tup xs):FrS p own H own (upd H l o'):=by
 refine⟨λb o h n e=>⟨?_,e⟩,λa xs e=>?_⟩
 ·rw[ao];exact h
  intro z;subst z;rw[hl] at e;cases e
 ·rw[ao];exact e
  intro z;subst z;rw[ho] at e;exact hu xs (ã e)
theorem EnvD.put{v:V}{s:Sl}(E:EnvD p H0 own σ H ρ)(hs:gQ p H0 own σ H i s):EnvD p H0 own σ H (ρ.set i s):=by
 refine⟨E.k0,E.pen,E.ow,λj s' e=>?_,by simpa using E.len,E.gr⟩
 by_cases hj:j=i
 ·subst hj
  have hl:j<ρ.length:=by
   have:=(Ó.mp e).1
   simpa using this
  rw[Ġ hl] at e
  cases e
  exact hs
 ·rw[ŋ (ī hj)] at e
  exact E.slot j s' e
theorem EnvD.xT{r:Nat}{l:Addr}{vs vs':List V}{ds ds':List D}(E:EnvD p H0 own σ H ρ)(A:At p H0 own H H1)(hv:σ[i]?=some (some (.ref l)))(hl:own l=some r)(ho:H l=some (.lst vs))(rs:Rps (λa=>own a=some r) H vs ds)(hs:∀H2,(∀{w:V}{d:D},Rp (λa=>own a=some r) H w d->sizeOf d<sizeOf (ì ds)->Rp (λa=>cC r H H1 own a=some r) H2 w d)->(∀{w:V}{d:D},Rp (okK p H0 own H .new) H1 w d->Rp (λa=>cC r H H1 own a=some r) H2 w d)->Rps (λa=>cC r H H1 own a=some r) H2 vs' ds') :
  EnvD p H0 (cC r H H1 own) σ (upd H1 l (.lst vs')) ((forget r ρ).set i (.dw r (.list ds')))/\FrS p own H (cC r H H1 own) (upd H1 l (.lst vs')):=by
 have h1:H1 l=some (.lst vs):=A.kp l _ ho (E.ow l r hl).2.1
 have hl':cC r H H1 own l=some r:=by rw[aZ ho];exact hl
 have E1:=(E.adopt r A).write (o':=.lst vs') hl' h1 (λxs z=>nomatch z)
 have tp:∀a xs,H1 a=some (.tup xs)->upd H1 l (.lst vs') a=some (.tup xs):=λa xs e=>by
  rw[ao];exact e
  intro z;subst z;rw[h1] at e;cases e
 refine⟨E1.put (v:=.ref l) ⟨.ref l,hv,.lst hl' aq (hs _ ?_ ?_)⟩,(nP A).trans (rE hl' h1 λxs z=>nomatch z)⟩
 ·intro w d x sz
  have x1:=Rp.avoid (Rp.lst (ok:=λa=>own a=some r) hl ho rs) x sz
  exact x1.cG (λa o n e=>⟨by rw[aZ e];exact n.1,by rw[ao n.2];exact A.kp a o e (E.ow a r n.1).2.1⟩) λa xs e=>tp a xs (iV E.at A.kp a xs e)
 ·intro w d x
  exact x.cG (λa o n e=>⟨nO n e,by rw[ao (λz=>by subst z;rw[ho] at n;cases n)];exact e⟩) tp
end
section
variable {X:Cx}{pos:Pos}{st:Stmt}{e:Expr}{te:DE}{i:Nat}{ta:DA}
theorem mH{d:D}{ds:List D}(h:d∈ds):sizeOf d<sizeOf (ì ds):=by
 have:=List.sizeOf_lt_of_mem h
 simp only[PyData.list.sizeOf_spec]
 omega
theorem oU{ok ok':Addr->Prop}{H H2:Hp}{T:D}(f:∀{w:V}{d:D},Rp ok H w d->sizeOf d<sizeOf T->Rp ok' H2 w d):∀{vs:List V}{ds:List D},Rps ok H vs ds->(∀d∈ds,sizeOf d<sizeOf T)->Rps ok' H2 vs ds
 |_,_,.nil,_=>.nil
 |_,_,.cons h t,s=>.cons (f h (s _ Í)) (oU f t λd hd=>s d (Î _ hd))
def M9(i:Nat)(te:DE):DS:=λP ρ=>match ρ[i]? with
 |some (.dw r (.list ds))=>te ρ λk d=>(norm k d).le .new=true/\ds.length<1000/\P.nx ((forget r ρ).set i (.dw r (.list (ds++[d]))))
 |_=>False
theorem dX(h:PS X st (rG (tBM X.K "list" tY (pK i) (jF (aF te eN))))):PDS X st (M9 i te):=PS.wk' h (by
 rintro Q σ H ⟨p,H0,own,ρ,P,E,t,w⟩
 unfold M9 at t
 split at t
 ·rename_i r ds hr
  obtain⟨v,hv,x⟩:=E.slot i _ hr
  obtain⟨l,vs,rfl,hl,ho,rs⟩:=x.cL
  refine⟨.ref l,hv,.inl ⟨rfl,vs,SqL.of ho⟩,p,H0,own,ρ,λks=>∃k d,ks=[(k,d)]/\(norm k d).le .new=true/\ds.length<1000/\P.nx ((forget r ρ).set i (.dw r (.list (ds++[d])))),E,?_,?_⟩
  ·show te ρ λk d=>∃k' d',[(k,d)]=[(k',d')]/\_
   have e:(λk d=>∃k' d',[((k,d):Kd×D)]=[(k',d')]/\(norm k' d').le .new=true/\ds.length<1000/\P.nx ((forget r ρ).set i (.dw r (.list (ds++[d'])))))=λk d=>(norm k d).le .new=true/\ds.length<1000/\P.nx ((forget r ρ).set i (.dw r (.list (ds++[d])))):=by
    funext k d
    apply propext
    constructor
    ·rintro⟨k',d',e,h⟩
     cases e
     exact h
    ·exact λh=>⟨k,d,rfl,h⟩
   rw[e]
   exact t
  ·rintro ks ws H1 ⟨k,d,rfl,hk,hlen,hn⟩ A rk
   obtain⟨y,rfl,ry⟩:=fM rk
   have ry:=jA A hk (aW ry)
   have h1:H1 l=some (.lst vs):=A.kp l _ ho (E.ow l r hl).2.1
   have h24:=í
   have hln:=rs.length
   refine⟨l,vs,y,rfl,rfl,h1,by omega,?_⟩
   obtain⟨E2,F2⟩:=E.xT (vs':=vs++[y]) (ds':=ds++[d]) A hv hl ho rs λH2 f g=>(oU f rs λd hd=>mH hd).snoc (g ry)
   exact w.nx _ σ _ _ E2 F2 hn
 ·exact t.elim)
end
variable [Gr]
abbrev DG:=Kd->D->List Sl->(List Sl->Prop)->Prop
abbrev DGs:=Kd->List D->List Sl->(List Sl->Prop)->Prop
def jV(k:Kd)(d:D):Sl:=match k with
 |.imm=>.im d
 |.new=>.sn d
 |.reg r=>.dw r d
 |.snw=>.sn d
 |.shr=>.sh d
 |_=>.any
def okB(p:Pn)(H0:Hp)(own:Addr->Option Nat):Kd->Addr->Prop
 |.imm=>λ_=>False
 |.new=>λa=>H0 a=none/\¬p.fp a/\own a=none
 |.reg r=>λa=>own a=some r
 |.snw=>λa=>H0 a=none/\¬p.fp a/\own a=none
 |.shr=>λa=>¬p.fp a/\own a=none
 |.n0=>λ_=>True
 |.wk=>λ_=>True
def Ah(g:DG):TG:=λv σ H Q=>∃p H0 own ρ k d P,EnvD p H0 own σ H ρ/\Rp (okB p H0 own k) H v d/\g k d ρ P/\∀σ' ρ',EnvD p H0 own σ' H ρ'->P ρ'->Q σ' H
def qF(g:DGs):TGs:=λvs σ H Q=>∃p H0 own ρ k ds P,EnvD p H0 own σ H ρ/\Rps (okB p H0 own k) H vs ds/\g k ds ρ P/\∀σ' ρ',EnvD p H0 own σ' H ρ'->P ρ'->Q σ' H
abbrev PDG(X:Cx)(e:Expr)(g:DG):Prop:=PG X e (Ah g)
theorem PG.wk{X:Cx}{e:Expr}{t t':TG}(h:PG X e t)(w:∀v σ H Q,t' v σ H Q->t v σ H Q):PG X e t':=λpins s σ H v u Q I r q=>h pins s σ H v u Q I r (w v σ H Q q)
theorem PGs.wk{X:Cx}{e:List Expr}{t t':TGs}(h:PGs X e t)(w:∀v σ H Q,t' v σ H Q->t v σ H Q):PGs X e t':=λpins s σ H v u Q I r q=>h pins s σ H v u Q I r (w v σ H Q q)
theorem fO{p:Pn}{H0 H:Hp}{own:Addr->Option Nat}{k:Kd}{v:V}{d:D}(r:Rp (okB p H0 own k) H v d):Rp (okB p H0 own (norm k d)) H v d:=by
 by_cases h:bK d=true
 ·rw[qt h];exact r.imm h
 ·rw[qu h];exact r
section
variable {X:Cx}{pos:Pos}{e:Expr}{es:List Expr}
def gNm(i:Nat):DG:=λk d ρ P=>P (ρ.set i (jV (norm k d) d))
theorem Dm{p:Pn}{H0 H:Hp}{own:Addr->Option Nat}{σ:L2.St}{i:Nat}{k:Kd}{v:V}{d:D}(r:Rp (okB p H0 own k) H v d)(h:σ[i]?=some (some v)):gQ p H0 own σ H i (jV k d):=by
 cases k with
 |imm=>exact⟨v,h,r⟩
 |new=>exact⟨v,h,r⟩
 |reg q=>exact⟨v,h,r⟩
 |n0=>trivial
 |snw=>exact⟨v,h,r⟩
 |shr=>exact⟨v,h,r⟩
 |wk=>trivial
theorem bW{i:Nat}{x:Str}(h:PG X (.Name x pos) (gY i)):PDG X (.Name x pos) (gNm i):=PG.wk h (by
 rintro v σ H Q ⟨p,H0,own,ρ,k,d,P,E,r,t,q⟩
 exact q _ _ (E.set λhl=>Dm (fO r) (Ġ hl)) t)
def wK:DGs:=λ_ ds ρ P=>match ds with
 |[]=>P ρ
 |_=>False
def fH(g:DG)(gs:DGs):DGs:=λk ds ρ P=>match ds with
 |d::r=>g (norm k d) d ρ λρ'=>gs k r ρ' P
 |[]=>False
theorem gK:PGs X [] (qF wK):=PGs.wk Hu (by
 rintro v σ H Q ⟨p,H0,own,ρ,k,ds,P,E,r,t,q⟩
 cases ds with
 |nil=>cases r;exact⟨rfl,q _ _ E t⟩
 |cons d ds=>exact t.elim)
theorem qM{g:DG}{gs:DGs}(h1:PDG X e g)(h2:PGs X es (qF gs))(hs:(assignEach (e::es) X.env).map (·.2)=assign e X.env::(assignEach es X.env).map (·.2):=by rfl):PGs X (e::es) (qF (fH g gs)):=PGs.wk (DP h1 h2 hs) (by
 rintro v σ H Q ⟨p,H0,own,ρ,k,ds,P,E,r,t,q⟩
 cases r with
 |nil=>exact t.elim
 |cons r rs =>
  exact⟨_,_,rfl,p,H0,own,ρ,_,_,_,E,fO r,t,λσ' ρ' E' t'=>⟨p,H0,own,ρ',k,_,P,E',rs,t',q⟩⟩)
def gTp(n:Nat)(gs:DGs):DG:=λk d ρ P=>match d with
 |.tuple ds=>ds.length=n/\gs k ds ρ P
 |_=>False
theorem jM{gs:DGs}{k n:Nat}(hc:X.calm=true)(h:PGs X es (qF gs))(hn:(assignEach es X.env).length=n:=by rfl)(hst:(assignEach es X.env).findIdx? (·.1)=none:=by rfl):PDG X (.Tuple es k pos) (gTp n gs):=PG.wk (KY hc h hn hst) (by
 rintro v σ H Q ⟨p,H0,own,ρ,k,d,P,E,r,t,q⟩
 cases d with
 |tuple ds =>
  obtain⟨a,vs,rfl,ha,rs⟩:=r.gZ
  exact⟨a,vs,rfl,SqT.of ha,by rw[rs.length];exact t.1,p,H0,own,ρ,k,ds,P,E,rs,t.2,q⟩
 |_=>exact t.elim)
end
structure Wlk(Ok:Hp->Prop)(J:It)(ds:List D)(ok:Addr->Prop):Prop where
 go:∀i H,Ok H->i<ds.length->J.go i H
 stop:∀H,Ok H->J.stop ds.length H
 yld:∀i H x H',Ok H->J.yld i H x H'->Same H H'/\∀d,ds[i]?=some d->Rp ok H' x d
 stab:∀H H',Ok H->(∀b o,ok b->H b=some o->H' b=some o)->(∀a xs,H a=some (.tup xs)->H' a=some (.tup xs))->Ok H'
abbrev DI:=List Sl->(Kd->List D->Prop)->Prop
def okA(p:Pn)(H0:Hp)(own:Addr->Option Nat)(Hb:Hp)(k:Kd)(H:Hp)(a:Addr):Prop:=okK p H0 own Hb k a/\∃o,H a=some o
def Fo(t:DI):TI:=λσ H R=>∃p H0 own ρ P,EnvD p H0 own σ H ρ/\t ρ P/\∀k ds J H1 Ok,P k ds->At p H0 own H H1->Wlk Ok J ds (okA p H0 own H k H1)->Ok H1->R J H1
abbrev PDI(X:Cx)(tg e:Expr)(t:DI):Prop:=PI X tg e (Fo t)
theorem PI.wk{X:Cx}{tg e:Expr}{t t':TI}(h:PI X tg e t)(w:∀σ H R,t' σ H R->t σ H R):PI X tg e t':=λpins s σ H R I q=>h pins s σ H R I (w σ H R q)
section
variable {X:Cx}{tg l:Expr}{tl:DE}{pos:Pos}{ta:DA}
theorem Dd{K:Þ}{ok:Addr->Prop}{a:Addr}{ds:List D}:Wlk (λH=>Rp ok H (.ref a) (.list ds)) (Itl K a) ds ok where
 go:=λi H r hi=>by
  obtain⟨b,vs,e,o,h,rs⟩:=r.cL
  cases e
  have:i<vs.length:=by rw[rs.length];exact hi
  exact⟨vs,vs[i],SqL.of h,by simp[this]⟩
 stop:=λH r=>by
  obtain⟨b,vs,e,o,h,rs⟩:=r.cL
  cases e
  exact⟨vs,SqL.of h,by rw[rs.length];exact Ë _⟩
 yld:=λi H x H' r y=>by
  obtain⟨rfl,y⟩:=y
  obtain⟨b,vs,e,o,h,rs⟩:=r.cL
  cases e
  refine⟨Same.refl _,λd hd=>?_⟩
  obtain⟨v,hv,rv⟩:=rs.getD hd
  have:=y vs (SqL.of h)
  rw[hv] at this
  cases this
  exact rv
 stab:=λH H' r f t=>r.cG (λa o n e=>⟨n,f a o n e⟩) t
theorem CZ{K:Þ}{ok:Addr->Prop}{a:Addr}{ds:List D}:Wlk (λH=>Rp ok H (.ref a) (.tuple ds)) (Itt K a) ds ok where
 go:=λi H r hi=>by
  obtain⟨b,vs,e,h,rs⟩:=r.gZ
  cases e
  have:i<vs.length:=by rw[rs.length];exact hi
  exact⟨vs,vs[i],SqT.of h,by simp[this]⟩
 stop:=λH r=>by
  obtain⟨b,vs,e,h,rs⟩:=r.gZ
  cases e
  exact⟨vs,SqT.of h,by rw[rs.length];exact Ë _⟩
 yld:=λi H x H' r y=>by
  obtain⟨rfl,y⟩:=y
  obtain⟨b,vs,e,h,rs⟩:=r.gZ
  cases e
  refine⟨Same.refl _,λd hd=>?_⟩
  obtain⟨v,hv,rv⟩:=rs.getD hd
  have:=y vs (SqT.of h)
  rw[hv] at this
  cases this
  exact rv
 stab:=λH H' r f t=>r.cG (λa o n e=>⟨n,f a o n e⟩) t
theorem Dc{ok:Addr->Prop}{lo:Int}{n:Nat}:Wlk (λ_=>True) (Itr lo n) ((è n).map λi=>Ã (lo+((i:Nat):Int))) ok where
 go:=λi H r hi=>by
  have h:i<n:=by simpa using hi
  exact h
 stop:=λH r=>by show n<=_;simp
 yld:=λi H x H' r y=>by
  obtain⟨rfl,rfl⟩:=y
  refine⟨Same.refl _,λd hd=>?_⟩
  rw[æ] at hd
  cases h:(è n)[i]? with
  |none=>rw[h] at hd;cases hd
  |some j =>
   rw[h] at hd
   have e:=ã hd
   have hj:j=i:=by
    have:=Ó.mp h
    obtain⟨h1,h2⟩:=this
    simpa using h2.symm
   subst e hj
   exact .int _
 stab:=λ_ _ _ _ _=>trivial
theorem rpA{p:Pn}{H0 Hb H:Hp}{own:Addr->Option Nat}{k:Kd}{v:V}{d:D}(r:Rp (okK p H0 own Hb k) H v d):Rp (okA p H0 own Hb k H) H v d:=r.cG (λa o n e=>⟨⟨n,o,e⟩,e⟩) λ_ _ e=>e
def iSq(tl:DE):DI:=λρ P=>tl ρ λk d=>match d with
 |.list ds=>P k ds
 |.tuple ds=>P k ds
 |_=>False
theorem eE(hl:PD X l tl):PDI X tg l (iSq tl):=PI.wk (KQ hl) (by
 rintro σ H R ⟨p,H0,own,ρ,P,E,t,q⟩
 refine⟨p,H0,own,ρ,_,E,t,λk d v H1 h A r=>?_⟩
 cases d with
 |list ds =>
  obtain⟨a,vs,rfl,o,ha,rs⟩:=r.cL
  exact⟨a,rfl,.inl ⟨⟨vs,SqL.of ha⟩,q k ds _ H1 _ h A Dd (rpA r)⟩⟩
 |tuple ds =>
  obtain⟨a,vs,rfl,ha,rs⟩:=r.gZ
  exact⟨a,rfl,.inr ⟨⟨vs,SqT.of ha⟩,q k ds _ H1 _ h A CZ (rpA r)⟩⟩
 |_=>exact h.elim)
def cJ(lo:Int)(n:Nat):List D:=(è n).map λi=>Ã (lo+((i:Nat):Int))
def iR1(ta:DA):DI:=λρ P=>ta ρ λks=>match ks with
 |[(_,.int j)]=>(-(2 ^ 62)<=j/\j<2 ^ 62)/\P .imm (cJ 0 j.toNat)
 |_=>False
theorem cY{a:Expr}{ps:Pos}(hm:X.mg "range"=none)(ha:PDA X [a] ta)(hg:Gl X "range":=by rfl)(hs:starEach [a] X.env=[(false,eval a X.env)]:=by rfl):PDI X tg (.Call (.Name "range" ps) [a] [] pos) (iR1 ta):=PI.wk (rP hg hm ha hs) (by
 rintro σ H R ⟨p,H0,own,ρ,P,E,t,q⟩
 refine⟨p,H0,own,ρ,_,E,t,λks vs H1 h A r=>?_⟩
 split at h
 ·rename_i k j
  obtain⟨v,rfl,r'⟩:=fM r
  exact⟨j,by rw[r'.int'],h.1.1,h.1.2,q _ _ _ H1 _ h.2 A Dc trivial⟩
 ·exact h.elim)
end
variable [Gr]
def elK:Kd->Kd
 |.new=>.snw
 |k=>k
section
variable {X:Cx}{tg iter:Expr}{pos:Pos}{body:List Stmt}{ti:DI}{g:DG}{tb:DS}
def M7(ti:DI)(g:DG)(tb:DS):DS:=λP ρ=>ti ρ λk ds=>k.le .shr=true/\∃Iv:Nat->List Sl->Prop,Iv 0 ρ /\
 (∀i d ρ',ds[i]?=some d->Iv i ρ'->g (norm (elK k) d) d ρ' λρ2=>tb { nx:=Iv (i+1),ct:=Iv (i+1),bk:=P.nx,rt:=P.rt } ρ2)/\∀ρ',Iv ds.length ρ'->P.nx ρ'
theorem Pu{p:Pn}{H0 Hb H1 H':Hp}{own own':Addr->Option Nat}{k:Kd}(hk:k.le .shr=true)(A:At p H0 own Hb H1)(F:FrS p own H1 own' H'){v:V}{d:D}{H2:Hp}(r:Rp (okA p H0 own Hb k H1) H2 v d):Rp (okB p H0 own' (elK k)) H2 v d:=by
 refine r.mono (λa n=>?_) (λ_ _ _ e=>e) λ_ _ e=>e
 obtain⟨o,u,hu⟩:=n
 have o2:¬p.fp a/\own a=none:=bZ A (k:=.shr) hk o
 have f:=(F.keep a u hu o2.1 o2.2).2
 cases k with
 |imm=>exact o
 |new=>exact⟨A.h0 o,o2.1,f⟩
 |reg q=>cases hk
 |n0=>cases hk
 |snw=>exact⟨o.1,o2.1,f⟩
 |shr=>exact⟨o2.1,f⟩
 |wk=>cases hk
theorem cX(hp:PassesOwn (model X.prog X.w) X.A X.env X.xe)(hc:X.calm=true)(hi:PDI X tg iter ti)(hg:PDG X tg g)(hb:oJ X body tb)(hs:zF X iter:=by intro _;rfl):PDS X (.For tg iter body [] pos) (M7 ti g tb):=PS.wk' (KN hp hc hi hg hb hs) (by
 rintro Q σ H ⟨p,H0,own,ρ,P,E,t,w⟩
 refine⟨p,H0,own,ρ,_,E,t,λk ds J H1 Ok h A W o1=>?_⟩
 obtain⟨hk,Iv,i0,step,done⟩:=h
 have w1:=w.go A.frs
 have okS:∀own' H',FrS p own H1 own' H'->Ok H':=λown' H' F=>W.stab H1 H' o1 (λb o n e=>by
  have o2:¬p.fp b/\own b=none:=bZ A (k:=.shr) hk n.1
  exact(F.keep b o e o2.1 o2.2).1) F.tup
 refine⟨λi m σ' H'=>m=ds.length - i/\i<=ds.length/\∃own' ρ',EnvD p H0 own' σ' H' ρ'/\FrS p own H1 own' H'/\Iv i ρ',⟨_,rfl,Ă _,own,ρ,E.go A.kp A.pen,FrS.refl,i0⟩,?_⟩
 rintro i m σ' H' ⟨rfl,hi,own',ρ',E',F',iv⟩
 have oH:=okS own' H' F'
 by_cases hlt:i<ds.length
 ·refine .inr ⟨W.go i H' oH hlt,λσ2 H2=>∃own' ρ',EnvD p H0 own' σ2 H2 ρ'/\FrS p own H1 own' H2/\Iv (i+1) ρ',λσ2 H2 h=>⟨_,by omega,rfl,hlt,h⟩,λx H2 y=>?_⟩
  obtain⟨sm,rx⟩:=W.yld i H' x H2 oH y
  have rx:=rx ds[i] (É hlt)
  have E2:EnvD p H0 own' σ' H2 ρ':=E'.go (Kp.of sm) (p.mono H' H2 E'.pen λb o _ e=>sm b o e)
  have F2:FrS p own H1 own' H2:=⟨λb o e n z=>let ⟨x,y⟩:=F'.keep b o e n z;⟨sm b o x,y⟩,λa xs e=>sm a _ (F'.tup a xs e)⟩
  refine⟨p,H0,own',ρ',_,_,_,E2,fO (Pu hk A F2 rx),step i ds[i] ρ' (É hlt) iv,λσ3 ρ3 E3 t3=>?_⟩
  have nxt:∀own4 σ4 H4 ρ4,EnvD p H0 own4 σ4 H4 ρ4->FrS p own' H2 own4 H4->Iv (i+1) ρ4->∃own' ρ',EnvD p H0 own' σ4 H4 ρ'/\FrS p own H1 own' H4/\Iv (i+1) ρ':=λown4 σ4 H4 ρ4 E4 F4 v4=>⟨own4,ρ4,E4,F2.trans F4,v4⟩
  exact⟨p,H0,own',ρ3,_,E3,t3,⟨nxt,w.rt,λo s h r e f n=>w1.nx o s h r e (F2.trans f) n,nxt⟩⟩
 ·have e:i=ds.length:=by omega
  subst e
  exact .inl ⟨W.stop H' oH,w1.nx own' σ' H' ρ' E' F' (done ρ' iv)⟩)
end
theorem EnvD.comp{p:Pn}{H0 H:Hp}{own:Addr->Option Nat}{σ:L2.St}{ρ:List Sl}(n:Nat)(E:EnvD p H0 own σ H ρ):EnvD p H0 own (Ì n none++σ) H (Ì n .any++ρ):=by
 refine⟨E.k0,E.pen,E.ow,λj s e=>?_,by simp[E.len],E.gr⟩
 by_cases hj:j<n
 ·rw[Ć (by simpa using hj)] at e
  have:s=.any:=by
   rw[Ŕ] at e
   rw[if_pos hj] at e
   exact(ã e).symm
  subst this
  trivial
 ·have e1:(Ì n Sl.any++ρ)[j]?=ρ[j - n]?:=by rw[ù (by simpa using hj)];simp
  have e2:(Ì n (none:Option V)++σ)[j]?=σ[j - n]?:=by rw[ù (by simpa using hj)];simp
  rw[e1] at e
  have q:=E.slot _ s e
  cases s <;> simp only[gQ,e2] at q ⊢ <;> exact q
abbrev zm(X:Cx)(es:List Expr)(t:DT):Prop:=PTs X es (liftT t)
theorem gJ{X:Cx}:zm X [] (λ_ P=>P true):=λpins s σ H Q I h=>by
 obtain⟨p,H0,own,ρ,P,E,t,q⟩:=h
 exact zZ pins s σ H Q I (q true H t E.at)
theorem dN{X:Cx}{c:Expr}{t:DT}(hc:PDT X c t):zm X [c] t:=Hq hc
def elC(k:Kd):Kd:=elK k
def dLC(n:Nat)(ti:DI)(g:DG)(tt:DT)(te:DE):DE:=λρ P=>ti ρ λk ds=>ds.length<=1000/\∃(ke:Kd) (Iv:Nat->List D->Prop),Iv 0 [] /\
 (∀i d ys,ds[i]?=some d->Iv i ys->g (norm (elC k) d) d (Ì n .any++ρ) λρ'=>tt ρ' λb=>if b=true then te ρ' λk' d'=>(norm k' d').le ke=true/\Iv (i+1) (ys++[d']) else Iv (i+1) ys) /\
 ∀ys,Iv ds.length ys->P (ke.join .new) (.list ys)
theorem JN{p:Pn}{H0 Hb H1:Hp}{own:Addr->Option Nat}{k:Kd}(A:At p H0 own Hb H1){v:V}{d:D}{H2:Hp}(r:Rp (okA p H0 own Hb k H1) H2 v d):Rp (okB p H0 own (elC k)) H2 v d:=by
 refine r.mono (λa n=>?_) (λ_ _ _ e=>e) λ_ _ e=>e
 obtain⟨o,u,hu⟩:=n
 cases k with
 |imm=>exact o
 |new=>exact⟨A.h0 o,A.nfb o,A.Hz o⟩
 |reg q=>exact o
 |n0=>trivial
 |snw=>exact o
 |shr=>exact o
 |wk=>trivial
section
variable {X:Cx}{own:List Str}{scope:Scope}{tg iter elt:Expr}{ifs:List Expr}{pos:Pos}{ti:DI}{g:DG}{tt:DT}{te:DE}
theorem uM{n:Nat}:∀σ H Q,cH (dLC n ti g tt te) σ H Q->tLC n (Fo ti) (λ_=>Ah g) (λ_=>liftT tt) (λ_=>cH te) σ H Q:=by
 rintro σ H Q ⟨p,H0,own,ρ,P,E,t,q⟩
 refine⟨p,H0,own,ρ,_,E,t,λk ds J H1 Ok h A W o1=>?_⟩
 obtain⟨hlen,ke,Iv,i0,step,done⟩:=h
 have okS:∀H',Kp p H1 H'->p.PI H'->Ok H':=λH' K i=>W.stab H1 H' o1 (λb o n e=>K b o e (gD A n.1)) (iV A K)
 refine⟨λi m ys H'=>m=ds.length - i/\i<=ds.length/\Kp p H1 H'/\p.PI H'/\∃es,Rps (okK p H0 own H ke) H' ys es/\es.length<=i/\Iv i es,⟨_,rfl,Ă _,Kp.refl,A.pen,[],.nil,Ë _,i0⟩,?_⟩
 rintro c i m ys H' ⟨rfl,hi,K',I',es,rs,hl,iv⟩
 have oH:=okS H' K' I'
 have A':=A.go K' I'
 have h24:=í
 by_cases hlt:i<ds.length
 ·refine .inr ⟨W.go i H' oH hlt,by have:=rs.length;omega,λys' H2=>Kp p H1 H2/\p.PI H2/\∃es,Rps (okK p H0 own H ke) H2 ys' es/\es.length<=i+1/\Iv (i+1) es,λys' H2 h=>⟨_,by omega,rfl,hlt,h⟩,λx H2 y=>?_⟩
  obtain⟨sm,rx⟩:=W.yld i H' x H2 oH y
  have rx:=rx ds[i] (É hlt)
  have I2:p.PI H2:=p.mono H' H2 I' λb o _ e=>sm b o e
  have K2:Kp p H1 H2:=K'.trans (Kp.of sm)
  have A2:=A.go K2 I2
  have E2:EnvD p H0 own σ H2 ρ:=E.go A2.kp A2.pen
  have rs2:=bI A' (Kp.of sm) rs
  refine⟨p,H0,own,_,_,_,_,E2.comp n,fO (JN A rx),step i ds[i] es (É hlt) iv,λσ3 ρ3 E3 t3=>?_⟩
  refine⟨p,H0,own,ρ3,_,E3,t3,λb H4 h4 A4=>?_⟩
  have A5:At p H0 own H H4:=A2.base A4
  have rs4:=bI A2 A4.kp rs2
  cases b with
  |true =>
   refine aL ⟨p,H0,own,ρ3,_,E3.go A4.kp A4.pen,by simpa using h4,λk' d' v H6 h6 A6 r6=>?_⟩
   refine⟨(K2.trans A4.kp).trans A6.kp,A6.pen,es++[d'],(bI A5 A6.kp rs4).snoc (jA (A5.base A6) h6.1 (aW (fX A5 r6))),by simp;omega,h6.2⟩
  |false=>exact bF ⟨K2.trans A4.kp,A4.pen,es,rs4,by omega,by simpa using h4⟩
 ·have e:i=ds.length:=by omega
  subst e
  refine .inl ⟨W.stop H' oH,λl hl'=>?_⟩
  obtain⟨k7,i7,nw⟩:=A'.new hl' (.lst ys)
  have j:=fj ke .new
  refine q _ _ _ _ (done es iv) (A'.go k7 i7) (.lst (bZ A' j.2 nw) aq ?_)
  exact(bI A' k7 rs).mono (λa o=>bZ A' j.1 o) (λ_ _ _ e=>e) λ_ _ e=>e
theorem cP(own:List Str)(hc:X.calm=true)(hi:PDI X tg iter ti)(hg:∀c,PDG (X.comp own scope c) tg g)(ht:∀c,zm (X.comp own scope c) ifs tt)(he:∀c,PD (X.comp own scope c) elt te)(hk:dG X.env scope X.N=true:=by rfl)(hs:zF X iter:=by intro _;rfl) :
  PD X (.ListComp elt [⟨tg,iter,ifs,0⟩] scope pos) (dLC own.length ti g tt te):=PE.wk (JC own hc hi hg ht he hk hs) uM
theorem iG(own M:List Str)(hc:X.calm=true)(hi:PDI X tg iter ti)(hg:∀c,PDG (X.aR own M scope c) tg g)(ht:∀c,zm (X.aR own M scope c) ifs tt)(he:∀c,PD (X.aR own M scope c) elt te)(hk:aO X.env scope X.N M=true:=by decide +kernel)(hs:zF X iter:=by intro _;rfl) :
  PD X (.ListComp elt [⟨tg,iter,ifs,0⟩] scope pos) (dLC own.length ti g tt te):=PE.wk (DQ own M hc hi hg ht he hk hs) uM
end
def aQ(d:D):Sl:=if bK d then .im d else .sh d
theorem nC{p:Pn}{H:Hp}{N:List Str}{vs:List V}{ds:List D}(g:Gr.G p H)(hp:p.PI H)(r:Rps (λa=>¬p.fp a) H vs ds):EnvD p H (λ_=>none) (L2.start N vs) H (ds.map aQ++Ì (N.length - vs.length) .any):=by
 refine⟨λ_ _ e _=>e,hp,(λ_ _ e=>nomatch e),λj s e=>?_,by unfold L2.start;simp[r.length],g⟩
 by_cases hj:j<ds.length
 ·rw[Ć (by simpa using hj),æ] at e
  obtain⟨v,hv,rv⟩:=r.getD (É hj)
  rw[É hj] at e
  have e:=ã e
  have hs:(L2.start N vs)[j]?=some (some v):=by
   unfold L2.start
   rw[Ć (by rw[Á,r.length];exact hj),æ,hv]
   rfl
  subst e
  unfold aQ
  by_cases hi:bK ds[j]=true
  ·rw[if_pos hi];exact⟨v,hs,rv.imm hi⟩
  ·rw[if_neg hi];exact⟨v,hs,rv.mono (λ_ o=>⟨o,rfl⟩) (λ_ _ _ e=>e) λ_ _ e=>e⟩
 ·rw[ù (by simpa using hj),Ŕ] at e
  split at e
  ·cases e;trivial
  ·cases e
theorem uX{f:List D->(D->Prop)->Prop}{T:DS}{N:List Str}{vs:List V}{H:Hp}{Q:VK}{E:XK}(h:spD f vs H Q E)(body:∀ds P,f ds P->T { nx:=λ_=>P .none,rt:=P } (ds.map aQ++Ì (N.length - ds.length) .any))(g:Gr.G jC H:=by trivial):qC T { nx:=λ_ H'=>Q .non H',rt:=Q } (L2.start N vs) H:=by
 obtain⟨ds,P,r,t,q⟩:=h
 have E:=nC (p:=jC) (N:=N) g trivial (r.mono (ok':=λa=>¬jC.fp a) (λ_ _ z=>z) (λ_ _ _ e=>e) λ_ _ e=>e)
 rw[r.length] at E
 have sm:∀H',(∀b o,H b=some o->¬jC.fp b->H' b=some o)->Same H H':=λH' k b o e=>k b o e λz=>z
 refine⟨jC,H,λ_=>none,_,_,E,body ds P t,⟨λo s h' r' e' _ n=>q _ _ h' n (sm h' e'.k0) .non,λd v h' n w=>q d v h' n (sm h' w.k0) (w.rp.mono (λ_ o=>o.1) (λ_ _ _ e=>e) λ_ _ e=>e),λ_ _ _ _ _ _ n=>n.elim,λ_ _ _ _ _ _ n=>n.elim⟩⟩
theorem M5{C:Pn->Prop}{f:List D->(D->Prop)->Prop}{T:DS}{N:List Str}{vs:List V}{H:Hp}{Q:VK}{E:XK}(h:spP C f vs H Q E)(body:∀ds P,f ds P->T { nx:=λ_=>P .none,rt:=P } (.pen C::(ds.map aQ++Ì (N.length - (ds.length+1)) .any)))(g:∀p,Gr.G p H:=by intro _;trivial):qC T { nx:=λ_ H'=>Q .non H',rt:=Q } (L2.start N vs) H:=by
 obtain⟨p,vs',ds,P,c,rfl,pi,r,t,q⟩:=h
 have E0:=nC (p:=p) (N:=N.drop 1) (g p) pi r
 have E:EnvD p H (λ_=>none) (L2.start N (p.pv::vs')) H (.pen C::(ds.map aQ++Ì (N.length - (ds.length+1)) .any)):=by
  refine⟨λ_ _ e _=>e,pi,(λ_ _ e=>nomatch e),λj s e=>?_,by unfold L2.start;simp[r.length],g p⟩
  cases j with
  |zero =>
   have e:=ã e
   subst e
   exact⟨rfl,c⟩
  |succ j =>
   rw[ŕ] at e
   have hl:N.length - (ds.length+1)=(N.drop 1).length - vs'.length:=by rw[r.length,ý];omega
   rw[hl] at e
   have q:=E0.slot j s e
   have es:(L2.start N (p.pv::vs'))[j+1]?=(L2.start (N.drop 1) vs')[j]?:=by
    unfold L2.start
    have:N.length - (p.pv::vs').length=(N.drop 1).length - vs'.length:=by rw[ý,Ý];omega
    rw[this]
    simp
   cases s <;> simp only[gQ,es] at q ⊢ <;> exact q
 have nw:∀{H' v d},RPost p H H' v d->Rp (λa=>H a=none) H' v d:=λw=>w.rp.mono (λ_ o=>o.1) (λ_ _ _ e=>e) λ_ _ e=>e
 exact⟨p,H,λ_=>none,_,_,E,body ds P t,⟨λo s h' r' e' _ n=>q _ _ h' n e'.k0 e'.pen .non,λd v h' n w=>q d v h' n w.k0 w.pen (nw w),λ_ _ _ _ _ _ n=>n.elim,λ_ _ _ _ _ _ n=>n.elim⟩⟩
end Dl
namespace PySem
open PyProof.Rows
abbrev mq(f0:Value)(q:Bool)(TI TO:Addr):Obj:={ cls:=.type "zip",data:=.fields #[f0,.bool q,.bool false,.ref TI,.ref TO] }
section
variable {prog:Program}{w:World}{A:Around}{E:Value->Shared->Prop}{s:Shared}
theorem tG{z TI TO i1 i2 l1 l2 T:Addr}{q:Bool}{k:Nat}{xs ys:Array Value}{x y:Value}{oT:Obj}{Q:Value->Shared->Prop}(n1:i1≠z)(n2:i2≠z)(n12:i1≠i2)(m1:l1≠z)(m2:l2≠z)(m3:l2≠i1)(hZ:s.heap.get? z=some (mq (rawInt T) q TI TO))(hI:s.heap.get? TI=some { cls:=.type "tuple",data:=.seq #[.ref i1,.ref i2] })(hT:s.heap.get? T=some oT)(j1:s.heap.IsListIter i1 l1 k)(j2:s.heap.IsListIter i2 l2 k)(e1:s.heap.IsList l1 xs)(e2:s.heap.IsList l2 ys)(hx:xs[k]?=some x)(hy:ys[k]?=some y)(hQ:∀h',h'.get? z=some (mq (rawInt T) true TI TO)->h'.IsListIter i1 l1 (k+1)->h'.IsListIter i2 l2 (k+1)->h'.get? s.heap.objs.size=some { cls:=.type "tuple",data:=.seq #[x,y] } ->
   (∀c o,c≠z->c≠i1->c≠i2->s.heap.get? c=some o->h'.get? c=some o)->Q (.ref s.heap.objs.size) { s with heap:=h' }) :
  wpAny (model prog w) A (Builtin.«zip.__next__» ⟨[.ref z],[]⟩) (λfin s'=>∃v,fin=.done (.ret v)/\Q v s') E s:=by
 have fld:∀{i:Nat}{v:Value}{R:Value->Shared->Prop},(#[rawInt T,Value.bool q,.bool false,.ref TI,.ref TO]:Array Value)[i]?=some v->R v s->wpAny (model prog w) A (field (.ref z) i) R E s:=λh r=>wpAny_field hZ rfl h r
 show wpAny _ _ (field (.ref z) 2 >>= _) _ _ _
 refine Ä (fld (v:=.bool false) rfl ?_)
 show wpAny _ _ (field (.ref z) 3 >>= _) _ _ _
 refine Ä (fld (v:=.ref TI) rfl ?_)
 refine Ä (wpAny_seqItems hI rfl ?_)
 show wpAny _ _ (Į (.ref z) >>= _) _ _ _
 refine Ä ?_
 unfold Į
 refine Ä (fld (v:=rawInt T) rfl ?_)
 show wpAny _ _ (loadIfAlive ((T:Int).toNat) >>= _) _ _ _
 rw[Ě]
 refine Ä (W.kdx_alive hT ?_)
 simp only[Option.isNone_some,Ĥ,if_false]
 refine Ä (fld (v:=.bool q) rfl ?_)
 refine L2.thn (Q:=λa s'=>a=false/\∃h1,s'={ s with heap:=h1 }/\h1.get? z=some (mq (rawInt T) true TI TO)/\h1.objs.size=s.heap.objs.size/\∀c o,c≠z->s.heap.get? c=some o->h1.get? c=some o) ?_ ?_
 ·cases q with
  |true=>exact Ø ⟨rfl,s.heap,rfl,hZ,rfl,λc o _ e=>e⟩
  |false =>
   rw[if_pos (by decide)]
   refine Ä (wpAny_setField_rec hZ (by simp) λh1 z1 b1=>Ø ⟨rfl,h1,rfl,z1,b1.1,λc o n e=>b1.extBut _ _ n e⟩)
 rintro a s' ⟨rfl,h1,rfl,z1,sz1,k1⟩
 simp only[Ĥ,if_false]
 refine Ä ?_
 simp only[←Array.forIn_toList,List.forIn_cons,List.forIn_nil]
 have at1:h1.IsListIter i1 l1 k:=j1.at λo e=>k1 i1 o n1 e
 have at2:h1.IsListIter i2 l2 k:=j2.at λo e=>k1 i2 o n2 e
 have f1:h1.IsList l1 xs:=e1.at λo e=>k1 l1 o m1 e
 have f2:h1.IsList l2 ys:=e2.at λo e=>k1 l2 o m2 e
 refine Ä (Ä (ĥ ?_))
 show wpAny _ _ (ŗ (.ref i1) >>= _) _ _ _
 refine Ä (wpAny_nextOf_list_item at1 f1 hx λh2 c1 b2=>Ø (Ø ?_))
 refine Ä (Ä (ĥ ?_))
 show wpAny _ _ (ŗ (.ref i2) >>= _) _ _ _
 refine Ä (wpAny_nextOf_list_item (at2.extBut b2.extBut n12.symm) (f2.extBut b2.extBut m3) hy λh3 c2 b3=>Ø (Ø (Ø ?_)))
 have sz3:h3.objs.size=s.heap.objs.size:=by rw[b3.1,b2.1,sz1]
 show wpAny _ _ (newTuple [x,y] >>= _) _ _ _
 refine Ä (wpAny_newTuple (Ø ⟨_,rfl,?_⟩))
 show Q (.ref h3.objs.size) _
 rw[sz3]
 have up:∀c o,c≠i1->c≠i2->h1.get? c=some o->(h3.push { cls:=.type "tuple",data:=.seq #[x,y] }).get? c=some o:=λc o a b e=>Ö _ (b3.extBut _ _ b (b2.extBut _ _ a e))
 refine hQ _ (up z _ n1.symm n2.symm z1) ((c1.extBut b3.extBut n12).at λo e=>Ö _ e) (c2.at λo e=>Ö _ e) ?_ λc o a b d e=>up c o b d (k1 c o a e)
 rw[←sz3]
 exact ç _ rfl
theorem vp{z TI TO i1 i2 l1 l2 T:Addr}{q:Bool}{k:Nat}{xs ys:Array Value}{oT:Obj}{Q:Fin->Shared->Prop}(hh:A.handled=none)(n1:i1≠z)(n2:i2≠z)(n12:i1≠i2)(m1:l1≠z)(m2:l2≠z)(m3:l2≠i1)(hZ:s.heap.get? z=some (mq (rawInt T) q TI TO))(hI:s.heap.get? TI=some { cls:=.type "tuple",data:=.seq #[.ref i1,.ref i2] })(hT:s.heap.get? T=some oT)(j1:s.heap.IsListIter i1 l1 k)(j2:s.heap.IsListIter i2 l2 k)(e1:s.heap.IsList l1 xs)(e2:s.heap.IsList l2 ys)(hend:xs[k]?=none\/ys[k]?=none)(hE:∀h' e,(∀c o,c≠z->c≠i1->c≠i2->s.heap.get? c=some o->h'.get? c=some o)->(∃o,h'.get? e=some o/\o.cls=.type "StopIteration")->E (.ref e) { s with heap:=h' }) :
  wpAny (model prog w) A (Builtin.«zip.__next__» ⟨[.ref z],[]⟩) Q E s:=by
 have fld:∀{i:Nat}{v:Value}{R:Value->Shared->Prop},(#[rawInt T,Value.bool q,.bool false,.ref TI,.ref TO]:Array Value)[i]?=some v->R v s->wpAny (model prog w) A (field (.ref z) i) R E s:=λh r=>wpAny_field hZ rfl h r
 show wpAny _ _ (field (.ref z) 2 >>= _) _ _ _
 refine Ä (fld (v:=.bool false) rfl ?_)
 show wpAny _ _ (field (.ref z) 3 >>= _) _ _ _
 refine Ä (fld (v:=.ref TI) rfl ?_)
 refine Ä (wpAny_seqItems hI rfl ?_)
 show wpAny _ _ (Į (.ref z) >>= _) _ _ _
 refine Ä ?_
 unfold Į
 refine Ä (fld (v:=rawInt T) rfl ?_)
 show wpAny _ _ (loadIfAlive ((T:Int).toNat) >>= _) _ _ _
 rw[Ě]
 refine Ä (W.kdx_alive hT ?_)
 simp only[Option.isNone_some,Ĥ,if_false]
 refine Ä (fld (v:=.bool q) rfl ?_)
 refine L2.thn (Q:=λa s'=>a=false/\∃h1,s'={ s with heap:=h1 }/\h1.get? z=some (mq (rawInt T) true TI TO)/\h1.objs.size=s.heap.objs.size/\∀c o,c≠z->s.heap.get? c=some o->h1.get? c=some o) ?_ ?_
 ·cases q with
  |true=>exact Ø ⟨rfl,s.heap,rfl,hZ,rfl,λc o _ e=>e⟩
  |false =>
   rw[if_pos (by decide)]
   refine Ä (wpAny_setField_rec hZ (by simp) λh1 z1 b1=>Ø ⟨rfl,h1,rfl,z1,b1.1,λc o n e=>b1.extBut _ _ n e⟩)
 rintro a s' ⟨rfl,h1,rfl,z1,sz1,k1⟩
 simp only[Ĥ,if_false]
 refine Ä ?_
 simp only[←Array.forIn_toList,List.forIn_cons,List.forIn_nil]
 have at1:h1.IsListIter i1 l1 k:=j1.at λo e=>k1 i1 o n1 e
 have at2:h1.IsListIter i2 l2 k:=j2.at λo e=>k1 i2 o n2 e
 have f1:h1.IsList l1 xs:=e1.at λo e=>k1 l1 o m1 e
 have f2:h1.IsList l2 ys:=e2.at λo e=>k1 l2 o m2 e
 refine Ä (Ä (ĥ ?_))
 show wpAny _ _ (ŗ (.ref i1) >>= _) _ _ _
 cases hx:xs[k]? with
 |none=>exact Ä (wpAny_nextOf_list_end hh at1 f1 hx λh2 e b2 he=>hE h2 e (λc o a b _ x=>b2 c o b (k1 c o a x)) he)
 |some x =>
  have hy:ys[k]?=none:=hend.elim (λz=>by rw[hx] at z;cases z) id
  refine Ä (wpAny_nextOf_list_item at1 f1 hx λh2 c1 b2=>Ø (Ø ?_))
  refine Ä (Ä (ĥ ?_))
  show wpAny _ _ (ŗ (.ref i2) >>= _) _ _ _
  exact Ä (wpAny_nextOf_list_end hh (at2.extBut b2.extBut n12.symm) (f2.extBut b2.extBut m3) hy λh3 e b3 he=>hE h3 e (λc o a b d x=>b3 c o d (b2.extBut _ _ b (k1 c o a x))) he)
structure ZSt(z TI TO i1 i2 l1 l2:Addr)(xs ys:Array Value)(i:Nat)(h:Heap):Prop where
 zip:(i=0/\h.get? z=some (mq .none false TI TO))\/∃(T:Addr) (q:Bool) (oT:Obj),h.get? z=some (mq (rawInt T) q TI TO)/\h.get? T=some oT/\T≠z/\T≠i1/\T≠i2
 ti:h.get? TI=some { cls:=.type "tuple",data:=.seq #[.ref i1,.ref i2] }
 to:∃a b,h.get? TO=some { cls:=.type "tuple",data:=.seq #[a,b] }
 j1:h.IsListIter i1 l1 i
 j2:h.IsListIter i2 l2 i
 e1:h.IsList l1 xs
 e2:h.IsList l2 ys
variable {z TI TO i1 i2 l1 l2:Addr}{xs ys:Array Value}
theorem ZSt.keeps{i:Nat}{h h':Heap}(Z:ZSt z TI TO i1 i2 l1 l2 xs ys i h){S:Addr}{oS:Obj}(hS:h.get? S=some oS)(hc:oS.cls=.type "list")(n1:S≠l1)(n2:S≠l2)(nT:∀(T:Addr) (q:Bool),h.get? z=some (mq (rawInt T) q TI TO)->S≠T)(k:∀b o,b≠S->h.get? b=some o->h'.get? b=some o):ZSt z TI TO i1 i2 l1 l2 xs ys i h':=by
 have ne:∀{b:Addr}{o:Obj},h.get? b=some o->o.cls≠.type "list"->b≠S:=λe n z=>by subst z;rw[hS] at e;cases e;exact n hc
 obtain⟨o1,a1,c1,d1⟩:=Z.j1
 obtain⟨o2,a2,c2,d2⟩:=Z.j2
 obtain⟨a,b,ab⟩:=Z.to
 have k1:=k i1 o1 (ne a1 (by rw[c1];decide)) a1
 have k2:=k i2 o2 (ne a2 (by rw[c2];decide)) a2
 refine⟨?_,k _ _ (ne Z.ti (show ą "tuple"≠_ by decide)) Z.ti,⟨a,b,k _ _ (ne ab (show ą "tuple"≠_ by decide)) ab⟩,⟨o1,k1,c1,d1⟩,⟨o2,k2,c2,d2⟩,Z.e1.at λo e=>k _ o n1.symm e,Z.e2.at λo e=>k _ o n2.symm e⟩
 rcases Z.zip with ⟨h0,hz⟩|⟨T,q,oT,hz,hT,r⟩
 ·exact .inl ⟨h0,k _ _ (ne hz (show ą "zip"≠_ by decide)) hz⟩
 ·exact .inr ⟨T,q,oT,k _ _ (ne hz (show ą "zip"≠_ by decide)) hz,k _ _ (nT T q hz).symm hT,r⟩
theorem CK{i:Nat}{x y:Value}{Q:Option Value->Shared->Prop}(D:ZipApart z TI TO i1 i2 l1 l2)(Z:ZSt z TI TO i1 i2 l1 l2 xs ys i s.heap)(hx:xs[i]?=some x)(hy:ys[i]?=some y)(hQ:∀h',ZSt z TI TO i1 i2 l1 l2 xs ys (i+1) h'->h'.get? s.heap.objs.size=some { cls:=.type "tuple",data:=.seq #[x,y] }->(∀(T:Addr) (q:Bool),h'.get? z=some (mq (rawInt T) q TI TO)->T=s.heap.objs.size\/∃q',s.heap.get? z=some (mq (rawInt T) q' TI TO)) ->
   (∀c o,c≠z->c≠TO->c≠i1->c≠i2->s.heap.get? c=some o->h'.get? c=some o)->Q (some (.ref s.heap.objs.size)) { s with heap:=h' }):wpAny (model prog w) A (pyNext (.ref z)) Q E s:=by
 obtain⟨a,b,ab⟩:=Z.to
 have lt:∀{c:Addr}{o:Obj},s.heap.get? c=some o->s.heap.objs.size≠c:=λe=>Nat.ne_of_gt (Ô e)
 obtain⟨o1,a1,_⟩:=id Z.j1
 obtain⟨o2,a2,_⟩:=id Z.j2
 rcases Z.zip with ⟨rfl,hz⟩|⟨T,q,oT,hz,hT,t1,t2,t3⟩
 ·refine wpAny_pyNext_zip_item D hz Z.ti ab Z.j1 Z.j2 Z.e1 Z.e2 hx hy λh' b1 b2 b3 b4 b5 b6 b7=>hQ h' ⟨.inr ⟨_,false,_,b1,b5,lt hz,lt a1,lt a2⟩,b7 _ _ D.TIz D.TITO D.TIi1 D.TIi2 Z.ti,⟨_,_,b2⟩,b3,b4,Z.e1.at λo e=>b7 _ o D.l1z D.l1TO D.l1i1 D.l1i2 e,Z.e2.at λo e=>b7 _ o D.l2z D.l2TO D.l2i1 D.l2i2 e⟩ b5 (λT q e=>?_) b7
  rw[b1] at e
  cases e
  exact .inl rfl
 ·have hTy:s.TypeIs (.ref z) "zip":=⟨_,hz,rfl⟩
  unfold pyNext
  refine Ä (wpAny_attempt (wpAny_callSpecial?_slot (name:=Str.ofString "__next__") hTy F.slot_zip_next (wpAny_call_entry F.slot_zip_next hTy F.entry_zip_next ?_ (F.args_zip_next_1 _))))
  refine tG D.i1z D.i2z D.i12 D.l1z D.l2z D.l2i1 hz Z.ti hT Z.j1 Z.j2 Z.e1 Z.e2 hx hy λh' b1 b3 b4 b5 b7=>Ø (hQ h' ⟨.inr ⟨T,true,oT,b1,b7 _ _ t1 t2 t3 hT,t1,t2,t3⟩,b7 _ _ D.TIz D.TIi1 D.TIi2 Z.ti,⟨a,b,b7 _ _ D.TOz D.TOi1 D.TOi2 ab⟩,b3,b4,Z.e1.at λo e=>b7 _ o D.l1z D.l1i1 D.l1i2 e,Z.e2.at λo e=>b7 _ o D.l2z D.l2i1 D.l2i2 e⟩ b5 (λT' q' e=>?_) λc o n1 _ n3 n4 e=>b7 c o n1 n3 n4 e)
  rw[b1] at e
  cases e
  exact .inr ⟨_,hz⟩
theorem GJ{i:Nat}{Q:Option Value->Shared->Prop}(hh:A.handled=none)(D:ZipApart z TI TO i1 i2 l1 l2)(Z:ZSt z TI TO i1 i2 l1 l2 xs ys i s.heap)(hend:xs[i]?=none\/ys[i]?=none)(hQ:∀h',(∀c o,c≠z->c≠TO->c≠i1->c≠i2->s.heap.get? c=some o->h'.get? c=some o)->Q none { s with heap:=h' }):wpAny (model prog w) A (pyNext (.ref z)) Q E s:=by
 obtain⟨a,b,ab⟩:=Z.to
 rcases Z.zip with ⟨rfl,hz⟩|⟨T,q,oT,hz,hT,t1,t2,t3⟩
 ·exact wpAny_pyNext_zip_end hh D hz Z.ti ab Z.j1 Z.j2 Z.e1 Z.e2 hend hQ
 ·have hTy:s.TypeIs (.ref z) "zip":=⟨_,hz,rfl⟩
  unfold pyNext
  refine Ä (wpAny_attempt (wpAny_callSpecial?_slot (name:=Str.ofString "__next__") hTy F.slot_zip_next (wpAny_call_entry F.slot_zip_next hTy F.entry_zip_next ?_ (F.args_zip_next_1 _))))
  refine vp hh D.i1z D.i2z D.i12 D.l1z D.l2z D.l2i1 hz Z.ti hT Z.j1 Z.j2 Z.e1 Z.e2 hend λh' e k2 he=>?_
  obtain⟨o,ho,hc⟩:=he
  refine Ä (wpAny_isInstance (T:="StopIteration") (b:=true) ⟨o,ho,hc⟩ isSubtype_stop ?_)
  exact Ø (hQ _ λc o n1 _ n3 n4 e=>k2 c o n1 n3 n4 e)
def ItP(h:Heap):List Value->List (Value×Value)->Prop:=Paired λv p=>∃T,v=.ref T/\h.get? T=some { cls:=.type "tuple",data:=.seq #[p.1,p.2] }
theorem ItP.snoc{h:Heap}:∀{vs:List Value}{ps:List (Value×Value)}{v:Value}{p:Value×Value},ItP h vs ps->(∃T,v=.ref T/\h.get? T=some { cls:=.type "tuple",data:=.seq #[p.1,p.2] })->ItP h (vs++[v]) (ps++[p])
 |_,_,_,_,.nil,r=>.cons r .nil
 |_,_,_,_,.cons a t,r=>.cons a (ItP.snoc t r)
theorem ItP.keeps{h h':Heap}{vs:List Value}{ps:List (Value×Value)}(H:ItP h vs ps)(k:∀T o,h.get? T=some o->o.cls=.type "tuple"->(∃v∈vs,v=.ref T)->h'.get? T=some o):ItP h' vs ps:=by
 induction H with
 |nil=>exact .nil
 |cons a t ih =>
  obtain⟨T,e,hT⟩:=a
  exact .cons ⟨T,e,k T _ hT rfl ⟨_,Í,e⟩⟩ (ih λT o h c ⟨v,hv,e⟩=>k T o h c ⟨v,Î _ hv,e⟩)
end
section
variable {prog:Program}{w:World}{A:Around}{z TI TO i1 i2 l1 l2:Addr}{xs ys:Array Value}{R:Result->Shared->Prop}
abbrev Ig(acc:Array Value)(c:Nat):Obj:={ cls:=.type "list",dict:=none,data:=.seq acc c,slots:=#[] }
theorem CG(hh:A.in1.handled=none)(D:ZipApart z TI TO i1 i2 l1 l2)(hn:min xs.size ys.size<=1000)(S:Addr)(nS:S≠z/\S≠TO/\S≠i1/\S≠i2/\S≠l1/\S≠l2)(res:Value):∀(m i:Nat) (s:Shared) (acc:Array Value) (c:Nat),min xs.size ys.size - i=m->i<=min xs.size ys.size ->
  ZSt z TI TO i1 i2 l1 l2 xs ys i s.heap->(∀(T:Addr) (q:Bool),s.heap.get? z=some (mq (rawInt T) q TI TO)->S≠T)->s.heap.get? S=some (Ig acc c)->ItP s.heap acc.toList ((xs.toList.zip ys.toList).take i)->(∀v∈acc.toList,∀T,v=.ref T->T≠z/\T≠TO/\T≠i1/\T≠i2/\T≠S) ->
  (∀h' acc' c',(∀b o,b≠S->b≠z->b≠TO->b≠i1->b≠i2->s.heap.get? b=some o->h'.get? b=some o)->h'.get? S=some (Ig acc' c')->ItP h' acc'.toList (xs.toList.zip ys.toList)->(∀v∈acc'.toList,v∈acc.toList\/∃T,v=.ref T/\s.heap.objs.size<=T)->R (.ok (.ret res)) { s with heap:=h' }) ->
  codeAny (model prog w) A (.builtin "list.extend.loop" ⟨[.ref S,.ref z,res],[]⟩) R s:=by
 obtain⟨s1,s2,s3,s4,s5,s6⟩:=nS
 intro m
 induction m with
 |zero =>
  intro i s acc c hm hi Z nT hS hP hv hR
  have e:i=min xs.size ys.size:=by omega
  refine codeAny_builtin F.entry_extend_loop ?_
  rw[Around.under_plainId F.plain_extend_loop _]
  show wpAny _ A.in1 (pyNext (.ref z) >>= _) _ _ s
  refine Ä (GJ hh D Z ?_ λh' k=>?_)
  ·rcases Nat.le_total xs.size ys.size with h|h
   ·exact .inl (Array.getElem?_eq_none (by omega))
   ·exact .inr (Array.getElem?_eq_none (by omega))
  ·have el:(xs.toList.zip ys.toList).take i=xs.toList.zip ys.toList:=Ļ (by simp;omega)
   rw[el] at hP
   exact Ø (hR h' acc c (λb o n1 n2 n3 n4 n5 e=>k b o n2 n3 n4 n5 e) (k S _ s1 s2 s3 s4 hS) (hP.keeps λT o h _ ⟨v,hv',e⟩=>let ⟨a1,a2,a3,a4,_⟩:=hv v hv' T e;k T o a1 a2 a3 a4 h) λv hv=>.inl hv)
 |succ m ih =>
  intro i s acc c hm hi Z nT hS hP hv hR
  have hx:i<xs.size:=by omega
  have hy:i<ys.size:=by omega
  refine codeAny_builtin F.entry_extend_loop ?_
  rw[Around.under_plainId F.plain_extend_loop _]
  show wpAny _ A.in1 (pyNext (.ref z) >>= _) _ _ s
  refine Ä (CK D Z (Array.getElem?_eq_getElem hx) (Array.getElem?_eq_getElem hy) λh1 Z1 hT hz1 k1=>?_)
  have hS1:=k1 S _ s1 s2 s3 s4 hS
  have lt:∀{b:Addr}{o:Obj},s.heap.get? b=some o->s.heap.objs.size≠b:=λe=>Nat.ne_of_gt (Ô e)
  have hsz:=hP.length
  have hsz2:acc.size=i:=by
   have:acc.toList.length=i:=by rw[hsz,ğ,List.length_zip];simp;omega
   simpa using this
  show wpAny _ A.in1 (updateSeq S (·.push (.ref s.heap.objs.size)) >>= _) _ _ _
  refine Ä ?_
  have h24:=í
  have nT1:∀(T:Addr) (q:Bool),h1.get? z=some (mq (rawInt T) q TI TO)->S≠T:=λT q e=>by
   rcases hz1 T q e with z'|⟨q',e'⟩
   ·rw[z'];exact(lt hS).symm
   ·exact nT T q' e'
  have oth:∀b o,b≠S->h1.get? b=some o->(h1.update S (â (·.push (ń s.heap.objs.size)))).get? b=some o:=λb o n e=>(Ĩ _ _ (ī n)).trans e
  obtain⟨o1,a1,_⟩:=Z.j1
  obtain⟨o2,a2,_⟩:=Z.j2
  have az:∃o,s.heap.get? z=some o:=by
   rcases Z.zip with ⟨_,hz⟩|⟨_,_,_,hz,_⟩
   ·exact⟨_,hz⟩
   ·exact⟨_,hz⟩
  obtain⟨oz,az⟩:=az
  obtain⟨ta,tb,at'⟩:=Z.to
  have newT:s.heap.objs.size≠z/\s.heap.objs.size≠TO/\s.heap.objs.size≠i1/\s.heap.objs.size≠i2/\s.heap.objs.size≠S:=⟨lt az,lt at',lt a1,lt a2,lt hS⟩
  obtain⟨c2,hS2⟩:∃c2,(h1.update S (â (·.push (ń s.heap.objs.size)))).get? S=some (Ig (acc.push (.ref s.heap.objs.size)) c2):=⟨_,Š _ hS1 rfl⟩
  have tk:(xs.toList.zip ys.toList).take (i+1)=(xs.toList.zip ys.toList).take i++[(xs[i],ys[i])]:=by
   rw[ĩ]
   congr 1
   have:(xs.toList.zip ys.toList)[i]?=some (xs[i],ys[i]):=by
    rw[List.getElem?_zip_eq_some]
    simp[hx,hy]
   rw[this]
   rfl
  refine wpAny_updateSeq hS1 rfl (Ø ⟨plainId_quiet F.plain_extend_loop _,ih (i+1) { s with heap:=h1.update S (â (·.push (ń s.heap.objs.size))) } (acc.push (.ref s.heap.objs.size)) c2 (by omega) (by omega) (Z1.keeps hS1 rfl s5 s6 nT1 oth) (λT q e=>nT1 T q ?_) hS2 ?_ ?_ ?_⟩) (by rw[hsz2];omega) (by show(acc.push _).size<=sizeLine+1;rw[Array.size_push,hsz2];omega)
  ·have zz:z≠S:=ī s1
   rw[show(h1.update S (â (·.push (ń s.heap.objs.size)))).get? z=h1.get? z from Ĩ _ _ (ī zz)] at e
   exact e
  ·rw[tk,Ķ]
   refine ItP.snoc (hP.keeps λT o h _ ⟨v,hv',e⟩=>?_) ⟨_,rfl,oth _ _ newT.2.2.2.2 hT⟩
   obtain⟨b1,b2,b3,b4,b5⟩:=hv v hv' T e
   exact oth _ _ b5 (k1 T o b1 b2 b3 b4 h)
  ·intro v hv' T e
   rw[Ķ] at hv'
   rcases Ð.mp hv' with q|q
   ·exact hv v q T e
   ·have q':v=.ref s.heap.objs.size:=by simpa using q
    rw[q'] at e
    cases e
    exact newT
  ·intro h' acc' c' kk hS' hP' hn'
   refine hR h' acc' c' (λb o n1 n2 n3 n4 n5 e=>kk b o n1 n2 n3 n4 n5 (oth b o n1 (k1 b o n2 n3 n4 n5 e))) hS' hP' λv hv'=>?_
   rcases hn' v hv' with q|⟨T,e,hT'⟩
   ·rw[Ķ] at q
    rcases Ð.mp q with q|q
    ·exact .inl q
    ·have q':v=.ref s.heap.objs.size:=by simpa using q
     exact .inr ⟨_,q',Ë _⟩
   ·exact .inr ⟨T,e,ĉ (Nat.le_of_lt (Ô (oth _ _ newT.2.2.2.2 hT))) hT'⟩
theorem xG:typeLookup (.type "zip") "__len__"=pure none:=by rw[typeLookup_type,builtinLookup_eq_fast];kernel_rfl
theorem vm:typeLookup (.type "zip") "__length_hint__"=pure none:=by rw[typeLookup_type,builtinLookup_eq_fast];kernel_rfl
theorem CJ{s:Shared}{E:Value->Shared->Prop}{Q:Value->Shared->Prop}(hh:A.handled=none)(D:ZipApart z TI TO i1 i2 l1 l2)(hn:min xs.size ys.size<=1000)(hz:s.heap.get? z=some (mq .none false TI TO))(Z:ZSt z TI TO i1 i2 l1 l2 xs ys 0 s.heap)(hQ:∀h' acc' c',(∀b o,b≠z->b≠TO->b≠i1->b≠i2->s.heap.get? b=some o->h'.get? b=some o)->h'.get? s.heap.objs.size=some (Ig acc' c')->ItP h' acc'.toList (xs.toList.zip ys.toList)->(∀v∈acc'.toList,∃T,v=.ref T/\s.heap.objs.size<T)->Q (.ref s.heap.objs.size) { s with heap:=h' }) :
  wpAny (model prog w) A (call (.type "list") [.ref z]) Q E s:=by
 have lt:∀{b:Addr}{o:Obj},s.heap.get? b=some o->s.heap.objs.size≠b:=λe=>Nat.ne_of_gt (Ô e)
 obtain⟨o1,a1,_⟩:=id Z.j1
 obtain⟨o2,a2,_⟩:=id Z.j2
 obtain⟨p1,b1,_⟩:=id Z.e1
 obtain⟨p2,b2,_⟩:=id Z.e2
 obtain⟨ta,tb,at'⟩:=id Z.to
 refine callType_codes (Q₁:=λobj s₁=>obj=.ref s.heap.objs.size/\s₁={ s with heap:=s.heap.push { cls:=.type "list",data:=.seq #[] } }) F.called_list (F.typeCall_list_1 _) F.entry_list_init (code_list_new _ ⟨rfl,rfl⟩) λobj sx hx=>?_
 obtain⟨rfl,rfl⟩:=hx
 have hS:(s.heap.push { cls:=.type "list",data:=.seq #[] }).get? s.heap.objs.size=some { cls:=.type "list",data:=.seq #[] }:=ç _ rfl
 refine⟨⟨_,hS,rfl⟩,F.args_list_init_2 _ _,?_⟩
 show wpAny _ _ (Builtin.List.listItems (.ref s.heap.objs.size) >>= λold=>Builtin.List.listUpdate (.ref s.heap.objs.size) (λ_=>#[]) >>= λ_=>letGo old.toList.reverse >>= λ_=>Ř (.ref s.heap.objs.size) (.ref z) .none) _ _ _
 have old:∀b o,s.heap.get? b=some o->(s.heap.push { cls:=.type "list",data:=.seq #[] }).get? b=some o:=λb o e=>Ö _ e
 refine Ä ?_
 unfold Builtin.List.listItems
 refine Ä (wpAny_seqItems hS rfl (Ø ?_))
 refine Ä (m:=updateSeq s.heap.objs.size (λ_=>#[])) (wpAny_updateSeq hS rfl ?_)
 have hS2:=Š (â (λ_=>(#[]:Array Value))) hS rfl
 refine Ä (wpAny_letGo ?_)
 generalize hg:(s.heap.push { cls:=.type "list",data:=.seq #[] }).update s.heap.objs.size (â λ_=>(#[]:Array Value))=g at hS2
 have kg:∀b o,s.heap.get? b=some o->g.get? b=some o:=λb o e=>by rw[←hg];exact(Ĩ _ _ (lt e)).trans (old b o e)
 have sg:g.objs.size=s.heap.objs.size+1:=by rw[←hg,ď,ũ]
 have Zg:∀{h:Heap},(∀b o,s.heap.get? b=some o->h.get? b=some o)->ZSt z TI TO i1 i2 l1 l2 xs ys 0 h:=λ{h} k=>⟨.inl ⟨rfl,k _ _ hz⟩,k _ _ Z.ti,⟨ta,tb,k _ _ at'⟩,Z.j1.at λo e=>k _ o e,Z.j2.at λo e=>k _ o e,Z.e1.at λo e=>k _ o e,Z.e2.at λo e=>k _ o e⟩
 have hT:∀{h:Heap},(∀b o,s.heap.get? b=some o->h.get? b=some o)->({ s with heap:=h }:Shared).TypeIs (.ref z) "zip":=λk=>⟨_,k _ _ hz,rfl⟩
 unfold Ř
 refine Ä (wpAny_typeOf (hT kg) ?_)
 have q1:Builtin.List.listSameRef (.ref s.heap.objs.size) (.ref z)=false:=by simp[Builtin.List.listSameRef,lt hz]
 have q2:(ą "zip" == ą "list")=false:=by decide
 have q3:(ą "zip" == ą "tuple")=false:=by decide
 simp only[q1,q2,q3,Bool.or_false,Ĥ,if_false]
 refine Ä (wpAny_pyIter_zip (kg _ _ hz) ?_)
 refine Ä (ĥ ?_)
 unfold Builtin.List.listLengthHint
 refine Ä (wpAny_specialOf (hT kg) xG ?_)
 show wpAny _ _ (specialOf (ń z) (Str.ofString "__length_hint__") >>= _) _ _ _
 refine Ä (wpAny_specialOf (hT kg) vm ?_)
 refine Ø ?_
 show wpAny _ _ (rule "list.extend.makes-room" >>= λ_=>Builtin.List.listTouch (.ref s.heap.objs.size) >>= λ_=>again (.builtin "list.extend.loop" ⟨[.ref s.heap.objs.size,.ref z,.none],[]⟩)) _ _ _
 refine Ä (wpAny_rule (Ä ?_))
 show wpAny _ _ (updateSeq s.heap.objs.size (·.push .none) >>= λ_=>updateSeq s.heap.objs.size (·.pop)) _ _ _
 refine Ä (wpAny_updateSeq hS2 rfl ?_)
 have hS3:=Š (â (·.push ò)) hS2 rfl
 refine wpAny_updateSeq hS3 rfl ?_
 have hS4:=Š (â (·.pop)) hS3 rfl
 generalize hk:(g.update s.heap.objs.size (â (·.push ò))).update s.heap.objs.size (â (·.pop))=g' at hS4
 have kk:∀b o,b≠s.heap.objs.size->g.get? b=some o->g'.get? b=some o:=λb o n e=>by rw[←hk];exact(Ĩ _ _ (ī n)).trans ((Ĩ _ _ (ī n)).trans e)
 have kk2:∀b o,s.heap.get? b=some o->g'.get? b=some o:=λb o e=>kk b o (ī (lt e)) (kg b o e)
 have sk:g'.objs.size=s.heap.objs.size+1:=by rw[←hk,ď,ď,sg]
 refine Ø ⟨plainId_quiet F.plain_extend_loop _,CG (A:=A.in1) (xs:=xs) (ys:=ys) hh D hn s.heap.objs.size ⟨lt hz,lt at',lt a1,lt a2,lt b1,lt b2⟩ _ _ 0 { s with heap:=g' } #[] _ rfl (Ă _) (Zg kk2) (λT q e=>?_) hS4 .nil (λv hv=>nomatch hv) λh' acc' c' k' hS' hP' hn'=>?_⟩
 ·have e':=kk2 _ _ hz
  rw[e] at e'
  cases e'
 ·refine⟨rfl,hQ h' acc' c' (λb o n1 n2 n3 n4 e=>k' b o (ī (lt e)) n1 n2 n3 n4 (kk2 b o e)) hS' hP' λv hv=>?_⟩
  rcases hn' v hv with q|⟨T,e,hT'⟩
  ·exact nomatch q
  ·refine⟨T,e,?_⟩
   have:g'.objs.size<=T:=hT'
   omega
end
end PySem
namespace L2
open PySem PySem.Spec PyProof.Rows
section
variable {X:Cx}{pins:List (Addr×Obj)}{σ:L2.St}{H:Hp}{s:Shared}
theorem Inv.Df{a:Addr}{o:HO}{H0:Hp}{s0:Shared}{σ0:L2.St}(I:Inv X pins σ H s)(I0:Inv X pins σ0 H0 s0)(hle:s0.heap.objs.size<=a)(hn:H a=none)(new:bO X.prog X.w (upd H a o) s.heap a o):Inv X pins σ (upd H a o) s:=by
 have lt:∀{b:Addr}{u:Obj},s0.heap.get? b=some u->b≠a:=λe z=>absurd (é (Ô e) hle) (by rw[z];exact Ą _)
 refine I.track hn (λob e=>?_) (ī (ä (é I0.lt hle))) (λx c e=>?_) (λp hp=>lt (I0.pin p hp).1) new
 ·exact absurd (é (Ô e) (ĉ I0.sz hle)) (Ą _)
 ·obtain⟨v,u,hu,_⟩:=I0.cell x c e
  exact lt hu
theorem Inv.tuples{H0:Hp}{s0:Shared}{σ0:L2.St}(I0:Inv X pins σ0 H0 s0):∀(vs:List Value) (ps:List (Value×Value)) (qs:List (V×V)) (H:Hp),Inv X pins σ H s->ItP s.heap vs ps->Paired (λ(q:V×V) (p:Value×Value)=>RelV q.1 p.1/\RelV q.2 p.2) qs ps->(∀v∈vs,∃T,v=.ref T/\s0.heap.objs.size<=T)->(∀T,s0.heap.objs.size<=T->H T=none\/∃xs,H T=some (.tup xs)) ->
  ∃(H':Hp) (ws:List V),Inv X pins σ H' s/\Same H H'/\Vals ws vs/\Paired (λw (q:V×V)=>∃t,w=.ref t/\H' t=some (.tup [q.1,q.2])) ws qs/\(∀T,s0.heap.objs.size<=T->H' T=none\/∃xs,H' T=some (.tup xs))/\(∀T,(∀v∈vs,v≠.ref T)->H' T=H T)
 |_,_,_,H,I,.nil,.nil,_,hN=>⟨H,[],I,Same.refl _,.nil,.nil,hN,λ_ _=>rfl⟩
 |_,_,_,H,I,.cons (a:=v) (l₁:=vs) (b:=p) (l₂:=ps) r t,.cons (a:=q) (l₁:=qs) rq tq,hv,hN=>by
  obtain⟨T,e,hT⟩:=r
  subst e
  obtain⟨T',e',hle⟩:=hv _ Í
  cases e'
  have vq:Vals [q.1,q.2] [p.1,p.2]:=.cons rq.1 (.cons rq.2 .nil)
  have okT:∀H2:Hp,bO X.prog X.w H2 s.heap T (.tup [q.1,q.2]):=λH2=>⟨by show 2<=sizeLine;decide,[p.1,p.2],vq,⟨_,hT,rfl,0,rfl⟩⟩
  have key:∃H1,Inv X pins σ H1 s/\Same H H1/\H1 T=some (.tup [q.1,q.2])/\(∀U,s0.heap.objs.size<=U->H1 U=none\/∃xs,H1 U=some (.tup xs))/\∀U,U≠T->H1 U=H U:=by
   rcases hN T hle with hn|⟨xs,hx⟩
   ·refine⟨upd H T (.tup [q.1,q.2]),I.Df I0 hle hn (okT _),λb u e=>by rw[ao (aD e hn)];exact e,aq,λU hU=>?_,λU hU=>ao hU⟩
    by_cases z:U=T
    ·subst z;exact .inr ⟨_,aq⟩
    ·rw[ao z];exact hN U hU
   ·refine⟨H,I,Same.refl _,?_,hN,λ_ _=>rfl⟩
    obtain⟨_,its,rv,o,ho,hc,n,hd⟩:=I.hok T _ hx
    rw[hT] at ho
    cases ho
    cases hd
    have:xs=[q.1,q.2]:=Vals.inj (by simpa using rv) vq
    rw[hx,this]
  obtain⟨H1,I1,s1,h1,N1,u1⟩:=key
  obtain⟨H2,ws,I2,s2,v2,p2,N2,u2⟩:=Inv.tuples I0 vs ps qs H1 I1 t tq (λv hv'=>hv v (Î _ hv')) N1
  refine⟨H2,.ref T::ws,I2,s1.trans s2,.cons rfl v2,.cons ⟨T,rfl,s2 _ _ h1⟩ p2,N2,λU hU=>?_⟩
  rw[u2 U λv hv'=>hU v (Î _ hv'),u1 U λz=>hU _ Í (by rw[z])]
def tLZ(K:Þ)(ta:TA):TE:=λσ H Q=>ta σ H λvs H1=>∃p q xs ys,vs=[.ref p,.ref q]/\SqL K H1 p xs/\SqL K H1 q ys/\xs.length<=1000 /\
 ∀l ws H',Same H1 H'->H1 l=none->H' l=some (.lst ws)->Paired (λw (q:V×V)=>∃t,w=.ref t/\H' t=some (.tup [q.1,q.2])) ws (xs.zip ys)->Q (.ref l) H'
theorem vD:∀{xs ys:List V}{us vs:List Value},Vals xs us->Vals ys vs->Paired (λ(q:V×V) (p:Value×Value)=>RelV q.1 p.1/\RelV q.2 p.2) (xs.zip ys) (us.zip vs)
 |_,_,_,_,.nil,_=>.nil
 |_,_,_,_,.cons _ _,.nil=>.nil
 |_,_,_,_,.cons a b,.cons c d=>.cons ⟨a,c⟩ (vD b d)
theorem xX{a b:Expr}{ta:TA}{p1 p2 pos1 pos2:Pos}(hc:X.calm=true)(hgl:Gl X "list")(hml:X.mg "list"=none)(hgz:Gl X "zip")(hmz:X.mg "zip"=none)(ha:PA X [a,b] ta)(e1:starEach [.Call (.Name "zip" p2) [a,b] [] pos2] X.env=[(false,eval (.Call (.Name "zip" p2) [a,b] [] pos2) X.env)]:=by rfl)(e2:starEach [a,b] X.env=(false,eval a X.env)::starEach [b] X.env:=by rfl)(e3:(backTo pos2 (starEach [b] X.env)).any (·.1)=false:=by rfl) :
  PE X (.Call (.Name "list" p1) [.Call (.Name "zip" p2) [a,b] [] pos2] [] pos1) (tLZ X.K ta):=by
 intro pins s σ H Q I h
 refine wpAny_Call_Name_kw (nA I hgl hml boot_list ?_)
 refine ř ?_ e1 rfl
 rw[e1]
 refine Calls.spliced_cons ?_
 refine wpAny_Call_Name_kw (nA I hgz hmz PyProof.Rows.boot_zip ?_)
 refine ř (thn (ha pos2 pins s σ H _ I h) λus s1 ⟨vs,H1,I1,r1,q1⟩=>?_) e2 e3
 obtain⟨p,q,xs,ys,rfl,hp,hq,hlen,k⟩:=q1
 obtain⟨u,u2,rfl,rx,ry⟩:=vals2 r1
 cases rx
 cases ry
 obtain⟨its,rv,pl,_⟩:=I1.list hp
 obtain⟨its2,rv2,pl2,_⟩:=I1.list hq
 refine call_zip_2 pl.isList pl2.isList λh' hz hTI hTO hi1 hi2 hsz hk=>?_
 refine Calls.spliced_nil ?_
 have lp:p<s1.heap.objs.size:=by obtain⟨o,e,_⟩:=pl.isList;exact Ô e
 have lq:q<s1.heap.objs.size:=by obtain⟨o,e,_⟩:=pl2.isList;exact Ô e
 have D:=zipApart_new lp lq
 have Z:ZSt (s1.heap.objs.size+4) (s1.heap.objs.size+2) (s1.heap.objs.size+3) s1.heap.objs.size (s1.heap.objs.size+1) p q its.toArray its2.toArray 0 h' :=
  ⟨.inl ⟨rfl,hz⟩,hTI,⟨_,_,hTO⟩,hi1,hi2,pl.isList.at λo e=>hk _ o e,pl2.isList.at λo e=>hk _ o e⟩
 have hl1:=rv.length
 refine CJ (s:={ s1 with heap:=h' }) (I1.ok.hd hc) D (by simp;omega) hz Z λh2 acc c2 k2 hS hP hT=>?_
 have lt:∀{b:Addr}{o:Obj},s1.heap.get? b=some o->b<s1.heap.objs.size:=λe=>Ô e
 have kept:∀b o,s1.heap.get? b=some o->h2.get? b=some o:=λb o e=>by
  have l0:=lt e
  have l1:∀j,b≠s1.heap.objs.size+j:=λj=>ä (é l0 (Nat.le_add_right _ _))
  exact k2 b o (l1 4) (l1 3) (l1 0) (l1 1) (hk b o e)
 have I2:Inv X pins σ H1 { s1 with heap:=h2 }:=I1.kept (t':=s1.toks) kept
 have hsz':h'.objs.size=s1.heap.objs.size+5:=hsz
 obtain⟨H3,ws,I3,s3,v3,p3,N3,u3⟩:=Inv.tuples I1 acc.toList _ _ H1 I2 hP (vD rv rv2) (λv hv=>by
  obtain⟨T,e,hT'⟩:=hT v hv
  have hT'':h'.objs.size<T:=hT'
  exact⟨T,e,by omega⟩) λT hT=>.inl (I1.hok.fresh hT)
 have hSn:H3 h'.objs.size=none:=by
  rw[u3 _ λv hv z=>?_]
  ·exact I1.hok.fresh (by omega)
  ·obtain⟨T,e,hT'⟩:=hT v hv
   rw[z] at e
   cases e
   exact absurd hT' (Ą _)
 have hwl:ws.length<=sizeLine:=by
  have:=v3.length
  have h24:=í
  have l3:=p3.length
  rw[l3,List.length_zip]
  omega
 have I4:Inv X pins σ (upd H3 h'.objs.size (.lst ws)) { s1 with heap:=h2 }:=I3.Df I1 (by omega) hSn ⟨hwl,acc.toList,c2,v3,hS⟩
 refine⟨.ref h'.objs.size,_,I4,rfl,k h'.objs.size ws _ (s3.trans λb u e=>by rw[ao (aD e hSn)];exact e) (I1.hok.fresh (by omega)) aq (Paired.yC p3 λw q ⟨t,e,ht⟩=>⟨t,e,by rw[ao (aD ht hSn)];exact ht⟩)⟩
end
end L2
namespace Dl
open PySem L2 PyProof.Rows
variable [Gr]
section
variable {X:Cx}{pos:Pos}{a b c e:Expr}{es:List Expr}{ta tb tc te:DE}{t:DA}
def newP(k:Kd)(ds:List D)(P:Kd->Prop):Prop:=(cT ds=true/\P .new)\/P (k.join .new)
theorem jm{p:Pn}{H0 Hb H H2:Hp}{own:Addr->Option Nat}(A:At p H0 own Hb H){k:Kd}{vs:List V}{ds:List D}{P:Kd->Prop}{l:Addr}(r:Rps (okK p H0 own Hb k) H2 vs ds)(nw:okK p H0 own Hb .new l)(hl:H2 l=some (.lst vs))(h:newP k ds P):∃k',P k'/\Rp (okK p H0 own Hb k') H2 (.ref l) (.list ds):=by
 rcases h with ⟨i,h⟩|h
 ·exact⟨_,h,.lst nw hl ((Rps.imm r i).mono (λ_ o=>o.elim) (λ_ _ _ e=>e) λ_ _ e=>e)⟩
 ·exact⟨_,h,.lst (bZ A (fj k .new).2 nw) hl (r.mono (λa o=>bZ A (fj k .new).1 o) (λ_ _ _ e=>e) λ_ _ e=>e)⟩
theorem dD:∀l:List Int,cT (l.map Ã)=true
 |[]=>rfl
 |x::l=>by
  show(bK (.int x)&&cT (l.map Ã))=true
  rw[dD l]
  rfl
theorem bC:∀l:List Tie,cT (l.map pD)=true
 |[]=>rfl
 |x::l=>by
  show(bK (pD x)&&cT (l.map pD))=true
  rw[bC l]
  rfl
def prD(p:D×D):D:=.tuple [p.1,p.2]
def PL:GC:=λks P=>match ks with
 |[(k1,.list ds),(k2,.list es)]=>ds.length<=1000/\newP (k1.join k2) ((ds.zip es).map prD) λk=>P k (.list ((ds.zip es).map prD))
 |_=>False
theorem Rps.zip{ok:Addr->Prop}{H H':Hp}(m:∀{v:V}{d:D},Rp ok H v d->Rp ok H' v d):∀{xs ys:List V}{ds es:List D}{ws:List V},Rps ok H xs ds->Rps ok H ys es->Paired (λw (q:V×V)=>∃t,w=.ref t/\H' t=some (.tup [q.1,q.2])) ws (xs.zip ys)->Rps ok H' ws ((ds.zip es).map prD)
 |_,_,_,_,_,.nil,_,p=>by cases p;exact .nil
 |_,_,_,_,_,.cons _ _,.nil,p=>by cases p;exact .nil
 |_,_,_,_,_,.cons h t,.cons h2 t2,p=>by
  cases p with
  |cons r q =>
   obtain⟨t',rfl,ht⟩:=r
   exact .cons (.tup ht (.cons (m h) (.cons (m h2) .nil))) (Rps.zip m t t2 q)
theorem yc{p1 p2 pos1 pos2:Pos}(hc:X.calm=true)(hml:X.mg "list"=none)(hmz:X.mg "zip"=none)(ha:PDA X [a,b] t)(hgl:Gl X "list":=by rfl)(hgz:Gl X "zip":=by rfl)(e1:starEach [.Call (.Name "zip" p2) [a,b] [] pos2] X.env=[(false,eval (.Call (.Name "zip" p2) [a,b] [] pos2) X.env)]:=by rfl)(e2:starEach [a,b] X.env=(false,eval a X.env)::starEach [b] X.env:=by rfl)(e3:(backTo pos2 (starEach [b] X.env)).any (·.1)=false:=by rfl) :
  PD X (.Call (.Name "list" p1) [.Call (.Name "zip" p2) [a,b] [] pos2] [] pos1) (tCl PL t):=PE.wk (xX hc hgl hml hgz hmz ha e1 e2 e3) (by
 rintro σ H Q ⟨p,H0,own,ρ,P,E,t,q⟩
 refine⟨p,H0,own,ρ,_,E,t,λks vs H1 h A r=>?_⟩
 unfold PL at h
 split at h
 ·rename_i k1 ds k2 es'
  obtain⟨v,w,rfl,r1,r2⟩:=Hj r
  obtain⟨x,xs,e1,o1,h1,rs1⟩:=Rp.cL r1
  obtain⟨y,ys,e2,o2,h2,rs2⟩:=Rp.cL r2
  subst e1 e2
  refine⟨x,y,xs,ys,rfl,SqL.of h1,SqL.of h2,by rw[rs1.length];exact h.1,λl ws H' sm hl hl' hp=>?_⟩
  have K:Kp p H1 H':=Kp.of sm
  have i2:p.PI H':=p.mono H1 H' A.pen λb o _ e=>sm b o e
  have j2:=fj k1 k2
  have m1:∀{k:Kd},k.le (k1.join k2)=true->∀{vs ds},Rps (okK p H0 own H k) H1 vs ds->Rps (okK p H0 own H (k1.join k2)) H1 vs ds:=λhk _ _ z=>z.mono (λa o=>bZ A hk o) (λ_ _ _ e=>e) λ_ _ e=>e
  obtain⟨k',hk',rk'⟩:=jm A (Rps.zip (λz=>j7 A K z) (m1 j2.1 rs1) (m1 j2.2 rs2) hp) (A.free hl) hl' h.2
  exact q _ _ _ _ hk' (A.go K i2) rk'
 ·exact h.elim)
def tCh(f g:Int->Int->Bool)(ta tb tc:DE):DE:=λρ P=>ta ρ λ_ d1=>tb ρ λ_ d2=>match d1,d2 with
 |.int i,.int j=>if f i j=true then tc ρ λ_ d3=>(match d3 with
   |.int l=>P .imm (.bool (g j l))
   |_=>False) else P .imm (.bool false)
 |_,_=>False
theorem Ik{f g:Int->Int->Bool}:∀σ H Q,cH (tCh f g ta tb tc) σ H Q->Di (rI0 λi j=>.bl (f i j)) (rI0 λi j=>.bl (g i j)) (cH ta) (cH tb) (cH tc) σ H Q:=by
 rintro σ H Q ⟨p,H0,own,ρ,P,E,t,q⟩
 refine⟨p,H0,own,ρ,_,E,t,λk1 d1 v1 H1 t1 A1 r1=>?_⟩
 refine⟨p,H0,own,ρ,_,E.go A1.kp A1.pen,t1,λk2 d2 v2 H2 t2 A2 r2=>?_⟩
 have A:=A1.base A2
 split at t2
 ·rename_i i j
  refine⟨i,j,r1.int',r2.int',_,rfl,?_⟩
  cases hf:f i j with
  |true =>
   rw[hf,if_pos rfl] at t2
   refine aL ⟨p,H0,own,ρ,_,(E.go A1.kp A1.pen).go A2.kp A2.pen,t2,λk3 d3 v3 H3 t3 A3 r3=>?_⟩
   cases d3 with
   |int l=>exact⟨j,l,r2.int',r3.int',q _ _ _ _ t3 (A.base A3) (.bl _)⟩
   |_=>exact t3.elim
  |false =>
   rw[hf,if_neg Æ] at t2
   exact bF (q _ _ _ _ t2 A (.bl _))
 ·exact t2.elim
theorem Ab(ha:PD X a ta)(hb:PD X b tb)(hc:PD X c tc)(hm:lastMarks [.LtE,.Lt] [b,c]=false:=by with_unfolding_all rfl):PD X (.Compare a [.LtE,.Lt] [b,c] pos) (tCh (λi j=>decide (i<=j)) (λi j=>decide (i<j)) ta tb tc):=PE.wk (Ea JD Eo ha hb hc hm) Ik
def N7(ta:DE):DE:=λρ P=>ta ρ λ_ d=>match d with
 |.bool b=>P .imm (.bool (!b))
 |_=>False
theorem Le(ha:PD X a ta):PD X (.UnaryOp .Not a pos) (N7 ta):=PE.wk (K8 ha) (by
 rintro σ H Q ⟨p,H0,own,ρ,P,E,t,q⟩
 refine⟨p,H0,own,ρ,_,E,t,λk d v H' h A r=>?_⟩
 cases d with
 |bool b=>exact⟨b,r.bl',q _ _ _ _ h A (.bl _)⟩
 |_=>exact h.elim)
def vH(ta tb:DE):DE:=λρ P=>ta ρ λ_ d=>match d with
 |.bool b=>if b=true then tb ρ P else P .imm (.bool false)
 |_=>False
theorem gq{op}(h:PD X a ta):PD X (.BoolOp op [a] pos) ta:=K7 h
theorem fG{rest:List Expr}(ha:PD X a ta)(hb:PD X (.BoolOp .And (b::rest) pos) tb):PD X (.BoolOp .And (a::b::rest) pos) (vH ta tb):=PE.wk (La ha hb) (by
 rintro σ H Q ⟨p,H0,own,ρ,P,E,t,q⟩
 refine⟨p,H0,own,ρ,_,E,t,λk d v H' h A r=>?_⟩
 cases d with
 |bool b =>
  refine⟨b,r.bl',?_⟩
  cases b with
  |true=>exact aL ⟨p,H0,own,ρ,P,E.go A.kp A.pen,by simpa using h,λk d v H2 h2 A2 r2=>q k d v H2 h2 (A.base A2) (fX A r2)⟩
  |false=>exact bF (q _ _ _ _ (by simpa using h) A (.bl _))
 |_=>exact h.elim)
def QF(tc:DT)(ta tb:DE):DE:=λρ P=>tc ρ λb=>if b=true then ta ρ P else tb ρ P
theorem Ef{u:DT}(hc:PDT X c u)(ha:PD X a ta)(hb:PD X b tb):PD X (.IfExp c a b pos) (QF u ta tb):=PE.wk (DX hc ha hb) (by
 rintro σ H Q ⟨p,H0,own,ρ,P,E,t,q⟩
 refine⟨p,H0,own,ρ,_,E,t,λb H' h A=>?_⟩
 have nx:∀k d v H2,P k d->At p H0 own H' H2->Rp (okK p H0 own H' k) H2 v d->Q v H2:=λk d v H2 h2 A2 r2=>q k d v H2 h2 (A.base A2) (fX A r2)
 cases b with
 |true=>exact aL ⟨p,H0,own,ρ,P,E.go A.kp A.pen,by simpa using h,nx⟩
 |false=>exact bF ⟨p,H0,own,ρ,P,E.go A.kp A.pen,by simpa using h,nx⟩)
def tyD:D->String
 |.none=>"NoneType"
 |.bool _=>"bool"
 |.int _=>"int"
 |.str _=>"str"
 |.list _=>"list"
 |.tuple _=>"tuple"
 |.dict _=>"dict"
def isT(c:String)(d:D):Bool:=tyD d == c || (c == "int"&&tyD d == "bool")
def tIs(c:String)(te:DE):DE:=λρ P=>te ρ λ_ d=>P .imm (.bool (isT c d))
theorem bQ{T:String}{x:Str}{ps pt:Pos}(hk:∀t:Value,(t=.type "NoneType"\/t=.type "bool"\/t=.type "int"\/t=.type "str"\/t=.type "list"\/t=.type "tuple"\/t=.type "dict")->∃n,t=.type n/\ŭ X.K t (.type T)=some (n == T || (T == "int"&&n == "bool")))(hm:X.mg "isinstance"=none)(he:PD X e te)(hT:PE X (.Name x pt) (tC (.ty T)))(hg:Gl X "isinstance":=by rfl)(h1:starEach [e,.Name x pt] X.env=(false,eval e X.env)::starEach [.Name x pt] X.env:=by rfl)(h2:starEach [.Name x pt] X.env=(false,eval (.Name x pt) X.env)::starEach [] X.env:=by rfl)(hpl:(backTo pos (starEach [.Name x pt] X.env)).any (·.1)=false:=by rfl) :
  PD X (.Call (.Name "isinstance" ps) [e,.Name x pt] [] pos) (tIs T te):=PE.wk (cN vg hg hm boot_isinstance (eX he (eX hT cB h2) h1) (by decide) (by decide) h1 hpl) (by
 rintro σ H Q ⟨p,H0,own,ρ,P,E,t,q⟩
 refine⟨p,H0,own,ρ,_,E,t,λk d v H' h A r=>?_⟩
 have fin:∀n,TyOf X.K H' v (.type n)->n=tyD d->∃x' c' t' b,[v,V.ty T]=[x',.ty c']/\TyOf X.K H' x' t'/\ŭ X.K t' (.type c')=some b/\Q (.bl b) H':=λn ty en=>by
  obtain⟨n',e,hk'⟩:=hk (.type n) (by rw[en];cases d <;> simp[tyD])
  cases e
  refine⟨v,T,.type n,_,rfl,ty,hk',?_⟩
  rw[en]
  exact q _ _ _ _ h A (.bl _)
 show ∃x' c' t' b,_/\_
 cases r with
 |non=>exact fin _ .non rfl
 |bl b=>exact fin _ (.bl b) rfl
 |int i=>exact fin _ (.int i) rfl
 |str x=>exact fin _ (.str x) rfl
 |lst o hh rr=>exact fin _ (.lst hh) rfl
 |tup hh rr=>exact fin _ (.tup hh) rfl
 |dct o hh rr=>exact fin _ (.dK hh) rfl)
theorem Ir{K:Þ}:∀t:Value,(t=.type "NoneType"\/t=.type "bool"\/t=.type "int"\/t=.type "str"\/t=.type "list"\/t=.type "tuple"\/t=.type "dict")->∃n,t=.type n/\ŭ K t (.type "int")=some (n == "int" || ("int" == "int"&&n == "bool")):=by
 rintro t (rfl|rfl|rfl|rfl|rfl|rfl|rfl) <;> exact⟨_,rfl,rfl⟩
theorem wG{K:Þ}:∀t:Value,(t=.type "NoneType"\/t=.type "bool"\/t=.type "int"\/t=.type "str"\/t=.type "list"\/t=.type "tuple"\/t=.type "dict")->∃n,t=.type n/\ŭ K t (.type "bool")=some (n == "bool" || ("bool" == "int"&&n == "bool")):=by
 rintro t (rfl|rfl|rfl|rfl|rfl|rfl|rfl) <;> exact⟨_,rfl,rfl⟩
theorem qG{K:Þ}:∀t:Value,(t=.type "NoneType"\/t=.type "bool"\/t=.type "int"\/t=.type "str"\/t=.type "list"\/t=.type "tuple"\/t=.type "dict")->∃n,t=.type n/\ŭ K t (.type "list")=some (n == "list" || ("list" == "int"&&n == "bool")):=by
 rintro t (rfl|rfl|rfl|rfl|rfl|rfl|rfl) <;> exact⟨_,rfl,rfl⟩
theorem kit_tuple{K:Þ}:∀t:Value,(t=.type "NoneType"\/t=.type "bool"\/t=.type "int"\/t=.type "str"\/t=.type "list"\/t=.type "tuple"\/t=.type "dict")->∃n,t=.type n/\ŭ K t (.type "tuple")=some (n == "tuple" || ("tuple" == "int"&&n == "bool")):=by
 rintro t (rfl|rfl|rfl|rfl|rfl|rfl|rfl) <;> exact⟨_,rfl,rfl⟩
theorem Ip{K:Þ}:∀t:Value,(t=.type "NoneType"\/t=.type "bool"\/t=.type "int"\/t=.type "str"\/t=.type "list"\/t=.type "tuple"\/t=.type "dict")->∃n,t=.type n/\ŭ K t (.type "str")=some (n == "str" || ("str" == "int"&&n == "bool")):=by
 rintro t (rfl|rfl|rfl|rfl|rfl|rfl|rfl) <;> exact⟨_,rfl,rfl⟩
def Mx:GC:=λks P=>match ks with
 |[(_,.list ds)]=>∃bs:List Bool,ds=bs.map PyData.bool/\P .imm (.bool (bs.all id))
 |_=>False
theorem Rps.bools{ok:Addr->Prop}{H:Hp}:∀{vs:List V}{bs:List Bool},Rps ok H vs (bs.map PyData.bool)->vs=bs.map V.bl
 |[],[],_=>rfl
 |_,b::bs,.cons h t=>by
  have e:=h.bl'
  subst e
  rw[Rps.bools t]
  rfl
theorem mY{ps:Pos}(hc:X.calm=true)(hm:X.mg "all"=none)(hv:bootBuiltins "all"=some (.builtin "all"))(ha:PDA X [a] t)(hg:Gl X "all":=by rfl)(he:zS X a []:=by rfl)(hpl:zP X pos []:=by rfl):PD X (.Call (.Name "all" ps) [a] [] pos) (tCl Mx t) :=
 dh (sW hc) (by
  intro p H0 own Hb H vs ks P Q A r t q
  unfold Mx at t
  split at t
  ·obtain⟨bs,rfl,t⟩:=t
   obtain⟨v,rfl,r'⟩:=fM r
   obtain⟨x,xs,e1,o1,h1,rs1⟩:=Rp.cL r'
   subst e1
   have e2:=Rps.bools rs1
   subst e2
   exact⟨x,bs,rfl,SqL.of h1,q _ _ _ _ t Kp.refl A.pen (.bl _)⟩
  ·exact t.elim) hg hm hv ha (by decide) (by decide) he hpl
def gMM(f:Int->Int->Int):GC:=λks P=>match ks with
 |[(_,.int i),(_,.int j)]=>P .imm (.int (f i j))
 |_=>False
theorem o8{ps:Pos}(hc:X.calm=true)(hm:X.mg "max"=none)(ha:PDA X [a,b] t)(hg:Gl X "max":=by rfl)(he:starEach [a,b] X.env=(false,eval a X.env)::starEach [b] X.env:=by rfl)(hpl:(backTo pos (starEach [b] X.env)).any (·.1)=false:=by rfl):PD X (.Call (.Name "max" ps) [a,b] [] pos) (tCl (gMM λi j=>if j > i then j else i) t) :=
 dh (Cr hc) (by
  intro p H0 own Hb H vs ks P Q A r t q
  unfold gMM at t
  split at t
  ·rename_i k i k' j
   obtain⟨v,w,rfl,r1,r2⟩:=Hj r
   rw[Rp.int' r1,Rp.int' r2]
   exact⟨i,j,rfl,q _ _ _ _ t Kp.refl A.pen (.int _)⟩
  ·exact t.elim) hg hm boot_max ha (by decide) (by decide) he hpl
theorem uo{ps:Pos}(hc:X.calm=true)(hm:X.mg "min"=none)(ha:PDA X [a,b] t)(hg:Gl X "min":=by rfl)(he:starEach [a,b] X.env=(false,eval a X.env)::starEach [b] X.env:=by rfl)(hpl:(backTo pos (starEach [b] X.env)).any (·.1)=false:=by rfl):PD X (.Call (.Name "min" ps) [a,b] [] pos) (tCl (gMM λi j=>if j<i then j else i) t) :=
 dh (Cq hc) (by
  intro p H0 own Hb H vs ks P Q A r t q
  unfold gMM at t
  split at t
  ·rename_i k i k' j
   obtain⟨v,w,rfl,r1,r2⟩:=Hj r
   rw[Rp.int' r1,Rp.int' r2]
   exact⟨i,j,rfl,q _ _ _ _ t Kp.refl A.pen (.int _)⟩
  ·exact t.elim) hg hm boot_min ha (by decide) (by decide) he hpl
def Ru:GC:=λks P=>match ks with
 |[(k,.list ds)]=>newP k ds λk'=>P k' (.list ds)
 |[(k,.tuple ds)]=>newP k ds λk'=>P k' (.list ds)
 |_=>False
def FP:GC:=λks P=>match ks with
 |[(k,.list ds)]=>P (norm k (.tuple ds)) (.tuple ds)
 |[(k,.tuple ds)]=>P (norm k (.tuple ds)) (.tuple ds)
 |_=>False
theorem eV{ps:Pos}(hm:X.mg "tuple"=none)(ha:PDA X [a] t)(hg:Gl X "tuple":=by rfl)(he:zS X a []:=by rfl)(hpl:zP X pos []:=by rfl):PD X (.Call (.Name "tuple" ps) [a] [] pos) (tCl FP t) :=
 qe q9 (by
  intro p H0 own Hb H vs ks P Q A r t q
  unfold FP at t
  split at t
  ·rename_i k ds
   obtain⟨v,rfl,r'⟩:=fM r
   obtain⟨x,xs,e1,o1,h1,rs1⟩:=Rp.cL r'
   subst e1
   refine⟨x,xs,rfl,.inl ⟨SqL.of h1,λl hl=>?_⟩⟩
   obtain⟨k2,i2,nw⟩:=A.new hl (.tup xs)
   exact q _ _ _ _ t k2 i2 (aW (.tup aq (bI A k2 rs1)))
  ·rename_i k ds
   obtain⟨v,rfl,r'⟩:=fM r
   obtain⟨x,xs,e1,h1,rs1⟩:=Rp.gZ r'
   subst e1
   exact⟨x,xs,rfl,.inr ⟨SqT.of h1,q _ _ _ _ t Kp.refl A.pen (aW r')⟩⟩
  ·exact t.elim) hg hm boot_tuple ha (by decide) (by decide) he hpl
def yO:GC:=λks P=>match ks with
 |[(_,.list ds)]=>∃ns:List Int,ds=ns.map Ã/\ns.length<64/\∀out:List Int,out.Perm ns->out.Pairwise (·<=·)->P .new (.list (out.map Ã))
 |_=>False
theorem qb{ps:Pos}(hm:X.mg "sorted"=none)(ha:PDA X [a] t)(hg:Gl X "sorted":=by rfl)(he:zS X a []:=by rfl)(hpl:zP X pos []:=by rfl):PD X (.Call (.Name "sorted" ps) [a] [] pos) (tCl yO t) :=
 dh vf (by
  intro p H0 own Hb H vs ks P Q A r t q
  unfold yO at t
  split at t
  ·obtain⟨ns,rfl,hl,t⟩:=t
   obtain⟨v,rfl,r'⟩:=fM r
   obtain⟨x,xs,e1,o1,h1,rs1⟩:=Rp.cL r'
   subst e1
   have e2:=Rps.ints rs1
   subst e2
   refine⟨x,ns,rfl,SqL.of h1,hl,λl out hl' hp hs=>?_⟩
   obtain⟨k2,i2,nw⟩:=A.new hl' (.lst (out.map V.int))
   exact q _ _ _ _ (t out hp hs) k2 i2 (.lst nw aq (Rps.ofMap (λi=>.int i) out))
  ·exact t.elim) hg hm boot_sorted ha (by decide) (by decide) he hpl
def yN:GC:=λks P=>match ks with
 |[(_,d)]=>∃ts:List Tie,(d=.list (ts.map pD)\/d=.tuple (ts.map pD))/\ts.length<64/\(∀t∈ts,eG t)/\∀us:List Tie,us.Perm ts->us.Pairwise (λa b=>aB a<=aB b)->P .new (.list (us.map pD))
 |_=>False
theorem Rps.prs{ok:Addr->Prop}{H:Hp}:∀{vs:List V}{ts:List Tie},Rps ok H vs (ts.map pD)->Prs H vs ts
 |[],[],_=>.nil
 |_,t::ts,.cons h r=>by
  obtain⟨x,xs,e,hx,rs⟩:=Rp.gZ h
  obtain⟨v1,v2,e2,q1,q2⟩:=Rps.two rs
  subst e e2
  rw[q1.int',q2.int'] at hx
  exact .cons ⟨x,rfl,hx⟩ (Rps.prs r)
theorem Prs.rps{ok:Addr->Prop}{H:Hp}:∀{vs:List V}{ts:List Tie},Prs H vs ts->Rps ok H vs (ts.map pD)
 |_,_,.nil=>.nil
 |_,_,.cons r t=>by
  obtain⟨x,e,hx⟩:=r
  subst e
  exact .cons (.tup hx (.cons (.int _) (.cons (.int _) .nil))) (Prs.rps t)
theorem iB{ps:Pos}(hm:X.mg "sorted"=none)(ha:PDA X [a] t)(hg:Gl X "sorted":=by rfl)(he:zS X a []:=by rfl)(hpl:zP X pos []:=by rfl):PD X (.Call (.Name "sorted" ps) [a] [] pos) (tCl yN t) :=
 dh vd (by
  intro p H0 own Hb H vs ks P Q A r t q
  unfold yN at t
  split at t
  ·obtain⟨ts,hd,hl,hn,t⟩:=t
   obtain⟨v,rfl,r'⟩:=fM r
   have fin:∀l ws us,H l=none->Prs H ws us->us.Perm ts->us.Pairwise (λa b=>aB a<=aB b)->Q (.ref l) (upd H l (.lst ws)):=λl ws us hl' pr hp hs=>by
    obtain⟨k2,i2,nw⟩:=A.new hl' (.lst ws)
    exact q _ _ _ _ (t us hp hs) k2 i2 (.lst nw aq (bI A k2 (Prs.rps pr)))
   rcases hd with rfl|rfl
   ·obtain⟨x,xs,e1,o1,h1,rs1⟩:=Rp.cL r'
    subst e1
    exact⟨x,xs,ts,rfl,.inl (SqL.of h1),Rps.prs rs1,hn,.inl hl,fin⟩
   ·obtain⟨x,xs,e1,h1,rs1⟩:=Rp.gZ r'
    subst e1
    exact⟨x,xs,ts,rfl,.inr (SqT.of h1),Rps.prs rs1,hn,.inl hl,fin⟩
  ·exact t.elim) hg hm boot_sorted ha (by decide) (by decide) he hpl
end
variable [Gr]
section
variable {X:Cx}{pins:List (Addr×Obj)}{σ:L2.St}{H:Hp}{s:Shared}{ok:Addr->Prop}
mutual
theorem Rp.reads(I:Inv X pins σ H s):∀{v:V}{d:D}{u:Value},Rp ok H v d->RelV v u->d.canLay0=true->∃as,Reads s.heap u d as
 |_,_,_,.non,r,_=>by cases r;exact⟨_,.none⟩
 |_,_,_,.bl b,r,_=>by cases r;exact⟨_,.bool b⟩
 |_,_,_,.int i,r,_=>by obtain⟨t,rfl⟩:=r;exact⟨_,.int i t⟩
 |_,_,_,.str x,r,_=>by obtain⟨t,rfl⟩:=r;exact⟨_,.str x t⟩
 |_,_,_,.lst o h rs,r,c=>by
  cases r
  obtain⟨its,rv,pl,_⟩:=I.list (SqL.of h)
  obtain⟨as,ra⟩:=Rps.reads I rs rv (by simpa[PyData.canLay0] using c)
  obtain⟨ob,ho,hc,n,hd⟩:=pl.isList
  exact⟨_,.list ho hc hd (by simpa using ra)⟩
 |_,_,_,.tup h rs,r,c=>by
  cases r
  obtain⟨its,rv,pl,_⟩:=I.tuple (SqT.of h)
  obtain⟨as,ra⟩:=Rps.reads I rs rv (by simpa[PyData.canLay0] using c)
  obtain⟨ob,ho,hc,n,hd⟩:=pl
  exact⟨_,.tuple ho hc hd (by simpa using ra)⟩
 |_,_,_,.dct o h rs,r,c=>by simp[PyData.canLay0] at c
theorem Rps.reads(I:Inv X pins σ H s):∀{v:List V}{d:List D}{u:List Value},Rps ok H v d->Vals v u->ņ d=true->∃as,ReadsAll s.heap u d as
 |_,_,_,.nil,r,_=>by cases r;exact⟨[],.nil⟩
 |_,_,_,.cons h t,r,c=>by
  cases r with
  |cons a b =>
   simp only[ņ,Ê] at c
   obtain⟨as,ra⟩:=Rp.reads I h a c.1
   obtain⟨bs,rb⟩:=Rps.reads I t b c.2
   exact⟨_,.cons ra rb⟩
end
end
def okD(d:D):Bool:=d.canLay0&&decide (d.depth<=60)
section
variable {X:Cx}{pos:Pos}{a b e:Expr}{ta tb te:DE}
def Dv(K:Þ)(neg:Bool):R2:=λx y H Q=>∃ok ok' d e,Rp ok H x d/\Rp ok' H y e/\okD d=true/\okD e=true/\Q (.bl (if neg then !(ñ d e) else ñ d e)) H
theorem Es(hu:X.A.units+64<cLine):OpR X (compareOp .Eq) (Dv X.K false):=by
 intro pins s σ H x y v u Q I rx ry h
 obtain⟨ok,ok',d,e,hd,he,cd,ce,q⟩:=h
 simp only[okD,Ê,decide_eq_true_eq] at cd ce
 obtain⟨as,ra⟩:=hd.reads I rx cd.1
 obtain⟨bs,rb⟩:=he.reads I ry ce.1
 exact SeqAt.compareEq_reads ra rb cd.1 ce.1 (by omega) ⟨.bl _,H,I,rfl,q⟩
theorem El(hu:X.A.units+64<cLine):OpR X (compareOp .NotEq) (Dv X.K true):=by
 intro pins s σ H x y v u Q I rx ry h
 obtain⟨ok,ok',d,e,hd,he,cd,ce,q⟩:=h
 simp only[okD,Ê,decide_eq_true_eq] at cd ce
 obtain⟨as,ra⟩:=hd.reads I rx cd.1
 obtain⟨bs,rb⟩:=he.reads I ry ce.1
 exact SeqAt.compareNe_reads ra rb cd.1 ce.1 (by omega) ⟨.bl _,H,I,rfl,q⟩
def P0(neg:Bool):G2:=λ_ d1 _ d2 P=>okD d1=true/\okD d2=true/\P .imm (.bool (if neg then !(ñ d1 d2) else ñ d1 d2))
theorem JK{K:Þ}(neg:Bool):Ok2 (P0 neg) (Dv K neg):=by
 intro p H0 own Hb H x y k1 d1 k2 d2 P Q A r1 r2 t q
 exact⟨_,_,d1,d2,r1,r2,t.1,t.2.1,q _ _ _ _ t.2.2 Kp.refl A.pen (.bl _)⟩
def eqP(x:D)(h:Heap)(u:Value):Bool:=by
 classical
 exact decide (∃d as,Reads h u d as/\ñ d x=true)
def Ku(neg:Bool):R2:=λx y H Q=>∃ok ok' d es,Rp ok H x d/\(Rp ok' H y (.list es)\/Rp ok' H y (.tuple es))/\okD d=true/\(es.all okD)=true/\Q (.bl (if neg then !(es.any λe=>ñ e d) else es.any λe=>ñ e d)) H
theorem Gk{x:D}{h:Heap}{u:Value}{d:D}{as:List Addr}(r:Reads h u d as):eqP x h u=ñ d x:=by
 classical
 unfold eqP
 rw[Ď,decide_eq_true_eq]
 constructor
 ·rintro⟨d',as',r',e⟩
  rw[(r.unique d' as' r').1]
  exact e
 ·exact λe=>⟨d,as,r,e⟩
theorem lZ{x:D}{h:Heap}:∀{us:List Value}{ds:List D}{as:List Addr},ReadsAll h us ds as->us.any (eqP x h)=ds.any λe=>ñ e x
 |_,_,_,.nil=>rfl
 |_,_,_,.cons a b=>by
  rw[List.any_cons,List.any_cons,Gk a,lZ b]
theorem lB{A:Around}{s:Shared}{x:D}{v:Value}{bs:List Addr}(rx:Reads s.heap v x bs)(cx:okD x=true)(hu:A.units+60<cLine):∀{us:List Value}{ds:List D}{as:List Addr},ReadsAll s.heap us ds as->ds.all okD=true->∀u∈us,SeqAt.EqAt A s u v (eqP x s.heap u)
 |_,_,_,.nil,_,u,hu'=>nomatch hu'
 |_,d::ds,_,.cons a b,c,u,hu'=>by
  simp only[ş,Ê] at c
  rcases á.mp hu' with rfl|hu'
  ·rw[Gk a]
   have c1:=c.1
   simp only[okD,Ê,decide_eq_true_eq] at c1 cx
   exact SeqAt.eqAt_reads _ _ A s _ _ _ _ a rx c1.1 cx.1 (by omega)
  ·exact lB rx cx hu b c.2 u hu'
theorem lE{A:Around}(hu:A.units+64<cLine):A.in1.units+60<cLine:=by
 have:A.in1.units<=A.units+1:=by first|exact Ë _|exact Ō _|(unfold Around.in1;simp)
 omega
theorem lC:∀{es:List D},es.all okD=true->ņ es=true
 |[],_=>rfl
 |e::es,h=>by
  simp only[ş,Ê,okD] at h
  simp only[ņ,Ê]
  exact⟨h.1.1,lC h.2⟩
theorem Er(hu:X.A.units+64<cLine):OpR X (compareOp .In) (Ku false):=by
 intro pins s σ H x y v u Q I rx ry h
 obtain⟨ok,ok',d,es,hd,hs,cd,ce,q⟩:=h
 have cd':=cd
 simp only[okD,Ê,decide_eq_true_eq] at cd'
 obtain⟨bs,rb⟩:=hd.reads I rx cd'.1
 rcases hs with hs|hs
 ·obtain⟨c,vs,rfl,o,hc,rs⟩:=hs.cL
  cases ry
  obtain⟨its,r,pl,hz⟩:=I.list (SqL.of hc)
  obtain⟨as,ra⟩:=rs.reads I r (lC ce)
  refine SeqAt.in_listAt (eqP d s.heap) pl.isList (λw hw=>lB rb cd (lE hu) ra ce w (by simpa using hw)) ⟨.bl _,H,I,rfl,?_⟩
  rw[show its.toArray.any (eqP d s.heap)=its.any (eqP d s.heap) by simp,lZ ra]
  exact q
 ·obtain⟨c,vs,rfl,hc,rs⟩:=hs.gZ
  cases ry
  obtain⟨its,r,pl,hz⟩:=I.tuple (SqT.of hc)
  obtain⟨as,ra⟩:=rs.reads I r (lC ce)
  refine SeqAt.in_tupleAt (eqP d s.heap) pl (λw hw=>lB rb cd (lE hu) ra ce w (by simpa using hw)) ⟨.bl _,H,I,rfl,?_⟩
  rw[show its.toArray.any (eqP d s.heap)=its.any (eqP d s.heap) by simp,lZ ra]
  exact q
theorem Bs(hu:X.A.units+64<cLine):OpR X (compareOp .NotIn) (Ku true):=by
 intro pins s σ H x y v u Q I rx ry h
 obtain⟨ok,ok',d,es,hd,hs,cd,ce,q⟩:=h
 have cd':=cd
 simp only[okD,Ê,decide_eq_true_eq] at cd'
 obtain⟨bs,rb⟩:=hd.reads I rx cd'.1
 rcases hs with hs|hs
 ·obtain⟨c,vs,rfl,o,hc,rs⟩:=hs.cL
  cases ry
  obtain⟨its,r,pl,hz⟩:=I.list (SqL.of hc)
  obtain⟨as,ra⟩:=rs.reads I r (lC ce)
  refine SeqAt.notIn_listAt (eqP d s.heap) pl.isList (λw hw=>lB rb cd (lE hu) ra ce w (by simpa using hw)) ⟨.bl _,H,I,rfl,?_⟩
  rw[show its.toArray.any (eqP d s.heap)=its.any (eqP d s.heap) by simp,lZ ra]
  exact q
 ·obtain⟨c,vs,rfl,hc,rs⟩:=hs.gZ
  cases ry
  obtain⟨its,r,pl,hz⟩:=I.tuple (SqT.of hc)
  obtain⟨as,ra⟩:=rs.reads I r (lC ce)
  refine SeqAt.notIn_tupleAt (eqP d s.heap) pl (λw hw=>lB rb cd (lE hu) ra ce w (by simpa using hw)) ⟨.bl _,H,I,rfl,?_⟩
  rw[show its.toArray.any (eqP d s.heap)=its.any (eqP d s.heap) by simp,lZ ra]
  exact q
def gIn(neg:Bool):G2:=λ_ d1 _ d2 P=>match d2 with
 |.list es=>okD d1=true/\es.all okD=true/\P .imm (.bool (if neg then !(es.any λe=>ñ e d1) else es.any λe=>ñ e d1))
 |.tuple es=>okD d1=true/\es.all okD=true/\P .imm (.bool (if neg then !(es.any λe=>ñ e d1) else es.any λe=>ñ e d1))
 |_=>False
theorem okIn(neg:Bool):Ok2 (gIn neg) (Ku neg):=by
 intro p H0 own Hb H x y k1 d1 k2 d2 P Q A r1 r2 t q
 cases d2 with
 |list es=>exact⟨_,_,d1,es,r1,.inl r2,t.1,t.2.1,q _ _ _ _ t.2.2 Kp.refl A.pen (.bl _)⟩
 |tuple es=>exact⟨_,_,d1,es,r1,.inr r2,t.1,t.2.1,q _ _ _ _ t.2.2 Kp.refl A.pen (.bl _)⟩
 |_=>exact t.elim
theorem vX(hu:X.A.units+64<cLine)(ha:PD X a ta)(hb:PD X b tb)(hm:behindInMarks .In b=false:=by rfl):PD X (.Compare a [.In] [b] pos) (t2 (gIn false) ta tb):=gB (Er hu) (okIn false) ha hb hm
theorem mU(hu:X.A.units+64<cLine)(ha:PD X a ta)(hb:PD X b tb)(hm:behindInMarks .In b=false:=by rfl):PDT X (.Compare a [.In] [b] pos) (fJ (t2 (gIn false) ta tb)):=gj (Er hu) (okIn false) ha hb hm
theorem jk(hu:X.A.units+64<cLine)(ha:PD X a ta)(hb:PD X b tb)(hm:behindInMarks .NotIn b=false:=by rfl):PDT X (.Compare a [.NotIn] [b] pos) (fJ (t2 (gIn true) ta tb)):=gj (Bs hu) (okIn true) ha hb hm
end
variable [Gr]
section
variable {X:Cx}{pos p2:Pos}{a b c e:Expr}{es:List Expr}{ta tb tc te:DE}{t:DA}{st:Stmt}
abbrev DO:=List Sl->(Option Int->Prop)->Prop
def qD(t:DO):TO:=λσ H Q=>∃p H0 own ρ P,EnvD p H0 own σ H ρ/\t ρ P/\∀o H',P o->At p H0 own H H'->Q o H'
theorem PO.wk{e:Option Expr}{t t':TO}(h:PO X e t)(w:∀σ H Q,t' σ H Q->t σ H Q):PO X e t':=λpins s σ H Q I q=>h pins s σ H Q I (w σ H Q q)
def JR:DO:=λ_ P=>P none
def JQ(te:DE):DO:=λρ P=>te ρ λ_ d=>match d with
 |.int i=>P (some i)
 |_=>False
theorem dR:PO X none (qD JR):=PO.wk Ht (by
 rintro σ H Q ⟨p,H0,own,ρ,P,E,t,q⟩
 exact q _ _ t E.at)
theorem cO(h:PD X e te):PO X (some e) (qD (JQ te)):=PO.wk (Hs h) (by
 rintro σ H Q ⟨p,H0,own,ρ,P,E,t,q⟩
 refine⟨p,H0,own,ρ,_,E,t,λk d v H' h A r=>?_⟩
 cases d with
 |int i=>exact⟨i,r.int',q _ _ h A⟩
 |_=>exact h.elim)
def bM{α:Type}(ds:List α)(lo hi:Option Int):List α:=(ds.drop (HT.sIx ds.length 0 lo)).take (HT.sIx ds.length ds.length hi - HT.sIx ds.length 0 lo)
theorem Rps.cut{ok:Addr->Prop}{H:Hp}{vs:List V}{ds:List D}(r:Rps ok H vs ds)(lo hi:Option Int):Rps ok H (qO vs lo hi) (bM ds lo hi):=by
 unfold qO bM
 rw[r.length]
 exact(r.drop _).take _
def Qx(te:DE)(tl th:DO):DE:=λρ P=>te ρ λk d=>tl ρ λlo=>th ρ λhi=>match d with
 |.list ds=>newP k (bM ds lo hi) λk'=>P k' (.list (bM ds lo hi))
 |_=>False
theorem Eb{lo hi:Option Expr}{tl th:DO}(he:PD X e te)(hl:PO X lo (qD tl))(hh:PO X hi (qD th)):PD X (.Subscript e (.Slice lo hi none p2) pos) (Qx te tl th):=PE.wk (vW zJ he hl hh) (by
 rintro σ H Q ⟨p,H0,own,ρ,P,E,t,q⟩
 refine⟨p,H0,own,ρ,_,E,t,λk d v H1 h A r=>?_⟩
 refine⟨p,H0,own,ρ,_,E.go A.kp A.pen,h,λo1 H2 h2 A2=>?_⟩
 refine⟨p,H0,own,ρ,_,(E.go A.kp A.pen).go A2.kp A2.pen,h2,λo2 H3 h3 A3=>?_⟩
 have A4:=(A.base A2).base A3
 have r3:=j7 (A.base A2) A3.kp (j7 A A2.kp r)
 cases d with
 |list ds =>
  obtain⟨x,xs,e1,o,h1,rs⟩:=Rp.cL r3
  subst e1
  refine⟨x,xs,rfl,SqL.of h1,λl hl=>?_⟩
  obtain⟨k2,i2,nw⟩:=A4.new hl (.lst (qO xs o1 o2))
  obtain⟨k',hk',rk'⟩:=jm A4 (bI A4 k2 (rs.cut o1 o2)) nw aq h3
  exact q _ _ _ _ hk' (A4.go k2 i2) rk'
 |_=>exact h3.elim)
def Je:G2:=λk1 d1 k2 d2 P=>match d1,d2 with
 |.list ds,.list es=>ds.length+es.length<=1000/\newP (k1.join k2) (ds++es) λk=>P k (.list (ds++es))
 |_,_=>False
theorem JM:Ok2 Je Kv:=by
 intro p H0 own Hb H x y k1 d1 k2 d2 P Q A r1 r2 t q
 unfold Je at t
 split at t
 ·obtain⟨c1,xs,e1,o1,h1,rs1⟩:=r1.cL
  obtain⟨c2,ys,e2,o2,h2,rs2⟩:=r2.cL
  subst e1 e2
  have h24:=í
  refine⟨c1,c2,xs,ys,rfl,rfl,h1,h2,by rw[rs1.length,rs2.length];omega,λl hl=>?_⟩
  obtain⟨k3,i3,nw⟩:=A.new hl (.lst (xs++ys))
  have j:=fj k1 k2
  have m:∀{k vs ds},k.le (k1.join k2)=true->Rps (okK p H0 own Hb k) H vs ds->Rps (okK p H0 own Hb (k1.join k2)) H vs ds:=λhk z=>z.mono (λa o=>bZ A hk o) (λ_ _ _ e=>e) λ_ _ e=>e
  obtain⟨k',hk',rk'⟩:=jm A (bI A k3 ((m j.1 rs1).app (m j.2 rs2))) nw aq t.2
  exact q _ _ _ _ hk' k3 i3 rk'
 ·exact t.elim
theorem Ei(ha:PD X a ta)(hb:PD X b tb):PD X (.BinOp a .Add b pos) (t2 Je ta tb):=qd yh JM ha hb
def Ga:G2:=λk1 d1 k2 d2 P=>match d1,d2 with
 |.tuple ds,.tuple es=>ds.length+es.length<=1000/\P (norm (k1.join k2) (.tuple (ds++es))) (.tuple (ds++es))
 |_,_=>False
theorem Ls:Ok2 Ga Jz:=by
 intro p H0 own Hb H x y k1 d1 k2 d2 P Q A r1 r2 t q
 unfold Ga at t
 split at t
 ·obtain⟨c1,xs,e1,h1,rs1⟩:=r1.gZ
  obtain⟨c2,ys,e2,h2,rs2⟩:=r2.gZ
  subst e1 e2
  have h24:=í
  refine⟨c1,c2,xs,ys,rfl,rfl,h1,h2,by rw[rs1.length,rs2.length];omega,λl H' sm hl=>?_⟩
  have K:Kp p H H':=Kp.of sm
  have j:=fj k1 k2
  have m:∀{k vs ds},k.le (k1.join k2)=true->Rps (okK p H0 own Hb k) H vs ds->Rps (okK p H0 own Hb (k1.join k2)) H vs ds:=λhk z=>z.mono (λa o=>bZ A hk o) (λ_ _ _ e=>e) λ_ _ e=>e
  exact q _ _ _ _ t.2 K (p.mono H H' A.pen λb o _ e=>sm b o e) (aW (.tup hl (bI A K ((m j.1 rs1).app (m j.2 rs2)))))
 ·exact t.elim
def Oa(ta:DE):DE:=λρ P=>ta ρ λ_ d=>match d with
 |.int i=>P .imm (.int (-i))
 |_=>False
theorem fD(ha:PD X a ta):PD X (.UnaryOp .USub a pos) (Oa ta):=PE.wk (O1 Kc ha) (by
 rintro σ H Q ⟨p,H0,own,ρ,P,E,t,q⟩
 refine⟨p,H0,own,ρ,_,E,t,λk d v H' h A r=>?_⟩
 cases d with
 |int i=>exact⟨i,r.int',q _ _ _ _ h A (.int _)⟩
 |_=>exact h.elim)
def Qo(te:DE)(g:DG):DS:=λP ρ=>te ρ λk d=>g (norm (elK k) d) d ρ P.nx
theorem Pk{p:Pn}{H0 Hb H:Hp}{own:Addr->Option Nat}(A:At p H0 own Hb H){k:Kd}{v:V}{d:D}(r:Rp (okK p H0 own Hb k) H v d):Rp (okB p H0 own (norm (elK k) d)) H v d:=by
 refine fO (r.mono (λa o=>?_) (λ_ _ _ e=>e) λ_ _ e=>e)
 cases k with
 |imm=>exact o
 |new=>exact⟨A.h0 o,A.nfb o,A.Hz o⟩
 |reg q=>exact o
 |n0=>trivial
 |snw=>exact o
 |shr=>exact o
 |wk=>trivial
theorem uY{g:DG}(h:PS X st (pN (cH te) (Ah g))):PDS X st (Qo te g):=PS.wk' h (by
 rintro Q σ H ⟨p,H0,own,ρ,P,E,t,w⟩
 refine⟨p,H0,own,ρ,_,E,t,λk d v H1 h A r=>?_⟩
 exact⟨p,H0,own,ρ,_,d,P.nx,E.go A.kp A.pen,Pk A r,h,λσ' ρ' E' n=>w.nx own σ' H1 ρ' E' A.frs n⟩)
def M8(i:Nat)(te:DE):DS:=λP ρ=>match ρ[i]? with
 |some (.dw r (.list ds))=>te ρ λk d=>match d with
  |.list es=>(k.le .new || cT es)=true/\ds.length+es.length<=1000/\P.nx ((forget r ρ).set i (.dw r (.list (ds++es))))
  |_=>False
 |_=>False
theorem uy{te:DE}{ρ:List Sl}{R:Kd->D->Prop}(t:te ρ R):aF te eN ρ (λks=>∃k d,ks=[(k,d)]/\R k d):=by
 show te ρ λk d=>∃k' d',[((k,d):Kd×D)]=[(k',d')]/\R k' d'
 have e:(λk d=>∃k' d',[((k,d):Kd×D)]=[(k',d')]/\R k' d')=R:=by
  funext k d
  apply propext
  constructor
  ·rintro⟨k',d',e,h⟩
   cases e
   exact h
  ·exact λh=>⟨k,d,rfl,h⟩
 rw[e]
 exact t
theorem vO{ok ok':Addr->Prop}{H H2:Hp}(f:∀{w:V}{d:D},Rp ok H w d->Rp ok' H2 w d):∀{vs:List V}{ds:List D},Rps ok H vs ds->Rps ok' H2 vs ds
 |_,_,.nil=>.nil
 |_,_,.cons h t=>.cons (f h) (vO f t)
theorem jr{i:Nat}(h:PS X st (rG (tBM X.K "list" tX (pK i) (jF (aF te eN))))):PDS X st (M8 i te):=PS.wk' h (by
 rintro Q σ H ⟨p,H0,own,ρ,P,E,t,w⟩
 unfold M8 at t
 split at t
 ·rename_i r ds hr
  obtain⟨v,hv,x⟩:=E.slot i _ hr
  obtain⟨l,vs,rfl,hl,ho,rs⟩:=x.cL
  refine⟨.ref l,hv,.inl ⟨rfl,vs,SqL.of ho⟩,p,H0,own,ρ,_,E,uy t,?_⟩
  rintro ks ws H1 ⟨k,d,rfl,hh⟩ A rk
  cases d with
  |list es =>
   obtain⟨hk,hlen,hn⟩:=hh
   obtain⟨y,rfl,ry⟩:=fM rk
   obtain⟨b,zs,e1,o1,hb,rz⟩:=Rp.cL ry
   subst e1
   have rz2:Rps (okK p H0 own H .new) H1 zs es:=by
    rcases Bool.or_eq_true_iff.mp hk with q|q
    ·exact rz.mono (λa o=>bZ A q o) (λ_ _ _ e=>e) λ_ _ e=>e
    ·exact(Rps.imm rz q).mono (λa o=>o.elim) (λ_ _ _ e=>e) λ_ _ e=>e
   have h1:H1 l=some (.lst vs):=A.kp l _ ho (E.ow l r hl).2.1
   have h24:=í
   have l1:=rs.length
   have l2:=rz.length
   refine⟨l,b,vs,zs,rfl,rfl,h1,hb,by omega,?_⟩
   obtain⟨E2,F2⟩:=E.xT (vs':=vs++zs) (ds':=ds++es) A hv hl ho rs λH2 f g=>(oU f rs λd hd=>mH hd).app (vO g rz2)
   exact w.nx _ σ _ _ E2 F2 hn
  |_=>exact hh.elim
 ·exact t.elim)
def Qn(i:Nat)(tj te:DE):DS:=λP ρ=>match ρ[i]? with
 |some (.dw r (.list ds))=>tj ρ λ_ dj=>te ρ λk d=>match dj with
  |.int j=>(norm k d).le .new=true/\0<=j/\j.toNat<=ds.length/\ds.length<1000/\P.nx ((forget r ρ).set i (.dw r (.list (ds.take j.toNat++d::ds.drop j.toNat))))
  |_=>False
 |_=>False
theorem Ce{i:Nat}{tj:DE}(h:PS X st (rG (tBM X.K "list" zY (pK i) (jF (aF tj (aF te eN)))))):PDS X st (Qn i tj te):=PS.wk' h (by
 rintro Q σ H ⟨p,H0,own,ρ,P,E,t,w⟩
 unfold Qn at t
 split at t
 ·rename_i r ds hr
  obtain⟨v,hv,x⟩:=E.slot i _ hr
  obtain⟨l,vs,rfl,hl,ho,rs⟩:=x.cL
  refine⟨.ref l,hv,.inl ⟨rfl,vs,SqL.of ho⟩,p,H0,own,ρ,λks=>∃k1 dj k d,ks=[(k1,dj),(k,d)]/\(match dj with
   |.int j=>(norm k d).le .new=true/\0<=j/\j.toNat<=ds.length/\ds.length<1000/\P.nx ((forget r ρ).set i (.dw r (.list (ds.take j.toNat++d::ds.drop j.toNat))))
   |_=>False),E,?_,?_⟩
  ·show tj ρ λk1 dj=>te ρ λk d=>∃k1' dj' k' d',[((k1,dj):Kd×D),(k,d)]=[(k1',dj'),(k',d')]/\_
   have e:∀(k1:Kd) (dj:D),(λk d=>∃k1' dj' k' d',[((k1,dj):Kd×D),(k,d)]=[(k1',dj'),(k',d')]/\(match dj' with
    |.int j=>(norm k' d').le .new=true/\0<=j/\j.toNat<=ds.length/\ds.length<1000/\P.nx ((forget r ρ).set i (.dw r (.list (ds.take j.toNat++d'::ds.drop j.toNat))))
    |_=>False))=λk d=>(match dj with
    |.int j=>(norm k d).le .new=true/\0<=j/\j.toNat<=ds.length/\ds.length<1000/\P.nx ((forget r ρ).set i (.dw r (.list (ds.take j.toNat++d::ds.drop j.toNat))))
    |_=>False):=λk1 dj=>by
    funext k d
    apply propext
    constructor
    ·rintro⟨k1',dj',k',d',e,h⟩
     cases e
     exact h
    ·exact λh=>⟨k1,dj,k,d,rfl,h⟩
   simp only[e]
   exact t
  ·rintro ks ws H1 ⟨k1,dj,k,d,rfl,hh⟩ A rk
   cases dj with
   |int j =>
    obtain⟨hk,h0,hj,hlen,hn⟩:=hh
    obtain⟨y1,y,rfl,ry1,ry⟩:=Hj rk
    have ry:=jA A hk (aW ry)
    have e1:=Rp.int' ry1
    have h1:H1 l=some (.lst vs):=A.kp l _ ho (E.ow l r hl).2.1
    have h24:=í
    have l1:=rs.length
    refine⟨l,vs,j.toNat,y,rfl,?_,h1,by omega,by omega,?_⟩
    ·rw[e1]
     have:((j.toNat:Nat):Int)=j:=by omega
     rw[this]
    obtain⟨E2,F2⟩:=E.xT (vs':=vs.take j.toNat++y::vs.drop j.toNat) (ds':=ds.take j.toNat++d::ds.drop j.toNat) A hv hl ho rs λH2 f g=>by
     have m:=oU f rs λd hd=>mH hd
     exact(m.take _).app (.cons (g ry) (m.drop _))
    exact w.nx _ σ _ _ E2 F2 hn
   |_=>exact hh.elim
 ·exact t.elim)
end
variable [Gr]
structure Cal(P:Program)(w:World)(K:Þ)(mg:Str->Option Value)(base:Heap)(k:Nat)(x:Str)(ps:List Str)(sp:Sp):Prop where
 ex:∃f fd,FnOk P w K mg base CX0 k f fd ps sp/\Binds K fd ps []/\W.keepIn K (.ref f)=true/\mg x=some (.ref f)
section
variable {X:Cx}{k j:Nat}{x:Str}{ps:List Str}{e:Expr}{es:List Expr}{t:DA}{p pos pq:Pos}
theorem pcS{sp:Sp}{ta:TA}(C:Cal X.prog X.w X.K X.mg X.base k x ps sp)(hr:Room j X.A)(ha:PA X (e::es) ta)(hk:k<=j)(hg:Gl X x)(hdb:zB x)(he:zS X e es)(hpl:zP X pos es) :
  PE X (.Call (.Name x p) (e::es) [] pos) (zy sp [] E0 ta):=by
 obtain⟨f,fd,F,b,kp,m⟩:=C.ex
 exact Hy F (hr.mono hk) hg m kp b .nil O7 ha hdb he hpl
theorem dc{f:List D->(D->Prop)->Prop}(C:Cal X.prog X.w X.K X.mg X.base k x ps (spD f))(hr:Room j X.A)(ha:PDA X (e::es) t)(hk:k<=j:=by decide)(hg:Gl X x:=by rfl)(hdb:zB x:=by decide)(he:zS X e es:=by rfl)(hpl:zP X pos es:=by rfl) :
  PD X (.Call (.Name x p) (e::es) [] pos) (tFn f t):=PE.wk (pcS C hr ha hk hg hdb he hpl) Ij
theorem dcP{C:Pn->Prop}{i:Nat}{f:List D->(D->Prop)->Prop}{y:Str}{py:Pos}(CC:Cal X.prog X.w X.K X.mg X.base k x ps (spP C f))(hr:Room j X.A)(hi:PE X (.Name y py) (pK i))(ha:PDA X es t)(hk:k<=j:=by decide)(hg:Gl X x:=by rfl)(hdb:zB x:=by decide)(he:starEach (.Name y py::es) X.env=(false,eval (.Name y py) X.env)::starEach es X.env:=by rfl)(hpl:zP X pos es:=by rfl) :
  PD X (.Call (.Name x p) (.Name y py::es) [] pos) (G5 C f i t):=PE.wk (pcS CC hr (eX hi ha) hk hg hdb he hpl) Fi
theorem dv(i:Nat){x:Str}{pos:Pos}(hN:X.N[i]?=some x:=by rfl)(hv:Vis X.env.scope x:=by first|exact ĵ rfl|exact Or.inr (ĵ rfl)|exact Or.inr (Or.inr rfl))(hd:zB x:=by decide)(hcd:(x == ("__classdict__":Str))=false:=by decide):PD X (.Name x pos) (tV i):=Ld (pv i hN hv hd hcd)
end
structure Bn(mg:Str->Option Value):Prop where
 isinstance:mg "isinstance"=none
 int:mg "int"=none
 bool:mg "bool"=none
 tuple:mg "tuple"=none
 list:mg "list"=none
 len:mg "len"=none
 all:mg "all"=none
 min:mg "min"=none
 max:mg "max"=none
 sorted:mg "sorted"=none
 range:mg "range"=none
 abs:mg "abs"=none
theorem boot_all:bootBuiltins "all"=some (.builtin "all"):=by decide +kernel
theorem boot_abs:bootBuiltins "abs"=some (.builtin "abs"):=by decide +kernel
theorem Dh{i:Nat}{ρ:List Sl}{d:D}{P:DK}(h:ρ[i]?=some (aQ d))(q:∀k,P k d):tV i ρ P:=by
 unfold tV
 rw[h]
 unfold aQ
 by_cases hi:bK d=true
 ·rw[if_pos hi];exact q _
 ·rw[if_neg hi];exact q _
theorem Il{f:List D->(D->Prop)->Prop}{n:Nat}(hn:∀ds P,f ds P->ds.length=n:=by intro _ _ h;repeat (first|(obtain⟨rfl,_⟩:=h;rfl)|obtain⟨_,h⟩:=h)):∀vs H Q E,spD f vs H Q E->vs.length=n:=λvs H Q E h=>by
 obtain⟨ds,P,r,t,_⟩:=h
 rw[r.length]
 exact hn ds P t
theorem aX{f:List D->(D->Prop)->Prop}{T:DS}{N:List Str}{vs:List V}{H:Hp}{Q:VK}{E:XK}(h:spD f vs H Q E)(body:∀ds P,f ds P->∃ρ,ds.map aQ++Ì (N.length - ds.length) .any=ρ/\T { nx:=λ_=>P .none,rt:=P } ρ)(g:Gr.G jC H:=by trivial):qC T { nx:=λ_ H'=>Q .non H',rt:=Q } (L2.start N vs) H :=
 uX h (λds P t=>by
  obtain⟨ρ,e,q⟩:=body ds P t
  rw[e]
  exact q) g
def aM(n:Int)(us:List Tie):D:=.tuple [.int n,.tuple (us.map pD)]
theorem pA(n:Int)(us:List Tie):bK (aM n us)=true:=by
 show(bK (.int n)&&(cT (us.map pD)&&true))=true
 rw[bC]
 rfl
theorem bR(n:Int)(us:List Tie):aQ (aM n us)=.im (aM n us):=if_pos (pA n us)
def isW:D->Bool
 |.int _=>true
 |_=>false
def Ge(ds:List D)(P:D->Prop):Prop:=∃d,ds=[d]/\P (.bool (isW d))
def aP(m:Int):D->Bool
 |.int i=>decide (0<=i/\i<m)
 |_=>false
def yR(ds:List D)(P:D->Prop):Prop:=∃m d,ds=[.int m,d]/\P (.bool (aP m d))
theorem enterQ{C:Pn->Prop}{f:List D->(D->Prop)->Prop}{T:DS}{N:List Str}{vs:List V}{H:Hp}{Q:VK}{E:XK}(h:spP C f vs H Q E)(body:∀ds P,f ds P->∃ρ,ds.map aQ++Ì (N.length - (ds.length+1)) .any=ρ/\T { nx:=λ_=>P .none,rt:=P } (.pen C::ρ))(g:∀p,Gr.G p H:=by intro _;trivial):qC T { nx:=λ_ H'=>Q .non H',rt:=Q } (L2.start N vs) H :=
 M5 h (λds P t=>by
  obtain⟨ρ,e,q⟩:=body ds P t
  rw[e]
  exact q) g
variable [Gr]
theorem uT{α β:Type}{ds:List α}{i:Nat}{d:α}(p:α->Bool)(f:α->β)(h:ds[i]?=some d):((ds.take (i+1)).filter p).map f=((ds.take i).filter p).map f++(if p d=true then [f d] else []):=by
 rw[ĩ,h,Ÿ,å]
 congr 1
 by_cases hp:p d=true
 ·simp[hp]
 ·simp[hp]
theorem iU{α β:Type}{ds:List α}{i:Nat}{d:α}(f:α->β)(h:ds[i]?=some d):(ds.take (i+1)).map f=(ds.take i).map f++[f d]:=by
 rw[ĩ,h,å]
 rfl
theorem dM{α β:Type}{l:List α}{g:α->β}{i:Nat}{d:β}(h:(l.map g)[i]?=some d):∃x,l[i]?=some x/\g x=d:=by
 rw[æ] at h
 cases e:l[i]? with
 |none=>rw[e] at h;cases h
 |some x=>rw[e] at h;exact⟨x,rfl,ã h⟩
theorem take_all{α:Type}(l:List α){n:Nat}(h:l.length<=n):l.take n=l:=Ļ h
theorem dJ:∀l:List Int,(l.map Ã).all okD=true
 |[]=>rfl
 |x::l=>by
  rw[ê,ş,dJ l]
  rfl
theorem any_ints(x:Int):∀l:List Int,((l.map Ã).any λe=>ñ e (.int x))=decide (x∈l)
 |[]=>rfl
 |y::l=>by
  rw[ê,List.any_cons,any_ints x l]
  have e:ñ (.int y) (.int x)=(y == x):=rfl
  rw[e,Ď,Bool.or_eq_true,beq_iff_eq,decide_eq_true_eq,decide_eq_true_eq,á]
  constructor
  ·rintro(h|h)
   ·exact .inl h.symm
   ·exact .inr h
  ·rintro(h|h)
   ·exact .inl h.symm
   ·exact .inr h
theorem cI(lo:Int)(n:Nat):(cJ lo n).length=n:=by unfold cJ;simp
theorem fU{lo:Int}{n i:Nat}{d:D}(h:(cJ lo n)[i]?=some d):i<n/\d=.int (lo+((i:Nat):Int)):=by
 unfold cJ at h
 obtain⟨x,hx,e⟩:=dM h
 obtain⟨h1,h2⟩:=Ó.mp hx
 have h3:i<n:=by simpa using h1
 have h4:x=i:=by simpa using h2.symm
 subst h4
 exact⟨h3,e.symm⟩
variable [Gr]
section
variable {X:Cx}{pos p2:Pos}{a b e:Expr}{ta tb te:DE}
theorem Rps.rep{ok:Addr->Prop}{H:Hp}{vs:List V}{ds:List D}(r:Rps ok H vs ds):∀k:Nat,Rps ok H (Ì k vs).flatten (Ì k ds).flatten
 |0=>.nil
 |k+1=>by
  rw[Ī,Ī,ï,ï]
  exact r.app (Rps.rep r k)
def Mv:G2:=λk1 d1 _ d2 P=>match d1,d2 with
 |.list ds,.int k=>0<=k/\k<1000/\ds.length * k.toNat<=1000/\newP k1 (Ì k.toNat ds).flatten λk'=>P k' (.list (Ì k.toNat ds).flatten)
 |_,_=>False
theorem Pg:Ok2 Mv Ow:=by
 intro p H0 own Hb H x y k1 d1 k2 d2 P Q A r1 r2 t q
 unfold Mv at t
 split at t
 ·rename_i ds k
  obtain⟨c1,xs,e1,o1,h1,rs1⟩:=r1.cL
  subst e1
  have h24:=í
  refine⟨c1,k,xs,rfl,r2.int',h1,by omega,by omega,by rw[rs1.length];omega,λl hl=>?_⟩
  obtain⟨k3,i3,nw⟩:=A.new hl (.lst (Ì k.toNat xs).flatten)
  obtain⟨k',hk',rk'⟩:=jm A (bI A k3 (rs1.rep k.toNat)) nw aq t.2.2.2
  exact q _ _ _ _ hk' k3 i3 rk'
 ·exact t.elim
def FZ:G2:=λ_ d1 _ d2 P=>match d1,d2 with
 |.bool i,.bool j=>P .imm (.bool (decide (i=j)))
 |_,_=>False
theorem Pq:Ok2 FZ (λx y H Q=>∃a b,x=.bl a/\y=.bl b/\Q (.bl (decide (a=b))) H):=by
 intro p H0 own Hb H x y k1 d1 k2 d2 P Q A r1 r2 t q
 unfold FZ at t
 split at t
 ·cases r1
  cases r2
  exact⟨_,_,rfl,rfl,q _ _ _ _ t Kp.refl A.pen (.bl _)⟩
 ·exact t.elim
theorem yd(ha:PD X a ta)(hb:PD X b tb):PD X (.Compare a [.Is] [b] pos) (t2 FZ ta tb):=gB Ep Pq ha hb (bT _)
end
theorem j9(ns:List Int):∀k,k<=ns.length->PySem.preSum (λi=>ns.getD i 0) k=(ns.take k).sum
 |0,_=>rfl
 |k+1,h=>by
  show PySem.preSum _ k+ns.getD k 0=_
  have hk:k<ns.length:=by omega
  have e:ns.take (k+1)=ns.take k++[ns[k]]:=by rw[ĩ,É hk];rfl
  have e2:ns.getD k 0=ns[k]:=by rw[Û,É hk];rfl
  rw[j9 ns k (by omega),e,e2,List.sum_append,ö,List.sum_nil,Int.add_zero]
theorem mJ:∀(ns:List Int) (b:Int),(∀x∈ns,-b<=x/\x<=b)->-(b * ns.length)<=ns.sum/\ns.sum<=b * ns.length
 |[],b,_=>by simp
 |x::ns,b,h=>by
  obtain⟨h1,h2⟩:=mJ ns b λy hy=>h y (Î _ hy)
  have hx:=h x Í
  have e:b * ((x::ns).length:Int)=b * ns.length+b:=by
   rw[Ý]
   have:(((ns.length+1:Nat)):Int)=(ns.length:Int)+1:=by omega
   rw[this,Int.mul_add,Int.mul_one]
  rw[e,ö]
  omega
section
variable {X:Cx}{pos:Pos}{a:Expr}{t:DA}
theorem Ck(hc:X.calm=true):bD X (.builtin "sum") (λxs H Q=>∃(p:Addr) (ns:List Int),xs=[.ref p]/\SqL X.K H p (ns.map V.int)/\ns.length<=1000/\(∀x∈ns,-1000000<=x/\x<=1000000)/\Q (.int ns.sum) H):=by
 intro pins s σ H xs us Q I r h
 obtain⟨p,ns,rfl,hp,hl,hs,q⟩:=h
 obtain⟨u,rfl,rx⟩:=vals1 r
 cases rx
 obtain⟨its,rv,pl,hz⟩:=I.list hp
 have hlen:its.length=ns.length:=by have:=rv.length;rw[Á] at this;exact this.symm
 have hlt:p≠s.heap.objs.size:=by obtain⟨o,ho,_⟩:=pl.isList;exact ä (Ô ho)
 have hltp:p<s.heap.objs.size:=by obtain⟨o,ho,_⟩:=pl.isList;exact Ô ho
 have at':∀i v,its[i]?=some v->∃t,v=Value.int (ns.getD i 0) t:=λi v e=>by
  have hi:i<its.length:=(Ó.mp e).1
  have hv:(ns.map V.int)[i]?=some (V.int ns[i]):=by rw[æ,É (show i<ns.length by omega)];rfl
  obtain⟨u,eu,ru⟩:=rv.get hv
  rw[e] at eu
  cases eu
  obtain⟨t,rfl⟩:=ru
  exact⟨t,by rw[Û,É (show i<ns.length by omega)];rfl⟩
 refine call_sum_walk (wpAny_pyIter_list pl.isList ?_)
 refine⟨_,_,_,_,_,_,λi=>ns.getD i 0,rfl,Walks.list (A:=X.A.in1) (I.ok.hd hc) _ p hlt _,⟨⟨_,ç _ rfl,rfl,rfl⟩,pl.isList.push _⟩,?_,λi v e=>at' i v (by simpa using e),λj hj=>?_,λh' tk t' hk=>?_⟩
 ·intro b hb
  show b<(s.heap.push _).objs.size
  rw[ũ]
  simp at hb
  rcases hb with rfl|rfl
  ·exact Nat.lt_succ_self _
  ·exact Ĉ hltp
 ·have hj:j<ns.length:=by simpa[hlen] using hj
  have e:ns.getD j 0=ns[j]:=by rw[Û,É hj];rfl
  have b1:=hs _ (œ hj)
  have b2:=mJ (ns.take (j+1)) 1000000 λx hx=>hs x (List.mem_of_mem_take hx)
  have b3:(ns.take (j+1)).length<=1000:=by rw[ğ];omega
  rw[j9 ns (j+1) hj]
  refine⟨?_,?_⟩
  ·show -(2 ^ 63)<=ns.getD j 0/\ns.getD j 0<2 ^ 63
   rw[e]
   omega
  ·show -(2 ^ 63)<=(ns.take (j+1)).sum/\(ns.take (j+1)).sum<2 ^ 63
   omega
 ·have e:PySem.preSum (λi=>ns.getD i 0) its.toArray.size=ns.sum:=by
   rw[Ï,hlen,j9 ns ns.length (Ë _),û]
  rw[e]
  refine⟨.int ns.sum,H,I.kept λb o eb=>hk b o ?_ (Ö _ eb),⟨_,rfl⟩,q⟩
  intro hm
  have:b=s.heap.objs.size:=by simpa using hm
  exact absurd (this ▸ Ô eb) (Ą _)
variable [Gr]
theorem boot_sum:bootBuiltins "sum"=some (.builtin "sum"):=by decide +kernel
end
variable [Gr]
section
variable {X:Cx}{pos:Pos}{a b e:Expr}{ta tb te:DE}
def qH:G2:=λ_ d1 _ d2 P=>match d1,d2 with
 |.bool i,.bool j=>P .imm (.bool (!decide (i=j)))
 |_,_=>False
theorem Lq:Ok2 qH (λx y H Q=>∃a b,x=.bl a/\y=.bl b/\Q (.bl (!decide (a=b))) H):=by
 intro p H0 own Hb H x y k1 d1 k2 d2 P Q A r1 r2 t q
 unfold qH at t
 split at t
 ·cases r1
  cases r2
  exact⟨_,_,rfl,rfl,q _ _ _ _ t Kp.refl A.pen (.bl _)⟩
 ·exact t.elim
theorem cV(ha:PD X a ta)(hb:PD X b tb):PDT X (.Compare a [.IsNot] [b] pos) (fJ (t2 qH ta tb)):=gj vY Lq ha hb (bT _)
end
variable [Gr]
section
variable {X:Cx}{pos:Pos}{a b e:Expr}{ta tb te:DE}
end
variable [Gr]
section
variable {X:Cx}{pos:Pos}{st:Stmt}
end
@[reducible] def grX(H:Hp):Gr:=⟨λp H0=>p=jC/\H0=H⟩
structure Cal1(P:Program)(w:World)(K:Þ)(mg:Str->Option Value)(base:Heap)(k:Nat)(x:Str)(ps:List Str)(sp:Sp):Prop where
 ex:∃f fd,FnOk P w K mg base (CX1 P w) k f fd ps sp/\Binds K fd ps []/\W.keepIn K (.ref f)=true/\mg x=some (.ref f)
section
variable {X:Cx}{E:XK}{k j:Nat}{x:Str}{ps:List Str}{e:Expr}{es:List Expr}{p pos:Pos}
end
variable [Gr]
section
variable {X:Cx}{pos:Pos}{a b e:Expr}{ta tb te:DE}{t:DA}
end
end Dl
namespace L2
open PySem PyProof.Rows
theorem wH:∀{ns:List Int}{us:List Value},Vals (ns.map V.int) us->IntsAre us ns
 |[],_,.nil=>.nil
 |n::ns,_,.cons r t=>by
  obtain⟨k,rfl⟩:=r
  exact .cons n k (wH t)
def once(ns:List Int):List Int:=ns.foldl ŵ []
theorem yP(ns:List Int){m:Nat}(hm:m=ns.length):firstMet (λi=>ns.getD i 0) m=once ns:=by
 subst hm
 unfold firstMet once
 congr 1
 refine List.ext_getElem (by simp) λi h1 h2=>?_
 simp at h1
 simp[Û,h1]
section
variable {X:Cx}
theorem w5(hc:X.calm=true):bD X (.type "set") (λxs H Q=>∃p ns,xs=[.ref p]/\SqL X.K H p (ns.map V.int)/\ns.length<=1000/\∀l S,H l=none->Q (.ref l) (upd H l (.set S (once ns).length))):=by
 intro pins s σ H xs us Q I r h
 obtain⟨p,ns,rfl,hq,hl,q⟩:=h
 obtain⟨u,rfl,rx⟩:=vals1 r
 cases rx
 obtain⟨its,r',pl,hz⟩:=I.list hq
 have hlen:=r'.length
 rw[Á] at hlen
 refine call_set_list (items:=its.toArray) (ns:=ns) (I.ok.hd hc) pl.isList (by simpa using wH r') ?_ λh' tk st k=>?_
 ·show its.toArray.size+1<scanBound
  rw[Ï,←hlen]
  exact Nat.lt_of_le_of_lt (Nat.add_le_add_right hl 1) (by decide)
 ·rw[yP ns (by rw[Ï,←hlen])] at st
  refine⟨.ref s.heap.objs.size,_,I.laid (t':=tk) (λb o e=>k b o (Ô e) e) (Ë _) (show bO X.prog X.w _ h' _ (.set _ (once ns).length) from st),rfl,q _ _ (I.hok.fresh (Ë _))⟩
theorem rB:bD X (.builtin "len") (λxs H Q=>∃p S n,xs=[.ref p]/\H p=some (.set S n)/\n<=1000/\Q (.int (n:Int)) H):=by
 intro pins s σ H xs us Q I r h
 obtain⟨p,S,n,rfl,hq,hl,q⟩:=h
 obtain⟨u,rfl,rx⟩:=vals1 r
 cases rx
 obtain⟨o,es,ep,t,e1,e2,e3,_,_,_,e6,e7⟩:=I.hok p _ hq
 refine call_len_set e1 e2 e3 e6 (by rw[e7];omega) ?_
 rw[e7]
 exact⟨.int n,H,I.tok _,⟨_,rfl⟩,q⟩
end
theorem iK:∀(ns acc:List Int),(ns.foldl ŵ acc).length<=acc.length+ns.length
 |[],acc=>Ë _
 |n::ns,acc=>by
  rw[List.foldl_cons]
  have h:=iK ns (ŵ acc n)
  have:(ŵ acc n).length<=acc.length+1:=by
   unfold ŵ
   split
   ·omega
   ·rw[Å];exact Ë _
  rw[Ý]
  omega
theorem v7:∀(ns acc:List Int),((ns.foldl ŵ acc).length=acc.length+ns.length)↔(ns.Nodup/\∀x∈ns,x∉acc)
 |[],acc=>by simp
 |n::ns,acc=>by
  rw[List.foldl_cons,Ý,List.nodup_cons]
  by_cases hn:n∈acc
  ·have e:ŵ acc n=acc:=by
    unfold ŵ
    rw[if_pos (List.any_eq_true.mpr ⟨n,hn,by simp⟩)]
   rw[e]
   have:=iK ns acc
   constructor
   ·intro h;omega
   ·rintro⟨_,h⟩
    exact absurd hn (h n Í)
  ·have e:ŵ acc n=acc++[n]:=by
    unfold ŵ
    rw[if_neg (λz=>by
     obtain⟨x,hx,ex⟩:=List.any_eq_true.mp z
     have:x=n:=by simpa using ex
     exact hn (this ▸ hx))]
   rw[e]
   have ih:=v7 ns (acc++[n])
   rw[Å,š] at ih
   constructor
   ·intro h
    obtain⟨a,b⟩:=ih.mp (by omega)
    refine⟨⟨λz=>b n z (Õ _ (È.mpr rfl)),a⟩,λx hx=>?_⟩
    rcases á.mp hx with z|z
    ·rw[z];exact hn
    ·exact λy=>b x z (ô _ y)
   ·rintro⟨⟨a,b⟩,c⟩
    have:=ih.mpr ⟨b,λx hx z=>by
     rcases Ð.mp z with y|y
     ·exact c x (Î _ hx) y
     ·rw[È.mp y] at hx;exact a hx⟩
    omega
theorem qg(ns:List Int):(once ns).length=ns.length↔ns.Nodup:=by
 have:=v7 ns []
 simp at this
 exact this
end L2
namespace Dl
open PySem L2 PyProof.Rows
variable [Gr]
section
variable {X:Cx}{pos pos':Pos}{a:Expr}{t:DA}
theorem boot_set:bootBuiltins "set"=some (.type "set"):=by decide +kernel
def Jc:GC:=λks P=>∃k ns,ks=[(k,.list (ns.map Ã))]/\ns.length<=1000/\P .imm (.int ((once ns).length:Nat))
theorem Br{ps ps':Pos}(hc:X.calm=true)(hs:X.mg "set"=none)(hl:X.mg "len"=none)(ha:PDA X [a] t)(hgs:Gl X "set":=by rfl)(hgl:Gl X "len":=by rfl)(he:zS X a []:=by rfl)(hpl:zP X pos []:=by rfl)(he':starEach [Expr.Call (.Name "set" ps) [a] [] pos] X.env=(false,eval (Expr.Call (.Name "set" ps) [a] [] pos) X.env)::starEach [] X.env:=by rfl)(hpl':(backTo pos' (starEach [] X.env)).any (·.1)=false:=by rfl) :
  PD X (.Call (.Name "len" ps') [.Call (.Name "set" ps) [a] [] pos] [] pos') (tCl Jc t) :=
 PE.wk (cN rB hgl hl PySem.boot_len (eX (jj (w5 hc) hgs hs boot_set ha (by decide) (by decide) he hpl) cB he') (by decide) (by decide) he' hpl') (by
  rintro σ H Q ⟨p,H0,own,ρ,P,E,t,q⟩
  refine⟨p,H0,own,ρ,_,E,t,λks vs H1 h A r=>?_⟩
  obtain⟨k,ns,rfl,hn,h⟩:=h
  obtain⟨v,rfl,r'⟩:=fM r
  obtain⟨c,ws,rfl,o,hc',rs⟩:=r'.cL
  have ew:=rs.ints
  subst ew
  refine⟨c,ns,rfl,SqL.of hc',hn,λl S hl'=>?_⟩
  obtain⟨k2,i2,nw⟩:=A.new hl' (.set S (once ns).length)
  have h1:=iK ns []
  exact⟨l,S,_,rfl,aq,by unfold once;simp at h1;omega,q _ _ _ _ h (A.go k2 i2) (.int _)⟩)
end
variable [Gr]
section
variable {X:Cx}{pos p2:Pos}{a b c e:Expr}{es:List Expr}{ta tb tc te:DE}{t:DA}{st:Stmt}
theorem OpR.or{f:Value->Value->Sem Value}{r r':R2}(h:OpR X f r)(h':OpR X f r'):OpR X f (λx y H Q=>r x y H Q\/r' x y H Q):=by
 intro pins s σ H x y v u Q I rx ry q
 rcases q with q|q
 ·exact h pins s σ H x y v u Q I rx ry q
 ·exact h' pins s σ H x y v u Q I rx ry q
theorem bD.or{f:Value}{r r':List V->Hp->VK->Prop}(h:bD X f r)(h':bD X f r'):bD X f (λx H Q=>r x H Q\/r' x H Q):=by
 intro pins s σ H x v Q I rx q
 rcases q with q|q
 ·exact h pins s σ H x v Q I rx q
 ·exact h' pins s σ H x v Q I rx q
theorem Ed(ha:PD X a ta)(hb:PD X b tb)(hs:pI b:=by exact λ_ _=>rfl):PD X (.Subscript a b pos) (t2 gIx ta tb):=PE.wk (iz (IxR.or dg Fw) ha hb hs) (wD (by
 intro p H0 own Hb H x y k1 d1 k2 d2 P Q A r1 r2 t q
 unfold gIx at t
 split at t
 ·rename_i ds i
  obtain⟨d,hd,t⟩:=t
  obtain⟨c,vs,rfl,o,hc,rs⟩:=r1.cL
  obtain⟨v,hv,rv⟩:=rs.atI hd
  exact .inl ⟨c,vs,i,v,rfl,r2.int',SqL.of hc,hv,q _ _ _ _ t Kp.refl A.pen (aW rv)⟩
 ·rename_i ds i
  obtain⟨d,hd,t⟩:=t
  obtain⟨c,vs,rfl,hc,rs⟩:=r1.gZ
  obtain⟨v,hv,rv⟩:=rs.atI hd
  exact .inr ⟨c,vs,i,v,rfl,r2.int',SqT.of hc,hv,q _ _ _ _ t Kp.refl A.pen (aW rv)⟩
 ·exact t.elim))
def JZ:G2:=λk1 d1 k2 d2 P=>match d1 with
 |.int i=>(match d2 with
  |.int j=>P .imm (.int (i+j))
  |_=>False)
 |.list ds=>Je k1 (.list ds) k2 d2 P
 |.tuple ds=>Ga k1 (.tuple ds) k2 d2 P
 |_=>False
theorem uh(ha:PD X a ta)(hb:PD X b tb):PD X (.BinOp a .Add b pos) (t2 JZ ta tb):=qd (OpR.or gC (OpR.or yh HJ)) (by
 intro p H0 own Hb H x y k1 d1 k2 d2 P Q A r1 r2 t q
 cases d1 with
 |int i =>
  cases d2 with
  |int j=>exact .inl ⟨i,j,r1.int',r2.int',q _ _ _ _ t Kp.refl A.pen (.int _)⟩
  |_=>exact t.elim
 |list ds=>exact .inr (.inl (JM p H0 own Hb H x y k1 _ k2 d2 P Q A r1 r2 t q))
 |tuple ds=>exact .inr (.inr (Ls p H0 own Hb H x y k1 _ k2 d2 P Q A r1 r2 t q))
 |_=>exact t.elim) ha hb
def FQ:G2:=λk1 d1 k2 d2 P=>match d1 with
 |.int i=>(match d2 with
  |.int j=>Js i j/\P .imm (.int (i * j))
  |_=>False)
 |.list ds=>Mv k1 (.list ds) k2 d2 P
 |_=>False
theorem kO(ha:PD X a ta)(hb:PD X b tb):PD X (.BinOp a .Mult b pos) (t2 FQ ta tb):=qd (OpR.or ni Lh) (by
 intro p H0 own Hb H x y k1 d1 k2 d2 P Q A r1 r2 t q
 cases d1 with
 |int i =>
  cases d2 with
  |int j=>exact .inl ⟨i,j,r1.int',r2.int',t.1,q _ _ _ _ t.2 Kp.refl A.pen (.int _)⟩
  |_=>exact t.elim
 |list ds=>exact .inr (Pg p H0 own Hb H x y k1 _ k2 d2 P Q A r1 r2 t q)
 |_=>exact t.elim) ha hb
def lN(neg:Bool):G2:=λk1 d1 k2 d2 P=>match scD d1 d2 with
 |some b=>P .imm (.bool (if neg then !b else b))
 |none=>P0 neg k1 d1 k2 d2 P
theorem JL{K:Þ}:Ok2 (lN false) (λx y H Q=>rEq x y H Q\/Dv K false x y H Q):=by
 intro p H0 own Hb H x y k1 d1 k2 d2 P Q A r1 r2 t q
 cases e:scD d1 d2 with
 |some b =>
  have t':gEq false k1 d1 k2 d2 P:=by
   unfold lN at t
   unfold gEq
   rw[e] at t ⊢
   exact t
  exact .inl (Lr p H0 own Hb H x y k1 d1 k2 d2 P Q A r1 r2 t' q)
 |none =>
  unfold lN at t
  rw[e] at t
  exact .inr (JK false p H0 own Hb H x y k1 d1 k2 d2 P Q A r1 r2 t q)
theorem JH{K:Þ}:Ok2 (lN true) (λx y H Q=>rNe x y H Q\/Dv K true x y H Q):=by
 intro p H0 own Hb H x y k1 d1 k2 d2 P Q A r1 r2 t q
 cases e:scD d1 d2 with
 |some b =>
  have t':gEq true k1 d1 k2 d2 P:=by
   unfold lN at t
   unfold gEq
   rw[e] at t ⊢
   exact t
  exact .inl (Ph p H0 own Hb H x y k1 d1 k2 d2 P Q A r1 r2 t' q)
 |none =>
  unfold lN at t
  rw[e] at t
  exact .inr (JK true p H0 own Hb H x y k1 d1 k2 d2 P Q A r1 r2 t q)
theorem uw(hu:X.A.units+64<cLine)(ha:PD X a ta)(hb:PD X b tb):PD X (.Compare a [.Eq] [b] pos) (t2 (lN false) ta tb):=gB (OpR.or vZ (Es hu)) JL ha hb (bT _)
theorem xZ(hu:X.A.units+64<cLine)(ha:PD X a ta)(hb:PD X b tb):PD X (.Compare a [.NotEq] [b] pos) (t2 (lN true) ta tb):=gB (OpR.or Em (El hu)) JH ha hb (bT _)
theorem gb(hu:X.A.units+64<cLine)(ha:PD X a ta)(hb:PD X b tb):PDT X (.Compare a [.Eq] [b] pos) (fJ (t2 (lN false) ta tb)):=gj (OpR.or vZ (Es hu)) JL ha hb (bT _)
theorem kE(hu:X.A.units+64<cLine)(ha:PD X a ta)(hb:PD X b tb):PDT X (.Compare a [.NotEq] [b] pos) (fJ (t2 (lN true) ta tb)):=gj (OpR.or Em (El hu)) JH ha hb (bT _)
end
section
variable {n:Nat}{g:DG}{tt:DT}{te:DE}{ρ:List Sl}{k:Kd}{ds:List D}{R:Kd->List D->Prop}
theorem gG{α β:Type}(f:α->β){l:List α}{i:Nat}{x:α}(h:l[i]?=some x):(l.take (i+1)).map f=(l.take i).map f++[f x]:=by
 rw[ĩ,h]
 simp
theorem uN{α:Type}(xs:List α)(e f:α->D)(ke:Kd)(hd:ds=xs.map e)(hl:xs.length<=1000)(step:∀x∈xs,∀(A:D->Prop) (B:Prop),A (f x)->g (norm (elC k) (e x)) (e x) (Ì n .any++ρ) λρ'=>if true=true then te ρ' λk' d'=>(norm k' d').le ke=true/\A d' else B)(q:R ke (xs.map f)) :
  ds.length<=1000/\∃(ke:Kd) (Iv:Nat->List D->Prop),Iv 0 [] /\
   (∀i d ys,ds[i]?=some d->Iv i ys->g (norm (elC k) d) d (Ì n .any++ρ) λρ'=>if true=true then te ρ' λk' d'=>(norm k' d').le ke=true/\Iv (i+1) (ys++[d']) else Iv (i+1) ys) /\
   ∀ys,Iv ds.length ys->R ke ys:=by
 subst hd
 refine⟨by rw[Á];exact hl,ke,λi ys=>ys=(xs.take i).map f,rfl,?_,?_⟩
 ·rintro i d ys hd rfl
  rw[æ] at hd
  cases hx:xs[i]? with
  |none=>rw[hx] at hd;cases hd
  |some x =>
   rw[hx] at hd
   have hd:=ã hd
   subst hd
   exact step x (Ò hx) (λd'=>(xs.take i).map f++[d']=(xs.take (i+1)).map f) _ (gG f hx).symm
 ·rintro ys rfl
  rw[Á,û]
  exact q
theorem wF{α:Type}(xs:List α)(e:α->D)(p:α->Bool)(f:α->D)(ke:Kd)(hd:ds=xs.map e)(hl:xs.length<=1000)(step:∀x∈xs,∀(A:D->Prop) (B:Prop),(p x=true->A (f x))->(p x=false->B)->g (norm (elC k) (e x)) (e x) (Ì n .any++ρ) λρ'=>tt ρ' λb=>if b=true then te ρ' λk' d'=>(norm k' d').le ke=true/\A d' else B)(q:R ke ((xs.filter p).map f)) :
  ds.length<=1000/\∃(ke:Kd) (Iv:Nat->List D->Prop),Iv 0 [] /\
   (∀i d ys,ds[i]?=some d->Iv i ys->g (norm (elC k) d) d (Ì n .any++ρ) λρ'=>tt ρ' λb=>if b=true then te ρ' λk' d'=>(norm k' d').le ke=true/\Iv (i+1) (ys++[d']) else Iv (i+1) ys) /\
   ∀ys,Iv ds.length ys->R ke ys:=by
 subst hd
 refine⟨by rw[Á];exact hl,ke,λi ys=>ys=((xs.take i).filter p).map f,rfl,?_,?_⟩
 ·rintro i d ys hd rfl
  rw[æ] at hd
  cases hx:xs[i]? with
  |none=>rw[hx] at hd;cases hd
  |some x =>
   rw[hx] at hd
   have hd:=ã hd
   subst hd
   have sn:((xs.take (i+1)).filter p).map f=((xs.take i).filter p).map f++if p x=true then [f x] else []:=by
    rw[ĩ,hx,Ÿ,å]
    cases hp:p x <;> simp[hp]
   refine step x (Ò hx) (λd'=>((xs.take i).filter p).map f++[d']=((xs.take (i+1)).filter p).map f) _ (λh=>?_) (λh=>?_)
   ·rw[sn,if_pos h]
   ·show _=_
    rw[sn,h,if_neg Æ,ć]
 ·rintro ys rfl
  rw[Á,û]
  exact q
end
section
variable {g:DG}{tb:DS}{k:Kd}{ds:List D}{ρ:List Sl}{P:DEnds}
theorem Jf{α:Type}(xs:List α)(e:α->D)(ok:List Sl->Prop)(hd:ds=xs.map e)(hk:k.le .shr=true)(h0:ok ρ)(step:∀x∈xs,∀ρ',ok ρ'->g (norm (elK k) (e x)) (e x) ρ' λρ2=>tb { nx:=ok,ct:=ok,bk:=P.nx,rt:=P.rt } ρ2)(q:∀ρ',ok ρ'->P.nx ρ') :
  k.le .shr=true/\∃Iv:Nat->List Sl->Prop,Iv 0 ρ /\
   (∀i d ρ',ds[i]?=some d->Iv i ρ'->g (norm (elK k) d) d ρ' λρ2=>tb { nx:=Iv (i+1),ct:=Iv (i+1),bk:=P.nx,rt:=P.rt } ρ2)/\∀ρ',Iv ds.length ρ'->P.nx ρ':=by
 subst hd
 refine⟨hk,λ_ ρ'=>ok ρ',h0,?_,q⟩
 intro i d ρ' hd h
 rw[æ] at hd
 cases hx:xs[i]? with
 |none=>rw[hx] at hd;cases hd
 |some x =>
  rw[hx] at hd
  have hd:=ã hd
  subst hd
  exact step x (Ò hx) ρ' h
end
variable [Gr]
section
variable {X:Cx}{scope:Scope}{tg iter elt:Expr}{ifs:List Expr}{pos:Pos}{ti:DI}{g:DG}{tt:DT}{te:DE}
theorem KJ(own:List Str){i:Nat}{y:Str}{py spos:Pos}(hc:X.calm=true)(hN:X.N.Nodup)(hiN:X.N[i]?=some y)(hx:Loc X.env.scope y)(hi:PDI X tg iter ti)(hg:∀c,PDG (X.comp own scope c) tg g)(ht:∀c,zm (X.comp own scope c) ifs tt)(he:∀c,PD (X.comp own scope c) elt te)(hsw:swapsWith (.ListComp elt [⟨tg,iter,ifs,0⟩] scope pos) (some (.Name y py)) spos.line X.env=pure true:=by rfl)(hk:dG X.env scope X.N=true:=by rfl)(hs:zF X iter:=by intro _;rfl)(hf:zL X y:=by first|exact .inl rfl|exact .inr rfl|assumption) :
  PS X (.Assign [.Name y py] (.ListComp elt [⟨tg,iter,ifs,0⟩] scope pos) spos) (pN (cH (dLC own.length ti g tt te)) (gY i)):=PS.wk' (JB own hc hN hiN hx hi hg ht he hsw hk hs hf) λD σ H q=>uM σ H _ q
end
section
variable {n:Nat}{g:DG}{tt:DT}{te:DE}{ρ:List Sl}{k:Kd}{ds:List D}{R:Kd->List D->Prop}
end
variable [Gr]
section
variable {X:Cx}{pos:Pos}{st:Stmt}{rest:List Stmt}{te tj:DE}{ti:DI}{t:DS}
def Jp(i:Nat)(t:DS):DS:=λP ρ=>match ρ[i]? with
 |some (.dw r d)=>iW r ρ i=true/\t P (ρ.set i (.sn d))
 |some (.rw r L)=>iW r ρ i=true/\t P (ρ.set i (.sn (.list (L.map ì))))
 |some (.sp r b ds)=>iW r ρ i=true/\t P (ρ.set i (if b=true then .sn (.list ds) else .sh (.list ds)))
 |_=>False
theorem EnvD.freeze{p:Pn}{H0 H:Hp}{own:Addr->Option Nat}{σ:L2.St}{ρ:List Sl}{i r:Nat}{d:D}{v:V}(E:EnvD p H0 own σ H ρ)(hf:iW r ρ i=true)(hv:σ[i]?=some (some v))(x:Rp (λa=>own a=some r) H v d) :
  EnvD p H0 (aK r own) σ H (ρ.set i (.sn d)):=by
 have E2:EnvD p H0 (aK r own) σ H (ρ.set i .any):=(E.drop (i:=i)).clear hf
 have E3:=E2.put (v:=v) (i:=i) (s:=.sn d) ⟨v,hv,x.mono (λa o=>⟨(E.ow a r o).1,(E.ow a r o).2.1,by unfold aK;rw[if_pos o]⟩) (λ_ _ _ e=>e) λ_ _ e=>e⟩
 rw[List.set_set] at E3
 exact E3
theorem jc(i:Nat)(h:oJ X rest t):oJ X rest (Jp i t):=PSs.wk' h (by
 rintro Q σ H ⟨p,H0,own,ρ,P,E,q,w⟩
 unfold Jp at q
 split at q
 ·rename_i r d e
  obtain⟨v,hv,x⟩:=E.slot i _ e
  exact⟨p,H0,_,_,P,E.freeze q.1 hv x,q.2,w.go fW⟩
 ·rename_i r L e
  obtain⟨st,as,hv,x⟩:=E.slot i _ e
  exact⟨p,H0,_,_,P,E.freeze q.1 hv x.rp,q.2,w.go fW⟩
 ·rename_i r b ds e
  obtain⟨l,vs,hv,o,h,z⟩:=E.slot i _ e
  have E2:EnvD p H0 (aK r own) σ H (ρ.set i .any):=(E.drop (i:=i)).clear q.1
  have c0:∀a,own a=none->aK r own a=none:=λa n=>by unfold aK;rw[n];simp
  have cl:aK r own l=none:=by unfold aK;rw[if_pos o]
  have E3:EnvD p H0 (aK r own) σ H ((ρ.set i .any).set i (if b=true then .sn (.list ds) else .sh (.list ds))):=E2.put (v:=.ref l) (by
   cases b with
   |true=>exact⟨_,hv,.lst ⟨(E.ow l r o).1,(E.ow l r o).2.1,cl⟩ h (z.mono (λc n=>⟨n.1 rfl,n.2.1,c0 c n.2.2⟩) (λ_ _ _ e=>e) λ_ _ e=>e)⟩
   |false=>exact⟨_,hv,.lst ⟨(E.ow l r o).2.1,cl⟩ h (z.mono (λc n=>⟨n.2.1,c0 c n.2.2⟩) (λ_ _ _ e=>e) λ_ _ e=>e)⟩)
  rw[List.set_set] at E3
  exact⟨p,H0,_,_,P,E3,q.2,w.go fW⟩
 ·exact q.elim)
def dSp(i:Nat)(b:Bool)(t:DS):DS:=λP ρ=>match ρ[i]? with
 |some (.dw r (.list ds))=>cT ds=true/\t P (ρ.set i (.sp r b ds))
 |_=>False
def spK(b:Bool):Kd:=if b=true then .snw else .shr
theorem yr{p:Pn}{H0 Hb H:Hp}{own:Addr->Option Nat}{b:Bool}(A:At p H0 own Hb H){k:Kd}(hk:k.le (spK b)=true){v:V}{d:D}{H2:Hp}(r:Rp (okK p H0 own Hb k) H2 v d):Rp (okS p H0 own b) H2 v d:=by
 have r2:=jA A hk r
 cases b with
 |true=>exact r2.mono (λa o=>⟨λ_=>o.1,o.2.1,o.2.2⟩) (λ_ _ _ e=>e) λ_ _ e=>e
 |false=>exact r2.mono (λa o=>⟨λz=>(nomatch z),o.1,o.2⟩) (λ_ _ _ e=>e) λ_ _ e=>e
theorem EnvD.zV{p:Pn}{H0 H:Hp}{own:Addr->Option Nat}{σ:L2.St}{ρ:List Sl}{i r:Nat}{b:Bool}{l:Addr}{vs vs':List V}{ds':List D}(E:EnvD p H0 own σ H ρ)(hv:σ[i]?=some (some (.ref l)))(o:own l=some r)(h:H l=some (.lst vs))(z:Rps (okS p H0 own b) H vs' ds') :
  EnvD p H0 own σ (upd H l (.lst vs')) ((forget r ρ).set i (.sp r b ds'))/\FrS p own H own (upd H l (.lst vs')):=by
 refine⟨(E.write (o':=.lst vs') o h λxs z=>nomatch z).put (v:=.ref l) ⟨l,vs',hv,o,aq,z.mono (λ_ o=>o) (λc u n e=>?_) λa xs e=>?_⟩,rE o h λxs z=>nomatch z⟩
 ·rw[ao];exact e
  intro y;subst y;rw[n.2.2] at o;cases o
 ·rw[ao];exact e
  intro y;subst y;rw[h] at e;cases e
def Gp(i:Nat)(te:DE):DS:=λP ρ=>match ρ[i]? with
 |some (.sp r b ds)=>te ρ λk d=>(norm k d).le (spK b)=true/\ds.length<1000/\P.nx ((forget r ρ).set i (.sp r b (ds++[d])))
 |_=>False
theorem lX{i:Nat}(h:PS X st (rG (tBM X.K "list" tY (pK i) (jF (aF te eN))))):PDS X st (Gp i te):=PS.wk' h (by
 rintro Q σ H ⟨p,H0,own,ρ,P,E,t,w⟩
 unfold Gp at t
 split at t
 ·rename_i r b ds hr
  obtain⟨l,vs,hv,o,ho,rs⟩:=E.slot i _ hr
  refine⟨.ref l,hv,.inl ⟨rfl,vs,SqL.of ho⟩,p,H0,own,ρ,_,E,uy t,?_⟩
  rintro ks ws H1 ⟨k,d,rfl,hk,hlen,hn⟩ A rk
  obtain⟨y,rfl,ry⟩:=fM rk
  have E1:=E.go A.kp A.pen
  have h1:H1 l=some (.lst vs):=A.kp l _ ho (E.ow l r o).2.1
  have rs1:Rps (okS p H0 own b) H1 vs ds:=rs.mono (λ_ o=>o) (λc u n e=>A.kp c u e n.2.1) A.tups
  have h24:=í
  have hln:=rs.length
  refine⟨l,vs,y,rfl,rfl,h1,by omega,?_⟩
  obtain⟨E2,F2⟩:=E1.zV (b:=b) hv o h1 (rs1.snoc (yr A hk (aW ry)))
  exact w.nx _ σ _ _ E2 (A.frs.trans F2) hn
 ·exact t.elim)
theorem EnvD.spine{p:Pn}{H0 H H1:Hp}{own:Addr->Option Nat}{σ:L2.St}{ρ:List Sl}{i r:Nat}{b:Bool}{l:Addr}{vs:List V}{ds:List D}(E:EnvD p H0 own σ H ρ)(A:At p H0 own H H1)(hf:iW r ρ i=true)(hl:H1 l=none)(z:Rps (okS p H0 own b) H1 vs ds) :
  ∃own',EnvD p H0 own' (σ.set i (some (.ref l))) (upd H1 l (.lst vs)) (ρ.set i (.sp r b ds))/\FrS p own H own' (upd H1 l (.lst vs)):=by
 have E2:EnvD p H0 (aK r own) σ H (ρ.set i .any):=(E.drop (i:=i)).clear hf
 have E3:=E2.go A.kp A.pen
 have s1:Same H1 (upd H1 l (.lst vs)):=λb u q=>by rw[ao (aD q hl)];exact q
 have A8:At p H0 (aK r own) H1 (upd H1 l (.lst vs)):=⟨E3.k0,Kp.of s1,E3.pen,p.mono H1 _ E3.pen λb u _ q=>s1 b u q,E3.ow⟩
 have E4:=E3.adopt r A8
 have c0:∀a,own a=none->aK r own a=none:=λa n=>by unfold aK;rw[n];simp
 have E5:=E4.set (i:=i) (v:=.ref l) (s:=.sp r b ds) λhli=>⟨l,vs,Ġ hli,nO hl aq,aq,z.cG (λc u n e=>⟨⟨n.1,n.2.1,by rw[aZ e];exact c0 c n.2.2⟩,s1 c u e⟩) λa xs e=>s1 a _ e⟩
 rw[List.set_set] at E5
 exact⟨_,E5,(A.frs.trans fW).trans (nP A8)⟩
theorem RpK.okS{p:Pn}{H0 Hb H:Hp}{own:Addr->Option Nat}{b:Bool}(A:At p H0 own Hb H):∀{vs:List V}{ks:List (Kd×D)},RpK p H0 own Hb H vs ks->(ks.all λkd=>(norm kd.1 kd.2).le (spK b))=true->Rps (okS p H0 own b) H vs (ks.map (·.2))
 |_,_,.nil,_=>.nil
 |_,kd::ks,.cons h t,e=>by
  rw[ş,Ê] at e
  exact .cons (yr A e.1 (aW h)) (RpK.okS A t e.2)
def J5(i r:Nat)(b:Bool)(t:DA):DS:=λP ρ=>t ρ λks=>ks.length<=1000/\(ks.all λkd=>(norm kd.1 kd.2).le (spK b))=true/\iW r ρ i=true/\P.nx (ρ.set i (.sp r b (ks.map (·.2))))
theorem pF{i:Nat}{t:DA}(r:Nat)(b:Bool)(h:PS X st (pN (Ob (jF t)) (gY i))):PDS X st (J5 i r b t):=PS.wk' h (by
 rintro Q σ H ⟨p,H0,own,ρ,P,E,q,w⟩
 refine⟨p,H0,own,ρ,_,E,q,λks vs H1 h A rk=>?_⟩
 have h24:=í
 have hln:=rk.length
 refine⟨by have:=h.1;omega,λl hl=>?_⟩
 obtain⟨own',E2,F2⟩:=E.spine A h.2.2.1 hl (RpK.okS A rk h.2.1)
 exact w.nx _ _ _ _ E2 F2 h.2.2.2)
def Ax(i r:Nat)(b:Bool)(ta tb:DE):DS:=λP ρ=>ta ρ λk1 d1=>tb ρ λk2 d2=>match d1,d2 with
 |.list ds,.list es=>k1.le (spK b)=true/\k2.le (spK b)=true/\ds.length+es.length<=1000/\iW r ρ i=true/\P.nx (ρ.set i (.sp r b (ds++es)))
 |_,_=>False
theorem lg{p:Pn}{H0 Hb H:Hp}{own:Addr->Option Nat}{b:Bool}(A:At p H0 own Hb H){k:Kd}(hk:k.le (spK b)=true){H2:Hp}:∀{vs:List V}{ds:List D},Rps (okK p H0 own Hb k) H2 vs ds->Rps (okS p H0 own b) H2 vs ds
 |_,_,.nil=>.nil
 |_,_,.cons h t=>.cons (yr A hk h) (lg A hk t)
theorem nF{i:Nat}{ta tb:DE}(r:Nat)(b:Bool)(h:PS X st (pN (tOp Kv (cH ta) (cH tb)) (gY i))):PDS X st (Ax i r b ta tb):=PS.wk' h (by
 rintro Q σ H ⟨p,H0,own,ρ,P,E,q,w⟩
 refine⟨p,H0,own,ρ,_,E,q,λk1 d1 v1 H1 q1 A1 r1=>?_⟩
 refine⟨p,H0,own,ρ,_,E.go A1.kp A1.pen,q1,λk2 d2 v2 H2 q2 A2 r2=>?_⟩
 have A:=A1.base A2
 have r1:=j7 A1 A2.kp r1
 have r2:=fX A1 r2
 split at q2
 ·rename_i ds es
  obtain⟨c1,xs,e1,o1,h1,rs1⟩:=Rp.cL r1
  obtain⟨c2,ys,e2,o2,h2,rs2⟩:=Rp.cL r2
  subst e1 e2
  have h24:=í
  obtain⟨hk1,hk2,hlen,hf,nx⟩:=q2
  refine⟨c1,c2,xs,ys,rfl,rfl,h1,h2,by rw[rs1.length,rs2.length];omega,λl hl=>?_⟩
  obtain⟨own',E2,F2⟩:=E.spine A hf hl ((lg A hk1 rs1).app (lg A hk2 rs2))
  exact w.nx _ _ _ _ E2 F2 nx
 ·exact q2.elim)
def u5(js:List Nat)(t:DS):DS:=λP ρ=>t P (js.foldl (λρ j=>ρ.set j .any) ρ)
theorem EnvD.drops{p:Pn}{H0 H:Hp}{own:Addr->Option Nat}{σ:L2.St}:∀(js:List Nat) {ρ:List Sl},EnvD p H0 own σ H ρ->EnvD p H0 own σ H (js.foldl (λρ j=>ρ.set j .any) ρ)
 |[],_,E=>E
 |_::js,_,E=>EnvD.drops js E.drop
theorem qL(js:List Nat)(h:oJ X rest t):oJ X rest (u5 js t):=PSs.wk' h (by
 rintro Q σ H ⟨p,H0,own,ρ,P,E,q,w⟩
 exact⟨p,H0,own,_,P,E.drops js,q,w⟩)
theorem kY:PD X (.Dict [] [] pos) (λ_ P=>P .new (.dict [])):=PE.wk DY (by
 rintro σ H Q ⟨p,H0,own,ρ,P,E,t,q⟩
 have A:=E.at
 exact λd hd=>let ⟨k2,i2,nw⟩:=A.new hd (.dK []);q _ _ _ _ t (A.go k2 i2) (.dct nw aq .nil))
end
@[reducible] def grL(K:Þ)(sc:Addr)(ns:List Int):Gr:=⟨λp H0=>SqL K H0 sc (ns.map V.int)/\∀b,p.fp b->H0 b=none⟩
def vJ(K:Þ):Sp:=λvs H Q _=>∃(a:Addr) (ns:List Int),vs=[.ref a]/\SqL K H a (ns.map V.int)/\∀H',Q (.bl true) H'
section
variable {X:Cx}{k1 k2 j:Nat}{x y z:Str}{ps1 ps2:List Str}{e:Expr}{es1 es2:List Expr}{p1 p2 p3 pos pos1:Pos}{K:Þ}{sc:Addr}{ns:List Int}{C:Pn->Prop}{pre:List D->Prop}{g:List D->(D->Prop)->Prop}{i:Nat}
end
variable [Gr]
section
variable {X:Cx}{pos pos':Pos}{a b:Expr}{t:DA}
theorem Hi{ok:Addr->Prop}{H:Hp}(lo hi:Int):Rps ok H (vP lo hi) (cJ lo (hi - lo).toNat):=by
 unfold vP cJ
 exact Rps.ofMap (λx=>.int _) _
theorem Jg{p:Pn}{H0 H H1:Hp}{own:Addr->Option Nat}{P:DK}{Q:VK}{lo hi:Int}(A:At p H0 own H H1)(h:P .new (.list (cJ lo (hi - lo).toNat)))(b:-1000<=lo/\lo<=1000/\-1000<=hi/\hi<=1000)(q:∀k d v H',P k d->At p H0 own H H'->Rp (okK p H0 own H k) H' v d->Q v H')(r:Addr)(hr:H1 r=none) :
  ∃p' lo' hi',[V.ref r]=[.ref p']/\upd H1 r (.rng lo hi) p'=some (.rng lo' hi')/\(-1000<=lo'/\lo'<=1000/\-1000<=hi'/\hi'<=1000)/\∀l,upd H1 r (.rng lo hi) l=none->Q (.ref l) (upd (upd H1 r (.rng lo hi)) l (.lst (vP lo' hi'))):=by
 refine⟨r,lo,hi,rfl,aq,b,λl hl=>?_⟩
 obtain⟨k2,i2,_⟩:=A.new hr (.rng lo hi)
 have A2:=A.go k2 i2
 obtain⟨k3,i3,nw⟩:=A2.new hl (.lst (vP lo hi))
 exact q _ _ _ _ h (A2.go k3 i3) (.lst nw aq (Hi lo hi))
def Oc(t:DA):DE:=λρ P=>t ρ λks=>match ks with
 |[(_,.int j)]=>(-1000<=j/\j<=1000)/\P .new (.list (cJ 0 (j - 0).toNat))
 |_=>False
theorem gw{ps ps':Pos}(hc:X.calm=true)(hml:X.mg "list"=none)(hmr:X.mg "range"=none)(ha:PDA X [a] t)(hgl:Gl X "list":=by rfl)(hgr:Gl X "range":=by rfl)(he:zS X a []:=by rfl)(hpl:(backTo pos' (starEach [] X.env)).any (·.1)=false:=by rfl)(he2:starEach [.Call (.Name "range" ps') [a] [] pos'] X.env=(false,eval (.Call (.Name "range" ps') [a] [] pos') X.env)::starEach [] X.env:=by rfl)(hpl2:zP X pos []:=by rfl) :
  PD X (.Call (.Name "list" ps) [.Call (.Name "range" ps') [a] [] pos'] [] pos) (Oc t):=PE.wk (jj (rm hc) hgl hml boot_list (eX (jj Cp hgr hmr boot_range ha (by decide) (by decide) he hpl) cB he2) (by decide) (by decide) he2 hpl2) (by
 rintro σ H Q ⟨p,H0,own,ρ,P,E,t,q⟩
 refine⟨p,H0,own,ρ,_,E,t,λks vs H1 h A rk=>?_⟩
 split at h
 ·rename_i k j
  obtain⟨v,rfl,r'⟩:=fM rk
  have e:=Rp.int' r'
  subst e
  exact⟨j,rfl,Jg A h.2 ⟨by omega,by omega,h.1.1,h.1.2⟩ q⟩
 ·exact h.elim)
end
variable [Gr]
mutual
inductive Tm where
 |int (i:Int)
 |neg (i:Int)
 |bl (b:Bool)
 |non
 |str (s:Str)
 |var (i:Nat)
 |lst (ts:Tms)
 |tup (ts:Tms)
 |dct
inductive Tms where
 |nil
 |cons (t:Tm) (ts:Tms)
end
def Ka(sc:Scope)(x:Str):Bool:=sc.names.lookup x == some .local || sc.names.lookup x == some .cell || sc.names.lookup x == some .free
theorem GR{sc:Scope}{x:Str}(h:Ka sc x=true):Vis sc x:=by
 unfold Ka at h
 rw[Bool.or_eq_true,Bool.or_eq_true,beq_iff_eq,beq_iff_eq,beq_iff_eq] at h
 rcases h with (h|h)|h
 ·exact .inl h
 ·exact .inr (.inl h)
 ·exact .inr (.inr h)
mutual
def okT(N:List Str)(sc:Scope):Tm->Expr->Bool
 |.int i,.Constant (.int j) _ _=>i == j
 |.neg i,.UnaryOp .USub (.Constant (.int j) _ _) _=>i == j
 |.bl b,.Constant (.bool c) _ _=>b == c
 |.non,.Constant .none _ _=>true
 |.str s,.Constant (.str u) _ _=>s == u
 |.var i,.Name x _=>N[i]? == some x&&(Ka sc x&&(!(x == ("__debug__":Str))&&!(x == ("__classdict__":Str))))
 |.lst ts,.List es _=>jL N sc ts es
 |.tup ts,.Tuple es _ _=>jL N sc ts es
 |.dct,.Dict [] [] _=>true
 |_,_=>false
def jL(N:List Str)(sc:Scope):Tms->List Expr->Bool
 |.nil,[]=>true
 |.cons t ts,e::es=>okT N sc t e&&jL N sc ts es
 |_,_=>false
end
mutual
def evT(ρ:List Sl):Tm->Option (Kd×D)
 |.int i=>some (.imm,.int i)
 |.neg i=>some (.imm,.int (-i))
 |.bl b=>some (.imm,.bool b)
 |.non=>some (.imm,.none)
 |.str s=>some (.imm,.str s)
 |.var i=>match ρ[i]? with
  |some (.im d)=>some (.imm,d)
  |some (.sh d)=>some (.shr,d)
  |some (.sn d)=>some (.snw,d)
  |some (.dw r d)=>some (.reg r,d)
  |_=>none
 |.lst ts=>match iY ρ ts with
  |some ks=>some ((joins ks).join .new,.list (ks.map (·.2)))
  |none=>none
 |.tup ts=>match iY ρ ts with
  |some ks=>some (norm (joins ks) (.tuple (ks.map (·.2))),.tuple (ks.map (·.2)))
  |none=>none
 |.dct=>some (.new,.dict [])
def iY(ρ:List Sl):Tms->Option (List (Kd×D))
 |.nil=>some []
 |.cons t ts=>match evT ρ t,iY ρ ts with
  |some k,some ks=>some (k::ks)
  |_,_=>none
end
mutual
def smT:Tm->Bool
 |.lst ts=>ju 1000 ts
 |.tup ts=>ju 1000 ts
 |_=>true
def ju:Nat->Tms->Bool
 |_,.nil=>true
 |n+1,.cons t ts=>smT t&&ju n ts
 |0,.cons _ _=>false
end
def Kh(tm:Tm):DE:=λρ P=>∃k d,evT ρ tm=some (k,d)/\P k d
def Rx(ts:Tms):DA:=λρ P=>∃ks,iY ρ ts=some ks/\P ks
section
variable {X:Cx}{e:Expr}{es:List Expr}
theorem PD.wk{t t':DE}(h:PD X e t)(w:∀ρ P,t' ρ P->t ρ P):PD X e t':=PE.wk h (by
 rintro σ H Q ⟨p,H0,own,ρ,P,E,t,q⟩
 exact⟨p,H0,own,ρ,P,E,w _ _ t,q⟩)
theorem PDA.wk{t t':DA}(h:PDA X es t)(w:∀ρ P,t' ρ P->t ρ P):PDA X es t':=PA.wk h (by
 rintro σ H Q ⟨p,H0,own,ρ,P,E,t,q⟩
 exact⟨p,H0,own,ρ,P,E,w _ _ t,q⟩)
theorem yS{ρ:List Sl}:∀{ts:Tms}{ks:List (Kd×D)}{n:Nat},ju n ts=true->iY ρ ts=some ks->ks.length<=n
 |.nil,ks,n,_,e=>by
  simp only[iY] at e
  cases e
  exact Ă _
 |.cons t ts,ks,0,h,e=>by simp[ju] at h
 |.cons t ts,ks,n+1,h,e=>by
  simp only[ju,Ê] at h
  simp only[iY] at e
  cases e1:evT ρ t with
  |none=>rw[e1] at e;cases e
  |some k =>
   cases e2:iY ρ ts with
   |none=>rw[e1,e2] at e;cases e
   |some ks' =>
    rw[e1,e2] at e
    cases e
    have:=yS h.2 e2
    rw[Ý]
    omega
theorem zG{N:List Str}{sc:Scope}{t:Tm}(h:okT N sc t e=true):zS X e es:=by
 cases e <;> first
  |rfl
  |(cases t <;> simp[okT] at h)
section
variable {N:List Str}{sc:Scope}
theorem IW{i:Int}(h:okT N sc (Tm.int i) e=true):∃k p,e=.Constant (.int i) k p:=by
 generalize ht:(Tm.int i)=t at h
 unfold okT at h
 split at h <;> first
  |exact absurd h Æ
  |(cases ht;rw[beq_iff_eq] at h;subst h;exact⟨_,_,rfl⟩)
  |cases ht
theorem Mr{i:Bool}(h:okT N sc (Tm.bl i) e=true):∃k p,e=.Constant (.bool i) k p:=by
 generalize ht:(Tm.bl i)=t at h
 unfold okT at h
 split at h <;> first
  |exact absurd h Æ
  |(cases ht;rw[beq_iff_eq] at h;subst h;exact⟨_,_,rfl⟩)
  |cases ht
theorem IK(h:okT N sc Tm.non e=true):∃k p,e=.Constant .none k p:=by
 generalize ht:Tm.non=t at h
 unfold okT at h
 split at h <;> first
  |exact absurd h Æ
  |(cases ht;exact⟨_,_,rfl⟩)
  |cases ht
theorem Iz{i:Str}(h:okT N sc (Tm.str i) e=true):∃k p,e=.Constant (.str i) k p:=by
 generalize ht:(Tm.str i)=t at h
 unfold okT at h
 split at h <;> first
  |exact absurd h Æ
  |(cases ht;rw[beq_iff_eq] at h;subst h;exact⟨_,_,rfl⟩)
  |cases ht
theorem inv_neg{i:Int}(h:okT N sc (Tm.neg i) e=true):∃k p q,e=.UnaryOp .USub (.Constant (.int i) k p) q:=by
 generalize ht:(Tm.neg i)=t at h
 unfold okT at h
 split at h <;> first
  |exact absurd h Æ
  |(cases ht;rw[beq_iff_eq] at h;subst h;exact⟨_,_,_,rfl⟩)
  |cases ht
theorem Iu{i:Nat}(h:okT N sc (Tm.var i) e=true):∃x p,e=.Name x p/\N[i]?=some x/\Vis sc x/\zB x/\(x == ("__classdict__":Str))=false:=by
 generalize ht:(Tm.var i)=t at h
 unfold okT at h
 split at h <;> first
  |exact absurd h Æ
  |(cases ht;rw[Ê,Ê,Ê,beq_iff_eq,Bool.not_eq_true',Bool.not_eq_true'] at h;exact⟨_,_,rfl,h.1,GR h.2.1,h.2.2.1,h.2.2.2⟩)
  |cases ht
theorem IV{ts:Tms}(h:okT N sc (Tm.lst ts) e=true):∃es p,e=.List es p/\jL N sc ts es=true:=by
 generalize ht:(Tm.lst ts)=t at h
 unfold okT at h
 split at h <;> first
  |exact absurd h Æ
  |(cases ht;exact⟨_,_,rfl,h⟩)
  |cases ht
theorem Iw{ts:Tms}(h:okT N sc (Tm.tup ts) e=true):∃es k p,e=.Tuple es k p/\jL N sc ts es=true:=by
 generalize ht:(Tm.tup ts)=t at h
 unfold okT at h
 split at h <;> first
  |exact absurd h Æ
  |(cases ht;exact⟨_,_,_,rfl,h⟩)
  |cases ht
theorem I9(h:okT N sc Tm.dct e=true):∃p,e=.Dict [] [] p:=by
 generalize ht:Tm.dct=t at h
 unfold okT at h
 split at h <;> first
  |exact absurd h Æ
  |(cases ht;exact⟨_,rfl⟩)
  |cases ht
end
mutual
theorem yG{N:List Str}{sc:Scope}(hN:X.N=N)(hs:X.env.scope=sc):∀(t:Tm) (e:Expr),okT N sc t e=true->smT t=true->PD X e (Kh t)
 |.int i,e,h,_=>by
  obtain⟨k,p,rfl⟩:=IW h
  exact PD.wk bA λρ P ⟨k,d,e,q⟩=>by simp only[evT] at e;cases e;exact q
 |.neg i,e,h,_=>by
  obtain⟨k,p,q,rfl⟩:=inv_neg h
  exact PD.wk (fD bA) λρ P ⟨k,d,e,q⟩=>by simp only[evT] at e;cases e;exact q
 |.bl b,e,h,_=>by
  obtain⟨k,p,rfl⟩:=Mr h
  exact PD.wk rR λρ P ⟨k,d,e,q⟩=>by simp only[evT] at e;cases e;exact q
 |.non,e,h,_=>by
  obtain⟨k,p,rfl⟩:=IK h
  exact PD.wk iC λρ P ⟨k,d,e,q⟩=>by simp only[evT] at e;cases e;exact q
 |.str s,e,h,_=>by
  obtain⟨k,p,rfl⟩:=Iz h
  exact PD.wk p8 λρ P ⟨k,d,e,q⟩=>by simp only[evT] at e;cases e;exact q
 |.var i,e,h,_=>by
  obtain⟨x,p,rfl,h1,h2,h3,h4⟩:=Iu h
  refine PD.wk (dv i (by rw[hN];exact h1) (by rw[hs];exact h2) h3 h4) λρ P ⟨k,d,e,q⟩=>?_
  simp only[evT] at e
  unfold tV
  split at e <;> first
   |(cases e;rename_i z;rw[z];exact q)
   |cases e
 |.lst ts,e,h,s=>by
  obtain⟨es,p,rfl,h1⟩:=IV h
  have s1:ju 1000 ts=true:=by simpa only[smT] using s
  refine PD.wk (dI (uK hN hs ts es 1000 h1 s1)) λρ P ⟨k,d,e,q⟩=>?_
  simp only[evT] at e
  cases e1:iY ρ ts with
  |none=>rw[e1] at e;cases e
  |some ks =>
   rw[e1] at e
   cases e
   exact⟨ks,e1,yS s1 e1,q⟩
 |.tup ts,e,h,s=>by
  obtain⟨es,k,p,rfl,h1⟩:=Iw h
  have s1:ju 1000 ts=true:=by simpa only[smT] using s
  refine PD.wk (kJ (uK hN hs ts es 1000 h1 s1)) λρ P ⟨k,d,e,q⟩=>?_
  simp only[evT] at e
  cases e1:iY ρ ts with
  |none=>rw[e1] at e;cases e
  |some ks =>
   rw[e1] at e
   cases e
   exact⟨ks,e1,yS s1 e1,q⟩
 |.dct,e,h,_=>by
  obtain⟨p,rfl⟩:=I9 h
  exact PD.wk kY λρ P ⟨k,d,e,q⟩=>by simp only[evT] at e;cases e;exact q
theorem uK{N:List Str}{sc:Scope}(hN:X.N=N)(hs:X.env.scope=sc):∀(ts:Tms) (es:List Expr) (n:Nat),jL N sc ts es=true->ju n ts=true->PDA X es (Rx ts)
 |.nil,es,n,h,_=>by
  cases es with
  |nil=>exact PDA.wk aA λρ P ⟨ks,e,q⟩=>by simp only[iY] at e;cases e;exact q
  |cons e es=>simp[jL] at h
 |.cons t ts,es,n,h,s=>by
  cases es with
  |nil=>simp[jL] at h
  |cons e es =>
   simp only[jL,Ê] at h
   cases n with
   |zero=>simp[ju] at s
   |succ n =>
    simp only[ju,Ê] at s
    refine PDA.wk (ak (yG hN hs t e h.1 s.1) (uK hN hs ts es n h.2 s.2) (zG h.1)) λρ P ⟨ks,e,q⟩=>?_
    simp only[iY] at e
    cases e1:evT ρ t with
    |none=>rw[e1] at e;cases e
    |some k =>
     cases e2:iY ρ ts with
     |none=>rw[e1,e2] at e;cases e
     |some ks' =>
      rw[e1,e2] at e
      cases e
      exact⟨k.1,k.2,e1,ks',e2,q⟩
end
def Nk(ts:Tms)(t:DA):DA:=λρ P=>∃ks,iY ρ ts=some ks/\t ρ λks'=>P (ks++ks')
theorem Ds{N:List Str}{sc:Scope}(hN:X.N=N)(hs:X.env.scope=sc){t2:DA}{es2:List Expr}(h2:PDA X es2 t2):∀(ts:Tms) (es1:List Expr) (n:Nat),jL N sc ts es1=true->ju n ts=true->PDA X (es1++es2) (Nk ts t2)
 |.nil,es,n,h,_=>by
  cases es with
  |nil=>exact PDA.wk h2 λρ P ⟨ks,e,q⟩=>by simp only[iY] at e;cases e;exact q
  |cons e es=>simp[jL] at h
 |.cons t ts,es,n,h,s=>by
  cases es with
  |nil=>simp[jL] at h
  |cons e es =>
   simp only[jL,Ê] at h
   cases n with
   |zero=>simp[ju] at s
   |succ n =>
    simp only[ju,Ê] at s
    refine PDA.wk (ak (yG hN hs t e h.1 s.1) (Ds hN hs h2 ts es n h.2 s.2) (zG h.1)) λρ P ⟨ks,e,q⟩=>?_
    simp only[iY] at e
    cases e1:evT ρ t with
    |none=>rw[e1] at e;cases e
    |some k =>
     cases e2:iY ρ ts with
     |none=>rw[e1,e2] at e;cases e
     |some ks' =>
      rw[e1,e2] at e
      cases e
      exact⟨k.1,k.2,e1,ks',e2,q⟩
theorem mW(N:List Str)(sc:Scope)(tm:Tm)(h:okT N sc tm e=true)(hN:X.N=N:=by rfl)(hs:X.env.scope=sc:=by rfl)(s:smT tm=true:=by decide +kernel):PD X e (Kh tm):=yG hN hs tm e h s
theorem kI(n:Nat)(N:List Str)(sc:Scope)(ts:Tms){t2:DA}(h2:PDA X (es.drop n) t2)(h:jL N sc ts (es.take n)=true)(hN:X.N=N:=by rfl)(hs:X.env.scope=sc:=by rfl)(s:ju 1000 ts=true:=by decide +kernel):PDA X es (Nk ts t2):=by
 have r:=Ds hN hs h2 ts (es.take n) 1000 h s
 rw[Č] at r
 exact r
end
end Dl
namespace L2
open PySem PySem.Spec PyProof.Rows HT
section
variable {X:Cx}{e:Expr}{te:TE}{p1 p2 p3 pos:Pos}
def NT(K:Þ)(te:TE):TE:=λσ H Q=>te σ H λx H1=>∃a xs,x=.ref a/\SqL K H1 a xs/\∀p,H1 p=none->Q (.ref p) (upd H1 p (.lst xs.reverse))
theorem Hw(he:PE X e te):PE X (.Subscript e (.Slice none none (some (.UnaryOp .USub (.Constant (.int 1) 0 p1) p2)) p3) pos) (NT X.K te):=by
 intro pins s σ H Q I h
 refine Subscript_ (thn (he pins s σ H _ I h) λv s1 ⟨x,H1,I1,r1,a,xs,ex,hx,q⟩=>?_)
 subst ex
 cases r1
 refine wpAny_Slice ?_
 rw[evalPart_none,evalPart_some]
 refine Ø (Ø ?_)
 refine UnaryOp_ (wpAny_Constant_int ?_)
 refine neg_int ?_
 have I2:Inv X pins σ H1 { s1 with toks:=s1.toks+1+1 }:=I1.tok _
 have I4:Inv X pins σ H1 { s1 with heap:=s1.heap.push { cls:=.type "slice",data:=.fields #[.none,.none,.int (-1) (s1.toks+1)] },toks:=s1.toks+1+1 }:=I2.kept λb ob q=>Ö _ q
 obtain⟨its,r,ht,hz⟩:=I4.list hx
 have hlen:its.toArray.size=xs.length:=by rw[Ï];exact r.length.symm
 show wpAny (model X.prog X.w) X.A (subscriptTail e _ (.ref a) (.ref s1.heap.objs.size)) (EP X pins σ Q) X.xe { s1 with heap:=s1.heap.push { cls:=.type "slice",data:=.fields #[.none,.none,.int (-1) (s1.toks+1)] },toks:=s1.toks+1+1 }
 refine tail_any (ops:=[.ref a,.ref s1.heap.objs.size]) ht.isList.typeIs slot_list_getitem.lookup ?_ (by with_unfolding_all rfl)
 refine wpAny_getItem_list_slice ht.isList (Heap.IsSliceOf.new ..) .none .none (.int (-1) _) (by simp) ?_ (by rw[hlen];exact hz)
 rw[W.krv_pick]
 refine⟨.ref _,_,I4.laid (t':=s1.toks+1+1) (o:=.lst xs.reverse) (λb ob q=>Ö _ q) (Ë _) ?_,rfl,q _ (I4.hok.fresh (Ë _))⟩
 refine⟨by rw[List.length_reverse];exact hz,its.reverse,0,r.reverse,?_⟩
 exact ç _ rfl
end
end L2
namespace Dl
open PySem L2 PyProof.Rows
variable [Gr]
section
variable {X:Cx}{pos p1 p2 p3:Pos}{a b e:Expr}{es:List Expr}{ta tb te:DE}{t:DA}
theorem Rps.rev{ok:Addr->Prop}{H:Hp}:∀{vs:List V}{ds:List D},Rps ok H vs ds->Rps ok H vs.reverse ds.reverse
 |_,_,.nil=>.nil
 |_,_,.cons h t=>by
  rw[List.reverse_cons,List.reverse_cons]
  exact(Rps.rev t).snoc h
def NQ(te:DE):DE:=λρ P=>te ρ λk d=>match d with
 |.list ds=>newP k ds.reverse λk'=>P k' (.list ds.reverse)
 |_=>False
theorem kW(he:PD X e te):PD X (.Subscript e (.Slice none none (some (.UnaryOp .USub (.Constant (.int 1) 0 p1) p2)) p3) pos) (NQ te):=PE.wk (Hw he) (by
 rintro σ H Q ⟨p,H0,own,ρ,P,E,t,q⟩
 refine⟨p,H0,own,ρ,_,E,t,λk d v H1 h A r=>?_⟩
 cases d with
 |list ds =>
  obtain⟨x,xs,e1,o,h1,rs⟩:=Rp.cL r
  subst e1
  refine⟨x,xs,rfl,SqL.of h1,λl hl=>?_⟩
  obtain⟨k2,i2,nw⟩:=A.new hl (.lst xs.reverse)
  obtain⟨k',hk',rk'⟩:=jm A (bI A k2 rs.rev) nw aq h
  exact q _ _ _ _ hk' (A.go k2 i2) rk'
 |_=>exact h.elim)
def NP(te:DE)(tl th:DO):DE:=λρ P=>te ρ λk d=>tl ρ λlo=>th ρ λhi=>match d with
 |.list ds=>newP k (bM ds lo hi) λk'=>P k' (.list (bM ds lo hi))
 |.tuple ds=>¬(HT.sIx ds.length 0 lo=0/\HT.sIx ds.length ds.length hi=ds.length)/\P (norm k (.tuple (bM ds lo hi))) (.tuple (bM ds lo hi))
 |_=>False
theorem nY{lo hi:Option Expr}{tl th:DO}(he:PD X e te)(hl:PO X lo (qD tl))(hh:PO X hi (qD th)):PD X (.Subscript e (.Slice lo hi none p2) pos) (NP te tl th):=PE.wk (vW (SlR.or zJ Ko) he hl hh) (by
 rintro σ H Q ⟨p,H0,own,ρ,P,E,t,q⟩
 refine⟨p,H0,own,ρ,_,E,t,λk d v H1 h A r=>?_⟩
 refine⟨p,H0,own,ρ,_,E.go A.kp A.pen,h,λo1 H2 h2 A2=>?_⟩
 refine⟨p,H0,own,ρ,_,(E.go A.kp A.pen).go A2.kp A2.pen,h2,λo2 H3 h3 A3=>?_⟩
 have A4:=(A.base A2).base A3
 have r3:=j7 (A.base A2) A3.kp (j7 A A2.kp r)
 cases d with
 |list ds =>
  obtain⟨x,xs,e1,o,h1,rs⟩:=Rp.cL r3
  subst e1
  refine .inl ⟨x,xs,rfl,SqL.of h1,λl hl=>?_⟩
  obtain⟨k2,i2,nw⟩:=A4.new hl (.lst (qO xs o1 o2))
  obtain⟨k',hk',rk'⟩:=jm A4 (bI A4 k2 (rs.cut o1 o2)) nw aq h3
  exact q _ _ _ _ hk' (A4.go k2 i2) rk'
 |tuple ds =>
  obtain⟨x,xs,e1,h1,rs⟩:=Rp.gZ r3
  subst e1
  refine .inr ⟨x,xs,rfl,SqT.of h1,by rw[rs.length];exact h3.1,λl hl=>?_⟩
  obtain⟨k2,i2,nw⟩:=A4.new hl (.tup (qO xs o1 o2))
  exact q _ _ _ _ h3.2 (A4.go k2 i2) (aW (.tup aq (bI A4 k2 (rs.cut o1 o2))))
 |_=>exact h3.elim)
end
variable [Gr]
section
variable {X:Cx}{pos pos' p2:Pos}{a b e:Expr}{ta tb te tj tm:DE}{st st2:Stmt}{rest:List Stmt}{ti:DI}{g:DG}{t:DS}
end
variable [Gr]
section
variable {X:Cx}{te te1 te2 tj tm:DE}{st st2:Stmt}{rest:List Stmt}{t:DS}
end
variable [Gr]
section
variable {X:Cx}{te tj:DE}{st:Stmt}{t:DS}
end
end Dl
namespace L2
open PySem PySem.Spec PyProof.Rows
end L2
namespace Dl
open PySem L2 PyProof.Rows
variable [Gr]
section
variable {X:Cx}{tg:Expr}{pos:Pos}{ta:DA}
end
section
variable {X:Cx}
theorem Cj(hc:X.calm=true):bD X (.builtin "sum") (λxs H Q=>∃(p:Addr) (ns:List Int),xs=[.ref p]/\SqT X.K H p (ns.map V.int)/\ns.length<=1000/\(∀x∈ns,-1000000<=x/\x<=1000000)/\Q (.int ns.sum) H):=by
 intro pins s σ H xs us Q I r h
 obtain⟨p,ns,rfl,hp,hl,hs,q⟩:=h
 obtain⟨u,rfl,rx⟩:=vals1 r
 cases rx
 obtain⟨its,rv,pl,hz⟩:=I.tuple hp
 have hlen:its.length=ns.length:=by have:=rv.length;rw[Á] at this;exact this.symm
 have hltp:p<s.heap.objs.size:=by obtain⟨o,ho,_⟩:=pl;exact Ô ho
 have at':∀i v,its[i]?=some v->∃t,v=Value.int (ns.getD i 0) t:=λi v e=>by
  have hi:i<its.length:=(Ó.mp e).1
  have hv:(ns.map V.int)[i]?=some (V.int ns[i]):=by rw[æ,É (show i<ns.length by omega)];rfl
  obtain⟨u,eu,ru⟩:=rv.get hv
  rw[e] at eu
  cases eu
  obtain⟨t,rfl⟩:=ru
  exact⟨t,by rw[Û,É (show i<ns.length by omega)];rfl⟩
 refine call_sum_walk (wpAny_pyIter_tuple pl ?_)
 refine⟨_,_,_,_,_,_,λi=>ns.getD i 0,rfl,Walks.tuple (A:=X.A.in1) (I.ok.hd hc) _ p (ä hltp) _,⟨⟨_,ç _ rfl,rfl,rfl⟩,pl.push _⟩,?_,λi v e=>at' i v (by simpa using e),λj hj=>?_,λh' tk t' hk=>?_⟩
 ·intro b hb
  show b<(s.heap.push _).objs.size
  rw[ũ]
  simp at hb
  rcases hb with rfl|rfl
  ·exact Nat.lt_succ_self _
  ·exact Ĉ hltp
 ·have hj:j<ns.length:=by simpa[hlen] using hj
  have e:ns.getD j 0=ns[j]:=by rw[Û,É hj];rfl
  have b1:=hs _ (œ hj)
  have b2:=mJ (ns.take (j+1)) 1000000 λx hx=>hs x (List.mem_of_mem_take hx)
  have b3:(ns.take (j+1)).length<=1000:=by rw[ğ];omega
  rw[j9 ns (j+1) hj]
  refine⟨?_,?_⟩
  ·show -(2 ^ 63)<=ns.getD j 0/\ns.getD j 0<2 ^ 63
   rw[e]
   omega
  ·show -(2 ^ 63)<=(ns.take (j+1)).sum/\(ns.take (j+1)).sum<2 ^ 63
   omega
 ·have e:PySem.preSum (λi=>ns.getD i 0) its.toArray.size=ns.sum:=by
   rw[Ï,hlen,j9 ns ns.length (Ë _),û]
  rw[e]
  refine⟨.int ns.sum,H,I.kept λb o eb=>hk b o ?_ (Ö _ eb),⟨_,rfl⟩,q⟩
  intro hm
  have:b=s.heap.objs.size:=by simpa using hm
  exact absurd (this ▸ Ô eb) (Ą _)
end
section
variable {prog:Program}{w:World}{A:Around}{E:Value->Shared->Prop}
end
section
variable {X:Cx}{pos:Pos}
variable [Gr]
end
section
variable {X:Cx}{pos:Pos}{a:Expr}{t:DA} [Gr]
def RD(f:Int->Int->Int)(le:Int->Int->Prop):GC:=λks P=>match ks with
 |[(_,.tuple [.int i,.int j])]=>P .imm (.int (f i j))
 |[(_,.list ds)]=>∃ns:List Int,ds=ns.map Ã/\ns≠[]/\∀M,M∈ns->(∀a∈ns,le M a)->P .imm (.int M)
 |_=>False
def FT:GC:=λks P=>match ks with
 |[(_,.list ds)]=>∃ns:List Int,ds=ns.map Ã/\ns.length<=1000/\(∀x∈ns,-1000000<=x/\x<=1000000)/\P .imm (.int ns.sum)
 |[(_,.tuple ds)]=>∃ns:List Int,ds=ns.map Ã/\ns.length<=1000/\(∀x∈ns,-1000000<=x/\x<=1000000)/\P .imm (.int ns.sum)
 |_=>False
theorem jl{ps:Pos}(hc:X.calm=true)(hm:X.mg "sum"=none)(ha:PDA X [a] t)(hg:Gl X "sum":=by rfl)(he:zS X a []:=by rfl)(hpl:zP X pos []:=by rfl):PD X (.Call (.Name "sum" ps) [a] [] pos) (tCl FT t) :=
 dh (bD.or (Ck hc) (Cj hc)) (by
  intro p H0 own Hb H vs ks P Q A r t q
  unfold FT at t
  split at t
  ·obtain⟨ns,rfl,hl,hb,t⟩:=t
   obtain⟨v,rfl,r'⟩:=fM r
   obtain⟨x,xs,e1,o1,h1,rs1⟩:=Rp.cL r'
   subst e1
   have e2:=Rps.ints rs1
   subst e2
   exact .inl ⟨x,ns,rfl,SqL.of h1,hl,hb,q _ _ _ _ t Kp.refl A.pen (.int _)⟩
  ·obtain⟨ns,rfl,hl,hb,t⟩:=t
   obtain⟨v,rfl,r'⟩:=fM r
   obtain⟨x,xs,e1,h1,rs1⟩:=Rp.gZ r'
   subst e1
   have e2:=Rps.ints rs1
   subst e2
   exact .inr ⟨x,ns,rfl,SqT.of h1,hl,hb,q _ _ _ _ t Kp.refl A.pen (.int _)⟩
  ·exact t.elim) hg hm boot_sum ha (by decide) (by decide) he hpl
variable {b:Expr}{ta tb:DE}
end
section
variable {X:Cx}
end
section
variable {X:Cx}{pos:Pos}{a e:Expr}{te ta:DE}{t:DA}{st st2:Stmt}{rest:List Stmt} [Gr]
end
section
variable {X:Cx}{tg iter c:Expr}{pos pos1:Pos}{ret:Stmt}{ti:DI}{g:DG}{tc:DT} [Gr]
end
end Dl
namespace L2
open PySem PySem.Spec PyProof.Rows
open PySem.AutoSeq1 (wpAny_loadPart')
open PySem.MeetsSeq PySem.MeetsSeq3
section
variable {prog:Program}{w:World}{A:Around}{E:Value->Shared->Prop}{s:Shared}
end
section
variable {X:Cx}
end
end L2
namespace Dl
open PySem L2 PyProof.Rows
section
variable {X:Cx}{pos:Pos}{a:Expr}{t:DA} [Gr]
end
end Dl
namespace L2
open PySem PyProof.Rows
def Asc(xs:Array Nat):Prop:=xs.toList.Pairwise (·<·)
structure Good(w:World)(t:SetTable):Prop where
 asc:Asc t.place
 dum:t.dummies=#[]
 led:t.led=!w.params.followText "set-order"
section
variable {w:World}{t:SetTable}
end
section
variable {P:Program}{w:World}{A:Around}{E:Value->Shared->Prop}{s:Shared}
end
section
variable {P:Program}{w:World}{A:Around}{R:Result->Shared->Prop}{I:Addr}{fp wr:List Addr}{G:Array GenState->Array GenState->Prop}{n:Nat}{W:Nat->Value->Prop}{St:Nat->Shared->Prop}
end
section
variable {P:Program}{w:World}{A:Around}{E:Value->Shared->Prop}{s:Shared}
end
section
variable {P:Program}{w:World}{A:Around}{E:Value->Shared->Prop}{s:Shared}{I a:Addr}{f:Value}{i n ep:Nat}{o:Obj}{es:Array (Int×Value)}{t:SetTable}
end
section
variable {P:Program}{w:World}{A:Around}{E:Value->Shared->Prop}{s:Shared}
variable {a:Addr}{i ep:Nat}{o:Obj}{es:Array (Int×Value)}{t:SetTable}
end
section
variable {P:Program}{w:World}{A:Around}{E:Value->Shared->Prop}{s:Shared}{I a:Addr}{ep:Nat}{o:Obj}{es:Array (Int×Value)}{t:SetTable}
end
end L2
namespace L2
open PySem PySem.Spec PyProof.Rows
section
variable {P:Program}{w:World}{A:Around}{E:Value->Shared->Prop}{s:Shared}{a:Addr}{S:Int->Bool}{n:Nat}
end
end L2
set_option autoImplicit true
set_option relaxedAutoImplicit true
namespace Wr
open PySem L2 PyProof.Rows Dl
structure WD[Gr](X:Cx)(e:Expr)(t:DE):Prop where
 h:PD X e t
structure WDT[Gr](X:Cx)(e:Expr)(t:DT):Prop where
 h:PDT X e t
structure WDW[Gr](X:Cx)(e:Expr)(t:DT):Prop where
 h:PDW X e t
structure WDA[Gr](X:Cx)(e:List Expr)(t:DA):Prop where
 h:PDA X e t
structure WDS[Gr](X:Cx)(e:Stmt)(t:DS):Prop where
 h:PDS X e t
structure WDSs[Gr](X:Cx)(e:List Stmt)(t:DS):Prop where
 h:oJ X e t
structure WDI[Gr](X:Cx)(tg e:Expr)(t:DI):Prop where
 h:PDI X tg e t
structure WDG[Gr](X:Cx)(e:Expr)(t:DG):Prop where
 h:PDG X e t
structure WDGs[Gr](X:Cx)(e:List Expr)(t:DGs):Prop where
 h:PGs X e (qF t)
structure WDTs[Gr](X:Cx)(e:List Expr)(t:DT):Prop where
 h:zm X e t
structure WDO[Gr](X:Cx)(e:Option Expr)(t:DO):Prop where
 h:PO X e (qD t)
structure WV(X:Cx)(e:Expr)(i:Nat):Prop where
 h:PE X e (pK i)
structure WC(X:Cx)(e:Expr)(v:V):Prop where
 h:PE X e (tC v)
section
variable [Gr]
theorem wv(i:Nat){x:Str}{pos:Pos}(hN:X.N[i]?=some x:=by rfl)(hv:Vis X.env.scope x:=by first|exact ĵ rfl|exact Or.inr (ĵ rfl)|exact Or.inr (Or.inr rfl))(hd:zB x:=by decide)(hcd:(x == ("__classdict__":Str))=false:=by decide):WV X (.Name x pos) i:=⟨pv i hN hv hd hcd⟩
theorem wpt{t:DT}(h:WDW X e t):WDT X e t:=⟨PDW.pt h.h⟩
theorem wty{x:Str}{T:String}(hg:Gl X x)(hm:X.mg x=none)(hv:bootBuiltins x=some (.type T))(hn:x≠"__name__":=by decide)(hd:zB x:=by decide):WC X (.Name x ps) (.ty T):=⟨kh hg hm hv rfl hn hd⟩
theorem iZ{i:Nat}{x:Str}{e:Expr}{te:DE}{pos' pos:Pos}(rg:Option Nat)(hN:X.N.Nodup)(hi:X.N[i]?=some x)(hx:Loc X.env.scope x)(he:WD X e te)(hs:swapsWith e (some (.Name x pos')) pos.line X.env=pure false:=by rfl)(hf:zL X x:=by first|exact .inl rfl|exact .inr rfl|assumption) :
  WDS X (.Assign [.Name x pos'] e pos) (M6 i rg te):=⟨Dl.iZ rg (cU hN hi hx he.h hs hf)⟩
theorem wR(rg:Option Nat)(own:List Str){i:Nat}{y:Str}{py spos:Pos}(hc:X.calm=true)(hN:X.N.Nodup)(hiN:X.N[i]?=some y)(hx:Loc X.env.scope y)(hi:WDI X tg iter ti)(hg:∀c,WDG (X.comp own scope c) tg g)(ht:∀c,WDTs (X.comp own scope c) ifs tt)(he:∀c,WD (X.comp own scope c) elt te)(hsw:swapsWith (.ListComp elt [⟨tg,iter,ifs,0⟩] scope pos) (some (.Name y py)) spos.line X.env=pure true:=by rfl)(hk:dG X.env scope X.N=true:=by rfl)(hs:zF X iter:=by intro _;rfl)(hf:zL X y:=by first|exact .inl rfl|exact .inr rfl|assumption) :
  WDS X (.Assign [.Name y py] (.ListComp elt [⟨tg,iter,ifs,0⟩] scope pos) spos) (M6 i rg (dLC own.length ti g tt te)):=⟨Dl.iZ rg (KJ own hc hN hiN hx hi.h (λc=>(hg c).h) (λc=>(ht c).h) (λc=>(he c).h) hsw hk hs hf)⟩
theorem pF{i:Nat}{x:Str}{es:List Expr}{t:DA}{pos' pos lp:Pos}(r:Nat)(b:Bool)(hN:X.N.Nodup)(hi:X.N[i]?=some x)(hx:Loc X.env.scope x)(he:WDA X es t)(hs:swapsWith (.List es lp) (some (.Name x pos')) pos.line X.env=pure false:=by rfl)(hf:zL X x:=by first|exact .inl rfl|exact .inr rfl|assumption) :
  WDS X (.Assign [.Name x pos'] (.List es lp) pos) (J5 i r b t):=⟨Dl.pF r b (cU hN hi hx (ug he.h) hs hf)⟩
theorem nF{i:Nat}{x:Str}{e1 e2:Expr}{ta tb:DE}{pos' pos lp:Pos}(r:Nat)(b:Bool)(hN:X.N.Nodup)(hi:X.N[i]?=some x)(hx:Loc X.env.scope x)(ha:WD X e1 ta)(hb:WD X e2 tb)(hs:swapsWith (.BinOp e1 .Add e2 lp) (some (.Name x pos')) pos.line X.env=pure false:=by rfl)(hf:zL X x:=by first|exact .inl rfl|exact .inr rfl|assumption) :
  WDS X (.Assign [.Name x pos'] (.BinOp e1 .Add e2 lp) pos) (Ax i r b ta tb):=⟨Dl.nF r b (cU hN hi hx (bG yh ha.h hb.h) hs hf)⟩
theorem uY{tg e:Expr}{te:DE}{g:DG}(he:WD X e te)(hg:WDG X tg g)(hs:swapsWithSole [tg] e pos.line X.env=pure false:=by rfl)(hw:swappedStores [tg] e X.env=pure none:=by rfl)(h1:(assignEach [tg] X.env).map (·.2)=[assign tg X.env]:=by rfl):WDS X (.Assign [tg] e pos) (Qo te g):=⟨Dl.uY (uc he.h hg.h hs hw h1)⟩
theorem dX{i:Nat}{x:Str}{e:Expr}{es:List Expr}{apos cpos np pos:Pos}(hv:WV X (.Name x np) i)(ha:WDA X (e::es) (aF te eN))(hbase:attributeBase (.Name x np) "append" X.env (eval (.Name x np) X.env)=eval (.Name x np) X.env:=by rfl)(hfew:zW X cpos (e::es):=by rfl)(hline:(apos.endLine == cpos.line)=true:=by rfl)(hst:zS X e es:=by rfl)(hplain:zP X cpos es:=by rfl)(hs:swapsWith (.Call (.Attribute (.Name x np) "append" apos) (e::es) [] cpos) none pos.line X.env=pure false:=by rfl) :
  WDS X (.Expr (.Call (.Attribute (.Name x np) "append" apos) (e::es) [] cpos) pos) (M9 i te):=⟨Dl.dX (fY (rQ Ĳ PySem.F.slot_list_append PySem.F.type_list_append rY hv.h ha.h hbase hfew hline hst hplain) hs)⟩
theorem jr{i:Nat}{x:Str}{e:Expr}{es:List Expr}{apos cpos np pos:Pos}(hv:WV X (.Name x np) i)(ha:WDA X (e::es) (aF te eN))(hbase:attributeBase (.Name x np) "extend" X.env (eval (.Name x np) X.env)=eval (.Name x np) X.env:=by rfl)(hfew:zW X cpos (e::es):=by rfl)(hline:(apos.endLine == cpos.line)=true:=by rfl)(hst:zS X e es:=by rfl)(hplain:zP X cpos es:=by rfl)(hs:swapsWith (.Call (.Attribute (.Name x np) "extend" apos) (e::es) [] cpos) none pos.line X.env=pure false:=by rfl) :
  WDS X (.Expr (.Call (.Attribute (.Name x np) "extend" apos) (e::es) [] cpos) pos) (M8 i te):=⟨Dl.jr (fY (rQ Ĳ PySem.F.slot_list_extend PySem.F.type_list_extend nq hv.h ha.h hbase hfew hline hst hplain) hs)⟩
theorem lX{i:Nat}{x:Str}{e:Expr}{es:List Expr}{apos cpos np pos:Pos}(hv:WV X (.Name x np) i)(ha:WDA X (e::es) (aF te eN))(hbase:attributeBase (.Name x np) "append" X.env (eval (.Name x np) X.env)=eval (.Name x np) X.env:=by rfl)(hfew:zW X cpos (e::es):=by rfl)(hline:(apos.endLine == cpos.line)=true:=by rfl)(hst:zS X e es:=by rfl)(hplain:zP X cpos es:=by rfl)(hs:swapsWith (.Call (.Attribute (.Name x np) "append" apos) (e::es) [] cpos) none pos.line X.env=pure false:=by rfl) :
  WDS X (.Expr (.Call (.Attribute (.Name x np) "append" apos) (e::es) [] cpos) pos) (Gp i te):=⟨Dl.lX (fY (rQ Ĳ PySem.F.slot_list_append PySem.F.type_list_append rY hv.h ha.h hbase hfew hline hst hplain) hs)⟩
theorem bW{i:Nat}{x:Str}(hN:X.N.Nodup)(hi:X.N[i]?=some x)(hx:Loc X.env.scope x)(hf:zL X x:=by first|exact .inl rfl|exact .inr rfl|assumption):WDG X (.Name x pos) (gNm i):=⟨Dl.bW (cg hN hi hx hf)⟩
theorem bA{i:Int}{j:Nat}:WD X (.Constant (.int i) j pos) (tK (.int i)):=⟨Dl.bA ⟩
theorem rR{i:Bool}{j:Nat}:WD X (.Constant (.bool i) j pos) (tK (.bool i)):=⟨Dl.rR ⟩
theorem iC{j:Nat}:WD X (.Constant .none j pos) (tK .none):=⟨Dl.iC ⟩
theorem p8{x:Str}{j:Nat}:WD X (.Constant (.str x) j pos) (tK (.str x)):=⟨Dl.p8 ⟩
theorem bx{e:Expr}{t:DE}(h:WD X e t)(he:∀whole,isTrue e X.env whole=(do let v ←whole;standAt e.pos;holding [v] (truthy v)):=by intro _;rfl):WDT X e (fJ t):=⟨Dl.bx (h:=h.h) (he:=he)⟩
theorem bJ{t:DT}(ha:WDT X a t):WDT X (.UnaryOp .Not a pos) (Qm t):=⟨Dl.bJ (ha:=ha.h)⟩
theorem kj(ha:WDT X a t):WDW X (.BoolOp .And [a] pos) t:=⟨Dl.kj (ha:=ha.h)⟩
theorem dH(ha:WDT X a t):WDW X (.BoolOp .Or [a] pos) t:=⟨Dl.dH (ha:=ha.h)⟩
theorem oZ{rest:List Expr}(ha:WDT X a t)(hb:WDW X (.BoolOp .And (b::rest) pos) u):WDW X (.BoolOp .And (a::b::rest) pos) (Nb t u):=⟨Dl.oZ (ha:=ha.h) (hb:=hb.h)⟩
theorem fC{rest:List Expr}(ha:WDT X a t)(hb:WDW X (.BoolOp .Or (b::rest) pos) u):WDW X (.BoolOp .Or (a::b::rest) pos) (dOr t u):=⟨Dl.fC (ha:=ha.h) (hb:=hb.h)⟩
theorem aA :WDA X [] eN:=⟨Dl.aA ⟩
theorem ak(ha:WD X e te)(hr:WDA X es t)(hs:zS X e es:=by rfl):WDA X (e::es) (aF te t):=⟨Dl.ak (ha:=ha.h) (hr:=hr.h) (hs:=hs)⟩
theorem dI(h:WDA X es t):WD X (.List es pos) (Ju t):=⟨Dl.dI (h:=h.h)⟩
theorem kJ{x1}(h:WDA X es t):WD X (.Tuple es x1 pos) (pL t):=⟨Dl.kJ (h:=h.h)⟩
theorem gn(ha:WD X a ta)(hb:WD X b tb):WD X (.BinOp a .Sub b pos) (t2 (gI0 λi j=>.int (i - j)) ta tb):=⟨Dl.gn (ha:=ha.h) (hb:=hb.h)⟩
theorem ur(ha:WD X a ta)(hb:WD X b tb):WD X (.BinOp a .FloorDiv b pos) (t2 (gI Nt λi j=>.int (i / j)) ta tb):=⟨Dl.ur (ha:=ha.h) (hb:=hb.h)⟩
theorem xY(ha:WD X a ta)(hb:WD X b tb):WD X (.BinOp a .Pow b pos) (t2 (gI Nq λi j=>.int (i ^ j.toNat)) ta tb):=⟨Dl.xY (ha:=ha.h) (hb:=hb.h)⟩
theorem Ec(ha:WD X a ta)(hb:WD X b tb):WD X (.Compare a [.LtE] [b] pos) (t2 (gI0 λi j=>.bool (decide (i<=j))) ta tb):=⟨Dl.Ec (ha:=ha.h) (hb:=hb.h)⟩
theorem Eh(ha:WD X a ta)(hb:WD X b tb):WD X (.Compare a [.GtE] [b] pos) (t2 (gI0 λi j=>.bool (decide (j<=i))) ta tb):=⟨Dl.Eh (ha:=ha.h) (hb:=hb.h)⟩
theorem p7(ha:WD X a ta)(hb:WD X b tb):WDT X (.Compare a [.Gt] [b] pos) (fJ (t2 (gI0 λi j=>.bool (decide (j<i))) ta tb)):=⟨Dl.p7 (ha:=ha.h) (hb:=hb.h)⟩
theorem jJ{ps:Pos}(hm:X.mg "len"=none)(ha:WDA X [a] t)(hg:Gl X "len":=by rfl)(he:zS X a []:=by rfl)(hpl:zP X pos []:=by rfl):WD X (.Call (.Name "len" ps) [a] [] pos) (tCl Jd t):=⟨Dl.jJ (hm:=hm) (ha:=ha.h) (hg:=hg) (he:=he) (hpl:=hpl)⟩
theorem uq{ps:Pos}(hm:X.mg "int"=none)(hv:bootBuiltins "int"=some (.type "int"))(ha:WDA X [a] t)(hg:Gl X "int":=by rfl)(he:zS X a []:=by rfl)(hpl:zP X pos []:=by rfl):WD X (.Call (.Name "int" ps) [a] [] pos) (tCl Mw t):=⟨Dl.uq (hm:=hm) (hv:=hv) (ha:=ha.h) (hg:=hg) (he:=he) (hpl:=hpl)⟩
theorem nG :WDSs X [] sI:=⟨Dl.nG ⟩
theorem cj{st:Stmt}{rest:List Stmt}(h1:WDS X st t)(h2:WDSs X rest u):WDSs X (st::rest) (eH t u):=⟨Dl.cj (h1:=h1.h) (h2:=h2.h)⟩
theorem aU{st:Stmt}(h1:WDS X st t):WDSs X [st] t:=⟨Dl.aU (h1:=h1.h)⟩
theorem lU{st:Stmt}:WDS X st (λ_ _=>False):=⟨Dl.lU ⟩
theorem bL(he:WD X e te):WDS X (.Return (some e) pos) (u0 te):=⟨Dl.bL (he:=he.h)⟩
theorem sG{c:Expr}{a b:List Stmt}{tc:DT}(hc:WDT X c tc)(ha:WDSs X a t)(hb:WDSs X b u):WDS X (.If c a b pos) (dIf tc t u):=⟨Dl.sG (hc:=hc.h) (ha:=ha.h) (hb:=hb.h)⟩
theorem pG(he:WD X e te)(hs:swapsWith e none pos.line X.env=pure false:=by rfl):WDS X (.Expr e pos) (J6 te):=⟨Dl.pG (he:=he.h) (hs:=hs)⟩
theorem gK :WDGs X [] wK:=⟨Dl.gK ⟩
theorem qM{g:DG}{gs:DGs}(h1:WDG X e g)(h2:WDGs X es gs)(hs:(assignEach (e::es) X.env).map (·.2)=assign e X.env::(assignEach es X.env).map (·.2):=by rfl):WDGs X (e::es) (fH g gs):=⟨Dl.qM (h1:=h1.h) (h2:=h2.h) (hs:=hs)⟩
theorem jM{gs:DGs}{k n:Nat}(hc:X.calm=true)(h:WDGs X es gs)(hn:(assignEach es X.env).length=n:=by rfl)(hst:(assignEach es X.env).findIdx? (·.1)=none:=by rfl):WDG X (.Tuple es k pos) (gTp n gs):=⟨Dl.jM (hc:=hc) (h:=h.h) (hn:=hn) (hst:=hst)⟩
theorem eE(hl:WD X l tl):WDI X tg l (iSq tl):=⟨Dl.eE (hl:=hl.h)⟩
theorem cY{a:Expr}{ps:Pos}(hm:X.mg "range"=none)(ha:WDA X [a] ta)(hg:Gl X "range":=by rfl)(hs:starEach [a] X.env=[(false,eval a X.env)]:=by rfl):WDI X tg (.Call (.Name "range" ps) [a] [] pos) (iR1 ta):=⟨Dl.cY (hm:=hm) (ha:=ha.h) (hg:=hg) (hs:=hs)⟩
theorem cX{body:List Stmt}(hp:PassesOwn (model X.prog X.w) X.A X.env X.xe)(hc:X.calm=true)(hi:WDI X tg iter ti)(hg:WDG X tg g)(hb:WDSs X body tb)(hs:zF X iter:=by intro _;rfl):WDS X (.For tg iter body [] pos) (M7 ti g tb):=⟨Dl.cX (hp:=hp) (hc:=hc) (hi:=hi.h) (hg:=hg.h) (hb:=hb.h) (hs:=hs)⟩
theorem gJ{X:Cx}:WDTs X [] (λ_ P=>P true):=⟨Dl.gJ ⟩
theorem dN{X:Cx}{c:Expr}{t:DT}(hc:WDT X c t):WDTs X [c] t:=⟨Dl.dN (hc:=hc.h)⟩
theorem cP(own:List Str)(hc:X.calm=true)(hi:WDI X tg iter ti)(hg:∀c,WDG (X.comp own scope c) tg g)(ht:∀c,WDTs (X.comp own scope c) ifs tt)(he:∀c,WD (X.comp own scope c) elt te)(hk:dG X.env scope X.N=true:=by rfl)(hs:zF X iter:=by intro _;rfl):WD X (.ListComp elt [⟨tg,iter,ifs,0⟩] scope pos) (dLC own.length ti g tt te):=⟨Dl.cP (own:=own) (hc:=hc) (hi:=hi.h) (hg:=λc=>(hg c).h) (ht:=λc=>(ht c).h) (he:=λc=>(he c).h) (hk:=hk) (hs:=hs)⟩
theorem iG(own M:List Str)(hc:X.calm=true)(hi:WDI X tg iter ti)(hg:∀c,WDG (X.aR own M scope c) tg g)(ht:∀c,WDTs (X.aR own M scope c) ifs tt)(he:∀c,WD (X.aR own M scope c) elt te)(hk:aO X.env scope X.N M=true:=by decide +kernel)(hs:zF X iter:=by intro _;rfl):WD X (.ListComp elt [⟨tg,iter,ifs,0⟩] scope pos) (dLC own.length ti g tt te):=⟨Dl.iG (own:=own) (M:=M) (hc:=hc) (hi:=hi.h) (hg:=λc=>(hg c).h) (ht:=λc=>(ht c).h) (he:=λc=>(he c).h) (hk:=hk) (hs:=hs)⟩
theorem gq{op}(h:WD X a ta):WD X (.BoolOp op [a] pos) ta:=⟨Dl.gq (h:=h.h)⟩
theorem fG{rest:List Expr}(ha:WD X a ta)(hb:WD X (.BoolOp .And (b::rest) pos) tb):WD X (.BoolOp .And (a::b::rest) pos) (vH ta tb):=⟨Dl.fG (ha:=ha.h) (hb:=hb.h)⟩
theorem mY{ps:Pos}(hc:X.calm=true)(hm:X.mg "all"=none)(hv:bootBuiltins "all"=some (.builtin "all"))(ha:WDA X [a] t)(hg:Gl X "all":=by rfl)(he:zS X a []:=by rfl)(hpl:zP X pos []:=by rfl):WD X (.Call (.Name "all" ps) [a] [] pos) (tCl Mx t):=⟨Dl.mY (hc:=hc) (hm:=hm) (hv:=hv) (ha:=ha.h) (hg:=hg) (he:=he) (hpl:=hpl)⟩
theorem o8{ps:Pos}(hc:X.calm=true)(hm:X.mg "max"=none)(ha:WDA X [a,b] t)(hg:Gl X "max":=by rfl)(he:starEach [a,b] X.env=(false,eval a X.env)::starEach [b] X.env:=by rfl)(hpl:(backTo pos (starEach [b] X.env)).any (·.1)=false:=by rfl):WD X (.Call (.Name "max" ps) [a,b] [] pos) (tCl (gMM λi j=>if j > i then j else i) t):=⟨Dl.o8 (hc:=hc) (hm:=hm) (ha:=ha.h) (hg:=hg) (he:=he) (hpl:=hpl)⟩
theorem uo{ps:Pos}(hc:X.calm=true)(hm:X.mg "min"=none)(ha:WDA X [a,b] t)(hg:Gl X "min":=by rfl)(he:starEach [a,b] X.env=(false,eval a X.env)::starEach [b] X.env:=by rfl)(hpl:(backTo pos (starEach [b] X.env)).any (·.1)=false:=by rfl):WD X (.Call (.Name "min" ps) [a,b] [] pos) (tCl (gMM λi j=>if j<i then j else i) t):=⟨Dl.uo (hc:=hc) (hm:=hm) (ha:=ha.h) (hg:=hg) (he:=he) (hpl:=hpl)⟩
theorem eV{ps:Pos}(hm:X.mg "tuple"=none)(ha:WDA X [a] t)(hg:Gl X "tuple":=by rfl)(he:zS X a []:=by rfl)(hpl:zP X pos []:=by rfl):WD X (.Call (.Name "tuple" ps) [a] [] pos) (tCl FP t):=⟨Dl.eV (hm:=hm) (ha:=ha.h) (hg:=hg) (he:=he) (hpl:=hpl)⟩
theorem qb{ps:Pos}(hm:X.mg "sorted"=none)(ha:WDA X [a] t)(hg:Gl X "sorted":=by rfl)(he:zS X a []:=by rfl)(hpl:zP X pos []:=by rfl):WD X (.Call (.Name "sorted" ps) [a] [] pos) (tCl yO t):=⟨Dl.qb (hm:=hm) (ha:=ha.h) (hg:=hg) (he:=he) (hpl:=hpl)⟩
theorem iB{ps:Pos}(hm:X.mg "sorted"=none)(ha:WDA X [a] t)(hg:Gl X "sorted":=by rfl)(he:zS X a []:=by rfl)(hpl:zP X pos []:=by rfl):WD X (.Call (.Name "sorted" ps) [a] [] pos) (tCl yN t):=⟨Dl.iB (hm:=hm) (ha:=ha.h) (hg:=hg) (he:=he) (hpl:=hpl)⟩
theorem vX(hu:X.A.units+64<cLine)(ha:WD X a ta)(hb:WD X b tb)(hm:behindInMarks .In b=false:=by rfl):WD X (.Compare a [.In] [b] pos) (t2 (gIn false) ta tb):=⟨Dl.vX (hu:=hu) (ha:=ha.h) (hb:=hb.h) (hm:=hm)⟩
theorem mU(hu:X.A.units+64<cLine)(ha:WD X a ta)(hb:WD X b tb)(hm:behindInMarks .In b=false:=by rfl):WDT X (.Compare a [.In] [b] pos) (fJ (t2 (gIn false) ta tb)):=⟨Dl.mU (hu:=hu) (ha:=ha.h) (hb:=hb.h) (hm:=hm)⟩
theorem jk(hu:X.A.units+64<cLine)(ha:WD X a ta)(hb:WD X b tb)(hm:behindInMarks .NotIn b=false:=by rfl):WDT X (.Compare a [.NotIn] [b] pos) (fJ (t2 (gIn true) ta tb)):=⟨Dl.jk (hu:=hu) (ha:=ha.h) (hb:=hb.h) (hm:=hm)⟩
theorem dR :WDO X none JR:=⟨Dl.dR ⟩
theorem cO(h:WD X e te):WDO X (some e) (JQ te):=⟨Dl.cO (h:=h.h)⟩
theorem fD(ha:WD X a ta):WD X (.UnaryOp .USub a pos) (Oa ta):=⟨Dl.fD (ha:=ha.h)⟩
theorem dc{f:List D->(D->Prop)->Prop}(C:Cal X.prog X.w X.K X.mg X.base k x ps (spD f))(hr:Room j X.A)(ha:WDA X (e::es) t)(hk:k<=j:=by decide)(hg:Gl X x:=by rfl)(hdb:zB x:=by decide)(he:zS X e es:=by rfl)(hpl:zP X pos es:=by rfl):WD X (.Call (.Name x p) (e::es) [] pos) (tFn f t):=⟨Dl.dc (C:=C) (hr:=hr) (ha:=ha.h) (hk:=hk) (hg:=hg) (hdb:=hdb) (he:=he) (hpl:=hpl)⟩
theorem dcP{C:Pn->Prop}{i:Nat}{f:List D->(D->Prop)->Prop}{y:Str}{py:Pos}(CC:Cal X.prog X.w X.K X.mg X.base k x ps (spP C f))(hr:Room j X.A)(hi:WV X (.Name y py) i)(ha:WDA X es t)(hk:k<=j:=by decide)(hg:Gl X x:=by rfl)(hdb:zB x:=by decide)(he:starEach (.Name y py::es) X.env=(false,eval (.Name y py) X.env)::starEach es X.env:=by rfl)(hpl:zP X pos es:=by rfl):WD X (.Call (.Name x p) (.Name y py::es) [] pos) (G5 C f i t):=⟨Dl.dcP (CC:=CC) (hr:=hr) (hi:=hi.h) (ha:=ha.h) (hk:=hk) (hg:=hg) (hdb:=hdb) (he:=he) (hpl:=hpl)⟩
theorem dv(i:Nat){x:Str}{pos:Pos}(hN:X.N[i]?=some x:=by rfl)(hv:Vis X.env.scope x:=by first|exact ĵ rfl|exact Or.inr (ĵ rfl)|exact Or.inr (Or.inr rfl))(hd:zB x:=by decide)(hcd:(x == ("__classdict__":Str))=false:=by decide):WD X (.Name x pos) (tV i):=⟨Dl.dv (i:=i) (hN:=hN) (hv:=hv) (hd:=hd) (hcd:=hcd)⟩
theorem yd(ha:WD X a ta)(hb:WD X b tb):WD X (.Compare a [.Is] [b] pos) (t2 FZ ta tb):=⟨Dl.yd (ha:=ha.h) (hb:=hb.h)⟩
theorem cV(ha:WD X a ta)(hb:WD X b tb):WDT X (.Compare a [.IsNot] [b] pos) (fJ (t2 qH ta tb)):=⟨Dl.cV (ha:=ha.h) (hb:=hb.h)⟩
theorem Ed(ha:WD X a ta)(hb:WD X b tb)(hs:pI b:=by exact λ_ _=>rfl):WD X (.Subscript a b pos) (t2 gIx ta tb):=⟨Dl.Ed (ha:=ha.h) (hb:=hb.h) (hs:=hs)⟩
theorem uh(ha:WD X a ta)(hb:WD X b tb):WD X (.BinOp a .Add b pos) (t2 JZ ta tb):=⟨Dl.uh (ha:=ha.h) (hb:=hb.h)⟩
theorem kO(ha:WD X a ta)(hb:WD X b tb):WD X (.BinOp a .Mult b pos) (t2 FQ ta tb):=⟨Dl.kO (ha:=ha.h) (hb:=hb.h)⟩
theorem uw(hu:X.A.units+64<cLine)(ha:WD X a ta)(hb:WD X b tb):WD X (.Compare a [.Eq] [b] pos) (t2 (lN false) ta tb):=⟨Dl.uw (hu:=hu) (ha:=ha.h) (hb:=hb.h)⟩
theorem xZ(hu:X.A.units+64<cLine)(ha:WD X a ta)(hb:WD X b tb):WD X (.Compare a [.NotEq] [b] pos) (t2 (lN true) ta tb):=⟨Dl.xZ (hu:=hu) (ha:=ha.h) (hb:=hb.h)⟩
theorem gb(hu:X.A.units+64<cLine)(ha:WD X a ta)(hb:WD X b tb):WDT X (.Compare a [.Eq] [b] pos) (fJ (t2 (lN false) ta tb)):=⟨Dl.gb (hu:=hu) (ha:=ha.h) (hb:=hb.h)⟩
theorem kE(hu:X.A.units+64<cLine)(ha:WD X a ta)(hb:WD X b tb):WDT X (.Compare a [.NotEq] [b] pos) (fJ (t2 (lN true) ta tb)):=⟨Dl.kE (hu:=hu) (ha:=ha.h) (hb:=hb.h)⟩
theorem jc{rest:List Stmt}(i:Nat)(h:WDSs X rest t):WDSs X rest (Jp i t):=⟨Dl.jc (i:=i) (h:=h.h)⟩
theorem qL{rest:List Stmt}(js:List Nat)(h:WDSs X rest t):WDSs X rest (u5 js t):=⟨Dl.qL (js:=js) (h:=h.h)⟩
theorem kY :WD X (.Dict [] [] pos) (λ_ P=>P .new (.dict [])):=⟨Dl.kY ⟩
theorem gw{ps ps':Pos}(hc:X.calm=true)(hml:X.mg "list"=none)(hmr:X.mg "range"=none)(ha:WDA X [a] t)(hgl:Gl X "list":=by rfl)(hgr:Gl X "range":=by rfl)(he:zS X a []:=by rfl)(hpl:(backTo pos' (starEach [] X.env)).any (·.1)=false:=by rfl)(he2:starEach [.Call (.Name "range" ps') [a] [] pos'] X.env=(false,eval (.Call (.Name "range" ps') [a] [] pos') X.env)::starEach [] X.env:=by rfl)(hpl2:zP X pos []:=by rfl):WD X (.Call (.Name "list" ps) [.Call (.Name "range" ps') [a] [] pos'] [] pos) (Oc t):=⟨Dl.gw (hc:=hc) (hml:=hml) (hmr:=hmr) (ha:=ha.h) (hgl:=hgl) (hgr:=hgr) (he:=he) (hpl:=hpl) (he2:=he2) (hpl2:=hpl2)⟩
theorem mW(N:List Str)(sc:Scope)(tm:Tm)(h:okT N sc tm e=true)(hN:X.N=N:=by rfl)(hs:X.env.scope=sc:=by rfl)(s:smT tm=true:=by decide +kernel):WD X e (Kh tm):=⟨Dl.mW (N:=N) (sc:=sc) (tm:=tm) (h:=h) (hN:=hN) (hs:=hs) (s:=s)⟩
theorem kI(n:Nat)(N:List Str)(sc:Scope)(ts:Tms){t2:DA}(h2:WDA X (es.drop n) t2)(h:jL N sc ts (es.take n)=true)(hN:X.N=N:=by rfl)(hs:X.env.scope=sc:=by rfl)(s:ju 1000 ts=true:=by decide +kernel):WDA X es (Nk ts t2):=⟨Dl.kI (n:=n) (N:=N) (sc:=sc) (ts:=ts) (h2:=h2.h) (h:=h) (hN:=hN) (hs:=hs) (s:=s)⟩
theorem kW(he:WD X e te):WD X (.Subscript e (.Slice none none (some (.UnaryOp .USub (.Constant (.int 1) 0 p1) p2)) p3) pos) (NQ te):=⟨Dl.kW (he:=he.h)⟩
theorem nY{lo hi:Option Expr}{tl th:DO}(he:WD X e te)(hl:WDO X lo tl)(hh:WDO X hi th):WD X (.Subscript e (.Slice lo hi none p2) pos) (NP te tl th):=⟨Dl.nY (he:=he.h) (hl:=hl.h) (hh:=hh.h)⟩
theorem jl{ps:Pos}(hc:X.calm=true)(hm:X.mg "sum"=none)(ha:WDA X [a] t)(hg:Gl X "sum":=by rfl)(he:zS X a []:=by rfl)(hpl:zP X pos []:=by rfl):WD X (.Call (.Name "sum" ps) [a] [] pos) (tCl FT t):=⟨Dl.jl (hc:=hc) (hm:=hm) (ha:=ha.h) (hg:=hg) (he:=he) (hpl:=hpl)⟩
end
section
theorem bQ[Gr]{T:String}{x:Str}{e:Expr}{te:DE}{ps pt pos:Pos}(hk:∀t:Value,(t=.type "NoneType"\/t=.type "bool"\/t=.type "int"\/t=.type "str"\/t=.type "list"\/t=.type "tuple"\/t=.type "dict")->∃n,t=.type n/\ŭ X.K t (.type T)=some (n == T || (T == "int"&&n == "bool")))(hm:X.mg "isinstance"=none)(he:WD X e te)(hT:WC X (.Name x pt) (.ty T))(hg:Gl X "isinstance":=by rfl)(h1:starEach [e,.Name x pt] X.env=(false,eval e X.env)::starEach [.Name x pt] X.env:=by rfl)(h2:starEach [.Name x pt] X.env=(false,eval (.Name x pt) X.env)::starEach [] X.env:=by rfl)(hpl:(backTo pos (starEach [.Name x pt] X.env)).any (·.1)=false:=by rfl) :
  WD X (.Call (.Name "isinstance" ps) [e,.Name x pt] [] pos) (tIs T te):=⟨Dl.bQ hk hm he.h hT.h hg h1 h2 hpl⟩
end
end Wr
set_option autoImplicit false
set_option autoImplicit true
namespace Wr
open PySem L2 PyProof.Rows Dl
section
variable [Gr] {X:Cx}{tj te:DE}
end
section
variable [Gr] {X:Cx}{tj te te1 te2 ta:DE}{t:DS}
end
end Wr
namespace Dl
open PySem L2 PyProof.Rows
section
variable {X:Cx}{pins:List (Addr×Obj)}{σ:L2.St}{H:Hp}{s:Shared}{ok ok':Addr->Prop}
mutual
theorem Rp.jE(f:∀a o,ok a->((∀xs,o≠.tup xs)/\¬Fxd o)->H a=some o->ok' a):∀{v:V}{d:D},Rp ok H v d->Rp ok' H v d
 |_,_,.non=>.non
 |_,_,.bl b=>.bl b
 |_,_,.int i=>.int i
 |_,_,.str x=>.str x
 |_,_,.lst o h r=>.lst (f _ _ o ⟨(λ_ z=>by cases z),λ⟨_,_,z⟩=>by cases z⟩ h) h (Rps.jE f r)
 |_,_,.tup h r=>.tup h (Rps.jE f r)
 |_,_,.dct o h r=>.dct (f _ _ o ⟨(λ_ z=>by cases z),λ⟨_,_,z⟩=>by cases z⟩ h) h (Rkv.jE f r)
theorem Rps.jE(f:∀a o,ok a->((∀xs,o≠.tup xs)/\¬Fxd o)->H a=some o->ok' a):∀{v:List V}{d:List D},Rps ok H v d->Rps ok' H v d
 |_,_,.nil=>.nil
 |_,_,.cons h r=>.cons (Rp.jE f h) (Rps.jE f r)
theorem Rkv.jE(f:∀a o,ok a->((∀xs,o≠.tup xs)/\¬Fxd o)->H a=some o->ok' a):∀{v:List (Key×V)}{d:List (D×D)},Rkv ok H v d->Rkv ok' H v d
 |_,_,.nil=>.nil
 |_,_,.cons h r=>.cons (Rp.jE f h) (Rkv.jE f r)
end
end
section
variable {X:Cx}{pos:Pos}{a e:Expr}{te:DE}{t:DA} [Gr]
end
section
variable [Gr]
abbrev DR:=(D->Prop)->List Sl->Prop
structure WishR(p:Pn)(own:Addr->Option Nat)(H:Hp)(P:D->Prop)(Q:Ends):Prop where
 rt:∀d v H',P d->p.PI H'->(∀b o,H b=some o->¬p.fp b->own b=none->H' b=some o)->Rp (λa=>¬p.fp a) H' v d->Q.rt v H'
def JT(t:DR):TS:=λQ σ H=>∃p H0 own ρ P,EnvD p H0 own σ H ρ/\t P ρ/\WishR p own H P Q
structure WR(X:Cx)(ss:List Stmt)(t:DR):Prop where
 h:PSs X ss (JT t)
def Ov(te:DE):DR:=λP ρ=>te ρ λ_ d=>P d
def vQ(t:DS)(u:DR):DR:=λP ρ=>t { nx:=u P,rt:=λ_=>False } ρ
variable {X:Cx}{pos:Pos}{e:Expr}{te:DE}{st:Stmt}{rest:List Stmt}{t:DS}{u:DR}
theorem Ks(he:Wr.WD X e te):WR X [.Return (some e) pos] (Ov te):=⟨PSs.wk' (cZ (jH he.h)) (by
 rintro Q σ H ⟨p,H0,own,ρ,P,E,t,w⟩
 exact⟨p,H0,own,ρ,_,E,t,λk d v H' h A r=>w.rt d v H' h A.pen (λb o e n _=>A.kp b o e n) (r.mono (λa o=>gD A o) (λ_ _ _ e=>e) λ_ _ e=>e)⟩)⟩
theorem Hh(h1:Wr.WDS X st t)(h2:WR X rest u):WR X (st::rest) (vQ t u):=⟨PSs.wk' (bN h1.h h2.h) (by
 rintro Q σ H ⟨p,H0,own,ρ,P,E,t,w⟩
 refine⟨p,H0,own,ρ,_,E,t,⟨λo s h r e g n=>⟨p,H0,o,r,P,e,n,⟨λd v H' hP hI hk rp=>w.rt d v H' hP hI (λb ob e1 n1 o1=>?_) rp⟩⟩,λ_ _ _ n=>n.elim,λ_ _ _ _ _ _ n=>n.elim,λ_ _ _ _ _ _ n=>n.elim⟩⟩
 obtain⟨e2,o2⟩:=g.keep b ob e1 n1 o1
 exact hk b ob e2 n1 o2)⟩
def QJ(f:List D->(D->Prop)->Prop)(t:DA):DE:=λρ P=>t ρ λks=>(ks.all λk=>k.1.le .shr)=true/\f (ks.map (·.2)) λd=>P (norm .shr d) d
theorem zO{p:Pn}{H0 Hb H H2:Hp}{own:Addr->Option Nat}(A:At p H0 own Hb H):∀{vs:List V}{ks:List (Kd×D)},RpK p H0 own Hb H2 vs ks->(ks.all λk=>k.1.le .shr)=true->Rps (okK p H0 own Hb .shr) H2 vs (ks.map (·.2))
 |_,_,.nil,_=>.nil
 |_,_,.cons h t,q=>by
  rw[ş,Ê] at q
  exact .cons (jA A q.1 h) (zO A t q.2)
variable {k j:Nat}{x:Str}{ps:List Str}{es:List Expr}{ta:DA}{p:Pos}
end
end Dl
namespace Wr
open PySem L2 PyProof.Rows Dl
variable [Gr] {X:Cx}{pos:Pos}{a:Expr}{t:DA}
end Wr
namespace Dl
open PySem L2 PyProof.Rows
variable [Gr]
section
variable {X:Cx}{pos:Pos}{st:Stmt}{rest:List Stmt}{t u:DS}{te tj t1 t2:DE}
end
end Dl
namespace Wr
open PySem L2 PyProof.Rows Dl
section
variable [Gr] {X:Cx}{tj te t1 t2:DE}{t u:DS}
end
end Wr
set_option autoImplicit false
namespace L2
open PySem PySem.Spec PyProof.Rows
section
variable {X:Cx}{k:Nat}{f CF:Addr}{fd:FuncData}{ps:List Str}{sp:Sp}{E:XK}{x hx n:Str}{p np cpos epos hpos pos:Pos}{e:Expr}{es:List Expr}{t:TA}{b₀:Stmt}{suite:List Stmt}{ts:TS}{j:Nat}
end
section
variable {X:Cx}{k:Nat}{f CF:Addr}{fd:FuncData}{ps:List Str}{sp:Sp}{E:XK}{x hx n:Str}{p np cpos epos hpos pos:Pos}{e:Expr}{es:List Expr}{t:TA}{b₀:Stmt}{suite:List Stmt}{ts:TS}{j:Nat}
end
end L2
namespace Dl
open PySem L2 PyProof.Rows
section
variable [Gr] {X:Cx}{pos:Pos}{a:Expr}{t:DA}
theorem boot_str:bootBuiltins "str"=some (.type "str"):=by decide +kernel
def FW:GC:=λks P=>match ks with
 |[(_,.int i)]=>i.natAbs.log2<1920/\P .imm (.str (toString i))
 |_=>False
theorem o7{ps:Pos}(hm:X.mg "str"=none)(ha:PDA X [a] t)(hg:Gl X "str":=by rfl)(he:zS X a []:=by rfl)(hpl:zP X pos []:=by rfl):PD X (.Call (.Name "str" ps) [a] [] pos) (tCl FW t) :=
 qe u6 (by
  intro p H0 own Hb H vs ks P Q A r t q
  unfold FW at t
  split at t
  ·rename_i k i
   obtain⟨v,rfl,r'⟩:=fM r
   rw[r'.int']
   exact⟨i,rfl,t.1,q _ _ _ _ t.2 Kp.refl A.pen (.str _)⟩
  ·exact t.elim) hg hm boot_str ha (by decide) (by decide) he hpl
end
end Dl
namespace Wr
open PySem L2 PyProof.Rows Dl
section
variable [Gr] {X:Cx}{pos:Pos}{a:Expr}{t:DA}
theorem o7{ps:Pos}(hm:X.mg "str"=none)(ha:WDA X [a] t)(hg:Gl X "str":=by rfl)(he:zS X a []:=by rfl)(hpl:zP X pos []:=by rfl):WD X (.Call (.Name "str" ps) [a] [] pos) (tCl FW t):=⟨Dl.o7 hm ha.h hg he hpl⟩
end
end Wr
namespace Dl
open PySem L2 PyProof.Rows
structure Ext(p q:Pn):Prop where
 pv:q.pv=p.pv
 fp:∀a,p.fp a->q.fp a
 pi:∀H,q.PI H->p.PI H
 go:∀H H',q.PI H->Kp p H H'->p.PI H'->q.PI H'
def CE(C:Pn->Prop)(q:Pn):Prop:=∃p,C p/\Ext p q
def Bh(C:Pn->Prop)(f:List D->(D->Prop)->Prop):Sp:=λvs H Q _=>∃(p:Pn) (ok:Addr->Prop) (vs':List V) (ds:List D) (P:D->Prop),C p/\vs=p.pv::vs'/\p.PI H/\Rps (λa=>ok a/\¬p.fp a) H vs' ds/\f ds P/\∀d v H',P d->Kp p H H'->p.PI H'->Rp (λa=>(ok a/\¬p.fp a)\/H a=none) H' v d->Q v H'
theorem Fp{C:Pn->Prop}{f:List D->(D->Prop)->Prop}{n:Nat}(hn:∀ds P,f ds P->ds.length=n:=by intro _ _ h;repeat (first|(obtain⟨rfl,_⟩:=h;rfl)|obtain⟨_,h⟩:=h)):∀vs H Q E,Bh C f vs H Q E->vs.length=n+1:=λvs H Q E h=>by
 obtain⟨p,ok,vs',ds,P,_,rfl,_,r,t,_⟩:=h
 rw[Ý,r.length,hn ds P t]
section
variable [Gr]
theorem Jl{C:Pn->Prop}{p:Pn}{H:Hp}{N:List Str}{vs':List V}{ds:List D}(g:Gr.G p H)(c:C p)(pi:p.PI H)(r:Rps (λa=>¬p.fp a) H vs' ds):EnvD p H (λ_=>none) (L2.start N (p.pv::vs')) H (.pen C::(ds.map aQ++Ì (N.length - (ds.length+1)) .any)):=by
 have E0:=nC (p:=p) (N:=N.drop 1) g pi r
 refine⟨λ_ _ e _=>e,pi,(λ_ _ e=>nomatch e),λj s e=>?_,by unfold L2.start;simp[r.length],g⟩
 cases j with
 |zero =>
  have e:=ã e
  subst e
  exact⟨rfl,c⟩
 |succ j =>
  rw[ŕ] at e
  have hl:N.length - (ds.length+1)=(N.drop 1).length - vs'.length:=by rw[r.length,ý];omega
  rw[hl] at e
  have q:=E0.slot j s e
  have es:(L2.start N (p.pv::vs'))[j+1]?=(L2.start (N.drop 1) vs')[j]?:=by
   unfold L2.start
   have:N.length - (p.pv::vs').length=(N.drop 1).length - vs'.length:=by rw[ý,Ý];omega
   rw[this]
   simp
  cases s <;> simp only[gQ,es] at q ⊢ <;> exact q
theorem Jm{C:Pn->Prop}{f:List D->(D->Prop)->Prop}{T:DR}{N:List Str}{vs:List V}{H:Hp}{Q:VK}{E:XK}(h:Bh C f vs H Q E)(body:∀ds P,f ds P->∃ρ,ds.map aQ++Ì (N.length - (ds.length+1)) .any=ρ/\T P (.pen (CE C)::ρ))(g:∀p,Gr.G p H:=by intro _;trivial):JT T { nx:=λ_ H'=>Q .non H',rt:=Q } (L2.start N vs) H:=by
 obtain⟨p,ok,vs',ds,P,c,rfl,pi,r,t,k⟩:=h
 obtain⟨ρ,e,b⟩:=body ds P t
 let q:Pn:=⟨λa=>p.fp a\/(¬ok a/\¬p.fp a/\∃o,H a=some o/\(∀xs,o≠.tup xs)/\¬Fxd o),λH'=>p.PI H'/\∀b o,¬ok b->¬p.fp b->H b=some o->((∀xs,o≠.tup xs)/\¬Fxd o)->H' b=some o,p.pv,
  λH1 H2 h1 h2=>⟨p.mono H1 H2 h1.1 λb o z e=>h2 b o (z.imp .inl id) e,λb o n m e1 e2=>h2 b o (.inl (.inr ⟨n,m,o,e1,e2⟩)) (h1.2 b o n m e1 e2)⟩,
  λH1 b h1 z=>z.elim (λz=>p.is H1 b h1.1 z) λ⟨n,m,o,e1,e2⟩=>⟨o,h1.2 b o n m e1 e2,e2⟩⟩
 have x:Ext p q:=⟨rfl,λ_ z=>.inl z,λ_ z=>z.1,λH1 H2 h1 kp h2=>⟨h2,λb o n m e1 e2=>kp b o (h1.2 b o n m e1 e2) m⟩⟩
 have E:=Jl (C:=CE C) (p:=q) (N:=N) (g q) ⟨p,c,x⟩ ⟨pi,λ_ _ _ _ e _=>e⟩ (r.mono (ok':=λa=>¬q.fp a) (λa o z=>z.elim o.2 λz=>z.1 o.1) (λ_ _ _ e=>e) λ_ _ e=>e)
 rw[e] at E
 refine⟨q,H,λ_=>none,_,_,E,b,⟨λd v H' hP hI hk rp=>?_⟩⟩
 have kp:Kp p H H':=λb o e n=>by
  by_cases hf:q.fp b
  ·rcases hf with z|⟨n1,m1,o',e1,e2⟩
   ·exact(n z).elim
   ·rw[e] at e1
    cases e1
    exact hI.2 b o n1 m1 e e2
  ·exact hk b o e hf rfl
 refine k d v H' hP kp hI.1 (rp.jE λa o n1 n2 e1=>?_)
 have nf:¬p.fp a:=λz=>n1 (.inl z)
 cases hx:H a with
 |none=>exact .inr rfl
 |some o' =>
  have e2:=kp a o' hx nf
  rw[e1] at e2
  cases e2
  exact .inl ⟨Ğ λz=>n1 (.inr ⟨z,nf,o,hx,n2⟩),nf⟩
variable {X:Cx}{pos:Pos}{c:Expr}{a rest:List Stmt}{tc:DT}{t u:DR}
def Jv(C:Pn->Prop)(f:List D->(D->Prop)->Prop)(i:Nat)(t:DA):DE:=λρ P=>ρ[i]?=some (.pen C)/\QJ f t ρ P
variable {k j i:Nat}{x y:Str}{ps:List Str}{es:List Expr}{ta:DA}{pp py:Pos}
theorem Ql{C:Pn->Prop}{f:List D->(D->Prop)->Prop}(CC:Cal X.prog X.w X.K X.mg X.base k x ps (Bh C f))(hr:Room j X.A)(hi:Wr.WV X (.Name y py) i)(ha:Wr.WDA X es ta)(hk:k<=j:=by decide)(hg:Gl X x:=by rfl)(hdb:zB x:=by decide)(he:starEach (.Name y py::es) X.env=(false,eval (.Name y py) X.env)::starEach es X.env:=by rfl)(hpl:zP X pos es:=by rfl) :
  Wr.WD X (.Call (.Name x pp) (.Name y py::es) [] pos) (Jv C f i ta):=⟨PE.wk (pcS CC hr (eX hi.h ha.h) hk hg hdb he hpl) (by
 rintro σ H Q ⟨p,H0,own,ρ,P,E,⟨hp,t⟩,q⟩
 obtain⟨hs,c⟩:=E.slot i _ hp
 refine⟨p.pv,hs,p,H0,own,ρ,_,E,t,λks vs H1 h A r=>?_⟩
 show Bh C f ((p.pv::vs)++[]) H1 Q E0
 rw[ć]
 have r2:=zO A r h.1
 refine⟨p,okK p H0 own _ .shr,vs,ks.map (·.2),_,c,rfl,A.pen,r2.mono (λa o=>⟨o,gD A o⟩) (λ_ _ _ e=>e) (λ_ _ e=>e),h.2,λd v H' h2 k2 i2 r3=>?_⟩
 refine q _ d v H' h2 (A.go k2 i2) (aW ?_)
 refine r3.mono (λa o=>?_) (λ_ _ _ e=>e) λ_ _ e=>e
 rcases o with o|o
 ·exact o.1
 ·exact bZ A (j:=.new) (k:=.shr) rfl (A.free o))⟩
end
end Dl
namespace L2
open PySem PySem.Spec PyProof.Rows Builtin
section
variable {X:Cx}
end
end L2
namespace Dl
open PySem L2 PyProof.Rows
section
variable [Gr]
variable {X:Cx}{pos:Pos}{a b e:Expr}{ta tb te:DE}{p1 p2 p3:Pos}
end
end Dl
namespace Wr
open PySem L2 PyProof.Rows Dl
section
variable [Gr] {X:Cx}{pos:Pos}{a b e:Expr}{ta tb te:DE}{p1 p2 p3:Pos}
end
end Wr
namespace L2
open PySem PySem.Spec PyProof.Rows Builtin
section
variable {X:Cx}
end
end L2
namespace Dl
open PySem L2 PyProof.Rows
section
variable [Gr] {X:Cx}{pos p2:Pos}{a b e:Expr}{t:DA}{ta tb te:DE}
end
end Dl
namespace Wr
open PySem L2 PyProof.Rows Dl
section
variable [Gr] {X:Cx}{pos p2:Pos}{a b e:Expr}{t:DA}{ta tb te:DE}
end
end Wr
namespace Dl
open PySem L2 PyProof.Rows
variable [Gr]
section
variable {X:Cx}{st st2:Stmt}{rest:List Stmt}{te1 te2:DE}{tt:DT}{tr:TS}{t:DS}
end
section
variable {X:Cx}{own:List Str}{scope:Scope}{tg iter elt:Expr}{ifs:List Expr}{pos:Pos}{g:DG}{tt:DT}{te:DE}
end
end Dl
namespace Wr
open PySem L2 PyProof.Rows Dl
variable [Gr]
section
variable {X:Cx}{te1 te2:DE}{tt:DT}{tr:TS}{t:DS}
end
end Wr
namespace PySem
open PySem.W PyProof.Rows PySem.Spec
section
variable {prog:Program}{w:World}{A:Around}{E:Value->Shared->Prop}{s:Shared}{it l:Addr}{items:Array Value}
end
end PySem
namespace L2
open PySem PySem.Spec PyProof.Rows
section
variable {X:Cx}
end
end L2
namespace Dl
open PySem L2 PyProof.Rows
section
variable [Gr] {X:Cx}{a:Expr}{t:DA}
end
end Dl
namespace Wr
open PySem L2 PyProof.Rows Dl
section
variable [Gr] {X:Cx}{a:Expr}{t:DA}
end
end Wr
namespace L2
open PySem PyProof.Rows
section
variable {X:Cx}{pins:List (Addr×Obj)}{σ:List (Option V)}{H:Hp}{s:Shared}
end
end L2
namespace Dl
open PySem L2 PyProof.Rows
variable [Gr]
section
variable {X:Cx}{pos pos':Pos}{a:Expr}{t:DA}
end
end Dl
namespace Wr
open PySem L2 PyProof.Rows Dl
section
variable [Gr] {X:Cx}{pos pos':Pos}{a:Expr}{t:DA}
end
end Wr
namespace L2
open PySem PySem.Spec PyProof.Rows
section
variable {prog:Program}{w:World}{A:Around}{E:Value->Shared->Prop}{s:Shared}
end
section
variable {X:Cx}
end
end L2
namespace Dl
open PySem L2 PyProof.Rows
section
variable {X:Cx}{pos:Pos}{a e:Expr}{t:DA} [Gr]
end
end Dl
namespace L2
open PySem PySem.Spec PyProof.Rows
open AutoSeq1 in
section
variable {X:Cx}
end
end L2
namespace Dl
open PySem L2 PyProof.Rows
variable [Gr]
section
variable {X:Cx}{st:Stmt}{te:DE}{pos:Pos}{ta:DA}
end
end Dl
namespace Wr
open PySem L2 PyProof.Rows Dl
section
variable [Gr] {X:Cx}{pos:Pos}{a:Expr}{ta t:DA}{te:DE}
end
end Wr
namespace Dl
open PySem L2 PyProof.Rows
variable [Gr]
section
variable {X:Cx}{st st2:Stmt}{rest:List Stmt}{tj te1 te2:DE}{tt:DT}{t:DS}{K:Þ}
end
end Dl
namespace Wr
open PySem L2 PyProof.Rows Dl
section
variable [Gr] {X:Cx}{tj te1 te2:DE}
end
end Wr
namespace L2
open PySem PySem.Spec PyProof.Rows
structure LamScope(ps ys:List Str)(sc:Scope)(cl:List (Str×Addr)):Prop where
 kind:sc.kind=.function
 co:sc.isCoroutine=false
 gen:sc.isGenerator=false
 nd:(ps++ys).Nodup
 par:∀x∈ps,sc.names.lookup x=some .local
 fre:∀y∈ys,sc.names.lookup y=some .free
 nocell:∀x∈sc.names,x.2≠.cell
 all:∀x,sc.names.lookup x=some .free->∃c,cl.lookup x=some c
 inj:∀x y c,cl.lookup x=some c->cl.lookup y=some c->x=y
structure Caps(base:Heap)(cl:List (Str×Addr))(ys:List Str)(cvs:List V):Prop where
 len:cvs.length=ys.length
 cells:∀x c,cl.lookup x=some c->∃v,base.IsCell c v
 val:∀(j:Nat) (y:Str) (v:V),ys[j]?=some y->cvs[j]?=some v->∃c u,cl.lookup y=some c/\base.IsCell c (some u)/\RelV v u
def Qp(x:Obj)(qual:Str):Prop:=∃vs t,x.data=.fields vs/\vs[1]?=some (.str qual t)
def Qt(H:Hp)(c':Addr)(qual:Str):Prop:=∃x φ,H c'=some (.frz x (.ext φ))/\Qp x qual
section
variable {X:Cx}{CX:CXT}{k i:Nat}{f:Addr}{fd:FuncData}{ps:List Str}{sp:Sp}{E:XK}{x:Str}{p pos:Pos}{e:Expr}{es:List Expr}{t:TA}
end
section
variable {X:Cx}{pins:List (Addr×Obj)}{σ:St}{H:Hp}{s:Shared}{c P:Addr}{pos:Pos}{qual:Str}{params:Arguments}{body:Expr}{scope:Scope}{cl:List (Str×Addr)}{Q:Value->Shared->Prop}{E:Value->Shared->Prop}
end
structure LamAt(base:Heap)(f c':Addr)(qual:Str)(params:Arguments)(body:Expr)(scope:Scope)(cl:List (Str×Addr))(ys:List Str)(cvs:List V)(H:Hp):Prop where
 fn:∃pm ctv,base.get? f=some (W.kla_obj "<lambda>" qual params body scope cl pm c' ctv)
 caps:Caps base cl ys cvs
 kn:Qt H c' qual
section
variable {X:Cx}{k:Nat}{fh c P:Addr}{fdh:FuncData}{ps ys:List Str}{sp:Heap->Sp}{x:Str}{p pos lpos:Pos}{e:Expr}{te:TE}{qual:Str}{params:Arguments}{body:Expr}{scope:Scope}{cl:List (Str×Addr)}
end
end L2
namespace Dl
open PySem L2 PyProof.Rows
section
variable [Gr] {X:Cx}{k j:Nat}{x:Str}{ps:List Str}{e:Expr}{es:List Expr}{t:DA}{p pos:Pos}{C:Pn->Prop}{T:Pn}{i:Nat}{f:List D->(D->Prop)->Prop}
end
section
variable {X:Cx}{k j:Nat}{x:Str}{ps:List Str}{e:Expr}{es:List Expr}{t:DA}{p pos:Pos}{Z:Hp->Prop}{i:Nat}{f:Addr}{fd:FuncData}{g:List D->(D->Prop)->Prop}
end
end Dl
namespace Wr
open PySem L2 PyProof.Rows Dl
variable {X:Cx}{k j:Nat}{x:Str}{ps:List Str}{e:Expr}{es:List Expr}{t:DA}{p pos:Pos}{Z:Hp->Prop}{i:Nat}{f:Addr}{fd:FuncData}{g:List D->(D->Prop)->Prop}
end Wr
set_option autoImplicit true
namespace Dl
open PySem L2 PyProof.Rows
class Tb where
 T:Pn
instance (priority:=low) noTb:Tb:=⟨jC⟩
def qW[Tb](a:Addr)(n:Nat):Pn where
 fp:=λb=>b=a\/Tb.T.fp b
 PI:=λH=>(∃x y c:Int,H a=some (.lst [.int x,.int y,.int c])/\0<=c/\c+(n:Int)<=1152921504606846976)/\Tb.T.PI H/\¬Tb.T.fp a
 pv:=.ref a
 mono:=λH H' ⟨⟨x,y,c,h,r⟩,t,na⟩ k=>⟨⟨x,y,c,k _ _ (.inl (.inl rfl)) h,r⟩,Tb.T.mono H H' t λb o z e=>k b o (z.imp .inr id) e,na⟩
 is:=λH b ⟨⟨x,y,z,h,_⟩,t,_⟩ hb=>hb.elim (λhb=>by
  subst hb
  exact⟨_,h,(λxs z=>(nomatch z)),λ⟨_,_,z⟩=>(nomatch z)⟩) (Tb.T.is H b t)
def TP:Pn->Prop:=λ_=>True
def QK:Sl->Sl
 |.pen _=>.pen TP
 |s=>s
def stp(ρ:List Sl):List Sl:=ρ.map QK
section
variable [Tb] {X:Cx}{a:Addr}{n m m1 m2 m3:Nat}{H0 Hb H H1 H':Hp}{own:Addr->Option Nat}{σ:L2.St}{ρ:List Sl}
structure EnvB(a:Addr)(n m:Nat)(H0:Hp)(own:Addr->Option Nat)(σ:L2.St)(H:Hp)(ρ:List Sl):Prop where
 st:stp ρ=ρ
 pi:(qW a (n+m)).PI H
 env:EnvD (qW a n) H0 own σ H ρ
def LR(m:Nat)(t:DE):TE:=λσ H Q=>∃a n H0 own ρ P,EnvB a n m H0 own σ H ρ/\t ρ P/\∀k d v H',P k d->At (qW a n) H0 own H H'->Rp (okK (qW a n) H0 own H k) H' v d->Q v H'
def Ma(m:Nat)(t:DA):TA:=λσ H Q=>∃a n H0 own ρ P,EnvB a n m H0 own σ H ρ/\t ρ P/\∀ks vs H',P ks->At (qW a n) H0 own H H'->RpK (qW a n) H0 own H H' vs ks->Q vs H'
def yH(m:Nat)(t:DT):TT:=λσ H Q=>∃a n H0 own ρ P,EnvB a n m H0 own σ H ρ/\t ρ P/\∀b H',P b->At (qW a n) H0 own H H'->Q b H'
def LQ(m:Nat)(t:DI):TI:=λσ H R=>∃a n H0 own ρ P,EnvB a n m H0 own σ H ρ/\t ρ P/\∀k ds J H1 Ok,P k ds->At (qW a n) H0 own H H1->Wlk Ok J ds (okA (qW a n) H0 own H k H1)->Ok H1->R J H1
def Fl(m:Nat)(t:DS):TS:=λQ σ H=>∃a n H0 own ρ P,EnvB a n m H0 own σ H ρ/\t P ρ/\Wish (qW a n) H0 own H P Q
end
end Dl
namespace Wb
open PySem L2 PyProof.Rows Dl Wr
section
variable [Tb]
structure BE(X:Cx)(m:Nat)(e:Expr)(t:DE):Prop where
 h:PE X e (LR m t)
structure BA(X:Cx)(m:Nat)(e:List Expr)(t:DA):Prop where
 h:PA X e (Ma m t)
structure BT(X:Cx)(m:Nat)(e:Expr)(t:DT):Prop where
 h:PT X e (yH m t)
structure BW(X:Cx)(m:Nat)(e:Expr)(t:DT):Prop where
 h:PW X e (yH m t)
structure BTs(X:Cx)(m:Nat)(e:List Expr)(t:DT):Prop where
 h:PTs X e (yH m t)
structure BI(X:Cx)(m:Nat)(tg e:Expr)(t:DI):Prop where
 h:PI X tg e (LQ m t)
structure BS(X:Cx)(m:Nat)(s:Stmt)(t:DS):Prop where
 h:PS X s (Fl m t)
structure BSs(X:Cx)(m:Nat)(s:List Stmt)(t:DS):Prop where
 h:PSs X s (Fl m t)
end
section
variable [Tb] {X:Cx}{n m m1 m2 m3:Nat}{H0 Hb H H1 H':Hp}{own:Addr->Option Nat}{σ:L2.St}{ρ:List Sl}{pos:Pos}{a b e:Expr}{es:List Expr}{ta tb te:DE}{t:DA}
section
variable {rest:List Expr}{t u:DT}
end
end
end Wb
namespace Dl
open PySem L2 PyProof.Rows
section
variable [Tb]
end
end Dl
namespace Wb
open PySem L2 PyProof.Rows Dl Wr
section
variable [Tb]
end
section
variable [Tb] {X:Cx}{n m m1 m2 m3:Nat}{H0 Hb H H1 H':Hp}{own:Addr->Option Nat}{σ:L2.St}{ρ:List Sl}{pos:Pos}{a b e:Expr}{es:List Expr}{ta tb te:DE}
def eH(t u:DS):DS:=λP ρ=>t { nx:=λr=>u P (stp r),rt:=P.rt,bk:=λr=>P.bk (stp r),ct:=λr=>P.ct (stp r) } ρ
section
variable {st:Stmt}{rest:List Stmt}{t u:DS}
end
end
variable {X:Cx}{K:Þ}{sc:Addr}{ns:List Int}{pre:List D->Prop}
end Wb
namespace Wr
open PySem L2 PyProof.Rows Dl
variable [Gr] {X:Cx}{pos:Pos}{a b:Expr}{ta tb:DE}
end Wr
namespace Dl
open PySem L2 PyProof.Rows
section
variable [Gr] {X:Cx}{st:Stmt}{i k a b:Nat}{f:List D->(D->Prop)->Prop}
end
end Dl
namespace Wr
open PySem L2 PyProof.Rows Dl
section
variable [Gr] {X:Cx}{i k a b lv j:Nat}{f:List D->(D->Prop)->Prop}{x g y z1 z2:Str}{ps:List Str}{apos cpos np pos gp gpos py px pa pb:Pos}
end
end Wr
namespace L2
open PySem PySem.Spec PyProof.Rows
open PySem.AutoSeq1 (wpAny_loadPart')
open PySem.MeetsSeq PySem.MeetsSeq3
section
variable {X:Cx}
end
end L2
namespace Dl
open PySem L2 PyProof.Rows
variable [Gr] {X:Cx}{a b:Expr}{ta tb:DE}{pos:Pos}
end Dl
namespace Wr
open PySem L2 PyProof.Rows Dl
variable [Gr] {X:Cx}{a b:Expr}{ta tb:DE}{pos:Pos}
end Wr
namespace Cut
def mg(es:List Int)(X:Int->Bool):Nat:=es.countP X
structure Prp(n:Nat)(X:Int->Bool):Prop where
 ins:∃v:Int,(0<=v/\v<n)/\X v=true
 out:∃v:Int,(0<=v/\v<n)/\X v=false
section
variable {n k:Nat}{us:List (Int×Int)}{es:List Int}
end
section
variable {n k:Nat}{us:List (Int×Int)}{es:List Int}
end
end Cut
namespace Cut
def di(us:List (Int×Int))(X:Int->Bool):Nat:=us.countP λt=>!X t.1&&X t.2
def dO(us:List (Int×Int))(X:Int->Bool):Nat:=us.countP λt=>X t.1&&!X t.2
section
variable {n k:Nat}{us:List (Int×Int)}{H T:List Int}{a:Int}
structure Fit(n k:Nat)(us:List (Int×Int))(H T:List Int):Prop where
 rH:∀e∈H,0<=e/\e<(n:Int)
 rT:∀e∈T,0<=e/\e<(n:Int)
 len:H.length=T.length
 c1:∀X,Prp n X->k<=di us X+mg H X
 c2:∀X,Prp n X->k<=dO us X+mg T X
end
section
variable {n k:Nat}{H:List Int}{d e:(Int->Bool)->Nat}
end
end Cut
namespace Dl
open PySem L2 PyProof.Rows
section
variable {X:Cx}{k j:Nat}{x:Str}{ps:List Str}{e:Expr}{es:List Expr}{t:DA}{p pos:Pos}{T:Pn}{f:List D->(D->Prop)->Prop}
end
end Dl
namespace Wr
open PySem L2 PyProof.Rows Dl
variable {X:Cx}{k j:Nat}{x:Str}{ps:List Str}{e:Expr}{es:List Expr}{t:DA}{p pos:Pos}{T:Pn}{f:List D->(D->Prop)->Prop}
end Wr
namespace Dl
open PySem L2 PyProof.Rows
@[reducible] def grE(a CN:Addr):Gr:=⟨λp H0=>p=jC/\H0 a=some (Rv a (.ref CN))⟩
variable {X:Cx}{pos:Pos}
structure RefK(K:Þ)(mg:Str->Option Value)(xN:Str)(xs:List Str)(CN CF c1 c2 c3 c4 c5 c6 c7 c8 c9:Addr):Prop where
 mF:mg "FallError"=some (.ref CF)
 mN:mg xN=some (.ref CN)
 m1:mg (xs.getD 0 "")=some (.ref c1)
 m2:mg (xs.getD 1 "")=some (.ref c2)
 m3:mg (xs.getD 2 "")=some (.ref c3)
 m4:mg (xs.getD 3 "")=some (.ref c4)
 m5:mg (xs.getD 4 "")=some (.ref c5)
 m6:mg (xs.getD 5 "")=some (.ref c6)
 m7:mg (xs.getD 6 "")=some (.ref c7)
 m8:mg (xs.getD 7 "")=some (.ref c8)
 m9:mg (xs.getD 8 "")=some (.ref c9)
 mV:mg "ValueError"=none
 exm:W.exmOne K (.ref CN) (.ref CF)=some true
 kx:ExcK K CN
 no:∀c∈[ń c1,.ref c2,.ref c3,.ref c4,.ref c5,.ref c6,.ref c7,.ref c8,.ref c9],ŭ K (.ref CN) c=some false
 one:ŭ K (.ref CN) (.ref CN)=some true
 val:ŭ K (.ref CN) (.type "ValueError")=some true
end Dl
namespace L2
open PySem PySem.Spec PyProof.Rows
variable {X:Cx}{k:Nat}{f CF:Addr}{fd:FuncData}{ps:List Str}{sp:Sp}{x hx n:Str}{p np cpos epos hpos:Pos}{e:Expr}{es:List Expr}{t:TA}{b₀:Stmt}{suite:List Stmt}{ts:TS}{j:Nat}
end L2
namespace Dl
open PySem L2 PyProof.Rows
variable [Gr] {X:Cx}{st:Stmt}{tj:DE}
end Dl
namespace Wr
open PySem L2 PyProof.Rows Dl
variable [Gr] {X:Cx}{pos:Pos}
end Wr
namespace L2
open PySem PySem.Spec PyProof.Rows
section
variable {X:Cx}{tg:Expr}
end
end L2
namespace Dl
open PySem L2 PyProof.Rows
variable [Gr]
section
variable {X:Cx}{tg:Expr}{pos:Pos}{ta:DA}
end
end Dl
namespace Wr
open PySem L2 PyProof.Rows Dl
variable [Gr] {X:Cx}{tg:Expr}{pos:Pos}{ta:DA}
end Wr
namespace Dl
open PySem L2 PyProof.Rows
variable [Gr]
section
variable {X:Cx}{st st2:Stmt}{rest:List Stmt}{te:DE}{t:DS}
end
end Dl
namespace Wr
open PySem L2 PyProof.Rows Dl
section
variable [Gr] {X:Cx}{te:DE}
end
end Wr
namespace Dl
open PySem L2 PyProof.Rows
variable [Gr]
variable {X:Cx}{st:Stmt}{te tj:DE}
end Dl
namespace Wr
open PySem L2 PyProof.Rows Dl
variable [Gr] {X:Cx}
end Wr
set_option maxHeartbeats 4000000
namespace L2
open PySem PySem.Spec PyProof.Rows
def Ak:Bool->Keyed->Array Keyed->Nat->Nat->Nat->StateT SortSt Sem (Option Nat):=sortPriv% PySem.Builtin.gallop
section
variable {M:Model}{A:Around}{E:Value->Shared->Prop}{s:Shared}
def Lts(M:Model)(A:Around)(E:Value->Shared->Prop)(s:Shared)(κ:SortKind)(mem:Keyed->Prop)(key:Keyed->Int):Prop:=∀(x y:Keyed) (st:SortSt) (Q:Option Bool->SortSt->Prop),mem x->mem y->kindOf st=κ->Q (some (decide (key x<key y))) st->wpS M A E s (lt' x y) Q st
variable {κ:SortKind}{mem:Keyed->Prop}{key:Keyed->Int}
theorem aG{arr:Array Keyed}{i:Nat}{p:Keyed}{Q:Keyed->SortSt->Prop}{st:SortSt}(e:arr[i]?=some p)(h:Q p st):wpS M A E s (elem' arr i) Q st:=by
 rw[elem'_eq,e]
 exact Ù h
def byd(left:Bool)(key:Keyed->Int)(k x:Keyed):Bool:=if left then decide (key x<key k) else !decide (key k<key x)
theorem jN(L:Lts M A E s κ mem key){left:Bool}{k:Keyed}{arr:Array Keyed}{i:Nat}{x:Keyed}{Q:Option Bool->SortSt->Prop}{st:SortSt}(hk:kindOf st=κ)(mk:mem k)(mx:mem x)(e:arr[i]?=some x)(h:Q (some (byd left key k x)) st) :
  wpS M A E s (do let x ←elem' arr i;if left then lt' x k else return (←lt' k x).map (!·)) Q st:=by
 refine Ñ (aG e ?_)
 cases left with
 |true=>exact L x k st Q mx mk hk h
 |false =>
  show wpS M A E s (do let r ←lt' k x;pure (r.map (!·))) Q st
  exact Ñ (L k x st _ mk mx hk (Ù h))
theorem pJ{F:Nat->Option (Option Nat)×Nat×Nat->StateT SortSt Sem (ForInStep (Option (Option Nat)×Nat×Nat))}{b:Nat->Bool}{n lo hi:Nat}{Q:Option (Option Nat)×Nat×Nat->SortSt->Prop}{st:SortSt}(mono:∀i j,i<=j->j<n->b j=true->b i=true)(hlh:lo<=hi)(hn:hi<=n)(h0:∀i,i<lo->b i=true)(h1:∀i,hi<=i->i<n->b i=false)(f0:∀x lo hi Q',hi<=lo->Q' (.done (none,lo,hi)) st->wpS M A E s (F x (none,lo,hi)) Q' st)(f1:∀x lo hi Q',lo<hi->hi<=n->(b (lo+(hi - lo) / 2)=true->Q' (.yield (none,lo+(hi - lo) / 2+1,hi)) st)->(b (lo+(hi - lo) / 2)=false->Q' (.yield (none,lo,lo+(hi - lo) / 2)) st)->wpS M A E s (F x (none,lo,hi)) Q' st)(h:∀lo r,r<=n->(∀i,i<r->b i=true)->(∀i,r<=i->i<n->b i=false)->Q (none,lo,r) st):wpS M A E s (forIn [:n] (none,lo,hi) F) Q st:=by
 refine Ĕ (I:=λy c st'=>st'=st/\∃l r,c=(none,l,r)/\l<=r/\r<=n/\r - l<=n - y/\(∀i,i<l->b i=true)/\∀i,r<=i->i<n->b i=false) ?_ ?_ ⟨rfl,lo,hi,rfl,hlh,hn,by omega,h0,h1⟩
 ·rintro y c st' _ hy ⟨rfl,l,r,rfl,g1,g2,g3,g4,g5⟩
  by_cases z:r<=l
  ·have e:l=r:=by omega
   subst e
   exact f0 y l l _ z (h l l g2 g4 g5)
  ·refine f1 y l r _ (by omega) g2 (λe=>⟨rfl,_,_,rfl,by omega,g2,by omega,λi hi=>mono i _ (by omega) (by omega) e,g5⟩) (λe=>⟨rfl,_,_,rfl,by omega,by omega,by omega,g4,λi h1 h2=>?_⟩)
   cases eb:b i with
   |false=>rfl
   |true=>rw[mono _ i h1 h2 eb] at e;cases e
 ·rintro c st' ⟨rfl,l,r,rfl,g1,g2,g3,g4,g5⟩
  have e:l=r:=by omega
  subst e
  exact h l l g2 g4 g5
theorem Gv{left:Bool}{k:Keyed}{n:Nat}{f:Nat->Keyed}(hs:∀i j,i<=j->j<n->key (f i)<=key (f j)):∀i j,i<=j->j<n->byd left key k (f j)=true->byd left key k (f i)=true:=λi j h1 h2 e=>by
 have:=hs i j h1 h2
 unfold byd at e ⊢
 cases left with
 |true =>
  have e:decide (key (f j)<key k)=true:=e
  have e:=of_decide_eq_true e
  exact decide_eq_true (show key (f i)<key k by omega)
 |false =>
  have e:(!decide (key k<key (f j)))=true:=e
  rw[Bool.not_eq_true'] at e
  have e:=of_decide_eq_false e
  show(!decide (key k<key (f i)))=true
  rw[Bool.not_eq_true']
  exact decide_eq_false (by omega)
theorem xH(L:Lts M A E s κ mem key){left:Bool}{k:Keyed}{arr:Array Keyed}{base n hint:Nat}{f:Nat->Keyed}{Q:Option Nat->SortSt->Prop}{st:SortSt}(hk:kindOf st=κ)(mk:mem k)(hf:∀i,i<n->arr[base+i]?=some (f i)/\mem (f i))(hs:∀i j,i<=j->j<n->key (f i)<=key (f j))(hh:hint<n)(h:∀r,r<=n->(∀i,i<r->byd left key k (f i)=true)->(∀i,r<=i->i<n->byd left key k (f i)=false)->Q (some r) st):wpS M A E s (Ak left k arr base n hint) Q st:=by
 have mono:=Gv (left:=left) (k:=k) hs
 refine Ñ (jN L hk mk (hf hint hh).2 (hf hint hh).1 ?_)
 dsimp only
 by_cases c:byd left key k (f hint)=true
 ·rw[if_pos c]
  refine Ñ (Ő (Ĕ (I:=λy r st'=>st'=st/\∃a b,r=(none,a,b)/\a<b/\y+1<=b/\hint+a<n/\byd left key k (f (hint+a))=true) (Q:=λr st'=>st'=st/\∃a b,r=(none,a,b)/\a<b/\hint+a<n/\byd left key k (f (hint+a))=true/\(hint+b<n->byd left key k (f (hint+b))=false)) ?_ ?_ ⟨rfl,0,1,rfl,by omega,by omega,by omega,c⟩) ?_)
  ·rintro y r st' _ hy ⟨rfl,a,b,rfl,g1,g2,g3,g4⟩
   dsimp only
   by_cases z:b ≥ n - hint
   ·rw[if_pos z]
    exact Ù ⟨rfl,a,b,rfl,g1,g3,g4,λz2=>by omega⟩
   ·rw[if_neg z]
    refine Ñ (jN L hk mk (hf (hint+b) (by omega)).2 (hf (hint+b) (by omega)).1 ?_)
    dsimp only
    cases e:byd left key k (f (hint+b)) with
    |true=>exact Ù ⟨rfl,b,2 * b+1,rfl,by omega,by omega,by omega,e⟩
    |false=>exact Ù ⟨rfl,a,b,rfl,g1,g3,g4,λ_=>e⟩
  ·rintro r st' ⟨rfl,a,b,rfl,g1,g2,g3,g4⟩
   exact⟨rfl,a,b,rfl,g1,g3,g4,λz2=>by omega⟩
  ·rintro r st' ⟨rfl,a,b,rfl,g1,g3,g4,g5⟩
   dsimp only
   refine Ñ (pJ (b:=λi=>byd left key k (f i)) mono (by omega) (by omega) (λi hi=>mono i _ (by omega) g3 g4) (λi h1 h2=>?_) (λx lo hi Q' z q=>?_) (λx lo hi Q' z z2 q1 q2=>?_) (λlo r h1 h2 h3=>Ù (h r h1 h2 h3)))
   ·cases e:byd left key k (f i) with
    |false=>rfl
    |true =>
     have e2:=g5 (by omega)
     rw[mono (hint+b) i (by omega) h2 e] at e2
     cases e2
   ·dsimp only
    rw[if_pos (by omega)]
    exact Ù q
   ·dsimp only
    rw[if_neg (by omega)]
    refine Ñ (jN L hk mk (hf _ (by omega)).2 (hf _ (by omega)).1 ?_)
    dsimp only
    cases e:byd left key k (f (lo+(hi - lo) / 2)) with
    |true=>exact Ù (q1 e)
    |false=>exact Ù (q2 e)
 ·rw[if_neg c]
  have c:byd left key k (f hint)=false:=Bool.eq_false_iff.mpr c
  refine Ñ (Ő (Ĕ (I:=λy r st'=>st'=st/\∃a b,r=(none,a,b)/\a<b/\y+1<=b/\a<=hint/\byd left key k (f (hint - a))=false) (Q:=λr st'=>st'=st/\∃a b,r=(none,a,b)/\a<b/\a<=hint/\byd left key k (f (hint - a))=false/\(b<=hint->byd left key k (f (hint - b))=true)) ?_ ?_ ⟨rfl,0,1,rfl,by omega,by omega,by omega,c⟩) ?_)
  ·rintro y r st' _ hy ⟨rfl,a,b,rfl,g1,g2,g3,g4⟩
   dsimp only
   by_cases z:b ≥ hint+1
   ·rw[if_pos z]
    exact Ù ⟨rfl,a,b,rfl,g1,g3,g4,λz2=>by omega⟩
   ·rw[if_neg z]
    refine Ñ (jN L hk mk (hf (hint - b) (by omega)).2 (hf (hint - b) (by omega)).1 ?_)
    dsimp only
    cases e:byd left key k (f (hint - b)) with
    |true=>exact Ù ⟨rfl,a,b,rfl,g1,g3,g4,λ_=>e⟩
    |false=>exact Ù ⟨rfl,b,2 * b+1,rfl,by omega,by omega,by omega,e⟩
  ·rintro r st' ⟨rfl,a,b,rfl,g1,g2,g3,g4⟩
   exact⟨rfl,a,b,rfl,g1,g3,g4,λz2=>by omega⟩
  ·rintro r st' ⟨rfl,a,b,rfl,g1,g3,g4,g5⟩
   dsimp only
   refine Ñ (pJ (b:=λi=>byd left key k (f i)) mono (by omega) (by omega) (λi hi=>mono i (hint - b) (by omega) (by omega) (g5 (by omega))) (λi h1 h2=>?_) (λx lo hi Q' z q=>?_) (λx lo hi Q' z z2 q1 q2=>?_) (λlo r h1 h2 h3=>Ù (h r h1 h2 h3)))
   ·cases e:byd left key k (f i) with
    |false=>rfl
    |true =>
     rw[mono (hint - a) i (by omega) h2 e] at g4
     cases g4
   ·dsimp only
    rw[if_pos (by omega)]
    exact Ù q
   ·dsimp only
    rw[if_neg (by omega)]
    refine Ñ (jN L hk mk (hf _ (by omega)).2 (hf _ (by omega)).1 ?_)
    dsimp only
    cases e:byd left key k (f (lo+(hi - lo) / 2)) with
    |true=>exact Ù (q1 e)
    |false=>exact Ù (q2 e)
end
section
variable {key:Keyed->Int}
def eO(key:Keyed->Int)(l:List Keyed):Prop:=l.Pairwise λx y=>key x<=key y
def Lel(key:Keyed->Int)(l r:List Keyed):Prop:=∀x∈l,∀y∈r,key x<=key y
structure MI(key:Keyed->Int)(T out R S:List Keyed):Prop where
 pm:(out++(R++S)).Perm T
 so:eO key out
 sr:eO key R
 ss:eO key S
 le:Lel key out (R++S)
theorem fK{l r:List Keyed}:eO key (l++r)↔eO key l/\eO key r/\Lel key l r:=List.pairwise_append
theorem MI.left{T out u R S:List Keyed}(h:MI key T out (u++R) S)(hu:Lel key u S):MI key T (out++u) R S:=by
 obtain⟨p,so,sr,ss,le⟩:=h
 obtain⟨s1,s2,s3⟩:=fK.mp sr
 refine⟨?_,fK.mpr ⟨so,s1,λx hx y hy=>le x hx y ?_⟩,s2,ss,λx hx y hy=>?_⟩
 ·rw[þ]
  rw[þ] at p
  exact p
 ·exact ô _ (ô _ hy)
 ·rcases Ð.mp hx with hx|hx
  ·refine le x hx y ?_
   rcases Ð.mp hy with hy|hy
   ·exact ô _ (Õ _ hy)
   ·exact Õ _ hy
  ·rcases Ð.mp hy with hy|hy
   ·exact s3 x hx y hy
   ·exact hu x hx y hy
theorem MI.sym{T out R S:List Keyed}(h:MI key T out R S):MI key T out S R :=
 ⟨(List.Perm.append_left out List.perm_append_comm).trans h.pm,h.so,h.ss,h.sr,λx hx y hy=>h.le x hx y (by
  rcases Ð.mp hy with hy|hy
  ·exact Õ _ hy
  ·exact ô _ hy)⟩
theorem MI.right{T out u R S:List Keyed}(h:MI key T out R (u++S))(hu:Lel key u R):MI key T (out++u) R S:=(h.sym.left hu).sym
theorem MI.fin{T out R S:List Keyed}(h:MI key T out R S)(hu:Lel key R S):eO key (out++(R++S)):=fK.mpr ⟨h.so,fK.mpr ⟨h.sr,h.ss,hu⟩,h.le⟩
end
def Fb:Array Keyed->Array Keyed->StateT SortSt Sem (Array Keyed):=sortPriv% PySem.Builtin.mergeLo
def Fd:Array Keyed->Array Keyed->StateT SortSt Sem (Array Keyed):=sortPriv% PySem.Builtin.mergeHi
structure Alk(st st':SortSt):Prop where
 a:arrOf st'=arrOf st
 k:kindOf st'=kindOf st
 p:pendingOf st'=pendingOf st
 f:failedOf st'=failedOf st
section
variable {key:Keyed->Int}{a b out:Array Keyed}{ia ib k:Nat}
def MA(key:Keyed->Int)(a b out:Array Keyed)(ia ib:Nat):Prop:=MI key (a.toList++b.toList) out.toList (a.toList.drop ia) (b.toList.drop ib)
def Gd(key:Keyed->Int)(a b r:Array Keyed):Prop:=r.toList.Perm (a.toList++b.toList)/\eO key r.toList
theorem drop_one(a:Array Keyed)(h:ia<a.size):a.toList.drop ia=[a[ia]]++a.toList.drop (ia+1):=by
 rw[Ň (by simpa using h)]
 rfl
theorem uZ(a:Array Keyed)(h:ia+k<=a.size):a.toList.drop ia=(a.extract ia (ia+k)).toList++a.toList.drop (ia+k):=by
 rw[Array.toList_extract,←List.drop_drop]
 show _=List.extract a.toList ia (ia+k)++_
 rw[Ů]
 rw[show ia+k - ia=k by omega]
 exact(Č k _).symm
theorem pC(a:Array Keyed):(a.extract ia).toList=a.toList.drop ia:=by
 rw[Array.toList_extract]
 show List.extract a.toList ia a.size=_
 rw[Ů]
 exact Ļ (by simp)
theorem oN{x:Keyed}{l:List Keyed}(h:eO key ([x]++l)):Lel key [x] ([x]++l):=λy hy z hz=>by
 rw[È.mp hy]
 rcases Ð.mp hz with hz|hz
 ·rw[È.mp hz]
  exact ÿ _
 ·exact(fK.mp h).2.2 x (È.mpr rfl) z hz
theorem MA.tB(h:MA key a b out ia ib)(hb:ib<b.size)(ha:ia<a.size)(c:key b[ib]<=key a[ia]):MA key a b (out.push b[ib]) ia (ib+1):=by
 unfold MA at h ⊢
 rw[drop_one b hb] at h
 rw[Ķ]
 refine h.right λx hx y hy=>?_
 rw[È.mp hx]
 have s:=h.sr
 rw[drop_one a ha] at s hy
 exact ē c (oN s _ (È.mpr rfl) y hy)
theorem MA.tA(h:MA key a b out ia ib)(hb:ib<b.size)(ha:ia<a.size)(c:key a[ia]<=key b[ib]):MA key a b (out.push a[ia]) (ia+1) ib:=by
 unfold MA at h ⊢
 rw[drop_one a ha] at h
 rw[Ķ]
 refine h.left λx hx y hy=>?_
 rw[È.mp hx]
 have s:=h.ss
 rw[drop_one b hb] at s hy
 exact ē c (oN s _ (È.mpr rfl) y hy)
theorem Af{a:Array Keyed}{x:Keyed}(h:x∈(a.extract ia (ia+k)).toList):∃j,j<k/\∃hj:ia+j<a.size,x=a[ia+j]:=by
 obtain⟨j,hj,rfl⟩:=Ĵ.mp h
 have hj2:j<(a.extract ia (ia+k)).size:=hj
 rw[ģ] at hj2
 exact⟨j,by omega,by omega,by simp⟩
theorem MA.tAs(h:MA key a b out ia ib)(hb:ib<b.size)(hk:ia+k<=a.size)(c:∀j (hj:ia+j<a.size),j<k->key a[ia+j]<=key b[ib]):MA key a b (out++a.extract ia (ia+k)) (ia+k) ib:=by
 unfold MA at h ⊢
 rw[uZ a hk] at h
 rw[ă]
 refine h.left λx hx y hy=>?_
 obtain⟨j,hj,hj2,rfl⟩:=Af hx
 have s:=h.ss
 rw[drop_one b hb] at s hy
 exact ē (c j hj2 hj) (oN s _ (È.mpr rfl) y hy)
theorem MA.tBs(h:MA key a b out ia ib)(ha:ia<a.size)(hk:ib+k<=b.size)(c:∀j (hj:ib+j<b.size),j<k->key b[ib+j]<=key a[ia]):MA key a b (out++b.extract ib (ib+k)) ia (ib+k):=by
 unfold MA at h ⊢
 rw[uZ b hk] at h
 rw[ă]
 refine h.right λx hx y hy=>?_
 obtain⟨j,hj,hj2,rfl⟩:=Af hx
 have s:=h.sr
 rw[drop_one a ha] at s hy
 exact ē (c j hj2 hj) (oN s _ (È.mpr rfl) y hy)
theorem MA.done(h:MA key a b out ia ib)(c:ia=a.size\/ib=b.size):Gd key a b (out++a.extract ia++b.extract ib):=by
 unfold MA at h
 have e:(out++a.extract ia++b.extract ib).toList=out.toList++(a.toList.drop ia++b.toList.drop ib):=by
  rw[ă,ă,pC,pC,þ]
 refine⟨by rw[e];exact h.pm,?_⟩
 rw[e]
 refine h.fin λx hx y hy=>?_
 rcases c with c|c
 ·rw[List.drop_eq_nil_of_le (by simp[c])] at hx
  cases hx
 ·rw[List.drop_eq_nil_of_le (by simp[c])] at hy
  cases hy
theorem MA.last(h:MA key a b out ia ib)(c:ia+1=a.size)(h1:∀y∈b.toList,key y<key (a[ia]'(by omega))):Gd key a b (out++b.extract ib++a.extract ia):=by
 unfold MA at h
 have e:(out++b.extract ib++a.extract ia).toList=out.toList++(b.toList.drop ib++a.toList.drop ia):=by
  rw[ă,ă,pC,pC,þ]
 refine⟨by rw[e];exact h.sym.pm,?_⟩
 rw[e]
 refine h.sym.fin λx hx y hy=>?_
 rw[drop_one a (by omega),List.drop_eq_nil_of_le (by simp;omega),ć,List.mem_singleton] at hy
 rw[hy]
 exact ā (h1 x (List.mem_of_mem_drop hx))
end
section
variable {M:Model}{A:Around}{E:Value->Shared->Prop}{s:Shared}{κ:SortKind}{mem:Keyed->Prop}{key:Keyed->Int}
theorem au{α:Type}{c:Prop}[Decidable c]{t u:StateT SortSt Sem α}{Q:α->SortSt->Prop}{st:SortSt}(h1:c->wpS M A E s t Q st)(h2:¬c->wpS M A E s u Q st):wpS M A E s (if c then t else u) Q st:=by
 by_cases h:c
 ·rw[if_pos h]
  exact h1 h
 ·rw[if_neg h]
  exact h2 h
def ga(xs:Array Keyed)(i:Nat):Keyed:=(xs[i]?).getD (.none,.none)
theorem bw{xs:Array Keyed}{i:Nat}(h:i<xs.size):ga xs i=xs[i]:=by
 unfold ga
 rw[getElem?_pos xs i h]
 rfl
theorem cW{xs:Array Keyed}{i:Nat}(h:i<xs.size):xs[i]?=some (ga xs i):=by
 rw[bw h,getElem?_pos xs i h]
theorem jU{xs:Array Keyed}(h:eO key xs.toList):∀i j,i<=j->j<xs.size->key (ga xs i)<=key (ga xs j):=λi j hij hj=>by
 rw[bw hj,bw (by omega)]
 by_cases e:i=j
 ·subst e
  exact ÿ _
 ·have:=List.pairwise_iff_getElem.mp h i j (by simp;omega) (by simpa using hj) (by omega)
  simpa using this
theorem sX{k x:Keyed}{c:Bool}(h:byd false key k x=c):if c then key x<=key k else key k<key x:=by
 have h:(!decide (key k<key x))=c:=h
 subst h
 by_cases z:key k<key x
 ·rw[decide_eq_true z]
  exact z
 ·rw[decide_eq_false z]
  exact ł.mp z
theorem sY{k x:Keyed}{c:Bool}(h:byd true key k x=c):if c then key x<key k else key k<=key x:=by
 have h:decide (key x<key k)=c:=h
 subst h
 by_cases z:key x<key k
 ·rw[decide_eq_true z]
  exact z
 ·rw[decide_eq_false z]
  exact ł.mp z
theorem jh(L:Lts M A E s κ mem key){left:Bool}{k:Keyed}{arr:Array Keyed}{base n hint:Nat}{Q:Option Nat->SortSt->Prop}{st:SortSt}(hk:kindOf st=κ)(mk:mem k)(ma:∀x∈arr.toList,mem x)(hs:∀i j,base<=i->i<=j->j<base+n->key (ga arr i)<=key (ga arr j))(hb:base+n<=arr.size)(hh:hint<n)(h:∀r,r<=n->(∀i,i<r->byd left key k (ga arr (base+i))=true)->(∀i,r<=i->i<n->byd left key k (ga arr (base+i))=false)->Q (some r) st):wpS M A E s (Ak left k arr base n hint) Q st :=
 xH L (f:=λi=>ga arr (base+i)) hk mk (λi hi=>⟨cW (by omega),by rw[bw (by omega)];exact ma _ (by simp)⟩) (λi j h1 h2=>hs _ _ (by omega) (by omega) (by omega)) hh h
theorem vA(hr:∀(t:String) (Q:Unit->Shared->Prop),Q () s->wpAny M A (rule t) Q E s)(L:Lts M A E s κ mem key){a b:Array Keyed}{Q:Array Keyed->SortSt->Prop}{st:SortSt}(hk:kindOf st=κ)(ma:∀x∈a.toList,mem x)(mb:∀x∈b.toList,mem x)(sa:eO key a.toList)(sb:eO key b.toList)(na:0<a.size)(nb:0<b.size)(h0:∀y∈a.toList,key b[0]<key y)(h1:∀y∈b.toList,key y<key a[a.size - 1])(h:∀out st',Alk st st'->out.toList.Perm (a.toList++b.toList)->eO key out.toList->Q out st'):wpS M A E s (Fb a b) Q st:=by
 refine Ñ (wpS_lift (hr _ _ ⟨rfl,?_⟩))
 refine Ñ (aG (p:=b[0]) (by rw[getElem?_pos]) ?_)
 dsimp only
 have e0:MA key a b #[b[0]] 0 1:=by
  show MI key _ [b[0]] a.toList (b.toList.drop 1)
  have eb:b.toList=[b[0]]++b.toList.drop 1:=by
   have:=drop_one b nb
   rwa [List.drop_zero] at this
  have s2:=sb
  rw[eb] at s2
  obtain⟨q1,q2,q3⟩:=fK.mp s2
  refine⟨?_,List.pairwise_singleton _ _,sa,q2,λx hx y hy=>?_⟩
  ·conv=>rhs;rw[eb]
   rw[←þ,←þ]
   exact List.Perm.append_right _ List.perm_append_comm
  ·rcases Ð.mp hy with hy|hy
   ·rw[È.mp hx]
    exact ā (h0 y hy)
   ·exact q3 x hx y hy
 have fin:∀r st',Gd key a b r->Alk st st'->Q r st':=λr st' g k=>h r st' k g.1 g.2
 by_cases c1:1=b.size
 ·rw[if_pos (by simpa using c1)]
  exact Ù (fin _ _ (e0.done (.inr c1)) ⟨rfl,rfl,rfl,rfl⟩)
 rw[if_neg (by simpa using c1)]
 have h1':∀(i:Nat) (hi:i<a.size),i+1=a.size->∀y∈b.toList,key y<key a[i]:=λi hi e y hy=>by
  have:=h1 y hy
  have e2:a.size - 1=i:=by omega
  simpa only[e2] using this
 by_cases c2:0+1=a.size
 ·rw[if_pos (by simpa using c2)]
  exact Ù (fin _ _ (e0.last c2 (h1' 0 na c2)) ⟨rfl,rfl,rfl,rfl⟩)
 rw[if_neg (by simpa using c2)]
 refine Ñ (wpS_get ?_)
 refine Ñ (Ő (Ĕ (I:=λx c st'=>Alk st st'/\∃out ia ib g,c=(none,out,ia,ib,g)/\MA key a b out ia ib/\ia+1<a.size/\ib<b.size/\x+1<=ia+ib) (Q:=λc st'=>Alk st st'/\∃r u,c=(some r,u)/\Gd key a b r) ?step ?fin ⟨⟨rfl,rfl,rfl,rfl⟩,_,_,_,_,rfl,e0,by omega,by omega,by omega⟩) ?post)
 case fin =>
  rintro c st' ⟨_,out,ia,ib,g,rfl,q,q1,q2,q3⟩
  omega
 case post =>
  rintro c st' ⟨k,r,u,rfl,g⟩
  exact Ù (fin r st' g k)
 case step =>
  rintro x c st' _ hx ⟨k,out,ia,ib,g,rfl,q,q1,q2,q3⟩
  dsimp only
  refine Ñ (Ő (Ĕ (I:=λy c st2=>st2=st'/\∃out ia ib ac bc,c=(none,out,ia,ib,ac,bc)/\MA key a b out ia ib/\ia+1<a.size/\ib<b.size/\x+1+y<=ia+ib) (Q:=λc st2=>st2=st'/\((∃r u,c=(some r,u)/\Gd key a b r)\/∃out ia ib ac bc,c=(none,out,ia,ib,ac,bc)/\MA key a b out ia ib/\ia+1<a.size/\ib<b.size/\x+2<=ia+ib)) ?istep ?ifin ⟨rfl,_,_,_,_,_,rfl,q,q1,q2,by omega⟩) ?ipost)
  case ifin =>
   rintro c st2 ⟨rfl,out,ia,ib,ac,bc,rfl,q,q1,q2,q3⟩
   exact⟨rfl,.inr ⟨_,_,_,_,_,rfl,q,q1,q2,by omega⟩⟩
  case istep =>
   rintro y c st2 _ hy ⟨rfl,out,ia,ib,ac,bc,rfl,q,q1,q2,q3⟩
   dsimp only
   have hia:ia<a.size:=by omega
   refine Ñ (aG (p:=b[ib]) (by rw[getElem?_pos]) ?_)
   refine Ñ (aG (p:=a[ia]) (by rw[getElem?_pos]) ?_)
   refine Ñ (L _ _ _ _ (mb _ (by simp)) (ma _ (by simp)) (k.k.trans hk) ?_)
   dsimp only
   by_cases cc:key b[ib]<key a[ia]
   ·rw[if_pos (decide_eq_true cc)]
    refine Ñ (aG (p:=b[ib]) (by rw[getElem?_pos]) ?_)
    have q':=q.tB q2 hia (ā cc)
    by_cases c3:ib+1=b.size
    ·rw[if_pos (by simpa using c3)]
     exact Ù ⟨rfl,.inl ⟨_,_,rfl,q'.done (.inr c3)⟩⟩
    ·rw[if_neg (by simpa using c3)]
     split
     ·exact Ù ⟨rfl,.inr ⟨_,_,_,_,_,rfl,q',q1,by omega,by omega⟩⟩
     ·exact Ù ⟨rfl,_,_,_,_,_,rfl,q',q1,by omega,by omega⟩
   ·rw[if_neg (by simpa using cc)]
    refine Ñ (aG (p:=a[ia]) (by rw[getElem?_pos]) ?_)
    have q':=q.tA q2 hia (ł.mp cc)
    by_cases c3:ia+1+1=a.size
    ·rw[if_pos (by simpa using c3)]
     exact Ù ⟨rfl,.inl ⟨_,_,rfl,q'.last c3 (h1' _ _ c3)⟩⟩
    ·rw[if_neg (by simpa using c3)]
     split
     ·exact Ù ⟨rfl,.inr ⟨_,_,_,_,_,rfl,q',by omega,q2,by omega⟩⟩
     ·exact Ù ⟨rfl,_,_,_,_,_,rfl,q',by omega,q2,by omega⟩
  case ipost =>
   rintro c st2 ⟨rfl,(⟨r,u,rfl,gd⟩|⟨out,ia,ib,ac,bc,rfl,q,q1,q2,q3⟩)⟩
   ·exact Ù ⟨k,_,_,rfl,gd⟩
   dsimp only
   refine Ñ (wpS_lift (hr _ _ ⟨rfl,?_⟩))
   refine Ñ (Ő (Ĕ (I:=λy c st2=>Alk st st2/\∃out ia ib g ac bc,c=(none,out,ia,ib,g,ac,bc)/\MA key a b out ia ib/\ia+1<a.size/\ib<b.size/\x+2<=ia+ib) (Q:=λc st2=>Alk st st2/\((∃r u,c=(some r,u)/\Gd key a b r)\/∃out ia ib g ac bc,c=(none,out,ia,ib,g,ac,bc)/\MA key a b out ia ib/\ia+1<a.size/\ib<b.size/\x+2<=ia+ib)) ?gstep ?gfin ⟨k,_,_,_,_,_,_,rfl,q,q1,q2,by omega⟩) ?gpost)
   case gfin =>
    rintro c st2 ⟨k2,out,ia,ib,g,ac,bc,rfl,q,q1,q2,q3⟩
    exact⟨k2,.inr ⟨_,_,_,_,_,_,rfl,q,q1,q2,q3⟩⟩
   case gpost =>
    rintro c st2 ⟨k2,(⟨r,u,rfl,gd⟩|⟨out,ia,ib,g,ac,bc,rfl,q,q1,q2,q3⟩)⟩
    ·exact Ù ⟨k2,_,_,rfl,gd⟩
    ·dsimp only
     refine Ñ (ļ (Ù ⟨⟨k2.a,k2.k,k2.p,k2.f⟩,_,_,_,_,rfl,q,q1,q2,by omega⟩))
   case gstep =>
    rintro y c st2 _ hy ⟨k2,out,ia,ib,g,ac,bc,rfl,q,q1,q2,q3⟩
    dsimp -zeta only
    have hia:ia<a.size:=by omega
    refine au (λ_=>?_) (λ_=>?_)
    all_goals
     refine Ñ (ļ ?_)
     refine Ñ (aG (p:=b[ib]) (by rw[getElem?_pos]) ?_)
     refine Ñ (jh L (left:=false) (hk:=k2.k.trans hk) (mb _ (by simp)) ma (λi j _ h2 h3=>jU sa i j h2 (by omega)) (by omega) (by omega) λr r0 r1 r2=>?_)
     dsimp only
     have q4:MA key a b (out++a.extract ia (ia+r)) (ia+r) ib:=q.tAs q2 (by omega) λj hj hr2=>by
      have:=sX (r1 j hr2)
      rw[bw hj] at this
      exact this
     have b4:ia+r<a.size->key b[ib]<key (ga a (ia+r)):=λh2=>sX (r2 r (Ë _) (by omega))
     refine au (λc3=>au (λc4=>Ù ⟨⟨k2.a,k2.k,k2.p,k2.f⟩,.inl ⟨_,_,rfl,q4.last (by simpa using c4) (h1' _ _ (by simpa using c4))⟩⟩) (λc4=>au (λc5=>Ù ⟨⟨k2.a,k2.k,k2.p,k2.f⟩,.inl ⟨_,_,rfl,q4.done (.inl (by simpa using c5))⟩⟩) λc5=>?_)) (λc3=>?_)
     all_goals first
      | (have c4:¬ia+r+1=a.size:=by simpa using c4
         have c5:¬ia+r=a.size:=by simpa using c5
         have w9:ia+r+1<a.size:=by omega
         have b9:=b4 (by omega)
         have x9:x+2<=ia+r+ib:=by omega
         generalize out++a.extract ia (ia+r)=out9 at q4 ⊢
         generalize ia+r=ia9 at q4 w9 b9 x9 ⊢)
      | (have e9:r=0:=by omega
         subst e9
         have w9:ia+1<a.size:=q1
         have b9:key b[ib]<key (ga a ia):=b4 (by omega)
         have x9:x+2<=ia+ib:=q3
         replace q4:=q
         generalize out=out9 at q4 ⊢
         generalize ia=ia9 at q4 w9 b9 x9 ⊢)
     all_goals
      have a9:ia9<a.size:=by omega
      refine Ñ (aG (p:=b[ib]) (by rw[getElem?_pos]) ?_)
      have q10:=q4.tB q2 a9 (by rw[←bw a9];exact ā b9)
      refine au (λc6=>Ù ⟨⟨k2.a,k2.k,k2.p,k2.f⟩,.inl ⟨_,_,rfl,q10.done (.inr (by simpa using c6))⟩⟩) (λc6=>?_)
      have c6:¬ib+1=b.size:=by simpa using c6
      refine Ñ (aG (p:=a[ia9]) (by rw[getElem?_pos]) ?_)
      refine Ñ (jh L (left:=true) (hk:=k2.k.trans hk) (ma _ (by simp)) mb (λi j _ h2 h3=>jU sb i j h2 (by omega)) (by omega) (by omega) λt t0 t1 t2=>?_)
      dsimp only
      have q11:=q10.tBs (k:=t) a9 (by omega) λj hj ht=>by
       have:=sY (t1 j ht)
       rw[bw hj] at this
       exact ā this
      have b11:ib+1+t<b.size->key a[ia9]<=key (ga b (ib+1+t)):=λh2=>sY (t2 t (Ë _) (by omega))
      refine au (λc7=>au (λc8=>Ù ⟨⟨k2.a,k2.k,k2.p,k2.f⟩,.inl ⟨_,_,rfl,q11.done (.inr (by simpa using c8))⟩⟩) λc8=>?_) (λc7=>?_)
      all_goals first
       | (have c8:¬ib+1+t=b.size:=by simpa using c8
          have w12:ib+1+t<b.size:=by omega
          have b12:=b11 w12
          have x12:x+2<=ia9+(ib+1+t):=by omega
          generalize out9.push b[ib]++b.extract (ib+1) (ib+1+t)=out12 at q11 ⊢
          generalize ib+1+t=ib12 at q11 w12 b12 x12 ⊢)
       | (have e9:t=0:=by omega
          subst e9
          have w12:ib+1<b.size:=by omega
          have b12:key a[ia9]<=key (ga b (ib+1)):=b11 (by omega)
          have x12:x+2<=ia9+(ib+1):=by omega
          replace q11:=q10
          generalize out9.push b[ib]=out12 at q11 ⊢
          generalize ib+1=ib12 at q11 w12 b12 x12 ⊢)
      all_goals
       refine Ñ (aG (p:=a[ia9]) (by rw[getElem?_pos]) ?_)
       have q13:=q11.tA w12 a9 (by rw[←bw w12];exact b12)
       refine au (λc9=>Ù ⟨⟨k2.a,k2.k,k2.p,k2.f⟩,.inl ⟨_,_,rfl,q13.last (by simpa using c9) (h1' _ _ (by simpa using c9))⟩⟩) (λc9=>?_)
       have c9:¬ia9+1+1=a.size:=by simpa using c9
       exact au (λ_=>Ù ⟨⟨k2.a,k2.k,k2.p,k2.f⟩,.inr ⟨_,_,_,_,_,_,rfl,q13,by omega,w12,by omega⟩⟩) (λ_=>Ù ⟨⟨k2.a,k2.k,k2.p,k2.f⟩,_,_,_,_,_,_,rfl,q13,by omega,w12,by omega⟩)
end
section
variable {key:Keyed->Int}{a b out:Array Keyed}{na nb k:Nat}
def ng(key:Keyed->Int)(x:Keyed):Int:=- key x
theorem qw{x y:Keyed}:ng key x<=ng key y↔key y<=key x:=by
 unfold ng
 omega
theorem jT{l:List Keyed}:eO (ng key) l↔eO key l.reverse:=by
 unfold eO
 rw[List.pairwise_reverse]
 exact⟨λh=>h.imp λq=>qw.mp q,λh=>h.imp λq=>qw.mpr q⟩
def tk(a:Array Keyed)(n:Nat):List Keyed:=(a.toList.take n).reverse
def MB(key:Keyed->Int)(a b out:Array Keyed)(na nb:Nat):Prop:=MI (ng key) (a.toList++b.toList) out.toList (tk a na) (tk b nb)
theorem Nz(a:Array Keyed){m:Nat}(h1:k<=m)(h2:m<=a.size):tk a m=(a.extract k m).reverse.toList++tk a k:=by
 unfold tk
 rw[Array.toList_reverse,←ő,Array.toList_extract]
 congr 1
 show _=a.toList.take k++List.extract a.toList k m
 rw[Ů,←Č k (a.toList.take m),List.take_take,Nat.min_eq_left h1,List.drop_take]
theorem Dg(a:Array Keyed){m:Nat}(h:m<a.size):tk a (m+1)=[a[m]]++tk a m:=by
 unfold tk
 rw[List.take_succ_eq_append_getElem (by simpa using h),ő]
 rfl
theorem nu{x:Keyed}{m:Nat}(hm:m<=a.size)(h:x∈tk a m):∃j,j<m/\x=ga a j:=by
 unfold tk at h
 obtain⟨j,hj,rfl⟩:=Ĵ.mp (List.mem_reverse.mp h)
 have hj2:j<min m a.size:=by simpa using hj
 refine⟨j,by omega,?_⟩
 rw[bw (by omega)]
 simp
theorem Ag{x:Keyed}{m:Nat}(h:x∈(a.extract k m).reverse.toList):∃j,k<=j/\j<m/\j<a.size/\x=ga a j:=by
 rw[Array.toList_reverse,List.mem_reverse] at h
 obtain⟨j,hj,rfl⟩:=Ĵ.mp h
 have hj2:j<(a.extract k m).size:=hj
 rw[ģ] at hj2
 refine⟨k+j,by omega,by omega,by omega,?_⟩
 rw[bw (by omega)]
 simp
theorem MB.tA(h:MB key a b out (na+1) nb)(ha:na<a.size)(hb:nb<=b.size)(c:∀j,j<nb->key (ga b j)<=key a[na]):MB key a b (out.push a[na]) na nb:=by
 unfold MB at h ⊢
 rw[Dg a ha] at h
 rw[Ķ]
 refine h.left λx hx y hy=>?_
 rw[È.mp hx]
 obtain⟨j,hj,rfl⟩:=nu hb hy
 exact qw.mpr (c j hj)
theorem MB.tB(h:MB key a b out na (nb+1))(hb:nb<b.size)(ha:na<=a.size)(c:∀j,j<na->key (ga a j)<=key b[nb]):MB key a b (out.push b[nb]) na nb:=by
 unfold MB at h ⊢
 rw[Dg b hb] at h
 rw[Ķ]
 refine h.right λx hx y hy=>?_
 rw[È.mp hx]
 obtain⟨j,hj,rfl⟩:=nu ha hy
 exact qw.mpr (c j hj)
theorem MB.tAs(h:MB key a b out na nb)(hk:k<=na)(ha:na<=a.size)(hb:nb<=b.size)(c:∀i j,k<=i->i<na->j<nb->key (ga b j)<=key (ga a i)):MB key a b (out++(a.extract k na).reverse) k nb:=by
 unfold MB at h ⊢
 rw[Nz a hk ha] at h
 rw[ă]
 refine h.left λx hx y hy=>?_
 obtain⟨i,h1,h2,_,rfl⟩:=Ag hx
 obtain⟨j,hj,rfl⟩:=nu hb hy
 exact qw.mpr (c i j h1 h2 hj)
theorem MB.tBs(h:MB key a b out na nb)(hk:k<=nb)(ha:na<=a.size)(hb:nb<=b.size)(c:∀i j,k<=i->i<nb->j<na->key (ga a j)<=key (ga b i)):MB key a b (out++(b.extract k nb).reverse) na k:=by
 unfold MB at h ⊢
 rw[Nz b hk hb] at h
 rw[ă]
 refine h.right λx hx y hy=>?_
 obtain⟨i,h1,h2,_,rfl⟩:=Ag hx
 obtain⟨j,hj,rfl⟩:=nu ha hy
 exact qw.mpr (c i j h1 h2 hj)
theorem MB.tA1(h:MB key a b out na nb)(h1:1<=na)(ha:na<=a.size)(hb:nb<=b.size)(c:∀j,j<nb->key (ga b j)<=key (ga a (na - 1))):MB key a b (out.push (ga a (na - 1))) (na - 1) nb:=by
 rw[bw (by omega)] at c ⊢
 refine MB.tA ?_ (by omega) hb c
 rw[show na - 1+1=na by omega]
 exact h
theorem MB.tB1(h:MB key a b out na nb)(h1:1<=nb)(ha:na<=a.size)(hb:nb<=b.size)(c:∀j,j<na->key (ga a j)<=key (ga b (nb - 1))):MB key a b (out.push (ga b (nb - 1))) na (nb - 1):=by
 rw[bw (by omega)] at c ⊢
 refine MB.tB ?_ (by omega) ha c
 rw[show nb - 1+1=nb by omega]
 exact h
theorem lQ(a:Array Keyed)(n:Nat):(a.extract 0 n).toList=a.toList.take n:=by
 rw[Array.toList_extract]
 show List.extract a.toList 0 n=_
 rw[Ů]
 rfl
theorem MB.done(h:MB key a b out na nb)(c:na=0\/nb=0):Gd key a b (a.extract 0 na++b.extract 0 nb++out.reverse):=by
 unfold MB at h
 have e:(a.extract 0 na++b.extract 0 nb++out.reverse).toList=(out.toList++(tk b nb++tk a na)).reverse:=by
  unfold tk
  rw[ă,ă,lQ,lQ,Array.toList_reverse,ő,ő,Ŋ,Ŋ]
 refine⟨by rw[e];exact(ž _).trans h.sym.pm,?_⟩
 rw[e]
 refine jT.mp (h.sym.fin λx hx y hy=>?_)
 rcases c with rfl|rfl
 ·cases hy
 ·cases hx
theorem MB.first(h:MB key a b out na nb)(c:nb=1)(hb:0<b.size)(ha:na<=a.size)(h0:∀y∈a.toList,key b[0]<key y):Gd key a b (b.extract 0 nb++a.extract 0 na++out.reverse):=by
 unfold MB at h
 have e:(b.extract 0 nb++a.extract 0 na++out.reverse).toList=(out.toList++(tk a na++tk b nb)).reverse:=by
  unfold tk
  rw[ă,ă,lQ,lQ,Array.toList_reverse,ő,ő,Ŋ,Ŋ]
 refine⟨by rw[e];exact(ž _).trans h.pm,?_⟩
 rw[e]
 refine jT.mp (h.fin λx hx y hy=>?_)
 subst c
 obtain⟨j,hj,rfl⟩:=nu (by omega) hy
 obtain⟨i,hi,rfl⟩:=nu ha hx
 have:j=0:=by omega
 subst this
 rw[qw,bw hb,bw (by omega)]
 exact ā (h0 _ (by simp))
end
section
variable {M:Model}{A:Around}{E:Value->Shared->Prop}{s:Shared}{κ:SortKind}{mem:Keyed->Prop}{key:Keyed->Int}
theorem vB(hr:∀(t:String) (Q:Unit->Shared->Prop),Q () s->wpAny M A (rule t) Q E s)(L:Lts M A E s κ mem key){a b:Array Keyed}{Q:Array Keyed->SortSt->Prop}{st:SortSt}(hk:kindOf st=κ)(ma:∀x∈a.toList,mem x)(mb:∀x∈b.toList,mem x)(sa:eO key a.toList)(sb:eO key b.toList)(za:0<a.size)(zb:0<b.size)(h0:∀y∈a.toList,key b[0]<key y)(h1:∀y∈b.toList,key y<key a[a.size - 1])(h:∀out st',Alk st st'->out.toList.Perm (a.toList++b.toList)->eO key out.toList->Q out st'):wpS M A E s (Fd a b) Q st:=by
 have ua:=jU sa
 have ub:=jU sb
 refine Ñ (wpS_lift (hr _ _ ⟨rfl,?_⟩))
 refine Ñ (aG (p:=a[a.size - 1]) (by rw[getElem?_pos]) ?_)
 dsimp only
 have tall:∀c:Array Keyed,tk c c.size=c.toList.reverse:=λc=>by
  unfold tk
  rw[Ļ (by simp)]
 have e0:MB key a b #[a[a.size - 1]] (a.size - 1) b.size:=by
  have g0:MB key a b #[] (a.size - 1+1) b.size:=by
   unfold MB
   rw[show a.size - 1+1=a.size by omega,tall,tall]
   refine⟨?_,List.Pairwise.nil,jT.mpr (by rw[Ŋ];exact sa),jT.mpr (by rw[Ŋ];exact sb),λx hx=>nomatch hx⟩
   exact(ž _).append (ž _)
  exact g0.tA (by omega) (Ë _) λj hj=>by
   rw[bw hj]
   exact ā (h1 _ (by simp))
 have fin:∀r st',Gd key a b r->Alk st st'->Q r st':=λr st' g k=>h r st' k g.1 g.2
 by_cases c1:a.size - 1=0
 ·rw[if_pos (by simpa using c1)]
  exact Ù (fin _ _ (e0.done (.inl c1)) ⟨rfl,rfl,rfl,rfl⟩)
 rw[if_neg (by simpa using c1)]
 by_cases c2:b.size=1
 ·rw[if_pos (by simpa using c2)]
  exact Ù (fin _ _ (e0.first c2 zb (by omega) h0) ⟨rfl,rfl,rfl,rfl⟩)
 rw[if_neg (by simpa using c2)]
 refine Ñ (wpS_get ?_)
 refine Ñ (Ő (Ĕ (I:=λx c st'=>Alk st st'/\∃na nb out g,c=(none,na,nb,out,g)/\MB key a b out na nb/\1<=na/\na<=a.size/\2<=nb/\nb<=b.size/\na+nb+x+1<=a.size+b.size) (Q:=λc st'=>Alk st st'/\∃r u,c=(some r,u)/\Gd key a b r) ?step ?fin ⟨⟨rfl,rfl,rfl,rfl⟩,_,_,_,_,rfl,e0,by omega,by omega,by omega,by omega,by omega⟩) ?post)
 case fin =>
  rintro c st' ⟨_,na,nb,out,g,rfl,q,q1,q2,q3,q4,q5⟩
  omega
 case post =>
  rintro c st' ⟨k,r,u,rfl,g⟩
  exact Ù (fin r st' g k)
 case step =>
  rintro x c st' _ hx ⟨k,na,nb,out,g,rfl,q,q1,q2,q3,q4,q5⟩
  dsimp only
  refine Ñ (Ő (Ĕ (I:=λy c st2=>st2=st'/\∃na nb out ac bc,c=(none,na,nb,out,ac,bc)/\MB key a b out na nb/\1<=na/\na<=a.size/\2<=nb/\nb<=b.size/\na+nb+x+1+y<=a.size+b.size) (Q:=λc st2=>st2=st'/\((∃r u,c=(some r,u)/\Gd key a b r)\/∃na nb out ac bc,c=(none,na,nb,out,ac,bc)/\MB key a b out na nb/\1<=na/\na<=a.size/\2<=nb/\nb<=b.size/\na+nb+x+2<=a.size+b.size)) ?istep ?ifin ⟨rfl,_,_,_,_,_,rfl,q,q1,q2,q3,q4,by omega⟩) ?ipost)
  case ifin =>
   rintro c st2 ⟨rfl,na,nb,out,ac,bc,rfl,q,q1,q2,q3,q4,q5⟩
   exact⟨rfl,.inr ⟨_,_,_,_,_,rfl,q,q1,q2,q3,q4,by omega⟩⟩
  case istep =>
   rintro y c st2 _ hy ⟨rfl,na,nb,out,ac,bc,rfl,q,q1,q2,q3,q4,q5⟩
   dsimp only
   refine Ñ (aG (cW (by omega)) ?_)
   refine Ñ (aG (cW (by omega)) ?_)
   refine Ñ (L _ _ _ _ (mb _ (by rw[bw (by omega)];simp)) (ma _ (by rw[bw (by omega)];simp)) (k.k.trans hk) ?_)
   dsimp only
   by_cases cc:key (ga b (nb - 1))<key (ga a (na - 1))
   ·rw[if_pos (decide_eq_true cc)]
    refine Ñ (aG (cW (by omega)) ?_)
    have q':=q.tA1 q1 q2 q4 λj hj=>ā (Int.lt_of_le_of_lt (ub j (nb - 1) (by omega) (by omega)) cc)
    refine au (λc3=>Ù ⟨rfl,.inl ⟨_,_,rfl,q'.done (.inl (by simpa using c3))⟩⟩) (λc3=>?_)
    have c3:¬na - 1=0:=by simpa using c3
    exact au (λ_=>Ù ⟨rfl,.inr ⟨_,_,_,_,_,rfl,q',by omega,by omega,q3,q4,by omega⟩⟩) (λ_=>Ù ⟨rfl,_,_,_,_,_,rfl,q',by omega,by omega,q3,q4,by omega⟩)
   ·rw[if_neg (by simpa using cc)]
    refine Ñ (aG (cW (by omega)) ?_)
    have q':=q.tB1 (by omega) q2 q4 λj hj=>ē (ua j (na - 1) (by omega) (by omega)) (ł.mp cc)
    refine au (λc3=>Ù ⟨rfl,.inl ⟨_,_,rfl,q'.first (by simpa using c3) zb q2 h0⟩⟩) (λc3=>?_)
    have c3:¬nb - 1=1:=by simpa using c3
    exact au (λ_=>Ù ⟨rfl,.inr ⟨_,_,_,_,_,rfl,q',q1,q2,by omega,by omega,by omega⟩⟩) (λ_=>Ù ⟨rfl,_,_,_,_,_,rfl,q',q1,q2,by omega,by omega,by omega⟩)
  case ipost =>
   rintro c st2 ⟨rfl,(⟨r,u,rfl,gd⟩|⟨na,nb,out,ac,bc,rfl,q,q1,q2,q3,q4,q5⟩)⟩
   ·exact Ù ⟨k,_,_,rfl,gd⟩
   dsimp only
   refine Ñ (wpS_lift (hr _ _ ⟨rfl,?_⟩))
   refine Ñ (Ő (Ĕ (I:=λy c st2=>Alk st st2/\∃na nb out g ac bc,c=(none,na,nb,out,g,ac,bc)/\MB key a b out na nb/\1<=na/\na<=a.size/\2<=nb/\nb<=b.size/\na+nb+x+2<=a.size+b.size) (Q:=λc st2=>Alk st st2/\((∃r u,c=(some r,u)/\Gd key a b r)\/∃na nb out g ac bc,c=(none,na,nb,out,g,ac,bc)/\MB key a b out na nb/\1<=na/\na<=a.size/\2<=nb/\nb<=b.size/\na+nb+x+2<=a.size+b.size)) ?gstep ?gfin ⟨k,_,_,_,_,_,_,rfl,q,q1,q2,q3,q4,by omega⟩) ?gpost)
   case gfin =>
    rintro c st2 ⟨k2,na,nb,out,g,ac,bc,rfl,q,q1,q2,q3,q4,q5⟩
    exact⟨k2,.inr ⟨_,_,_,_,_,_,rfl,q,q1,q2,q3,q4,q5⟩⟩
   case gpost =>
    rintro c st2 ⟨k2,(⟨r,u,rfl,gd⟩|⟨na,nb,out,g,ac,bc,rfl,q,q1,q2,q3,q4,q5⟩)⟩
    ·exact Ù ⟨k2,_,_,rfl,gd⟩
    ·dsimp only
     refine Ñ (ļ (Ù ⟨⟨k2.a,k2.k,k2.p,k2.f⟩,_,_,_,_,rfl,q,q1,q2,q3,q4,by omega⟩))
   case gstep =>
    rintro y c st2 _ hy ⟨k2,na,nb,out,g,ac,bc,rfl,q,q1,q2,q3,q4,q5⟩
    dsimp -zeta only
    refine au (λ_=>?_) (λ_=>?_)
    all_goals
     refine Ñ (ļ ?_)
     refine Ñ (aG (cW (by omega)) ?_)
     refine Ñ (jh L (left:=false) (hk:=k2.k.trans hk) (mb _ (by rw[bw (by omega)];simp)) ma (λi j _ h2 h3=>ua i j h2 (by omega)) (by omega) (by omega) λr r0 r1 r2=>?_)
     simp only[Nat.zero_add] at r1 r2
     dsimp only
     have t4:MB key a b (out++(a.extract r na).reverse) r nb:=q.tAs r0 q2 q4 λi j h2 h3 h4=>ā (Int.lt_of_le_of_lt (ub j (nb - 1) (by omega) (by omega)) (sX (r2 i h2 h3)))
     have b4:∀j,j<r->key (ga a j)<=key (ga b (nb - 1)):=λj hj=>sX (r1 j hj)
     refine au (λc3=>au (λc4=>Ù ⟨⟨k2.a,k2.k,k2.p,k2.f⟩,.inl ⟨_,_,rfl,t4.done (.inl (by simpa using c4))⟩⟩) (λc4=>?_)) (λc3=>?_)
     all_goals first
      | (have c4:¬r=0:=by simpa using c4
         have w9:1<=r:=by omega
         have v9:r<=a.size:=by omega
         have x9:r+nb+x+2<=a.size+b.size:=by omega
         generalize out++(a.extract r na).reverse=out9 at t4 ⊢
         generalize r=na9 at t4 w9 v9 b4 x9 ⊢)
      | (have e9:r=na:=by omega
         subst e9
         have w9:1<=r:=q1
         have v9:r<=a.size:=q2
         have x9:r+nb+x+2<=a.size+b.size:=q5
         replace t4:=q
         generalize out=out9 at t4 ⊢
         generalize r=na9 at t4 w9 v9 b4 x9 ⊢)
     all_goals
      refine Ñ (aG (cW (by omega)) ?_)
      have q10:=t4.tB1 (by omega) v9 q4 b4
      refine au (λc6=>Ù ⟨⟨k2.a,k2.k,k2.p,k2.f⟩,.inl ⟨_,_,rfl,q10.first (by simpa using c6) zb v9 h0⟩⟩) (λc6=>?_)
      have c6:¬nb - 1=1:=by simpa using c6
      refine Ñ (aG (cW (by omega)) ?_)
      refine Ñ (jh L (left:=true) (hk:=k2.k.trans hk) (ma _ (by rw[bw (by omega)];simp)) mb (λi j _ h2 h3=>ub i j h2 (by omega)) (by omega) (by omega) λt t0 t1 t2=>?_)
      simp only[Nat.zero_add] at t1 t2
      dsimp only
      have q11:=q10.tBs (k:=t) t0 v9 (by omega) λi j h2 h3 h4=>ē (ua j (na9 - 1) (by omega) (by omega)) (sY (t2 i h2 h3))
      have b11:∀j,j<t->key (ga b j)<=key (ga a (na9 - 1)):=λj hj=>ā (sY (t1 j hj))
      refine au (λc7=>au (λc8=>Ù ⟨⟨k2.a,k2.k,k2.p,k2.f⟩,.inl ⟨_,_,rfl,q11.first (by simpa using c8) zb v9 h0⟩⟩) (λc8=>au (λc9=>Ù ⟨⟨k2.a,k2.k,k2.p,k2.f⟩,.inl ⟨_,_,rfl,q11.done (.inr (by simpa using c9))⟩⟩) (λc9=>?_))) (λc7=>?_)
      all_goals first
       | (have c8:¬t=1:=by simpa using c8
          have c9:¬t=0:=by simpa using c9
          have w12:2<=t:=by omega
          have v12:t<=b.size:=by omega
          have x12:na9+t+x+2<=a.size+b.size:=by omega
          generalize out9.push (ga b (nb - 1))++(b.extract t (nb - 1)).reverse=out12 at q11 ⊢
          generalize t=nb12 at q11 w12 v12 b11 x12 ⊢)
       | (have e9:t=nb - 1:=by omega
          have w12:2<=nb - 1:=by omega
          have v12:nb - 1<=b.size:=by omega
          have x12:na9+(nb - 1)+x+2<=a.size+b.size:=by omega
          rw[e9] at b11
          replace q11:=q10
          generalize out9.push (ga b (nb - 1))=out12 at q11 ⊢
          generalize nb - 1=nb12 at q11 w12 v12 b11 x12 ⊢)
      all_goals
       refine Ñ (aG (cW (by omega)) ?_)
       have q13:=q11.tA1 w9 v9 v12 b11
       refine au (λc9=>Ù ⟨⟨k2.a,k2.k,k2.p,k2.f⟩,.inl ⟨_,_,rfl,q13.done (.inl (by simpa using c9))⟩⟩) (λc9=>?_)
       have c9:¬na9 - 1=0:=by simpa using c9
       exact au (λ_=>Ù ⟨⟨k2.a,k2.k,k2.p,k2.f⟩,.inr ⟨_,_,_,_,_,_,rfl,q13,by omega,by omega,w12,v12,by omega⟩⟩) (λ_=>Ù ⟨⟨k2.a,k2.k,k2.p,k2.f⟩,_,_,_,_,_,_,rfl,q13,by omega,by omega,w12,v12,by omega⟩)
end
section
variable {key:Keyed->Int}{xs ys l:Array Keyed}{off i j:Nat}
def Seg(key:Keyed->Int)(xs:Array Keyed)(i j:Nat):Prop:=∀u v,i<=u->u<=v->v<j->key (ga xs u)<=key (ga xs v)
def wrt(xs:Array Keyed)(off:Nat)(l:List (Keyed×Nat)):Array Keyed:=l.foldl (λa (p,j)=>a.setIfInBounds (off+j) p) xs
theorem tH:∀(l:List Keyed) (n:Nat) (xs:Array Keyed) (i:Nat),off+n+l.length<=xs.size->(wrt xs off (l.zipIdx n))[i]?=if off+n<=i/\i<off+n+l.length then l[i - (off+n)]? else xs[i]?
 |[],n,xs,i,_=>by
  rw[if_neg (by simp)]
  rfl
 |p::l,n,xs,i,h=>by
  rw[Ý] at h
  show(wrt (xs.setIfInBounds (off+n) p) off (l.zipIdx (n+1)))[i]?=_
  rw[tH l (n+1) _ i (by rw[Array.size_setIfInBounds];omega),Ý]
  by_cases h1:off+(n+1)<=i/\i<off+(n+1)+l.length
  ·rw[if_pos h1,if_pos (by omega)]
   obtain⟨q,hq⟩:∃q,i - (off+n)=q+1:=⟨i - (off+n) - 1,by omega⟩
   rw[hq,ŕ]
   congr 1
   omega
  ·rw[if_neg h1,Array.getElem?_setIfInBounds]
   by_cases h2:off+n=i
   ·rw[if_pos h2,if_pos (by omega),if_pos (by omega),show i - (off+n)=0 by omega]
    rfl
   ·rw[if_neg h2,if_neg (by omega)]
theorem CQ{l:List Keyed}(h:off+l.length<=xs.size):(wrt xs off l.zipIdx).toList=xs.toList.take off++(l++xs.toList.drop (off+l.length)):=by
 apply List.ext_getElem?
 intro i
 have e:=tH (off:=off) l 0 xs i (by omega)
 rw[Nat.add_zero] at e
 rw[ė,e]
 by_cases h1:i<off
 ·rw[if_neg (by omega),Ć (by simp;omega),List.getElem?_take_of_lt h1,ė]
 ·have lt:(xs.toList.take off).length=off:=by simp;omega
  rw[ù (by omega),lt]
  by_cases h2:i<off+l.length
  ·rw[if_pos (by omega),Ć (by omega)]
  ·rw[if_neg (by omega),ù (by omega),List.getElem?_drop,ė]
   congr 1
   omega
theorem Mu{l:Array Keyed}(h:off+l.size<=xs.size)(i:Nat):ga (wrt xs off l.toList.zipIdx) i=if off<=i/\i<off+l.size then ga l (i - off) else ga xs i:=by
 have e:=tH (off:=off) l.toList 0 xs i (by simpa using h)
 rw[Nat.add_zero,č] at e
 unfold ga
 rw[e]
 by_cases c:off<=i/\i<off+l.size
 ·rw[if_pos c,if_pos c,ė]
 ·rw[if_neg c,if_neg c]
theorem Jj{a b:Nat}(h1:a<=b)(h2:b<=xs.size):xs.toList=xs.toList.take a++((xs.extract a b).toList++xs.toList.drop b):=by
 have e:=uZ (ia:=a) (k:=b - a) xs (by omega)
 rw[show a+(b - a)=b by omega] at e
 rw[←e]
 exact(Č a _).symm
theorem fQ{a b:Nat}{x:Keyed}(h:x∈(xs.extract a b).toList):∃w,a<=w/\w<b/\w<xs.size/\x=ga xs w:=by
 obtain⟨j,hj,rfl⟩:=Ĵ.mp h
 have hj2:j<(xs.extract a b).size:=hj
 rw[ģ] at hj2
 refine⟨a+j,by omega,by omega,by omega,?_⟩
 rw[bw (by omega)]
 simp
theorem yK{a b i:Nat}(hb:b<=xs.size)(h:a+i<b):ga (xs.extract a b) i=ga xs (a+i):=by
 have hs:i<(xs.extract a b).size:=by rw[ģ];omega
 rw[bw hs,bw (by omega)]
 simp
theorem nQ{a b:Nat}(hb:b<=xs.size)(h:Seg key xs a b):eO key (xs.extract a b).toList:=by
 refine List.pairwise_iff_getElem.mpr λi j hi hj hij=>?_
 have hj2:j<(xs.extract a b).size:=hj
 have hi2:i<(xs.extract a b).size:=hi
 have q:(xs.extract a b).size=min b xs.size - a:=ģ ..
 have e:∀t (ht:t<(xs.extract a b).toList.length),t<(xs.extract a b).size->(xs.extract a b).toList[t]=ga xs (a+t):=λt ht h2=>by
  rw[←yK hb (by omega),bw h2]
  simp
 rw[e i hi hi2,e j hj hj2]
 exact h _ _ (by omega) (by omega) (by omega)
end
section
variable {key:Keyed->Int}
theorem Bk{X m:Array Keyed}{sa off sb t e:Nat}(o1:sa<=off)(o2:off<sb)(t1:1<=t)(o3:sb+t<=e)(he:e<=X.size)(s1:Seg key X sa sb)(s2:Seg key X sb e)(pre:∀i,sa<=i->i<off->key (ga X i)<=key (ga X sb))(pos:∀i,off<=i->i<sb->key (ga X sb)<key (ga X i))(lo:∀i,sb<=i->i<sb+t->key (ga X i)<key (ga X (sb - 1)))(hi:∀i,sb+t<=i->i<e->key (ga X (sb - 1))<=key (ga X i))(pm:m.toList.Perm ((X.extract off sb).toList++(X.extract sb (sb+t)).toList))(sm:eO key m.toList):(wrt X off m.toList.zipIdx).toList.Perm X.toList/\Seg key (wrt X off m.toList.zipIdx) sa e/\∀j,j<sa\/e<=j->ga (wrt X off m.toList.zipIdx) j=ga X j:=by
 have z1:(X.extract off sb).size=min sb X.size - off:=ģ ..
 have z2:(X.extract sb (sb+t)).size=min (sb+t) X.size - sb:=ģ ..
 have z3:m.size=sb+t - off:=by
  have:=pm.length_eq
  rw[Å,č,č,č,z1,z2] at this
  omega
 have hw:=Mu (xs:=X) (off:=off) (l:=m) (by omega)
 have md:∀j,j<m.size->key (ga X sb)<=key (ga m j)/\key (ga m j)<=key (ga X (sb - 1)):=λj hj=>by
  have:ga m j∈m.toList:=by
   rw[bw hj]
   simp
  rcases Ð.mp (pm.mem_iff.mp this) with q|q
  ·obtain⟨w,w1,w2,_,e2⟩:=fQ q
   rw[e2]
   exact⟨ā (pos w w1 w2),s1 w (sb - 1) (by omega) (by omega) (by omega)⟩
  ·obtain⟨w,w1,w2,_,e2⟩:=fQ q
   rw[e2]
   exact⟨s2 sb w (Ë _) w1 (by omega),ā (lo w w1 w2)⟩
 refine⟨?_,λu v h1 h2 h3=>?_,λj hj=>?_⟩
 ·rw[CQ (by rw[č];omega),č,show off+m.size=sb+t by omega]
  have x1:=Jj (xs:=X) (a:=off) (b:=sb) (by omega) (by omega)
  have x2:=uZ (ia:=sb) (k:=t) X (by omega)
  rw[x2] at x1
  conv=>rhs;rw[x1]
  refine List.Perm.append_left _ ?_
  rw[←þ]
  exact List.Perm.append_right _ pm
 ·rw[hw u,hw v]
  by_cases cu:off<=u/\u<off+m.size
  ·rw[if_pos cu]
   by_cases cv:off<=v/\v<off+m.size
   ·rw[if_pos cv]
    exact jU sm _ _ (by omega) (by omega)
   ·rw[if_neg cv]
    exact ē (md _ (by omega)).2 (hi v (by omega) h3)
  ·rw[if_neg cu]
   by_cases cv:off<=v/\v<off+m.size
   ·rw[if_pos cv]
    exact ē (pre u h1 (by omega)) (md _ (by omega)).1
   ·rw[if_neg cv]
    by_cases c2:v<off
    ·exact s1 u v h1 h2 (by omega)
    ·by_cases c3:u<off
     ·exact ē (pre u h1 c3) (s2 sb v (Ë _) (by omega) h3)
     ·exact s2 u v (by omega) h2 h3
 ·rw[hw j,if_neg (by omega)]
theorem vM{X:Array Keyed}{sa sb e:Nat}(s1:Seg key X sa sb)(s2:Seg key X sb e)(j:∀u v,sa<=u->u<sb->sb<=v->v<e->key (ga X u)<=key (ga X v)):Seg key X sa e:=λu v h1 h2 h3=>by
 by_cases c1:v<sb
 ·exact s1 u v h1 h2 c1
 ·by_cases c2:u<sb
  ·exact j u v h1 c2 (by omega) h3
  ·exact s2 u v (by omega) h2 h3
end
structure Kep(a₀:Array Keyed)(κ:SortKind)(st:SortSt):Prop where
 perm:(arrOf st).toList.Perm a₀.toList
 kind:kindOf st=κ
 fail:failedOf st=none
theorem Kep.size{a₀:Array Keyed}{κ:SortKind}{st:SortSt}(h:Kep a₀ κ st):(arrOf st).size=a₀.size:=by
 have:=h.perm.length_eq
 simpa using this
section
variable {M:Model}{A:Around}{E:Value->Shared->Prop}{s:Shared}{κ:SortKind}{key:Keyed->Int}{a₀:Array Keyed}
theorem GK{σ:Type}{M:Model}{st st':σ}{Q:PUnit->σ->Prop}(h:Q ⟨⟩ st'):wpS M A E s (set st':StateT σ Sem PUnit) Q st:=by
 unfold wpS
 rw[StateT.run_set]
 exact Ø ⟨rfl,h⟩
theorem vC(hr:∀(t:String) (Q:Unit->Shared->Prop),Q () s->wpAny M A (rule t) Q E s)(L:Lts M A E s κ (·∈a₀.toList) key){i sa na pa sb nb pb:Nat}{Q:Bool->SortSt->Prop}{st:SortSt}(K:Kep a₀ κ st)(e1:(pendingOf st)[i]?=some (sa,na,pa))(e2:(pendingOf st)[i+1]?=some (sb,nb,pb))(hb:sb=sa+na)(za:1<=na)(zb:1<=nb)(hn:sb+nb<=a₀.size)(s1:Seg key (arrOf st) sa sb)(s2:Seg key (arrOf st) sb (sb+nb))(h:∀st',Kep a₀ κ st'->pendingOf st'=((pendingOf st).setIfInBounds i (sa,na+nb,pa)).eraseIdxIfInBounds (i+1)->Seg key (arrOf st') sa (sb+nb)->(∀j,j<sa\/sb+nb<=j->ga (arrOf st') j=ga (arrOf st) j)->Q true st'):wpS M A E s (mergeAt' i) Q st:=by
 refine Ñ (wpS_get ?_)
 dsimp only
 rw[e1,e2]
 dsimp only
 refine Ñ (GK ?_)
 have hz:=K.size
 have mX:∀x∈(arrOf st).toList,x∈a₀.toList:=λx hx=>K.perm.mem_iff.mp hx
 have mG:∀j,j<a₀.size->ga (arrOf st) j∈a₀.toList:=λj hj=>mX _ (by rw[bw (by omega)];simp)
 refine Ñ (aG (cW (xs:=arrOf st) (by omega)) ?_)
 refine Ñ (jh L (arr:=arrOf st) (left:=false) (hk:=K.kind) (mG _ (by omega)) mX (λi j h1 h2 h3=>s1 i j h1 h2 (by omega)) (by omega) (by omega) λr r0 r1 r2=>?_)
 dsimp only
 have p1:∀i,sa<=i->i<sa+r->key (ga (arrOf st) i)<=key (ga (arrOf st) sb):=λi h1 h2=>by
  have:=sX (r1 (i - sa) (by omega))
  rw[show sa+(i - sa)=i by omega] at this
  exact this
 have p2:∀i,sa+r<=i->i<sb->key (ga (arrOf st) sb)<key (ga (arrOf st) i):=λi h1 h2=>by
  have:=sX (r2 (i - sa) (by omega) (by omega))
  rw[show sa+(i - sa)=i by omega] at this
  exact this
 refine au (λc=>?_) (λc=>?_)
 ·have c:na - r=0:=by simpa using c
  exact Ù (h _ ⟨K.perm,K.kind,K.fail⟩ rfl (vM s1 s2 λu v h1 h2 h3 h4=>ē (p1 u h1 (by omega)) (s2 sb v (Ë _) h3 h4)) λ_ _=>rfl)
 have c:¬na - r=0:=by simpa using c
 have es:sa+r+(na - r) - 1=sb - 1:=by omega
 rw[es]
 refine Ñ (aG (cW (xs:=arrOf st) (by omega)) ?_)
 refine Ñ (jh L (arr:=arrOf st) (left:=true) (hk:=K.kind) (mG _ (by omega)) mX (λi j h1 h2 h3=>s2 i j h1 h2 (by omega)) (by omega) (by omega) λt t0 t1 t2=>?_)
 dsimp only
 have p3:∀i,sb<=i->i<sb+t->key (ga (arrOf st) i)<key (ga (arrOf st) (sb - 1)):=λi h1 h2=>by
  have:=sY (t1 (i - sb) (by omega))
  rw[show sb+(i - sb)=i by omega] at this
  exact this
 have p4:∀i,sb+t<=i->i<sb+nb->key (ga (arrOf st) (sb - 1))<=key (ga (arrOf st) i):=λi h1 h2=>by
  have:=sY (t2 (i - sb) (by omega) (by omega))
  rw[show sb+(i - sb)=i by omega] at this
  exact this
 refine au (λc2=>?_) (λc2=>?_)
 ·have c2:t=0:=by simpa using c2
  exact Ù (h _ ⟨K.perm,K.kind,K.fail⟩ rfl (vM s1 s2 λu v h1 h2 h3 h4=>ē (s1 u (sb - 1) h1 (by omega) (by omega)) (p4 v (by omega) h4)) λ_ _=>rfl)
 have c2:¬t=0:=by simpa using c2
 have z1:((arrOf st).extract (sa+r) sb).size=min sb (arrOf st).size - (sa+r):=ģ ..
 have z2:((arrOf st).extract sb (sb+t)).size=min (sb+t) (arrOf st).size - sb:=ģ ..
 have y1:∀x∈((arrOf st).extract (sa+r) sb).toList,x∈a₀.toList:=λx hx=>by
  obtain⟨w,_,h2,_,rfl⟩:=fQ hx
  exact mG w (by omega)
 have y2:∀x∈((arrOf st).extract sb (sb+t)).toList,x∈a₀.toList:=λx hx=>by
  obtain⟨w,_,h2,_,rfl⟩:=fQ hx
  exact mG w (by omega)
 have y3:=nQ (a:=sa+r) (b:=sb) (by omega) λu v h1 h2 h3=>s1 u v (by omega) h2 h3
 have y4:=nQ (a:=sb) (b:=sb+t) (by omega) λu v h1 h2 h3=>s2 u v h1 h2 (by omega)
 have y5:0<((arrOf st).extract (sa+r) sb).size:=by omega
 have y6:0<((arrOf st).extract sb (sb+t)).size:=by omega
 have y7:∀y∈((arrOf st).extract (sa+r) sb).toList,key ((arrOf st).extract sb (sb+t))[0]<key y:=λy hy=>by
  obtain⟨w,h1,h2,_,rfl⟩:=fQ hy
  rw[←bw y6,yK (by omega) (by omega)]
  exact p2 w h1 h2
 have y8:∀y∈((arrOf st).extract sb (sb+t)).toList,key y<key ((arrOf st).extract (sa+r) sb)[((arrOf st).extract (sa+r) sb).size - 1]:=λy hy=>by
  obtain⟨w,h1,h2,_,rfl⟩:=fQ hy
  rw[←bw (by omega),yK (by omega) (by omega),show sa+r+(((arrOf st).extract (sa+r) sb).size - 1)=sb - 1 by omega]
  exact p3 w h1 h2
 have fin:∀(m:Array Keyed) (st':SortSt),kindOf st'=κ->arrOf st'=arrOf st->pendingOf st'=((pendingOf st).setIfInBounds i (sa,na+nb,pa)).eraseIdxIfInBounds (i+1)->failedOf st'=none->m.toList.Perm (((arrOf st).extract (sa+r) sb).toList++((arrOf st).extract sb (sb+t)).toList)->eO key m.toList->Q (failedOf st').isNone (setArr st' (wrt (arrOf st') (sa+r) m.toList.zipIdx)):=λm st' k1 k2 k3 k4 pm sm=>by
  obtain⟨w1,w2,w3⟩:=Bk (sa:=sa) (e:=sb+nb) (by omega) (by omega) (by omega) (by omega) (by omega) s1 s2 p1 p2 p3 p4 pm sm
  rw[k4,k2]
  exact h _ ⟨w1.trans K.perm,k1,k4⟩ k3 w2 w3
 refine au (λ_=>?_) (λ_=>?_)
 ·refine Ñ (vA hr L (hk:=K.kind) y1 y2 y3 y4 y5 y6 y7 y8 λm st' k pm sm=>?_)
  refine Ñ (ļ (Ñ (wpS_get (Ù ?_))))
  exact fin m st' (k.k.trans K.kind) k.a k.p (k.f.trans K.fail) pm sm
 ·refine Ñ (vB hr L (hk:=K.kind) y1 y2 y3 y4 y5 y6 y7 y8 λm st' k pm sm=>?_)
  refine Ñ (ļ (Ñ (wpS_get (Ù ?_))))
  exact fin m st' (k.k.trans K.kind) k.a k.p (k.f.trans K.fail) pm sm
end
theorem wL{xs ys:Array Keyed}{i j:Nat}(h:xs[i]?=ys[j]?):ga xs i=ga ys j:=by
 unfold ga
 rw[h]
theorem uR{xs:Array Keyed}{i j:Nat}(hj:j<=xs.size)(k:Nat):ga (mirror xs i j ((j - i) / 2)) k=if i<=k/\k<j then ga xs (i+j - 1 - k) else ga xs k:=by
 have e:=getElem?_mirror_all (i:=i) hj k
 by_cases c:i<=k/\k<j
 ·rw[if_pos c] at e ⊢
  exact wL e
 ·rw[if_neg c] at e ⊢
  exact wL e
theorem yL{xs:Array Keyed}{src d:Nat}(hs:src<xs.size)(hd:d<=src)(k:Nat):ga (bubble xs src d) k=if k=src - d then ga xs src else if src - d<k/\k<=src then ga xs (k - 1) else ga xs k:=by
 have e:=getElem?_bubble hs d hd k
 by_cases c:k=src - d
 ·rw[if_pos c] at e ⊢
  exact wL e
 ·rw[if_neg c] at e ⊢
  by_cases c2:src - d<k/\k<=src
  ·rw[if_pos c2] at e ⊢
   exact wL e
  ·rw[if_neg c2] at e ⊢
   exact wL e
structure Rn(a₀:Array Keyed)(κ:SortKind)(P:Array (Nat×Nat×Nat))(X:Array Keyed)(lo hi:Nat)(st:SortSt):Prop where
 k:Kep a₀ κ st
 p:pendingOf st=P
 o:∀j,j<lo\/hi<=j->ga (arrOf st) j=ga X j
section
variable {M:Model}{A:Around}{E:Value->Shared->Prop}{s:Shared}{κ:SortKind}{key:Keyed->Int}{a₀ X:Array Keyed}{P:Array (Nat×Nat×Nat)}{lo hi:Nat}
theorem Rn.mir{st:SortSt}(h:Rn a₀ κ P X lo hi st){i j:Nat}(h1:lo<=i)(h2:j<=hi)(h3:hi<=a₀.size):Rn a₀ κ P X lo hi (setArr st (mirror (arrOf st) i j ((j - i) / 2))) :=
 ⟨⟨(Ũ.mp (mirror_perm _ _ _ _)).trans h.k.perm,h.k.kind,h.k.fail⟩,h.p,λt ht=>by
  show ga (mirror (arrOf st) i j ((j - i) / 2)) t=_
  rw[uR (by rw[h.k.size];omega),if_neg (by omega)]
  exact h.o t ht⟩
theorem Rn.bub{st:SortSt}(h:Rn a₀ κ P X lo hi st){src d:Nat}(h1:lo<=src - d)(h2:src<hi)(h3:hi<=a₀.size)(h4:d<=src):Rn a₀ κ P X lo hi (setArr st (bubble (arrOf st) src d)) :=
 ⟨⟨(Ũ.mp (bubble_perm _ _ _)).trans h.k.perm,h.k.kind,h.k.fail⟩,h.p,λt ht=>by
  show ga (bubble (arrOf st) src d) t=_
  rw[yL (by rw[h.k.size];omega) h4,if_neg (by omega),if_neg (by omega)]
  exact h.o t ht⟩
theorem jg(L:Lts M A E s κ (·∈a₀.toList) key){st:SortSt}(K:Kep a₀ κ st){i j:Nat}(hi:i<a₀.size)(hj:j<a₀.size){Q:Option Bool->SortSt->Prop}(h:Q (some (decide (key (ga (arrOf st) i)<key (ga (arrOf st) j)))) st):wpS M A E s (ltAt' i j) Q st:=by
 have hz:=K.size
 have mG:∀j,j<a₀.size->ga (arrOf st) j∈a₀.toList:=λj hj=>K.perm.mem_iff.mp (by rw[bw (by omega)];simp)
 refine Ñ (wpS_get ?_)
 refine Ñ (aG (cW (xs:=arrOf st) (by omega)) (Ñ (aG (cW (xs:=arrOf st) (by omega)) ?_)))
 exact L _ _ _ _ (mG i hi) (mG j hj) K.kind h
theorem Bc(L:Lts M A E s κ (·∈a₀.toList) key){n ok:Nat}{Q:Bool->SortSt->Prop}{st:SortSt}(R:Rn a₀ κ P X lo hi st)(hh:lo+n<=hi)(hn:hi<=a₀.size)(hok:ok<=n)(hs:Seg key (arrOf st) lo (lo+ok))(h:∀st',Rn a₀ κ P X lo hi st'->Seg key (arrOf st') lo (lo+n)->Q true st'):wpS M A E s (binarySort' lo n ok) Q st:=by
 refine Ñ (Ő (Ĕ (I:=λk c st'=>c=(none,())/\Rn a₀ κ P X lo hi st'/\Seg key (arrOf st') lo (lo+min k n)) (Q:=λc st'=>c=(none,())/\Rn a₀ κ P X lo hi st'/\Seg key (arrOf st') lo (lo+n)) ?step ?fin ⟨rfl,R,?init⟩) ?post)
 case init =>
  intro u v h1 h2 h3
  by_cases c:ok=0
  ·have:u=v:=by omega
   subst this
   exact ÿ _
  ·exact hs u v h1 h2 (by omega)
 case fin =>
  rintro c st' ⟨rfl,R',g⟩
  exact⟨rfl,R',λu v h1 h2 h3=>g u v h1 h2 (by omega)⟩
 case post =>
  rintro c st' ⟨rfl,R',g⟩
  exact Ù (h st' R' g)
 case step =>
  rintro k c st' hk1 hk2 ⟨rfl,R',g⟩
  dsimp only
  have g:Seg key (arrOf st') lo (lo+k):=λu v h1 h2 h3=>g u v h1 h2 (by omega)
  have hz:=R'.k.size
  refine Ñ (Ő (Ĕ (I:=λy c st2=>st2=st'/\∃l r,c=(none,l,r)/\l<=r/\r<=k/\r - l<=k - y/\(∀i,i<l->key (ga (arrOf st') (lo+i))<=key (ga (arrOf st') (lo+k)))/\∀i,r<=i->i<k->key (ga (arrOf st') (lo+k))<key (ga (arrOf st') (lo+i))) (Q:=λc st2=>st2=st'/\∃l r,c=(none,l,r)/\l<=k/\(∀i,i<l->key (ga (arrOf st') (lo+i))<=key (ga (arrOf st') (lo+k)))/\∀i,l<=i->i<k->key (ga (arrOf st') (lo+k))<key (ga (arrOf st') (lo+i))) ?istep ?ifin ⟨rfl,0,k,rfl,by omega,by omega,by omega,(λi hi=>by omega),(λi h1 h2=>by omega)⟩) ?ipost)
  case ifin =>
   rintro c st2 ⟨rfl,l,r,rfl,q1,q2,q3,q4,q5⟩
   have e:l=r:=by omega
   subst e
   exact⟨rfl,l,l,rfl,q2,q4,q5⟩
  case istep =>
   rintro y c st2 _ hy ⟨rfl,l,r,rfl,q1,q2,q3,q4,q5⟩
   dsimp only
   refine au (λc=>?_) (λc=>?_)
   ·have e:l=r:=by omega
    subst e
    exact Ù ⟨rfl,l,l,rfl,q2,q4,q5⟩
   ·refine Ñ (jg L R'.k (by omega) (by omega) ?_)
    dsimp only
    by_cases z:key (ga (arrOf st2) (lo+k))<key (ga (arrOf st2) (lo+(l+r) / 2))
    ·rw[if_pos (decide_eq_true z)]
     exact Ù ⟨rfl,l,(l+r) / 2,rfl,by omega,by omega,by omega,q4,λi h1 h2=>Int.lt_of_lt_of_le z (g _ _ (by omega) (by omega) (by omega))⟩
    ·rw[if_neg (by simpa using z)]
     exact Ù ⟨rfl,(l+r) / 2+1,r,rfl,by omega,by omega,by omega,λi h1=>ē (g _ (lo+(l+r) / 2) (by omega) (by omega) (by omega)) (ł.mp z),q5⟩
  case ipost =>
   rintro c st2 ⟨rfl,l,r,rfl,q2,q4,q5⟩
   dsimp only
   refine Ñ (ļ (Ù ⟨rfl,R'.bub (src:=lo+k) (d:=lo+k - (lo+l)) (by omega) (by omega) hn (by omega),λu v h1 h2 h3=>?_⟩))
   show key (ga (bubble (arrOf st2) (lo+k) (lo+k - (lo+l))) u)<=key (ga (bubble (arrOf st2) (lo+k) (lo+k - (lo+l))) v)
   have q4':∀j,lo<=j->j<lo+l->key (ga (arrOf st2) j)<=key (ga (arrOf st2) (lo+k)):=λj h1 h2=>by
    have:=q4 (j - lo) (by omega)
    rwa [show lo+(j - lo)=j by omega] at this
   have q5':∀j,lo+l<=j->j<lo+k->key (ga (arrOf st2) (lo+k))<key (ga (arrOf st2) j):=λj h1 h2=>by
    have:=q5 (j - lo) (by omega) (by omega)
    rwa [show lo+(j - lo)=j by omega] at this
   rw[yL (by omega) (by omega),yL (by omega) (by omega),show lo+k - (lo+k - (lo+l))=lo+l by omega]
   by_cases cu:u=lo+l
   ·rw[if_pos cu]
    by_cases cv:v=lo+l
    ·rw[if_pos cv]
     exact ÿ _
    ·rw[if_neg cv,if_pos (by omega)]
     exact ā (q5' _ (by omega) (by omega))
   ·rw[if_neg cu]
    by_cases cu2:lo+l<u/\u<=lo+k
    ·rw[if_pos cu2,if_neg (by omega),if_pos (by omega)]
     exact g _ _ (by omega) (by omega) (by omega)
    ·rw[if_neg cu2]
     by_cases cv:v=lo+l
     ·rw[if_pos cv]
      exact q4' u h1 (by omega)
     ·rw[if_neg cv]
      by_cases cv2:lo+l<v/\v<=lo+k
      ·rw[if_pos cv2]
       exact g _ _ h1 (by omega) (by omega)
      ·rw[if_neg cv2]
       exact g _ _ h1 h2 (by omega)
def Fal(key:Keyed->Int)(xs:Array Keyed)(i j:Nat):Prop:=∀u v,i<=u->u<=v->v<j->key (ga xs v)<=key (ga xs u)
theorem vL{xs:Array Keyed}{i j:Nat}(h:Seg key xs i j)(hij:i<j)(c:key (ga xs (j - 1))<=key (ga xs j)):Seg key xs i (j+1):=λu v h1 h2 h3=>by
 by_cases e:v=j
 ·subst e
  by_cases e2:u=v
  ·subst e2
   exact ÿ _
  ·exact ē (h u (v - 1) h1 (by omega) (by omega)) c
 ·exact h u v h1 h2 (by omega)
theorem wQ{xs:Array Keyed}{i j:Nat}(h:Fal key xs i j)(hij:i<j)(c:key (ga xs j)<=key (ga xs (j - 1))):Fal key xs i (j+1):=λu v h1 h2 h3=>by
 by_cases e:v=j
 ·subst e
  by_cases e2:u=v
  ·subst e2
   exact ÿ _
  ·exact ē c (h u (v - 1) h1 (by omega) (by omega))
 ·exact h u v h1 h2 (by omega)
theorem Ji{xs:Array Keyed}{i j:Nat}(h:Fal key xs i j)(hj:j<=xs.size):Seg key (mirror xs i j ((j - i) / 2)) i j:=λu v h1 h2 h3=>by
 rw[uR hj,uR hj,if_pos (by omega),if_pos (by omega)]
 exact h _ _ (by omega) (by omega) (by omega)
theorem yU{xs:Array Keyed}{i j:Nat}(hj:j<=xs.size)(h:∀k,i<=k->k<j->key (ga xs k)=key (ga xs (j - 1)))(k:Nat):key (ga (mirror xs i j ((j - i) / 2)) k)=key (ga xs k):=by
 rw[uR hj]
 by_cases c:i<=k/\k<j
 ·rw[if_pos c,h _ (by omega) (by omega),h k c.1 c.2]
 ·rw[if_neg c]
theorem zq{α:Type}{c0 c:StateT SortSt Sem α}{Pr:SortSt->Prop}{Q:α->SortSt->Prop}{st:SortSt}(tl:∀st1,Pr st1->wpS M A E s c Q st1)(main:(∀st1,Pr st1->wpS M A E s c Q st1)->wpS M A E s c0 Q st):wpS M A E s c0 Q st:=main tl
theorem GP(hr:∀(t:String) (Q:Unit->Shared->Prop),Q () s->wpAny M A (rule t) Q E s)(L:Lts M A E s κ (·∈a₀.toList) key){nrem:Nat}{Q:Option Nat->SortSt->Prop}{st:SortSt}(R:Rn a₀ κ P X lo (lo+nrem) st)(hn:lo+nrem<=a₀.size)(h1:1<=nrem)(h:∀n st',1<=n->n<=nrem->Rn a₀ κ P X lo (lo+nrem) st'->Seg key (arrOf st') lo (lo+n)->Q (some n) st'):wpS M A E s (countRun' lo nrem) Q st:=by
 have hz:=R.k.size
 have one:∀xs:Array Keyed,Seg key xs lo (lo+1):=λxs u v h1 h2 h3=>by
  have:u=v:=by omega
  subst this
  exact ÿ _
 refine Ñ (Ő (Ĕ (I:=λy c st'=>st'=st/\c=(none,y)/\Seg key (arrOf st) lo (lo+y)) (Q:=λc st'=>st'=st/\∃n,c=(none,n)/\1<=n/\n<=nrem/\Seg key (arrOf st) lo (lo+n)/\(n<nrem->key (ga (arrOf st) (lo+n))<key (ga (arrOf st) (lo+n - 1)))) ?step ?fin ⟨rfl,rfl,one _⟩) ?post)
 case fin =>
  rintro c st' ⟨rfl,rfl,g⟩
  exact⟨rfl,_,rfl,by omega,by omega,g,λz=>by omega⟩
 case step =>
  rintro y c st' hy hy2 ⟨rfl,rfl,g⟩
  dsimp only
  refine Ñ (jg L R.k (by omega) (by omega) ?_)
  dsimp only
  by_cases z:key (ga (arrOf st') (lo+y))<key (ga (arrOf st') (lo+y - 1))
  ·rw[if_pos (decide_eq_true z)]
   exact Ù ⟨rfl,y,rfl,hy,by omega,g,λ_=>z⟩
  ·rw[if_neg (by simpa using z)]
   exact Ù ⟨rfl,rfl,show Seg key _ lo (lo+y+1) from vL g (by omega) (ł.mp z)⟩
 case post =>
  rintro c st' ⟨rfl,n,rfl,n1,n2,g,gz⟩
  dsimp only
  refine au (λc=>Ù (h n _ n1 n2 R g)) (λc=>?_)
  have c:¬n=nrem:=by simpa using c
  have gz:=gz (by omega)
  apply zq (Pr:=λst1=>Rn a₀ κ P X lo (lo+nrem) st1/\Fal key (arrOf st1) lo (lo+n+1))
  case main =>
   intro tail
   refine au (λc2=>?_) (λc2=>?_)
   ·refine Ñ (jg L R.k (by omega) (by omega) ?_)
    dsimp only
    by_cases z:key (ga (arrOf st') lo)<key (ga (arrOf st') (lo+n - 1))
    ·rw[if_pos (decide_eq_true z)]
     exact Ù (h n _ n1 n2 R g)
    ·rw[if_neg (by simpa using z)]
     have z:=ł.mp z
     have al:∀k,lo<=k->k<lo+n->key (ga (arrOf st') k)=key (ga (arrOf st') (lo+n - 1)):=λk h1 h2=>by
      have a1:=g k (lo+n - 1) h1 (by omega) (by omega)
      have a2:=g lo k (Ë _) h1 h2
      omega
     have em:=yU (xs:=arrOf st') (i:=lo) (j:=lo+n) (by omega) al
     refine Ñ (ļ (tail _ ⟨R.mir (i:=lo) (j:=lo+n) (Ë _) (by omega) hn,λu v h1 h2 h3=>?_⟩))
     show key (ga (mirror (arrOf st') lo (lo+n) ((lo+n - lo) / 2)) v)<=key (ga (mirror (arrOf st') lo (lo+n) ((lo+n - lo) / 2)) u)
     rw[em,em]
     by_cases e:v=lo+n
     ·subst e
      by_cases e2:u=lo+n
      ·subst e2
       exact ÿ _
      ·have:=al u h1 (by omega)
       omega
     ·have a1:=al u h1 (by omega)
      have a2:=al v (by omega) (by omega)
      omega
   ·refine tail _ ⟨R,λu v h1 h2 h3=>?_⟩
    have e:n=1:=by omega
    subst e
    rw[show lo+1 - 1=lo by omega] at gz
    by_cases e:u=v
    ·subst e
     exact ÿ _
    ·have e1:u=lo:=by omega
     have e2:v=lo+1:=by omega
     rw[e1,e2]
     exact ā gz
  case tl =>
   rintro st1 ⟨R1,F1⟩
   refine Ñ (wpS_lift (hr _ _ ⟨rfl,?_⟩))
   refine Ñ (Ő (Ĕ (I:=λy c st2=>Rn a₀ κ P X lo (lo+nrem) st2/\∃q,c=(none,y,q)/\q+1<=y/\Fal key (arrOf st2) lo (lo+y)/\∀k,lo+y - (q+1)<=k->k<lo+y->key (ga (arrOf st2) k)=key (ga (arrOf st2) (lo+y - 1))) (Q:=λc st2=>Rn a₀ κ P X lo (lo+nrem) st2/\∃y q,c=(none,y,q)/\1<=y/\y<=nrem/\q+1<=y/\Fal key (arrOf st2) lo (lo+y)/\∀k,lo+y - (q+1)<=k->k<lo+y->key (ga (arrOf st2) k)=key (ga (arrOf st2) (lo+y - 1))) ?dstep ?dfin ⟨R1,0,rfl,by omega,F1,λk h1 h2=>?dinit⟩) ?dpost)
   case dinit =>
    have e:k=lo+(n+1) - 1:=by omega
    rw[e]
   case dfin =>
    rintro c st2 ⟨R2,q,rfl,q1,F2,e2⟩
    exact⟨R2,_,q,rfl,by omega,by omega,q1,F2,e2⟩
   case dstep =>
    rintro y c st2 hy hy2 ⟨R2,q,rfl,q1,F2,e2⟩
    dsimp only
    have hz2:=R2.k.size
    refine Ñ (jg L R2.k (by omega) (by omega) ?_)
    dsimp only
    by_cases z:key (ga (arrOf st2) (lo+y))<key (ga (arrOf st2) (lo+y - 1))
    ·rw[if_pos (decide_eq_true z)]
     have F3:Fal key (arrOf st2) lo (lo+y+1):=wQ F2 (by omega) (ā z)
     refine au (λc3=>?_) (λc3=>?_)
     ·have em:=yU (xs:=arrOf st2) (i:=lo+y - (q+1)) (j:=lo+y) (by omega) e2
      refine Ñ (ļ (Ù ⟨R2.mir (i:=lo+y - (q+1)) (j:=lo+y) (by omega) (by omega) hn,0,rfl,by omega,λu v h1 h2 h3=>?_,λk h1 h2=>?_⟩))
      ·show key (ga (mirror (arrOf st2) _ _ _) v)<=key (ga (mirror (arrOf st2) _ _ _) u)
       rw[em,em]
       exact F3 u v h1 h2 h3
      ·have e:k=lo+(y+1) - 1:=by omega
       rw[e]
     ·refine Ù ⟨R2,0,rfl,by omega,F3,λk h1 h2=>?_⟩
      have e:k=lo+(y+1) - 1:=by omega
      rw[e]
    ·rw[if_neg (by simpa using z)]
     refine Ñ (jg L R2.k (by omega) (by omega) ?_)
     dsimp only
     by_cases z2:key (ga (arrOf st2) (lo+y - 1))<key (ga (arrOf st2) (lo+y))
     ·rw[if_pos (decide_eq_true z2)]
      exact Ù ⟨R2,y,q,rfl,by omega,by omega,q1,F2,e2⟩
     ·rw[if_neg (by simpa using z2)]
      have z3:key (ga (arrOf st2) (lo+y))=key (ga (arrOf st2) (lo+y - 1)):=by omega
      have F3:Fal key (arrOf st2) lo (lo+y+1):=wQ F2 (by omega) (Int.le_of_eq z3)
      refine Ù ⟨R2,q+1,rfl,by omega,F3,λk h1 h2=>?_⟩
      rw[show lo+(y+1) - 1=lo+y by omega,z3]
      by_cases e:k=lo+y
      ·rw[e,z3]
      ·exact e2 k (by omega) (by omega)
   case dpost =>
    rintro c st2 ⟨R2,y,q,rfl,y1,y2,q1,F2,e2⟩
    dsimp only
    have hz2:=R2.k.size
    apply zq (Pr:=λst1=>Rn a₀ κ P X lo (lo+nrem) st1/\Fal key (arrOf st1) lo (lo+y))
    case main =>
     intro tail
     refine au (λc3=>?_) (λc3=>tail _ ⟨R2,F2⟩)
     have em:=yU (xs:=arrOf st2) (i:=lo+y - (q+1)) (j:=lo+y) (by omega) e2
     refine Ñ (ļ (tail _ ⟨R2.mir (i:=lo+y - (q+1)) (j:=lo+y) (by omega) (by omega) hn,λu v h1 h2 h3=>?_⟩))
     show key (ga (mirror (arrOf st2) _ _ _) v)<=key (ga (mirror (arrOf st2) _ _ _) u)
     rw[em,em]
     exact F2 u v h1 h2 h3
    case tl =>
     rintro st3 ⟨R3,F3⟩
     have hz3:=R3.k.size
     refine Ñ (ļ ?_)
     have R4:=R3.mir (i:=lo) (j:=lo+y) (Ë _) (by omega) hn
     have S4:Seg key (arrOf (setArr st3 (mirror (arrOf st3) lo (lo+y) ((lo+y - lo) / 2)))) lo (lo+y):=Ji F3 (by omega)
     refine Ñ (Ő (Ĕ (I:=λx c st4=>Rn a₀ κ P X lo (lo+nrem) st4/\c=(none,x)/\Seg key (arrOf st4) lo (lo+x)) (Q:=λc st4=>Rn a₀ κ P X lo (lo+nrem) st4/\∃x,c=(none,x)/\1<=x/\x<=nrem/\Seg key (arrOf st4) lo (lo+x)) ?estep ?efin ⟨R4,rfl,S4⟩) ?epost)
     case efin =>
      rintro c st4 ⟨R5,rfl,S5⟩
      exact⟨R5,_,rfl,by omega,by omega,S5⟩
     case estep =>
      rintro x c st4 hx hx2 ⟨R5,rfl,S5⟩
      dsimp only
      have hz4:=R5.k.size
      refine Ñ (jg L R5.k (by omega) (by omega) ?_)
      dsimp only
      by_cases z:key (ga (arrOf st4) (lo+x))<key (ga (arrOf st4) (lo+x - 1))
      ·rw[if_pos (decide_eq_true z)]
       exact Ù ⟨R5,x,rfl,by omega,by omega,S5⟩
      ·rw[if_neg (by simpa using z)]
       exact Ù ⟨R5,rfl,show Seg key _ lo (lo+x+1) from vL S5 (by omega) (ł.mp z)⟩
     case epost =>
      rintro c st4 ⟨R5,x,rfl,x1,x2,S5⟩
      exact Ù (h x st4 x1 x2 R5 S5)
end
section
variable {key:Keyed->Int}{xs ys:Array Keyed}
def Rs(key:Keyed->Int)(xs:Array Keyed):Nat->List (Nat×Nat)->Nat->Prop
 |s,[],e=>s=e
 |s,(t,n)::r,e=>t=s/\1<=n/\Seg key xs s (s+n)/\Rs key xs (s+n) r e
theorem mO:∀{l r:List (Nat×Nat)}{s e:Nat},Rs key xs s (l++r) e↔∃m,Rs key xs s l m/\Rs key xs m r e
 |[],r,s,e=>⟨λh=>⟨s,rfl,h⟩,λ⟨m,h1,h2⟩=>by have h1:s=m:=h1;subst h1;exact h2⟩
 |(t,n)::l,r,s,e=>by
  constructor
  ·rintro⟨h1,h2,h3,h4⟩
   obtain⟨m,q1,q2⟩:=mO.mp h4
   exact⟨m,⟨h1,h2,h3,q1⟩,q2⟩
  ·rintro⟨m,⟨h1,h2,h3,h4⟩,q⟩
   exact⟨h1,h2,h3,mO.mpr ⟨m,h4,q⟩⟩
theorem vN:∀{l:List (Nat×Nat)}{s e:Nat},Rs key xs s l e->s+l.length<=e
 |[],s,e,h=>Nat.le_of_eq h
 |(t,n)::l,s,e,⟨h1,h2,h3,h4⟩=>by
  have:=vN h4
  rw[Ý]
  omega
theorem Dp{i j:Nat}(h:Seg key xs i j)(c:∀t,i<=t->t<j->ga ys t=ga xs t):Seg key ys i j:=λu v h1 h2 h3=>by
 rw[c u h1 (by omega),c v (by omega) h3]
 exact h u v h1 h2 h3
theorem zN:∀{l:List (Nat×Nat)}{s e:Nat},Rs key xs s l e->(∀t,s<=t->t<e->ga ys t=ga xs t)->Rs key ys s l e
 |[],s,e,h,_=>h
 |(t,n)::l,s,e,⟨h1,h2,h3,h4⟩,c=>by
  have:=vN h4
  exact⟨h1,h2,Dp h3 λt q1 q2=>c t q1 (by omega),zN h4 λt q1 q2=>c t (by omega) q2⟩
def rl(p:Array (Nat×Nat×Nat)):List (Nat×Nat):=p.toList.map λt=>(t.1,t.2.1)
theorem zR(p:Array (Nat×Nat×Nat))(t:Nat×Nat×Nat):rl (p.push t)=rl p++[(t.1,t.2.1)]:=by
 unfold rl
 rw[Ķ,å]
 rfl
theorem tW(p:Array (Nat×Nat×Nat)):(rl p).length=p.size:=by
 unfold rl
 rw[Á]
 rfl
theorem Bo(p:Array (Nat×Nat×Nat))(i:Nat)(f:Nat×Nat×Nat->Nat×Nat×Nat)(hf:∀t,((f t).1,(f t).2.1)=(t.1,t.2.1)):rl (p.modify i f)=rl p:=by
 unfold rl
 apply List.ext_getElem?
 intro j
 rw[æ,æ,ė,ė,Array.getElem?_modify]
 split
 ·rw[Option.map_map]
  congr 1
  funext t
  exact hf t
 ·rfl
theorem Ot(p:Array (Nat×Nat×Nat))(i pw:Nat)(t:Nat×Nat×Nat):rl ((p.modify i λx=>(x.1,x.2.1,pw)).push t)=rl p++[(t.1,t.2.1)]:=by
 rw[zR,Bo p i (λx=>(x.1,x.2.1,pw)) λt=>rfl]
theorem Dt{p:Array (Nat×Nat×Nat)}{i:Nat}{x y v:Nat×Nat×Nat}(h1:p[i]?=some x)(h2:p[i+1]?=some y):∃l r,rl p=l++(x.1,x.2.1)::(y.1,y.2.1)::r/\rl ((p.setIfInBounds i v).eraseIdxIfInBounds (i+1))=l++(v.1,v.2.1)::r:=by
 have g1:p.toList[i]?=some x:=by rw[ė];exact h1
 have g2:p.toList[i+1]?=some y:=by rw[ė];exact h2
 have z:i+1<p.size:=by
  have:=(Ó.mp g2).1
  simpa using this
 obtain⟨q1,e1⟩:=Ó.mp g1
 obtain⟨q2,e2⟩:=Ó.mp g2
 have e:p.toList=p.toList.take i++x::y::p.toList.drop (i+2):=by
  have d1:p.toList.drop i=x::p.toList.drop (i+1):=by rw[Ň q1,e1]
  have d2:p.toList.drop (i+1)=y::p.toList.drop (i+2):=by rw[Ň q2,e2]
  rw[←d2,←d1]
  exact(Č i _).symm
 refine⟨(p.toList.take i).map λt=>(t.1,t.2.1),(p.toList.drop (i+2)).map λt=>(t.1,t.2.1),?_,?_⟩
 ·unfold rl
  conv=>lhs;rw[e]
  rw[å]
  rfl
 ·unfold rl
  have lt:(p.toList.take i).length=i:=by simp;omega
  have e3:((p.setIfInBounds i v).eraseIdxIfInBounds (i+1)).toList=p.toList.take i++v::p.toList.drop (i+2):=by
   rw[Array.toList_eraseIdxIfInBounds,Array.toList_setIfInBounds]
   conv=>lhs;rw[e]
   rw[List.set_append_right _ _ (by omega),lt,Nat.sub_self,List.set_cons_zero,List.eraseIdx_append_of_length_le (by omega),lt,show i+1 - i=1 by omega]
   rfl
  rw[e3,å]
  rfl
end
section
variable {M:Model}{A:Around}{E:Value->Shared->Prop}{s:Shared}{κ:SortKind}{key:Keyed->Int}{a₀:Array Keyed}
theorem Mq{c:Prop}[Decidable c]{a b n:Nat}(h1:a+1<n)(h2:b+1<n):(if c then a else b)+1<n:=by
 split
 ·exact h1
 ·exact h2
theorem CV(hr:∀(t:String) (Q:Unit->Shared->Prop),Q () s->wpAny M A (rule t) Q E s)(L:Lts M A E s κ (·∈a₀.toList) key){i e:Nat}{Q:Bool->SortSt->Prop}{st:SortSt}(K:Kep a₀ κ st)(he:e<=a₀.size)(R:Rs key (arrOf st) 0 (rl (pendingOf st)) e)(hi:i+1<(pendingOf st).size)(h:∀st',Kep a₀ κ st'->Rs key (arrOf st') 0 (rl (pendingOf st')) e->(pendingOf st').size+1=(pendingOf st).size->(∀j,e<=j->ga (arrOf st') j=ga (arrOf st) j)->Q true st'):wpS M A E s (mergeAt' i) Q st:=by
 have h1:(pendingOf st)[i]?=some (pendingOf st)[i]:=getElem?_pos ..
 have h2:(pendingOf st)[i+1]?=some (pendingOf st)[i+1]:=getElem?_pos ..
 obtain⟨⟨sa,na,pa⟩,e1⟩:∃t,t=(pendingOf st)[i]:=⟨_,rfl⟩
 obtain⟨⟨sb,nb,pb⟩,e2⟩:∃t,t=(pendingOf st)[i+1]:=⟨_,rfl⟩
 rw[←e1] at h1
 rw[←e2] at h2
 obtain⟨l,r,g1,g2⟩:=Dt (v:=(sa,na+nb,pa)) h1 h2
 rw[g1] at R
 replace R:Rs key (arrOf st) 0 (l++(sa,na)::(sb,nb)::r) e:=R
 obtain⟨m,q1,⟨x1,x2,x3,⟨y1,y2,y3,y4⟩⟩⟩:=mO.mp R
 subst x1
 subst y1
 have l4:=vN y4
 have l1:=vN q1
 refine vC hr L K h1 h2 rfl x2 y2 (by omega) x3 y3 λst' K' p' s' o'=>?_
 refine h st' K' ?_ ?_ λj hj=>o' j (by omega)
 ·rw[p',g2]
  exact mO.mpr ⟨sa,zN q1 λt t1 t2=>o' t (.inl t2),rfl,show 1<=na+nb by omega,by rw[←Nat.add_assoc];exact s',by rw[←Nat.add_assoc];exact zN y4 λt t1 t2=>o' t (.inr t1)⟩
 ·have a1:=tW (pendingOf st)
  have a2:=tW (pendingOf st')
  rw[g1] at a1
  rw[p',g2] at a2
  rw[p',←a2,←a1,Å,Å,Ý,Ý,Ý]
  omega
theorem CT(hr:∀(t:String) (Q:Unit->Shared->Prop),Q () s->wpAny M A (rule t) Q E s)(L:Lts M A E s κ (·∈a₀.toList) key){Q:Unit->SortSt->Prop}{st:SortSt}(K:Kep a₀ κ st)(hp:pendingOf st=#[])(h2:1<=a₀.size)(h:∀st',Kep a₀ κ st'->Seg key (arrOf st') 0 a₀.size->Q () st'):wpS M A E s sortRuns' Q st:=by
 refine Ñ (wpS_get ?_)
 have hz:=K.size
 refine Ñ (Ő (Ĕ (I:=λx c st'=>Kep a₀ κ st'/\∃lo,c=(none,lo)/\x<=lo/\lo<=a₀.size/\Rs key (arrOf st') 0 (rl (pendingOf st')) lo) (Q:=λc st'=>Kep a₀ κ st'/\c=(none,a₀.size)/\Rs key (arrOf st') 0 (rl (pendingOf st')) a₀.size) ?step ?fin ⟨K,0,rfl,by omega,by omega,by rw[hp];rfl⟩) ?post)
 case fin =>
  rintro c st' ⟨K',lo,rfl,l1,l2,R⟩
  have hz2:(arrOf st).size=a₀.size:=hz
  have e:lo=a₀.size:=by
   have l1:max 0 (arrOf st).size<=lo:=l1
   omega
  subst e
  exact⟨K',rfl,R⟩
 case step =>
  rintro x c st' hx hx2 ⟨K',lo,rfl,l1,l2,R⟩
  have hx2:x<(arrOf st).size:=hx2
  dsimp only
  simp only[hz]
  refine au (λc=>?_) (λc=>?_)
  ·have e:lo=a₀.size:=by omega
   subst e
   exact Ù ⟨K',rfl,R⟩
  refine Ñ (GP hr L (lo:=lo) (nrem:=a₀.size - lo) (P:=pendingOf st') (X:=arrOf st') ⟨K',rfl,λ_ _=>rfl⟩ (by omega) (by omega) λn st2 n1 n2 R2 S2=>?_)
  dsimp only
  refine au (λc3=>?_) (λc3=>?_)
  all_goals first
   | (refine Ñ (wpS_lift (hr _ _ ⟨rfl,?_⟩))
      have c3:n<minRun' a₀.size a₀.size 0:=c3
      refine Ñ (Bc L (n:=min (a₀.size - lo) (minRun' a₀.size a₀.size 0)) (ok:=n) R2 (by omega) (by omega) (by omega) S2 λst3 R3 S3=>?_)
      refine au (λc4=>absurd c4 (by decide)) (λ_=>?_)
      have m1:1<=min (a₀.size - lo) (minRun' a₀.size a₀.size 0):=by omega
      have m2:lo+min (a₀.size - lo) (minRun' a₀.size a₀.size 0)<=a₀.size:=by omega
      obtain⟨N,hN⟩:∃N,N=min (a₀.size - lo) (minRun' a₀.size a₀.size 0):=⟨_,rfl⟩
      rw[←hN] at S3 m1 m2)
   | (have R3:=R2
      have S3:=S2
      have m1:=n1
      have m2:lo+n<=a₀.size:=by omega
      obtain⟨N,hN⟩:∃N,N=n:=⟨_,rfl⟩
      rw[←hN] at S3 m1 m2)
  all_goals
   have R4:=zN R (λt _ t2=>R3.o t (.inl t2))
   rw[←R3.p] at R4
   have K3:=R3.k
   refine Ñ (wpS_get ?_)
   split
   ·refine Ñ (Ő (Ĕ (I:=λ_ c st4=>c=(none,())/\Kep a₀ κ st4/\Rs key (arrOf st4) 0 (rl (pendingOf st4)) lo/\Seg key (arrOf st4) lo (lo+N)) (Q:=λc st4=>c=(none,())/\Kep a₀ κ st4/\Rs key (arrOf st4) 0 (rl (pendingOf st4)) lo/\Seg key (arrOf st4) lo (lo+N)) ?_ (λc st4 z=>z) ⟨rfl,K3,R4,S3⟩) ?_)
    ·rintro y c st4 _ hy ⟨rfl,K4,R5,S4⟩
     refine Ñ (wpS_get ?_)
     by_cases cp:(pendingOf st4).size > 1
     ·rw[if_pos cp,show(pendingOf st4)[(pendingOf st4).size - 2]?=some (pendingOf st4)[(pendingOf st4).size - 2] from getElem?_pos ..]
      dsimp only
      refine au (λ_=>Ù ⟨rfl,K4,R5,S4⟩) (λ_=>?_)
      refine Ñ (CV hr L K4 l2 R5 (show(pendingOf st4).size - 2+1<(pendingOf st4).size by omega) λst5 K5 R6 _ o5=>?_)
      exact au (λc4=>absurd c4 (by decide)) (λ_=>Ù ⟨rfl,K5,R6,Dp S4 λt t1 _=>o5 t t1⟩)
     ·rw[if_neg cp]
      exact Ù ⟨rfl,K4,R5,S4⟩
    ·rintro c st4 ⟨rfl,K4,R5,S4⟩
     refine Ñ (ļ (Ñ (ļ (Ù ⟨⟨K4.perm,K4.kind,K4.fail⟩,lo+N,by first|(rw[hN];done)|(rw[hN];rfl),by omega,m2,?_⟩))))
     rw[hN] at S4 m1 ⊢
     refine Eq.subst (motive:=λl=>Rs key (arrOf st4) 0 l _) (Ot (pendingOf st4) _ _ _).symm ?_
     exact mO.mpr ⟨lo,R5,rfl,m1,S4,rfl⟩
   ·refine Ñ (ļ (Ù ⟨⟨K3.perm,K3.kind,K3.fail⟩,lo+N,by first|(rw[hN];done)|(rw[hN];rfl),by omega,m2,?_⟩))
    rw[hN] at S3 m1 ⊢
    refine Eq.subst (motive:=λl=>Rs key _ 0 l _) (zR _ _).symm ?_
    exact mO.mpr ⟨lo,R4,rfl,m1,S3,rfl⟩
 case post =>
  rintro c st' ⟨K',rfl,R⟩
  dsimp only
  simp only[hz]
  refine Ñ (Ő (Ĕ (I:=λx c st2=>c=(none,())/\Kep a₀ κ st2/\Rs key (arrOf st2) 0 (rl (pendingOf st2)) a₀.size/\((pendingOf st2).size+x<=a₀.size\/(pendingOf st2).size<=1)) (Q:=λc st2=>c=(none,())/\Kep a₀ κ st2/\Rs key (arrOf st2) 0 (rl (pendingOf st2)) a₀.size/\(pendingOf st2).size<=1) ?pstep ?pfin ⟨rfl,K',R,?pinit⟩) ?ppost)
  case pinit =>
   have:=vN R
   rw[tW] at this
   omega
  case pfin =>
   rintro c st2 ⟨rfl,K2,R2,z⟩
   exact⟨rfl,K2,R2,by omega⟩
  case pstep =>
   rintro x c st2 _ hx ⟨rfl,K2,R2,z⟩
   refine Ñ (wpS_get ?_)
   refine au (λc=>Ù ⟨rfl,K2,R2,c⟩) (λc=>?_)
   have c:¬(pendingOf st2).size<=1:=c
   refine Ñ (CV hr L K2 (Ë _) R2 ?_ λst3 K3 R3 z3 _=>?_)
   ·exact Mq (show(pendingOf st2).size - 2 - 1+1<(pendingOf st2).size by omega) (show(pendingOf st2).size - 2+1<(pendingOf st2).size by omega)
   ·exact au (λc4=>absurd c4 (by decide)) (λ_=>Ù ⟨rfl,K3,R3,by omega⟩)
  case ppost =>
   rintro c st2 ⟨rfl,K2,R2,z⟩
   refine Ù (h st2 K2 ?_)
   have el:=tW (pendingOf st2)
   cases e:rl (pendingOf st2) with
   |nil =>
    rw[e] at R2
    have:0=a₀.size:=R2
    omega
   |cons t l =>
    cases l with
    |nil =>
     rw[e] at R2
     obtain⟨t1,t2⟩:=t
     obtain⟨_,_,s3,s4⟩:=R2
     have s4:0+t2=a₀.size:=s4
     rw[s4] at s3
     exact s3
    |cons t2 l =>
     rw[e] at el
     simp at el
     omega
end
theorem Hv{α:Type}(d:α){l1 l2:List α}(h:l1.Perm l2):∃p:List Nat,p.Perm (è l2.length)/\l1=p.map λi=>l2.getD i d:=by
 induction h with
 |nil=>exact⟨[],.refl _,rfl⟩
 |@cons x l1 l2 h ih =>
  obtain⟨p,hp,e⟩:=ih
  refine⟨0::p.map (·+1),?_,?_⟩
  ·rw[Ý,List.range_succ_eq_map]
   exact(hp.map _).cons 0
  ·rw[ê,ü,e]
   rfl
 |swap x y l =>
  refine⟨1::0::(è l.length).map (λi=>i+1+1),?_,?_⟩
  ·rw[Ý,Ý,List.range_succ_eq_map,List.range_succ_eq_map,ê,ü]
   exact .swap _ _ _
  ·rw[ê,ê,ü]
   have:=bU l d
   show y::x::l=y::x::(è l.length).map λi=>l.getD i d
   rw[this]
 |@trans l1 l2 l3 h1 h2 ih1 ih2 =>
  obtain⟨p,hp,e1⟩:=ih1
  obtain⟨q,hq,e2⟩:=ih2
  have lq:q.length=l2.length:=by rw[e2,Á]
  refine⟨p.map λi=>q.getD i 0,?_,?_⟩
  ·have:=hp.map λi=>q.getD i 0
   rw[←lq,bU] at this
   exact this.trans hq
  ·rw[e1,ü]
   refine Œ λi hi=>?_
   have hi:i<q.length:=by rw[lq];exact ĳ.mp (hp.mem_iff.mp hi)
   show l2.getD i d=l3.getD (q.getD i 0) d
   rw[e2,Û,æ,É hi,Û (l:=q),É hi]
   rfl
theorem Kz{h:Heap}{u:Value}{t t':Tie}(x:bY h u t)(y:bY h u t'):t=t':=by
 obtain⟨a,o,t1,t2,n,e,ho,hc,hd⟩:=x
 obtain⟨a',o',t1',t2',n',e',ho',hc',hd'⟩:=y
 rw[e] at e'
 cases e'
 rw[ho] at ho'
 cases ho'
 rw[hd] at hd'
 injection hd' with e1 _
 have e1:=congrArg Array.toList e1
 injection e1 with h1 h2
 injection h2 with h2 _
 injection h1 with h1 _
 injection h2 with h2 _
 exact Prod.ext h1 h2
open Classical in
def Bq(h:Heap)(p:Keyed):Int:=if hh:∃t,bY h p.1 t then aB (Classical.choose hh) else 0
theorem uf{h:Heap}{p:Keyed}{t:Tie}(x:bY h p.1 t):Bq h p=aB t:=by
 unfold Bq
 have hh:∃t,bY h p.1 t:=⟨t,x⟩
 rw[dif_pos hh,Kz (Classical.choose_spec hh) x]
theorem BL{prog:Program}{w:World}{A:Around}{E:Value->Shared->Prop}{s:Shared}{a₀:Array Keyed}(h0:∀p∈a₀.toList,∃t,bY s.heap p.1 t/\eG t):Lts (model prog w) A E s (tuples' true) (·∈a₀.toList) (Bq s.heap):=λx y st Q mx my hk h=>by
 obtain⟨a,pa,na⟩:=h0 x mx
 obtain⟨b,pb,nb⟩:=h0 y my
 rw[uf pa,uf pb] at h
 rw[lt'_eq]
 refine Ñ (wpS_get ?_)
 rw[hk]
 exact Ñ (wpS_lift (wpAny_attempt (wA pa pb na nb ⟨rfl,Ù h⟩)))
section
variable {prog:Program}{w:World}{A:Around}{s:Shared}{E:Value->Shared->Prop}
theorem xQ{a:Addr}{us:List Value}{ts:List Tie}{n:Nat}{P:PySem.Fin->Shared->Prop}(ho:s.heap.get? a=some (seqObj "list" us.toArray n))(hp:Paired (bY s.heap) us ts)(hn:∀t∈ts,eG t)(hbig:ts.length<=1000)(h:∀p:List Nat,p.Perm (è us.length)->(∀i j,i<=j->j<us.length->aB (ts.getD (p.getD i 0) (0,0))<=aB (ts.getD (p.getD j 0) (0,0))) ->
   P (.done (.ret .none)) { s with heap:=sortedHeap s.heap a us (p.map λi=>us.getD i ò).toArray }) :
  wpAny (model prog w) A (Builtin.«list.sort» ⟨[.ref a],[]⟩) P E s:=by
 have hlen:=hp.length
 have h24:=í
 rw[list_sort_plain]
 have ha:a<s.heap.objs.size:=Ô ho
 refine Ä (listItems_at ho rfl ?_)
 refine Ä (ż ho rfl ?_ (by rw[Ï,í];omega) (Ă _))
 obtain⟨e1,ho1⟩:∃e1,(s.heap.update a (â λ_=>(#[]:Array Value))).get? a=some (seqObj "list" #[] e1):=⟨_,get?_update_seq ho (λ_=>#[])⟩
 refine Ä (seqEpoch_at ho1 rfl ?_)
 refine Ä (wpAny_newTuple ?_ (by show us.length<=_;rw[í];omega))
 refine Ä (wpAny_newList ?_ (Ă _))
 refine ĥ ?_
 have ho6:(((s.heap.update a (â λ_=>(#[]:Array Value))).push (seqObj "tuple" us.toArray 0)).push (seqObj "list" #[] 0)).get? a=some (seqObj "list" #[] e1):=by
  rw[đ _ _ _ (by rw[size_push',ď];exact ä (Ĉ ha)),đ _ _ _ (by rw[ď];exact ä ha)]
  exact ho1
 have kept:∀b o,s.heap.get? b=some o->o.cls=.type "tuple"->(((s.heap.update a (â λ_=>(#[]:Array Value))).push (seqObj "tuple" us.toArray 0)).push (seqObj "list" #[] 0)).get? b=some o:=λb o q hc=>by
  have hlt:b<s.heap.objs.size:=Ô q
  have hne:b≠a:=λz=>by
   rw[z,ho] at q
   cases q
   have z2:(ą "list")=ą "tuple":=hc
   injection z2 with z3
   exact absurd z3 (by decide)
  rw[đ _ _ _ (by rw[size_push',ď];exact ä (Ĉ hlt)),đ _ _ _ (by rw[ď];exact ä hlt),Heap.get?_update_ne _ _ _ _ hne]
  exact q
 show wpAny (model prog w) A _ P E { s with heap:=((s.heap.update a (â λ_=>(#[]:Array Value))).push (seqObj "tuple" us.toArray 0)).push (seqObj "list" #[] 0) }
 dsimp only
 have hsz:us.toArray.size=us.length:=by simp
 have hp6:Paired (bY (((s.heap.update a (â λ_=>(#[]:Array Value))).push (seqObj "tuple" us.toArray 0)).push (seqObj "list" #[] 0))) us ts:=Paired.yC hp λu t x=>x.keep kept
 by_cases h2:us.toArray.size<2
 ·rw[if_pos h2,if_pos h2]
  refine Ä (Ø ?_)
  rw[StateT.run_pure]
  refine Ä (Ø ?_)
  dsimp only
  have eout:(arrOf (SortSt.mk' general' (us.toArray.zip us.toArray) #[] 7 none)).map (·.2)=((è us.length).map λi=>us.getD i ò).toArray:=by
   rw[bU]
   show(us.toArray.zip us.toArray).map (·.2)=us.toArray
   apply Array.toList_inj.mp
   simp
   exact Km us
  rw[eout]
  refine Ä (seqEpoch_at ho6 rfl ?_)
  refine Ä (ż ho6 rfl ?_ (Ă _) (by rw[Ï,Á,ť,í];omega))
  simp only[bne_self_eq_false,Ĥ,if_false]
  refine Ø (h _ (List.Perm.refl _) λi j hij hj=>?_)
  have:i=j:=by omega
  subst this
  exact ÿ _
 ·rw[if_neg h2,if_neg h2]
  have h2':2<=us.length:=by omega
  obtain⟨fs,hk,hfl,hfi⟩:=yI (s:={ s with heap:=((s.heap.update a (â λ_=>(#[]:Array Value))).push (seqObj "tuple" us.toArray 0)).push (seqObj "list" #[] 0) }) hp6
  refine Ä (W.kat_kind (T:=.type "int") hk (by omega) (λv hv=>by obtain⟨i,t,rfl⟩:=hfi v hv;exact W.Looks.of_pure rfl) rfl ?_)
  have eT:tuples' (ą "int" != ą "tuple")=tuples' true:=rfl
  rw[eT]
  obtain⟨hh,ehh⟩:∃hh,hh=((s.heap.update a (â λ_=>(#[]:Array Value))).push (seqObj "tuple" us.toArray 0)).push (seqObj "list" #[] 0):=⟨_,rfl⟩
  have key:∀k,k<us.length->bY hh (us.getD k ò) (ts.getD k (0,0))/\eG (ts.getD k (0,0)):=λk hk=>by
   have hk':k<ts.length:=by omega
   have ek:ts.getD k (0,0)=ts[k]:=by simp[hk']
   obtain⟨u,eu,pu⟩:=KR hp6 (i:=k) (b:=ts[k]) (by simp[hk'])
   have eu':us.getD k ò=u:=by rw[Û,eu];rfl
   rw[ek,eu',ehh]
   exact⟨pu,hn _ (œ hk')⟩
  have ez:(us.toArray.zip us.toArray).toList=us.map λu=>(u,u):=by
   rw[Array.toList_zip]
   have:∀l:List Value,l.zip l=l.map λu=>(u,u):=λl=>by
    induction l with
    |nil=>rfl
    |cons u l ih=>rw[List.zip_cons_cons,ih];rfl
   exact this us
  have zs:(us.toArray.zip us.toArray).size=us.length:=by simp
  have mem:∀p∈(us.toArray.zip us.toArray).toList,∃t,bY hh p.1 t/\eG t:=λp hp=>by
   rw[ez] at hp
   obtain⟨u,hu,rfl⟩:=ë.mp hp
   obtain⟨k,hk,e⟩:=Ű hu
   have:=key k hk
   rw[Û,É hk,e] at this
   exact⟨_,this⟩
  rw[←ehh] at ho6 ⊢
  refine Ä (Ŗ (CT (s:={ s with heap:=hh }) (a₀:=us.toArray.zip us.toArray) (κ:=tuples' true) (st:=SortSt.mk' (tuples' true) (us.toArray.zip us.toArray) #[] 7 none) (key:=Bq hh) (Q:=λ_ st'=>(arrOf st').toList.Perm (us.toArray.zip us.toArray).toList/\failedOf st'=none/\Seg (Bq hh) (arrOf st') 0 (us.toArray.zip us.toArray).size) (λt Q h=>wpAny_rule h) (BL mem) ⟨List.Perm.refl _,rfl,rfl⟩ rfl (by omega) λst' K S=>⟨K.perm,K.fail,S⟩) ?_ λ_ _ e=>e)
  rintro⟨⟨⟩,st'⟩ s' ⟨rfl,hpm,hf,hs⟩
  dsimp only
  rw[ez] at hpm
  rw[zs] at hs
  obtain⟨p,hpp,ep⟩:=Hv ((ò,ò):Value×Value) hpm
  rw[Á] at hpp
  have hlt:∀i∈p,i<us.length:=λi hi=>ĳ.mp (hpp.mem_iff.mp hi)
  have eg:∀i,i<us.length->(us.map λu=>(u,u)).getD i ((ò,ò):Value×Value)=(us.getD i ò,us.getD i ò):=λi hi=>by
   rw[Û,æ,É hi,Û,É hi]
   rfl
  have ep:(arrOf st').toList=p.map λi=>(us.getD i ò,us.getD i ò):=by
   rw[ep]
   exact Œ λi hi=>eg i (hlt i hi)
  have lp:p.length=us.length:=by simpa using hpp.length_eq
  have hsz2:(arrOf st').size=us.length:=by rw[←č,ep,Á,lp]
  have hout:(arrOf st').map (·.2)=(p.map λi=>us.getD i ò).toArray:=by
   apply Array.toList_inj.mp
   rw[Array.toList_map,ep,ü]
   rfl
  rw[hout]
  refine Ä (seqEpoch_at ho6 rfl ?_)
  refine Ä (ż ho6 rfl ?_ (Ă _) (by rw[Ï,Á,lp,í];omega))
  rw[hf]
  simp only[bne_self_eq_false,Ĥ,if_false]
  rw[ehh]
  refine Ø (h p hpp λi j hij hj=>?_)
  have q:=hs i j (Ă _) hij hj
  have gk:∀i,i<us.length->Bq hh (ga (arrOf st') i)=aB (ts.getD (p.getD i 0) (0,0)):=λi hi=>by
   have hi2:i<p.length:=by omega
   have e:ga (arrOf st') i=(us.getD (p.getD i 0) ò,us.getD (p.getD i 0) ò):=by
    unfold ga
    rw[←ė,ep,æ,É hi2,Û (l:=p),É hi2]
    rfl
   rw[e]
   refine uf (key _ ?_).1
   rw[Û,É hi2]
   exact hlt _ (œ hi2)
  rw[gk i (by omega),gk j hj] at q
  exact q
theorem qT{l:Addr}{us:List Value}{ts:List Tie}{Q:Value->Shared->Prop}(hl:s.heap.IsList l us.toArray\/IsTup s.heap l us.toArray)(hp:Paired (bY s.heap) us ts)(hn:∀t∈ts,eG t)(hbig:ts.length<=1000)(h:∀p:List Nat,p.Perm (è us.length)->(∀i j,i<=j->j<us.length->aB (ts.getD (p.getD i 0) (0,0))<=aB (ts.getD (p.getD j 0) (0,0))) ->
   Q (.ref (s.heap.objs.size+1)) { s with heap:=sortedAll s.heap us (p.map λi=>us.getD i ò).toArray }) :
  wpAny (model prog w) A (call (.builtin "sorted") [.ref l]) Q E s:=by
 have h24:=í
 have hlen:=hp.length
 refine Calls.call_function_entry kind_sorted plain_sorted entry_sorted (args_sorted1 _) ?_
 unfold Builtin.«sorted»
 refine Ä (m:=checkCount "sorted" 1 1 _) (Ø ?_)
 have hsz:((s.heap.push (seqObj "list" #[] 0)).update s.heap.objs.size (â (·++us.toArray))).objs.size=s.heap.objs.size+1:=by
  rw[ď,size_push']
 have hoL:(((s.heap.push (seqObj "list" #[] 0)).update s.heap.objs.size (â (·++us.toArray))).push (seqObj "list" us.toArray 0)).get? (s.heap.objs.size+1)=some (seqObj "list" us.toArray 0):=by
  rw[←hsz];exact ç _ rfl
 have keep:∀b o,s.heap.get? b=some o->(((s.heap.push (seqObj "list" #[] 0)).update s.heap.objs.size (â (·++us.toArray))).push (seqObj "list" us.toArray 0)).get? b=some o:=λb o q=>by
  have hlt:b<s.heap.objs.size:=Ô q
  rw[đ _ _ _ (by rw[hsz];exact ä (Ĉ hlt)),Heap.get?_update_ne _ _ _ _ (ä hlt),đ _ _ _ (ä hlt)]
  exact q
 have go:∀{Q':List Value->Shared->Prop},Q' us { s with heap:=(s.heap.push (seqObj "list" #[] 0)).update s.heap.objs.size (â (·++us.toArray)) }->wpAny (model prog w) A.in1 (collect (.ref l)) Q' (λe s'=>E e s') s:=λ{Q'} hq=>by
  rcases hl with hl|hl
  ·exact collect_list hl hq (by omega)
  ·exact je hl hq (by omega)
 refine Ä (go ?_)
 refine Ä (wpAny_newList ?_ (by omega))
 show wpAny _ _ _ _ _ { s with heap:=((s.heap.push (seqObj "list" #[] 0)).update s.heap.objs.size (â (·++us.toArray))).push (seqObj "list" us.toArray 0) }
 rw[hsz]
 refine Ä (ĥ (wpAny_call_entry slot_list_sort ⟨_,hoL,rfl⟩ entry_list_sort (xQ hoL (Paired.yC hp λu t x=>x.keep λa o e _=>keep a o e) hn hbig λp a1 a2=>⟨_,rfl,?_⟩) (args_list_sort _)))
 exact Ø ⟨_,rfl,h p a1 a2⟩
end
section
variable {X:Cx}
theorem u9:bD X (.builtin "sorted") (λxs H Q=>∃(p:Addr) (vs:List V) (ts:List Tie),xs=[.ref p]/\(SqL X.K H p vs\/SqT X.K H p vs)/\Prs H vs ts/\(∀t∈ts,eG t)/\ts.length<=1000 /\
  ∀l ws us,H l=none->Prs H ws us->us.Perm ts->us.Pairwise (λa b=>aB a<=aB b)->Q (.ref l) (upd H l (.lst ws))):=by
 intro pins s σ H xs us Q I r h
 obtain⟨p,vs,ts,rfl,hp,hpr,hn,hbig,q⟩:=h
 obtain⟨u,rfl,rx⟩:=vals1 r
 cases rx
 have h24:=í
 have fin:∀its:List Value,Vals vs its->(s.heap.IsList p its.toArray\/IsTup s.heap p its.toArray)->wpAny (model X.prog X.w) X.A (call (.builtin "sorted") [.ref p]) (EP X pins σ Q) X.xe s:=λits rv hl=>by
  have hpv:=I.pairs hpr rv
  have hlen:=hpr.length
  have hlen2:=rv.length
  refine qT hl hpv hn hbig λpp hpp hord=>?_
  have eits:its.length=ts.length:=by omega
  rw[eits] at hpp hord
  obtain⟨hperm,hpw⟩:=nU hpp hord
  have hlt:∀i∈pp,i<ts.length:=λi hi=>ĳ.mp (hpp.mem_iff.mp hi)
  have hw:=vV hpr V.non (0,0) pp hlt
  have hvv:Vals (pp.map λi=>vs.getD i V.non) (pp.map λi=>its.getD i ò):=vV rv V.non ò pp λi hi=>by have:=hlt i hi;omega
  obtain⟨e,he⟩:=sortedAll_at s.heap its (pp.map λi=>its.getD i ò).toArray
  refine⟨.ref (s.heap.objs.size+1),upd H (s.heap.objs.size+1) (.lst (pp.map λi=>vs.getD i V.non)),I.laid (t':=s.toks) (λb o eb=>sortedAll_old eb) (Ō _) ?_,rfl,q _ _ _ (I.hok.fresh (Ō _)) hw hperm hpw⟩
  refine⟨?_,_,e,hvv,he⟩
  have hl3:pp.length=ts.length:=by simpa using hpp.length_eq
  rw[Á]
  omega
 rcases hp with hp|hp
 ·obtain⟨its,rv,pl,hz⟩:=I.list hp
  exact fin its rv (.inl pl.isList)
 ·obtain⟨its,rv,pl,hz⟩:=I.tuple hp
  exact fin its rv (.inr pl)
end
end L2
namespace Dl
open PySem L2 PyProof.Rows
variable [Gr]
section
variable {X:Cx}{pos:Pos}{a b c e:Expr}{es:List Expr}{ta tb tc te:DE}{t:DA}
def yM:GC:=λks P=>match ks with
 |[(_,d)]=>∃ts:List Tie,(d=.list (ts.map pD)\/d=.tuple (ts.map pD))/\ts.length<=1000/\(∀t∈ts,eG t)/\∀us:List Tie,us.Perm ts->us.Pairwise (λa b=>aB a<=aB b)->P .new (.list (us.map pD))
 |_=>False
theorem fP{ps:Pos}(hm:X.mg "sorted"=none)(ha:PDA X [a] t)(hg:Gl X "sorted":=by rfl)(he:zS X a []:=by rfl)(hpl:zP X pos []:=by rfl):PD X (.Call (.Name "sorted" ps) [a] [] pos) (tCl yM t) :=
 dh u9 (by
  intro p H0 own Hb H vs ks P Q A r t q
  unfold yM at t
  split at t
  ·obtain⟨ts,hd,hl,hn,t⟩:=t
   obtain⟨v,rfl,r'⟩:=fM r
   have fin:∀l ws us,H l=none->Prs H ws us->us.Perm ts->us.Pairwise (λa b=>aB a<=aB b)->Q (.ref l) (upd H l (.lst ws)):=λl ws us hl' pr hp hs=>by
    obtain⟨k2,i2,nw⟩:=A.new hl' (.lst ws)
    exact q _ _ _ _ (t us hp hs) k2 i2 (.lst nw aq (bI A k2 (Prs.rps pr)))
   rcases hd with rfl|rfl
   ·obtain⟨x,xs,e1,o1,h1,rs1⟩:=Rp.cL r'
    subst e1
    exact⟨x,xs,ts,rfl,.inl (SqL.of h1),Rps.prs rs1,hn,hl,fin⟩
   ·obtain⟨x,xs,e1,h1,rs1⟩:=Rp.gZ r'
    subst e1
    exact⟨x,xs,ts,rfl,.inr (SqT.of h1),Rps.prs rs1,hn,hl,fin⟩
  ·exact t.elim) hg hm boot_sorted ha (by decide) (by decide) he hpl
end
end Dl
namespace Wr
open PySem L2 PyProof.Rows Dl
section
variable [Gr]
variable {X:Cx}{pos:Pos}{a b c e:Expr}{es:List Expr}{ta tb tc te:DE}{t:DA}
theorem fP{ps:Pos}(hm:X.mg "sorted"=none)(ha:WDA X [a] t)(hg:Gl X "sorted":=by rfl)(he:zS X a []:=by rfl)(hpl:zP X pos []:=by rfl):WD X (.Call (.Name "sorted" ps) [a] [] pos) (tCl yM t):=⟨Dl.fP (hm:=hm) (ha:=ha.h) (hg:=hg) (he:=he) (hpl:=hpl)⟩
end
end Wr
namespace Dl
open PySem L2 PyProof.Rows
variable [Gr]
def Ox(i:Nat)(u:DR):DR:=λP ρ=>match ρ[i]? with
 |some (.sp r b ds)=>iW r ρ i=true/\u P (ρ.set i (if b=true then .sn (.list ds) else .sh (.list ds)))
 |_=>False
section
variable {X:Cx}{rest:List Stmt}{u:DR}
theorem pX(i:Nat)(h:WR X rest u):WR X rest (Ox i u):=⟨PSs.wk' h.h (by
 rintro Q σ H ⟨p,H0,own,ρ,P,E,q,w⟩
 unfold Ox at q
 split at q
 ·rename_i r b ds e
  obtain⟨l,vs,hv,o,h,z⟩:=E.slot i _ e
  have E2:EnvD p H0 (aK r own) σ H (ρ.set i .any):=(E.drop (i:=i)).clear q.1
  have c0:∀a,own a=none->aK r own a=none:=λa n=>by unfold aK;rw[n];simp
  have cl:aK r own l=none:=by unfold aK;rw[if_pos o]
  have E3:EnvD p H0 (aK r own) σ H ((ρ.set i .any).set i (if b=true then .sn (.list ds) else .sh (.list ds))):=E2.put (v:=.ref l) (by
   cases b with
   |true=>exact⟨_,hv,.lst ⟨(E.ow l r o).1,(E.ow l r o).2.1,cl⟩ h (z.mono (λc n=>⟨n.1 rfl,n.2.1,c0 c n.2.2⟩) (λ_ _ _ e=>e) λ_ _ e=>e)⟩
   |false=>exact⟨_,hv,.lst ⟨(E.ow l r o).2.1,cl⟩ h (z.mono (λc n=>⟨n.2.1,c0 c n.2.2⟩) (λ_ _ _ e=>e) λ_ _ e=>e)⟩)
  rw[List.set_set] at E3
  exact⟨p,H0,_,_,P,E3,q.2,⟨λd v H' hP hI hk rp=>w.rt d v H' hP hI (λb ob e1 n1 o1=>hk b ob e1 n1 (c0 b o1)) rp⟩⟩
 ·exact q.elim)⟩
end
variable [Gr]
def wV(i:Nat)(te:DE):DS:=λP ρ=>match ρ[i]? with
 |some (.sp r b ds)=>te ρ λk d=>match d with
  |.list es=>k.le (spK b)=true/\ds.length+es.length<=1000/\P.nx ((forget r ρ).set i (.sp r b (ds++es)))
  |_=>False
 |_=>False
section
variable {X:Cx}{st:Stmt}{te:DE}
theorem lV{i:Nat}(h:PS X st (rG (tBM X.K "list" tX (pK i) (jF (aF te eN))))):PDS X st (wV i te):=PS.wk' h (by
 rintro Q σ H ⟨p,H0,own,ρ,P,E,t,w⟩
 unfold wV at t
 split at t
 ·rename_i r b ds hr
  obtain⟨l,vs,hv,o,ho,rs⟩:=E.slot i _ hr
  refine⟨.ref l,hv,.inl ⟨rfl,vs,SqL.of ho⟩,p,H0,own,ρ,_,E,uy t,?_⟩
  rintro ks ws H1 ⟨k,d,rfl,hh⟩ A rk
  cases d with
  |list es =>
   obtain⟨hk,hlen,hn⟩:=hh
   obtain⟨y,rfl,ry⟩:=fM rk
   obtain⟨b2,zs,e1,o1,hb,rz⟩:=Rp.cL ry
   subst e1
   have E1:=E.go A.kp A.pen
   have h1:H1 l=some (.lst vs):=A.kp l _ ho (E.ow l r o).2.1
   have rs1:Rps (okS p H0 own b) H1 vs ds:=rs.mono (λ_ o=>o) (λc u n e=>A.kp c u e n.2.1) A.tups
   have h24:=í
   have l1:=rs.length
   have l2:=rz.length
   refine⟨l,b2,vs,zs,rfl,rfl,h1,hb,by omega,?_⟩
   obtain⟨E2,F2⟩:=E1.zV (b:=b) hv o h1 (rs1.app (lg A hk rz))
   exact w.nx _ σ _ _ E2 (A.frs.trans F2) hn
  |_=>exact hh.elim
 ·exact t.elim)
end
end Dl
namespace Wr
open PySem L2 PyProof.Rows Dl
section
variable [Gr]
variable {X:Cx}{te:DE}
theorem lV{i:Nat}{x:Str}{e:Expr}{es:List Expr}{apos cpos np pos:Pos}(hv:WV X (.Name x np) i)(ha:WDA X (e::es) (aF te eN))(hbase:attributeBase (.Name x np) "extend" X.env (eval (.Name x np) X.env)=eval (.Name x np) X.env:=by rfl)(hfew:zW X cpos (e::es):=by rfl)(hline:(apos.endLine == cpos.line)=true:=by rfl)(hst:zS X e es:=by rfl)(hplain:zP X cpos es:=by rfl)(hs:swapsWith (.Call (.Attribute (.Name x np) "extend" apos) (e::es) [] cpos) none pos.line X.env=pure false:=by rfl) :
  WDS X (.Expr (.Call (.Attribute (.Name x np) "extend" apos) (e::es) [] cpos) pos) (wV i te):=⟨Dl.lV (fY (rQ Ĳ PySem.F.slot_list_extend PySem.F.type_list_extend nq hv.h ha.h hbase hfew hline hst hplain) hs)⟩
end
end Wr
namespace Dl
open PySem L2 PyProof.Rows
variable [Gr]
section
variable {X:Cx}{scope:Scope}{tg iter elt:Expr}{ifs:List Expr}{pos:Pos}{ti:DI}{g:DG}{tt:DT}{te:DE}
def Ay(i:Nat)(r:Nat)(b:Bool)(n:Nat)(ti:DI)(g:DG)(tt:DT)(te:DE):DS:=λP ρ=>ti ρ λk ds=>ds.length<=1000/\∃(ke:Kd) (Iv:Nat->List D->Prop),Iv 0 [] /\
 (∀i d ys,ds[i]?=some d->Iv i ys->g (norm (elC k) d) d (Ì n .any++ρ) λρ'=>tt ρ' λb=>if b=true then te ρ' λk' d'=>(norm k' d').le ke=true/\Iv (i+1) (ys++[d']) else Iv (i+1) ys) /\
 iW r ρ i=true/\ke.le (spK b)=true/\∀ys,Iv ds.length ys->P.nx (ρ.set i (.sp r b ys))
theorem BR{n i₀ r₀:Nat}{b₀:Bool}:∀Q σ H,qC (Ay i₀ r₀ b₀ n ti g tt te) Q σ H->pN (tLC n (Fo ti) (λ_=>Ah g) (λ_=>liftT tt) (λ_=>cH te)) (gY i₀) Q σ H:=by
 rintro Q σ H ⟨p,H0,own,ρ,P,E,t,w⟩
 refine⟨p,H0,own,ρ,_,E,t,λk ds J H1 Ok h A W o1=>?_⟩
 obtain⟨hlen,ke,Iv,i0,step,hfree,hke,done⟩:=h
 have okS:∀H',Kp p H1 H'->p.PI H'->Ok H':=λH' K i=>W.stab H1 H' o1 (λb o n e=>K b o e (gD A n.1)) (iV A K)
 refine⟨λi m ys H'=>m=ds.length - i/\i<=ds.length/\Kp p H1 H'/\p.PI H'/\∃es,Rps (okK p H0 own H ke) H' ys es/\es.length<=i/\Iv i es,⟨_,rfl,Ă _,Kp.refl,A.pen,[],.nil,Ë _,i0⟩,?_⟩
 rintro c i m ys H' ⟨rfl,hi,K',I',es,rs,hl,iv⟩
 have oH:=okS H' K' I'
 have A':=A.go K' I'
 have h24:=í
 by_cases hlt:i<ds.length
 ·refine .inr ⟨W.go i H' oH hlt,by have:=rs.length;omega,λys' H2=>Kp p H1 H2/\p.PI H2/\∃es,Rps (okK p H0 own H ke) H2 ys' es/\es.length<=i+1/\Iv (i+1) es,λys' H2 h=>⟨_,by omega,rfl,hlt,h⟩,λx H2 y=>?_⟩
  obtain⟨sm,rx⟩:=W.yld i H' x H2 oH y
  have rx:=rx ds[i] (É hlt)
  have I2:p.PI H2:=p.mono H' H2 I' λb o _ e=>sm b o e
  have K2:Kp p H1 H2:=K'.trans (Kp.of sm)
  have A2:=A.go K2 I2
  have E2:EnvD p H0 own σ H2 ρ:=E.go A2.kp A2.pen
  have rs2:=bI A' (Kp.of sm) rs
  refine⟨p,H0,own,_,_,_,_,E2.comp n,fO (JN A rx),step i ds[i] es (É hlt) iv,λσ3 ρ3 E3 t3=>?_⟩
  refine⟨p,H0,own,ρ3,_,E3,t3,λb H4 h4 A4=>?_⟩
  have A5:At p H0 own H H4:=A2.base A4
  have rs4:=bI A2 A4.kp rs2
  cases b with
  |true =>
   refine aL ⟨p,H0,own,ρ3,_,E3.go A4.kp A4.pen,by simpa using h4,λk' d' v H6 h6 A6 r6=>?_⟩
   refine⟨(K2.trans A4.kp).trans A6.kp,A6.pen,es++[d'],(bI A5 A6.kp rs4).snoc (jA (A5.base A6) h6.1 (aW (fX A5 r6))),by simp;omega,h6.2⟩
  |false=>exact bF ⟨K2.trans A4.kp,A4.pen,es,rs4,by omega,by simpa using h4⟩
 ·have e:i=ds.length:=by omega
  subst e
  refine .inl ⟨W.stop H' oH,λl hl'=>?_⟩
  obtain⟨own',E2,F2⟩:=E.spine (i:=i₀) (r:=r₀) (b:=b₀) A' hfree hl' (lg A' hke rs)
  exact w.nx _ _ _ _ E2 F2 (done es iv)
theorem nD(r:Nat)(b:Bool)(own:List Str){i:Nat}{y:Str}{py spos:Pos}(hc:X.calm=true)(hN:X.N.Nodup)(hiN:X.N[i]?=some y)(hx:Loc X.env.scope y)(hi:PDI X tg iter ti)(hg:∀c,PDG (X.comp own scope c) tg g)(ht:∀c,zm (X.comp own scope c) ifs tt)(he:∀c,PD (X.comp own scope c) elt te)(hsw:swapsWith (.ListComp elt [⟨tg,iter,ifs,0⟩] scope pos) (some (.Name y py)) spos.line X.env=pure true:=by rfl)(hk:dG X.env scope X.N=true:=by rfl)(hs:zF X iter:=by intro _;rfl)(hf:zL X y:=by first|exact .inl rfl|exact .inr rfl|assumption) :
  PDS X (.Assign [.Name y py] (.ListComp elt [⟨tg,iter,ifs,0⟩] scope pos) spos) (Ay i r b own.length ti g tt te):=PS.wk' (JB own hc hN hiN hx hi hg ht he hsw hk hs hf) λQ σ H q=>BR Q σ H q
end
end Dl
namespace Wr
open PySem L2 PyProof.Rows Dl
section
variable [Gr]
variable {X:Cx}{scope:Scope}{tg iter elt:Expr}{ifs:List Expr}{pos:Pos}{ti:DI}{g:DG}{tt:DT}{te:DE}
theorem nD(r:Nat)(b:Bool)(own:List Str){i:Nat}{y:Str}{py spos:Pos}(hc:X.calm=true)(hN:X.N.Nodup)(hiN:X.N[i]?=some y)(hx:Loc X.env.scope y)(hi:WDI X tg iter ti)(hg:∀c,WDG (X.comp own scope c) tg g)(ht:∀c,WDTs (X.comp own scope c) ifs tt)(he:∀c,WD (X.comp own scope c) elt te)(hsw:swapsWith (.ListComp elt [⟨tg,iter,ifs,0⟩] scope pos) (some (.Name y py)) spos.line X.env=pure true:=by rfl)(hk:dG X.env scope X.N=true:=by rfl)(hs:zF X iter:=by intro _;rfl)(hf:zL X y:=by first|exact .inl rfl|exact .inr rfl|assumption) :
  WDS X (.Assign [.Name y py] (.ListComp elt [⟨tg,iter,ifs,0⟩] scope pos) spos) (Ay i r b own.length ti g tt te):=⟨Dl.nD r b own hc hN hiN hx hi.h (λc=>(hg c).h) (λc=>(ht c).h) (λc=>(he c).h) hsw hk hs hf⟩
end
end Wr
open Wr renaming ak → À,aA → Â,dv → Ç,dI → Ú,cj → Ü,uh → ß,bA → à,bW → î,kJ → õ,aU → ú,Ed → Ċ,bL → Ē,iZ → Ę,eE → ę,nG → ĝ,qL → Ħ,gJ → ĺ,qM → Ľ,rR → Ń,p8 → Ś,sG → ś,nF → ŝ,jJ → Ţ,wv → ű,dc → Ų
open Dl renaming Cal → ċ,Il → ĭ,qt → ľ,qu → Ŀ,Bn → ō,Hh → Ż,any_ints → Ž
open L2 renaming Mz → Ģ,DW → ħ,eX → Ŧ
open Wr.WDSs renaming h → İ
namespace Nf
open PySem PySem.W PyProof.Rows
def oM(tb:String->Option Builtin)(p:Program)(w:World)(m:Nat)(ann:Option Value):Nat->SharedT->Thread->Option SharedT
 |0,_,_=>none
 |n+1,s,t=>match through t with
  |true=>some s
  |false=>match stepOk m ann t with
   |false=>none
   |true=>match stepT (denote tb) p w s t with
    |none=>none
    |some r=>oM tb p w m ann n r.1 r.2
theorem rF{tb:String->Option Builtin}{p:Program}{w:World}{m:Nat}{ann:Option Value}:∀{n:Nat}{s s':SharedT}{t:Thread},oM tb p w m ann n s t=some s'->topRun tb p w m ann n s.abs t=some s'.abs
 |0,_,_,_,h=>by cases h
 |n+1,s,s',t,h=>by
  unfold oM at h
  unfold topRun
  cases he:through t with
  |true=>rw[he] at h;cases h;rfl
  |false =>
   rw[he] at h
   cases hk:stepOk m ann t with
   |false=>rw[hk] at h;cases h
   |true =>
    rw[hk] at h
    cases hs:stepT (denote tb) p w s t with
    |none=>rw[hs] at h;cases h
    |some r=>obtain⟨s2,t2⟩:=r;rw[hs] at h;rw[stepT_spec hs];exact rF h
def qK(P:Params):List DictEntry:=match (Ŵ P).data with|.dict es _=>es.toList|_=>[]
def fV(P:Params)(i:Nat):List DictEntry:=((qK P).drop i).take 16
def b0(P:Params):List DictEntry:=by
 refine(?f:(l:List DictEntry)->l=fV P 0->List DictEntry) ?l ?h
 case f=>exact λl _=>l
 case h=>unfold fV qK Ŵ;dsimp only[Ź,ū];exact rfl
def b1(P:Params):List DictEntry:=by
 refine(?f:(l:List DictEntry)->l=fV P 16->List DictEntry) ?l ?h
 case f=>exact λl _=>l
 case h=>unfold fV qK Ŵ;dsimp only[Ź,ū];exact rfl
def b2(P:Params):List DictEntry:=by
 refine(?f:(l:List DictEntry)->l=fV P 32->List DictEntry) ?l ?h
 case f=>exact λl _=>l
 case h=>unfold fV qK Ŵ;dsimp only[Ź,ū];exact rfl
def b3(P:Params):List DictEntry:=by
 refine(?f:(l:List DictEntry)->l=fV P 48->List DictEntry) ?l ?h
 case f=>exact λl _=>l
 case h=>unfold fV qK Ŵ;dsimp only[Ź,ū];exact rfl
def b4(P:Params):List DictEntry:=by
 refine(?f:(l:List DictEntry)->l=fV P 64->List DictEntry) ?l ?h
 case f=>exact λl _=>l
 case h=>unfold fV qK Ŵ;dsimp only[Ź,ū];exact rfl
def b5(P:Params):List DictEntry:=by
 refine(?f:(l:List DictEntry)->l=fV P 80->List DictEntry) ?l ?h
 case f=>exact λl _=>l
 case h=>unfold fV qK Ŵ;dsimp only[Ź,ū];exact rfl
def b6(P:Params):List DictEntry:=by
 refine(?f:(l:List DictEntry)->l=fV P 96->List DictEntry) ?l ?h
 case f=>exact λl _=>l
 case h=>unfold fV qK Ŵ;dsimp only[Ź,ū];exact rfl
def b7(P:Params):List DictEntry:=by
 refine(?f:(l:List DictEntry)->l=fV P 112->List DictEntry) ?l ?h
 case f=>exact λl _=>l
 case h=>unfold fV qK Ŵ;dsimp only[Ź,ū];exact rfl
def b8(P:Params):List DictEntry:=by
 refine(?f:(l:List DictEntry)->l=fV P 128->List DictEntry) ?l ?h
 case f=>exact λl _=>l
 case h=>unfold fV qK Ŵ;dsimp only[Ź,ū];exact rfl
def b9(P:Params):List DictEntry:=by
 refine(?f:(l:List DictEntry)->l=fV P 144->List DictEntry) ?l ?h
 case f=>exact λl _=>l
 case h=>unfold fV qK Ŵ;dsimp only[Ź,ū];exact rfl
def bo0(P:Params):Obj:={ cls:=.type "dict",data:=.dict ⟨b0 P++(b1 P++(b2 P++(b3 P++(b4 P++(b5 P++(b6 P++(b7 P++(b8 P++(b9 P)))))))))⟩ 159 }
theorem Nh:Ŵ=bo0:=by funext P;kernel_rfl
def Gw(P:Params):Heap:={ objs:=⟨[bo0 P,boot_o_1 P,boot_o_2 P,boot_o_3 P,boot_o_4 P,boot_o_5 P,boot_o_6 P,boot_o_7 P,boot_o_8 P,boot_o_9 P,boot_o_10 P]⟩ }
theorem xq:Ŏ=Gw:=by
 funext P
 show Heap.mk ⟨Ŵ P::_⟩ _=_
 rw[Nh]
 rfl
def xg(P:Params):BT:=((((((((((BT.nil.ins 0 (bo0 P)).ins 1 (boot_o_1 P)).ins 2 (boot_o_2 P)).ins 3 (boot_o_3 P)).ins 4 (boot_o_4 P)).ins 5 (boot_o_5 P)).ins 6 (boot_o_6 P)).ins 7 (boot_o_7 P)).ins 8 (boot_o_8 P)).ins 9 (boot_o_9 P)).ins 10 (boot_o_10 P)
def JW:Life:={}
theorem Cv(P:Params):absHeap (xg P) 11 JW=Ŏ P:=by rw[xq];kernel_rfl
def xP(w:World)(os:OsState):SharedT:=⟨xg w.params,11,JW,#[],boot_drawn,boot_toks,os⟩
theorem Bg(w:World)(os:OsState):(xP w os).abs=⟨Ŏ w.params,#[],boot_drawn,boot_toks,os⟩:=by
 unfold xP SharedT.abs
 dsimp only
 rw[Cv]
def zM(P:Params):=((Ŏ P).isNs mainGlobals,(Ŏ P).objs.size,(Ŏ P).nsMap mainGlobals "__annotations__")
theorem xR:zM=zM:=rfl
end Nf
name_quick sizeQ for Nf.zM by Nf.xR
namespace Nf
open PySem PySem.W PyProof.Rows
theorem Cw(w:World):((Ŏ w.params).isNs mainGlobals,(Ŏ w.params).objs.size,(Ŏ w.params).nsMap mainGlobals "__annotations__")=(true,11,some (.ref 6)):=by
 show zM w.params=_
 rw[W.Fast.sizeQ_eq]
 kernel_rfl
def Bm(p:Program)(N:Nat)(w:World)(os:OsState):=oM treeTable p w 11 (some (.ref 6)) N (xP w os) (topStub p)
def Dq(p q:Program)(Xt:Shared->Bool)(w:World)(s:Shared) :=
 (staticsOk (importedModules p.main.body) (Gw w.params) s.heap&&namesBound p s.heap&&gensDone s&&laidKept (Gw w.params) s.heap,openSeen q [] (importedModules p.main.body) Xt true s)
theorem Im{p q:Program}{Xt:Shared->Bool}{β:Type}{Yf:Shared->List β}{Ya:World->List β}{N:Nat}(k:Nat)(open_:∀w:World,(fencedOpening treeTable p w N).map (λs=>(s.heap,s.gens,s.drawn,s.toks))=some (Ŏ w.params,Array.mk [],boot_drawn,boot_toks))(look:∀(w:World) (os:OsState),(Bm p N w os).map (λs=>Dq p q Xt w s.abs)=some (true,openGood q []))(front:∀(w:World) (os:OsState),(Bm p N w os).map (λs=>(Yf s.abs).take k)=some ((Ya w).take k))(back:∀(w:World) (os:OsState),(Bm p N w os).map (λs=>(Yf s.abs).drop k)=some ((Ya w).drop k)):LeftO p q [] Xt Yf Ya N:=λw=>by
 obtain⟨⟨h,gs,d,j,os⟩,e,e'⟩:=Option.map_eq_some_iff.mp (open_ w)
 obtain⟨rfl,rfl,rfl,rfl⟩:h=Ŏ w.params/\gs=#[]/\d=boot_drawn/\j=boot_toks:=by simpa using e'
 obtain⟨z1,z2,z3⟩:_/\_/\_:=by simpa only[Prod.mk.injEq] using Cw w
 obtain⟨s,hs,l⟩:=Option.map_eq_some_iff.mp (look w os)
 have l4:(Yf s.abs).take k=(Ya w).take k:=by
  have:=front w os
  rw[hs] at this
  exact ã this
 have l5:(Yf s.abs).drop k=(Ya w).drop k:=by
  have:=back w os
  rw[hs] at this
  exact ã this
 have l3:Yf s.abs=Ya w:=by rw[←Č k (Yf s.abs),l4,l5,Č]
 unfold Dq at l
 rw[←xq] at l
 obtain⟨l1,l2⟩:=Prod.mk.inj l
 have r:=rF hs
 rw[Bg] at r
 have t:topFrom treeTable p w N ⟨Ŏ w.params,#[],boot_drawn,boot_toks,os⟩=some s.abs:=by
  unfold topFrom
  dsimp only
  rw[z1,z2,z3,r]
  show(match staticsOk (importedModules p.main.body) (Ŏ w.params) s.abs.heap&&namesBound p s.abs.heap&&gensDone s.abs&&laidKept (Ŏ w.params) s.abs.heap with|true=>_|false=>_)=_
  rw[l1]
 unfold openEnds
 rw[e]
 show(topFrom treeTable p w N _).map _=_
 rw[t]
 exact congrArg some (Prod.ext l2 l3)
end Nf
namespace Nf
open PySem L2 PyProof.Rows Dl
def top(i:Nat):Stmt:=PySem.Challenge.pw_nofall_k53_ways_not_let_by.main.body.getD i (.Pass ⟨0,0,0,0⟩)
structure Proper(n:Int)(l:List Int):Prop where
 one:1<=l.length
 few:(l.length:Int)<n
 rng:∀x∈l,0<=x/\x<n
 rise:l.Pairwise (·<·)
 n16:n<=16
def J2(ds:List D)(P:D->Prop):Prop:=∃l:List Int,ds=[.list (l.map Ã)]/\l.length<=400/\P (.list ((l.dropLast.zip (l.drop 1)).map pD))
def toI:D->Int
 |.int i=>i
 |_=>0
def jB(l:List Int):Bool:=(l.dropLast.zip (l.drop 1)).all λt=>decide (t.1<t.2)
def Hl(m:Int):D->Bool
 |.list es=>es.all (aP m)&&jB (es.map toI)
 |_=>false
def PB(n:Int):D->Bool
 |.list es=>decide ((1:Int)<=(es.length:Nat))&&decide (((es.length:Nat):Int)<n)
 |_=>false
def aH(n:Int)(d:D):Bool:=Hl n d&&PB n d
def Few(d:D):Prop:=∀es,d=.list es->es.length<=400
def Am(ds:List D)(P:D->Prop):Prop:=∃m d,ds=[.int m,d]/\Few d/\P (.bool (Hl m d))
def uW(ds:List D)(P:D->Prop):Prop:=∃n d,ds=[.int n,d]/\Few d/\P (.bool (aH n d))
def Gi(ds:List D)(P:D->Prop):Prop:=∃n us l,ds=[aM n us,.list (l.map Ã)]/\Proper n l/\P .none
def lv(l:List Int)(t:Tie):Bool:=decide (t.1∈l) != decide (t.2∈l)
def MK(ds:List D)(P:D->Prop):Prop:=∃n us l,ds=[aM n us,.list (l.map Ã)]/\Proper n l/\us.length<=100/\P (.list ((us.filter (lv l)).map pD))
theorem Ca{l:List Int}(h:l.Pairwise (·<·)):∀t∈l.dropLast.zip (l.drop 1),t.1<t.2:=by
 intro t ht
 obtain⟨i,hi,e⟩:=Ĵ.mp ht
 have h1:i<l.length - 1:=by
  rw[List.length_zip,Ū,ý] at hi
  omega
 rw[List.getElem_zip] at e
 have e1:l.dropLast[i]'(by rw[Ū];exact h1)=l[i]:=List.getElem_dropLast _
 have e2:(l.drop 1)[i]'(by rw[ý];exact h1)=l[1+i]:=List.getElem_drop
 rw[←e]
 simp only[e1,e2]
 exact(List.pairwise_iff_getElem.mp h) i (1+i) (by omega) (by omega) (by omega)
theorem dZ{n:Int}{d:D}(h:aP n d=true):∃i:Int,d=.int i:=by
 cases d with
 |int i=>exact⟨i,rfl⟩
 |_=>cases h
theorem cA(d:D):aQ d=.im d\/aQ d=.sh d:=by
 unfold aQ
 by_cases h:bK d=true
 ·rw[if_pos h];exact .inl rfl
 ·rw[if_neg h];exact .inr rfl
theorem ints_of{n:Int}:∀{es:List D},es.all (aP n)=true->es=(es.map toI).map Ã
 |[],_=>rfl
 |d::es,h=>by
  rw[ş,Ê] at h
  obtain⟨i,rfl⟩:=dZ h.1
  have:=ints_of h.2
  rw[ê,ê,←this]
  rfl
theorem jP(l:List Int):(l.map Ã).map toI=l:=by rw[ü];exact List.map_id' l
theorem pY{n:Int}{l:List Int}(h:Proper n l):aH n (.list (l.map Ã))=true:=by
 have h1:=h.one
 have h2:=h.few
 have e1:(l.map Ã).all (aP n)=true:=ø.mpr λd hd=>by
  obtain⟨x,hx,rfl⟩:=ë.mp hd
  exact decide_eq_true (h.rng x hx)
 have e2:jB l=true:=ø.mpr λt ht=>decide_eq_true (Ca h.rise t ht)
 show(((l.map Ã).all (aP n)&&jB ((l.map Ã).map toI))&&(decide ((1:Int)<=((l.map Ã).length:Nat))&&decide ((((l.map Ã).length:Nat):Int)<n)))=true
 rw[e1,jP,e2,Á,decide_eq_true (show(1:Int)<=(l.length:Nat) by omega),decide_eq_true h2]
 rfl
theorem Gb{l:List Int}(h:l.length<=400):Few (.list (l.map Ã)):=λes e=>by
 injection e with e
 rw[←e,Á]
 exact h
theorem fB{α:Type}(l:List α):bM l none (some (-1))=l.dropLast:=by
 unfold bM
 have e1:HT.sIx l.length 0 none=0:=rfl
 have e2:HT.sIx l.length l.length (some (-1))=l.length - 1:=by
  have e:HT.sIx l.length l.length (some (-1))=((-1:Int)+(l.length:Int)).toNat:=rfl
  rw[e]
  omega
 rw[e1,e2,List.drop_zero,Nat.sub_zero,List.dropLast_eq_take]
theorem qN{α:Type}(l:List α):bM l (some 1) none=l.drop 1:=by
 unfold bM
 have e1:HT.sIx l.length l.length none=l.length:=rfl
 have e2:HT.sIx l.length 0 (some 1)=min 1 l.length:=HT.oO l.length 0 1
 rw[e1,e2]
 rw[Ļ (by rw[ý];omega)]
 by_cases h:1<=l.length
 ·rw[Nat.min_eq_left h]
 ·have:l=[]:=List.length_eq_zero_iff.mp (by omega)
  subst this
  rfl
theorem vo(a b:List Int):((a.map Ã).zip (b.map Ã)).map prD=(a.zip b).map pD:=by
 rw[List.zip_map,ü]
 rfl
section
variable {P:Program}{w:World}{K:Þ}{mg:Str->Option Value}{base:Heap}{f:Addr}{fd:FuncData}
theorem sc4:FnScope ["thing"] ["thing"] (aj (top 4)):=zC
theorem Et(F:Fun K "is_whole" "is_whole" (top 4) f fd)(B:ō mg):FnOk P w K mg base CX0 1 f fd ["thing"] (spD Ge):=by
 refine F.ok sc4 ĭ (λcdv A outer s H vs Q E hr h=>?_)
 refine⟨_,aU (bL (fG (bQ Ir B.isinstance (dv 0) (kh (v:=.ty "int") rfl B.int boot_int rfl)) (gq (Le (bQ wG B.isinstance (dv 0) (kh (v:=.ty "bool") rfl B.bool boot_bool rfl)))))),uX h ?_⟩
 rintro ds P ⟨d,rfl,q⟩
 unfold u0 vH tIs
 refine Dh (d:=d) rfl λk=>?_
 cases d <;> exact⟨rfl,q⟩
theorem sc5:FnScope ["limit","thing"] ["limit","thing"] (aj (top 5)):=zC
theorem Ew(F:Fun K "is_below" "is_below" (top 5) f fd)(W:ċ P w K mg base 1 "is_whole" ["thing"] (spD Ge)):FnOk P w K mg base CX0 2 f fd ["limit","thing"] (spD yR):=by
 refine F.ok sc5 ĭ (λcdv A outer s H vs Q E hr h=>?_)
 refine⟨_,aU (bL (fG (dc W hr (ak (dv 1) aA)) (gq (Ab bA (dv 1) (dv 0))))),uX h ?_⟩
 rintro ds P ⟨m,d,rfl,q⟩
 unfold u0 vH tFn aF
 refine Dh (d:=d) rfl λk=>⟨d,rfl,?_⟩
 cases d with
 |int i =>
  have e:P (.bool (decide (0<=i/\i<m))):=q
  by_cases h0:(0:Int)<=i
  ·show if decide ((0:Int)<=i)=true then _ else _
   rw[decide_eq_true h0]
   refine aL (B:=True) ⟨rfl,?_⟩
   have e2:decide (0<=i/\i<m)=decide (i<m):=by simp[h0]
   rw[e2] at e
   exact e
  ·show if decide ((0:Int)<=i)=true then _ else _
   rw[decide_eq_false h0]
   refine bF (A:=True) ⟨rfl,?_⟩
   have e2:decide (0<=i/\i<m)=false:=by simp[h0]
   rw[e2] at e
   exact e
 |_=>exact⟨rfl,q⟩
theorem sc7:FnScope ["places"] ["places"] (aj (top 9)):=zC
theorem HW(F:Fun K "hops" "hops" (top 9) f fd)(B:ō mg)(mz:mg "zip"=none):FnOk P w K mg base CX0 1 f fd ["places"] (spD J2):=by
 refine F.ok sc7 ĭ (λcdv A outer s H vs Q E hr h=>?_)
 refine⟨_,aU (bL (yc rfl B.list mz (ak (Eb (dv 0) dR (cO (fD bA))) (ak (Eb (dv 0) (cO bA) dR) aA)))),uX h ?_⟩
 rintro ds P ⟨l,rfl,hl,q⟩
 refine .inl ⟨?_,.inl ⟨?_,?_,.inl ⟨?_,rfl,?_⟩⟩⟩
 ·show cT (bM (l.map Ã) none (some (-1)))=true
  rw[fB,←List.map_dropLast]
  exact dD _
 ·show cT (bM (l.map Ã) (some 1) none)=true
  rw[qN,←Ŷ]
  exact dD _
 ·show(bM (l.map Ã) none (some (-1))).length<=1000
  rw[fB,Ū,Á]
  omega
 ·show cT _=true
  rw[fB,qN,←List.map_dropLast,←Ŷ,vo]
  exact bC _
 ·show P _
  rw[fB,qN,←List.map_dropLast,←Ŷ,vo]
  exact q
end
section
variable {P:Program}{w:World}{K:Þ}{mg:Str->Option Value}{base:Heap}{f:Addr}{fd:FuncData}
theorem sc9:FnScope ["limit","thing"] ["limit","thing"] (aj (top 11)):=zC
theorem Rh:(["number","limit","thing"]:List Str).Nodup:=by decide +kernel
theorem Rg:(["hop","limit","thing"]:List Str).Nodup:=by decide +kernel
theorem Bt(F:Fun K "is_rising" "is_rising" (top 11) f fd)(B:ō mg)(W:ċ P w K mg base 2 "is_below" ["limit","thing"] (spD yR))(HO:ċ P w K mg base 1 "hops" ["places"] (spD J2)):FnOk P w K mg base CX0 3 f fd ["limit","thing"] (spD Am):=by
 refine F.ok sc9 ĭ (λcdv A outer s H vs Q E hr h=>?_)
 refine⟨_,cj (sG (PDW.pt (fC (bJ (bx (bQ qG B.isinstance (dv 1) (kh (v:=.ty "list") rfl B.list boot_list rfl)))) (dH (bJ (bx (mY rfl B.all Dl.boot_all (ak (cP ["number"] rfl (eE (dv 1)) (λc=>bW (cg (i:=0) Rh rfl (ĵ rfl))) (λc=>gJ) (λc=>dc W hr (ak (dv 1) (ak (dv 0) aA)))) aA))))))) (aU (bL rR)) nG)
  (aU (bL (mY rfl B.all Dl.boot_all (ak (cP ["hop"] rfl (eE (dc HO hr (ak (dv 1) aA))) (λc=>bW (cg (i:=0) Rg rfl (ĵ rfl))) (λc=>gJ) (λc=>O5 (iH (dv 0) bA (λ_ _=>rfl)) (iH (dv 0) bA (λ_ _=>rfl)))) aA)))),aX h ?_⟩
 rintro ds P ⟨n,d,rfl,hf,q⟩
 refine⟨[.im (.int n),aQ d],rfl,?_⟩
 cases d with
 |list es =>
  have hl:=hf es rfl
  have q:P (.bool (es.all (aP n)&&jB (es.map toI))):=q
  refine bF (A:=True) ⟨by omega,.imm,λi ys=>ys=(es.take i).map λd=>PyData.bool (aP n d),rfl,λi d ys hd hy=>?_,λys hy=>?_⟩
  ·subst hy
   by_cases hi:bK d=true
   ·have en:∀k,norm k d=.imm:=λk=>ľ hi
    unfold gNm
    simp only[en]
    exact aL (B:=True) ⟨n,d,rfl,rfl,(iU _ hd).symm⟩
   ·have en:∀k,norm k d=k:=λk=>Ŀ hi
    unfold gNm
    simp only[en]
    exact aL (B:=True) ⟨n,d,rfl,rfl,(iU _ hd).symm⟩
  ·dsimp only at hy
   rw[û] at hy
   refine⟨es.map (aP n),by rw[hy,ü];rfl,?_⟩
   rw[List.all_map]
   show if (!es.all (aP n))=true then _ else _
   cases ha:es.all (aP n) with
   |false =>
    rw[ha] at q
    exact⟨rfl,q⟩
   |true =>
    rw[ha] at q
    have q:P (.bool (jB (es.map toI))):=q
    have ei:=ints_of ha
    generalize hm:es.map toI=l at q ei
    have hll:l.length<=400:=by rw[←hm,Á];exact hl
    subst ei
    -- rising
    refine⟨l,rfl,hll,?_,.imm,λi ys=>ys=((l.dropLast.zip (l.drop 1)).take i).map λt=>PyData.bool (decide (t.1<t.2)),rfl,?_,?_⟩
    ·rw[Á,List.length_zip,Ū]
     omega
    ·rintro i d ys hd rfl
     obtain⟨t,ht,rfl⟩:=dM hd
     exact aL (B:=True) ⟨.int t.1,rfl,.int t.2,rfl,rfl,(iU _ ht).symm⟩
    rintro ys rfl
    refine⟨(l.dropLast.zip (l.drop 1)).map λt=>decide (t.1<t.2),?_,rfl,?_⟩
    ·rw[Á,û,ü]
     rfl
    ·rw[List.all_map]
     rw[jP] at q
     exact q
 |tuple es=>rcases cA (.tuple es) with e|e <;> rw[e] <;> exact aL (B:=True) ⟨rfl,q⟩
 |_=>exact aL (B:=True) ⟨rfl,q⟩
theorem QT:FnScope ["n","thing"] ["n","thing"] (aj (top 12)):=zC
theorem Bu(F:Fun K "is_proper_set" "is_proper_set" (top 12) f fd)(B:ō mg)(R:ċ P w K mg base 3 "is_rising" ["limit","thing"] (spD Am)):FnOk P w K mg base CX0 4 f fd ["n","thing"] (spD uW):=by
 refine F.ok QT ĭ (λcdv A outer s H vs Q E hr h=>?_)
 refine⟨_,aU (bL (fG (dc R hr (ak (dv 0) (ak (dv 1) aA))) (gq (Ab bA (jJ B.len (ak (dv 1) aA)) (dv 0))))),aX h ?_⟩
 rintro ds P ⟨n,d,rfl,hf,q⟩
 refine⟨[.im (.int n),aQ d],rfl,?_⟩
 have q:P (.bool (Hl n d&&PB n d)):=q
 cases d with
 |list es =>
  refine⟨n,.list es,rfl,hf,jx (λc=>?_) (λc=>?_)⟩
  ·rw[c] at q
   have q:P (.bool (decide ((1:Int)<=(es.length:Nat))&&decide (((es.length:Nat):Int)<n))):=q
   show if decide ((1:Int)<=(es.length:Nat))=true then _ else _
   refine jx (λc1=>⟨rfl,?_⟩) (λc1=>⟨rfl,?_⟩)
   ·rw[c1] at q
    exact q
   ·have c1:decide ((1:Int)<=(es.length:Nat))=false:=by simpa using c1
    rw[c1] at q
    exact q
  ·have c:Hl n (.list es)=false:=by simpa using c
   rw[c] at q
   exact⟨rfl,q⟩
 |tuple es=>rcases cA (.tuple es) with e|e <;> rw[e] <;> exact⟨n,.tuple es,rfl,hf,bF (A:=True) ⟨rfl,q⟩⟩
 |_=>exact⟨n,_,rfl,hf,bF (A:=True) ⟨rfl,q⟩⟩
theorem QW:FnScope ["web","thing"] ["web","thing"] (aj (top 13)):=zC
theorem wj(F:Fun K "check_set" "check_set" (top 13) f fd)(PS:ċ P w K mg base 4 "is_proper_set" ["n","thing"] (spD uW)):FnOk P w K mg base CX0 5 f fd ["web","thing"] (spD Gi):=by
 refine F.ok QW ĭ (λcdv A outer s H vs Q E hr h=>?_)
 refine⟨_,aU (sG (bJ (bx (dc PS hr (ak (iH (dv 0) bA (λ_ _=>rfl)) (ak (dv 1) aA))))) (aU lU) nG),aX h ?_⟩
 rintro ds P ⟨n,us,l,rfl,hP,q⟩
 refine⟨[.im (aM n us),.sh (.list (l.map Ã))],?_,?_⟩
 ·show [aQ (aM n us),aQ (.list (l.map Ã))]=_
  rw[bR]
  rfl
 refine⟨.int n,rfl,n,_,rfl,Gb (by have:=hP.few;have:=hP.n16;omega),?_⟩
 show if (!aH n (.list (l.map Ã)))=true then _ else _
 rw[pY hP]
 exact bF (A:=False) q
theorem Oo:FnScope ["tie","some"] ["tie","some"] (aj (top 16)):=zC
def fLv(ds:List D)(P:D->Prop):Prop:=∃t l,ds=[pD t,.list (l.map Ã)]/\P (.bool (lv l t))
theorem Bv(F:Fun K "leaves" "leaves" (top 16) f fd):FnOk P w K mg base CX0 1 f fd ["tie","some"] (spD fLv):=by
 refine F.ok Oo ĭ (λcdv A outer s H vs Q E hr h=>?_)
 refine⟨_,aU (bL (O4 (vX hr.units (iH (dv 0) bA (λ_ _=>rfl)) (dv 1)) (vX hr.units (iH (dv 0) bA (λ_ _=>rfl)) (dv 1)))),aX h ?_⟩
 rintro ds P ⟨t,l,rfl,q⟩
 refine⟨[.im (pD t),.sh (.list (l.map Ã))],rfl,?_⟩
 refine⟨.int t.1,rfl,rfl,dJ l,.int t.2,rfl,rfl,dJ l,rfl,?_⟩
 show P (.bool (!decide ((((l.map Ã).any λe=>ñ e (.int t.1)):Bool)=((l.map Ã).any λe=>ñ e (.int t.2)))))
 rw[Ž,Ž]
 have e:(!decide ((decide (t.1∈l):Bool)=decide (t.2∈l)))=lv l t:=by
  unfold lv
  cases decide (t.1∈l) <;> cases decide (t.2∈l) <;> rfl
 rw[e]
 exact q
theorem QV:FnScope ["web","some"] ["web","some"] (aj (top 17)):=zC
theorem Ri:(["tie","web","some"]:List Str).Nodup:=by decide +kernel
theorem Li(F:Fun K "ties_that_leave" "ties_that_leave" (top 17) f fd)(CH:ċ P w K mg base 5 "check_set" ["web","thing"] (spD Gi))(LV:ċ P w K mg base 1 "leaves" ["tie","some"] (spD fLv)):FnOk P w K mg base CX0 6 f fd ["web","some"] (spD MK):=by
 refine F.ok QV ĭ (λcdv A outer s H vs Q E hr h=>?_)
 refine⟨_,cj (pG (dc CH hr (ak (dv 0) (ak (dv 1) aA)))) (aU (bL (cP ["tie"] rfl (eE (iH (dv 0) bA (λ_ _=>rfl))) (λc=>bW (cg (i:=0) Ri rfl (ĵ rfl)))
  (λc=>dN (bx (dc LV hr (ak (dv 0) (ak (dv 2) aA))))) (λc=>dv 0)))),aX h ?_⟩
 rintro ds P ⟨n,us,l,rfl,hP,hl,q⟩
 refine⟨[.im (aM n us),.sh (.list (l.map Ã))],?_,n,us,l,rfl,hP,?_⟩
 ·show [aQ (aM n us),aQ (.list (l.map Ã))]=_
  rw[bR]
  rfl
 refine⟨.tuple (us.map pD),rfl,by rw[Á];omega,.imm,λi ys=>ys=((us.take i).filter (lv l)).map pD,rfl,?_,?_⟩
 ·rintro i d ys hd rfl
  obtain⟨t,ht,rfl⟩:=dM hd
  refine⟨t,l,rfl,?_⟩
  show if lv l t=true then _ else _
  have sn:=uT (lv l) pD ht
  cases hb:lv l t with
  |true =>
   rw[hb,if_pos rfl] at sn
   exact aL (B:=True) ⟨rfl,sn.symm⟩
  |false =>
   rw[hb,if_neg Æ,ć] at sn
   exact bF (A:=True) sn.symm
 ·rintro ys rfl
  refine⟨rfl,?_⟩
  rw[take_all us (by rw[Á];exact Ë _)]
  exact q
end
def dF:D->List Int
 |.list es=>es.map toI
 |_=>[]
def qY(l:List Int):Bool:=decide ((once l).length=l.length)
def wO(n:Int):D->Bool
 |.list es=>es.all (aH n)&&qY (es.flatMap dF)
 |_=>false
def rC(d:D):Prop:=∀es,d=.list es->es.length<=60/\∀e∈es,Few e
def MN(ds:List D)(P:D->Prop):Prop:=∃n d,ds=[.int n,d]/\rC d/\n<=16/\P (.bool (wO n d))
theorem vU{n:Int}{d:D}(n16:n<=16)(h:aH n d=true):∃l:List Int,d=.list (l.map Ã)/\dF d=l/\l.length<=15:=by
 unfold aH at h
 rw[Ê] at h
 cases d with
 |list es =>
  have h1:(es.all (aP n)&&jB (es.map toI))=true:=h.1
  rw[Ê] at h1
  have h2:(decide ((1:Int)<=(es.length:Nat))&&decide (((es.length:Nat):Int)<n))=true:=h.2
  rw[Ê,decide_eq_true_eq,decide_eq_true_eq] at h2
  exact⟨es.map toI,congrArg _ (ints_of h1.1),rfl,by rw[Á];omega⟩
 |_=>cases h.1
section
variable {P:Program}{w:World}{K:Þ}{mg:Str->Option Value}{base:Heap}{f:Addr}{fd:FuncData}
theorem Oj:FnScope ["n","thing","places","some"] ["n","thing"] (aj (top 19)):=zC
theorem Rf:(["some","n","thing","places",""]:List Str).Nodup:=by decide +kernel
theorem Lp(F:Fun K "is_family" "is_family" (top 19) f fd)(B:ō mg)(ms:mg "set"=none)(PS:ċ P w K mg base 4 "is_proper_set" ["n","thing"] (spD uW)):FnOk P w K mg base CX0 5 f fd ["n","thing"] (spD MN):=by
 refine F.ok Oj ĭ (λcdv A outer s H vs Q E hr h=>?_)
 have nd:=Oj.nd
 refine⟨_,cj (sG (PDW.pt (fC (bJ (bx (bQ qG B.isinstance (dv 1) (kh (v:=.ty "list") rfl B.list boot_list rfl)))) (dH (bJ (bx (mY rfl B.all Dl.boot_all (ak (iG ["some"] ["n","thing","places",""] rfl (eE (dv 1)) (λc=>bW (cg (i:=0) Rf rfl (ĵ rfl))) (λc=>gJ) (λc=>dc PS hr (ak (dv 1) (ak (dv 0) aA))) (hk:=rfl)) aA))))))) (aU (bL rR)) nG)
  (cj (iZ (some 0) (cU (i:=2) nd rfl (ĵ rfl) (dI aA)))
  (cj (cX ġ rfl (eE (dv 1)) (bW (cg (i:=3) nd rfl (ĵ rfl)))
   (aU (jr (i:=2) (fY (rQ Ĳ PySem.F.slot_list_extend PySem.F.type_list_extend nq (pv 2) (ak (dv 3) aA))))))
  (aU (bL (O6 (Br rfl ms B.len (ak (dv 2) aA)) (jJ B.len (ak (dv 2) aA))))))),aX h ?_⟩
 rintro ds P ⟨n,d,rfl,hf,n16,q⟩
 refine⟨[.im (.int n),aQ d,.any,.any],rfl,?_⟩
 cases d with
 |list es =>
  obtain⟨hl,hfe⟩:=hf es rfl
  have q:P (.bool (es.all (aH n)&&qY (es.flatMap dF))):=q
  refine bF (A:=True) ⟨by omega,.imm,λi ys=>ys=(es.take i).map λd=>PyData.bool (aH n d),rfl,λi d ys hd hy=>?_,λys hy=>?_⟩
  ·subst hy
   have hfd:=hfe d (Ò hd)
   by_cases hi:bK d=true
   ·have en:∀k,norm k d=.imm:=λk=>ľ hi
    unfold gNm
    simp only[en]
    exact aL (B:=True) ⟨n,d,rfl,hfd,rfl,(iU _ hd).symm⟩
   ·have en:∀k,norm k d=k:=λk=>Ŀ hi
    unfold gNm
    simp only[en]
    exact aL (B:=True) ⟨n,d,rfl,hfd,rfl,(iU _ hd).symm⟩
  ·dsimp only at hy
   rw[û] at hy
   refine⟨es.map (aH n),by rw[hy,ü];rfl,?_⟩
   rw[List.all_map]
   show if (!es.all (aH n))=true then _ else _
   cases ha:es.all (aH n) with
   |false =>
    rw[ha] at q
    exact⟨rfl,q⟩
   |true =>
    rw[ha] at q
    have q:P (.bool (qY (es.flatMap dF))):=q
    have pr:∀e∈es,∃l:List Int,e=.list (l.map Ã)/\dF e=l/\l.length<=15:=λe he=>vU n16 (ø.mp ha e he)
    refine bF (A:=True) ⟨by decide,rfl,λ(i:Nat) ρ=>∃(l:List Int) (s3:Sl),s3.region=none/\ρ=[.im (.int n),.sh (.list es),.dw 0 (.list (l.map Ã)),s3]/\l=(es.take i).flatMap dF/\l.length<=15 * i,⟨[],.any,rfl,rfl,rfl,Ë _⟩,?_,?_⟩
    ·rintro i d ρ hd ⟨l,s3,h3,rfl,rfl,hl2⟩
     obtain⟨m,rfl,em,hm⟩:=pr d (Ò hd)
     have hi:=(Ó.mp hd).1
     have lm:(((es.take i).flatMap dF).map Ã).length=((es.take i).flatMap dF).length:=Á ..
     have lm2:(m.map Ã).length=m.length:=Á ..
     refine⟨by show(_ || cT (m.map Ã))=true;rw[dD,Bool.or_true],by omega,(es.take i).flatMap dF++m,.sh (.list (m.map Ã)),rfl,?_,?_,?_⟩
     ·rw[å]
      rfl
     ·rw[ĩ,hd,List.flatMap_append]
      show _=_++([ì (m.map Ã)].flatMap dF)
      rw[List.flatMap_cons,List.flatMap_nil,ć,em]
     ·rw[Å];omega
    ·rintro ρ ⟨l,s3,h3,rfl,rfl,hl2⟩
     rw[û] at hl2 ⊢
     refine⟨_,_,rfl,by omega,rfl,?_⟩
     show P (.bool (decide ((((once (es.flatMap dF)).length:Nat):Int)=(((es.flatMap dF).map Ã).length:Nat))))
     have e:decide ((((once (es.flatMap dF)).length:Nat):Int)=(((es.flatMap dF).map Ã).length:Nat))=qY (es.flatMap dF):=by
      unfold qY
      rw[Á,Ď,decide_eq_true_eq,decide_eq_true_eq]
      omega
     rw[e]
     exact q
 |tuple es=>rcases cA (.tuple es) with e|e <;> rw[e] <;> exact aL (B:=True) ⟨rfl,q⟩
 |_=>exact aL (B:=True) ⟨rfl,q⟩
end
def GD(p:Addr)(H:Hp):Prop:=∃a b c:Int,H p=some (.lst [.int a,.int b,.int c])
def OJ(p:Addr):Pn where
 fp:=λb=>b=p
 PI:=GD p
 pv:=.ref p
 mono:=λH H' ⟨a,b,c,h⟩ k=>⟨a,b,c,k _ _ (.inl rfl) h⟩
 is:=λH b ⟨x,y,z,h⟩ hb=>by
  subst hb
  exact⟨_,h,(λxs z=>(nomatch z)),λ⟨_,_,z⟩=>(nomatch z)⟩
def CP(q:Pn):Prop:=∃p,q=OJ p
def sE(ds:List D)(P:D->Prop):Prop:=∃m:Int,ds=[.int m]/\0<m/\m<1073741824/\∀r:Int,0<=r->r<m->P (.int r)
theorem gH{C:Pn->Prop}{f:List D->(D->Prop)->Prop}{n:Nat}(hn:∀ds P,f ds P->ds.length=n:=by intro _ _ h;repeat (first|(obtain⟨rfl,_⟩:=h;rfl)|obtain⟨_,h⟩:=h)):∀vs H Q E,spP C f vs H Q E->vs.length=n+1:=λvs H Q E h=>by
 obtain⟨p,vs',ds,P,_,rfl,_,r,t,_⟩:=h
 rw[Ý,r.length,hn ds P t]
theorem BK{x m:Int}(hm:0<m)(hb:m<=2 ^ 32):-(2 ^ 64)<x % m/\x % m<2 ^ 64:=by
 have h1:=Int.emod_nonneg x (b:=m) (by omega)
 have h2:=Int.emod_lt_of_pos x hm
 omega
theorem PSs.wk{X:Cx}{ss:List Stmt}{t t':TS}(h:PSs X ss t)(w:∀D σ H,t' D σ H->t D σ H):PSs X ss t':=λpins s σ H D I q=>h pins s σ H D I (w D σ H q)
def tDr(p:Addr):TS:=λD σ H=>∃(a2 a3:Option V) (m a b c:Int),σ=[some (.ref p),some (.int m),a2,a3]/\0<m/\m<1073741824/\H p=some (.lst [.int a,.int b,.int c])/\∀r' x,0<=r'->r'<m->D.rt (.int r') (upd H p (.lst [.int x,.int b,.int c]))
section
variable {P:Program}{w:World}{K:Þ}{mg:Str->Option Value}{base:Heap}{f:Addr}{fd:FuncData}
theorem Om:FnScope ["_law_pen_here","_law_many","_law_drawn","_law_number"] ["_law_pen_here","_law_many"] (aj (top 35)):=zC
theorem HX(F:Fun K "_law_draw" "_law_draw" (top 35) f fd)(B:ō mg):FnOk P w K mg base CX0 1 f fd ["_law_pen_here","_law_many"] (spP CP sE):=by
 refine F.ok Om gH (λcdv A outer s H vs Q E hr h=>?_)
 obtain⟨_,vs',ds,P,⟨p,rfl⟩,rfl,⟨a,b,c,hp⟩,rp,⟨m,rfl,m0,m30,hP⟩,q⟩:=h
 obtain rfl:vs'=[.int m]:=by
  cases rp with
  |cons h1 t=>cases h1;cases t;rfl
 have nd:=Om.nd
 refine⟨_,bN (vR (j8 vZ (iz dg (pv 0) ħ (λ_ _=>rfl)) ħ (bT _))
   (bN (cU (i:=2) nd rfl (ĵ rfl) (bG iJ (iz dg (pv 0) ħ (λ_ _=>rfl)) (pv 1)))
   (bN (uc (bG ux (iz dg (pv 0) ħ (λ_ _=>rfl)) (pv 1)) (xW (pv 0) ħ set_list))
   (cZ (jH (pv 2))))) oV)
  (bN (uc (bG gC (iz dg (pv 0) ħ (λ_ _=>rfl)) ħ) (xW (pv 0) ħ set_list))
  (PSs.wk (t':=tDr p) (bN (cU (i:=3) nd rfl (ĵ rfl) (bG iJ (bG ni (bG gC (bG gC (iz dg (pv 0) ħ (λ_ _=>rfl)) (bG ni ħ (iz dg (pv 0) ħ (λ_ _=>rfl)))) ħ) ħ) ħ))
  (bN (cU (i:=3) nd rfl (ĵ rfl) (bG iJ (bG ni (pv 3) (bG gC (bG gC (bG iJ (pv 3) ħ) ħ) (iz dg (pv 0) ħ (λ_ _=>rfl)))) ħ))
  (bN (uc (pv 3) (xW (pv 0) ħ set_list))
  (cZ (jH (bG iJ (bG ux (pv 3) ħ) (pv 1))))))) ?dr)),?_⟩
 case dr =>
  rintro D σ H' ⟨a2,a3,m,a,b,c,rfl,m0,m30,hp,hq⟩
  have md:∀x:Int,0<=x % m/\x % m<m:=λx=>⟨Int.emod_nonneg _ (by omega),Int.emod_lt_of_pos _ m0⟩
  refine⟨_,rfl,p,_,_,_,rfl,rfl,SqL.of hp,rfl,_,rfl,p,_,_,_,rfl,rfl,SqL.of hp,rfl,_,_,rfl,rfl,.inl ⟨by decide,by decide⟩,_,_,rfl,rfl,_,_,rfl,rfl,_,_,rfl,rfl,.inr ⟨by decide,by decide⟩,_,_,rfl,rfl,(by show(0:Int)<2147483629;decide),?_⟩
  refine⟨_,rfl,_,rfl,_,_,rfl,rfl,(by show(0:Int)<65521;decide),_,_,rfl,rfl,_,rfl,p,_,_,_,rfl,rfl,SqL.of hp,rfl,_,_,rfl,rfl,_,_,rfl,rfl,.inl (BK (by decide) (by decide)),_,_,rfl,rfl,(by show(0:Int)<2147483587;decide),?_⟩
  refine⟨_,rfl,_,rfl,p,_,_,_,rfl,rfl,hp,rfl,?_⟩
  exact⟨_,rfl,_,_,rfl,rfl,⟨by decide,by decide⟩,_,rfl,_,_,rfl,rfl,m0,hq _ _ (md _).1 (md _).2⟩
 have md:∀x:Int,0<=x % m/\x % m<m:=λx=>⟨Int.emod_nonneg _ (by omega),Int.emod_lt_of_pos _ m0⟩
 have fin:∀(H':Hp) (r:Int),0<=r->r<m->(∀b o,H b=some o->b≠p->H' b=some o)->GD p H'->Q (.int r) H':=λH' r h1 h2 k e =>
  q _ _ _ (hP r h1 h2) (λb o e n=>k b o e λz=>n z) e (.int r)
 have kU:∀(H1:Hp) (o:HO),(∀b o,H b=some o->b≠p->H1 b=some o)->∀b u,H b=some u->b≠p->upd H1 p o b=some u:=λH1 o k b u e n=>by rw[ao n];exact k b u e n
 refine⟨_,rfl,p,_,_,_,rfl,rfl,SqL.of hp,rfl,rfl,_,rfl,jx (λc1=>?_) (λc1=>?_)⟩
 ·exact⟨_,rfl,p,_,_,_,rfl,rfl,SqL.of hp,rfl,_,rfl,_,_,rfl,rfl,m0,_,rfl,p,_,_,_,rfl,rfl,SqL.of hp,rfl,_,rfl,_,_,rfl,rfl,⟨m0,m30⟩,_,rfl,p,_,_,_,rfl,rfl,hp,rfl,_,rfl,fin _ _ (md _).1 (md _).2 (kU _ _ λb o e _=>e) ⟨_,_,_,aq⟩⟩
 ·refine⟨_,rfl,p,_,_,_,rfl,rfl,SqL.of hp,rfl,_,_,rfl,rfl,_,rfl,p,_,_,_,rfl,rfl,hp,rfl,?_⟩
  exact⟨_,_,m,a,b,c+1,rfl,m0,m30,aq,λr' x h1 h2=>fin _ _ h1 h2 (kU _ _ (kU _ _ λb o e _=>e)) ⟨_,_,_,aq⟩⟩
end
structure IsOrd(n:Int)(l:List Int):Prop where
 len:(l.length:Int)=n
 rng:∀x∈l,0<=x/\x<n
 nd:l.Nodup
def Gf(ds:List D)(P:D->Prop):Prop:=∃n:Int,ds=[.int n]/\0<=n/\n<=16/\∀l,IsOrd n l->P (.list (l.map Ã))
theorem IsOrd.ins{k:Nat}{l:List Int}(h:IsOrd k l)(j:Nat):IsOrd ((k+1:Nat):Int) (l.take j++((k:Nat):Int)::l.drop j):=by
 have p:(l.take j++((k:Nat):Int)::l.drop j).Perm (((k:Nat):Int)::l):=by
  refine List.perm_middle.trans ?_
  rw[Č]
 refine⟨?_,λx hx=>?_,?_⟩
 ·rw[p.length_eq,Ý]
  have:=h.len
  omega
 ·rcases á.mp (p.mem_iff.mp hx) with z|z
  ·omega
  ·have:=h.rng x z
   omega
 ·refine p.symm.nodup ?_
  refine ŷ.mpr ⟨λz=>?_,h.nd⟩
  have:=h.rng _ z
  omega
section
variable {P:Program}{w:World}{K:Þ}{mg:Str->Option Value}{base:Heap}{f:Addr}{fd:FuncData}
theorem Ol:FnScope ["_law_pen_here","_law_n","_law_found","_law_place"] ["_law_pen_here","_law_n"] (aj (top 36)):=zC
abbrev RB(P:Program)(w:World)(K:Þ)(mg:Str->Option Value)(base:Heap)(k:Nat)(x:Str)(ps:List Str)(g:List D->(D->Prop)->Prop):Prop:=ċ P w K mg base k x ps (spP CP g)
theorem Eu(F:Fun K "_law_order" "_law_order" (top 36) f fd)(B:ō mg)(T:RB P w K mg base 1 "_law_draw" ["_law_pen_here","_law_many"] sE):FnOk P w K mg base CX0 2 f fd ["_law_pen_here","_law_n"] (spP CP Gf):=by
 refine F.ok Ol gH (λcdv A outer s H vs Q E hr h=>?_)
 have nd:=Ol.nd
 refine⟨_,cj (iZ (some 0) (cU (i:=2) nd rfl (ĵ rfl) (dI aA)))
  (cj (cX ġ rfl (cY B.range (ak (dv 1) aA)) (bW (cg (i:=3) nd rfl (ĵ rfl)))
   (aU (Ce (i:=2) (fY (rQ Ĳ PySem.F.slot_list_insert PySem.F.type_list_insert BJ (pv 2) (ak (dcP T hr (pv 0) (ak (Ej (dv 3) bA) aA)) (ak (dv 3) aA)))))))
  (aU (bL (dv 2)))),enterQ h ?_⟩
 rintro ds P ⟨n,rfl,n0,n16,q⟩
 refine⟨[.im (.int n),.any,.any],rfl,?_⟩
 refine⟨by decide,⟨by omega,by omega⟩,rfl,λ(i:Nat) ρ=>∃(l:List Int) (s:Sl),IsOrd i l/\s.region=none/\ρ=[.pen CP,.im (.int n),.dw 0 (.list (l.map Ã)),s],⟨[],.any,⟨rfl,λx hx=>(nomatch hx),.nil⟩,rfl,rfl⟩,?_,?_⟩
 ·rintro i d ρ hd ⟨l,s,hl,hs,rfl⟩
  obtain⟨hi,rfl⟩:=fU hd
  have hlen:=hl.len
  refine⟨rfl,_,rfl,by omega,by omega,λr r0 r1=>⟨rfl,r0,?_,?_,?_⟩⟩
  ·rw[Á];omega
  ·rw[Á];omega
  ·refine⟨l.take r.toNat++((i:Nat):Int)::l.drop r.toNat,.im (.int (0+((i:Nat):Int))),hl.ins r.toNat,rfl,?_⟩
   show [Sl.pen CP,Sl.im (.int n),Sl.dw 0 (.list ((l.map Ã).take r.toNat++Ã (0+((i:Nat):Int))::(l.map Ã).drop r.toNat)),Sl.im _]=_
   rw[å,ê,List.map_take,Ŷ,Int.zero_add]
 ·rintro ρ ⟨l,s,hl,hs,rfl⟩
  rw[cI] at hl
  have e:((n.toNat:Nat):Int)=n:=by omega
  rw[e] at hl
  exact⟨rfl,q l hl⟩
end
abbrev Nr(s:Sl):Prop:=s.region=none
structure Near(H0 H:Hp)(st:Addr)(as:List Addr)(L:Nat->List Int):Prop where
 top:H st=some (.lst (as.map V.ref))
 nd:as.Nodup
 out:∀a∈as,a≠st
 new:∀a∈as,H0 a=none
 row:∀(j:Nat) (a:Addr),as[j]?=some a->H a=some (.lst ((L j).map V.int))
def lD(l:List Int):D:=.list (l.map Ã)
theorem sJ{α:Type}(l:List α){m:Int}(h0:0<=m)(h1:m<=l.length):bM l none (some m)=l.take m.toNat:=by
 unfold bM
 have e1:HT.sIx l.length 0 none=0:=rfl
 have e2:HT.sIx l.length l.length (some m)=m.toNat:=by
  have ek:m=((m.toNat:Nat):Int):=by omega
  rw[ek,HT.oO]
  omega
 rw[e1,e2,List.drop_zero,Nat.sub_zero]
theorem Dr{H:Hp}{p:Addr}(h:H p=none)(o:HO):Same H (upd H p o):=λb u q=>by rw[ao (aD q h)];exact q
section
variable {P:Program}{w:World}{K:Þ}{mg:Str->Option Value}{base:Heap}{f:Addr}{fd:FuncData}
end
def subs:Nat->List (List Int)
 |0=>[[]]
 |k+1=>subs k++(subs k).map λl=>l++[0+((k:Nat):Int)]
theorem dB:∀k,(subs k).length=2 ^ k
 |0=>rfl
 |k+1=>by
  show(subs k++(subs k).map _).length=_
  rw[Å,Á,dB k,Nat.pow_succ]
  omega
theorem rM:∀k,∃r,subs k=[]::r/\∀l∈r,l≠[]
 |0=>⟨[],rfl,λl h=>nomatch h⟩
 |k+1=>by
  obtain⟨r,e,h⟩:=rM k
  refine⟨r++(subs k).map λl=>l++[0+((k:Nat):Int)],?_,λl hl=>?_⟩
  ·have h2:∀M:List (List Int),subs k++M=[]::(r++M):=λM=>by rw[e];rfl
   exact h2 _
  ·rcases Ð.mp hl with z|z
   ·exact h l z
   ·obtain⟨a,_,rfl⟩:=ë.mp z
    simp
theorem jR:∀k (l:List Int),l∈subs k->l.Pairwise (·<·)/\(∀x∈l,0<=x/\x<k)/\l.length<=k
 |0,l,h=>by
  rw[È.mp h]
  exact⟨.nil,λx h=>(nomatch h),Ë _⟩
 |k+1,l,h=>by
  rcases Ð.mp h with z|z
  ·obtain⟨h1,h2,h3⟩:=jR k l z
   exact⟨h1,λx hx=>by have:=h2 x hx;omega,by omega⟩
  ·obtain⟨a,ha,rfl⟩:=ë.mp z
   obtain⟨h1,h2,h3⟩:=jR k a ha
   refine⟨List.pairwise_append.mpr ⟨h1,by simp,λx hx y hy=>?_⟩,λx hx=>?_,by rw[Å,š];omega⟩
   ·rw[È.mp hy]
    have:=h2 x hx
    omega
   ·rcases Ð.mp hx with z|z
    ·have:=h2 x z;omega
    ·rw[È.mp z];omega
def jw(k:Nat):List Int:=(è k).map λi=>0+((i:Nat):Int)
theorem uU(p:Int->Bool):∀k,(jw k).filter p∈subs k
 |0=>È.mpr rfl
 |k+1=>by
  have e:jw (k+1)=jw k++[0+((k:Nat):Int)]:=by
   unfold jw
   rw[List.range_succ,å]
   rfl
  rw[e,Ÿ]
  cases hp:p (0+((k:Nat):Int)) with
  |true =>
   rw[ķ hp]
   exact Õ _ (ë.mpr ⟨_,uU p k,rfl⟩)
  |false =>
   rw[ĸ (by rw[hp];exact Æ)]
   rw[List.filter_nil,ć]
   exact ô _ (uU p k)
theorem iT{k:Nat}{x:Int}:x∈jw k↔0<=x/\x<k:=by
 unfold jw
 rw[List.mem_map]
 constructor
 ·rintro⟨i,hi,rfl⟩
  have:=ĳ.mp hi
  omega
 ·rintro⟨h0,h1⟩
  exact⟨x.toNat,ĳ.mpr (by omega),by omega⟩
def fSB(ds:List D)(P:D->Prop):Prop:=∃c:Int,ds=[.int c]/\0<=c/\c<=8/\P (.list ((subs c.toNat).map lD))
def bV(l:List Int)(t:Tie):Bool:=!decide (t.1∈l)&&decide (t.2∈l)
def cF(l:List Int)(t:Tie):Bool:=decide (t.1∈l)&&!decide (t.2∈l)
def inN(us:List Tie)(l:List Int):Nat:=(us.filter (bV l)).length
def iI(us:List Tie)(l:List Int):Nat:=(us.filter (cF l)).length
theorem PJ(us:List Tie)(l:List Int):(us.filter (lv l)).filter (λt=>decide (t.2∈l))=us.filter (bV l):=by
 rw[List.filter_filter]
 congr 1
 funext t
 unfold lv bV
 cases decide (t.1∈l) <;> cases decide (t.2∈l) <;> rfl
theorem Lf(us:List Tie)(l:List Int):(us.filter (lv l)).filter (λt=>decide (t.1∈l))=us.filter (cF l):=by
 rw[List.filter_filter]
 congr 1
 funext t
 unfold lv cF
 cases decide (t.1∈l) <;> cases decide (t.2∈l) <;> rfl
def Qj(ds:List D)(P:D->Prop):Prop:=∃n us l,ds=[aM n us,.list (l.map Ã)]/\Proper n l/\us.length<=100/\P (.int (inN us l:Nat))
def J1(ds:List D)(P:D->Prop):Prop:=∃n us l,ds=[aM n us,.list (l.map Ã)]/\Proper n l/\us.length<=100/\P (.int (iI us l:Nat))
def byS(us:List Tie)(s:Str)(l:List Int):Nat:=if s="in" then inN us l else iI us l
def fTB(ds:List D)(P:D->Prop):Prop:=∃n us s l,ds=[aM n us,.str s,.list (l.map Ã)]/\Proper n l/\us.length<=100/\P (.int (byS us s l:Nat))
def nd1(fa:Int)(m:Nat):Int:=if 0 > fa+1 - (m:Int) then 0 else fa+1 - (m:Int)
def fON(ds:List D)(P:D->Prop):Prop:=∃n us fa s l,ds=[aM n us,.int fa,.str s,.list (l.map Ã)]/\Proper n l/\us.length<=100/\P (.int (nd1 fa (byS us s l)))
section
variable {P:Program}{w:World}{K:Þ}{mg:Str->Option Value}{base:Heap}{f:Addr}{fd:FuncData}
theorem Jy:FnScope ["count","told","place"] ["count"] (aj (top 14)):=zC
theorem Py:(["some","count","told","place"]:List Str).Nodup:=by decide +kernel
theorem Pa(F:Fun K "sets_below" "sets_below" (top 14) f fd)(B:ō mg):FnOk P w K mg base CX0 1 f fd ["count"] (spD fSB):=by
 refine F.ok Jy ĭ (λcdv A outer s H vs Q E hr h=>?_)
 have nd:=Jy.nd
 refine⟨_,cj (iZ none (cU (i:=1) nd rfl (ĵ rfl) (dI (ak (dI aA) aA))))
  (cj (cX ġ rfl (cY B.range (ak (dv 0) aA)) (bW (cg (i:=2) nd rfl (Or.inr rfl)))
   (aU (iZ none (cU (i:=1) nd rfl (ĵ rfl) (Ei (dv 1) (cP ["some"] rfl (eE (dv 1)) (λc=>bW (cg (i:=0) Py rfl (ĵ rfl))) (λc=>gJ) (λc=>Ei (dv 0) (dI (ak (dv 3) aA)))))))))
  (aU (bL (dv 1)))),aX h ?_⟩
 rintro ds P ⟨c,rfl,c0,c8,q⟩
 refine⟨[.im (.int c),.any,.any],rfl,zK,zK,⟨by omega,by omega⟩,rfl,λ(i:Nat) ρ=>∃s2,ρ=[.im (.int c),.sn (.list ((subs i).map lD)),s2],⟨_,rfl⟩,?_,?_⟩
 ·rintro i d ρ hd ⟨s2,rfl⟩
  obtain⟨hi,rfl⟩:=fU hd
  have ls:((subs i).map lD).length<=128:=by
   rw[Á,dB]
   exact Nat.pow_le_pow_right (by decide) (show i<=7 by omega)
  refine⟨by omega,.new,λj ys=>ys=((subs i).take j).map λl=>lD (l++[0+((i:Nat):Int)]),rfl,?_,?_⟩
  ·rintro j d ys hd rfl
   obtain⟨l,hl,rfl⟩:=dM hd
   have hok:=jR i l (Ò hl)
   have im:=dD (l++[0+((i:Nat):Int)])
   rw[å] at im
   refine aL (B:=True) ⟨zK,?_,.inl ⟨im,rfl,?_⟩⟩
   ·show(l.map Ã).length+1<=1000
    rw[Á]
    omega
   ·dsimp only
    rw[iU _ hl]
    show _++[ì (l.map Ã++[.int (0+((i:Nat):Int))])]=_++[ì ((l++[0+((i:Nat):Int)]).map Ã)]
    rw[å]
    rfl
  ·rintro ys rfl
   refine⟨?_,.inr ⟨.im (.int (0+((i:Nat):Int))),?_⟩⟩
   ·rw[Á (as:=ū _ _),ğ]
    rw[Á] at ls ⊢
    omega
   ·have e:(subs i).map lD++(((subs i).take ((subs i).map lD).length).map λl=>lD (l++[0+((i:Nat):Int)]))=(subs (i+1)).map lD:=by
     rw[Á,û]
     show _=(subs i++(subs i).map _).map lD
     rw[å,ü]
     rfl
    rw[e]
    rfl
 ·rintro ρ ⟨s2,rfl⟩
  rw[cI]
  exact⟨rfl,q⟩
theorem scI:FnScope ["one","some"] ["one","some"] (aj (top 24)):=zC
theorem ndI:(["tie","one","some"]:List Str).Nodup:=by decide +kernel
theorem Ln(F:Fun K "ins" "ins" (top 24) f fd)(B:ō mg)(TL:ċ P w K mg base 6 "ties_that_leave" ["web","some"] (spD MK)):FnOk P w K mg base CX0 7 f fd ["one","some"] (spD Qj):=by
 refine F.ok scI ĭ (λcdv A outer s H vs Q E hr h=>?_)
 refine⟨_,aU (bL (jJ B.len (ak (cP ["tie"] rfl (eE (dc TL hr (ak (dv 0) (ak (dv 1) aA)))) (λc=>bW (cg (i:=0) ndI rfl (ĵ rfl))) (λc=>dN (mU hr.units (iH (dv 0) bA (λ_ _=>rfl)) (dv 2))) (λc=>dv 0)) aA))),aX h ?_⟩
 rintro ds P ⟨n,us,l,rfl,hP,hl,q⟩
 refine⟨[.im (aM n us),.sh (.list (l.map Ã))],?_,n,us,l,rfl,hP,hl,?_⟩
 ·show [aQ (aM n us),aQ (.list (l.map Ã))]=_
  rw[bR]
  rfl
 have lf:((us.filter (lv l)).map pD).length<=us.length:=by rw[Á];exact List.length_filter_le _ _
 refine⟨by omega,.imm,λi ys=>ys=(((us.filter (lv l)).take i).filter (λt=>decide (t.2∈l))).map pD,rfl,?_,?_⟩
 ·rintro i d ys hd rfl
  obtain⟨t,ht,rfl⟩:=dM hd
  refine⟨.int t.2,rfl,rfl,dJ l,?_⟩
  show if ((l.map Ã).any λe=>ñ e (.int t.2))=true then _ else _
  rw[Ž]
  have sn:=uT (λt:Tie=>decide (t.2∈l)) pD ht
  cases hb:decide (t.2∈l) with
  |true =>
   rw[hb,if_pos rfl] at sn
   exact aL (B:=True) ⟨rfl,sn.symm⟩
  |false =>
   rw[hb,if_neg Æ,ć] at sn
   exact bF (A:=True) sn.symm
 ·rintro ys rfl
  refine⟨rfl,?_⟩
  show P (.int ((((((us.filter (lv l)).take ((us.filter (lv l)).map pD).length).filter (λt=>decide (t.2∈l))).map pD).length:Nat):Int))
  rw[Á (as:=us.filter (lv l)),û,PJ,Á]
  exact q
theorem scO:FnScope ["one","some"] ["one","some"] (aj (top 25)):=zC
theorem HS(F:Fun K "outs" "outs" (top 25) f fd)(B:ō mg)(TL:ċ P w K mg base 6 "ties_that_leave" ["web","some"] (spD MK)):FnOk P w K mg base CX0 7 f fd ["one","some"] (spD J1):=by
 refine F.ok scO ĭ (λcdv A outer s H vs Q E hr h=>?_)
 refine⟨_,aU (bL (jJ B.len (ak (cP ["tie"] rfl (eE (dc TL hr (ak (dv 0) (ak (dv 1) aA)))) (λc=>bW (cg (i:=0) ndI rfl (ĵ rfl))) (λc=>dN (mU hr.units (iH (dv 0) bA (λ_ _=>rfl)) (dv 2))) (λc=>dv 0)) aA))),aX h ?_⟩
 rintro ds P ⟨n,us,l,rfl,hP,hl,q⟩
 refine⟨[.im (aM n us),.sh (.list (l.map Ã))],?_,n,us,l,rfl,hP,hl,?_⟩
 ·show [aQ (aM n us),aQ (.list (l.map Ã))]=_
  rw[bR]
  rfl
 have lf:((us.filter (lv l)).map pD).length<=us.length:=by rw[Á];exact List.length_filter_le _ _
 refine⟨by omega,.imm,λi ys=>ys=(((us.filter (lv l)).take i).filter (λt=>decide (t.1∈l))).map pD,rfl,?_,?_⟩
 ·rintro i d ys hd rfl
  obtain⟨t,ht,rfl⟩:=dM hd
  refine⟨.int t.1,rfl,rfl,dJ l,?_⟩
  show if ((l.map Ã).any λe=>ñ e (.int t.1))=true then _ else _
  rw[Ž]
  have sn:=uT (λt:Tie=>decide (t.1∈l)) pD ht
  cases hb:decide (t.1∈l) with
  |true =>
   rw[hb,if_pos rfl] at sn
   exact aL (B:=True) ⟨rfl,sn.symm⟩
  |false =>
   rw[hb,if_neg Æ,ć] at sn
   exact bF (A:=True) sn.symm
 ·rintro ys rfl
  refine⟨rfl,?_⟩
  show P (.int ((((((us.filter (lv l)).take ((us.filter (lv l)).map pD).length).filter (λt=>decide (t.1∈l))).map pD).length:Nat):Int))
  rw[Á (as:=us.filter (lv l)),û,Lf,Á]
  exact q
theorem QL:FnScope ["one","side","some"] ["one","side","some"] (aj (top 26)):=zC
theorem O9(F:Fun K "ties_by" "ties_by" (top 26) f fd)(IN:ċ P w K mg base 7 "ins" ["one","some"] (spD Qj))(OU:ċ P w K mg base 7 "outs" ["one","some"] (spD J1)):FnOk P w K mg base CX0 8 f fd ["one","side","some"] (spD fTB):=by
 refine F.ok QL ĭ (λcdv A outer s H vs Q E hr h=>?_)
 refine⟨_,aU (bL (Ef (Lb (dv 1) p8) (dc IN hr (ak (dv 0) (ak (dv 2) aA))) (dc OU hr (ak (dv 0) (ak (dv 2) aA))))),aX h ?_⟩
 rintro ds P ⟨n,us,s,l,rfl,hP,hl,q⟩
 refine⟨[.im (aM n us),.im (.str s),.sh (.list (l.map Ã))],?_,?_⟩
 ·show [aQ (aM n us),aQ (.str s),aQ (.list (l.map Ã))]=_
  rw[bR]
  rfl
 unfold byS at q
 refine jx (λc=>⟨n,us,l,rfl,hP,hl,rfl,?_⟩) (λc=>⟨n,us,l,rfl,hP,hl,rfl,?_⟩)
 ·rw[if_pos (of_decide_eq_true c)] at q
  exact q
 ·rw[if_neg (λz=>c (decide_eq_true z))] at q
  exact q
theorem QM:FnScope ["one","falls","side","some"] ["one","falls","side","some"] (aj (top 27)):=zC
theorem Pb(F:Fun K "one_need" "one_need" (top 27) f fd)(B:ō mg)(TB:ċ P w K mg base 8 "ties_by" ["one","side","some"] (spD fTB)):FnOk P w K mg base CX0 9 f fd ["one","falls","side","some"] (spD fON):=by
 refine F.ok QM ĭ (λcdv A outer s H vs Q E hr h=>?_)
 refine⟨_,aU (bL (o8 rfl B.max (ak (gn (Ej (dv 1) bA) (dc TB hr (ak (dv 0) (ak (dv 2) (ak (dv 3) aA))))) (ak bA aA)))),aX h ?_⟩
 rintro ds P ⟨n,us,fa,s,l,rfl,hP,hl,q⟩
 refine⟨[.im (aM n us),.im (.int fa),.im (.str s),.sh (.list (l.map Ã))],?_,n,us,s,l,rfl,hP,hl,rfl,q⟩
 show [aQ (aM n us),aQ (.int fa),aQ (.str s),aQ (.list (l.map Ã))]=_
 rw[bR]
 rfl
end
def rng(n:Int):List Int:=(è n.toNat).map λi=>0+((i:Nat):Int)
def oth(n:Int)(l:List Int):List Int:=(rng n).filter λx=>!decide (x∈l)
theorem Jo{i:Int}{ns:List Int}(h:(0:Int)<((ns.map V.int).length:Nat)):∃v:Int,atI (ns.map V.int) (i % (((ns.map V.int).length:Nat):Int))=some (.int v):=by
 rw[Á] at h ⊢
 have h1:=Int.emod_nonneg i (b:=(ns.length:Int)) (by omega)
 have h2:=Int.emod_lt_of_pos i h
 have hk:(i % (ns.length:Int)).toNat<ns.length:=by omega
 have ek:i % (ns.length:Int)=(((i % (ns.length:Int)).toNat:Nat):Int):=by omega
 have q:atI (ns.map V.int) (((i % (ns.length:Int)).toNat:Nat):Int)=some (.int ns[(i % (ns.length:Int)).toNat]):=gP (by rw[æ,É hk];rfl)
 rw[←ek] at q
 exact⟨_,q⟩
def vJ(K:Þ):Sp:=λvs H Q _=>∃(a:Addr) (ns:List Int),vs=[.ref a]/\SqL K H a (ns.map V.int)/\∀H',Q (.bl true) H'
def Jx(K:Þ):Sp:=λvs H Q _=>∃(sc:Addr) (ns:List Int) (k:Int),vs=[.ref sc,.int k]/\0<=k/\k<1000/\SqL K H sc (ns.map V.int)/\∀p H',Same H H'->H p=none->GD p H'->Q (.ref p) H'
theorem Qv{k:Int}{ns:List Int}(h0:0<=k)(h:k<((ns.map V.int).length:Nat)):∃v:Int,atI (ns.map V.int) k=some (.int v):=by
 rw[Á] at h
 have hk:k.toNat<ns.length:=by omega
 have ek:k=((k.toNat:Nat):Int):=by omega
 have q:atI (ns.map V.int) ((k.toNat:Nat):Int)=some (.int ns[k.toNat]):=gP (by rw[æ,É hk];rfl)
 rw[←ek] at q
 exact⟨_,q⟩
def NZ:TS:=λD σ H=>∃(a0:Option V) (k cell:Int),σ=[a0,some (.int k),some (.int cell)]/\∀l a b c,H l=none->D.rt (.ref l) (upd H l (.lst [.int a,.int b,.int c]))
section
variable {P:Program}{w:World}{K:Þ}{mg:Str->Option Value}{base:Heap}{f:Addr}{fd:FuncData}
theorem Oi:FnScope ["_law_script","_law_k","_law_cell"] ["_law_script","_law_k"] (aj (top 34)):=zC
theorem Lj(F:Fun K "_law_pen" "_law_pen" (top 34) f fd)(B:ō mg):FnOk P w K mg base CX0 1 f fd ["_law_script","_law_k"] (Jx K):=by
 refine F.ok Oi (λvs H Q E h=>?_) (λcdv A outer s H vs Q E hr h=>?_)
 ·obtain⟨sc,ns,k,rfl,_⟩:=h
  rfl
 obtain⟨sc,ns,k,rfl,k0,k9,hS,q⟩:=h
 have nd:=Oi.nd
 refine⟨_,bN (cU (i:=2) nd rfl (ĵ rfl) (bG gC (bG ni ħ (pv 1)) ħ))
  (bN (vR (j8 Eo (pv 1) (cN dW rfl B.len PySem.boot_len (Ŧ (pv 0) cB)) (bT _))
   (cZ (cU (i:=2) nd rfl (ĵ rfl) (iz dg (pv 0) (pv 1) (λ_ _=>rfl))))
   (cZ (vR (j8 JF (cN dW rfl B.len PySem.boot_len (Ŧ (pv 0) cB)) ħ (bT _))
    (cZ (cU (i:=2) nd rfl (ĵ rfl) (bG gC (bG iJ (iz dg (pv 0) (bG iJ (pv 1) (cN dW rfl B.len PySem.boot_len (Ŧ (pv 0) cB))) (λ_ _=>rfl)) (bG yg ħ ħ)) (bG ni ħ (pv 1))))) oV)))
  (PSs.wk (t':=NZ) (bN (vR (j8 JG (cN w6 rfl B.abs Dl.boot_abs (Ŧ (pv 2) cB)) (bG yg ħ ħ) (bT _))
   (cZ (jH (ug (Ŧ (cN w6 rfl B.abs Dl.boot_abs (Ŧ (pv 2) cB)) (Ŧ ħ (Ŧ ħ cB)))))) oV)
  (cZ (jH (ug (Ŧ (bG iJ (pv 2) ħ) (Ŧ ħ (Ŧ (pv 1) cB))))))) ?pen)),?_⟩
 case pen =>
  rintro D σ H' ⟨a0,k,cell,rfl,hq⟩
  refine⟨_,rfl,cell,rfl,_,_,rfl,rfl,⟨by decide,by decide,by decide⟩,_,_,rfl,rfl,_,rfl,jx (λc1=>?_) (λc1=>?_)⟩
  ·exact⟨_,rfl,cell,rfl,by show 3<=sizeLine;decide,λl hl=>hq l _ _ _ hl⟩
  ·exact⟨_,rfl,_,_,rfl,rfl,(by show(0:Int)<2147483587;decide),_,rfl,by show 3<=sizeLine;decide,λl hl=>hq l _ _ _ hl⟩
 have fin:∀cell:Int,NZ { nx:=λ_ H'=>Q .non H',rt:=Q } [some (.ref sc),some (.int k),some (.int cell)] H:=λcell=>⟨_,k,cell,rfl,λl a b c hl=>q l _ (Dr hl _) hl ⟨a,b,c,aq⟩⟩
 refine⟨_,rfl,_,_,rfl,rfl,.inl ⟨by decide,by decide⟩,_,_,rfl,rfl,?_⟩
 refine⟨_,rfl,_,rfl,sc,_,rfl,.inl hS,_,_,rfl,rfl,_,rfl,jx (λc1=>?_) (λc1=>?_)⟩
 ·obtain⟨v,hv⟩:=Qv k0 (of_decide_eq_true c1)
  exact⟨_,rfl,_,rfl,sc,_,_,_,rfl,rfl,hS,hv,fin v⟩
 ·refine⟨_,rfl,sc,_,rfl,.inl hS,_,_,rfl,rfl,_,rfl,jx (λc2=>?_) (λc2=>fin _)⟩
  have c2:=of_decide_eq_true c2
  obtain⟨v,hv⟩:=Jo (i:=k) c2
  exact⟨_,rfl,_,rfl,_,rfl,sc,_,rfl,.inl hS,_,_,rfl,rfl,c2,sc,_,_,_,rfl,rfl,hS,hv,_,_,rfl,rfl,⟨by decide,by decide,by decide⟩,_,_,rfl,rfl,(by show(0:Int)<10 ^ 15;decide),_,rfl,_,_,rfl,rfl,.inl ⟨by decide,by decide⟩,_,_,rfl,rfl,fin _⟩
end
def allB(n:Nat)(p:Nat->Bool):Bool:=(è n).all p
theorem allB_iff{n:Nat}{p:Nat->Bool}(h:allB n p=true):∀i,i<n->p i=true:=λi hi=>ø.mp h i (ĳ.mpr hi)
def inB(s r:Nat):Bool:=(s &&& r) == s
def chn:Nat->Nat->Nat->List Nat
 |0,_,_=>[]
 |f+1,r,s=>s::(if s=0 then [] else chn f r ((s - 1) &&& r))
theorem Qe:allB 9 (λn=>allB (2 ^ n) λa=>(subs n).getD a [] == ((è n).filter (λi=>a.testBit i)).map λi:Nat=>0+((i:Nat):Int))=true:=by decide +kernel
abbrev En:=Int×List Int
def GX(ws ks:List Int):Int:=(ks.map λk=>ws.getD k.toNat 0).sum
structure BE(ws:List Int)(n m:Nat)(e:En):Prop where
 sum:e.1=GX ws e.2
 mem:∀k∈e.2,0<k/\inB k.toNat m=true/\k.toNat+1<2 ^ n
 apart:e.2.Pairwise λa b=>a.toNat &&& b.toNat=0
 top:∀s,inB s m=true->ws.getD s 0<=e.1
 len:∀j,m<2 ^ j->e.2.length<=j
def Og(ws:List Int)(bs:List En)(top rest:Nat)(found:En)(sub:Nat):En :=
 if found.1<ws.getD (sub+top) 0+(bs.getD (rest - sub) (0,[])).1 then (ws.getD (sub+top) 0+(bs.getD (rest - sub) (0,[])).1,(bs.getD (rest - sub) (0,[])).2++[((sub+top:Nat):Int)]) else found
structure FE(ws:List Int)(n j rest:Nat)(seen:List Nat)(e:En):Prop where
 sum:e.1=GX ws e.2
 mem:∀k∈e.2,0<k/\inB k.toNat (rest+2 ^ j)=true/\k.toNat+1<2 ^ n
 apart:e.2.Pairwise λa b=>a.toNat &&& b.toNat=0
 low:∀s,inB s rest=true->ws.getD s 0<=e.1
 upp:∀s∈seen,ws.getD (s+2 ^ j) 0<=e.1
 len:e.2.length<=j+1
section
variable {ws:List Int}{n j rest:Nat}{bs:List En} (h0:ws.getD 0 0=0) (h1:ws.getD (2 ^ n - 1) 0=0) (hn:n<=8) (hj:j<n) (hr:rest<2 ^ j) (hb:∀m,m<2 ^ j->BE ws n m (bs.getD m (0,[])))
end
def bwF(ws:List Int)(bs:List En)(top rest:Nat):En:=(chn 129 rest rest).foldl (Og ws bs top rest) (bs.getD rest (0,[]))
def FJ(ws:List Int)(bs:List En)(top:Nat):Nat->List En
 |0=>bs
 |i+1=>FJ ws bs top i++[bwF ws (FJ ws bs top i) top i]
def grow(ws:List Int):Nat->List En
 |0=>[(0,[])]
 |j+1=>FJ ws (grow ws j) (2 ^ j) (2 ^ j)
def J7(ws:List Int)(n:Nat):En:=(grow ws n).getD (2 ^ n - 1) (0,[])
def setOf(n:Nat)(k:Int):List Int:=(subs n).getD k.toNat []
structure HAok(n:Nat)(ws ks:List Int):Prop where
 len:ks.length<=n
 rng:∀k∈ks,0<k/\k<(2 ^ n:Nat) - 1
 apart:ks.Pairwise λa b=>∀x∈setOf n a,x∉setOf n b
 top:∀w∈ws,w<=GX ws ks
 is:ks=(J7 ws n).2
 tot:GX ws ks=(J7 ws n).1
section
variable {P:Program}{w:World}{K:Þ}{mg:Str->Option Value}{base:Heap}{f:Addr}{fd:FuncData}{CN:Addr}
end
def Nv(n:Nat)(W:List Int->Int):List Int:=0::(((subs n).drop 1).dropLast.map W++[0])
theorem Jq{α:Type}(l:List α)(h:2<=l.length):bM l (some 1) (some (-1))=(l.drop 1).dropLast:=by
 unfold bM
 have e1:HT.sIx l.length l.length (some (-1))=l.length - 1:=by
  have e:HT.sIx l.length l.length (some (-1))=((-1:Int)+(l.length:Int)).toNat:=rfl
  rw[e]
  omega
 have e2:HT.sIx l.length 0 (some 1)=min 1 l.length:=HT.oO l.length 0 1
 rw[e1,e2,Nat.min_eq_left (by omega),List.dropLast_eq_take,ý]
theorem rK:∀k,∃M f,subs k=M++[f]/\∀l∈M,l.length<k
 |0=>⟨[],[],rfl,λl h=>nomatch h⟩
 |k+1=>by
  obtain⟨M,f,e,h⟩:=rK k
  refine⟨subs k++M.map λl=>l++[0+((k:Nat):Int)],f++[0+((k:Nat):Int)],?_,λl hl=>?_⟩
  ·show subs k++(subs k).map _=_
   rw[show(subs k).map (λl=>l++[0+((k:Nat):Int)])=(M++[f]).map (λl=>l++[0+((k:Nat):Int)]) by rw[←e],å,þ]
   rfl
  ·rcases Ð.mp hl with z|z
   ·have:=(jR k l z).2.2
    omega
   ·obtain⟨a,ha,rfl⟩:=ë.mp z
    have:=h a ha
    rw[Å,š]
    omega
theorem zx{n:Nat}(n1:1<=n)(n8:n<=8):2<=2 ^ n/\2 ^ n<=256:=⟨Nat.pow_le_pow_right (n:=2) (by decide) n1,Nat.pow_le_pow_right (n:=2) (by decide) n8⟩
theorem yw{n:Nat}(n1:1<=n)(n8:n<=8){l:List Int}(h:l∈((subs n).drop 1).dropLast):Proper ((n:Nat):Int) l:=by
 obtain⟨M,f,e,hM⟩:=rK n
 obtain⟨r,e2,hr⟩:=rM n
 have h1:=(List.dropLast_sublist _).mem h
 obtain⟨o1,o2,o3⟩:=jR n l (List.mem_of_mem_drop h1)
 have hne:l≠[]:=by
  rw[e2] at h1
  exact hr l h1
 have p2:=zx n1 n8
 have hM1:l∈M:=by
  have lm:(subs n).length=M.length+1:=by rw[e];simp
  have:((subs n).drop 1).dropLast=M.drop 1:=by
   rw[e,List.drop_append_of_le_length (by rw[dB] at lm;omega),List.dropLast_concat]
  rw[this] at h
  exact List.mem_of_mem_drop h
 have:=hM l hM1
 exact⟨List.length_pos_iff.mpr hne,by omega,o2,o1,by omega⟩
theorem G9{n:Nat}{k:Int}(h:k.toNat<2 ^ n):(subs n)[k.toNat]?=some (setOf n k)/\setOf n k∈subs n:=by
 have hl:k.toNat<(subs n).length:=by rw[dB];exact h
 have e:(subs n)[k.toNat]?=some (setOf n k):=by
  unfold setOf
  rw[Û,É hl]
  rfl
 exact⟨e,Ò e⟩
section
variable {P:Program}{w:World}{K:Þ}{mg:Str->Option Value}{base:Heap}{f:Addr}{fd:FuncData}{CN:Addr}
end
abbrev e0:En:=(0,[])
section
variable {ws:List Int}{n:Nat}
end
theorem tM(l:List Int):dF (iD l)=l:=jP l
theorem Al{n:Int}{L:List (List Int)}(h:∀l∈L,Proper n l)(nd:L.flatten.Nodup):wO n (.list (L.map iD))=true:=by
 show((L.map iD).all (aH n)&&qY ((L.map iD).flatMap dF))=true
 have e1:(L.map iD).all (aH n)=true:=ø.mpr λd hd=>by
  obtain⟨l,hl,rfl⟩:=ë.mp hd
  exact pY (h l hl)
 have e2:(L.map iD).flatMap dF=L.flatten:=by
  rw[List.flatMap_map]
  have:(λl=>dF (iD l))=id:=funext tM
  rw[this,List.flatMap_id]
 rw[e1,e2]
 show qY L.flatten=true
 exact decide_eq_true ((qg _).mpr nd)
def J3(ds:List D)(P:D->Prop):Prop:=∃(n:Int) (us:List Tie) (L:List (List Int)),ds=[aM n us,.list (L.map iD)]/\n<=16/\L.length<=60/\(∀l∈L,Proper n l)/\L.flatten.Nodup/\P .none
theorem Nu{N k:Nat}{W:List Int->Int}(k0:0<k)(k1:k+1<2 ^ N):(Nv N W).getD k 0=W (setOf N ((k:Nat):Int))/\setOf N ((k:Nat):Int)∈((subs N).drop 1).dropLast:=by
 have e:=(G9 (n:=N) (k:=((k:Nat):Int)) (by rw[Ě];omega)).1
 rw[Ě] at e
 have em:(((subs N).drop 1).dropLast)[k - 1]?=some (setOf N ((k:Nat):Int)):=by
  rw[List.dropLast_eq_take,List.getElem?_take_of_lt (by rw[ý,dB];omega),List.getElem?_drop,show 1+(k - 1)=k by omega]
  exact e
 refine⟨?_,Ò em⟩
 unfold Nv
 rw[Û,show k=(k - 1)+1 by omega,ŕ,Ć (by rw[Á,Ū,ý,dB];omega),æ,em]
 rw[show k - 1+1=k by omega]
 rfl
def WO(us:List Tie)(fa:Int)(s:Str)(l:List Int):Int:=nd1 fa (byS us s l)
theorem Jt(us:List Tie)(fa:Int)(s:Str)(l:List Int):0<=WO us fa s l:=by
 unfold WO nd1
 split <;> omega
theorem CW{us:List Tie}{fa:Int}(h0:0<=fa)(h1:fa<=10)(s:Str)(l:List Int):-1000000<=WO us fa s l/\WO us fa s l<=1000000:=by
 unfold WO nd1
 split <;> omega
def fOB(ds:List D)(P:D->Prop):Prop:=∃(n:Int) (us:List Tie) (fa:Int) (s:Str) (L:List (List Int)),ds=[aM n us,.int fa,.str s,.list (L.map iD)]/\n<=16/\us.length<=100/\0<=fa/\fa<=10/\L.length<=60/\(∀l∈L,Proper n l)/\L.flatten.Nodup/\P (.int (L.map (WO us fa s)).sum)
section
variable {P:Program}{w:World}{K:Þ}{mg:Str->Option Value}{base:Heap}{f:Addr}{fd:FuncData}{CN:Addr}
theorem gW:FnScope ["web","thing"] ["web","thing"] (aj (top 20)):=zC
theorem oF(F:Fun K "check_family" "check_family" (top 20) f fd)(B:ō mg)(C_is_family:ċ P w K mg base 5 "is_family" ["n","thing"] (spD MN)):FnOk P w K mg base CX0 6 f fd ["web","thing"] (spD J3):=by
 refine F.ok gW ĭ (λcdv A outer s H vs Q E hr h=>?_)
 have nd:=gW.nd
 refine⟨_,İ (ú (ś (Wr.bJ (Wr.bx (Ų C_is_family hr (À (Ċ (Ç 0) à) (À (Ç 1) Â))))) (ú Wr.lU) ĝ)),aX h ?_⟩
 rintro ds P ⟨n,us,L,rfl,n16,ll,hL,nd,q⟩
 refine⟨[.im (aM n us),.sh (.list (L.map iD))],by show [aQ (aM n us),_]=_;rw[bR];rfl,?_⟩
 refine⟨.int n,rfl,n,.list (L.map iD),rfl,λes e=>?_,n16,?_⟩
 ·cases e
  refine⟨by rw[Á];exact ll,λe he=>?_⟩
  obtain⟨l,hl,rfl⟩:=ë.mp he
  intro es e2
  cases e2
  rw[Á]
  have:=(hL l hl).few
  omega
 ·rw[Al hL nd]
  exact bF (A:=True) q
theorem jX:FnScope ["one","falls","side","family"] ["one","falls","side","family"] (aj (top 28)):=zC
theorem qx:(["some","one","falls","side","family"]:List Str).Nodup:=by decide +kernel
theorem uD(F:Fun K "one_bound" "one_bound" (top 28) f fd)(B:ō mg)(m_sum:mg "sum"=none)(C_check_family:ċ P w K mg base 6 "check_family" ["web","thing"] (spD J3))(C_one_need:ċ P w K mg base 9 "one_need" ["one","falls","side","some"] (spD fON)):FnOk P w K mg base CX0 10 f fd ["one","falls","side","family"] (spD fOB):=by
 refine F.ok jX ĭ (λcdv A outer s H vs Q E hr h=>?_)
 have nd:=jX.nd
 refine⟨_,İ (Ü (Wr.pG (Ų C_check_family hr (À (Ç 0) (À (Ç 3) Â))))
  (ú (Ē (Wr.jl rfl m_sum (À (Wr.cP ["some"] rfl (ę (Ç 3)) (λc=>(î (i:=0) qx rfl zQ)) (λc=>ĺ) (λc=>(Ų C_one_need hr (À (Ç 1) (À (Ç 2) (À (Ç 3) (À (Ç 0) Â))))))) Â))))),aX h ?_⟩
 rintro ds P ⟨n,us,fa,s,L,rfl,n16,lu,h0,h1,ll,hL,nd,q⟩
 refine⟨[.im (aM n us),.im (.int fa),.im (.str s),.sh (.list (L.map iD))],by show [aQ (aM n us),_,_,_]=_;rw[bR];rfl,?_⟩
 refine⟨n,us,L,rfl,n16,ll,hL,nd,?_⟩
 refine uN L iD (λl=>.int (WO us fa s l)) .imm rfl (by omega) (λl hl A B h=>aL (B:=True) ⟨n,us,fa,s,l,rfl,hL l hl,lu,rfl,h⟩) ?_
 refine⟨L.map (WO us fa s),by rw[ü];rfl,by rw[Á];omega,λx hx=>?_,rfl,q⟩
 obtain⟨l,_,rfl⟩:=ë.mp hx
 exact CW h0 h1 s l
end
def mb(l:List Int)(v:Int):Bool:=decide (v∈l)
def psN(n:Nat):List (List Int):=((subs n).drop 1).dropLast
def yD(n:Nat)(X:Int->Bool):List Int:=(jw n).filter X
abbrev RgT(n:Nat)(us:List Tie):Prop:=∀t∈us,(0<=t.1/\t.1<(n:Int))/\(0<=t.2/\t.2<(n:Int))
abbrev RgE(n:Nat)(es:List Int):Prop:=∀e∈es,0<=e/\e<(n:Int)
theorem Fe{n:Nat}{X:Int->Bool}{v:Int}(h:0<=v/\v<(n:Int)):mb (yD n X) v=X v:=by
 unfold mb yD
 rw[Ď,decide_eq_true_iff,List.mem_filter,iT]
 exact⟨λh=>h.2,λq=>⟨h,q⟩⟩
theorem xU{n:Nat}{l:List Int}(h:Proper ((n:Nat):Int) l):Cut.Prp n (mb l):=by
 refine⟨?_,?_⟩
 ·cases l with
  |nil=>have:=h.one;simp at this
  |cons v r=>exact⟨v,h.rng v Í,decide_eq_true Í⟩
 ·apply Ğ
  intro hn
  have all:∀x∈jw n,x∈l:=λx hx=>by
   apply Ğ
   intro hx2
   exact hn ⟨x,iT.mp hx,decide_eq_false hx2⟩
  have nd:(jw n).Nodup:=by
   unfold jw
   exact List.Pairwise.map _ (λa b hab h=>hab (by omega)) List.nodup_range
  have:=nd.length_le_of_subset all
  have fw:=h.few
  unfold jw at this
  rw[Á,ť] at this
  omega
theorem Jk{n:Nat}(n8:n<=8){X:Int->Bool}(h:Cut.Prp n X):∃q:Nat,0<q/\q+1<2 ^ n/\setOf n ((q:Nat):Int)=yD n X/\∀i,i<n->q.testBit i=X ((i:Nat):Int):=by
 obtain⟨q,hq⟩:=List.getElem?_of_mem (uU X n)
 have hl:=(Ó.mp hq).1
 rw[dB] at hl
 have es:setOf n ((q:Nat):Int)=yD n X:=by
  unfold setOf
  rw[Ě,Û,hq]
  rfl
 have sb:(subs n).getD q []=((è n).filter (λi=>q.testBit i)).map λi:Nat=>0+((i:Nat):Int):=beq_iff_eq.mp (allB_iff (allB_iff Qe n (by omega)) q hl)
 have tb:∀i,i<n->q.testBit i=X ((i:Nat):Int):=λi hi=>by
  have e:(((è n).filter (λi=>q.testBit i)).map λi:Nat=>0+((i:Nat):Int))=yD n X:=by
   rw[←sb,←es]
   unfold setOf
   rw[Ě]
  have m:=congrArg (λl=>mb l ((i:Nat):Int)) e
  have m:mb (((è n).filter (λi=>q.testBit i)).map λi:Nat=>0+((i:Nat):Int)) ((i:Nat):Int)=mb (yD n X) ((i:Nat):Int):=m
  rw[Fe (by omega)] at m
  rw[←m]
  unfold mb
  rw[Ď,decide_eq_true_iff,List.mem_map]
  constructor
  ·exact λh=>⟨i,Ĭ.mpr ⟨ĳ.mpr hi,h⟩,by omega⟩
  ·rintro⟨j,hj,e⟩
   have:j=i:=by omega
   subst this
   exact(Ĭ.mp hj).2
 refine⟨q,?_,?_,es,tb⟩
 ·obtain⟨v,⟨v0,v1⟩,hv⟩:=h.ins
  rcases Nat.eq_zero_or_pos q with z|z
  ·subst z
   have:=tb v.toNat (by omega)
   rw[Nat.zero_testBit,show((v.toNat:Nat):Int)=v by omega,hv] at this
   cases this
  ·exact z
 ·obtain⟨v,⟨v0,v1⟩,hv⟩:=h.out
  rcases Nat.lt_or_ge (q+1) (2 ^ n) with z|z
  ·exact z
  ·have e:q=2 ^ n - 1:=by omega
   have:=tb v.toNat (by omega)
   rw[e,Nat.testBit_two_pow_sub_one,show((v.toNat:Nat):Int)=v by omega,hv,decide_eq_true (by omega)] at this
   cases this
theorem Lz{n:Nat}(n8:n<=8){X:Int->Bool}(h:Cut.Prp n X):yD n X∈psN n:=by
 obtain⟨q,q0,q1,e,_⟩:=Jk n8 h
 rw[←e]
 exact(Nu (W:=λ_=>0) q0 q1).2
theorem pO{α:Type}(l:List α)(f:α->Nat):(l.map λx=>((f x:Nat):Int)).sum=(((l.map f).sum:Nat):Int):=by
 induction l with
 |nil=>rfl
 |cons x l ih=>rw[ê,ö,ê,ö,ih];omega
structure Side(n:Nat)(us:List Tie)(s:Str)(d:(Int->Bool)->Nat):Prop where
 eq:∀{X Y:Int->Bool},(∀v,0<=v/\v<(n:Int)->X v=Y v)->d X=d Y
 by_:∀l,d (mb l)=byS us s l
theorem wI(us:List Tie)(l:List Int):Cut.di us (mb l)=inN us l:=by
 unfold Cut.di inN
 rw[←List.countP_eq_length_filter]
 rfl
theorem G8{n:Nat}{us:List Tie}(hu:RgT n us):Side n us "in" (Cut.di us):=⟨λ{X Y} h=>by
 unfold Cut.di
 refine List.countP_congr λt ht=>?_
 obtain⟨a,b⟩:=hu t ht
 rw[h _ a,h _ b],λl=>by
 unfold byS
 rw[if_pos rfl,wI]⟩
def dE(d:(Int->Bool)->Nat)(es:List Int)(X:Int->Bool):Nat:=d X+Cut.mg es X
@[reducible] def DEq(n:Nat)(d:(Int->Bool)->Nat):Prop:=∀{X Y:Int->Bool},(∀v,0<=v/\v<(n:Int)->X v=Y v)->d X=d Y
structure FewP(n k:Nat)(d:(Int->Bool)->Nat)(L E:List Int):Prop where
 rg:RgE n E
 C:∀X,Cut.Prp n X->k<=dE d E X
 tg:∀v∈L,∃X,Cut.Prp n X/\X v=true/\dE d E X=k
theorem pH{a b:List Tie}(h:a.Perm b)(X:Int->Bool):Cut.di a X=Cut.di b X:=h.countP_eq _
def fPS(ds:List D)(P:D->Prop):Prop:=∃n:Nat,ds=[.int ((n:Nat):Int)]/\1<=n/\n<=8/\P (.list ((psN n).map iD))
section
variable {P:Program}{w:World}{K:Þ}{mg:Str->Option Value}{base:Heap}{f:Addr}{fd:FuncData}{CN PT:Addr}
theorem iu:FnScope ["n"] ["n"] (aj (top 15)):=zC
theorem qj(F:Fun K "proper_sets" "proper_sets" (top 15) f fd)(B:ō mg)(C_sets_below:ċ P w K mg base 1 "sets_below" ["count"] (spD fSB)):FnOk P w K mg base CX0 2 f fd ["n"] (spD fPS):=by
 refine F.ok iu ĭ (λcdv A outer s H vs Q E hr h=>?_)
 have nd:=iu.nd
 refine⟨_,İ (ú (Ē (Wr.nY (Ų C_sets_below hr (À (Ç 0) Â)) (Wr.cO à) (Wr.cO (Wr.fD à))))),aX h ?_⟩
 rintro ds P ⟨n,rfl,n1,n8,q⟩
 refine⟨[.im (.int ((n:Nat):Int))],rfl,?_⟩
 have p2:=zx n1 n8
 refine⟨((n:Nat):Int),rfl,by omega,by omega,.inr ⟨rfl,?_⟩⟩
 rw[Ě,Jq _ (by rw[Á,dB];omega),←Ŷ,←List.map_dropLast]
 exact q
end
def swp(t:Tie):Tie:=(t.2,t.1)
theorem Mt(us:List Tie)(l:List Int):inN (us.map swp) l=iI us l:=by
 unfold inN iI
 rw[List.filter_map,Á]
 congr 1
 refine List.filter_congr λt _=>?_
 show(!decide (t.2∈l)&&decide (t.1∈l))=(decide (t.1∈l)&&!decide (t.2∈l))
 exact Bool.and_comm _ _
theorem lA(us:List Tie):okD (.list (us.map pD))=true:=by
 have a1:=Ft us
 have a2:=wU us
 show(ņ (us.map pD)&&decide (PyData.depthAll (us.map pD)+1<=60))=true
 rw[a1,decide_eq_true (by omega)]
 rfl
section
variable {P:Program}{w:World}{K:Þ}{mg:Str->Option Value}{base:Heap}{f:Addr}{fd:FuncData}{CN P1 PT:Addr}
end
def GdN(n:Nat)(A:List Tie):Prop:=∀t∈A,(0<=t.1/\t.1<(n:Int))/\(0<=t.2/\t.2<(n:Int))/\t.1≠t.2
def Cy(A:List Tie):Prop:=A.Pairwise λa b=>aB a<=aB b
def Cz(n:Int)(F:List (List Int)):Prop:=(∀l∈F,Proper n l)/\F.flatten.Nodup
theorem GdN.rg{n:Nat}{A:List Tie}(h:GdN n A):RgT n A:=λt ht=>by have:=h t ht;exact⟨⟨by omega,by omega⟩,by omega,by omega⟩
theorem GdN.nice{n:Nat}{A:List Tie}(h:GdN n A)(n8:n<=8):∀t∈A,eG t:=λt ht=>by have:=h t ht;exact⟨by omega,by omega⟩
theorem mK:∀{l1 l2:List Tie},(∀t∈l1,eG t)->l1.Perm l2->l1.Pairwise (λa b=>aB a<=aB b)->l2.Pairwise (λa b=>aB a<=aB b)->l1=l2
 |[],l2,_,p,_,_=>p.nil_eq
 |a::l1,[],_,p,_,_=>absurd p.length_eq (by simp)
 |a::l1,b::l2,hn,p,s1,s2=>by
  have s1:=ŀ.mp s1
  have s2:=ŀ.mp s2
  have hb:b∈a::l1:=p.mem_iff.mpr Í
  have ha:a∈b::l2:=p.mem_iff.mp Í
  have e1:aB a<=aB b:=by
   rcases á.mp hb with z|z
   ·rw[z];exact ÿ _
   ·exact s1.1 b z
  have e2:aB b<=aB a:=by
   rcases á.mp ha with z|z
   ·rw[z];exact ÿ _
   ·exact s2.1 a z
  have e:a=b:=code_inj (hn a Í) (hn b hb) (by omega)
  subst e
  rw[mK (λt ht=>hn t (Î _ ht)) ((List.perm_cons a).mp p) s1.2 s2.2]
theorem zT:∀{l:List Int},jB l=true->l.Pairwise (·<·)
 |[],_=>.nil
 |[a],_=>by simp
 |a::b::r,h=>by
  have h:(decide (a<b)&&jB (b::r))=true:=h
  rw[Ê,decide_eq_true_eq] at h
  have ih:=zT h.2
  refine List.pairwise_cons.mpr ⟨λx hx=>?_,ih⟩
  rcases á.mp hx with rfl|hx
  ·exact h.1
  ·have:=(ŀ.mp ih).1 x hx
   omega
theorem Dz{n:Int}{d:D}(n16:n<=16)(h:aH n d=true):∃l:List Int,d=iD l/\Proper n l:=by
 unfold aH at h
 rw[Ê] at h
 cases d with
 |list es =>
  have h1:(es.all (aP n)&&jB (es.map toI))=true:=h.1
  rw[Ê] at h1
  have h2:(decide ((1:Int)<=(es.length:Nat))&&decide (((es.length:Nat):Int)<n))=true:=h.2
  rw[Ê,decide_eq_true_eq,decide_eq_true_eq] at h2
  have ei:=ints_of h1.1
  refine⟨es.map toI,congrArg _ ei,by rw[Á];omega,by rw[Á];omega,λx hx=>?_,zT h1.2,n16⟩
  obtain⟨e,he,rfl⟩:=ë.mp hx
  have hb:=ø.mp h1.1 e he
  obtain⟨i,rfl⟩:=dZ hb
  exact of_decide_eq_true hb
 |_=>cases h.1
theorem Fx{a b:List Int}(h:iD a=iD b):a=b:=by
 have e:ì (a.map Ã)=.list (b.map .int):=h
 injection e with e
 have:=congrArg (List.map toI) e
 rwa [jP,jP] at this
def tO(n:Int):D->Bool
 |.tuple [a,b]=>aP n a&&(aP n b&&!decide (toI a=toI b))
 |_=>false
theorem Kf{n:Nat}{d:D}(h:tO ((n:Nat):Int) d=true):∃t:Tie,d=pD t/\(0<=t.1/\t.1<(n:Int))/\(0<=t.2/\t.2<(n:Int))/\t.1≠t.2:=by
 unfold tO at h
 split at h
 ·rename_i a b
  rw[Ê,Ê] at h
  obtain⟨i,rfl⟩:=dZ h.1
  obtain⟨j,rfl⟩:=dZ h.2.1
  refine⟨(i,j),rfl,of_decide_eq_true h.1,of_decide_eq_true h.2.1,λz=>?_⟩
  have z:i=j:=z
  have h2:(!decide (i=j))=true:=h.2.2
  rw[decide_eq_true z] at h2
  cases h2
 ·cases h
theorem G3{n:Nat}{t:Tie}(h:(0<=t.1/\t.1<(n:Int))/\(0<=t.2/\t.2<(n:Int))/\t.1≠t.2):tO ((n:Nat):Int) (pD t)=true:=by
 show(decide (0<=t.1/\t.1<(n:Int))&&(decide (0<=t.2/\t.2<(n:Int))&&!decide (t.1=t.2)))=true
 rw[decide_eq_true h.1,decide_eq_true h.2.1,decide_eq_false h.2.2]
 rfl
theorem GZ{n:Nat}{es:List D}(h:es.all (tO ((n:Nat):Int))=true):∃A:List Tie,es=A.map pD/\GdN n A:=by
 have al:=ø.mp h
 clear h
 induction es with
 |nil=>exact⟨[],rfl,λt ht=>nomatch ht⟩
 |cons a es ih =>
  obtain⟨A,rfl,g⟩:=ih λx hx=>al x (Î _ hx)
  obtain⟨t,rfl,ht⟩:=Kf (al a Í)
  exact⟨t::A,rfl,λu hu=>by
   rcases á.mp hu with rfl|hu
   ·exact ht
   ·exact g u hu⟩
theorem mZ{A B:List Tie}(h:ì (A.map pD)=.list (B.map pD)):A=B:=by
 injection h with h
 have e:∀L:List Tie,(L.map pD).map (λd=>match d with|.tuple [.int a,.int b]=>(a,b)|_=>(0,0))=L:=λL=>by
  rw[ü]
  exact List.map_id'' (λ_=>rfl) L
 rw[←e A,h,e B]
def rD(d:D):Prop:=∀es,d=.list es->es.length<=400
def LdP(n:Nat)(d:D):Prop:=∃A:List Tie,d=.list (A.map pD)/\GdN n A/\Cy A
def vK:D->Bool
 |.str s=>decide (s="in") || decide (s="out")
 |_=>false
def Qi(ds:List D)(P:D->Prop):Prop:=∃(n:Int) (d:D),ds=[.int n,d]/\P (.bool (tO n d))
def Qk(ds:List D)(P:D->Prop):Prop:=∃(n:Nat) (us:List Tie) (d:D),ds=[aM ((n:Nat):Int) us,d]/\n<=8/\rD d/\∀b:Bool,(b=true↔LdP n d)->P (.bool b)
def Qf(ds:List D)(P:D->Prop):Prop:=∃(n:Nat) (us vs:List Tie),ds=[aM ((n:Nat):Int) us,.list (vs.map pD)]/\us.length+vs.length<64/\n<=16/\RgT n us/\RgT n vs/\∀ws:List Tie,ws.Perm (us++vs)->P (aM ((n:Nat):Int) ws)
def okS(d:D):Prop:=∀s,d=.str s->okD d=true
def J0(ds:List D)(P:D->Prop):Prop:=∃d:D,ds=[d]/\okS d/\P (.bool (vK d))
def Qh(ds:List D)(P:D->Prop):Prop:=∃(n:Nat) (us:List Tie) (fa:Int),ds=[aM ((n:Nat):Int) us,.int fa]/\1<=n/\n<=8/\us.length<=100/\RgT n us/\∀b:Bool,(b=true↔∀X,Cut.Prp n X->fa<((Cut.di us X:Nat):Int))->P (.bool b)
structure DueO(n:Nat)(us A:List Tie)(fa:Int)(s:Str)(F:List (List Int)):Prop where
 side:s="in"\/s="out"
 gd:GdN n A
 rise:Cy A
 fam:Cz ((n:Nat):Int) F
 few:((A.length:Nat):Int)<=(F.map (WO us fa s)).sum
 st:∀X,Cut.Prp n X->fa<((Cut.di (us++A) X:Nat):Int)
def zp(n:Nat)(us:List Tie)(fa:Int)(d sd e:D):Prop:=∃(A:List Tie) (s:Str) (F:List (List Int)),d=.list (A.map pD)/\sd=.str s/\e=.list (F.map iD)/\DueO n us A fa s F
def yQ(ds:List D)(P:D->Prop):Prop:=∃(n:Nat) (us:List Tie) (fa:Int) (d sd e:D),ds=[aM ((n:Nat):Int) us,.int fa,d,sd,e]/\1<=n/\n<=8/\0<=fa/\fa<=1/\us.length<=40/\RgT n us/\rD d/\rC e/\okS sd/\∀b:Bool,(b=true↔zp n us fa d sd e)->P (.bool b)
theorem tU{d:D}:vK d=true↔∃s:Str,d=.str s/\(s="in"\/s="out"):=by
 cases d with
 |str s =>
  show(decide (s="in") || decide (s="out"))=true↔_
  rw[Bool.or_eq_true,decide_eq_true_eq,decide_eq_true_eq]
  exact⟨λh=>⟨s,rfl,h⟩,λ⟨t,e,h⟩=>by cases e;exact h⟩
 |_=>exact⟨λh=>(nomatch h),λ⟨t,e,_⟩=>(nomatch e)⟩
theorem pB{n:Int}{F:List (List Int)}(n16:n<=16):wO n (.list (F.map iD))=true↔Cz n F:=by
 refine⟨λh=>?_,λh=>Al h.1 h.2⟩
 have h:((F.map iD).all (aH n)&&qY ((F.map iD).flatMap dF))=true:=h
 rw[Ê] at h
 have e2:(F.map iD).flatMap dF=F.flatten:=by
  rw[List.flatMap_map]
  have:(λl=>dF (iD l))=id:=funext tM
  rw[this,List.flatMap_id]
 rw[e2] at h
 refine⟨λl hl=>?_,(qg _).mp (of_decide_eq_true h.2)⟩
 obtain⟨l',e,p⟩:=Dz n16 (ø.mp h.1 _ (ë.mpr ⟨l,hl,rfl⟩))
 rw[Fx e]
 exact p
theorem MJ{n:Int}{d:D}(n16:n<=16)(h:wO n d=true):∃F:List (List Int),d=.list (F.map iD)/\Cz n F:=by
 cases d with
 |list es =>
  have h':(es.all (aH n)&&qY (es.flatMap dF))=true:=h
  rw[Ê] at h'
  have:∃F:List (List Int),es=F.map iD:=by
   have al:=ø.mp h'.1
   clear h h'
   induction es with
   |nil=>exact⟨[],rfl⟩
   |cons a es ih =>
    obtain⟨F,rfl⟩:=ih λx hx=>al x (Î _ hx)
    obtain⟨l,rfl,_⟩:=Dz n16 (al a Í)
    exact⟨l::F,rfl⟩
  obtain⟨F,rfl⟩:=this
  exact⟨F,rfl,(pB n16).mp h⟩
 |_=>cases h
theorem Jh{n:Int}{F:List (List Int)}(n8:n<=8)(h:Cz n F):F.length<=8:=by
 have h1:F.length<=F.flatten.length:=by
  have:∀F:List (List Int),(∀l∈F,1<=l.length)->F.length<=F.flatten.length:=λF=>by
   induction F with
   |nil=>exact λ_=>Ë _
   |cons a F ih =>
    intro h
    have a1:=h a Í
    have:=ih λl hl=>h l (Î _ hl)
    rw[ï,Å,Ý]
    omega
  exact this F λl hl=>(h.1 l hl).one
 have h2:F.flatten.length<=(jw 8).length:=h.2.length_le_of_subset λx hx=>by
  obtain⟨l,hl,hx'⟩:=Ė.mp hx
  have:=(h.1 l hl).rng x hx'
  exact iT.mpr (by omega)
 have:(jw 8).length=8:=by decide
 omega
theorem lJ{F G:List (List Int)}(h:ì (F.map iD)=.list (G.map iD)):F=G:=by
 injection h with h
 have e:∀L:List (List Int),(L.map iD).map dF=L:=λL=>by
  rw[ü]
  exact List.map_id'' (λl=>tM l) L
 rw[←e F,h,e G]
theorem Nx{us:List Tie}{fa:Int}(f0:0<=fa)(s:Str)(l:List Int):WO us fa s l<=fa+1:=by
 unfold WO nd1
 split <;> omega
theorem Dj{us:List Tie}{fa:Int}(f0:0<=fa)(f1:fa<=1)(s:Str):∀F:List (List Int),(F.map (WO us fa s)).sum<=2 * ((F.length:Nat):Int)
 |[]=>by simp
 |l::F=>by
  have:=Dj (us:=us) f0 f1 s F
  have:=Nx (us:=us) f0 s l
  rw[ê,ö,Ý]
  omega
section
variable {P:Program}{w:World}{K:Þ}{mg:Str->Option Value}{base:Heap}{f:Addr}{fd:FuncData}{CN P1 PT:Addr}
theorem rO:FnScope ["n","thing"] ["n","thing"] (aj (top 6)):=zC
theorem Bw(F:Fun K "is_tie" "is_tie" (top 6) f fd)(B:ō mg)(C_is_below:ċ P w K mg base 2 "is_below" ["limit","thing"] (spD yR)):FnOk P w K mg base CX0 3 f fd ["n","thing"] (spD Qi):=by
 refine F.ok rO ĭ (λcdv A outer s H vs Q E hr h=>?_)
 have nd:=rO.nd
 refine⟨_,İ (Ü (ś (Wr.wpt (Wr.fC (Wr.bJ (Wr.bx (Wr.bQ kit_tuple B.isinstance (Ç 1) (Wr.wty rfl B.tuple boot_tuple)))) (Wr.dH (Wr.kE hr.units (Ţ B.len (À (Ç 1) Â)) à)))) (ú (Ē Ń)) ĝ)
  (ú (Ē (Wr.fG (Ų C_is_below hr (À (Ç 0) (À (Ċ (Ç 1) à) Â))) (Wr.fG (Ų C_is_below hr (À (Ç 0) (À (Ċ (Ç 1) à) Â))) (Wr.gq (Wr.xZ hr.units (Ċ (Ç 1) à) (Ċ (Ç 1) à)))))))),aX h ?_⟩
 rintro ds P ⟨n,d,rfl,q⟩
 refine⟨[.im (.int n),aQ d],rfl,?_⟩
 cases d with
 |tuple es =>
  rcases cA (.tuple es) with e|e
  all_goals
   rw[e]
   refine bF (A:=True) ?_
   match es,q with
   |[],q=>exact aL (B:=True) ⟨rfl,q⟩
   |[_],q=>exact aL (B:=True) ⟨rfl,q⟩
   |a::b::c::r,q =>
    exact aL (B:=True) ⟨rfl,q⟩
   |[a,b],q =>
    have q:P (.bool (aP n a&&(aP n b&&!decide (toI a=toI b)))):=q
    refine bF (A:=True) ⟨a,rfl,n,a,rfl,?_⟩
    show if aP n a=true then _ else _
    refine jx (λc=>?_) (λc=>?_)
    ·rw[c] at q
     refine⟨b,rfl,n,b,rfl,?_⟩
     show if aP n b=true then _ else _
     refine jx (λc2=>?_) (λc2=>?_)
     ·rw[c2] at q
      obtain⟨i,rfl⟩:=dZ c
      obtain⟨j,rfl⟩:=dZ c2
      exact⟨.int i,rfl,.int j,rfl,rfl,q⟩
     ·have c2:aP n b=false:=by simpa using c2
      rw[c2] at q
      exact⟨rfl,q⟩
    ·have c:aP n a=false:=by simpa using c
     rw[c] at q
     exact⟨rfl,q⟩
 |_=>exact aL (B:=True) ⟨rfl,q⟩
theorem jW:FnScope ["web","added"] ["web","added"] (aj (top 7)):=zC
theorem uz(F:Fun K "with_ties" "with_ties" (top 7) f fd)(B:ō mg):FnOk P w K mg base CX0 1 f fd ["web","added"] (spD Qf):=by
 refine F.ok jW ĭ (λcdv A outer s H vs Q E hr h=>?_)
 have nd:=jW.nd
 refine⟨_,İ (ú (Ē (õ (À (Ċ (Ç 0) à) (À (Wr.eV B.tuple (À (Wr.iB B.sorted (À (ß (Ċ (Ç 0) à) (Wr.eV B.tuple (À (Ç 1) Â))) Â)) Â)) Â))))),aX h ?_⟩
 rintro ds P ⟨n,us,vs,rfl,lu,n16,oku,okv,q⟩
 refine⟨[.im (aM ((n:Nat):Int) us),.sh (.list (vs.map pD))],?_,?_⟩
 ·show [aQ (aM _ us),aQ (.list (vs.map pD))]=_
  rw[bR]
  rfl
 have lm:∀xs:List Tie,(xs.map pD).length=xs.length:=λxs=>Á ..
 have ok:RgT n (us++vs):=λt ht=>(Ð.mp ht).elim (oku t) (okv t)
 refine⟨.int ((n:Nat):Int),rfl,.tuple (us.map pD),rfl,by rw[lm,lm];omega,us++vs,.inr ?_,by rw[Å];omega,λt ht=>?_,λws hp hs=>⟨zK,?_,q ws hp⟩⟩
 ·rw[å]
 ·have:=ok t ht
  exact⟨by omega,by omega⟩
 ·have e:=pA ((n:Nat):Int) ws
  show(norm _ (aM ((n:Nat):Int) ws)).le .n0=true
  rw[ľ e]
  rfl
theorem j6:FnScope ["web","thing"] ["web","thing"] (aj (top 22)):=zC
theorem qz:(["tie","web","thing"]:List Str).Nodup:=by decide +kernel
theorem uI(F:Fun K "are_leads" "are_leads" (top 22) f fd)(B:ō mg)(C_is_tie:ċ P w K mg base 3 "is_tie" ["n","thing"] (spD Qi)):FnOk P w K mg base CX0 4 f fd ["web","thing"] (spD Qk):=by
 refine F.ok j6 ĭ (λcdv A outer s H vs Q E hr h=>?_)
 have nd:=j6.nd
 refine⟨_,İ (Ü (ś (Wr.wpt (Wr.fC (Wr.bJ (Wr.bx (Wr.bQ qG B.isinstance (Ç 1) (Wr.wty rfl B.list boot_list)))) (Wr.dH (Wr.bJ (Wr.bx (Wr.mY rfl B.all Dl.boot_all (À (Wr.cP ["tie"] rfl (ę (Ç 1)) (λc=>(î (i:=0) qz rfl zQ)) (λc=>ĺ) (λc=>(Ų C_is_tie hr (À (Ċ (Ç 1) à) (À (Ç 0) Â))))) Â))))))) (ú (Ē Ń)) ĝ)
  (ú (Ē (Wr.uw hr.units (Wr.fP B.sorted (À (Ç 1) Â)) (Ç 1))))),aX h ?_⟩
 rintro ds P ⟨n,us,d,rfl,n8,fd,q⟩
 refine⟨[.im (aM ((n:Nat):Int) us),aQ d],by show [aQ (aM _ us),_]=_;rw[bR],?_⟩
 have no:¬LdP n d->P (.bool false):=λz=>q false ⟨λy=>(nomatch y),λy=>absurd y z⟩
 cases d with
 |list es =>
  have hl:=fd es rfl
  refine bF (A:=True) ⟨by omega,.imm,λi ys=>ys=(es.take i).map λd=>PyData.bool (tO ((n:Nat):Int) d),rfl,λi d ys hd hy=>?_,λys hy=>?_⟩
  ·subst hy
   by_cases hi:bK d=true
   ·have en:∀k,norm k d=.imm:=λk=>ľ hi
    unfold gNm
    simp only[en]
    exact aL (B:=True) ⟨_,rfl,((n:Nat):Int),d,rfl,rfl,(iU _ hd).symm⟩
   ·have en:∀k,norm k d=k:=λk=>Ŀ hi
    unfold gNm
    simp only[en]
    exact aL (B:=True) ⟨_,rfl,((n:Nat):Int),d,rfl,rfl,(iU _ hd).symm⟩
  ·dsimp only at hy
   rw[û] at hy
   refine⟨es.map (tO ((n:Nat):Int)),by rw[hy,ü];rfl,?_⟩
   rw[List.all_map]
   show if (!es.all (tO ((n:Nat):Int)))=true then _ else _
   cases ha:es.all (tO ((n:Nat):Int)) with
   |false =>
    refine aL (B:=True) ⟨rfl,no λ⟨A,e,g,_⟩=>?_⟩
    injection e with e
    rw[e,List.all_map,List.all_eq_false] at ha
    obtain⟨t,ht,hn⟩:=ha
    exact hn (G3 (g t ht))
   |true =>
    obtain⟨A,rfl,gA⟩:=GZ ha
    rw[Á] at hl
    refine bF (A:=True) ⟨A,.inl rfl,by omega,gA.nice n8,λws hp hs=>?_⟩
    refine⟨lA ws,lA A,rfl,?_⟩
    show P (.bool (ñ (.list (ws.map pD)) (.list (A.map pD))))
    rw[Ao]
    refine q _ ⟨λh=>?_,λ⟨B,e,g,h⟩=>?_⟩
    ·have e:ws=A:=of_decide_eq_true h
     rw[←e] at gA ⊢
     exact⟨ws,rfl,gA,hs⟩
    ·rw[←mZ e] at h
     exact decide_eq_true (mK (gA.nice n8) hp.symm h hs).symm
 |tuple es=>rcases cA (.tuple es) with e|e <;> rw[e] <;> exact aL (B:=True) ⟨rfl,no λ⟨A,e,_⟩=>by cases e⟩
 |_=>exact aL (B:=True) ⟨rfl,no λ⟨A,e,_⟩=>by cases e⟩
theorem pW:FnScope ["thing"] ["thing"] (aj (top 31)):=zC
theorem yq(F:Fun K "is_side" "is_side" (top 31) f fd)(B:ō mg)(m_str:mg "str"=none):FnOk P w K mg base CX0 1 f fd ["thing"] (spD J0):=by
 refine F.ok pW ĭ (λcdv A outer s H vs Q E hr h=>?_)
 have nd:=pW.nd
 refine⟨_,İ (ú (Ē (Wr.fG (Wr.bQ Ip B.isinstance (Ç 0) (Wr.wty rfl m_str Dl.boot_str)) (Wr.gq (Wr.vX hr.units (Ç 0) (õ (À Ś (À Ś Â)))))))),aX h ?_⟩
 rintro ds P ⟨d,rfl,okd,q⟩
 refine⟨[aQ d],rfl,?_⟩
 cases d with
 |str s =>
  have e:([PyData.str "in",PyData.str "out"].any λe=>ñ e (.str s))=(decide (s="in") || decide (s="out")):=by
   show(decide (("in":Str)=s) || (decide (("out":Str)=s) || false))=_
   rw[Bool.or_false]
   congr 1 <;> exact decide_eq_decide.mpr eq_comm
  refine aL (B:=True) ⟨zK,okd s rfl,by decide +kernel,rfl,?_⟩
  show P (.bool ([PyData.str "in",PyData.str "out"].any λe=>ñ e (.str s)))
  rw[e]
  exact q
 |tuple es=>rcases cA (.tuple es) with e|e <;> rw[e] <;> exact⟨rfl,q⟩
 |_=>exact⟨rfl,q⟩
theorem jz:FnScope ["one","falls","some"] ["one","falls"] (aj (top 30)):=zC
theorem qX(F:Fun K "one_stands" "one_stands" (top 30) f fd)(B:ō mg)(C_proper_sets:ċ P w K mg base 2 "proper_sets" ["n"] (spD fPS))(C_one_need:ċ P w K mg base 9 "one_need" ["one","falls","side","some"] (spD fON)):FnOk P w K mg base CX0 10 f fd ["one","falls"] (spD Qh):=by
 refine F.ok jz ĭ (λcdv A outer s H vs Q E hr h=>?_)
 have nd:=jz.nd
 refine⟨_,İ (Ü (Wr.cX ġ rfl (ę (Ų C_proper_sets hr (À (Ċ (Ç 0) à) Â))) (î (i:=2) nd rfl zQ) (Ü (ś (Wr.p7 (Ų C_one_need hr (À (Ç 0) (À (Ç 1) (À Ś (À (Ç 2) Â))))) à) (ú (Ē Ń)) ĝ) (Ħ [2] ĝ)))
  (Ħ [2] (ú (Ē Ń)))),aX h ?_⟩
 rintro ds P ⟨n,us,fa,rfl,n1,n8,lu,hu,q⟩
 refine⟨[.im (aM ((n:Nat):Int) us),.im (.int fa),.any],by show [aQ (aM _ us),_,_]=_;rw[bR];rfl,?_⟩
 have e0:∀l,nd1 fa (byS us "in" l) > 0↔¬fa<((inN us l:Nat):Int):=λl=>by
  unfold nd1 byS
  rw[if_pos rfl]
  split <;> omega
 refine⟨.int ((n:Nat):Int),rfl,n,rfl,n1,n8,?_⟩
 refine⟨rfl,λ(i:Nat) ρ=>∃s2,ρ=[.im (aM ((n:Nat):Int) us),.im (.int fa),s2]/\∀l∈(psN n).take i,fa<((inN us l:Nat):Int),⟨_,rfl,λl hl=>(nomatch hl)⟩,?_,?_⟩
 ·rintro i d ρ hd ⟨s2,rfl,al⟩
  obtain⟨l,hl,rfl⟩:=dM hd
  have ml:=Ò hl
  have hp:=yw n1 n8 ml
  refine⟨n,us,fa,"in",l,rfl,hp,lu,jx (λc=>?_) (λc=>⟨_,rfl,λl' hl'=>?_⟩)⟩
  ·have c:0<nd1 fa (byS us "in" l):=of_decide_eq_true c
   refine⟨rfl,q false ⟨λz=>(nomatch z),λz=>absurd ?_ ((e0 l).mp c)⟩⟩
   have:=z _ (xU hp)
   rw[wI] at this
   exact this
  ·rw[ĩ,hl] at hl'
   rcases Ð.mp hl' with z|z
   ·exact al l' z
   ·have z:l'=l:=by simpa using z
    rw[z]
    apply Ğ
    intro no
    exact c (decide_eq_true ((e0 l).mpr no))
 ·rintro ρ ⟨s2,rfl,al⟩
  rw[Á,û] at al
  refine⟨rfl,q true ⟨λ_ X hX=>?_,λ_=>rfl⟩⟩
  have:=al _ (Lz n8 hX)
  rw[←wI,(G8 hu).eq λv hv=>Fe hv] at this
  exact this
theorem iw:FnScope ["one","falls","added","side","family"] ["one","falls","added","side","family"] (aj (top 32)):=zC
theorem ql(F:Fun K "one_lets_by" "one_lets_by" (top 32) f fd)(B:ō mg)(C_is_family:ċ P w K mg base 5 "is_family" ["n","thing"] (spD MN))(C_is_side:ċ P w K mg base 1 "is_side" ["thing"] (spD J0))(C_are_leads:ċ P w K mg base 4 "are_leads" ["web","thing"] (spD Qk))(C_one_stands:ċ P w K mg base 10 "one_stands" ["one","falls"] (spD Qh))(C_with_ties:ċ P w K mg base 1 "with_ties" ["web","added"] (spD Qf))(C_one_bound:ċ P w K mg base 10 "one_bound" ["one","falls","side","family"] (spD fOB)):FnOk P w K mg base CX0 11 f fd ["one","falls","added","side","family"] (spD yQ):=by
 refine F.ok iw ĭ (λcdv A outer s H vs Q E hr h=>?_)
 have nd:=iw.nd
 refine⟨_,İ (Ü (ś (Wr.wpt (Wr.fC (Wr.bJ (Wr.bx (Ų C_are_leads hr (À (Ç 0) (À (Ç 2) Â))))) (Wr.fC (Wr.bJ (Wr.bx (Ų C_is_side hr (À (Ç 3) Â)))) (Wr.dH (Wr.bJ (Wr.bx (Ų C_is_family hr (À (Ċ (Ç 0) à) (À (Ç 4) Â))))))))) (ú (Ē Ń)) ĝ)
  (ú (Ē (Wr.fG (Wr.Ec (Ţ B.len (À (Ç 2) Â)) (Ų C_one_bound hr (À (Ç 0) (À (Ç 1) (À (Ç 3) (À (Ç 4) Â)))))) (Wr.gq (Ų C_one_stands hr (À (Ų C_with_ties hr (À (Ç 0) (À (Ç 2) Â))) (À (Ç 1) Â)))))))),aX h ?_⟩
 rintro ds P ⟨n,us,fa,d,sd,e,rfl,n1,n8,f0,f1,lu,hu,fd,fe,oks,q⟩
 refine⟨[.im (aM ((n:Nat):Int) us),.im (.int fa),aQ d,aQ sd,aQ e],by show [aQ (aM _ us),_,_,_,_]=_;rw[bR];rfl,?_⟩
 have no:¬zp n us fa d sd e->P (.bool false):=λz=>q false ⟨λy=>(nomatch y),λy=>absurd y z⟩
 rcases cA d with ed|ed
 all_goals
  rw[ed]
  refine⟨n,us,d,rfl,n8,fd,λb hb=>?_⟩
  cases b with
  |false=>exact aL (B:=True) ⟨rfl,no λ⟨A,s,F,e1,_,_,z⟩=>absurd (hb.mpr ⟨A,e1,z.gd,z.rise⟩) Æ⟩
  |true =>
  obtain⟨A,rfl,gA,rA⟩:=hb.mp rfl
  refine bF (A:=True) ?_
  rcases cA sd with es|es
  all_goals
   rw[es]
   refine⟨sd,rfl,oks,?_⟩
   cases hs:vK sd with
   |false=>exact aL (B:=True) ⟨rfl,no λ⟨B,s,F,_,e2,_,z⟩=>by rw[tU.mpr ⟨s,e2,z.side⟩] at hs;cases hs⟩
   |true =>
   obtain⟨s,rfl,hs'⟩:=tU.mp hs
   refine bF (A:=True) ?_
   rcases cA e with ee|ee
   all_goals
    rw[ee]
    refine⟨.int ((n:Nat):Int),rfl,((n:Nat):Int),e,rfl,fe,by omega,?_⟩
    cases hf:wO ((n:Nat):Int) e with
    |false=>exact aL (B:=True) ⟨rfl,no λ⟨B,s,F,_,_,e3,z⟩=>by rw[e3,(pB (by omega)).mpr z.fam] at hf;cases hf⟩
    |true =>
    obtain⟨F,rfl,fk⟩:=MJ (by omega) hf
    have lF:=(fe _ rfl).1
    rw[Á] at lF
    have ff:=Jh (by omega) fk
    have go:∀b:Bool,(b=true↔DueO n us A fa s F)->P (.bool b):=λb hb=>q b ⟨λz=>⟨A,s,F,rfl,rfl,rfl,hb.mp z⟩,λ⟨B,t,G,e1,e2,e3,z⟩=>by
     cases e2
     rw[←mZ e1,←lJ e3] at z
     exact hb.mpr z⟩
    refine bF (A:=True) ⟨((n:Nat):Int),us,fa,s,F,rfl,by omega,by omega,f0,by omega,lF,fk.1,fk.2,?_⟩
    show if decide ((((A.map pD).length:Nat):Int)<=(F.map (WO us fa s)).sum)=true then _ else _
    rw[Á]
    by_cases c:((A.length:Nat):Int)<=(F.map (WO us fa s)).sum
    ·rw[decide_eq_true c]
     have sw:=Dj (us:=us) f0 f1 s F
     refine aL (B:=True) ⟨n,us,A,rfl,by omega,by omega,hu,gA.rg,λws hp=>⟨n,ws,fa,rfl,n1,n8,by rw[hp.length_eq,Å];omega,λt ht=>(Ð.mp (hp.mem_iff.mp ht)).elim (hu t) (gA.rg t),λb hb2=>⟨rfl,go b ?_⟩⟩⟩
     refine hb2.trans ⟨λz=>⟨hs',gA,rA,fk,c,λX hX=>?_⟩,λz X hX=>?_⟩
     ·have:=z X hX
      rw[pH hp] at this
      exact this
     ·rw[pH hp]
      exact z.st X hX
    ·rw[decide_eq_false c]
     exact bF (A:=True) ⟨rfl,go false ⟨λy=>(nomatch y),λz=>absurd z.few c⟩⟩
end
structure Hps(n:Nat)(H:List (List Int)):Prop where
 two:2<=H.length
 five:H.length<=5
 size:∀h∈H,1<=h.length/\h.length<=2
 flat:IsOrd n H.flatten
 n8:n<=8
def Gh(ds:List D)(P:D->Prop):Prop:=ds=[]/\∀(n:Nat) (H:List (List Int)),Hps n H->P (.list (H.map iD))
def Qg(ds:List D)(P:D->Prop):Prop:=∃l:List Int,ds=[.list (l.map Ã)]/\1<=l.length/\l.length<=100/\∀x∈l,P (.int x)
theorem wX{α:Type}(l:List α){m:Int}(h0:0<=m)(h1:m<=l.length):bM l (some m) none=l.drop m.toNat:=by
 unfold bM
 have e1:HT.sIx l.length 0 (some m)=m.toNat:=by
  have ek:m=((m.toNat:Nat):Int):=by omega
  rw[ek,HT.oO]
  omega
 have e2:HT.sIx l.length l.length none=l.length:=rfl
 rw[e1,e2]
 exact Ļ (by rw[ý];exact Ë _)
theorem Nj{l:List Int}{r:Int}(h0:0<=r)(h1:r<((l.length:Nat):Int)):∃x∈l,atI (l.map Ã) r=some (.int x):=by
 have hk:r.toNat<l.length:=by omega
 have ek:r=((r.toNat:Nat):Int):=by omega
 have z:atI (l.map Ã) ((r.toNat:Nat):Int)=some (.int l[r.toNat]):=gP (by rw[æ,É hk];rfl)
 rw[←ek] at z
 exact⟨_,œ hk,z⟩
section
variable {P:Program}{w:World}{K:Þ}{mg:Str->Option Value}{base:Heap}{f:Addr}{fd:FuncData}{CN P1 PT:Addr}
theorem pU:FnScope ["_law_pen_here","_law_some"] ["_law_pen_here","_law_some"] (aj (top 38)):=zC
theorem yp(F:Fun K "_law_one" "_law_one" (top 38) f fd)(B:ō mg)(C__law_draw:ċ P w K mg base 1 "_law_draw" ["_law_pen_here","_law_many"] (spP CP sE)):FnOk P w K mg base CX0 2 f fd ["_law_pen_here","_law_some"] (spP CP Qg):=by
 refine F.ok pU gH (λcdv A outer s H vs Q E hr h=>?_)
 have nd:=pU.nd
 refine⟨_,İ (ú (Ē (Ċ (Ç 1) (Wr.dcP C__law_draw hr (ű 0) (À (Ţ B.len (À (Ç 1) Â)) Â))))),enterQ h ?_⟩
 rintro ds P ⟨l,rfl,l1,l2,q⟩
 refine⟨[.sh (.list (l.map Ã))],rfl,?_⟩
 refine⟨rfl,((l.map Ã).length:Int),rfl,by rw[Á];omega,by rw[Á];omega,λr r0 r1=>?_⟩
 rw[Á] at r1
 obtain⟨x,hx,ex⟩:=Nj r0 r1
 exact⟨.int x,ex,rfl,q x hx⟩
theorem j4:FnScope ["_law_pen_here","_law_many","_law_room","_law_sizes","_law_k","_law_more","_law_order_here","_law_found","_law_size"] ["_law_pen_here"] (aj (top 37)):=zC
theorem uG(F:Fun K "_law_heaps" "_law_heaps" (top 37) f fd)(B:ō mg)(m_sum:mg "sum"=none)(C__law_draw:ċ P w K mg base 1 "_law_draw" ["_law_pen_here","_law_many"] (spP CP sE))(C__law_order:ċ P w K mg base 2 "_law_order" ["_law_pen_here","_law_n"] (spP CP Gf)):FnOk P w K mg base CX0 3 f fd ["_law_pen_here"] (spP CP Gh):=by
 refine F.ok j4 gH (λcdv A outer s H vs Q E hr h=>?_)
 have nd:=j4.nd
 refine⟨_,İ (Ü (Ę none (i:=1) nd rfl zQ (ß à (Wr.dcP C__law_draw hr (ű 0) (À à Â))))
  (Ü (Ę none (i:=2) nd rfl zQ (Wr.gn à (Ç 1)))
  (Ü (Ę (some 0) (i:=3) nd rfl zQ (Ú Â))
  (Ü (Wr.cX ġ rfl (Wr.cY B.range (À (Ç 1) Â)) (î (i:=4) nd rfl zQ) (Ü (Ę none (i:=5) nd rfl zQ (Wr.uo rfl B.min (À (Ç 2) (À (Wr.uq B.int boot_int (À (Wr.uw hr.units (Wr.dcP C__law_draw hr (ű 0) (À à Â)) à) Â)) Â))))
  (Ü (Ę none (i:=2) nd rfl zQ (Wr.gn (Ç 2) (Ç 5)))
  (Ü (Wr.dX (ű 3) (À (ß à (Ç 5)) Â)) (Ħ [4,5] ĝ)))))
  (Ħ [2,4,5] (Wr.jc 3 (Ü (Ę none (i:=6) nd rfl zQ (Wr.dcP C__law_order hr (ű 0) (À (Wr.jl rfl m_sum (À (Ç 3) Â)) Â)))
  (Ü (Ę (some 1) (i:=7) nd rfl zQ (Ú Â))
  (Ü (Wr.cX ġ rfl (ę (Ç 3)) (î (i:=8) nd rfl zQ) (Ü (Wr.dX (ű 7) (À (Wr.nY (Ç 6) Wr.dR (Wr.cO (Ç 8))) Â))
  (Ü (Ę none (i:=6) nd rfl zQ (Wr.nY (Ç 6) (Wr.cO (Ç 8)) Wr.dR)) (Ħ [8] ĝ))))
  (Ħ [6,8] (ú (Ē (Ç 7))))))))))))),enterQ h ?_⟩
 rintro ds P ⟨rfl,q⟩
 refine⟨[.any,.any,.any,.any,.any,.any,.any,.any],rfl,?_⟩
 refine⟨rfl,4,rfl,by decide,by decide,λr r0 r1=>?_⟩
 refine⟨by decide,⟨by omega,by omega⟩,rfl,λ(i:Nat) ρ=>∃(sz:List Int) (room:Int),ρ=[.pen CP,.im (.int (2+r)),.im (.int room),.dw 0 (.list (sz.map Ã)),.any,.any,.any,.any,.any]/\sz.length=i/\(∀x∈sz,x=1\/x=2)/\0<=room/\sz.sum+room=((i:Nat):Int)+(6 - r),⟨[],8 - (2+r),rfl,rfl,λx hx=>(nomatch hx),by omega,by show(0:Int)+_=_;omega⟩,?_,?_⟩
 ·rintro i d ρ hd ⟨sz,room,rfl,lz,az,h0,hs⟩
  obtain⟨hi,rfl⟩:=fU hd
  refine⟨rfl,3,rfl,by decide,by decide,λc c0 c1=>?_⟩
  obtain⟨m,hm,m01⟩:∃m:Int,(if (if decide (c=0)=true then (1:Int) else 0)<room then (if decide (c=0)=true then (1:Int) else 0) else room)=m/\(m=0\/m=1)/\m<=room:=by
   refine⟨_,rfl,?_⟩
   split <;> split <;> omega
  have l9:(cJ 0 (2+r).toNat).length<=5:=by rw[cI];omega
  refine⟨rfl,by rw[Á];omega,sz++[1+m],room - m,?_,by rw[Å,lz];rfl,λx hx=>?_,by omega,?_⟩
  ·show [Sl.pen CP,.im (.int (2+r)),.im (.int (room - (if (if decide (c=0)=true then (1:Int) else 0)<room then (if decide (c=0)=true then (1:Int) else 0) else room))),.dw 0 (.list (sz.map Ã++[.int (1+(if (if decide (c=0)=true then (1:Int) else 0)<room then (if decide (c=0)=true then (1:Int) else 0) else room))])),.any,.any,.any,.any,.any]=_
   rw[hm,å]
   rfl
  ·rcases Ð.mp hx with h|h
   ·exact az x h
   ·have:=È.mp h
    omega
  ·rw[List.sum_append,ö,List.sum_nil]
   omega
 ·rintro ρ ⟨sz,room,rfl,lz,az,h0,hs⟩
  rw[cI] at lz hs
  have lz':((sz.length:Nat):Int)=2+r:=by omega
  have sp:∀l:List Int,(∀x∈l,x=1\/x=2)->((l.length:Nat):Int)<=l.sum/\l.sum<=2 * ((l.length:Nat):Int):=λl=>by
   induction l with
   |nil=>exact λ_=>⟨by simp,by simp⟩
   |cons a l ih =>
    intro h
    have:=ih λx hx=>h x (Î _ hx)
    have:=h a Í
    rw[ö,Ý]
    omega
  have:=sp sz az
  refine⟨rfl,rfl,sz,rfl,by omega,λx hx=>by have:=az x hx;omega,sz.sum,rfl,by omega,by omega,λo ho=>?_⟩
  have e67:∀a b c d:Int,True:=λ_ _ _ _=>trivial
  show eH _ _ _ [.pen CP,.im (.int (2+r)),.any,.sn (.list (sz.map Ã)),.any,.any,.sn (.list (o.map Ã)),.any,.any]
  refine⟨by decide,rfl,λ(i:Nat) ρ=>∃(H:List (List Int)) (o':List Int),ρ=[.pen CP,.im (.int (2+r)),.any,.sn (.list (sz.map Ã)),.any,.any,.sn (.list (o'.map Ã)),.dw 1 (.list (H.map iD)),.any]/\o=H.flatten++o'/\H.length=i/\(∀h∈H,1<=h.length/\h.length<=2)/\((o'.length:Nat):Int)=(sz.drop i).sum,⟨[],o,rfl,rfl,rfl,λh hh=>(nomatch hh),by rw[List.drop_zero];exact ho.len⟩,?_,?_⟩
  ·rintro i d ρ hd ⟨H,o',rfl,eo,lH,sH,lo⟩
   obtain⟨x,hx,rfl⟩:=dM hd
   have x12:=az x (Ò hx)
   obtain⟨hi,hx'⟩:=Ó.mp hx
   have ed:sz.drop i=x::sz.drop (i+1):=by rw[←hx'];exact Ň hi
   have nn:=sp (sz.drop (i+1)) λy hy=>az y (List.mem_of_mem_drop hy)
   rw[ed,ö] at lo
   have lm:∀l:List Int,(l.map Ã).length=l.length:=λl=>Á ..
   have ec1:bM (o'.map Ã) none (some x)=(o'.take x.toNat).map Ã:=by
    rw[sJ _ (by omega) (by rw[lm];omega),List.map_take]
   have ec2:bM (o'.map Ã) (some x) none=(o'.drop x.toNat).map Ã:=by
    rw[wX _ (by omega) (by rw[lm];omega),Ŷ]
   refine .inl ⟨by rw[ec1];exact dD _,rfl,by rw[Á];omega,.inl ⟨by rw[ec2];exact dD _,H++[o'.take x.toNat],o'.drop x.toNat,?_,?_,by rw[Å,lH];rfl,λh hh=>?_,?_⟩⟩
   ·show [Sl.pen CP,.im (.int (2+r)),.any,.sn (.list (sz.map Ã)),.any,.any,.sn (.list (bM (o'.map Ã) (some x) none)),.dw 1 (.list (H.map iD++[.list (bM (o'.map Ã) none (some x))])),.any]=_
    rw[ec1,ec2,å]
    rfl
   ·rw[List.flatten_append,List.flatten_singleton,þ,Č]
    exact eo
   ·rcases Ð.mp hh with z|z
    ·exact sH h z
    ·rw[È.mp z,ğ]
     omega
   ·rw[ý]
    omega
  ·rintro ρ ⟨H,o',rfl,eo,lH,sH,lo⟩
   rw[Á,List.drop_length] at lo
   rw[Á] at lH
   have lo:((o'.length:Nat):Int)=0:=lo
   obtain rfl:o'=[]:=List.eq_nil_of_length_eq_zero (by omega)
   rw[ć] at eo
   subst eo
   exact⟨rfl,q sz.sum.toNat H ⟨by omega,by omega,sH,by rw[show((sz.sum.toNat:Nat):Int)=sz.sum by omega];exact ho,by omega⟩⟩
end
def pr1(k:Nat)(h:List Int):List Tie:=match h with
 |[a,b]=>(Ì k [(a,b),(b,a)]).flatten
 |_=>[]
def prs(k:Nat)(H:List (List Int)):List Tie:=H.flatMap (pr1 k)
def pvN(m j:Nat):Nat:=if j=0 then m - 1 else j - 1
def Edg(H:List (List Int))(j:Nat)(t:Tie):Prop:=j<H.length/\∃a b,H[pvN H.length j]?=some a/\H[j]?=some b/\t.1∈a/\t.2∈b
def Rng(k:Nat)(H:List (List Int))(us gs:List Tie)(L:Nat)(c:Nat->Nat):Prop :=
 (∃R:List (Nat×Tie),(us++gs).Perm (prs k H++R.map (·.2))/\R.length=L/\(∀x∈R,Edg H x.1 x.2)/\∀j,R.countP (λx=>decide (x.1=j))=c j)/\∀t∈gs,∃j,Edg H j t
theorem Rng.one{k:Nat}{H:List (List Int)}{us gs us' gs':List Tie}{L j:Nat}{c:Nat->Nat}{t:Tie}(h:Rng k H us gs L c)(e:Edg H j t)(hp:(us'++gs').Perm (us++gs++[t]))(hg:∀u∈gs',u∈gs\/u=t):Rng k H us' gs' (L+1) (λi=>c i+if j=i then 1 else 0):=by
 obtain⟨⟨R,p,l,ed,ct⟩,g⟩:=h
 refine⟨⟨R++[(j,t)],?_,?_,?_,?_⟩,?_⟩
 ·rw[å,←þ]
  exact hp.trans (p.append_right _)
 ·rw[Å,l];rfl
 ·intro x hx
  rcases Ð.mp hx with z|z
  ·exact ed x z
  ·rw[È.mp z];exact e
 ·intro i
  show _=c i+if j=i then 1 else 0
  rw[Ł,ct]
  by_cases z:j=i
  ·rw[if_pos z,List.countP_cons_of_pos (by simpa using z)];rfl
  ·rw[if_neg z,List.countP_cons_of_neg (by simpa using z)];rfl
 ·intro u hu
  rcases hg u hu with z|z
  ·exact g u z
  ·rw[z];exact⟨j,e⟩
theorem jo:∀{H:List (List Int)}{i j:Nat}{a b:List Int}{x:Int},H.flatten.Nodup->H[i]?=some a->H[j]?=some b->x∈a->x∈b->i=j
 |[],i,j,a,b,x,_,h,_,_,_=>by simp at h
 |h::H,0,0,a,b,x,nd,hi,hj,xa,xb=>rfl
 |h::H,0,j+1,a,b,x,nd,hi,hj,xa,xb=>by
  rw[ï] at nd
  obtain⟨n1,n2,n3⟩:=Ť.mp nd
  have hi:h=a:=by simpa using hi
  have hj:H[j]?=some b:=by simpa using hj
  subst hi
  exact absurd rfl (n3 x xa x (Ė.mpr ⟨b,Ò hj,xb⟩))
 |h::H,i+1,0,a,b,x,nd,hi,hj,xa,xb=>by
  rw[ï] at nd
  obtain⟨n1,n2,n3⟩:=Ť.mp nd
  have hj:h=b:=by simpa using hj
  have hi:H[i]?=some a:=by simpa using hi
  subst hj
  exact absurd rfl (n3 x xb x (Ė.mpr ⟨a,Ò hi,xa⟩))
 |h::H,i+1,j+1,a,b,x,nd,hi,hj,xa,xb=>by
  rw[ï] at nd
  obtain⟨n1,n2,n3⟩:=Ť.mp nd
  have hi:H[i]?=some a:=by simpa using hi
  have hj:H[j]?=some b:=by simpa using hj
  have:=jo n2 hi hj xa xb
  omega
theorem nH{q:List Int->Bool}:∀{H:List (List Int)}{j:Nat}{h:List Int},H[j]?=some h->q h=true->(∀i h',H[i]?=some h'->q h'=true->i=j)->H.countP q=1
 |[],j,h,e,_,_=>by simp at e
 |g::H,0,h,e,hq,u=>by
  have e:g=h:=by simpa using e
  subst e
  rw[List.countP_cons_of_pos hq]
  have z0:H.countP q=0:=List.countP_eq_zero.mpr λh' hh c=>by
   obtain⟨i,hi,e⟩:=Ű hh
   have:=u (i+1) h' (by rw[ŕ,É hi,e]) c
   omega
  omega
 |g::H,j+1,h,e,hq,u=>by
  have e:H[j]?=some h:=by simpa using e
  have hg:¬q g=true:=λc=>by have:=u 0 g (by simp) c;omega
  rw[List.countP_cons_of_neg hg]
  exact nH e hq λi h' e' c=>by have:=u (i+1) h' (by simpa using e') c;omega
theorem sum_in(f:List Int->Tie->Bool)(H:List (List Int)):∀gs:List Tie,(∀t∈gs,H.countP (λh=>f h t)=1)->(H.map λh=>(gs.filter (f h)).length).sum=gs.length
 |[],_=>by
  have:∀H:List (List Int),(H.map λh=>(([]:List Tie).filter (f h)).length).sum=0:=λH=>by
   induction H with
   |nil=>rfl
   |cons h H ih=>rw[ê,ö,ih];rfl
  exact this H
 |t::gs,h1=>by
  have ih:=sum_in f H gs λu hu=>h1 u (Î _ hu)
  have:∀H:List (List Int),(H.map λh=>((t::gs).filter (f h)).length).sum=(H.map λh=>(gs.filter (f h)).length).sum+H.countP λh=>f h t:=λH=>by
   induction H with
   |nil=>rfl
   |cons h H ih2 =>
    rw[ê,ê,ö,ö,ih2,List.countP_cons]
    cases c:f h t with
    |true=>rw[ķ c,Ý,if_pos rfl];omega
    |false=>rw[ĸ (by rw[c];exact Æ),if_neg Æ];omega
  rw[this,ih,h1 t Í]
  rfl
theorem tZ{m j:Nat}(h2:2<=m)(h:j<m):pvN m j≠j/\pvN m j<m:=by
 unfold pvN
 split <;> omega
section
variable {n k:Nat}{H:List (List Int)}
theorem Edg.iff(hp:Hps n H){j i:Nat}{t:Tie}{h:List Int}(E:Edg H j t)(hi:H[i]?=some h):(t.2∈h↔i=j)/\(t.1∈h↔i=pvN H.length j):=by
 obtain⟨hj,a,b,ea,eb,m1,m2⟩:=E
 refine⟨⟨λz=>jo hp.flat.nd hi eb z m2,λz=>?_⟩,λz=>jo hp.flat.nd hi ea z m1,λz=>?_⟩
 ·subst z;rw[hi] at eb;cases eb;exact m2
 ·subst z;rw[hi] at ea;cases ea;exact m1
theorem Edg.inT(hp:Hps n H){j i:Nat}{t:Tie}{h:List Int}(E:Edg H j t)(hi:H[i]?=some h):bV h t=decide (j=i):=by
 have ⟨e2,e1⟩:=E.iff hp hi
 have nj:=(tZ hp.two E.1).1
 unfold bV
 by_cases c:j=i
 ·have a2:t.2∈h:=e2.mpr c.symm
  have a1:¬t.1∈h:=λz=>nj (by rw[←e1.mp z,c])
  rw[decide_eq_true a2,decide_eq_false a1,decide_eq_true c];rfl
 ·have a2:¬t.2∈h:=λz=>c (e2.mp z).symm
  rw[decide_eq_false a2,decide_eq_false c,Bool.and_false]
theorem Edg.HB(hp:Hps n H){j i:Nat}{t:Tie}{h:List Int}(E:Edg H j t)(hi:H[i]?=some h):cF h t=decide (pvN H.length j=i):=by
 have ⟨e2,e1⟩:=E.iff hp hi
 have nj:=(tZ hp.two E.1).1
 unfold cF
 by_cases c:pvN H.length j=i
 ·have a1:t.1∈h:=e1.mpr c.symm
  have a2:¬t.2∈h:=λz=>nj (by rw[c];exact e2.mp z)
  rw[decide_eq_true a1,decide_eq_false a2,decide_eq_true c];rfl
 ·have a1:¬t.1∈h:=λz=>c (e1.mp z).symm
  rw[decide_eq_false a1,decide_eq_false c,Bool.false_and]
theorem Edg.rg(hp:Hps n H){j:Nat}{t:Tie}(E:Edg H j t):(0<=t.1/\t.1<(n:Int))/\(0<=t.2/\t.2<(n:Int))/\t.1≠t.2:=by
 have e:=E
 obtain⟨hj,a,b,ea,eb,m1,m2⟩:=E
 refine⟨hp.flat.rng _ (Ė.mpr ⟨a,Ò ea,m1⟩),hp.flat.rng _ (Ė.mpr ⟨b,Ò eb,m2⟩),λz=>(tZ hp.two hj).1 ?_⟩
 rw[z] at m1
 exact jo hp.flat.nd ea eb m1 m2
theorem Ie{h:List Int}{t:Tie}(ht:t∈pr1 k h):t.1∈h/\t.2∈h:=by
 unfold pr1 at ht
 split at ht
 ·rename_i a b
  obtain⟨l,hl,htl⟩:=Ė.mp ht
  rw[(List.mem_replicate.mp hl).2] at htl
  rcases á.mp htl with rfl|z
  ·exact⟨by simp,by simp⟩
  ·rw[È.mp z];exact⟨by simp,by simp⟩
 ·cases ht
theorem Ae{t:Tie}(ht:t∈prs k H):∃(i:Nat) (h:List Int),H[i]?=some h/\t.1∈h/\t.2∈h:=by
 obtain⟨h,hh,ht⟩:=List.mem_flatMap.mp ht
 obtain⟨i,hi,e⟩:=Ű hh
 exact⟨i,h,by rw[É hi,e],Ie ht⟩
theorem Dy(hp:Hps n H){t:Tie}{i:Nat}{h:List Int}(ht:t∈prs k H)(hi:H[i]?=some h):bV h t=false/\cF h t=false:=by
 obtain⟨i',h',e,m1,m2⟩:=Ae ht
 have e12:(t.1∈h↔t.2∈h):=by
  constructor
  ·intro z
   have:=jo hp.flat.nd hi e z m1
   subst this
   rw[hi] at e;cases e;exact m2
  ·intro z
   have:=jo hp.flat.nd hi e z m2
   subst this
   rw[hi] at e;cases e;exact m1
 unfold bV cF
 rw[decide_eq_decide.mpr e12]
 cases decide (t.2∈h) <;> exact⟨rfl,rfl⟩
theorem HD{m:Nat}{l:List Int}(h:IsOrd ((m:Nat):Int) l){x:Int}(h0:0<=x)(h1:x<(m:Int)):x∈l:=by
 apply Ğ
 intro no
 have hl:=h.len
 have nd:(x::l).Nodup:=ŷ.mpr ⟨no,h.nd⟩
 have:=nd.length_le_of_subset (l₂:=jw m) λy hy=>by
  rcases á.mp hy with rfl|z
  ·exact iT.mpr ⟨h0,h1⟩
  ·exact iT.mpr (h.rng y z)
 have e:(jw m).length=m:=by
  unfold jw
  rw[Á,ť]
 rw[Ý] at this
 omega
theorem Gs{α:Type}{p q:α->Bool}{l:List α}(h:∀x∈l,p x=q x):l.countP p=l.countP q:=List.countP_congr λx hx=>by rw[h x hx]
theorem Rng.ins(hp:Hps n H){us gs:List Tie}{L:Nat}(h:Rng k H us gs L λj=>if j<H.length then k else 0){i:Nat}{l:List Int}(hi:H[i]?=some l):inN us l+inN gs l=k/\iI us l+iI gs l=k:=by
 obtain⟨⟨R,p,_,ed,ct⟩,_⟩:=h
 have ct:∀j,R.countP (λx=>decide (x.1=j))=if j<H.length then k else 0:=ct
 have hm:i<H.length:=(Ó.mp hi).1
 have go:∀f:Tie->Bool,(∀t∈prs k H,f t=false)->(us.filter f).length+(gs.filter f).length=R.countP λx=>f x.2:=λf hf=>by
  rw[←List.countP_eq_length_filter,←List.countP_eq_length_filter,←Ł,p.countP_eq,Ł,List.countP_eq_zero.mpr λt ht=>by rw[hf t ht];exact Æ,List.countP_map,Nat.zero_add]
  rfl
 constructor
 ·show(us.filter (bV l)).length+(gs.filter (bV l)).length=k
  rw[go _ λt ht=>(Dy hp ht hi).1,Gs (q:=λx=>decide (x.1=i)) λx hx=>(ed x hx).inT hp hi,ct,if_pos hm]
 ·show(us.filter (cF l)).length+(gs.filter (cF l)).length=k
  have h2:=hp.two
  obtain⟨i',hi',e'⟩:∃i',i'<H.length/\∀j,j<H.length->(pvN H.length j=i↔j=i'):=by
   by_cases c:i+1=H.length
   ·refine⟨0,by omega,λj hj=>?_⟩
    unfold pvN
    split <;> omega
   ·refine⟨i+1,by omega,λj hj=>?_⟩
    unfold pvN
    split <;> omega
  rw[go _ λt ht=>(Dy hp ht hi).2,Gs (q:=λx=>decide (x.1=i')) λx hx=>by
   rw[(ed x hx).HB hp hi]
   exact decide_eq_decide.mpr (e' _ (ed x hx).1),ct,if_pos hi']
theorem Rng.all(hp:Hps n H){us gs:List Tie}{L:Nat}{c:Nat->Nat}(h:Rng k H us gs L c):(H.map (inN gs)).sum=gs.length/\(H.map (iI gs)).sum=gs.length:=by
 obtain⟨_,g⟩:=h
 constructor
 ·refine sum_in bV H gs λt ht=>?_
  obtain⟨j,E⟩:=g t ht
  obtain⟨hj,a,b,ea,eb,_⟩:=id E
  exact nH eb (by rw[E.inT hp eb];exact decide_eq_true rfl) λi h' e' c=>by rw[E.inT hp e'] at c;exact(of_decide_eq_true c).symm
 ·refine sum_in cF H gs λt ht=>?_
  obtain⟨j,E⟩:=g t ht
  obtain⟨hj,a,b,ea,eb,_⟩:=id E
  exact nH ea (by rw[E.HB hp ea];exact decide_eq_true rfl) λi h' e' c=>by rw[E.HB hp e'] at c;exact(of_decide_eq_true c).symm
theorem cyc{m:Nat}{Y:Nat->Bool}{j1 j2:Nat}(h1:j1<m)(y1:Y j1=true)(h2:j2<m)(y2:Y j2=false):∃j,j<m/\Y j=true/\Y (pvN m j)=false:=by
 apply Ğ
 intro no
 have st:∀j,j<m->Y j=true->Y (pvN m j)=true:=λj hj hy=>by
  cases c:Y (pvN m j) with
  |true=>rfl
  |false=>exact absurd ⟨j,hj,hy,c⟩ no
 have down:∀d j,j<m->Y j=true->d<=j->Y (j - d)=true:=λd=>by
  induction d with
  |zero=>exact λj _ hy _=>hy
  |succ d ih =>
   intro j hj hy hd
   have a:=ih j hj hy (by omega)
   have b:=st (j - d) (by omega) a
   have e:pvN m (j - d)=j - (d+1):=by
    unfold pvN
    rw[if_neg (by omega)]
    omega
   rw[e] at b
   exact b
 have y0:=down j1 j1 h1 y1 (Ë _)
 rw[Nat.sub_self] at y0
 have yl:=st 0 (by omega) y0
 have e:pvN m 0=m - 1:=rfl
 rw[e] at yl
 have:=down (m - 1 - j2) (m - 1) (by omega) yl (by omega)
 rw[show m - 1 - (m - 1 - j2)=j2 by omega,y2] at this
 cases this
theorem zX{a b:Int}{X:Int->Bool}(h:X a≠X b):∀k,(Ì k [(a,b),(b,a)]).flatten.countP (λt:Tie=>!X t.1&&X t.2)=k
 |0=>rfl
 |k+1=>by
  rw[Ī,ï,Ł,zX h k]
  have:[(a,b),(b,a)].countP (λt:Tie=>!X t.1&&X t.2)=1:=by
   cases ca:X a <;> cases cb:X b
   ·rw[ca,cb] at h;exact absurd rfl h
   ·simp[List.countP_cons,ca,cb]
   ·simp[List.countP_cons,ca,cb]
   ·rw[ca,cb] at h;exact absurd rfl h
  omega
theorem Rng.st(hp:Hps n H){us gs:List Tie}{L:Nat}(h:Rng k H us gs L λj=>if j<H.length then k else 0){X:Int->Bool}(hX:Cut.Prp n X):k<=Cut.di (us++gs) X:=by
 obtain⟨⟨R,p,_,ed,ct⟩,_⟩:=h
 have ct:∀j,R.countP (λx=>decide (x.1=j))=if j<H.length then k else 0:=ct
 rw[pH p]
 unfold Cut.di
 rw[Ł]
 by_cases hA:∃a b,[a,b]∈H/\X a≠X b
 ·obtain⟨a,b,hm,ne⟩:=hA
  obtain⟨s,t,e⟩:=List.append_of_mem hm
  have:k<=(prs k H).countP λt:Tie=>!X t.1&&X t.2:=by
   unfold prs
   rw[e,List.flatMap_append,List.flatMap_cons,Ł,Ł]
   have:(pr1 k [a,b]).countP (λt:Tie=>!X t.1&&X t.2)=k:=zX ne k
   omega
  exact ĉ this (Nat.le_add_right _ _)
 ·have un:∀l∈H,∀x∈l,∀y∈l,X x=X y:=λl hl x hx y hy=>by
   have sz:=hp.size l hl
   match l,hl,hx,hy,sz with
   |[a],_,hx,hy,_=>rw[È.mp hx,È.mp hy]
   |[a,b],hl,hx,hy,_ =>
    have eab:X a=X b:=Ğ λne=>hA ⟨a,b,hl,ne⟩
    simp only[á,ĕ,or_false] at hx hy
    rcases hx with rfl|rfl <;> rcases hy with rfl|rfl
    ·rfl
    ·exact eab
    ·exact eab.symm
    ·rfl
  have cov:∀x:Int,0<=x/\x<(n:Int)->∃i l,H[i]?=some l/\x∈l:=λx hx=>by
   have:x∈H.flatten:=HD hp.flat hx.1 hx.2
   obtain⟨l,hl,hx⟩:=Ė.mp this
   obtain⟨i,hi,e⟩:=Ű hl
   exact⟨i,l,by rw[É hi,e],hx⟩
  obtain⟨⟨x1,r1,t1⟩,x2,r2,t2⟩:=hX
  obtain⟨i1,l1,e1,m1⟩:=cov x1 r1
  obtain⟨i2,l2,e2,m2⟩:=cov x2 r2
  let Y:Nat->Bool:=λj=>((H[j]?).getD []).any X
  have yv:∀j l x,H[j]?=some l->x∈l->Y j=X x:=λj l x e hx=>by
   show((H[j]?).getD []).any X=X x
   rw[e]
   show l.any X=X x
   cases c:X x with
   |true=>exact List.any_eq_true.mpr ⟨x,hx,c⟩
   |false=>exact List.any_eq_false.mpr λy hy=>by rw[un l (Ò e) y hy x hx,c];exact Æ
  obtain⟨j,hj,yj,ypj⟩:=cyc (Y:=Y) (Ó.mp e1).1 (by rw[yv i1 l1 x1 e1 m1,t1]) (Ó.mp e2).1 (by rw[yv i2 l2 x2 e2 m2,t2])
  have c1:R.countP (λx=>decide (x.1=j))<=R.countP λx=>!X x.2.1&&X x.2.2:=List.countP_mono_left λx hx hd=>by
   have hd:=of_decide_eq_true hd
   obtain⟨_,a,b,ea,eb,ma,mb⟩:=ed x hx
   rw[hd] at ea eb
   rw[←yv _ a _ ea ma,←yv _ b _ eb mb,yj,ypj]
   rfl
  rw[ct,if_pos hj] at c1
  rw[List.countP_map]
  exact ĉ c1 (Nat.le_add_left _ _)
end
structure Mdl(n k:Nat)(us gs:List Tie)(H:List (List Int)):Prop where
 n2:2<=n
 n8:n<=8
 hu:RgT n us
 gd:GdN n gs
 rise:Cy gs
 len:us.length+gs.length<=40
 lH:H.length<=5
 fam:Cz ((n:Nat):Int) H
 ins:∀h∈H,inN us h+inN gs h=k/\iI us h+iI gs h=k
 all:(H.map (inN gs)).sum=gs.length/\(H.map (iI gs)).sum=gs.length
 st:∀X,Cut.Prp n X->k<=Cut.di (us++gs) X
 ne:gs≠[]
 ent:∀t∈gs,∃h∈H,bV h t=true
 lev:∀t∈gs,∃h∈H,cF h t=true
 two:2<=H.length
theorem Aa(k:Nat)(h:List Int):(pr1 k h).length<=2 * k:=by
 unfold pr1
 split
 ·rw[List.length_flatten,List.map_replicate,List.sum_replicate_nat]
  show k * 2<=_
  omega
 ·exact Ă _
theorem ud(k:Nat):∀H:List (List Int),(prs k H).length<=2 * k * H.length
 |[]=>Ă _
 |h::H=>by
  have:=ud k H
  have:=Aa k h
  unfold prs at *
  rw[List.flatMap_cons,Å,Ý,Nat.mul_add]
  omega
theorem Rng.len{k:Nat}{H:List (List Int)}{us gs:List Tie}{L:Nat}{c:Nat->Nat}(h:Rng k H us gs L c):us.length+gs.length<=2 * k * H.length+L:=by
 obtain⟨⟨R,p,l,_⟩,_⟩:=h
 have:=p.length_eq
 have:=ud k H
 rw[Å,Å,Á] at *
 omega
def fL(h:List Int):List Int:=match h with
 |[a,b]=>if a<=b then [a,b] else [b,a]
 |l=>l
theorem aY(h:List Int):(fL h).Perm h:=by
 unfold fL
 split
 ·split
  ·exact .refl _
  ·exact .swap _ _ _
 ·exact .refl _
theorem zH{h:List Int}(hs:1<=h.length/\h.length<=2):(fL h).Pairwise (·<=·):=by
 match h,hs with
 |[a],_=>exact List.pairwise_singleton _ _
 |[a,b],_ =>
  show(if a<=b then [a,b] else [b,a]).Pairwise (·<=·)
  split
  ·simpa using by assumption
  ·simp;omega
theorem jG:∀{l1 l2:List Int},l1.Perm l2->l1.Pairwise (·<=·)->l2.Pairwise (·<=·)->l1=l2
 |[],l2,p,_,_=>p.nil_eq
 |a::l1,[],p,_,_=>absurd p.length_eq (by simp)
 |a::l1,b::l2,p,s1,s2=>by
  have s1:=ŀ.mp s1
  have s2:=ŀ.mp s2
  have hb:b∈a::l1:=p.mem_iff.mpr Í
  have ha:a∈b::l2:=p.mem_iff.mp Í
  have e1:a<=b:=by
   rcases á.mp hb with z|z
   ·rw[z];exact ÿ _
   ·exact s1.1 b z
  have e2:b<=a:=by
   rcases á.mp ha with z|z
   ·rw[z];exact ÿ _
   ·exact s2.1 a z
  have e:a=b:=by omega
  subst e
  rw[jG ((List.perm_cons a).mp p) s1.2 s2.2]
theorem G6{h out:List Int}(hs:1<=h.length/\h.length<=2)(po:out.Perm h)(so:out.Pairwise (·<=·)):out=fL h:=jG (po.trans (aY h).symm) so (zH hs)
theorem sy:∀H:List (List Int),(H.map fL).flatten.Perm H.flatten
 |[]=>.refl _
 |h::H=>by
  rw[ê,ï,ï]
  exact(aY h).append (sy H)
theorem lO:∀{H:List (List Int)},(∀h∈H,1<=h.length)->H.length<=H.flatten.length
 |[],_=>Ë _
 |h::H,a=>by
  have:=lO λg hg=>a g (Î _ hg)
  have:=a h Í
  rw[ï,Å,Ý]
  omega
theorem fu{us us':List Tie}{l l':List Int}(p:us'.Perm us)(e:∀x,x∈l'↔x∈l):inN us' l'=inN us l/\iI us' l'=iI us l:=by
 have e1:bV l'=bV l:=funext λt=>by
  unfold bV
  rw[decide_eq_decide.mpr (e t.1),decide_eq_decide.mpr (e t.2)]
 have e2:cF l'=cF l:=funext λt=>by
  unfold cF
  rw[decide_eq_decide.mpr (e t.1),decide_eq_decide.mpr (e t.2)]
 unfold inN iI
 rw[e1,e2]
 exact⟨(p.filter _).length_eq,(p.filter _).length_eq⟩
theorem Rng.rg{n k:Nat}{H:List (List Int)}{us gs:List Tie}{L:Nat}{c:Nat->Nat}(h:Rng k H us gs L c)(hp:Hps n H):RgT n (us++gs):=λt ht=>by
 obtain⟨⟨R,p,_,ed,_⟩,_⟩:=h
 rcases Ð.mp (p.mem_iff.mp ht) with z|z
 ·obtain⟨i,l,e,m1,m2⟩:=Ae z
  have ml:=Ò e
  exact⟨hp.flat.rng _ (Ė.mpr ⟨l,ml,m1⟩),hp.flat.rng _ (Ė.mpr ⟨l,ml,m2⟩)⟩
 ·obtain⟨x,hx,rfl⟩:=ë.mp z
  have:=(ed x hx).rg hp
  exact⟨this.1,this.2.1⟩
theorem Lx{n k:Nat}{H:List (List Int)}{us gs us' gs':List Tie}{L:Nat}(hp:Hps n H)(rg:Rng k H us gs L λj=>if j<H.length then k else 0)(pu:us'.Perm us)(pg:gs'.Perm gs)(sg:Cy gs')(hl:us.length+gs.length<=40)(hne:gs≠[]):Mdl n k us' gs' (H.map fL):=by
 have fl:H.flatten.length=n:=by have:=hp.flat.len;omega
 have one:∀h∈H,1<=h.length:=λh hh=>(hp.size h hh).1
 have ll:=lO one
 have two:=hp.two
 have n8:=hp.n8
 refine⟨by omega,n8,λt ht=>rg.rg hp t (ô _ (pu.mem_iff.mp ht)),λt ht=>?_,sg,by rw[pu.length_eq,pg.length_eq];exact hl,by rw[Á];exact hp.five,⟨λl hl=>?_,(sy H).nodup_iff.mpr hp.flat.nd⟩,λl hl=>?_,?_,λX hX=>?_,λz=>hne (by rw[z] at pg;exact pg.symm.eq_nil),λt ht=>?_,λt ht=>?_,by rw[Á];exact two⟩
 ·obtain⟨j,E⟩:=rg.2 t (pg.mem_iff.mp ht)
  exact E.rg hp
 ·obtain⟨h,hh,rfl⟩:=ë.mp hl
  have hs:=hp.size h hh
  have lp:=(aY h).length_eq
  have few:h.length<n:=by
   obtain⟨s,t,e⟩:=List.append_of_mem hh
   have a1:=lO (H:=s) λg hg=>one g (by rw[e];exact ô _ hg)
   have a2:=lO (H:=t) λg hg=>one g (by rw[e];exact Õ _ (Î _ hg))
   have l1:H.length=s.length+(t.length+1):=by rw[e,Å,Ý]
   have l2:H.flatten.length=s.flatten.length+(h.length+t.flatten.length):=by rw[e,List.flatten_append,ï,Å,Å]
   omega
  have nd:h.Nodup:=by
   obtain⟨s,t,e⟩:=List.append_of_mem hh
   have:=hp.flat.nd
   rw[e,List.flatten_append,ï] at this
   exact(Ť.mp (Ť.mp this).2.1).1
  refine⟨by omega,by omega,λx hx=>hp.flat.rng x (Ė.mpr ⟨h,hh,(aY h).mem_iff.mp hx⟩),?_,by omega⟩
  have nd2:(fL h).Nodup:=(aY h).nodup_iff.mpr nd
  exact(List.pairwise_and_iff.mpr ⟨zH hs,nd2⟩).imp λ⟨a,b⟩=>by omega
 ·obtain⟨h,hh,rfl⟩:=ë.mp hl
  obtain⟨i,hi,e⟩:=Ű hh
  have:=rg.ins hp (i:=i) (l:=h) (by rw[É hi,e])
  have mi:∀x,x∈fL h↔x∈h:=λx=>(aY h).mem_iff
  rw[(fu pu mi).1,(fu pu mi).2,(fu pg mi).1,(fu pg mi).2]
  exact this
 ·have:=rg.all hp
  have e1:(H.map fL).map (inN gs')=H.map (inN gs):=by
   rw[ü]
   exact Œ λh _=>(fu pg λx=>(aY h).mem_iff).1
  have e2:(H.map fL).map (iI gs')=H.map (iI gs):=by
   rw[ü]
   exact Œ λh _=>(fu pg λx=>(aY h).mem_iff).2
  rw[e1,e2,pg.length_eq]
  exact this
 ·rw[pH (pu.append pg)]
  exact rg.st hp hX
 ·obtain⟨j,E⟩:=rg.2 t (pg.mem_iff.mp ht)
  obtain⟨hj,a,b,ea,eb,_⟩:=id E
  refine⟨fL b,ë.mpr ⟨b,Ò eb,rfl⟩,?_⟩
  have e:bV (fL b)=bV b:=funext λt=>by
   unfold bV
   rw[decide_eq_decide.mpr ((aY b).mem_iff (a:=t.1)),decide_eq_decide.mpr ((aY b).mem_iff (a:=t.2))]
  rw[e,E.inT hp eb]
  exact decide_eq_true rfl
 ·obtain⟨j,E⟩:=rg.2 t (pg.mem_iff.mp ht)
  obtain⟨hj,a,b,ea,eb,_⟩:=id E
  refine⟨fL a,ë.mpr ⟨a,Ò ea,rfl⟩,?_⟩
  have e:cF (fL a)=cF a:=funext λt=>by
   unfold cF
   rw[decide_eq_decide.mpr ((aY a).mem_iff (a:=t.1)),decide_eq_decide.mpr ((aY a).mem_iff (a:=t.2))]
  rw[e,E.HB hp ea]
  exact decide_eq_true rfl
def Gg(ds:List D)(P:D->Prop):Prop:=∃k:Nat,ds=[.int ((k:Int) - 1)]/\1<=k/\k<=2/\∀(n:Nat) (us gs:List Tie) (H:List (List Int)),Mdl n k us gs H->P (.tuple [aM ((n:Nat):Int) us,.list (gs.map pD),.list (H.map iD)])
section
variable {P:Program}{w:World}{K:Þ}{mg:Str->Option Value}{base:Heap}{f:Addr}{fd:FuncData}{CN P1 PT:Addr}
theorem jZ:FnScope ["_law_pen_here","_law_falls","_law_heaps_here","_law_ties","_law_gone","_law_heap","_law_turn","_law_k","_law_tie","_law_n"] ["_law_pen_here","_law_falls"] (aj (top 39)):=zC
theorem iQ:(["_law_heap","_law_pen_here","_law_falls","_law_heaps_here","_law_ties","_law_gone","","_law_turn","_law_k","_law_tie","_law_n"]:List Str).Nodup:=by decide +kernel
theorem uF(F:Fun K "_law_model" "_law_model" (top 39) f fd)(B:ō mg)(m_sum:mg "sum"=none)(C__law_heaps:ċ P w K mg base 3 "_law_heaps" ["_law_pen_here"] (spP CP Gh))(C__law_one:ċ P w K mg base 2 "_law_one" ["_law_pen_here","_law_some"] (spP CP Qg))(C__law_draw:ċ P w K mg base 1 "_law_draw" ["_law_pen_here","_law_many"] (spP CP sE)):FnOk P w K mg base CX0 4 f fd ["_law_pen_here","_law_falls"] (spP CP Gg):=by
 refine F.ok jZ gH (λcdv A outer s H vs Q E hr h=>?_)
 have nd:=jZ.nd
 refine⟨_,İ (Ü (Ę none (i:=2) nd rfl zQ (Wr.dcP C__law_heaps hr (ű 0) Â))
  (Ü (Ę (some 0) (i:=3) nd rfl zQ (Ú Â))
  (Ü (Ę (some 1) (i:=4) nd rfl zQ (Ú Â))
  (Ü (Wr.cX ġ rfl (ę (Ç 2)) (î (i:=5) nd rfl zQ) (Ü (ś (Wr.gb hr.units (Ţ B.len (À (Ç 5) Â)) à) (ú (Wr.jr (ű 3) (À (Wr.kO (Ú (À (õ (À (Ċ (Ç 5) à) (À (Ċ (Ç 5) à) Â))) (À (õ (À (Ċ (Ç 5) à) (À (Ċ (Ç 5) à) Â))) Â))) (ß (Ç 1) à)) Â))) ĝ) (Ħ [5] ĝ)))
  (Ħ [5] (Ü (Wr.cX ġ rfl (Wr.cY B.range (À (ß (Ç 1) à) Â)) (î (i:=6) nd rfl zQ) (Ü (Wr.cX ġ rfl (Wr.cY B.range (À (Ţ B.len (À (Ç 2) Â)) Â)) (î (i:=7) nd rfl zQ) (Ü (Ę none (i:=8) nd rfl zQ (õ (À (Wr.dcP C__law_one hr (ű 0) (À (Ċ (Ç 2) (Wr.gn (Ç 7) à)) Â)) (À (Wr.dcP C__law_one hr (ű 0) (À (Ċ (Ç 2) (Ç 7)) Â)) Â))))
  (Ü (ś (Wr.wpt (Wr.fC (Wr.gb hr.units (Wr.dcP C__law_draw hr (ű 0) (À à Â)) à) (Wr.dH (Wr.wpt (Wr.oZ (Wr.gb hr.units (ß (Ç 6) (Ç 7)) (Wr.gn (ß (Ç 1) (Ţ B.len (À (Ç 2) Â))) à)) (Wr.kj (Wr.gb hr.units (Ç 4) (Ú Â)))))))) (ú (Wr.dX (ű 4) (À (Ç 8) Â))) (ú (Wr.dX (ű 3) (À (Ç 8) Â)))) (Ħ [7,8] ĝ)))) (Ħ [6,7,8] ĝ)))
  (Ħ [6,7,8] (Ü (Ę none (i:=9) nd rfl zQ (Wr.jl rfl m_sum (À (Wr.iG ["_law_heap"] ["_law_pen_here","_law_falls","_law_heaps_here","_law_ties","_law_gone","","_law_turn","_law_k","_law_tie","_law_n"] rfl (ę (Ç 2)) (λc=>(î (i:=0) iQ rfl zQ)) (λc=>ĺ) (λc=>(Ţ B.len (À (Ç 0) Â))) (hk:=rfl)) Â)))
  (ú (Ē (õ (À (õ (À (Ç 9) (À (Wr.eV B.tuple (À (Wr.iB B.sorted (À (Ç 3) Â)) Â)) Â))) (À (Wr.iB B.sorted (À (Ç 4) Â)) (À (Wr.iG ["_law_heap"] ["_law_pen_here","_law_falls","_law_heaps_here","_law_ties","_law_gone","","_law_turn","_law_k","_law_tie","_law_n"] rfl (ę (Ç 2)) (λc=>(î (i:=0) iQ rfl zQ)) (λc=>ĺ) (λc=>(Wr.qb B.sorted (À (Ç 0) Â))) (hk:=rfl)) Â)))))))))))))),enterQ h ?_⟩
 rintro ds P ⟨k,rfl,k1,k2,q⟩
 refine⟨[.im (.int ((k:Int) - 1)),.any,.any,.any,.any,.any,.any,.any,.any],rfl,?_⟩
 refine⟨rfl,rfl,λn H hp=>?_⟩
 have lm:∀l:List Tie,(l.map pD).length=l.length:=λl=>Á ..
 refine⟨by decide,by decide,rfl,λ(i:Nat) ρ=>ρ=[.pen CP,.im (.int ((k:Int) - 1)),.sn (.list (H.map iD)),.dw 0 (.list ((prs k (H.take i)).map pD)),.dw 1 (.list []),.any,.any,.any,.any,.any],rfl,?_,?_⟩
 ·rintro i d ρ hd rfl
  obtain⟨h,hh,rfl⟩:=dM hd
  have hs:=hp.size h (Ò hh)
  have tk:prs k (H.take (i+1))=prs k (H.take i)++pr1 k h:=by
   unfold prs
   rw[ĩ,hh,List.flatMap_append]
   show _++(pr1 k h++[])=_
   rw[ć]
  match h,hs,tk with
  |[a],_,tk =>
   show([Sl.pen CP,.im (.int ((k:Int) - 1)),.sn (.list (H.map iD)),.dw 0 (.list ((prs k (H.take i)).map pD)),.dw 1 (.list []),.any,.any,.any,.any,.any]:List Sl)=[Sl.pen CP,.im (.int ((k:Int) - 1)),.sn (.list (H.map iD)),.dw 0 (.list ((prs k (H.take (i+1))).map pD)),.dw 1 (.list []),.any,.any,.any,.any,.any]
   rw[tk,show pr1 k [a]=[] from rfl,ć]
  |[a,b],_,tk =>
   refine⟨.int a,rfl,.int b,rfl,zK,.int b,rfl,.int a,rfl,zK,zK,?_⟩
   have er:(Ì ((k:Int) - 1+1).toNat [pD (a,b),pD (b,a)]).flatten=(pr1 k [a,b]).map pD:=by
    rw[show((k:Int) - 1+1).toNat=k by omega]
    show _=((Ì k [(a,b),(b,a)]).flatten).map pD
    rw[List.map_flatten,List.map_replicate]
    rfl
   have lp:=ud k (H.take i)
   have l1:=Aa k [a,b]
   have lt:(H.take i).length<=5:=by have:=hp.five;rw[ğ];omega
   have l2:2 * k * (H.take i).length<=4 * 5:=Nat.mul_le_mul (by omega) lt
   refine⟨by omega,by omega,?_,.inl ⟨(show cT (Ì ((k:Int) - 1+1).toNat [pD (a,b),pD (b,a)]).flatten=true by rw[er];exact bC _),rfl,?_,?_⟩⟩
   ·show 2 * ((k:Int) - 1+1).toNat<=1000
    omega
   ·show((prs k (H.take i)).map pD).length+(Ì ((k:Int) - 1+1).toNat [pD (a,b),pD (b,a)]).flatten.length<=1000
    rw[er,lm,lm]
    omega
   ·show([Sl.pen CP,.im (.int ((k:Int) - 1)),.sn (.list (H.map iD)),.dw 0 (.list ((prs k (H.take i)).map pD++(Ì ((k:Int) - 1+1).toNat [pD (a,b),pD (b,a)]).flatten)),.dw 1 (.list []),.any,.any,.any,.any,.any]:List Sl)=[Sl.pen CP,.im (.int ((k:Int) - 1)),.sn (.list (H.map iD)),.dw 0 (.list ((prs k (H.take (i+1))).map pD)),.dw 1 (.list []),.any,.any,.any,.any,.any]
    rw[er,tk,å]
 ·rintro ρ rfl
  rw[Á,û]
  refine⟨⟨by omega,by omega⟩,rfl,λ(t:Nat) ρ=>∃us gs:List Tie,ρ=[.pen CP,.im (.int ((k:Int) - 1)),.sn (.list (H.map iD)),.dw 0 (.list (us.map pD)),.dw 1 (.list (gs.map pD)),.any,.any,.any,.any,.any]/\(Rng k H us gs (t * H.length) λj=>if j<H.length then t else 0)/\(t=k->gs≠[]),⟨prs k H,[],rfl,⟨⟨[],by simp,by simp,λx hx=>(nomatch hx),λj=>by simp⟩,λt ht=>(nomatch ht)⟩,λz=>by omega⟩,?_,?_⟩
  ·rintro t d ρ hd ⟨us,gs,rfl,rg,_⟩
   obtain⟨ht,rfl⟩:=fU hd
   have ht:t<k:=by omega
   refine⟨⟨by rw[Á];omega,by rw[Á];have:=hp.five;omega⟩,rfl,λ(j:Nat) ρ=>∃us gs:List Tie,ρ=[.pen CP,.im (.int ((k:Int) - 1)),.sn (.list (H.map iD)),.dw 0 (.list (us.map pD)),.dw 1 (.list (gs.map pD)),.any,.im (.int (0+((t:Nat):Int))),.any,.any,.any]/\(Rng k H us gs (t * H.length+j) λi=>if i<j then t+1 else if i<H.length then t else 0)/\(t+1=k->j=H.length->gs≠[]),⟨us,gs,rfl,?_,λ_ z=>by have:=hp.two;omega⟩,?_,?_⟩
   ·have e:(λi=>if i<0 then t+1 else if i<H.length then t else 0)=λj=>if j<H.length then t else 0:=funext λi=>if_neg (Nat.not_lt_zero i)
    rw[e]
    exact rg
   ·rintro j d ρ hd ⟨us,gs,rfl,rg,ng⟩
    obtain⟨hj,rfl⟩:=fU hd
    rw[Á] at hj
    have hj:j<H.length:=by omega
    have hv:=tZ hp.two hj
    obtain⟨a,ea⟩:∃a,H[pvN H.length j]?=some a:=⟨_,É hv.2⟩
    obtain⟨b,eb⟩:∃b,H[j]?=some b:=⟨_,É hj⟩
    have sa:=hp.size a (Ò ea)
    have sb:=hp.size b (Ò eb)
    have ia:atI (H.map iD) (0+((j:Nat):Int) - 1)=some (iD a):=by
     have h2:=hp.two
     have:ixN (H.map iD).length (0+((j:Nat):Int) - 1)=some (pvN H.length j):=by
      unfold ixN pvN
      rw[Á]
      split <;> split <;> first|omega|(split <;> first|omega|(congr 1;omega))|(congr 1;omega)
     unfold atI
     rw[this]
     show(H.map iD)[pvN H.length j]?=_
     rw[æ,ea]
     rfl
    have ib:atI (H.map iD) (0+((j:Nat):Int))=some (iD b):=by rw[Int.zero_add];exact gP (by rw[æ,eb];rfl)
    refine⟨rfl,iD a,ia,a,rfl,sa.1,by omega,λx hx=>?_⟩
    refine⟨rfl,iD b,ib,b,rfl,sb.1,by omega,λy hy=>?_⟩
    have E:Edg H j (x,y):=⟨hj,a,b,ea,eb,hx,hy⟩
    have cf:∀us' gs':List Tie,Rng k H us' gs' (t * H.length+j+1) (λi=>(if i<j then t+1 else if i<H.length then t else 0)+if j=i then 1 else 0)->Rng k H us' gs' (t * H.length+(j+1)) λi=>if i<j+1 then t+1 else if i<H.length then t else 0:=λus' gs' r=>by
     have e:(λi=>(if i<j then t+1 else if i<H.length then t else 0)+if j=i then 1 else 0)=λi=>if i<j+1 then t+1 else if i<H.length then t else 0:=funext λi=>by
      split <;> split <;> split <;> (try split) <;> omega
     rw[e] at r
     exact r
    have rg1:Rng k H us (gs++[(x,y)]) (t * H.length+(j+1)) λi=>if i<j+1 then t+1 else if i<H.length then t else 0:=cf _ _ (rg.one E (by rw[þ]) λu hu=>(Ð.mp hu).imp id È.mp)
    have rg2:Rng k H (us++[(x,y)]) gs (t * H.length+(j+1)) λi=>if i<j+1 then t+1 else if i<H.length then t else 0:=cf _ _ (rg.one E (by rw[þ,þ];exact(List.perm_append_comm (l₁:=[(x,y)]) (l₂:=gs)).append_left us) λu hu=>.inl hu)
    have lb:=rg.len
    refine⟨zK,rfl,2,rfl,by decide,by decide,λc c0 c1=>?_⟩
    have l1:2 * k * H.length<=4 * 5:=Nat.mul_le_mul (by omega) hp.five
    have l2:t * H.length<=1 * 5:=Nat.mul_le_mul (by omega) hp.five
    have five:=hp.five
    refine jx (λ_=>?_) (λ_=>?_)
    ·rw[if_pos rfl]
     refine⟨rfl,by rw[lm];omega,us,gs++[(x,y)],?_,rg1,λ_ _ z=>by simp at z⟩
     show([Sl.pen CP,.im (.int ((k:Int) - 1)),.sn (.list (H.map iD)),.dw 0 (.list (us.map pD)),.dw 1 (.list (gs.map pD++[pD (x,y)])),.any,.im (.int (0+((t:Nat):Int))),.any,.any,.any]:List Sl)=[Sl.pen CP,.im (.int ((k:Int) - 1)),.sn (.list (H.map iD)),.dw 0 (.list (us.map pD)),.dw 1 (.list ((gs++[(x,y)]).map pD)),.any,.im (.int (0+((t:Nat):Int))),.any,.any,.any]
     rw[å]
     rfl
    ·refine jx (λ_=>?_) (λc3=>?_)
     ·refine⟨by decide,lA gs,by decide +kernel,jx (λ_=>?_) (λc2=>?_)⟩
      ·refine⟨rfl,by rw[lm];omega,us,gs++[(x,y)],?_,rg1,λ_ _ z=>by simp at z⟩
       show([Sl.pen CP,.im (.int ((k:Int) - 1)),.sn (.list (H.map iD)),.dw 0 (.list (us.map pD)),.dw 1 (.list (gs.map pD++[pD (x,y)])),.any,.im (.int (0+((t:Nat):Int))),.any,.any,.any]:List Sl)=[Sl.pen CP,.im (.int ((k:Int) - 1)),.sn (.list (H.map iD)),.dw 0 (.list (us.map pD)),.dw 1 (.list ((gs++[(x,y)]).map pD)),.any,.im (.int (0+((t:Nat):Int))),.any,.any,.any]
       rw[å]
       rfl
      ·refine⟨rfl,by rw[lm];omega,us++[(x,y)],gs,?_,rg2,λ_ _ z=>by subst z;exact c2 rfl⟩
       show([Sl.pen CP,.im (.int ((k:Int) - 1)),.sn (.list (H.map iD)),.dw 0 (.list (us.map pD++[pD (x,y)])),.dw 1 (.list (gs.map pD)),.any,.im (.int (0+((t:Nat):Int))),.any,.any,.any]:List Sl)=[Sl.pen CP,.im (.int ((k:Int) - 1)),.sn (.list (H.map iD)),.dw 0 (.list ((us++[(x,y)]).map pD)),.dw 1 (.list (gs.map pD)),.any,.im (.int (0+((t:Nat):Int))),.any,.any,.any]
       rw[å]
       rfl
     ·rw[if_neg Æ]
      refine⟨rfl,by rw[lm];omega,us++[(x,y)],gs,?_,rg2,λz1 z2=>absurd (show decide (0+((t:Nat):Int)+(0+((j:Nat):Int))=(k:Int) - 1+(((H.map iD).length:Nat):Int) - 1)=true by rw[Á];exact decide_eq_true (by omega)) c3⟩
      show([Sl.pen CP,.im (.int ((k:Int) - 1)),.sn (.list (H.map iD)),.dw 0 (.list (us.map pD++[pD (x,y)])),.dw 1 (.list (gs.map pD)),.any,.im (.int (0+((t:Nat):Int))),.any,.any,.any]:List Sl)=[Sl.pen CP,.im (.int ((k:Int) - 1)),.sn (.list (H.map iD)),.dw 0 (.list ((us++[(x,y)]).map pD)),.dw 1 (.list (gs.map pD)),.any,.im (.int (0+((t:Nat):Int))),.any,.any,.any]
      rw[å]
      rfl
   ·rintro ρ ⟨us,gs,rfl,rg,ng⟩
    have eL:(cJ 0 ((((H.map iD).length:Nat):Int)).toNat).length=H.length:=by rw[cI,Á];omega
    rw[eL] at rg ng
    refine⟨us,gs,rfl,?_,λz=>ng z rfl⟩
    have e:(λi=>if i<H.length then t+1 else if i<H.length then t else 0)=λi=>if i<H.length then t+1 else 0:=funext λi=>by
     by_cases c:i<H.length
     ·rw[if_pos c,if_pos c]
     ·rw[if_neg c,if_neg c,if_neg c]
    rw[e] at rg
    rw[Nat.succ_mul]
    exact rg
  ·rintro ρ ⟨us,gs,rfl,rg,ng⟩
   have eL:(cJ 0 ((k:Int) - 1+1).toNat).length=k:=by rw[cI];omega
   rw[eL] at rg ng
   have l1:2 * k * H.length<=4 * 5:=Nat.mul_le_mul (by omega) hp.five
   have l2:k * H.length<=2 * 5:=Nat.mul_le_mul (by omega) hp.five
   have lb:=rg.len
   have five:=hp.five
   refine uN H iD (λh=>.int ((h.length:Nat):Int)) .imm rfl (by omega) (λh hh A B hA=>aL (B:=B) ?_) ?_
   ·show _/\A (.int (((h.map Ã).length:Nat):Int))
    rw[Á]
    exact⟨rfl,hA⟩
   have es:(H.map λh=>((h.length:Nat):Int)).sum=((n:Nat):Int):=by
    rw[pO H λh=>h.length,←List.length_flatten]
    exact hp.flat.len
   refine⟨H.map λh=>((h.length:Nat):Int),by rw[ü];rfl,by rw[Á];omega,λx hx=>?_,?_⟩
   ·obtain⟨h,hh,rfl⟩:=ë.mp hx
    have:=hp.size h hh
    omega
   rw[es]
   have nc:∀t∈us++gs,eG t:=λt ht=>by
    have:=rg.rg hp t ht
    have:=hp.n8
    exact⟨by omega,by omega⟩
   refine⟨us,.inl rfl,by omega,λt ht=>nc t (ô _ ht),λus' pu su=>⟨zK,gs,.inl rfl,by omega,λt ht=>nc t (Õ _ ht),λgs' pg sg=>?_⟩⟩
   refine uN H iD (λh=>iD (fL h)) .new rfl (by omega) (λh hh A B hA=>aL (B:=B) ⟨h,rfl,by have:=hp.size h hh;omega,λout po so=>?_⟩) ?_
   ·rw[G6 (hp.size h hh) po so]
    exact⟨rfl,hA⟩
   have e1:=pA ((n:Nat):Int) us'
   have e3:(.list (H.map λh=>iD (fL h)):D)=.list ((H.map fL).map iD):=by rw[ü];rfl
   refine⟨zK,?_,?_⟩
   ·show(norm (joins [(norm (joins [(Kd.imm,Ã ((n:Nat):Int)),(norm Kd.new (.tuple (us'.map pD)),.tuple (us'.map pD))]) (aM ((n:Nat):Int) us'),aM ((n:Nat):Int) us'),(Kd.new,.list (gs'.map pD)),(Kd.new.join Kd.new,.list (H.map λh=>iD (fL h)))]) (.tuple [aM ((n:Nat):Int) us',.list (gs'.map pD),.list (H.map λh=>iD (fL h))])).le Kd.n0=true
    rw[ľ e1,Ŀ (by show ¬(bK (aM ((n:Nat):Int) us')&&false)=true;rw[Bool.and_false];exact Æ)]
    rfl
   ·show P (.tuple [aM ((n:Nat):Int) us',.list (gs'.map pD),.list (H.map λh=>iD (fL h))])
    rw[e3]
    exact q n us' gs' _ (Lx hp rg pu pg sg (by omega) (ng rfl))
end
def NoT(n:Nat)(x:D):Prop:=∀A:List Tie,x=.list (A.map pD)->¬GdN n A
def oK(n:Nat)(gs:List Tie)(x:D):Prop:=rD x/\(NoT n x\/∃A:List Tie,x=.list (A.map pD)/\((∃t,(t::A).Perm gs)\/gs.length<A.length\/¬Cy A\/∃t R,(t::R).Perm gs/\A.Perm ((t.2,t.1)::R)))
def M4(ds:List D)(P:D->Prop):Prop:=∃(n:Nat) (gs:List Tie),ds=[.int ((n:Nat):Int),.list (gs.map pD)]/\n<=8/\GdN n gs/\Cy gs/\1<=gs.length/\gs.length<=20/\∀L:List D,(∀x∈L,oK n gs x)->L.length<=100->P (.list L)
theorem Fz{k:Kd}{d1 d2:D}{ρ:List Sl}{Q:List Sl->Prop}{i j:Nat}(h:∀s5 s6,s5=jV (norm (norm k d1) d1) d1->s6=jV (norm (norm k d2) d2) d2->Q ((ρ.set i s5).set j s6)):fH (gNm i) (fH (gNm j) wK) k [d1,d2] ρ Q:=h _ _ rfl rfl
theorem Ib{n:Nat}{es:List D}{x:D}(hx:x∈es)(nt:∀t:Tie,x=pD t->¬((0<=t.1/\t.1<(n:Int))/\(0<=t.2/\t.2<(n:Int))/\t.1≠t.2)):NoT n (.list es):=λA e g=>by
 cases e
 obtain⟨t,ht,e⟩:=ë.mp hx
 exact nt t e.symm (g t ht)
theorem o9{n:Nat}{x y:Int}(h:¬((0<=x/\x<(n:Int))/\(0<=y/\y<(n:Int))/\x≠y))(u:Tie)(e:Ņ [.int x,.int y]=pD u):¬((0<=u.1/\u.1<(n:Int))/\(0<=u.2/\u.2<(n:Int))/\u.1≠u.2):=by
 have e:Ņ [.int x,.int y]=.tuple [.int u.1,.int u.2]:=e
 injection e with e
 injection e with e5 e
 injection e with e6 _
 injection e5 with e5
 injection e6 with e6
 rw[←e5,←e6]
 exact h
theorem yt{n:Nat}{es:List D}(h:es.length≠2)(u:Tie)(e:Ņ es=pD u):¬((0<=u.1/\u.1<(n:Int))/\(0<=u.2/\u.2<(n:Int))/\u.1≠u.2):=by
 injection (show Ņ es=.tuple [.int u.1,.int u.2] from e) with e
 rw[e] at h
 exact absurd rfl h
theorem iM{n:Nat}{x y:D}(h:∀i,y≠.int i)(u:Tie)(e:Ņ [x,y]=pD u):¬((0<=u.1/\u.1<(n:Int))/\(0<=u.2/\u.2<(n:Int))/\u.1≠u.2):=by
 injection (show Ņ [x,y]=.tuple [.int u.1,.int u.2] from e) with e
 injection e with _ e
 injection e with e _
 exact absurd e (h _)
theorem Ez{n:Nat}{x y:D}(h:∀i,x≠.int i)(u:Tie)(e:Ņ [x,y]=pD u):¬((0<=u.1/\u.1<(n:Int))/\(0<=u.2/\u.2<(n:Int))/\u.1≠u.2):=by
 injection (show Ņ [x,y]=.tuple [.int u.1,.int u.2] from e) with e
 injection e with e _
 exact absurd e (h _)
theorem Px{n:Nat}{x:D}(h:∀es,x≠.list es):NoT n x:=λA e=>absurd e (h _)
theorem Qd{x:D}(h:∀es,x≠.list es):rD x:=λes e=>absurd e (h es)
theorem oh{es:List D}(h:es.length<=400):rD (.list es):=λes' e=>by cases e;exact h
theorem qp{n:Nat}{gs:List Tie}{x:D}(h:∀es,x≠.list es):oK n gs x:=⟨Qd h,.inl (Px h)⟩
theorem cQ{n:Nat}{gs:List Tie}{es:List D}{x:D}(hl:es.length<=400)(hx:x∈es)(nt:∀t:Tie,x=pD t->¬((0<=t.1/\t.1<(n:Int))/\(0<=t.2/\t.2<(n:Int))/\t.1≠t.2)):oK n gs (.list es):=⟨oh hl,.inl (Ib hx nt)⟩
section
variable {P:Program}{w:World}{K:Þ}{mg:Str->Option Value}{base:Heap}{f:Addr}{fd:FuncData}{CN P1 PT:Addr}
theorem j5:FnScope ["_law_pen_here","_law_n","_law_added_here","_law_at","_law_a","_law_b","_law_rest","_law_some","_law_more"] ["_law_pen_here","_law_n","_law_added_here"] (aj (top 40)):=zC
theorem iR:(["_law_one_here","_law_pen_here","_law_n","_law_added_here","_law_at","_law_a","_law_b","_law_rest","_law_some","_law_more"]:List Str).Nodup:=by decide +kernel
theorem uH(F:Fun K "_law_added" "_law_added" (top 40) f fd)(B:ō mg)(m_str:mg "str"=none)(C__law_draw:ċ P w K mg base 1 "_law_draw" ["_law_pen_here","_law_many"] (spP CP sE)):FnOk P w K mg base CX0 2 f fd ["_law_pen_here","_law_n","_law_added_here"] (spP CP M4):=by
 refine F.ok j5 gH (λcdv A outer s H vs Q E hr h=>?_)
 have nd:=j5.nd
 refine⟨_,İ (Ü (Ę none (i:=3) nd rfl zQ (Wr.dcP C__law_draw hr (ű 0) (À (Ţ B.len (À (Ç 2) Â)) Â)))
  (Ü (Wr.uY (Ċ (Ç 2) (Ç 3)) (Wr.jM (n:=2) rfl (Ľ (î (i:=4) nd rfl zQ) (Ľ (î (i:=5) nd rfl zQ) Wr.gK))))
  (Ü (Ę none (i:=6) nd rfl zQ (ß (Wr.nY (Ç 2) Wr.dR (Wr.cO (Ç 3))) (Wr.nY (Ç 2) (Wr.cO (ß (Ç 3) à)) Wr.dR)))
  (Ü (Wr.pF 0 true (i:=7) nd rfl zQ (À (Ç 6) (À (Wr.fP B.sorted (À (ß (Ç 2) (Ú (À (Ċ (Ç 2) (Ç 3)) Â))) Â)) (À (Wr.fP B.sorted (À (ß (Ç 6) (Ú (À (õ (À (Ç 5) (À (Ç 4) Â))) Â))) Â)) (À (Wr.eV B.tuple (À (Ç 2) Â)) (À (ß (Ç 6) (Ú (À (Ú (À (Ç 4) (À (Ç 5) Â))) Â))) (À (ß (Ç 6) (Ú (À (õ (À (Ç 4) (À (Ç 4) Â))) Â))) Â)))))))
  (Wr.jc 7 (Ü (ŝ 0 true (i:=7) nd rfl zQ (Ç 7) (Ú (À (ß (Ç 6) (Ú (À (õ (À (Ç 4) (À (Ç 1) Â))) Â))) (À (ß (Ú (À (õ (À (Wr.fD à) (À (Ç 5) Â))) Â)) (Ç 6)) (À (ß (Ç 6) (Ú (À (õ (À (Ç 4) (À (Ç 5) (À à Â)))) Â))) (À (ß (Ç 6) (Ú (À (õ (À (Ç 4) Â)) Â))) (À (ß (Ç 6) (Ú (À Wr.iC Â))) (À (ß (Ç 6) (Ú (À Ś Â))) Â))))))))
  (Wr.jc 7 (Ü (ŝ 0 true (i:=7) nd rfl zQ (Ç 7) (Ú (À (ß (Ç 6) (Ú (À (õ (À (Ç 4) (À Ń Â))) Â))) (À (ß (Ç 6) (Ú (À (õ (À (Ç 4) (À (Wr.o7 m_str (À (Ç 5) Â)) Â))) Â))) (À (ß (Ç 6) (Ú (À (õ (À (Ç 4) (À Wr.iC Â))) Â))) (À (ß (Ç 6) (Ú (À (õ (À (õ (À (Ç 4) (À (Ç 5) Â))) Â)) Â))) (À (ß (Ç 6) (Ú (À Wr.kY Â))) (À Wr.iC Â))))))))
  (Wr.jc 7 (Ü (ŝ 0 true (i:=7) nd rfl zQ (Ç 7) (Ú (Wr.kI 6 ["_law_pen_here","_law_n","_law_added_here","_law_at","_law_a","_law_b","_law_rest","_law_some","_law_more"] (aj (top 40)) (.cons (.int 0) (.cons (.bl true) (.cons (.str "added") (.cons .dct (.cons (.tup .nil) (.cons (.lst (.cons (.lst .nil) .nil)) .nil)))))) (À (ß (Ç 6) (Ú (À (õ (À (Ç 4) (À (Ú (À (Ç 5) Â)) Â))) Â))) (À (ß (Ç 6) (Ú (À (õ (À (Wr.xY à à) (À (Ç 5) Â))) Â))) Â)) (by decide +kernel))))
  (Ü (Wr.lX (ű 7) (À (Wr.fP B.sorted (À (Wr.kO (Ç 2) (Wr.ur à (Ţ B.len (À (Ç 2) Â)))) Â)) Â))
  (Ü (Ę none (i:=8) nd rfl zQ (Wr.mW ["_law_pen_here","_law_n","_law_added_here","_law_at","_law_a","_law_b","_law_rest","_law_some","_law_more"] (aj (top 40)) (.lst (.cons (.tup (.cons (.var 4) (.cons .non .nil))) (.cons (.tup (.cons (.var 4) (.cons (.str "1") .nil))) (.cons (.tup (.cons (.str "0") (.cons (.var 5) .nil))) (.cons .non (.cons (.tup (.cons (.var 4) (.cons (.tup (.cons (.var 5) .nil)) .nil))) (.cons (.tup (.cons (.var 4) (.cons .dct .nil))) (.cons (.int 0) (.cons (.str "01") (.cons (.tup (.cons .non (.cons (.var 5) .nil))) (.cons (.lst .nil) .nil))))))))))) (by decide +kernel)))
  (Wr.jc 7 (Ü (ŝ 0 true (i:=7) nd rfl zQ (ß (Ç 7) (Wr.cP ["_law_one_here"] rfl (ę (Ç 8)) (λc=>(î (i:=0) iR rfl zQ)) (λc=>ĺ) (λc=>(Ú (À (õ (À (Ç 5) (À (Ç 6) Â))) (À (Ç 0) Â)))))) (Wr.cP ["_law_one_here"] rfl (ę (Ç 8)) (λc=>(î (i:=0) iR rfl zQ)) (λc=>ĺ) (λc=>(Ú (À (Ç 0) (À (õ (À (Ç 5) (À (Ç 6) Â))) Â))))))
  (Ü (ś (Wr.kE hr.units (Wr.kW (Ç 2)) (Ç 2)) (ú (Wr.lX (ű 7) (À (Wr.kW (Ç 2)) Â))) ĝ)
  (ú (Ē (Ç 7)))))))))))))))))),enterQ h ?_⟩
 rintro ds P ⟨n,gs,rfl,n8,gA,ri,l1,l2,q⟩
 refine⟨[.im (.int ((n:Nat):Int)),.sh (.list (gs.map pD)),.any,.any,.any,.any,.any,.any],rfl,?_⟩
 have lm:∀l:List Tie,(l.map pD).length=l.length:=λl=>Á ..
 refine⟨rfl,(((gs.map pD).length:Nat):Int),rfl,by rw[lm];omega,by rw[lm];omega,λr r0 r1=>?_⟩
 rw[lm] at r1
 obtain⟨i,rfl⟩:∃i:Nat,r=((i:Nat):Int):=⟨r.toNat,by omega⟩
 have hi:i<gs.length:=by omega
 obtain⟨t,et⟩:∃t,gs[i]?=some t:=⟨_,É hi⟩
 have mt:=Ò et
 have ht:=gA t mt
 have ea:atI (gs.map pD) ((i:Nat):Int)=some (pD t):=gP (by rw[æ,et];rfl)
 refine⟨pD t,ea,rfl,Fz λs4 s5 e4 e5=>?_⟩
 have e4:s4=.im (.int t.1):=e4
 have e5:s5=.im (.int t.2):=e5
 subst e4 e5
 obtain⟨R,eR⟩:∃R,R=gs.take i++gs.drop (i+1):=⟨_,rfl⟩
 have pR:(t::R).Perm gs:=by
  have:gs=gs.take i++t::gs.drop (i+1):=by
   have e:=Ň hi
   rw[(Ó.mp et).2] at e
   rw[←e,Č]
  rw[eR]
  exact(List.perm_middle.symm).trans (by rw[←this])
 have lR:R.length+1=gs.length:=pR.length_eq
 have gR:GdN n R:=λu hu=>gA u (pR.mem_iff.mp (Î _ hu))
 have c1:bM (gs.map pD) none (some ((i:Nat):Int))=(gs.take i).map pD:=by
  rw[sJ _ (by omega) (by rw[lm];omega),List.map_take]
  rfl
 have c2:bM (gs.map pD) (some (((i:Nat):Int)+1)) none=(gs.drop (i+1)).map pD:=by
  rw[wX _ (by omega) (by rw[lm];omega),Ŷ]
  rfl
 have cR:bM (gs.map pD) none (some ((i:Nat):Int))++bM (gs.map pD) (some (((i:Nat):Int)+1)) none=R.map pD:=by rw[c1,c2,eR,å]
 refine .inl ⟨by rw[c1];exact bC _,.inl ⟨by rw[c2];exact bC _,?_⟩⟩
 have l12:(bM (gs.map pD) none (some ((i:Nat):Int))).length+(bM (gs.map pD) (some (((i:Nat):Int)+1)) none).length=R.length:=by
  rw[←Å,cR,lm]
 refine⟨by omega,.inl ⟨by rw[cR];exact bC _,?_⟩⟩
 show eH _ _ _ [.pen CP,.im (.int ((n:Nat):Int)),.sh (.list (gs.map pD)),.im (.int ((i:Nat):Int)),.im (.int t.1),.im (.int t.2),.sn (.list (bM (gs.map pD) none (some ((i:Nat):Int))++bM (gs.map pD) (some (((i:Nat):Int)+1)) none)),.any,.any]
 rw[cR]
 have nc:∀u∈gs,eG u:=gA.nice n8
 have nR:∀u∈R,eG u:=gR.nice n8
 have lR1:(R.map pD).length+1<=1000:=by rw[lm];omega
 refine⟨pD t,ea,zK,(show(gs.map pD).length+1<=1000 by rw[lm];omega),.inr ?_⟩
 refine⟨gs++[t],.inl (by rw[å];rfl),by rw[Å];show gs.length+1<=1000;omega,λu hu=>(Ð.mp hu).elim (nc u) λz=>by rw[È.mp z];exact nc t mt,λA2 p2 s2=>?_⟩
 refine⟨zK,zK,lR1,.inr ?_⟩
 refine⟨R++[(t.2,t.1)],.inl (by rw[å];rfl),by rw[Å];show R.length+1<=1000;omega,λu hu=>(Ð.mp hu).elim (nR u) λz=>by rw[È.mp z];exact⟨by show 0<=t.1;omega,by show t.1<64;omega⟩,λA3 p3 s3=>?_⟩
 refine⟨zK,zK,lR1,.inr ?_⟩
 refine⟨zK,zK,lR1,.inr ?_⟩
 have nt:∀k,norm k (.tuple (gs.map pD))=.imm:=λk=>ľ (bC gs)
 refine⟨zK,?_,rfl,rfl,?_⟩
 ·show(true&&(true&&(true&&((norm (norm Kd.shr (.tuple (gs.map pD))) (.tuple (gs.map pD))).le (spK true)&&(true&&(true&&true))))))=true
  rw[nt]
  rfl
 show eH _ _ _ [.pen CP,.im (.int ((n:Nat):Int)),.sh (.list (gs.map pD)),.im (.int ((i:Nat):Int)),.im (.int t.1),.im (.int t.2),.sn (.list (R.map pD)),.sn (.list [.list (R.map pD),.list (A2.map pD),.list (A3.map pD),.tuple (gs.map pD),.list (R.map pD++[.list [.int t.1,.int t.2]]),.list (R.map pD++[.tuple [.int t.1,.int t.1]])]),.any]
 have lmR:∀x:D,(R.map pD++[x]).length<=400:=λx=>by rw[Å,lm];show R.length+1<=400;omega
 have inR:∀x:D,x∈R.map pD++[x]:=λx=>Õ _ (È.mpr rfl)
 have oR:oK n gs (.list (R.map pD)):=⟨oh (by rw[lm];omega),.inr ⟨R,rfl,.inl ⟨t,pR⟩⟩⟩
 obtain⟨L1,e1⟩:∃L1,L1=[ì (R.map pD),.list (A2.map pD),.list (A3.map pD),.tuple (gs.map pD),.list (R.map pD++[.list [.int t.1,.int t.2]]),.list (R.map pD++[.tuple [.int t.1,.int t.1]])]:=⟨_,rfl⟩
 have o1:∀x∈L1,oK n gs x:=by
  rw[e1]
  intro x hx
  simp only[á,ĕ,or_false] at hx
  have z2:=p2.length_eq
  have z3:=p3.length_eq
  rw[Å] at z2 z3
  have z2:A2.length=gs.length+1:=z2
  have z3:A3.length=R.length+1:=z3
  rcases hx with rfl|rfl|rfl|rfl|rfl|rfl
  ·exact oR
  ·exact⟨oh (by rw[lm];omega),.inr ⟨A2,rfl,.inr (.inl (by omega))⟩⟩
  ·exact⟨oh (by rw[lm];omega),.inr ⟨A3,rfl,.inr (.inr (.inr ⟨t,R,pR,p3.trans List.perm_append_comm⟩))⟩⟩
  ·exact qp λes e=>nomatch e
  ·exact cQ (lmR _) (inR _) λu e=>nomatch e
  ·exact cQ (lmR _) (inR _) (o9 λz=>z.2.2 rfl)
 have n1:L1.length=6:=by rw[e1];rfl
 rw[←e1]
 clear e1
 refine⟨zK,zK,lR1,.inr ⟨zK,zK,(show 1+(R.map pD).length<=1000 by omega),.inr ⟨zK,zK,lR1,.inr ⟨zK,zK,lR1,.inr ⟨zK,lR1,.inr ⟨zK,lR1,.inr ?_⟩⟩⟩⟩⟩⟩
 refine⟨zK,rfl,rfl,(show L1.length+6<=1000 by omega),rfl,rfl,?_⟩
 show eH _ _ _ [.pen CP,.im (.int ((n:Nat):Int)),.sh (.list (gs.map pD)),.im (.int ((i:Nat):Int)),.im (.int t.1),.im (.int t.2),.sn (.list (R.map pD)),.sn (.list (L1++[ì (R.map pD++[.tuple [.int t.1,.int ((n:Nat):Int)]]),.list ([.tuple [.int (-1),.int t.2]]++R.map pD),.list (R.map pD++[.tuple [.int t.1,.int t.2,.int 0]]),.list (R.map pD++[.tuple [.int t.1]]),.list (R.map pD++[.none]),.list (R.map pD++[.str "01"])])),.any]
 obtain⟨L2,e2⟩:∃L2,L2=L1++[ì (R.map pD++[.tuple [.int t.1,.int ((n:Nat):Int)]]),.list ([.tuple [.int (-1),.int t.2]]++R.map pD),.list (R.map pD++[.tuple [.int t.1,.int t.2,.int 0]]),.list (R.map pD++[.tuple [.int t.1]]),.list (R.map pD++[.none]),.list (R.map pD++[.str "01"])]:=⟨_,rfl⟩
 have o2:∀x∈L2,oK n gs x:=by
  rw[e2]
  intro x hx
  rcases Ð.mp hx with hx|hx
  ·exact o1 x hx
  simp only[á,ĕ,or_false] at hx
  rcases hx with rfl|rfl|rfl|rfl|rfl|rfl
  ·exact cQ (lmR _) (inR _) (o9 λz=>by omega)
  ·exact cQ (by rw[Å,lm];show 1+R.length<=400;omega) (ô _ (È.mpr rfl)) (o9 λz=>by omega)
  ·exact cQ (lmR _) (inR _) (yt (by show 3≠2;decide))
  ·exact cQ (lmR _) (inR _) (yt (by show 1≠2;decide))
  ·exact cQ (lmR _) (inR _) λu e=>nomatch e
  ·exact cQ (lmR _) (inR _) λu e=>nomatch e
 have n2:L2.length=12:=by rw[e2,Å,n1];rfl
 rw[←e2]
 clear e2
 refine⟨zK,zK,lR1,.inr ?_⟩
 refine⟨by
  have:=Nat.log2_le_self t.2.natAbs
  omega,zK,zK,lR1,.inr ⟨zK,zK,lR1,.inr ⟨zK,zK,zK,lR1,.inr ⟨zK,lR1,.inr ?_⟩⟩⟩⟩
 refine⟨zK,rfl,rfl,(show L2.length+6<=1000 by omega),rfl,rfl,?_⟩
 show eH _ _ _ [.pen CP,.im (.int ((n:Nat):Int)),.sh (.list (gs.map pD)),.im (.int ((i:Nat):Int)),.im (.int t.1),.im (.int t.2),.sn (.list (R.map pD)),.sn (.list (L2++[ì (R.map pD++[.tuple [.int t.1,.bool true]]),.list (R.map pD++[.tuple [.int t.1,.str (toString t.2)]]),.list (R.map pD++[.tuple [.int t.1,.none]]),.list (R.map pD++[.tuple [.tuple [.int t.1,.int t.2]]]),.list (R.map pD++[.dict []]),.none])),.any]
 obtain⟨L3,e3⟩:∃L3,L3=L2++[ì (R.map pD++[.tuple [.int t.1,.bool true]]),.list (R.map pD++[.tuple [.int t.1,.str (toString t.2)]]),.list (R.map pD++[.tuple [.int t.1,.none]]),.list (R.map pD++[.tuple [.tuple [.int t.1,.int t.2]]]),.list (R.map pD++[.dict []]),.none]:=⟨_,rfl⟩
 have o3:∀x∈L3,oK n gs x:=by
  rw[e3]
  intro x hx
  rcases Ð.mp hx with hx|hx
  ·exact o2 x hx
  simp only[á,ĕ,or_false] at hx
  rcases hx with rfl|rfl|rfl|rfl|rfl|rfl
  ·exact cQ (lmR _) (inR _) (iM λ_ e=>nomatch e)
  ·exact cQ (lmR _) (inR _) (iM λ_ e=>nomatch e)
  ·exact cQ (lmR _) (inR _) (iM λ_ e=>nomatch e)
  ·exact cQ (lmR _) (inR _) (yt (by show 1≠2;decide))
  ·exact cQ (lmR _) (inR _) λu e=>nomatch e
  ·exact qp λes e=>nomatch e
 have n3:L3.length=18:=by rw[e3,Å,n2];rfl
 rw[←e3]
 clear e3
 refine⟨_,rfl,zK,zK,zK,lR1,.inr ?_⟩
 refine⟨⟨by decide,by decide,by decide⟩,zK,zK,lR1,.inr ?_⟩
 refine⟨zK,rfl,rfl,(show L3.length+8<=1000 by omega),rfl,?_⟩
 show eH _ _ _ [.pen CP,.im (.int ((n:Nat):Int)),.sh (.list (gs.map pD)),.im (.int ((i:Nat):Int)),.im (.int t.1),.im (.int t.2),.sn (.list (R.map pD)),.sp 0 true (L3++[Ã 0,.bool true,.str "added",.dict [],.tuple [],.list [.list []],.list (R.map pD++[.tuple [.int t.1,.list [.int t.2]]]),.list (R.map pD++[.tuple [.int (10 ^ 29),.int t.2]])]),.any]
 obtain⟨L4,e4⟩:∃L4,L4=L3++[Ã 0,.bool true,.str "added",.dict [],.tuple [],.list [.list []],.list (R.map pD++[.tuple [.int t.1,.list [.int t.2]]]),.list (R.map pD++[.tuple [.int (10 ^ 29),.int t.2]])]:=⟨_,rfl⟩
 have o4:∀x∈L4,oK n gs x:=by
  rw[e4]
  intro x hx
  rcases Ð.mp hx with hx|hx
  ·exact o3 x hx
  simp only[á,ĕ,or_false] at hx
  rcases hx with rfl|rfl|rfl|rfl|rfl|rfl|rfl|rfl
  ·exact qp λes e=>nomatch e
  ·exact qp λes e=>nomatch e
  ·exact qp λes e=>nomatch e
  ·exact qp λes e=>nomatch e
  ·exact qp λes e=>nomatch e
  ·exact cQ (by show 1<=400;decide) (È.mpr rfl) λu e=>nomatch e
  ·exact cQ (lmR _) (inR _) (iM λ_ e=>nomatch e)
  ·exact cQ (lmR _) (inR _) (o9 λz=>by have:=z.1.2;omega)
 have n4:L4.length=26:=by rw[e4,Å,n3];rfl
 rw[←e4]
 clear e4
 obtain⟨m,em,m1,m2⟩:∃m:Nat,(300:Int) / (((gs.map pD).length:Nat):Int)=((m:Nat):Int)/\2<=m/\gs.length * m<=300:=by
  refine⟨300 / gs.length,by rw[lm];exact(Int.natCast_ediv 300 gs.length).symm,?_,Nat.mul_div_le 300 gs.length⟩
  exact(Nat.le_div_iff_mul_le (by omega)).mpr (by omega)
 refine⟨⟨by rw[lm];omega,by rw[lm];omega⟩,?_⟩
 dsimp only
 rw[em]
 have eM:(Ì (((m:Nat):Int)).toNat (gs.map pD)).flatten=((Ì m gs).flatten).map pD:=by
  rw[Ě,List.map_flatten,List.map_replicate]
 have lM:((Ì m gs).flatten).length=gs.length * m:=by
  rw[List.length_flatten,List.map_replicate,List.sum_replicate_nat,Nat.mul_comm]
 have big:gs.length<gs.length * m:=by
  have:gs.length * 2<=gs.length * m:=Nat.mul_le_mul_left _ m1
  omega
 have m300:m<=300:=by
  have:1 * m<=gs.length * m:=Nat.mul_le_mul_right m l1
  omega
 refine⟨by omega,by omega,?_,.inl ⟨by rw[eM];exact bC _,?_⟩⟩
 ·rw[lm,Ě]
  omega
 refine⟨(Ì m gs).flatten,.inl (by rw[eM]),by omega,λu hu=>?_,λA5 p5 s5=>?_⟩
 ·obtain⟨l,hl,hu⟩:=Ė.mp hu
  rw[(List.mem_replicate.mp hl).2] at hu
  exact nc u hu
 have l5:A5.length=gs.length * m:=by rw[p5.length_eq,lM]
 refine⟨rfl,(show L4.length<1000 by omega),?_⟩
 show eH _ _ _ [.pen CP,.im (.int ((n:Nat):Int)),.sh (.list (gs.map pD)),.im (.int ((i:Nat):Int)),.im (.int t.1),.im (.int t.2),.sn (.list (R.map pD)),.sp 0 true (L4++[.list (A5.map pD)]),.any]
 obtain⟨L5,e5⟩:∃L5,L5=L4++[ì (A5.map pD)]:=⟨_,rfl⟩
 have o5:∀x∈L5,oK n gs x:=by
  rw[e5]
  intro x hx
  rcases Ð.mp hx with hx|hx
  ·exact o4 x hx
  rw[È.mp hx]
  exact⟨oh (by rw[lm];omega),.inr ⟨A5,rfl,.inr (.inl (by omega))⟩⟩
 have n5:L5.length=27:=by rw[e5,Å,n4];rfl
 rw[←e5]
 clear e5
 refine⟨_,_,rfl,?_⟩
 refine⟨rfl,?_⟩
 show eH _ _ _ [.pen CP,.im (.int ((n:Nat):Int)),.sh (.list (gs.map pD)),.im (.int ((i:Nat):Int)),.im (.int t.1),.im (.int t.2),.sn (.list (R.map pD)),.sn (.list L5),.sn (.list [Ņ [.int t.1,.none],.tuple [.int t.1,.str "1"],.tuple [.str "0",.int t.2],.none,.tuple [.int t.1,.tuple [.int t.2]],.tuple [.int t.1,.dict []],.int 0,.str "01",.tuple [.none,.int t.2],.list []])]
 obtain⟨M,eM2⟩:∃M,M=[Ņ [.int t.1,.none],.tuple [.int t.1,.str "1"],.tuple [.str "0",.int t.2],.none,.tuple [.int t.1,.tuple [.int t.2]],.tuple [.int t.1,.dict []],.int 0,.str "01",.tuple [.none,.int t.2],.list []]:=⟨_,rfl⟩
 have hM:∀x∈M,∀u:Tie,x=pD u->¬((0<=u.1/\u.1<(n:Int))/\(0<=u.2/\u.2<(n:Int))/\u.1≠u.2):=by
  rw[eM2]
  intro x hx
  simp only[á,ĕ,or_false] at hx
  rcases hx with rfl|rfl|rfl|rfl|rfl|rfl|rfl|rfl|rfl|rfl
  ·exact iM λ_ e=>nomatch e
  ·exact iM λ_ e=>nomatch e
  ·exact Ez λ_ e=>nomatch e
  ·exact λu e=>nomatch e
  ·exact iM λ_ e=>nomatch e
  ·exact iM λ_ e=>nomatch e
  ·exact λu e=>nomatch e
  ·exact λu e=>nomatch e
  ·exact Ez λ_ e=>nomatch e
  ·exact λu e=>nomatch e
 have nM:M.length=10:=by rw[eM2];rfl
 rw[←eM2]
 clear eM2
 have mapi:M=M.map λx=>x:=(List.map_id' M).symm
 refine uN M (λx=>x) (λx=>.list [.tuple [.int t.1,.int t.2],x]) .snw mapi (by omega) (λx hx A B hA=>?_) ?_
 ·by_cases hi:bK x=true
  ·have en:∀k,norm k x=.imm:=λk=>ľ hi
   unfold gNm
   simp only[en]
   exact aL (B:=B) ⟨zK,zK,rfl,hA⟩
  ·have en:∀k,norm k x=k:=λk=>Ŀ hi
   unfold gNm
   simp only[en]
   exact aL (B:=B) ⟨zK,zK,rfl,hA⟩
 refine⟨by rw[Á];omega,.inr ?_⟩
 refine uN M (λx=>x) (λx=>.list [x,.tuple [.int t.1,.int t.2]]) .snw mapi (by omega) (λx hx A B hA=>?_) ?_
 ·by_cases hi:bK x=true
  ·have en:∀k,norm k x=.imm:=λk=>ľ hi
   unfold gNm
   simp only[en]
   exact aL (B:=B) ⟨zK,zK,rfl,hA⟩
  ·have en:∀k,norm k x=k:=λk=>Ŀ hi
   unfold gNm
   simp only[en]
   exact aL (B:=B) ⟨zK,zK,rfl,hA⟩
 have lmm:∀g:D->D,(M.map g).length=10:=λg=>by rw[Á,nM]
 refine⟨rfl,rfl,?_,rfl,?_⟩
 ·rw[Å,lmm,lmm]
  omega
 show eH _ _ _ [.pen CP,.im (.int ((n:Nat):Int)),.sh (.list (gs.map pD)),.im (.int ((i:Nat):Int)),.im (.int t.1),.im (.int t.2),.sn (.list (R.map pD)),.sp 0 true (L5++(M.map λx=>.list [.tuple [.int t.1,.int t.2],x])++(M.map λx=>.list [x,.tuple [.int t.1,.int t.2]])),.sn (.list M)]
 obtain⟨L6,e6⟩:∃L6,L6=L5++(M.map λx=>ì [.tuple [.int t.1,.int t.2],x])++(M.map λx=>ì [x,.tuple [.int t.1,.int t.2]]):=⟨_,rfl⟩
 have o6:∀x∈L6,oK n gs x:=by
  rw[e6]
  intro x hx
  rcases Ð.mp hx with hx|hx
  ·rcases Ð.mp hx with hx|hx
   ·exact o5 x hx
   ·obtain⟨y,hy,rfl⟩:=ë.mp hx
    exact cQ (by show 2<=400;decide) (by simp) (hM y hy)
  ·obtain⟨y,hy,rfl⟩:=ë.mp hx
   exact cQ (by show 2<=400;decide) Í (hM y hy)
 have n6:L6.length=47:=by rw[e6,Å,Å,lmm,lmm,n5]
 rw[←e6]
 clear e6
 have fin:∀L:List D,(∀x∈L,oK n gs x)->L.length<=100->u0 (tV 7) { nx:=λ_=>P .none,rt:=P } [.pen CP,.im (.int ((n:Nat):Int)),.sh (.list (gs.map pD)),.im (.int ((i:Nat):Int)),.im (.int t.1),.im (.int t.2),.sn (.list (R.map pD)),.sp 0 true L,.sn (.list M)]:=λL oL nL=>⟨rfl,q L oL nL⟩
 refine .inl ⟨by rw[←Ŭ];exact bC _,?_⟩
 have ee:ñ (.list (gs.map pD).reverse) (.list (gs.map pD))=decide (gs.reverse=gs):=by rw[←Ŭ,Ao]
 refine⟨by rw[←Ŭ];exact lA _,lA gs,?_⟩
 show if (!PyData.eqv (.list (gs.map pD).reverse) (.list (gs.map pD)))=true then _ else _
 rw[ee]
 refine jx (λc=>?_) (λc=>fin L6 o6 (by omega))
 have ne:gs.reverse≠gs:=λz=>by rw[decide_eq_true z] at c;exact absurd c Æ
 refine .inl ⟨by rw[←Ŭ];exact bC _,rfl,(show L6.length<1000 by omega),?_⟩
 refine fin (L6++[ì (gs.map pD).reverse]) (λx hx=>?_) (by rw[Å,n6];show 47+1<=100;decide)
 rcases Ð.mp hx with hx|hx
 ·exact o6 x hx
 rw[È.mp hx,←Ŭ]
 exact⟨oh (by rw[lm,List.length_reverse];omega),.inr ⟨gs.reverse,rfl,.inr (.inr (.inl λz=>ne (mK (λu hu=>nc u (List.mem_reverse.mp hu)) (ž gs) z ri)))⟩⟩
end
def jy(n:Nat)(H:List (List Int))(p:Int)(x:D):Prop:=rC x/\(wO ((n:Nat):Int) x=false\/x=.list ((H.filter λl=>!decide (p∈l)).map iD))
def MP(ds:List D)(P:D->Prop):Prop:=∃(n:Nat) (H:List (List Int)) (p:Int),ds=[.int ((n:Nat):Int),.list (H.map iD),.int p]/\1<=n/\n<=8/\Cz ((n:Nat):Int) H/\(∃l∈H,p∈l)/\H.length<=8/\∀L:List D,(∀x∈L,jy n H p x)->L.length<=100->P (.list L)
theorem Ac(l:List Int):(l.map Ã).all okD=true:=ø.mpr λx hx=>by
 obtain⟨y,_,rfl⟩:=ë.mp hx
 rfl
theorem Bb(l:List Int)(p:Int):((l.map Ã).any λe=>ñ e (.int p))=decide (p∈l):=by
 rw[Ď,List.any_eq_true,decide_eq_true_eq]
 constructor
 ·rintro⟨x,hx,e⟩
  obtain⟨y,hy,rfl⟩:=ë.mp hx
  have e:decide (y=p)=true:=e
  rw[←of_decide_eq_true e]
  exact hy
 ·exact λh=>⟨.int p,ë.mpr ⟨p,h,rfl⟩,decide_eq_true rfl⟩
theorem uV{n:Int}{es:List D}{e:D}(he:e∈es)(hb:aH n e=false):wO n (.list es)=false:=by
 show(es.all (aH n)&&qY (es.flatMap dF))=false
 rw[show es.all (aH n)=false from List.all_eq_false.mpr ⟨e,he,by rw[hb];exact Æ⟩]
 rfl
theorem fZ{n:Int}{e:D}(h:∀es,e≠.list es):aH n e=false:=by
 cases e with
 |list es=>exact absurd rfl (h es)
 |_=>rfl
theorem eU{n:Int}{es:List D}{x:D}(hx:x∈es)(hb:aP n x=false):aH n (.list es)=false:=by
 show((es.all (aP n)&&jB (es.map toI))&&_)=false
 rw[show es.all (aP n)=false from List.all_eq_false.mpr ⟨x,hx,by rw[hb];exact Æ⟩]
 rfl
theorem oW{n:Int}{l:List Int}(n16:n<=16)(h:¬Proper n l):aH n (iD l)=false:=by
 cases c:aH n (iD l) with
 |false=>rfl
 |true =>
  obtain⟨l',e,p⟩:=Dz n16 c
  rw[Fx e] at h
  exact absurd p h
section
variable {P:Program}{w:World}{K:Þ}{mg:Str->Option Value}{base:Heap}{f:Addr}{fd:FuncData}{CN P1 PT:Addr}
theorem gU:FnScope ["_law_pen_here","_law_n","_law_family","_law_place","_law_mine","_law_rest","_law_some"] ["_law_pen_here","_law_n","_law_family","_law_place"] (aj (top 41)):=zC
theorem eZ:(["_law_some","_law_pen_here","_law_n","_law_family","_law_place","_law_mine","_law_rest",""]:List Str).Nodup:=by decide +kernel
theorem eY:(["_law_one_here","_law_pen_here","_law_n","_law_family","_law_place","_law_mine","_law_rest","_law_some"]:List Str).Nodup:=by decide +kernel
theorem oE(F:Fun K "_law_families" "_law_families" (top 41) f fd)(B:ō mg)(m_str:mg "str"=none):FnOk P w K mg base CX0 1 f fd ["_law_pen_here","_law_n","_law_family","_law_place"] (Bh CP MP):=by
 refine F.ok gU Fp (λcdv A outer s H vs Q E hr h=>?_)
 have nd:=gU.nd
 refine⟨_,Dl.WR.h (Ż (Ę none (i:=4) nd rfl zQ (Ċ (Wr.iG ["_law_some"] ["_law_pen_here","_law_n","_law_family","_law_place","_law_mine","_law_rest",""] rfl (ę (Ç 2)) (λc=>(î (i:=0) eZ rfl zQ)) (λc=>(Wr.dN (Wr.mU hr.units (Ç 4) (Ç 0)))) (λc=>(Ç 0)) (hk:=rfl)) à))
  (Ż (Ę none (i:=5) nd rfl zQ (Wr.iG ["_law_some"] ["_law_pen_here","_law_n","_law_family","_law_place","_law_mine","_law_rest",""] rfl (ę (Ç 2)) (λc=>(î (i:=0) eZ rfl zQ)) (λc=>(Wr.dN (Wr.jk hr.units (Ç 4) (Ç 0)))) (λc=>(Ç 0)) (hk:=rfl)))
  (Ż (Wr.pF 0 false (i:=6) nd rfl zQ (À (Ç 5) (À (ß (Ç 2) (Ú (À (Ç 4) Â))) (À (ß (Ç 2) (Ú (À (Ú Â) Â))) (À (ß (Ç 2) (Ú (À (Wr.gw rfl B.list B.range (À (Ç 1) Â)) Â))) (À (Wr.eV B.tuple (À (Ç 2) Â)) (À (ß (Ç 5) (Ú (À (Wr.eV B.tuple (À (Ç 4) Â)) Â))) Â)))))))
  (Dl.pX 6 (Ż (ŝ 0 false (i:=6) nd rfl zQ (Ç 6) (Ú (À (ß (Ç 2) (Ú (À (Ú (À (Ç 3) Â)) Â))) (À (ß (Ç 5) (Ú (À (ß (Ç 4) (Ú (À (Ç 1) Â))) Â))) (À (ß (Ç 5) (Ú (À (ß (Ç 4) (Ú (À (Ċ (Ç 4) (Wr.fD à)) Â))) Â))) (À (ß (Ç 5) (Ú (À (ß (Ú (À (Wr.fD à) Â)) (Ç 4)) Â))) Â))))))
  (Dl.pX 6 (Ż (ŝ 0 false (i:=6) nd rfl zQ (Ç 6) (Ú (À (ß (Ç 5) (Ú (À (ß (Wr.nY (Ç 4) Wr.dR (Wr.cO (Wr.fD à))) (Ú (À (Wr.o7 m_str (À (Ċ (Ç 4) (Wr.fD à)) Â)) Â))) Â))) (À (ß (Ç 5) (Ú (À Wr.iC Â))) (À (ß (Ç 5) (Ú (À (Ç 3) Â))) (À (ß (Ç 5) (Ú (À Ś Â))) (À (ß (Ç 5) (Ú (À (Ú (À (Ç 4) Â)) Â))) Â)))))))
  (Dl.pX 6 (Ż (ŝ 0 false (i:=6) nd rfl zQ (Ç 6) (Ú (À (ß (Ç 2) (Ú (À Wr.iC Â))) (Wr.kI 6 ["_law_pen_here","_law_n","_law_family","_law_place","_law_mine","_law_rest","_law_some"] (aj (top 41)) (.cons .non (.cons (.int 0) (.cons (.bl true) (.cons (.str "family") (.cons .dct (.cons (.tup .nil) .nil)))))) (À (Ú (À (Ú (À (Wr.gw rfl B.list B.range (À (Ç 1) Â)) Â)) Â)) (À (ß (Ç 5) (Ú (À Wr.kY Â))) (Wr.kI 2 ["_law_pen_here","_law_n","_law_family","_law_place","_law_mine","_law_rest","_law_some"] (aj (top 41)) (.cons (.lst (.cons (.lst (.cons (.bl true) .nil)) .nil)) (.cons (.lst (.cons (.lst (.cons .dct .nil)) .nil)) .nil)) Â (by decide +kernel)))) (by decide +kernel)))))
  (Dl.pX 6 (Ż (ŝ 0 false (i:=6) nd rfl zQ (Ç 6) (Wr.cP ["_law_one_here"] rfl (ę (Wr.mW ["_law_pen_here","_law_n","_law_family","_law_place","_law_mine","_law_rest","_law_some"] (aj (top 41)) (.lst (.cons .non (.cons (.str "9") (.cons (.tup .nil) (.cons .dct (.cons (.lst (.cons (.var 3) .nil)) .nil)))))) (by decide +kernel))) (λc=>(î (i:=0) eY rfl zQ)) (λc=>ĺ) (λc=>(ß (Ç 6) (Ú (À (ß (Ç 5) (Ú (À (Ç 0) Â))) Â))))))
  (Dl.pX 6 (Ż (ŝ 0 false (i:=6) nd rfl zQ (Ç 6) (Wr.cP ["_law_one_here"] rfl (ę (Ú (À à (À Ś Â)))) (λc=>(î (i:=0) eY rfl zQ)) (λc=>ĺ) (λc=>(ß (Ç 6) (Ú (À (Ç 5) (À (Ç 0) Â)))))))
  (Ż (ś (Wr.p7 (Ţ B.len (À (Ç 4) Â)) à) (ú (Wr.lX (ű 6) (À (ß (Ç 5) (Ú (À (Wr.kW (Ç 4)) Â))) Â))) ĝ)
  (Dl.Ks (Ç 6)))))))))))))))),Jm h ?_⟩
 rintro ds P ⟨n,H,p,rfl,n1,n8,fk,hp,lH,q⟩
 refine⟨[.im (.int ((n:Nat):Int)),.sh (.list (H.map iD)),.im (.int p),.any,.any,.any],rfl,?_⟩
 have lm:∀l:List (List Int),(l.map iD).length=l.length:=λl=>Á ..
 obtain⟨M,eMf⟩:∃M,H.filter (λl=>decide (p∈l))=M:=⟨_,rfl⟩
 obtain⟨mi,r,eM⟩:∃mi r,M=mi::r:=by
  obtain⟨l,hl,hpl⟩:=hp
  have:l∈M:=by rw[←eMf];exact Ĭ.mpr ⟨hl,decide_eq_true hpl⟩
  cases M with
  |nil=>cases this
  |cons a r=>exact⟨a,r,rfl⟩
 have hmi:mi∈H/\p∈mi:=by
  have:mi∈H.filter λl=>decide (p∈l):=by rw[eMf,eM];exact Í
  have:=Ĭ.mp this
  exact⟨this.1,of_decide_eq_true this.2⟩
 have pm:=fk.1 mi hmi.1
 refine wF H iD (λl=>decide (p∈l)) iD .shr rfl (by omega) (λl hl A B hA hB=>?_) ?_
 ·refine⟨rfl,Ac l,?_⟩
  show if ((l.map Ã).any λe=>ñ e (.int p))=true then _ else _
  rw[Bb]
  cases c:decide (p∈l) with
  |true=>exact aL (B:=B) ⟨rfl,hA c⟩
  |false=>exact bF (A:=True) (hB c)
 rw[eMf,eM]
 refine⟨iD mi,(show atI ((mi::r).map iD) 0=some (iD mi) from gP (j:=0) rfl),?_⟩
 obtain⟨R,eR⟩:∃R,H.filter (λl=>!decide (p∈l))=R:=⟨_,rfl⟩
 refine wF H iD (λl=>!decide (p∈l)) iD .shr rfl (by omega) (λl hl A B hA hB=>?_) ?_
 ·refine⟨rfl,Ac l,?_⟩
  show if (!((l.map Ã).any λe=>ñ e (.int p)))=true then _ else _
  rw[Bb]
  cases c:decide (p∈l) with
  |true=>exact bF (A:=True) (hB (by rw[c];rfl))
  |false=>exact aL (B:=B) ⟨rfl,hA (by rw[c];rfl)⟩
 rw[eR]
 show vQ _ _ _ [.pen (Dl.CE CP),.im (.int ((n:Nat):Int)),.sh (.list (H.map iD)),.im (.int p),.sh (iD mi),.sh (.list (R.map iD)),.any]
 have lR:R.length<=8:=by have:=List.length_filter_le (λl=>!decide (p∈l)) H;rw[eR] at this;omega
 have sz:∀l∈H,l.length<=8:=λl hl=>by have:=(fk.1 l hl).few;omega
 have RH:∀l∈R,l∈H:=λl hl=>by rw[←eR] at hl;exact(Ĭ.mp hl).1
 have fl:∀l:List Int,l.length<=400->Few (iD l):=λl hl es e=>by cases e;rw[Á];exact hl
 have fx:∀x:D,(∀es,x≠.list es)->Few x:=λx h es e=>absurd e (h es)
 have fe:∀es:List D,es.length<=400->Few (.list es):=λes h es' e=>by cases e;exact h
 have fF:∀(G:List (List Int)) (x:D),(∀l∈G,l∈H)->G.length<=8->Few x->rC (.list (G.map iD++[x])):=λG x hG lG hx es e=>by
  cases e
  refine⟨by rw[Å,lm];show G.length+1<=60;omega,λe he=>?_⟩
  rcases Ð.mp he with z|z
  ·obtain⟨l,hl,rfl⟩:=ë.mp z
   exact fl l (by have:=sz l (hG l hl);omega)
  ·rw[È.mp z];exact hx
 have oH:∀x:D,Few x->aH ((n:Nat):Int) x=false->jy n H p (.list (H.map iD++[x])):=λx hx hb=>⟨fF H x (λ_ h=>h) lH hx,.inl (uV (Õ _ (È.mpr rfl)) hb)⟩
 have oR:∀x:D,Few x->aH ((n:Nat):Int) x=false->jy n H p (.list (R.map iD++[x])):=λx hx hb=>⟨fF R x RH lR hx,.inl (uV (Õ _ (È.mpr rfl)) hb)⟩
 have oD:∀l:List Int,p∈l->l.length<=400->jy n H p (.list (H.map iD++[iD l])):=λl hl ll=>by
  refine⟨fF H _ (λ_ h=>h) lH (fl l ll),.inl ?_⟩
  cases c:wO ((n:Nat):Int) (.list (H.map iD++[iD l])) with
  |false=>rfl
  |true =>
   have e:H.map iD++[iD l]=(H++[l]).map iD:=by rw[å];rfl
   rw[e] at c
   have nd:=((pB (by omega)).mp c).2
   rw[List.flatten_append,List.flatten_singleton] at nd
   exact absurd rfl ((Ť.mp nd).2.2 p (Ė.mpr ⟨mi,hmi.1,hmi.2⟩) p hl)
 have oX:∀x:D,(∀es,x≠.list es)->jy n H p x:=λx h=>⟨λes e=>absurd e (h es),.inl (by
  cases x with
  |list es=>exact absurd rfl (h es)
  |_=>rfl)⟩
 have oRest:jy n H p (.list (R.map iD)):=⟨λes e=>by
  cases e
  refine⟨by rw[lm];omega,λe he=>?_⟩
  obtain⟨l,hl,rfl⟩:=ë.mp he
  exact fl l (by have:=sz l (RH l hl);omega),.inr (by rw[eR])⟩
 have lH1:(H.map iD).length+1<=1000:=by rw[lm];omega
 have lR1:(R.map iD).length+1<=1000:=by rw[lm];omega
 refine⟨zK,lH1,.inr ⟨zK,zK,lH1,.inr ⟨⟨by omega,by omega⟩,zK,lH1,.inr ⟨zK,lR1,.inr ?_⟩⟩⟩⟩
 refine⟨zK,?_,rfl,rfl,?_⟩
 ·have nt1:norm Kd.shr (.tuple (mi.map Ã))=.imm:=ľ (dD mi)
  by_cases hh:bK (.tuple (H.map iD))=true
  ·have nT:∀k,norm k (.tuple (H.map iD))=.imm:=λk=>ľ hh
   simp only[ş,List.all_nil,nT,nt1]
   rfl
  ·have nT:∀k,norm k (.tuple (H.map iD))=k:=λk=>Ŀ hh
   simp only[ş,List.all_nil,nT,nt1]
   rfl
 show vQ _ _ _ [.pen (Dl.CE CP),.im (.int ((n:Nat):Int)),.sh (.list (H.map iD)),.im (.int p),.sh (iD mi),.sh (.list (R.map iD)),.sh (.list [ì (R.map iD),.list (H.map iD++[iD mi]),.list (H.map iD++[.list []]),.list (H.map iD++[.list (cJ 0 (((n:Nat):Int) - 0).toNat)]),.tuple (H.map iD),.list (R.map iD++[.tuple (mi.map Ã)])])]
 obtain⟨L1,e1⟩:∃L1,L1=[ì (R.map iD),.list (H.map iD++[iD mi]),.list (H.map iD++[.list []]),.list (H.map iD++[.list (cJ 0 (((n:Nat):Int) - 0).toNat)]),.tuple (H.map iD),.list (R.map iD++[.tuple (mi.map Ã)])]:=⟨_,rfl⟩
 have o1:∀x∈L1,jy n H p x:=by
  rw[e1]
  intro x hx
  simp only[á,ĕ,or_false] at hx
  rcases hx with rfl|rfl|rfl|rfl|rfl|rfl
  ·exact oRest
  ·exact oD mi hmi.2 (by have:=sz mi hmi.1;omega)
  ·exact oH _ (fe [] (by decide)) (oW (l:=[]) (by omega) λz=>by have:=z.one;simp at this)
  ·have e:cJ 0 (((n:Nat):Int) - 0).toNat=((è (((n:Nat):Int) - 0).toNat).map λi=>(0:Int)+((i:Nat):Int)).map Ã:=by
    unfold cJ
    rw[ü]
    rfl
   have len:(cJ 0 (((n:Nat):Int) - 0).toNat).length=n:=by rw[cI];omega
   refine oH _ (fe _ (by omega)) ?_
   rw[e]
   refine oW (by omega) λz=>?_
   have:=z.few
   rw[Á,ť] at this
   omega
  ·exact oX _ λes e=>nomatch e
  ·exact oR _ (fx _ λes e=>nomatch e) (fZ λes e=>nomatch e)
 have k1:L1.length=6:=by rw[e1];rfl
 rw[←e1]
 clear e1
 have l8:=sz mi hmi.1
 have lmi:(mi.map Ã).length=mi.length:=Á ..
 obtain⟨mj,la,ela⟩:∃mj la,mi=mj++[la]:=by
  have:=pm.one
  exact⟨mi.dropLast,mi.getLast (λz=>by rw[z] at this;simp at this),(List.dropLast_concat_getLast _).symm⟩
 have ala:atI (mi.map Ã) (-1)=some (.int la):=by
  rw[ela,å]
  exact Gy _ _
 have lm1:(mi.map Ã).length+1<=1000:=by omega
 refine⟨zK,zK,lH1,.inr ⟨zK,lm1,.inr ⟨zK,lR1,.inr ⟨.int la,ala,zK,lm1,.inr ⟨zK,lR1,.inr ⟨zK,(show 1+(mi.map Ã).length<=1000 by omega),.inr ⟨zK,lR1,.inr ?_⟩⟩⟩⟩⟩⟩⟩
 refine⟨zK,rfl,rfl,(show L1.length+4<=1000 by omega),rfl,rfl,?_⟩
 show vQ _ _ _ [.pen (Dl.CE CP),.im (.int ((n:Nat):Int)),.sh (.list (H.map iD)),.im (.int p),.sh (iD mi),.sh (.list (R.map iD)),.sh (.list (L1++[ì (H.map iD++[.list [.int p]]),.list (R.map iD++[.list (mi.map Ã++[.int ((n:Nat):Int)])]),.list (R.map iD++[.list (mi.map Ã++[.int la])]),.list (R.map iD++[.list ([.int (-1)]++mi.map Ã)])]))]
 obtain⟨L2,e2⟩:∃L2,L2=L1++[ì (H.map iD++[.list [.int p]]),.list (R.map iD++[.list (mi.map Ã++[.int ((n:Nat):Int)])]),.list (R.map iD++[.list (mi.map Ã++[.int la])]),.list (R.map iD++[.list ([.int (-1)]++mi.map Ã)])]:=⟨_,rfl⟩
 have np:∀{l:List Int}{x:Int},l.Pairwise (·<·)->l.getLast?=some x->¬(l++[x]).Pairwise (·<·):=λ{l x} _ h z=>by
  have mx:x∈l:=List.mem_of_getLast? h
  have:=(List.pairwise_append.mp z).2.2 x mx x (È.mpr rfl)
  omega
 have o2:∀x∈L2,jy n H p x:=by
  rw[e2]
  intro x hx
  rcases Ð.mp hx with hx|hx
  ·exact o1 x hx
  simp only[á,ĕ,or_false] at hx
  rcases hx with rfl|rfl|rfl|rfl
  ·exact oD [p] (È.mpr rfl) (by show 1<=400;decide)
  ·exact oR _ (fe _ (by rw[Å];show(mi.map Ã).length+1<=400;omega)) (eU (Õ _ (È.mpr rfl)) (by show(decide _)=false;exact decide_eq_false λz=>by omega))
  ·have e:mi.map Ã++[.int la]=(mi++[la]).map Ã:=by rw[å];rfl
   rw[e]
   exact oR _ (fl _ (by rw[Å];show mi.length+1<=400;omega)) (oW (by omega) λz=>np pm.rise (by rw[ela];exact List.getLast?_concat ..) z.rise)
  ·exact oR _ (fe _ (by rw[Å];show 1+(mi.map Ã).length<=400;omega)) (eU (x:=.int (-1)) (ô _ (È.mpr rfl)) (by show decide ((0:Int)<=-1/\(-1:Int)<((n:Nat):Int))=false;exact decide_eq_false λz=>by omega))
 have k2:L2.length=10:=by rw[e2,Å,k1];rfl
 rw[←e2]
 clear e2
 have lcu:(bM (mi.map Ã) none (some (-1))).length<=mi.length:=by
  unfold bM
  rw[ğ,ý,lmi]
  omega
 have la8:la.natAbs.log2<1920:=by
  have:=pm.rng la (by rw[ela];exact Õ _ (È.mpr rfl))
  have:=Nat.log2_le_self la.natAbs
  omega
 refine .inr ⟨.int la,ala,la8,zK,(show(bM (mi.map Ã) none (some (-1))).length+1<=1000 by omega),.inr ⟨zK,lR1,.inr ⟨zK,lR1,.inr ⟨zK,lR1,.inr ⟨zK,lR1,.inr ⟨zK,zK,lR1,.inr ?_⟩⟩⟩⟩⟩⟩
 refine⟨zK,rfl,rfl,(show L2.length+5<=1000 by omega),rfl,rfl,?_⟩
 show vQ _ _ _ [.pen (Dl.CE CP),.im (.int ((n:Nat):Int)),.sh (.list (H.map iD)),.im (.int p),.sh (iD mi),.sh (.list (R.map iD)),.sh (.list (L2++[ì (R.map iD++[.list (bM (mi.map Ã) none (some (-1))++[.str (toString la)])]),.list (R.map iD++[.none]),.list (R.map iD++[.int p]),.list (R.map iD++[.str "0"]),.list (R.map iD++[.list [iD mi]])]))]
 obtain⟨L3,e3⟩:∃L3,L3=L2++[ì (R.map iD++[.list (bM (mi.map Ã) none (some (-1))++[.str (toString la)])]),.list (R.map iD++[.none]),.list (R.map iD++[.int p]),.list (R.map iD++[.str "0"]),.list (R.map iD++[.list [iD mi]])]:=⟨_,rfl⟩
 have o3:∀x∈L3,jy n H p x:=by
  rw[e3]
  intro x hx
  rcases Ð.mp hx with hx|hx
  ·exact o2 x hx
  simp only[á,ĕ,or_false] at hx
  rcases hx with rfl|rfl|rfl|rfl|rfl
  ·exact oR _ (fe _ (by rw[Å];show(bM (mi.map Ã) none (some (-1))).length+1<=400;omega)) (eU (Õ _ (È.mpr rfl)) rfl)
  ·exact oR _ (fx _ λes e=>nomatch e) (fZ λes e=>nomatch e)
  ·exact oR _ (fx _ λes e=>nomatch e) (fZ λes e=>nomatch e)
  ·exact oR _ (fx _ λes e=>nomatch e) (fZ λes e=>nomatch e)
  ·exact oR _ (fe _ (by show 1<=400;decide)) (eU (È.mpr rfl) rfl)
 have k3:L3.length=15:=by rw[e3,Å,k2];rfl
 rw[←e3]
 clear e3
 refine⟨zK,lH1,.inr ⟨_,rfl,⟨by omega,by omega⟩,zK,zK,zK,lR1,.inr ⟨_,rfl,?_⟩⟩⟩
 refine⟨zK,rfl,rfl,(show L3.length+11<=1000 by omega),rfl,rfl,?_⟩
 show vQ _ _ _ [.pen (Dl.CE CP),.im (.int ((n:Nat):Int)),.sh (.list (H.map iD)),.im (.int p),.sh (iD mi),.sh (.list (R.map iD)),.sh (.list (L3++[ì (H.map iD++[.none]),.none,.int 0,.bool true,.str "family",.dict [],.tuple [],.list [.list [.list (cJ 0 (((n:Nat):Int) - 0).toNat)]],.list (R.map iD++[.dict []]),.list [.list [.bool true]],.list [.list [.dict []]]]))]
 obtain⟨L4,e4⟩:∃L4,L4=L3++[ì (H.map iD++[.none]),.none,.int 0,.bool true,.str "family",.dict [],.tuple [],.list [.list [.list (cJ 0 (((n:Nat):Int) - 0).toNat)]],.list (R.map iD++[.dict []]),.list [.list [.bool true]],.list [.list [.dict []]]]:=⟨_,rfl⟩
 have lrg:(cJ 0 (((n:Nat):Int) - 0).toNat).length<=8:=by rw[cI];omega
 have f1:∀x:D,Few x->rC (.list [x]):=λx hx es e=>by
  cases e
  exact⟨by show 1<=60;decide,λe he=>by rw[È.mp he];exact hx⟩
 have oS:∀x:D,Few x->aH ((n:Nat):Int) x=false->jy n H p (.list [x]):=λx hx hb=>⟨f1 x hx,.inl (uV (È.mpr rfl) hb)⟩
 have o4:∀x∈L4,jy n H p x:=by
  rw[e4]
  intro x hx
  rcases Ð.mp hx with hx|hx
  ·exact o3 x hx
  simp only[á,ĕ,or_false] at hx
  rcases hx with rfl|rfl|rfl|rfl|rfl|rfl|rfl|rfl|rfl|rfl|rfl
  ·exact oH _ (fx _ λes e=>nomatch e) (fZ λes e=>nomatch e)
  ·exact oX _ λes e=>nomatch e
  ·exact oX _ λes e=>nomatch e
  ·exact oX _ λes e=>nomatch e
  ·exact oX _ λes e=>nomatch e
  ·exact oX _ λes e=>nomatch e
  ·exact oX _ λes e=>nomatch e
  ·exact oS _ (fe _ (by show 1<=400;decide)) (eU (È.mpr rfl) rfl)
  ·exact oR _ (fx _ λes e=>nomatch e) (fZ λes e=>nomatch e)
  ·exact oS _ (fe _ (by show 1<=400;decide)) (eU (È.mpr rfl) rfl)
  ·exact oS _ (fe _ (by show 1<=400;decide)) (eU (È.mpr rfl) rfl)
 have k4:L4.length=26:=by rw[e4,Å,k3];rfl
 rw[←e4]
 clear e4
 refine⟨_,_,rfl,?_⟩
 obtain⟨M,eM2⟩:∃M,M=[PyData.none,.str "9",.tuple [],.dict [],.list [.int p]]:=⟨_,rfl⟩
 have hM:∀x∈M,aP ((n:Nat):Int) x=false:=by
  rw[eM2]
  intro x hx
  simp only[á,ĕ,or_false] at hx
  rcases hx with rfl|rfl|rfl|rfl|rfl <;> rfl
 have nM:M.length=5:=by rw[eM2];rfl
 refine uN M (λx=>x) (λx=>.list (R.map iD++[.list (mi.map Ã++[x])])) .shr (by rw[List.map_id',eM2];rfl) (by omega) (λx hx A B hA=>?_) ?_
 ·by_cases hi:bK x=true
  ·have en:∀k,norm k x=.imm:=λk=>ľ hi
   unfold gNm
   simp only[en]
   exact aL (B:=B) ⟨zK,lm1,.inr ⟨zK,lR1,.inr ⟨rfl,hA⟩⟩⟩
  ·have en:∀k,norm k x=k:=λk=>Ŀ hi
   unfold gNm
   simp only[en]
   exact aL (B:=B) ⟨zK,lm1,.inr ⟨zK,lR1,.inr ⟨rfl,hA⟩⟩⟩
 have lmm:∀g:D->D,(M.map g).length=5:=λg=>by rw[Á,nM]
 refine⟨rfl,rfl,by rw[lmm];omega,rfl,rfl,?_⟩
 show vQ _ _ _ [.pen (Dl.CE CP),.im (.int ((n:Nat):Int)),.sh (.list (H.map iD)),.im (.int p),.sh (iD mi),.sh (.list (R.map iD)),.sh (.list (L4++M.map λx=>.list (R.map iD++[.list (mi.map Ã++[x])])))]
 obtain⟨L5,e5⟩:∃L5,L5=L4++M.map λx=>ì (R.map iD++[.list (mi.map Ã++[x])]):=⟨_,rfl⟩
 have o5:∀x∈L5,jy n H p x:=by
  rw[e5]
  intro x hx
  rcases Ð.mp hx with hx|hx
  ·exact o4 x hx
  obtain⟨y,hy,rfl⟩:=ë.mp hx
  exact oR _ (fe _ (by rw[Å];show(mi.map Ã).length+1<=400;omega)) (eU (Õ _ (È.mpr rfl)) (hM y hy))
 have k5:L5.length=31:=by rw[e5,Å,lmm,k4]
 rw[←e5]
 clear e5
 have lR2:(R.map iD).length+2<=1000:=by rw[lm];omega
 refine⟨zK,?_⟩
 refine uN [Ã 0,.str ""] (λx=>x) (λx=>.list (R.map iD++[iD mi,x])) .shr (by rw[List.map_id'];rfl) (by decide) (λx hx A B hA=>?_) ?_
 ·by_cases hi:bK x=true
  ·have en:∀k,norm k x=.imm:=λk=>ľ hi
   unfold gNm
   simp only[en]
   exact aL (B:=B) ⟨zK,lR2,.inr ⟨rfl,hA⟩⟩
  ·have en:∀k,norm k x=k:=λk=>Ŀ hi
   unfold gNm
   simp only[en]
   exact aL (B:=B) ⟨zK,lR2,.inr ⟨rfl,hA⟩⟩
 refine⟨rfl,rfl,(show L5.length+2<=1000 by omega),rfl,?_⟩
 show vQ _ _ _ [.pen (Dl.CE CP),.im (.int ((n:Nat):Int)),.sh (.list (H.map iD)),.im (.int p),.sh (iD mi),.sh (.list (R.map iD)),.sp 0 false (L5++[ì (R.map iD++[iD mi,.int 0]),.list (R.map iD++[iD mi,.str ""])])]
 obtain⟨L6,e6⟩:∃L6,L6=L5++[ì (R.map iD++[iD mi,.int 0]),.list (R.map iD++[iD mi,.str ""])]:=⟨_,rfl⟩
 have oT:∀x:D,(∀es,x≠.list es)->jy n H p (.list (R.map iD++[iD mi,x])):=λx hx=>by
  refine⟨λes e=>?_,.inl (uV (e:=x) (Õ _ (Î _ (È.mpr rfl))) (fZ hx))⟩
  cases e
  refine⟨by rw[Å,lm];show R.length+2<=60;omega,λe he=>?_⟩
  rcases Ð.mp he with z|z
  ·obtain⟨l,hl,rfl⟩:=ë.mp z
   exact fl l (by have:=sz l (RH l hl);omega)
  ·rcases á.mp z with rfl|z
   ·exact fl mi (by omega)
   ·rw[È.mp z];exact fx x hx
 have o6:∀x∈L6,jy n H p x:=by
  rw[e6]
  intro x hx
  rcases Ð.mp hx with hx|hx
  ·exact o5 x hx
  simp only[á,ĕ,or_false] at hx
  rcases hx with rfl|rfl
  ·exact oT _ λes e=>nomatch e
  ·exact oT _ λes e=>nomatch e
 have k6:L6.length=33:=by rw[e6,Å,k5];rfl
 rw[←e6]
 clear e6
 have fin:∀L:List D,(∀x∈L,jy n H p x)->L.length<=100->Ov (tV 6) P [.pen (Dl.CE CP),.im (.int ((n:Nat):Int)),.sh (.list (H.map iD)),.im (.int p),.sh (iD mi),.sh (.list (R.map iD)),.sp 0 false L]:=λL oL nL=>q L oL nL
 show if decide ((1:Int)<(((mi.map Ã).length:Nat):Int))=true then _ else _
 refine jx (λc=>?_) (λc=>fin L6 o6 (by omega))
 have c:=of_decide_eq_true c
 refine .inr ⟨zK,lR1,.inr ⟨rfl,(show L6.length<1000 by omega),?_⟩⟩
 refine fin (L6++[ì (R.map iD++[.list (mi.map Ã).reverse])]) (λx hx=>?_) (by rw[Å,k6];show 33+1<=100;decide)
 rcases Ð.mp hx with hx|hx
 ·exact o6 x hx
 rw[È.mp hx,←Ŭ]
 refine oR _ (fl _ (by rw[List.length_reverse];omega)) (oW (by omega) λz=>?_)
 have z:=List.pairwise_reverse.mp z.rise
 have r:=pm.rise
 match mi,c,z,r with
 |[],c,_,_=>simp at c
 |[a],c,_,_=>simp at c
 |a::b::t,_,z,r =>
  have h1:=(ŀ.mp z).1 b Í
  have h2:=(ŀ.mp r).1 b Í
  omega
end
def fLk(ds:List D)(P:D->Prop):Prop:=∃(n:Int) (us:List Tie) (fa:Int) (s:Str) (l:List Int),ds=[aM n us,.int fa,.str s,.list (l.map Ã)]/\us.length<=100/\(s="in"\/s="out")/\P (.int (WO us fa s l))
theorem Aj(t:Tie)(R:List Tie)(l:List Int):inN (t::R) l=inN R l+(bV l t).toNat:=by
 unfold inN
 cases c:bV l t with
 |true=>rw[ķ c];rfl
 |false=>rw[ĸ (by rw[c];exact Æ)];rfl
theorem tL{n k:Nat}{us gs:List Tie}{H:List (List Int)}(M:Mdl n k us gs H){l:List Int}(hl:l∈H):WO us ((k:Int) - 1) "in" l=((inN gs l:Nat):Int)/\WO us ((k:Int) - 1) "out" l=((iI gs l:Nat):Int):=by
 have:=M.ins l hl
 unfold WO nd1 byS
 rw[if_pos rfl,if_neg (show ¬("out":Str)="in" by decide +kernel)]
 constructor <;> split <;> omega
theorem jQ{n k:Nat}{us gs:List Tie}{H:List (List Int)}(M:Mdl n k us gs H){s:Str}(hs:s="in"\/s="out"):(H.map (WO us ((k:Int) - 1) s)).sum=((gs.length:Nat):Int):=by
 rcases hs with rfl|rfl
 ·rw[Œ λl hl=>(tL M hl).1,pO,M.all.1]
 ·rw[Œ λl hl=>(tL M hl).2,pO,M.all.2]
theorem Ia{n k:Nat}{us gs:List Tie}{H:List (List Int)}(k1:1<=k)(M:Mdl n k us gs H){x:D}(h:oK n gs x):¬zp n us ((k:Int) - 1) x (.str "in") (.list (H.map iD)):=by
 rintro⟨A,s,F,rfl,e2,e3,z⟩
 cases e2
 obtain rfl:=lJ e3
 have few:=z.few
 rw[jQ M (.inl rfl)] at few
 have less:∀(t:Tie) (R:List Tie),(t::R).Perm gs->(∀l∈H,bV l t=true->inN A l=inN R l)->False:=λt R p hA=>by
  obtain⟨l,hl,ht⟩:=M.ent t (p.mem_iff.mp Í)
  have st:=z.st (mb l) (xU (M.fam.1 l hl))
  rw[wI] at st
  have e1:inN (us++A) l=inN us l+inN A l:=by unfold inN;rw[Ÿ,Å]
  have e4:=Aj t R l
  have e5:inN (t::R) l=inN gs l:=(fu p λ_=>Iff.rfl).1
  have:=(M.ins l hl).1
  have:=hA l hl ht
  rw[ht] at e4
  have e4:inN (t::R) l=inN R l+1:=e4
  omega
 obtain⟨_,nt|⟨A',e,h⟩⟩:=h
 ·exact nt A rfl z.gd
 obtain rfl:=mZ e
 rcases h with ⟨t,p⟩|h|h|⟨t,R,p,p2⟩
 ·exact less t A p λ_ _ _=>rfl
 ·omega
 ·exact h z.rise
 ·refine less t R p λl hl ht=>?_
  rw[(fu p2 λ_=>Iff.rfl).1,Aj]
  have:bV l (t.2,t.1)=false:=by
   unfold bV at ht ⊢
   rw[Ê] at ht
   show(!decide (t.2∈l)&&decide (t.1∈l))=false
   rw[ht.2]
   rfl
  rw[this]
  rfl
section
variable {P:Program}{w:World}{K:Þ}{mg:Str->Option Value}{base:Heap}{f:Addr}{fd:FuncData}{CN P1 PT:Addr}
theorem nW:FnScope ["_law_web","_law_falls","_law_side","_law_some","_law_ties"] ["_law_web","_law_falls","_law_side","_law_some"] (aj (top 42)):=zC
theorem jD:(["_law_a","_law_b","_law_web","_law_falls","_law_side","_law_some","_law_ties"]:List Str).Nodup:=by decide +kernel
theorem qZ:(["_law_tie","_law_web","_law_falls","_law_side","_law_some","_law_ties"]:List Str).Nodup:=by decide +kernel
theorem wg(F:Fun K "_law_lack" "_law_lack" (top 42) f fd)(B:ō mg):FnOk P w K mg base CX0 1 f fd ["_law_web","_law_falls","_law_side","_law_some"] (spD fLk):=by
 refine F.ok nW ĭ (λcdv A outer s H vs Q E hr h=>?_)
 have nd:=nW.nd
 refine⟨_,İ (Ü (Ę none (i:=4) nd rfl zQ (Ċ (Ç 0) à))
  (Ü (ś (Wr.gb hr.units (Ç 2) Ś) (ú (Wr.wR none ["_law_a","_law_b"] (i:=4) rfl nd rfl zQ (ę (Ċ (Ç 0) à)) (λc=>(Wr.jM (n:=2) rfl (Ľ (î (i:=0) jD rfl zQ) (Ľ (î (i:=1) jD rfl zQ) Wr.gK)))) (λc=>ĺ) (λc=>(õ (À (Ç 1) (À (Ç 0) Â)))))) ĝ)
  (ú (Ē (Wr.o8 rfl B.max (À à (À (Wr.gn (ß (Ç 1) à) (Ţ B.len (À (Wr.cP ["_law_tie"] rfl (ę (Ç 4)) (λc=>(î (i:=0) qZ rfl zQ)) (λc=>(Wr.dN (Wr.wpt (Wr.oZ (Wr.jk hr.units (Ċ (Ç 0) à) (Ç 4)) (Wr.kj (Wr.mU hr.units (Ċ (Ç 0) à) (Ç 4))))))) (λc=>(Ç 0))) Â))) Â))))))),aX h ?_⟩
 rintro ds P ⟨n,us,fa,s,l,rfl,lu,hs,q⟩
 refine⟨[.im (aM n us),.im (.int fa),.im (.str s),.sh (.list (l.map Ã)),.any],by show [aQ (aM _ us),_,_,_,.any]=_;rw[bR];rfl,?_⟩
 have ew:(if fa+1 - ((byS us s l:Nat):Int) > 0 then fa+1 - ((byS us s l:Nat):Int) else 0)=WO us fa s l:=by
  unfold WO nd1
  split <;> split <;> omega
 refine⟨_,rfl,jx (λc=>?_) (λc=>?_)⟩
 ·have c:s=Str.ofString "out":=of_decide_eq_true c
  refine⟨_,rfl,?_⟩
  refine uN us pD (λt=>pD (swp t)) .imm rfl (by omega) (λt ht A B hA=>⟨rfl,aL (B:=B) ⟨zK,rfl,hA⟩⟩) ?_
  refine wF (us.map swp) pD (bV l) pD .imm (by rw[ü];rfl) (by rw[Á];omega) (λt ht A B hA hB=>⟨.int t.1,rfl,rfl,dJ l,?_⟩) ?_
  ·show if (!((l.map Ã).any λe=>ñ e (.int t.1)))=true then _ else _
   rw[Ž]
   unfold bV at hA hB
   cases h1:decide (t.1∈l) with
   |true =>
    rw[h1] at hB
    exact bF (A:=True) (bF (A:=True) (hB rfl))
   |false =>
    rw[h1] at hA hB
    refine aL (B:=True) ⟨.int t.2,rfl,rfl,dJ l,?_⟩
    show if ((l.map Ã).any λe=>ñ e (.int t.2))=true then _ else _
    rw[Ž]
    cases hb:decide (t.2∈l) with
    |true =>
     rw[hb] at hA
     exact aL (B:=True) ⟨rfl,hA rfl⟩
    |false =>
     rw[hb] at hB
     exact bF (A:=True) (hB rfl)
  have e:((us.map swp).filter (bV l)).length=byS us s l:=by
   have:=Mt us l
   unfold byS
   rw[c,if_neg (by decide +kernel)]
   exact this
  refine⟨rfl,?_⟩
  show P (.int (if fa+1 - ((((((us.map swp).filter (bV l)).map pD).length:Nat)):Int) > 0 then fa+1 - ((((((us.map swp).filter (bV l)).map pD).length:Nat)):Int) else 0))
  rw[Á,e,ew]
  exact q
 ·have c:s≠Str.ofString "out":=λz=>c (decide_eq_true z)
  refine wF (us) pD (bV l) pD .imm rfl (by omega) (λt ht A B hA hB=>⟨.int t.1,rfl,rfl,dJ l,?_⟩) ?_
  ·show if (!((l.map Ã).any λe=>ñ e (.int t.1)))=true then _ else _
   rw[Ž]
   unfold bV at hA hB
   cases h1:decide (t.1∈l) with
   |true =>
    rw[h1] at hB
    exact bF (A:=True) (bF (A:=True) (hB rfl))
   |false =>
    rw[h1] at hA hB
    refine aL (B:=True) ⟨.int t.2,rfl,rfl,dJ l,?_⟩
    show if ((l.map Ã).any λe=>ñ e (.int t.2))=true then _ else _
    rw[Ž]
    cases hb:decide (t.2∈l) with
    |true =>
     rw[hb] at hA
     exact aL (B:=True) ⟨rfl,hA rfl⟩
    |false =>
     rw[hb] at hB
     exact bF (A:=True) (hB rfl)
  have e:(us.filter (bV l)).length=byS us s l:=by
   unfold byS
   rcases hs with z|z
   ·rw[z,if_pos rfl];rfl
   ·exact absurd z c
  refine⟨rfl,?_⟩
  show P (.int (if fa+1 - (((((us.filter (bV l)).map pD).length:Nat)):Int) > 0 then fa+1 - (((((us.filter (bV l)).map pD).length:Nat)):Int) else 0))
  rw[Á,e,ew]
  exact q
end
theorem zA(W:List Int->Int)(h0:∀l,0<=W l):∀T:List (List Int),((T.filter λl=>decide (0<W l)).map W).sum=(T.map W).sum
 |[]=>rfl
 |l::T=>by
  have ih:=zA W h0 T
  have:=h0 l
  cases c:decide (0<W l) with
  |true=>rw[ķ (p:=λl=>decide (0<W l)) c,ê,ê,ö,ö,ih]
  |false =>
   have c2:=of_decide_eq_false c
   rw[ĸ (p:=λl=>decide (0<W l)) (by rw[c];exact Æ),ê,ö,ih]
   omega
theorem rJ(W:List Int->Int)(q:List Int->Bool):∀H:List (List Int),(H.map W).sum=((H.filter q).map W).sum+((H.filter λl=>!q l).map W).sum
 |[]=>rfl
 |l::H=>by
  have ih:=rJ W q H
  cases c:q l with
  |true=>rw[ķ (p:=q) c,ĸ (p:=λl=>!q l) (by rw[c];exact Æ),ê,ê,ö,ö,ih];omega
  |false=>rw[ĸ (p:=q) (by rw[c];exact Æ),ķ (p:=λl=>!q l) (by rw[c];rfl),ê,ê,ö,ö,ih];omega
theorem Dk(W:List Int->Int)(h0:∀l,0<=W l){l:List Int}:∀{L:List (List Int)},l∈L->W l<=(L.map W).sum
 |a::L,h=>by
  have nn:∀L:List (List Int),0<=(L.map W).sum:=λL=>by
   induction L with
   |nil=>exact ÿ _
   |cons a L ih=>have:=h0 a;rw[ê,ö];omega
  rw[ê,ö]
  rcases á.mp h with rfl|h
  ·have:=nn L;omega
  ·have:=Dk W h0 h;have:=h0 a;omega
theorem H9{n k:Nat}{us gs:List Tie}{H:List (List Int)}(k1:1<=k)(M:Mdl n k us gs H){s:Str}{t:Tie}{p:Int}(ht:t∈gs)(hs:(s="in"/\p=t.2)\/(s="out"/\p=t.1)){x:D}(h:jy n H p x):¬zp n us ((k:Int) - 1) (.list (gs.map pD)) (.str s) x:=by
 rintro⟨A,s',F,e1,e2,rfl,z⟩
 cases e2
 obtain rfl:=mZ e1
 obtain⟨_,h|h⟩:=h
 ·have n8:=M.n8
  rw[(pB (by omega)).mpr z.fam] at h
  cases h
 ·obtain rfl:=lJ h
  have few:=z.few
  have sp:=rJ (WO us ((k:Int) - 1) s) (λl=>decide (p∈l)) H
  have hs':s="in"\/s="out":=hs.imp (·.1) (·.1)
  rw[jQ M hs'] at sp
  have big:∃l∈H,p∈l/\1<=WO us ((k:Int) - 1) s l:=by
   have pos:∀(f:Tie->Bool),f t=true->1<=(gs.filter f).length:=λf hf=>List.length_pos_of_mem (Ĭ.mpr ⟨ht,hf⟩)
   rcases hs with ⟨rfl,rfl⟩|⟨rfl,rfl⟩
   ·obtain⟨l,hl,e⟩:=M.ent t ht
    refine⟨l,hl,?_,?_⟩
    ·unfold bV at e
     rw[Ê] at e
     exact of_decide_eq_true e.2
    ·rw[(tL M hl).1]
     have:=pos (bV l) e
     unfold inN
     omega
   ·obtain⟨l,hl,e⟩:=M.lev t ht
    refine⟨l,hl,?_,?_⟩
    ·unfold cF at e
     rw[Ê] at e
     exact of_decide_eq_true e.1
    ·rw[(tL M hl).2]
     have:=pos (cF l) e
     unfold iI
     omega
  obtain⟨l,hl,hp,h1⟩:=big
  have:=Dk (WO us ((k:Int) - 1) s) (Jt _ _ _) (L:=H.filter λl=>decide (p∈l)) (Ĭ.mpr ⟨hl,decide_eq_true hp⟩)
  omega
theorem jq{n k:Nat}{us gs:List Tie}{H F:List (List Int)}{s:Str}(M:Mdl n k us gs H)(hs:s="in"\/s="out")(hF:F.Sublist H):zp n us ((k:Int) - 1) (.list (gs.map pD)) (.str s) (.list (F.map iD))↔((gs.length:Nat):Int)<=(F.map (WO us ((k:Int) - 1) s)).sum:=by
 constructor
 ·rintro⟨A,s',F',e1,e2,e3,z⟩
  cases e2
  rw[mZ e1,lJ e3]
  exact z.few
 ·intro h
  refine⟨gs,s,F,rfl,rfl,rfl,hs,M.gd,M.rise,⟨λl hl=>M.fam.1 l (hF.mem hl),?_⟩,h,λX hX=>by have:=M.st X hX;omega⟩
  have:∀{F H:List (List Int)},F.Sublist H->F.flatten.Sublist H.flatten:=λh=>by
   induction h with
   |slnil=>exact .slnil
   |cons a _ ih=>rw[ï];exact ih.trans (List.sublist_append_right _ _)
   |cons_cons a _ ih=>rw[ï,ï];exact(List.Sublist.refl _).append ih
  exact M.fam.2.sublist (this hF)
theorem Ek{n k:Nat}{us gs:List Tie}{H:List (List Int)}(k1:1<=k)(k2:k<=2)(M:Mdl n k us gs H):¬zp n us (1 - ((k:Int) - 1)) (.list (gs.map pD)) (.str "in") (.list (H.map iD)):=by
 rintro⟨A,s',F,e1,e2,e3,z⟩
 cases e2
 obtain rfl:=mZ e1
 obtain rfl:=lJ e3
 obtain⟨t,ht⟩:∃t,t∈gs:=by
  cases e:gs with
  |nil=>exact absurd e M.ne
  |cons t r=>exact⟨t,Í⟩
 obtain⟨l,hl,e⟩:=M.ent t ht
 have h1:1<=inN gs l:=List.length_pos_of_mem (Ĭ.mpr ⟨ht,e⟩)
 rcases(by omega:k=1\/k=2) with rfl|rfl
 ·have st:=z.st (mb l) (xU (M.fam.1 l hl))
  rw[wI] at st
  have e1:inN (us++gs) l=inN us l+inN gs l:=by unfold inN;rw[Ÿ,Å]
  have:=(M.ins l hl).1
  omega
 ·have few:=z.few
  have le:∀l∈H,WO us (1 - (((2:Nat):Int) - 1)) "in" l<=((inN gs l:Nat):Int)/\(1<=inN gs l->WO us (1 - (((2:Nat):Int) - 1)) "in" l+1<=((inN gs l:Nat):Int)):=λl hl=>by
   have:=(M.ins l hl).1
   unfold WO nd1 byS
   rw[if_pos rfl]
   constructor
   ·split <;> omega
   ·intro _
    split <;> omega
  have sm:∀L:List (List Int),(∀x∈L,x∈H)->(L.map (WO us (1 - (((2:Nat):Int) - 1)) "in")).sum<=(((L.map (inN gs)).sum:Nat):Int)/\(l∈L->(L.map (WO us (1 - (((2:Nat):Int) - 1)) "in")).sum+1<=(((L.map (inN gs)).sum:Nat):Int)):=λL=>by
   induction L with
   |nil=>exact λ_=>⟨by simp,λh=>nomatch h⟩
   |cons a L ih =>
    intro hL
    obtain⟨i1,i2⟩:=ih λx hx=>hL x (Î _ hx)
    obtain⟨l1,l2⟩:=le a (hL a Í)
    simp only[ê,ö,Int.natCast_add]
    refine⟨by omega,λh=>?_⟩
    rcases á.mp h with rfl|h
    ·have:=l2 h1;omega
    ·have:=i2 h;omega
  have:=(sm H λ_ h=>h).2 hl
  rw[M.all.1] at this
  omega
def fSR(ds:List D)(P:D->Prop):Prop:=∃(n k:Nat) (us gs:List Tie) (H:List (List Int)),ds=[aM ((n:Nat):Int) us,.int ((k:Int) - 1),.list (gs.map pD),.list (H.map iD)]/\1<=k/\k<=2/\us.length<=40/\Mdl n k us gs H/\P (.bool true)
section
variable {P:Program}{w:World}{K:Þ}{mg:Str->Option Value}{base:Heap}{f:Addr}{fd:FuncData}{CN P1 PT:Addr}
theorem d7:FnScope ["_law_web","_law_falls","_law_added_here","_law_family","_law_side","_law_other","_law_short","_law_enough","_law_told"] ["_law_web","_law_falls","_law_added_here","_law_family"] (aj (top 43)):=zC
theorem dz:(["_law_some","_law_web","_law_falls","_law_added_here","_law_family","_law_side","_law_other","_law_short","_law_enough","_law_told"]:List Str).Nodup:=by decide +kernel
theorem jK(F:Fun K "_law_sides_right" "_law_sides_right" (top 43) f fd)(B:ō mg)(m_sum:mg "sum"=none)(C__law_lack:ċ P w K mg base 1 "_law_lack" ["_law_web","_law_falls","_law_side","_law_some"] (spD fLk))(C_one_lets_by:ċ P w K mg base 11 "one_lets_by" ["one","falls","added","side","family"] (spD yQ)):FnOk P w K mg base CX0 12 f fd ["_law_web","_law_falls","_law_added_here","_law_family"] (spD fSR):=by
 refine F.ok d7 ĭ (λcdv A outer s H vs Q E hr h=>?_)
 have nd:=d7.nd
 refine⟨_,İ (Ü (Wr.cX ġ rfl (ę (Wr.mW ["_law_web","_law_falls","_law_added_here","_law_family","_law_side","_law_other","_law_short","_law_enough","_law_told"] (aj (top 43)) (.lst (.cons (.tup (.cons (.str "in") (.cons (.str "out") .nil))) (.cons (.tup (.cons (.str "out") (.cons (.str "in") .nil))) .nil))) (by decide +kernel))) (Wr.jM (n:=2) rfl (Ľ (î (i:=4) nd rfl zQ) (Ľ (î (i:=5) nd rfl zQ) Wr.gK))) (Ü (Wr.wR none ["_law_some"] (i:=6) rfl nd rfl zQ (ę (Ç 3)) (λc=>(î (i:=0) dz rfl zQ)) (λc=>(Wr.dN (Wr.p7 (Ų C__law_lack hr (À (Ç 1) (À (Ç 2) (À (Ç 5) (À (Ç 0) Â))))) à))) (λc=>(Ç 0)))
  (Ü (Ę none (i:=7) nd rfl zQ (Wr.Eh (Wr.jl rfl m_sum (À (Wr.cP ["_law_some"] rfl (ę (Ç 6)) (λc=>(î (i:=0) dz rfl zQ)) (λc=>ĺ) (λc=>(Ų C__law_lack hr (À (Ç 1) (À (Ç 2) (À (Ç 6) (À (Ç 0) Â))))))) Â)) (Ţ B.len (À (Ç 2) Â))))
  (Ü (ś (Wr.cV (Ų C_one_lets_by hr (À (Ç 0) (À (Ç 1) (À (Ç 2) (À (Ç 4) (À (Ç 6) Â)))))) Ń) (ú (Ē Ń)) ĝ)
  (Ü (Ę none (i:=8) nd rfl zQ (Ų C_one_lets_by hr (À (Ç 0) (À (Ç 1) (À (Ç 2) (À (Ç 5) (À (Ç 6) Â)))))))
  (Ü (ś (Wr.wpt (Wr.fC (Wr.bJ (Wr.bx (Wr.bQ wG B.isinstance (Ç 8) (Wr.wty rfl B.bool boot_bool)))) (Wr.dH (Wr.kE hr.units (Ç 8) (Ç 7))))) (ú (Ē Ń)) ĝ) (Ħ [4,5,6,7,8] ĝ)))))))
  (Ħ [4,5,6,7,8] (ú (Ē Ń)))),aX h ?_⟩
 rintro ds P ⟨n,k,us,gs,H,rfl,k1,k2,lu,M,q⟩
 refine⟨[.im (aM ((n:Nat):Int) us),.im (.int ((k:Int) - 1)),.sh (.list (gs.map pD)),.sh (.list (H.map iD)),.any,.any,.any,.any,.any],by show [aQ (aM _ us),_,_,_,.any,.any,.any,.any,.any]=_;rw[bR];rfl,?_⟩
 have n8:=M.n8
 have n2:=M.n2
 have lH:=M.lH
 have fA:rD (.list (gs.map pD)):=oh (by have:=M.len;rw[Á];omega)
 have fF:∀F:List (List Int),F.Sublist H->rC (.list (F.map iD)):=λF hF es e=>by
  cases e
  have:=hF.length_le
  refine⟨by rw[Á];omega,λe he=>?_⟩
  obtain⟨l,hl,rfl⟩:=ë.mp he
  intro es e
  cases e
  rw[Á]
  have:=(M.fam.1 l (hF.mem hl)).few
  omega
 refine⟨_,_,rfl,rfl,λ(i:Nat) ρ=>ρ=[.im (aM ((n:Nat):Int) us),.im (.int ((k:Int) - 1)),.sh (.list (gs.map pD)),.sh (.list (H.map iD)),.any,.any,.any,.any,.any],rfl,?_,?_⟩
 ·rintro i d ρ hd rfl
  obtain⟨s,o,rfl,hs,ho,oks,oko⟩:∃s o:Str,d=.tuple [.str s,.str o]/\(s="in"\/s="out")/\(o="in"\/o="out")/\okD (.str s)=true/\okD (.str o)=true:=by
   match i,hd with
   |0,hd=>exact⟨"in","out",(ã hd).symm,.inl rfl,.inr rfl,by decide +kernel,by decide +kernel⟩
   |1,hd=>exact⟨"out","in",(ã hd).symm,.inr rfl,.inl rfl,by decide +kernel,by decide +kernel⟩
  refine⟨rfl,Fz λs4 s5 e4 e5=>?_⟩
  have e4:s4=.im (.str s):=e4
  have e5:s5=.im (.str o):=e5
  subst e4 e5
  obtain⟨F,eF⟩:∃F,H.filter (λl=>decide (0<WO us ((k:Int) - 1) s l))=F:=⟨_,rfl⟩
  have sF:F.Sublist H:=by rw[←eF];exact List.filter_sublist
  have lF:=sF.length_le
  refine wF H iD (λl=>decide (0<WO us ((k:Int) - 1) s l)) iD .shr rfl (by omega) (λl hl A B hA hB=>⟨((n:Nat):Int),us,(k:Int) - 1,s,l,rfl,by omega,hs,?_⟩) ?_
  ·show if decide (0<WO us ((k:Int) - 1) s l)=true then _ else _
   cases c:decide (0<WO us ((k:Int) - 1) s l) with
   |true=>exact aL (B:=B) ⟨rfl,hA c⟩
   |false=>exact bF (A:=True) (hB c)
  rw[eF]
  refine uN F iD (λl=>.int (WO us ((k:Int) - 1) o l)) .imm rfl (by omega) (λl hl A B hA=>aL (B:=B) ⟨((n:Nat):Int),us,(k:Int) - 1,o,l,rfl,by omega,ho,rfl,hA⟩) ?_
  refine⟨F.map (WO us ((k:Int) - 1) o),by rw[ü];rfl,by rw[Á];omega,λx hx=>?_,?_⟩
  ·obtain⟨l,_,rfl⟩:=ë.mp hx
   exact CW (by omega) (by omega) o l
  refine⟨n,us,(k:Int) - 1,.list (gs.map pD),.str s,.list (F.map iD),rfl,by omega,n8,by omega,by omega,lu,M.hu,fA,fF F sF,λ_ _=>oks,λb hb=>?_⟩
  have b1:b=true:=hb.mpr ((jq M hs sF).mpr (by
   have:=zA (WO us ((k:Int) - 1) s) (Jt _ _ _) H
   rw[eF,jQ M hs] at this
   omega))
  subst b1
  refine bF (A:=True) ?_
  refine⟨n,us,(k:Int) - 1,.list (gs.map pD),.str o,.list (F.map iD),rfl,by omega,n8,by omega,by omega,lu,M.hu,fA,fF F sF,λ_ _=>oko,λb hb=>?_⟩
  have eb:b=decide ((((gs.map pD).length:Nat):Int)<=(F.map (WO us ((k:Int) - 1) o)).sum):=by
   rw[Ď,decide_eq_true_eq,Á]
   exact hb.trans (jq M ho sF)
  show eH _ _ _ [.im (aM ((n:Nat):Int) us),.im (.int ((k:Int) - 1)),.sh (.list (gs.map pD)),.sh (.list (H.map iD)),.im (.str s),.im (.str o),.sh (.list (F.map iD)),.im (.bool (decide ((((gs.map pD).length:Nat):Int)<=(F.map (WO us ((k:Int) - 1) o)).sum))),.im (.bool b)]
  rw[←eb]
  cases b <;> rfl
 ·rintro ρ rfl
  exact⟨rfl,q⟩
end
def fRt(ds:List D)(P:D->Prop):Prop:=∃k:Nat,ds=[.int ((k:Int) - 1)]/\1<=k/\k<=2/\P (.bool true)
def Way(n:Nat)(us:List Tie)(fa:Int)(d:D):Prop:=∃x s y,d=.tuple [x,s,y]/\rD x/\okS s/\rC y/\¬zp n us fa x s y
theorem norm_le{k s:Kd}{d:D}(h:k.le s=true):(norm k d).le s=true:=by
 by_cases c:bK d=true
 ·rw[ľ c];rfl
 ·rw[Ŀ c];exact h
theorem Ly{n k:Nat}{us gs:List Tie}{H:List (List Int)}(k2:k<=2)(M:Mdl n k us gs H):1<=gs.length/\gs.length<=20:=by
 have s1:∀L:List (List Int),(∀l∈L,l∈H)->(L.map (inN gs)).sum<=2 * L.length:=λL=>by
  induction L with
  |nil=>exact λ_=>Ë _
  |cons a L ih =>
   intro h
   have:=ih λl hl=>h l (Î _ hl)
   have:=(M.ins a (h a Í)).1
   rw[ê,ö,Ý]
   omega
 have:=s1 H λ_ h=>h
 rw[M.all.1] at this
 have:=M.lH
 have ne:=M.ne
 cases gs with
 |nil=>exact absurd rfl ne
 |cons t r=>exact⟨by simp,by omega⟩
theorem wJ{k:Kd}{d1 d2 d3:D}{ρ:List Sl}{Q:List Sl->Prop}{i j l:Nat}(h:∀s1 s2 s3,s1=jV (norm (norm k d1) d1) d1->s2=jV (norm (norm k d2) d2) d2->s3=jV (norm (norm k d3) d3) d3->Q (((ρ.set i s1).set j s2).set l s3)):fH (gNm i) (fH (gNm j) (fH (gNm l) wK)) k [d1,d2,d3] ρ Q:=h _ _ _ rfl rfl rfl
theorem pP{k:Kd}{d:D}(h:k=.shr\/bK d=true):jV (norm (norm k d) d) d=aQ d:=by
 unfold aQ
 by_cases c:bK d=true
 ·rw[ľ (k:=norm k d) c,if_pos c]
  rfl
 ·rw[Ŀ (k:=norm k d) c,Ŀ c,if_neg c]
  rcases h with rfl|h
  ·rfl
  ·exact absurd h c
section
variable [Gr]
def nZ:List D:=[.str "In",.str "",.str "inout",.str "ins",.none,.int 0,.bool true,.list [.str "in"],.tuple [.str "in"],.dict [],.str "i",.str "out "]
def Q8:D->Bool
 |.str s=>okD (.str s)
 |_=>true
theorem Lw:∀d∈nZ,okS d/\vK d=false:=by
 have h:(nZ.all λd=>Q8 d&&!vK d)=true:=by decide +kernel
 intro d hd
 have:=ø.mp h d hd
 rw[Ê,Bool.not_eq_true'] at this
 exact⟨λs e=>by rw[e] at this ⊢;exact this.1,this.2⟩
theorem Jb{d s e y:D}(h:bK (.tuple [d,s,e])=true)(hy:y∈[d,s,e]):bK y=true:=by
 have h:(bK d&&(bK s&&(bK e&&true)))=true:=h
 rw[Ê,Ê,Ê] at h
 rcases á.mp hy with rfl|hy
 ·exact h.1
 rcases á.mp hy with rfl|hy
 ·exact h.2.1
 rcases á.mp hy with rfl|hy
 ·exact h.2.2.1
 ·cases hy
theorem Hg{n k:Nat}{us gs:List Tie}{H:List (List Int)}{W3:List D}{P:D->Prop}{Y:List Sl->Prop}(k1:1<=k)(k2:k<=2)(M:Mdl n k us gs H)(fA:rD (.list (gs.map pD)))(fF:rC (.list (H.map iD)))(wW:∀w∈W3,Way n us ((k:Int) - 1) w)(lW:W3.length<=300)(q:P (.bool true)) :
 eH (wV 6 (dLC 1 (iSq (tV 7)) (gNm 0) (λx P=>P true) (pL (aF (tV 4) (aF (tV 0) (aF (tV 5) eN))))))
  (eH (dIf (fJ (t2 qH (tFn yQ (aF (tV 2) (aF (tV 1) (aF (tV 3) (aF (tK (.str "in")) (aF (tV 4) eN)))))) (tK (.bool true)))) (u0 (tK (.bool false))) sI)
  (Jp 6 (eH (M7 (iSq (tV 6)) (gTp 3 (fH (gNm 8) (fH (gNm 9) (fH (gNm 10) wK))))
    (eH (dIf (fJ (t2 qH (tFn yQ (aF (tV 2) (aF (tV 1) (aF (tV 8) (aF (tV 9) (aF (tV 10) eN)))))) (tK (.bool false)))) (u0 (tK (.bool false))) sI) (u5 [8,9,10] sI)))
   (u5 [8,9,10] (eH (dIf (fJ (t2 qH (tFn yQ (aF (tV 2) (aF (t2 (gI0 λi j=>Ã (i - j)) (tK (.int 1)) (tV 1)) (aF (tV 3) (aF (tK (.str "in")) (aF (tV 4) eN)))))) (tK (.bool false)))) (u0 (tK (.bool false))) sI)
    (u0 (vH (t2 FZ (tFn yQ (aF (tV 2) (aF (tV 1) (aF (tV 3) (aF (tK (.str "out")) (aF (tV 4) eN)))))) (tK (.bool true))) (tFn fSR (aF (tV 2) (aF (tV 1) (aF (tV 3) (aF (tV 4) eN))))))))))))
  { nx:=Y,rt:=P } [.pen CP,.im (.int ((k:Int) - 1)),.im (aM ((n:Nat):Int) us),.sn (.list (gs.map pD)),.sn (.list (H.map iD)),.im (.int ((n:Nat):Int)),.sp 0 false W3,.sn (.list nZ),.any,.any,.any]:=by
 have n8:=M.n8
 have n2:=M.n2
 have lH:=M.lH
 have lu:=M.len
 have f0:(0:Int)<=(k:Int) - 1:=by omega
 have f1:(k:Int) - 1<=1:=by omega
 have oin:okS (.str "in"):=λ_ _=>by decide +kernel
 have oout:okS (.str "out"):=λ_ _=>by decide +kernel
 refine⟨show 12<=1000 by decide,.shr,λi ys=>ys=(nZ.take i).map (λx=>.tuple [.list (gs.map pD),x,.list (H.map iD)]),rfl,λi d ys hd hy=>?_,λys hy=>?_⟩
 ·subst hy
  have eq:∀kd:Kd,kd.le .shr=true->jV (norm kd d) d=aQ d\/True:=λ_ _=>.inr trivial
  by_cases hi:bK d=true
  ·have en:∀k,norm k d=.imm:=λk=>ľ hi
   unfold gNm
   simp only[en]
   exact aL (B:=True) ⟨zK,norm_le rfl,(gG _ hd).symm⟩
  ·have en:∀k,norm k d=k:=λk=>Ŀ hi
   unfold gNm
   simp only[en]
   exact aL (B:=True) ⟨zK,norm_le rfl,(gG _ hd).symm⟩
 have hy:ys=(nZ.take 12).map (λx=>.tuple [.list (gs.map pD),x,.list (H.map iD)]):=hy
 obtain⟨W4,e4⟩:∃W4,W4=W3++ys:=⟨_,rfl⟩
 have w4:∀w∈W4,Way n us ((k:Int) - 1) w:=by
  rw[e4]
  intro w hw
  rcases Ð.mp hw with hw|hw
  ·exact wW w hw
  rw[hy] at hw
  obtain⟨x,hx,rfl⟩:=ë.mp hw
  have hx:=List.mem_of_mem_take hx
  obtain⟨o1,o2⟩:=Lw x hx
  exact⟨_,_,_,rfl,fA,o1,fF,λ⟨A,s,F,_,e,_,z⟩=>by rw[tU.mpr ⟨s,e,z.side⟩] at o2;cases o2⟩
 have ly:ys.length=12:=by rw[hy];rfl
 have l4:W4.length<=400:=by rw[e4,Å,ly];omega
 refine⟨rfl,by rw[ly];omega,?_⟩
 show eH _ _ _ [.pen CP,.im (.int ((k:Int) - 1)),.im (aM ((n:Nat):Int) us),.sn (.list (gs.map pD)),.sn (.list (H.map iD)),.im (.int ((n:Nat):Int)),.sp 0 false (W3++ys),.sn (.list nZ),.any,.any,.any]
 rw[←e4]
 clear hy ly e4 wW
 have sF:H.Sublist H:=List.Sublist.refl _
 refine⟨n,us,(k:Int) - 1,.list (gs.map pD),.str "in",.list (H.map iD),rfl,by omega,n8,f0,f1,by omega,M.hu,fA,fF,oin,λb hb=>?_⟩
 have b1:b=true:=hb.mpr ((jq M (.inl rfl) sF).mpr (by rw[jQ M (.inl rfl)];exact ÿ _))
 subst b1
 refine bF (A:=True) ?_
 refine⟨rfl,?_⟩
 show eH _ _ _ [.pen CP,.im (.int ((k:Int) - 1)),.im (aM ((n:Nat):Int) us),.sn (.list (gs.map pD)),.sn (.list (H.map iD)),.im (.int ((n:Nat):Int)),.sh (.list W4),.sn (.list nZ),.any,.any,.any]
 refine Jf W4 id (λρ=>ρ=[.pen CP,.im (.int ((k:Int) - 1)),.im (aM ((n:Nat):Int) us),.sn (.list (gs.map pD)),.sn (.list (H.map iD)),.im (.int ((n:Nat):Int)),.sh (.list W4),.sn (.list nZ),.any,.any,.any]) (List.map_id _).symm rfl rfl (λx hx ρ hρ=>?_) (λρ hρ=>?_)
 ·subst hρ
  obtain⟨d,s,e,rfl,fd,os,fe,no⟩:=w4 x hx
  show gTp 3 _ _ _ _ _
  refine⟨rfl,wJ λs1 s2 s3 e1 e2 e3=>?_⟩
  have ki:∀y∈[d,s,e],norm (elK .shr) (id (.tuple [d,s,e]))=.shr\/bK y=true:=λy hy=>by
   by_cases c:bK (.tuple [d,s,e])=true
   ·exact .inr (Jb c hy)
   ·exact .inl (Ŀ c)
  rw[pP (ki d Í)] at e1
  rw[pP (ki s (Î _ Í))] at e2
  rw[pP (ki e (Î _ (Î _ Í)))] at e3
  rcases cA d with ed|ed
  all_goals
   rw[ed] at e1
   rcases cA s with es|es
   all_goals
    rw[es] at e2
    rcases cA e with ee|ee
    all_goals
     rw[ee] at e3
     subst e1 e2 e3
     refine⟨n,us,(k:Int) - 1,d,s,e,rfl,by omega,n8,f0,f1,by omega,M.hu,fd,fe,os,λb hb=>?_⟩
     cases b with
     |true=>exact absurd (hb.mp rfl) no
     |false=>exact bF (A:=True) rfl
 ·subst hρ
  refine⟨n,us,1 - ((k:Int) - 1),.list (gs.map pD),.str "in",.list (H.map iD),rfl,by omega,n8,by omega,by omega,by omega,M.hu,fA,fF,oin,λb hb=>?_⟩
  cases b with
  |true=>exact absurd (hb.mp rfl) (Ek k1 k2 M)
  |false =>
  refine bF (A:=True) ?_
  refine⟨n,us,(k:Int) - 1,.list (gs.map pD),.str "out",.list (H.map iD),rfl,by omega,n8,f0,f1,by omega,M.hu,fA,fF,oout,λb hb=>?_⟩
  have b1:b=true:=hb.mpr ((jq M (.inr rfl) sF).mpr (by rw[jQ M (.inr rfl)];exact ÿ _))
  subst b1
  exact aL (B:=True) ⟨n,k,us,gs,H,rfl,k1,k2,by omega,M,rfl,q⟩
abbrev SLr(n k:Nat)(us gs:List Tie)(H:List (List Int))(x:Sl):List Sl:=[.pen CP,.im (.int ((k:Int) - 1)),.im (aM ((n:Nat):Int) us),.sn (.list (gs.map pD)),.sn (.list (H.map iD)),.im (.int ((n:Nat):Int)),x,.any,.any,.any,.any]
theorem QX{n k:Nat}{us gs:List Tie}{H:List (List Int)}{T:DS}{P:DEnds}(k1:1<=k)(k2:k<=2)(M:Mdl n k us gs H)(fF:rC (.list (H.map iD)))(q:∀W,(∀w∈W,Way n us ((k:Int) - 1) w)->W.length<=100->T P (SLr n k us gs H (.sp 0 false W))) :
  eH (Ay 6 0 false 1 (iSq (G5 CP M4 0 (aF (tV 5) (aF (tV 3) eN)))) (gNm 0) (λx P=>P true) (pL (aF (tV 0) (aF (tK (.str "in")) (aF (tV 5) eN))))) T P (SLr n k us gs H .any):=by
 have n8:=M.n8
 obtain⟨lg1,lg2⟩:=Ly k2 M
 have oin:okS (.str "in"):=λ_ _=>by decide +kernel
 refine⟨rfl,n,gs,rfl,n8,M.gd,M.rise,lg1,lg2,λL oL lL=>?_⟩
 refine⟨by omega,.shr,λi ys=>ys=(L.take i).map (λx=>.tuple [x,.str "in",.list (H.map iD)]),rfl,λi d ys hd hy=>?_,rfl,rfl,λys hy=>?_⟩
 ·subst hy
  by_cases hi:bK d=true
  ·have en:∀k,norm k d=.imm:=λk=>ľ hi
   unfold gNm
   simp only[en]
   exact aL (B:=True) ⟨zK,norm_le (norm_le rfl),(gG _ hd).symm⟩
  ·have en:∀k,norm k d=k:=λk=>Ŀ hi
   unfold gNm
   simp only[en]
   exact aL (B:=True) ⟨zK,norm_le (norm_le rfl),(gG _ hd).symm⟩
 have hy:ys=(L.take L.length).map (λx=>.tuple [x,.str "in",.list (H.map iD)]):=hy
 rw[û] at hy
 subst hy
 refine q _ (λw hw=>?_) (by rw[Á];exact lL)
 obtain⟨x,hx,rfl⟩:=ë.mp hw
 exact⟨x,_,_,rfl,(oL x hx).1,oin,fF,Ia k1 M (oL x hx)⟩
theorem Oq{n k:Nat}{us gs:List Tie}{H:List (List Int)}{W:List D}{T:DS}{P:DEnds}(k1:1<=k)(k2:k<=2)(M:Mdl n k us gs H)(fA:rD (.list (gs.map pD))){s:Str}{j:Int}(hs:(s="in"/\j=1)\/(s="out"/\j=0))(wW:∀w∈W,Way n us ((k:Int) - 1) w)(lW:W.length<=200)(q:∀W',(∀w∈W',Way n us ((k:Int) - 1) w)->W'.length<=W.length+100->T P (SLr n k us gs H (.sp 0 false W'))) :
  eH (wV 6 (dLC 1 (iSq (Jv CP MP 0 (aF (tV 5) (aF (tV 4) (aF (t2 gIx (t2 gIx (tV 3) (tK (.int 0))) (tK (.int j))) eN))))) (gNm 0) (λx P=>P true) (pL (aF (tV 4) (aF (tK (.str s)) (aF (tV 0) eN)))))) T P (SLr n k us gs H (.sp 0 false W)):=by
 have n8:=M.n8
 have n2:=M.n2
 have lH:=M.lH
 obtain⟨t0,r0,eg⟩:∃t r,gs=t::r:=by
  cases gs with
  |nil=>exact absurd rfl M.ne
  |cons t r=>exact⟨t,r,rfl⟩
 have mt0:t0∈gs:=by rw[eg];exact Í
 have at0:atI (gs.map pD) 0=some (pD t0):=by rw[eg];exact gP (j:=0) rfl
 obtain⟨p,ep,hp,lp,os⟩:∃p,atI ([.int t0.1,.int t0.2]:List D) j=some (.int p)/\((s="in"/\p=t0.2)\/(s="out"/\p=t0.1))/\(∃l∈H,p∈l)/\okS (.str s):=by
  rcases hs with ⟨rfl,rfl⟩|⟨rfl,rfl⟩
  ·refine⟨_,rfl,.inl ⟨rfl,rfl⟩,?_,λ_ _=>by decide +kernel⟩
   obtain⟨l,hl,e⟩:=M.ent t0 mt0
   unfold bV at e
   rw[Ê] at e
   exact⟨l,hl,of_decide_eq_true e.2⟩
  ·refine⟨_,rfl,.inr ⟨rfl,rfl⟩,?_,λ_ _=>by decide +kernel⟩
   obtain⟨l,hl,e⟩:=M.lev t0 mt0
   unfold cF at e
   rw[Ê] at e
   exact⟨l,hl,of_decide_eq_true e.1⟩
 refine⟨rfl,pD t0,at0,.int p,ep,rfl,n,H,p,rfl,by omega,n8,M.fam,lp,by omega,λL oL lL=>?_⟩
 refine⟨by omega,.shr,λi ys=>ys=(L.take i).map (λx=>.tuple [.list (gs.map pD),.str s,x]),rfl,λi d ys hd hy=>?_,λys hy=>?_⟩
 ·subst hy
  by_cases hi:bK d=true
  ·have en:∀k,norm k d=.imm:=λk=>ľ hi
   unfold gNm
   simp only[en]
   exact aL (B:=True) ⟨zK,norm_le (norm_le rfl),(gG _ hd).symm⟩
  ·have en:∀k,norm k d=k:=λk=>Ŀ hi
   unfold gNm
   simp only[en]
   exact aL (B:=True) ⟨zK,norm_le (norm_le rfl),(gG _ hd).symm⟩
 have hy:ys=(L.take L.length).map (λx=>.tuple [.list (gs.map pD),.str s,x]):=hy
 rw[û] at hy
 subst hy
 refine⟨rfl,by rw[Á];omega,q _ (λw hw=>?_) (by rw[Å,Á];omega)⟩
 rcases Ð.mp hw with hw|hw
 ·exact wW w hw
 obtain⟨x,hx,rfl⟩:=ë.mp hw
 exact⟨_,_,x,rfl,fA,os,(oL x hx).1,H9 k1 M mt0 hp (oL x hx)⟩
end
section
variable {P:Program}{w:World}{K:Þ}{mg:Str->Option Value}{base:Heap}{f:Addr}{fd:FuncData}{CN P1 PT:Addr}
theorem jY:FnScope ["_law_pen_here","_law_falls","_law_web","_law_added_here","_law_family","_law_n","_law_ways_bent","_law_odd","_law_some","_law_side","_law_sets"] ["_law_pen_here","_law_falls"] (aj (top 44)):=zC
theorem d8:(["_law_one_here","_law_pen_here","_law_falls","_law_web","_law_added_here","_law_family","_law_n","_law_ways_bent","_law_odd","_law_some","_law_side","_law_sets"]:List Str).Nodup:=by decide +kernel
theorem qy:(["_law_side","_law_pen_here","_law_falls","_law_web","_law_added_here","_law_family","_law_n","_law_ways_bent","_law_odd","_law_some","","_law_sets"]:List Str).Nodup:=by decide +kernel
theorem uE(F:Fun K "_law_right" "_law_right" (top 44) f fd)(B:ō mg)(C__law_model:ċ P w K mg base 4 "_law_model" ["_law_pen_here","_law_falls"] (spP CP Gg))(C__law_added:ċ P w K mg base 2 "_law_added" ["_law_pen_here","_law_n","_law_added_here"] (spP CP M4))(C__law_families:ċ P w K mg base 1 "_law_families" ["_law_pen_here","_law_n","_law_family","_law_place"] (Bh CP MP))(C_one_lets_by:ċ P w K mg base 11 "one_lets_by" ["one","falls","added","side","family"] (spD yQ))(C__law_sides_right:ċ P w K mg base 12 "_law_sides_right" ["_law_web","_law_falls","_law_added_here","_law_family"] (spD fSR)):FnOk P w K mg base CX0 13 f fd ["_law_pen_here","_law_falls"] (spP CP fRt):=by
 refine F.ok jY gH (λcdv A outer s H vs Q E hr h=>?_)
 have nd:=jY.nd
 refine⟨_,İ (Ü (Wr.uY (Wr.dcP C__law_model hr (ű 0) (À (Ç 1) Â)) (Wr.jM (n:=3) rfl (Ľ (î (i:=2) nd rfl zQ) (Ľ (î (i:=3) nd rfl zQ) (Ľ (î (i:=4) nd rfl zQ) Wr.gK)))))
  (Ü (Ę none (i:=5) nd rfl zQ (Ċ (Ç 2) à))
  (Ü (Wr.nD 0 false ["_law_one_here"] (i:=6) rfl nd rfl zQ (ę (Wr.dcP C__law_added hr (ű 0) (À (Ç 5) (À (Ç 3) Â)))) (λc=>(î (i:=0) d8 rfl zQ)) (λc=>ĺ) (λc=>(õ (À (Ç 0) (À Ś (À (Ç 5) Â))))))
  (Ü (Wr.lV (ű 6) (À (Wr.cP ["_law_one_here"] rfl (ę (Dl.Ql C__law_families hr (ű 0) (À (Ç 5) (À (Ç 4) (À (Ċ (Ċ (Ç 3) à) à) Â))))) (λc=>(î (i:=0) d8 rfl zQ)) (λc=>ĺ) (λc=>(õ (À (Ç 4) (À Ś (À (Ç 0) Â)))))) Â))
  (Ü (Wr.lV (ű 6) (À (Wr.cP ["_law_one_here"] rfl (ę (Dl.Ql C__law_families hr (ű 0) (À (Ç 5) (À (Ç 4) (À (Ċ (Ċ (Ç 3) à) à) Â))))) (λc=>(î (i:=0) d8 rfl zQ)) (λc=>ĺ) (λc=>(õ (À (Ç 4) (À Ś (À (Ç 0) Â)))))) Â))
  (Ü (Ę none (i:=7) nd rfl zQ (Wr.mW ["_law_pen_here","_law_falls","_law_web","_law_added_here","_law_family","_law_n","_law_ways_bent","_law_odd","_law_some","_law_side","_law_sets"] (aj (top 44)) (.lst (.cons (.str "In") (.cons (.str "") (.cons (.str "inout") (.cons (.str "ins") (.cons .non (.cons (.int 0) (.cons (.bl true) (.cons (.lst (.cons (.str "in") .nil)) (.cons (.tup (.cons (.str "in") .nil)) (.cons .dct (.cons (.str "i") (.cons (.str "out ") .nil))))))))))))) (by decide +kernel)))
  (Ü (Wr.lV (ű 6) (À (Wr.iG ["_law_side"] ["_law_pen_here","_law_falls","_law_web","_law_added_here","_law_family","_law_n","_law_ways_bent","_law_odd","_law_some","","_law_sets"] rfl (ę (Ç 7)) (λc=>(î (i:=0) qy rfl zQ)) (λc=>ĺ) (λc=>(õ (À (Ç 4) (À (Ç 0) (À (Ç 5) Â))))) (hk:=rfl)) Â))
  (Ü (ś (Wr.cV (Ų C_one_lets_by hr (À (Ç 2) (À (Ç 1) (À (Ç 3) (À Ś (À (Ç 4) Â)))))) Ń) (ú (Ē Ń)) ĝ)
  (Wr.jc 6 (Ü (Wr.cX ġ rfl (ę (Ç 6)) (Wr.jM (n:=3) rfl (Ľ (î (i:=8) nd rfl zQ) (Ľ (î (i:=9) nd rfl zQ) (Ľ (î (i:=10) nd rfl zQ) Wr.gK)))) (Ü (ś (Wr.cV (Ų C_one_lets_by hr (À (Ç 2) (À (Ç 1) (À (Ç 8) (À (Ç 9) (À (Ç 10) Â)))))) Ń) (ú (Ē Ń)) ĝ) (Ħ [8,9,10] ĝ)))
  (Ħ [8,9,10] (Ü (ś (Wr.cV (Ų C_one_lets_by hr (À (Ç 2) (À (Wr.gn à (Ç 1)) (À (Ç 3) (À Ś (À (Ç 4) Â)))))) Ń) (ú (Ē Ń)) ĝ)
  (ú (Ē (Wr.fG (Wr.yd (Ų C_one_lets_by hr (À (Ç 2) (À (Ç 1) (À (Ç 3) (À Ś (À (Ç 4) Â)))))) Ń) (Wr.gq (Ų C__law_sides_right hr (À (Ç 2) (À (Ç 1) (À (Ç 3) (À (Ç 4) Â))))))))))))))))))))),enterQ h ?_⟩
 rintro ds P ⟨k,rfl,k1,k2,q⟩
 refine⟨[.im (.int ((k:Int) - 1)),.any,.any,.any,.any,.any,.any,.any,.any,.any],rfl,?_⟩
 refine⟨rfl,k,rfl,k1,k2,λn us gs H M=>?_⟩
 have hneg:¬bK (.tuple [aM ((n:Nat):Int) us,.list (gs.map pD),.list (H.map iD)])=true:=by
  show ¬(bK (aM ((n:Nat):Int) us)&&false)=true
  rw[Bool.and_false]
  exact Æ
 refine⟨rfl,wJ λs1 s2 s3 e1 e2 e3=>?_⟩
 rw[ľ (k:=norm _ _) (pA ((n:Nat):Int) us)] at e1
 rw[Ŀ (k:=Kd.new) hneg,Ŀ hneg] at e2 e3
 subst e1 e2 e3
 have n8:=M.n8
 have n2:=M.n2
 have lH:=M.lH
 have lu:=M.len
 have fA:rD (.list (gs.map pD)):=oh (by rw[Á];omega)
 have fF:rC (.list (H.map iD)):=λes e=>by
  cases e
  refine⟨by rw[Á];omega,λe he=>?_⟩
  obtain⟨l,hl,rfl⟩:=ë.mp he
  intro es e
  cases e
  rw[Á]
  have:=(M.fam.1 l hl).few
  omega
 refine⟨.int ((n:Nat):Int),rfl,?_⟩
 refine QX k1 k2 M fF λW1 w1 l1=>?_
 refine Oq k1 k2 M fA (.inl ⟨rfl,rfl⟩) w1 (by omega) λW2 w2 l2=>?_
 refine Oq k1 k2 M fA (.inr ⟨rfl,rfl⟩) w2 (by omega) λW3 w3 l3=>?_
 exact⟨_,_,rfl,Hg k1 k2 M fA fF w3 (by omega) q⟩
end
section
variable {P:Program}{w:World}{K:Þ}{mg:Str->Option Value}{base:Heap}{f:Addr}{fd:FuncData}{CN P1 PT:Addr}
theorem Rd.keep{H H':Hp}{a:Addr}{u:HO}(h:Rd H a u)(k:∀o,H a=some o->H' a=some o):Rd H' a u:=h.imp (k _) λ⟨o,h⟩=>⟨o,k _ h⟩
theorem QS:FnScope ["_law_script"] ["_law_script"] (aj (top 45)):=zC
theorem Rb:(["_law_falls","_law_script"]:List Str).Nodup:=by decide +kernel
theorem Lk(F:Fun K "law" "law" (top 45) f fd)(B:ō mg)(PN:ċ P w K mg base 1 "_law_pen" ["_law_script","_law_k"] (Jx K))(RT:ċ P w K mg base 13 "_law_right" ["_law_pen_here","_law_falls"] (spP CP fRt)) :
  FnOk P w K mg base CX0 14 f fd ["_law_script"] (Dl.vJ K):=by
 refine F.ok QS (λvs H Q E h=>?_) (λcdv A outer s H vs Q E hr h=>?_)
 ·obtain⟨a,ns,rfl,_⟩:=h
  rfl
 obtain⟨sc,ns,rfl,hS,q⟩:=h
 refine⟨_,cZ (jH (cN (sW rfl) rfl B.all Dl.boot_all (Ŧ (JC ["_law_falls"] rfl (rP rfl B.range (Ŧ ħ cB)) (λc=>cg (i:=0) Rb rfl (ĵ rfl)) (λc=>zZ)
  (λc=>pcS RT hr (Ŧ (pcS PN hr (Ŧ (pv 1) (Ŧ (pv 0) cB)) (by decide) rfl (by decide) rfl rfl) (Ŧ (pv 0) cB)) (by decide) rfl (by decide) rfl rfl)) cB))),?_⟩
 refine⟨2,rfl,by decide,by decide,Mf (lo:=0) (k:=2) (by decide) (λi ys H'=>ys=Ì i (.bl true)/\(Rd H' sc (.lst (ns.map V.int))\/∀H',SqL K H' sc (ns.map V.int))) ⟨rfl,hS.imp id λh _=>.inr h⟩ ?_ ?_ ?_⟩
 ·rintro i ys H' ⟨rfl,_⟩
  rw[List.length_replicate]
  exact Ë _
 ·rintro c i ys H1 hi ⟨rfl,S1⟩
  refine aL (B:=True) ⟨_,rfl,_,rfl,sc,ns,0+(i:Int),rfl,by omega,by omega,S1.elim .inl λh=>h H1,λp H2 s2 hp pi=>?_⟩
  refine⟨_,rfl,OJ p,[.int (0+(i:Int))],[.int (0+(i:Int))],(λd=>d=.bool true),⟨p,rfl⟩,rfl,pi,.cons (.int _) .nil,⟨i+1,by rw[show((i+1:Nat):Int) - 1=0+(i:Int) by omega],by omega,by omega,rfl⟩,?_⟩
  rintro d v H6 rfl k6 pi6 rv6
  have e6:=rv6.bl'
  subst e6
  refine⟨by rw[List.replicate_succ'],S1.imp (λr=>?_) id⟩
  have r2:=Rd.keep r λo e=>s2 _ _ e
  refine Rd.keep r2 λo e=>k6 sc o e λz=>?_
  have z:sc=p:=z
  subst z
  rcases r with r|⟨o,r⟩
  ·rw[hp] at r;cases r
  ·rw[hp] at r;cases r
 ·rintro ys H1 ⟨rfl,_⟩ p hp
  exact⟨p,[true,true],rfl,SqL.of (by rw[aq];rfl),q _⟩
end
theorem len1{α:Type}:∀us:List α,us.length=1->∃a,us=[a]
 |[a],_=>⟨a,rfl⟩
theorem len2{α:Type}:∀us:List α,us.length=2->∃a b,us=[a,b]
 |[a,b],_=>⟨a,b,rfl⟩
theorem Rk{α:Type}:∀us:List α,us.length=3->∃a b c,us=[a,b,c]
 |[a,b,c],_=>⟨a,b,c,rfl⟩
theorem Fq{α:Type}:∀us:List α,us.length=4->∃a b c d,us=[a,b,c,d]
 |[a,b,c,d],_=>⟨a,b,c,d,rfl⟩
theorem Rj{α:Type}:∀us:List α,us.length=5->∃a b c d e,us=[a,b,c,d,e]
 |[a,b,c,d,e],_=>⟨a,b,c,d,e,rfl⟩
theorem aC{K:Þ}{f:Addr}{oc:Value}{od:Option Addr}{fd:FuncData}{sl:Array (Option Value)}(l:K.lookup f=some ⟨oc,od,.func fd,sl⟩):W.keepIn K (.ref f)=true:=by
 unfold W.keepIn
 simp only[l]
theorem aJ{P:Program}{w:World}{K:Þ}{mg:Str->Option Value}{base:Heap}{k:Nat}{x:Str}{st:Stmt}{f:Addr}{fd:FuncData}{ps:List Str}{sp:Sp}(F:Fun K x x st f fd)(b:Binds K fd ps [])(m:mg x=some (.ref f))(h:FnOk P w K mg base CX0 k f fd ps sp) :
  ċ P w K mg base k x ps sp:=⟨f,fd,h,b,F.kp,m⟩
abbrev zl(K:Þ)(f:Addr)(x:Str)(st:Stmt)(oc:Value)(od:Option Addr)(kV dc pm:Value)(an:Option Addr)(cd ct:Value)(sl:Array (Option Value)):Prop:=K.lookup f=some ⟨oc,od,.func (W.fnOf x x (jt st) (gM st) (aj st) .none kV dc pm an cd ct),sl⟩
abbrev za(K:Þ)(x:Str)(f:Addr):Prop:=W.nsIn K mainGlobals x=some (some (.ref f))
abbrev zc(K:Þ)(x:Str)(cd:Value):Prop:=W.codeIn K cd x=true
abbrev zn(K:Þ)(x:Str):Prop:=W.nsIn K mainGlobals x=some none
theorem all_mk{l:W.OpenLaw}{w:World}{K:Þ}{h:Heap}{mg:Str->Option Value}{fa f0 f1 f2 f3 f4 f5 f6 f7 f8 f9 f10 f11 f12 f13 f14 f15 f16 f17 f18 f19 f20 f21 f22 f23 f24 f25 f26 f27 f28 f29 f30 f31 f32 f33 f34:Addr}(X:K.In h)(G:h.Ns mainGlobals mg)(hfa:mg "law"=some (.ref fa)){od0 an0 od1 an1 od2 an2 od3 an3 od4 an4 od5 an5 od6 an6 od7 an7 od8 an8 od9 an9 od10 an10 od11 an11 od12 an12 od13 an13 od14 an14 od15 an15 od16 an16 od17 an17 od18 an18 od19 an19 od20 an20 od21 an21 od22 an22 od23 an23 od24 an24 od25 an25 od26 an26 od27 an27 od28 an28 od29 an29 od30 an30 od31 an31 od32 an32 od33 an33 od34 an34:Option Addr}{sl0 sl1 sl2 sl3 sl4 sl5 sl6 sl7 sl8 sl9 sl10 sl11 sl12 sl13 sl14 sl15 sl16 sl17 sl18 sl19 sl20 sl21 sl22 sl23 sl24 sl25 sl26 sl27 sl28 sl29 sl30 sl31 sl32 sl33 sl34:Array (Option Value)}{oc0 kV0 dc0 pm0 cd0 ct0 oc1 kV1 dc1 pm1 cd1 ct1 oc2 kV2 dc2 pm2 cd2 ct2 oc3 kV3 dc3 pm3 cd3 ct3 oc4 kV4 dc4 pm4 cd4 ct4 oc5 kV5 dc5 pm5 cd5 ct5 oc6 kV6 dc6 pm6 cd6 ct6 oc7 kV7 dc7 pm7 cd7 ct7 oc8 kV8 dc8 pm8 cd8 ct8 oc9 kV9 dc9 pm9 cd9 ct9 oc10 kV10 dc10 pm10 cd10 ct10 oc11 kV11 dc11 pm11 cd11 ct11 oc12 kV12 dc12 pm12 cd12 ct12 oc13 kV13 dc13 pm13 cd13 ct13 oc14 kV14 dc14 pm14 cd14 ct14 oc15 kV15 dc15 pm15 cd15 ct15 oc16 kV16 dc16 pm16 cd16 ct16 oc17 kV17 dc17 pm17 cd17 ct17 oc18 kV18 dc18 pm18 cd18 ct18 oc19 kV19 dc19 pm19 cd19 ct19 oc20 kV20 dc20 pm20 cd20 ct20 oc21 kV21 dc21 pm21 cd21 ct21 oc22 kV22 dc22 pm22 cd22 ct22 oc23 kV23 dc23 pm23 cd23 ct23 oc24 kV24 dc24 pm24 cd24 ct24 oc25 kV25 dc25 pm25 cd25 ct25 oc26 kV26 dc26 pm26 cd26 ct26 oc27 kV27 dc27 pm27 cd27 ct27 oc28 kV28 dc28 pm28 cd28 ct28 oc29 kV29 dc29 pm29 cd29 ct29 oc30 kV30 dc30 pm30 cd30 ct30 oc31 kV31 dc31 pm31 cd31 ct31 oc32 kV32 dc32 pm32 cd32 ct32 oc33 kV33 dc33 pm33 cd33 ct33 oc34 kV34 dc34 pm34 cd34 ct34:Value}(a0:za K "is_whole" f0)(l0:zl K f0 "is_whole" (top 4) oc0 od0 kV0 dc0 pm0 an0 cd0 ct0 sl0)(c0:zc K "is_whole" cd0)(a1:za K "is_below" f1)(l1:zl K f1 "is_below" (top 5) oc1 od1 kV1 dc1 pm1 an1 cd1 ct1 sl1)(c1:zc K "is_below" cd1)(a2:za K "is_tie" f2)(l2:zl K f2 "is_tie" (top 6) oc2 od2 kV2 dc2 pm2 an2 cd2 ct2 sl2)(c2:zc K "is_tie" cd2)(a3:za K "with_ties" f3)(l3:zl K f3 "with_ties" (top 7) oc3 od3 kV3 dc3 pm3 an3 cd3 ct3 sl3)(c3:zc K "with_ties" cd3)(a4:za K "hops" f4)(l4:zl K f4 "hops" (top 9) oc4 od4 kV4 dc4 pm4 an4 cd4 ct4 sl4)(c4:zc K "hops" cd4)(a5:za K "is_rising" f5)(l5:zl K f5 "is_rising" (top 11) oc5 od5 kV5 dc5 pm5 an5 cd5 ct5 sl5)(c5:zc K "is_rising" cd5)(a6:za K "is_proper_set" f6)(l6:zl K f6 "is_proper_set" (top 12) oc6 od6 kV6 dc6 pm6 an6 cd6 ct6 sl6)(c6:zc K "is_proper_set" cd6)(a7:za K "check_set" f7)(l7:zl K f7 "check_set" (top 13) oc7 od7 kV7 dc7 pm7 an7 cd7 ct7 sl7)(c7:zc K "check_set" cd7)(a8:za K "sets_below" f8)(l8:zl K f8 "sets_below" (top 14) oc8 od8 kV8 dc8 pm8 an8 cd8 ct8 sl8)(c8:zc K "sets_below" cd8)(a9:za K "proper_sets" f9)(l9:zl K f9 "proper_sets" (top 15) oc9 od9 kV9 dc9 pm9 an9 cd9 ct9 sl9)(c9:zc K "proper_sets" cd9)(a10:za K "leaves" f10)(l10:zl K f10 "leaves" (top 16) oc10 od10 kV10 dc10 pm10 an10 cd10 ct10 sl10)(c10:zc K "leaves" cd10)(a11:za K "ties_that_leave" f11)(l11:zl K f11 "ties_that_leave" (top 17) oc11 od11 kV11 dc11 pm11 an11 cd11 ct11 sl11)(c11:zc K "ties_that_leave" cd11)(a12:za K "is_family" f12)(l12:zl K f12 "is_family" (top 19) oc12 od12 kV12 dc12 pm12 an12 cd12 ct12 sl12)(c12:zc K "is_family" cd12)(a13:za K "check_family" f13)(l13:zl K f13 "check_family" (top 20) oc13 od13 kV13 dc13 pm13 an13 cd13 ct13 sl13)(c13:zc K "check_family" cd13)(a14:za K "are_leads" f14)(l14:zl K f14 "are_leads" (top 22) oc14 od14 kV14 dc14 pm14 an14 cd14 ct14 sl14)(c14:zc K "are_leads" cd14)(a15:za K "ins" f15)(l15:zl K f15 "ins" (top 24) oc15 od15 kV15 dc15 pm15 an15 cd15 ct15 sl15)(c15:zc K "ins" cd15)(a16:za K "outs" f16)(l16:zl K f16 "outs" (top 25) oc16 od16 kV16 dc16 pm16 an16 cd16 ct16 sl16)(c16:zc K "outs" cd16)(a17:za K "ties_by" f17)(l17:zl K f17 "ties_by" (top 26) oc17 od17 kV17 dc17 pm17 an17 cd17 ct17 sl17)(c17:zc K "ties_by" cd17)(a18:za K "one_need" f18)(l18:zl K f18 "one_need" (top 27) oc18 od18 kV18 dc18 pm18 an18 cd18 ct18 sl18)(c18:zc K "one_need" cd18)(a19:za K "one_bound" f19)(l19:zl K f19 "one_bound" (top 28) oc19 od19 kV19 dc19 pm19 an19 cd19 ct19 sl19)(c19:zc K "one_bound" cd19)(a20:za K "one_stands" f20)(l20:zl K f20 "one_stands" (top 30) oc20 od20 kV20 dc20 pm20 an20 cd20 ct20 sl20)(c20:zc K "one_stands" cd20)(a21:za K "is_side" f21)(l21:zl K f21 "is_side" (top 31) oc21 od21 kV21 dc21 pm21 an21 cd21 ct21 sl21)(c21:zc K "is_side" cd21)(a22:za K "one_lets_by" f22)(l22:zl K f22 "one_lets_by" (top 32) oc22 od22 kV22 dc22 pm22 an22 cd22 ct22 sl22)(c22:zc K "one_lets_by" cd22)(a23:za K "_law_pen" f23)(l23:zl K f23 "_law_pen" (top 34) oc23 od23 kV23 dc23 pm23 an23 cd23 ct23 sl23)(c23:zc K "_law_pen" cd23)(a24:za K "_law_draw" f24)(l24:zl K f24 "_law_draw" (top 35) oc24 od24 kV24 dc24 pm24 an24 cd24 ct24 sl24)(c24:zc K "_law_draw" cd24)(a25:za K "_law_order" f25)(l25:zl K f25 "_law_order" (top 36) oc25 od25 kV25 dc25 pm25 an25 cd25 ct25 sl25)(c25:zc K "_law_order" cd25)(a26:za K "_law_heaps" f26)(l26:zl K f26 "_law_heaps" (top 37) oc26 od26 kV26 dc26 pm26 an26 cd26 ct26 sl26)(c26:zc K "_law_heaps" cd26)(a27:za K "_law_one" f27)(l27:zl K f27 "_law_one" (top 38) oc27 od27 kV27 dc27 pm27 an27 cd27 ct27 sl27)(c27:zc K "_law_one" cd27)(a28:za K "_law_model" f28)(l28:zl K f28 "_law_model" (top 39) oc28 od28 kV28 dc28 pm28 an28 cd28 ct28 sl28)(c28:zc K "_law_model" cd28)(a29:za K "_law_added" f29)(l29:zl K f29 "_law_added" (top 40) oc29 od29 kV29 dc29 pm29 an29 cd29 ct29 sl29)(c29:zc K "_law_added" cd29)(a30:za K "_law_families" f30)(l30:zl K f30 "_law_families" (top 41) oc30 od30 kV30 dc30 pm30 an30 cd30 ct30 sl30)(c30:zc K "_law_families" cd30)(a31:za K "_law_lack" f31)(l31:zl K f31 "_law_lack" (top 42) oc31 od31 kV31 dc31 pm31 an31 cd31 ct31 sl31)(c31:zc K "_law_lack" cd31)(a32:za K "_law_sides_right" f32)(l32:zl K f32 "_law_sides_right" (top 43) oc32 od32 kV32 dc32 pm32 an32 cd32 ct32 sl32)(c32:zc K "_law_sides_right" cd32)(a33:za K "_law_right" f33)(l33:zl K f33 "_law_right" (top 44) oc33 od33 kV33 dc33 pm33 an33 cd33 ct33 sl33)(c33:zc K "_law_right" cd33)(a34:za K "law" f34)(l34:zl K f34 "law" (top 45) oc34 od34 kV34 dc34 pm34 an34 cd34 ct34 sl34)(c34:zc K "law" cd34)(z0:zn K "isinstance")(z1:zn K "int")(z2:zn K "bool")(z3:zn K "tuple")(z4:zn K "list")(z5:zn K "len")(z6:zn K "all")(z7:zn K "min")(z8:zn K "max")(z9:zn K "sorted")(z10:zn K "range")(z11:zn K "abs")(z12:zn K "zip")(z13:zn K "set")(z14:zn K "sum")(z15:zn K "str")
  :
  ∃fd:FuncData,(∀(s:Shared) (v:Value),BindsTo s fd ⟨[v],[]⟩ [("_law_script",v)])/\∀base:Heap,K.In base->base.Ns mainGlobals mg->FnOk l.prog w K mg base CX0 14 fa fd ["_law_script"] (vJ K):=by
 have e:=hfa.symm.trans (Đ X G a34)
 cases e
 have F0:=Ģ (st:=top 4) l0 c0 (aC l0)
 have b0:=F0.binds (ps:=["thing"])
 have m0:=Đ X G a0
 have F1:=Ģ (st:=top 5) l1 c1 (aC l1)
 have b1:=F1.binds (ps:=["limit","thing"])
 have m1:=Đ X G a1
 have F2:=Ģ (st:=top 6) l2 c2 (aC l2)
 have b2:=F2.binds (ps:=["n","thing"])
 have m2:=Đ X G a2
 have F3:=Ģ (st:=top 7) l3 c3 (aC l3)
 have b3:=F3.binds (ps:=["web","added"])
 have m3:=Đ X G a3
 have F4:=Ģ (st:=top 9) l4 c4 (aC l4)
 have b4:=F4.binds (ps:=["places"])
 have m4:=Đ X G a4
 have F5:=Ģ (st:=top 11) l5 c5 (aC l5)
 have b5:=F5.binds (ps:=["limit","thing"])
 have m5:=Đ X G a5
 have F6:=Ģ (st:=top 12) l6 c6 (aC l6)
 have b6:=F6.binds (ps:=["n","thing"])
 have m6:=Đ X G a6
 have F7:=Ģ (st:=top 13) l7 c7 (aC l7)
 have b7:=F7.binds (ps:=["web","thing"])
 have m7:=Đ X G a7
 have F8:=Ģ (st:=top 14) l8 c8 (aC l8)
 have b8:=F8.binds (ps:=["count"])
 have m8:=Đ X G a8
 have F9:=Ģ (st:=top 15) l9 c9 (aC l9)
 have b9:=F9.binds (ps:=["n"])
 have m9:=Đ X G a9
 have F10:=Ģ (st:=top 16) l10 c10 (aC l10)
 have b10:=F10.binds (ps:=["tie","some"])
 have m10:=Đ X G a10
 have F11:=Ģ (st:=top 17) l11 c11 (aC l11)
 have b11:=F11.binds (ps:=["web","some"])
 have m11:=Đ X G a11
 have F12:=Ģ (st:=top 19) l12 c12 (aC l12)
 have b12:=F12.binds (ps:=["n","thing"])
 have m12:=Đ X G a12
 have F13:=Ģ (st:=top 20) l13 c13 (aC l13)
 have b13:=F13.binds (ps:=["web","thing"])
 have m13:=Đ X G a13
 have F14:=Ģ (st:=top 22) l14 c14 (aC l14)
 have b14:=F14.binds (ps:=["web","thing"])
 have m14:=Đ X G a14
 have F15:=Ģ (st:=top 24) l15 c15 (aC l15)
 have b15:=F15.binds (ps:=["one","some"])
 have m15:=Đ X G a15
 have F16:=Ģ (st:=top 25) l16 c16 (aC l16)
 have b16:=F16.binds (ps:=["one","some"])
 have m16:=Đ X G a16
 have F17:=Ģ (st:=top 26) l17 c17 (aC l17)
 have b17:=F17.binds (ps:=["one","side","some"])
 have m17:=Đ X G a17
 have F18:=Ģ (st:=top 27) l18 c18 (aC l18)
 have b18:=F18.binds (ps:=["one","falls","side","some"]) λ_ _ _ _ _ _ us hl=>by obtain⟨_,_,_,_,rfl⟩:=Fq us hl;rfl
 have m18:=Đ X G a18
 have F19:=Ģ (st:=top 28) l19 c19 (aC l19)
 have b19:=F19.binds (ps:=["one","falls","side","family"]) λ_ _ _ _ _ _ us hl=>by obtain⟨_,_,_,_,rfl⟩:=Fq us hl;rfl
 have m19:=Đ X G a19
 have F20:=Ģ (st:=top 30) l20 c20 (aC l20)
 have b20:=F20.binds (ps:=["one","falls"])
 have m20:=Đ X G a20
 have F21:=Ģ (st:=top 31) l21 c21 (aC l21)
 have b21:=F21.binds (ps:=["thing"])
 have m21:=Đ X G a21
 have F22:=Ģ (st:=top 32) l22 c22 (aC l22)
 have b22:=F22.binds (ps:=["one","falls","added","side","family"]) λ_ _ _ _ _ _ us hl=>by obtain⟨_,_,_,_,_,rfl⟩:=Rj us hl;rfl
 have m22:=Đ X G a22
 have F23:=Ģ (st:=top 34) l23 c23 (aC l23)
 have b23:=F23.binds (ps:=["_law_script","_law_k"])
 have m23:=Đ X G a23
 have F24:=Ģ (st:=top 35) l24 c24 (aC l24)
 have b24:=F24.binds (ps:=["_law_pen_here","_law_many"])
 have m24:=Đ X G a24
 have F25:=Ģ (st:=top 36) l25 c25 (aC l25)
 have b25:=F25.binds (ps:=["_law_pen_here","_law_n"])
 have m25:=Đ X G a25
 have F26:=Ģ (st:=top 37) l26 c26 (aC l26)
 have b26:=F26.binds (ps:=["_law_pen_here"])
 have m26:=Đ X G a26
 have F27:=Ģ (st:=top 38) l27 c27 (aC l27)
 have b27:=F27.binds (ps:=["_law_pen_here","_law_some"])
 have m27:=Đ X G a27
 have F28:=Ģ (st:=top 39) l28 c28 (aC l28)
 have b28:=F28.binds (ps:=["_law_pen_here","_law_falls"])
 have m28:=Đ X G a28
 have F29:=Ģ (st:=top 40) l29 c29 (aC l29)
 have b29:=F29.binds (ps:=["_law_pen_here","_law_n","_law_added_here"])
 have m29:=Đ X G a29
 have F30:=Ģ (st:=top 41) l30 c30 (aC l30)
 have b30:=F30.binds (ps:=["_law_pen_here","_law_n","_law_family","_law_place"]) λ_ _ _ _ _ _ us hl=>by obtain⟨_,_,_,_,rfl⟩:=Fq us hl;rfl
 have m30:=Đ X G a30
 have F31:=Ģ (st:=top 42) l31 c31 (aC l31)
 have b31:=F31.binds (ps:=["_law_web","_law_falls","_law_side","_law_some"]) λ_ _ _ _ _ _ us hl=>by obtain⟨_,_,_,_,rfl⟩:=Fq us hl;rfl
 have m31:=Đ X G a31
 have F32:=Ģ (st:=top 43) l32 c32 (aC l32)
 have b32:=F32.binds (ps:=["_law_web","_law_falls","_law_added_here","_law_family"]) λ_ _ _ _ _ _ us hl=>by obtain⟨_,_,_,_,rfl⟩:=Fq us hl;rfl
 have m32:=Đ X G a32
 have F33:=Ģ (st:=top 44) l33 c33 (aC l33)
 have b33:=F33.binds (ps:=["_law_pen_here","_law_falls"])
 have m33:=Đ X G a33
 have F34:=Ģ (st:=top 45) l34 c34 (aC l34)
 have B:ō mg:=⟨Ĝ X G z0,Ĝ X G z1,Ĝ X G z2,Ĝ X G z3,Ĝ X G z4,Ĝ X G z5,Ĝ X G z6,Ĝ X G z7,Ĝ X G z8,Ĝ X G z9,Ĝ X G z10,Ĝ X G z11⟩
 have N12:=Ĝ X G z12
 have N13:=Ĝ X G z13
 have N14:=Ĝ X G z14
 have N15:=Ĝ X G z15
 refine⟨W.fnOf "law" "law" (jt (top 45)) (gM (top 45)) (aj (top 45)) .none kV34 dc34 pm34 an34 cd34 ct34,λs v=>.of_eq rfl,λbase _ _=>?_⟩
 have C0:=aJ F0 b0 m0 (Et (P:=l.prog) (w:=w) (base:=base) F0 B)
 have C1:=aJ F1 b1 m1 (Ew (P:=l.prog) (w:=w) (base:=base) F1 C0)
 have C2:=aJ F2 b2 m2 (Bw (P:=l.prog) (w:=w) (base:=base) F2 B C1)
 have C3:=aJ F3 b3 m3 (uz (P:=l.prog) (w:=w) (base:=base) F3 B)
 have C4:=aJ F4 b4 m4 (HW (P:=l.prog) (w:=w) (base:=base) F4 B N12)
 have C5:=aJ F5 b5 m5 (Bt (P:=l.prog) (w:=w) (base:=base) F5 B C1 C4)
 have C6:=aJ F6 b6 m6 (Bu (P:=l.prog) (w:=w) (base:=base) F6 B C5)
 have C7:=aJ F7 b7 m7 (wj (P:=l.prog) (w:=w) (base:=base) F7 C6)
 have C8:=aJ F8 b8 m8 (Pa (P:=l.prog) (w:=w) (base:=base) F8 B)
 have C9:=aJ F9 b9 m9 (qj (P:=l.prog) (w:=w) (base:=base) F9 B C8)
 have C10:=aJ F10 b10 m10 (Bv (P:=l.prog) (w:=w) (base:=base) F10 )
 have C11:=aJ F11 b11 m11 (Li (P:=l.prog) (w:=w) (base:=base) F11 C7 C10)
 have C12:=aJ F12 b12 m12 (Lp (P:=l.prog) (w:=w) (base:=base) F12 B N13 C6)
 have C13:=aJ F13 b13 m13 (oF (P:=l.prog) (w:=w) (base:=base) F13 B C12)
 have C14:=aJ F14 b14 m14 (uI (P:=l.prog) (w:=w) (base:=base) F14 B C2)
 have C15:=aJ F15 b15 m15 (Ln (P:=l.prog) (w:=w) (base:=base) F15 B C11)
 have C16:=aJ F16 b16 m16 (HS (P:=l.prog) (w:=w) (base:=base) F16 B C11)
 have C17:=aJ F17 b17 m17 (O9 (P:=l.prog) (w:=w) (base:=base) F17 C15 C16)
 have C18:=aJ F18 b18 m18 (Pb (P:=l.prog) (w:=w) (base:=base) F18 B C17)
 have C19:=aJ F19 b19 m19 (uD (P:=l.prog) (w:=w) (base:=base) F19 B N14 C13 C18)
 have C20:=aJ F20 b20 m20 (qX (P:=l.prog) (w:=w) (base:=base) F20 B C9 C18)
 have C21:=aJ F21 b21 m21 (yq (P:=l.prog) (w:=w) (base:=base) F21 B N15)
 have C22:=aJ F22 b22 m22 (ql (P:=l.prog) (w:=w) (base:=base) F22 B C12 C21 C14 C20 C3 C19)
 have C23:=aJ F23 b23 m23 (Lj (P:=l.prog) (w:=w) (base:=base) F23 B)
 have C24:=aJ F24 b24 m24 (HX (P:=l.prog) (w:=w) (base:=base) F24 B)
 have C25:=aJ F25 b25 m25 (Eu (P:=l.prog) (w:=w) (base:=base) F25 B C24)
 have C26:=aJ F26 b26 m26 (uG (P:=l.prog) (w:=w) (base:=base) F26 B N14 C24 C25)
 have C27:=aJ F27 b27 m27 (yp (P:=l.prog) (w:=w) (base:=base) F27 B C24)
 have C28:=aJ F28 b28 m28 (uF (P:=l.prog) (w:=w) (base:=base) F28 B N14 C26 C27 C24)
 have C29:=aJ F29 b29 m29 (uH (P:=l.prog) (w:=w) (base:=base) F29 B N15 C24)
 have C30:=aJ F30 b30 m30 (oE (P:=l.prog) (w:=w) (base:=base) F30 B N15)
 have C31:=aJ F31 b31 m31 (wg (P:=l.prog) (w:=w) (base:=base) F31 B)
 have C32:=aJ F32 b32 m32 (jK (P:=l.prog) (w:=w) (base:=base) F32 B N14 C31 C22)
 have C33:=aJ F33 b33 m33 (uE (P:=l.prog) (w:=w) (base:=base) F33 B C28 C29 C30 C22 C32)
 exact Lk F34 B C23 C33
theorem walk{l:W.OpenLaw}{q:Program}{loose:List Str}{XP:(Str->Option Value)->Heap->Prop}{YP:World->Heap->Prop}{d:DefRec}{K:Params->Þ}(hn:l.most=some 63)(hdf:d.params.defaults=[])(hY:∀(w:World) (h:Heap),YP w h->(K w.params).In h)(F:∀(w:World) (mg:Str->Option Value) (fa:Addr) (h:Heap),(K w.params).In h->h.Ns mainGlobals mg->mg d.name=some (.ref fa) ->
   ∃fd:FuncData,(∀(s:Shared) (u:Value),BindsTo s fd ⟨[u],[]⟩ [("_law_script",u)])/\∀base:Heap,(K w.params).In base->base.Ns mainGlobals mg->FnOk l.prog w (K w.params) mg base CX0 14 fa fd ["_law_script"] (vJ (K w.params))) :
  W.WalkO q loose XP YP l.row.toRowW d [] (λf vs=>PySem.call f vs) :=
 L2.GQ (n:=63) (k:=14) (x:="_law_script") (CX:=λ_=>CX0) (sp:=λw=>vJ (K w.params)) hn (by decide) hdf ⟨rfl,by decide,by decide,rfl⟩ hY F (λ_ _ a ns hl hO hS=>⟨a,ns,rfl,hS,λ_=>rfl⟩) λ_ _ _ _ _ z=>z
end Nf
namespace Nf
open PySem PySem.W PyProof.Rows
def rZ:List Nat:=[1,2,4,5,6,7,9,11,12,13,14,15,16,17,19,20,22,24,25,26,27,28,30,31,32,34,35,36,37,38,39,40,41,42,43,44,45]
def wB(p:Program)(w:World)(os:OsState):=(Bm p 3096 w os).map (λs=>Dq p (view p rZ) (λs=>xlAt (view p rZ) [] s&&recOk [] s) w s.abs)
def goodW(p:Program):=some (true,openGood (view p rZ) [])
def frF(fr:Frag)(k:Nat):=some ((fr.map λp=>some p.2).take k)
def frB(fr:Frag)(k:Nat):=some ((fr.map λp=>some p.2).drop k)
def qJ(p:Program)(w:World)(os:OsState)(as:List Addr)(k:Nat):=(Bm p 3096 w os).map (λs=>(as.map s.abs.heap.get?).take k)
def xr(p:Program)(w:World)(os:OsState)(as:List Addr)(k:Nat):=(Bm p 3096 w os).map (λs=>(as.map s.abs.heap.get?).drop k)
theorem yF:wB=wB:=rfl
theorem yJ:goodW=goodW:=rfl
theorem wM:qJ=qJ:=rfl
theorem yZ:xr=xr:=rfl
end Nf
lay_quick Nf.wB Nf.goodW Nf.qJ Nf.xr
name_quick lookQ for Nf.wB by Nf.yF
name_quick goodQ for Nf.goodW by Nf.yJ
name_quick frontQ for Nf.qJ by Nf.wM
name_quick backQ for Nf.xr by Nf.yZ
set_option maxHeartbeats 0 in
theorem Nf.Ih(w:PySem.World)(os:PySem.OsState):Nf.wB ð w os=Nf.goodW ð:=by
 rw[PySem.W.Fast.lookQ_eq,PySem.W.Fast.goodQ_eq]
 kernel_rfl
theorem Nf.well:PySem.Challenge.rw_nofall_k53_ways_not_let_by.wellSaid=true:=by kernel_rfl
open PySem PySem.W PyProof.Rows
local macro_rules
 |`(tactic| k_qdec)=>`(tactic| fail)
local macro_rules
 |`(tactic| o_head (kmHook $k $a $e $t))=>`(tactic| o_head (kHook (λP=>List.append (List.map (λa=>(a,PySem.W.tabObj #[])) $t) ($k P)) (List.append $t $a) (λ_=>by kernel_rfl)))
local macro_rules
 |`(tactic| o_head (kHook $k $a $e))=>`(tactic| (
  refine holds_open (q:=view ð Nf.rZ) (loose:=[]) (Xt:=λs=>xlAt (view ð Nf.rZ) [] s&&recOk [] s) (XP:=XL (view ð Nf.rZ) []) (Yf:=Hook.obs (kHook $k $a $e)) (Ya:=Hook.val (kHook $k $a $e)) (YP:=Hook.says (kHook $k $a $e)) (N:=3096) ?hl (Hook.of (kHook $k $a $e)) (Hook.keeps (kHook $k $a $e)) (λs e=>xl_of s (Bool.and_eq_true_iff.mp e).1) XL.keeps (by rfl) (by rfl) (by rfl) (λs e=>recFacts_of (Bool.and_eq_true_iff.mp e).2) (by rfl) (by first|assumption|decide +kernel) (by decide +kernel) ⟨rfl,rfl,rfl,rfl,rfl,by decide +kernel⟩ ?hw ?hc))
set_option maxRecDepth 100000 in
set_option maxHeartbeats 0 in
theorem PySem.Challenge.cw_nofall_k53_ways_not_let_by_holds : PySem.Challenge.rw_nofall_k53_ways_not_let_by.Holds := by
 w_on;refine PySem.W.holds_law Nf.well λsaid=>?_;k_head
 ·refine Nf.Im 90 (boot_open (by kernel_rfl) rfl (λs=>by kernel_rfl)) Nf.Ih (λw os=>?_) (λw os=>?_)
  ·show Nf.qJ ð w os _ 90=Nf.frF _ 90
   rw[PySem.W.Fast.frontQ_eq]
   kernel_rfl
  ·show Nf.xr ð w os _ 90=Nf.frB _ 90
   rw[PySem.W.Fast.backQ_eq]
   kernel_rfl
 ·w_witness2
 k_fill
 refine Nf.walk (l:=PySem.Challenge.rw_nofall_k53_ways_not_let_by) rfl rfl (λw h Y=>PySem.W.kIn_of Y) ?F
 case F =>
  intro w mg fa h KX G hmg
  refine' Nf.all_mk KX G hmg ?a0 ?l0 ?c0 ?a1 ?l1 ?c1 ?a2 ?l2 ?c2 ?a3 ?l3 ?c3 ?a4 ?l4 ?c4 ?a5 ?l5 ?c5 ?a6 ?l6 ?c6 ?a7 ?l7 ?c7 ?a8 ?l8 ?c8 ?a9 ?l9 ?c9 ?a10 ?l10 ?c10 ?a11 ?l11 ?c11 ?a12 ?l12 ?c12 ?a13 ?l13 ?c13 ?a14 ?l14 ?c14 ?a15 ?l15 ?c15 ?a16 ?l16 ?c16 ?a17 ?l17 ?c17 ?a18 ?l18 ?c18 ?a19 ?l19 ?c19 ?a20 ?l20 ?c20 ?a21 ?l21 ?c21 ?a22 ?l22 ?c22 ?a23 ?l23 ?c23 ?a24 ?l24 ?c24 ?a25 ?l25 ?c25 ?a26 ?l26 ?c26 ?a27 ?l27 ?c27 ?a28 ?l28 ?c28 ?a29 ?l29 ?c29 ?a30 ?l30 ?c30 ?a31 ?l31 ?c31 ?a32 ?l32 ?c32 ?a33 ?l33 ?c33 ?a34 ?l34 ?c34 ?z0 ?z1 ?z2 ?z3 ?z4 ?z5 ?z6 ?z7 ?z8 ?z9 ?z10 ?z11 ?z12 ?z13 ?z14 ?z15
  any_goals (show _=_;k_is)
  all_goals rfl
end
